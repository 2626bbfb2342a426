import PyProof.Rows.All
import Wide.All
import OpenK.AllK
import Wide.FinOn
import Lean
import PyProof.EqAt
import PyProof.EqKinds
import PyProof.TupleCall
import KE.KTryMore
import PyProof.ExcAttrAll.ValueError
import KE.KRevIter
import PyProof.SetNew
import PyProof.SetRoads
import PyProof.Rows.SetObj
import PyProof.DictCompW
import PyProof.DictItems
import PyProof.Rows.SetFrom
import PyProof.ListRange
import PyProof.Rows.Range3
import KE.IntBitsLaws
import PyProof.AttrMissHeap
import PyProof.FactsAll.bool_1
import KE.KDictOf
import PyProof.DictRoadsH
import PyProof.WalkInts
import PyProof.NeData
import KE.RegKIsAll
import KE.RegKTryMore
import PySem.Challenge.RW_callbinds_k43_values_by_the_paper
set_option Elab.async false
set_option linter.all false
set_option maxRecDepth 100000
set_option maxHeartbeats 4000000
open Nat (lt_of_lt_of_le lt_irrefl ne_of_lt le_trans le_of_lt le_refl zero_le lt_succ_self le_succ lt_succ_of_lt le_succ_of_le lt_of_sub_eq_succ le_add_right sub_zero sub_self)
open List (filterMap_cons mem_cons_self mem_cons_of_mem mem_append_left getElem?_set_self getElem?_set_ne mem_append_right size_toArray length_cons map_cons length_map append_nil of_mem_zip length_take getElem?_map mem_of_getElem? length_append all_cons any_cons length_singleton find?_cons cons_append length_nil map_nil lookup_cons length_set getElem?_eq_getElem getD_eq_getElem?_getD all_eq_true getElem_mem take_of_length_le map_map take_add_one map_append take_succ_eq_append_getElem filter_append length_filter_le take_length mem_append flatten_append nil_append append_assoc length_range range_succ contains_cons lookup_cons_self getElem?_range filter_cons nodup_nil mem_cons not_mem_nil take_zero map_take)
open Int (toNat_natCast eq_ofNat_of_zero_le emod_nonneg emod_lt_of_pos)
open Option (getD_none map_some isSome_map)
open PySem.W (instObj methodObj hideAll hideAll_none lookIn plainGet plainGet_of plainOver takerIn makesIn emptyDict makes_of kitOne kia_one callWith_K methodCall_KW callWith_K0 cellsFrom_some fnOf codeIn KeysLit nsIn exmOne mg_of Frag findIn specialIn keepIn isFn hasDictIn clsIn mroIn instIn Looks)
local macro_rules|`(tactic|exists $xs,*)=>`(tactic|refine ⟨$xs,*⟩)
namespace L2
open PySem PySem.Spec PyProof.Rows
theorem zp2:(0:Int)<2:=by decide
theorem zp4:(0:Int)<4:=by decide
abbrev PnL:=List (Addr×Obj)
abbrev VSP:=Value->Shared->Prop
theorem wj : 0<=sizeLine:=by decide
theorem zav : 1<=sizeLine:=by decide
theorem yN : 2<=sizeLine:=by decide
theorem vq : 3<=sizeLine:=by decide
theorem zkx : 4<=sizeLine:=by decide
abbrev zwb:=@wpAny_bind
abbrev zwp:=@wpAny_pure
abbrev zft:=@Bool.false_ne_true
abbrev zgp:=@Heap.get?_push_of_some
abbrev zgs:=@Heap.get?_push_size
abbrev Key:=Sum Int Str
def qb:Key->Value->Bool
 | .inl k,v=>Value.isInt k v
 | .inr x,v=>Value.isStrOf x v
def zmf(w:World):Key->Int
 | .inl k=>hashInt k
 | .inr x=>hashStr w x
theorem yw:∀{k:Key}{v:Value},qb k v=true->(∃i t,k=Sum.inl i/\v=Value.int i t)\/(∃x t,k=Sum.inr x/\v=Value.str x t)
 | .inl i,v,h=>by
  obtain⟨t,e⟩:=Value.isInt_shape (k:=i) (v:=v) h;exact .inl ⟨i,t,rfl,e⟩
 | .inr x,v,h=>by
  obtain⟨t,e⟩:=Value.isStrOf_shape (x:=x) (v:=v) h;exact .inr ⟨x,t,rfl,e⟩
theorem zd5(i:Int)(t:Tok):qb (.inl i) (.int i t)=true:=by simp [qb,Value.isInt]
theorem zd4(x:Str)(t:Tok):qb (.inr x) (.str x t)=true:=by simp [qb,Value.isStrOf]
theorem zjS(a b:Int):decide ((Sum.inl a:Key)=Sum.inl b)=(a==b):=by
 by_cases e:a=b
 ·subst e;simp
 ·have h:¬(Sum.inl a:Key)=Sum.inl b:=fun q=>e (Sum.inl.inj q)
  rw[decide_eq_false h];exact(beq_eq_false_iff_ne.mpr e).symm
theorem zgh(a b:Str):decide ((Sum.inr a:Key)=Sum.inr b)=decide (a=b):=by
 by_cases e:a=b
 ·subst e;simp
 ·have h:¬(Sum.inr a:Key)=Sum.inr b:=fun q=>e (Sum.inr.inj q)
  rw[decide_eq_false h,decide_eq_false e]
theorem zjR(a:Int)(b:Str):decide ((Sum.inl a:Key)=Sum.inr b)=false:=decide_eq_false (fun q=>nomatch q)
theorem zjQ(a:Str)(b:Int):decide ((Sum.inr a:Key)=Sum.inl b)=false:=decide_eq_false (fun q=>nomatch q)
def yl(prog:Program)(w:World):PySem.KeyKind prog w Key where
 is:=qb
 hash:=zmf w
 inj:=fun v a b ha hb=>by
  rcases yw ha with ⟨i,t,rfl,rfl⟩|⟨x,t,rfl,rfl⟩
  ·rcases yw hb with ⟨j,u,rfl,e⟩|⟨y,u,rfl,e⟩
   ·injection e with e1 _;rw[e1]
   ·exact nomatch e
  ·rcases yw hb with ⟨j,u,rfl,e⟩|⟨y,u,rfl,e⟩
   ·exact nomatch e
   ·injection e with e1 _;rw[e1]
 byValue:=fun k v h=>by
  rcases yw h with ⟨i,t,rfl,rfl⟩|⟨x,t,rfl,rfl⟩ <;> rfl
 pyHash:=fun hv h=>by
  rcases yw hv with ⟨i,t,rfl,rfl⟩|⟨x,t,rfl,rfl⟩
  ·exact wpAny_pyHash_int h
  ·exact wpAny_pyHash_str h
 eqBool:=fun hu hv h=>by
  rcases yw hu with ⟨i,t,rfl,rfl⟩|⟨x,t,rfl,rfl⟩
  ·rcases yw hv with ⟨j,u,rfl,rfl⟩|⟨y,u,rfl,rfl⟩
   ·rw[zjS] at h;exact wpAny_eqBool_int h
   ·rw[zjR] at h;exact SeqAt.EqAt.int_str i t y u _ _ _ _ h
  ·rcases yw hv with ⟨j,u,rfl,rfl⟩|⟨y,u,rfl,rfl⟩
   ·rw[zjQ] at h;exact SeqAt.EqAt.str_int x t j u _ _ _ _ h
   ·rw[zgh] at h;exact wpAny_eqBool_str h
 «strs»:=fun k x t v h=>by
  rcases yw h with ⟨i,u,rfl,e⟩|⟨y,u,rfl,e⟩
  ·exact nomatch e
  ·injection e with e1 _
   subst e1;cases v <;> rfl
theorem zbu(prog:Program)(w:World)(i:Int)(t:Tok):(yl prog w).is (.inl i) (.int i t)=true:=zd5 i t
theorem zbt(prog:Program)(w:World)(x:Str)(t:Tok):(yl prog w).is (.inr x) (.str x t)=true:=zd4 x t
inductive V where
 | non|bl (b:Bool)|int (i:Int)|str (x:Str)|byt (b:Array UInt8)|flt (b:UInt64)|ref (a:Addr)|ty (n:String)
 deriving DecidableEq
def zT:V->Value->Prop
 | .non,u=>u=Value.none
 | .bl b,u=>u=Value.bool b
 | .int i,u=>∃t,u=Value.int i t
 | .str x,u=>∃t,u=Value.str x t
 | .byt b,u=>∃t,u=Value.bytes b t
 | .flt b,u=>∃t,u=Value.float b t
 | .ref a,u=>u=Value.ref a
 | .ty n,u=>u=Value.type n
abbrev zX:List V->List Value->Prop:=Paired zT
theorem zX.length{xs:List V}{us:List Value}(r:zX xs us):xs.length=us.length:=Paired.length r
theorem zX.get:∀{xs:List V}{us:List Value}{i:Nat}{x:V},zX xs us->xs[i]?=some x->∃u,us[i]?=some u/\zT x u
 | _,_,_,_,.nil,e=>by simp at e
 | _,_,0,_,.cons r _,e=>by simp at e;subst e;exact⟨_,rfl,r⟩
 | _,_,i+1,x,.cons _ t,e=>by
  obtain⟨u,h1,h2⟩:=zX.get (i:=i) (x:=x) t (by simpa using e)
  exact⟨u,by simpa using h1,h2⟩
theorem zX.append:∀{xs ys:List V}{us ws:List Value},zX xs us->zX ys ws->zX (xs++ys) (us++ws)
 | _,_,_,_,.nil,s=>s
 | _,_,_,_,.cons r t,s=>.cons r (zX.append t s)
theorem zX.take:∀{xs:List V}{us:List Value}(n:Nat),zX xs us->zX (xs.take n) (us.take n)
 | _,_,0,_=>.nil
 | _,_,_+1,.nil=>.nil
 | _,_,n+1,.cons r t=>.cons r (zX.take n t)
theorem zX.drop:∀{xs:List V}{us:List Value}(n:Nat),zX xs us->zX (xs.drop n) (us.drop n)
 | _,_,0,r=>r
 | _,_,_+1,.nil=>.nil
 | _,_,n+1,.cons _ t=>zX.drop n t
def ua:Option V->Option Value->Prop
 | some v,some u=>zT v u
 | none,none=>True
 | _,_=>False
def KV{κ : Type}:List (κ×V)->List (κ×Value)->Prop:=Paired fun (p : κ×V) (q : κ×Value)=>p.1=q.1/\zT p.2 q.2
def kV:Key->V
 | .inl i=>.int i
 | .inr x=>.str x
inductive HO where
 | lst (xs:List V)
 | tup (xs:List V)
 | dK (kvs:List (Key×V))|dT (kvs:List (List Key×V))
 | set (S:Int->Bool) (n:Nat)
 | ins (C dx:Addr) (fs:List (Str×V))
 | own (x:Addr)
 | xd (fs:List (Str×V))
 | met (f x:Addr)
 | rng (lo hi:Int)
 | frz (o:Obj) (u:HO)
 | tbl (ps:Array Value)
 | ext (φ : Heap->Prop)
abbrev Hp:=Addr->Option HO
def upd(H:Hp)(a:Addr)(o:HO):Hp:=fun b=>if b=a then some o else H b
theorem za{H:Hp}{a:Addr}{o:HO}:upd H a o a=some o:=by unfold upd;rw[if_pos rfl]
theorem zf{H:Hp}{a b:Addr}{o:HO}(h:b≠a):upd H a o b=H b:=by unfold upd;rw[if_neg h]
theorem vG{H:Hp}{a:Addr}{o u:HO}:upd (upd H a o) a u=upd H a u:=by
 funext b;unfold upd;split <;> rfl
theorem ym{H:Hp}{a b:Addr}{o u:HO}(h:H a=some o)(h':H b=some u)(d:o≠u):a≠b:=by
 intro e;subst e;rw[h] at h';exact d (Option.some.inj h')
theorem zd{H:Hp}{a b:Addr}{o:HO}(h:H a=some o)(h':H b=none):a≠b:=by
 intro e;subst e;rw[h] at h';cases h'
section
variable (P:Program) (w:World)
def yq(H:Hp)(h:Heap)(a:Addr):HO->Prop
 | .lst xs=>xs.length<=sizeLine/\∃(its:List Value) (n:Nat),zX xs its/\h.get? a=some { cls:=.type "list",data:=.seq its.toArray n }
 | .tup xs=>xs.length<=sizeLine/\∃its:List Value,zX xs its/\IsTup h a its.toArray
 | .dK kvs=>kvs.length<=sizeLine/\(a==sysModules)=false/\∃vs,KV kvs vs/\h.DictOf (yl P w) a vs
 | .dT kvs=>kvs.length<=sizeLine/\(a==sysModules)=false/\∃xs:List (List Key×Addr×Value),
   Paired (fun (p:List Key×V) (q:List Key×Addr×Value)=>p.1=q.1/\H q.2.1=some (.tup (p.1.map kV))/\zT p.2 q.2.2) kvs xs/\
   ∃o es ep,h.get? a=some o/\o.ExactDict/\o.data=.dict es ep/\es.toList=xs.map (entryOfKey (tupleKind (yl P w)))/\(xs.map (·.1)).Nodup
 | .set S n=>h.SetOf (intKind P w) a S n
 | .ins C dx fs=>H dx=some (.own a)/\fs.length<=1000/\dx≠a/\h.get? a=some (instObj C dx)/\
   ∃mA,h.Ns1 dx mA/\(∀f,ua (fs.lookup f) (mA f))/\PySem.Within mA (fs.map (·.1))
 | .own _=>∃o,h.get? a=some o
 | .xd fs=>∃mA,h.Ns1 a mA/\∀f,ua (fs.lookup f) (mA f)
 | .rng lo hi=>∃t u v,h.get? a=some { cls:=.type "range",data:=.fields #[.int lo t,.int hi u,.int 1 v] }
 | .frz o u=>h.get? a=some o/\yq H h a u
 | .tbl ps=>h.get? a=some { cls:=.none,data:=.fields ps }
 | .met f x=>h.get? a=some (methodObj (.ref f) (.ref x))
 | .ext φ=>φ h/\(∃o,h.get? a=some o)/\∀h1 h2:Heap,φ h1->(∀o,h1.get? a=some o->h2.get? a=some o)->φ h2
def HOk(H:Hp)(h:Heap):Prop:=∀a o,H a=some o->yq P w H h a o
end
section
variable {P:Program}{w:World}{H H':Hp}{h h':Heap}{a:Addr}{o:HO}
theorem yq.lt(x:yq P w H h a o):a<h.objs.size:=by
 cases o with
 | lst xs=>obtain⟨_,_,_,_,e⟩:=x;exact Heap.lt_size e
 | tup xs=>obtain⟨_,_,_,p⟩:=x;exact p.lt
 | dK kvs=>obtain⟨_,_,_,_,o,_,_,e,_⟩:=x;exact Heap.lt_size e
 | dT kvs=>obtain⟨_,_,_,_,o,_,_,e,_⟩:=x;exact Heap.lt_size e
 | set S n=>obtain⟨o,_,_,_,e,_⟩:=x;exact Heap.lt_size e
 | ins C dx fs=>obtain⟨_,_,_,e,_⟩:=x;exact Heap.lt_size e
 | own y=>obtain⟨_,e⟩:=x;exact Heap.lt_size e
 | xd fs=>obtain⟨_,⟨_,_,_,e,_⟩,_⟩:=x;exact Heap.lt_size e
 | rng lo hi=>obtain⟨_,_,_,e⟩:=x;exact Heap.lt_size e
 | frz ob u=>obtain⟨e,_⟩:=x;exact Heap.lt_size e
 | tbl ps=>exact Heap.lt_size (show h.get? a=some _ from x)
 | met f y=>exact Heap.lt_size (show h.get? a=some _ from x)
 | ext φ=>obtain⟨_,⟨_,e⟩,_⟩:=x;exact Heap.lt_size e
theorem xh{α β : Type}{F G : α->β->Prop}:∀{l₁:List α}{l₂:List β},Paired F l₁ l₂->(∀a b,F a b->G a b)->Paired G l₁ l₂
 | _,_,.nil,_=>.nil
 | _,_,.cons r t,f=>.cons (f _ _ r) (xh t f)
theorem zm{α β : Type}{F G : α->β->Prop}(f:∀a b,F a b->G a b){l₁:List α}{l₂:List β}(r:Paired F l₁ l₂):Paired G l₁ l₂:=xh r f
theorem yq.stay(x:yq P w H h a o)(k:∀b u,(b=a\/H b=some (.own a))->h.get? b=some u->h'.get? b=some u)
  (ho:∀b,H b=some (.own a)->H' b=some (.own a)) (ht:∀b xs,H b=some (.tup xs)->H' b=some (.tup xs)):yq P w H' h' a o:=by
 induction o with
 | lst xs=>obtain⟨z,its,n,r,e⟩:=x;exact⟨z,its,n,r,k _ _ (.inl rfl) e⟩
 | tup xs=>obtain⟨z,its,r,ob,e,c⟩:=x;exact⟨z,its,r,ob,k _ _ (.inl rfl) e,c⟩
 | dK kvs=>obtain⟨z,y,vs,r,ob,es,ep,e,c⟩:=x;exact⟨z,y,vs,r,ob,es,ep,k _ _ (.inl rfl) e,c⟩
 | dT kvs=>
  obtain⟨z,y,xs,r,ob,es,ep,e,c⟩:=x;exact⟨z,y,xs,xh r fun p q z=>⟨z.1,ht _ _ z.2.1,z.2.2⟩,ob,es,ep,k _ _ (.inl rfl) e,c⟩
 | set S n=>obtain⟨ob,es,ep,t,e,c⟩:=x;exact⟨ob,es,ep,t,k _ _ (.inl rfl) e,c⟩
 | ins C dx fs=>
  obtain⟨d,z,ne,e,mA,⟨od,es,ep,e2,c⟩,r⟩:=x;exact⟨ho _ d,z,ne,k _ _ (.inl rfl) e,mA,⟨od,es,ep,k _ _ (.inr d) e2,c⟩,r⟩
 | own y=>obtain⟨ob,e⟩:=x;exact⟨ob,k _ _ (.inl rfl) e⟩
 | xd fs=>obtain⟨mA,⟨od,es,ep,e,c⟩,r⟩:=x;exact⟨mA,⟨od,es,ep,k _ _ (.inl rfl) e,c⟩,r⟩
 | rng lo hi=>obtain⟨t,u,v,e⟩:=x;exact⟨t,u,v,k _ _ (.inl rfl) e⟩
 | frz ob u ih=>obtain⟨e,q⟩:=x;exact⟨k _ _ (.inl rfl) e,ih q⟩
 | tbl ps=>
  have e:h.get? a=some { cls:=.none,data:=.fields ps }:=x;show h'.get? a=some { cls:=.none,data:=.fields ps };exact k a _ (.inl rfl) e
 | met f y=>
  have e:h.get? a=some (methodObj (.ref f) (.ref y)):=x;show h'.get? a=some (methodObj (.ref f) (.ref y));exact k a _ (.inl rfl) e
 | ext φ=>obtain⟨p,⟨o,e⟩,st⟩:=x;exact⟨st _ _ p fun o q=>k _ _ (.inl rfl) q,⟨o,k _ _ (.inl rfl) e⟩,st⟩
theorem HOk.lt(x:HOk P w H h)(e:H a=some o):a<h.objs.size:=(x a o e).lt
theorem HOk.fresh(x:HOk P w H h)(e:h.objs.size<=a):H a=none:=by
 cases q:H a with
 | none=>rfl
 | some u=>exact absurd (lt_of_lt_of_le (x.lt q) e) (lt_irrefl _)
theorem HOk.kept(x:HOk P w H h)(k:∀b u,h.get? b=some u->h'.get? b=some u):HOk P w H h':=fun a o e=>
 (x a o e).stay (fun b u _ q=>k b u q) (fun _ q=>q) fun _ _ q=>q
theorem HOk.laid(x:HOk P w H h)(k:∀b u,h.get? b=some u->h'.get? b=some u)(hp:h.objs.size<=a)(new:yq P w (upd H a o) h' a o):HOk P w (upd H a o) h':=fun b u e=>by
 have hn:=x.fresh hp;by_cases hb:b=a
 ·subst hb;rw[za] at e;cases e;exact new
 ·rw[zf hb] at e
  exact(x b u e).stay (fun c v _ q=>k c v q) (fun c q=>by rw[zf (zd q hn)];exact q) fun c xs q=>by rw[zf (zd q hn)];exact q
def Rd(H:Hp)(a:Addr)(u:HO):Prop:=H a=some u\/∃o,H a=some (.frz o u)
theorem Rd.ok{P:Program}{w:World}{H:Hp}{h:Heap}{a:Addr}{u:HO}(r:Rd H a u)(x:HOk P w H h):yq P w H h a u:=by
 rcases r with r|⟨o,r⟩
 ·exact x a u r
 ·obtain⟨_,q⟩:=x a _ r
  exact q
def Mut:Option HO->Prop
 | some (.lst _)=>True
 | some (.dK _)=>True
 | some (.dT _)=>True
 | some (.set _ _)=>True
 | some (.ins _ _ _)=>True
 | some (.ext _)=>True
 | _=>False
variable {x e:Addr}{o':HO}
theorem HOk.write(ok:HOk P w H h)(mu:Mut (H x))(he:e=x\/H e=some (.own x))(k:∀b u,b≠e->h.get? b=some u->h'.get? b=some u)(heo:∃u,h'.get? e=some u)
  (new:yq P w (upd H x o') h' x o'):HOk P w (upd H x o') h':=fun b u q=>by
 have nown:∀c y,H c=some (.own y)->c≠x:=fun c y r z=>by subst z;rw[r] at mu;exact mu
 have ntup:∀c xs,H c=some (.tup xs)->c≠x:=fun c xs r z=>by subst z;rw[r] at mu;exact mu
 by_cases hb:b=x
 ·subst hb;rw[za] at q;cases q;exact new
 ·rw[zf hb] at q
  by_cases hbe:b=e
  ·have q':H b=some (.own x):=by
    rcases he with z|z
    ·exact absurd (hbe.trans z) hb
    ·rw[hbe];exact z
   rw[q] at q';cases q';obtain⟨v,hv⟩:=heo;exact⟨v,by rw[hbe];exact hv⟩
  ·refine(ok b u q).stay (fun c v hc r=>k c v ?_ r) (fun c r=>by rw[zf (nown c b r)];exact r) fun c xs r=>by rw[zf (ntup c xs r)];exact r
   rcases hc with rfl|hc
   ·exact hbe
   ·rintro rfl
    rcases he with z|z
    ·exact nown c b hc z
    ·rw[hc] at z;cases z;exact hb rfl
structure Un(fs ex:List Addr)(H H':Hp)(h h':Heap):Prop where
 keep:∀b o,h.get? b=some o->H b=none->b∉fs->b∉ex->h'.get? b=some o
 slot:∀b o,h.get? b=some o->H b=none->b∈fs->b∉ex->∃sl,h'.get? b=some { o with slots:=sl }
 free:∀b o,h.get? b=some o->H b=none->b∉ex->H' b=none
 there:∀b o,h.get? b=some o->b∉ex->∃o',h'.get? b=some o'
 tups:∀b xs,H b=some (.tup xs)->H' b=some (.tup xs)
 frzs:∀b o u,H b=some (.frz o u)->H' b=some (.frz o u)
 tbls:∀b ps,H b=some (.tbl ps)->∃more,H' b=some (.tbl (ps++more))
variable {fs fs' ex ex':List Addr}{H1 H2:Hp}{h1 h2:Heap}
theorem Un.any(u:Un fs ex H H1 h h1){b:Addr}{ob:Obj}(q:h.get? b=some ob)(n:H b=none)(hx:b∉ex):∃sl,h1.get? b=some { ob with slots:=sl }:=by
 by_cases hb:b∈fs
 ·exact u.slot b ob q n hb hx
 ·exact⟨ob.slots,u.keep b ob q n hb hx⟩
theorem Un.kept(k:∀b u,h.get? b=some u->h'.get? b=some u):Un fs ex H H h h':=
 ⟨fun b ob q _ _ _=>k b ob q,fun b ob q _ _ _=>⟨ob.slots,k b ob q⟩,fun _ _ _ n _=>n,fun b ob q _=>⟨ob,k b ob q⟩,fun _ _ q=>q,fun _ _ _ q=>q,fun _ ps q=>⟨#[],by rw[q];simp⟩⟩
theorem Un.refl:Un fs ex H H h h:=Un.kept fun _ _ q=>q
theorem Un.laid(k:∀b u,h.get? b=some u->h'.get? b=some u)(hp:h.objs.size<=a)(hn:H a=none):Un fs ex H (upd H a o) h h' where
 keep:=fun b u q _ _ _=>k b u q
 slot:=fun b u q _ _ _=>⟨u.slots,k b u q⟩
 free:=fun b u q n _=>by rw[zf (ne_of_lt (lt_of_lt_of_le (Heap.lt_size q) hp))];exact n
 there:=fun b u q _=>⟨u,k b u q⟩
 tups:=fun b xs q=>by rw[zf (zd q hn)];exact q
 frzs:=fun b u xs q=>by rw[zf (zd q hn)];exact q
 tbls:=fun b ps q=>⟨#[],by rw[zf (zd q hn),q];simp⟩
theorem Un.write(mu:Mut (H x))(he:e=x\/H e=some (.own x))(k:∀b u,b≠e->h.get? b=some u->h'.get? b=some u)(heo:∃u,h'.get? e=some u):Un fs ex H (upd H x o) h h':=by
 have hx:∀b,H b=none->b≠x:=fun b n z=>by subst z;rw[n] at mu;exact mu
 have hb:∀b,H b=none->b≠e:=fun b n z=>by
  subst z;rcases he with r|r
  ·exact hx b n r
  ·rw[n] at r;cases r
 have hm:∀b u,H b=some u->¬Mut (some u)->b≠x:=fun b u q nm z=>by subst z;rw[q] at mu;exact nm mu
 refine⟨fun b u q n _ _=>k b u (hb b n) q,fun b u q n _ _=>⟨u.slots,k b u (hb b n) q⟩,fun b u q n _=>by rw[zf (hx b n)];exact n,fun b u q _=>?_,
  fun b xs q=>by rw[zf (hm b _ q fun z=>z)];exact q,fun b u xs q=>by rw[zf (hm b _ q fun z=>z)];exact q,fun b ps q=>⟨#[],by rw[zf (hm b _ q fun z=>z),q];simp⟩⟩
 by_cases hbe:b=e
 ·subst hbe;exact heo
 ·exact⟨u,k b u hbe q⟩
def trk(h:Heap)(H:Hp):List Addr:=(List.range h.objs.size).filter fun a=>(H a).isSome
def zaW(h:Heap)(H:Hp):Heap:=hideAll h (trk h H)
theorem zd6(h:Heap)(H:Hp):(zaW h H).objs.size=h.objs.size:=PySem.W.hideAll_size _ _
theorem zgk{h:Heap}{H:Hp}{b:Addr}{o:Obj}(e:h.get? b=some o)(n:H b=none):(zaW h H).get? b=some o:=
 PySem.W.hideAll_get _ e fun hm=>by
  have q:(H b).isSome=true:=(List.mem_filter.mp hm).2;rw[n] at q;simp at q
theorem zhI{h:Heap}{H:Hp}{b:Addr}{o:Obj}(e:(zaW h H).get? b=some o):h.get? b=some o/\H b=none:=by
 have e':h.get? b=some o:=PySem.W.of_hideAll (trk h H) e;exists e',?_;cases q:H b with
 | none=>rfl
 | some x=>
  have hm:b∈trk h H:=List.mem_filter.mpr ⟨List.mem_range.mpr (Heap.lt_size e'),by simp [q]⟩
  have z:(zaW h H).get? b=none:=hideAll_none (trk h H) hm;rw[z] at e;cases e
def zia(g h:Heap)(L:Addr):List (Addr×Obj):=(List.range h.objs.size).filterMap fun a=>if a=L\/(g.get? a).isSome=true then none else (h.get? a).map fun o=>(a,o)
def xT(g h:Heap)(L d:Addr):List (Addr×Obj):=(zia g h L).filter fun p=>decide (p.1≠d)
structure Mod(K:Frag)(mg:Str->Option Value)(base:Heap):Prop where
 kin:K.In base
 glob:base.Ns mainGlobals mg
 blt:∃mb,base.Ns builtinsNs mb/\∀x:Str,x≠"__name__"->mb x=bootBuiltins x
 nolimit:base.NoLimit
structure Cx where
 prog:Program
 w:World
 K:Frag
 mg:Str->Option Value
 base:Heap
 A:Around
 N:List Str
 s₀:Shared
 H₀:Hp
 env:Env
 outer:List Env
 stack:List Env
 ex:List Addr
 fn:Str->Bool
 calm:Bool
 pn:List (Addr×Obj)
 xe:Value->Shared->Prop
def frs(l:List Env):List Addr:=l.filterMap (·.frame)
end
abbrev Cx.fs(X:Cx):List Addr:=frs X.outer
def Vis(sc:Scope)(x:Str):Prop:=sc.names.lookup x=some .local\/sc.names.lookup x=some .cell\/sc.names.lookup x=some .free
def Loc(sc:Scope)(x:Str):Prop:=sc.names.lookup x=some .local\/sc.names.lookup x=some .cell
def zmp(env:Env)(h:Heap)(m:Str->Option Value)(x:Str)(u:Value):Prop:=
 (env.kindOf x=some .local/\m x=some u)\/((env.kindOf x=some .cell\/env.kindOf x=some .free)/\∃c,env.cells.lookup x=some c/\h.IsCell c (some u))
structure Cx.Ok(X:Cx):Prop where
 mod:Mod X.K X.mg X.base
 kind:X.env.scope.kind=.function
 glob:X.env.globals=mainGlobals
 blt:X.env.builtins=builtinsNs
 above:X.s₀.heap.objs.size<=X.env.locals
 inj:∀x y c,X.env.cells.lookup x=some c->X.env.cells.lookup y=some c->x=y
 has:∀x,(X.env.kindOf x=some .cell\/X.env.kindOf x=some .free)->∃c,X.env.cells.lookup x=some c
 cab:∀x c,X.fn x=true->X.env.cells.lookup x=some c->X.s₀.heap.objs.size<=c
 hd:X.calm=true->X.A.handled=none
 frames:X.A.frames=some X.stack
 stk:X.stack=X.outer\/(X.stack=X.env::X.outer/\X.env.frame=some X.env.locals)
 exf:∀b∈X.ex,b≠X.env.locals/\∀x c,X.env.cells.lookup x=some c->c≠b
 bs:∀b o,X.base.get? b=some o->X.s₀.heap.get? b=some o/\X.H₀ b=none
 bsz:X.base.objs.size<=X.s₀.heap.objs.size
 noex:∀b o,X.base.get? b=some o->b∉X.ex
 exfs:∀b∈X.ex,b∉X.fs
 funs:X.s₀.heap.FunFrames X.base X.outer
 frf:∀b∈X.fs,X.H₀ b=none
structure Inv(X:Cx)(pins:PnL)(σ : List (Option V))(H:Hp)(s:Shared):Prop where
 ok:X.Ok
 os:s.os=X.s₀.os
 bare:AllBare s.gens
 base:Un X.fs X.ex X.H₀ H X.s₀.heap s.heap
 loc:∃m,s.heap.Ns X.env.locals m/\∀(i:Nat) (x:Str) (v:V),X.N[i]?=some x->σ[i]?=some (some v)->Vis X.env.scope x->∃u,zT v u/\zmp X.env s.heap m x u
 cell:∀x c,X.env.cells.lookup x=some c->∃v,s.heap.IsCell c v
 free:H X.env.locals=none
 freeC:∀x c,X.env.cells.lookup x=some c->H c=none
 pin:∀p∈X.pn++pins,s.heap.get? p.1=some p.2/\H p.1=none/\p.1≠X.env.locals/\p.1∉X.fs/\∀v,p.2.data≠.cell v
 hok:HOk X.prog X.w H s.heap
 len : σ.length=X.N.length
section
variable {X:Cx}{pins:PnL}{σ:List (Option V)}{H H':Hp}{s:Shared}{h':Heap}
theorem Cx.Ok.nofr(ok:X.Ok){b:Addr}{o:Obj}(e:X.base.get? b=some o):b∉X.fs:=fun hb=>by
 have:=(ok.funs.mem hb).1
 rw[e] at this;cases this
theorem Inv.bs(I:Inv X pins σ H s):∀b o,X.base.get? b=some o->s.heap.get? b=some o/\H b=none:=fun b o e=>
 ⟨I.base.keep b o (I.ok.bs b o e).1 (I.ok.bs b o e).2 (I.ok.nofr e) (I.ok.noex b o e),I.base.free b o (I.ok.bs b o e).1 (I.ok.bs b o e).2 (I.ok.noex b o e)⟩
theorem Inv.bk(I:Inv X pins σ H s):∀b o,X.base.get? b=some o->s.heap.get? b=some o:=fun b o e=>(I.bs b o e).1
theorem Inv.mod(I:Inv X pins σ H s):Mod X.K X.mg X.base:=I.ok.mod
theorem Inv.kIn(I:Inv X pins σ H s):X.K.In s.heap:=I.ok.mod.kin.keeps I.bk
theorem Inv.lt(I:Inv X pins σ H s):X.env.locals<s.heap.objs.size:=let ⟨_,hn,_⟩:=I.loc;hn.lt
theorem Inv.sz(I:Inv X pins σ H s):X.s₀.heap.objs.size<=s.heap.objs.size:=le_trans I.ok.above (le_of_lt I.lt)
theorem Inv.nofs(I:Inv X pins σ H s){a:Addr}(h:s.heap.objs.size<=a):a∉X.fs:=fun hb=>by
 obtain⟨_,o,ho,_⟩:=I.ok.funs.mem hb;exact absurd (lt_of_lt_of_le (Heap.lt_size ho) (le_trans I.sz h)) (lt_irrefl _)
theorem Inv.cne(I:Inv X pins σ H s):∀x c,X.env.cells.lookup x=some c->c≠X.env.locals:=fun x c e z=>by
 obtain⟨v,o,ho,hd⟩:=I.cell x c e;obtain⟨m,⟨o',es,ep,ho',hd',_⟩,_⟩:=I.loc;rw[z,ho'] at ho;cases ho;rw[hd'] at hd;cases hd
theorem Inv.funs(I:Inv X pins σ H s):s.heap.FunFrames X.base X.outer:=by
 have all:∀(l:List Env),(∀b∈frs l,b∈X.fs)->X.s₀.heap.FunFrames X.base l->s.heap.FunFrames X.base l:=by
  intro l;induction l with
  | nil=>intro _ _;trivial
  | cons env r ih=>
   intro hs hl;obtain⟨hk,⟨L,o,hf,hn,ho,hd⟩,hr⟩:=hl;have hL:L∈X.fs:=hs L (by unfold frs;rw[filterMap_cons,hf];exact mem_cons_self)
   obtain⟨sl,e⟩:=I.base.slot L o ho (I.ok.frf L hL) hL fun z=>I.ok.exfs L z hL;exact⟨hk,⟨L,_,hf,hn,e,hd⟩,ih (fun b hb=>hs b (by unfold frs;rw[filterMap_cons,hf];exact mem_cons_of_mem _ hb)) hr⟩
 exact all X.outer (fun _ hb=>hb) I.ok.funs
theorem Inv.stack(I:Inv X pins σ H s):s.heap.FunFrames X.base X.stack:=by
 rcases I.ok.stk with e|⟨e,hf⟩
 ·rw[e];exact I.funs
 ·rw[e]
  obtain⟨m,hn,_⟩:=I.loc;refine .cons (by rw[I.ok.kind];decide) hf hn ?_ I.funs
  exact Heap.get?_none_of_le (le_trans I.ok.bsz I.ok.above)
theorem Inv.stkSub(I:Inv X pins σ H s):∀b∈frs X.stack,b∈X.env.locals::X.fs:=fun b hb=>by
 rcases I.ok.stk with e|⟨e,hf⟩
 ·rw[e] at hb;exact mem_cons_of_mem _ hb
 ·rw[e] at hb
  unfold frs at hb;rw[filterMap_cons,hf] at hb;exact hb
theorem Inv.stkFree(I:Inv X pins σ H s):∀b∈frs X.stack,H b=none:=fun b hb=>by
 rcases List.mem_cons.mp (I.stkSub b hb) with e|hb
 ·rw[e];exact I.free
 ·obtain⟨_,o,ho,_⟩:=I.ok.funs.mem hb
  exact I.base.free b o ho (I.ok.frf b hb) fun z=>I.ok.exfs b z hb
theorem Inv.step{g':Array GenState}{t':Nat}{d':Drawn}{ch:List Addr}(I:Inv X pins σ H s)
  (hch:∀b∈ch,(b∈X.ex\/X.s₀.heap.objs.size<=b)/\b≠X.env.locals/\(∀x c,X.env.cells.lookup x=some c->c≠b)/\∀p∈X.pn++pins,p.1≠b)
  (keep:∀b o,b≠X.env.locals->b∉X.fs->b∉ch->s.heap.get? b=some o->H b=none->h'.get? b=some o)
  (slot:∀b o,b≠X.env.locals->b∈X.fs->b∉ch->s.heap.get? b=some o->H b=none->∃sl,h'.get? b=some { o with slots:=sl }) (free:∀b o,b∉ch->s.heap.get? b=some o->H b=none->H' b=none)
  (there:∀b o,b∉ch->s.heap.get? b=some o->∃o',h'.get? b=some o')
  (tups:∀b xs,H b=some (.tup xs)->H' b=some (.tup xs)) (frzs:∀b o u,H b=some (.frz o u)->H' b=some (.frz o u)) (tbls:∀b ps,H b=some (.tbl ps)->∃more,H' b=some (.tbl (ps++more)))
  (ns:∀m,s.heap.Ns X.env.locals m->h'.Ns X.env.locals m) (hok:HOk X.prog X.w H' h') (hg:AllBare g') :
  Inv X pins σ H' { s with heap:=h',gens:=g',drawn:=d',toks:=t' }:=by
 have neL:∀b o,X.s₀.heap.get? b=some o->b≠X.env.locals:=fun b o e=>ne_of_lt (lt_of_lt_of_le (Heap.lt_size e) I.ok.above);have neC:∀b o,X.s₀.heap.get? b=some o->b∉X.ex->b∉ch:=fun b o e hx hb=>by
  rcases (hch b hb).1 with z|z
  ·exact hx z
  ·exact absurd (lt_of_lt_of_le (Heap.lt_size e) z) (lt_irrefl _)
 have cellK:∀x c,X.env.cells.lookup x=some c->∀v,s.heap.IsCell c v->h'.IsCell c v:=fun x c e v ⟨o,ho,hd⟩=>by
  have nch:c∉ch:=fun z=>(hch c z).2.2.1 x c e rfl;by_cases hc:c∈X.fs
  ·obtain⟨sl,q⟩:=slot c o (I.cne x c e) hc nch ho (I.freeC x c e)
   exact⟨_,q,hd⟩
  ·exact⟨o,keep c o (I.cne x c e) hc nch ho (I.freeC x c e),hd⟩
 exists I.ok,I.os,hg,⟨fun b o e n hb hx=>?_,fun b o e n hb hx=>?_,fun b o e n hx=>?_,fun b o e hx=>?_,fun b xs e=>tups b xs (I.base.tups b xs e),fun b o xs e=>frzs b o xs (I.base.frzs b o xs e),fun b ps e=>?_⟩,?_,fun x c e=>?_,?_,fun x c e=>?_,fun p hp=>?_,hok,I.len
 ·exact keep b o (neL b o e) hb (neC b o e hx) (I.base.keep b o e n hb hx) (I.base.free b o e n hx)
 ·obtain⟨sl,e1⟩:=I.base.slot b o e n hb hx
  obtain⟨sl',e2⟩:=slot b _ (neL b o e) hb (neC b o e hx) e1 (I.base.free b o e n hx);exact⟨sl',e2⟩
 ·obtain⟨o',e1⟩:=I.base.there b o e hx
  exact free b o' (neC b o e hx) e1 (I.base.free b o e n hx)
 ·obtain⟨o',e1⟩:=I.base.there b o e hx
  exact there b o' (neC b o e hx) e1
 ·obtain⟨m1,e1⟩:=I.base.tbls b ps e
  obtain⟨m2,e2⟩:=tbls b _ e1;exact⟨m1++m2,by rw[e2,Array.append_assoc]⟩
 ·obtain⟨m,hn,hl⟩:=I.loc
  exists m,ns m hn,fun i x v e1 e2 e3=>?_;obtain⟨u,r,l⟩:=hl i x v e1 e2 e3;exists u,r,?_;rcases l with l|⟨k,c,e,z⟩
  ·exact .inl l
  ·exact .inr ⟨k,c,e,cellK x c e _ z⟩
 ·obtain⟨v,z⟩:=I.cell x c e
  exact⟨v,cellK x c e v z⟩
 ·obtain⟨m,⟨o,_,_,ho,_⟩,_⟩:=I.loc
  exact free _ o (fun z=>(hch _ z).2.1 rfl) ho I.free
 ·obtain⟨v,o,ho,hd⟩:=I.cell x c e
  exact free c o (fun z=>(hch c z).2.2.1 x c e rfl) ho (I.freeC x c e)
 ·obtain⟨e,n,ne,nf,d⟩:=I.pin p hp
  have nch:p.1∉ch:=fun z=>(hch p.1 z).2.2.2 p hp rfl;exact⟨keep p.1 p.2 ne nf nch e n,free p.1 p.2 nch e n,ne,nf,d⟩
theorem Inv.un{t':Nat}(I:Inv X pins σ H s)(u:Un X.fs [] H H' s.heap h')(hok:HOk X.prog X.w H' h'):Inv X pins σ H' { s with heap:=h',toks:=t' }:=by
 obtain⟨m,⟨o,es,ep,ho,r⟩,_⟩:=id I.loc;obtain⟨sl,hL⟩:=u.any ho I.free (by simp)
 exact I.step (g':=s.gens) (d':=s.drawn) (ch:=[]) (fun _ z=>nomatch z) (fun b o _ hb _ e n=>u.keep b o e n hb (by simp)) (fun b o _ hb _ e n=>u.slot b o e n hb (by simp)) (fun b o _ e n=>u.free b o e n (by simp)) (fun b o _ e=>u.there b o e (by simp)) u.tups u.frzs u.tbls (fun m' hm=>by
  obtain⟨o',es',ep',ho',r'⟩:=hm;rw[ho] at ho';cases ho';exact⟨_,es',ep',hL,r'⟩) hok I.bare
theorem Inv.call{g':Array GenState}{t':Nat}{d':Drawn}{ch:List Addr}(I:Inv X pins σ H s)(u:Un (frs X.stack) ch H H' s.heap h')(hok:HOk X.prog X.w H' h')(hg:AllBare g')
  (hch:∀b∈ch,(b∈X.ex\/X.s₀.heap.objs.size<=b)/\b≠X.env.locals/\(∀x c,X.env.cells.lookup x=some c->c≠b)/\∀p∈X.pn++pins,p.1≠b) :
  Inv X pins σ H' { s with heap:=h',gens:=g',drawn:=d',toks:=t' }:=by
 obtain⟨m,⟨o,es,ep,ho,r⟩,_⟩:=id I.loc;obtain⟨sl,hL⟩:=u.any ho I.free fun z=>(hch _ z).2.1 rfl;exact I.step (ch:=ch) hch (fun b o hL hb hc e n=>u.keep b o e n (fun z=>(List.mem_cons.mp (I.stkSub b z)).elim hL hb) hc) (fun b o _ _ hc e n=>u.any e n hc) (fun b o hc e n=>u.free b o e n hc) (fun b o hc e=>u.there b o e hc) u.tups u.frzs u.tbls (fun m' hm=>by
  obtain⟨o',es',ep',ho',r'⟩:=hm;rw[ho] at ho';cases ho';exact⟨_,es',ep',hL,r'⟩) hok hg
theorem Inv.turned{t':Nat}{it:Addr}(I:Inv X pins σ H s)(k:∀b o,b≠it->s.heap.get? b=some o->h'.get? b=some o)(hn:H it=none)(hL:it≠X.env.locals)
  (h1:it∈X.ex\/X.s₀.heap.objs.size<=it) (h2:∀x c,X.env.cells.lookup x=some c->c≠it) (h3:∀p∈X.pn++pins,p.1≠it):Inv X pins σ H { s with heap:=h',toks:=t' }:=by
 have nit:∀b u,H b=some u->b≠it:=fun b u e z=>by rw[z,hn] at e;cases e
 refine I.step (g':=s.gens) (d':=s.drawn) (ch:=[it]) (fun b hb=>?_) (fun b o _ _ hc e _=>k b o (fun z=>hc (by simp [z])) e) (fun b o _ _ hc e _=>⟨o.slots,k b o (fun z=>hc (by simp [z])) e⟩) (fun _ _ _ _ n=>n)
  (fun b o hc e=>⟨o,k b o (fun z=>hc (by simp [z])) e⟩) (fun _ _ e=>e) (fun _ _ _ e=>e) (fun b ps e=>⟨#[],by rw[e];simp⟩) (fun m hm=>?_) (fun b u e=>?_) I.bare
 ·have e:b=it:=by simpa using hb
  subst e;exact⟨h1,hL,h2,h3⟩
 ·obtain⟨o,es,ep,ho,r⟩:=hm
  exact⟨o,es,ep,k _ o (Ne.symm hL) ho,r⟩
 ·refine(I.hok b u e).stay (fun c v hc q=>k c v ?_ q) (fun _ q=>q) fun _ _ q=>q
  rcases hc with z|z
  ·rw[z];exact nit b u e
  ·exact nit c _ z
theorem Inv.tok(I:Inv X pins σ H s)(t:Nat):Inv X pins σ H { s with toks:=t }:=I.un (h':=s.heap) (t':=t) Un.refl I.hok
theorem Inv.kept{t':Nat}(I:Inv X pins σ H s)(k:∀b u,s.heap.get? b=some u->h'.get? b=some u):Inv X pins σ H { s with heap:=h',toks:=t' }:=I.un (Un.kept k) (I.hok.kept k)
theorem Inv.laid{a:Addr}{o:HO}{t':Nat}(I:Inv X pins σ H s)(k:∀b u,s.heap.get? b=some u->h'.get? b=some u)(hp:s.heap.objs.size<=a)(new:yq X.prog X.w (upd H a o) h' a o):
  Inv X pins σ (upd H a o) { s with heap:=h',toks:=t' }:=I.un (Un.laid k hp (I.hok.fresh hp)) (I.hok.laid k hp new)
theorem Inv.write{x e:Addr}{o:HO}{t':Nat}(I:Inv X pins σ H s)(mu:Mut (H x))(he:e=x\/H e=some (.own x))(k:∀b u,b≠e->s.heap.get? b=some u->h'.get? b=some u)(heo:∃u,h'.get? e=some u)
  (new:yq X.prog X.w (upd H x o) h' x o):Inv X pins σ (upd H x o) { s with heap:=h',toks:=t' }:=I.un (Un.write mu he k heo) (I.hok.write mu he k heo new)
theorem Inv.weak{σ':List (Option V)}(I:Inv X pins σ H s)(hl : σ'.length=σ.length)(w:∀(i:Nat) v,σ'[i]?=some (some v)->σ[i]?=some (some v)):Inv X pins σ' H s:=
 ⟨I.ok,I.os,I.bare,I.base,let ⟨m,hn,hl'⟩:=I.loc;⟨m,hn,fun i x v e1 e2 e3=>hl' i x v e1 (w i v e2) e3⟩,I.cell,I.free,I.freeC,I.pin,I.hok,hl.trans I.len⟩
theorem Inv.pins_of{pins':PnL}(I:Inv X pins σ H s)(h:∀p∈pins',s.heap.get? p.1=some p.2/\H p.1=none/\p.1≠X.env.locals/\p.1∉X.fs/\∀v,p.2.data≠.cell v):Inv X pins' σ H s:=
 ⟨I.ok,I.os,I.bare,I.base,I.loc,I.cell,I.free,I.freeC,fun p hp=>(List.mem_append.mp hp).elim (fun z=>I.pin p (mem_append_left _ z)) (h p),I.hok,I.len⟩
theorem j3{N:List Str}(hN:N.Nodup){i j:Nat}{x:Str}(a:N[i]?=some x)(b:N[j]?=some x):i=j:=by
 obtain⟨h1,e1⟩:=List.getElem?_eq_some_iff.mp a;obtain⟨h2,e2⟩:=List.getElem?_eq_some_iff.mp b;exact(List.getElem_inj hN).mp (e1.trans e2.symm)
theorem qL{M:Model}{A:Around}{E:VSP}{i:Nat}{x:Str}{v:V}{u:Value}{Q:Unit->Shared->Prop}(I:Inv X pins σ H s)(hN:X.N.Nodup)(hi:X.N[i]?=some x)(hx:Loc X.env.scope x)(r:zT v u)
  (h:∀s',Inv X pins (σ.set i (some v)) H s'->(∃a,Heap.SameBut a s.heap s'.heap/\(a=X.env.locals\/X.env.cells.lookup x=some a))->Q () s') (hf:X.fn x=true\/X.env.scope.names.lookup x=some .local:=by first|exact .inl rfl|exact .inr rfl|assumption):wpAny M A (storeName X.env x u) Q E s:=by
 obtain⟨m,hn,hl⟩:=id I.loc;have hcls:(X.env.scope.kind==.class||(X.env.scope.kind==.module&&X.env.locals != X.env.globals))=false:=by rw[I.ok.kind];rfl
 have hiσ : i<σ.length:=by rw[I.len];exact(List.getElem?_eq_some_iff.mp hi).1
 have cne:=I.cne;have tracked:∀{a:Addr}{h':Heap},(∃o,s.heap.get? a=some o/\H a=none)->Heap.SameBut a s.heap h'->HOk X.prog X.w H h':=fun {a h'} ha hs b ob e=>by
  obtain⟨_,_,hfree⟩:=ha;refine(I.hok b ob e).stay (fun c w' hc q=>(hs.2 c ?_).trans q) (fun _ q=>q) fun _ _ q=>q;rintro rfl;rcases hc with rfl|hc
  ·rw[hfree] at e;cases e
  ·rw[hfree] at hc;cases hc
 rcases hx with hk|hk
 ·refine wpAny_storeName_local hk hn (fun h' hn' hs=>?_) hcls
  obtain⟨oL,_,_,hoL,_⟩:=id hn;refine h _ ⟨I.ok,I.os,I.bare,⟨fun b o e n hb hx=>?_,fun b o e n hb hx=>?_,I.base.free,fun b o e hx=>?_,I.base.tups,I.base.frzs,I.base.tbls⟩,⟨_,hn',fun j y v' e1 e2 e3=>?_⟩,fun y c e=>?_,I.free,I.freeC,fun p hp=>?_,tracked ⟨oL,hoL,I.free⟩ hs,by simpa using I.len⟩ ⟨_,hs,.inl rfl⟩
  ·exact(hs.2 b (ne_of_lt (lt_of_lt_of_le (Heap.lt_size e) I.ok.above))).trans (I.base.keep b o e n hb hx)
  ·obtain⟨sl,e1⟩:=I.base.slot b o e n hb hx
   exact⟨sl,(hs.2 b (ne_of_lt (lt_of_lt_of_le (Heap.lt_size e) I.ok.above))).trans e1⟩
  ·obtain⟨o',e1⟩:=I.base.there b o e hx
   exact⟨o',(hs.2 b (ne_of_lt (lt_of_lt_of_le (Heap.lt_size e) I.ok.above))).trans e1⟩
  ·by_cases hj:j=i
   ·subst hj
    rw[hi] at e1;cases e1;rw[getElem?_set_self hiσ] at e2;cases e2;exact⟨u,r,.inl ⟨hk,by simp⟩⟩
   ·rw[getElem?_set_ne (Ne.symm hj)] at e2
    obtain⟨u',r',q⟩:=hl j y v' e1 e2 e3;exists u',r',?_;rcases q with ⟨k,e⟩|⟨k,c,e,z⟩
    ·refine .inl ⟨k,?_⟩
     have:y≠x:=fun e=>hj (j3 hN e1 (e ▸ hi))
     simp [this,e]
    ·exact .inr ⟨k,c,e,z.sameBut hs (cne y c e)⟩
  ·obtain⟨w',z⟩:=I.cell y c e
   exact⟨w',z.sameBut hs (cne y c e)⟩
  ·obtain⟨e,n,ne,nf,d⟩:=I.pin p hp
   exact⟨(hs.2 p.1 ne).trans e,n,ne,nf,d⟩
 ·have hfn:X.fn x=true:=by
   rcases hf with z|z
   ·exact z
   ·rw[z] at hk;cases hk
  obtain⟨c,hc⟩:=I.ok.has x (.inl hk);obtain⟨w',z⟩:=I.cell x c hc;refine wpAny_storeName_cell I.ok.kind hk hc z (fun h' hc' hs=>?_);obtain⟨oc,hoc,hocd⟩:=id z;refine h { s with heap:=h' } ⟨I.ok,I.os,I.bare,⟨fun b o e n hb hx=>?_,fun b o e n hb hx=>?_,I.base.free,fun b o e hx=>?_,I.base.tups,I.base.frzs,I.base.tbls⟩,⟨m,hn.sameBut hs (Ne.symm (cne x c hc)),fun j y v' e1 e2 e3=>?_⟩,fun y c' e=>?_,I.free,I.freeC,fun p hp=>?_,tracked ⟨oc,hoc,I.freeC x c hc⟩ hs,by simpa using I.len⟩ ⟨c,hs,.inr hc⟩
  ·exact(hs.2 b (ne_of_lt (lt_of_lt_of_le (Heap.lt_size e) (I.ok.cab x c hfn hc)))).trans (I.base.keep b o e n hb hx)
  ·obtain⟨sl,e1⟩:=I.base.slot b o e n hb hx
   exact⟨sl,(hs.2 b (ne_of_lt (lt_of_lt_of_le (Heap.lt_size e) (I.ok.cab x c hfn hc)))).trans e1⟩
  ·obtain⟨o',e1⟩:=I.base.there b o e hx
   exact⟨o',(hs.2 b (ne_of_lt (lt_of_lt_of_le (Heap.lt_size e) (I.ok.cab x c hfn hc)))).trans e1⟩
  ·by_cases hj:j=i
   ·subst hj
    rw[hi] at e1;cases e1;rw[getElem?_set_self hiσ] at e2;cases e2;exact⟨u,r,.inr ⟨.inl hk,c,hc,hc'⟩⟩
   ·rw[getElem?_set_ne (Ne.symm hj)] at e2
    obtain⟨u',r',q⟩:=hl j y v' e1 e2 e3;exists u',r',?_;rcases q with q|⟨k,c',e,z'⟩
    ·exact .inl q
    ·refine .inr ⟨k,c',e,z'.sameBut hs ?_⟩
     rintro rfl;exact hj (j3 hN e1 (I.ok.inj _ _ _ e hc ▸ hi))
  ·by_cases hcc:c'=c
   ·subst hcc;exact⟨_,hc'⟩
   ·obtain⟨w2,z2⟩:=I.cell y c' e
    exact⟨w2,z2.sameBut hs hcc⟩
  ·obtain⟨e,n,ne,nf,d⟩:=I.pin p hp
   exists (hs.2 p.1 ?_).trans e,n,ne,nf,d;intro q;rw[q,hoc] at e;have q':oc=p.2:=Option.some.inj e;exact d w' (by rw[<- q'];exact hocd)
theorem vo{M:Model}{A:Around}{E:VSP}{i:Nat}{x:Str}{v:V}{u:Value}{Q:Unit->Shared->Prop}(I:Inv X pins σ H s)(hN:X.N.Nodup)(hi:X.N[i]?=some x)(hx:Loc X.env.scope x)(r:zT v u)
  (h:∀s',Inv X pins (σ.set i (some v)) H s'->Q () s') (hf:X.fn x=true\/X.env.scope.names.lookup x=some .local:=by first|exact .inl rfl|exact .inr rfl|assumption):wpAny M A (storeName X.env x u) Q E s:=
 qL I hN hi hx r (fun s' I' _=>h s' I') hf
theorem Inv.call'{s':Shared}{ch:List Addr}(I:Inv X pins σ H s)(ho:s'.os=s.os)(u:Un (frs X.stack) ch H H' s.heap s'.heap)(hok:HOk X.prog X.w H' s'.heap)(hg:AllBare s'.gens)
  (hch:∀b∈ch,(b∈X.ex\/X.s₀.heap.objs.size<=b)/\b≠X.env.locals/\(∀x c,X.env.cells.lookup x=some c->c≠b)/\∀p∈X.pn++pins,p.1≠b):Inv X pins σ H' s':=by
 obtain⟨h',g',d',t',o'⟩:=s';have e:o'=s.os:=ho;subst e;exact I.call (g':=g') (t':=t') (d':=d') u hok hg hch
abbrev XK:=Value->Option Addr->Hp->Prop
abbrev St:=List (Option V)
abbrev VK:=V->Hp->Prop
abbrev TE:=St->Hp->VK->Prop
abbrev TT:=St->Hp->(Bool->Hp->Prop)->Prop
abbrev TA:=St->Hp->(List V->Hp->Prop)->Prop
structure wF where
 nx:St->Hp->Prop
 rt:VK
 bk:St->Hp->Prop:=fun _ _=>False
 ct:St->Hp->Prop:=fun _ _=>False
abbrev TS:=wF->St->Hp->Prop
def EP(X:Cx)(pins:PnL)(σ : St)(Q:VK)(u:Value)(s':Shared):Prop:=∃v H',Inv X pins σ H' s'/\zT v u/\Q v H'
def TP(X:Cx)(pins:PnL)(σ : St)(Q:Bool->Hp->Prop)(b:Bool)(s':Shared):Prop:=∃H',Inv X pins σ H' s'/\Q b H'
def AP(X:Cx)(pins:PnL)(σ : St)(Q:List V->Hp->Prop)(us:List Value)(s':Shared):Prop:=∃vs H',Inv X pins σ H' s'/\zX vs us/\Q vs H'
def SP(X:Cx)(pins:PnL)(D:wF)(f:Flow)(s':Shared):Prop:=
 match f with
 | .next=>∃σ' H',Inv X pins σ' H' s'/\D.nx σ' H'
 | .brk=>∃σ' H',Inv X pins σ' H' s'/\D.bk σ' H'
 | .cont=>∃σ' H',Inv X pins σ' H' s'/\D.ct σ' H'
 | .ret u=>∃v σ' H',Inv X pins σ' H' s'/\zT v u/\D.rt v H'
structure PE(X:Cx)(e:Expr)(t:TE):Prop where
 run:∀(pins:PnL) (s:Shared) (σ : St) (H:Hp) (Q:VK),Inv X pins σ H s->t σ H Q->wpAny (model X.prog X.w) X.A (eval e X.env) (EP X pins σ Q) X.xe s
instance {X:Cx}{e:Expr}{t:TE}:CoeFun (PE X e t) (fun _=>∀(pins:PnL) (s:Shared) (σ : St) (H:Hp) (Q:VK),Inv X pins σ H s->t σ H Q->wpAny (model X.prog X.w) X.A (eval e X.env) (EP X pins σ Q) X.xe s):=⟨PE.run⟩
structure PT(X:Cx)(e:Expr)(t:TT):Prop where
 run:∀(pins:PnL) (s:Shared) (σ : St) (H:Hp) (Q:Bool->Hp->Prop),Inv X pins σ H s->t σ H Q->wpAny (model X.prog X.w) X.A (isTrue e X.env (eval e X.env)) (TP X pins σ Q) X.xe s
instance {X:Cx}{e:Expr}{t:TT}:CoeFun (PT X e t) (fun _=>∀(pins:PnL) (s:Shared) (σ : St) (H:Hp) (Q:Bool->Hp->Prop),Inv X pins σ H s->t σ H Q->wpAny (model X.prog X.w) X.A (isTrue e X.env (eval e X.env)) (TP X pins σ Q) X.xe s):=⟨PT.run⟩
structure PW(X:Cx)(e:Expr)(t:TT):Prop where
 run:∀(whole:Sem Value) (pins:PnL) (s:Shared) (σ : St) (H:Hp) (Q:Bool->Hp->Prop),Inv X pins σ H s->t σ H Q->wpAny (model X.prog X.w) X.A (isTrue e X.env whole) (TP X pins σ Q) X.xe s
instance {X:Cx}{e:Expr}{t:TT}:CoeFun (PW X e t) (fun _=>∀(whole:Sem Value) (pins:PnL) (s:Shared) (σ : St) (H:Hp) (Q:Bool->Hp->Prop),Inv X pins σ H s->t σ H Q->wpAny (model X.prog X.w) X.A (isTrue e X.env whole) (TP X pins σ Q) X.xe s):=⟨PW.run⟩
theorem xi{X:Cx}{e:Expr}{t:TT}(h:PW X e t):PT X e t:=⟨h _⟩
structure PA(X:Cx)(es:List Expr)(t:TA):Prop where
 run:∀(pos:Pos) (pins:PnL) (s:Shared) (σ : St) (H:Hp) (Q:List V->Hp->Prop),Inv X pins σ H s->t σ H Q->wpAny (model X.prog X.w) X.A (spliced (backTo pos (starEach es X.env))) (AP X pins σ Q) X.xe s
instance {X:Cx}{es:List Expr}{t:TA}:CoeFun (PA X es t) (fun _=>∀(pos:Pos) (pins:PnL) (s:Shared) (σ : St) (H:Hp) (Q:List V->Hp->Prop),Inv X pins σ H s->t σ H Q->wpAny (model X.prog X.w) X.A (spliced (backTo pos (starEach es X.env))) (AP X pins σ Q) X.xe s):=⟨PA.run⟩
structure PS(X:Cx)(st:Stmt)(t:TS):Prop where
 run:∀(pins:PnL) (s:Shared) (σ : St) (H:Hp) (D:wF),Inv X pins σ H s->t D σ H->wpAny (model X.prog X.w) X.A (exec st X.env) (SP X pins D) X.xe s
instance {X:Cx}{st:Stmt}{t:TS}:CoeFun (PS X st t) (fun _=>∀(pins:PnL) (s:Shared) (σ : St) (H:Hp) (D:wF),Inv X pins σ H s->t D σ H->wpAny (model X.prog X.w) X.A (exec st X.env) (SP X pins D) X.xe s):=⟨PS.run⟩
structure PSs(X:Cx)(st:List Stmt)(t:TS):Prop where
 run:∀(pins:PnL) (s:Shared) (σ : St) (H:Hp) (D:wF),Inv X pins σ H s->t D σ H->wpAny (model X.prog X.w) X.A (execs st X.env) (SP X pins D) X.xe s
instance {X:Cx}{st:List Stmt}{t:TS}:CoeFun (PSs X st t) (fun _=>∀(pins:PnL) (s:Shared) (σ : St) (H:Hp) (D:wF),Inv X pins σ H s->t D σ H->wpAny (model X.prog X.w) X.A (execs st X.env) (SP X pins D) X.xe s):=⟨PSs.run⟩
theorem thn{α : Type}{t:Sem α}{Q Q' : α->Shared->Prop}{M:Model}{A:Around}{E:VSP}{s:Shared}(h:wpAny M A t Q E s)(hQ:∀a s,Q a s->Q' a s):wpAny M A t Q' E s:=wpAny_mono h hQ fun _ _ x=>x
inductive zmr(i:Nat)(σ : St)(H:Hp)(Q:VK):Prop where
 | mk (v:V) (e : σ[i]?=some (some v)) (q:Q v H)
def zbU(i:Nat):TE:=fun σ H Q=>zmr i σ H Q
def tC(v:V):TE:=fun _ H Q=>Q v H
theorem zjp{i:Nat}{x:Str}{pos:Pos}(hN:X.N[i]?=some x)(hv:Vis X.env.scope x)(hd:(x==("__debug__" : Str))=false:=by decide)(hcd:(x==("__classdict__" : Str))=false:=by decide):PE X (.Name x pos) (zbU i):=by
 exists ?_;intro pins s σ H Q I h;obtain⟨v,e,h⟩:=h;obtain⟨m,hn,hl⟩:=I.loc;obtain⟨u,r,l⟩:=hl i x v hN e hv;have fin:EP X pins σ Q u s:=⟨v,H,I,r,h⟩;rcases l with ⟨hk,hm⟩|⟨hk,c,hc,hcell⟩
 ·exact wpAny_Name (wpAny_loadName_local I.ok.kind hk hn hm fin) hd
 ·rcases hk with hk|hk
  ·exact wpAny_Name (wpAny_loadName_cell I.ok.kind hk hc hcell fin) hd
  ·exact wpAny_Name (wpAny_loadName_free I.ok.kind hk hc hcell fin hcd) hd
theorem zi{i j pos}:PE X (.Constant (.int i) j pos) (tC (.int i)):=⟨fun _ _ _ H _ I h=>wpAny_Constant_int ⟨.int i,H,I.tok _,⟨_,rfl⟩,h⟩⟩
theorem jW{b j pos}:PE X (.Constant (.bool b) j pos) (tC (.bl b)):=⟨fun _ _ _ H _ I h=>Constant_bool ⟨.bl b,H,I,rfl,h⟩⟩
theorem zfi{j pos}:PE X (.Constant .none j pos) (tC .non):=⟨fun _ _ _ H _ I h=>Constant_none ⟨.non,H,I,rfl,h⟩⟩
theorem zr{x j pos}:PE X (.Constant (.str x) j pos) (tC (.str x)):=⟨fun _ _ _ H _ I h=>Calls.Constant_str ⟨.str x,H,I.tok _,⟨_,rfl⟩,h⟩⟩
def Gl(X:Cx)(x:Str):Prop:=X.env.kindOf x=some .globalImplicit
theorem xX{E:VSP}{pins:PnL}{s:Shared}{σ : St}{H:Hp}{x:Str}{u:Value}{pos:Pos}{Q:VSP}(I:Inv X pins σ H s)(hg:Gl X x)(hm:X.mg x=some u)(h:Q u s)
  (hd:(x==("__debug__" : Str))=false:=by decide):wpAny (model X.prog X.w) X.A (eval (.Name x pos) X.env) Q E s:=
 Calls.Name_function_global I.ok.kind hg (Calls.loadGlobal_global (by rw[I.ok.glob];exact I.mod.glob.keeps I.bk) hm h) hd
theorem vA{E:VSP}{pins:PnL}{s:Shared}{σ : St}{H:Hp}{x:Str}{u:Value}{pos:Pos}{Q:VSP}(I:Inv X pins σ H s)(hg:Gl X x)(hm:X.mg x=none)(hv:bootBuiltins x=some u)(h:Q u s)
  (hn:x≠"__name__":=by decide) (hd:(x==("__debug__" : Str))=false:=by decide):wpAny (model X.prog X.w) X.A (eval (.Name x pos) X.env) Q E s:=by
 obtain⟨mb,h1,h2⟩:=I.mod.blt;exact Calls.Name_function_global I.ok.kind hg (Calls.loadGlobal_builtin (by rw[I.ok.glob];exact I.mod.glob.keeps I.bk) hm (by rw[I.ok.blt];exact h1.keeps I.bk) ((h2 x hn).trans hv) h) hd
theorem yB{x:Str}{v:V}{u:Value}{pos:Pos}(hg:Gl X x)(hm:X.mg x=some u)(r:zT v u)(hd:(x==("__debug__" : Str))=false:=by decide):PE X (.Name x pos) (tC v):=⟨fun _ _ _ H _ I h=>xX I hg hm ⟨v,H,I,r,h⟩ hd⟩
theorem zde{x:Str}{v:V}{u:Value}{pos:Pos}(hg:Gl X x)(hm:X.mg x=none)(hv:bootBuiltins x=some u)(r:zT v u)(hn:x≠"__name__":=by decide)(hd:(x==("__debug__" : Str))=false:=by decide):PE X (.Name x pos) (tC v):=⟨fun _ _ _ H _ I h=>vA I hg hm hv ⟨v,H,I,r,h⟩ hn hd⟩
variable {a b:Expr}{ta tb:TE}{pos:Pos}
structure PC(X:Cx)(op:CmpOp)(a b:Expr)(t:TE):Prop where
 run:∀(pins:PnL) (s:Shared) (σ : St) (H:Hp) (Q:VK),Inv X pins σ H s->t σ H Q->
  wpAny (model X.prog X.w) X.A (eval a X.env) (fun v s₁=>wpAny (model X.prog X.w) X.A (eval b X.env) (fun u s₂=>wpAny (model X.prog X.w) X.A (compareOp op v u) (EP X pins σ Q) X.xe s₂) X.xe s₁) X.xe s
instance {X:Cx}{op:CmpOp}{a b:Expr}{t:TE}:CoeFun (PC X op a b t) (fun _=>∀(pins:PnL) (s:Shared) (σ : St) (H:Hp) (Q:VK),Inv X pins σ H s->t σ H Q->
  wpAny (model X.prog X.w) X.A (eval a X.env) (fun v s₁=>wpAny (model X.prog X.w) X.A (eval b X.env) (fun u s₂=>wpAny (model X.prog X.w) X.A (compareOp op v u) (EP X pins σ Q) X.xe s₂) X.xe s₁) X.xe s):=⟨PC.run⟩
theorem zf1(b:Expr){op:CmpOp}(h:op≠.In)(h2:op≠.NotIn):behindInMarks op b=false:=by
 have e1:(op==CmpOp.In)=false:=by cases op <;> first|rfl|exact absurd rfl h
 have e2:(op==CmpOp.NotIn)=false:=by cases op <;> first|rfl|exact absurd rfl h2
 cases b <;> simp [behindInMarks,e1,e2]
def zlE(ta:TE):TE:=fun σ H Q=>ta σ H fun x H1=>Q (.bl (decide (x=.non))) H1
def zkm(ta:TE):TE:=fun σ H Q=>ta σ H fun x H1=>Q (.bl (!decide (x=.non))) H1
theorem zT.none_iff{x:V}{v:Value}(r:zT x v):(v==Value.none)=decide (x=.non):=by
 cases x with
 | non=>cases r;rfl
 | bl _=>cases r;rfl
 | int _=>obtain⟨t,rfl⟩:=r;rfl
 | str _=>obtain⟨t,rfl⟩:=r;rfl
 | byt _=>obtain⟨t,rfl⟩:=r;rfl
 | flt _=>obtain⟨t,rfl⟩:=r;rfl
 | ref _=>cases r;rfl
 | ty _=>cases r;rfl
theorem zaK{j pos'}(ha:PE X a ta):PC X .Is a (.Constant .none j pos') (zlE ta):=by
 exists ?_;intro pins s σ H Q I h;refine thn (ha pins s σ H _ I h) fun v s1 ⟨x,H1,I1,r1,q1⟩=>?_;exact Constant_none (is_none_gen ⟨.bl _,H1,I1,by rw[r1.none_iff];rfl,q1⟩)
theorem zhl{j pos'}(ha:PE X a ta):PC X .IsNot a (.Constant .none j pos') (zkm ta):=by
 exists ?_;intro pins s σ H Q I h;refine thn (ha pins s σ H _ I h) fun v s1 ⟨x,H1,I1,r1,q1⟩=>?_;exact Constant_none (isnot_none_gen ⟨.bl _,H1,I1,by rw[r1.none_iff];rfl,q1⟩)
def tB(t:TE):TT:=fun σ H Q=>t σ H fun x H1=>∃c,x=.bl c/\Q c H1
theorem ue{op:CmpOp}{t:TE}(h:PC X op a b t)(h1:behindInMarks op b=false:=by first|exact zf1 _ (by decide) (by decide)|rfl):PT X (.Compare a [op] [b] pos) (tB t):=by
 exists ?_;intro pins s σ H Q I hw;refine wpAny_isTrue_Compare1 (thn (h pins s σ H _ I hw) fun v s1 h1=>thn h1 fun u s2 h2=>thn h2 fun c s3 ⟨x,H1,I1,r1,q1⟩=>?_) h1;obtain⟨d,rfl,q⟩:=q1;cases r1;exact wpAny_truthy_bool ⟨H1,I1,q⟩
theorem yp{e:Expr}{t:TE}(h:PE X e t)(he:∀whole,isTrue e X.env whole=(do let v <- whole;standAt e.pos;holding [v] (truthy v)):=by intro _;rfl):PT X e (tB t):=by
 exists ?_;intro pins s σ H Q I hw;refine isTrue_plain (thn (h pins s σ H _ I hw) fun v s1 ⟨x,H1,I1,r1,q1⟩=>?_) (he _);obtain⟨d,rfl,q⟩:=q1;cases r1;exact wpAny_truthy_bool ⟨H1,I1,q⟩
variable {tA tB':TT}{xT:List Expr}
def zlK(t u:TT):TT:=fun σ H Q=>t σ H fun c H1=>if c=true then u σ H1 Q else Q false H1
def tOr(t u:TT):TT:=fun σ H Q=>t σ H fun c H1=>if c=true then Q true H1 else u σ H1 Q
def zlB(t:TT):TT:=fun σ H Q=>t σ H fun c H1=>Q (!c) H1
theorem yK(ha:PT X a tA):PW X (.BoolOp .And [a] pos) tA:=by
 exists ?_;intro wh pins s σ H Q I h;refine isTrue_and (thn (ha pins s σ H Q I h) fun c s1 e=>?_);cases c with
 | true=>exact isTrue_and_nil e
 | false=>exact e
theorem uK(ha:PT X a tA):PW X (.BoolOp .Or [a] pos) tA:=by
 exists ?_;intro wh pins s σ H Q I h;refine isTrue_or (thn (ha pins s σ H Q I h) fun c s1 e=>?_);cases c with
 | false=>exact isTrue_or_nil e
 | true=>exact e
theorem y8(ha:PT X a tA)(hb:PW X (.BoolOp .And (b::xT) pos) tB'):PW X (.BoolOp .And (a::b::xT) pos) (zlK tA tB'):=by
 exists ?_;intro wh pins s σ H Q I h;refine isTrue_and (thn (ha pins s σ H _ I h) fun c s1 ⟨H1,I1,q1⟩=>?_);cases c with
 | true=>exact hb wh pins s1 σ H1 Q I1 q1
 | false=>exact⟨H1,I1,q1⟩
theorem jS(ha:PT X a tA)(hb:PW X (.BoolOp .Or (b::xT) pos) tB'):PW X (.BoolOp .Or (a::b::xT) pos) (tOr tA tB'):=by
 exists ?_;intro wh pins s σ H Q I h;refine isTrue_or (thn (ha pins s σ H _ I h) fun c s1 ⟨H1,I1,q1⟩=>?_);cases c with
 | true=>exact⟨H1,I1,q1⟩
 | false=>exact hb wh pins s1 σ H1 Q I1 q1
theorem vc(ha:PT X a tA):PT X (.UnaryOp .Not a pos) (zlB tA):=by
 exists ?_;intro pins s σ H Q I h;exact isTrue_not (ha pins s σ H (fun c H1=>Q (!c) H1) I h)
def zkq(ta tb:TE):TE:=fun σ H Q=>ta σ H fun x H1=>∃c,x=.bl c/\if c=true then tb σ H1 Q else Q (.bl false) H1
theorem zjq{op}{t:TE}(h:PE X a t):PE X (.BoolOp op [a] pos) t:=⟨fun pins s σ H Q I hw=>BoolOp_one (h pins s σ H Q I hw)⟩
theorem zfn(ha:PE X a ta)(hb:PE X (.BoolOp .And (b::xT) pos) tb):PE X (.BoolOp .And (a::b::xT) pos) (zkq ta tb):=by
 exists ?_;intro pins s σ H Q I h;refine BoolOp_and (thn (ha pins s σ H _ I h) fun v s1 ⟨x,H1,I1,r1,q1⟩=>?_);obtain⟨c,rfl,q1⟩:=q1;cases r1;refine wpAny_truthy_bool ?_;cases c with
 | true=>exact hb pins s1 σ H1 Q I1 q1
 | false=>exact⟨.bl false,H1,I1,rfl,q1⟩
def tIf(t:TT)(ta tb:TE):TE:=fun σ H Q=>t σ H fun c H1=>if c=true then ta σ H1 Q else tb σ H1 Q
theorem jU{c:Expr}(hc:PT X c tA)(ha:PE X a ta)(hb:PE X b tb):PE X (.IfExp c a b pos) (tIf tA ta tb):=by
 exists ?_;intro pins s σ H Q I h;refine wpAny_IfExp (thn (hc pins s σ H _ I h) fun d s1 ⟨H1,I1,q1⟩=>?_);cases d with
 | true=>exact ha pins s1 σ H1 Q I1 q1
 | false=>exact hb pins s1 σ H1 Q I1 q1
def SqL(K:Frag)(H:Hp)(a:Addr)(xs:List V):Prop:=
 Rd H a (.lst xs)\/
  ∃(o:Obj) (its:Array Value) (n:Nat),K.lookup a=some o/\o.cls=.type "list"/\o.dict=none/\o.data=.seq its n/\its.size<=sizeLine/\zX xs its.toList
def SqT(K:Frag)(H:Hp)(a:Addr)(xs:List V):Prop:=
 Rd H a (.tup xs)\/
  ∃(o:Obj) (its:Array Value) (n:Nat),K.lookup a=some o/\o.cls=.type "tuple"/\o.data=.seq its n/\its.size<=sizeLine/\zX xs its.toList
def zml:Value->Option V
 | .none=>some .non
 | .bool b=>some (.bl b)
 | .int i _=>some (.int i)
 | .str x _=>some (.str x)
 | .bytes b _=>some (.byt b)
 | .float b _=>some (.flt b)
 | .ref a=>some (.ref a)
 | .type n=>some (.ty n)
 | _=>none
theorem zT.abs{x:V}{u:Value}(r:zT x u):zml u=some x:=by
 cases x with
 | non=>cases r;rfl
 | bl _=>cases r;rfl
 | int _=>obtain⟨t,rfl⟩:=r;rfl
 | str _=>obtain⟨t,rfl⟩:=r;rfl
 | byt _=>obtain⟨t,rfl⟩:=r;rfl
 | flt _=>obtain⟨t,rfl⟩:=r;rfl
 | ref _=>cases r;rfl
 | ty _=>cases r;rfl
theorem zT.inj{x y:V}{u:Value}(r:zT x u)(q:zT y u):x=y:=Option.some.inj (r.abs.symm.trans q.abs)
theorem zX.inj:∀{xs ys:List V}{us:List Value},zX xs us->zX ys us->xs=ys
 | _,_,_,.nil,.nil=>rfl
 | _,_,_,.cons r t,.cons r' t'=>by rw[r.inj r',zX.inj t t']
end
section
variable {X:Cx}{pins:PnL}{σ:St}{H:Hp}{s:Shared}{a:Addr}{xs ys:List V}
theorem zg{K:Frag}(h:H a=some (.lst xs)):SqL K H a xs:=.inl (.inl h)
theorem zv{K:Frag}(h:H a=some (.tup xs)):SqT K H a xs:=.inl (.inl h)
theorem Inv.list(I:Inv X pins σ H s)(h:SqL X.K H a xs):∃its:List Value,zX xs its/\PlainL s.heap a its.toArray/\xs.length<=sizeLine:=by
 rcases h with h|⟨o,its,n,hk,hc,hd,hs,hz,r⟩
 ·obtain⟨z,its,n,r,e⟩:=h.ok I.hok
  exact⟨its,r,⟨_,n,e,rfl,rfl,rfl⟩,z⟩
 ·exists its.toList,r,⟨o,n,I.kIn a o hk,hc,hd,by simpa using hs⟩,?_
  have e:=r.length;simp only[Array.length_toList] at e;omega
theorem Inv.tuple(I:Inv X pins σ H s)(h:SqT X.K H a xs):∃its:List Value,zX xs its/\IsTup s.heap a its.toArray/\xs.length<=sizeLine:=by
 rcases h with h|⟨o,its,n,hk,hc,hs,hz,r⟩
 ·obtain⟨z,its,r,p⟩:=h.ok I.hok
  exact⟨its,r,p,z⟩
 ·exists its.toList,r,⟨o,I.kIn a o hk,hc,n,by simpa using hs⟩,?_
  have e:=r.length;simp only[Array.length_toList] at e;omega
theorem Inv.list_inj(I:Inv X pins σ H s)(h:SqL X.K H a xs)(h':SqL X.K H a ys):xs=ys:=by
 obtain⟨its,r,⟨o,n,e,_,_,d⟩,_⟩:=I.list h;obtain⟨its',r',⟨o',n',e',_,_,d'⟩,_⟩:=I.list h';rw[e] at e';cases e';rw[d] at d';injection d' with d1 _
 have:its=its':=by simpa using congrArg Array.toList d1
 subst this;exact r.inj r'
abbrev Cx.wish(X:Cx)(E:VSP):Cx:={ X with xe:=E }
abbrev Cx.nox(X:Cx):Cx:=X.wish fun _ _=>False
theorem Cx.Ok.wish{X:Cx}(ok:X.Ok)(E:VSP):(X.wish E).Ok:=
 ⟨ok.mod,ok.kind,ok.glob,ok.blt,ok.above,ok.inj,ok.has,ok.cab,ok.hd,ok.frames,ok.stk,ok.exf,ok.bs,ok.bsz,ok.noex,ok.exfs,ok.funs,ok.frf⟩
theorem Cx.Ok.unwish{X:Cx}{E:VSP}(ok:(X.wish E).Ok):X.Ok:=
 ⟨ok.mod,ok.kind,ok.glob,ok.blt,ok.above,ok.inj,ok.has,ok.cab,ok.hd,ok.frames,ok.stk,ok.exf,ok.bs,ok.bsz,ok.noex,ok.exfs,ok.funs,ok.frf⟩
variable {E:VSP}
theorem Inv.wish(I:Inv X pins σ H s)(E:VSP):Inv (X.wish E) pins σ H s:=⟨I.ok.wish E,I.os,I.bare,I.base,I.loc,I.cell,I.free,I.freeC,I.pin,I.hok,I.len⟩
theorem Inv.unwish(I:Inv (X.wish E) pins σ H s):Inv X pins σ H s:=⟨I.ok.unwish,I.os,I.bare,I.base,I.loc,I.cell,I.free,I.freeC,I.pin,I.hok,I.len⟩
theorem SP.unwish{D:wF}{f:Flow}{s':Shared}(h:SP (X.wish E) pins D f s'):SP X pins D f s':=by
 cases f with
 | next=>obtain⟨σ',H',I,q⟩:=h;exact⟨σ',H',I.unwish,q⟩
 | brk=>obtain⟨σ',H',I,q⟩:=h;exact⟨σ',H',I.unwish,q⟩
 | cont=>obtain⟨σ',H',I,q⟩:=h;exact⟨σ',H',I.unwish,q⟩
 | ret u=>obtain⟨v,σ',H',I,r,q⟩:=h;exact⟨v,σ',H',I.unwish,r,q⟩
theorem PSs.nox{st:List Stmt}{t:TS}(h:PSs X.nox st t):PSs X st t:=⟨fun pins s σ H D I hw=>
 wpAny_mono (h pins s σ H D (I.wish _) hw) (fun _ _ q=>q.unwish) fun _ _ z=>False.elim z⟩
variable {st:Stmt}{xT:List Stmt}{t u:TS}{e:Expr}{te:TE}{pos:Pos}
def qK:TS:=fun D σ H=>D.nx σ H
def uB(t u:TS):TS:=fun D σ H=>t { D with nx:=u D } σ H
theorem zA:PSs X [] qK:=⟨fun _ _ σ H _ I h=>wpAny_execs_nil ⟨σ,H,I,h⟩⟩
theorem zh(h1:PS X st t)(h2:PSs X xT u):PSs X (st::xT) (uB t u):=by
 exists ?_;intro pins s σ H D I h;refine wpAny_execs_cons (thn (h1 pins s σ H { D with nx:=u D } I h) fun f s1 q=>?_)
 cases f with
 | next=>
  obtain⟨σ',H',I',q⟩:=q;exact h2 pins s1 σ' H' D I' q
 | ret v=>exact q
 | brk=>exact q
 | cont=>exact q
theorem zc(h1:PS X st t):PSs X [st] t:=by
 exists ?_;intro pins s σ H D I h;refine wpAny_execs_cons (thn (h1 pins s σ H D I h) fun f s1 q=>?_);cases f with
 | next=>exact wpAny_execs_nil q
 | ret v=>exact q
 | brk=>exact q
 | cont=>exact q
theorem Inv.quiet{pins:PnL}{σ : St}{H:Hp}{s:Shared}(I:Inv X pins σ H s):interactive X.env=false:=by simp [interactive,I.ok.kind]
def zko(te:TE):TS:=fun D σ H=>te σ H fun _ H1=>D.nx σ H1
theorem zG(he:PE X e te)(hs:swapsWith e none pos.line X.env=pure false:=by rfl):PS X (.Expr e pos) (zko te):=by
 exists ?_;intro pins s σ H D I h;exact wpAny_Expr_any (thn (he pins s σ H _ I h) fun v s1 ⟨x,H1,I1,r1,q1⟩=>⟨σ,H1,I1,q1⟩) I.quiet hs
def zlA(te:TE):TS:=fun D σ H=>te σ H D.rt
theorem zu(he:PE X e te):PS X (.Return (some e) pos) (zlA te):=by
 exists ?_;intro pins s σ H D I h;exact wpAny_Return_some (thn (he pins s σ H _ I h) fun v s1 ⟨x,H1,I1,r1,q1⟩=>⟨x,σ,H1,I1,r1,q1⟩)
def ziM(c:TT)(t u:TS):TS:=fun D σ H=>c σ H fun b H1=>if b=true then t D σ H1 else u D σ H1
theorem zE{c:Expr}{a b:List Stmt}{tc:TT}(hc:PT X c tc)(ha:PSs X a t)(hb:PSs X b u):PS X (.If c a b pos) (ziM tc t u):=by
 exists ?_;intro pins s σ H D I h;refine wpAny_If (thn (hc pins s σ H _ I h) fun d s1 ⟨H1,I1,q1⟩=>?_);cases d with
 | true=>exact ha pins s1 σ H1 D I1 q1
 | false=>exact hb pins s1 σ H1 D I1 q1
abbrev TG:=V->St->Hp->(St->Hp->Prop)->Prop
abbrev TGs:=List V->St->Hp->(St->Hp->Prop)->Prop
structure PG(X:Cx)(target:Expr)(t:TG):Prop where
 run:∀(pins:PnL) (s:Shared) (σ : St) (H:Hp) (v:V) (u:Value) (Q:St->Hp->Prop),Inv X pins σ H s->zT v u->t v σ H Q->
  wpAny (model X.prog X.w) X.A (assign target X.env u) (fun _ s'=>∃σ' H',Inv X pins σ' H' s'/\Q σ' H') X.xe s
instance {X:Cx}{target:Expr}{t:TG}:CoeFun (PG X target t) (fun _=>∀(pins:PnL) (s:Shared) (σ : St) (H:Hp) (v:V) (u:Value) (Q:St->Hp->Prop),Inv X pins σ H s->zT v u->t v σ H Q->
  wpAny (model X.prog X.w) X.A (assign target X.env u) (fun _ s'=>∃σ' H',Inv X pins σ' H' s'/\Q σ' H') X.xe s):=⟨PG.run⟩
structure PGs(X:Cx)(ts:List Expr)(t:TGs):Prop where
 run:∀(pins:PnL) (s:Shared) (σ : St) (H:Hp) (vs:List V) (us:List Value) (Q:St->Hp->Prop),Inv X pins σ H s->zX vs us->t vs σ H Q->
  wpAny (model X.prog X.w) X.A (assignInOrder ((assignEach ts X.env).map (·.2)) us) (fun _ s'=>∃σ' H',Inv X pins σ' H' s'/\Q σ' H') X.xe s
instance {X:Cx}{ts:List Expr}{t:TGs}:CoeFun (PGs X ts t) (fun _=>∀(pins:PnL) (s:Shared) (σ : St) (H:Hp) (vs:List V) (us:List Value) (Q:St->Hp->Prop),Inv X pins σ H s->zX vs us->t vs σ H Q->
  wpAny (model X.prog X.w) X.A (assignInOrder ((assignEach ts X.env).map (·.2)) us) (fun _ s'=>∃σ' H',Inv X pins σ' H' s'/\Q σ' H') X.xe s):=⟨PGs.run⟩
def zS(i:Nat):TG:=fun v σ H Q=>Q (σ.set i (some v)) H
theorem zp{i:Nat}{x:Str}(hN:X.N.Nodup)(hi:X.N[i]?=some x)(hx:Loc X.env.scope x)(hf:X.fn x=true\/X.env.scope.names.lookup x=some .local:=by first|exact .inl rfl|exact .inr rfl|assumption):PG X (.Name x pos) (zS i):=by
 exists ?_;intro pins s σ H v u Q I r h;exact wpAny_assign_Name (vo I hN hi hx r (fun s' I'=>⟨_,H,I',h⟩) hf)
def zln:TGs:=fun vs σ H Q=>vs=[]/\Q σ H
def zgn(t:TG)(u:TGs):TGs:=fun vs σ H Q=>∃v r,vs=v::r/\t v σ H fun σ' H'=>u r σ' H' Q
theorem yk:PGs X [] zln:=by
 exists ?_;intro pins s σ H vs us Q I r h;obtain⟨e,h⟩:=h;subst e;cases r;exact assignInOrder_nil ⟨σ,H,I,h⟩
theorem zB{e:Expr}{es:List Expr}{t:TG}{u:TGs}(h1:PG X e t)(h2:PGs X es u)
  (hs:(assignEach (e::es) X.env).map (·.2)=assign e X.env::(assignEach es X.env).map (·.2):=by rfl):PGs X (e::es) (zgn t u):=by
 exists ?_;intro pins s σ H vs us Q I r h;obtain⟨v,vr,e1,h⟩:=h;subst e1;cases r with
 | cons r rr=>
  rw[hs];refine assignInOrder_cons (thn (h1 pins s σ H _ _ _ I r h) fun _ s1 ⟨σ1,H1,I1,q1⟩=>?_);exact h2 pins s1 σ1 H1 _ _ Q I1 rr q1
inductive zlmJ(K:Frag)(n:Nat)(t:TGs)(v:V)(σ:St)(H:Hp)(Q:St->Hp->Prop):Prop|mk(a xs:_):v=.ref a->SqT K H a xs->xs.length=n->(t xs σ H Q)->zlmJ K n t v σ H Q
def zlm(K:Frag)(n:Nat)(t:TGs):TG:=fun v σ H Q=>zlmJ K n t v σ H Q
theorem yE{es:List Expr}{k:Nat}{t:TGs}{n:Nat}(hc:X.calm=true)(h:PGs X es t)
  (hn:(assignEach es X.env).length=n:=by rfl) (hst:(assignEach es X.env).findIdx? (·.1)=none:=by rfl):PG X (.Tuple es k pos) (zlm X.K n t):=by
 exists ?_;intro pins s σ H v u Q I r hw;obtain⟨a,xs,e1,hq,hl,hw⟩:=hw;subst e1;cases r;obtain⟨its,rv,ht,hz⟩:=I.tuple hq;refine assign_Tuple_tuple (I.ok.hd hc) ht (by simp [hn,<- hl,rv.length]) hst fun h' hx=>?_
 have I1:Inv X pins σ H { s with heap:=h' }:=I.kept (t':=s.toks) fun b o e=>hx b o (ne_of_lt (Heap.lt_size e)) e
 exact h pins _ σ H xs _ Q I1 (by simpa using rv) hw
def zgN(te:TE)(g:TG):TS:=fun D σ H=>te σ H fun x H1=>g x σ H1 D.nx
theorem vd{tg e:Expr}{te:TE}{g:TG}(he:PE X e te)(hg:PG X tg g)(hs:swapsWithSole [tg] e pos.line X.env=pure false:=by rfl)(hw:swappedStores [tg] e X.env=pure none:=by rfl)
  (h1:(assignEach [tg] X.env).map (·.2)=[assign tg X.env]:=by rfl):PS X (.Assign [tg] e pos) (zgN te g):=by
 exists ?_;intro pins s σ H D I h;refine wpAny_Assign_stores (thn (he pins s σ H _ I h) fun v s1 ⟨x,H1,I1,r1,q1⟩=>?_) hs hw;rw[h1];exact thn (hg pins s1 σ H1 x v _ I1 r1 q1) fun _ s2 q=>q
theorem zw{i:Nat}{x:Str}{e:Expr}{te:TE}{pos':Pos}(hN:X.N.Nodup)(hi:X.N[i]?=some x)(hx:Loc X.env.scope x)(he:PE X e te)(hs:swapsWith e (some (.Name x pos')) pos.line X.env=pure false:=by rfl)(hf:X.fn x=true\/X.env.scope.names.lookup x=some .local:=by first|exact .inl rfl|exact .inr rfl|assumption):
  PS X (.Assign [.Name x pos'] e pos) (zgN te (zS i)):=by
 exists ?_;intro pins s σ H D I h;refine wpAny_Assign_Name (thn (he pins s σ H _ I h) fun v s1 ⟨y,H1,I1,r1,q1⟩=>?_) hs;exact vo I1 hN hi hx r1 (fun s2 I2=>⟨_,H1,I2,q1⟩) hf
structure It where
 go:Nat->Hp->Prop
 yld:Nat->Hp->V->Hp->Prop
 stop:Nat->Hp->Prop
def vf(X:Cx)(pins:PnL)(H:Hp)(b:Addr):Prop:=
 H b=none/\b≠X.env.locals/\b∉X.fs/\(b∈X.ex\/X.s₀.heap.objs.size<=b)/\(∀x c,X.env.cells.lookup x=some c->c≠b)/\∀p∈X.pn++pins,p.1≠b
theorem Inv.fpOk{X:Cx}{pins:PnL}{σ : St}{H H':Hp}{s:Shared}{b:Addr}(I:Inv X pins σ H s)(hb:s.heap.objs.size<=b)(hn:H' b=none):vf X pins H' b:=by
 exists hn,Nat.ne_of_gt (lt_of_lt_of_le I.lt hb),I.nofs hb,.inr (le_trans I.sz hb),fun x c e z=>?_,fun p hp z=>?_
 ·obtain⟨v,q⟩:=I.cell x c e
  exact absurd (lt_of_lt_of_le q.lt (by rw[z];exact hb)) (lt_irrefl _)
 ·exact absurd (lt_of_lt_of_le (Heap.lt_size (I.pin p hp).1) (by rw[z];exact hb)) (lt_irrefl _)
structure qF(P:Program)(w:World)(K:Frag)(tg:Expr)(J:It)(fp:List Addr)(it:Addr)(tn:Nat->Heap->Prop):Prop where
 mem:it∈fp
 obj:∀i h,tn i h->∀b∈fp,∃o,h.get? b=some o/\∀v,o.data≠.cell v
 keep:∀i h h',tn i h->(∀b∈fp,∀o,h.get? b=some o->h'.get? b=some o)->tn i h'
 item:∀(X:Cx),X.prog=P->X.w=w->X.K=K->X.calm=true->∀(i:Nat) (pins:PnL) (s:Shared) (σ : St) (H:Hp) (E:VSP),Inv X pins σ H s->(∀b∈fp,vf X pins H b)->tn i s.heap->J.go i H->
  wpAny (model P w) X.A (pyNext (.ref it)) (fun r s1=>∃u,r=some u/\
   wpAny (model P w) X.A (letOwnedTupleGo tg (.ref it) u) (fun _ s2=>∃x H',Inv X pins σ H' s2/\zT x u/\J.yld i H x H'/\tn (i+1) s2.heap/\∀b∈fp,H' b=none) E s1) E s
 done:∀(X:Cx),X.prog=P->X.w=w->X.K=K->X.calm=true->∀(i:Nat) (pins:PnL) (s:Shared) (σ : St) (H:Hp) (E:VSP),Inv X pins σ H s->(∀b∈fp,vf X pins H b)->tn i s.heap->J.stop i H->
  wpAny (model P w) X.A (pyNext (.ref it)) (fun r s1=>r=none/\Inv X pins σ H s1) E s
 self:∀(A:Around) (i:Nat) (s:Shared) (Q:VSP) (E:VSP),tn i s.heap->Q (.ref it) s->wpAny (model P w) A (pyIter (.ref it)) Q E s
abbrev TI:=St->Hp->(It->Hp->Prop)->Prop
def PIE(X:Cx)(pins:PnL)(σ : St)(tg:Expr)(R:It->Hp->Prop)(itv:Value)(s2:Shared):Prop:=
 ∃(it:Addr) (fp:List Addr) (tn:Nat->Heap->Prop) (J:It) (H':Hp),itv=.ref it/\Inv X pins σ H' s2/\qF X.prog X.w X.K tg J fp it tn/\tn 0 s2.heap/\(∀b∈fp,vf X pins H' b)/\R J H'
structure PI(X:Cx)(tg iter:Expr)(wi:TI):Prop where
 run:∀(pins:PnL) (s:Shared) (σ : St) (H:Hp) (R:It->Hp->Prop),Inv X pins σ H s->wi σ H R->
  wpAny (model X.prog X.w) X.A (eval iter X.env) (fun v s1=>wpAny (model X.prog X.w) X.A (pyIter v) (PIE X pins σ tg R) X.xe s1) X.xe s
instance {X:Cx}{tg iter:Expr}{wi:TI}:CoeFun (PI X tg iter wi) (fun _=>∀(pins:PnL) (s:Shared) (σ : St) (H:Hp) (R:It->Hp->Prop),Inv X pins σ H s->wi σ H R->
  wpAny (model X.prog X.w) X.A (eval iter X.env) (fun v s1=>wpAny (model X.prog X.w) X.A (pyIter v) (PIE X pins σ tg R) X.xe s1) X.xe s):=⟨PI.run⟩
theorem zgl{M:Model}{A:Around}{E:VSP}{s:Shared}{tg:Expr}{it:Addr}{u:Value}{o:Obj}{n:String}{vs:Array Value}{Q:Unit->Shared->Prop}(ho:s.heap.get? it=some o)(hc:o.cls=.type n)(hd:o.data=.fields vs)
  (hn:["enumerate","zip","dict_itemiterator","dict_reverseitemiterator","odict_iterator","itertools.zip_longest","itertools.pairwise"].contains n=false) (hQ:Q () s):wpAny M A (letOwnedTupleGo tg (.ref it) u) Q E s:=by
 unfold letOwnedTupleGo;cases tg <;> first
  | exact zwp hQ
  | (cases u <;> first
    | exact zwp hQ
    | (refine zwb (wpAny_load ho ?_)
       rw[hc,hd];show wpAny M A (if (["enumerate","zip","dict_itemiterator","dict_reverseitemiterator","odict_iterator","itertools.zip_longest","itertools.pairwise"].contains n&&vs[0]?==some (rawInt _))=true then _ else _) Q E s
       rw[if_neg (by intro h;rw[hn,Bool.false_and] at h;cases h)]
       exact zwp hQ))
def Itl(K:Frag)(a:Addr):It:=
 ⟨fun i H=>∃xs x,SqL K H a xs/\xs[i]?=some x,fun i H x H'=>H'=H/\∀xs,SqL K H a xs->xs[i]?=some x,fun i H=>∃xs,SqL K H a xs/\xs.length<=i⟩
def Itr(lo:Int)(n:Nat):It:=⟨fun i _=>i<n,fun i H x H'=>H'=H/\x=.int (lo+i),fun i _=>n<=i⟩
theorem zdH{P:Program}{w:World}{K:Frag}{tg:Expr}(a it:Addr):qF P w K tg (Itl K a) [it] it (fun i h=>h.IsListIter it a i) where
 mem:=by simp
 obj:=fun i h st b hb=>by
  have e:b=it:=by simpa using hb
  subst e;obtain⟨o,e,c,d⟩:=st;exact⟨o,e,fun v z=>by rw[d] at z;cases z⟩
 keep:=fun i h h' st k=>st.at fun o e=>k it (by simp) o e
 item:=by
  intro X hP hw hK hc i pins s σ H E I hf st hg;subst hP hw hK;obtain⟨xs,x,hq,hx⟩:=hg;obtain⟨its,rv,p,hz⟩:=I.list hq;obtain⟨u,hu,ru⟩:=rv.get hx;obtain⟨f0,f1,f2,f3,f4,f5⟩:=hf it (by simp)
  refine wpAny_pyNext_list_item st p.isList (x:=u) (by simpa using hu) fun h' st' sb=>?_
  have I1:Inv X pins σ H { s with heap:=h' }:=I.turned (t':=s.toks) (fun b o hb e=>(sb.2 b hb).trans e) f0 f1 f3 f4 f5
  obtain⟨o,e,c,d⟩:=id st';exact⟨u,rfl,zgl (s:={ s with heap:=h' }) e c d (by decide) ⟨x,H,I1,ru,⟨rfl,fun ys hy=>by rw[I.list_inj hy hq];exact hx⟩,st',fun b hb=>(hf b hb).1⟩⟩
 done:=by
  intro X hP hw hK hc i pins s σ H E I hf st hg;subst hP hw hK;obtain⟨xs,hq,hx⟩:=hg;obtain⟨its,rv,p,hz⟩:=I.list hq;obtain⟨f0,f1,f2,f3,f4,f5⟩:=hf it (by simp)
  have hl:=rv.length;exact wpAny_pyNext_list_end (I.ok.hd hc) st p.isList (by simp;omega) fun h' eb=>⟨rfl,I.turned (t':=s.toks) (fun b o hb e=>eb b o hb e) f0 f1 f3 f4 f5⟩
 self:=fun _ _ _ _ _ st h=>wpAny_pyIter_listiter st h
theorem zbS{P:Program}{w:World}{K:Frag}{tg:Expr}(it:Addr)(lo:Int)(n:Nat):qF P w K tg (Itr lo n) [it] it (fun i h=>IsRangeIter h it (lo+(i:Nat) * 1) ((n:Int) - (i:Nat)) 1) where
 mem:=by simp
 obj:=fun i h st b hb=>by
  have e:b=it:=by simpa using hb
  subst e;exact⟨_,st,fun v z=>by
   have z':Data.fields _=Data.cell v:=z;cases z'⟩
 keep:=fun i h h' st k=>k it (by simp) _ st
 item:=by
  intro X hP hw hK hc i pins s σ H E I hf st hg;subst hP hw hK;obtain⟨f0,f1,f2,f3,f4,f5⟩:=hf it (by simp)
  have W:=Walks.range (prog:=X.prog) (w:=X.w) (I.ok.hd hc) it lo 1 n;refine W.item i s _ _ hg st fun v h' tk hv st' kk=>?_;obtain⟨t,rfl⟩:=hv;have I1:Inv X pins σ H { s with heap:=h',toks:=tk }:=I.turned (fun b o hb e=>kk b o (by simpa using hb) e) f0 f1 f3 f4 f5
  exists _,rfl,zgl (s:={ s with heap:=h',toks:=tk }) (n:="range_iterator") st' rfl rfl (by decide) ⟨.int (lo+i),H,I1,⟨t,?_⟩,⟨rfl,rfl⟩,st',fun b hb=>(hf b hb).1⟩
  rw[Int.mul_one]
 done:=by
  intro X hP hw hK hc i pins s σ H E I hf st hg;subst hP hw hK;obtain⟨f0,f1,f2,f3,f4,f5⟩:=hf it (by simp)
  exact wpAny_pyNext_range_end (I.ok.hd hc) st (by have:n<=i:=hg;omega) fun h' eb=>⟨rfl,I.turned (t':=s.toks) (fun b o hb e=>eb b o hb e) f0 f1 f3 f4 f5⟩
 self:=fun _ _ _ _ _ st h=>wpAny_pyIter_rangeiter st h
variable {tg:Expr}
inductive zlkJ(K:Frag)(R:It->Hp->Prop)(x:V)(H1:Hp):Prop|mk(a:_):x=.ref a->(∃xs,SqL K H1 a xs)->(R (Itl K a) H1)->zlkJ K R x H1
def zlk(K:Frag)(tl:TE):TI:=fun σ H R=>tl σ H fun x H1=>zlkJ K R x H1
theorem yt{l:Expr}{tl:TE}(hl:PE X l tl):PI X tg l (zlk X.K tl):=by
 exists ?_;intro pins s σ H R I h;refine thn (hl pins s σ H _ I h) fun v s1 ⟨x,H1,I1,r1,q1⟩=>?_;obtain⟨a,e,⟨xs,hq⟩,q⟩:=q1;subst e;cases r1;obtain⟨its,rv,p,hz⟩:=I1.list hq;refine wpAny_pyIter_list p.isList ?_;exists s1.heap.objs.size,[s1.heap.objs.size],_,_,H1,rfl,I1.kept (t':=s1.toks) fun b o e=>zgp _ e,zdH a _,⟨_,zgs _ rfl,rfl,rfl⟩,fun b hb=>?_,q;have e:b=s1.heap.objs.size:=by simpa using hb
 subst e;exact I1.fpOk (le_refl _) (I1.hok.fresh (le_refl _))
theorem zbh{pins:PnL}{σ : St}{H:Hp}{s:Shared}{R:It->Hp->Prop}{E:VSP}{lo hi:Int}{t u v:Tok}{tk:Nat}(I:Inv X pins σ H s)(h1 : -(2 ^ 62)<=lo)(h2:lo<2 ^ 62)(h3 : -(2 ^ 62)<=hi)(h4:hi<2 ^ 62)
  (q:R (Itr lo (hi - lo).toNat) H):wpAny (model X.prog X.w) X.A (pyIter (.ref s.heap.objs.size)) (PIE X pins σ tg R) E { s with heap:=s.heap.push { cls:=.type "range",data:=.fields #[.int lo t,.int hi u,.int 1 v] },toks:=tk }:=by
 refine wpAny_pyIter_range (IsRange.new ..) (small_one h1 h2 h3 h4) ?_;have I1:Inv X pins σ H { s with heap:=s.heap.push { cls:=.type "range",data:=.fields #[.int lo t,.int hi u,.int 1 v] },toks:=tk }:=I.kept fun b o e=>zgp _ e
 refine⟨(s.heap.push { cls:=.type "range",data:=.fields #[.int lo t,.int hi u,.int 1 v] }).objs.size,[(s.heap.push { cls:=.type "range",data:=.fields #[.int lo t,.int hi u,.int 1 v] }).objs.size],_,_,H,rfl,
  I1.kept (t':=tk) fun b o e=>zgp _ e,zbS _ lo (hi - lo).toNat,?_,fun b hb=>?_,q⟩
 ·have e1:lo+((0:Nat):Int) * 1=lo:=by simp
  have e2:(((hi - lo).toNat:Nat):Int) - ((0:Nat):Int)=Builtin.Range.rangeSize lo hi 1:=by rw[rangeSize_one];split <;> omega
  show IsRangeIter _ _ (lo+((0:Nat):Int) * 1) ((((hi - lo).toNat:Nat):Int) - ((0:Nat):Int)) 1;rw[e1,e2];exact zgs _ rfl
 ·have e:b=(s.heap.push { cls:=.type "range",data:=.fields #[.int lo t,.int hi u,.int 1 v] }).objs.size:=by simpa using hb
  subst e;exact I1.fpOk (le_refl _) (I1.hok.fresh (le_refl _))
inductive zljJ(R:It->Hp->Prop)(vs:List V)(H1:Hp):Prop|mk(j:Int):vs=[.int j]->-(2 ^ 62)<=j->j<2 ^ 62->(R (Itr 0 j.toNat) H1)->zljJ R vs H1
def zlj(ta:TA):TI:=fun σ H R=>ta σ H fun vs H1=>zljJ R vs H1
inductive zliJ(R:It->Hp->Prop)(vs:List V)(H1:Hp):Prop|mk(i j:Int):vs=[.int i,.int j]->(-(2 ^ 62)<=i/\i<2 ^ 62/\-(2 ^ 62)<=j/\j<2 ^ 62)->(R (Itr i (j - i).toNat) H1)->zliJ R vs H1
def zli(ta:TA):TI:=fun σ H R=>ta σ H fun vs H1=>zliJ R vs H1
theorem yG{a:Expr}{ta:TA}{p pos:Pos}(hg:Gl X "range")(hm:X.mg "range"=none)(ha:PA X [a] ta)(hs:starEach [a] X.env=[(false,eval a X.env)]:=by rfl):PI X tg (.Call (.Name "range" p) [a] [] pos) (zlj ta):=by
 exists ?_;intro pins s σ H R I h;refine Call_ (vA I hg hm boot_range (PyProof.Rows.callWith_type1 (thn (ha pos pins s σ H _ I h) fun us s1 ⟨vs,H1,I1,r1,q1⟩=>?_) hs rfl));obtain⟨j,e,q1,q2,q⟩:=q1;subst e;cases r1 with
 | cons r rr=>
  cases rr;obtain⟨t,rfl⟩:=r;exact call_range_1 (zbh I1 (by omega) (by omega) q1 q2 (by simpa using q))
theorem zdS{a b:Expr}{ta:TA}{p pos:Pos}(hg:Gl X "range")(hm:X.mg "range"=none)(ha:PA X [a,b] ta)(hs:starEach [a,b] X.env=[(false,eval a X.env),(false,eval b X.env)]:=by rfl)(hs2:starEach [b] X.env=[(false,eval b X.env)]:=by rfl):
  PI X tg (.Call (.Name "range" p) [a,b] [] pos) (zli ta):=by
 exists ?_;intro pins s σ H R I h;refine Call_ (vA I hg hm boot_range (PyProof.Rows.callWith_type1 (thn (ha pos pins s σ H _ I h) fun us s1 ⟨vs,H1,I1,r1,q1⟩=>?_) (by rw[hs,hs2]) (by rw[hs2];rfl)))
 obtain⟨i,j,e,⟨q1,q2,q3,q4⟩,q⟩:=q1;subst e;cases r1 with
 | cons r rr=>
  cases rr with
  | cons r' rr=>
   cases rr;obtain⟨t,rfl⟩:=r;obtain⟨t',rfl⟩:=r';exact call_range_2 (zbh I1 q1 q2 q3 q4 q)
def zlG(wi:TI)(g:TG)(tb:TS):TS:=fun D σ H=>wi σ H fun J H1=>∃W:Nat->Nat->St->Hp->Prop,(∃m,W 0 m σ H1)/\∀i m σ H,W i m σ H->
 (J.stop i H/\D.nx σ H)\/(J.go i H/\∃N:St->Hp->Prop,(∀σ' H',N σ' H'->∃m',m'<m/\W (i+1) m' σ' H')/\∀x H',J.yld i H x H'->g x σ H' fun σ2 H2=>tb { D with nx:=N,ct:=N,bk:=D.nx } σ2 H2)
def uL(fp:List Addr)(h:Heap):List (Addr×Obj):=fp.filterMap fun b=>(h.get? b).map fun o=>(b,o)
theorem xK{fp:List Addr}{h:Heap}{b:Addr}{o:Obj}(hb:b∈fp)(e:h.get? b=some o):(b,o)∈uL fp h:=List.mem_filterMap.mpr ⟨b,hb,by rw[e];rfl⟩
theorem zd2{fp:List Addr}{h:Heap}{p:Addr×Obj}(hp:p∈uL fp h):p.1∈fp/\h.get? p.1=some p.2:=by
 obtain⟨b,hb,e⟩:=List.mem_filterMap.mp hp;cases q:h.get? b with
 | none=>rw[q] at e;cases e
 | some o=>
  rw[q] at e;have e':(b,o)=p:=Option.some.inj e;subst e';exact⟨hb,q⟩
theorem Inv.pinned{pins:PnL}{σ : St}{H:Hp}{s:Shared}{fp:List Addr}(I:Inv X pins σ H s)(hf:∀b∈fp,vf X pins H b)(ho:∀b∈fp,∃o,s.heap.get? b=some o/\∀v,o.data≠.cell v):Inv X (pins++uL fp s.heap) σ H s:=
 I.pins_of fun p hp=>(List.mem_append.mp hp).elim (fun z=>I.pin p (mem_append_right _ z)) fun z=>by
  obtain⟨hb,e⟩:=zd2 z;obtain⟨f0,f1,f2,_⟩:=hf p.1 hb;obtain⟨o,e',d⟩:=ho p.1 hb;rw[e] at e';cases e';exact⟨e,f0,f1,f2,d⟩
theorem Inv.unpinned{pins pl:PnL}{σ : St}{H:Hp}{s:Shared}(I:Inv X (pins++pl) σ H s):Inv X pins σ H s:=I.pins_of fun p hp=>I.pin p (mem_append_right _ (mem_append_left _ hp))
theorem yD{iter:Expr}{body:List Stmt}{wi:TI}{g:TG}{tb:TS}{pos:Pos}(hp:PassesOwn (model X.prog X.w) X.A X.env X.xe)(hc:X.calm=true)(hi:PI X tg iter wi)(hg:PG X tg g)(hb:PSs X body tb)
  (hs:∀x,foldedSetIterable iter X.env x=pure x:=by intro _;rfl):PS X (.For tg iter body [] pos) (zlG wi g tb):=by
 exists ?_;intro pins s σ H D I h;refine wpAny_For (thn (hi pins s σ H _ I h) fun v s1 h1=>thn h1 fun itv s2 h2=>?_) hs;obtain⟨it,fp,tn,J,H2,e,I2,T,st2,f2,W,⟨m0,w0⟩,turn⟩:=h2;subst e;have stat:∀{H':Hp},(∀b∈fp,H' b=none)->∀b∈fp,vf X pins H' b:=fun hn b hb=>⟨hn b hb,(f2 b hb).2⟩;refine codeAny_forLoop_any (fun n s'=>∃i σ' H',Inv X pins σ' H' s'/\tn i s'.heap/\(∀b∈fp,H' b=none)/\W i n σ' H') ?_ m0 ⟨0,σ,H2,I2,st2,fun b hb=>(f2 b hb).1,w0⟩;rintro n s3 ⟨i,σ3,H3,I3,st3,fr3,w3⟩;rcases turn i n σ3 H3 w3 with ⟨stop,qn⟩|⟨go,N,hN,step⟩
 ·refine wpAny_passesOwn hp (thn (T.done X rfl rfl rfl hc i pins s3 σ3 H3 X.xe I3 (stat fr3) st3 stop) fun r s4 ⟨hr,I4⟩=>?_)
  subst hr;exact wpAny_execs_nil ⟨σ3,H3,I4,qn⟩
 ·refine wpAny_passesOwn hp (thn (T.item X rfl rfl rfl hc i pins s3 σ3 H3 X.xe I3 (stat fr3) st3 go) fun r s4 ⟨u,hr,h4⟩=>?_)
  subst hr;refine wpAny_passesOwn hp (thn h4 fun _ s5 ⟨x,H5,I5,r5,y5,st5,fr5⟩=>?_);have I5':=I5.pinned (stat fr5) (T.obj _ _ st5);refine wpAny_passesOwn hp (thn (hg _ s5 σ3 H5 x u _ I5' r5 (step x H5 y5)) fun _ s6 ⟨σ6,H6,I6,q6⟩=>?_);refine wpAny_passesOwn hp (thn (hb _ s6 σ6 H6 _ I6 q6) fun f s7 q7=>?_);have again:∀{σ7:St}{H7:Hp},Inv X (pins++uL fp s5.heap) σ7 H7 s7->N σ7 H7->∃m,m<n/\∃i σ' H',Inv X pins σ' H' s7/\tn i s7.heap/\(∀b∈fp,H' b=none)/\W i m σ' H':=fun {σ7 H7} I7 n7=>by
   obtain⟨m',hm,w7⟩:=hN σ7 H7 n7;exists m',hm,i+1,σ7,H7,I7.unpinned,T.keep _ _ _ st5 fun b hb o e=>(I7.pin (b,o) (mem_append_right _ (mem_append_right _ (xK hb e)))).1,fun b hb=>?_,w7;obtain⟨o,e,d⟩:=T.obj _ _ st5 b hb;exact(I7.pin (b,o) (mem_append_right _ (mem_append_right _ (xK hb e)))).2.1
  cases f with
  | next=>obtain⟨σ7,H7,I7,n7⟩:=q7;exact again I7 n7
  | cont=>obtain⟨σ7,H7,I7,n7⟩:=q7;exact again I7 n7
  | brk=>obtain⟨σ7,H7,I7,q7⟩:=q7;exact⟨σ7,H7,I7.unpinned,q7⟩
  | ret v=>obtain⟨x7,σ7,H7,I7,r7,q7⟩:=q7;exact⟨x7,σ7,H7,I7.unpinned,r7,q7⟩
theorem xC{K:Frag}{a:Addr}{xs:List V}{g:TG}{tb:TS}{D:wF}{σ : St}{H:Hp}(Pv:Nat->St->Hp->Prop)(h0:Pv 0 σ H)(hl:∀i σ H,i<=xs.length->Pv i σ H->SqL K H a xs)
  (hs:∀i x σ H,xs[i]?=some x->Pv i σ H->g x σ H fun σ2 H2=>tb { D with nx:=Pv (i+1),ct:=Pv (i+1),bk:=D.nx } σ2 H2) (hd:∀σ H,Pv xs.length σ H->D.nx σ H) :
  ∃W:Nat->Nat->St->Hp->Prop,(∃m,W 0 m σ H)/\∀i m σ H,W i m σ H->
   ((Itl K a).stop i H/\D.nx σ H)\/((Itl K a).go i H/\∃N:St->Hp->Prop,(∀σ' H',N σ' H'->∃m',m'<m/\W (i+1) m' σ' H')/\∀x H',(Itl K a).yld i H x H'->g x σ H' fun σ2 H2=>tb { D with nx:=N,ct:=N,bk:=D.nx } σ2 H2):=by
 exists fun i m σ H=>m=xs.length - i/\i<=xs.length/\Pv i σ H,⟨xs.length,by simp,zero_le _,h0⟩,?_
 rintro i m σ H ⟨rfl,hi,p⟩;have q:=hl i σ H hi p;by_cases hlt:i<xs.length
 ·refine .inr ⟨⟨xs,xs[i],q,by simp [hlt]⟩,Pv (i+1),fun σ' H' p'=>⟨xs.length - (i+1),by omega,rfl,hlt,p'⟩,fun x H' y=>?_⟩
  obtain⟨e,y⟩:=y;subst e;exact hs i x σ _ (y xs q) p
 ·have e:i=xs.length:=by omega
  subst e;exact .inl ⟨⟨xs,q,le_refl _⟩,hd σ H p⟩
theorem wT{lo:Int}{n:Nat}{g:TG}{tb:TS}{D:wF}{σ : St}{H:Hp}(Pv:Nat->St->Hp->Prop)(h0:Pv 0 σ H)
  (hs:∀i σ H,i<n->Pv i σ H->g (.int (lo+i)) σ H fun σ2 H2=>tb { D with nx:=Pv (i+1),ct:=Pv (i+1),bk:=D.nx } σ2 H2) (hd:∀σ H,Pv n σ H->D.nx σ H) :
  ∃W:Nat->Nat->St->Hp->Prop,(∃m,W 0 m σ H)/\∀i m σ H,W i m σ H->
   ((Itr lo n).stop i H/\D.nx σ H)\/((Itr lo n).go i H/\∃N:St->Hp->Prop,(∀σ' H',N σ' H'->∃m',m'<m/\W (i+1) m' σ' H')/\∀x H',(Itr lo n).yld i H x H'->g x σ H' fun σ2 H2=>tb { D with nx:=N,ct:=N,bk:=D.nx } σ2 H2):=by
 exists fun i m σ H=>m=n - i/\i<=n/\Pv i σ H,⟨n,by simp,zero_le _,h0⟩,?_
 rintro i m σ H ⟨rfl,hi,p⟩;by_cases hlt:i<n
 ·refine .inr ⟨hlt,Pv (i+1),fun σ' H' p'=>⟨n - (i+1),by omega,rfl,hlt,p'⟩,fun x H' y=>?_⟩
  obtain⟨e,y⟩:=y;subst e y;exact hs i σ _ hlt p
 ·have e:i=n:=by omega
  subst e;exact .inl ⟨le_refl _,hd σ H p⟩
abbrev R2:=V->V->Hp->VK->Prop
def OpR(X:Cx)(f:Value->Value->Sem Value)(r:R2):Prop:=
 ∀(pins:PnL) (s:Shared) (σ : St) (H:Hp) (x y:V) (v u:Value) (Q:VK),Inv X pins σ H s->zT x v->zT y u->r x y H Q->
  wpAny (model X.prog X.w) X.A (f v u) (EP X pins σ Q) X.xe s
def xF(X:Cx)(f:Value)(r:List V->Hp->VK->Prop):Prop:=
 ∀(pins:PnL) (s:Shared) (σ : St) (H:Hp) (xs:List V) (us:List Value) (Q:VK),Inv X pins σ H s->zX xs us->r xs H Q->
  wpAny (model X.prog X.w) X.A (call f us) (EP X pins σ Q) X.xe s
def zmn(X:Cx)(r:V->Hp->(Bool->Hp->Prop)->Prop):Prop:=
 ∀(pins:PnL) (s:Shared) (σ : St) (H:Hp) (x:V) (v:Value) (Q:Bool->Hp->Prop),Inv X pins σ H s->zT x v->r x H Q->
  wpAny (model X.prog X.w) X.A (truthy v) (TP X pins σ Q) X.xe s
def tOp(r:R2)(ta tb:TE):TE:=fun σ H Q=>ta σ H fun x H1=>tb σ H1 fun y H2=>r x y H2 Q
inductive IrI(C:Int->Int->Prop)(g:Int->Int->V)(x y:V)(H:Hp)(Q:VK):Prop where
 | mk (i j:Int) (e1:x=.int i) (e2:y=.int j) (c:C i j) (q:Q (g i j) H)
def rI(C:Int->Int->Prop)(g:Int->Int->V):R2:=fun x y H Q=>IrI C g x y H Q
inductive zmq(g:Int->Int->V)(x y:V)(H:Hp)(Q:VK):Prop where
 | mk (i j:Int) (e1:x=.int i) (e2:y=.int j) (q:Q (g i j) H)
def rI0(g:Int->Int->V):R2:=fun x y H Q=>zmq g x y H Q
end
section
variable {X:Cx}{a b c:Expr}{ta tb tc:TE}{pos:Pos}
theorem zj5(ha:PE X a ta)(hb:PE X b tb){pins:PnL}{s:Shared}{σ : St}{H:Hp}{R:V->V->Hp->Prop}(I:Inv X pins σ H s)
  (h:ta σ H fun x H1=>tb σ H1 fun y H2=>R x y H2) {Q:VSP}{f:Value->Value->Sem Value}
  (hf:∀v u s2 x y H2,Inv X pins σ H2 s2->zT x v->zT y u->R x y H2->wpAny (model X.prog X.w) X.A (f v u) Q X.xe s2) :
  wpAny (model X.prog X.w) X.A (eval a X.env) (fun v s₁=>wpAny (model X.prog X.w) X.A (eval b X.env) (fun u s₂=>wpAny (model X.prog X.w) X.A (f v u) Q X.xe s₂) X.xe s₁) X.xe s:=by
 refine thn (ha pins s σ H _ I h) fun v s1 ⟨x,H1,I1,r1,q1⟩=>?_;refine thn (hb pins s1 σ H1 _ I1 q1) fun u s2 ⟨y,H2,I2,r2,q2⟩=>?_;exact hf v u s2 x y H2 I2 r1 r2 q2
theorem zt{op:Operator}{r:R2}(ho:OpR X (binaryOp op) r)(ha:PE X a ta)(hb:PE X b tb):PE X (.BinOp a op b pos) (tOp r ta tb):=by
 exists ?_;intro pins s σ H Q I h;exact wpAny_BinOp (zj5 ha hb I h fun v u s2 x y H2 I2 rx ry q=>ho pins s2 σ H2 x y v u Q I2 rx ry q)
theorem opI{f:Value->Value->Sem Value}{C:Int->Int->Prop}{g:Int->Int->Int}
  (rule:∀(i j:Int) (t u:Tok) (s:Shared) (Q:VSP) (E:VSP),C i j->Q (.int (g i j) s.toks) { s with toks:=s.toks+1 }->wpAny (model X.prog X.w) X.A (f (.int i t) (.int j u)) Q E s) :
  OpR X f (rI C fun i j=>.int (g i j)):=by
 intro pins s σ H x y v u Q I rx ry h;obtain⟨i,j,rfl,rfl,hc,q⟩:=h;obtain⟨t,rfl⟩:=rx;obtain⟨t',rfl⟩:=ry;exact rule i j t t' s _ _ hc ⟨.int (g i j),H,I.tok _,⟨_,rfl⟩,q⟩
theorem zkO{f:Value->Value->Sem Value}{g:Int->Int->Int}
  (rule:∀(i j:Int) (t u:Tok) (s:Shared) (Q:VSP) (E:VSP),Q (.int (g i j) s.toks) { s with toks:=s.toks+1 }->wpAny (model X.prog X.w) X.A (f (.int i t) (.int j u)) Q E s) :
  OpR X f (rI0 fun i j=>.int (g i j)):=by
 intro pins s σ H x y v u Q I rx ry h;obtain⟨i,j,rfl,rfl,q⟩:=h;obtain⟨t,rfl⟩:=rx;obtain⟨t',rfl⟩:=ry;exact rule i j t t' s _ _ ⟨.int (g i j),H,I.tok _,⟨_,rfl⟩,q⟩
theorem zjx{f:Value->Value->Sem Value}{g:Int->Int->Bool}
  (rule:∀(i j:Int) (t u:Tok) (s:Shared) (Q:VSP) (E:VSP),Q (.bool (g i j)) s->wpAny (model X.prog X.w) X.A (f (.int i t) (.int j u)) Q E s) :
  OpR X f (rI0 fun i j=>.bl (g i j)):=by
 intro pins s σ H x y v u Q I rx ry h;obtain⟨i,j,rfl,rfl,q⟩:=h;obtain⟨t,rfl⟩:=rx;obtain⟨t',rfl⟩:=ry;exact rule i j t t' s _ _ ⟨.bl (g i j),H,I,rfl,q⟩
def zmv(i j:Int):Prop:=0<j/\j<1073741824
def zmu(i j:Int):Prop:=0<=j/\j<=1000000/\i.natAbs<2 ^ 64
def zkc(i j:Int):Prop:=(-(2 ^ 64)<i/\i<2 ^ 64)\/(-(2 ^ 64)<j/\j<2 ^ 64)
theorem zkc.ok{i j:Int}(h:zkc i j):IntMulOk i j:=by
 rcases h with ⟨h1,h2⟩|⟨h1,h2⟩
 ·exact .of_left (intBits_le_64 h1 h2)
 ·exact .of_right (intBits_le_64 h1 h2)
theorem yz:OpR X (binaryOp .Add) (rI0 fun i j=>.int (i+j)):=zkO fun _ _ _ _ _ _ _ q=>add_int q
theorem uN:OpR X (binaryOp .Sub) (rI0 fun i j=>.int (i - j)):=zkO fun _ _ _ _ _ _ _ q=>sub_int q
theorem xB:OpR X (binaryOp .Mult) (rI zkc fun i j=>.int (i * j)):=opI fun _ _ _ _ _ _ _ hc q=>mul_int q hc.ok
theorem yu:OpR X (binaryOp .FloorDiv) (rI zmv fun i j=>.int (i / j)):=opI fun i j _ _ _ _ _ hc q=>by
 have h1:(0:Int)<j:=hc.1;have h2:j<1073741824:=hc.2;exact floordiv_int (by omega) (by rw[Int.fdiv_eq_ediv_of_nonneg i (by omega)];exact q) (.inl (PyProof.noPylong_small (by omega)))
theorem yd:OpR X (binaryOp .Mod) (rI (fun _ j=>0<j) fun i j=>.int (i % j)):=opI fun i j _ _ _ _ _ hc q=>by
 have h1:(0:Int)<j:=hc;exact mod_int' (by omega) (by rw[Int.fmod_eq_emod_of_nonneg i (by omega)];exact q)
theorem zfq:OpR X (binaryOp .Pow) (rI zmu fun i j=>.int (i ^ j.toNat)):=opI fun _ _ _ _ _ _ _ hc q=>pow_int_small hc.1 hc.2.1 hc.2.2 q
def zky:V->V->Bool
 | .non,.non=>true|.non,.int _=>true|.int _,.non=>true|.non,.bl _=>true|.bl _,.non=>true|.non,.str _=>true|.str _,.non=>true
 | .int _,.int _=>true|.bl _,.bl _=>true|.str _,.str _=>true|.byt _,.byt _=>true
 | .int _,.str _=>true|.str _,.int _=>true|.bl _,.str _=>true|.str _,.bl _=>true
 | _,_=>false
def rEq:R2:=fun x y H Q=>zky x y=true/\Q (.bl (decide (x=y))) H
def rNe:R2:=fun x y H Q=>zky x y=true/\Q (.bl (!decide (x=y))) H
theorem zdu{i j:Int}:decide (V.int i=V.int j)=(i==j):=by
 rw[Bool.eq_iff_iff];simp
theorem zgB{i j:Bool}:decide (V.bl i=V.bl j)=(i==j):=by
 rw[Bool.eq_iff_iff];simp
theorem zdt{i j:Str}:decide (V.str i=V.str j)=(i==j):=by
 rw[Bool.eq_iff_iff];simp
theorem zdv{i j:Array UInt8}:decide (V.byt i=V.byt j)=(i.toList==j.toList):=by
 rw[Bool.eq_iff_iff];cases i;cases j;simp
theorem ye{pins:PnL}{σ : St}{H:Hp}{s:Shared}{Q:VK}{k k':Bool}(I:Inv X pins σ H s)(q:Q (.bl k) H)(e:k=k'):EP X pins σ Q (.bool k') s:=by
 subst e;exact⟨.bl k,H,I,rfl,q⟩
theorem z9:OpR X (compareOp .Eq) rEq:=by
 intro pins s σ H x y v u Q I rx ry h;obtain⟨hs,q⟩:=h;cases x with
 | non=>
  cases rx;cases y with
  | non=>cases ry;exact PySem.EqNone.eq_none_none (ye I q (by simp))
  | bl j=>cases ry;exact PySem.EqNone.eq_none_bool (ye I q (by simp))
  | int j=>obtain⟨t',rfl⟩:=ry;exact PySem.EqNone.eq_none_int (ye I q (by simp))
  | str j=>obtain⟨t',rfl⟩:=ry;exact PySem.EqNone.eq_none_str (ye I q (by simp))
  | _=>exact absurd (show false=true from hs) zft
 | bl i=>
  cases rx;cases y with
  | non=>cases ry;exact PySem.EqNone.eq_bool_none (ye I q (by simp))
  | bl j=>cases ry;exact eq_bool (ye I q zgB)
  | str j=>obtain⟨t',rfl⟩:=ry;exact PySem.EqMixed.eq_bool_str (ye I q (by simp))
  | _=>exact absurd (show false=true from hs) zft
 | int i=>
  obtain⟨t,rfl⟩:=rx;cases y with
  | non=>cases ry;exact PySem.EqNone.eq_int_none (ye I q (by simp))
  | int j=>obtain⟨t',rfl⟩:=ry;exact eq_int (ye I q zdu)
  | str j=>obtain⟨t',rfl⟩:=ry;exact PySem.EqMixed.eq_int_str (ye I q (by simp))
  | _=>exact absurd (show false=true from hs) zft
 | str i=>
  obtain⟨t,rfl⟩:=rx;cases y with
  | non=>cases ry;exact PySem.EqNone.eq_str_none (ye I q (by simp))
  | bl j=>cases ry;exact PySem.EqMixed.eq_str_bool (ye I q (by simp))
  | int j=>obtain⟨t',rfl⟩:=ry;exact PySem.EqMixed.eq_str_int (ye I q (by simp))
  | str j=>obtain⟨t',rfl⟩:=ry;exact eq_str (ye I q zdt)
  | _=>exact absurd (show false=true from hs) zft
 | byt i=>
  obtain⟨t,rfl⟩:=rx;cases y with
  | byt j=>obtain⟨t',rfl⟩:=ry;exact PySem.W.eq_bytes (ye I q zdv)
  | _=>exact absurd (show false=true from hs) zft
 | _=>cases y <;> exact absurd (show false=true from hs) zft
theorem zfs:OpR X (compareOp .NotEq) rNe:=by
 intro pins s σ H x y v u Q I rx ry h;obtain⟨hs,q⟩:=h;cases x with
 | non=>
  cases rx;cases y with
  | non=>cases ry;exact PySem.EqNone.ne_none_none (ye I q (by simp))
  | bl j=>cases ry;exact PySem.EqNone.ne_none_bool (ye I q (by simp))
  | int j=>obtain⟨t',rfl⟩:=ry;exact PySem.EqNone.ne_none_int (ye I q (by simp))
  | str j=>obtain⟨t',rfl⟩:=ry;exact PySem.EqNone.ne_none_str (ye I q (by simp))
  | _=>exact absurd (show false=true from hs) zft
 | bl i=>
  cases rx;cases y with
  | non=>cases ry;exact PySem.EqNone.ne_bool_none (ye I q (by simp))
  | bl j=>cases ry;exact ne_bool (ye I q (congrArg not zgB))
  | str j=>obtain⟨t',rfl⟩:=ry;exact PySem.EqMixed.ne_bool_str (ye I q (by simp))
  | _=>exact absurd (show false=true from hs) zft
 | int i=>
  obtain⟨t,rfl⟩:=rx;cases y with
  | non=>cases ry;exact PySem.EqNone.ne_int_none (ye I q (by simp))
  | int j=>obtain⟨t',rfl⟩:=ry;exact ne_int (ye I q (congrArg not zdu))
  | str j=>obtain⟨t',rfl⟩:=ry;exact PySem.EqMixed.ne_int_str (ye I q (by simp))
  | _=>exact absurd (show false=true from hs) zft
 | str i=>
  obtain⟨t,rfl⟩:=rx;cases y with
  | non=>cases ry;exact PySem.EqNone.ne_str_none (ye I q (by simp))
  | bl j=>cases ry;exact PySem.EqMixed.ne_str_bool (ye I q (by simp))
  | int j=>obtain⟨t',rfl⟩:=ry;exact PySem.EqMixed.ne_str_int (ye I q (by simp))
  | str j=>obtain⟨t',rfl⟩:=ry;exact ne_str (ye I q (congrArg not zdt))
  | _=>exact absurd (show false=true from hs) zft
 | byt i=>
  obtain⟨t,rfl⟩:=rx;cases y with
  | byt j=>obtain⟨t',rfl⟩:=ry;exact PySem.W.ne_bytes (ye I q (congrArg not zdv))
  | _=>exact absurd (show false=true from hs) zft
 | _=>cases y <;> exact absurd (show false=true from hs) zft
theorem vy:OpR X (compareOp .Lt) (rI0 fun i j=>.bl (decide (i<j))):=zjx fun _ _ _ _ _ _ _ q=>lt_int q
theorem zdg:OpR X (compareOp .LtE) (rI0 fun i j=>.bl (decide (i<=j))):=zjx fun _ _ _ _ _ _ _ q=>le_int q
theorem zfu:OpR X (compareOp .Gt) (rI0 fun i j=>.bl (decide (j<i))):=zjx fun _ _ _ _ _ _ _ q=>gt_int q
theorem zdW:OpR X (compareOp .In) (fun x y H Q=>∃i j,x=.str i/\y=.str j/\Q (.bl (!(Builtin.Str.occurrences j i 0 j.length 1).isEmpty)) H):=by
 intro pins s σ H x y v u Q I rx ry h;obtain⟨i,j,rfl,rfl,q⟩:=h;obtain⟨t,rfl⟩:=rx;obtain⟨t',rfl⟩:=ry;exact in_str (ye I q rfl)
theorem OpR.or{f:Value->Value->Sem Value}{r r':R2}(h:OpR X f r)(h':OpR X f r'):OpR X f (fun x y H Q=>r x y H Q\/r' x y H Q):=by
 intro pins s σ H x y v u Q I rx ry q;rcases q with q|q
 ·exact h pins s σ H x y v u Q I rx ry q
 ·exact h' pins s σ H x y v u Q I rx ry q
theorem zz(b:Expr){op:CmpOp}(h:op≠.In:=by decide)(h2:op≠.NotIn:=by decide):behindInMarks op b=false:=by
 have e1:(op==CmpOp.In)=false:=by cases op <;> first|rfl|exact absurd rfl h
 have e2:(op==CmpOp.NotIn)=false:=by cases op <;> first|rfl|exact absurd rfl h2
 cases b <;> simp [behindInMarks,e1,e2]
theorem wv{op:CmpOp}{r:R2}(ho:OpR X (compareOp op) r)(ha:PE X a ta)(hb:PE X b tb)(hm:behindInMarks op b=false):PE X (.Compare a [op] [b] pos) (tOp r ta tb):=by
 exists ?_;intro pins s σ H Q I h;exact wpAny_Compare1 (zj5 ha hb I h fun v u s2 x y H2 I2 rx ry q=>ho pins s2 σ H2 x y v u Q I2 rx ry q) hm
inductive zly(x:V)(H:Hp)(Q:Bool->Hp->Prop):Prop where
 | mk (k:Bool) (e:x=.bl k) (q:Q k H)
def zid(t:TE):TT:=fun σ H Q=>t σ H fun x H'=>zly x H' Q
theorem zn{op:CmpOp}{r:R2}(ho:OpR X (compareOp op) r)(ha:PE X a ta)(hb:PE X b tb)(hm:behindInMarks op b=false):PT X (.Compare a [op] [b] pos) (zid (tOp r ta tb)):=by
 exists ?_;intro pins s σ H Q I h;refine wpAny_isTrue_Compare1 (thn (ha pins s σ H _ I h) fun v s1 ⟨x,H1,I1,r1,q1⟩=>thn (hb pins s1 σ H1 _ I1 q1) fun u s2 ⟨y,H2,I2,r2,q2⟩=>
  thn (ho pins s2 σ H2 x y v u _ I2 r1 r2 q2) fun c s3 ⟨z,H3,I3,r3,k,e,q3⟩=>?_) hm
 subst e;cases r3;exact wpAny_truthy_bool ⟨H3,I3,q3⟩
def ziP(r r':R2)(ta tb tc:TE):TE:=fun σ H Q=>ta σ H fun x H1=>tb σ H1 fun y H2=>r x y H2 fun z H3=>∃k,z=.bl k/\
 (if k=true then tc σ H3 fun w' H4=>r' y w' H4 Q else Q (.bl false) H3)
theorem zbj{op op':CmpOp}{r r':R2}(ho:OpR X (compareOp op) r)(ho':OpR X (compareOp op') r')(ha:PE X a ta)(hb:PE X b tb)(hc:PE X c tc)
  (hm:lastMarks [op,op'] [b,c]=false:=by with_unfolding_all rfl):PT X (.Compare a [op,op'] [b,c] pos) (zid (ziP r r' ta tb tc)):=by
 exists ?_;intro pins s σ H Q I h;refine isTrue_chain (thn (ha pins s σ H _ I h) fun v s1 ⟨x,H1,I1,r1,q1⟩=>test_link (thn (hb pins s1 σ H1 _ I1 q1) fun u s2 ⟨y,H2,I2,r2,q2⟩=>
  thn (ho pins s2 σ H2 x y v u _ I2 r1 r2 q2) fun d s3 ⟨z,H3,I3,r3,k,e,q3⟩=>?_)) hm
 subst e;cases r3;refine wpAny_truthy_bool ?_;cases k with
 | false=>
  obtain⟨k',e',q'⟩:=q3;cases e';exact ite_ff ⟨H3,I3,q'⟩
 | true=>
  refine ite_tt (test_last (thn (hc pins s3 σ H3 _ I3 q3) fun w' s4 ⟨z',H4,I4,r4,q4⟩=>thn (ho' pins s4 σ H4 y z' u w' _ I4 r2 r4 q4) fun d' s5 ⟨z2,H5,I5,r5,k2,e2,q5⟩=>?_));subst e2;cases r5;exact wpAny_truthy_bool ⟨H5,I5,q5⟩
def zlw(K:Frag)(x:V)(H:Hp)(k:Bool):Prop:=
 match x with
 | .non=>k=false
 | .bl b=>k=b
 | .int i=>k=(i != 0)
 | .str y=>y.length<=sizeLine/\k=((y.length:Int) != 0)
 | .byt y=>y.size<=sizeLine/\k=((y.size:Int) != 0)
 | .ref p=>(∃xs,SqL K H p xs/\k=!xs.isEmpty)\/(∃xs,SqT K H p xs/\k=!xs.isEmpty)\/∃kvs,H p=some (.dK kvs)/\k=!kvs.isEmpty
 | _=>False
theorem zcC{κ : Type}{kvs:List (κ×V)}{vs:List (κ×Value)}(r:KV kvs vs):(!vs.isEmpty)=!kvs.isEmpty:=by
 cases r <;> rfl
theorem qe{xs:List V}{its:List Value}(r:zX xs its):(!its.toArray.isEmpty)=!xs.isEmpty:=by
 cases r <;> simp
theorem uR:(sizeLine:Nat)<2 ^ 63:=by rw[sizeLine_eq];decide
theorem ziI:zmn X (fun x H Q=>∃k,zlw X.K x H k/\Q k H):=by
 intro pins s σ H x v Q I rx h;obtain⟨k,e,q⟩:=h;have hl:=uR;have hs:sizeLine=16777216:=sizeLine_eq;cases x with
 | non=>
  cases rx;have e':k=false:=e;subst e';exact truthy_none ⟨H,I,q⟩
 | bl b=>
  cases rx;have e':k=b:=e;subst e';exact wpAny_truthy_bool ⟨H,I,q⟩
 | int i=>
  obtain⟨t,rfl⟩:=rx;have e':k=(i != 0):=e;subst e';exact PySem.P.truthy_int ⟨H,I,q⟩
 | str y=>
  obtain⟨t,rfl⟩:=rx;obtain⟨hy,e'⟩:y.length<=sizeLine/\k=((y.length:Int) != 0):=e;subst e';exact PySem.P.truthy_str (by omega) ⟨H,I.tok _,q⟩
 | byt y=>
  obtain⟨t,rfl⟩:=rx;obtain⟨hy,e'⟩:y.size<=sizeLine/\k=((y.size:Int) != 0):=e;subst e';exact PySem.W.truthy_bytes (by omega) ⟨H,I.tok _,q⟩
 | ref p=>
  cases rx;have e':(∃xs,SqL X.K H p xs/\k=!xs.isEmpty)\/(∃xs,SqT X.K H p xs/\k=!xs.isEmpty)\/∃kvs,H p=some (.dK kvs)/\k=!kvs.isEmpty:=e;rcases e' with ⟨xs,hx,e'⟩|⟨xs,hx,e'⟩|⟨kvs,hx,e'⟩
  ·subst e'
   obtain⟨its,r,pl,hz⟩:=I.list hx;have hlen:=r.length;exact wpAny_truthy_list pl.isList (by simp only[size_toArray];omega) ⟨H,I.tok _,by rw[qe r];exact q⟩
  ·subst e'
   obtain⟨its,r,pl,hz⟩:=I.tuple hx;have hlen:=r.length;exact truthy_tuple pl (by simp only[size_toArray];omega) ⟨H,I.tok _,by rw[qe r];exact q⟩
  ·subst e'
   obtain⟨hz,hS,vs,r,m⟩:kvs.length<=sizeLine/\(p==sysModules)=false/\∃vs,KV kvs vs/\s.heap.DictOf (yl X.prog X.w) p vs:=I.hok p _ hx;have hlen:kvs.length=vs.length:=Paired.length r;exact wpAny_truthy_dict hS m (by omega) ⟨H,I.tok _,by rw[zcC r];exact q⟩
 | _=>exact(show False from e).elim
theorem zff(ha:PE X a ta)(he:∀whole,isTrue a X.env whole=(do let v <- whole;standAt a.pos;holding [v] (truthy v))):
  PT X a (fun σ H Q=>ta σ H fun x H'=>∃k,zlw X.K x H' k/\Q k H'):=by
 exists ?_;intro pins s σ H Q I h;exact isTrue_plain (thn (ha pins s σ H _ I h) fun v s1 ⟨x,H1,I1,r1,q1⟩=>ziI pins s1 σ H1 x v Q I1 r1 q1) (he _)
theorem zct:OpR X (binaryOp .Add) (fun x y H Q=>∃i j,x=.str i/\y=.str j/\i.length+j.length<=sizeLine/\Q (.str (i++j)) H):=by
 intro pins s σ H x y v u Q I rx ry h;obtain⟨i,j,rfl,rfl,hz,q⟩:=h;obtain⟨t,rfl⟩:=rx;obtain⟨t',rfl⟩:=ry;exact add_str (fun t' tk=>⟨.str (i++j),H,I.tok _,⟨_,rfl⟩,q⟩) hz
theorem ub{x:V}{us:List Value}(r:zX [x] us):∃u,us=[u]/\zT x u:=by
 cases r with
 | cons r1 r2=>cases r2;exact⟨_,rfl,r1⟩
theorem qI{x y:V}{us:List Value}(r:zX [x,y] us):∃u w',us=[u,w']/\zT x u/\zT y w':=by
 cases r with
 | cons r1 r2=>
  cases r2 with
  | cons r3 r4=>cases r4;exact⟨_,_,rfl,r1,r3⟩
theorem zem:xF X (.type "int") (fun xs H Q=>(∃i,xs=[.int i]/\Q (.int i) H)\/∃k,xs=[.bl k]/\Q (.int (if k then 1 else 0)) H):=by
 intro pins s σ H xs us Q I r h;rcases h with ⟨i,rfl,q⟩|⟨k,rfl,q⟩
 ·obtain⟨u,rfl,t,rfl⟩:=ub r
  exact call_int_int ⟨.int i,H,I,⟨_,rfl⟩,q⟩
 ·obtain⟨u,rfl,r1⟩:=ub r
  cases r1;exact call_int_bool ⟨.int (if k then 1 else 0),H,I.tok _,⟨_,rfl⟩,q⟩
structure zcL(h:Heap)(x dx C:Addr)(mA:Str->Option Value):Prop where
 obj:h.get? x=some (instObj C dx)
 ns:h.Ns1 dx mA
 ne:dx≠x
theorem qU{h:Heap}{dx:Addr}{mA:Str->Option Value}(n:h.Ns1 dx mA):∃od,h.get? dx=some od/\∀name,lookIn name od=some (mA name):=by
 obtain⟨o,es,ep,ho,hd,hk,_,hm⟩:=n;exists o,ho,fun name=>?_;have e:=hm name;unfold nsFind findBy at e;rw[<- Array.find?_toList] at e;unfold lookIn;rw[hd];dsimp only;split
 ·rename_i y q
  rw[q] at e;exact congrArg some e
 ·rename_i q
  rw[q] at e;have a:es.toList.any (·.refKey)=false:=by
   rw[List.any_eq_false];intro y hy;obtain⟨z,t,hkey⟩:=hk y (Array.mem_toList_iff.mp hy);simp [DictEntry.refKey,hkey]
  have a':¬es.toList.any (·.refKey)=true:=by rw[a];exact zft
  rw[if_neg a'];exact congrArg some e
theorem zcL.look{h:Heap}{x dx C:Addr}{mA:Str->Option Value}(I:zcL h x dx C mA):∃od,PySem.W.InstAt h x (instObj C dx) C (some od)/\∀name,lookIn name od=some (mA name):=
 let ⟨od,ho,hl⟩:=qU I.ns
 ⟨od,⟨I.obj,rfl,rfl,ho⟩,hl⟩
variable {prog:Program}{w:World}{A:Around}{E:VSP}{s:Shared}{K:Frag}{x dx C f:Addr}{mA:Str->Option Value}{name:Str}{v:Value}
theorem zhV{expr:Bool}{Q:VSP}(X:K.In s.heap)(I:zcL s.heap x dx C mA)(hg:plainGet K C name=true)(hh:hasDictIn K C=true)
  (ha:findIn K (.ref C) name=some none) (hv:mA name=some v) (hv':PySem.W.handedIn v=true) (h:Q v { s with toks:=s.toks+1 }) :
  wpAny (model prog w) A (getAttr (.ref x) name expr) Q E s:=by
 obtain⟨od,J,hl⟩:=I.look;exact PySem.W.get_value X J (plainGet_of hg).1 (PySem.W.findObj_own hh ha rfl (by rw[hl,hv])) hv' h
theorem zgm{pl:Sem Bool}{Q:Value×List Value->Shared->Prop}(X:K.In s.heap)(I:zcL s.heap x dx C mA)(hg:plainGet K C name=true)
  (hf:findIn K (.ref C) name=some (some (.ref f))) (ht:isFn K (.ref f)=true) (hv:mA name=none) (h:Q (.ref f,[.ref x]) s) :
  wpAny (model prog w) A (getMethod (.ref x) name pl) Q E s:=by
 obtain⟨od,J,hl⟩:=I.look;exact PySem.W.method_fn X J (plainGet_of hg).1 (plainGet_of hg).2 hf (beq_iff_eq.mp ht) (by show(lookIn name od).map (·.isSome)=some false;rw[hl,hv];rfl) h
theorem zgR{ns:List Str}{Q:Unit->Shared->Prop}(X:K.In s.heap)(I:zcL s.heap x dx C mA)
  (hs:findIn K (.ref C) "__setattr__"=some (some (.builtin "object.__setattr__"))) (hp:plainOver K C=true) (ht:takerIn K C name=some none) (hh:hasDictIn K C=true)
  (hw:PySem.Within mA ns) (hsz:ns.length<=sizeLine)
  (h:∀h',zcL h' x dx C (fun y=>if y=name then some v else mA y)->Heap.SameBut dx s.heap h'->Q () { s with heap:=h',toks:=s.toks+2 }) :
  wpAny (model prog w) A (setAttr (.ref x) name v) Q E s:=by
 obtain⟨od,J,hl⟩:=I.look;refine PySem.W.set_plain X J hs (PySem.W.osa_open (s:={ s with toks:=s.toks+1 }) (r:=none) X J hp ht fun b=>?_)
 obtain⟨cd,hc,hd'⟩:=PySem.W.any_some hh;have hx:s.heap.get? x=some ⟨.ref C,some dx,.plain,#[]⟩:=I.obj;refine zwb (zwp (zwb (zwb (wpAny_loadPart hx (zwb (PySem.W.Looks.here (s:={ s with toks:=s.toks+1 }) (PySem.W.looks_clsIn X hc) ?_))))))
 rw[hd'];refine zwp (a:=some dx) (zwb (zwp (zwb ?_)));refine wpAny_nsSet1 (s:={ s with toks:=s.toks+1 }) I.ns fun h' hn2 hs2=>?_
 obtain⟨oD,esD,epD,hoD,hdD,hcD⟩:=hn2.count (PySem.Within.cons name v hw);refine zwb (wpAny_lookBehind hoD (by rw[hdD];exact pastItsLine_dict (le_trans hcD (by rw[length_cons];omega))) ?_)
 exact zwp (h _ ⟨(hs2.2 _ (Ne.symm I.ne)).trans I.obj,hn2,I.ne⟩ hs2)
theorem zga{R:Result->Shared->Prop}{vs:List Value}{kw:List (Str×Value)}(X:K.In s.heap)(hm:makesIn K C=true)
  (hi:findIn K (.ref C) "__init__"=some (some (.ref f))) (hf:PySem.W.typeIn K (.ref f)=some (.type "function"))
  (h:codeAny (model prog w) (A.under (.builtin "type.__call__" ⟨.ref C::vs,kw⟩)) (.call (.ref f) ⟨.ref (s.heap.objs.size+1)::vs,kw⟩) (PySem.W.InitBack (s.heap.objs.size+1) R)
   { s with heap:=(s.heap.push emptyDict).push (instObj C s.heap.objs.size) }) :
  codeAny (model prog w) A (.call (.ref C) ⟨vs,kw⟩) R s:=by
 obtain⟨hh,g,d,t,os⟩:=s;exact PySem.W.make_core (makes_of X hm) (PySem.W.looks_findIn X hi) (fun self=>PySem.W.bind_fn X self hf) (.inl rfl) h
theorem zd3{R:Result->Shared->Prop}(X:K.In s.heap)(hm:makesIn K C=true)
  (hi:findIn K (.ref C) "__init__"=some (some (.builtin "object.__init__")))
  (hb:∀self,Looks (model prog w) s.heap (bindSpecial (.builtin "object.__init__") self) (.builtin "object.__init__",[self]))
  (h:codeAny (model prog w) (A.under (.builtin "type.__call__" ⟨[.ref C],[]⟩)) (.call (.builtin "object.__init__") ⟨[.ref (s.heap.objs.size+1)],[]⟩) (PySem.W.InitBack (s.heap.objs.size+1) R)
   { s with heap:=(s.heap.push emptyDict).push (instObj C s.heap.objs.size) }) :
  codeAny (model prog w) A (.call (.ref C) ⟨[],[]⟩) R s:=by
 obtain⟨hh,g,d,t,os⟩:=s;exact PySem.W.make_core (makes_of X hm) (PySem.W.looks_findIn X hi) hb (.inr ⟨rfl,rfl⟩) h
def zO(f:Str)(v:V):List (Str×V)->List (Str×V)
 | []=>[(f,v)]
 | (g,x)::r=>if g=f then (g,v)::r else (g,x)::zO f v r
theorem zk(f g:Str)(v:V):∀fs:List (Str×V),(zO f v fs).lookup g=if g=f then some v else fs.lookup g
 | []=>by
  show List.lookup g [(f,v)]=_;by_cases h:g=f
  ·have hb:(g==f)=true:=beq_iff_eq.mpr h
   simp only[List.lookup,hb,if_pos h]
  ·have hb:(g==f)=false:=beq_eq_false_iff_ne.mpr h
   simp only[List.lookup,hb,if_neg h]
 | (k,x)::r=>by
  have ih:=zk f g v r;rw[show zO f v ((k,x)::r)=(if k=f then (k,v)::r else (k,x)::zO f v r) from rfl]
  by_cases hk:k=f
  ·rw[if_pos hk]
   by_cases h:g=k
   ·have hb:(g==k)=true:=beq_iff_eq.mpr h
    simp only[List.lookup,hb,if_pos (h.trans hk)]
   ·have hb:(g==k)=false:=beq_eq_false_iff_ne.mpr h
    simp only[List.lookup,hb,if_neg (fun e:g=f=>h (e.trans hk.symm))]
  ·rw[if_neg hk]
   by_cases h:g=k
   ·have hb:(g==k)=true:=beq_iff_eq.mpr h
    simp only[List.lookup,hb,if_neg (fun e:g=f=>hk (h.symm.trans e))]
   ·have hb:(g==k)=false:=beq_eq_false_iff_ne.mpr h
    simp only[List.lookup,hb];exact ih
theorem uT(f:Str)(v:V):∀fs:List (Str×V),f∈(zO f v fs).map (·.1)/\∀g,g∈fs.map (·.1)->g∈(zO f v fs).map (·.1)
 | []=>⟨by simp [zO],fun g h=>by simp at h⟩
 | (k,x)::r=>by
  obtain⟨i1,i2⟩:=uT f v r;rw[show zO f v ((k,x)::r)=(if k=f then (k,v)::r else (k,x)::zO f v r) from rfl]
  by_cases hk:k=f
  ·rw[if_pos hk]
   subst hk;exact⟨by simp,fun g h=>by simpa using h⟩
  ·rw[if_neg hk]
   exists ?_,fun g h=>?_
   ·rw[map_cons]
    exact mem_cons_of_mem _ i1
   ·rw[map_cons] at h |-
    rcases List.mem_cons.mp h with e|e
    ·exact List.mem_cons.mpr (.inl e)
    ·exact mem_cons_of_mem _ (i2 g e)
theorem ja(f:Str)(v:V):∀fs:List (Str×V),(zO f v fs).length<=fs.length+1
 | []=>by simp [zO]
 | (k,x)::r=>by
  have ih:=ja f v r;rw[show zO f v ((k,x)::r)=(if k=f then (k,v)::r else (k,x)::zO f v r) from rfl]
  by_cases hk:k=f
  ·rw[if_pos hk,length_cons,length_cons];omega
  ·rw[if_neg hk,length_cons,length_cons];omega
theorem x6{v:V}{o:Option Value}(r:ua (some v) o):∃u,o=some u/\zT v u:=by
 cases o with
 | none=>exact(show False from r).elim
 | some u=>exact⟨u,rfl,r⟩
theorem ua.none_of{o:Option Value}(r:ua none o):o=none:=by
 cases o with
 | none=>rfl
 | some u=>exact(show False from r).elim
theorem q0{v:V}{u:Value}(r:zT v u):PySem.W.handedIn u=true:=by
 cases v with
 | non=>cases (show u=Value.none from r);rfl
 | bl b=>cases (show u=Value.bool b from r);rfl
 | int i=>obtain⟨t,e⟩:=(show ∃t,u=Value.int i t from r);cases e;rfl
 | str x=>obtain⟨t,e⟩:=(show ∃t,u=Value.str x t from r);cases e;rfl
 | byt b=>obtain⟨t,e⟩:=(show ∃t,u=Value.bytes b t from r);cases e;rfl
 | flt b=>obtain⟨t,e⟩:=(show ∃t,u=Value.float b t from r);cases e;rfl
 | ref a=>cases (show u=Value.ref a from r);rfl
 | ty n=>cases (show u=Value.type n from r);rfl
end
section
variable {P:Program}{w:World}{H H':Hp}{h h':Heap}{a C dx:Addr}{fs fs':List (Str×V)}
theorem js(hok:HOk P w H h)(e:H a=some (.ins C dx fs)):∃mA,zcL h a dx C mA/\(∀f,ua (fs.lookup f) (mA f))/\PySem.Within mA (fs.map (·.1))/\fs.length<=1000/\H dx=some (.own a):=by
 obtain⟨d,z,ne,ob,mA,n,r,q⟩:=(show yq P w H h a (.ins C dx fs) from hok a _ e);exact⟨mA,⟨ob,n,ne⟩,r,q,z,d⟩
structure Cls(K:Frag)(C:Addr):Prop where
 pg:plainGet K C Str.empty=true
 hd:hasDictIn K C=true
 po:plainOver K C=true
 sa:findIn K (.ref C) "__setattr__"=some (some (.builtin "object.__setattr__"))
theorem Cls.get{K:Frag}{C:Addr}(c:Cls K C)(f:Str):plainGet K C f=true:=c.pg
def z5(K:Frag)(C:Addr)(f:Str):Prop:=findIn K (.ref C) f=some none
theorem z5.taker{K:Frag}{C:Addr}{f:Str}(n:z5 K C f):takerIn K C f=some none:=by
 unfold takerIn;rw[show findIn K (.ref C) f=some none from n];rfl
structure yT(K:Frag)(C:Addr)(m:Str)(f:Addr):Prop where
 at_:findIn K (.ref C) m=some (some (.ref f))
 fn:isFn K (.ref f)=true
 kp:keepIn K (.ref f)=true
variable {X:Cx}{pins:PnL}{σ:St}{s:Shared}{f:Str}{v:V}{A:Around}{E:VSP}
theorem qh{b:Bool}{Q:VSP}(I:Inv X pins σ H s)(e:H a=some (.ins C dx fs))(c:Cls X.K C)(n:z5 X.K C f)(l:fs.lookup f=some v)
  (h:∀u s',Inv X pins σ H s'->zT v u->Q u s'):wpAny (model X.prog X.w) A (getAttr (.ref a) f b) Q E s:=by
 obtain⟨mA,O,r,_,_,_⟩:=js I.hok e;obtain⟨u,hu,ru⟩:=x6 (v:=v) (o:=mA f) (by rw[<- l];exact r f)
 exact zhV I.kIn O (c.get f) c.hd n hu (q0 ru) (h u _ (I.tok _) ru)
theorem ve{m:Str}{g:Addr}{pl:Sem Bool}{Q:Value×List Value->Shared->Prop}(I:Inv X pins σ H s)(e:H a=some (.ins C dx fs))(c:Cls X.K C)(k:yT X.K C m g)(l:fs.lookup m=none)
  (h:Q (.ref g,[.ref a]) s):wpAny (model X.prog X.w) A (getMethod (.ref a) m pl) Q E s:=by
 obtain⟨mA,O,r,_,_,_⟩:=js I.hok e;have hn:mA m=none:=ua.none_of (by rw[<- l];exact r m)
 exact zgm I.kIn O (c.get m) k.at_ k.fn hn h
theorem jE{y:V}{u:Value}{Q:Unit->Shared->Prop}(I:Inv X pins σ H s)(e:H a=some (.ins C dx fs))(c:Cls X.K C)(n:z5 X.K C f)(hl:fs.length<1000)(ry:zT y u)
  (h:∀s',Inv X pins σ (upd H a (.ins C dx (zO f y fs))) s'->Q () s'):wpAny (model X.prog X.w) A (setAttr (.ref a) f u) Q E s:=by
 obtain⟨mA,O,r,wi,_,ho⟩:=js I.hok e;have hz:(fs.map (·.1)).length<=sizeLine:=by rw[length_map,sizeLine_eq];omega
 refine zgR I.kIn O c.sa c.po n.taker c.hd wi hz fun h' O' sb=>h _ ?_;have hd:∃o,h'.get? dx=some o:=let ⟨o,_,_,e',_⟩:=O'.ns;⟨o,e'⟩;refine I.write (x:=a) (e:=dx) (by rw[e];exact True.intro) (.inr ho) (fun b q hb z=>(sb.2 b hb).trans z) hd ?_
 exists by rw[zf O.ne];exact ho,?_,O.ne,O'.obj,_,O'.ns,fun g=>?_,fun g hg=>?_
 ·have:=ja f y fs;omega
 ·show ua ((zO f y fs).lookup g) (if g=f then some u else mA g)
  rw[zk];by_cases q:g=f
  ·rw[if_pos q,if_pos q];exact ry
  ·rw[if_neg q,if_neg q];exact r g
 ·by_cases q:g=f
  ·rw[q];exact(uT f y fs).1
  ·refine(uT f y fs).2 g (wi g fun z=>hg ?_)
   show(if g=f then some u else mA g)=none
   rw[if_neg q];exact z
theorem Inv.made(I:Inv X pins σ H s):Inv X pins σ (upd (upd H s.heap.objs.size (.own (s.heap.objs.size+1))) (s.heap.objs.size+1) (.ins C s.heap.objs.size []))
  { s with heap:=(s.heap.push emptyDict).push (instObj C s.heap.objs.size) }:=by
 have e1:(s.heap.push emptyDict).get? s.heap.objs.size=some emptyDict:=zgs s.heap rfl;have e2:((s.heap.push emptyDict).push (instObj C s.heap.objs.size)).get? (s.heap.objs.size+1)=some (instObj C s.heap.objs.size):=by
  have:=zgs (s.heap.push emptyDict) (o:=instObj C s.heap.objs.size) rfl
  rwa [Heap.size_push] at this
 have e3:(s.heap.push emptyDict).Ns s.heap.objs.size (fun _=>none):=⟨emptyDict,#[],_,e1,rfl,(fun e he=>absurd he (by simp)),fun _=>rfl⟩
 have I1:=I.laid (a:=s.heap.objs.size) (o:=.own (s.heap.objs.size+1)) (h':=s.heap.push emptyDict) (t':=s.toks) (fun b u q=>zgp _ q) (le_refl _) ⟨_,e1⟩;refine I1.laid (a:=s.heap.objs.size+1) (o:=.ins C s.heap.objs.size []) (t':=s.toks) (fun b u q=>zgp _ q) (Nat.le_of_eq (Heap.size_push _ _)) ?_;have ne:s.heap.objs.size≠s.heap.objs.size+1:=ne_of_lt (lt_succ_self _);exists by rw[zf ne,za],zero_le _,ne,e2,fun _=>none,(Heap.Ns1.of_empty e3).at fun o q=>zgp _ q,fun _=>True.intro,fun y hy=>absurd rfl hy
theorem zdy{prog:Program}{w:World}{env:Env}{e:Expr}{f:Str}{pos:Pos}{s:Shared}{Q:VSP}(hb:attributeBase e f env (eval e env)=eval e env)
  (h:wpAny (model prog w) A (eval e env) (fun o s₁=>wpAny (model prog w) A (getAttr o f true) Q E s₁) E s):wpAny (model prog w) A (eval (.Attribute e f pos) env) Q E s:=
 Attribute_any_ h (by rw[arm_eval_Attribute,hb])
inductive zknJ(K:Frag)(f:Str)(Q:VK)(x:V)(H1:Hp):Prop|mk(a C dx fs v:_):x=.ref a->H1 a=some (.ins C dx fs)->Cls K C->z5 K C f->fs.lookup f=some v->(Q v H1)->zknJ K f Q x H1
def zkn(K:Frag)(ta:TE)(f:Str):TE:=fun σ H Q=>ta σ H fun x H1=>zknJ K f Q x H1
inductive zlMJ(K:Frag)(f:Str)(D:L2.wF)(σ:St)(y:V)(x:V)(H2:Hp):Prop|mk(a C dx fs:_):x=.ref a->H2 a=some (.ins C dx fs)->Cls K C->z5 K C f->fs.length<1000->(D.nx σ (upd H2 a (.ins C dx (zO f y fs))))->zlMJ K f D σ y x H2
def zlM(K:Frag)(ta tv:TE)(f:Str):TS:=fun D σ H=>tv σ H fun y H1=>ta σ H1 fun x H2=>zlMJ K f D σ y x H2
def zlx(X:Cx)(op:Operator)(rd:V->V->Hp->VK->Prop):Prop:=
 ∀(pins:PnL) (s:Shared) (σ : St) (H:Hp) (x y:V) (u v:Value) (Q:VK),Inv X pins σ H s->zT x u->zT y v->rd x y H Q->wpAny (model X.prog X.w) X.A (inplaceOp op u v) (EP X pins σ Q) X.xe s
inductive zg7J(K:Frag)(tv:TE)(rd:V->V->Hp->VK->Prop)(f:Str)(D:L2.wF)(σ:St)(x:V)(H1:Hp):Prop|mk(a C dx fs v:_):x=.ref a->H1 a=some (.ins C dx fs)->Cls K C->z5 K C f->fs.lookup f=some v->(tv σ H1 fun y H2=>rd v y H2 fun z H3=>∃dx' fs',H3 a=some (.ins C dx' fs')/\fs'.length<1000/\D.nx σ (upd H3 a (.ins C dx' (zO f z fs'))))->zg7J K tv rd f D σ x H1
def zg7(K:Frag)(ta tv:TE)(rd:V->V->Hp->VK->Prop)(f:Str):TS:=fun D σ H=>ta σ H fun x H1=>zg7J K tv rd f D σ x H1
variable {o e value:Expr}{pos pos' tpos:Pos}{ta tv:TE}
theorem yh(he:PE X e ta)(hb:attributeBase e f X.env (eval e X.env)=eval e X.env):PE X (.Attribute e f pos) (zkn X.K ta f):=by
 exists ?_;intro pins s σ H Q I h;refine zdy hb (thn (he pins s σ H _ I h) fun u s1 ⟨x,H1,I1,rx,a,C,dx,fs,v,ex,ea,c,n,l,q⟩=>?_);subst ex;obtain rfl:u=Value.ref a:=rx;exact qh I1 ea c n l fun u' s2 I2 ru=>⟨v,H1,I2,ru,q⟩
theorem y9(ha:PE X o ta)(hv:PE X value tv)(hs:swapsWith value (some (.Attribute o f pos')) pos.line X.env=pure false):PS X (.Assign [.Attribute o f pos'] value pos) (zlM X.K ta tv f):=by
 exists ?_;intro pins s σ H D I h;refine plainObj_wpAny_Assign_Attribute (thn (hv pins s σ H _ I h) fun u s1 ⟨y,H1,I1,ry,q⟩=>thn (ha pins s1 σ H1 _ I1 q) fun ov s2 ⟨x,H2,I2,rx,a,C,dx,fs,ex,ea,c,n,l,q2⟩=>?_) hs;subst ex;obtain rfl:ov=Value.ref a:=rx;exact jE I2 ea c n l ry fun s3 I3=>⟨σ,_,I3,q2⟩
theorem zdQ{op:Operator}{rd:V->V->Hp->VK->Prop}(ha:PE X o ta)(hv:PE X value tv)(hop:zlx X op rd):PS X (.AugAssign (.Attribute o f tpos) op value pos) (zg7 X.K ta tv rd f):=by
 exists ?_;intro pins s σ H D I h;refine wpAny_AugAssign_AttributeAny (thn (ha pins s σ H _ I h) fun ov s1 ⟨x,H1,I1,rx,a,C,dx,fs,v,ex,ea,c,n,l,q⟩=>?_);subst ex;obtain rfl:ov=Value.ref a:=rx;refine qh I1 ea c n l fun u s2 I2 ru=>thn (hv pins s2 σ H1 _ I2 q) fun w3 s3 ⟨y,H2,I3,ry,q3⟩=>thn (hop pins s3 σ H2 v y u w3 _ I3 ru ry q3) fun w4 s4 ⟨z,H3,I4,rz,dx',fs',ea',l',q4⟩=>?_;exact jE I4 ea' c n l' rz fun s5 I5=>⟨σ,_,I5,q4⟩
def zlT:V->V->Hp->VK->Prop:=fun x y H Q=>∃i j,x=.int i/\y=.int j/\Q (.int (i+j)) H
theorem zjX:zlx X .Add zlT:=by
 rintro pins s σ H x y u v Q I rx ry ⟨i,j,rfl,rfl,q⟩;obtain⟨t,rfl⟩:=(show ∃t,u=Value.int i t from rx);obtain⟨t',rfl⟩:=(show ∃t',v=Value.int j t' from ry);exact PyProof.Rows.iadd_int ⟨.int (i+j),H,I.tok _,⟨_,rfl⟩,q⟩
variable {Q:VSP}{c:Value}{b:Bool}
inductive wp(K:Frag)(H:Hp):V->Value->Prop where
 | non:wp K H .non (.type "NoneType")
 | bl (x:Bool):wp K H (.bl x) (.type "bool")
 | int (i:Int):wp K H (.int i) (.type "int")
 | str (x:Str):wp K H (.str x) (.type "str")
 | flt (x:UInt64):wp K H (.flt x) (.type "float")
 | lst {a:Addr}{xs:List V}(e:H a=some (.lst xs)):wp K H (.ref a) (.type "list")
 | frz {a:Addr}{o:Obj}{xs:List V}(e:H a=some (.frz o (.lst xs))):wp K H (.ref a) (.type "list")
 | tup {a:Addr}{xs:List V}(e:H a=some (.tup xs)):wp K H (.ref a) (.type "tuple")
 | dK {a:Addr}{kvs:List (Key×V)}(e:H a=some (.dK kvs)):wp K H (.ref a) (.type "dict")
 | dT {a:Addr}{kvs:List (List Key×V)}(e:H a=some (.dT kvs)):wp K H (.ref a) (.type "dict")
 | ins {a C dx:Addr}{fs:List (Str×V)}(e:H a=some (.ins C dx fs)) (cl:Cls K C) (ha:findIn K (.ref C) "__class__"=some (some (.builtin "object.__class__")))
   (hn:specialIn K (.builtin "object.__class__") "__get__"=some (some (.builtin "getset_descriptor.__get__"))) (htk:PySem.W.takesIn K (.builtin "object.__class__")=some true)
   (hm:mroIn K C (.type "object")=some true):wp K H (.ref a) (.ref C)
theorem qY{x:V}{u t:Value}(I:Inv X pins σ H s)(rx:zT x u)(ty:wp X.K H x t)(e:kitOne X.K t c=some b)(h:∀tk,Q (.bool b) { s with toks:=tk }):
  wpAny (model X.prog X.w) A (call (.builtin "isinstance") [u,c]) Q E s:=by
 cases ty with
 | non=>cases (show u=Value.none from rx);exact kia_one PySem.W.kitx_none I.kIn True.intro e (fun z=>nomatch z) h
 | bl y=>cases (show u=Value.bool y from rx);exact kia_one PySem.W.kitx_bool I.kIn True.intro e (fun z=>nomatch z) h
 | int i=>obtain⟨t,q⟩:=(show ∃t,u=Value.int i t from rx);cases q;exact kia_one PySem.W.kitx_int I.kIn True.intro e (fun z=>nomatch z) h
 | str y=>obtain⟨t,q⟩:=(show ∃t,u=Value.str y t from rx);cases q;exact kia_one PySem.W.kitx_str I.kIn True.intro e (fun z=>nomatch z) h
 | flt y=>obtain⟨t,q⟩:=(show ∃t,u=Value.float y t from rx);cases q;exact kia_one PySem.W.kitx_float I.kIn True.intro e (fun z=>nomatch z) h
 | @lst a xs ea=>
  cases (show u=Value.ref a from rx);obtain⟨_,_,n,_,h1⟩:=(show yq X.prog X.w H s.heap a (.lst xs) from I.hok a _ ea);exact kia_one PySem.W.kitx_list I.kIn ⟨_,h1,rfl⟩ e (fun z=>nomatch z) h
 | @frz a ob xs ea=>
  cases (show u=Value.ref a from rx);obtain⟨_,_,_,n,_,h1⟩:=(show yq X.prog X.w H s.heap a (.frz ob (.lst xs)) from I.hok a _ ea);exact kia_one PySem.W.kitx_list I.kIn ⟨_,h1,rfl⟩ e (fun z=>nomatch z) h
 | @tup a xs ea=>
  cases (show u=Value.ref a from rx);obtain⟨_,_,_,p⟩:=(show yq X.prog X.w H s.heap a (.tup xs) from I.hok a _ ea);obtain⟨o,h1,h2,_⟩:=p;exact kia_one PySem.W.kitx_tuple I.kIn ⟨o,h1,h2⟩ e (fun z=>nomatch z) h
 | @dK a kvs ea=>
  cases (show u=Value.ref a from rx);obtain⟨_,_,vs,_,p⟩:=(show yq X.prog X.w H s.heap a (.dK kvs) from I.hok a _ ea);obtain⟨o,es,ep,h1,h2,_⟩:=p;exact kia_one PySem.W.kitx_dict I.kIn ⟨o,h1,h2.1⟩ e (fun z=>nomatch z) h
 | @dT a kvs ea=>
  cases (show u=Value.ref a from rx);obtain⟨_,_,xs,_,o,es,ep,h1,h2,_⟩:=(show yq X.prog X.w H s.heap a (.dT kvs) from I.hok a _ ea);exact kia_one PySem.W.kitx_dict I.kIn ⟨o,h1,h2.1⟩ e (fun z=>nomatch z) h
 | @ins a C dx fs ea cl ha hn htk hm=>
  cases (show u=Value.ref a from rx);obtain⟨mA,O,_⟩:=js I.hok ea;obtain⟨od,J,_⟩:=O.look;exact kia_one (PySem.W.kitx_own (cl.get _) cl.hd ha hn htk hm) I.kIn J e (fun z=>nomatch z) h
structure yf(k:Nat)(A:Around):Prop where
 hd:A.handled=none
 dp:A.depth+3 * k+5<recursionLimit
 un:A.units+16 * k+200<cLine
 gd:A.guards=some []
theorem yf.mono{j k:Nat}{A:Around}(r:yf k A)(h:j<=k):yf j A:=⟨r.hd,by have:=r.dp;omega,by have:=r.un;omega,r.gd⟩
theorem yf.deeper{k:Nat}{A:Around}(r:yf (k+1) A)(env:Env):yf k (A.deeper env):=
 ⟨r.hd,by have:=r.dp;show A.depth+1+3 * k+5<_;omega,by have:=r.un;show A.units+3+16 * k+200<_;omega,r.gd⟩
theorem zcy{A:Around}{C:Addr}{us:List Value}{kw:List (Str×Value)}:(A.under (.builtin "type.__call__" ⟨.ref C::us,kw⟩)).depth=A.depth+1:=by
 first|rfl|simp [Around.under,Code.weight,Code.isCreation,Code.isGuard,Code.isCaller,Code.frames,Code.isFrame,guardIds]
theorem zcx{A:Around}{C:Addr}{us:List Value}{kw:List (Str×Value)}:(A.under (.builtin "type.__call__" ⟨.ref C::us,kw⟩)).units=A.units+1:=by
 first|rfl|simp [Around.under,Code.cUnits,Code.frames,Code.isFrame]
theorem yf.make{k:Nat}{A:Around}(r:yf (k+1) A)(C:Addr)(us:List Value)(kw:List (Str×Value)):yf k (A.under (.builtin "type.__call__" ⟨.ref C::us,kw⟩)):=
 ⟨r.hd,by have:=r.dp;rw[zcy];omega,by have:=r.un;rw[zcx];omega,r.gd⟩
theorem yf.depth{k:Nat}{A:Around}(r:yf k A):A.depth<recursionLimit:=by have:=r.dp;omega
theorem yf.units{k:Nat}{A:Around}(r:yf k A):A.units+64<cLine:=by have:=r.un;omega
theorem yf.units0{k:Nat}{A:Around}(r:yf k A):A.units<cLine:=by have:=r.un;omega
def zgL:TA:=fun _ H Q=>Q [] H
def zcQ(ta:TE)(tr:TA):TA:=fun σ H Q=>ta σ H fun x H1=>tr σ H1 fun xs H2=>Q (x::xs) H2
variable {es:List Expr}{te:TE}{t:TA}
theorem zb:PA X [] zgL:=⟨fun _ _ _ _ H Q I h=>Calls.spliced_nil ⟨[],H,I,.nil,h⟩⟩
theorem zhm(ha:PE X e te)(hr:PA X es t)(hs:starEach (e::es) X.env=(false,eval e X.env)::starEach es X.env:=by rfl):PA X (e::es) (zcQ te t):=by
 exists ?_;intro pos pins s σ H Q I h;rw[hs];show wpAny _ _ (spliced ((false,eval e X.env)::backTo pos (starEach es X.env))) _ _ s;refine Calls.spliced_cons (thn (ha pins s σ H _ I h) fun u s1 ⟨x,H1,I1,r1,q1⟩=>?_);exact thn (hr pos pins s1 σ H1 _ I1 q1) fun us s2 ⟨xs,H2,I2,r2,q2⟩=>⟨x::xs,H2,I2,.cons r1 r2,q2⟩
def zkh(t:TA):TE:=fun σ H Q=>t σ H fun xs H1=>xs.length<=sizeLine/\∀p,H1 p=none->Q (.ref p) (upd H1 p (.tup xs))
def zlD(t:TA):TE:=fun σ H Q=>t σ H fun xs H1=>xs.length<=sizeLine/\∀p,H1 p=none->Q (.ref p) (upd H1 p (.lst xs))
theorem zQ{x1}(h:PA X es t):PE X (.Tuple es x1 pos) (zkh t):=by
 exists ?_;intro pins s σ H Q I hq;refine wpAny_Tuple_spliced (thn (h pos pins s σ H _ I hq) fun us s1 ⟨xs,H1,I1,r,z,q⟩=>⟨by rw[<- r.length];exact z,?_⟩)
 have hf:H1 s1.heap.objs.size=none:=I1.hok.fresh (le_refl _);exists .ref s1.heap.objs.size,upd H1 s1.heap.objs.size (.tup xs),I1.laid (t':=s1.toks) (fun b u e=>zgp _ e) (le_refl _) ?_,rfl,q _ hf;exact⟨z,us,r,⟨_,zgs _ rfl,rfl,_,rfl⟩⟩
theorem yg(h:PA X es t):PE X (.List es pos) (zlD t):=by
 exists ?_;intro pins s σ H Q I hq;refine wpAny_List_spliced (thn (h pos pins s σ H _ I hq) fun us s1 ⟨xs,H1,I1,r,z,q⟩=>⟨by rw[<- r.length];exact z,?_⟩)
 have hf:H1 s1.heap.objs.size=none:=I1.hok.fresh (le_refl _);exists .ref s1.heap.objs.size,upd H1 s1.heap.objs.size (.lst xs),I1.laid (t':=s1.toks) (fun b u e=>zgp _ e) (le_refl _) ?_,rfl,q _ hf;exact⟨z,us,0,r,zgs _ rfl⟩
abbrev Sp:=List V->Hp->VK->XK->Prop
abbrev CXT:=List Env->Hp->Shared->XK->Value->Shared->Prop
structure qG(P:Program)(w:World)(K:Frag)(mg:Str->Option Value)(base:Heap)(A:Around)(outer:List Env)(s:Shared)(H:Hp):Prop where
 frames:A.frames=some outer
 mod:Mod K mg base
 bs:∀b o,base.get? b=some o->s.heap.get? b=some o/\H b=none
 bsz:base.objs.size<=s.heap.objs.size
 funs:s.heap.FunFrames base outer
 frf:∀b∈frs outer,H b=none
 hok:HOk P w H s.heap
 bare:AllBare s.gens
def CE(outer:List Env)(P:Program)(w:World)(H:Hp)(s:Shared)(Q:VK)(u:Value)(s':Shared):Prop:=
 ∃v H',s'.os=s.os/\AllBare s'.gens/\Un (frs outer) [] H H' s.heap s'.heap/\HOk P w H' s'.heap/\zT v u/\Q v H'
def CR(CX:CXT)(outer:List Env)(P:Program)(w:World)(H:Hp)(s:Shared)(Q:VK)(E:XK)(r:Result)(s':Shared):Prop:=
 match r with
 | .ok (.ret u)=>CE outer P w H s Q u s'
 | .ok _=>False
 | .error e=>CX outer H s E e s'
structure zx(P:Program)(w:World)(K:Frag)(mg:Str->Option Value)(base:Heap)(CX:CXT)(k:Nat)(f:Addr)(fd:FuncData)(ps:List Str)(sp:Sp):Prop where
 len:∀vs H Q E,sp vs H Q E->vs.length=ps.length
 run:∀(A:Around) (outer:List Env) (s:Shared) (H:Hp) (args:Args) (us:List Value) (vs:List V) (Q:VK) (E:XK),yf k A->qG P w K mg base A outer s H->BindsTo s fd args (ps.zip us)->zX vs us->sp vs H Q E->
  codeAny (model P w) A (.call (.ref f) args) (CR CX outer P w H s Q E) s
theorem qG.make{P:Program}{w:World}{K:Frag}{mg:Str->Option Value}{base:Heap}{A:Around}{outer:List Env}{s:Shared}{H:Hp}(e:qG P w K mg base A outer s H)(C:Addr)(us:List Value)(kw:List (Str×Value)):
  qG P w K mg base (A.under (.builtin "type.__call__" ⟨.ref C::us,kw⟩)) outer s H:=⟨by first|exact e.frames|(simpa [Around.under,Code.envs,Code.isFrame,pushEnvs] using e.frames),e.mod,e.bs,e.bsz,e.funs,e.frf,e.hok,e.bare⟩
variable {s':Shared}
theorem Inv.env0(I:Inv X pins σ H s):qG X.prog X.w X.K X.mg X.base X.A X.stack s H:=
 ⟨I.ok.frames,I.ok.mod,I.bs,le_trans I.ok.bsz I.sz,I.stack,I.stkFree,I.hok,I.bare⟩
theorem Inv.after{Q:VK}{u:Value}(I:Inv X pins σ H s)(h:CE X.stack X.prog X.w H s Q u s'):EP X pins σ Q u s':=by
 obtain⟨v,H',os,bare,un,hok,r,q⟩:=h;obtain⟨hh,g,d,t,os'⟩:=s';obtain rfl:os'=s.os:=os;exact⟨v,H',I.call (h':=hh) (g':=g) (d':=d) (t':=t) (ch:=[]) un hok bare (fun b z=>absurd z (by simp)),r,q⟩
def za6(sp:Sp)(dvs:List V)(E:XK)(t:TA):TE:=fun σ H Q=>t σ H fun vs H1=>sp (vs++dvs) H1 Q E
inductive zezJ(C:Addr)(m:Str)(sp:Sp)(dvs:List V)(E:XK)(t:TA)(σ:St)(Q:VK)(x:V)(H1:Hp):Prop|mk(a dx fs:_):x=.ref a->H1 a=some (.ins C dx fs)->fs.lookup m=none->(t σ H1 fun vs H2=>sp (x::(vs++dvs)) H2 Q E)->zezJ C m sp dvs E t σ Q x H1
def zez(C:Addr)(m:Str)(sp:Sp)(dvs:List V)(E:XK)(ta:TE)(t:TA):TE:=fun σ H Q=>ta σ H fun x H1=>zezJ C m sp dvs E t σ Q x H1
def zie(C:Addr)(sp:Sp)(dvs:List V)(E:XK)(t:TA):TE:=fun σ H Q=>t σ H fun vs H1=>∀x dx,H1 x=none->H1 dx=none->dx≠x->
 sp (.ref x::(vs++dvs)) (upd (upd H1 dx (.own x)) x (.ins C dx [])) (fun v H2=>v=.non/\Q (.ref x) H2) E
def zN(K:Frag)(fd:FuncData)(ps:List Str)(ds:List Value):Prop:=
 ∀(s:Shared) (us:List Value),K.In s.heap->(us++ds).length=ps.length->BindsTo s fd ⟨us,[]⟩ (ps.zip (us++ds))
theorem zN.all{K:Frag}{fd:FuncData}{ps:List Str}(h:∀us:List Value,us.length=ps.length->bindArgs fd ⟨us,[]⟩=pure (ps.zip us)):zN K fd ps []:=fun s us _ hl=>by
 rw[append_nil] at hl |-;exact .of_eq (h us hl)
def xy(CX:CXT)(X:Cx)(E:XK):Prop:=∀(pins:PnL) (σ : St) (H:Hp) (s:Shared) (e:Value) (s':Shared),Inv X pins σ H s->CX X.stack H s E e s'->X.xe e s'
end
section
variable {X:Cx}{CX:CXT}{k:Nat}{f C:Addr}{fd:FuncData}{ps:List Str}{sp:Sp}{dvs:List V}{ds:List Value}{E:XK}{x m:Str}{p pos apos:Pos}{e o:Expr}{es:List Expr}{ta:TE}{t:TA}
theorem jQ{pins:PnL}{σ : St}{H:Hp}{s:Shared}{Q:VK}{us:List Value}{vs:List V}(F:zx X.prog X.w X.K X.mg X.base CX k f fd ps sp)(hr:yf k X.A)(hb:zN X.K fd ps ds)(hd:zX dvs ds)(hx:xy CX X E)
  (I:Inv X pins σ H s) (r:zX vs us) (h:sp (vs++dvs) H Q E):wpAny (model X.prog X.w) X.A (call (.ref f) us) (EP X pins σ Q) X.xe s:=by
 have r2:zX (vs++dvs) (us++ds):=r.append hd;have hl:(us++ds).length=ps.length:=by rw[<- r2.length];exact F.len _ _ _ _ h
 refine wpAny_call (codeAny_mono (F.run X.A X.stack s H ⟨us,[]⟩ (us++ds) (vs++dvs) Q E hr I.env0 (hb s us I.kIn hl) r2 h) fun r s' hq=>?_);cases r with
 | error e=>exact hx pins σ H s e s' I hq
 | ok fl=>
  cases fl with
  | ret u=>exact I.after hq
  | next=>exact False.elim hq
  | brk=>exact False.elim hq
  | cont=>exact False.elim hq
theorem zdd(F:zx X.prog X.w X.K X.mg X.base CX k f fd ps sp)(hr:yf k X.A)(hg:Gl X x)(hm:X.mg x=some (.ref f))(hk:keepIn X.K (.ref f)=true)(hb:zN X.K fd ps ds)(hd:zX dvs ds)(hx:xy CX X E)
  (ha:PA X (e::es) t) (hdb:(x==("__debug__" : Str))=false:=by decide) (he:starEach (e::es) X.env=(false,eval e X.env)::starEach es X.env:=by rfl) (hpl:(backTo pos (starEach es X.env)).any (·.1)=false:=by rfl) :
  PE X (.Call (.Name x p) (e::es) [] pos) (za6 sp dvs E t):=by
 exists ?_;intro pins s σ H Q I h;refine wpAny_Call_Name_kw (xX I hg hm ?_ hdb);refine callWith_K (h₀:=X.base) I.ok.mod.kin hk (thn (ha pos pins s σ H _ I h) fun us s1 ⟨vs,H1,I1,r,q⟩=>⟨I1.kIn,?_⟩) he hpl;exact jQ F hr hb hd hx I1 r q
theorem jr{pl:Sem Bool}(he:PE X o ta)(c:Cls X.K C)(hm:yT X.K C m f)(F:zx X.prog X.w X.K X.mg X.base CX k f fd ps sp)(hr:yf k X.A)(hb:zN X.K fd ps ds)(hd:zX dvs ds)(hx:xy CX X E)(ha:PA X (e::es) t)
  (hst:starEach (e::es) X.env=(false,eval e X.env)::starEach es X.env:=by rfl) (hpl:(backTo pos (starEach es X.env)).any (·.1)=false:=by rfl)
  (ht:eval (.Call (.Attribute o m apos) (e::es) [] pos) X.env=(do
   let ov <- eval o X.env
   standAt apos.atName
   let (f,first) <- holding [ov] (getMethod ov m pl)
   callWith pos f first (backTo pos (starEach (e::es) X.env)) (backToKw pos (keywordEach [] X.env))):=by rfl) :
  PE X (.Call (.Attribute o m apos) (e::es) [] pos) (zez C m sp dvs E ta t):=by
 exists ?_;intro pins s σ H Q I h;refine methodCall_KW (pl:=pl) (thn (he pins s σ H _ I h) fun u s1 ⟨x,H1,I1,rx,a,dx,fs,ex,ea,l,q⟩=>?_) ht;subst ex;obtain rfl:u=Value.ref a:=rx;refine ve I1 ea c hm l ?_;refine callWith_K (first:=[.ref a]) (h₀:=X.base) I.ok.mod.kin hm.kp (thn (ha pos pins s1 σ H1 _ I1 q) fun us s2 ⟨vs,H2,I2,r,q2⟩=>⟨I2.kIn,?_⟩) hst hpl
 exact jQ (us:=.ref a::us) (vs:=.ref a::vs) F hr hb hd hx I2 (.cons rfl r) q2
theorem yi{pl:Sem Bool}(he:PE X o ta)(c:Cls X.K C)(hm:yT X.K C m f)(F:zx X.prog X.w X.K X.mg X.base CX k f fd ps sp)(hr:yf k X.A)(hb:zN X.K fd ps ds)(hd:zX dvs ds)(hx:xy CX X E)
  (ht:eval (.Call (.Attribute o m apos) [] [] pos) X.env=(do
   let ov <- eval o X.env
   standAt apos.atName
   let (f,first) <- holding [ov] (getMethod ov m pl)
   callWith pos f first (backTo pos (starEach [] X.env)) (backToKw pos (keywordEach [] X.env))):=by rfl) :
  PE X (.Call (.Attribute o m apos) [] [] pos) (zez C m sp dvs E ta zgL):=by
 exists ?_;intro pins s σ H Q I h;refine methodCall_KW (pl:=pl) (thn (he pins s σ H _ I h) fun u s1 ⟨x,H1,I1,rx,a,dx,fs,ex,ea,l,q⟩=>?_) ht;subst ex;obtain rfl:u=Value.ref a:=rx;refine ve I1 ea c hm l ?_;exact callWith_K0 (first:=[.ref a]) I1.kIn hm.kp (jQ (us:=[.ref a]) (vs:=[.ref a]) F hr hb hd hx I1 (.cons rfl .nil) q)
structure Mk(K:Frag)(C f:Addr):Prop where
 makes:makesIn K C=true
 init:findIn K (.ref C) "__init__"=some (some (.ref f))
 fn:isFn K (.ref f)=true
 kp:keepIn K (.ref C)=true
theorem zfd{pins:PnL}{σ : St}{H:Hp}{s:Shared}{Q:VK}{us:List Value}{vs:List V}(M:Mk X.K C f)(F:zx X.prog X.w X.K X.mg X.base CX k f fd ps sp)(hr:yf (k+1) X.A)(hb:zN X.K fd ps ds)(hd:zX dvs ds)
  (hx:xy CX X E) (I:Inv X pins σ H s) (r:zX vs us)
  (h:∀x dx,H x=none->H dx=none->dx≠x->sp (.ref x::(vs++dvs)) (upd (upd H dx (.own x)) x (.ins C dx [])) (fun v H2=>v=.non/\Q (.ref x) H2) E) :
  wpAny (model X.prog X.w) X.A (call (.ref C) us) (EP X pins σ Q) X.xe s:=by
 have hq:=h (s.heap.objs.size+1) s.heap.objs.size (I.hok.fresh (le_succ _)) (I.hok.fresh (le_refl _)) (ne_of_lt (lt_succ_self _));have I2:=Inv.made (C:=C) I;have r2:zX (V.ref (s.heap.objs.size+1)::(vs++dvs)) (Value.ref (s.heap.objs.size+1)::(us++ds)):=.cons rfl (r.append hd);have hl:(Value.ref (s.heap.objs.size+1)::us++ds).length=ps.length:=by
  have e:=r2.length;rw[F.len _ _ _ _ hq] at e;exact e.symm
 refine wpAny_call (zga (f:=f) I.kIn M.makes M.init (beq_iff_eq.mp M.fn) (codeAny_mono (F.run _ X.stack _ _ ⟨Value.ref (s.heap.objs.size+1)::us,[]⟩ (Value.ref (s.heap.objs.size+1)::(us++ds)) _ _ E (hr.make C us [])
  (I2.env0.make C us []) (hb _ (Value.ref (s.heap.objs.size+1)::us) I2.kIn hl) r2 hq) fun r s' hq'=>?_))
 cases r with
 | error e=>exact hx pins σ _ _ e s' I2 hq'
 | ok fl=>
  cases fl with
  | ret u=>
   obtain⟨v,H',I3,rv,ev,q3⟩:=I2.after hq';subst ev;exact⟨rv,⟨V.ref (s.heap.objs.size+1),H',I3,rfl,q3⟩⟩
  | next=>exact False.elim hq'
  | brk=>exact False.elim hq'
  | cont=>exact False.elim hq'
theorem zaJ(M:Mk X.K C f)(F:zx X.prog X.w X.K X.mg X.base CX k f fd ps sp)(hr:yf (k+1) X.A)(hg:Gl X x)(hm:X.mg x=some (.ref C))(hb:zN X.K fd ps ds)(hd:zX dvs ds)(hx:xy CX X E)
  (ha:PA X (e::es) t) (hdb:(x==("__debug__" : Str))=false:=by decide) (he:starEach (e::es) X.env=(false,eval e X.env)::starEach es X.env:=by rfl) (hpl:(backTo pos (starEach es X.env)).any (·.1)=false:=by rfl) :
  PE X (.Call (.Name x p) (e::es) [] pos) (zie C sp dvs E t):=by
 exists ?_;intro pins s σ H Q I h;refine wpAny_Call_Name_kw (xX I hg hm ?_ hdb);refine callWith_K (h₀:=X.base) I.ok.mod.kin M.kp (thn (ha pos pins s σ H _ I h) fun us s1 ⟨vs,H1,I1,r,q⟩=>⟨I1.kIn,?_⟩) he hpl;exact zfd M F hr hb hd hx I1 r q
variable {ks:List Str}{kpos:Pos}{kws:List Keyword}{te:TE}{tk:TA}{nm:Option Str}
variable {g:List Value->List Value->List Value}{gV:List V->List V->List V}
structure zq(N P:List Str)(sc:Scope):Prop where
 kind:sc.kind=.function
 co:sc.isCoroutine=false
 gen:sc.isGenerator=false
 nd:N.Nodup
 pre:N.take P.length=P
 par:∀x∈P,sc.names.lookup x=some .local\/sc.names.lookup x=some .cell
 nofree:∀y∈sc.names,y.2≠.free
theorem fsc{N P:List Str}{sc:Scope}(a:sc.kind=.function:=by rfl)(b:sc.isCoroutine=false:=by rfl)(c:sc.isGenerator=false:=by rfl)(d:N.Nodup:=by decide +kernel)(e:N.take P.length=P:=by rfl)(f:∀x∈P,sc.names.lookup x=some .local\/sc.names.lookup x=some .cell:=by decide +kernel)(g:∀y∈sc.names,y.2≠.free:=by decide +kernel):zq N P sc:=⟨a,b,c,d,e,f,g⟩
theorem zai{kindOf:Str->Option NameKind}{x:Str}:∀{binds:List (Str×Value)}{m:Str->Option Value},(∀v,(x,v)∉binds)->bindL kindOf binds m x=m x
 | [],_,_=>rfl
 | (n,v)::r,m,h=>by
  unfold bindL;rw[zai fun w hw=>h w (mem_cons_of_mem _ hw)];split
  ·have:x≠n:=by rintro rfl;exact h v mem_cons_self
   simp [this]
  ·rfl
theorem zak{kindOf:Str->Option NameKind}{x:Str}:∀{binds:List (Str×Value)}{m:Str->Option Value},(∀v,(x,v)∉binds)->bindC kindOf binds m x=m x
 | [],_,_=>rfl
 | (n,v)::r,m,h=>by
  unfold bindC;rw[zak fun w hw=>h w (mem_cons_of_mem _ hw)];split
  ·rfl
  ·have:x≠n:=by rintro rfl;exact h v mem_cons_self
   simp [this]
theorem zaj{kindOf:Str->Option NameKind}{x:Str}{v:Value}:∀{P:List Str}{vs:List Value}{i:Nat}{m:Str->Option Value},P.Nodup->P[i]?=some x->vs[i]?=some v->kindOf x=some .local->
  bindL kindOf (P.zip vs) m x=some v
 | [],_,_,_,_,h,_,_=>by simp at h
 | _::_,[],_,_,_,_,h,_=>by simp at h
 | p::P,w::vs,0,m,nd,h1,h2,hk=>by
  simp at h1 h2;subst h1;subst h2;show bindL kindOf ((p,w)::P.zip vs) m p=_;unfold bindL;rw[zai fun v hv=>(List.nodup_cons.mp nd).1 (of_mem_zip hv).1,if_pos hk];simp
 | p::P,w::vs,i+1,m,nd,h1,h2,hk=>by
  show bindL kindOf ((p,w)::P.zip vs) m x=_;unfold bindL;exact zaj (i:=i) (List.nodup_cons.mp nd).2 (by simpa using h1) (by simpa using h2) hk
theorem zal{kindOf:Str->Option NameKind}{x:Str}{v:Value}:∀{P:List Str}{vs:List Value}{i:Nat}{m:Str->Option Value},P.Nodup->P[i]?=some x->vs[i]?=some v->kindOf x≠some .local->
  bindC kindOf (P.zip vs) m x=some v
 | [],_,_,_,_,h,_,_=>by simp at h
 | _::_,[],_,_,_,_,h,_=>by simp at h
 | p::P,w::vs,0,m,nd,h1,h2,hk=>by
  simp at h1 h2;subst h1;subst h2;show bindC kindOf ((p,w)::P.zip vs) m p=_;unfold bindC;rw[zak fun v hv=>(List.nodup_cons.mp nd).1 (of_mem_zip hv).1,if_neg hk];simp
 | p::P,w::vs,i+1,m,nd,h1,h2,hk=>by
  show bindC kindOf ((p,w)::P.zip vs) m x=_;unfold bindC;exact zal (i:=i) (List.nodup_cons.mp nd).2 (by simpa using h1) (by simpa using h2) hk
def wg(N:List Str)(vs:List V):St:=vs.map some++List.replicate (N.length - vs.length) none
def jk(CX:CXT)(P:Program)(w:World)(K:Frag)(mg:Str->Option Value)(base:Heap)(N:List Str)(qual:Str)(scope:Scope)(f:Addr)(cd:Value)(A:Around)(outer:List Env)(s:Shared)(H:Hp)(E:XK):Cx where
 prog:=P
 w:=w
 K:=K
 mg:=mg
 base:=base
 A:=A.deeper (envOfC qual scope s.heap.objs.size f cd)
 N:=N
 s₀:=s
 H₀:=H
 env:=envOfC qual scope s.heap.objs.size f cd
 outer:=outer
 stack:=envOfC qual scope s.heap.objs.size f cd::outer
 ex:=[]
 calm:=true
 fn:=fun _=>true
 pn:=[]
 xe:=fun e s'=>wpAny (model P w) (A.deeper (envOfC qual scope s.heap.objs.size f cd)) (leaving (envOfC qual scope s.heap.objs.size f cd) e) (fun _ s''=>CX outer H s E e s'') (fun e' s''=>CX outer H s E e' s'') s'
theorem zbL{sc:Scope}{n:Nat}{x:Str}(h:sc.names.lookup x=some .cell):∃c,(cellsFrom n sc.names []).lookup x=some c:=by
 have q:=cellsFrom_some sc.names n [] (.inl h);exact Option.isSome_iff_exists.mp q
theorem qZ{CX:CXT}{P:Program}{w:World}{K:Frag}{mg:Str->Option Value}{base:Heap}{N ps:List Str}{qual:Str}{scope:Scope}{f:Addr}{cd:Value}{A:Around}{outer:List Env}{s s1:Shared}{H:Hp}{E:XK}{us:List Value}{vs:List V}
  (S:zq N ps scope) (hd:A.handled=none) (e0:qG P w K mg base A outer s H) (hl:vs.length=ps.length) (r:zX vs us)
  (x:InCallC s s.heap.objs.size (bindL (envOfC qual scope s.heap.objs.size f cd).kindOf (ps.zip us) fun _=>none) (cellsFrom (s.heap.objs.size+1) scope.names []) (bindC (envOfC qual scope s.heap.objs.size f cd).kindOf (ps.zip us) fun _=>none) s1) :
  Inv (jk CX P w K mg base N qual scope f cd A outer s H E) [] (wg N vs) H s1:=by
 have hpl:ps.length<=N.length:=by have:=congrArg List.length S.pre;rw[length_take] at this;omega
 obtain⟨h1,tk,rfl,hk⟩:=x.done;have noA:∀b:Addr,b∉(jk CX P w K mg base N qual scope f cd A outer s H E).ex:=fun b z=>absurd (show b∈([]:List Addr) from z) (by simp)
 refine⟨⟨e0.mod,S.kind,rfl,rfl,le_refl _,fun y z c h1 h2=>?_,fun y hy=>?_,fun y c _ h=>?_,fun _=>hd,Around.frames_deeper e0.frames,.inr ⟨rfl,rfl⟩,fun b z=>absurd z (noA b),e0.bs,e0.bsz,fun b _ _=>noA b,fun b z=>absurd z (noA b),e0.funs,e0.frf⟩,
  rfl,e0.bare,Un.kept hk,⟨_,x.toInCall.ns,fun i y v h1 h2 h3=>?_⟩,fun y c h=>⟨_,x.cell y c h⟩,e0.hok.fresh (le_refl _),fun y c h=>?_,fun p hp=>absurd (show p∈([]:PnL) from hp) (by simp),e0.hok.kept hk,?_⟩
 ·exact name_of_addr x.apart (PySem.mem_of_lookup h1) (PySem.mem_of_lookup h2)
 ·have hy:scope.names.lookup y=some .cell\/scope.names.lookup y=some .free:=hy
  rcases hy with hy|hy
  ·exact zbL hy
  ·exact absurd rfl (S.nofree _ (PySem.mem_of_lookup hy))
 ·exact le_of_lt (x.above y c (PySem.mem_of_lookup h))
 ·have hi:i<vs.length:=by
   unfold wg at h2;by_cases hi:i<vs.length
   ·exact hi
   ·rw[List.getElem?_append_right (by simpa using hi)] at h2
    rw[List.getElem?_replicate] at h2;split at h2 <;> cases h2
  have ha:vs[i]?=some v:=by
   unfold wg at h2;rw[List.getElem?_append_left (by simpa using hi),getElem?_map] at h2
   cases e:vs[i]? with
   | none=>rw[e] at h2;cases h2
   | some a=>rw[e] at h2;cases h2;rfl
  obtain⟨u,hu,rv⟩:=r.get ha;have hp:ps[i]?=some y:=by
   rw[<- S.pre,List.getElem?_take_of_lt (by omega)];exact h1
  have ndP:ps.Nodup:=by rw[<- S.pre];exact S.nd.sublist (List.take_sublist _ _)
  exists u,rv,?_;rcases S.par y (mem_of_getElem? hp) with k|k
  ·exact .inl ⟨k,zaj ndP hp hu k⟩
  ·obtain⟨c,e⟩:=zbL (n:=s.heap.objs.size+1) k
   refine .inr ⟨.inl k,c,e,?_⟩;have q:=x.cell y c e;rw[zal ndP hp hu (by show scope.names.lookup y≠_;rw[k];decide)] at q
   exact q
 ·exact e0.hok.fresh (le_of_lt (x.above y c (PySem.mem_of_lookup h)))
 ·unfold wg
  show _=N.length;rw[length_append,length_map,List.length_replicate];omega
theorem zgu{CX:CXT}{P:Program}{w:World}{K:Frag}{mg:Str->Option Value}{base:Heap}{k:Nat}{f:Addr}{name qual:Str}{params:Arguments}{body:List Stmt}{scope:Scope}{dV kV doc pm cdv ct oc:Value}{an od:Option Addr}
  {osl:Array (Option Value)}{N ps:List Str}{sp:Sp}(lk:K.lookup f=some ⟨oc,od,.func (fnOf name qual params body scope dV kV doc pm an cdv ct),osl⟩) (hcd:codeIn K cdv qual=true) (S:zq N ps scope)
  (len:∀vs H Q E,sp vs H Q E->vs.length=ps.length)
  (hbody:∀(A:Around) (outer:List Env) (s:Shared) (H:Hp) (vs:List V) (Q:VK) (E:XK),yf k (A.deeper (envOfC qual scope s.heap.objs.size f cdv))->sp vs H Q E->
   ∃t,PSs (jk CX P w K mg base N qual scope f cdv A outer s H E) body t/\t { nx:=fun _ H'=>Q .non H',rt:=Q } (wg N vs) H) :
  zx P w K mg base CX (k+1) f (fnOf name qual params body scope dV kV doc pm an cdv ct) ps sp:=by
 exists len,fun A outer s H args us vs Q E hr e0 hb r hsp=>?_;have hl:=len _ _ _ _ hsp;have KX:K.In s.heap:=e0.mod.kin.keeps fun b o e=>(e0.bs b o e).1;have lim:s.heap.NoLimit:=e0.mod.nolimit.keeps fun b o e=>(e0.bs b o e).1;have hkind:∀y∈ps.zip us,scope.names.lookup y.1=some .local\/(scope.names.lookup y.1=some .cell/\((cellsFrom (s.heap.objs.size+1) scope.names []).lookup y.1).isSome=true):=fun⟨n,v⟩ hy=>by
  rcases S.par n (of_mem_zip hy).1 with q|q
  ·exact .inl q
  ·exact .inr ⟨q,cellsFrom_some _ _ _ (.inl q)⟩
 refine codeAny_call_function hr.depth (KX _ _ lk) rfl S.co S.gen rfl (PySem.W.codeRec_of KX hcd) (hb _ _ _ _ ?_);refine wpAny_newFunctionEnv_cells S.kind hkind fun env he s1 x=>?_;subst he;exists lim.keeps x.toInCall.keep,codeAny_func ?_;obtain⟨t,ht,hq⟩:=hbody A outer s H vs Q E (hr.deeper _) hsp;have I:Inv (jk CX P w K mg base N qual scope f cdv A outer s H E) [] (wg N vs) H s1:=qZ S hr.hd e0 hl r x;refine wpAny_mono (ht [] s1 (wg N vs) H _ I hq) (fun fl s' hs=>?_) fun e s' hs=>hs;have fin:∀{σ':St}{H':Hp}{v:V}{u:Value},Inv (jk CX P w K mg base N qual scope f cdv A outer s H E) [] σ' H' s'->zT v u->Q v H'->CE outer P w H s Q u s':=
  fun {σ' H' v u} J rv q=>⟨v,H',J.os,J.bare,J.base,J.hok,rv,q⟩
 cases fl with
 | ret u=>
  obtain⟨v,σ',H',J,rv,q⟩:=hs;exact fin J rv q
 | next=>
  obtain⟨σ',H',J,q⟩:=hs;exact fin (v:=V.non) (u:=Value.none) J rfl q
 | brk=>
  obtain⟨_,_,_,q⟩:=hs;exact False.elim q
 | cont=>
  obtain⟨_,_,_,q⟩:=hs;exact False.elim q
variable {id T:String}{r:List V->Hp->VK->Prop}
def tCB(r:List V->Hp->VK->Prop)(t:TA):TE:=fun σ H Q=>t σ H fun vs H1=>r vs H1 Q
theorem zfm(hc:xF X (.builtin id) r)(hg:Gl X x)(hm:X.mg x=none)(hv:bootBuiltins x=some (.builtin id))(ha:PA X (e::es) t)(hn:x≠"__name__":=by decide)(hdb:(x==("__debug__" : Str))=false:=by decide)
  (he:starEach (e::es) X.env=(false,eval e X.env)::starEach es X.env:=by rfl) (hpl:(backTo pos (starEach es X.env)).any (·.1)=false:=by rfl):PE X (.Call (.Name x p) (e::es) [] pos) (tCB r t):=by
 exists ?_;intro pins s σ H Q I h;refine wpAny_Call_Name_kw (vA I hg hm hv ?_ hn hdb);exact PyProof.Rows.callWith_builtin1 (thn (ha pos pins s σ H _ I h) fun us s1 ⟨vs,H1,I1,r1,q1⟩=>hc pins s1 σ H1 vs us Q I1 r1 q1) he hpl
theorem zdT(hc:xF X (.type T) r)(hg:Gl X x)(hm:X.mg x=none)(hv:bootBuiltins x=some (.type T))(ha:PA X (e::es) t)(hn:x≠"__name__":=by decide)(hdb:(x==("__debug__" : Str))=false:=by decide)
  (he:starEach (e::es) X.env=(false,eval e X.env)::starEach es X.env:=by rfl) (hpl:(backTo pos (starEach es X.env)).any (·.1)=false:=by rfl):PE X (.Call (.Name x p) (e::es) [] pos) (tCB r t):=by
 exists ?_;intro pins s σ H Q I h;refine wpAny_Call_Name_kw (vA I hg hm hv ?_ hn hdb);exact PyProof.Rows.callWith_type1 (thn (ha pos pins s σ H _ I h) fun us s1 ⟨vs,H1,I1,r1,q1⟩=>hc pins s1 σ H1 vs us Q I1 r1 q1) he hpl
theorem zcq(hc:xF X (.type T) r)(hg:Gl X x)(hm:X.mg x=none)(hv:bootBuiltins x=some (.type T))(hn:x≠"__name__":=by decide)(hdb:(x==("__debug__" : Str))=false:=by decide):
  PE X (.Call (.Name x p) [] [] pos) (tCB r zgL):=by
 exists ?_;intro pins s σ H Q I h;refine wpAny_Call_Name_kw (vA I hg hm hv ?_ hn hdb);exact PyProof.Rows.callWith_type0 (hc pins s σ H [] [] Q I .nil h)
end
end L2
namespace HT
open PySem PyProof.Rows
section
open PySem.SeqAt
open PySem.AutoSeq1 (wpAny_loadPart')
open PySem.MeetsSeq PySem.MeetsSeq2 PySem.MeetsSeq3
end
section
variable {prog:Program}{w:World}{A:Around}{E:VSP}{s:Shared}
def sIx(n d:Nat):Option Int->Nat
 | none=>d
 | some v=>if v<0 then (v+(n:Int)).toNat else min v.toNat n
theorem zkI(n d:Nat):sIx n d none=d:=rfl
theorem zlz(n d k:Nat):sIx n d (some (k:Int))=min k n:=by
 show(if (k:Int)<0 then ((k:Int)+(n:Int)).toNat else min (k:Int).toNat n)=min k n
 rw[if_neg (by omega),toNat_natCast]
end
end HT
namespace L2
open PySem PySem.Spec PyProof.Rows
abbrev TO:=St->Hp->(Option Int->Hp->Prop)->Prop
structure PO(X:Cx)(e:Option Expr)(t:TO):Prop where
 run:∀(pins:PnL) (s:Shared) (σ : St) (H:Hp) (Q:Option Int->Hp->Prop),Inv X pins σ H s->t σ H Q->
  wpAny (model X.prog X.w) X.A (evalPart e X.env) (fun u s'=>∃o H',Inv X pins σ H' s'/\IsPart u o/\Q o H') X.xe s
instance {X:Cx}{e:Option Expr}{t:TO}:CoeFun (PO X e t) (fun _=>∀(pins:PnL) (s:Shared) (σ : St) (H:Hp) (Q:Option Int->Hp->Prop),Inv X pins σ H s->t σ H Q->
  wpAny (model X.prog X.w) X.A (evalPart e X.env) (fun u s'=>∃o H',Inv X pins σ H' s'/\IsPart u o/\Q o H') X.xe s):=⟨PO.run⟩
def zgK:TO:=fun _ H Q=>Q none H
def zkl(t:TE):TO:=fun σ H Q=>t σ H fun x H1=>∃i,x=.int i/\Q (some i) H1
section
variable {X:Cx}{e:Expr}{te:TE}{lo hi:Option Expr}{tl th:TO}{pos p2:Pos}
theorem zhf:PO X none zgK:=by
 exists ?_;intro pins s σ H Q I h;rw[evalPart_none];exact zwp ⟨none,H,I,.none,h⟩
theorem uo(h:PE X e te):PO X (some e) (zkl te):=by
 exists ?_;intro pins s σ H Q I hw;rw[evalPart_some];refine thn (h pins s σ H _ I hw) fun u s1 ⟨x,H1,I1,r1,q1⟩=>?_;obtain⟨i,rfl,q⟩:=q1;obtain⟨t,rfl⟩:=r1;exact⟨some i,H1,I1,.int i t,q⟩
def SlR(X:Cx)(r:V->Option Int->Option Int->Hp->VK->Prop):Prop:=
 ∀(pins:PnL) (s:Shared) (σ : St) (H:Hp) (x:V) (v vl vu:Value) (lo hi:Option Int) (sl:Addr) (Q:VK),Inv X pins σ H s->zT x v->s.heap.IsSliceOf sl vl vu .none->IsPart vl lo->IsPart vu hi->r x lo hi H Q->
  ∃T id,typeLookup (.type T) "__getitem__"=pure (some (.builtin id))/\s.TypeIs v T/\wpAny (model X.prog X.w) X.A (getItem v (.ref sl)) (EP X pins σ Q) X.xe s
def tSl(r:V->Option Int->Option Int->Hp->VK->Prop)(te:TE)(tl th:TO):TE:=fun σ H Q=>te σ H fun x H1=>tl σ H1 fun l H2=>th σ H2 fun u H3=>r x l u H3 Q
theorem jT{r:V->Option Int->Option Int->Hp->VK->Prop}(hr:SlR X r)(he:PE X e te)(hl:PO X lo tl)(hu:PO X hi th):PE X (.Subscript e (.Slice lo hi none p2) pos) (tSl r te tl th):=by
 exists ?_;intro pins s σ H Q I h;refine Subscript_ (thn (he pins s σ H _ I h) fun v s1 ⟨x,H1,I1,r1,q1⟩=>?_);refine wpAny_Slice (thn (hl pins s1 σ H1 _ I1 q1) fun vl s2 ⟨l,H2,I2,pl,q2⟩=>thn (hu pins s2 σ H2 _ I2 q2) fun vu s3 ⟨u,H3,I3,pu,q3⟩=>?_);rw[evalPart_none];refine zwp ?_;have I4:Inv X pins σ H3 { s3 with heap:=s3.heap.push { cls:=.type "slice",data:=.fields #[vl,vu,.none] } }:=I3.kept (t':=s3.toks) fun b ob q=>zgp _ q
 obtain⟨T,id,hT,ht,hg⟩:=hr pins { s3 with heap:=s3.heap.push { cls:=.type "slice",data:=.fields #[vl,vu,.none] } } σ H3 x v vl vu l u s3.heap.objs.size Q I4 r1 (Heap.IsSliceOf.new ..) pl pu q3
 show wpAny (model X.prog X.w) X.A (subscriptTail e (.Slice lo hi none p2) v (.ref s3.heap.objs.size)) (EP X pins σ Q) X.xe { s3 with heap:=s3.heap.push { cls:=.type "slice",data:=.fields #[vl,vu,.none] } }
 exact tail_any (ops:=[.ref s3.heap.objs.size,v]) ht hT hg (by with_unfolding_all rfl)
def zaZ(xs:List V)(lo hi:Option Int):List V:=(xs.drop (HT.sIx xs.length 0 lo)).take (HT.sIx xs.length xs.length hi - HT.sIx xs.length 0 lo)
theorem zbH(xs:List V)(lo hi:Option Int):(zaZ xs lo hi).length<=xs.length:=by
 unfold zaZ;rw[length_take,List.length_drop];omega
def ixN(n:Nat)(i:Int):Option Nat:=if 0<=i then (if i<n then some i.toNat else none) else if -(n:Int)<=i then some (i+n).toNat else none
def atI{α : Type}(xs:List α)(i:Int):Option α:=(ixN xs.length i).bind fun j=>xs[j]?
theorem zhS{n:Nat}{i:Int}{j:Nat}(h:ixN n i=some j):seqIndex? i n=some j/\j<n/\-(n:Int)<=i/\i<n:=by
 unfold ixN at h;by_cases h0 : 0<=i
 ·rw[if_pos h0] at h
  by_cases h1:i<n
  ·rw[if_pos h1] at h
   have e:i.toNat=j:=Option.some.inj h;exact⟨by rw[seqIndex_of h0 h1,e],by omega,by omega,h1⟩
  ·rw[if_neg h1] at h;cases h
 ·rw[if_neg h0] at h
  by_cases h1 : -(n:Int)<=i
  ·rw[if_pos h1] at h
   have e:(i+n).toNat=j:=Option.some.inj h;exact⟨by rw[seqIndex_neg (by omega) h1,e],by omega,h1,by omega⟩
  ·rw[if_neg h1] at h;cases h
theorem za1{α : Type}{xs:List α}{i:Int}{v : α}(h:atI xs i=some v):∃j,seqIndex? i xs.length=some j/\xs[j]?=some v/\j<xs.length/\-(xs.length:Int)<=i/\i<xs.length:=by
 unfold atI at h;cases e:ixN xs.length i with
 | none=>rw[e] at h;cases h
 | some j=>
  rw[e] at h;obtain⟨h1,h2,h3,h4⟩:=zhS e;exact⟨j,h1,h,h2,h3,h4⟩
theorem yO{α : Type}{xs:List α}{j:Nat}{v : α}(h:xs[j]?=some v):atI xs (j:Int)=some v:=by
 have hj:j<xs.length:=(List.getElem?_eq_some_iff.mp h).1;have e:ixN xs.length (j:Int)=some j:=by
  unfold ixN;rw[if_pos (by omega),if_pos (by omega)];simp
 unfold atI;rw[e];exact h
def zib(b:Expr):Prop:=∀o i,subscripted b false o i=operate [o,i] (getItem o i)
def IxR(X:Cx)(r:R2):Prop:=
 ∀(value slice:Expr) (pins:PnL) (s:Shared) (σ : St) (H:Hp) (x y:V) (v u:Value) (Q:VK),Inv X pins σ H s->zT x v->zT y u->r x y H Q->
  subscripted slice false v u=operate [v,u] (getItem v u)->wpAny (model X.prog X.w) X.A (subscriptTail value slice v u) (EP X pins σ Q) X.xe s
def MtR(X:Cx)(id:String)(r:V->List V->Hp->VK->Prop):Prop:=
 ∀(pins:PnL) (s:Shared) (σ : St) (H:Hp) (x:V) (xs:List V) (v:Value) (us:List Value) (Q:VK),Inv X pins σ H s->zT x v->zX xs us->r x xs H Q->
  wpAny (model X.prog X.w) X.A (call (.builtin id) (v::us)) (EP X pins σ Q) X.xe s
variable {a b:Expr}{ta tb:TE}
theorem zy{r:R2}(hr:IxR X r)(ha:PE X a ta)(hb:PE X b tb)(hs:zib b):PE X (.Subscript a b pos) (tOp r ta tb):=by
 exists ?_;intro pins s σ H Q I h;exact Subscript_ (zj5 ha hb I h fun v u s2 x y H2 I2 rx ry q=>hr a b pins s2 σ H2 x y v u Q I2 rx ry q (hs _ _))
inductive zmt(K:Frag)(x y:V)(H:Hp)(Q:VK):Prop where
 | mk (p:Addr) (xs:List V) (i:Int) (v:V) (e1:x=.ref p) (e2:y=.int i) (h:SqL K H p xs) (a:atI xs i=some v) (q:Q v H)
def jR(K:Frag):R2:=fun x y H Q=>zmt K x y H Q
inductive zms(K:Frag)(x y:V)(H:Hp)(Q:VK):Prop where
 | mk (p:Addr) (xs:List V) (i:Int) (v:V) (e1:x=.ref p) (e2:y=.int i) (h:SqT K H p xs) (a:atI xs i=some v) (q:Q v H)
def zdP(K:Frag):R2:=fun x y H Q=>zms K x y H Q
inductive zlRJ(x:V)(y:V)(H:Hp)(Q:VK):Prop|mk(z i c:_):x=.str z->y=.int i->z.length<=sizeLine->atI z.cps.toList i=some c->(Q (.str ⟨#[c]⟩) H)->zlRJ x y H Q
def zlR:R2:=fun x y H Q=>zlRJ x y H Q
theorem zL:IxR X (jR X.K):=by
 intro value slice pins s σ H x y v u Q I rx ry h hs;obtain⟨p,xs,i,z,rfl,rfl,hq,he,q⟩:=h;cases rx;obtain⟨t,rfl⟩:=ry;obtain⟨its,r,pl,hz⟩:=I.list hq;obtain⟨j,h1,h2,h3,h4,h5⟩:=za1 he;obtain⟨w,ew,rw'⟩:=r.get h2;have hl:=r.length;have hn:=uR;have fin:EP X pins σ Q w s:=⟨z,H,I,rw',q⟩;by_cases h0 : 0<=i
 ·have hj:i.toNat=j:=by
   rw[seqIndex_of h0 h5] at h1;exact Option.some.inj h1
  exact item_listR pl.isList h0 (by omega) (by rw[hj];simpa using ew) fin hs
 ·have hj:(i+(its.toArray.size:Int)).toNat=j:=by
   rw[seqIndex_neg (by omega) h4] at h1
   rw[size_toArray,<- hl];exact Option.some.inj h1
  exact subscriptTail_builtinR (x:=w) pl.isList.typeIs slot_list_getitem.lookup
   (wpAny_getItem_list_neg (Q:=fun r s'=>r=w/\EP X pins σ Q r s') pl.isList (by omega) (by rw[size_toArray] <;> omega) (by omega) (by rw[hj];simpa using ew) ⟨rfl,fin⟩) hs
theorem zJ:IxR X (zdP X.K):=by
 intro value slice pins s σ H x y v u Q I rx ry h hs;obtain⟨p,xs,i,z,rfl,rfl,hq,he,q⟩:=h;cases rx;obtain⟨t,rfl⟩:=ry;obtain⟨its,r,pl,hz⟩:=I.tuple hq;obtain⟨j,h1,h2,h3,h4,h5⟩:=za1 he;obtain⟨w,ew,rw'⟩:=r.get h2;have hl:=r.length;have hn:=uR;have fin:EP X pins σ Q w s:=⟨z,H,I,rw',q⟩;exact subscriptTail_builtinR (x:=w) pl.typeIs slot_tuple_getitem.lookup
  (getItem_tuple (j:=j) (Q:=fun r s'=>r=w/\EP X pins σ Q r s') pl (by omega) (by omega) (by rw[size_toArray,<- hl];exact h1) (by simpa using ew) ⟨rfl,fin⟩) hs
theorem zjT:IxR X zlR:=by
 intro value slice pins s σ H x y v u Q I rx ry h hs;obtain⟨z,i,c,rfl,rfl,hz,he,q⟩:=h;obtain⟨t,rfl⟩:=rx;obtain⟨t',rfl⟩:=ry;obtain⟨j,h1,h2,h3,h4,h5⟩:=za1 he;have hl:z.cps.toList.length=z.length:=by simp [Str.length]
 rw[hl] at h1 h4 h5;have hn:=uR;exact tail_any (typeIs_str s z t) slot_str_getitem.lookup (getItem_str (c:=c) (by
  have e1:decide (i < -(2 ^ 63:Int))=false:=decide_eq_false (by omega)
  have e2:decide (i>=2 ^ 63)=false:=decide_eq_false (by omega)
  rw[e1,e2,Bool.or_false]) (by rw[h1];simpa using h2) ⟨.str ⟨#[c]⟩,H,I.tok _,⟨_,rfl⟩,q⟩) hs
theorem zat(lo hi:Option Int)(n:Nat):(sliceBounds lo hi none n).1=((HT.sIx n 0 lo:Nat):Int)/\(sliceBounds lo hi none n).2.1=((HT.sIx n n hi:Nat):Int)/\(sliceBounds lo hi none n).2.2=1:=by
 exists ?_,?_,rfl
 ·cases lo with
  | none=>simp [sliceBounds,HT.sIx]
  | some i=>
   simp only[sliceBounds,HT.sIx,getD_none,show(1:Int)>0 by decide,if_true]
   by_cases h:i<0
   ·simp only[h,if_true] <;> omega
   ·simp only[h,if_false] <;> omega
 ·cases hi with
  | none=>simp [sliceBounds,HT.sIx]
  | some i=>
   simp only[sliceBounds,HT.sIx,getD_none,show(1:Int)>0 by decide,if_true]
   by_cases h:i<0
   ·simp only[h,if_true] <;> omega
   ·simp only[h,if_false] <;> omega
theorem qB(its:List Value)(lo hi:Option Int):slicePick its.toArray lo hi none=((its.drop (HT.sIx its.length 0 lo)).take (HT.sIx its.length its.length hi - HT.sIx its.length 0 lo)).toArray:=by
 obtain⟨h1,h2,h3⟩:=zat lo hi its.toArray.size;unfold slicePick;rw[h1,h2,h3];simp only[sliceRange_one,pick_run,size_toArray] <;> rfl
inductive zlOJ(K:Frag)(x:V)(lo:Option Int)(hi:Option Int)(H:Hp)(Q:VK):Prop|mk(a xs:_):x=.ref a->SqL K H a xs->(∀p,H p=none->Q (.ref p) (upd H p (.lst (zaZ xs lo hi))))->zlOJ K x lo hi H Q
def zlO(K:Frag):V->Option Int->Option Int->Hp->VK->Prop:=fun x lo hi H Q=>zlOJ K x lo hi H Q
theorem zau:SlR X (zlO X.K):=by
 intro pins s σ H x v vl vu lo hi sl Q I rx hs pl pu h;obtain⟨a,xs,rfl,hx,q⟩:=h;cases rx;obtain⟨its,r,ht,hz⟩:=I.list hx;have hlen:=r.length;exists "list",_,slot_list_getitem.lookup,ht.isList.typeIs,?_;refine wpAny_getItem_list_slice ht.isList hs pl pu .none (by simp) ?_ (by rw[size_toArray] <;> omega)
 rw[qB,<- hlen];exists .ref s.heap.objs.size,_,I.laid (t':=s.toks) (o:=.lst (zaZ xs lo hi)) (fun b ob q=>zgp _ q) (le_refl _) ?_,rfl,q _ (I.hok.fresh (le_refl _));exact⟨le_trans (zbH xs lo hi) hz,_,0,(r.drop (HT.sIx xs.length 0 lo)).take (HT.sIx xs.length xs.length hi - HT.sIx xs.length 0 lo),zgs _ rfl⟩
def xf:V->Bool
 | .non=>true
 | .bl _=>true
 | .int _=>true
 | .str _=>true
 | _=>false
def eqV:V->V->Bool
 | .non,.non=>true
 | .bl a,.bl b=>a==b
 | .bl a,.int b=>(if a then 1 else 0)==b
 | .int a,.bl b=>a==(if b then 1 else 0)
 | .int a,.int b=>a==b
 | .str a,.str b=>a==b
 | _,_=>false
theorem zcG{A:Around}{s:Shared}{y x:V}{u v:Value}(ry:zT y u)(rx:zT x v)(fy:xf y=true)(fx:xf x=true):SeqAt.EqAt A s u v (eqV y x):=by
 cases y with
 | non=>
  cases ry;cases x with
  | non=>cases rx;exact SeqAt.EqAt.same _
  | bl b=>cases rx;exact SeqAt.EqAt.none_bool b
  | int b=>obtain⟨t,rfl⟩:=rx;exact SeqAt.EqAt.none_int b t
  | str b=>obtain⟨t,rfl⟩:=rx;exact SeqAt.EqAt.none_str b t
  | _=>exact absurd (show false=true from fx) zft
 | bl a=>
  cases ry;cases x with
  | non=>cases rx;exact SeqAt.EqAt.bool_none a
  | bl b=>cases rx;exact SeqAt.EqAt.bool_bool a b
  | int b=>obtain⟨t,rfl⟩:=rx;exact SeqAt.EqAt.bool_int a b t
  | str b=>obtain⟨t,rfl⟩:=rx;exact SeqAt.EqAt.bool_str a b t
  | _=>exact absurd (show false=true from fx) zft
 | int a=>
  obtain⟨t',rfl⟩:=ry;cases x with
  | non=>cases rx;exact SeqAt.EqAt.int_none a t'
  | bl b=>cases rx;exact SeqAt.EqAt.int_bool a t' b
  | int b=>obtain⟨t,rfl⟩:=rx;exact SeqAt.EqAt.int_int a t' b t
  | str b=>obtain⟨t,rfl⟩:=rx;exact SeqAt.EqAt.int_str a t' b t
  | _=>exact absurd (show false=true from fx) zft
 | str a=>
  obtain⟨t',rfl⟩:=ry;cases x with
  | non=>cases rx;exact SeqAt.EqAt.str_none a t'
  | bl b=>cases rx;exact SeqAt.EqAt.str_bool a t' b
  | int b=>obtain⟨t,rfl⟩:=rx;exact SeqAt.EqAt.str_int a t' b t
  | str b=>obtain⟨t,rfl⟩:=rx;exact SeqAt.EqAt.str_str a t' b t
  | _=>exact absurd (show false=true from fx) zft
 | _=>exact absurd (show false=true from fy) zft
def eqU(x:V)(u:Value):Bool:=match u with
 | .none=>eqV .non x
 | .bool b=>eqV (.bl b) x
 | .int i _=>eqV (.int i) x
 | .str z _=>eqV (.str z) x
 | _=>false
theorem zgw{x y:V}{u:Value}(r:zT y u)(f:xf y=true):eqU x u=eqV y x:=by
 cases y with
 | non=>cases r;rfl
 | bl b=>cases r;rfl
 | int i=>obtain⟨t,rfl⟩:=r;rfl
 | str z=>obtain⟨t,rfl⟩:=r;rfl
 | _=>exact absurd (show false=true from f) zft
theorem uy{x:V}:∀{xs:List V}{us:List Value},zX xs us->xs.all xf=true->us.any (eqU x)=xs.any fun y=>eqV y x
 | _,_,.nil,_=>rfl
 | y::xs,u::us,.cons r t,f=>by
  rw[all_cons,Bool.and_eq_true] at f;rw[any_cons,any_cons,zgw r f.1,uy t f.2]
theorem vz{A:Around}{s:Shared}{x:V}{v:Value}(rx:zT x v)(fx:xf x=true):∀{xs:List V}{us:List Value},zX xs us->xs.all xf=true->∀u∈us,SeqAt.EqAt A s u v (eqU x u)
 | _,_,.nil,_=>fun u hu=>by cases hu
 | y::xs,u::us,.cons r t,f=>fun u' hu=>by
  rw[all_cons,Bool.and_eq_true] at f;rcases List.mem_cons.mp hu with rfl|hu
  ·rw[zgw r f.1];exact zcG r rx f.1 fx
  ·exact vz rx fx t f.2 u' hu
def inV(x:V)(xs:List V):Bool:=xs.any fun y=>eqV y x
inductive rInJ(K:Frag)(neg:Bool)(x:V)(y:V)(H:Hp)(Q:VK):Prop|mk(p xs:_):y=.ref p->(SqL K H p xs\/SqT K H p xs)->xf x=true->xs.all xf=true->(Q (.bl (if neg then !inV x xs else inV x xs)) H)->rInJ K neg x y H Q
def rIn(K:Frag)(neg:Bool):R2:=fun x y H Q=>rInJ K neg x y H Q
theorem y0:OpR X (compareOp .In) (rIn X.K false):=by
 intro pins s σ H x y v u Q I rx ry h;obtain⟨p,xs,rfl,hq,fx,fs,q⟩:=h;cases ry;rcases hq with hq|hq
 ·obtain⟨its,r,pl,hz⟩:=I.list hq
  refine SeqAt.in_listAt (eqU x) pl.isList (fun w hw=>vz rx fx r fs w (by simpa using hw)) ⟨.bl _,H,I,rfl,?_⟩
  rw[show its.toArray.any (eqU x)=its.any (eqU x) by simp,uy r fs]
  exact q
 ·obtain⟨its,r,pl,hz⟩:=I.tuple hq
  refine SeqAt.in_tupleAt (eqU x) pl (fun w hw=>vz rx fx r fs w (by simpa using hw)) ⟨.bl _,H,I,rfl,?_⟩
  rw[show its.toArray.any (eqU x)=its.any (eqU x) by simp,uy r fs]
  exact q
theorem xA:OpR X (compareOp .NotIn) (rIn X.K true):=by
 intro pins s σ H x y v u Q I rx ry h;obtain⟨p,xs,rfl,hq,fx,fs,q⟩:=h;cases ry;rcases hq with hq|hq
 ·obtain⟨its,r,pl,hz⟩:=I.list hq
  refine SeqAt.notIn_listAt (eqU x) pl.isList (fun w hw=>vz rx fx r fs w (by simpa using hw)) ⟨.bl _,H,I,rfl,?_⟩
  rw[show its.toArray.any (eqU x)=its.any (eqU x) by simp,uy r fs]
  exact q
 ·obtain⟨its,r,pl,hz⟩:=I.tuple hq
  refine SeqAt.notIn_tupleAt (eqU x) pl (fun w hw=>vz rx fx r fs w (by simpa using hw)) ⟨.bl _,H,I,rfl,?_⟩
  rw[show its.toArray.any (eqU x)=its.any (eqU x) by simp,uy r fs]
  exact q
theorem zK:xF X (.builtin "len") (fun xs H Q=>∃p ys,xs=[.ref p]/\(SqL X.K H p ys\/SqT X.K H p ys)/\Q (.int ys.length) H):=by
 intro pins s σ H xs us Q I r h;obtain⟨p,ys,rfl,hq,q⟩:=h;obtain⟨u,rfl,rx⟩:=ub r;cases rx;have hn:=uR;rcases hq with hq|hq
 ·obtain⟨its,r',pl,hz⟩:=I.list hq
  have hlen:=r'.length;exact Calls.call_len_list pl.isList (by simp only[size_toArray] <;> omega) ⟨.int ys.length,H,I.tok _,⟨s.toks+1,by rw[size_toArray,hlen]⟩,q⟩
 ·obtain⟨its,r',pl,hz⟩:=I.tuple hq
  have hlen:=r'.length;exact len_tuple pl (by simp only[size_toArray] <;> omega) ⟨.int ys.length,H,I.tok _,⟨s.toks+1,by rw[size_toArray,hlen]⟩,q⟩
theorem xY:xF X (.builtin "len") (fun xs H Q=>∃z,xs=[.str z]/\z.length<=sizeLine/\Q (.int z.length) H):=by
 intro pins s σ H xs us Q I r h;obtain⟨z,rfl,hz,q⟩:=h;obtain⟨u,rfl,t,rfl⟩:=ub r;have hn:=uR;exact len_str (by omega) ⟨.int z.length,H,I.tok _,⟨_,rfl⟩,q⟩
theorem xl:xF X (.type "list") (fun xs H Q=>∃p ys,xs=[.ref p]/\(SqL X.K H p ys\/SqT X.K H p ys)/\∀l,H l=none->Q (.ref l) (upd H l (.lst ys))):=by
 intro pins s σ H xs us Q I r h;obtain⟨p,ys,rfl,hq,q⟩:=h;obtain⟨u,rfl,rx⟩:=ub r;cases rx;have fin:∀(its:List Value),zX ys its->ys.length<=sizeLine->∀(h':Heap) (c':Nat),(∀b o',s.heap.get? b=some o'->h'.get? b=some o')->
   h'.get? s.heap.objs.size=some { cls:=.type "list",dict:=none,data:=.seq its.toArray c',slots:=#[] }->EP X pins σ Q (.ref s.heap.objs.size) { s with heap:=h' }:=fun its r' hz h' c' kp e=>
  ⟨.ref s.heap.objs.size,_,I.laid (t':=s.toks) kp (le_refl _) (show yq X.prog X.w _ h' _ (.lst ys) from ⟨hz,its,c',r',e⟩),rfl,q _ (I.hok.fresh (le_refl _))⟩
 rcases hq with hq|hq
 ·obtain⟨its,r',pl,hz⟩:=I.list hq
  have hlen:=r'.length;obtain⟨o,ho,hc,n,hd⟩:=pl.isList;exact call_list_seq p (.inl rfl) ho hc hd (fun h' c' kp e=>fin its r' hz h' c' kp e) (by simp only[size_toArray] <;> omega)
 ·obtain⟨its,r',pl,hz⟩:=I.tuple hq
  have hlen:=r'.length;obtain⟨o,ho,hc,n,hd⟩:=pl;exact call_list_seq p (.inr rfl) ho hc hd (fun h' c' kp e=>fin its r' hz h' c' kp e) (by simp only[size_toArray] <;> omega)
def tyV(K:Frag)(T:String)(x:V)(H:Hp):Prop:=match x with
 | .str _=>T="str"
 | .int _=>T="int"
 | .ref p=>(T="list"/\∃xs,SqL K H p xs)\/(T="tuple"/\∃o,K.lookup p=some o/\o.cls=.type "tuple"/\o.dict=none)\/
   (T="dict"/\((∃kvs,H p=some (.dK kvs))\/∃kvs,H p=some (.dT kvs)))\/(T="set"/\∃S n,H p=some (.set S n))
 | _=>False
theorem zev{pins:PnL}{σ : St}{H:Hp}{s:Shared}{T:String}{x:V}{v:Value}(I:Inv X pins σ H s)(r:zT x v)(ty:tyV X.K T x H):
  s.TypeIs v T/\∀a,v=.ref a->∃ob,s.heap.get? a=some ob/\ob.dict=none:=by
 cases x with
 | str z=>
  obtain⟨t,rfl⟩:=r;cases (show T="str" from ty);exact⟨typeIs_str s z t,fun _ e=>nomatch e⟩
 | int i=>
  obtain⟨t,rfl⟩:=r;cases (show T="int" from ty);exact⟨typeIs_int s i t,fun _ e=>nomatch e⟩
 | ref p=>
  cases r;rcases ty with ⟨rfl,xs,hq⟩|⟨rfl,o,hk,hc,hd⟩|⟨rfl,hk⟩|⟨rfl,S,n,hk⟩
  ·obtain⟨its,_,pl,_⟩:=I.list hq
   exists pl.isList.typeIs,fun a e=>?_;cases e;obtain⟨o,n,e,c,hd,_⟩:=pl;exact⟨o,e,hd⟩
  ·exists ⟨o,I.kIn p o hk,hc⟩,fun a e=>?_
   cases e;exact⟨o,I.kIn _ o hk,hd⟩
  ·have z:∃o,s.heap.get? p=some o/\o.ExactDict:=by
    rcases hk with ⟨kvs,hk⟩|⟨kvs,hk⟩
    ·obtain⟨_,_,_,_,o,_,_,e,ex,_⟩:=I.hok p _ hk
     exact⟨o,e,ex⟩
    ·obtain⟨_,_,_,_,o,_,_,e,ex,_⟩:=I.hok p _ hk
     exact⟨o,e,ex⟩
   obtain⟨o,e,ex⟩:=z;exists ⟨o,e,ex.1⟩,fun a e2=>?_;cases e2;exact⟨o,e,ex.2.1⟩
  ·obtain⟨o,_,_,_,e,ex,_⟩:=I.hok p _ hk
   exists ⟨o,e,ex.1⟩,fun a e2=>?_;cases e2;exact⟨o,e,ex.2.1⟩
 | _=>exact False.elim ty
def zlJ(K:Frag)(T:String)(r:V->List V->Hp->VK->Prop)(to:TE):TE:=fun σ H Q=>to σ H fun x H1=>tyV K T x H1/\r x [] H1 Q
def tBM(K:Frag)(T:String)(r:V->List V->Hp->VK->Prop)(to:TE)(t:TA):TE:=fun σ H Q=>to σ H fun x H1=>tyV K T x H1/\t σ H1 fun xs H2=>r x xs H2 Q
variable {o:Expr}{es:List Expr}{to:TE}{t:TA}{name:Str}{apos cpos:Pos}{T id:String}{r:V->List V->Hp->VK->Prop}
theorem zjt(pa:PlainAttrs T)(slot:Slot T name id)(hty:typeOf (.builtin id)=pure (.type "method_descriptor"))(hm:MtR X id r)(ho:PE X o to)
  (hbase:attributeBase o name X.env (eval o X.env)=eval o X.env:=by rfl) (hline:(apos.endLine==cpos.line)=true:=by rfl):PE X (.Call (.Attribute o name apos) [] [] cpos) (zlJ X.K T r to):=by
 exists ?_;intro pins s σ H Q I h;refine wpAny_Call_method0_late hbase hline (thn (ho pins s σ H _ I h) fun v s1 ⟨x,H1,I1,r1,ty,q1⟩=>?_);obtain⟨h1,h2⟩:=zev I1 r1 ty;exact⟨T,id,pa,slot,hty,h1,h2,Calls.callWith_builtin rfl (PySem.evalArgs_none (hm pins s1 σ H1 x [] v [] Q I1 r1 .nil q1))⟩
theorem yv(pa:PlainAttrs T)(slot:Slot T name id)(hty:typeOf (.builtin id)=pure (.type "method_descriptor"))(hm:MtR X id r)(ho:PE X o to)(ha:PA X (e::es) t)
  (hbase:attributeBase o name X.env (eval o X.env)=eval o X.env:=by rfl)
  (hfew:((backTo cpos (starEach (e::es) X.env)).all (fun x=>!x.1)&&(backToKw cpos (keywordEach [] X.env)).all (fun x=>x.1.isSome)
   && decide ((e::es).length+([]:List Keyword).length+(if ([]:List Keyword).isEmpty then 0 else 1)<30))=true:=by rfl)
  (hline:(apos.endLine==cpos.line)=true:=by rfl) (hs:starEach (e::es) X.env=(false,eval e X.env)::starEach es X.env:=by rfl) (hplain:(backTo cpos (starEach es X.env)).any (·.1)=false:=by rfl) :
  PE X (.Call (.Attribute o name apos) (e::es) [] cpos) (tBM X.K T r to t):=by
 exists ?_;intro pins s σ H Q I h;refine wpAny_Call_method_late hbase hfew hline rfl (thn (ho pins s σ H _ I h) fun v s1 ⟨x,H1,I1,r1,ty,q1⟩=>?_);obtain⟨h1,h2⟩:=zev I1 r1 ty;exists T,id,pa,slot,hty,h1,h2,?_;have hA:=ha cpos pins s1 σ H1 _ I1 q1;rw[hs] at hA |-;refine Calls.callWith_builtin (by show(false||(backTo cpos (starEach es X.env)).any (·.1))=false;rw[hplain] <;> rfl) (Calls.evalArgs_plain ?_)
 exact thn hA fun us s2 ⟨vs,H2,I2,r2,q2⟩=>hm pins s2 σ H2 x vs v us Q I2 r1 r2 q2
def MtM(X:Cx)(id:String)(r:V->List V->Hp->VK->Prop):Prop:=
 ∀(pins:PnL) (s:Shared) (σ : St) (H:Hp) (x:V) (xs:List V) (v:Value) (us:List Value) (Q:VK),Inv X pins σ H s->zT x v->zX xs us->r x xs H Q->
  wpAny (model X.prog X.w) X.A (call (.builtin id) (v::us)) (EP X pins σ Q) X.xe s
theorem zX.one:∀{x:V}{us:List Value},zX [x] us->∃u,us=[u]/\zT x u
 | _,_,.cons r .nil=>⟨_,rfl,r⟩
theorem zX.zero:∀{us:List Value},zX [] us->us=[]
 | _,.nil=>rfl
end
section
variable {X:Cx}{pins:PnL}{σ:St}{H:Hp}{s:Shared}{l b:Addr}{xs ys zs:List V}
theorem Inv.lset{its its':List Value}{n:Nat}{f:Array Value->Array Value}{t':Nat}(I:Inv X pins σ H s)(hH:H l=some (.lst xs))
  (e:s.heap.get? l=some { cls:=.type "list",data:=.seq its.toArray n }) (hf:f its.toArray=its'.toArray) (hv:zX ys its') (hz:ys.length<=sizeLine) :
  Inv X pins σ (upd H l (.lst ys)) { s with heap:=s.heap.update l (Obj.mapSeq f),toks:=t' }:=by
 have q:=PySem.IsL.update e f;rw[hf] at q;refine I.write (x:=l) (e:=l) (by rw[hH];exact trivial) (.inl rfl) (fun b' u hb hu=>(Heap.get?_update_other s.heap (Obj.mapSeq f) (Ne.symm hb)).trans hu) ⟨_,q⟩ ?_
 exact⟨hz,its',_,hv,q⟩
theorem Inv.lnew{its:List Value}{t':Nat}(I:Inv X pins σ H s)(hv:zX ys its)(hz:ys.length<=sizeLine):
  Inv X pins σ (upd H s.heap.objs.size (.lst ys)) { s with heap:=s.heap.push { cls:=.type "list",data:=.seq its.toArray },toks:=t' }:=
 I.laid (fun _ _ q=>zgp _ q) (le_refl _) ⟨hz,its,0,hv,zgs _ rfl⟩
theorem Inv.fresh(I:Inv X pins σ H s):H s.heap.objs.size=none:=I.hok.fresh (le_refl _)
theorem Inv.lstM(I:Inv X pins σ H s)(hH:H l=some (.lst xs)):xs.length<=sizeLine/\∃(its:List Value) (n:Nat),zX xs its/\xs.length=its.length/\s.heap.get? l=some { cls:=.type "list",data:=.seq its.toArray n }:=by
 obtain⟨z,its,n,r,e⟩:=I.hok l _ hH;exact⟨z,its,n,r,r.length,e⟩
theorem zf0{n:Nat}(h:n<=sizeLine):Builtin.List.listTooLong n=false:=by
 unfold Builtin.List.listTooLong;exact decide_eq_false (by omega)
inductive zhbJ(x:V)(vs:List V)(H:Hp)(Q:VK):Prop|mk(l xs y:_):x=.ref l->vs=[y]->H l=some (.lst xs)->xs.length<sizeLine->(Q .non (upd H l (.lst (xs++[y]))))->zhbJ x vs H Q
def zhb:V->List V->Hp->VK->Prop:=fun x vs H Q=>zhbJ x vs H Q
theorem zH:MtM X "list.append" zhb:=by
 intro pins s σ H x vs v us Q I rx rv h;obtain⟨l,xs,y,rfl,rfl,hH,hz,q⟩:=h;cases rx;obtain⟨u,rfl,ru⟩:=rv.one;obtain⟨z,its,n,r,hl,e⟩:=I.lstM hH;refine call_meets F.slot_list_append ⟨_,e,rfl⟩ F.entry_list_append (F.args_list_append_2 _ _) (PySem.list_append l its.toArray n u (by rw[size_toArray];omega)) ⟨e,?_⟩
 exists .non,_,I.lset (its':=its++[u]) hH e (by simp) (r.append (.cons ru .nil)) ?_,rfl,q
 rw[length_append,length_singleton];omega
inductive zhaJ(x:V)(vs:List V)(H:Hp)(Q:VK):Prop|mk(l b xs zs:_):x=.ref l->vs=[.ref b]->H l=some (.lst xs)->H b=some (.lst zs)->xs.length+zs.length<=sizeLine->(Q .non (upd H l (.lst (xs++zs))))->zhaJ x vs H Q
def zha:V->List V->Hp->VK->Prop:=fun x vs H Q=>zhaJ x vs H Q
theorem qT:MtM X "list.extend" zha:=by
 intro pins s σ H x vs v us Q I rx rv h;obtain⟨l,b,xs,zs,rfl,rfl,hH,hB,hz,q⟩:=h;cases rx;obtain⟨u,rfl,ru⟩:=rv.one;cases ru;obtain⟨z,its,n,r,hl,e⟩:=I.lstM hH;obtain⟨z2,its2,n2,r2,hl2,e2⟩:=I.lstM hB;have hsz:its.toArray.size+its2.toArray.size<=sizeLine:=by rw[size_toArray,size_toArray];omega
 have hlong:¬(!its.toArray.isEmpty&&Builtin.List.listTooLong (its.toArray.size+its2.toArray.size))=true:=by
  rw[zf0 hsz,Bool.and_false];exact zft
 refine call_meets F.slot_list_extend ⟨_,e,rfl⟩ F.entry_list_extend (F.args_list_extend_2 _ _)
  (AutoSeq1.list_extend_list_list_0 l its.toArray n b its2.toArray n2 hlong (by rw[size_toArray];omega) (by omega)) ⟨e,e2,?_⟩
 exists .non,_,I.lset (its':=its++its2) hH e (by simp) (r.append r2) ?_,rfl,q
 rw[length_append];omega
inductive zjlJ(x:V)(vs:List V)(H:Hp)(Q:VK):Prop|mk(l xs:_):x=.ref l->vs=[]->H l=some (.lst xs)->(Q .non (upd H l (.lst [])))->zjlJ x vs H Q
def zjl:V->List V->Hp->VK->Prop:=fun x vs H Q=>zjlJ x vs H Q
theorem zf9:MtM X "list.clear" zjl:=by
 intro pins s σ H x vs v us Q I rx rv h;obtain⟨l,xs,rfl,rfl,hH,q⟩:=h;cases rx;have hus:=rv.zero;subst hus;obtain⟨z,its,n,r,hl,e⟩:=I.lstM hH;refine call_meets F.slot_list_clear ⟨_,e,rfl⟩ F.entry_list_clear (F.args_list_clear_1 _) (AutoSeq1.list_clear_list_0 l its.toArray n (by rw[size_toArray];omega)) ⟨e,?_⟩
 exact⟨.non,_,I.lset (its':=[]) (ys:=[]) hH e rfl .nil (zero_le _),rfl,q⟩
inductive zlSJ(x:V)(y:V)(H:Hp)(Q:VK):Prop|mk(l b xs zs:_):x=.ref l->y=.ref b->H l=some (.lst xs)->H b=some (.lst zs)->xs.length+zs.length<=sizeLine->(∀p,H p=none->Q (.ref p) (upd H p (.lst (xs++zs))))->zlSJ x y H Q
def zlS:R2:=fun x y H Q=>zlSJ x y H Q
theorem xI:OpR X (binaryOp .Add) zlS:=by
 intro pins s σ H x y v u Q I rx ry h;obtain⟨l,b,xs,zs,rfl,rfl,hH,hB,hz,q⟩:=h;cases rx;cases ry;obtain⟨z,its,n,r,hl,e⟩:=I.lstM hH;obtain⟨z2,its2,n2,r2,hl2,e2⟩:=I.lstM hB;refine PySem.P.add_list e e2 ?_ (by rw[size_toArray,size_toArray];omega)
 have ea:its.toArray++its2.toArray=(its++its2).toArray:=by simp
 rw[ea];exact⟨.ref _,_,I.lnew (t':=s.toks) (r.append r2) (by rw[length_append];omega),rfl,q _ I.fresh⟩
variable {prog:Program}{w:World}{A:Around}{E:VSP}
end
section
variable {κ : Type}[DecidableEq κ]
def z8(kvs:List (κ×V))(k : κ):Option V:=(kvs.find? fun kv=>decide (kv.1=k)).map (·.2)
def yC(kvs:List (κ×V))(k : κ)(v:V):List (κ×V):=
 if (kvs.any fun kv=>decide (kv.1=k))=true then kvs.map (fun kv=>if kv.1=k then (kv.1,v) else kv) else kvs++[(k,v)]
theorem yH{p : κ×V}{r:List (κ×V)}{k : κ}(e:p.1=k):z8 (p::r) k=some p.2:=by simp [z8,find?_cons,e]
theorem yI{p : κ×V}{r:List (κ×V)}{k : κ}(e:¬p.1=k):z8 (p::r) k=z8 r k:=by simp [z8,find?_cons,e]
theorem xz(k : κ):∀kvs:List (κ×V),(kvs.any fun kv=>decide (kv.1=k))=(z8 kvs k).isSome
 | []=>rfl
 | p::r=>by
  rw[any_cons];by_cases e:p.1=k
  ·simp only[yH e,decide_eq_true e,Bool.true_or,Option.isSome_some]
  ·rw[yI e,decide_eq_false e,Bool.false_or];exact xz k r
theorem za5(k j : κ)(y:V):∀kvs:List (κ×V),z8 (kvs.map fun kv=>if kv.1=k then (kv.1,y) else kv) j=(z8 kvs j).map fun x=>if j=k then y else x
 | []=>rfl
 | p::r=>by
  have ih:=za5 k j y r;rw[map_cons];by_cases h:p.1=k
  ·rw[if_pos h]
   by_cases e:p.1=j
   ·rw[yH (p:=(p.1,y)) e,yH e,map_some,if_pos (e.symm.trans h)]
   ·rw[yI (p:=(p.1,y)) e,yI e,ih]
  ·rw[if_neg h]
   by_cases e:p.1=j
   ·rw[yH (p:=p) e,yH e,map_some,if_neg (fun z=>h (e.trans z))]
   ·rw[yI (p:=p) e,yI e,ih]
theorem qJ(k j : κ)(y:V):∀kvs:List (κ×V),z8 kvs k=none->z8 (kvs++[(k,y)]) j=if j=k then some y else z8 kvs j
 | [],_=>by
  by_cases e:k=j
  ·rw[if_pos e.symm];exact yH (p:=(k,y)) e
  ·rw[if_neg (fun z=>e z.symm)];exact yI (p:=(k,y)) e
 | p::r,hn=>by
  rw[cons_append];have hk:¬p.1=k:=fun z=>by rw[yH z] at hn;cases hn
  rw[yI hk] at hn;have ih:=qJ k j y r hn;by_cases e:p.1=j
  ·rw[yH e,yH e,if_neg (fun z=>hk (e.trans z))]
  ·rw[yI e,yI e,ih]
theorem zer(kvs:List (κ×V))(k j : κ)(y:V):z8 (yC kvs k y) j=if j=k then some y else z8 kvs j:=by
 unfold yC;by_cases a:(kvs.any fun kv=>decide (kv.1=k))=true
 ·rw[if_pos a,za5]
  rw[xz] at a;by_cases e:j=k
  ·obtain⟨x,hx⟩:=Option.isSome_iff_exists.mp a
   rw[if_pos e,e,hx,map_some,if_pos rfl]
  ·rw[if_neg e]
   cases z8 kvs j with
   | none=>rfl
   | some x=>rw[map_some,if_neg e]
 ·rw[if_neg a]
  refine qJ k j y kvs ?_;rw[xz] at a;cases q:z8 kvs k with
  | none=>rfl
  | some x=>rw[q] at a;exact(a rfl).elim
theorem xP(kvs:List (κ×V))(k : κ)(v:V):(yC kvs k v).length<=kvs.length+1:=by
 unfold yC;split
 ·rw[length_map];omega
 ·rw[length_append,length_cons,length_nil];omega
theorem zbi{kvs:List (κ×V)}{k : κ}(v:V)(h:z8 kvs k=none):yC kvs k v=kvs++[(k,v)]:=by
 unfold yC;rw[xz,h];exact if_neg (by decide)
theorem ua.isSome_eq{o:Option V}{u:Option Value}(r:ua o u):o.isSome=u.isSome:=by
 cases o with
 | none=>cases u with
  | none=>rfl
  | some _=>exact(show False from r).elim
 | some _=>cases u with
  | none=>exact(show False from r).elim
  | some _=>rfl
theorem ua.getD{o:Option V}{u:Option Value}{d:V}{d':Value}(r:ua o u)(rd:zT d d'):zT (o.getD d) (u.getD d'):=by
 cases o with
 | none=>cases u with
  | none=>exact rd
  | some _=>exact(show False from r).elim
 | some _=>cases u with
  | none=>exact(show False from r).elim
  | some _=>exact r
theorem KV.val{kvs:List (κ×V)}{vs:List (κ×Value)}(r:KV kvs vs)(k : κ):ua (z8 kvs k) (valueAt vs k):=by
 unfold KV at r;induction r with
 | nil=>exact True.intro
 | @cons p q ps qs h t ih=>
  obtain⟨h1,h2⟩:=h;by_cases e:p.1=k
  ·have e':q.1=k:=h1.symm.trans e
   have b:valueAt (q::qs) k=some q.2:=by simp [valueAt,find?_cons,e']
   rw[yH e,b];exact h2
  ·have e':¬q.1=k:=fun z=>e (h1.trans z)
   have b:valueAt (q::qs) k=valueAt qs k:=by simp [valueAt,find?_cons,e']
   rw[yI e,b];exact ih
theorem KV.any{kvs:List (κ×V)}{vs:List (κ×Value)}(r:KV kvs vs)(k : κ):(kvs.any fun kv=>decide (kv.1=k))=vs.any fun kv=>decide (kv.1=k):=by
 unfold KV at r;induction r with
 | nil=>rfl
 | cons h t ih=>rw[any_cons,any_cons,ih,h.1]
theorem KV.repl{kvs:List (κ×V)}{vs:List (κ×Value)}(r:KV kvs vs)(k : κ){y:V}{u:Value}(ry:zT y u):
  KV (kvs.map fun kv=>if kv.1=k then (kv.1,y) else kv) (vs.map fun kv=>if kv.1=k then (kv.1,u) else kv):=by
 unfold KV at r |-;induction r with
 | nil=>exact .nil
 | @cons p q ps qs h t ih=>
  rw[map_cons,map_cons];refine .cons ?_ ih;obtain⟨h1,h2⟩:=h;by_cases e:p.1=k
  ·rw[if_pos e,if_pos (h1.symm.trans e)];exact⟨h1,ry⟩
  ·rw[if_neg e,if_neg (fun z=>e (h1.trans z))];exact⟨h1,h2⟩
theorem KV.put{kvs:List (κ×V)}{vs:List (κ×Value)}(r:KV kvs vs)(k : κ){y:V}{u:Value}(ry:zT y u):KV (yC kvs k y) (stored vs k u):=by
 unfold yC stored;rw[r.any k];by_cases e:(vs.any fun kv=>decide (kv.1=k))=true
 ·rw[if_pos e,if_pos e];exact r.repl k ry
 ·rw[if_neg e,if_neg e];exact Paired.snoc r ⟨rfl,ry⟩
theorem KV.length{kvs:List (κ×V)}{vs:List (κ×Value)}(r:KV kvs vs):kvs.length=vs.length:=Paired.length r
end
theorem qc{P:Program}{w:World}{k:Key}{u:Value}(r:zT (kV k) u):(yl P w).is k u=true:=by
 cases k with
 | inl i=>obtain⟨t,e⟩:=(show ∃t,u=Value.int i t from r);subst e;exact zbu P w i t
 | inr x=>obtain⟨t,e⟩:=(show ∃t,u=Value.str x t from r);subst e;exact zbt P w x t
theorem qW{P:Program}{w:World}:∀{ks:List Key}{us:List Value},zX (ks.map kV) us->ItemsAre (yl P w) ks us
 | [],_,r=>by rw[map_nil] at r;cases r;exact .nil
 | k::ks,_,r=>by
  rw[map_cons] at r;cases r with
  | cons h t=>exact .cons (qc h) (qW t)
abbrev KT(H:Hp):List (List Key×V)->List (List Key×Addr×Value)->Prop:=Paired fun p q=>p.1=q.1/\H q.2.1=some (.tup (p.1.map kV))/\zT p.2 q.2.2
theorem KT.val{H:Hp}{kvs:List (List Key×V)}{xs:List (List Key×Addr×Value)}(r:KT H kvs xs)(k:List Key):ua (z8 kvs k) ((atKey xs k).map (·.2)):=by
 induction r with
 | nil=>exact True.intro
 | @cons p q ps qs h t ih=>
  obtain⟨h1,_,h2⟩:=h;by_cases e:p.1=k
  ·have e':q.1=k:=h1.symm.trans e
   have b:atKey (q::qs) k=some q.2:=by simp [atKey,find?_cons,e']
   rw[yH e,b];exact h2
  ·have e':¬q.1=k:=fun z=>e (h1.trans z)
   have b:atKey (q::qs) k=atKey qs k:=by simp [atKey,find?_cons,e']
   rw[yI e,b];exact ih
theorem KT.repl{H:Hp}{kvs:List (List Key×V)}{xs:List (List Key×Addr×Value)}(r:KT H kvs xs)(k:List Key){y:V}{u:Value}(ry:zT y u):
  KT H (kvs.map fun kv=>if kv.1=k then (kv.1,y) else kv) (xs.map (putAt k u)):=by
 induction r with
 | nil=>exact .nil
 | @cons p q ps qs h t ih=>
  rw[map_cons,map_cons];refine .cons ?_ ih;obtain⟨h1,h2,h3⟩:=h;unfold putAt;by_cases e:p.1=k
  ·rw[if_pos e,if_pos (h1.symm.trans e)];exact⟨h1,h2,ry⟩
  ·rw[if_neg e,if_neg (fun z=>e (h1.trans z))];exact⟨h1,h2,h3⟩
theorem KT.put{H:Hp}{kvs:List (List Key×V)}{xs:List (List Key×Addr×Value)}(r:KT H kvs xs)(k:List Key){b:Addr}{y:V}{u:Value}(hb:H b=some (.tup (k.map kV)))(ry:zT y u):
  KT H (yC kvs k y) (storedH xs k b u):=by
 have e:(kvs.any fun kv=>decide (kv.1=k))=(atKey xs k).isSome:=by
  rw[xz,(r.val k).isSome_eq,isSome_map]
 unfold yC storedH;rw[e];by_cases q:(atKey xs k).isSome=true
 ·rw[if_pos q,if_pos q];exact r.repl k ry
 ·rw[if_neg q,if_neg q];exact Paired.snoc r ⟨rfl,hb,ry⟩
theorem KT.keeps{H H':Hp}{kvs:List (List Key×V)}{xs:List (List Key×Addr×Value)}(r:KT H kvs xs)(ht:∀b ys,H b=some (.tup ys)->H' b=some (.tup ys)):KT H' kvs xs:=
 xh r fun _ _ z=>⟨z.1,ht _ _ z.2.1,z.2.2⟩
section
variable {P:Program}{w:World}{H:Hp}{h:Heap}{a:Addr}
theorem zio{u:HO}(ok:HOk P w H h)(e:Rd H a u):yq P w H h a u:=e.ok ok
theorem qm{kvs:List (Key×V)}(ok:HOk P w H h)(e:Rd H a (.dK kvs)):kvs.length<=sizeLine/\(a==sysModules)=false/\∃vs,KV kvs vs/\h.DictOf (yl P w) a vs:=
 show yq P w H h a (.dK kvs) from zio ok e
theorem ziz{kvs:List (Key×V)}(ok:HOk P w H h)(e:H a=some (.dK kvs)):kvs.length<=sizeLine/\(a==sysModules)=false/\∃vs,KV kvs vs/\h.DictOf (yl P w) a vs:=qm ok (.inl e)
theorem uU{ks:List Key}(ok:HOk P w H h)(e:H a=some (.tup (ks.map kV))):(tupleKind (yl P w)).is h ks a:=by
 obtain⟨_,its,r,o,h1,h2,n,h3⟩:=(show yq P w H h a (.tup (ks.map kV)) from ok a _ e);exact⟨o,its.toArray,n,h1,h2,h3,by simpa using qW r⟩
theorem ql{kvs:List (List Key×V)}(ok:HOk P w H h)(e:Rd H a (.dT kvs)):kvs.length<=sizeLine/\(a==sysModules)=false/\
  ∃xs,KT H kvs xs/\h.DictOfH (tupleKind (yl P w)) a xs:=by
 obtain⟨z,y,xs,r,o,es,ep,h1,h2,h3,h4,h5⟩:=(show yq P w H h a (.dT kvs) from zio ok e);exists z,y,xs,r,o,es,ep,h1,h2,h3,h4,fun x hx=>?_,h5;have all:∀{l:List (List Key×V)}{m:List (List Key×Addr×Value)},KT H l m->∀x∈m,(tupleKind (yl P w)).is h x.1 x.2.1:=by
  intro l m q;induction q with
  | nil=>intro x hx;exact nomatch hx
  | @cons p q ps qs hq t ih=>
   intro x hx;rcases List.mem_cons.mp hx with e|hx
   ·subst e
    exact uU ok (by rw[<- hq.1];exact hq.2.1)
   ·exact ih x hx
 exact all r x hx
theorem zlo{kvs:List (List Key×V)}(ok:HOk P w H h)(e:H a=some (.dT kvs)):kvs.length<=sizeLine/\(a==sysModules)=false/\
  ∃xs,KT H kvs xs/\h.DictOfH (tupleKind (yl P w)) a xs:=ql ok (.inl e)
def vh(H:Hp)(a:Addr)(y:V)(r:Option V):Prop:=
 (∃kvs k,Rd H a (.dK kvs)/\y=kV k/\r=z8 kvs k)\/∃kvs k b,Rd H a (.dT kvs)/\y=.ref b/\H b=some (.tup (k.map kV))/\r=z8 kvs k
def zbR(H:Hp)(a:Addr)(y v:V)(H':Hp):Prop:=
 (∃kvs k,H a=some (.dK kvs)/\y=kV k/\kvs.length<sizeLine/\H'=upd H a (.dK (yC kvs k v)))\/
 ∃kvs k b,H a=some (.dT kvs)/\y=.ref b/\H b=some (.tup (k.map kV))/\kvs.length<sizeLine/\H'=upd H a (.dT (yC kvs k v))
theorem vh.k{H:Hp}{a:Addr}{kvs:List (Key×V)}{k:Key}(e:H a=some (.dK kvs)):vh H a (kV k) (z8 kvs k):=.inl ⟨kvs,k,.inl e,rfl,rfl⟩
theorem zbR.k{H:Hp}{a:Addr}{kvs:List (Key×V)}{k:Key}{v:V}(e:H a=some (.dK kvs))(hl:kvs.length<sizeLine):zbR H a (kV k) v (upd H a (.dK (yC kvs k v))):=.inl ⟨kvs,k,e,rfl,hl,rfl⟩
variable {X:Cx}{pins:PnL}{σ:St}{s:Shared}{y v:V}{u r:Value}{o:Option V}{A:Around}{E:VSP}
theorem Inv.big(I:Inv X pins σ H s):sysModules<s.heap.objs.size:=by
 have h:mainGlobals<s.heap.objs.size:=(I.mod.glob.keeps I.bk).lt;exact Nat.lt_trans (by decide) h
theorem zee{Q:VSP}(hu:A.units+1<cLine)(I:Inv X pins σ H s)(g:vh H a y (some v))(ry:zT y u)(h:∀w' s',Inv X pins σ H s'->zT v w'->Q w' s'):
  wpAny (model X.prog X.w) A (getItem (.ref a) u) Q E s:=by
 rcases g with ⟨kvs,k,e,ey,l⟩|⟨kvs,k,b,e,ey,eb,l⟩
 ·subst ey
  obtain⟨z,hd,vs,rel,dd⟩:=qm I.hok e;obtain⟨w',hw,rw'⟩:=x6 (v:=v) (o:=valueAt vs k) (by rw[l];exact rel.val k)
  exact wpAny_getItem_of (qc ry) dd.mapOf hw (h w' _ (I.tok _) rw')
 ·subst ey
  cases (show u=Value.ref b from ry);obtain⟨z,hd,xs,rel,dd⟩:=ql I.hok e;obtain⟨w',hw,rw'⟩:=x6 (v:=v) (o:=(atKey xs k).map (·.2)) (by rw[l];exact rel.val k)
  obtain⟨p,hp,hp2⟩:=Option.map_eq_some_iff.mp hw;refine wpAny_getItem_heap (tupleKind_room_in1 hu) (uU I.hok eb) dd hp ?_;rw[hp2];exact h w' _ (I.tok _) rw'
theorem zmj{Q:VSP}(hu:A.units+1<cLine)(I:Inv X pins σ H s)(g:vh H a y o)(ry:zT y u)(h:∀s',Inv X pins σ H s'->Q (.bool o.isSome) s'):
  wpAny (model X.prog X.w) A (compareOp .In u (.ref a)) Q E s:=by
 rcases g with ⟨kvs,k,e,ey,l⟩|⟨kvs,k,b,e,ey,eb,l⟩
 ·subst ey
  obtain⟨z,hd,vs,rel,dd⟩:=qm I.hok e;refine wpAny_in_of (qc ry) hd dd.mapOf ?_;rw[<- (rel.val k).isSome_eq,<- l];exact h _ (I.tok _)
 ·subst ey
  cases (show u=Value.ref b from ry);obtain⟨z,hd,xs,rel,dd⟩:=ql I.hok e;refine wpAny_in_heap (tupleKind_room_in1 hu) (uU I.hok eb) hd dd ?_;have q:=(rel.val k).isSome_eq;rw[isSome_map] at q;rw[<- q,<- l];exact h _ (I.tok _)
theorem zh6{Q:VSP}(hu:A.units+1<cLine)(I:Inv X pins σ H s)(g:vh H a y o)(ry:zT y u)(h:∀s',Inv X pins σ H s'->Q (.bool (!o.isSome)) s'):
  wpAny (model X.prog X.w) A (compareOp .NotIn u (.ref a)) Q E s:=by
 rcases g with ⟨kvs,k,e,ey,l⟩|⟨kvs,k,b,e,ey,eb,l⟩
 ·subst ey
  obtain⟨z,hd,vs,rel,dd⟩:=qm I.hok e;refine wpAny_notIn_of (qc ry) hd dd.mapOf ?_;rw[<- (rel.val k).isSome_eq,<- l];exact h _ (I.tok _)
 ·subst ey
  cases (show u=Value.ref b from ry);obtain⟨z,hd,xs,rel,dd⟩:=ql I.hok e;refine wpAny_notIn_heap (tupleKind_room_in1 hu) (uU I.hok eb) hd dd ?_;have q:=(rel.val k).isSome_eq;rw[isSome_map] at q;rw[<- q,<- l];exact h _ (I.tok _)
theorem zaY{h':Heap}{t':Nat}{ob:HO}(I:Inv X pins σ H s)(mu:Mut (H a))(hs:Heap.SameBut a s.heap h')(he:∃q,h'.get? a=some q)(new:yq X.prog X.w (upd H a ob) h' a ob):
  Inv X pins σ (upd H a ob) { s with heap:=h',toks:=t' }:=
 I.write (x:=a) (e:=a) mu (.inl rfl) (fun b q hb z=>(hs.2 b hb).trans z) he new
theorem zgz{P:Program}{w:World}{H':Hp}{h':Heap}{kvs:List (Key×V)}{vs:List (Key×Value)}(z:kvs.length<=sizeLine)(hd:(a==sysModules)=false)(rel:KV kvs vs)(dd:h'.DictOf (yl P w) a vs):
  yq P w H' h' a (.dK kvs):=⟨z,hd,vs,rel,dd⟩
theorem zed{H':Hp}{Q:Unit->Shared->Prop}(hu:A.units+1<cLine)(I:Inv X pins σ H s)(g:zbR H a y v H')(ry:zT y u)(rv:zT v r)(h:∀s',Inv X pins σ H' s'->Q () s'):
  wpAny (model X.prog X.w) A (setItem (.ref a) u r) Q E s:=by
 rcases g with ⟨kvs,k,e,ey,l,eH⟩|⟨kvs,k,b,e,ey,eb,l,eH⟩
 ·subst ey eH
  obtain⟨z,hd,vs,rel,dd⟩:=ziz I.hok e;have hz:vs.length<=sizeLine:=by rw[<- rel.length];exact z
  have hl:(yC kvs k v).length<=sizeLine:=by have:=xP kvs k v;omega
  refine wpAny_setItem_pairs (hsz:=hz) (qc ry) dd fun h' dd' hs=>h _ ?_;have he:∃q,h'.get? a=some q:=let ⟨q,_,_,hq,_⟩:=dd';⟨q,hq⟩;exact zaY I (by rw[e];exact True.intro) hs he (zgz hl hd (rel.put k rv) dd')
 ·subst ey eH
  cases (show u=Value.ref b from ry);obtain⟨z,hd,xs,rel,dd⟩:=zlo I.hok e;have hz:xs.length<=sizeLine:=by rw[<- Paired.length rel];exact z
  have hl:(yC kvs k v).length<=sizeLine:=by have:=xP kvs k v;omega
  refine wpAny_setItem_heap (hsz:=hz) (tupleKind_room_in1 hu) (uU I.hok eb) dd fun h' dd' hs=>h _ ?_;obtain⟨q,es,ep,hq,h2,h3,h4,_,h5⟩:=dd';refine zaY I (by rw[e];exact True.intro) hs ⟨q,hq⟩ ⟨hl,hd,_,(rel.put k eb rv).keeps fun c ys ec=>?_,q,es,ep,hq,h2,h3,h4,h5⟩
  rw[zf (ym ec e (fun z=>nomatch z))];exact ec
variable {kvs:List (Key×V)}{k:Key}
def zka(i:Expr):Prop:=∀ov iv,subscripted i false ov iv=operate [ov,iv] (getItem ov iv)
theorem zcR{prog:Program}{w:World}{A:Around}{E:VSP}{s:Shared}{env:Env}{value slice:Expr}{pos:Pos}{T id:String}{Q:VSP}
  (hl:typeLookup (.type T) "__getitem__"=pure (some (.builtin id))) (hs:zka slice)
  (h:wpAny (model prog w) A (eval value env) (fun o s₁=>wpAny (model prog w) A (eval slice env) (fun i s₂=>s₂.TypeIs o T/\wpAny (model prog w) A (getItem o i) Q E s₂) E s₁) E s) :
  wpAny (model prog w) A (eval (.Subscript value slice pos) env) Q E s:=by
 refine Subscript_ (wpAny_mono h (fun o s₁ h₁=>wpAny_mono h₁ (fun i s₂ h₂=>?_) fun _ _ x=>x) fun _ _ x=>x);obtain⟨hT,h₂⟩:=h₂;unfold subscriptTail;refine zwb ?_;rw[getitemInPython_of_ne hT.not_modules];refine zwb (wpAny_specialOf hT hl ?_);have fin:wpAny (model prog w) A (subscripted slice false o i) (fun r s₃=>wpAny (model prog w) A (letTemporaryGo value o r >>= fun _=>pure r) Q E s₃) E s₂:=by
  rw[hs o i];exact wpAny_operating (wpAny_mono h₂ (fun r s₃ h₃=>zwb (wpAny_letTemporaryGo (zwp h₃))) fun _ _ x=>x)
 first
  | exact zwp (zwb fin)
  | exact zwb (zwp (zwb fin))
  | exact zwb fin
theorem zbF{X:Cx}{pins:PnL}{σ : St}{H:Hp}{s:Shared}{a:Addr}{y:V}{o:Option V}(I:Inv X pins σ H s)(g:vh H a y o):s.TypeIs (.ref a) "dict":=by
 rcases g with ⟨kvs,k,e,_,_⟩|⟨kvs,k,b,e,_,_,_⟩
 ·obtain⟨_,_,vs,_,dd⟩:=qm I.hok e
  exact dd.typeIs
 ·obtain⟨_,_,xs,_,dd⟩:=ql I.hok e
  exact dd.typeIs
inductive zkpJ(Q:VK)(x:V)(y:V)(H2:Hp):Prop|mk(a v:_):x=.ref a->vh H2 a y (some v)->(Q v H2)->zkpJ Q x y H2
def zkp(td ty:TE):TE:=fun σ H Q=>td σ H fun x H1=>ty σ H1 fun y H2=>zkpJ Q x y H2
inductive zlHJ(Q:VK)(y:V)(x:V)(H2:Hp):Prop|mk(a o:_):x=.ref a->vh H2 a y o->(Q (.bl o.isSome) H2)->zlHJ Q y x H2
def zlH(ty td:TE):TE:=fun σ H Q=>ty σ H fun y H1=>td σ H1 fun x H2=>zlHJ Q y x H2
inductive zgMJ(Q:VK)(y:V)(x:V)(H2:Hp):Prop|mk(a o:_):x=.ref a->vh H2 a y o->(Q (.bl (!o.isSome)) H2)->zgMJ Q y x H2
def zgM(ty td:TE):TE:=fun σ H Q=>ty σ H fun y H1=>td σ H1 fun x H2=>zgMJ Q y x H2
inductive zkKJ(D:L2.wF)(σ:St)(v:V)(x:V)(y:V)(H3:Hp):Prop|mk(a H4:_):x=.ref a->zbR H3 a y v H4->(D.nx σ H4)->zkKJ D σ v x y H3
def zkK(td ty tv:TE):TS:=fun D σ H=>tv σ H fun v H1=>td σ H1 fun x H2=>ty σ H2 fun y H3=>zkKJ D σ v x y H3
end
section
variable {X:Cx}{o i e value:Expr}{pos pos' tpos:Pos}{td ty tv:TE}
theorem xW(hu:X.A.units+1<cLine)(ho:PE X o td)(hi:PE X i ty)(hs:zka i):PE X (.Subscript o i pos) (zkp td ty):=by
 exists ?_;intro pins s σ H Q I h;refine zcR PySem.F.slot_dict_getitem.lookup hs (thn (ho pins s σ H _ I h) fun u s1 ⟨x,H1,I1,rx,q1⟩=>thn (hi pins s1 σ H1 _ I1 q1) fun iv s2 ⟨y,H2,I2,ry,a,v,ex,g,q2⟩=>?_);subst ex;obtain rfl:u=Value.ref a:=rx;exact⟨zbF I2 g,zee hu I2 g ry fun w' s3 I3 rw'=>⟨v,H2,I3,rw',q2⟩⟩
theorem zju(hu:X.A.units+1<cLine)(hi:PE X i ty)(ho:PE X o td):PC X .In i o (zlH ty td):=by
 exists ?_;intro pins s σ H Q I h;refine thn (hi pins s σ H _ I h) fun iv s1 ⟨y,H1,I1,ry,q1⟩=>thn (ho pins s1 σ H1 _ I1 q1) fun u s2 ⟨x,H2,I2,rx,a,ov,ex,g,q2⟩=>?_;subst ex;obtain rfl:u=Value.ref a:=rx;exact zmj hu I2 g ry fun s3 I3=>⟨.bl ov.isSome,H2,I3,rfl,q2⟩
theorem zdU(hu:X.A.units+1<cLine)(hi:PE X i ty)(ho:PE X o td):PC X .NotIn i o (zgM ty td):=by
 exists ?_;intro pins s σ H Q I h;refine thn (hi pins s σ H _ I h) fun iv s1 ⟨y,H1,I1,ry,q1⟩=>thn (ho pins s1 σ H1 _ I1 q1) fun u s2 ⟨x,H2,I2,rx,a,ov,ex,g,q2⟩=>?_;subst ex;obtain rfl:u=Value.ref a:=rx;exact zh6 hu I2 g ry fun s3 I3=>⟨.bl (!ov.isSome),H2,I3,rfl,q2⟩
theorem jp(hu:X.A.units+1<cLine)(ho:PE X o td)(hi:PE X i ty)(hv:PE X value tv)(hs:swapsWith value (some (.Subscript o i pos')) pos.line X.env=pure false):
  PS X (.Assign [.Subscript o i pos'] value pos) (zkK td ty tv):=by
 exists ?_;intro pins s σ H D I h;refine wpAny_Assign_Subscript (thn (hv pins s σ H _ I h) fun r s1 ⟨v,H1,I1,rv,q1⟩=>thn (ho pins s1 σ H1 _ I1 q1) fun u s2 ⟨x,H2,I2,rx,q2⟩=>thn (hi pins s2 σ H2 _ I2 q2) fun iv s3 ⟨y,H3,I3,ry,a,H4,ex,g,q3⟩=>?_) hs;subst ex;obtain rfl:u=Value.ref a:=rx;exact zed hu I3 g ry rv fun s4 I4=>⟨σ,H4,I4,q3⟩
theorem zgA{P:Program}{w:World}{H:Hp}(h:Heap)(hb:sysModules<h.objs.size):yq P w H (h.push { cls:=.type "dict",data:=.dict #[] }) h.objs.size (.dK []):=
 ⟨zero_le _,beq_eq_false_iff_ne.mpr (Ne.symm (ne_of_lt hb)),[],.nil,Heap.DictOf.new h⟩
def ziN:TE:=fun _ H Q=>∀p,H p=none->Q (.ref p) (upd H p (.dK []))
theorem jV:PE X (.Dict [] [] pos) ziN:=⟨fun pins s σ H Q I h=>
 wpAny_Dict_empty ⟨.ref s.heap.objs.size,_,I.laid (a:=s.heap.objs.size) (o:=.dK []) (t':=s.toks) (fun _ _ q=>zgp _ q) (le_refl _) (zgA s.heap I.big),rfl,h _ (I.hok.fresh (le_refl _))⟩⟩
def ziK:List (TE×TE)->St->Hp->(List (V×V)->Hp->Prop)->Prop
 | [],_,H,Q=>Q [] H
 | (tk,tv)::r,σ,H,Q=>tk σ H fun x H1=>tv σ H1 fun y H2=>ziK r σ H2 fun ps H3=>Q ((x,y)::ps) H3
structure M1(X:Cx)(o:Expr)(m:Str)(apos:Pos)(e:Expr)(cpos:Pos):Prop where
 base:attributeBase o m X.env (eval o X.env)=eval o X.env
 few:((backTo cpos (starEach [e] X.env)).all (fun x=>!x.1)&&(backToKw cpos (keywordEach [] X.env)).all (fun x=>x.1.isSome)
  && decide (([e]:List Expr).length+([]:List Keyword).length+(if ([]:List Keyword).isEmpty then 0 else 1)<30))=true
 line:(apos.endLine==cpos.line)=true
 trees:backTo cpos (starEach [e] X.env)=[(false,eval e X.env)]
def IsD(H:Hp)(a:Addr):Prop:=(∃kvs,Rd H a (.dK kvs))\/∃kvs,Rd H a (.dT kvs)
theorem zjU{X:Cx}{pins:PnL}{σ : St}{H:Hp}{s:Shared}{a:Addr}(I:Inv X pins σ H s)(d:IsD H a):
  s.TypeIs (.ref a) "dict"/\(∀b,Value.ref a=.ref b->∃ob,s.heap.get? b=some ob/\ob.dict=none)/\(a==sysModules)=false:=by
 rcases d with ⟨kvs,e⟩|⟨kvs,e⟩
 ·obtain⟨_,hd,vs,_,dd⟩:=qm I.hok e
  exists dd.typeIs,fun b q=>?_,hd;cases q;obtain⟨ob,_,_,h1,h2,_⟩:=dd;exact⟨ob,h1,h2.2.1⟩
 ·obtain⟨_,hd,xs,_,dd⟩:=ql I.hok e
  exists dd.typeIs,fun b q=>?_,hd;cases q;obtain⟨ob,_,_,h1,h2,_⟩:=dd;exact⟨ob,h1,h2.2.1⟩
end
section
variable {X:Cx}{pins:PnL}{σ:St}{H:Hp}{s:Shared}{a:Addr}{y d:V}{u r:Value}{o:Option V}{A:Around}{E:VSP}
theorem zj4{Q:VSP}(hu:A.units+1<cLine)(I:Inv X pins σ H s)(g:vh H a y o)(ry:zT y u)(h:∀w' s',Inv X pins σ H s'->zT (o.getD .non) w'->Q w' s'):
  wpAny (model X.prog X.w) A (call (.builtin "dict.get") [.ref a,u]) Q E s:=by
 rcases g with ⟨kvs,k,e,ey,l⟩|⟨kvs,k,b,e,ey,eb,l⟩
 ·subst ey
  obtain⟨z,hd,vs,rel,dd⟩:=qm I.hok e;refine call_meetsIn PySem.F.slot_dict_get dd.typeIs PySem.F.entry_dict_get (PySem.F.args_dict_get_2 _ _) (meets_dict_get (yl X.prog X.w) a (qc ry) hd) ⟨_,dd.mapOf,h _ _ (I.tok _) ?_⟩;rw[l];exact(rel.val k).getD rfl
 ·subst ey
  cases (show u=Value.ref b from ry);obtain⟨z,hd,xs,rel,dd⟩:=ql I.hok e;refine call_meetsIn PySem.F.slot_dict_get dd.typeIs PySem.F.entry_dict_get (PySem.F.args_dict_get_2 _ _) (meetsH_dict_get (tupleKind (yl X.prog X.w)) a b hd) ⟨tupleKind_room_in1 hu,k,xs,uU I.hok eb,dd,h _ _ (I.tok _) ?_⟩;rw[l];exact(rel.val k).getD rfl
inductive ziOJ(ty:TE)(σ:St)(Q:VK)(x:V)(H1:Hp):Prop|mk(a:_):x=.ref a->IsD H1 a->(ty σ H1 fun y H2=>∃o,vh H2 a y o/\Q (o.getD .non) H2)->ziOJ ty σ Q x H1
def ziO(td ty:TE):TE:=fun σ H Q=>td σ H fun x H1=>ziOJ ty σ Q x H1
end
section
variable {X:Cx}{o e f:Expr}{apos cpos:Pos}{td ty tx:TE}
theorem zfl(hu:X.A.units+1<cLine)(ho:PE X o td)(he:PE X e ty)(m:M1 X o "get" apos e cpos):PE X (.Call (.Attribute o "get" apos) [e] [] cpos) (ziO td ty):=by
 exists ?_;intro pins s σ H Q I h;refine wpAny_Call_method m.base m.few m.line PySem.F.plainAttrs_dict PySem.F.slot_dict_get PySem.F.type_dict_get (thn (ho pins s σ H _ I h) fun u s1 ⟨x,H1,I1,rx,a,ex,d,q1⟩=>?_);subst ex;obtain rfl:u=Value.ref a:=rx;obtain⟨t1,t2,_⟩:=zjU I1 d;exists t1,t2,?_;rw[m.trees];refine Calls.callWith_builtin rfl (Calls.evalArgs_plain (Calls.spliced_cons (thn (he pins s1 σ H1 _ I1 q1) fun iv s2 ⟨y,H2,I2,ry,ov,g,q2⟩=>Calls.spliced_nil ?_)));exact zj4 hu I2 g ry fun w' s3 I3 rw'=>⟨_,H2,I3,rw',q2⟩
variable {pins:PnL}{σ:St}{H:Hp}{s:Shared}{a:Addr}{kvs:List (Key×V)}{A:Around}{E:VSP}
variable {y:V}{u:Value}
end
end L2
namespace Att
open PySem PySem.W PySem.Calls PyProof.Rows
theorem jj{P:Params}{h:Heap}:∀(ns:List Int) (vs:List Value),WellAll P h vs (ns.map WData.int)->IntsAre vs ns:=by
 intro ns;induction ns with
 | nil=>
  intro vs w;rw[map_nil] at w;cases w;exact .nil
 | cons n ns ih=>
  intro vs w;rw[map_cons] at w;cases w with
  | cons a b=>
   cases a;exact .cons _ _ (ih _ b)
theorem zdL{l:OpenLaw}{n:Nat}(hn:l.most=some n){P:Params}{h:Heap}{args:List WData}{vals:List Value}
  (hpre:l.row.toRowW.claim.pre args=true) (hwl:WellAll P h vals args) :
  ∃a vs ns,vals=[Value.ref a]/\args=[WData.list (ns.map WData.int)]/\h.get? a=some { cls:=.type "list",data:=.seq vs.toArray }/\IntsAre vs ns/\ns.length<=n:=by
 have hsh:WShape.hasAll [] args [.list .int]=true:=(pre_splitW hpre).1;have hc:l.pre.holds [] { args:=args }=true:=(pre_splitW hpre).2;obtain⟨d,r,rfl,h1,h2⟩:=hasAllW_cons hsh;obtain rfl:=hasAllW_nil h2;obtain⟨xs,rfl,h3⟩:=hasW_list h1;obtain⟨ns,rfl⟩:=items_int h3;have hlen:ns.length<=n:=by
  unfold OpenLaw.pre at hc;have h4:(WTm.not (.lt (.lit (.int (n:Int))) (.len (.arg 0)))).holds [] { args:=[.list (ns.map .int)] }=true:=by
   have h4:=(holds_andW hc).1;rw[hn] at h4;exact h4
  have h5:=condW_of h4 (w_not (w_lt w_lit (w_len_list (w_arg rfl))));rw[length_map] at h5;refine Nat.le_of_not_lt fun q=>?_;have q':(n:Int)<((ns.length:Nat):Int):=by omega
  first
   | (rw[decide_eq_true q'] at h5;exact absurd h5 (by decide))
   | (simp at h5;omega)
 cases hwl with
 | cons w1 w2=>
  cases w2;cases w1 with
  | list ho hall=>exact⟨_,_,ns,rfl,rfl,ho,jj ns _ hall,hlen⟩
theorem zdR(l:OpenLaw)(args:List WData):l.row.toRowW.claim.post args (.bool true) args=true:=
 postW_of (r:=l.row.toRowW) (X:=(true==true))
  (show WShape.has [] (.bool true) .bool=true by first|rfl|decide|simp [WShape.has,WShape.arms,WShape.armsAll])
  (show(WTm.eq .res (.lit (.bool true))).value [] { args:=args,res:=some (.bool true),after:=args }=some (.bool (true==true)) from w_eq_bool (w_res rfl) w_lit) rfl
section
variable {prog:Program}{w:World}{A:Around}{E:VSP}{s:Shared}{K:Frag}
def zme(h:Heap)(L d:Addr):List (Addr×Obj):=(List.range h.objs.size).filterMap fun a=>if a=L\/a=d then none else (h.get? a).map fun o=>(a,o)
end
end Att
namespace L2
open PySem PySem.Spec PyProof.Rows
theorem qH:∀{vs:List Value}{ns:List Int},IntsAre vs ns->zX (ns.map V.int) vs
 | _,_,.nil=>.nil
 | _,_,.cons n t h=>.cons ⟨t,rfl⟩ (qH h)
def zj9(H:Hp):Prop:=∀b,H b=none\/∃o xs,H b=some (.frz o (.lst xs))
theorem zgf{P:Program}{w:World}{K:Frag}{mg mb:Str->Option Value}{CX:CXT}{k:Nat}{fa a:Addr}{fd:FuncData}{x:Str}{sp:Sp}{s₁:Shared}{vs:List Value}{ns:List Int}
  (KX:K.In s₁.heap) (hns:s₁.heap.Ns mainGlobals mg) (hb:s₁.heap.Ns builtinsNs mb) (hbb:∀x:Str,x≠"__name__"->mb x=bootBuiltins x) (hlim:s₁.heap.NoLimit) (hg:s₁.gens=#[])
  (ha:s₁.heap.get? a=some { cls:=.type "list",data:=.seq vs.toArray }) (hi:IntsAre vs ns) (hl:ns.length<=sizeLine) (hr:yf k callerA)
  (F:∀base:Heap,K.In base->base.Ns mainGlobals mg->zx P w K mg base CX k fa fd [x] sp) (hbind:∀(s:Shared) (u:Value),BindsTo s fd ⟨[u],[]⟩ [(x,u)])
  (hsp:∀H:Hp,zj9 H->SqL K H a (ns.map V.int)->sp [.ref a] H (fun v _=>v=.bl true) fun _ _ _=>False)
  (hCX:∀H e s',CX [] H s₁ (fun _ _ _=>False) e s'->False) :
  codeAny (model P w) callerA (.call (.ref fa) ⟨[.ref a],[]⟩) (fun r s'=>r=.ok (.ret (.bool true))/\OldK s₁.heap s'.heap/\s'.os=s₁.os/\AllBare s'.gens) s₁:=by
 have rv:=qH hi;have lenV:=hi.length;have core:∀H:Hp,zj9 H->SqL K H a (ns.map V.int)->HOk P w H s₁.heap->(∀b,H b≠none->b=a)->(H a≠none->K.lookup a=none)->
   codeAny (model P w) callerA (.call (.ref fa) ⟨[.ref a],[]⟩) (fun r s'=>r=.ok (.ret (.bool true))/\OldK s₁.heap s'.heap/\s'.os=s₁.os/\AllBare s'.gens) s₁:=by
  intro H hO hS hok hA hK;have base_of:∀{b:Addr}{o:Obj},s₁.heap.get? b=some o->H b=none->(zaW s₁.heap H).get? b=some o:=fun e n=>zgk e n;have noA:∀{b:Addr}{o:Obj}{es:Array DictEntry}{ep:Nat},s₁.heap.get? b=some o->o.data=.dict es ep->H b=none:=fun {b o es ep} e d=>by
   cases q:H b with
   | none=>rfl
   | some u=>
    have e':b=a:=hA b (by rw[q];simp)
    subst e';rw[ha] at e;cases e;have d':Data.seq vs.toArray _=Data.dict es ep:=d;cases d'
  have nsK:∀{b:Addr}{m:Str->Option Value},s₁.heap.Ns b m->(zaW s₁.heap H).Ns b m:=fun {b m} ⟨o,es,ep,e,d,r⟩=>⟨o,es,ep,base_of e (noA e d),d,r⟩;have hKb:K.In (zaW s₁.heap H):=fun b o e=>base_of (KX b o e) (by
   cases q:H b with
   | none=>rfl
   | some u=>
    have e':b=a:=hA b (by rw[q];simp)
    subst e';rw[hK (by rw[q];simp)] at e;cases e)
  have hM:Mod K mg (zaW s₁.heap H):=⟨hKb,nsK hns,⟨mb,nsK hb,hbb⟩,let ⟨mc,h1,h2⟩:=hlim;⟨mc,nsK h1,h2⟩⟩;have e0:qG P w K mg (zaW s₁.heap H) callerA [] s₁ H:=⟨rfl,hM,fun b o e=>zhI e,Nat.le_of_eq (zd6 _ _),trivial,fun b hb=>absurd (show b∈([]:List Addr) from hb) (by simp),hok,.of_eq hg⟩
  refine codeAny_mono ((F _ hKb (nsK hns)).run callerA [] s₁ H ⟨[.ref a],[]⟩ [.ref a] [.ref a] _ _ hr e0 (hbind s₁ (.ref a)) (.cons rfl .nil) (hsp H hO hS)) fun r s' h=>?_;cases r with
  | error e=>exact(hCX H e s' h).elim
  | ok fl=>
   cases fl with
   | next=>exact False.elim h
   | brk=>exact False.elim h
   | cont=>exact False.elim h
   | ret u=>
    obtain⟨v,H',os,bare,un,hok',r',q⟩:=h;have q':v=.bl true:=q;subst q';obtain rfl:u=Value.bool true:=r';exists rfl,OldK.of_keep fun b o e=>?_,os,bare;cases q:H b with
    | none=>exact un.keep b o e q (by intro z;exact absurd (show b∈([]:List Addr) from z) (by simp)) (by simp)
    | some u=>
     rcases hO b with z|⟨ob,xs,z⟩
     ·rw[q] at z;cases z
     ·have z2:=un.frzs b ob _ z
      obtain⟨e1,_⟩:=hok b _ z;obtain⟨e2,_⟩:=hok' b _ z2;rw[e] at e1;cases e1;exact e2
 cases hk:K.lookup a with
 | some o=>
  have e:=KX a o hk;rw[ha] at e;cases e;refine core (fun _=>none) (fun _=>.inl rfl) (.inr ⟨_,vs.toArray,_,hk,rfl,rfl,rfl,by rw[size_toArray,lenV];exact hl,by simpa using rv⟩) (fun b u z=>by have z':(none:Option HO)=some u:=z;cases z') (fun b z=>absurd rfl z) fun z=>absurd rfl z
 | none=>
  refine core (fun b=>if b=a then some (.frz { cls:=.type "list",data:=.seq vs.toArray } (.lst (ns.map V.int))) else none) (fun b=>?_) (.inl (.inr ⟨{ cls:=.type "list",data:=.seq vs.toArray },if_pos rfl⟩)) (fun b u z=>?_) (fun b z=>?_) fun _=>hk
  ·by_cases hb:b=a
   ·exact .inr ⟨_,_,if_pos hb⟩
   ·exact .inl (if_neg hb)
  ·by_cases hb:b=a
   ·have z':=(if_pos hb).symm.trans z
    cases z';subst hb;exact⟨ha,by rw[length_map];exact hl,vs,_,rv,ha⟩
   ·have z':=(if_neg hb).symm.trans z
    cases z'
  ·by_cases hb:b=a
   ·exact hb
   ·exact absurd (if_neg hb) z
def z4(s:Stmt)(j:Nat):Stmt:=match s with
 | .ClassDef _ _ _ body _ _ _ _ _ _ _=>body.getD j (.Pass ⟨0,0,0,0⟩)
 | _=>.Pass ⟨0,0,0,0⟩
def yb(s:Stmt):Arguments:=match s with
 | .FunctionDef _ a _ _ _ _ _ _ _ _=>a
 | _=>{ posonlyargs:=[],args:=[],vararg:=none,kwonlyargs:=[],kw_defaults:=[],kwarg:=none,defaults:=[] }
def zY(s:Stmt):List Stmt:=match s with
 | .FunctionDef _ _ b _ _ _ _ _ _ _=>b
 | _=>[]
def zj(s:Stmt):Scope:=match s with
 | .FunctionDef _ _ _ _ _ _ sc _ _ _=>sc
 | _=>{ kind:=.function,names:=[],isGenerator:=false,isCoroutine:=false }
abbrev CX0:CXT:=fun _ _ _ _ _ _=>False
abbrev E0:XK:=fun _ _ _=>False
theorem zW{X:Cx}:xy CX0 X E0:=fun _ _ _ _ _ _ _ h=>h.elim
structure Fun(K:Frag)(x qual:Str)(st:Stmt)(f:Addr)(fd:FuncData):Prop where
 ex:∃(oc:Value) (od:Option Addr) (kV doc pm:Value) (an:Option Addr) (cdv ct:Value) (osl:Array (Option Value)),
  fd=fnOf x qual (yb st) (zY st) (zj st) .none kV doc pm an cdv ct/\K.lookup f=some ⟨oc,od,.func fd,osl⟩/\codeIn K cdv qual=true
 kp:keepIn K (.ref f)=true
section
variable {P:Program}{w:World}{K:Frag}{mg:Str->Option Value}{base:Heap}
theorem Fun.ok{x qual:Str}{st:Stmt}{f:Addr}{fd:FuncData}{N ps:List Str}{k:Nat}{sp:Sp}(F:Fun K x qual st f fd)(S:zq N ps (zj st))(hbody:∀(cdv:Value) (A:Around) (outer:List Env) (s:Shared) (H:Hp) (vs:List V) (Q:VK) (E:XK),yf k (A.deeper (envOfC qual (zj st) s.heap.objs.size f cdv))->sp vs H Q E->
   ∃t,PSs (jk CX0 P w K mg base N qual (zj st) f cdv A outer s H E).nox (zY st) t/\t { nx:=fun _ H'=>Q .non H',rt:=Q } (wg N vs) H) (len:∀vs H Q E,sp vs H Q E->vs.length=ps.length:=by intro vs H Q E h;first|(obtain⟨_,rfl,_⟩:=h;rfl)|(obtain⟨_,_,rfl,_⟩:=h;rfl)|(obtain⟨_,_,_,rfl,_⟩:=h;rfl)|(obtain⟨_,_,_,_,rfl,_⟩:=h;rfl)|(obtain⟨_,_,_,_,_,rfl,_⟩:=h;rfl)|(obtain⟨_,_,_,_,_,_,rfl,_⟩:=h;rfl)|(obtain⟨_,_,_,_,_,_,_,rfl,_⟩:=h;rfl)|(obtain⟨_,_,_,_,_,_,_,_,rfl,_⟩:=h;rfl)|(obtain⟨_,_,_,_,_,_,_,_,_,rfl,_⟩:=h;rfl)|(obtain⟨_,_,_,_,_,_,_,_,_,_,rfl,_⟩:=h;rfl)|(obtain⟨_,_,_,_,_,_,_,_,_,_,_,rfl,_⟩:=h;rfl)|(obtain⟨_,_,_,_,_,_,_,_,_,_,_,_,rfl,_⟩:=h;rfl)|(obtain⟨_,_,_,_,_,_,_,_,_,_,_,_,_,rfl,_⟩:=h;rfl)|(obtain⟨_,_,_,_,_,_,_,_,_,_,_,_,_,_,rfl,_⟩:=h;rfl)|(obtain⟨_,_,_,_,_,_,_,_,_,_,_,_,_,_,_,rfl,_⟩:=h;rfl)|(obtain⟨_,_,_,_,_,_,_,_,_,_,_,_,_,_,_,_,rfl,_⟩:=h;rfl)):zx P w K mg base CX0 (k+1) f fd ps sp:=by
 obtain⟨oc,od,kV,doc,pm,an,cdv,ct,osl,rfl,lk,hcd⟩:=F.ex;refine zgu lk hcd S len fun A outer s H vs Q E hr hsp=>?_;obtain⟨t,h,q⟩:=hbody cdv A outer s H vs Q E hr hsp;exact⟨t,h.nox,q⟩
theorem Fun.binds{x qual:Str}{st:Stmt}{f:Addr}{fd:FuncData}{ps:List Str}(F:Fun K x qual st f fd)
  (h:∀(kV doc pm:Value) (an:Option Addr) (cdv ct:Value) (us:List Value),us.length=ps.length->bindArgs (fnOf x qual (yb st) (zY st) (zj st) .none kV doc pm an cdv ct) ⟨us,[]⟩=pure (ps.zip us)):zN K fd ps []:=by
 obtain⟨oc,od,kV,doc,pm,an,cdv,ct,osl,rfl,lk,hcd⟩:=F.ex;exact .all (h kV doc pm an cdv ct)
theorem zgo{x qual:Str}{st:Stmt}{f:Addr}{oc:Value}{od an:Option Addr}{osl:Array (Option Value)}{kV doc pm cdv ct:Value}(l:K.lookup f=some ⟨oc,od,.func (fnOf x qual (yb st) (zY st) (zj st) .none kV doc pm an cdv ct),osl⟩)
  (c:codeIn K cdv qual=true) (k:keepIn K (.ref f)=true):Fun K x qual st f (fnOf x qual (yb st) (zY st) (zj st) .none kV doc pm an cdv ct):=⟨⟨oc,od,kV,doc,pm,an,cdv,ct,osl,rfl,l,c⟩,k⟩
theorem uu{A:Around}{k:Nat}(hr:yf k A):A.units+1<cLine:=Nat.lt_of_le_of_lt (Nat.add_le_add_left (by decide : 1<=64) _) hr.units
theorem zC{n:Nat}(h:n<=1000):n<sizeLine:=Nat.lt_of_le_of_lt h (by decide)
variable {X:Cx}
theorem pv(i:Nat){x:Str}{pos:Pos}(hN:X.N[i]?=some x:=by rfl)(hv:Vis X.env.scope x:=by first|exact Or.inl rfl|exact Or.inr (Or.inl rfl)|exact Or.inr (Or.inr rfl))(hd:(x==("__debug__" : Str))=false:=by decide)
  (hcd:(x==("__classdict__" : Str))=false:=by decide):PE X (.Name x pos) (zbU i):=zjp hN hv hd hcd
theorem yo{A B:Prop}(h:B):if false=true then A else B:=by
 rw[if_neg zft];exact h
theorem vm{A B:Prop}(h:A):if true=true then A else B:=by
 rw[if_pos rfl];exact h
theorem vW{c A B:Prop}[Decidable c](h1:c->A)(h2:¬c->B):if c then A else B:=by
 by_cases h:c
 ·rw[if_pos h]
  exact h1 h
 ·rw[if_neg h]
  exact h2 h
def zo(H H':Hp):Prop:=∀b o,H b=some o->H' b=some o
theorem zo.refl(H:Hp):zo H H:=fun _ _ h=>h
theorem zo.trans{H H1 H2:Hp}(a:zo H H1)(b:zo H1 H2):zo H H2:=fun c o h=>b c o (a c o h)
theorem zo.free{H H':Hp}(e:zo H H'){l:Addr}(h:H' l=Option.none):H l=Option.none:=by
 cases q:H l with
 | none=>rfl
 | some o=>
  rw[e l o q] at h;cases h
theorem zo.seq{K:Frag}{H H':Hp}{a:Addr}{xs:List V}(e:zo H H')(h:SqL K H a xs):SqL K H' a xs:=by
 rcases h with (h|⟨o,h⟩)|h
 ·exact .inl (.inl (e _ _ h))
 ·exact .inl (.inr ⟨o,e _ _ h⟩)
 ·exact .inr h
end
section
variable {κ : Type}[DecidableEq κ]
end
def clB(env:Env)(fr:List Str):List (Str×Addr):=fr.map fun n=>(n,(env.cells.lookup n).getD 0)
theorem zbK{env:Env}:∀{fr:List Str}{x:Str}{c:Addr},(clB env fr).lookup x=some c->x∈fr/\c=(env.cells.lookup x).getD 0
 | [],x,c,h=>by simp [clB] at h
 | n::r,x,c,h=>by
  have h':List.lookup x ((n,(env.cells.lookup n).getD 0)::clB env r)=some c:=h;rw[lookup_cons] at h';cases e:x==n with
  | true=>
   rw[e] at h';have e':x=n:=by simpa using e
   subst e';exact⟨mem_cons_self,(Option.some.inj h').symm⟩
  | false=>
   rw[e] at h';obtain⟨h1,h2⟩:=zbK h';exact⟨mem_cons_of_mem _ h1,h2⟩
theorem za0{env:Env}:∀{fr:List Str}{x:Str},x∈fr->(clB env fr).lookup x=some ((env.cells.lookup x).getD 0)
 | n::r,x,h=>by
  show List.lookup x ((n,(env.cells.lookup n).getD 0)::clB env r)=_;rw[lookup_cons];cases e:x==n with
  | true=>
   have e':x=n:=by simpa using e
   subst e';rfl
  | false=>
   rcases List.mem_cons.mp h with z|z
   ·subst z;simp at e
   ·exact za0 z
theorem vw{env:Env}:∀{names:List (Str×NameKind)}{x:Str}{k:NameKind},
  (names.map fun (n,k)=>if (k==NameKind.free&&env.scope.kind==.function&&env.kindOf n==some .cell) then (n,NameKind.cell) else (n,k)).lookup x=some k->
  ∃k0,(x,k0)∈names/\(k=k0\/(k0=.free/\k=.cell))
 | [],_,_,h=>by simp at h
 | (n,k0)::r,x,k,h=>by
  have h':List.lookup x ((if (k0==NameKind.free&&env.scope.kind==.function&&env.kindOf n==some .cell)=true then (n,NameKind.cell) else (n,k0)) ::
   (r.map fun (n,k)=>if (k==NameKind.free&&env.scope.kind==.function&&env.kindOf n==some .cell) then (n,NameKind.cell) else (n,k)))=some k:=h
  by_cases hc:(k0==NameKind.free&&env.scope.kind==.function&&env.kindOf n==some .cell)=true
  ·rw[if_pos hc,lookup_cons] at h'
   cases e:x==n with
   | true=>
    rw[e] at h';have e':x=n:=by simpa using e
    subst e';simp only[Bool.and_eq_true] at hc;exact⟨k0,mem_cons_self,.inr ⟨by simpa using hc.1.1,(Option.some.inj h').symm⟩⟩
   | false=>
    rw[e] at h';obtain⟨k1,h1,h2⟩:=vw h';exact⟨k1,mem_cons_of_mem _ h1,h2⟩
  ·rw[if_neg hc,lookup_cons] at h'
   cases e:x==n with
   | true=>
    rw[e] at h';have e':x=n:=by simpa using e
    subst e';exact⟨k0,mem_cons_self,.inl (Option.some.inj h').symm⟩
   | false=>
    rw[e] at h';obtain⟨k1,h1,h2⟩:=vw h';exact⟨k1,mem_cons_of_mem _ h1,h2⟩
theorem wY{env:Env}(hk:env.scope.kind=.function):∀{names:List (Str×NameKind)}{x:Str},names.lookup x=some .free->env.kindOf x=some .cell->
  (names.map fun (n,k)=>if (k==NameKind.free&&env.scope.kind==.function&&env.kindOf n==some .cell) then (n,NameKind.cell) else (n,k)).lookup x=some .cell
 | [],_,h,_=>by simp at h
 | (n,k0)::r,x,h,hx=>by
  show List.lookup x ((if (k0==NameKind.free&&env.scope.kind==.function&&env.kindOf n==some .cell)=true then (n,NameKind.cell) else (n,k0)) ::
   (r.map fun (n,k)=>if (k==NameKind.free&&env.scope.kind==.function&&env.kindOf n==some .cell) then (n,NameKind.cell) else (n,k)))=some .cell
  rw[lookup_cons] at h;cases e:x==n with
  | true=>
   rw[e] at h;have e':x=n:=by simpa using e
   subst e';have h0:k0=.free:=Option.some.inj h;subst h0;rw[if_pos (by rw[hk,hx];decide),lookup_cons]
   simp
  | false=>
   rw[e] at h;have ih:=wY hk h hx;split
   ·rw[lookup_cons,e];exact ih
   ·rw[lookup_cons,e];exact ih
abbrev zZ(X:Cx)(pins:PnL)(sc:Scope)(fr Nc:List Str)(fp:List Addr)(s:Shared)(H:Hp)(C:Addr):Cx:=
 { prog:=X.prog,w:=X.w,K:=X.K,mg:=X.mg,base:=X.base,A:=X.A,N:=Nc,s₀:=s,H₀:=H,env:=compEnvC sc (clB X.env fr) C X.env,outer:=X.stack,stack:=X.stack,ex:=fp,fn:=fun _=>false,calm:=X.calm,pn:=X.pn++pins,xe:=fun _ _=>False }
structure yU(env:Env)(sc:Scope)(fr:List Str):Prop where
 kind:sc.kind=.function
 clos:closureFor sc env=pure (clB env fr)
 cells:(fr.all fun n=>(env.cells.lookup n).isSome)=true
 names:(sc.names.all fun y=>(y.2 != .cell)&&(y.2 != .free||fr.contains y.1)&&(y.2 != .local||sc.names.lookup y.1==some .local))=true
def vC(N Nc:List Str)(caps:List (Option Nat))(env:Env)(sc:Scope)(fr:List Str):Bool:=
 (Nc.zip caps).all fun p=>match p.2 with
  | none=>true
  | some j=>(N[j]?==some p.1)&&(env.kindOf p.1==some .cell)&&(sc.names.lookup p.1==some .free)&&fr.contains p.1
def yY(caps:List (Option Nat))(σ : St):St:=caps.map fun o=>match o with
 | none=>none
 | some j=>(σ[j]?).join
section
variable {X:Cx}{pins:PnL}{σ:St}{H:Hp}{s:Shared}{sc:Scope}{fr Nc:List Str}{fp:List Addr}{C:Addr}
theorem yU.sub{env:Env}(B:yU env sc fr){x:Str}{c:Addr}(h:(clB env fr).lookup x=some c):env.cells.lookup x=some c:=by
 obtain⟨h1,h2⟩:=zbK h;have h3:=List.all_eq_true.mp B.cells x h1;obtain⟨d,hd⟩:=Option.isSome_iff_exists.mp h3;rw[hd] at h2 |-;rw[h2];rfl
theorem yU.free{env:Env}(B:yU env sc fr){x:Str}{k:NameKind}(h:(relabel sc env).names.lookup x=some k)(hk:k=.cell\/k=.free):x∈fr:=by
 obtain⟨k0,h1,h2⟩:=vw h;have h3:=List.all_eq_true.mp B.names _ h1;simp only[Bool.and_eq_true,Bool.or_eq_true,bne_iff_ne,ne_eq,List.contains_iff_mem] at h3;have h4:k0=.free:=by
  rcases h2 with h2|⟨h2,_⟩
  ·subst h2
   rcases hk with z|z
   ·exact absurd z h3.1.1
   ·exact z
  ·exact h2
 rcases h3.1.2 with z|z
 ·exact absurd h4 z
 ·exact z
theorem zdx(I:Inv X pins σ H s)(B:yU X.env sc fr)(hf:∀b∈fp,vf X pins H b)(ho:∀b∈fp,∃o,s.heap.get? b=some o)(hC:s.heap.objs.size<=C):(zZ X pins sc fr Nc fp s H C).Ok where
 mod:=I.ok.mod
 kind:=B.kind
 glob:=I.ok.glob
 blt:=I.ok.blt
 above:=hC
 inj:=fun x y c h1 h2=>I.ok.inj x y c (B.sub h1) (B.sub h2)
 has:=fun x h=>by
  have hx:x∈fr:=by
   rcases h with h|h
   ·exact B.free h (.inl rfl)
   ·exact B.free h (.inr rfl)
  exact⟨_,za0 hx⟩
 cab:=fun x c h=>absurd h (by simp)
 hd:=I.ok.hd
 frames:=I.ok.frames
 stk:=.inl rfl
 exf:=fun b hb=>by
  obtain⟨o,e⟩:=ho b hb;exists fun z=>?_,fun x c h=>(hf b hb).2.2.2.2.1 x c (B.sub h);have z':b=C:=z
  have:=Heap.lt_size e
  rw[z'] at this;exact absurd (lt_of_lt_of_le this hC) (lt_irrefl _)
 bs:=I.bs
 bsz:=le_trans I.ok.bsz I.sz
 noex:=fun b o e hb=>by
  rcases (hf b hb).2.2.2.1 with z|z
  ·exact I.ok.noex b o e z
  ·exact absurd (lt_of_lt_of_le (Heap.lt_size (I.ok.bs b o e).1) z) (lt_irrefl _)
 exfs:=fun b hb h=>by
  rcases List.mem_cons.mp (I.stkSub b h) with z|z
  ·exact(hf b hb).2.1 z
  ·exact(hf b hb).2.2.1 z
 funs:=I.stack
 frf:=I.stkFree
theorem Inv.pin_lt(I:Inv X pins σ H s){p:Addr×Obj}(hp:p∈X.pn++pins):p.1<s.heap.objs.size:=Heap.lt_size (I.pin p hp).1
theorem zcJ{caps:List (Option Nat)}{h':Heap}{D:Addr}{m:Str->Option Value}{t' n0:Nat}(I:Inv X pins σ H s)(B:yU X.env sc fr)(hf:∀b∈fp,vf X pins H b)(ho:∀b∈fp,∃o,s.heap.get? b=some o)
  (hC:s.heap.objs.size<=C) (hD:s.heap.objs.size<=D) (hDC:D≠C) (keep:∀b o,s.heap.get? b=some o->h'.get? b=some o) (hl:h'.get? D=some { cls:=.type "list",data:=.seq ([]:List Value).toArray n0 }) (hn:h'.Ns C m)
  (hcap:vC X.N Nc caps X.env sc fr=true) (hlen:caps.length=Nc.length) :
  Inv (zZ X pins sc fr Nc fp s H C) [] (yY caps σ) (upd H D (.lst [])) { s with heap:=h',toks:=t' }:=by
 have hk:X.env.scope.kind=.function:=I.ok.kind;have fresh:∀a,s.heap.objs.size<=a->H a=none:=fun a ha=>I.hok.fresh ha;exists zdx I B hf ho hC,rfl,I.bare,Un.laid keep hD (fresh D hD),⟨m,hn,fun i x v e1 e2 e3=>?_⟩,fun x c h=>?_,?_,fun x c h=>?_,fun p hp=>?_,?_,?_
 ·
  have e2':(caps[i]?).map (fun o=>match o with|none=>none|some j=>(σ[j]?).join)=some (some v):=by
   have:(yY caps σ)[i]?=some (some v):=e2
   unfold yY at this;rw[getElem?_map] at this;exact this
  cases hc:caps[i]? with
  | none=>rw[hc] at e2';cases e2'
  | some o=>
   rw[hc] at e2';cases o with
   | none=>simp at e2'
   | some j=>
    have e4:(σ[j]?).join=some v:=by simpa using e2'
    have e5 : σ[j]?=some (some v):=by
     cases q : σ[j]? with
     | none=>rw[q] at e4;cases e4
     | some w'=>rw[q] at e4;simp at e4;rw[e4]
    have e6:(Nc.zip caps)[i]?=some (x,some j):=by
     rw[List.getElem?_zip_eq_some];exact⟨e1,hc⟩
    have e7:=List.all_eq_true.mp hcap _ (mem_of_getElem? e6);simp only[Bool.and_eq_true,beq_iff_eq,List.contains_iff_mem] at e7;obtain⟨⟨⟨a1,a2⟩,a3⟩,a4⟩:=e7;obtain⟨m0,hn0,hl0⟩:=I.loc;obtain⟨u,r,l⟩:=hl0 j x v a1 e5 (.inr (.inl a2));exists u,r,.inr ⟨.inl (wY hk a3 a2),_,za0 a4,?_⟩;rcases l with ⟨z,_⟩|⟨_,c,ec,hcell⟩
    ·rw[a2] at z;cases z
    ·have:(X.env.cells.lookup x).getD 0=c:=by rw[ec];rfl
     rw[this];exact hcell.keeps keep
 ·obtain⟨v,hv⟩:=I.cell x c (B.sub h)
  exact⟨v,hv.keeps keep⟩
 ·show upd H D (.lst []) C=none
  rw[zf (Ne.symm hDC)];exact fresh C hC
 ·obtain⟨v,hv⟩:=I.cell x c (B.sub h)
  have:c≠D:=fun z=>by have:=hv.lt;rw[z] at this;exact absurd (lt_of_lt_of_le this hD) (lt_irrefl _)
  rw[zf this];exact I.freeC x c (B.sub h)
 ·have hp':p∈X.pn++pins:=by simpa using hp
  obtain⟨e,n,ne,nf,d⟩:=I.pin p hp';have hlt:=I.pin_lt hp';exists keep _ _ e,?_,?_,fun z=>?_,d
  ·rw[zf (fun z=>by rw[z] at hlt;exact absurd (lt_of_lt_of_le hlt hD) (lt_irrefl _))];exact n
  ·intro z
   have z':p.1=C:=z;rw[z'] at hlt;exact absurd (lt_of_lt_of_le hlt hC) (lt_irrefl _)
  ·rcases List.mem_cons.mp (I.stkSub p.1 z) with q|q
   ·exact ne q
   ·exact nf q
 ·exact I.hok.laid keep hD ⟨zero_le _,[],n0,.nil,hl⟩
 ·show(yY caps σ).length=Nc.length
  unfold yY;rw[length_map,hlen]
theorem uW{pl:PnL}{σ':St}{H':Hp}{s':Shared}(I:Inv X pins σ H s)(hf:∀b∈fp,vf X pins H b)(J:Inv (zZ X pins sc fr Nc fp s H C) pl σ' H' s'):Inv X pins σ H' s':=
 I.call' J.os J.base J.hok J.bare fun b hb=>⟨(hf b hb).2.2.2.1,(hf b hb).2.1,(hf b hb).2.2.2.2.1,(hf b hb).2.2.2.2.2⟩
theorem zah{pl:PnL}{σ' σ2:St}{H':Hp}{s':Shared}{h2:Heap}{t2:Nat}(I:Inv X pins σ H s)(J:Inv (zZ X pins sc fr Nc fp s H C) pl σ' H' s')(J2:Inv X pins σ2 H' s')(hs:Heap.SameBut C s'.heap h2):Inv X pins σ2 H' { s' with heap:=h2,toks:=t2 }:=by
 have hC:s.heap.objs.size<=C:=J.ok.above;refine J2.turned (it:=C) (fun b o hb e=>(hs.2 b hb).trans e) J.free ?_ (.inr (le_trans I.sz hC)) (fun x c h z=>?_) fun p hp z=>?_
 ·intro z
  have:=I.lt
  rw[<- z] at this;exact absurd (lt_of_lt_of_le this hC) (lt_irrefl _)
 ·obtain⟨v,hv⟩:=I.cell x c h
  have:=hv.lt
  rw[z] at this;exact absurd (lt_of_lt_of_le this hC) (lt_irrefl _)
 ·have:=I.pin_lt hp
  rw[z] at this;exact absurd (lt_of_lt_of_le this hC) (lt_irrefl _)
def zey:TT:=fun _ H Q=>Q true H
structure PIf(X:Cx)(ifs:List Expr)(t:TT):Prop where
 run:∀(pins:PnL) (s:Shared) (σ : St) (H:Hp) (Q:Bool->Hp->Prop),Inv X pins σ H s->t σ H Q->
  wpAny (model X.prog X.w) X.A (forIn ifs true fun c r=>if r=true then do let ok <- isTrue c X.env (eval c X.env);pure (ForInStep.yield ok) else pure (ForInStep.yield r)) (TP X pins σ Q) X.xe s
instance {X:Cx}{ifs:List Expr}{t:TT}:CoeFun (PIf X ifs t) (fun _=>∀(pins:PnL) (s:Shared) (σ : St) (H:Hp) (Q:Bool->Hp->Prop),Inv X pins σ H s->t σ H Q->
  wpAny (model X.prog X.w) X.A (forIn ifs true fun c r=>if r=true then do let ok <- isTrue c X.env (eval c X.env);pure (ForInStep.yield ok) else pure (ForInStep.yield r)) (TP X pins σ Q) X.xe s):=⟨PIf.run⟩
theorem y7{X:Cx}:PIf X [] zey:=⟨fun _ _ _ H _ I h=>wpAny_tests_nil ⟨H,I,h⟩⟩
theorem xM{X:Cx}{c:Expr}{t:TT}(hc:PT X c t):PIf X [c] t:=⟨fun pins s σ H Q I h=>wpAny_tests_one (hc pins s σ H Q I h)⟩
def zbQ(g:TG)(ow:List Nat):Prop:=
 ∀(v:V) (σ : St) (H:Hp) (Q:St->Hp->Prop),g v σ H Q->g v σ H fun σ2 H2=>Q σ2 H2/\σ2.length=σ.length/\∀i,i∉ow->σ2[i]?=σ[i]?
theorem z7(i:Nat):zbQ (zS i) [i]:=fun v σ H Q h=>⟨h,length_set ..,fun j hj=>getElem?_set_ne (fun e=>hj (by simp [e]))⟩
theorem wS{K:Frag}{n:Nat}(i j:Nat):zbQ (zlm K n (zgn (zS i) (zgn (zS j) zln))) [i,j]:=by
 rintro v σ H Q ⟨a,xs,e1,e2,e3,v1,r1,e4,v2,r2,e5,e6,q⟩;exists a,xs,e1,e2,e3,v1,r1,e4,v2,r2,e5,e6,q,by rw[length_set,length_set],fun k hk=>?_
 have h1:i≠k:=fun e=>hk (by simp [e])
 have h2:j≠k:=fun e=>hk (by simp [e])
 rw[getElem?_set_ne h2,getElem?_set_ne h1]
variable {prog:Program}{w:World}{A:Around}{R:Result->Shared->Prop}
theorem qD{elt target iter:Expr}{ifs:List Expr}{scope:Scope}{pos:Pos}{it acc:Value}{env:Env}(Ex:VSP)(hE:∀e s,Ex e s->notedBy (model prog w) A env (fun x s'=>R (.error x) s') e s)(I:Nat->Shared->Prop)
  (turn:∀n s,I n s->wpAny (model prog w) A (pyNext it) (fun r s₁=>match r with
   | none=>R (.ok .next) s₁
   | some v=>wpAny (model prog w) A (letOwnedTupleGo target it v) (fun _ s₀=>wpAny (model prog w) A (assign target env v) (fun _ s₂=>
     wpAny (model prog w) A (forIn ifs true fun c r=>if r=true then do let ok <- isTrue c env (eval c env);pure (ForInStep.yield ok) else pure (ForInStep.yield r)) (fun ok s₃=>
      if ok=true then wpAny (model prog w) A (eval elt env) (fun x s₄=>
       wpAny (model prog w) A (call (.builtin "list.append") [acc,x]) (fun _ s₅=>∃m,m<n/\I m s₅) Ex s₄) Ex s₃
      else ∃m,m<n/\I m s₃) Ex s₂) Ex s₀) Ex s₁) Ex s)
  (n:Nat) (h:I n s) :
  codeAny (model prog w) A (.compLoop (.ListComp elt [⟨target,iter,ifs,0⟩] scope pos) 0 it acc env) R s:=by
 refine codeAny_loop rfl I (fun n s hI=>?_) n h;show wpAny _ A ((compTurn (.ListComp elt [⟨target,iter,ifs,0⟩] scope pos) 0 it acc env).onRaise (fun x=>do noteFrame x env;theTreesLotGoes x)) _ _ s
 refine wpAny_noted ?_;rw[compTurn_list];refine zwb (wpAny_standAt (zwb (wpAny_mono (turn n s hI) (fun r s₁ h₁=>?_) hE)));cases r with
 | none=>exact zwp h₁
 | some v=>
  refine zwb (wpAny_mono h₁ (fun _ s₀ h₀=>?_) hE);refine zwb (wpAny_mono h₀ (fun _ s₂ h₂=>zwb (wpAny_mono h₂ (fun ok s₃ h₃=>?_) hE)) hE);cases ok with
  | false=>exact zwp ⟨rfl,h₃⟩
  | true=>
   exact zwb (zwb (wpAny_mono h₃ (fun x s₄ h₄=>zwb (wpAny_mono h₄ (fun _ s₅ h₅=>zwp (zwp ⟨rfl,h₅⟩)) hE)) hE))
def LCr(J:It)(caps:List (Option Nat))(g:TG)(tt:TT)(te:TE)(σ : St)(H1:Hp)(Q:VK)(D:Addr):Prop:=
 ∃W:Nat->Nat->List V->Hp->Prop,(∃m,W 0 m [] (upd H1 D (.lst [])))/\∀i m ys H,W i m ys H->
  (J.stop i H/\Q (.ref D) H)\/
  (J.go i H/\∀x H',J.yld i H x H'->g x (yY caps σ) H' fun σ2 H2=>tt σ2 H2 fun ok H3=>
   (ok=true->te σ2 H3 fun v H4=>H4 D=some (.lst ys)/\ys.length<sizeLine/\∃m',m'<m/\W (i+1) m' (ys++[v]) (upd H4 D (.lst (ys++[v]))))/\
   (ok=false->∃m',m'<m/\W (i+1) m' ys H3))
def tLC(wi:TI)(caps:List (Option Nat))(g:TG)(tt:TT)(te:TE):TE:=fun σ H Q=>wi σ H fun J H1=>∀D,H1 D=none->LCr J caps g tt te σ H1 Q D
variable {caps:List (Option Nat)}{elt tg iter:Expr}{ifs:List Expr}{g:TG}{tt:TT}{te:TE}{ow:List Nat}{pos pos2:Pos}{E:VSP}
theorem zeg{H2:Hp}{it:Addr}{fp:List Addr}{tn:Nat->Heap->Prop}{J:It}{Q:VK}{RR:Value->Addr->Result->Shared->Prop}
  (hc:X.calm=true) (B:yU X.env sc fr) (go:zbQ g ow) (how:(ow.all fun i=>caps[i]?==some none)=true) (hcap:vC X.N Nc caps X.env sc fr=true) (hlen:caps.length=Nc.length)
  (Ex:Addr->Addr->Value->Shared->Prop) (hb:∀D C,PG ((zZ X pins sc fr Nc fp s H2 C).wish (Ex D C)) tg g/\PIf ((zZ X pins sc fr Nc fp s H2 C).wish (Ex D C)) ifs tt/\PE ((zZ X pins sc fr Nc fp s H2 C).wish (Ex D C)) elt te)
  (I2:Inv X pins σ H2 s) (T:qF X.prog X.w X.K tg J fp it tn) (st2:tn 0 s.heap) (f2:∀b∈fp,vf X pins H2 b) (h:∀D,H2 D=none->LCr J caps g tt te σ H2 Q D)
  (hE:∀D C e s',Ex D C e s'->notedBy (model X.prog X.w) X.A (compEnvC sc (clB X.env fr) C X.env) (fun x s3=>RR (.ref D) C (.error x) s3) e s')
  (fin:∀(D C:Addr) (σ':St) (H':Hp) (s':Shared),Inv (zZ X pins sc fr Nc fp s H2 C) [] σ' H' s'->Q (.ref D) H'->RR (.ref D) C (.ok .next) s') :
  wpAny (model X.prog X.w) X.A (newList []) (fun acc s₃=>wpAny (model X.prog X.w) X.A (newFunctionEnv sc X.env.globals (clB X.env fr) [] X.env.qual none .none (some X.env)) (fun cenv s₄=>
   codeAny (model X.prog X.w) X.A (.compStart (.ListComp elt [⟨tg,iter,ifs,0⟩] sc pos) 0 (.ref it) acc { cenv with scope:=relabel sc X.env }) (RR acc cenv.locals) s₄) E s₃) E s:=by
 have hcell:∀y∈sc.names,y.2≠.cell:=fun y hy=>by
  have h3:=List.all_eq_true.mp B.names _ hy;simp only[Bool.and_eq_true,bne_iff_ne,ne_eq] at h3;exact h3.1.1
 refine wpAny_newObj_type (wpAny_newFunctionEnv hcell (by intro y hy;simp at hy) (fun h₁ hns₁ hsb₁=>?_) B.kind)
 dsimp only at hns₁ hsb₁ |-;generalize hH2:s.heap.push { cls:=.type "list",dict:=none,data:=.seq ([]:List Value).toArray }=H3 at hns₁ hsb₁ |-;have hCs:H3.objs.size=s.heap.objs.size+1:=by rw[<- hH2,Heap.size_push]
 have hDC:s.heap.objs.size≠H3.objs.size:=by rw[hCs];exact ne_of_lt (lt_succ_self _)
 have hC:s.heap.objs.size<=H3.objs.size:=by rw[hCs];exact le_succ _
 have old:∀b o,s.heap.get? b=some o->h₁.get? b=some o:=fun b o e=>
  hsb₁.extBut b o (ne_of_lt (lt_of_lt_of_le (Heap.lt_size e) hC)) (zgp _ (hH2 ▸ zgp _ e))
 have hD:h₁.get? s.heap.objs.size=some { cls:=.type "list",data:=.seq ([]:List Value).toArray }:=hsb₁.extBut _ _ hDC (zgp _ (hH2 ▸ zgs _ rfl));have ho:∀b∈fp,∃o,s.heap.get? b=some o:=fun b hb'=>let ⟨o,e,_⟩:=T.obj 0 _ st2 b hb';⟨o,e⟩
 let CC:Cx:=zZ X pins sc fr Nc fp s H2 H3.objs.size
 let xb:Value->Shared->Prop:=Ex s.heap.objs.size H3.objs.size
 have I4:∀t',Inv (CC.wish xb) [] (yY caps σ) (upd H2 s.heap.objs.size (.lst [])) { s with heap:=h₁,toks:=t' }:=fun t'=>
  (zcJ I2 B f2 ho hC (le_refl _) hDC old hD hns₁ hcap hlen).wish xb
 have ok:=(I4 0).ok;obtain⟨hbg,hbt,hbe⟩:=hb s.heap.objs.size H3.objs.size;obtain⟨W,⟨m0,w0⟩,turn⟩:=h s.heap.objs.size (I2.hok.fresh (le_refl _));have stat:∀{H':Hp},(∀b∈fp,H' b=none)->∀b∈fp,vf (CC.wish xb) [] H' b:=fun hn b hb'=>
  ⟨hn b hb',(ok.exf b hb').1,ok.exfs b hb',.inl hb',(ok.exf b hb').2,fun p hp=>(f2 b hb').2.2.2.2.2 p (by have hp':p∈(X.pn++pins)++[]:=hp;simpa using hp')⟩
 have hfp0:∀b∈fp,upd H2 s.heap.objs.size (.lst []) b=none:=fun b hb'=>by
  obtain⟨o,e⟩:=ho b hb';rw[zf (ne_of_lt (Heap.lt_size e))];exact(f2 b hb').1
 have loop:∀s₃:Shared,s₃={ s with heap:=h₁,toks:=s.toks+([]:List (Str×Value)).length }->
   codeAny (model X.prog X.w) X.A (.compLoop (.ListComp elt [⟨tg,iter,ifs,0⟩] sc pos) 0 (.ref it) (.ref s.heap.objs.size) (compEnvC sc (clB X.env fr) H3.objs.size X.env)) (RR (.ref s.heap.objs.size) H3.objs.size) s₃:=by
  rintro s₃ rfl;refine qD xb (hE _ _) (fun n s'=>∃i σ' H' ys,Inv (CC.wish xb) [] σ' H' s'/\tn i s'.heap/\(∀b∈fp,H' b=none)/\W i n ys H'/\
   (∀(k:Nat) (v:V),(yY caps σ)[k]?=some (some v)->σ'[k]?=some (some v))) ?_ m0
   ⟨0,_,_,[],I4 _,T.keep _ _ _ st2 (fun b _ o e=>old b o e),hfp0,w0,fun _ _ e=>e⟩
  rintro n s3 ⟨i,σ3,H4,ys,I3,st3,fr3,w3,wk3⟩;have I3':Inv (CC.wish xb) [] (yY caps σ) H4 s3:=I3.weak (by rw[I3.len];exact(I4 0).len) wk3
  rcases turn i n ys H4 w3 with ⟨stop,qn⟩|⟨gg,step⟩
  ·refine thn (T.done (CC.wish xb) rfl rfl rfl hc i [] s3 _ H4 xb I3' (stat fr3) st3 stop) fun r s4 ⟨hr,I4'⟩=>?_
   subst hr;exact fin _ _ _ _ _ I4'.unwish qn
  ·refine thn (T.item (CC.wish xb) rfl rfl rfl hc i [] s3 _ H4 xb I3' (stat fr3) st3 gg) fun r s4 ⟨u,hr,h4⟩=>?_
   subst hr;refine thn h4 fun _ s5 ⟨x,H5,I5,r5,y5,st5,fr5⟩=>?_;have I5':=I5.pinned (stat fr5) (T.obj _ _ st5);refine thn (hbg _ s5 _ H5 x u _ I5' r5 (go _ _ _ _ (step x H5 y5))) fun _ s6 ⟨σ6,H6,I6,q6,l6,k6⟩=>?_;have wk6:∀(k:Nat) (v:V),(yY caps σ)[k]?=some (some v)->σ6[k]?=some (some v):=fun k v e=>by
    rw[k6 k fun hk=>?_]
    ·exact e
    ·have h1:=List.all_eq_true.mp how k hk
     have h2:caps[k]?=some none:=by simpa using h1
     unfold yY at e;rw[getElem?_map,h2] at e;cases e
   refine thn (hbt _ s6 σ6 H6 _ I6 q6) fun ok s7 ⟨H7,I7,q7⟩=>?_;have again:∀{H8:Hp}{s8:Shared}{ys':List V},Inv (CC.wish xb) ([]++uL fp s5.heap) σ6 H8 s8->(∃m',m'<n/\W (i+1) m' ys' H8)->
     ∃m,m<n/\∃i σ' H' ys,Inv (CC.wish xb) [] σ' H' s8/\tn i s8.heap/\(∀b∈fp,H' b=none)/\W i m ys H'/\(∀(k:Nat) (v:V),(yY caps σ)[k]?=some (some v)->σ'[k]?=some (some v)):=fun {H8 s8 ys'} I8 ⟨m',hm,w8⟩=>by
    exists m',hm,i+1,σ6,H8,ys',I8.unpinned,T.keep _ _ _ st5 fun b hb' o e=>(I8.pin (b,o) (mem_append_right _ (mem_append_right _ (xK hb' e)))).1,fun b hb'=>?_,w8,wk6;obtain⟨o,e,d⟩:=T.obj _ _ st5 b hb';exact(I8.pin (b,o) (mem_append_right _ (mem_append_right _ (xK hb' e)))).2.1
   cases ok with
   | false=>
    rw[if_neg zft];exact again I7 (q7.2 rfl)
   | true=>
    rw[if_pos rfl];refine thn (hbe _ s7 σ6 H7 _ I7 (q7.1 rfl)) fun uv s8 ⟨v,H8,I8,r8,hD8,hz,q8⟩=>?_;refine thn (zH (X:=CC.wish xb) _ s8 σ6 H8 (.ref s.heap.objs.size) [v] _ [uv] (fun _ H'=>H'=upd H8 s.heap.objs.size (.lst (ys++[v]))) I8 rfl (.cons r8 .nil) ⟨_,ys,v,rfl,rfl,hD8,hz,rfl⟩) fun _ s9 ⟨_,H9,I9,_,e9⟩=>?_;subst e9;exact again I9 q8
 exact codeAny_compStart_list (loop _ rfl) (T.self _ 0 _ _ _ (T.keep _ _ _ st2 (fun b _ o e=>old b o e)) (loop _ rfl))
theorem zbJ{H2:Hp}{it:Addr}{fp:List Addr}{tn:Nat->Heap->Prop}{J:It}{Q:VK}{RR:Value->Addr->Result->Shared->Prop}
  (hc:X.calm=true) (B:yU X.env sc fr) (go:zbQ g ow) (how:(ow.all fun i=>caps[i]?==some none)=true) (hcap:vC X.N Nc caps X.env sc fr=true) (hlen:caps.length=Nc.length)
  (hb:∀(pins:PnL) (fp:List Addr) (s:Shared) (H:Hp) (C:Addr),PG (zZ X pins sc fr Nc fp s H C) tg g/\PIf (zZ X pins sc fr Nc fp s H C) ifs tt/\PE (zZ X pins sc fr Nc fp s H C) elt te)
  (I2:Inv X pins σ H2 s) (T:qF X.prog X.w X.K tg J fp it tn) (st2:tn 0 s.heap) (f2:∀b∈fp,vf X pins H2 b) (h:∀D,H2 D=none->LCr J caps g tt te σ H2 Q D)
  (fin:∀(D C:Addr) (σ':St) (H':Hp) (s':Shared),Inv (zZ X pins sc fr Nc fp s H2 C) [] σ' H' s'->Q (.ref D) H'->RR (.ref D) C (.ok .next) s') :
  wpAny (model X.prog X.w) X.A (newList []) (fun acc s₃=>wpAny (model X.prog X.w) X.A (newFunctionEnv sc X.env.globals (clB X.env fr) [] X.env.qual none .none (some X.env)) (fun cenv s₄=>
   codeAny (model X.prog X.w) X.A (.compStart (.ListComp elt [⟨tg,iter,ifs,0⟩] sc pos) 0 (.ref it) acc { cenv with scope:=relabel sc X.env }) (RR acc cenv.locals) s₄) E s₃) E s:=
 zeg hc B go how hcap hlen (fun _ _ _ _=>False) (fun _ C=>hb pins fp s H2 C) I2 T st2 f2 h (fun _ _ _ _ z=>z.elim) fin
theorem yU.loc{env:Env}(B:yU env sc fr):∀x∈sc.names,x.2=.local->sc.names.lookup x.1=some .local:=fun y hy e=>by
 have h3:=List.all_eq_true.mp B.names _ hy;simp only[Bool.and_eq_true,Bool.or_eq_true,bne_iff_ne,ne_eq,beq_iff_eq] at h3;rcases h3.2 with z|z
 ·exact absurd e z
 ·exact z
theorem xO{wi:TI}(fr Nc:List Str)(caps:List (Option Nat))(hc:X.calm=true)(B:yU X.env sc fr)(hi:PI X tg iter wi)(go:zbQ g ow)(how:(ow.all fun i=>caps[i]?==some none)=true)
  (hcap:vC X.N Nc caps X.env sc fr=true) (hlen:caps.length=Nc.length)
  (hb:∀(pins:PnL) (fp:List Addr) (s:Shared) (H:Hp) (C:Addr),PG (zZ X pins sc fr Nc fp s H C) tg g/\PIf (zZ X pins sc fr Nc fp s H C) ifs tt/\PE (zZ X pins sc fr Nc fp s H C) elt te)
  (hs:∀x,foldedSetIterable iter X.env x=pure x:=by intro _;rfl):PE X (.ListComp elt [⟨tg,iter,ifs,0⟩] sc pos) (tLC wi caps g tt te):=by
 exists ?_;intro pins s σ H Q I h;rw[eval_ListComp];refine wpAny_comprehension_free (use:=none) rfl hs B.clos B.kind B.loc (thn (hi pins s σ H _ I h) fun v s1 h1=>thn h1 fun itv s2 h2=>?_);obtain⟨it,fp,tn,J,H2,e,I2,T,st2,f2,q⟩:=h2;subst e;refine zbJ (RR:=fun acc C=>compPost (model X.prog X.w) X.A X.xe none (EP X pins σ Q) acc C) hc B go how hcap hlen hb I2 T st2 f2 q ?_;intro D C σ' H' s' J' qq;obtain⟨m,hn,_⟩:=J'.loc;exact⟨m,hn,fun h' hs'=>⟨.ref D,H',zah I2 J' (uW I2 f2 J') hs',rfl,qq⟩⟩
theorem qO{wi:TI}{i:Nat}{x:Str}{pos':Pos}(fr Nc:List Str)(caps:List (Option Nat))(hN:X.N.Nodup)(hix:X.N[i]?=some x)(hx:Loc X.env.scope x)(hc:X.calm=true)(B:yU X.env sc fr)(hi:PI X tg iter wi)(go:zbQ g ow)(how:(ow.all fun i=>caps[i]?==some none)=true)
  (hcap:vC X.N Nc caps X.env sc fr=true) (hlen:caps.length=Nc.length)
  (hb:∀(pins:PnL) (fp:List Addr) (s:Shared) (H:Hp) (C:Addr),PG (zZ X pins sc fr Nc fp s H C) tg g/\PIf (zZ X pins sc fr Nc fp s H C) ifs tt/\PE (zZ X pins sc fr Nc fp s H C) elt te)
  (hsw:swapsWith (.ListComp elt [⟨tg,iter,ifs,0⟩] sc pos) (some (.Name x pos')) pos2.line X.env=pure true:=by rfl)
  (hs:∀x,foldedSetIterable iter X.env x=pure x:=by intro _;rfl) (hf:X.fn x=true\/X.env.scope.names.lookup x=some .local:=by first|exact .inl rfl|exact .inr rfl|assumption) :
  PS X (.Assign [.Name x pos'] (.ListComp elt [⟨tg,iter,ifs,0⟩] sc pos) pos2) (zgN (tLC wi caps g tt te) (zS i)):=by
 exists ?_;intro pins s σ H D0 I h;rw[exec_Assign_Name_used _ _ _ _ hsw];refine zwb (wpAny_standAt (zwb ?_));show wpAny _ X.A (do let _ <- comprehension (.ListComp elt [⟨tg,iter,ifs,0⟩] sc pos) sc X.env _ (newList []) false (eval iter X.env) (some (assign (.Name x pos') X.env))) _ _ s
 refine zwb (wpAny_mono (wpAny_comprehension_free (use:=some (assign (.Name x pos') X.env)) (Q:=fun _ s'=>SP X pins D0 .next s') rfl hs B.clos B.kind B.loc
  (thn (hi pins s σ H _ I h) fun v s1 h1=>thn h1 fun itv s2 h2=>?_)) (fun _ s' hq=>zwp (zwp hq)) fun _ _ e=>e)
 obtain⟨it,fp,tn,J,H2,e,I2,T,st2,f2,q⟩:=h2;subst e;refine zbJ (Q:=fun v H1=>zS i v σ H1 D0.nx) (RR:=fun acc C=>compPost (model X.prog X.w) X.A X.xe (some (assign (.Name x pos') X.env)) (fun _ s'=>SP X pins D0 .next s') acc C) hc B go how hcap hlen hb I2 T st2 f2 q ?_;intro D C σ' H' s' J' qq;have I':=uW I2 f2 J';obtain⟨m,hn,_⟩:=J'.loc;have hC:s2.heap.objs.size<=C:=J'.ok.above;show wpAny _ X.A (assign (.Name x pos') X.env (.ref D)) _ _ s';refine wpAny_assign_Name (qL (v:=.ref D) I' hN hix hx rfl (fun s'' I'' ⟨a,sb,ha⟩=>?_) hf);have haC:C≠a:=by
  rintro rfl;rcases ha with z|z
  ·have:=I2.lt
   rw[<- z] at this;exact absurd (lt_of_lt_of_le this hC) (lt_irrefl _)
  ·obtain⟨v,hv⟩:=I2.cell x C z
   exact absurd (lt_of_lt_of_le hv.lt hC) (lt_irrefl _)
 have hCH:H' C=none:=J'.free;exists m,hn.sameBut sb haC,fun h' hs'=>⟨_,H',?_,qq⟩;refine I''.turned (it:=C) (t':=s''.toks) (fun b o hb e=>(hs'.2 b hb).trans e) hCH ?_ (.inr (le_trans I2.sz hC)) (fun x c h z=>?_) fun p hp z=>?_
 ·intro z
  have:=I2.lt
  rw[<- z] at this;exact absurd (lt_of_lt_of_le this hC) (lt_irrefl _)
 ·obtain⟨v,hv⟩:=I2.cell x c h
  have:=hv.lt
  rw[z] at this;exact absurd (lt_of_lt_of_le this hC) (lt_irrefl _)
 ·have:=I2.pin_lt hp
  rw[z] at this;exact absurd (lt_of_lt_of_le this hC) (lt_irrefl _)
def Its(z:Str):It:=⟨fun i _=>i<z.cps.size,fun i H x H'=>H'=H/\∃c,z.cps[i]?=some c/\x=.str ⟨#[c]⟩,fun i _=>z.cps.size<=i⟩
theorem zex{P:Program}{w:World}{K:Frag}{tg:Expr}(it:Addr)(z:Str)(t:Tok):qF P w K tg (Its z) [it] it (fun i h=>h.IsStrIter it (strIterType z) z t i) where
 mem:=by simp
 obj:=fun i h st b hb=>by
  have e:b=it:=by simpa using hb
  subst e;obtain⟨o,e,_,d⟩:=st;exact⟨o,e,fun v q=>by rw[d] at q;cases q⟩
 keep:=fun i h h' st k=>by
  obtain⟨o,e,r⟩:=st;exact⟨o,k it (by simp) o e,r⟩
 item:=by
  intro X hP hw hK hc i pins s σ H E I hf st hg;subst hP hw hK;obtain⟨f0,f1,f2,f3,f4,f5⟩:=hf it (by simp)
  have hi:i<z.cps.size:=hg;have hx:z.cps[i]?=some z.cps[i]:=by simp [hi]
  have fin:∀h',h'.IsStrIter it (strIterType z) z t (i+1)->Heap.SameBut it s.heap h'->
    ∃u,some (Value.str ⟨#[z.cps[i]]⟩ s.toks)=some u/\wpAny (model X.prog X.w) X.A (letOwnedTupleGo tg (.ref it) u) (fun _ s2=>∃x H',Inv X pins σ H' s2/\zT x u/\(Its z).yld i H x H'/\s2.heap.IsStrIter it (strIterType z) z t (i+1)/\∀b∈[it],H' b=none) E { s with heap:=h',toks:=s.toks+1 }:=fun h' hit hs=>by
   have I1:Inv X pins σ H { s with heap:=h',toks:=s.toks+1 }:=I.turned (fun b o hb e=>(hs.2 b hb).trans e) f0 f1 f3 f4 f5
   obtain⟨o,e1,e2,e3⟩:=id hit;exists _,rfl,zgl (s:={ s with heap:=h',toks:=s.toks+1 }) e1 e2 e3 ?_ ⟨.str ⟨#[z.cps[i]]⟩,H,I1,⟨_,rfl⟩,⟨rfl,_,hx,rfl⟩,hit,fun b hb=>(hf b hb).1⟩
   unfold strIterType;split <;> decide
  cases ha:z.cps.all (·<128)
  ·have e:strIterType z="str_iterator":=by simp [strIterType,ha]
   rw[e] at st;exact wpAny_pyNext_wide_item st hx fun h' a b=>fin h' (e.symm ▸ a) b
  ·have e:strIterType z="str_ascii_iterator":=by simp [strIterType,ha]
   rw[e] at st;exact wpAny_pyNext_ascii_item st hx fun h' a b=>fin h' (e.symm ▸ a) b
 done:=by
  intro X hP hw hK hc i pins s σ H E I hf st hg;subst hP hw hK;obtain⟨f0,f1,f2,f3,f4,f5⟩:=hf it (by simp)
  have hi:z.cps.size<=i:=hg;have hx:z.cps[i]?=none:=by simp [hi]
  have fin:∀h',Heap.ExtBut it s.heap h'->(none:Option Value)=none/\Inv X pins σ H { s with heap:=h' }:=fun h' eb=>⟨rfl,I.turned (t':=s.toks) (fun b o hb e=>eb b o hb e) f0 f1 f3 f4 f5⟩
  cases ha:z.cps.all (·<128)
  ·have e:strIterType z="str_iterator":=by simp [strIterType,ha]
   rw[e] at st;exact wpAny_pyNext_wide_end (I.ok.hd hc) st hx fin
  ·have e:strIterType z="str_ascii_iterator":=by simp [strIterType,ha]
   rw[e] at st;exact wpAny_pyNext_ascii_end (I.ok.hd hc) st hx fin
 self:=fun A i s Q E st h=>by
  cases ha:z.cps.all (·<128)
  ·have e:strIterType z="str_iterator":=by simp [strIterType,ha]
   rw[e] at st;exact wpAny_pyIter_striter_wide st h
  ·have e:strIterType z="str_ascii_iterator":=by simp [strIterType,ha]
   rw[e] at st;exact wpAny_pyIter_striter_ascii st h
def zmh(tl:TE):TI:=fun σ H R=>tl σ H fun x H1=>∃z,x=.str z/\R (Its z) H1
theorem zjm{l:Expr}{tl:TE}(hl:PE X l tl):PI X tg l (zmh tl):=by
 exists ?_;intro pins s σ H R I h;refine thn (hl pins s σ H _ I h) fun v s1 ⟨x,H1,I1,r1,q1⟩=>?_;obtain⟨z,e,q⟩:=q1;subst e;obtain⟨t,rfl⟩:=r1;refine wpAny_pyIter_strU ?_;exists s1.heap.objs.size,[s1.heap.objs.size],_,_,H1,rfl,I1.kept (t':=s1.toks) fun b o e=>zgp _ e,zex _ z t,⟨_,zgs _ rfl,rfl,rfl⟩,fun b hb=>?_,q;have e:b=s1.heap.objs.size:=by simpa using hb
 subst e;exact I1.fpOk (le_refl _) (I1.hok.fresh (le_refl _))
theorem zen(hc:X.calm=true):xF X (.builtin "all") (fun xs H Q=>∃(p:Addr) (bs:List Bool),xs=[.ref p]/\SqL X.K H p (bs.map V.bl)/\Q (.bl (bs.all id)) H):=by
 intro pins s σ H xs us Q I r h;obtain⟨p,bs,rfl,hS,q⟩:=h;obtain⟨u,rfl,ru⟩:=ub r;cases ru;obtain⟨its,rv,hp,hz⟩:=I.list hS;have hlen:its.length=bs.length:=by rw[<- rv.length,length_map]
 have hne:p≠s.heap.objs.size:=ne_of_lt (by obtain⟨_,e,_⟩:=hp.isList;exact Heap.lt_size e)
 refine call_all_walk (wpAny_pyIter_list hp.isList ?_);exists s.heap.objs.size,_,_,_,_,_,fun i=>bs.getD i false,rfl,Walks.list (A:=X.A.in1) (I.ok.hd hc) s.heap.objs.size p hne its.toArray,⟨⟨_,zgs _ rfl,rfl,rfl⟩,hp.isList.push _⟩,?_,fun h' tk k=>?_
 ·intro i v s' Q' E' hP hQ
  have hv:its[i]?=some v:=by simpa using hP
  have hi:i<bs.length:=by rw[<- hlen];exact(List.getElem?_eq_some_iff.mp hv).1
  obtain⟨u',e1,e2⟩:=rv.get (i:=i) (x:=V.bl bs[i]) (by rw[getElem?_map,getElem?_eq_getElem hi];rfl)
  rw[hv] at e1;cases e1;cases e2;refine wpAny_truthy_bool ?_
  have:bs.getD i false=bs[i]:=by rw[getD_eq_getElem?_getD,getElem?_eq_getElem hi];rfl
  rw[<- this];exact hQ
 ·have e:((List.range its.toArray.size).all fun i=>bs.getD i false)=bs.all id:=by
   rw[size_toArray,hlen,Bool.eq_iff_iff,all_eq_true,all_eq_true];constructor
   ·intro hh b hb
    obtain⟨i,hi,rfl⟩:=List.getElem_of_mem hb
    have:=hh i (List.mem_range.mpr hi)
    rw[getD_eq_getElem?_getD,getElem?_eq_getElem hi] at this;exact this
   ·intro hh i hi
    have hi':=List.mem_range.mp hi;rw[getD_eq_getElem?_getD,getElem?_eq_getElem hi'];exact hh _ (getElem_mem hi')
  rw[e];exact⟨.bl (bs.all id),H,I.kept (h':=h') (t':=tk) (fun b o q=>k b o (fun hm=>by
   have e:b=s.heap.objs.size:=by simpa using hm
   exact absurd (Heap.lt_size q) (by rw[e];exact lt_irrefl _)) (zgp _ q)),rfl,q⟩
theorem je:xF X (.builtin "isinstance") (fun xs H Q=>∃x T t b,xs=[x,.ty T]/\wp X.K H x t/\kitOne X.K t (.type T)=some b/\Q (.bl b) H):=by
 intro pins s σ H xs us Q I r h;obtain⟨x,T,t,b,rfl,ty,e,q⟩:=h;obtain⟨u,w',rfl,ru,rw'⟩:=qI r;cases rw';exact qY I ru ty e fun tk=>⟨.bl b,H,I.tok tk,rfl,q⟩
theorem xZ:xF X (.builtin "isinstance") (fun xs H Q=>∃x C t b,xs=[x,.ref C]/\wp X.K H x t/\kitOne X.K t (.ref C)=some b/\Q (.bl b) H):=by
 intro pins s σ H xs us Q I r h;obtain⟨x,T,t,b,rfl,ty,e,q⟩:=h;obtain⟨u,w',rfl,ru,rw'⟩:=qI r;cases rw';exact qY I ru ty e fun tk=>⟨.bl b,H,I.tok tk,rfl,q⟩
def wD:Expr->Bool
 | .Starred ..=>true
 | _=>false
theorem yx{e:Expr}{es:List Expr}{env:Env}(h:wD e=false):starEach (e::es) env=(false,eval e env)::starEach es env:=by
 cases e <;> first|rfl|cases h
theorem xN{env:Env}{pos:Pos}:∀{es:List Expr},es.any wD=false->(backTo pos (starEach es env)).any (·.1)=false
 | [],_=>rfl
 | e::es,h=>by
  rw[any_cons,Bool.or_eq_false_iff] at h;rw[yx h.1];show(false||(backTo pos (starEach es env)).any (·.1))=false
  rw[xN h.2];rfl
end
section
variable {X:Cx}{CX:CXT}{k:Nat}{f C:Addr}{fd:FuncData}{ps:List Str}{sp:Sp}{dvs:List V}{ds:List Value}{E:XK}{x m:Str}{p pos apos:Pos}{e o:Expr}{es:List Expr}{te ta:TE}{t:TA}{id T:String}{r:List V->Hp->VK->Prop}
theorem ac(ha:PE X e te)(hr:PA X es t)(h:wD e=false:=by rfl):PA X (e::es) (zcQ te t):=zhm ha hr (yx h)
theorem cB(hc:xF X (.builtin id) r)(hm:X.mg x=none)(hv:bootBuiltins x=some (.builtin id))(ha:PA X (e::es) t)(hg:Gl X x:=by rfl)(hn:x≠"__name__":=by decide)(hdb:(x==("__debug__" : Str))=false:=by decide)
  (h1:wD e=false:=by rfl) (h2:es.any wD=false:=by rfl):PE X (.Call (.Name x p) (e::es) [] pos) (tCB r t):=zfm hc hg hm hv ha hn hdb (yx h1) (xN h2)
theorem cTy(hc:xF X (.type T) r)(hm:X.mg x=none)(hv:bootBuiltins x=some (.type T))(ha:PA X (e::es) t)(hg:Gl X x:=by rfl)(hn:x≠"__name__":=by decide)(hdb:(x==("__debug__" : Str))=false:=by decide)
  (h1:wD e=false:=by rfl) (h2:es.any wD=false:=by rfl):PE X (.Call (.Name x p) (e::es) [] pos) (tCB r t):=zdT hc hg hm hv ha hn hdb (yx h1) (xN h2)
structure zI(P:Program)(w:World)(K:Frag)(mg:Str->Option Value)(base:Heap)(k:Nat)(x:Str)(f:Addr)(fd:FuncData)(ps:List Str)(sp:Sp):Prop where
 ok:zx P w K mg base CX0 k f fd ps sp
 mg:mg x=some (.ref f)
 kp:keepIn K (.ref f)=true
 bd:zN K fd ps []
theorem cF(c:zI X.prog X.w X.K X.mg X.base k x f fd ps sp)(hr:yf k X.A)(ha:PA X (e::es) t)(hg:Gl X x:=by rfl)(hdb:(x==("__debug__" : Str))=false:=by decide)
  (h1:wD e=false:=by rfl) (h2:es.any wD=false:=by rfl):PE X (.Call (.Name x p) (e::es) [] pos) (za6 sp [] E0 t):=
 zdd c.ok hr hg c.mg c.kp c.bd .nil zW ha hdb (yx h1) (xN h2)
end
end L2
namespace L2
open PySem PyProof.Rows
theorem ji(K:Frag):kitOne K (.type "NoneType") (.type "str")=some false:=by kernel_rfl
theorem zcB(K:Frag):kitOne K (.type "int") (.type "str")=some false:=by kernel_rfl
theorem zbz(K:Frag):kitOne K (.type "bool") (.type "str")=some false:=by kernel_rfl
theorem zaU(K:Frag):kitOne K (.type "bool") (.type "bool")=some true:=by kernel_rfl
theorem zcA(K:Frag):kitOne K (.type "str") (.type "str")=some true:=by kernel_rfl
theorem zbx(K:Frag):kitOne K (.type "list") (.type "str")=some false:=by kernel_rfl
theorem zaT(K:Frag):kitOne K (.type "list") (.type "list")=some true:=by kernel_rfl
theorem zaS(K:Frag):kitOne K (.type "tuple") (.type "str")=some false:=by kernel_rfl
theorem zby(K:Frag):kitOne K (.type "dict") (.type "str")=some false:=by kernel_rfl
end L2
namespace L2
open PySem PySem.Spec PyProof.Rows
inductive Dt where
 | non|bl (b:Bool)|int (i:Int)|str (z:Str)|tup (ds:List Dt)|lst (ds:List Dt)
def jg:V->Dt->Prop
 | .non,.non=>True
 | .bl a,.bl b=>a=b
 | .int a,.int b=>a=b
 | .str a,.str b=>a=b
 | _,_=>False
def zD(K:Frag)(ok:Addr->Prop)(H:Hp):Nat->V->Dt->Prop
 | 0,x,d=>jg x d
 | n+1,x,d=>jg x d\/(∃a xs ds,x=.ref a/\d=.tup ds/\SqT K H a xs/\Paired (zD K ok H n) xs ds)\/(∃a xs ds,x=.ref a/\d=.lst ds/\ok a/\H a=some (.lst xs)/\Paired (zD K ok H n) xs ds)
section
variable {K:Frag}{ok ok':Addr->Prop}{H H':Hp}
theorem zD.flat{n:Nat}{x:V}{d:Dt}(h:jg x d):zD K ok H n x d:=by
 cases n with
 | zero=>exact h
 | succ n=>exact .inl h
theorem zD.int{n:Nat}{i:Int}:zD K ok H n (.int i) (.int i):=.flat rfl
theorem zD.str{n:Nat}{z:Str}:zD K ok H n (.str z) (.str z):=.flat rfl
theorem zD.tup{n:Nat}{a:Addr}{xs:List V}{ds:List Dt}(h:SqT K H a xs)(r:Paired (zD K ok H n) xs ds):zD K ok H (n+1) (.ref a) (.tup ds):=.inr (.inl ⟨a,xs,ds,rfl,rfl,h,r⟩)
theorem zD.lst{n:Nat}{a:Addr}{xs:List V}{ds:List Dt}(o:ok a)(h:H a=some (.lst xs))(r:Paired (zD K ok H n) xs ds):zD K ok H (n+1) (.ref a) (.lst ds):=.inr (.inr ⟨a,xs,ds,rfl,rfl,o,h,r⟩)
theorem zD.frame(hT:∀a xs,SqT K H a xs->SqT K H' a xs)(hL:∀a xs,ok a->H a=some (.lst xs)->ok' a/\H' a=some (.lst xs)):∀{n:Nat}{x:V}{d:Dt},zD K ok H n x d->zD K ok' H' n x d
 | 0,_,_,h=>h
 | n+1,x,d,h=>by
  rcases h with h|⟨a,xs,ds,e1,e2,h,r⟩|⟨a,xs,ds,e1,e2,o,h,r⟩
  ·exact .inl h
  ·exact .inr (.inl ⟨a,xs,ds,e1,e2,hT a xs h,zm (fun _ _ z=>zD.frame hT hL z) r⟩)
  ·exact .inr (.inr ⟨a,xs,ds,e1,e2,(hL a xs o h).1,(hL a xs o h).2,zm (fun _ _ z=>zD.frame hT hL z) r⟩)
theorem zo.sqT{a:Addr}{xs:List V}(e:zo H H')(h:SqT K H a xs):SqT K H' a xs:=by
 rcases h with (h|⟨o,h⟩)|h
 ·exact .inl (.inl (e _ _ h))
 ·exact .inl (.inr ⟨o,e _ _ h⟩)
 ·exact .inr h
theorem zD.same{n:Nat}{x:V}{d:Dt}(e:zo H H')(h:zD K ok H n x d):zD K ok H' n x d:=h.frame (fun _ _ z=>e.sqT z) fun _ _ o z=>⟨o,e _ _ z⟩
theorem Paired.get{α β : Type}{F : α->β->Prop}:∀{l₁:List α}{l₂:List β}{i:Nat}{a : α},Paired F l₁ l₂->l₁[i]?=some a->∃b,l₂[i]?=some b/\F a b
 | _,_,_,_,.nil,e=>by simp at e
 | _,_,0,_,.cons r _,e=>by simp at e;subst e;exact⟨_,rfl,r⟩
 | _,_,i+1,a,.cons _ t,e=>by
  obtain⟨b,h1,h2⟩:=Paired.get (i:=i) (a:=a) t (by simpa using e)
  exact⟨b,by simpa using h1,h2⟩
variable {X:Cx}{pins:PnL}{σ:St}{s:Shared}
theorem zac{A:Around}{x y:V}{d:Dt}{u v:Value}(hx:jg x d)(hy:jg y d)(ru:zT x u)(rv:zT y v):SeqAt.EqAt A s u v true:=by
 cases d with
 | non=>
  cases x <;> try exact hx.elim
  cases y <;> try exact hy.elim
  cases ru;cases rv;exact SeqAt.EqAt.same _
 | bl b=>
  cases x <;> try exact hx.elim
  cases y <;> try exact hy.elim
  rename_i a c;obtain rfl:a=b:=hx;obtain rfl:c=a:=hy;cases ru;cases rv;exact SeqAt.EqAt.same _
 | int b=>
  cases x <;> try exact hx.elim
  cases y <;> try exact hy.elim
  rename_i a c;obtain rfl:a=b:=hx;obtain rfl:c=a:=hy;obtain⟨t,rfl⟩:=ru;obtain⟨t',rfl⟩:=rv
  have:=SeqAt.EqAt.int_int (A:=A) (s:=s) c t c t'
  simpa using this
 | str b=>
  cases x <;> try exact hx.elim
  cases y <;> try exact hy.elim
  rename_i a c;obtain rfl:a=b:=hx;obtain rfl:c=a:=hy;obtain⟨t,rfl⟩:=ru;obtain⟨t',rfl⟩:=rv
  have:=SeqAt.EqAt.str_str (A:=A) (s:=s) c t c t'
  simpa using this
 | tup ds=>cases x <;> exact hx.elim
 | lst ds=>cases x <;> exact hx.elim
theorem qi{a:Addr}{d:Dt}(h:jg (.ref a) d):False:=by cases d <;> exact h
theorem vE(n:Nat):((List.range n).all fun _=>true)=true:=by rw[all_eq_true];intro _ _;rfl
theorem vS(I:Inv X pins σ H s):∀(n:Nat) {A:Around}{x y:V}{d:Dt}{u v:Value},zD X.K ok H n x d->zD X.K ok' H n y d->zT x u->zT y v->A.units+n<cLine->SeqAt.EqAt A s u v true
 | 0,A,x,y,d,u,v,hx,hy,ru,rv,_=>zac hx hy ru rv
 | n+1,A,x,y,d,u,v,hx,hy,ru,rv,hu=>by
  have hin:A.in1.units+n<cLine:=by show A.units+1+n<cLine;omega
  rcases hx with hx|⟨a,xs,ds,rfl,rfl,hx,r⟩|⟨a,xs,ds,rfl,rfl,_,hx,r⟩
  ·rcases hy with hy|⟨b,ys,es,rfl,rfl,hy,q⟩|⟨b,ys,es,rfl,rfl,_,hy,q⟩
   ·exact zac hx hy ru rv
   ·cases x <;> exact hx.elim
   ·cases x <;> exact hx.elim
  ·rcases hy with hy|⟨b,ys,es,rfl,e2,hy,q⟩|⟨b,ys,es,rfl,e2,_,hy,q⟩
   ·cases y <;> exact hy.elim
   ·cases e2
    cases ru;cases rv;by_cases hab:a=b
    ·subst hab;exact SeqAt.EqAt.same _
    ·obtain⟨ia,va,pa,_⟩:=I.tuple hx
     obtain⟨ib,vb,pb,_⟩:=I.tuple hy;have la:ia.length=ds.length:=by rw[<- va.length,r.length]
     have lb:ib.length=ds.length:=by rw[<- vb.length,q.length]
     have:=SeqAt.RcAt.tuples (A:=A) (s:=s) (e:=fun _=>true) (show s.heap.IsTuple a ia.toArray from pa) (show s.heap.IsTuple b ib.toArray from pb) (by omega) (fun j h1 h2=>by
      have j1:j<ia.length:=by simpa using h1
      have j2:j<ib.length:=by simpa using h2
      have hxl:j<xs.length:=by rw[va.length];exact j1
      have hyl:j<ys.length:=by rw[vb.length];exact j2
      obtain⟨u',e1,e2⟩:=va.get (i:=j) (getElem?_eq_getElem hxl);obtain⟨v',e3,e4⟩:=vb.get (i:=j) (getElem?_eq_getElem hyl);obtain⟨d1,f1,f2⟩:=Paired.get r (getElem?_eq_getElem hxl);obtain⟨d2,f3,f4⟩:=Paired.get q (getElem?_eq_getElem hyl);rw[f1] at f3;cases f3;rw[getElem?_eq_getElem j1] at e1;rw[getElem?_eq_getElem j2] at e3;cases e1;cases e3;simpa using vS I n f2 f4 e2 e4 hin)
     rw[vE] at this;have z:(ia.toArray.size==ib.toArray.size)=true:=by simp [la,lb]
     rw[z] at this;exact SeqAt.EqAt.of_refs hab this
   ·cases e2
  ·rcases hy with hy|⟨b,ys,es,rfl,e2,hy,q⟩|⟨b,ys,es,rfl,e2,_,hy,q⟩
   ·cases y <;> exact hy.elim
   ·cases e2
   ·cases e2
    cases ru;cases rv;by_cases hab:a=b
    ·subst hab;exact SeqAt.EqAt.same _
    ·obtain⟨ia,va,pa,_⟩:=I.list (zg hx)
     obtain⟨ib,vb,pb,_⟩:=I.list (zg hy);have la:ia.length=ds.length:=by rw[<- va.length,r.length]
     have lb:ib.length=ds.length:=by rw[<- vb.length,q.length]
     have:=SeqAt.RcAt.lists (A:=A) (s:=s) (e:=fun _=>true) pa.isList pb.isList (by simp [la,lb]) (by omega) (fun j h1 h2=>by
      have j1:j<ia.length:=by simpa using h1
      have j2:j<ib.length:=by simpa using h2
      have hxl:j<xs.length:=by rw[va.length];exact j1
      have hyl:j<ys.length:=by rw[vb.length];exact j2
      obtain⟨u',e1,e2⟩:=va.get (i:=j) (getElem?_eq_getElem hxl);obtain⟨v',e3,e4⟩:=vb.get (i:=j) (getElem?_eq_getElem hyl);obtain⟨d1,f1,f2⟩:=Paired.get r (getElem?_eq_getElem hxl);obtain⟨d2,f3,f4⟩:=Paired.get q (getElem?_eq_getElem hyl);rw[f1] at f3;cases f3;rw[getElem?_eq_getElem j1] at e1;rw[getElem?_eq_getElem j2] at e3;cases e1;cases e3;simpa using vS I n f2 f4 e2 e4 hin)
     rw[vE] at this;exact SeqAt.EqAt.of_refs hab this
theorem zdb(I:Inv X pins σ H s){n:Nat}{A:Around}{a b:Addr}{d:Dt}(hx:zD X.K ok H (n+1) (.ref a) d)(hy:zD X.K ok' H (n+1) (.ref b) d)(hu:A.units+n+1<cLine):
  SeqAt.RcAt A s (.ref a) (.ref b) true/\SeqAt.RcNeAt A s (.ref a) (.ref b) false:=by
 have hin:A.in1.units+n<cLine:=by show A.units+1+n<cLine;omega
 rcases hx with hx|⟨a,xs,ds,e0,rfl,hx,r⟩|⟨a,xs,ds,e0,rfl,_,hx,r⟩
 ·exact(qi hx).elim
 ·cases e0
  rcases hy with hy|⟨b,ys,es,e1,e2,hy,q⟩|⟨b,ys,es,e1,e2,_,hy,q⟩
  ·exact(qi hy).elim
  ·cases e1;cases e2
   obtain⟨ia,va,pa,_⟩:=I.tuple hx;obtain⟨ib,vb,pb,_⟩:=I.tuple hy;have la:ia.length=ds.length:=by rw[<- va.length,r.length]
   have lb:ib.length=ds.length:=by rw[<- vb.length,q.length]
   have el:∀j (h1:j<ia.toArray.size) (h2:j<ib.toArray.size),SeqAt.EqAt A.in1 s ia.toArray[j] ib.toArray[j] true:=fun j h1 h2=>by
    have j1:j<ia.length:=by simpa using h1
    have j2:j<ib.length:=by simpa using h2
    have hxl:j<xs.length:=by rw[va.length];exact j1
    have hyl:j<ys.length:=by rw[vb.length];exact j2
    obtain⟨u',e1,e2⟩:=va.get (i:=j) (getElem?_eq_getElem hxl);obtain⟨v',e3,e4⟩:=vb.get (i:=j) (getElem?_eq_getElem hyl);obtain⟨d1,f1,f2⟩:=Paired.get r (getElem?_eq_getElem hxl);obtain⟨d2,f3,f4⟩:=Paired.get q (getElem?_eq_getElem hyl);rw[f1] at f3;cases f3;rw[getElem?_eq_getElem j1] at e1;rw[getElem?_eq_getElem j2] at e3;cases e1;cases e3;simpa using vS I n f2 f4 e2 e4 hin
   have z:(ia.toArray.size==ib.toArray.size)=true:=by simp [la,lb]
   have t1:=SeqAt.RcAt.tuples (A:=A) (s:=s) (e:=fun _=>true) (show s.heap.IsTuple a ia.toArray from pa) (show s.heap.IsTuple b ib.toArray from pb) (by omega) el
   have t2:=SeqAt.RcNeAt.tuples (A:=A) (s:=s) (e:=fun _=>true) (show s.heap.IsTuple a ia.toArray from pa) (show s.heap.IsTuple b ib.toArray from pb) (by omega) el
   rw[vE,z] at t1 t2;exact⟨t1,t2⟩
  ·cases e1;cases e2
 ·cases e0
  rcases hy with hy|⟨b,ys,es,e1,e2,hy,q⟩|⟨b,ys,es,e1,e2,_,hy,q⟩
  ·exact(qi hy).elim
  ·cases e1;cases e2
  ·cases e1;cases e2
   obtain⟨ia,va,pa,_⟩:=I.list (zg hx);obtain⟨ib,vb,pb,_⟩:=I.list (zg hy);have la:ia.length=ds.length:=by rw[<- va.length,r.length]
   have lb:ib.length=ds.length:=by rw[<- vb.length,q.length]
   have el:∀j (h1:j<ia.toArray.size) (h2:j<ib.toArray.size),SeqAt.EqAt A.in1 s ia.toArray[j] ib.toArray[j] true:=fun j h1 h2=>by
    have j1:j<ia.length:=by simpa using h1
    have j2:j<ib.length:=by simpa using h2
    have hxl:j<xs.length:=by rw[va.length];exact j1
    have hyl:j<ys.length:=by rw[vb.length];exact j2
    obtain⟨u',e1,e2⟩:=va.get (i:=j) (getElem?_eq_getElem hxl);obtain⟨v',e3,e4⟩:=vb.get (i:=j) (getElem?_eq_getElem hyl);obtain⟨d1,f1,f2⟩:=Paired.get r (getElem?_eq_getElem hxl);obtain⟨d2,f3,f4⟩:=Paired.get q (getElem?_eq_getElem hyl);rw[f1] at f3;cases f3;rw[getElem?_eq_getElem j1] at e1;rw[getElem?_eq_getElem j2] at e3;cases e1;cases e3;simpa using vS I n f2 f4 e2 e4 hin
   have t1:=SeqAt.RcAt.lists (A:=A) (s:=s) (e:=fun _=>true) pa.isList pb.isList (by simp [la,lb]) (by omega) el
   have t2:=SeqAt.RcNeAt.lists (A:=A) (s:=s) (e:=fun _=>true) pa.isList pb.isList (by simp [la,lb]) (by omega) el
   rw[vE] at t1 t2;exact⟨t1,t2⟩
inductive ziqJ(K:Frag)(b:Bool)(x:V)(y:V)(H:Hp)(Q:VK):Prop|mk(a c:Addr)(n:Nat)(d:Dt)(ok ok':Addr->Prop):x=.ref a->y=.ref c->n<=20->zD K ok H (n+1) x d->zD K ok' H (n+1) y d->(Q (.bl b) H)->ziqJ K b x y H Q
def ziq(K:Frag)(b:Bool):R2:=fun x y H Q=>ziqJ K b x y H Q
theorem zfw(hu:X.A.units+64<cLine):OpR X (compareOp .Eq) (ziq X.K true):=by
 intro pins s σ H x y v u Q I rx ry h;obtain⟨a,c,n,d,ok,ok',rfl,rfl,hn,hx,hy,q⟩:=h;cases rx;cases ry;exact(zdb (A:=X.A) I hx hy (by omega)).1 X.prog X.w X.xe _ ⟨.bl true,H,I,rfl,q⟩
theorem zcs(hu:X.A.units+64<cLine):OpR X (compareOp .NotEq) (ziq X.K false):=by
 intro pins s σ H x y v u Q I rx ry h;obtain⟨a,c,n,d,ok,ok',rfl,rfl,hn,hx,hy,q⟩:=h;cases rx;cases ry;exact(zdb (A:=X.A) I hx hy (by omega)).2 X.prog X.w X.xe _ ⟨.bl false,H,I,rfl,q⟩
def Ite(K:Frag)(a:Addr):It:=
 ⟨fun i H=>∃xs x,SqL K H a xs/\xs[i]?=some x,fun i H x H'=>∃(p:Addr) (y:V),x=.ref p/\H p=none/\(∀xs,SqL K H a xs->xs[i]?=some y)/\H'=upd H p (.tup [.int i,y]),fun i H=>∃xs,SqL K H a xs/\xs.length<=i⟩
theorem zdI{P:Program}{w:World}{K:Frag}{elts:List Expr}{x1:Nat}{tpos:Pos}(a e it:Addr)(hne:e≠it):
  qF P w K (.Tuple elts x1 tpos) (Ite K a) [e,it] e (fun i h=>(∃old,IsEnum h e it (i:Int) old)/\h.IsListIter it a i) where
 mem:=by simp
 obj:=fun i h st b hb=>by
  rcases List.mem_cons.mp hb with rfl|hb
  ·obtain⟨⟨old,he⟩,_⟩:=st
   exact⟨_,he,fun v q=>by cases q⟩
  ·have e':b=it:=by simpa using hb
   subst e';obtain⟨_,o,ho,_,hd⟩:=st;exact⟨o,ho,fun v q=>by rw[hd] at q;cases q⟩
 keep:=fun i h h' st k=>by
  obtain⟨⟨old,he⟩,o,ho,r⟩:=st;exact⟨⟨old,k e (by simp) _ he⟩,o,k it (by simp) o ho,r⟩
 item:=by
  intro X hP hw hK hc i pins s σ H E I hf st hg;subst hP hw hK;obtain⟨f0,f1,f2,f3,f4,f5⟩:=hf e (by simp)
  obtain⟨g0,g1,g2,g3,g4,g5⟩:=hf it (by simp)
  obtain⟨⟨old,he⟩,hit⟩:=st;obtain⟨xs,x,hS,hx⟩:=hg;obtain⟨its,rv,hp,hz⟩:=I.list hS;obtain⟨u,hu,ru⟩:=rv.get hx;refine wpAny_pyNext_enum_item he hit hp.isList (x:=u) (by simpa using hu) hne fun h' he' hit' htup hsz hk=>?_
  have I0:Inv X pins σ H { s with heap:=h',toks:=s.toks+1 }:=by
   refine I.step (g':=s.gens) (d':=s.drawn) (ch:=[e,it]) (fun b hb=>?_) (fun b o _ _ hc' e1 _=>hk b o (fun z=>hc' (by simp [z])) (fun z=>hc' (by simp [z])) e1) (fun b o _ _ hc' e1 _=>⟨o.slots,hk b o (fun z=>hc' (by simp [z])) (fun z=>hc' (by simp [z])) e1⟩) (fun _ _ _ _ n=>n)
    (fun b o hc' e1=>⟨o,hk b o (fun z=>hc' (by simp [z])) (fun z=>hc' (by simp [z])) e1⟩) (fun _ _ e1=>e1) (fun _ _ _ e1=>e1) (fun b ps e1=>⟨#[],by rw[e1];simp⟩) (fun m hm=>?_) (fun b u' e1=>?_) I.bare
   ·rcases List.mem_cons.mp hb with rfl|hb
    ·exact⟨f3,f1,f4,f5⟩
    ·have e':b=it:=by simpa using hb
     subst e';exact⟨g3,g1,g4,g5⟩
   ·obtain⟨o,es,ep,ho,r⟩:=hm
    exact⟨o,es,ep,hk _ o (Ne.symm f1) (Ne.symm g1) ho,r⟩
   ·have nit:∀c v',H c=some v'->c≠e/\c≠it:=fun c v' q=>⟨fun z=>(by rw[z,f0] at q;cases q),fun z=>(by rw[z,g0] at q;cases q)⟩
    refine(I.hok b u' e1).stay (fun c v' hc' q=>?_) (fun _ q=>q) fun _ _ q=>q;rcases hc' with z|z
    ·subst z;exact hk c v' (nit c _ e1).1 (nit c _ e1).2 q
    ·exact hk c v' (nit c _ z).1 (nit c _ z).2 q
  have hfr:H s.heap.objs.size=none:=I.hok.fresh (le_refl _);have I1:Inv X pins σ (upd H s.heap.objs.size (.tup [.int i,x])) { s with heap:=h',toks:=s.toks+1 }:=by
   have hok:HOk X.prog X.w (upd H s.heap.objs.size (.tup [.int i,x])) h':=fun b o q=>by
    by_cases hb:b=s.heap.objs.size
    ·subst hb
     rw[za] at q;cases q;exact⟨by show 2<=sizeLine;decide,[.int i s.toks,u],.cons ⟨_,rfl⟩ (.cons ru .nil),⟨_,htup,rfl,_,rfl⟩⟩
    ·rw[zf hb] at q
     exact(I0.hok b o q).stay (fun _ _ _ z=>z) (fun c z=>by rw[zf (zd z hfr)];exact z) fun c xs' z=>by rw[zf (zd z hfr)];exact z
   refine I0.step (s:={ s with heap:=h',toks:=s.toks+1 }) (g':=s.gens) (d':=s.drawn) (h':=h') (t':=s.toks+1) (ch:=[s.heap.objs.size]) (fun b hb=>?_) (fun b o _ _ _ e1 _=>e1) (fun b o _ _ _ e1 _=>⟨o.slots,e1⟩) (fun b o hb e1 n=>by rw[zf (fun z=>hb (by simp [z]))];exact n)
    (fun b o _ e1=>⟨o,e1⟩) (fun b xs' e1=>by rw[zf (zd e1 hfr)];exact e1) (fun b o' u' e1=>by rw[zf (zd e1 hfr)];exact e1) (fun b ps e1=>⟨#[],by rw[zf (zd e1 hfr),e1];simp⟩) (fun m hm=>hm) hok I0.bare
   have e':b=s.heap.objs.size:=by simpa using hb
   subst e';exists .inr I.sz,fun z=>?_,fun y c h z=>?_,fun p hp' z=>?_
   ·have:=I.lt;rw[<- z] at this;exact absurd this (lt_irrefl _)
   ·obtain⟨v',hv⟩:=I.cell y c h
    have:=hv.lt;rw[z] at this;exact absurd this (lt_irrefl _)
   ·have:=I.pin_lt hp';rw[z] at this;exact absurd this (lt_irrefl _)
  exists _,rfl,wpAny_letOwnedTupleGo_enum he' fun h2 he2 hs2=>?_;have nes:s.heap.objs.size≠e:=fun z=>by
   have:=Heap.lt_size (show s.heap.get? e=some _ from he)
   rw[<- z] at this;exact absurd this (lt_irrefl _)
  have nis:s.heap.objs.size≠it:=fun z=>by
   obtain⟨o,ho,_⟩:=hit
   have:=Heap.lt_size ho
   rw[<- z] at this;exact absurd this (lt_irrefl _)
  have I2:Inv X pins σ (upd H s.heap.objs.size (.tup [.int i,x])) { s with heap:=h2,toks:=s.toks+1 }:=
   I1.turned (s:={ s with heap:=h',toks:=s.toks+1 }) (t':=s.toks+1) (it:=e) (fun b o hb q=>(hs2.2 b hb).trans q) (by rw[zf nes.symm];exact f0) f1 f3 f4 f5
  exists .ref s.heap.objs.size,_,I2,rfl,⟨_,x,rfl,hfr,fun xs' h'=>?_,rfl⟩,⟨⟨_,by simpa using he2⟩,?_⟩,fun b hb=>?_
  ·rw[I.list_inj h' hS];exact hx
  ·obtain⟨o,ho,r⟩:=hit'
   exact⟨o,(hs2.2 it (Ne.symm hne)).trans ho,r⟩
  ·rcases List.mem_cons.mp hb with rfl|hb
   ·rw[zf nes.symm];exact f0
   ·have e':b=it:=by simpa using hb
    subst e';rw[zf nis.symm];exact g0
 done:=by
  intro X hP hw hK hc i pins s σ H E I hf st hg;subst hP hw hK;obtain⟨⟨old,he⟩,hit⟩:=st;obtain⟨g0,g1,g2,g3,g4,g5⟩:=hf it (by simp)
  obtain⟨xs,hS,hle⟩:=hg;obtain⟨its,rv,hp,hz⟩:=I.list hS;have hx:its.toArray[i]?=none:=by simp [<- rv.length,hle]
  exact wpAny_pyNext_enum_end (I.ok.hd hc) he hit hp.isList hx fun h' eb=>⟨rfl,I.turned (t':=s.toks) (fun b o hb e1=>eb b o hb e1) g0 g1 g3 g4 g5⟩
 self:=fun A i s Q E st h=>by
  obtain⟨⟨old,he⟩,_⟩:=st;exact wpAny_pyIter_enum he h
variable {elts:List Expr}{x1:Nat}{tpos:Pos}
inductive zllJ(K:Frag)(R:It->Hp->Prop)(vs:List V)(H1:Hp):Prop|mk(a:_):vs=[.ref a]->(∃xs,SqL K H1 a xs)->(R (Ite K a) H1)->zllJ K R vs H1
def zll(K:Frag)(ta:TA):TI:=fun σ H R=>ta σ H fun vs H1=>zllJ K R vs H1
theorem wu{l:Expr}{ta:TA}{p pos:Pos}(hg:Gl X "enumerate")(hm:X.mg "enumerate"=none)(ha:PA X [l] ta)(hl:wD l=false:=by rfl):PI X (.Tuple elts x1 tpos) (.Call (.Name "enumerate" p) [l] [] pos) (zll X.K ta):=by
 exists ?_;intro pins s σ H R I h;refine Call_ (vA I hg hm PyProof.Rows.boot_enumerate (PyProof.Rows.callWith_type1 (thn (ha pos pins s σ H _ I h) fun us s1 ⟨vs,H1,I1,r1,q1⟩=>?_) (yx hl) rfl));obtain⟨a,e,⟨xs,hS⟩,q⟩:=q1;subst e;obtain⟨u,rfl,ru⟩:=ub r1;cases ru;obtain⟨its,rv,hp,hz⟩:=I1.list hS;refine call_enumerate_list hp.isList fun h' he hit hsz hk=>?_;refine wpAny_pyIter_enum he ?_;have hfr:∀b,s1.heap.objs.size<=b->H1 b=none:=fun b hb=>I1.hok.fresh hb;have I2:Inv X pins σ H1 { s1 with heap:=h' }:=I1.kept (t':=s1.toks) hk
 exists s1.heap.objs.size+1,[s1.heap.objs.size+1,s1.heap.objs.size],_,_,H1,rfl,I2,zdI a _ _ (Nat.succ_ne_self _),⟨⟨_,he⟩,hit⟩,fun b hb=>?_,q;rcases List.mem_cons.mp hb with rfl|hb
 ·exact I1.fpOk (le_succ _) (hfr _ (le_succ _))
 ·have e':b=s1.heap.objs.size:=by simpa using hb
  subst e';exact I1.fpOk (le_refl _) (hfr _ (le_refl _))
end
end L2
namespace Att
open PySem PySem.W PySem.Calls PyProof.Rows
theorem zbc{ns:List Int}(h:WData.layableAll [WData.list (ns.map WData.int)]=true):∀n∈ns,Builtin.Int.intBits n<=1048576:=fun n hn=>
 PySem.intBits_le_of_layable (layable0_of_all (lay0_int (layableW_item (layW_cons h).1 (.int n) (List.mem_map.mpr ⟨n,hn,rfl⟩))))
theorem zh7{l:OpenLaw}{n:Nat}{q:Program}{loose:List Str}{XP:(Str->Option Value)->Heap->Prop}{YP:World->Heap->Prop}{d:DefRec}
  (hn:l.most=some n) (hdf:d.params.defaults=[])
  (call:∀(w:World) (s₀ s₁:Shared) (mg mb:Str->Option Value) (fa:Addr) (o:Obj) (pm cd doc:Value) (a:Addr) (vs:List Value) (ns:List Int),
   Ground q loose [] XP w s₀ mg mb s₁.heap->YP w s₁.heap->
   s₁.heap.get? fa=some o->o.data=.func (docDef d.name d.params d.body d.scope pm cd doc)->s₁.heap.CodeRec cd d.name->mg d.name=some (.ref fa)->
   s₁.heap.get? a=some { cls:=.type "list",data:=.seq vs.toArray }->IntsAre vs ns->ns.length<=n->(∀m∈ns,Builtin.Int.intBits m<=1048576)->s₁.gens=#[]->
   codeAny (model l.prog w) callerA (.call (.ref fa) ⟨[.ref a],[]⟩) (fun r s'=>r=.ok (.ret (.bool true))/\OldK s₁.heap s'.heap/\s'.os=s₁.os/\AllBare s'.gens) s₁) :
  WalkO q loose XP YP l.row.toRowW d [] (fun f vs=>PySem.call f vs):=by
 intro w s₀ s₁ mg mb G Y fa o pm cd doc dV kV ho hd hcd hD hmg hg args vals as hpre hlay hrd hwl hlo;obtain rfl:dV=.none:=Dflts.none hD hdf;obtain rfl:kV=.none:=Dflts.noKw hD;obtain⟨a,vs,ns,rfl,rfl,hobj,hints,hlen⟩:=zdL hn hpre hwl;refine enter_call (codeAny_mono (call w s₀ s₁ mg mb fa o pm cd doc a vs ns G Y ho (fd_plain hd) hcd hmg hobj hints hlen (zbc hlay) hg) fun r s' hq=>?_);obtain⟨rfl,h2,h3,h4⟩:=hq;exact⟨.inl ⟨.bool true,.bool true,[],rfl,fun _=>rfl,.bool true,zdR l _,fun _=>⟨List.Pairwise.nil,fun _ hm=>(nomatch hm)⟩⟩,h2,h3,h4⟩
end Att
namespace L2
open PySem PySem.Spec PyProof.Rows
theorem zke{l:PySem.W.OpenLaw}{n k:Nat}{q:Program}{loose:List Str}{XP:(Str->Option Value)->Heap->Prop}{YP:World->Heap->Prop}{d:DefRec}{K:Params->Frag}{CX:World->CXT}{sp:World->Sp}{x:Str}
  (hn:l.most=some n) (hn2:n<=sizeLine) (hdf:d.params.defaults=[]) (hr:yf k callerA)
  (hY:∀(w:World) (h:Heap),YP w h->(K w.params).In h)
  (F:∀(w:World) (mg:Str->Option Value) (fa:Addr) (h:Heap),(K w.params).In h->h.Ns mainGlobals mg->mg d.name=some (.ref fa)->
   ∃fd:FuncData,(∀(s:Shared) (u:Value),BindsTo s fd ⟨[u],[]⟩ [(x,u)])/\
    ∀base:Heap,(K w.params).In base->base.Ns mainGlobals mg->zx l.prog w (K w.params) mg base (CX w) k fa fd [x] (sp w))
  (hsp:∀(w:World) (H:Hp) (a:Addr) (ns:List Int),ns.length<=n->(∀m∈ns,Builtin.Int.intBits m<=1048576)->zj9 H->SqL (K w.params) H a (ns.map V.int)->sp w [.ref a] H (fun v _=>v=.bl true) fun _ _ _=>False)
  (hCX:∀(w:World) (H:Hp) (s:Shared) (e:Value) (s':Shared),CX w [] H s (fun _ _ _=>False) e s'->False) :
  PySem.W.WalkO q loose XP YP l.row.toRowW d [] (fun f vs=>PySem.call f vs):=by
 refine Att.zh7 hn hdf fun w s₀ s₁ mg mb fa o pm cd doc a vs ns G Y ho hd hcd hmg hobj hints hlen hbits hg=>?_;have KX:=hY w _ Y;obtain⟨fd,hb,hF⟩:=F w mg fa _ KX G.T.g hmg;exact zgf KX G.T.g G.T.b G.T.builtins G.T.nolimit hg hobj hints (le_trans hlen hn2) hr hF hb (fun H hO hS=>hsp w H a ns hlen hbits hO hS) fun H e s'=>hCX w H s₁ e s'
section
variable {X:Cx}
structure qv(K:Frag)(x qual:Str)(st:Stmt)(f:Addr)(fd:FuncData)(items:List Value):Prop where
 ex:∃(oc:Value) (od:Option Addr) (T:Addr) (kV doc pm:Value) (an:Option Addr) (cdv ct:Value) (osl:Array (Option Value)) (o:Obj) (n:Nat),
  fd=fnOf x qual (yb st) (zY st) (zj st) (.ref T) kV doc pm an cdv ct/\K.lookup f=some ⟨oc,od,.func fd,osl⟩/\codeIn K cdv qual=true/\K.lookup T=some o/\o.data=.seq items.toArray n
 kp:keepIn K (.ref f)=true
variable {P:Program}{w:World}{K:Frag}{mg:Str->Option Value}{base:Heap}
theorem qv.ok{x qual:Str}{st:Stmt}{f:Addr}{fd:FuncData}{items:List Value}{N ps:List Str}{k:Nat}{sp:Sp}(F:qv K x qual st f fd items)(S:zq N ps (zj st))(len:∀vs H Q E,sp vs H Q E->vs.length=ps.length)
  (hbody:∀(cdv:Value) (A:Around) (outer:List Env) (s:Shared) (H:Hp) (vs:List V) (Q:VK) (E:XK),yf k (A.deeper (envOfC qual (zj st) s.heap.objs.size f cdv))->sp vs H Q E->
   ∃t,PSs (jk CX0 P w K mg base N qual (zj st) f cdv A outer s H E).nox (zY st) t/\t { nx:=fun _ H'=>Q .non H',rt:=Q } (wg N vs) H):zx P w K mg base CX0 (k+1) f fd ps sp:=by
 obtain⟨oc,od,T,kV,doc,pm,an,cdv,ct,osl,o,n,rfl,lk,hcd,_,_⟩:=F.ex;refine zgu lk hcd S len fun A outer s H vs Q E hr hsp=>?_;obtain⟨t,h,q⟩:=hbody cdv A outer s H vs Q E hr hsp;exact⟨t,h.nox,q⟩
theorem qv.bindsTo{x qual:Str}{st:Stmt}{f:Addr}{fd:FuncData}{items:List Value}(F:qv K x qual st f fd items){args:Args}{bs:List (Str×Value)}
  (h:∀(T:Addr) (kV doc pm:Value) (an:Option Addr) (cdv ct:Value),∃k:Option (Array Value)->Sem (List (Str×Value)),
   bindArgs (fnOf x qual (yb st) (zY st) (zj st) (.ref T) kV doc pm an cdv ct) args=seqItems? (.ref T) >>= k/\k (some items.toArray)=pure bs) {s:Shared}(KX:K.In s.heap):BindsTo s fd args bs:=by
 obtain⟨oc,od,T,kV,doc,pm,an,cdv,ct,osl,o,n,rfl,lk,hcd,lt,hs⟩:=F.ex;obtain⟨k,h1,h2⟩:=h T kV doc pm an cdv ct;exact BindsTo.of_defaults (T:=T) (n:=n) rfl (KX _ _ lt) hs h1 h2
theorem zhY{x qual:Str}{st:Stmt}{f T:Addr}{oc:Value}{od an:Option Addr}{osl:Array (Option Value)}{kV doc pm cdv ct:Value}{o:Obj}{n:Nat}{items:List Value}
  (l:K.lookup f=some ⟨oc,od,.func (fnOf x qual (yb st) (zY st) (zj st) (.ref T) kV doc pm an cdv ct),osl⟩)
  (c:codeIn K cdv qual=true) (k:keepIn K (.ref f)=true) (lT:K.lookup T=some o) (hs:o.data=.seq items.toArray n) :
  qv K x qual st f (fnOf x qual (yb st) (zY st) (zj st) (.ref T) kV doc pm an cdv ct) items:=⟨⟨oc,od,T,kV,doc,pm,an,cdv,ct,osl,o,n,rfl,l,c,lT,hs⟩,k⟩
variable {CX:CXT}{k:Nat}{f C:Addr}{fd:FuncData}{ps ks:List Str}{sp:Sp}{E:XK}{x:Str}{p pos:Pos}{e:Expr}{es:List Expr}{kws:List Keyword}{t tk:TA}
 {g:List Value->List Value->List Value}{gV:List V->List V->List V}
theorem wq{t u:TS}{D:wF}{σ : St}{H:Hp}(R:St->Hp->Prop)(h2:∀σ H,R σ H->u D σ H)(h1:(∀σ H,R σ H->u D σ H)->t { D with nx:=u D } σ H):uB t u D σ H:=h1 h2
def lcN(n i:Nat)(D:Addr)(Pv:Nat->List V->Hp->Prop)(ys:List V):VK:=fun v H4=>H4 D=some (.lst ys)/\ys.length<sizeLine/\∃m',m'<n - i/\m'=n - (i+1)/\i+1<=n/\Pv (i+1) (ys++[v]) (upd H4 D (.lst (ys++[v])))
def lcS(n i:Nat)(Pv:Nat->List V->Hp->Prop)(ys:List V):Hp->Prop:=fun H4=>∃m',m'<n - i/\m'=n - (i+1)/\i+1<=n/\Pv (i+1) ys H4
theorem lcN.mk{n i:Nat}{D:Addr}{Pv:Nat->List V->Hp->Prop}{ys:List V}{v:V}{H4:Hp}(hi:i<n)(hn:n<=sizeLine)(hD:H4 D=some (.lst ys))(hy:ys.length<=i)(p:Pv (i+1) (ys++[v]) (upd H4 D (.lst (ys++[v])))):lcN n i D Pv ys v H4:=
 ⟨hD,by omega,n - (i+1),by omega,rfl,hi,p⟩
theorem lcS.mk{n i:Nat}{Pv:Nat->List V->Hp->Prop}{ys:List V}{H4:Hp}(hi:i<n)(p:Pv (i+1) ys H4):lcS n i Pv ys H4:=⟨n - (i+1),by omega,rfl,hi,p⟩
theorem ww{K:Frag}{a:Addr}{xs:List V}{caps:List (Option Nat)}{g:TG}{tt:TT}{te:TE}{σ : St}{H1:Hp}{Q:VK}{D:Addr}(Pv:Nat->List V->Hp->Prop)(h0:Pv 0 [] (upd H1 D (.lst [])))
  (hl:∀i ys H,Pv i ys H->SqL K H a xs)
  (hs:∀i x ys H,i<xs.length->xs[i]?=some x->Pv i ys H->g x (yY caps σ) H fun σ2 H2=>tt σ2 H2 fun ok H3=>(ok=true->te σ2 H3 (lcN xs.length i D Pv ys))/\(ok=false->lcS xs.length i Pv ys H3))
  (hd:∀ys H,Pv xs.length ys H->Q (.ref D) H):LCr (Itl K a) caps g tt te σ H1 Q D:=by
 exists fun i m ys H=>m=xs.length - i/\i<=xs.length/\Pv i ys H,⟨xs.length,by simp,zero_le _,h0⟩,?_
 rintro i m ys H ⟨rfl,hi,p⟩;have q:=hl i ys H p;by_cases hlt:i<xs.length
 ·refine .inr ⟨⟨xs,xs[i],q,by simp [hlt]⟩,fun x H' y=>?_⟩
  obtain⟨e,y⟩:=y;subst e;exact hs i x ys _ hlt (y xs q) p
 ·have e:i=xs.length:=by omega
  subst e;exact .inl ⟨⟨xs,q,le_refl _⟩,hd ys H p⟩
theorem vK{H:Hp}{x dx:Addr}{o1 o2:HO}(hx:H x=none)(hd:H dx=none):zo H (upd (upd (upd H dx (.own x)) x o1) x o2):=fun b u q=>by
 rw[zf (zd q hx),zf (zd q hx),zf (zd q hd)];exact q
theorem yL{H:Hp}{x dx:Addr}{o1:HO}(hx:H x=none)(hd:H dx=none):zo H (upd (upd H dx (.own x)) x o1):=fun b u q=>by
 rw[zf (zd q hx),zf (zd q hd)];exact q
theorem ze{H:Hp}{p:Addr}(h:H p=none)(o:HO):zo H (upd H p o):=fun b u q=>by rw[zf (zd q h)];exact q
end
end L2
namespace L2
open PySem
theorem nS{H H':Hp}{p:Addr}{o:HO}(h:H p=none)(e:upd H p o=H'):zo H H':=e ▸ ze h o
theorem nE{H H':Hp}{p:Addr}{o:HO}(e:upd H p o=H'):H' p=some o:=e ▸ za
end L2
local macro_rules|`(tactic|injections $l:ident $h:ident $H:ident $s:ident $e:ident)=>`(tactic|(generalize hE:L2.upd _ $l _=$H:ident;have $s:ident:=L2.nS $h hE;have $e:ident:=L2.nE hE;clear hE))
namespace L2
open PySem PySem.Spec PyProof.Rows
theorem wQ{lo:Int}{n:Nat}{caps:List (Option Nat)}{g:TG}{tt:TT}{te:TE}{σ : St}{H1:Hp}{Q:VK}{D:Addr}(Pv:Nat->List V->Hp->Prop)(h0:Pv 0 [] (upd H1 D (.lst [])))
  (hs:∀i ys H,i<n->Pv i ys H->g (.int (lo+i)) (yY caps σ) H fun σ2 H2=>tt σ2 H2 fun ok H3=>(ok=true->te σ2 H3 (lcN n i D Pv ys))/\(ok=false->lcS n i Pv ys H3))
  (hd:∀ys H,Pv n ys H->Q (.ref D) H):LCr (Itr lo n) caps g tt te σ H1 Q D:=by
 exists fun i m ys H=>m=n - i/\i<=n/\Pv i ys H,⟨n,by simp,zero_le _,h0⟩,?_
 rintro i m ys H ⟨rfl,hi,p⟩;by_cases hlt:i<n
 ·refine .inr ⟨hlt,fun x H' y=>?_⟩
  obtain⟨e,y⟩:=y;subst e y;exact hs i ys _ hlt p
 ·have e:i=n:=by omega
  subst e;exact .inl ⟨le_refl _,hd ys H p⟩
theorem zdj{K:Frag}{a:Addr}{xs:List V}{caps:List (Option Nat)}{g:TG}{tt:TT}{te:TE}{σ : St}{H1:Hp}{Q:VK}{D:Addr}(Pv:Nat->List V->Hp->Prop)(h0:Pv 0 [] (upd H1 D (.lst [])))
  (hl:∀i ys H,Pv i ys H->SqL K H a xs)
  (hs:∀i x p ys H,i<xs.length->xs[i]?=some x->Pv i ys H->H p=none->g (.ref p) (yY caps σ) (upd H p (.tup [.int i,x])) fun σ2 H2=>tt σ2 H2 fun ok H3=>(ok=true->te σ2 H3 (lcN xs.length i D Pv ys))/\(ok=false->lcS xs.length i Pv ys H3))
  (hd:∀ys H,Pv xs.length ys H->Q (.ref D) H):LCr (Ite K a) caps g tt te σ H1 Q D:=by
 exists fun i m ys H=>m=xs.length - i/\i<=xs.length/\Pv i ys H,⟨xs.length,by simp,zero_le _,h0⟩,?_
 rintro i m ys H ⟨rfl,hi,p⟩;have q:=hl i ys H p;by_cases hlt:i<xs.length
 ·refine .inr ⟨⟨xs,xs[i],q,by simp [hlt]⟩,fun x H' y=>?_⟩
  obtain⟨pp,y,rfl,hp,y2,rfl⟩:=y;exact hs i y pp ys H hlt (y2 xs q) p hp
 ·have e:i=xs.length:=by omega
  subst e;exact .inl ⟨⟨xs,q,le_refl _⟩,hd ys H p⟩
theorem vB{K:Frag}{a:Addr}{xs:List V}{g:TG}{tb:TS}{D:wF}{σ : St}{H:Hp}(Pv:Nat->St->Hp->Prop)(h0:Pv 0 σ H)(hl:∀i σ H,i<=xs.length->Pv i σ H->SqL K H a xs)
  (hs:∀i x p σ H,xs[i]?=some x->Pv i σ H->H p=none->g (.ref p) σ (upd H p (.tup [.int i,x])) fun σ2 H2=>tb { D with nx:=Pv (i+1),ct:=Pv (i+1),bk:=D.nx } σ2 H2) (hd:∀σ H,Pv xs.length σ H->D.nx σ H) :
  ∃W:Nat->Nat->St->Hp->Prop,(∃m,W 0 m σ H)/\∀i m σ H,W i m σ H->
   ((Ite K a).stop i H/\D.nx σ H)\/((Ite K a).go i H/\∃N:St->Hp->Prop,(∀σ' H',N σ' H'->∃m',m'<m/\W (i+1) m' σ' H')/\∀x H',(Ite K a).yld i H x H'->g x σ H' fun σ2 H2=>tb { D with nx:=N,ct:=N,bk:=D.nx } σ2 H2):=by
 exists fun i m σ H=>m=xs.length - i/\i<=xs.length/\Pv i σ H,⟨xs.length,by simp,zero_le _,h0⟩,?_
 rintro i m σ H ⟨rfl,hi,p⟩;have q:=hl i σ H hi p;by_cases hlt:i<xs.length
 ·refine .inr ⟨⟨xs,xs[i],q,by simp [hlt]⟩,Pv (i+1),fun σ' H' p'=>⟨xs.length - (i+1),by omega,rfl,hlt,p'⟩,fun x H' y=>?_⟩
  obtain⟨pp,y,rfl,hp,y2,rfl⟩:=y;exact hs i y pp σ H (y2 xs q) p hp
 ·have e:i=xs.length:=by omega
  subst e;exact .inl ⟨⟨xs,q,le_refl _⟩,hd σ H p⟩
theorem zdz{α : Type}{xs:List α}{i:Int}(h0 : 0<=i)(h1:i<xs.length):∃x,x∈xs/\atI xs i=some x/\xs[i.toNat]?=some x:=by
 obtain⟨k,rfl⟩:=eq_ofNat_of_zero_le h0;have hk:k<xs.length:=by omega
 exact⟨xs[k],getElem_mem hk,yO (getElem?_eq_getElem hk),by simp [hk]⟩
section
variable {X:Cx}{pins:PnL}{σ:St}{H H':Hp}{s s':Shared}{ea:Addr}{cls:Value}{vs:List Value}{h':Heap}{M:Model}{E:VSP}
theorem zab(hstk:X.stack=X.env::X.outer)(hfl:X.env.frame=some X.env.locals):frs X.stack=X.env.locals::frs X.outer:=by
 rw[hstk];unfold frs;rw[filterMap_cons,hfl]
theorem HOk.sameAt{P:Program}{w:World}{h h':Heap}(x:HOk P w H h)(k:∀b u o,H b=some u->h.get? b=some o->h'.get? b=some o):HOk P w H h':=fun a o e=>
 (x a o e).stay (fun b u hb q=>by
  rcases hb with z|z
  ·exact k b o u (by rw[z];exact e) q
  ·exact k b _ u z q) (fun _ q=>q) fun _ _ q=>q
theorem HOk.rec{P:Program}{w:World}{h:Heap}(x:HOk P w H h){b:Addr}{u:HO}(e:H b=some u):∃o,h.get? b=some o:=by
 have q:=x b u e;cases u with
 | lst xs=>obtain⟨_,_,_,_,e⟩:=q;exact⟨_,e⟩
 | tup xs=>obtain⟨_,_,_,o,e,_⟩:=q;exact⟨_,e⟩
 | dK kvs=>obtain⟨_,_,_,_,o,_,_,e,_⟩:=q;exact⟨_,e⟩
 | dT kvs=>obtain⟨_,_,_,_,o,_,_,e,_⟩:=q;exact⟨_,e⟩
 | set S n=>obtain⟨o,_,_,_,e,_⟩:=q;exact⟨_,e⟩
 | ins C dx fs=>obtain⟨_,_,_,e,_⟩:=q;exact⟨_,e⟩
 | own y=>exact q
 | xd fs=>obtain⟨_,⟨o,_,_,e,_⟩,_⟩:=q;exact⟨_,e⟩
 | rng lo hi=>obtain⟨_,_,_,e⟩:=q;exact⟨_,e⟩
 | frz ob u=>obtain⟨e,_⟩:=q;exact⟨_,e⟩
 | tbl ps=>exact⟨_,q⟩
 | met f y=>exact⟨_,q⟩
 | ext φ=>exact q.2.1
end
section
variable {X:Cx}{E:XK}{x:Str}{C:Addr}{B Bn newId nid initId inN:String}{bm bmN:List Value}{np cpos pos:Pos}{e:Expr}{es:List Expr}{t:TA}
variable {P:Program}{w:World}{K:Frag}{mg:Str->Option Value}{base:Heap}{N:List Str}{qual:Str}{scope:Scope}{f:Addr}{cd:Value}{A:Around}{outer:List Env}{s:Shared}{H:Hp}{E':XK}
variable {k:Nat}{fd:FuncData}{ps:List Str}{sp:Sp}{p:Pos}
def zam(ea:Addr)(cls:Value)(h:Heap):Prop:=∃oe vs,h.get? ea=some oe/\oe.cls=cls/\oe.data=.fields vs
variable {pins:PnL}{σ:St}{H':Hp}{s':Shared}{ea a:Addr}{cls:Value}{o:HO}{h5:Heap}
theorem Inv.track(I:Inv X pins σ H s)(hn:H a=none)(new:yq X.prog X.w (upd H a o) s.heap a o)(h0:∀u,X.s₀.heap.get? a=some u->X.H₀ a=none->a∉X.ex->False)(hL:X.env.locals≠a)
  (hc:∀x c,X.env.cells.lookup x=some c->c≠a) (hp:∀p∈X.pn++pins,p.1≠a):Inv X pins σ (upd H a o) s:=by
 exists I.ok,I.os,I.bare,⟨I.base.keep,I.base.slot,fun b u e n x=>?_,I.base.there,fun b xs e=>?_,fun b u v e=>?_,fun b ps e=>?_⟩,I.loc,I.cell,?_,fun x c e=>?_,fun p hp'=>?_,fun b u e=>?_,I.len
 ·have hb:b≠a:=fun z=>by subst z;exact h0 u e n x
  rw[zf hb];exact I.base.free b u e n x
 ·have e1:=I.base.tups b xs e
  rw[zf (zd e1 hn)];exact e1
 ·have e1:=I.base.frzs b u v e
  rw[zf (zd e1 hn)];exact e1
 ·obtain⟨more,e1⟩:=I.base.tbls b ps e
  exact⟨more,by rw[zf (zd e1 hn)];exact e1⟩
 ·rw[zf hL];exact I.free
 ·rw[zf (hc x c e)];exact I.freeC x c e
 ·obtain⟨q1,q2,q3⟩:=I.pin p hp'
  exact⟨q1,by rw[zf (hp p hp')];exact q2,q3⟩
 ·by_cases hb:b=a
  ·subst hb;rw[za] at e;cases e;exact new
  ·rw[zf hb] at e
   exact(I.hok b u e).stay (fun _ _ _ q=>q) (fun c q=>by rw[zf (zd q hn)];exact q) fun c xs q=>by rw[zf (zd q hn)];exact q
end
section
variable {X:Cx}{pins:PnL}{σ:St}{H:Hp}{s:Shared}{M:Model}{A:Around}{E:VSP}{i:Nat}{n:Str}{pos:Pos}
theorem vP{Q:Unit->Shared->Prop}(I:Inv X pins σ H s)(hN:X.N.Nodup)(hi:X.N[i]?=some n)(hk:X.env.scope.names.lookup n=some .local)(h:∀s',Inv X pins (σ.set i none) H s'->Q () s'):
  wpAny M A (do bindName X.env n .none;unbindBehindTheSuite X.env n pos) Q E s:=by
 refine zwb (wpAny_bindName (vo (v:=.non) (u:=.none) I hN hi (.inl hk) rfl (fun s1 I1=>?_) (.inr hk)));unfold unbindBehindTheSuite;refine wpAny_onRaise ?_;have hiσ : i<σ.length:=by rw[I.len];exact(List.getElem?_eq_some_iff.mp hi).1
 have hcls:(X.env.scope.kind==.class||(X.env.scope.kind==.module&&X.env.locals != X.env.globals))=false:=by rw[I.ok.kind];rfl
 obtain⟨m,hn,hl⟩:=id I1.loc;obtain⟨u0,_,lk⟩:=hl i n .non hi (by rw[getElem?_set_self hiσ]) (.inl hk)
 have hv:m n=some u0:=by
  rcases lk with ⟨_,e⟩|⟨z,_⟩
  ·exact e
  ·have z':X.env.scope.names.lookup n=some .cell\/X.env.scope.names.lookup n=some .free:=z
   rw[hk] at z';rcases z' with z'|z' <;> cases z'
 refine wpAny_unbindName_local hk hn hv hcls fun h2 u hn2 hs=>h _ ?_;have old:∀b o,X.s₀.heap.get? b=some o->b≠X.env.locals:=fun b o e=>ne_of_lt (lt_of_lt_of_le (Heap.lt_size e) I1.ok.above);refine⟨I1.ok,I1.os,I1.bare,⟨fun b o e z hb hx=>(hs.2 b (old b o e)).trans (I1.base.keep b o e z hb hx),fun b o e z hb hx=>?_,I1.base.free,fun b o e hx=>?_,I1.base.tups,I1.base.frzs,I1.base.tbls⟩,⟨_,hn2,fun j y v e1 e2 e3=>?_⟩,fun y c e=>?_,I1.free,I1.freeC,fun p hp=>?_,fun b ob e=>?_,by rw[length_set];exact I.len⟩
 ·obtain⟨sl,e1⟩:=I1.base.slot b o e z hb hx
  exact⟨sl,(hs.2 b (old b o e)).trans e1⟩
 ·obtain⟨o',e1⟩:=I1.base.there b o e hx
  exact⟨o',(hs.2 b (old b o e)).trans e1⟩
 ·by_cases hj:j=i
  ·subst hj
   rw[getElem?_set_self hiσ] at e2;cases e2
  ·rw[getElem?_set_ne (Ne.symm hj)] at e2
   obtain⟨u',r',q⟩:=hl j y v e1 (by rw[getElem?_set_ne (Ne.symm hj)];exact e2) e3
   exists u',r',?_;rcases q with ⟨k,e⟩|⟨k,c,e,z⟩
   ·have ny:y≠n:=fun w=>hj (j3 hN e1 (w ▸ hi))
    exact .inl ⟨k,by simp [ny,e]⟩
   ·exact .inr ⟨k,c,e,z.sameBut hs (I1.cne y c e)⟩
 ·obtain⟨w',z⟩:=I1.cell y c e
  exact⟨w',z.sameBut hs (I1.cne y c e)⟩
 ·obtain⟨e,z,ne,nf,d⟩:=I1.pin p hp
  exact⟨(hs.2 p.1 ne).trans e,z,ne,nf,d⟩
 ·refine(I1.hok b ob e).stay (fun c w' hc q=>(hs.2 c fun z=>?_).trans q) (fun _ q=>q) fun _ _ q=>q
  rcases hc with w1|w1
  ·rw[<- w1,z,I1.free] at e;cases e
  ·rw[z,I1.free] at w1;cases w1
structure PE1(X:Cx)(pins:PnL)(σ : St)(e:Expr)(t:TE):Prop where
 run:∀(s:Shared) (H:Hp) (Q:VK),Inv X pins σ H s->t σ H Q->wpAny (model X.prog X.w) X.A (eval e X.env) (EP X pins σ Q) X.xe s
structure PA1(X:Cx)(pins:PnL)(σ : St)(es:List Expr)(t:TA):Prop where
 run:∀(pos:Pos) (s:Shared) (H:Hp) (Q:List V->Hp->Prop),Inv X pins σ H s->t σ H Q->wpAny (model X.prog X.w) X.A (spliced (backTo pos (starEach es X.env))) (AP X pins σ Q) X.xe s
structure PS1(X:Cx)(pins:PnL)(σ : St)(st:Stmt)(t:TS):Prop where
 run:∀(s:Shared) (H:Hp) (D:wF),Inv X pins σ H s->t D σ H->wpAny (model X.prog X.w) X.A (exec st X.env) (SP X pins D) X.xe s
end
section
variable {X:Cx}{pins:PnL}{σ:St}{e:Expr}{es:List Expr}{te ta:TE}{t tr:TA}{E:XK}{x m:Str}{p pos apos:Pos}{k:Nat}{f C:Addr}{fd:FuncData}{ps:List Str}{sp:Sp}{o:Expr}{dvs:List V}{ds:List Value}
theorem PE.one(h:PE X e te):PE1 X pins σ e te:=⟨fun s H Q I q=>h pins s σ H Q I q⟩
theorem PA.one(h:PA X es t):PA1 X pins σ es t:=⟨fun pos s H Q I q=>h pos pins s σ H Q I q⟩
theorem zdA(ha:PE1 X pins σ e te)(hr:PA1 X pins σ es tr)(h:wD e=false:=by rfl):PA1 X pins σ (e::es) (zcQ te tr):=by
 exists fun pos s H Q I q=>?_;rw[yx h];show wpAny _ _ (spliced ((false,eval e X.env)::backTo pos (starEach es X.env))) _ _ s;refine Calls.spliced_cons (thn (ha.run s H _ I q) fun u s1 ⟨x,H1,I1,r1,q1⟩=>?_);exact thn (hr.run pos s1 H1 _ I1 q1) fun us s2 ⟨xs,H2,I2,r2,q2⟩=>⟨x::xs,H2,I2,.cons r1 r2,q2⟩
theorem zjw{x1:Nat}(h:PA1 X pins σ es t):PE1 X pins σ (.Tuple es x1 pos) (zkh t):=by
 exists fun s H Q I hq=>?_;refine wpAny_Tuple_spliced (thn (h.run pos s H _ I hq) fun us s1 ⟨xs,H1,I1,r,z,q⟩=>⟨by rw[<- r.length];exact z,?_⟩)
 have hf:H1 s1.heap.objs.size=none:=I1.hok.fresh (le_refl _);exists .ref s1.heap.objs.size,upd H1 s1.heap.objs.size (.tup xs),I1.laid (t':=s1.toks) (fun b u e=>zgp _ e) (le_refl _) ?_,rfl,q _ hf;exact⟨z,us,r,⟨_,zgs _ rfl,rfl,_,rfl⟩⟩
theorem zjh{i:Nat}{pos':Pos}(hN:X.N.Nodup)(hi:X.N[i]?=some x)(hx:Loc X.env.scope x)(he:PE1 X pins σ e te)(hs:swapsWith e (some (.Name x pos')) pos.line X.env=pure false:=by rfl)
  (hf:X.fn x=true\/X.env.scope.names.lookup x=some .local:=by first|exact .inl rfl|exact .inr rfl|assumption):PS1 X pins σ (.Assign [.Name x pos'] e pos) (zgN te (zS i)):=by
 exists fun s H D I h=>?_;refine wpAny_Assign_Name (thn (he.run s H _ I h) fun v s1 ⟨y,H1,I1,r1,q1⟩=>?_) hs;exact vo I1 hN hi hx r1 (fun s2 I2=>⟨_,H1,I2,q1⟩) hf
abbrev Cx.suite(X:Cx)(ea:Addr):Cx:={ X with A:=X.A.mark (some (.ref ea)),calm:=false,xe:=fun _ _=>False }
variable {H:Hp}{s:Shared}{ea:Addr}
theorem Inv.suite(I:Inv X pins σ H s)(ea:Addr):Inv (X.suite ea) pins σ H s:=
 ⟨⟨I.ok.mod,I.ok.kind,I.ok.glob,I.ok.blt,I.ok.above,I.ok.inj,I.ok.has,I.ok.cab,(fun z=>Bool.noConfusion z),I.ok.frames,I.ok.stk,I.ok.exf,I.ok.bs,I.ok.bsz,I.ok.noex,I.ok.exfs,I.ok.funs,I.ok.frf⟩,I.os,I.bare,I.base,I.loc,I.cell,I.free,I.freeC,I.pin,I.hok,I.len⟩
theorem wy(hok:X.Ok)(I:Inv (X.suite ea) pins σ H s):Inv X pins σ H s:=
 ⟨hok,I.os,I.bare,I.base,I.loc,I.cell,I.free,I.freeC,I.pin,I.hok,I.len⟩
def ziw(D:wF)(i:Nat):wF:={ nx:=fun σ H=>D.nx (σ.set i none) H,rt:=D.rt,bk:=fun σ H=>D.bk (σ.set i none) H,ct:=fun σ H=>D.ct (σ.set i none) H }
abbrev zkg(X:Cx)(pins:PnL)(D:wF)(hs:List ExceptHandler):Value->Shared->Prop:=fun e s₁=>
 wpAny (model X.prog X.w) X.A (noteFrame e X.env) (fun _ s₂=>wpAny (model X.prog X.w) X.A (setFlight e none) (fun _ s₃=>wpAny (model X.prog X.w) X.A (handleBy e X.env hs) (SP X pins D) X.xe s₃) X.xe s₂) X.xe s₁
variable {st b₀:Stmt}{suite:List Stmt}{c n:Str}{np hpos:Pos}{i:Nat}{tb:XK->TS}{ts:TS}{ok:Value->Prop}
end
end L2
namespace L2
open PySem PySem.W PySem.Builtin PySem.Builtin.ObjectAttr PySem.Builtin.Getset_descriptor PySem.Spec PyProof.Rows
structure xj(K:Frag)(D:Addr):Prop where
 cd:(clsIn K D).isSome=true
 ga:findIn K (.ref D) "__getattribute__"=some (some (.builtin "BaseException.__getattribute__"))
 no:findIn K (.ref D) "__getattr__"=some none
 cl:findIn K (.ref D) "__class__"=some (some (.builtin "object.__class__"))
 gt:specialIn K (.builtin "object.__class__") "__get__"=some (some (.builtin "getset_descriptor.__get__"))
 tk:takesIn K (.builtin "object.__class__")=some true
 be:mroIn K D (.type "BaseException")=some true
 ob:mroIn K D (.type "object")=some true
section
variable {prog:Program}{w:World}{A:Around}{E:VSP}{s:Shared}{K:Frag}{x D:Addr}
theorem zam.ty{M:Model}{h:Heap}(e:zam x (.ref D) h):Looks M h (typeOf (.ref x)) (.ref D):=by
 obtain⟨oe,vs,h1,h2,h3⟩:=e;exact h2 ▸ (Looks.ld h1).andThen .now
theorem zh2{R:Result->Shared->Prop}{tp:Value}(c:xj K D)(X:K.In s.heap)(e:zam x (.ref D) s.heap)(h:R (.ok (.ret (.ref D))) s):
  codeAny (model prog w) A (.call (.builtin "getset_descriptor.__get__") ⟨[.builtin "object.__class__",.ref x,tp],[]⟩) R s:=by
 obtain⟨hh,g,dr,t,os⟩:=s;have LT:=e.ty (M:=model prog w);have LM:=looks_mroIn (M:=model prog w) X c.ob;refine codeAny_call_builtin KF.slot_gs.plain KF.entry_gs ?_;refine KF.slot_gs.check _ _ _ _ _ _ _ _ KF.type_class (KF.args_gs _ _ _) ?_;unfold Builtin.«getset_descriptor.__get__»;unfold descrGet;rw[dga_obj (.builtin "object.__class__") tp x];refine zwb (zwp ?_);unfold descrGetter;unfold descrCheckInstance descrNameAndClass;unfold isInstance;simp only[KF.owner_class]
 repeat lk
 exists Code.quiet_builtin _ (by decide +kernel),?_
 refine codeAny_builtin KF.entry_class ?_;unfold Builtin.«object.__class__»;unfold shownTypeOf
 repeat lk
 exact h
theorem zeb{Q:Option Value->Shared->Prop}(c:xj K D)(X:K.In s.heap)(e:zam x (.ref D) s.heap)(h:Q (some (.ref D)) { s with toks:=s.toks+1 }):wpAny (model prog w) A (getAttr? (.ref x) "__class__") Q E s:=by
 obtain⟨hh,g,dr,t,os⟩:=s;have LT:=e.ty (M:=model prog w);have LG:=looks_findIn (M:=model prog w) X c.ga;have LN:=looks_findIn (M:=model prog w) X c.no;have LC:=looks_findIn (M:=model prog w) X c.cl;have LB:=looks_mroIn (M:=model prog w) X c.be;have L2:=looks_specialIn (M:=model prog w) X c.gt;have L3:=looks_takesIn (M:=model prog w) X c.tk;unfold getAttr?;unfold getAttrBy? getAttrBy;refine zwb (wpAny_mkText (zwb (wpAny_attempt ?_)));refine wpAny_holding (zwb (LT.at (zwb (LG.at ?_))));have hne:(onTheHeap (Value.ref D)&&Value.builtin "BaseException.__getattribute__"==Value.builtin "object.__getattribute__")=false:=by
  rw[show(Value.builtin "BaseException.__getattribute__"==Value.builtin "object.__getattribute__")=false from by decide +kernel,Bool.and_false]
 dsimp only;rw[hne];rw[if_neg zft];unfold getAttrByItsOwn hookBefore;rw[if_pos (show onTheHeap (Value.ref D)=true from rfl)];refine zwb (LN.at (zwb (wpAny_attempt (wpAny_holding ?_))));unfold callGetattribute boundAndCalled;rw[if_neg (by simp)]
 have fb:=PySem.F.attrBase_ValueError.ga;rw[fb.bind (.ref x)];refine zwb (zwp ?_);refine wpAny_call (codeAny_call_builtin fb.plain F.entry_bexc_ga ?_);have ck:∀(Q':Unit->Shared->Prop) (E':VSP) (A':Around),Q' () ⟨hh,g,dr,t+1,os⟩->wpAny (model prog w) A' (checkBuiltinCall "BaseException.__getattribute__" ⟨[.ref x,.str "__class__" t],[]⟩) Q' E' ⟨hh,g,dr,t+1,os⟩:=by
  intro Q' E' A' q';have k1:builtinKind "BaseException.__getattribute__"=some .slot:=by decide +kernel
  have k2:splitId "BaseException.__getattribute__"=some ("BaseException","__getattribute__"):=by decide +kernel
  have k3:=F.args_bexc_ga (.ref x) (.str "__class__" t);simp only[checkBuiltinCall,k1,k2];refine zwb ?_;unfold isInstance
  repeat (first|lk|wp_step)
  exact q'
 refine ck _ _ _ ?_;unfold Builtin.«object.__getattribute__»;unfold find getOf dataDescriptor?
 repeat (first|lk|wp_step)
 refine wpAny_run (zh2 (s:=⟨hh,g,dr,t+1,os⟩) c X e ?_);refine zwp (zwp ?_);show wpAny _ _ (handedOut (Value.ref D)) _ _ _;rw[handedOut_of (show handedIn (Value.ref D)=true from rfl)];exact zwp (zwp h)
theorem zgg(c:xj K D):KitX K (.ref x) (.ref D) (zam x (.ref D)) where
 ty:=fun _ _ _ e=>e.ty
 it:=fun _ _ X _=>by
  obtain⟨cd,hc⟩:=Option.isSome_iff_exists.mp c.cd;unfold clsIn at hc;split at hc
  ·rename_i c' d' cd' sl' ho
   intro A' Q' E' s' k q;unfold isType;unfold loadHead;exact zwb (wpAny_loadPart (k _ _ (X _ _ ho)) (zwp q))
  ·cases hc
 ne:=fun h tp dd its n sl X htp=>by
  obtain⟨cd,hc⟩:=Option.isSome_iff_exists.mp c.cd;refine Bool.eq_false_iff.mpr fun q=>?_;have z:D=tp:=Value.ref.inj (beq_iff_eq.mp q);subst z;unfold clsIn at hc;split at hc
  ·rename_i c' d' cd' sl' ho
   have w:=(X _ _ ho).symm.trans htp;cases w
  ·cases hc
 ca:=fun X e k=>zeb c X e k
end
end L2
namespace L2
open PySem PySem.Spec PyProof.Rows
section
variable {X:Cx}
structure vi(k:Nat)(A:Around):Prop where
 dp:A.depth+3 * k+5<recursionLimit
 un:A.units+16 * k+200<cLine
theorem yf.m{k:Nat}{A:Around}(r:yf k A):vi k A:=⟨r.dp,r.un⟩
theorem vi.mark{k:Nat}{A:Around}(r:vi k A)(h:Option Value):vi k (A.mark h):=⟨r.dp,r.un⟩
theorem vi.deeper{k:Nat}{A:Around}(r:vi (k+1) A)(env:Env):vi k (A.deeper env):=
 ⟨by have:=r.dp;show A.depth+1+3 * k+5<_;omega,by have:=r.un;show A.units+3+16 * k+200<_;omega⟩
theorem vi.depth{k:Nat}{A:Around}(r:vi k A):A.depth<recursionLimit:=by have:=r.dp;omega
abbrev zdw(P:Program)(w:World)(K:Frag)(mg:Str->Option Value)(base:Heap)(N:List Str)(qual:Str)(scope:Scope)(f:Addr)(cd:Value)(A:Around)(outer:List Env)(s:Shared)(H:Hp):Cx:=
 { jk CX0 P w K mg base N qual scope f cd A outer s H E0 with calm:=false,xe:=fun _ _=>False }
variable {P:Program}{w:World}{K:Frag}{mg:Str->Option Value}{base:Heap}
theorem zcD{N ps:List Str}{qual:Str}{scope:Scope}{f:Addr}{cd:Value}{A:Around}{outer:List Env}{s s1:Shared}{H:Hp}{us:List Value}{vs:List V}
  (S:zq N ps scope) (e0:qG P w K mg base A outer s H) (hl:vs.length=ps.length) (r:zX vs us)
  (x:InCallC s s.heap.objs.size (bindL (envOfC qual scope s.heap.objs.size f cd).kindOf (ps.zip us) fun _=>none) (cellsFrom (s.heap.objs.size+1) scope.names []) (bindC (envOfC qual scope s.heap.objs.size f cd).kindOf (ps.zip us) fun _=>none) s1) :
  Inv (zdw P w K mg base N qual scope f cd A outer s H) [] (wg N vs) H s1:=by
 have e1:qG P w K mg base { A with handled:=none } outer s H:=⟨e0.frames,e0.mod,e0.bs,e0.bsz,e0.funs,e0.frf,e0.hok,e0.bare⟩
 have I:Inv (jk CX0 P w K mg base N qual scope f cd { A with handled:=none } outer s H E0) [] (wg N vs) H s1:=qZ S rfl e1 hl r x
 exact⟨⟨I.ok.mod,I.ok.kind,I.ok.glob,I.ok.blt,I.ok.above,I.ok.inj,I.ok.has,I.ok.cab,(fun z=>Bool.noConfusion z),Around.frames_deeper e0.frames,I.ok.stk,I.ok.exf,I.ok.bs,I.ok.bsz,I.ok.noex,I.ok.exfs,I.ok.funs,I.ok.frf⟩,I.os,I.bare,I.base,I.loc,I.cell,I.free,I.freeC,I.pin,I.hok,I.len⟩
variable {k:Nat}{f:Addr}{fd:FuncData}{ps:List Str}{sp:Sp}{x:Str}{p pos:Pos}{e:Expr}{es:List Expr}{t:TA}
end
section
variable {prog:Program}{w:World}{A:Around}{E:VSP}{s:Shared}{r:Addr}{n:Int}{t u v:Tok}
variable {X:Cx}{tg:Expr}
variable {o i:Expr}{to ti:TE}{pos tpos:Pos}
inductive zlQJ(x:V)(y:V)(H:Hp)(Q:VK):Prop|mk(a c:Addr)(xs ys:List V):x=.ref a->y=.ref c->H a=some (.lst xs)->H c=some (.lst ys)->xs.length≠ys.length->(Q (.bl false) H)->zlQJ x y H Q
def zlQ:R2:=fun x y H Q=>zlQJ x y H Q
theorem zbp(hu:X.A.units<cLine):OpR X (compareOp .Eq) zlQ:=by
 intro pins s σ H x y v u Q I rx ry h;obtain⟨a,c,xs,ys,rfl,rfl,ha,hc,hn,q⟩:=h;cases rx;cases ry;obtain⟨its,r,pl,_⟩:=I.list (zg ha);obtain⟨its2,r2,pl2,_⟩:=I.list (zg hc);have e1:=r.length;have e2:=r2.length;exact PySem.SeqAt.eq_list_lengthsAt pl.isList pl2.isList (by simp only[size_toArray,bne_iff_ne];omega) hu ⟨.bl false,H,I,rfl,q⟩
variable {pins:PnL}{σ:St}{e:Expr}{te:TE}{p:Pos}{C:Addr}{x:Str}
structure Mk0(K:Frag)(C:Addr):Prop where
 makes:makesIn K C=true
 init:findIn K (.ref C) "__init__"=some (some (.builtin "object.__init__"))
 kp:keepIn K (.ref C)=true
def zlC(C:Addr):TE:=fun _ H Q=>∀x dx,H x=none->H dx=none->dx≠x->Q (.ref x) (upd (upd H dx (.own x)) x (.ins C dx []))
theorem zfj(M:Mk0 X.K C)(hg:Gl X x)(hm:X.mg x=some (.ref C))(hdb:(x==("__debug__" : Str))=false:=by decide):PE X (.Call (.Name x p) [] [] pos) (zlC C):=by
 exists ?_;intro pins s σ H Q I h;refine wpAny_Call_Name_kw (xX I hg hm ?_ hdb);refine callWith_K0 I.kIn M.kp ?_;have hq:=h (s.heap.objs.size+1) s.heap.objs.size (I.hok.fresh (le_succ _)) (I.hok.fresh (le_refl _)) (ne_of_lt (lt_succ_self _));have I2:=Inv.made (C:=C) I;have Y:=makes_of (M:=model X.prog X.w) I.kIn M.makes;refine wpAny_call (zd3 I.kIn M.makes M.init (fun self=>PySem.W.Looks.of_pure (PySem.W.oi_bind self)) ?_);have e2:((s.heap.push emptyDict).push (instObj C s.heap.objs.size)).get? (s.heap.objs.size+1)=some (instObj C s.heap.objs.size):=by
  have:=zgs (s.heap.push emptyDict) (o:=instObj C s.heap.objs.size) rfl
  rwa [Heap.size_push] at this
 have t1:Looks (model X.prog X.w) ((s.heap.push emptyDict).push (instObj C s.heap.objs.size)) (typeOf (.ref (s.heap.objs.size+1))) (.ref C):=(PySem.W.Looks.ld e2).andThen .now;have t2:Looks (model X.prog X.w) ((s.heap.push emptyDict).push (instObj C s.heap.objs.size)) (isInstance (.ref (s.heap.objs.size+1)) (.type "object")) true:=
  t1.andThen (Y.top.keeps fun b o e=>zgp _ (zgp _ e))
 refine codeAny_call_builtin PySem.W.oi_plain PySem.W.entry_oi (@PySem.W.check_slot (model X.prog X.w) _ _ _ "object.__init__" "object" "__init__" (.ref (s.heap.objs.size+1)) [] [] _ PySem.W.oi_kind PySem.W.oi_split t2 (PySem.W.oi_args (.ref (s.heap.objs.size+1))) ?_);rw[PySem.W.oi_run];exact zwp (And.intro rfl ⟨V.ref (s.heap.objs.size+1),_,I2,rfl,hq⟩)
theorem wm{H H1:Hp}{x dx:Addr}{o1 o2:HO}(hx:H x=none)(hd:H dx=none)(s:zo (upd (upd H dx (.own x)) x o1) H1):zo H (upd H1 x o2):=fun b u q=>by
 rw[zf (zd q hx)];exact s _ _ (yL hx hd b u q)
structure uY(P:Program)(w:World)(K:Frag)(mg:Str->Option Value)(base:Heap)(CX:CXT)(k:Nat)(x:Str)(C i:Addr)(fd:FuncData)(ps:List Str)(ds:List Value)(sp:Sp):Prop where
 mkr:Mk K C i
 ok:zx P w K mg base CX k i fd ps sp
 mg:mg x=some (.ref C)
 bd:zN K fd ps ds
end
section
variable {X:Cx}{CX:CXT}{k:Nat}{C i f:Addr}{fd:FuncData}{ps ks:List Str}{sp:Sp}{E:XK}{x m:Str}{p pos apos:Pos}{e:Expr}{es:List Expr}{t tk:TA}{ds:List Value}{dvs:List V}{kws:List Keyword}
 {g:List Value->List Value->List Value}{gV:List V->List V->List V}
theorem cMk(c:uY X.prog X.w X.K X.mg X.base CX k x C i fd ps ds sp)(hd:zX dvs ds)(hp:xy CX X E)(hr:yf (k+1) X.A)(ha:PA X (e::es) t)(hg:Gl X x:=by rfl)(hdb:(x==("__debug__" : Str))=false:=by decide)
  (h1:wD e=false:=by rfl) (h2:es.any wD=false:=by rfl):PE X (.Call (.Name x p) (e::es) [] pos) (zie C sp dvs E t):=zaJ c.mkr c.ok hr hg c.mg c.bd hd hp ha hdb (yx h1) (xN h2)
structure qz(K:Frag)(C:Addr)(m:Str)(f:Addr):Prop where
 ga:specialIn K (.ref C) "__getattribute__"=some (some (.builtin "type.__getattribute__"))
 rd:PySem.W.readsIn K C (.type "type")=true
 fc:PySem.W.findCls K (.ref C) (.type "type") m=some (.val (.ref f))
 kp:keepIn K (.ref f)=true
theorem zbl{pl:Sem Bool}(B:qz X.K C m f)(hm:X.mg x=some (.ref C))(F:zx X.prog X.w X.K X.mg X.base CX k f fd ps sp)(hr:yf k X.A)(hb:zN X.K fd ps [])(hx:xy CX X E)(ha:PA X (e::es) t)(hg:Gl X x:=by rfl)
  (hdb:(x==("__debug__" : Str))=false:=by decide) (h1:wD e=false:=by rfl) (h2:es.any wD=false:=by rfl)
  (ht:eval (.Call (.Attribute (.Name x p) m apos) (e::es) [] pos) X.env=(do
   let ov <- eval (.Name x p) X.env
   standAt apos.atName
   let (f,first) <- holding [ov] (getMethod ov m pl)
   callWith pos f first (backTo pos (starEach (e::es) X.env)) (backToKw pos (keywordEach [] X.env))):=by rfl) :
  PE X (.Call (.Attribute (.Name x p) m apos) (e::es) [] pos) (za6 sp [] E t):=by
 exists ?_;intro pins s σ H Q I h;refine methodCall_KW (pl:=pl) (xX I hg hm ?_ hdb) ht;refine PySem.W.method_cls I.kIn B.ga (PySem.W.cls_value I.kIn B.rd B.fc rfl ?_);have It:=I.tok (s.toks+1);refine callWith_K (first:=[]) (h₀:=X.base) I.ok.mod.kin B.kp (thn (ha pos pins _ σ H _ It h) fun us s2 ⟨vs,H2,I2,r,q2⟩=>⟨I2.kIn,?_⟩) (yx h1) (xN h2)
 exact jQ F hr hb .nil hx I2 r q2
theorem xV{X:Cx}{st:Stmt}:PS X st (fun _ _ _=>False):=⟨fun _ _ _ _ _ _ h=>h.elim⟩
def zmo(P:Program)(w:World)(a:Addr)(S:Str->Bool)(n:Nat)(h:Heap):Prop:=h.SetOf (strKind P w) a S n
abbrev vk(P:Program)(w:World)(a:Addr)(S:Str->Bool)(n:Nat):HO:=.ext (zmo P w a S n)
theorem zaw{P:Program}{w:World}{H:Hp}{h:Heap}{a:Addr}{S:Str->Bool}{n:Nat}(e:h.SetOf (strKind P w) a S n):yq P w H h a (vk P w a S n):=
 ⟨e,let ⟨o,_,_,_,h1,_⟩:=e;⟨o,h1⟩,fun g1 g2 q k=>let ⟨o,es,ep,t,h1,c⟩:=q;⟨o,es,ep,t,k o h1,c⟩⟩
theorem zej:xF X (.type "set") (fun xs H Q=>xs=[]/\∀p,H p=none->Q (.ref p) (upd H p (vk X.prog X.w p (fun _=>false) 0))):=by
 intro pins s σ H xs us Q I r h;obtain⟨rfl,q⟩:=h;cases r;refine call_set_0 fun led=>?_;have hf:H s.heap.objs.size=none:=I.hok.fresh (le_refl _);exists .ref s.heap.objs.size,_,I.laid (t':=s.toks) (fun b u e=>zgp _ e) (le_refl _) (zaw ?_),rfl,q _ hf;exact(setObjOf_fresh led).setOf (zgs _ rfl) (by decide)
theorem jY:OpR X (compareOp .In) (fun x y H Q=>∃(a:Addr) (S:Str->Bool) (n:Nat) (z:Str),x=.str z/\y=.ref a/\H a=some (vk X.prog X.w a S n)/\Q (.bl (S z)) H):=by
 intro pins s σ H x y v u Q I rx ry h;obtain⟨a,S,n,z,rfl,rfl,e,q⟩:=h;obtain⟨t,rfl⟩:=rx;cases ry;have hS:s.heap.SetOf (strKind X.prog X.w) a S n:=(I.hok a _ e).1;exact wpAny_inSet_of (strKind_is X.prog X.w z t) rfl hS ⟨.bl (S z),H,I.tok _,rfl,q⟩
inductive zkkJ(P:Program)(w:World)(te:TE)(σ:St)(Q:VK)(x:V)(H1:Hp):Prop|mk(a:Addr)(S:Str->Bool)(n:Nat):x=.ref a->H1 a=some (vk P w a S n)->(te σ H1 fun y H2=>∃(S:Str->Bool) (n:Nat) (z:Str),y=.str z/\H2 a=some (vk P w a S n)/\n+1<scanBound/\Q .non (upd H2 a (vk P w a (fun k=>S k||decide (k=z)) (if S z then n else n+1))))->zkkJ P w te σ Q x H1
def zkk(P:Program)(w:World)(to te:TE):TE:=fun σ H Q=>to σ H fun x H1=>zkkJ P w te σ Q x H1
theorem zhi{o e:Expr}{apos cpos:Pos}{to te:TE}(ho:PE X o to)(he:PE X e te)(m:M1 X o "add" apos e cpos):PE X (.Call (.Attribute o "add" apos) [e] [] cpos) (zkk X.prog X.w to te):=by
 exists ?_;intro pins s σ H Q I h;refine wpAny_Call_method m.base m.few m.line PySem.F.plainAttrs_set PySem.F.slot_set_add PySem.F.type_set_add (thn (ho pins s σ H _ I h) fun u s1 ⟨x,H1,I1,rx,a,S,n,ex,d,q1⟩=>?_);subst ex;obtain rfl:u=Value.ref a:=rx;have hS:s1.heap.SetOf (strKind X.prog X.w) a S n:=(I1.hok a _ d).1;exists hS.typeIs,hS.noDict,?_;rw[m.trees];refine Calls.callWith_builtin rfl (Calls.evalArgs_plain (Calls.spliced_cons (thn (he pins s1 σ H1 _ I1 q1) fun iv s2 ⟨y,H2,I2,ry,S2,n2,z,ey,e2,hn,q2⟩=>Calls.spliced_nil ?_)));subst ey;obtain⟨t,rfl⟩:=ry;have hS2:s2.heap.SetOf (strKind X.prog X.w) a S2 n2:=(I2.hok a _ e2).1;refine call_set_add (strKind_is X.prog X.w z t) rfl hS2 hn fun h' hs hS3=>⟨.non,_,?_,rfl,q2⟩;refine I2.write (x:=a) (e:=a) (by rw[e2];exact True.intro) (.inl rfl) (fun b q hb z=>(hs.2 b hb).trans z) (let ⟨o,_,_,_,h1,_⟩:=hS3;⟨o,h1⟩) (zaw hS3)
inductive ziLJ(Cs:Addr->Prop)(m:Str)(sp:Sp)(E:XK)(Q:VK)(x:V)(H1:Hp):Prop|mk(a C dx fs:_):x=.ref a->Cs C->H1 a=some (.ins C dx fs)->fs.lookup m=none->(sp [x] H1 Q E)->ziLJ Cs m sp E Q x H1
def ziL(Cs:Addr->Prop)(m:Str)(sp:Sp)(E:XK)(ta:TE):TE:=fun σ H Q=>ta σ H fun x H1=>ziLJ Cs m sp E Q x H1
theorem wM{CX:CXT}{k:Nat}{f:Addr}{fd:FuncData}{ps:List Str}{sp:Sp}{E:XK}{m:Str}{pos apos:Pos}{o:Expr}{ta:TE}{Cs:Addr->Prop}{pl:Sem Bool}(he:PE X o ta)(hC:∀C,Cs C->Cls X.K C/\yT X.K C m f)(F:zx X.prog X.w X.K X.mg X.base CX k f fd ps sp)(hr:yf k X.A)(hb:zN X.K fd ps [])(hx:xy CX X E)
  (ht:eval (.Call (.Attribute o m apos) [] [] pos) X.env=(do
   let ov <- eval o X.env
   standAt apos.atName
   let (f,first) <- holding [ov] (getMethod ov m pl)
   callWith pos f first (backTo pos (starEach [] X.env)) (backToKw pos (keywordEach [] X.env))):=by rfl) :
  PE X (.Call (.Attribute o m apos) [] [] pos) (ziL Cs m sp E ta):=by
 exists ?_;intro pins s σ H Q I h;refine methodCall_KW (pl:=pl) (thn (he pins s σ H _ I h) fun u s1 ⟨x,H1,I1,rx,a,C,dx,fs,ex,hc,ea,l,q⟩=>?_) ht;subst ex;obtain rfl:u=Value.ref a:=rx;obtain⟨c,hm⟩:=hC C hc;refine ve I1 ea c hm l ?_;exact callWith_K0 (first:=[.ref a]) I1.kIn hm.kp (jQ (us:=[.ref a]) (vs:=[.ref a]) F hr hb .nil hx I1 (.cons rfl .nil) q)
structure zkb(w:World)(K:Frag)(a:Addr)(f:Str->Option V):Prop where
 obj:∃es n,K.lookup a=some ⟨.type "dict",none,.dict es n,#[]⟩/\KeysLit w.params es.toList
 vals:∀x v,f x=some v->∃u,nsIn K a x=some (some u)/\zT v u
theorem zhj{e:Expr}{d:Str}{p pos:Pos}{a:Addr}{f:Str->Option V}{te:TE}(T:zkb X.w X.K a f)(hm:X.mg d=some (.ref a))(he:PE X e te)(hg:Gl X d:=by rfl)(hs:zka e:=by first|exact fun _ _=>rfl|decide|rfl)(hdb:(d==("__debug__" : Str))=false:=by decide):
  PE X (.Subscript (.Name d p) e pos) (fun σ H Q=>te σ H fun y H1=>∃x v,y=.str x/\f x=some v/\Q v H1):=by
 exists ?_;intro pins s σ H Q I h;obtain⟨es,n,hl,hk⟩:=T.obj;refine zcR PySem.F.slot_dict_getitem.lookup hs (xX I hg hm (thn (he pins s σ H _ I h) fun iv s2 ⟨y,H2,I2,ry,x,v,ey,ef,q2⟩=>?_) hdb);subst ey;obtain⟨t,rfl⟩:=ry;obtain⟨u,eu,ru⟩:=T.vals x v ef;have hmap:=PySem.W.mapOf_K (prog:=X.prog) (w:=X.w) I2.kIn hl hk;exact⟨hmap.typeIs,wpAny_getItem_of (strKind_is X.prog X.w x t) hmap (PySem.W.find_K hl eu) ⟨v,H2,I2.tok _,ru,q2⟩⟩
variable {pins:PnL}{σ:St}{H:Hp}{s:Shared}{sc:Scope}{fr Nc:List Str}{fp:List Addr}
theorem zbI{caps:List (Option Nat)}{h':Heap}{D:Addr}{m:Str->Option Value}{t':Nat}{o0:HO}(I:Inv X pins σ H s)(B:yU X.env sc fr)(hf:∀b∈fp,vf X pins H b)(ho:∀b∈fp,∃o,s.heap.get? b=some o)
  (hC:s.heap.objs.size<=C) (hD:s.heap.objs.size<=D) (hDC:D≠C) (keep:∀b o,s.heap.get? b=some o->h'.get? b=some o) (new:yq X.prog X.w (upd H D o0) h' D o0) (hn:h'.Ns C m)
  (hcap:vC X.N Nc caps X.env sc fr=true) (hlen:caps.length=Nc.length) :
  Inv (zZ X pins sc fr Nc fp s H C) [] (yY caps σ) (upd H D o0) { s with heap:=h',toks:=t' }:=by
 have hk:X.env.scope.kind=.function:=I.ok.kind;have fresh:∀a,s.heap.objs.size<=a->H a=none:=fun a ha=>I.hok.fresh ha;exists zdx I B hf ho hC,rfl,I.bare,Un.laid keep hD (fresh D hD),⟨m,hn,fun i x v e1 e2 e3=>?_⟩,fun x c h=>?_,?_,fun x c h=>?_,fun p hp=>?_,?_,?_
 ·
  have e2':(caps[i]?).map (fun o=>match o with|none=>none|some j=>(σ[j]?).join)=some (some v):=by
   have:(yY caps σ)[i]?=some (some v):=e2
   unfold yY at this;rw[getElem?_map] at this;exact this
  cases hc:caps[i]? with
  | none=>rw[hc] at e2';cases e2'
  | some o=>
   rw[hc] at e2';cases o with
   | none=>simp at e2'
   | some j=>
    have e4:(σ[j]?).join=some v:=by simpa using e2'
    have e5 : σ[j]?=some (some v):=by
     cases q : σ[j]? with
     | none=>rw[q] at e4;cases e4
     | some w'=>rw[q] at e4;simp at e4;rw[e4]
    have e6:(Nc.zip caps)[i]?=some (x,some j):=by
     rw[List.getElem?_zip_eq_some];exact⟨e1,hc⟩
    have e7:=List.all_eq_true.mp hcap _ (mem_of_getElem? e6);simp only[Bool.and_eq_true,beq_iff_eq,List.contains_iff_mem] at e7;obtain⟨⟨⟨a1,a2⟩,a3⟩,a4⟩:=e7;obtain⟨m0,hn0,hl0⟩:=I.loc;obtain⟨u,r,l⟩:=hl0 j x v a1 e5 (.inr (.inl a2));exists u,r,.inr ⟨.inl (wY hk a3 a2),_,za0 a4,?_⟩;rcases l with ⟨z,_⟩|⟨_,c,ec,hcell⟩
    ·rw[a2] at z;cases z
    ·have:(X.env.cells.lookup x).getD 0=c:=by rw[ec];rfl
     rw[this];exact hcell.keeps keep
 ·obtain⟨v,hv⟩:=I.cell x c (B.sub h)
  exact⟨v,hv.keeps keep⟩
 ·show upd H D o0 C=none
  rw[zf (Ne.symm hDC)];exact fresh C hC
 ·obtain⟨v,hv⟩:=I.cell x c (B.sub h)
  have:c≠D:=fun z=>by have:=hv.lt;rw[z] at this;exact absurd (lt_of_lt_of_le this hD) (lt_irrefl _)
  rw[zf this];exact I.freeC x c (B.sub h)
 ·have hp':p∈X.pn++pins:=by simpa using hp
  obtain⟨e,n,ne,nf,d⟩:=I.pin p hp';have hlt:=I.pin_lt hp';exists keep _ _ e,?_,?_,fun z=>?_,d
  ·rw[zf (fun z=>by rw[z] at hlt;exact absurd (lt_of_lt_of_le hlt hD) (lt_irrefl _))];exact n
  ·intro z
   have z':p.1=C:=z;rw[z'] at hlt;exact absurd (lt_of_lt_of_le hlt hC) (lt_irrefl _)
  ·rcases List.mem_cons.mp (I.stkSub p.1 z) with q|q
   ·exact ne q
   ·exact nf q
 ·exact I.hok.laid keep hD new
 ·show(yY caps σ).length=Nc.length
  unfold yY;rw[length_map,hlen]
variable {prog:Program}{w:World}{A:Around}{R:Result->Shared->Prop}
theorem qE{kx vx target iter:Expr}{ifs:List Expr}{scope:Scope}{pos:Pos}{it:Value}{D:Addr}{env:Env}(I:Nat->Shared->Prop)
  (turn:∀n s,I n s->wpAny (model prog w) A (pyNext it) (fun r s₁=>match r with
   | none=>R (.ok .next) s₁
   | some v=>wpAny (model prog w) A (letOwnedTupleGo target it v) (fun _ s₀=>wpAny (model prog w) A (assign target env v) (fun _ s₂=>
     wpAny (model prog w) A (forIn ifs true fun c r=>if r=true then do let ok <- isTrue c env (eval c env);pure (ForInStep.yield ok) else pure (ForInStep.yield r)) (fun ok s₃=>
      if ok=true then wpAny (model prog w) A (eval kx env) (fun kv s₄=>wpAny (model prog w) A (eval vx env) (fun vv s₅=>
       wpAny (model prog w) A (dictSet D kv vv) (fun _ s₆=>∃m,m<n/\I m s₆) (fun _ _=>False) s₅) (fun _ _=>False) s₄) (fun _ _=>False) s₃
      else ∃m,m<n/\I m s₃) (fun _ _=>False) s₂) (fun _ _=>False) s₀) (fun _ _=>False) s₁) (fun _ _=>False) s)
  (n:Nat) (h:I n s) :
  codeAny (model prog w) A (.compLoop (.DictComp kx vx [⟨target,iter,ifs,0⟩] scope pos) 0 it (.ref D) env) R s:=by
 refine codeAny_loop rfl I (fun n s hI=>?_) n h;show wpAny _ A ((compTurn (.DictComp kx vx [⟨target,iter,ifs,0⟩] scope pos) 0 it (.ref D) env).onRaise (fun x=>do noteFrame x env;theTreesLotGoes x)) _ _ s
 refine wpAny_noted ?_;rw[compTurn_dict];refine zwb (wpAny_standAt (zwb (wpAny_mono (turn n s hI) (fun r s₁ h₁=>?_) fun _ _ z=>z.elim)));cases r with
 | none=>exact zwp h₁
 | some v=>
  refine zwb (wpAny_mono h₁ (fun _ s₀ h₀=>?_) fun _ _ z=>z.elim);refine zwb (wpAny_mono h₀ (fun _ s₂ h₂=>zwb (wpAny_mono h₂ (fun ok s₃ h₃=>?_) fun _ _ z=>z.elim)) fun _ _ z=>z.elim);cases ok with
  | false=>exact zwp ⟨rfl,h₃⟩
  | true=>
   exact zwb (zwb (wpAny_mono h₃ (fun kv s₄ h₄=>zwb (wpAny_holding (wpAny_mono h₄ (fun vv s₅ h₅=>zwb (wpAny_standAt (wpAny_holding (wpAny_mono h₅ (fun _ s₆ h₆=>zwp ⟨rfl,h₆⟩) fun _ _ z=>z.elim)))) fun _ _ z=>z.elim))) fun _ _ z=>z.elim))
def DCr(J:It)(caps:List (Option Nat))(g:TG)(tt:TT)(tk tv:TE)(σ : St)(H1:Hp)(Q:VK)(D:Addr):Prop:=
 ∃W:Nat->Nat->List (Key×V)->Hp->Prop,(∃m,W 0 m [] (upd H1 D (.dK [])))/\∀i m ys H,W i m ys H->
  (J.stop i H/\Q (.ref D) H)\/
  (J.go i H/\∀x H',J.yld i H x H'->g x (yY caps σ) H' fun σ2 H2=>tt σ2 H2 fun ok H3=>
   (ok=true->tk σ2 H3 fun y H4=>tv σ2 H4 fun v H5=>∃k,y=kV k/\H5 D=some (.dK ys)/\ys.length<sizeLine/\∃m',m'<m/\W (i+1) m' (yC ys k v) (upd H5 D (.dK (yC ys k v))))/\
   (ok=false->∃m',m'<m/\W (i+1) m' ys H3))
def tDC(wi:TI)(caps:List (Option Nat))(g:TG)(tt:TT)(tk tv:TE):TE:=fun σ H Q=>wi σ H fun J H1=>∀D,H1 D=none->DCr J caps g tt tk tv σ H1 Q D
end
section
variable {X:Cx}{pins:PnL}{σ:St}{s:Shared}{sc:Scope}{fr Nc:List Str}{caps:List (Option Nat)}{kx vx tg iter:Expr}{ifs:List Expr}{g:TG}{tt:TT}{tk tv:TE}{ow:List Nat}{pos pos2:Pos}{E:VSP}
theorem zkr{H:Hp}(I:Inv X pins σ H s):sysModules<s.heap.objs.size:=I.big
theorem zeh{H2:Hp}{it:Addr}{fp:List Addr}{tn:Nat->Heap->Prop}{J:It}{Q:VK}{RR:Value->Addr->Result->Shared->Prop}
  (hc:X.calm=true) (B:yU X.env sc fr) (go:zbQ g ow) (how:(ow.all fun i=>caps[i]?==some none)=true) (hcap:vC X.N Nc caps X.env sc fr=true) (hlen:caps.length=Nc.length)
  (hb:∀(pins:PnL) (fp:List Addr) (s:Shared) (H:Hp) (C:Addr),PG (zZ X pins sc fr Nc fp s H C) tg g/\PIf (zZ X pins sc fr Nc fp s H C) ifs tt/\PE (zZ X pins sc fr Nc fp s H C) kx tk/\PE (zZ X pins sc fr Nc fp s H C) vx tv)
  (I2:Inv X pins σ H2 s) (T:qF X.prog X.w X.K tg J fp it tn) (st2:tn 0 s.heap) (f2:∀b∈fp,vf X pins H2 b) (h:∀D,H2 D=none->DCr J caps g tt tk tv σ H2 Q D)
  (fin:∀(D C:Addr) (σ':St) (H':Hp) (s':Shared),Inv (zZ X pins sc fr Nc fp s H2 C) [] σ' H' s'->Q (.ref D) H'->RR (.ref D) C (.ok .next) s') :
  wpAny (model X.prog X.w) X.A newDict (fun acc s₃=>wpAny (model X.prog X.w) X.A (newFunctionEnv sc X.env.globals (clB X.env fr) [] X.env.qual none .none (some X.env)) (fun cenv s₄=>
   codeAny (model X.prog X.w) X.A (.compStart (.DictComp kx vx [⟨tg,iter,ifs,0⟩] sc pos) 0 (.ref it) acc { cenv with scope:=relabel sc X.env }) (RR acc cenv.locals) s₄) E s₃) E s:=by
 have hcell:∀y∈sc.names,y.2≠.cell:=fun y hy=>by
  have h3:=List.all_eq_true.mp B.names _ hy;simp only[Bool.and_eq_true,bne_iff_ne,ne_eq] at h3;exact h3.1.1
 refine wpAny_newObj_type (wpAny_newFunctionEnv hcell (by intro y hy;simp at hy) (fun h₁ hns₁ hsb₁=>?_) B.kind)
 dsimp only at hns₁ hsb₁ |-;have hnew:(s.heap.push { cls:=.type "dict",dict:=none,data:=.dict #[] }).DictOf (yl X.prog X.w) s.heap.objs.size []:=Heap.DictOf.new s.heap;generalize hH2:s.heap.push { cls:=.type "dict",dict:=none,data:=.dict #[] }=H3 at hns₁ hsb₁ hnew |-;have hCs:H3.objs.size=s.heap.objs.size+1:=by rw[<- hH2,Heap.size_push]
 have hDC:s.heap.objs.size≠H3.objs.size:=by rw[hCs];exact ne_of_lt (lt_succ_self _)
 have hC:s.heap.objs.size<=H3.objs.size:=by rw[hCs];exact le_succ _
 have old:∀b o,s.heap.get? b=some o->h₁.get? b=some o:=fun b o e=>
  hsb₁.extBut b o (ne_of_lt (lt_of_lt_of_le (Heap.lt_size e) hC)) (zgp _ (hH2 ▸ zgp _ e))
 have hsm:sysModules<s.heap.objs.size:=zkr I2;have hD:h₁.DictOf (yl X.prog X.w) s.heap.objs.size []:=hnew.at fun o e=>hsb₁.extBut _ _ hDC (zgp _ e);have hDo:∀H',yq X.prog X.w H' h₁ s.heap.objs.size (.dK []):=fun _=>⟨zero_le _,beq_eq_false_iff_ne.mpr (Ne.symm (ne_of_lt hsm)),[],.nil,hD⟩;have ho:∀b∈fp,∃o,s.heap.get? b=some o:=fun b hb'=>let ⟨o,e,_⟩:=T.obj 0 _ st2 b hb';⟨o,e⟩;have I4:∀t',Inv (zZ X pins sc fr Nc fp s H2 H3.objs.size) [] (yY caps σ) (upd H2 s.heap.objs.size (.dK [])) { s with heap:=h₁,toks:=t' }:=fun t'=>
  zbI I2 B f2 ho hC (le_refl _) hDC old (hDo _) hns₁ hcap hlen
 have ok:=(I4 0).ok;obtain⟨hbg,hbt,hbk,hbv⟩:=hb pins fp s H2 H3.objs.size;obtain⟨W,⟨m0,w0⟩,turn⟩:=h s.heap.objs.size (I2.hok.fresh (le_refl _));have stat:∀{H':Hp},(∀b∈fp,H' b=none)->∀b∈fp,vf (zZ X pins sc fr Nc fp s H2 H3.objs.size) [] H' b:=fun hn b hb'=>
  ⟨hn b hb',(ok.exf b hb').1,ok.exfs b hb',.inl hb',(ok.exf b hb').2,fun p hp=>(f2 b hb').2.2.2.2.2 p (by simpa using hp)⟩
 have hfp0:∀b∈fp,upd H2 s.heap.objs.size (.dK []) b=none:=fun b hb'=>by
  obtain⟨o,e⟩:=ho b hb';rw[zf (ne_of_lt (Heap.lt_size e))];exact(f2 b hb').1
 have loop:∀s₃:Shared,s₃={ s with heap:=h₁,toks:=s.toks+([]:List (Str×Value)).length }->
   codeAny (model X.prog X.w) X.A (.compLoop (.DictComp kx vx [⟨tg,iter,ifs,0⟩] sc pos) 0 (.ref it) (.ref s.heap.objs.size) (compEnvC sc (clB X.env fr) H3.objs.size X.env)) (RR (.ref s.heap.objs.size) H3.objs.size) s₃:=by
  rintro s₃ rfl;refine qE (fun n s'=>∃i σ' H' ys,Inv (zZ X pins sc fr Nc fp s H2 H3.objs.size) [] σ' H' s'/\tn i s'.heap/\(∀b∈fp,H' b=none)/\W i n ys H'/\
   (∀(k:Nat) (v:V),(yY caps σ)[k]?=some (some v)->σ'[k]?=some (some v))) ?_ m0
   ⟨0,_,_,[],I4 _,T.keep _ _ _ st2 (fun b _ o e=>old b o e),hfp0,w0,fun _ _ e=>e⟩
  rintro n s3 ⟨i,σ3,H4,ys,I3,st3,fr3,w3,wk3⟩;have I3':Inv (zZ X pins sc fr Nc fp s H2 H3.objs.size) [] (yY caps σ) H4 s3:=I3.weak (by rw[I3.len];exact(I4 0).len) wk3
  rcases turn i n ys H4 w3 with ⟨stop,qn⟩|⟨gg,step⟩
  ·refine thn (T.done (zZ X pins sc fr Nc fp s H2 H3.objs.size) rfl rfl rfl hc i [] s3 _ H4 (fun _ _=>False) I3' (stat fr3) st3 stop) fun r s4 ⟨hr,I4'⟩=>?_
   subst hr;exact fin _ _ _ _ _ I4' qn
  ·refine thn (T.item (zZ X pins sc fr Nc fp s H2 H3.objs.size) rfl rfl rfl hc i [] s3 _ H4 (fun _ _=>False) I3' (stat fr3) st3 gg) fun r s4 ⟨u,hr,h4⟩=>?_
   subst hr;refine thn h4 fun _ s5 ⟨x,H5,I5,r5,y5,st5,fr5⟩=>?_;have I5':=I5.pinned (stat fr5) (T.obj _ _ st5);refine thn (hbg _ s5 _ H5 x u _ I5' r5 (go _ _ _ _ (step x H5 y5))) fun _ s6 ⟨σ6,H6,I6,q6,l6,k6⟩=>?_;have wk6:∀(k:Nat) (v:V),(yY caps σ)[k]?=some (some v)->σ6[k]?=some (some v):=fun k v e=>by
    rw[k6 k fun hk=>?_]
    ·exact e
    ·have h1:=List.all_eq_true.mp how k hk
     have h2:caps[k]?=some none:=by simpa using h1
     unfold yY at e;rw[getElem?_map,h2] at e;cases e
   refine thn (hbt _ s6 σ6 H6 _ I6 q6) fun ok s7 ⟨H7,I7,q7⟩=>?_;have again:∀{H8:Hp}{s8:Shared}{ys':List (Key×V)},Inv (zZ X pins sc fr Nc fp s H2 H3.objs.size) ([]++uL fp s5.heap) σ6 H8 s8->(∃m',m'<n/\W (i+1) m' ys' H8)->
     ∃m,m<n/\∃i σ' H' ys,Inv (zZ X pins sc fr Nc fp s H2 H3.objs.size) [] σ' H' s8/\tn i s8.heap/\(∀b∈fp,H' b=none)/\W i m ys H'/\(∀(k:Nat) (v:V),(yY caps σ)[k]?=some (some v)->σ'[k]?=some (some v)):=fun {H8 s8 ys'} I8 ⟨m',hm,w8⟩=>by
    exists m',hm,i+1,σ6,H8,ys',I8.unpinned,T.keep _ _ _ st5 fun b hb' o e=>(I8.pin (b,o) (mem_append_right _ (mem_append_right _ (xK hb' e)))).1,fun b hb'=>?_,w8,wk6;obtain⟨o,e,d⟩:=T.obj _ _ st5 b hb';exact(I8.pin (b,o) (mem_append_right _ (mem_append_right _ (xK hb' e)))).2.1
   cases ok with
   | false=>
    rw[if_neg zft];exact again I7 (q7.2 rfl)
   | true=>
    rw[if_pos rfl];refine thn (hbk _ s7 σ6 H7 _ I7 (q7.1 rfl)) fun uk s8 ⟨y,H8,I8,r8,q8⟩=>?_;refine thn (hbv _ s8 σ6 H8 _ I8 q8) fun uv s9 ⟨v,H9,I9,r9,k,ey,hD9,hz,q9⟩=>?_;subst ey;obtain⟨z,hd,vs,rel,dd⟩:=ziz I9.hok hD9;have hzs:vs.length<=sizeLine:=by rw[<- rel.length];exact z
    have hl:(yC ys k v).length<=sizeLine:=by have:=xP ys k v;omega
    refine wpAny_dictSet_pairs (hsz:=hzs) (qc r8) dd fun h' dd' hs=>?_;have he:∃q,h'.get? s.heap.objs.size=some q:=let ⟨q,_,_,hq,_⟩:=dd';⟨q,hq⟩;exact again (zaY I9 (by rw[hD9];exact True.intro) hs he (zgz hl hd (rel.put k r9) dd')) q9
 exact codeAny_compStart_dict (loop _ rfl) (T.self _ 0 _ _ _ (T.keep _ _ _ st2 (fun b _ o e=>old b o e)) (loop _ rfl))
theorem zkN{wi:TI}(fr Nc:List Str)(caps:List (Option Nat))(hc:X.calm=true)(B:yU X.env sc fr)(hi:PI X tg iter wi)(go:zbQ g ow)(how:(ow.all fun i=>caps[i]?==some none)=true)
  (hcap:vC X.N Nc caps X.env sc fr=true) (hlen:caps.length=Nc.length)
  (hb:∀(pins:PnL) (fp:List Addr) (s:Shared) (H:Hp) (C:Addr),PG (zZ X pins sc fr Nc fp s H C) tg g/\PIf (zZ X pins sc fr Nc fp s H C) ifs tt/\PE (zZ X pins sc fr Nc fp s H C) kx tk/\PE (zZ X pins sc fr Nc fp s H C) vx tv)
  (hs:∀x,foldedSetIterable iter X.env x=pure x:=by intro _;rfl):PE X (.DictComp kx vx [⟨tg,iter,ifs,0⟩] sc pos) (tDC wi caps g tt tk tv):=by
 exists ?_;intro pins s σ H Q I h;rw[arm_eval_DictComp];refine wpAny_comprehension_free (use:=none) rfl hs B.clos B.kind B.loc (thn (hi pins s σ H _ I h) fun v s1 h1=>thn h1 fun itv s2 h2=>?_);obtain⟨it,fp,tn,J,H2,e,I2,T,st2,f2,q⟩:=h2;subst e;refine zeh (RR:=fun acc C=>compPost (model X.prog X.w) X.A X.xe none (EP X pins σ Q) acc C) hc B go how hcap hlen hb I2 T st2 f2 q ?_;intro D C σ' H' s' J' qq;obtain⟨m,hn,_⟩:=J'.loc;exact⟨m,hn,fun h' hs'=>⟨.ref D,H',zah I2 J' (uW I2 f2 J') hs',rfl,qq⟩⟩
def eqT(xs ys:List V):Bool:=((List.range (min xs.length ys.length)).all fun j=>eqV (xs[j]?.getD .non) (ys[j]?.getD .non))&&xs.length==ys.length
end
end L2
namespace K43
open PySem L2 PyProof.Rows
def top(i:Nat):Stmt:=PySem.Challenge.pw_callbinds_k43_values_by_the_paper.main.body.getD i (.Pass ⟨0,0,0,0⟩)
abbrev zjb:Stmt:=top 69
abbrev zb7:Stmt:=top 73
abbrev zfc:Stmt:=top 74
abbrev zaC:Stmt:=top 78
abbrev zce:Stmt:=top 79
abbrev jO:Stmt:=top 80
abbrev zco:Stmt:=top 81
abbrev zci:Stmt:=top 36
abbrev zeZ:Stmt:=top 37
abbrev jL:Stmt:=top 38
abbrev zcf:Stmt:=top 77
abbrev zaz:Stmt:=top 82
abbrev zcg:Stmt:=top 83
abbrev uH:Stmt:=top 84
abbrev zaB:Stmt:=top 85
abbrev uI:Stmt:=top 39
abbrev zb1:Stmt:=z4 (top 67) 0
abbrev zb2:Stmt:=z4 (top 67) 1
abbrev zaA:Stmt:=z4 (top 67) 2
abbrev zcp:Stmt:=z4 (top 4) 0
abbrev zfa:Stmt:=z4 (top 7) 0
abbrev zb4:Stmt:=z4 (top 35) 0
abbrev jK:Stmt:=z4 (top 35) 2
abbrev zb3:Stmt:=z4 (top 35) 3
abbrev sIs:Stmt:=top 43
abbrev zcc:Stmt:=z4 (top 59) 0
abbrev ze6:Stmt:=z4 (top 59) 1
abbrev jP:Stmt:=z4 (top 59) 2
abbrev zaH:Stmt:=z4 (top 59) 3
abbrev zb6:Stmt:=z4 (top 59) 4
abbrev zkH:Stmt:=z4 (top 59) 5
abbrev zeY:Stmt:=z4 (top 60) 0
abbrev zfb:Stmt:=z4 (top 61) 0
abbrev zeX:Stmt:=z4 (top 62) 0
abbrev zi9:Stmt:=z4 (top 63) 0
abbrev zjg:Stmt:=z4 (top 64) 0
abbrev zcl:Stmt:=z4 (top 49) 0
abbrev ze5:Stmt:=z4 (top 49) 1
abbrev zck:Stmt:=z4 (top 49) 2
abbrev zcm:Stmt:=z4 (top 49) 3
abbrev jN:Stmt:=z4 (top 49) 4
abbrev zcj:Stmt:=z4 (top 49) 5
abbrev ze9:Stmt:=z4 (top 49) 6
abbrev ze8:Stmt:=z4 (top 49) 7
abbrev zjf:Stmt:=z4 (top 49) 8
abbrev zeW:Stmt:=z4 (top 15) 0
abbrev zja:Stmt:=top 65
abbrev zb9:Stmt:=top 50
abbrev zaF:Stmt:=top 51
abbrev zca:Stmt:=top 52
abbrev zaE:Stmt:=top 53
abbrev ze2:Stmt:=top 54
abbrev ze3:Stmt:=top 1
abbrev jM:Stmt:=top 23
abbrev zb8:Stmt:=top 25
abbrev zaG:Stmt:=top 26
abbrev zjd:Stmt:=top 27
abbrev zcd:Stmt:=top 28
abbrev zi8:Stmt:=top 29
abbrev ze4:Stmt:=top 30
abbrev ze1:Stmt:=top 32
abbrev zaD:Stmt:=top 33
abbrev zcb:Stmt:=top 24
abbrev zcn:Stmt:=top 31
abbrev zjc:Stmt:=top 71
abbrev ze0:Stmt:=top 72
abbrev ze7:Stmt:=top 86
abbrev zb5:Stmt:=top 75
abbrev zch:Stmt:=top 76
abbrev zje:Stmt:=top 87
def low(c:Nat):Bool:=decide (97<=c)&&decide (c<=122)
def xn(z:Str):Bool:=decide (1<=z.length)&&decide (z.length<=8)&&z.cps.toList.all low
def nmV:V->Bool
 | .str z=>xn z
 | _=>false
def OkS(z:Str):Prop:=z.length<=1000/\∀c∈z.cps.toList,c<128
def OkV(K:Frag)(H:Hp)(x:V):Prop:=(∃z,x=.str z/\OkS z)\/(nmV x=false/\∃t,wp K H x t/\kitOne K t (.type "str")=some false)
theorem uQ{z:Str}:xn z=true ↔ 1<=z.length/\z.length<=8/\∀c∈z.cps.toList,97<=c/\c<=122:=by
 unfold xn low;simp only[Bool.and_eq_true,decide_eq_true_eq,all_eq_true];constructor
 ·rintro⟨⟨a,b⟩,c⟩;exact⟨a,b,c⟩
 ·rintro⟨a,b,c⟩;exact⟨⟨a,b⟩,c⟩
theorem j4{z:Str}(h:z.length=0\/9<=z.length):xn z=false:=by
 cases e:xn z with
 | false=>rfl
 | true=>
  have:=uQ.mp e
  omega
theorem zbs{z:Str}(h:xn z=true):OkS z:=by
 obtain⟨_,h2,h3⟩:=uQ.mp h;exact⟨by omega,fun c hc=>by have:=h3 c hc;omega⟩
def letters:Str:="abcdefghijklmnopqrstuvwxyz"
theorem zcz:∀c:Nat,c<128->(!(Builtin.Str.occurrences letters ⟨#[c]⟩ 0 letters.length 1).isEmpty)=low c:=by decide +kernel
theorem ze{H:Hp}{p:Addr}(h:H p=none)(o:HO):zo H (upd H p o):=fun b u q=>by rw[zf (zd q h)];exact q
theorem zdG{K:Frag}{H H':Hp}{x:V}{t:Value}(s:zo H H')(h:wp K H x t):wp K H' x t:=by
 cases h with
 | non=>exact .non
 | bl b=>exact .bl b
 | int i=>exact .int i
 | str z=>exact .str z
 | flt z=>exact .flt z
 | lst e=>exact .lst (s _ _ e)
 | frz e=>exact .frz (s _ _ e)
 | tup e=>exact .tup (s _ _ e)
 | dK e=>exact .dK (s _ _ e)
 | dT e=>exact .dT (s _ _ e)
 | ins e a b c d f=>exact .ins (s _ _ e) a b c d f
theorem OkV.same{K:Frag}{H H':Hp}{x:V}(s:zo H H')(h:OkV K H x):OkV K H' x:=by
 rcases h with h|⟨h,t,ty,e⟩
 ·exact .inl h
 ·exact .inr ⟨h,t,zdG s ty,e⟩
theorem nd1:([Str.ofString "sign"]:List Str).Nodup:=by decide +kernel
inductive ziT(K:Frag)(vs:List V)(H:Hp)(Q:VK)(E:XK):Prop|mk(x:_):vs=[x]->OkV K H x->(∀H',zo H H'->Q (.bl (nmV x)) H')->ziT K vs H Q E
structure zlu(K:Frag)(mg:Str->Option Value):Prop where
 isi:mg "isinstance"=none
 str:mg "str"=none
 bool:mg "bool"=none
 len:mg "len"=none
 all:mg "all"=none
 range:mg "range"=none
 letters:∃t,mg "LETTERS"=some (.str letters t)
 longest:∃t,mg "LONGEST"=some (.int 8 t)
 kNon:kitOne K (.type "NoneType") (.type "str")=some false
 kInt:kitOne K (.type "int") (.type "str")=some false
 kBl:kitOne K (.type "bool") (.type "str")=some false
 kLst:kitOne K (.type "list") (.type "str")=some false
 kTup:kitOne K (.type "tuple") (.type "str")=some false
 kDct:kitOne K (.type "dict") (.type "str")=some false
 kStr:kitOne K (.type "str") (.type "str")=some true
 bBl:kitOne K (.type "bool") (.type "bool")=some true
section
variable {P:Program}{w:World}{K:Frag}{mg:Str->Option Value}{base:Heap}{f:Addr}{fd:FuncData}
theorem zlL:zq ["thing"] ["thing"] (zj sIs):=fsc
theorem zkP(F:Fun K "is_name" "is_name" sIs f fd)(T:zlu K mg):zx P w K mg base CX0 1 f fd ["thing"] (ziT K):=by
 refine F.ok zlL (fun cdv A outer s H vs Q E hr h=>?_);obtain⟨x,rfl,hx,q⟩:=h;obtain⟨tL,hL⟩:=T.letters;obtain⟨tN,hN⟩:=T.longest;refine⟨_,zh (zE (xi (jS (vc (yp (cB je T.isi boot_isinstance (ac (pv 0) (ac (zde (v:=.ty "str") rfl T.str PyProof.Rows.boot_str rfl) zb)))))
   (uK (vc (zbj zdg zdg zi (cB xY T.len PySem.boot_len (ac (pv 0) zb)) (yB (v:=.int 8) rfl hN ⟨_,rfl⟩))))))
   (zc (zu jW)) zA)
  (zc (zu (cB (zen rfl) T.all boot_all (ac (xO [] ["sign"] [none] rfl ⟨rfl,rfl,rfl,rfl⟩ (zjm (pv 0)) (z7 0) rfl rfl rfl
   (fun pins fp s H C=>⟨zp (i:=0) nd1 rfl (Or.inl rfl) (.inr rfl),y7,wv zdW (pv 0) (yB (v:=.str letters) rfl hL ⟨_,rfl⟩) (by with_unfolding_all rfl)⟩)) zb)))),?_⟩
 rcases hx with ⟨z,rfl,hz1,hz2⟩|⟨hn,t,ty,e⟩
 ·exists _,rfl,_,_,_,_,rfl,.str z,T.kStr,_,rfl,?_
  refine yo ?_;exists _,rfl,z,rfl,le_trans hz1 (by decide),_,_,rfl,rfl,_,rfl,?_
  have no:xn z=false->Q (.bl false) H:=fun e=>by
   have:=q H (zo.refl H)
   have e':nmV (.str z)=false:=e;rw[e'] at this;exact this
  refine vW (fun c=>?_) (fun c=>?_)
  ·have c':(1:Int)<=(z.length:Int):=of_decide_eq_true c
   exists _,_,rfl,rfl,_,rfl,?_;by_cases h8:(z.length:Int)<=8
   ·rw[decide_eq_true h8]
    refine yo ?_;exists _,rfl,z,rfl,fun D hD=>?_;exists fun i m ys H'=>i<=z.cps.size/\m=z.cps.size - i/\ys=(z.cps.toList.take i).map (fun c=>V.bl (low c))/\H'=upd H D (.lst ys),⟨_,zero_le _,rfl,rfl,rfl⟩,?_;rintro i m ys H' ⟨hi,rfl,rfl,rfl⟩;by_cases he:i=z.cps.size
    ·subst he
     refine .inl ⟨le_refl _,?_⟩;exists D,z.cps.toList.map low,rfl,zg ?_,?_
     ·rw[za,take_of_length_le (by simp),map_map]
      rfl
     ·have e:(z.cps.toList.map low).all id=nmV (.str z):=by
       show _=xn z;unfold xn;rw[decide_eq_true (show 1<=z.length by omega),decide_eq_true (show z.length<=8 by omega),List.all_map]
       rfl
      rw[e];exact q _ (ze hD _)
    ·refine .inr ⟨by show i<z.cps.size;omega,?_⟩
     rintro x H' ⟨rfl,c,hc,rfl⟩;exists fun _=>?_,fun e=>Bool.noConfusion e;exists _,rfl,_,_,rfl,rfl,za,?_,z.cps.size - (i+1),by omega,by omega,rfl,?_,?_
     ·rw[length_map,length_take]
      have:z.cps.size<=1000:=hz1
      exact zC (by omega)
     ·have hc':z.cps.toList[i]?=some c:=by simpa using hc
      have hlow:=zcz c (hz2 c (mem_of_getElem? hc'));rw[hlow,take_add_one,hc',map_append];rfl
     ·rw[vG]
   ·rw[decide_eq_false h8]
    refine vm ?_;exact no (j4 (.inr (by omega)))
  ·have c':¬(1:Int)<=(z.length:Int):=of_decide_eq_false (Bool.eq_false_iff.mpr c)
   exists _,rfl,?_;exact vm (no (j4 (.inl (by omega))))
 ·exists _,rfl,_,_,_,_,rfl,ty,e,_,rfl,?_
  refine vm ?_;refine vm ?_
  have:=q H (zo.refl H)
  rw[hn] at this;exact this
theorem dT{A B:Prop}{c:Prop}[Decidable c](h:c)(a:A):if decide c=true then A else B:=by rw[decide_eq_true h];exact vm a
theorem dF{A B:Prop}{c:Prop}[Decidable c](h:¬c)(b:B):if decide c=true then A else B:=by rw[decide_eq_false h];exact yo b
def kw:Nat->Str
 | 0=>"seat"|1=>"both"|2=>"tail"|3=>"tag"|_=>"bag"
def zji(k:Nat)(x:V)(b:Bool):List V:=match k with
 | 0=>[.str "seat",x,.bl b]|1=>[.str "both",x,.bl b]|2=>[.str "tail",x]|3=>[.str "tag",x,.bl b]|_=>[.str "bag",x]
def fr(k:Nat)(b:Bool):Bool:=match k with
 | 0=>b|1=>b|2=>true|3=>b|_=>true
theorem lt5{k:Nat}(h:k<5):k=0\/k=1\/k=2\/k=3\/k=4:=by omega
def pf(wd:Str)(x:V)(b:Bool):List (Str×V):=zO "may_lack" (.bl b) (zO "name" x (zO "word" (.str wd) []))
theorem vL{wd:Str}{x:V}{b:Bool}:(pf wd x b).lookup ("word" : Str)=some (.str wd):=by
 unfold pf;rw[zk,if_neg (by decide +kernel),zk,if_neg (by decide +kernel),zk,if_pos rfl]
theorem jq{wd:Str}{x:V}{b:Bool}:(pf wd x b).lookup ("name" : Str)=some x:=by
 unfold pf;rw[zk,if_neg (by decide +kernel),zk,if_pos rfl]
theorem zhh{wd:Str}{x:V}{b:Bool}:(pf wd x b).lookup ("may_lack" : Str)=some (.bl b):=by
 unfold pf;rw[zk,if_pos rfl]
theorem u7{wd:Str}{x:V}{b:Bool}{m:Str}(h1:¬m="may_lack")(h2:¬m="name")(h3:¬m="word"):(pf wd x b).lookup m=none:=by
 unfold pf;rw[zk,if_neg h1,zk,if_neg h2,zk,if_neg h3];rfl
structure MA where
 (fF fP fB fT fO:Addr)
structure PC(K:Frag)(m:MA)(C:Addr):Prop where
 cl:Cls K C
 nW:z5 K C "word"
 nN:z5 K C "name"
 nM:z5 K C "may_lack"
 mF:yT K C "free" m.fF
 mP:yT K C "by_place" m.fP
 mB:yT K C "by_name" m.fB
 mT:yT K C "takes_one" m.fT
 mO:yT K C "told" m.fO
inductive spP(K:Frag)(m:MA)(vs:List V)(H:Hp)(Q:VK)(E:XK):Prop|mk(p dx C:Addr)(wd:Str)(x:V)(b:Bool):vs=[.ref p,.str wd,x,.bl b]->H p=some (.ins C dx [])->PC K m C->OkV K H x->nmV x=true->(∀H1,zo H H1->Q .non (upd H1 p (.ins C dx (pf wd x b))))->spP K m vs H Q E
inductive spS(K:Frag)(C:Addr)(wd:Str)(vs:List V)(H:Hp)(Q:VK)(E:XK):Prop|mk(p dx:Addr)(x:V)(b:Bool):vs=[.ref p,x,.bl b]->H p=some (.ins C dx [])->OkV K H x->nmV x=true->(∀H1,zo H H1->Q .non (upd H1 p (.ins C dx (pf wd x b))))->spS K C wd vs H Q E
inductive spT(K:Frag)(C:Addr)(wd:Str)(vs:List V)(H:Hp)(Q:VK)(E:XK):Prop|mk(p dx:Addr)(x:V):vs=[.ref p,x]->H p=some (.ins C dx [])->OkV K H x->nmV x=true->(∀H1,zo H H1->Q .non (upd H1 p (.ins C dx (pf wd x true))))->spT K C wd vs H Q E
def bpL:List V:=[.str "seat",.str "both"]
def bnL:List V:=[.str "both",.str "tag"]
def otL:List V:=[.str "seat",.str "both",.str "tag"]
inductive zaq(K:Frag)(m:MA)(vs:List V)(H:Hp)(Q:VK)(E:XK):Prop|mk(p dx C:Addr)(wd:Str)(x:V)(b:Bool):vs=[.ref p]->PC K m C->H p=some (.ins C dx (pf wd x b))->(Q (.bl b) H)->zaq K m vs H Q E
inductive jh(K:Frag)(m:MA)(l:List V)(vs:List V)(H:Hp)(Q:VK)(E:XK):Prop|mk(p dx C:Addr)(wd:Str)(x:V)(b:Bool):vs=[.ref p]->PC K m C->H p=some (.ins C dx (pf wd x b))->(Q (.bl (inV (.str wd) l)) H)->jh K m l vs H Q E
structure Wds(K:Frag)(mg:Str->Option Value)(tP tB tO:Addr):Prop where
 mP:mg "BY_PLACE"=some (.ref tP)
 mB:mg "BY_NAME"=some (.ref tB)
 mO:mg "OF_ONE_THING"=some (.ref tO)
 hP:∀H,SqT K H tP bpL
 hB:∀H,SqT K H tB bnL
 hO:∀H,SqT K H tO otL
variable {C tP tB tO:Addr}{m:MA}
theorem zgZ:zq ["self","word","name","may_lack"] ["self","word","name","may_lack"] (zj zcc):=fsc
theorem zfH{g:Addr}{gd:FuncData}(F:Fun K "__init__" "Parameter.__init__" zcc f fd)(cI:zI P w K mg base 1 "is_name" g gd ["thing"] (ziT K)):
  zx P w K mg base CX0 2 f fd ["self","word","name","may_lack"] (spP K m):=by
 refine F.ok zgZ (fun cdv A outer s H vs Q E hr h=>?_);obtain⟨p,dx,C,wd,x,b,rfl,hp,c,hx,q1,q2⟩:=h;refine⟨_,zh (zE (vc (yp (cF cI hr (ac (pv 2) zb)))) (zc xV) zA)
  (zh (y9 (pv 0) (pv 1) rfl) (zh (y9 (pv 0) (pv 2) rfl) (zc (y9 (pv 0) (pv 3) rfl)))),?_⟩
 exists _,rfl,x,rfl,hx,fun H1 s1=>⟨_,rfl,?_⟩;rw[q1];refine yo ?_;exists _,rfl,_,rfl,p,C,dx,[],rfl,s1 _ _ hp,c.cl,c.nW,(by show 0<1000;decide),?_
 exists _,rfl,_,rfl,p,C,dx,_,rfl,za,c.cl,c.nN,(by show 1<1000;decide),?_
 exists _,rfl,_,rfl,p,C,dx,_,rfl,za,c.cl,c.nM,(by show 2<1000;decide),?_
 rw[vG,vG];exact q2 _ s1
theorem ziY:zq ["self","name","free"] ["self","name","free"] (zj zeY):=fsc
theorem zht{g D:Addr}{gd:FuncData}{ds:List Value}(F:qv K "__init__" "Seat.__init__" zeY f fd ds)(c:PC K m C)(B:qz K D "__init__" g)(mD:mg "Parameter"=some (.ref D))(G:zx P w K mg base CX0 2 g gd ["self","word","name","may_lack"] (spP K m))(bg:zN K gd ["self","word","name","may_lack"] []):
  zx P w K mg base CX0 3 f fd ["self","name","free"] (spS K C "seat"):=by
 refine F.ok ziY (fun vs H Q E h=>?_) (fun cdv A outer s H vs Q E hr h=>?_)
 ·obtain⟨p,dx,x,b,rfl,_⟩:=h
  rfl
 obtain⟨p,dx,x,b,rfl,hp,hx,q1,q2⟩:=h;exists _,zc (zG (zbl B mD G hr bg zW (ac (pv 0) (ac zr (ac (pv 1) (ac (pv 2) zb)))))),?_;exact⟨_,rfl,_,rfl,_,rfl,p,dx,C,_,x,b,rfl,hp,c,hx,q1,q2⟩
theorem zi6:zq ["self","name","free"] ["self","name","free"] (zj zfb):=fsc
theorem zhH{g D:Addr}{gd:FuncData}{ds:List Value}(F:qv K "__init__" "Both.__init__" zfb f fd ds)(c:PC K m C)(B:qz K D "__init__" g)(mD:mg "Parameter"=some (.ref D))(G:zx P w K mg base CX0 2 g gd ["self","word","name","may_lack"] (spP K m))(bg:zN K gd ["self","word","name","may_lack"] []):
  zx P w K mg base CX0 3 f fd ["self","name","free"] (spS K C "both"):=by
 refine F.ok zi6 (fun vs H Q E h=>?_) (fun cdv A outer s H vs Q E hr h=>?_)
 ·obtain⟨p,dx,x,b,rfl,_⟩:=h
  rfl
 obtain⟨p,dx,x,b,rfl,hp,hx,q1,q2⟩:=h;exists _,zc (zG (zbl B mD G hr bg zW (ac (pv 0) (ac zr (ac (pv 1) (ac (pv 2) zb)))))),?_;exact⟨_,rfl,_,rfl,_,rfl,p,dx,C,_,x,b,rfl,hp,c,hx,q1,q2⟩
theorem zkA:zq ["self","name","free"] ["self","name","free"] (zj zi9):=fsc
theorem zjA{g D:Addr}{gd:FuncData}{ds:List Value}(F:qv K "__init__" "Tag.__init__" zi9 f fd ds)(c:PC K m C)(B:qz K D "__init__" g)(mD:mg "Parameter"=some (.ref D))(G:zx P w K mg base CX0 2 g gd ["self","word","name","may_lack"] (spP K m))(bg:zN K gd ["self","word","name","may_lack"] []):
  zx P w K mg base CX0 3 f fd ["self","name","free"] (spS K C "tag"):=by
 refine F.ok zkA (fun vs H Q E h=>?_) (fun cdv A outer s H vs Q E hr h=>?_)
 ·obtain⟨p,dx,x,b,rfl,_⟩:=h
  rfl
 obtain⟨p,dx,x,b,rfl,hp,hx,q1,q2⟩:=h;exists _,zc (zG (zbl B mD G hr bg zW (ac (pv 0) (ac zr (ac (pv 1) (ac (pv 2) zb)))))),?_;exact⟨_,rfl,_,rfl,_,rfl,p,dx,C,_,x,b,rfl,hp,c,hx,q1,q2⟩
theorem ziX:zq ["self","name"] ["self","name"] (zj zeX):=fsc
theorem zhs{g D:Addr}{gd:FuncData}(F:Fun K "__init__" "Tail.__init__" zeX f fd)(c:PC K m C)(B:qz K D "__init__" g)(mD:mg "Parameter"=some (.ref D))(G:zx P w K mg base CX0 2 g gd ["self","word","name","may_lack"] (spP K m))(bg:zN K gd ["self","word","name","may_lack"] []):
  zx P w K mg base CX0 3 f fd ["self","name"] (spT K C "tail"):=by
 refine F.ok ziX (fun cdv A outer s H vs Q E hr h=>?_);obtain⟨p,dx,x,rfl,hp,hx,q1,q2⟩:=h;exists _,zc (zG (zbl B mD G hr bg zW (ac (pv 0) (ac zr (ac (pv 1) (ac jW zb)))))),?_;exact⟨_,rfl,_,rfl,p,dx,C,_,x,true,rfl,hp,c,hx,q1,q2⟩
theorem zkF:zq ["self","name"] ["self","name"] (zj zjg):=fsc
theorem zjK{g D:Addr}{gd:FuncData}(F:Fun K "__init__" "Bag.__init__" zjg f fd)(c:PC K m C)(B:qz K D "__init__" g)(mD:mg "Parameter"=some (.ref D))(G:zx P w K mg base CX0 2 g gd ["self","word","name","may_lack"] (spP K m))(bg:zN K gd ["self","word","name","may_lack"] []):
  zx P w K mg base CX0 3 f fd ["self","name"] (spT K C "bag"):=by
 refine F.ok zkF (fun cdv A outer s H vs Q E hr h=>?_);obtain⟨p,dx,x,rfl,hp,hx,q1,q2⟩:=h;exists _,zc (zG (zbl B mD G hr bg zW (ac (pv 0) (ac zr (ac (pv 1) (ac jW zb)))))),?_;exact⟨_,rfl,_,rfl,p,dx,C,_,x,true,rfl,hp,c,hx,q1,q2⟩
theorem zi2:zq ["self"] ["self"] (zj ze6):=fsc
theorem zhD(F:Fun K "free" "Parameter.free" ze6 f fd):zx P w K mg base CX0 1 f fd ["self"] (zaq K m):=by
 refine F.ok zi2 (fun cdv A outer s H vs Q E hr h=>?_);obtain⟨p,dx,C,wd,x,b,rfl,c,hp,q⟩:=h;exists _,zc (zu (yh (pv 0) rfl)),?_;exact⟨_,rfl,p,C,dx,_,_,rfl,hp,c.cl,c.nM,zhh,q⟩
theorem zdN:zq ["self"] ["self"] (zj jP):=fsc
theorem zbq(F:Fun K "by_place" "Parameter.by_place" jP f fd)(Wd:Wds K mg tP tB tO):zx P w K mg base CX0 1 f fd ["self"] (jh K m bpL):=by
 refine F.ok zdN (fun cdv A outer s H vs Q E hr h=>?_);obtain⟨p,dx,C,wd,x,b,rfl,c,hp,q⟩:=h;exists _,zc (zu (wv y0 (yh (pv 0) rfl) (yB (v:=.ref tP) rfl Wd.mP rfl) (by with_unfolding_all rfl))),?_
 exact⟨_,rfl,p,C,dx,_,_,rfl,hp,c.cl,c.nW,vL,tP,bpL,rfl,.inr (Wd.hP H),rfl,(by decide),q⟩
theorem zeU:zq ["self"] ["self"] (zj zaH):=fsc
theorem zcv(F:Fun K "by_name" "Parameter.by_name" zaH f fd)(Wd:Wds K mg tP tB tO):zx P w K mg base CX0 1 f fd ["self"] (jh K m bnL):=by
 refine F.ok zeU (fun cdv A outer s H vs Q E hr h=>?_);obtain⟨p,dx,C,wd,x,b,rfl,c,hp,q⟩:=h;exists _,zc (zu (wv y0 (yh (pv 0) rfl) (yB (v:=.ref tB) rfl Wd.mB rfl) (by with_unfolding_all rfl))),?_
 exact⟨_,rfl,p,C,dx,_,_,rfl,hp,c.cl,c.nW,vL,tB,bnL,rfl,.inr (Wd.hB H),rfl,(by decide),q⟩
theorem zgX:zq ["self"] ["self"] (zj zb6):=fsc
theorem zaL(F:Fun K "takes_one" "Parameter.takes_one" zb6 f fd)(Wd:Wds K mg tP tB tO):zx P w K mg base CX0 1 f fd ["self"] (jh K m otL):=by
 refine F.ok zgX (fun cdv A outer s H vs Q E hr h=>?_);obtain⟨p,dx,C,wd,x,b,rfl,c,hp,q⟩:=h;exists _,zc (zu (wv y0 (yh (pv 0) rfl) (yB (v:=.ref tO) rfl Wd.mO rfl) (by with_unfolding_all rfl))),?_
 exact⟨_,rfl,p,C,dx,_,_,rfl,hp,c.cl,c.nW,vL,tO,otL,rfl,.inr (Wd.hO H),rfl,(by decide),q⟩
structure C5 where
 (c0 c1 c2 c3 c4:Addr)
def C5.at(c:C5):Nat->Addr
 | 0=>c.c0|1=>c.c1|2=>c.c2|3=>c.c3|_=>c.c4
structure ziC(P:Program)(w:World)(K:Frag)(mg:Str->Option Value)(base:Heap)(c:C5)(i0 i1 i2 i3 i4:Addr)(d0 d1 d2 d3 d4:FuncData):Prop where
 k0:uY P w K mg base CX0 3 "Seat" c.c0 i0 d0 ["self","name","free"] [] (spS K c.c0 "seat")
 k1:uY P w K mg base CX0 3 "Both" c.c1 i1 d1 ["self","name","free"] [] (spS K c.c1 "both")
 k2:uY P w K mg base CX0 3 "Tail" c.c2 i2 d2 ["self","name"] [] (spT K c.c2 "tail")
 k3:uY P w K mg base CX0 3 "Tag" c.c3 i3 d3 ["self","name","free"] [] (spS K c.c3 "tag")
 k4:uY P w K mg base CX0 3 "Bag" c.c4 i4 d4 ["self","name"] [] (spT K c.c4 "bag")
def Res(c:C5)(H:Hp)(k:Nat)(x:V)(b:Bool)(Q:VK):Prop:=
 nmV x=true/\∀(o dx:Addr) (H':Hp),zo H H'->H' o=some (.ins (c.at k) dx (pf (kw k) x (fr k b)))->Q (.ref o) H'
inductive zii(K:Frag)(c:C5)(vs:List V)(H:Hp)(Q:VK)(E:XK):Prop|mk(p:Addr)(k:Nat)(x:V)(b:Bool):vs=[.ref p]->k<5->H p=some (.tup (zji k x b))->OkV K H x->(Res c H k x b Q)->zii K c vs H Q E
theorem zl3:¬(V.str "both"=V.str "seat"):=by decide +kernel
theorem zl2:¬(V.str "tail"=V.str "seat"):=by decide +kernel
theorem zl1:¬(V.str "tail"=V.str "both"):=by decide +kernel
theorem zl0:¬(V.str "tag"=V.str "seat"):=by decide +kernel
theorem zlZ:¬(V.str "tag"=V.str "both"):=by decide +kernel
theorem zlY:¬(V.str "tag"=V.str "tail"):=by decide +kernel
theorem zlX:¬(V.str "bag"=V.str "seat"):=by decide +kernel
theorem zlW:¬(V.str "bag"=V.str "both"):=by decide +kernel
theorem zlV:¬(V.str "bag"=V.str "tail"):=by decide +kernel
theorem zlU:¬(V.str "bag"=V.str "tag"):=by decide +kernel
variable {i0 i1 i2 i3 i4:Addr}{d0 d1 d2 d3 d4:FuncData}{c:C5}
theorem zmd{x:V}{k:Nat}{b:Bool}(h:k<5):atI (zji k x b) 0=some (.str (kw k)):=by rcases lt5 h with rfl|rfl|rfl|rfl|rfl <;> rfl
theorem zim:zq ["told","word"] ["told"] (zj zja):=fsc
theorem zjD(F:Fun K "parameter_of" "parameter_of" zja f fd)(U:ziC P w K mg base c i0 i1 i2 i3 i4 d0 d1 d2 d3 d4):zx P w K mg base CX0 5 f fd ["told"] (zii K c):=by
 refine F.ok zim (fun cdv A outer s H vs Q E hr h=>?_);obtain⟨p,k,x,b,rfl,hk,hp,hx,r1,r2⟩:=h;refine⟨_,zh (zw (i:=1) zim.nd rfl (Or.inl rfl) (zy zJ (pv 0) zi (fun _ _=>rfl)))
  (zh (zE (zn z9 (pv 1) zr (zz _)) (zc (zu (cMk U.k0 .nil zW hr (ac (zy zJ (pv 0) zi (fun _ _=>rfl)) (ac (zy zJ (pv 0) zi (fun _ _=>rfl)) zb))))) zA)
  (zh (zE (zn z9 (pv 1) zr (zz _)) (zc (zu (cMk U.k1 .nil zW hr (ac (zy zJ (pv 0) zi (fun _ _=>rfl)) (ac (zy zJ (pv 0) zi (fun _ _=>rfl)) zb))))) zA)
  (zh (zE (zn z9 (pv 1) zr (zz _)) (zc (zu (cMk U.k2 .nil zW hr (ac (zy zJ (pv 0) zi (fun _ _=>rfl)) zb)))) zA)
  (zh (zE (zn z9 (pv 1) zr (zz _)) (zc (zu (cMk U.k3 .nil zW hr (ac (zy zJ (pv 0) zi (fun _ _=>rfl)) (ac (zy zJ (pv 0) zi (fun _ _=>rfl)) zb))))) zA)
  (zc (zu (cMk U.k4 .nil zW hr (ac (zy zJ (pv 0) zi (fun _ _=>rfl)) zb)))))))),?_⟩
 exists _,rfl,p,_,_,.str (kw k),rfl,rfl,zv hp,zmd hk,?_;rcases lt5 hk with rfl|rfl|rfl|rfl|rfl
 ·have hS:SqT K H p _:=zv hp
  exists _,rfl,rfl,_,rfl,?_;refine dT rfl ?_;exact⟨_,rfl,p,_,_,x,rfl,rfl,hS,rfl,_,rfl,p,_,_,.bl b,rfl,rfl,hS,rfl,fun o dx ho hdx ne=>⟨o,dx,x,b,rfl,za,hx.same (yL ho hdx),r1,fun H1 s1=>⟨rfl,r2 o dx _ (wm ho hdx s1) za⟩⟩⟩
 ·have hS:SqT K H p _:=zv hp
  exists _,rfl,rfl,_,rfl,?_;refine dF zl3 ?_;exists _,rfl,rfl,_,rfl,?_;refine dT rfl ?_;exact⟨_,rfl,p,_,_,x,rfl,rfl,hS,rfl,_,rfl,p,_,_,.bl b,rfl,rfl,hS,rfl,fun o dx ho hdx ne=>⟨o,dx,x,b,rfl,za,hx.same (yL ho hdx),r1,fun H1 s1=>⟨rfl,r2 o dx _ (wm ho hdx s1) za⟩⟩⟩
 ·have hS:SqT K H p _:=zv hp
  exists _,rfl,rfl,_,rfl,?_;refine dF zl2 ?_;exists _,rfl,rfl,_,rfl,?_;refine dF zl1 ?_;exists _,rfl,rfl,_,rfl,?_;refine dT rfl ?_;exact⟨_,rfl,p,_,_,x,rfl,rfl,hS,rfl,fun o dx ho hdx ne=>⟨o,dx,x,rfl,za,hx.same (yL ho hdx),r1,fun H1 s1=>⟨rfl,r2 o dx _ (wm ho hdx s1) za⟩⟩⟩
 ·have hS:SqT K H p _:=zv hp
  exists _,rfl,rfl,_,rfl,?_;refine dF zl0 ?_;exists _,rfl,rfl,_,rfl,?_;refine dF zlZ ?_;exists _,rfl,rfl,_,rfl,?_;refine dF zlY ?_;exists _,rfl,rfl,_,rfl,?_;refine dT rfl ?_;exact⟨_,rfl,p,_,_,x,rfl,rfl,hS,rfl,_,rfl,p,_,_,.bl b,rfl,rfl,hS,rfl,fun o dx ho hdx ne=>⟨o,dx,x,b,rfl,za,hx.same (yL ho hdx),r1,fun H1 s1=>⟨rfl,r2 o dx _ (wm ho hdx s1) za⟩⟩⟩
 ·have hS:SqT K H p _:=zv hp
  exists _,rfl,rfl,_,rfl,?_;refine dF zlX ?_;exists _,rfl,rfl,_,rfl,?_;refine dF zlW ?_;exists _,rfl,rfl,_,rfl,?_;refine dF zlV ?_;exists _,rfl,rfl,_,rfl,?_;refine dF zlU ?_;exact⟨_,rfl,p,_,_,x,rfl,rfl,hS,rfl,fun o dx ho hdx ne=>⟨o,dx,x,rfl,za,hx.same (yL ho hdx),r1,fun H1 s1=>⟨rfl,r2 o dx _ (wm ho hdx s1) za⟩⟩⟩
end
end K43
namespace L2
open PySem PySem.Spec PyProof.Rows
def dcN(n i:Nat)(D:Addr)(Pv:Nat->List (Key×V)->Hp->Prop)(ys:List (Key×V))(y:V):VK:=fun v H5=>∃k,y=kV k/\H5 D=some (.dK ys)/\ys.length<sizeLine/\∃m',m'<n - i/\m'=n - (i+1)/\i+1<=n/\Pv (i+1) (yC ys k v) (upd H5 D (.dK (yC ys k v)))
def dcS(n i:Nat)(Pv:Nat->List (Key×V)->Hp->Prop)(ys:List (Key×V))(H4:Hp):Prop:=∃m',m'<n - i/\m'=n - (i+1)/\i+1<=n/\Pv (i+1) ys H4
theorem dcN.mk{n i:Nat}{D:Addr}{Pv:Nat->List (Key×V)->Hp->Prop}{ys:List (Key×V)}{y v:V}{H5:Hp}(k:Key)(hi:i<n)(ek:y=kV k)(hn:n<=sizeLine)(hD:H5 D=some (.dK ys))(hy:ys.length<=i)(p:Pv (i+1) (yC ys k v) (upd H5 D (.dK (yC ys k v)))):dcN n i D Pv ys y v H5:=
 ⟨k,ek,hD,by omega,n - (i+1),by omega,rfl,hi,p⟩
theorem dcS.mk{n i:Nat}{Pv:Nat->List (Key×V)->Hp->Prop}{ys:List (Key×V)}{H4:Hp}(hi:i<n)(p:Pv (i+1) ys H4):dcS n i Pv ys H4:=⟨n - (i+1),by omega,rfl,hi,p⟩
theorem zh4{K:Frag}{a:Addr}{xs:List V}{caps:List (Option Nat)}{g:TG}{tt:TT}{tk tv:TE}{σ : St}{H1:Hp}{Q:VK}{D:Addr}(Pv:Nat->List (Key×V)->Hp->Prop)(h0:Pv 0 [] (upd H1 D (.dK [])))
  (hl:∀i ys H,Pv i ys H->SqL K H a xs)
  (hs:∀i x p ys H,i<xs.length->xs[i]?=some x->Pv i ys H->H p=none->g (.ref p) (yY caps σ) (upd H p (.tup [.int i,x])) fun σ2 H2=>tt σ2 H2 fun ok H3=>(ok=true->tk σ2 H3 fun y H4=>tv σ2 H4 (dcN xs.length i D Pv ys y))/\(ok=false->dcS xs.length i Pv ys H3))
  (hd:∀ys H,Pv xs.length ys H->Q (.ref D) H):DCr (Ite K a) caps g tt tk tv σ H1 Q D:=by
 exists fun i m ys H=>m=xs.length - i/\i<=xs.length/\Pv i ys H,⟨xs.length,by simp,zero_le _,h0⟩,?_
 rintro i m ys H ⟨rfl,hi,p⟩;have q:=hl i ys H p;by_cases hlt:i<xs.length
 ·refine .inr ⟨⟨xs,xs[i],q,by simp [hlt]⟩,fun x H' y=>?_⟩
  obtain⟨pp,y,rfl,hp,y2,rfl⟩:=y;exact hs i y pp ys H hlt (y2 xs q) p hp
 ·have e:i=xs.length:=by omega
  subst e;exact .inl ⟨⟨xs,q,le_refl _⟩,hd ys H p⟩
end L2
namespace K43
open PySem L2 PyProof.Rows
structure Rw where
 (k:Nat) (z:Str) (b:Bool)
def Rw.ok(r:Rw):Prop:=r.k<5/\xn r.z=true
abbrev rv(r:Rw):List V:=zji r.k (.str r.z) r.b
abbrev pr(r:Rw):List (Str×V):=pf (kw r.k) (.str r.z) (fr r.k r.b)
def PAt(c:C5)(H:Hp)(p:Addr)(r:Rw):Prop:=∃dx,H p=some (.ins (c.at r.k) dx (pr r))
def qp(k:Nat):Bool:=k==0||k==1
def xx(k:Nat):Bool:=k==1||k==3
theorem zit:∀k:Nat,k<5->inV (.str (kw k)) bpL=qp k:=by decide +kernel
theorem zdm:∀k:Nat,k<5->inV (.str (kw k)) bnL=xx k:=by decide +kernel
def grp:Nat->Nat
 | 0=>0|1=>0|2=>1|3=>2|_=>3
def xR(l g:Nat):Bool:=decide (g<l)||(g==l&&(g==1||g==3))
def yQ:Nat->List Rw->Bool
 | _,[]=>true
 | l,r::rs=>!xR l (grp r.k)&&yQ (grp r.k) rs
def nms(rows:List Rw):List Str:=(rows.filter fun r=>xx r.k).map (·.z)
structure zdC(rows:List Rw)(bars:List Str):Prop where
 ok:∀r∈rows,r.ok
 l24:rows.length<=24
 l60:bars.length<=60
 ord:yQ 0 rows=true
 bn:∀z∈bars,xn z=true
 nd:(nms rows++bars).Nodup
def zM(kk:Nat):Nat->List Rw->Option Nat
 | _,[]=>none
 | i,r::rs=>if r.k=kk then some i else zM kk (i+1) rs
def wn:Option Nat->V
 | none=>.non
 | some i=>.int i
def xo:Nat->List (Key×V)->List Rw->List (Key×V)
 | _,acc,[]=>acc
 | i,acc,r::rs=>xo (i+1) (if xx r.k=true then yC acc (.inr r.z) (.int i) else acc) rs
def plN(rows:List Rw):Nat:=(rows.filter fun r=>qp r.k).length
def zgE:List Str:=["row","bar_names","place_count","tail_number","bag_number","doors"]
structure FF(fs:List (Str×V))(lr lb ld:Addr)(rows:List Rw):Prop where
 row:fs.lookup ("row" : Str)=some (.ref lr)
 bn:fs.lookup ("bar_names" : Str)=some (.ref lb)
 pc:fs.lookup ("place_count" : Str)=some (.int (plN rows))
 tn:fs.lookup ("tail_number" : Str)=some (wn (zM 2 0 rows))
 bg:fs.lookup ("bag_number" : Str)=some (wn (zM 4 0 rows))
 dr:fs.lookup ("doors" : Str)=some (.ref ld)
 no:∀m,m∉zgE->fs.lookup m=none
def yF(c:C5)(CF:Addr)(H:Hp)(f:Addr)(rows:List Rw)(bars:List Str):Prop:=
 ∃dx fs lr lb ld ps,H f=some (.ins CF dx fs)/\FF fs lr lb ld rows/\H lr=some (.lst (ps.map V.ref))/\Paired (PAt c H) ps rows/\H lb=some (.lst (bars.map V.str))/\H ld=some (.dK (xo 0 [] rows))
section
variable {c:C5}{CF f p:Addr}{H H':Hp}{rows:List Rw}{bars:List Str}{r:Rw}{ps:List Addr}
theorem PAt.same(h:PAt c H p r)(s:zo H H'):PAt c H' p r:=h.imp fun _=>s _ _
theorem xH(s:zo H H')(h:Paired (PAt c H) ps rows):Paired (PAt c H') ps rows:=zm (fun _ _ z=>z.same s) h
theorem yF.same(h:yF c CF H f rows bars)(s:zo H H'):yF c CF H' f rows bars:=by
 obtain⟨dx,fs,lr,lb,ld,ps,h1,h2,h3,h4,h5,h6⟩:=h;exact⟨dx,fs,lr,lb,ld,ps,s _ _ h1,h2,s _ _ h3,xH s h4,s _ _ h5,s _ _ h6⟩
def qw(c:C5)(CF:Addr)(H H':Hp)(f:Addr)(rows:List Rw)(bars:List Str):Prop:=
 ∃dx fs lr lb ld ps,H' f=some (.ins CF dx fs)/\FF fs lr lb ld rows/\H' lr=some (.lst (ps.map V.ref))/\Paired (PAt c H') ps rows/\H' lb=some (.lst (bars.map V.str))/\H' ld=some (.dK (xo 0 [] rows))/\H lr=none/\H lb=none
theorem qw.at(h:qw c CF H H' f rows bars):yF c CF H' f rows bars:=by
 obtain⟨dx,fs,lr,lb,ld,ps,h1,h2,h3,h4,h5,h6,_,_⟩:=h;exact⟨dx,fs,lr,lb,ld,ps,h1,h2,h3,h4,h5,h6⟩
theorem qw.of{H0:Hp}(h:qw c CF H H' f rows bars)(s:zo H0 H):qw c CF H0 H' f rows bars:=by
 obtain⟨dx,fs,lr,lb,ld,ps,h1,h2,h3,h4,h5,h6,h7,h8⟩:=h;exact⟨dx,fs,lr,lb,ld,ps,h1,h2,h3,h4,h5,h6,s.free h7,s.free h8⟩
theorem zV{α β : Type}{R : α->β->Prop}{xs:List α}{ys:List β}(h:Paired R xs ys):∀{i:Nat}{x : α},xs[i]?=some x->∃y,ys[i]?=some y/\R x y:=by
 induction h with
 | nil=>intro i x e;simp at e
 | cons r t ih=>
  intro i x e;cases i with
  | zero=>exact⟨_,rfl,by simp at e;exact e ▸ r⟩
  | succ i=>simpa using ih (by simpa using e)
def zhU(x:Str):Option V:=([(("seat" : Str),V.int 0),("both",.int 0),("tail",.int 1),("tag",.int 2),("bag",.int 3)]:List (Str×V)).lookup x
theorem zhT:∀k:Nat,k<5->zhU (kw k)=some (.int (grp k)):=by decide +kernel
theorem zj1(k:Nat):grp k<4:=by unfold grp;split <;> decide
structure zbO(w:World)(K:Frag)(mg:Str->Option Value)(G sg:Addr):Prop where
 len:mg "len"=none
 en:mg "enumerate"=none
 lst:mg "list"=none
 set:mg "set"=none
 mp:∃t,mg "MOST_PARAMETERS"=some (.int 24 t)
 mb:∃t,mg "MOST_BARS"=some (.int 60 t)
 mgr:mg "GROUPS"=some (.ref G)
 gt:zkb w K G zhU
 ms:mg "SINGLE_GROUPS"=some (.ref sg)
 hs:∀H,SqT K H sg [.int 1,.int 3]
def Cs5(c:C5):Addr->Prop:=fun C=>∃k,k<5/\C=c.at k
inductive zeJ(K:Frag)(vs:List V)(H:Hp)(Q:VK)(E:XK):Prop|mk(a b:Addr)(xs ys:List V):vs=[.ref a,.ref b]->SqL K H a xs->SqL K H b ys->xs.length<=24->ys.length<=60->(Q .non H)->zeJ K vs H Q E
inductive zij(c:C5)(vs:List V)(H:Hp)(Q:VK)(E:XK):Prop|mk(a:Addr)(ps:List Addr)(rows:List Rw):vs=[.ref a]->H a=some (.lst (ps.map V.ref))->Paired (PAt c H) ps rows->(∀r∈rows,r.ok)->yQ 0 rows=true->(∀H',zo H H'->Q .non H')->zij c vs H Q E
inductive zkt(vs:List V)(H:Hp)(Q:VK)(E:XK):Prop|mk(b:Addr)(bars:List Str):vs=[.ref b]->H b=some (.lst (bars.map V.str))->(∀z∈bars,xn z=true)->(∀H',zo H H'->Q .non H')->zkt vs H Q E
inductive zks(c:C5)(vs:List V)(H:Hp)(Q:VK)(E:XK):Prop|mk(a b:Addr)(ps:List Addr)(rows:List Rw)(bars:List Str):vs=[.ref a,.ref b]->H a=some (.lst (ps.map V.ref))->Paired (PAt c H) ps rows->(∀r∈rows,r.ok)->rows.length<=500->H b=some (.lst (bars.map V.str))->bars.length<=500->(nms rows++bars).Nodup->(∀H',zo H H'->Q .non H')->zks c vs H Q E
inductive zku(c:C5)(vs:List V)(H:Hp)(Q:VK)(E:XK):Prop|mk(a:Addr)(ps:List Addr)(rows:List Rw)(kk:Nat):vs=[.ref a,.str (kw kk)]->kk<5->H a=some (.lst (ps.map V.ref))->Paired (PAt c H) ps rows->(∀r∈rows,r.ok)->(∀H',zo H H'->Q (wn (zM kk 0 rows)) H')->zku c vs H Q E
theorem zjP:∀i:Nat,i<5->∀k:Nat,k<5->decide (V.str (kw k)=V.str (kw i))=(k==i):=by decide +kernel
theorem zds{α : Type}{xs:List α}{i:Nat}{x : α}(h:xs[i]?=some x):xs.drop i=x::xs.drop (i+1):=by
 have hi:i<xs.length:=(List.getElem?_eq_some_iff.mp h).1;rw[List.drop_eq_getElem_cons hi];rw[getElem?_eq_getElem hi] at h;rw[Option.some.inj h]
theorem xL{ps:List Addr}{i:Nat}{x:V}(h:(ps.map V.ref)[i]?=some x):∃p,ps[i]?=some p/\x=.ref p:=by
 rw[getElem?_map] at h;cases e:ps[i]? with
 | none=>rw[e] at h;cases h
 | some p=>rw[e] at h;exact⟨p,rfl,(Option.some.inj h).symm⟩
theorem strs_at{zs:List Str}{i:Nat}{x:V}(h:(zs.map V.str)[i]?=some x):∃z,zs[i]?=some z/\x=.str z:=by
 rw[getElem?_map] at h;cases e:zs[i]? with
 | none=>rw[e] at h;cases h
 | some p=>rw[e] at h;exact⟨p,rfl,(Option.some.inj h).symm⟩
variable {P:Program}{w:World}{K:Frag}{mg:Str->Option Value}{base:Heap}{G sg:Addr}{fd:FuncData}{m:MA}
def Pcs(K:Frag)(m:MA)(c:C5):Prop:=∀k,k<5->PC K m (c.at k)
theorem zgY:zq ["parameters","bars"] ["parameters","bars"] (zj zb9):=fsc
theorem zhy(F:Fun K "refuse_too_many" "refuse_too_many" zb9 f fd)(T:zbO w K mg G sg):zx P w K mg base CX0 1 f fd ["parameters","bars"] (zeJ K):=by
 refine F.ok zgY (fun cdv A outer s H vs Q E hr h=>?_);obtain⟨a,b,xs,ys,rfl,ha,hb,l1,l2,q⟩:=h;obtain⟨t1,m1⟩:=T.mp;obtain⟨t2,m2⟩:=T.mb;refine⟨_,zh (zE (zn zfu (cB zK T.len PySem.boot_len (ac (pv 0) zb)) (yB (v:=.int 24) rfl m1 ⟨_,rfl⟩) (zz _)) (zc xV) zA)
  (zc (zE (zn zfu (cB zK T.len PySem.boot_len (ac (pv 1) zb)) (yB (v:=.int 60) rfl m2 ⟨_,rfl⟩) (zz _)) (zc xV) zA)),?_⟩
 exists _,rfl,a,_,rfl,.inl ha,_,_,rfl,rfl,_,rfl,?_;refine dF (by show ¬(24:Int)<(xs.length:Int);omega) ?_
 exists _,rfl,b,_,rfl,.inl hb,_,_,rfl,rfl,_,rfl,?_;exact dF (by show ¬(60:Int)<(ys.length:Int);omega) q
theorem wK:zq ["parameters","last","at","parameter","group"] ["parameters"] (zj zaF):=fsc
theorem zfK(F:Fun K "refuse_bad_order" "refuse_bad_order" zaF f fd)(T:zbO w K mg G sg)(PP:Pcs K m c):zx P w K mg base CX0 1 f fd ["parameters"] (zij c):=by
 refine F.ok wK (fun cdv A outer s H vs Q E hr h=>?_);obtain⟨a,ps,rows,rfl,ha,hp,hok,ho,q⟩:=h;refine⟨_,zh (zw (i:=1) wK.nd rfl (Or.inl rfl) zi)
  (zc (yD PassesOwn.never rfl (wu rfl T.en (ac (pv 0) zb)) (yE rfl (zB (zp (i:=2) wK.nd rfl (Or.inl rfl)) (zB (zp (i:=3) wK.nd rfl (Or.inl rfl)) yk)))
   (zh (zw (i:=4) wK.nd rfl (Or.inl rfl) (zhj T.gt T.mgr (yh (pv 3) rfl)))
   (zh (zE (xi (jS (zn vy (pv 4) (pv 1) (zz _)) (uK (xi (y8 (zn z9 (pv 4) (pv 1) (zz _)) (yK (zn y0 (pv 4) (yB (v:=.ref sg) rfl T.ms rfl) (by with_unfolding_all rfl)))))))) (zc xV) zA)
   (zc (zw (i:=1) wK.nd rfl (Or.inl rfl) (pv 4))))))),?_⟩
 show uB _ _ _ _ _;refine⟨_,rfl,a,rfl,⟨_,zg ha⟩,vB (K:=K) (a:=a) (xs:=ps.map V.ref) (fun i σ H'=>∃(l:Nat) (v2 v3 v4:Option V),σ=[some (.ref a),some (.int (l:Nat)),v2,v3,v4]/\zo H H'/\yQ l (rows.drop i)=true)
  ⟨0,_,_,_,rfl,zo.refl _,ho⟩ (fun i σ H' _ ⟨_,_,_,_,_,sH,_⟩=>zg (sH _ _ ha)) ?_ ?_⟩
 ·rintro i x p σ H' hx ⟨l,v2,v3,v4,rfl,sH,hl⟩ hpn
  obtain⟨pa,hpa,rfl⟩:=xL hx;obtain⟨r,hr',dx,hdx⟩:=zV hp hpa;have rok:=hok r (mem_of_getElem? hr');have C:=PP r.k rok.1;rw[zds hr'] at hl;have hl':(!xR l (grp r.k)&&yQ (grp r.k) (rows.drop (i+1)))=true:=hl;rw[Bool.and_eq_true,Bool.not_eq_true'] at hl';obtain⟨hb,hl2⟩:=hl';have hb':(decide (grp r.k<l)||(grp r.k==l&&(grp r.k==1||grp r.k==3)))=false:=hb
  rw[Bool.or_eq_false_iff] at hb';have sp:=ze hpn (.tup [.int (i:Nat),.ref pa]);exists p,_,rfl,zv za,rfl,_,_,rfl,_,_,rfl,rfl,?_;exists _,rfl,pa,_,dx,_,_,rfl,sp _ _ (sH _ _ hdx),C.cl,C.nW,vL,kw r.k,.int (grp r.k),rfl,zhT r.k rok.1,?_;exists _,rfl,_,rfl,_,_,rfl,rfl,_,rfl,?_;refine dF (fun z=>by have:=of_decide_eq_false hb'.1;omega) ?_
  have fin:∃(l':Nat) (v2 v3 v4:Option V),([some (.ref a),some (.int (grp r.k:Nat)),some (.int (i:Nat)),some (.ref pa),some (.int (grp r.k:Nat))]:L2.St)=[some (.ref a),some (.int (l':Nat)),v2,v3,v4]/\zo H (upd H' p (.tup [.int (i:Nat),.ref pa]))/\yQ l' (rows.drop (i+1))=true:=
   ⟨grp r.k,_,_,_,rfl,sH.trans sp,hl2⟩
  exists _,rfl,_,rfl,rfl,_,rfl,?_;by_cases e:grp r.k=l
  ·refine dT (by rw[e]) ?_
   exists _,rfl,sg,_,rfl,.inr (T.hs _),rfl,(by decide),_,rfl,?_
   have h13:(grp r.k==1||grp r.k==3)=false:=by
    have:=hb'.2
    rw[e] at this |-;simpa using this
   have hin:inV (.int (grp r.k:Nat)) [.int 1,.int 3]=false:=by
    have g4:=zj1 r.k
    have:∀g:Nat,g<4->(g==1||g==3)=false->inV (.int (g:Nat)) [.int 1,.int 3]=false:=by decide +kernel
    exact this _ g4 h13
   rw[show(if false=true then !inV (V.int ((grp r.k:Nat):Int)) [V.int 1,V.int 3] else inV (V.int ((grp r.k:Nat):Int)) [V.int 1,V.int 3])=false from hin]
   refine yo ?_;exact⟨_,rfl,fin⟩
  ·refine dF (fun z=>e (by have:=V.int.inj z;omega)) ?_
   exact⟨_,rfl,fin⟩
 ·rintro σ H' ⟨l,v2,v3,v4,rfl,sH,_⟩
  exact q _ sH
end
end K43
namespace L2
open PySem PySem.Spec PyProof.Rows
theorem zdc{X:Cx}{K:Frag}{e:Expr}{f:Str}{pos:Pos}{ta:TE}(hK:X.K=K)(he:PE X e ta)(hb:attributeBase e f X.env (eval e X.env)=eval e X.env):PE X (.Attribute e f pos) (zkn K ta f):=hK ▸ yh he hb
end L2
namespace K43
open PySem L2 PyProof.Rows
theorem yj{n:Nat}(h:n<=1000):n<=sizeLine:=le_of_lt (zC h)
theorem zhK{rows:List Rw}{i:Nat}{r:Rw}(h:rows[i]?=some r):nms (rows.take (i+1))=nms (rows.take i)++(if xx r.k=true then [r.z] else []):=by
 have hi:i<rows.length:=(List.getElem?_eq_some_iff.mp h).1;have e:rows[i]=r:=by rw[getElem?_eq_getElem hi] at h;exact Option.some.inj h
 unfold nms;rw[take_succ_eq_append_getElem hi,filter_append,map_append,e];cases hb:xx r.k <;> simp [hb]
section
variable {P:Program}{w:World}{K:Frag}{mg:Str->Option Value}{base:Heap}{f G sg:Addr}{fd:FuncData}{c:C5}{m:MA}
theorem zbZ:zq ["parameters","word","at","parameter"] ["parameters","word"] (zj ze2):=fsc
theorem zhx(F:Fun K "number_of_word" "number_of_word" ze2 f fd)(T:zbO w K mg G sg)(PP:Pcs K m c):zx P w K mg base CX0 1 f fd ["parameters","word"] (zku c):=by
 refine F.ok zbZ (fun cdv A outer s H vs Q E hr h=>?_);obtain⟨a,ps,rows,kk,rfl,hkk,ha,hp,hok,q⟩:=h;refine⟨_,zh (yD PassesOwn.never rfl (wu rfl T.en (ac (pv 0) zb)) (yE rfl (zB (zp (i:=2) zbZ.nd rfl (Or.inl rfl)) (zB (zp (i:=3) zbZ.nd rfl (Or.inl rfl)) yk)))
   (zc (zE (zn z9 (yh (pv 3) rfl) (pv 1) (zz _)) (zc (zu (pv 2))) zA))) (zc (zu zfi)),?_⟩
 refine⟨_,rfl,a,rfl,⟨_,zg ha⟩,vB (K:=K) (a:=a) (xs:=ps.map V.ref) (fun i σ H'=>∃(v2 v3:Option V),σ=[some (.ref a),some (.str (kw kk)),v2,v3]/\zo H H'/\zM kk i (rows.drop i)=zM kk 0 rows)
  ⟨_,_,rfl,zo.refl _,rfl⟩ (fun i σ H' _ ⟨_,_,_,sH,_⟩=>zg (sH _ _ ha)) ?_ ?_⟩
 ·rintro i x p σ H' hx ⟨v2,v3,rfl,sH,hl⟩ hpn
  obtain⟨pa,hpa,rfl⟩:=xL hx;obtain⟨r,hr',dx,hdx⟩:=zV hp hpa;have rok:=hok r (mem_of_getElem? hr');have C:=PP r.k rok.1;rw[zds hr'] at hl;have hl':(if r.k=kk then some i else zM kk (i+1) (rows.drop (i+1)))=zM kk 0 rows:=hl
  have sp:=ze hpn (.tup [.int (i:Nat),.ref pa]);exists p,_,rfl,zv za,rfl,_,_,rfl,_,_,rfl,rfl,?_;exists _,rfl,pa,_,dx,_,_,rfl,sp _ _ (sH _ _ hdx),C.cl,C.nW,vL,_,rfl,rfl,_,rfl,?_;by_cases e:r.k=kk
  ·refine dT (by rw[e]) ?_
   rw[if_pos e] at hl';exists _,rfl,?_
   have:=q _ (sH.trans sp)
   rw[<- hl'] at this;exact this
  ·refine dF (fun z=>?_) ?_
   ·have h1:=zjP kk hkk r.k rok.1
    rw[decide_eq_true z] at h1;exact e (by simpa using h1.symm)
   ·rw[if_neg e] at hl'
    exact⟨_,_,rfl,sH.trans sp,hl'⟩
 ·rintro σ H' ⟨v2,v3,rfl,sH,hl⟩
  have e:zM kk 0 rows=none:=by
   rw[<- hl,length_map,hp.length,List.drop_length];rfl
  have:=q _ sH
  rw[e] at this;exact this
theorem zc4:zq ["bars","bar"] ["bars"] (zj zca):=fsc
theorem zfG{g:Addr}{gd:FuncData}(F:Fun K "refuse_bars_without_name" "refuse_bars_without_name" zca f fd)(cI:zI P w K mg base 1 "is_name" g gd ["thing"] (ziT K)):zx P w K mg base CX0 2 f fd ["bars"] zkt:=by
 refine F.ok zc4 (fun cdv A outer s H vs Q E hr h=>?_);obtain⟨b,bars,rfl,hb,hn,q⟩:=h;exists _,zc (yD PassesOwn.never rfl (yt (pv 0)) (zp (i:=1) zc4.nd rfl (Or.inl rfl)) (zc (zE (vc (yp (cF cI hr (ac (pv 1) zb)))) (zc xV) zA))),?_;exists _,rfl,b,rfl,⟨_,zg hb⟩,xC (K:=K) (a:=b) (xs:=bars.map V.str) (fun i σ H'=>∃v1,σ=[some (.ref b),v1]/\zo H H') ⟨_,rfl,zo.refl _⟩ (fun i σ H' _ ⟨_,_,sH⟩=>zg (sH _ _ hb)) ?_ ?_
 ·rintro i x σ H' hx ⟨v1,rfl,sH⟩
  obtain⟨z,hz,rfl⟩:=strs_at hx;have nz:=hn z (mem_of_getElem? hz);exists _,rfl,_,rfl,.inl ⟨z,rfl,zbs nz⟩,fun H2 s2=>⟨_,rfl,?_⟩;rw[show nmV (.str z)=true from nz];refine yo ?_;exact⟨_,rfl,sH.trans s2⟩
 ·rintro σ H' ⟨v1,rfl,sH⟩
  exact q _ sH
theorem zkZ:([Str.ofString "parameter"]:List Str).Nodup:=by decide +kernel
theorem jG:zq ["parameters","bars","seen","name"] ["parameters","bars"] (zj zaE):=fsc
theorem zfC{gd:FuncData}(F:Fun K "refuse_twice" "refuse_twice" zaE f fd)(T:zbO w K mg G sg)(PP:Pcs K m c)(GB:zx P w K mg base CX0 1 m.fB gd ["self"] (jh K m bnL))(bB:zN K gd ["self"] []):zx P w K mg base CX0 2 f fd ["parameters","bars"] (zks c):=by
 refine F.ok jG (fun cdv A outer s H vs Q E hr h=>?_);obtain⟨a,b,ps,rows,bars,rfl,ha,hp,hok,l1,hb,l2,nd,q⟩:=h;have hC:∀C,Cs5 c C->Cls K C/\yT K C "by_name" m.fB:=fun C ⟨k,hk,e⟩=>by rw[e];exact⟨(PP k hk).cl,(PP k hk).mB⟩
 refine⟨_,zh (zw (i:=2) jG.nd rfl (Or.inl rfl) (zcq zej rfl T.set (by decide +kernel:bootBuiltins "set"=some (.type "set"))))
  (zc (yD PassesOwn.never rfl (yt (zt xI (xO [] ["parameter"] [none] rfl ⟨rfl,rfl,rfl,rfl⟩ (yt (pv 0)) (z7 0) rfl rfl rfl
    (fun pins fp s H C=>⟨zp (i:=0) zkZ rfl (Or.inl rfl) (.inr rfl),xM (yp (wM (pv 0) hC GB hr bB zW)),zdc (K:=K) rfl (pv 0) rfl⟩)) (cTy xl T.lst PyProof.Rows.boot_list (ac (pv 1) zb)))) (zp (i:=3) jG.nd rfl (Or.inl rfl))
   (zh (zE (zn jY (pv 3) (pv 2) (by with_unfolding_all rfl)) (zc xV) zA)
   (zc (zG (zhi (pv 2) (pv 3) ⟨rfl,rfl,rfl,rfl⟩)))))),?_⟩
 exists rfl,fun se hse=>?_;have s1:zo H (upd H se (vk P w se (fun _=>false) 0)):=ze hse _;have g1:upd H se (vk P w se (fun _=>false) 0) se=some (vk P w se (fun _=>false) 0):=za;show uB _ _ _ _ (upd H se (vk P w se (fun _=>false) 0));generalize upd H se (vk P w se (fun _=>false) 0)=H1 at s1 g1 |-;have ha1:=s1 _ _ ha;have hp1:=xH s1 hp;exists _,rfl,a,rfl,⟨_,zg ha1⟩,fun D hD=>?_;refine ww (K:=K) (xs:=ps.map V.ref) (fun i ys H'=>zo H1 H'/\H' D=some (.lst ys)/\ys=(nms (rows.take i)).map V.str) ⟨ze hD _,za,rfl⟩ (fun i ys H' h=>zg (h.1 _ _ ha1)) ?_ ?_
 ·rintro i x ys H' hlt hx ⟨sH,hDy,ey⟩
  obtain⟨pa,hpa,rfl⟩:=xL hx;obtain⟨r,hr',dx,hdx⟩:=zV hp1 hpa;have rok:=hok r (mem_of_getElem? hr');have C:=PP r.k rok.1;have nl:ys.length<=i:=by
   rw[ey,length_map];unfold nms;rw[length_map];refine le_trans (length_filter_le _ _) ?_;rw[length_take];omega
  have hd2:=sH _ _ hdx;exists _,rfl,pa,_,dx,_,rfl,⟨r.k,rok.1,rfl⟩,hd2,u7 (by decide +kernel) (by decide +kernel) (by decide +kernel),pa,dx,_,_,_,_,rfl,C,hd2,_,rfl,?_
  rw[zdm r.k rok.1];have tk:=zhK hr';exists fun e=>?_,fun e=>?_
  ·rw[e,if_pos rfl] at tk
   exists _,rfl,pa,_,dx,_,_,rfl,hd2,C.cl,C.nN,jq,?_;refine lcN.mk hlt (yj (by rw[length_map,hp.length];omega)) hDy nl ⟨fun b u e=>?_,za,?_⟩
   ·rw[zf (zd e hD)]
    exact sH b u e
   ·rw[ey,tk,map_append]
    rfl
  ·rw[e,if_neg zft,append_nil] at tk
   exact lcS.mk hlt ⟨sH,hDy,by rw[ey,tk]⟩
 rintro ys H2 ⟨s2,hDy,ey⟩;have ey:ys=(nms rows).map V.str:=by
  rw[ey,length_map,hp.length,take_length]
 subst ey;have hb2:=s2 _ _ (s1 _ _ hb);exists _,rfl,b,_,rfl,.inl (zg hb2),fun l hl=>?_
 injections l hl H3 s3 g3
 have ln:(nms rows).length<=500:=by
  unfold nms;rw[length_map];exact le_trans (length_filter_le _ _) l1
 exists D,l,_,_,rfl,rfl,s3 _ _ hDy,g3,yj (by rw[length_map,length_map];omega),fun l4 hl4=>?_
 rw[<- map_append];have s4:=ze hl4 (.lst ((nms rows++bars).map V.str));have g4:upd H3 l4 (.lst ((nms rows++bars).map V.str)) l4=some (.lst ((nms rows++bars).map V.str)):=za;have nse:l4≠se:=fun z=>by
  rw[z] at hl4;rw[s3 _ _ (s2 _ _ g1)] at hl4;cases hl4
 generalize upd H3 l4 (.lst ((nms rows++bars).map V.str))=H4 at s4 g4 |-;have sA:zo H1 H4:=s2.trans (s3.trans s4);have gse:=sA _ _ g1;refine⟨l4,rfl,⟨_,zg g4⟩,xC (K:=K) (a:=l4) (xs:=(nms rows++bars).map V.str) (fun i σ H'=>∃(S:Str->Bool) (n:Nat) (v3:Option V),σ=[some (.ref a),some (.ref b),some (.ref se),v3]/\H' se=some (vk P w se S n)/\(∀z,S z=decide (z∈(nms rows++bars).take i))/\n<=i/\(∀b' u,H4 b'=some u->b'≠se->H' b'=some u))
  ⟨_,0,_,rfl,gse,fun z=>by simp,le_refl _,fun b' u e _=>e⟩ (fun i σ H' _ ⟨_,_,_,_,_,_,_,k⟩=>zg (k _ _ g4 nse)) ?_ ?_⟩
 ·rintro i x σ H' hx ⟨S,n,v3,rfl,hS,hSz,hn,k⟩
  obtain⟨z,hz,rfl⟩:=strs_at hx;have hi:i<(nms rows++bars).length:=(List.getElem?_eq_some_iff.mp hz).1;have ez:(nms rows++bars)[i]=z:=by rw[getElem?_eq_getElem hi] at hz;exact Option.some.inj hz
  have nz:S z=false:=by
   rw[hSz,decide_eq_false_iff_not];intro hm;obtain⟨j,hj,ej⟩:=List.mem_take_iff_getElem.mp hm
   have:=List.pairwise_iff_getElem.mp nd j i (by omega) hi (by omega)
   exact this (ej.trans ez.symm)
  exists _,rfl,_,rfl,se,S,n,z,rfl,rfl,hS,_,rfl,?_;rw[nz];refine yo ?_;exists _,rfl,se,S,n,rfl,hS,_,rfl,S,n,z,rfl,hS,?_,?_
  ·rw[length_append] at hi
   show n+1<4096;omega
  ·exists _,_,_,rfl,za,fun y=>?_,?_,fun b' u e ne=>?_
   ·rw[hSz y,take_succ_eq_append_getElem hi,ez]
    simp [mem_append]
   ·rw[nz]
    show n+1<=i+1;omega
   ·rw[zf ne]
    exact k b' u e ne
 ·rintro σ H' ⟨S,n,v3,rfl,hS,hSz,hn,k⟩
  refine q _ fun b' u e=>k b' u (sA _ _ (s1 _ _ e)) fun z=>?_;rw[z,hse] at e;cases e
def SX(f:Addr)(H H':Hp):Prop:=∀b u,H b=some u->b≠f->H' b=some u
theorem SX.same{f:Addr}{H H1 H2:Hp}(x:SX f H H1)(s:zo H1 H2):SX f H H2:=fun b u e n=>s b u (x b u e n)
theorem SX.upd{f:Addr}{H H1:Hp}{o:HO}(x:SX f H H1):SX f H (upd H1 f o):=fun b u e n=>by rw[zf n];exact x b u e n
theorem SX.refl{f:Addr}{H:Hp}:SX f H H:=fun _ _ e _=>e
theorem wZ(f:Str)(v:V):∀fs:List (Str×V),(zO f v fs).length<=fs.length+1
 | []=>le_refl _
 | (g,x)::r=>by
  show(if g=f then (g,v)::r else (g,x)::zO f v r).length<=_
  split
  ·simp
  ·have:=wZ f v r
   simp only[length_cons];omega
def Pre(fs:List (Str×V)):Prop:=fs.length<=50/\∀m,m∉zgE->fs.lookup m=none
structure FC(K:Frag)(CF:Addr):Prop where
 cl:Cls K CF
 n1:z5 K CF "row"
 n2:z5 K CF "bar_names"
 n3:z5 K CF "place_count"
 n4:z5 K CF "tail_number"
 n5:z5 K CF "bag_number"
 n6:z5 K CF "doors"
inductive zeM(c:C5)(CF:Addr)(vs:List V)(H:Hp)(Q:VK)(E:XK):Prop|mk(f a b dx:Addr)(fs:List (Str×V))(ps:List Addr)(rows:List Rw)(bars:List Str):vs=[.ref f,.ref a,.ref b]->H f=some (.ins CF dx fs)->Pre fs->H a=some (.lst (ps.map V.ref))->Paired (PAt c H) ps rows->(∀r∈rows,r.ok)->rows.length<=500->H b=some (.lst (bars.map V.str))->(∀H',SX f H H'->qw c CF H H' f rows bars->(∃dx' fs',H' f=some (.ins CF dx' fs')/\fs'.length<=fs.length+6)->Q .non H')->zeM c CF vs H Q E
theorem zhg{rows:List Rw}{i:Nat}{r:Rw}(h:rows[i]?=some r):plN (rows.take (i+1))=plN (rows.take i)+(if qp r.k=true then 1 else 0):=by
 have hi:i<rows.length:=(List.getElem?_eq_some_iff.mp h).1;have e:rows[i]=r:=by rw[getElem?_eq_getElem hi] at h;exact Option.some.inj h
 unfold plN;rw[take_succ_eq_append_getElem hi,filter_append,length_append,e];cases hb:qp r.k <;> simp [hb]
theorem zaf:∀(rows:List Rw) (i:Nat) (acc:List (Key×V)),(xo i acc rows).length<=acc.length+rows.length
 | [],_,_=>le_refl _
 | r::rs,i,acc=>by
  have h:=zaf rs (i+1) (if xx r.k=true then yC acc (.inr r.z) (.int i) else acc)
  have h2:(if xx r.k=true then yC acc (.inr r.z) (.int i) else acc).length<=acc.length+1:=by
   split
   ·exact xP acc _ _
   ·omega
  show(xo (i+1) _ rs).length<=acc.length+(rs.length+1);omega
theorem jd{r:Rw}:∀(rows:List Rw) (j i:Nat) (acc:List (Key×V)),rows[i]?=some r->xo j acc (rows.take (i+1))=(if xx r.k=true then yC (xo j acc (rows.take i)) (.inr r.z) (.int (j+i:Nat)) else xo j acc (rows.take i))
 | [],_,_,_,h=>by simp at h
 | r0::rs,j,0,acc,h=>by
  have e:r0=r:=by simpa using h
  subst e;show(if xx r0.k=true then yC acc (.inr r0.z) (.int j) else acc)=_
  rfl
 | r0::rs,j,i+1,acc,h=>by
  have:=jd rs (j+1) i (if xx r0.k=true then yC acc (.inr r0.z) (.int j) else acc) (by simpa using h)
  show xo (j+1) _ (rs.take (i+1))=_;rw[this,show j+1+i=j+(i+1) by omega]
  rfl
variable {CF:Addr}
theorem PAt.ne{H:Hp}{p f CF dx:Addr}{r:Rw}{fs:List (Str×V)}(h:PAt c H p r)(e:H f=some (.ins CF dx fs))(n:fs.lookup ("word" : Str)=none):p≠f:=fun z=>by
 obtain⟨d,h⟩:=h;rw[z,e] at h;injection h with h
 injection h with h1 h2 h3
 rw[h3,vL] at n;cases n
theorem vM{H H':Hp}{f CF dx:Addr}{fs:List (Str×V)}(e:H f=some (.ins CF dx fs))(n:fs.lookup ("word" : Str)=none)(x:SX f H H'){ps:List Addr}{rows:List Rw}(h:Paired (PAt c H) ps rows):Paired (PAt c H') ps rows:=
 zm (fun _ _ z=>by
  have ne:=z.ne e n;obtain⟨d,q⟩:=z;exact⟨d,x _ _ q ne⟩) h
theorem zk8:([Str.ofString "at",Str.ofString "parameter"]:List Str).Nodup:=by decide +kernel
theorem zi0:zq ["self","parameters","bars"] ["self","parameters","bars"] (zj ze5):=fsc
theorem zhC{g:Addr}{gd gp gb:FuncData}(F:Fun K "keep" "Form.keep" ze5 f fd)(T:zbO w K mg G sg)(PP:Pcs K m c)(FK:FC K CF)(cW:zI P w K mg base 1 "number_of_word" g gd ["parameters","word"] (zku c))
  (GP:zx P w K mg base CX0 1 m.fP gp ["self"] (jh K m bpL)) (bP:zN K gp ["self"] []) (GB:zx P w K mg base CX0 1 m.fB gb ["self"] (jh K m bnL)) (bB:zN K gb ["self"] []):zx P w K mg base CX0 2 f fd ["self","parameters","bars"] (zeM c CF):=by
 refine F.ok zi0 (fun cdv A outer s H vs Q E hr h=>?_);obtain⟨f,a,b,dx,fs,ps,rows,bars,rfl,hf,⟨pl,pn⟩,ha,hp,hok,l5,hb,q⟩:=h;have hP:∀C,Cs5 c C->Cls K C/\yT K C "by_place" m.fP:=fun C ⟨k,hk,e⟩=>by rw[e];exact⟨(PP k hk).cl,(PP k hk).mP⟩
 have hB:∀C,Cs5 c C->Cls K C/\yT K C "by_name" m.fB:=fun C ⟨k,hk,e⟩=>by rw[e];exact⟨(PP k hk).cl,(PP k hk).mB⟩
 have nw:fs.lookup ("word" : Str)=none:=pn _ (by decide +kernel)
 refine⟨_,zh (y9 (pv 0) (cTy xl T.lst PyProof.Rows.boot_list (ac (pv 1) zb)) rfl)
  (zh (y9 (pv 0) (cTy xl T.lst PyProof.Rows.boot_list (ac (pv 2) zb)) rfl)
  (zh (y9 (pv 0) (cB zK T.len PySem.boot_len (ac (xO [] ["parameter"] [none] rfl ⟨rfl,rfl,rfl,rfl⟩ (yt (yh (pv 0) rfl)) (z7 0) rfl rfl rfl
    (fun pins fp s H C=>⟨zp (i:=0) zkZ rfl (Or.inl rfl) (.inr rfl),xM (yp (wM (pv 0) hP GP hr bP zW)),pv 0⟩)) zb)) rfl)
  (zh (y9 (pv 0) (cF cW hr (ac (yh (pv 0) rfl) (ac zr zb))) rfl)
  (zh (y9 (pv 0) (cF cW hr (ac (yh (pv 0) rfl) (ac zr zb))) rfl)
  (zc (y9 (pv 0) (zkN [] ["at","parameter"] [none,none] rfl ⟨rfl,rfl,rfl,rfl⟩ (wu rfl T.en (ac (yh (pv 0) rfl) zb)) (wS (K:=K) (n:=2) 0 1) rfl rfl rfl
    (fun pins fp s H C=>⟨yE rfl (zB (zp (i:=0) zk8 rfl (Or.inl rfl) (.inr rfl)) (zB (zp (i:=1) zk8 rfl (Or.inl rfl) (.inr rfl)) yk)),xM (yp (wM (pv 1) hB GB hr bB zW)),zdc (K:=K) rfl (pv 1) rfl,pv 0⟩)) rfl)))))),?_⟩
 exists _,rfl,a,_,rfl,.inl (zg ha),fun l1 hl1=>?_;have s1:=ze hl1 (.lst (ps.map V.ref));exists _,rfl,f,CF,dx,fs,rfl,s1 _ _ hf,FK.cl,FK.n1,(by omega),?_
 have x1:SX f H (upd (upd H l1 (.lst (ps.map V.ref))) f (.ins CF dx (zO "row" (.ref l1) fs))):=(SX.refl.same s1).upd;have f1:upd (upd H l1 (.lst (ps.map V.ref))) f (.ins CF dx (zO "row" (.ref l1) fs)) f=some (.ins CF dx (zO "row" (.ref l1) fs)):=za;have e1:upd (upd H l1 (.lst (ps.map V.ref))) f (.ins CF dx (zO "row" (.ref l1) fs)) l1=some (.lst (ps.map V.ref)):=by
  rw[zf (fun z=>by rw[z,hf] at hl1;cases hl1),za]
 have p1:=wZ "row" (.ref l1) fs;have r1:(zO "row" (.ref l1) fs).lookup ("row" : Str)=some (.ref l1):=by rw[zk,if_pos rfl]
 show uB _ _ _ _ (upd (upd H l1 (.lst (ps.map V.ref))) f (.ins CF dx (zO "row" (.ref l1) fs)));generalize upd (upd H l1 (.lst (ps.map V.ref))) f (.ins CF dx (zO "row" (.ref l1) fs))=H1 at x1 f1 e1 |-;have nbf:b≠f:=ym hb hf (by intro z;cases z)
 exists _,rfl,b,_,rfl,.inl (zg (x1 _ _ hb nbf)),fun l2 hl2=>?_;have s2:=ze hl2 (.lst (bars.map V.str));have hlb:H l2=none:=by
  cases e:H l2 with
  | none=>rfl
  | some u=>exact absurd (x1 _ _ e (fun z=>by rw[z,f1] at hl2;cases hl2)) (by rw[hl2];intro z;cases z)
 exists _,rfl,f,CF,dx,_,rfl,s2 _ _ f1,FK.cl,FK.n2,(by omega),?_
 have x2:SX f H (upd (upd H1 l2 (.lst (bars.map V.str))) f (.ins CF dx (zO "bar_names" (.ref l2) (zO "row" (.ref l1) fs)))):=(x1.same s2).upd;have f2:upd (upd H1 l2 (.lst (bars.map V.str))) f (.ins CF dx (zO "bar_names" (.ref l2) (zO "row" (.ref l1) fs))) f=some (.ins CF dx (zO "bar_names" (.ref l2) (zO "row" (.ref l1) fs))):=za;have g2:upd (upd H1 l2 (.lst (bars.map V.str))) f (.ins CF dx (zO "bar_names" (.ref l2) (zO "row" (.ref l1) fs))) l2=some (.lst (bars.map V.str)):=by
  rw[zf (fun z=>by rw[z,f1] at hl2;cases hl2),za]
 have e2:upd (upd H1 l2 (.lst (bars.map V.str))) f (.ins CF dx (zO "bar_names" (.ref l2) (zO "row" (.ref l1) fs))) l1=some (.lst (ps.map V.ref)):=by
  rw[zf (ym e1 f1 (by intro z;cases z)),s2 _ _ e1]
 have p2:=wZ "bar_names" (.ref l2) (zO "row" (.ref l1) fs);have r2:(zO "bar_names" (.ref l2) (zO "row" (.ref l1) fs)).lookup ("row" : Str)=some (.ref l1):=by rw[zk,if_neg (by decide +kernel)];exact r1
 show uB _ _ _ _ (upd (upd H1 l2 (.lst (bars.map V.str))) f (.ins CF dx (zO "bar_names" (.ref l2) (zO "row" (.ref l1) fs))));generalize hfs2:zO "bar_names" (.ref l2) (zO "row" (.ref l1) fs)=fs2 at f2 e2 g2 p2 r2 x2 |-;generalize upd (upd H1 l2 (.lst (bars.map V.str))) f (.ins CF dx fs2)=H2 at x2 f2 e2 g2 |-;have hp2:=vM hf nw x2 hp;exists _,rfl,f,CF,dx,_,_,rfl,f2,FK.cl,FK.n1,r2,l1,rfl,⟨_,zg e2⟩,fun D hD=>?_;refine ww (K:=K) (xs:=ps.map V.ref) (fun i ys H'=>zo H2 H'/\H' D=some (.lst ys)/\ys.length=plN (rows.take i)) ⟨ze hD _,za,rfl⟩ (fun i ys H' h=>zg (h.1 _ _ e2)) ?_ ?_
 ·rintro i x ys H' hlt hx ⟨sH,hDy,ey⟩
  obtain⟨pa,hpa,rfl⟩:=xL hx;obtain⟨r,hr',dx',hdx⟩:=zV hp2 hpa;have rok:=hok r (mem_of_getElem? hr');have C:=PP r.k rok.1;have nl:ys.length<=i:=by
   rw[ey];unfold plN;refine le_trans (length_filter_le _ _) ?_;rw[length_take];omega
  have hd2:=sH _ _ hdx;exists _,rfl,pa,_,dx',_,rfl,⟨r.k,rok.1,rfl⟩,hd2,u7 (by decide +kernel) (by decide +kernel) (by decide +kernel),pa,dx',_,_,_,_,rfl,C,hd2,_,rfl,?_
  rw[zit r.k rok.1];have tk:=zhg hr';exists fun e=>?_,fun e=>?_
  ·rw[e,if_pos rfl] at tk
   exists _,rfl,lcN.mk hlt (yj (by rw[length_map,hp.length];omega)) hDy nl ⟨fun b u e=>?_,za,?_⟩
   ·rw[zf (zd e hD)]
    exact sH b u e
   ·rw[length_append,ey,tk]
    rfl
  ·rw[e,if_neg zft] at tk
   exact lcS.mk hlt ⟨sH,hDy,by rw[ey,tk];rfl⟩
 rintro ys H3 ⟨s3,hDy,ey⟩;rw[length_map,hp.length,take_length] at ey;exists D,_,rfl,.inl (zg hDy),?_;rw[ey];have x3:=x2.same s3;exists _,rfl,f,CF,dx,_,rfl,s3 _ _ f2,FK.cl,FK.n3,(by omega),?_
 have f3:upd H3 f (.ins CF dx (zO "place_count" (.int (plN rows:Nat)) fs2)) f=some (.ins CF dx (zO "place_count" (.int (plN rows:Nat)) fs2)):=za;have x4:SX f H (upd H3 f (.ins CF dx (zO "place_count" (.int (plN rows:Nat)) fs2))):=x3.upd;have e4:upd H3 f (.ins CF dx (zO "place_count" (.int (plN rows:Nat)) fs2)) l1=some (.lst (ps.map V.ref)):=by rw[zf (ym e2 f2 (by intro z;cases z))];exact s3 _ _ e2
 have g4:upd H3 f (.ins CF dx (zO "place_count" (.int (plN rows:Nat)) fs2)) l2=some (.lst (bars.map V.str)):=by rw[zf (ym g2 f2 (by intro z;cases z))];exact s3 _ _ g2
 have p3:=wZ "place_count" (.int (plN rows:Nat)) fs2;have r3:(zO "place_count" (.int (plN rows:Nat)) fs2).lookup ("row" : Str)=some (.ref l1):=by rw[zk,if_neg (by decide +kernel)];exact r2
 show uB _ _ _ _ (upd H3 f (.ins CF dx (zO "place_count" (.int (plN rows:Nat)) fs2)));generalize hfs3:zO "place_count" (.int (plN rows:Nat)) fs2=fs3 at f3 x4 e4 g4 p3 r3 |-;generalize upd H3 f (.ins CF dx fs3)=H4 at x4 f3 e4 g4 |-;exists _,rfl,f,CF,dx,_,_,rfl,f3,FK.cl,FK.n1,r3,l1,ps,rows,2,rfl,by decide,e4,vM hf nw x4 hp,hok,fun H5 s5=>?_
 exists _,rfl,f,CF,dx,_,rfl,s5 _ _ f3,FK.cl,FK.n4,(by omega),?_
 have f5:upd H5 f (.ins CF dx (zO "tail_number" (wn (zM 2 0 rows)) fs3)) f=some (.ins CF dx (zO "tail_number" (wn (zM 2 0 rows)) fs3)):=za;have x5:SX f H (upd H5 f (.ins CF dx (zO "tail_number" (wn (zM 2 0 rows)) fs3))):=(x4.same s5).upd;have e5:upd H5 f (.ins CF dx (zO "tail_number" (wn (zM 2 0 rows)) fs3)) l1=some (.lst (ps.map V.ref)):=by rw[zf (ym e4 f3 (by intro z;cases z))];exact s5 _ _ e4
 have g5:upd H5 f (.ins CF dx (zO "tail_number" (wn (zM 2 0 rows)) fs3)) l2=some (.lst (bars.map V.str)):=by rw[zf (ym g4 f3 (by intro z;cases z))];exact s5 _ _ g4
 have p4:=wZ "tail_number" (wn (zM 2 0 rows)) fs3;have r4:(zO "tail_number" (wn (zM 2 0 rows)) fs3).lookup ("row" : Str)=some (.ref l1):=by rw[zk,if_neg (by decide +kernel)];exact r3
 show uB _ _ _ _ (upd H5 f (.ins CF dx (zO "tail_number" (wn (zM 2 0 rows)) fs3)));generalize hfs4:zO "tail_number" (wn (zM 2 0 rows)) fs3=fs4 at f5 x5 e5 g5 p4 r4 |-;generalize upd H5 f (.ins CF dx fs4)=H6 at x5 f5 e5 g5 |-;exists _,rfl,f,CF,dx,_,_,rfl,f5,FK.cl,FK.n1,r4,l1,ps,rows,4,rfl,by decide,e5,vM hf nw x5 hp,hok,fun H7 s7=>?_
 exists _,rfl,f,CF,dx,_,rfl,s7 _ _ f5,FK.cl,FK.n5,(by omega),?_
 have f7:upd H7 f (.ins CF dx (zO "bag_number" (wn (zM 4 0 rows)) fs4)) f=some (.ins CF dx (zO "bag_number" (wn (zM 4 0 rows)) fs4)):=za;have x7:SX f H (upd H7 f (.ins CF dx (zO "bag_number" (wn (zM 4 0 rows)) fs4))):=(x5.same s7).upd;have e7:upd H7 f (.ins CF dx (zO "bag_number" (wn (zM 4 0 rows)) fs4)) l1=some (.lst (ps.map V.ref)):=by rw[zf (ym e5 f5 (by intro z;cases z))];exact s7 _ _ e5
 have g7:upd H7 f (.ins CF dx (zO "bag_number" (wn (zM 4 0 rows)) fs4)) l2=some (.lst (bars.map V.str)):=by rw[zf (ym g5 f5 (by intro z;cases z))];exact s7 _ _ g5
 have p5:=wZ "bag_number" (wn (zM 4 0 rows)) fs4;have r5:(zO "bag_number" (wn (zM 4 0 rows)) fs4).lookup ("row" : Str)=some (.ref l1):=by rw[zk,if_neg (by decide +kernel)];exact r4
 generalize hfs5:zO "bag_number" (wn (zM 4 0 rows)) fs4=fs5 at f7 x7 e7 g7 p5 r5 |-;generalize upd H7 f (.ins CF dx fs5)=H8 at x7 f7 e7 g7 |-;have hp8:=vM hf nw x7 hp;exists _,rfl,f,CF,dx,_,_,rfl,f7,FK.cl,FK.n1,r5,l1,rfl,⟨_,zg e7⟩,fun D2 hD2=>?_;refine zh4 (K:=K) (xs:=ps.map V.ref) (fun i ys H'=>zo H8 H'/\H' D2=some (.dK ys)/\ys=xo 0 [] (rows.take i)) ⟨ze hD2 _,za,rfl⟩ (fun i ys H' h=>zg (h.1 _ _ e7)) ?_ ?_
 ·rintro i x p ys H' hlt hx ⟨sH,hDy,ey⟩ hpn
  obtain⟨pa,hpa,rfl⟩:=xL hx;obtain⟨r,hr',dx',hdx⟩:=zV hp8 hpa;have rok:=hok r (mem_of_getElem? hr');have C:=PP r.k rok.1;have sp:=ze hpn (.tup [.int (i:Nat),.ref pa]);have hd2:=sp _ _ (sH _ _ hdx);have hDp:upd H' p (.tup [.int (i:Nat),.ref pa]) D2=some (.dK ys):=by rw[zf (zd hDy hpn)];exact hDy
  have nl:ys.length<=i:=by
   rw[ey];refine le_trans (zaf _ _ _) ?_;rw[length_take];show 0+_<=i;omega
  exists p,_,rfl,zv za,rfl,_,_,rfl,_,_,rfl,rfl,?_;exists _,rfl,pa,_,dx',_,rfl,⟨r.k,rok.1,rfl⟩,hd2,u7 (by decide +kernel) (by decide +kernel) (by decide +kernel),pa,dx',_,_,_,_,rfl,C,hd2,_,rfl,?_
  rw[zdm r.k rok.1];have tk:=jd rows 0 i [] hr';exists fun e=>?_,fun e=>?_
  ·rw[e,if_pos rfl] at tk
   exists _,rfl,pa,_,dx',_,_,rfl,hd2,C.cl,C.nN,jq,_,rfl,dcN.mk (.inr r.z) hlt rfl (yj (by rw[length_map,hp.length];omega)) hDp nl ⟨fun b u e=>?_,za,?_⟩
   ·rw[zf (zd e hD2)]
    exact sp _ _ (sH b u e)
   ·rw[tk,<- ey,Nat.zero_add]
  ·rw[e,if_neg zft] at tk
   exact dcS.mk hlt ⟨sH.trans sp,hDp,by rw[ey,tk]⟩
 rintro ys H9 ⟨s9,hDy,ey⟩;rw[length_map,hp.length,take_length] at ey;exists _,rfl,f,CF,dx,_,rfl,s9 _ _ f7,FK.cl,FK.n6,(by omega),?_
 have nf:∀{x:Addr}{o:HO},H9 x=some o->(∀C d g,o≠.ins C d g)->upd H9 f (.ins CF dx (zO "doors" (.ref D2) fs5)) x=some o:=fun {x o} e n=>by
  rw[zf (ym e (s9 _ _ f7) (by intro z;exact n _ _ _ z))]
  exact e
 refine q _ (x7.same s9).upd ⟨dx,_,l1,l2,D2,ps,za,?_,nf (s9 _ _ e7) (by intro _ _ _ z;cases z),vM hf nw (x7.same s9).upd hp,nf (s9 _ _ g7) (by intro _ _ _ z;cases z),nf (by rw[hDy,ey]) (by intro _ _ _ z;cases z),hl1,hlb⟩ ⟨dx,_,za,le_trans (wZ _ _ _) (by omega)⟩
 rw[<- hfs5,<- hfs4,<- hfs3,<- hfs2];exists ?_,?_,?_,?_,?_,?_,fun mm hm=>?_
 ·rw[zk,if_neg (by decide +kernel),zk,if_neg (by decide +kernel),zk,if_neg (by decide +kernel),zk,if_neg (by decide +kernel),zk,if_neg (by decide +kernel),zk,if_pos rfl]
 ·rw[zk,if_neg (by decide +kernel),zk,if_neg (by decide +kernel),zk,if_neg (by decide +kernel),zk,if_neg (by decide +kernel),zk,if_pos rfl]
 ·rw[zk,if_neg (by decide +kernel),zk,if_neg (by decide +kernel),zk,if_neg (by decide +kernel),zk,if_pos rfl]
 ·rw[zk,if_neg (by decide +kernel),zk,if_neg (by decide +kernel),zk,if_pos rfl]
 ·rw[zk,if_neg (by decide +kernel),zk,if_pos rfl]
 ·rw[zk,if_pos rfl]
 ·have h':∀a∈zgE,¬mm=a:=fun a ha e=>hm (e ▸ ha)
  rw[zk,if_neg (h' _ (by decide +kernel)),zk,if_neg (h' _ (by decide +kernel)),zk,if_neg (h' _ (by decide +kernel)),zk,if_neg (h' _ (by decide +kernel)),zk,if_neg (h' _ (by decide +kernel)),zk,if_neg (h' _ (by decide +kernel))]
  exact pn mm hm
inductive zkw(c:C5)(CF:Addr)(vs:List V)(H:Hp)(Q:VK)(E:XK):Prop|mk(f a dx:Addr)(bv:V)(ps:List Addr)(rows:List Rw)(bars:List Str):vs=[.ref f,.ref a,bv]->H f=some (.ins CF dx [])->H a=some (.lst (ps.map V.ref))->Paired (PAt c H) ps rows->((bv=.non/\bars=[])\/∃b,bv=.ref b/\H b=some (.lst (bars.map V.str)))->zdC rows bars->(∀H',SX f H H'->qw c CF H H' f rows bars->(∃dx' fs',H' f=some (.ins CF dx' fs')/\fs'.length<=6)->Q .non H')->zkw c CF vs H Q E
inductive uC(c:C5)(CF:Addr)(vs:List V)(H:Hp)(Q:VK)(E:XK):Prop|mk(f:Addr)(rows:List Rw)(bars:List Str):vs=[.ref f]->yF c CF H f rows bars->(∀(l:Addr) (ps:List Addr) (H':Hp),zo H H'->H l=none->H' l=some (.lst (ps.map V.ref))->Paired (PAt c H') ps rows->Q (.ref l) H')->uC c CF vs H Q E
inductive zbY(c:C5)(CF:Addr)(vs:List V)(H:Hp)(Q:VK)(E:XK):Prop|mk(f:Addr)(rows:List Rw)(bars:List Str):vs=[.ref f]->yF c CF H f rows bars->(∀(l:Addr) (H':Hp),zo H H'->H l=none->H' l=some (.lst (bars.map V.str))->Q (.ref l) H')->zbY c CF vs H Q E
inductive vp(c:C5)(CF:Addr)(vs:List V)(H:Hp)(Q:VK)(E:XK):Prop|mk(f:Addr)(rows:List Rw)(bars:List Str):vs=[.ref f]->yF c CF H f rows bars->(Q (.int (plN rows:Nat)) H)->vp c CF vs H Q E
inductive wV(c:C5)(CF:Addr)(kk:Nat)(vs:List V)(H:Hp)(Q:VK)(E:XK):Prop|mk(f:Addr)(rows:List Rw)(bars:List Str):vs=[.ref f]->yF c CF H f rows bars->(Q (wn (zM kk 0 rows)) H)->wV c CF kk vs H Q E
inductive zcU(c:C5)(CF:Addr)(vs:List V)(H:Hp)(Q:VK)(E:XK):Prop|mk(f:Addr)(z:Str)(rows:List Rw)(bars:List Str):vs=[.ref f,.str z]->yF c CF H f rows bars->(Q ((z8 (xo 0 [] rows) (.inr z)).getD .non) H)->zcU c CF vs H Q E
def TAt(H:Hp)(u:Addr)(r:Rw):Prop:=H u=some (.tup (rv r))
theorem zU{H H':Hp}{us:List Addr}{rows:List Rw}(s:zo H H')(h:Paired (TAt H) us rows):Paired (TAt H') us rows:=zm (fun _ _ z=>s _ _ z) h
theorem zc6:zq ["self","parameters","bars","names"] ["self","parameters","bars"] (zj zcl):=fsc
theorem zfT{ds:List Value}{g1 g2 g3 g4 g5:Addr}{e1 e2 e3 e4 e5:FuncData}(F:qv K "__init__" "Form.__init__" zcl f fd ds)(FK:FC K CF)(mK:yT K CF "keep" g5)
  (cM:zI P w K mg base 1 "refuse_too_many" g1 e1 ["parameters","bars"] (zeJ K)) (cO:zI P w K mg base 1 "refuse_bad_order" g2 e2 ["parameters"] (zij c)) (cB':zI P w K mg base 2 "refuse_bars_without_name" g3 e3 ["bars"] zkt) (cT:zI P w K mg base 2 "refuse_twice" g4 e4 ["parameters","bars"] (zks c))
  (GK:zx P w K mg base CX0 2 g5 e5 ["self","parameters","bars"] (zeM c CF)) (bK:zN K e5 ["self","parameters","bars"] []):zx P w K mg base CX0 3 f fd ["self","parameters","bars"] (zkw c CF):=by
 refine F.ok zc6 (fun vs H Q E h=>?_) (fun cdv A outer s H vs Q E hr h=>?_)
 ·obtain⟨f,a,dx,bv,ps,rows,bars,rfl,_⟩:=h
  rfl
 obtain⟨f,a,dx,bv,ps,rows,bars,rfl,hf,ha,hp,hb,V',q⟩:=h;have hr1:yf 1 _:=hr.mono (by decide)
 refine⟨_,zh (zw (i:=3) zc6.nd rfl (Or.inl rfl) (jU (ue (zaK (pv 2))) (yg zb) (pv 2)))
  (zh (zG (cF cM hr1 (ac (pv 1) (ac (pv 3) zb))))
  (zh (zG (cF cO hr1 (ac (pv 1) zb)))
  (zh (zG (cF cB' hr (ac (pv 3) zb)))
  (zh (zG (cF cT hr (ac (pv 1) (ac (pv 3) zb))))
  (zc (zG (jr (pv 0) FK.cl mK GK hr bK .nil zW (ac (pv 1) (ac (pv 3) zb))))))))),?_⟩
 try dsimp only
 refine wq (fun σ' H'=>∃b,σ'=[some (.ref f),some (.ref a),some bv,some (.ref b)]/\zo H H'/\H' b=some (.lst (bars.map V.str))) ?_ (fun key=>?_);rotate_left
 ·rcases hb with ⟨rfl,rfl⟩|⟨b,rfl,hb⟩
  ·exists _,rfl,_,rfl,?_
   refine dT rfl ?_;exists wj,fun l hl=>?_;exact key _ _ ⟨l,rfl,ze hl _,za⟩
  ·exists _,rfl,_,rfl,?_
   refine dF (by intro z;cases z) ?_
   exact⟨_,rfl,key _ _ ⟨b,rfl,zo.refl _,hb⟩⟩
 rintro σ1 H1 ⟨b,rfl,s1,hb1⟩;have ha1:=s1 _ _ ha;exists _,rfl,_,rfl,a,b,_,_,rfl,zg ha1,zg hb1,(by rw[length_map,hp.length];exact V'.l24),(by rw[length_map];exact V'.l60),?_
 exists _,rfl,a,ps,rows,rfl,ha1,xH s1 hp,V'.ok,V'.ord,fun H2 s2=>?_;exists _,rfl,b,bars,rfl,s2 _ _ hb1,V'.bn,fun H3 s3=>?_;have s13:=s1.trans (s2.trans s3);exists _,rfl,_,rfl,a,b,ps,rows,bars,rfl,s13 _ _ ha,xH s13 hp,V'.ok,le_trans V'.l24 (by decide),s3 _ _ (s2 _ _ hb1),le_trans V'.l60 (by decide),V'.nd,fun H4 s4=>?_
 have s14:=s13.trans s4;exists _,rfl,f,dx,_,rfl,s14 _ _ hf,rfl,_,rfl,_,rfl,f,a,b,dx,[],ps,rows,bars,rfl,s14 _ _ hf,⟨by decide,fun _ _=>rfl⟩,s14 _ _ ha,xH s14 hp,V'.ok,le_trans V'.l24 (by decide),s4 _ _ (s3 _ _ (s2 _ _ hb1)),fun H5 x5 F5 L5=>?_
 exact q _ (fun b' u e n=>x5 b' u (s14 _ _ e) n) (F5.of s14) L5
theorem zg3:zq ["self"] ["self"] (zj zck):=fsc
theorem zfS(F:Fun K "parameters" "Form.parameters" zck f fd)(T:zbO w K mg G sg)(FK:FC K CF):zx P w K mg base CX0 1 f fd ["self"] (uC c CF):=by
 refine F.ok zg3 (fun cdv A outer s H vs Q E hr h=>?_);obtain⟨f,rows,bars,rfl,⟨dx,fs,lr,lb,ld,ps,h1,h2,h3,h4,h5,h6⟩,q⟩:=h;exists _,zc (zu (cTy xl T.lst PyProof.Rows.boot_list (ac (yh (pv 0) rfl) zb))),?_;exists _,rfl,f,CF,dx,_,_,rfl,h1,FK.cl,FK.n1,h2.row,lr,_,rfl,.inl (zg h3),fun l hl=>?_;have s1:=ze hl (.lst (ps.map V.ref));exact q l ps _ s1 hl za (xH s1 h4)
theorem zg4:zq ["self"] ["self"] (zj zcm):=fsc
theorem zfU(F:Fun K "bars" "Form.bars" zcm f fd)(T:zbO w K mg G sg)(FK:FC K CF):zx P w K mg base CX0 1 f fd ["self"] (zbY c CF):=by
 refine F.ok zg4 (fun cdv A outer s H vs Q E hr h=>?_);obtain⟨f,rows,bars,rfl,⟨dx,fs,lr,lb,ld,ps,h1,h2,h3,h4,h5,h6⟩,q⟩:=h;exists _,zc (zu (cTy xl T.lst PyProof.Rows.boot_list (ac (yh (pv 0) rfl) zb))),?_;exists _,rfl,f,CF,dx,_,_,rfl,h1,FK.cl,FK.n2,h2.bn,lb,_,rfl,.inl (zg h5),fun l hl=>?_;exact q l _ (ze hl _) hl za
theorem zdM:zq ["self"] ["self"] (zj jN):=fsc
theorem zcu(F:Fun K "places" "Form.places" jN f fd)(FK:FC K CF):zx P w K mg base CX0 1 f fd ["self"] (vp c CF):=by
 refine F.ok zdM (fun cdv A outer s H vs Q E hr h=>?_);obtain⟨f,rows,bars,rfl,⟨dx,fs,lr,lb,ld,ps,h1,h2,h3,h4,h5,h6⟩,q⟩:=h;exact⟨_,zc (zu (yh (pv 0) rfl)),_,rfl,f,CF,dx,_,_,rfl,h1,FK.cl,FK.n3,h2.pc,q⟩
theorem zg2:zq ["self"] ["self"] (zj zcj):=fsc
theorem zfR(F:Fun K "tail" "Form.tail" zcj f fd)(FK:FC K CF):zx P w K mg base CX0 1 f fd ["self"] (wV c CF 2):=by
 refine F.ok zg2 (fun cdv A outer s H vs Q E hr h=>?_);obtain⟨f,rows,bars,rfl,⟨dx,fs,lr,lb,ld,ps,h1,h2,h3,h4,h5,h6⟩,q⟩:=h;exact⟨_,zc (zu (yh (pv 0) rfl)),_,rfl,f,CF,dx,_,_,rfl,h1,FK.cl,FK.n4,h2.tn,q⟩
theorem zi4:zq ["self"] ["self"] (zj ze9):=fsc
theorem zhF(F:Fun K "bag" "Form.bag" ze9 f fd)(FK:FC K CF):zx P w K mg base CX0 1 f fd ["self"] (wV c CF 4):=by
 refine F.ok zi4 (fun cdv A outer s H vs Q E hr h=>?_);obtain⟨f,rows,bars,rfl,⟨dx,fs,lr,lb,ld,ps,h1,h2,h3,h4,h5,h6⟩,q⟩:=h;exact⟨_,zc (zu (yh (pv 0) rfl)),_,rfl,f,CF,dx,_,_,rfl,h1,FK.cl,FK.n5,h2.bg,q⟩
theorem zi3:zq ["self","name"] ["self","name"] (zj ze8):=fsc
theorem zhE(F:Fun K "number_of" "Form.number_of" ze8 f fd)(FK:FC K CF):zx P w K mg base CX0 1 f fd ["self","name"] (zcU c CF):=by
 refine F.ok zi3 (fun cdv A outer s H vs Q E hr h=>?_);obtain⟨f,z,rows,bars,rfl,⟨dx,fs,lr,lb,ld,ps,h1,h2,h3,h4,h5,h6⟩,q⟩:=h;exists _,zc (zu (zfl (uu hr) (yh (pv 0) rfl) (pv 1) ⟨rfl,rfl,rfl,rfl⟩)),?_;exists _,rfl,f,CF,dx,_,_,rfl,h1,FK.cl,FK.n6,h2.dr,ld,rfl,?_,_,rfl,_,.inl ⟨_,.inr z,.inl h6,rfl,rfl⟩,q;exact .inl ⟨_,.inl h6⟩
end
end K43
namespace L2
open PySem PySem.Spec PyProof.Rows
section
variable {X:Cx}{pins:PnL}{σ:St}{H:Hp}{s:Shared}
theorem Inv.freeze(I:Inv X pins σ H s){l:Addr}{kvs:List (Key×V)}(hl:H l=some (.dK kvs)):∃o,s.heap.get? l=some o/\Inv X pins σ (upd H l (.frz o (.dK kvs))) s:=by
 obtain⟨hz,hy,vs,r,o,es,ep,ho,c⟩:=id (I.hok l _ hl);exists o,ho,⟨I.ok,I.os,I.bare,⟨I.base.keep,I.base.slot,fun b u e n x=>?_,I.base.there,fun b xs e=>?_,fun b u v e=>?_,fun b ps e=>?_⟩,I.loc,I.cell,?_,fun x c e=>?_,fun p hp'=>?_,fun b u e=>?_,I.len⟩
 ·have e1:=I.base.free b u e n x
  rw[zf (zd hl e1).symm];exact e1
 ·have e1:=I.base.tups b xs e
  rw[zf (ym e1 hl (by intro z;cases z))];exact e1
 ·have e1:=I.base.frzs b u v e
  rw[zf (ym e1 hl (by intro z;cases z))];exact e1
 ·obtain⟨more,e1⟩:=I.base.tbls b ps e
  exact⟨more,by rw[zf (ym e1 hl (by intro z;cases z))];exact e1⟩
 ·rw[zf (zd hl I.free).symm];exact I.free
 ·rw[zf (zd hl (I.freeC x c e)).symm];exact I.freeC x c e
 ·obtain⟨q1,q2,q3⟩:=I.pin p hp'
  exact⟨q1,by rw[zf (zd hl q2).symm];exact q2,q3⟩
 ·have ho':∀c,∀b,H b=some (.own c)->upd H l (.frz o (.dK kvs)) b=some (.own c):=fun c b q=>by rw[zf (ym q hl (by intro z;cases z))];exact q
  have ht':∀b xs,H b=some (.tup xs)->upd H l (.frz o (.dK kvs)) b=some (.tup xs):=fun b xs q=>by rw[zf (ym q hl (by intro z;cases z))];exact q
  by_cases hb:b=l
  ·subst hb;rw[za] at e;cases e
   exact⟨ho,(I.hok b _ hl).stay (fun _ _ _ q=>q) (ho' b) ht'⟩
  ·rw[zf hb] at e
   exact(I.hok b u e).stay (fun _ _ _ q=>q) (ho' b) ht'
inductive zlFJ(Q:VK)(x:V)(H1:Hp):Prop|mk(l kvs:_):x=.ref l->H1 l=some (.dK kvs)->(∀o,Q x (upd H1 l (.frz o (.dK kvs))))->zlFJ Q x H1
def zlF(te:TE):TE:=fun σ H Q=>te σ H fun x H1=>zlFJ Q x H1
theorem zjr{e:Expr}{te:TE}(h:PE X e te):PE X e (zlF te):=by
 exists ?_;intro pins s σ H Q I hw;refine thn (h pins s σ H _ I hw) fun v s1 ⟨x,H1,I1,r1,l,kvs,ex,hl,q⟩=>?_;obtain⟨o,_,I2⟩:=I1.freeze hl;exact⟨x,_,I2,r1,q o⟩
theorem zg9{k:Key}{u:Value}(h:qb k u=true):zT (kV k) u:=by
 rcases yw h with ⟨i,t,rfl,rfl⟩|⟨x,t,rfl,rfl⟩
 ·exact⟨t,rfl⟩
 ·exact⟨t,rfl⟩
def Itd(d:Addr)(o:Obj)(kvs:List (Key×V)):It:=
 ⟨fun i H=>H d=some (.frz o (.dK kvs))/\i<kvs.length,fun i H x H'=>∃(p:Addr) (k:Key) (v:V),x=.ref p/\H p=none/\kvs[i]?=some (k,v)/\H'=upd H p (.tup [kV k,v]),fun i H=>H d=some (.frz o (.dK kvs))/\kvs.length<=i⟩
theorem zgq{X:Cx}{pins:PnL}{σ : St}{H:Hp}{s:Shared}{d:Addr}{o:Obj}{kvs:List (Key×V)}{es:Array DictEntry}{ep:Nat}(I:Inv X pins σ H s)(hd:H d=some (.frz o (.dK kvs)))(ho:o.data=.dict es ep):
  (d==sysModules)=false/\∃vs,KV kvs vs/\s.heap.DictAt (yl X.prog X.w) d vs ep:=by
 obtain⟨e,hz,hy,vs,r,o',es',ep',ho',c1,c2,c3⟩:=id (I.hok d _ hd);rw[e] at ho';cases ho';rw[ho] at c2;cases c2;exact⟨hy,vs,r,o,es,e,c1,ho,c3⟩
theorem vZ:entryFor table "dict_itemiterator.__iter__"=some Builtin.«dict_keyiterator.__iter__»:=entryFor_alias (id':="dict_keyiterator.__iter__") (by kernel_rfl) (by first|rfl|decide +kernel|(unfold String.splitOn;simp +decide [String.splitOnAux])) (by decide +kernel) (by kernel_rfl)
theorem vj{P:Program}{w:World}{A:Around}{E:VSP}{s:Shared}{it d:Addr}{i n ep:Nat}{ok ov:Value}{Q:VSP}(he:IsItemIter s.heap it d i n ep ok ov)(h:Q (.ref it) s):wpAny (model P w) A (pyIter (.ref it)) Q E s:=by
 have hT:s.TypeIs (.ref it) "dict_itemiterator":=⟨_,he,rfl⟩;refine wpAny_pyIter_slot hT F.slot_dict_itemiterator_iter (wpAny_call_entry F.slot_dict_itemiterator_iter hT vZ ?_ (F.args_dict_itemiterator_iter_1 _));show wpAny _ _ (ret (.ref it)) _ _ s;exact zwp ⟨_,rfl,"dict_itemiterator",_,hT,F.slot_dict_itemiterator_next.lookup,h⟩
theorem zbT{P:Program}{w:World}{K:Frag}{elts:List Expr}{x1:Nat}{tpos:Pos}(d it:Addr)(o:Obj)(kvs:List (Key×V))(es:Array DictEntry)(ep:Nat)(ho:o.data=.dict es ep):
  qF P w K (.Tuple elts x1 tpos) (Itd d o kvs) [it] it (fun i h=>∃ok ov,IsItemIter h it d i kvs.length ep ok ov) where
 mem:=by simp
 obj:=fun i h st b hb=>by
  have e':b=it:=by simpa using hb
  subst e';obtain⟨ok,ov,hi⟩:=st;exact⟨_,hi,fun v q=>by cases q⟩
 keep:=fun i h h' st k=>by
  obtain⟨ok,ov,hi⟩:=st;exact⟨ok,ov,k it (by simp) _ hi⟩
 item:=by
  intro X hP hw hK hc i pins s σ H E I hf st hg;subst hP hw hK;obtain⟨f0,f1,f2,f3,f4,f5⟩:=hf it (by simp)
  obtain⟨ok,ov,hit⟩:=st;obtain⟨hd,hlt⟩:=hg;obtain⟨hy,vs,r,hm⟩:=zgq I hd ho;have hl:kvs.length=vs.length:=r.length;obtain⟨⟨k2,u⟩,hu,ek,ru⟩:=Paired.get r (getElem?_eq_getElem hlt);rw[hl] at hit;obtain⟨k,v,hkv⟩:∃k v,kvs[i]=(k,v):=⟨_,_,rfl⟩;have ek:k=k2:=by rw[hkv] at ek;exact ek
  have ru2:zT v u:=by rw[hkv] at ru;exact ru
  subst ek;refine wpAny_pyNext_items_item hit hm hu fun key h' hk2 he' htup hsz hkp=>?_;have rk:zT (kV k) key:=zg9 hk2;have I0:Inv X pins σ H { s with heap:=h' }:=I.turned (t':=s.toks) (it:=it) hkp f0 f1 f3 f4 f5
  have hfr:H s.heap.objs.size=none:=I.hok.fresh (le_refl _);have I1:Inv X pins σ (upd H s.heap.objs.size (.tup [kV k,v])) { s with heap:=h' }:=by
   have hok:HOk X.prog X.w (upd H s.heap.objs.size (.tup [kV k,v])) h':=fun b o q=>by
    by_cases hb:b=s.heap.objs.size
    ·subst hb
     rw[za] at q;cases q;exact⟨by show 2<=sizeLine;decide,[key,u],.cons rk (.cons ru2 .nil),⟨_,htup,rfl,_,rfl⟩⟩
    ·rw[zf hb] at q
     exact(I0.hok b o q).stay (fun _ _ _ z=>z) (fun c z=>by rw[zf (zd z hfr)];exact z) fun c xs' z=>by rw[zf (zd z hfr)];exact z
   refine I0.step (s:={ s with heap:=h' }) (g':=s.gens) (d':=s.drawn) (h':=h') (t':=s.toks) (ch:=[s.heap.objs.size]) (fun b hb=>?_) (fun b o _ _ _ e1 _=>e1) (fun b o _ _ _ e1 _=>⟨o.slots,e1⟩) (fun b o hb e1 n=>by rw[zf (fun z=>hb (by simp [z]))];exact n)
    (fun b o _ e1=>⟨o,e1⟩) (fun b xs' e1=>by rw[zf (zd e1 hfr)];exact e1) (fun b o' u' e1=>by rw[zf (zd e1 hfr)];exact e1) (fun b ps e1=>⟨#[],by rw[zf (zd e1 hfr),e1];simp⟩) (fun m hm=>hm) hok I0.bare
   have e':b=s.heap.objs.size:=by simpa using hb
   subst e';exists .inr I.sz,fun z=>?_,fun y c h z=>?_,fun p hp' z=>?_
   ·have:=I.lt;rw[<- z] at this;exact absurd this (lt_irrefl _)
   ·obtain⟨v',hv⟩:=I.cell y c h
    have:=hv.lt;rw[z] at this;exact absurd this (lt_irrefl _)
   ·have:=I.pin_lt hp';rw[z] at this;exact absurd this (lt_irrefl _)
  exists _,rfl,wpAny_letOwnedTupleGo_items he' fun h2 he2 hs2=>?_;have nis:s.heap.objs.size≠it:=fun z=>by
   have:=Heap.lt_size (show s.heap.get? it=some _ from hit)
   rw[<- z] at this;exact absurd this (lt_irrefl _)
  have I2:Inv X pins σ (upd H s.heap.objs.size (.tup [kV k,v])) { s with heap:=h2 }:=
   I1.turned (s:={ s with heap:=h' }) (t':=s.toks) (it:=it) (fun b o hb q=>(hs2.2 b hb).trans q) (by rw[zf nis.symm];exact f0) f1 f3 f4 f5
  exists .ref s.heap.objs.size,_,I2,rfl,⟨_,k,v,rfl,hfr,by rw[getElem?_eq_getElem hlt,hkv],rfl⟩,⟨_,_,by rw[hl];exact he2⟩,fun b hb=>?_
  have e':b=it:=by simpa using hb
  subst e';rw[zf nis.symm];exact f0
 done:=by
  intro X hP hw hK hc i pins s σ H E I hf st hg;subst hP hw hK;obtain⟨ok,ov,hit⟩:=st;obtain⟨f0,f1,f2,f3,f4,f5⟩:=hf it (by simp)
  obtain⟨hd,hle⟩:=hg;obtain⟨hy,vs,r,hm⟩:=zgq I hd ho;have hl:kvs.length=vs.length:=r.length;rw[hl] at hit;exact wpAny_pyNext_items_end (I.ok.hd hc) hit hm (List.getElem?_eq_none (by omega)) fun h' eb=>⟨rfl,I.turned (t':=s.toks) (fun b o hb e1=>eb b o hb e1) f0 f1 f3 f4 f5⟩
 self:=fun A i s Q E st h=>by
  obtain⟨ok,ov,hit⟩:=st;exact vj hit h
variable {elts:List Expr}{x1:Nat}{tpos:Pos}
inductive zjZJ(R:It->Hp->Prop)(x:V)(H1:Hp):Prop|mk(d o kvs:_):x=.ref d->H1 d=some (.frz o (.dK kvs))->(R (Itd d o kvs) H1)->zjZJ R x H1
def zjZ(te:TE):TI:=fun σ H R=>te σ H fun x H1=>zjZJ R x H1
theorem zbk{l:Expr}{te:TE}{apos cpos:Pos}(hl:PE X l te)(hbase:attributeBase l "items" X.env (eval l X.env)=eval l X.env:=by rfl)(hline:(apos.endLine==cpos.line)=true:=by rfl):
  PI X (.Tuple elts x1 tpos) (.Call (.Attribute l "items" apos) [] [] cpos) (zjZ te):=by
 exists ?_;intro pins s σ H R I h;refine wpAny_Call_method0_late hbase hline (thn (hl pins s σ H _ I h) fun v s1 ⟨x,H1,I1,r1,d,o,kvs,ex,hd,q⟩=>?_);subst ex;cases r1;obtain⟨e,hz,hy,vs,r,o',es,ep,ho',c1,c2,c3⟩:=id (I1.hok d _ hd);rw[e] at ho';cases ho';have hm:s1.heap.DictAt (yl X.prog X.w) d vs ep:=⟨o,es,e,c1,c2,c3⟩;exists "dict","dict.items",F.plainAttrs_dict,F.slot_dict_items,F.type_dict_items,⟨o,e,c1.1⟩,fun a ea=>by cases ea;exact⟨o,e,c1.2.1⟩,Calls.callWith_builtin rfl (PySem.evalArgs_none ?_)
 refine call_meetsIn F.slot_dict_items ⟨o,e,c1.1⟩ F.entry_dict_items (F.args_dict_items_1 _) (meets_dict_items (yl X.prog X.w) d hy) ⟨⟨vs,hm.dictOf⟩,?_⟩;show wpAny _ _ (pyIter (.ref s1.heap.objs.size)) _ _ _;have hl:kvs.length=vs.length:=r.length;refine wpAny_pyIter_items (knd:=yl X.prog X.w) (d:=d) (kvs:=vs) (ep:=ep) ⟨_,zgs _ rfl,rfl,rfl⟩ (hm.push _) ?_;have hk:∀b ob,s1.heap.get? b=some ob->((s1.heap.push { cls:=.type "dict_items",data:=.fields #[.ref d] }).push { cls:=.type "dict_itemiterator",data:=.fields #[.none,.bool false,.ref d,.int 0 0,.int vs.length 0,.int ep 0,.none,.none] }).get? b=some ob:=fun b ob q=>zgp _ (zgp _ q);have I2:=I1.kept (t':=s1.toks) hk;have hsz:(s1.heap.push { cls:=.type "dict_items",data:=.fields #[.ref d] }).objs.size=s1.heap.objs.size+1:=Heap.size_push ..;exists (s1.heap.push { cls:=.type "dict_items",data:=.fields #[.ref d] }).objs.size,[(s1.heap.push { cls:=.type "dict_items",data:=.fields #[.ref d] }).objs.size],_,Itd d o kvs,H1,rfl,I2,zbT d _ o kvs es ep c2,⟨.none,.none,?_⟩,fun b hb=>?_,q
 ·rw[hl]
  exact zgs (s1.heap.push { cls:=.type "dict_items",data:=.fields #[.ref d] }) (o:={ cls:=.type "dict_itemiterator",data:=.fields #[.none,.bool false,.ref d,.int 0 0,.int vs.length 0,.int ep 0,.none,.none] }) rfl
 ·have e':b=(s1.heap.push { cls:=.type "dict_items",data:=.fields #[.ref d] }).objs.size:=by simpa using hb
  subst e';rw[hsz];exact I1.fpOk (le_succ _) (I1.hok.fresh (le_succ _))
theorem zd8{d:Addr}{o:Obj}{kvs:List (Key×V)}{g:TG}{tb:TS}{D:wF}{σ : St}{H:Hp}(Pv:Nat->St->Hp->Prop)(h0:Pv 0 σ H)(hl:∀i σ H,i<=kvs.length->Pv i σ H->H d=some (.frz o (.dK kvs)))
  (hs:∀i k v p σ H,kvs[i]?=some (k,v)->Pv i σ H->H p=none->g (.ref p) σ (upd H p (.tup [kV k,v])) fun σ2 H2=>tb { D with nx:=Pv (i+1),ct:=Pv (i+1),bk:=D.nx } σ2 H2) (hd:∀σ H,Pv kvs.length σ H->D.nx σ H) :
  ∃W:Nat->Nat->St->Hp->Prop,(∃m,W 0 m σ H)/\∀i m σ H,W i m σ H->
   ((Itd d o kvs).stop i H/\D.nx σ H)\/((Itd d o kvs).go i H/\∃N:St->Hp->Prop,(∀σ' H',N σ' H'->∃m',m'<m/\W (i+1) m' σ' H')/\∀x H',(Itd d o kvs).yld i H x H'->g x σ H' fun σ2 H2=>tb { D with nx:=N,ct:=N,bk:=D.nx } σ2 H2):=by
 exists fun i m σ H=>m=kvs.length - i/\i<=kvs.length/\Pv i σ H,⟨kvs.length,by simp,zero_le _,h0⟩,?_
 rintro i m σ H ⟨rfl,hi,p⟩;have q:=hl i σ H hi p;by_cases hlt:i<kvs.length
 ·refine .inr ⟨⟨q,hlt⟩,Pv (i+1),fun σ' H' p'=>⟨kvs.length - (i+1),by omega,rfl,hlt,p'⟩,fun x H' y=>?_⟩
  obtain⟨pp,k,v,rfl,hp,y2,rfl⟩:=y;exact hs i k v pp σ H y2 p hp
 ·have e:i=kvs.length:=by omega
  subst e;exact .inl ⟨⟨q,le_refl _⟩,hd σ H p⟩
theorem zlN{X:Cx}{pins:PnL}{σ : St}{H:Hp}{s:Shared}{A:Around}{a b:Addr}{xs ys:List V}(I:Inv X pins σ H s)(ha:SqT X.K H a xs)(hb:SqT X.K H b ys)(fx:xs.all xf=true)(fy:ys.all xf=true)(hu:A.units+8<cLine):
  SeqAt.RcAt A s (.ref a) (.ref b) (eqT xs ys):=by
 obtain⟨ia,va,pa,_⟩:=I.tuple ha;obtain⟨ib,vb,pb,_⟩:=I.tuple hb;have la:ia.toArray.size=xs.length:=by rw[size_toArray];exact va.length.symm
 have lb:ib.toArray.size=ys.length:=by rw[size_toArray];exact vb.length.symm
 have:=SeqAt.RcAt.tuples (A:=A) (s:=s) (e:=fun j=>eqV (xs[j]?.getD .non) (ys[j]?.getD .non)) (show s.heap.IsTuple a ia.toArray from pa) (show s.heap.IsTuple b ib.toArray from pb) (by omega) (fun j h1 h2=>by
  have j1:j<ia.length:=by simpa using h1
  have j2:j<ib.length:=by simpa using h2
  have hxl:j<xs.length:=by rw[va.length];exact j1
  have hyl:j<ys.length:=by rw[vb.length];exact j2
  obtain⟨u',e1,e2⟩:=va.get (i:=j) (getElem?_eq_getElem hxl);obtain⟨v',e3,e4⟩:=vb.get (i:=j) (getElem?_eq_getElem hyl);rw[getElem?_eq_getElem j1] at e1;rw[getElem?_eq_getElem j2] at e3;cases e1;cases e3;have q:=zcG (A:=A.in1) (s:=s) e2 e4 (List.all_eq_true.mp fx _ (getElem_mem hxl)) (List.all_eq_true.mp fy _ (getElem_mem hyl));simpa [hxl,hyl] using q)
 rw[la,lb] at this;exact this
inductive zjkJ(K:Frag)(x:V)(y:V)(H:Hp)(Q:VK):Prop|mk(a c:Addr)(xs ys:List V):x=.ref a->y=.ref c->SqT K H a xs->SqT K H c ys->xs.all xf=true->ys.all xf=true->(Q (.bl (eqT xs ys)) H)->zjkJ K x y H Q
def zjk(K:Frag):R2:=fun x y H Q=>zjkJ K x y H Q
theorem zfv{X:Cx}(hu:X.A.units+64<cLine):OpR X (compareOp .Eq) (zjk X.K):=by
 intro pins s σ H x y v u Q I rx ry h;obtain⟨a,c,xs,ys,rfl,rfl,ha,hc,fx,fy,q⟩:=h;cases rx;cases ry;exact zlN (A:=X.A) I ha hc fx fy (by omega) X.prog X.w X.xe _ ⟨.bl _,H,I,rfl,q⟩
end
end L2
namespace K43
open PySem L2 PyProof.Rows
inductive xp where
 | one (t:Int)|row (ts:List Int)|named (n:Str) (t:Int)|book (ps:List (Str×Int))
def yy(p:Str×Int):Dt:=.tup [.str p.1,.int p.2]
def xu:xp->Dt
 | .one t=>.tup [.str "one",.int t]
 | .row ts=>.tup [.str "row",.lst (ts.map .int)]
 | .named n t=>.tup [.str "named",.str n,.int t]
 | .book ps=>.tup [.str "book",.lst (ps.map yy)]
def itT:xp->List Int
 | .one t=>[t]
 | .row ts=>ts
 | _=>[]
def itP:xp->List (Str×Int)
 | .named n t=>[(n,t)]
 | .book ps=>ps
 | _=>[]
def zR(c:List xp):List Int:=(c.map itT).flatten
def yn(c:List xp):List (Str×Int):=(c.map itP).flatten
abbrev T':Addr->Prop:=fun _=>True
def Two(K:Frag)(H H':Hp)(p:Addr)(ts:List Int)(ps:List (Str×Int)):Prop:=
 ∃l1 l2 xs,H l1=none/\H l2=none/\l1≠l2/\H p=none/\H' p=some (.tup [.ref l1,.ref l2])/\H' l1=some (.lst (ts.map V.int))/\H' l2=some (.lst xs)/\Paired (zD K T' H' 1) xs (ps.map yy)
inductive jC(K:Frag)(vs:List V)(H:Hp)(Q:VK)(E:XK):Prop|mk(a:Addr)(c:List xp)(xs:List V):vs=[.ref a]->SqL K H a xs->Paired (zD K T' H 3) xs (c.map xu)->(zR c).length<=900->(yn c).length<=900->(∀(p:Addr) (H':Hp),zo H H'->Two K H H' p (zR c) (yn c)->Q (.ref p) H')->jC K vs H Q E
section
variable {P:Program}{w:World}{K:Frag}{mg:Str->Option Value}{base:Heap}{f:Addr}{fd:FuncData}
variable {ok:Addr->Prop}{H H':Hp}{n:Nat}{x:V}
theorem xr{i:Int}(h:zD K ok H n x (.int i)):x=.int i:=by
 have fl:jg x (.int i)->x=.int i:=fun h=>by
  cases x <;> first|exact h.elim|(have e:=(show _=_ from h);rw[e])
 cases n with
 | zero=>exact fl h
 | succ n=>
  rcases h with h|⟨_,_,_,_,e,_⟩|⟨_,_,_,_,e,_⟩
  ·exact fl h
  ·cases e
  ·cases e
theorem z3{z:Str}(h:zD K ok H n x (.str z)):x=.str z:=by
 have fl:jg x (.str z)->x=.str z:=fun h=>by
  cases x <;> first|exact h.elim|(have e:=(show _=_ from h);rw[e])
 cases n with
 | zero=>exact fl h
 | succ n=>
  rcases h with h|⟨_,_,_,_,e,_⟩|⟨_,_,_,_,e,_⟩
  ·exact fl h
  ·cases e
  ·cases e
theorem yV{ds:List Dt}(h:zD K ok H (n+1) x (.tup ds)):∃a xs,x=.ref a/\SqT K H a xs/\Paired (zD K ok H n) xs ds:=by
 rcases h with h|⟨a,xs,ds',e1,e2,e3,r⟩|⟨_,_,_,_,e,_⟩
 ·cases x <;> exact h.elim
 ·cases e2;exact⟨a,xs,e1,e3,r⟩
 ·cases e
theorem wk{ds:List Dt}(h:zD K ok H (n+1) x (.lst ds)):∃a xs,x=.ref a/\ok a/\H a=some (.lst xs)/\Paired (zD K ok H n) xs ds:=by
 rcases h with h|⟨_,_,_,_,e,_⟩|⟨a,xs,ds',e1,e2,o,e3,r⟩
 ·cases x <;> exact h.elim
 ·cases e
 ·cases e2;exact⟨a,xs,e1,o,e3,r⟩
theorem wb:∀{ts:List Int}{xs:List V},Paired (zD K ok H n) xs (ts.map .int)->xs=ts.map V.int
 | [],_,r=>by cases r;rfl
 | t::ts,_,r=>by
  cases r with
  | cons h r=>rw[xr h,wb r];rfl
theorem vQ:∀(ts:List Int),Paired (zD K ok H n) (ts.map V.int) (ts.map .int)
 | []=>.nil
 | t::ts=>.cons .int (vQ ts)
theorem ya{α β : Type}{F : α->β->Prop}:∀{a c:List α}{b d:List β},Paired F a b->Paired F c d->Paired F (a++c) (b++d)
 | _,_,_,_,.nil,s=>s
 | _,_,_,_,.cons r t,s=>.cons r (ya t s)
theorem zbB{t:Int}(h:zD K ok H 3 x (xu (.one t))):∃a,x=.ref a/\SqT K H a [.str "one",.int t]:=by
 obtain⟨a,xs,rfl,hS,r⟩:=yV h;cases r with
 | cons h1 r=>cases r with
  | cons h2 r=>cases r;rw[z3 h1,xr h2] at hS;exact⟨a,rfl,hS⟩
theorem zbA{ts:List Int}(h:zD K ok H 3 x (xu (.row ts))):∃a b,x=.ref a/\SqT K H a [.str "row",.ref b]/\ok b/\H b=some (.lst (ts.map V.int)):=by
 obtain⟨a,xs,rfl,hS,r⟩:=yV h;cases r with
 | cons h1 r=>cases r with
  | cons h2 r=>
   cases r;obtain⟨b,ys,rfl,o,hb,q⟩:=wk h2;rw[z3 h1] at hS;rw[wb q] at hb;exact⟨a,b,rfl,hS,o,hb⟩
theorem qd{z:Str}{t:Int}(h:zD K ok H 3 x (xu (.named z t))):∃a,x=.ref a/\SqT K H a [.str "named",.str z,.int t]:=by
 obtain⟨a,xs,rfl,hS,r⟩:=yV h;cases r with
 | cons h1 r=>cases r with
  | cons h2 r=>cases r with
   | cons h3 r=>cases r;rw[z3 h1,z3 h2,xr h3] at hS;exact⟨a,rfl,hS⟩
theorem qX{ps:List (Str×Int)}(h:zD K ok H 3 x (xu (.book ps))):∃a b ys,x=.ref a/\SqT K H a [.str "book",.ref b]/\ok b/\H b=some (.lst ys)/\Paired (zD K ok H 1) ys (ps.map yy):=by
 obtain⟨a,xs,rfl,hS,r⟩:=yV h;cases r with
 | cons h1 r=>cases r with
  | cons h2 r=>
   cases r;obtain⟨b,ys,rfl,o,hb,q⟩:=wk h2;rw[z3 h1] at hS;exact⟨a,b,ys,rfl,hS,o,hb,q⟩
theorem j6(c:List xp)(i:Nat)(it:xp)(h:c[i]?=some it):zR (c.take (i+1))=zR (c.take i)++itT it:=by
 unfold zR;rw[take_add_one,h,map_append,flatten_append];simp
theorem j8(c:List xp)(i:Nat)(it:xp)(h:c[i]?=some it):yn (c.take (i+1))=yn (c.take i)++itP it:=by
 unfold yn;rw[take_add_one,h,map_append,flatten_append];simp
theorem j7(c:List xp)(i:Nat):(zR (c.take i)).length<=(zR c).length:=by
 unfold zR
 conv=>rhs;rw[<- List.take_append_drop i c]
 rw[map_append,flatten_append,length_append];omega
theorem j9(c:List xp)(i:Nat):(yn (c.take i)).length<=(yn c).length:=by
 unfold yn
 conv=>rhs;rw[<- List.take_append_drop i c]
 rw[map_append,flatten_append,length_append];omega
theorem ne1:¬(V.str "row"=V.str "one"):=by decide +kernel
theorem ne2:¬(V.str "named"=V.str "one"):=by decide +kernel
theorem ne3:¬(V.str "book"=V.str "one"):=by decide +kernel
theorem ne4:¬(V.str "named"=V.str "row"):=by decide +kernel
theorem ne5:¬(V.str "book"=V.str "row"):=by decide +kernel
theorem ne6:¬(V.str "book"=V.str "named"):=by decide +kernel
theorem jH:zq ["call","things","pairs","item","word"] ["call"] (zj ze3):=fsc
theorem yJ{H H2:Hp}{l:Addr}(s:zo H H2)(h:H l=none)(o:HO):zo H (upd H2 l o):=fun b u q=>by rw[zf (zd q h)];exact s b u q
theorem zhB(F:Fun K "laid" "laid" ze3 f fd):zx P w K mg base CX0 1 f fd ["call"] (jC K):=by
 refine F.ok jH (fun cdv A outer s H vs Q E hr h=>?_);obtain⟨a,c,xs,rfl,hS,hc,hT,hP,q⟩:=h;refine⟨_,zh (zw (i:=1) jH.nd rfl (Or.inl rfl) (yg zb)) (zh (zw (i:=2) jH.nd rfl (Or.inl rfl) (yg zb))
  (zh (yD PassesOwn.never rfl (yt (pv 0)) (zp (i:=3) jH.nd rfl (Or.inl rfl))
   (zh (zw (i:=4) jH.nd rfl (Or.inl rfl) (zy zJ (pv 3) zi (fun _ _=>rfl)))
   (zc (zE (zn z9 (pv 4) zr (zz _)) (zc (zG (yv PySem.F.plainAttrs_list PySem.F.slot_list_append PySem.F.type_list_append zH (pv 1) (ac (zy zJ (pv 3) zi (fun _ _=>rfl)) zb))))
    (zc (zE (zn z9 (pv 4) zr (zz _)) (zc (zG (yv PySem.F.plainAttrs_list PySem.F.slot_list_extend PySem.F.type_list_extend qT (pv 1) (ac (zy zJ (pv 3) zi (fun _ _=>rfl)) zb))))
     (zc (zE (zn z9 (pv 4) zr (zz _)) (zc (zG (yv PySem.F.plainAttrs_list PySem.F.slot_list_append PySem.F.type_list_append zH (pv 2) (ac (zQ (ac (zy zJ (pv 3) zi (fun _ _=>rfl)) (ac (zy zJ (pv 3) zi (fun _ _=>rfl)) zb))) zb))))
      (zc (zG (yv PySem.F.plainAttrs_list PySem.F.slot_list_extend PySem.F.type_list_extend qT (pv 2) (ac (zy zJ (pv 3) zi (fun _ _=>rfl)) zb))))))))))))
  (zc (zu (zQ (ac (pv 1) (ac (pv 2) zb))))))),?_⟩
 exists wj,fun l1 h1=>?_;exists wj,fun l2 h2=>?_;have n12:l1≠l2:=zd za h2;have f2:H l2=none:=(ze h1 _).free h2;have s0:zo H (upd (upd H l1 (.lst [])) l2 (.lst [])):=(ze h1 _).trans (ze h2 _);refine⟨_,rfl,a,rfl,⟨_,s0.seq hS⟩,xC (K:=K) (a:=a) (xs:=xs) (fun i σ H2=>∃v3 v4 ys,σ=[some (.ref a),some (.ref l1),some (.ref l2),v3,v4]/\zo H H2/\H2 l1=some (.lst ((zR (c.take i)).map V.int))/\H2 l2=some (.lst ys)/\Paired (zD K T' H2 1) ys ((yn (c.take i)).map yy))
  ⟨_,_,[],rfl,s0,by rw[zf n12,za];rfl,za,.nil⟩ (fun i σ H2 _ ⟨_,_,_,_,s2,_⟩=>s2.seq hS) ?_ ?_⟩
 ·rintro i y σ H2 hi ⟨v3,v4,ys,rfl,s2,g1,g2,gp⟩
  obtain⟨d,hd,hy⟩:=Paired.get hc hi;obtain⟨it,hit,rfl⟩:∃it,c[i]?=some it/\xu it=d:=by
   rw[getElem?_map] at hd;cases e:c[i]? with
   | none=>rw[e] at hd;cases hd
   | some it=>rw[e] at hd;exact⟨it,rfl,Option.some.inj hd⟩
  have hy2:=hy.same s2;have eT:=j6 c i it hit;have eP:=j8 c i it hit;have lT:=j7 c i;have lP:=j9 c i;have lT1:=j7 c (i+1);have lP1:=j9 c (i+1);have lys:ys.length=(yn (c.take i)).length:=by rw[gp.length,length_map]
  have sT:∀{H3:Hp}{o:HO}{l:Addr},H3 l=none\/(∃zs,H3 l=some (.lst zs))->∀{b zs},SqT K H3 b zs->SqT K (upd H3 l o) b zs:=fun {H3 o l} hl {b zs} hz=>by
   rcases hz with (z|⟨u,z⟩)|z
   ·refine .inl (.inl ?_)
    have:b≠l:=fun e=>by
     subst e;rcases hl with e|⟨_,e⟩
     ·rw[e] at z;cases z
     ·rw[e] at z;cases z
    rw[zf this];exact z
   ·refine .inl (.inr ⟨u,?_⟩)
    have:b≠l:=fun e=>by
     subst e;rcases hl with e|⟨_,e⟩
     ·rw[e] at z;cases z
     ·rw[e] at z;cases z
    rw[zf this];exact z
   ·exact .inr z
  have keepP:∀{H3:Hp}{o:HO}{l:Addr}{zs:List V}{ps:List (Str×Int)},H3 l=none\/(∃zs,H3 l=some (.lst zs))->Paired (zD K T' H3 1) zs (ps.map yy)->Paired (zD K T' (upd H3 l o) 1) zs (ps.map yy):=by
   intro H3 o l zs ps hl r;induction ps generalizing zs with
   | nil=>cases r;exact .nil
   | cons p ps ih=>
    cases r with
    | cons h r=>
     refine .cons ?_ (ih r);obtain⟨b,ws,rfl,hS',r'⟩:=yV h;exact .tup (sT hl hS') (zm (fun _ _ z=>z) r')
  cases it with
  | one t=>
   obtain⟨b,rfl,hb⟩:=zbB hy2;exists _,rfl,b,_,_,.str "one",rfl,rfl,hb,rfl,?_;exists _,rfl,rfl,_,rfl,?_;refine dT rfl ?_;exists _,rfl,.inl ⟨rfl,_,zg g1⟩,_,rfl,b,_,_,.int t,rfl,rfl,hb,rfl,l1,_,_,rfl,rfl,g1,?_,?_
   ·rw[length_map];exact zC (by omega)
   ·exists _,_,ys,rfl,yJ s2 h1 _,?_,?_,?_
    ·rw[za,eT,map_append];rfl
    ·rw[zf n12.symm];exact g2
    ·rw[eP];show Paired _ _ ((yn (c.take i)++[]).map yy);rw[append_nil];exact keepP (.inr ⟨_,g1⟩) gp
  | row ts=>
   obtain⟨b,bl,rfl,hb,_,hbl⟩:=zbA hy2;exists _,rfl,b,_,_,.str "row",rfl,rfl,hb,rfl,?_;exists _,rfl,rfl,_,rfl,?_;refine dF ne1 ?_;exists _,rfl,rfl,_,rfl,?_;refine dT rfl ?_;exists _,rfl,.inl ⟨rfl,_,zg g1⟩,_,rfl,b,_,_,.ref bl,rfl,rfl,hb,rfl,l1,bl,_,_,rfl,rfl,g1,hbl,?_,?_
   ·have e1:(zR (c.take (i+1))).length=(zR (c.take i)).length+ts.length:=by rw[eT,length_append];rfl
    rw[length_map,length_map];exact yj (by omega)
   ·exists _,_,ys,rfl,yJ s2 h1 _,?_,?_,?_
    ·rw[za,eT,map_append];rfl
    ·rw[zf n12.symm];exact g2
    ·rw[eP];show Paired _ _ ((yn (c.take i)++[]).map yy);rw[append_nil];exact keepP (.inr ⟨_,g1⟩) gp
  | named z t=>
   obtain⟨b,rfl,hb⟩:=qd hy2;exists _,rfl,b,_,_,.str "named",rfl,rfl,hb,rfl,?_;exists _,rfl,rfl,_,rfl,?_;refine dF ne2 ?_;exists _,rfl,rfl,_,rfl,?_;refine dF ne4 ?_;exists _,rfl,rfl,_,rfl,?_;refine dT rfl ?_;exists _,rfl,.inl ⟨rfl,_,zg g2⟩,_,rfl,b,_,_,.str z,rfl,rfl,hb,rfl,_,rfl,b,_,_,.int t,rfl,rfl,hb,rfl,yN,fun p hp=>?_;have np2:l2≠p:=zd g2 hp;have np1:l1≠p:=zd g1 hp;have fp:H p=none:=s2.free hp;exists l2,_,_,rfl,rfl,(by rw[zf np2];exact g2),?_,?_
   ·rw[lys];exact zC (by omega)
   ·exists _,_,ys++[.ref p],rfl,yJ (yJ s2 fp _) f2 _,?_,za,?_
    ·rw[zf n12,zf np1,g1,eT];show _=some (HO.lst ((zR (c.take i)++[]).map V.int));rw[append_nil]
    ·rw[eP,map_append]
     refine ya (keepP (.inr ⟨_,by rw[zf np2];exact g2⟩) (keepP (.inl hp) gp)) (.cons (.tup (xs:=[.str z,.int t]) (zv ?_) (.cons .str (.cons .int .nil))) .nil)
     rw[zf np2.symm,za]
  | book ps=>
   obtain⟨b,bl,zs,rfl,hb,_,hbl,hz⟩:=qX hy2;exists _,rfl,b,_,_,.str "book",rfl,rfl,hb,rfl,?_;exists _,rfl,rfl,_,rfl,?_;refine dF ne3 ?_;exists _,rfl,rfl,_,rfl,?_;refine dF ne5 ?_;exists _,rfl,rfl,_,rfl,?_;refine dF ne6 ?_;have lz:zs.length=ps.length:=by rw[hz.length,length_map]
   exists _,rfl,.inl ⟨rfl,_,zg g2⟩,_,rfl,b,_,_,.ref bl,rfl,rfl,hb,rfl,l2,bl,_,_,rfl,rfl,g2,hbl,?_,?_
   ·have e1:(yn (c.take (i+1))).length=(yn (c.take i)).length+ps.length:=by rw[eP,length_append];rfl
    rw[lys,lz];exact yj (by omega)
   ·exists _,_,ys++zs,rfl,yJ s2 f2 _,?_,za,?_
    ·rw[zf n12,g1,eT];show _=some (HO.lst ((zR (c.take i)++[]).map V.int));rw[append_nil]
    ·rw[eP,map_append]
     exact ya (keepP (.inr ⟨_,g2⟩) gp) (keepP (.inr ⟨_,g2⟩) hz)
 ·rintro σ H2 ⟨v3,v4,ys,rfl,s2,g1,g2,gp⟩
  exists _,rfl,_,rfl,yN,fun p hp=>?_;have hl:xs.length=c.length:=by rw[hc.length,length_map]
  rw[hl,take_length] at g1 gp;refine q p _ (s2.trans (ze hp _)) ⟨l1,l2,ys,h1,f2,n12,s2.free hp,za,?_,?_,zm (fun _ _ z=>z.same (ze hp _)) gp⟩
  ·rw[zf (zd g1 hp)];exact g1
  ·rw[zf (zd g2 hp)];exact g2
theorem yS{K:Frag}{ok:Addr->Prop}{H H':Hp}{zs:List V}{ps:List (Str×Int)}(s:zo H H')(r:Paired (zD K ok H 1) zs (ps.map yy)):Paired (zD K ok H' 1) zs (ps.map yy):=zm (fun _ _ z=>z.same s) r
theorem zbn{ps:List (Str×Int)}{i:Nat}{d:Dt}(h:(ps.map yy)[i]?=some d):∃p,ps[i]?=some p/\yy p=d:=by
 rw[getElem?_map] at h;cases e:ps[i]? with
 | none=>rw[e] at h;cases h
 | some it=>rw[e] at h;exact⟨it,rfl,Option.some.inj h⟩
theorem qP{K:Frag}{ok:Addr->Prop}{H:Hp}{n:Nat}{x:V}{p:Str×Int}(h:zD K ok H (n+1) x (yy p)):∃b,x=.ref b/\SqT K H b [.str p.1,.int p.2]:=by
 obtain⟨a,xs,rfl,hS,r⟩:=yV h;cases r with
 | cons h1 r=>cases r with
  | cons h2 r=>cases r;rw[z3 h1,xr h2] at hS;exact⟨a,rfl,hS⟩
theorem xk{K:Frag}{ok ok':Addr->Prop}{H:Hp}(hk:∀b,ok b->H b≠none->ok' b){n:Nat}{x:V}{d:Dt}(h:zD K ok H n x d):zD K ok' H n x d:=
 h.frame (fun a xs z=>z) fun a xs oa z=>⟨hk a oa (by rw[z];intro q;cases q),z⟩
theorem xE{A B:Prop}{b:Bool}(h:b=true)(a:A):if b=true then A else B:=by rw[h];exact vm a
theorem yW{A B:Prop}{b:Bool}(h:b=false)(a:B):if b=true then A else B:=by rw[h];exact yo a
end
section
variable {P:Program}{w:World}{K:Frag}{mg:Str->Option Value}{base:Heap}{f:Addr}{fd:FuncData}
section
variable {H H':Hp}{p l1 l2 l:Addr}{ys:List V}{ts:List Int}{ps:List (Str×Int)}{o:HO}
end
end
def zF(c:List xp):List Str:=(yn c).map (·.1)
inductive zao(K:Frag)(vs:List V)(H:Hp)(Q:VK)(E:XK):Prop|mk(a:Addr)(c:List xp)(xs:List V):vs=[.ref a]->SqL K H a xs->Paired (zD K T' H 3) xs (c.map xu)->(zR c).length<=900->(yn c).length<=900->(∀(p l:Addr) (H':Hp),zo H H'->H l=none->H' p=some (.tup [.int ((zR c).length:Nat),.ref l])->H' l=some (.lst ((zF c).map V.str))->Q (.ref p) H')->zao K vs H Q E
def vX:Nat->List (Key×V)->List Str->List (Key×V)
 | _,acc,[]=>acc
 | i,acc,z::zs=>vX (i+1) (if (z8 acc (.inr z)).isSome=true then acc else yC acc (.inr z) (.int i)) zs
theorem zaa{z:Str}:∀(zs:List Str) (j i:Nat) (acc:List (Key×V)),zs[i]?=some z->vX j acc (zs.take (i+1))=(if (z8 (vX j acc (zs.take i)) (.inr z)).isSome=true then vX j acc (zs.take i) else yC (vX j acc (zs.take i)) (.inr z) (.int (j+i:Nat)))
 | [],_,_,_,h=>by simp at h
 | y::ys,j,0,acc,h=>by
  have e:y=z:=by simpa using h
  subst e;rfl
 | y::ys,j,i+1,acc,h=>by
  have:=zaa ys (j+1) i (if (z8 acc (.inr y)).isSome=true then acc else yC acc (.inr y) (.int j)) (by simpa using h)
  show vX (j+1) _ (ys.take (i+1))=_;rw[this,show j+1+i=j+(i+1) by omega]
  rfl
theorem zbD:∀(zs:List Str) (i:Nat) (acc:List (Key×V)),(vX i acc zs).length<=acc.length+zs.length
 | [],_,_=>le_refl _
 | z::zs,i,acc=>by
  have h:=zbD zs (i+1) (if (z8 acc (.inr z)).isSome=true then acc else yC acc (.inr z) (.int i))
  have h2:(if (z8 acc (.inr z)).isSome=true then acc else yC acc (.inr z) (.int i)).length<=acc.length+1:=by
   split
   ·omega
   ·exact xP acc _ _
  show(vX (i+1) _ zs).length<=acc.length+(zs.length+1);omega
inductive jD(vs:List V)(H:Hp)(Q:VK)(E:XK):Prop|mk(a:Addr)(zs:List Str):vs=[.ref a]->H a=some (.lst (zs.map V.str))->zs.length<=900->(∀(l:Addr) (o:Obj) (H':Hp),zo H H'->H l=none->H' l=some (.frz o (.dK (vX 0 [] zs)))->Q (.ref l) H')->jD vs H Q E
section
variable {P:Program}{w:World}{K:Frag}{mg:Str->Option Value}{base:Heap}{f CF:Addr}{fd:FuncData}{c:C5}{m:MA}
theorem zk3:([Str.ofString "name",Str.ofString "thing"]:List Str).Nodup:=by decide +kernel
theorem zax:zq ["call","things","pairs"] ["call"] (zj zb8):=fsc
theorem zfF{g:Addr}{gd:FuncData}(F:Fun K "shape" "shape" zb8 f fd)(hlen:mg "len"=none)(cL:zI P w K mg base 1 "laid" g gd ["call"] (jC K)):zx P w K mg base CX0 2 f fd ["call"] (zao K):=by
 refine F.ok zax (fun cdv A outer s H vs Q E hr h=>?_);obtain⟨a,c,xs,rfl,hS,hc,lT,lP,q⟩:=h;refine⟨_,zh (vd (cF cL hr (ac (pv 0) zb)) (yE rfl (zB (zp (i:=1) zax.nd rfl (Or.inl rfl)) (zB (zp (i:=2) zax.nd rfl (Or.inl rfl)) yk))))
  (zc (zu (zQ (ac (cB zK hlen PySem.boot_len (ac (pv 1) zb)) (ac (xO [] ["name","thing"] [none,none] rfl ⟨rfl,rfl,rfl,rfl⟩ (yt (pv 2)) (wS (K:=K) (n:=2) 0 1) rfl rfl rfl
   (fun pins fp s H C=>⟨yE rfl (zB (zp (i:=0) zk3 rfl (Or.inl rfl) (.inr rfl)) (zB (zp (i:=1) zk3 rfl (Or.inl rfl) (.inr rfl)) yk)),y7,pv 0⟩)) zb))))),?_⟩
 exists _,rfl,a,c,xs,rfl,hS,hc,lT,lP,fun p H1 s1 two=>?_;obtain⟨l1,l2,ys,n1,n2,n12,np,ep,e1,e2,gp⟩:=two;exists p,_,rfl,zv ep,rfl,_,_,rfl,_,_,rfl,rfl,?_;exists _,rfl,l1,_,rfl,.inl (zg e1),_,rfl,l2,rfl,⟨_,zg e2⟩,fun D hD=>?_;have lys:ys.length=(yn c).length:=by rw[gp.length,length_map]
 refine ww (K:=K) (xs:=ys) (fun i zs H'=>zo H1 H'/\H' D=some (.lst zs)/\zs=((zF c).take i).map V.str) ⟨ze hD _,za,rfl⟩ (fun i zs H' h=>zg (h.1 _ _ e2)) ?_ ?_
 ·rintro i x zs H' hlt hx ⟨sH,hDy,ez⟩
  obtain⟨d,hd,hy⟩:=Paired.get gp hx;obtain⟨pr',hpr,rfl⟩:=zbn hd;obtain⟨b,rfl,hb⟩:=qP (hy.same sH);exists b,_,rfl,hb,rfl,_,_,rfl,_,_,rfl,rfl,fun _=>⟨_,rfl,?_⟩,fun e=>Bool.noConfusion e;have hi:i<(zF c).length:=by unfold zF;rw[length_map];omega
  have en:(zF c)[i]=pr'.1:=by
   have:(zF c)[i]?=some pr'.1:=by unfold zF;rw[getElem?_map,hpr];rfl
   rw[getElem?_eq_getElem hi] at this;exact Option.some.inj this
  refine lcN.mk hlt (yj (by omega)) hDy (by rw[ez,length_map,length_take];omega) ⟨fun b' u e=>?_,za,?_⟩
  ·rw[zf (zd e hD)]
   exact sH b' u e
  ·rw[ez,take_succ_eq_append_getElem hi,en,map_append]
   rfl
 rintro zs H2 ⟨s2,hDy,ez⟩;have hz:zs=(zF c).map V.str:=by
  rw[ez,take_of_length_le (by unfold zF;rw[length_map];omega)]
 subst hz;exists yN,fun t ht=>?_;have s3:=ze ht (.tup [.int ((zR c).map V.int).length,.ref D]);refine q t D _ (s1.trans (s2.trans s3)) (s1.free hD) (by rw[za,length_map]) (s3 _ _ hDy)
theorem um:zq ["names","firsts","number","name"] ["names"] (zj zaG):=fsc
theorem zd1(F:Fun K "first_numbers" "first_numbers" zaG f fd)(hen:mg "enumerate"=none):zx P w K mg base CX0 1 f fd ["names"] jD:=by
 refine F.ok um (fun cdv A outer s H vs Q E hr h=>?_);obtain⟨a,zs,rfl,ha,lz,q⟩:=h;have hu1:=uu hr;refine⟨_,zh (zw (i:=1) um.nd rfl (Or.inl rfl) jV)
  (zh (yD PassesOwn.never rfl (wu rfl hen (ac (pv 0) zb)) (yE rfl (zB (zp (i:=2) um.nd rfl (Or.inl rfl)) (zB (zp (i:=3) um.nd rfl (Or.inl rfl)) yk)))
   (zc (zE (ue (zdU hu1 (pv 3) (pv 1))) (zc (jp hu1 (pv 1) (pv 3) (pv 2) rfl)) zA)))
  (zc (zu (zjr (pv 1))))),?_⟩
 intro sd hsd;have s1:=ze hsd (.dK []);have e1:upd H sd (.dK []) sd=some (.dK []):=za;show uB _ _ _ _ (upd H sd (.dK []));generalize upd H sd (.dK [])=H1 at s1 e1 |-;refine⟨_,rfl,a,rfl,⟨_,zg (s1 _ _ ha)⟩,vB (K:=K) (a:=a) (xs:=zs.map V.str) (fun i σ H'=>∃(v2 v3:Option V),σ=[some (.ref a),some (.ref sd),v2,v3]/\zo H H'/\H' sd=some (.dK (vX 0 [] (zs.take i))))
  ⟨_,_,rfl,s1,e1⟩ (fun i σ H' _ ⟨_,_,_,sH,_⟩=>zg (sH _ _ ha)) ?_ ?_⟩
 ·rintro i x p σ H' hx ⟨v2,v3,rfl,sH,hd⟩ hpn
  obtain⟨z,hz,rfl⟩:=strs_at hx;have sp:=ze hpn (.tup [.int (i:Nat),.str z]);have hd2:=sp _ _ hd;have tk:=zaa zs 0 i [] hz;rw[Nat.zero_add] at tk;have hi:i<zs.length:=(List.getElem?_eq_some_iff.mp hz).1;exists p,_,rfl,zv za,rfl,_,_,rfl,_,_,rfl,rfl,?_;exists _,rfl,_,rfl,sd,_,rfl,.inl ⟨_,.inr z,.inl hd2,rfl,rfl⟩,_,rfl,?_;refine vW (fun ne=>?_) (fun ne=>?_)
  ·have ns:¬(z8 (vX 0 [] (zs.take i)) (.inr z)).isSome=true:=by
    intro e;rw[e] at ne;cases ne
   rw[if_neg ns] at tk;have ln:=zbD (zs.take i) 0 [];exists _,rfl,_,rfl,_,rfl,sd,_,rfl,.inl ⟨_,.inr z,hd2,rfl,zC (by rw[length_take] at ln;simp at ln;omega),rfl⟩,?_
   refine⟨_,_,rfl,fun b' u e=>?_,by rw[za,tk]⟩
   rw[zf (zd e hsd)];exact sp _ _ (sH _ _ e)
  ·have ns:(z8 (vX 0 [] (zs.take i)) (.inr z)).isSome=true:=by
    cases e:(z8 (vX 0 [] (zs.take i)) (.inr z)).isSome with
    | true=>rfl
    | false=>exact absurd (by rw[e];rfl) ne
   rw[if_pos ns] at tk;exact⟨_,_,rfl,sH.trans sp,by rw[tk];exact hd2⟩
 ·rintro σ H' ⟨v2,v3,rfl,sH,hd⟩
  rw[length_map,take_length] at hd;exists _,rfl,sd,_,rfl,hd,fun o=>?_;refine q sd o _ (fun b' u e=>?_) hsd za;rw[zf (zd e hsd)];exact sH _ _ e
def MA1(H:Hp)(u:Addr)(m:Str×Nat):Prop:=H u=some (.tup [.str m.1,.int (m.2:Nat)])
def wU(H:Hp)(us:List Addr)(ms:List (Str×Nat)):Prop:=Paired (MA1 H) us ms
theorem wU.same{H H':Hp}{us:List Addr}{ms:List (Str×Nat)}(h:wU H us ms)(s:zo H H'):wU H' us ms:=zm (fun _ _ z=>s _ _ z) h
theorem wU.upd{H:Hp}{us:List Addr}{ms:List (Str×Nat)}{D:Addr}{ys:List V}{o:HO}(h:wU H us ms)(hD:H D=some (.lst ys)):wU (upd H D o) us ms:=zm (fun u m z=>by
 show L2.upd H D o u=_;rw[zf (fun e=>by rw[e] at z;rw[MA1,hD] at z;cases z)]
 exact z) h
theorem wU.snoc{H:Hp}{us:List Addr}{ms:List (Str×Nat)}{u:Addr}{m:Str×Nat}(h:wU H us ms)(hu:MA1 H u m):wU H (us++[u]) (ms++[m]):=Paired.snoc h hu
def zbP(H H':Hp)(l:Addr)(ms:List (Str×Nat)):Prop:=∃us:List Addr,H l=none/\H' l=some (.lst (us.map V.ref))/\wU H' us ms
def uc(rows:List Rw)(many:Nat):List (Str×Nat):=if (zM 2 0 rows).isSome=true then [] else (List.range (many - plN rows)).map fun i=>((("over" : Str),plN rows+i):Str×Nat)
inductive zcT(c:C5)(CF:Addr)(vs:List V)(H:Hp)(Q:VK)(E:XK):Prop|mk(f:Addr)(many:Nat)(rows:List Rw)(bars:List Str):vs=[.ref f,.int (many:Nat)]->many<=900->rows.length<=500->yF c CF H f rows bars->(∀(l:Addr) (H':Hp),zo H H'->zbP H H' l (uc rows many)->Q (.ref l) H')->zcT c CF vs H Q E
def ug(r:Rw)(i many:Nat)(fk:List (Key×V)):List V:=
 if qp r.k=true/\i<many then [.str "place",.int (i:Nat)] else if xx r.k=true/\(z8 fk (.inr r.z)).isSome=true then [.str "name",(z8 fk (.inr r.z)).getD .non] else [.str "free"]
def zcM(fk:List (Key×V)):Prop:=∀k v,z8 fk k=some v->xf v=true
inductive zbV(c:C5)(vs:List V)(H:Hp)(Q:VK)(E:XK):Prop|mk(p d:Addr)(i many:Nat)(r:Rw)(fk:List (Key×V)):vs=[.ref p,.int (i:Nat),.int (many:Nat),.ref d]->PAt c H p r->r.ok->Rd H d (.dK fk)->(∀(u:Addr) (H':Hp),zo H H'->H' u=some (.tup (ug r i many fk))->Q (.ref u) H')->zbV c vs H Q E
def xU(r:Rw)(i many:Nat)(fk:List (Key×V)):Bool:=!fr r.k r.b&&L2.eqT (ug r i many fk) [.str "free"]
def wR(many:Nat)(fk:List (Key×V)):Nat->List Rw->List (Str×Nat)
 | _,[]=>[]
 | i,r::rs=>(if xU r i many fk=true then [(("lacking" : Str),i)] else [])++wR many fk (i+1) rs
theorem qa{many:Nat}{fk:List (Key×V)}{r:Rw}:∀(rows:List Rw) (j i:Nat),rows[i]?=some r->wR many fk j (rows.take (i+1))=wR many fk j (rows.take i)++(if xU r (j+i) many fk=true then [(("lacking" : Str),j+i)] else [])
 | [],_,_,h=>by simp at h
 | y::ys,j,0,h=>by
  have e:y=r:=by simpa using h
  subst e;show(_++[])=[]++_;rw[append_nil,nil_append];rfl
 | y::ys,j,i+1,h=>by
  have:=qa (many:=many) (fk:=fk) ys (j+1) i (by simpa using h)
  show _++wR many fk (j+1) (ys.take (i+1))=_;rw[this,show j+1+i=j+(i+1) by omega,<- append_assoc]
  rfl
theorem uS(many:Nat)(fk:List (Key×V)):∀(rows:List Rw) (i:Nat),(wR many fk i rows).length<=rows.length
 | [],_=>le_refl _
 | r::rs,i=>by
  have:=uS many fk rs (i+1)
  show(_++wR many fk (i+1) rs).length<=rs.length+1;rw[length_append];split
  ·rw[length_singleton];omega
  ·rw[length_nil];omega
theorem zdX{r:Rw}{i many:Nat}{fk:List (Key×V)}(h:zcM fk):(ug r i many fk).all xf=true:=by
 unfold ug;split
 ·rfl
 ·split
  next h2=>
   obtain⟨v,hv⟩:=Option.isSome_iff_exists.mp h2.2;rw[hv];show(true&&(xf v&&true))=true;rw[h _ _ hv];rfl
  ·rfl
inductive zcW(c:C5)(CF:Addr)(vs:List V)(H:Hp)(Q:VK)(E:XK):Prop|mk(f d:Addr)(many:Nat)(rows:List Rw)(bars:List Str)(fk:List (Key×V)):vs=[.ref f,.int (many:Nat),.ref d]->rows.length<=500->(∀r∈rows,r.ok)->yF c CF H f rows bars->Rd H d (.dK fk)->zcM fk->(∀(l:Addr) (H':Hp),zo H H'->zbP H H' l (wR many fk 0 rows)->Q (.ref l) H')->zcW c CF vs H Q E
theorem zo.rd{H H':Hp}{a:Addr}{u:HO}(s:zo H H')(h:Rd H a u):Rd H' a u:=h.elim (fun e=>.inl (s _ _ e)) fun⟨o,e⟩=>.inr ⟨o,s _ _ e⟩
theorem zk2:([Str.ofString "number"]:List Str).Nodup:=by decide +kernel
theorem zg0:zq ["form","many"] ["form","many"] (zj zcd):=fsc
theorem zfJ{gT gP:Addr}{eT eP:FuncData}(F:Fun K "overs" "overs" zcd f fd)(hran:mg "range"=none)(FK:FC K CF)(mT:yT K CF "tail" gT)(GT:zx P w K mg base CX0 1 gT eT ["self"] (wV c CF 2))(bT:zN K eT ["self"] [])(mP:yT K CF "places" gP)(GP:zx P w K mg base CX0 1 gP eP ["self"] (vp c CF))(bP:zN K eP ["self"] []):
  zx P w K mg base CX0 2 f fd ["form","many"] (zcT c CF):=by
 refine F.ok zg0 (fun cdv A outer s H vs Q E hr h=>?_);obtain⟨f,many,rows,bars,rfl,lm,l5,hF,q⟩:=h;refine⟨_,zh (zE (ue (zhl (yi (pv 0) FK.cl mT GT hr bT .nil zW))) (zc (zu (yg zb))) zA)
  (zc (zu (xO [] ["number"] [none] rfl ⟨rfl,rfl,rfl,rfl⟩ (zdS rfl hran (ac (yi (pv 0) FK.cl mP GP hr bP .nil zW) (ac (pv 1) zb))) (z7 0) rfl rfl rfl
   (fun pins fp s H C=>⟨zp (i:=0) zk2 rfl (Or.inl rfl) (.inr rfl),y7,zQ (ac zr (ac (pv 0) zb))⟩)))),?_⟩
 obtain⟨dx,fs,lr,lb,ld,ps,h1,h2,h3,h4,h5,h6⟩:=id hF;have nmT:fs.lookup ("tail" : Str)=none:=h2.no _ (by decide +kernel)
 have nmP:fs.lookup ("places" : Str)=none:=h2.no _ (by decide +kernel)
 exists _,rfl,f,dx,fs,rfl,h1,nmT,f,rows,bars,rfl,hF,?_;exists _,rfl,?_;cases e:zM 2 0 rows with
 | some i=>
  have ef:uc rows many=[]:=by unfold uc;rw[e];rfl
  have ne:(!decide (wn (some i)=V.non))=true:=rfl;rw[if_pos ne];exists wj,fun l hl=>?_;exact q l _ (ze hl _) ⟨[],hl,za,by rw[ef];exact .nil⟩
 | none=>
  have ef:uc rows many=(List.range (many - plN rows)).map fun i=>((("over" : Str),plN rows+i):Str×Nat):=by unfold uc;rw[e];rfl
  refine yo ?_;have lp:plN rows<=500:=le_trans (length_filter_le _ _) l5;exists _,rfl,f,dx,fs,rfl,h1,nmP,f,rows,bars,rfl,hF,_,rfl,(plN rows:Nat),(many:Nat),rfl,⟨by omega,by omega,by omega,by omega⟩,fun D hD=>?_
  have en:((many:Int) - (plN rows:Int)).toNat=many - plN rows:=by omega
  refine wQ (n:=((many:Int) - (plN rows:Int)).toNat) (fun i ys H'=>∃us,ys=us.map V.ref/\zo H H'/\H' D=some (.lst ys)/\wU H' us ((List.range i).map fun i=>((("over" : Str),plN rows+i):Str×Nat))) ⟨[],rfl,ze hD _,za,.nil⟩ ?_ ?_
  ·rintro i ys H' hi ⟨us,rfl,sH,hDy,hm⟩
   have lu:us.length=i:=by rw[hm.length,length_map,length_range]
   exists fun _=>?_,fun e=>Bool.noConfusion e;exists _,rfl,yN,fun t ht=>?_;have s2:=ze ht (.tup [.str "over",.int ((plN rows:Int)+(i:Int))]);have hDy2:=s2 _ _ hDy;refine lcN.mk hi (yj (by omega)) hDy2 (by rw[length_map,lu];exact le_refl _) ⟨us++[t],by rw[map_append];rfl,fun b' u' e'=>?_,za,?_⟩
   ·rw[zf (zd e' hD)]
    exact s2 _ _ (sH _ _ e')
   ·rw[range_succ,map_append]
    have hu:MA1 (upd H' t (.tup [.str "over",.int ((plN rows:Int)+(i:Int))])) t ("over",plN rows+i):=by
     show upd H' t _ t=_;rw[za];rfl
    exact((hm.same s2).snoc hu).upd hDy2
  ·rintro ys H' ⟨us,rfl,sH,hDy,hm⟩
   rw[en,<- ef] at hm;exact q D H' sH ⟨us,hD,hDy,hm⟩
theorem ziZ:zq ["parameter","number","many","firsts"] ["parameter","number","many","firsts"] (zj ze1):=fsc
theorem zhw{gp gb:FuncData}(F:Fun K "one_entry" "one_entry" ze1 f fd)(PP:Pcs K m c)(GP:zx P w K mg base CX0 1 m.fP gp ["self"] (jh K m bpL))(bP:zN K gp ["self"] [])(GB:zx P w K mg base CX0 1 m.fB gb ["self"] (jh K m bnL))(bB:zN K gb ["self"] []):
  zx P w K mg base CX0 2 f fd ["parameter","number","many","firsts"] (zbV c):=by
 refine F.ok ziZ (fun cdv A outer s H vs Q E hr h=>?_);obtain⟨p,d,i,many,r,fk,rfl,⟨dx,hp⟩,rok,hd,q⟩:=h;have hu1:=uu hr;have C:=PP r.k rok.1;refine⟨_,zh (zE (xi (y8 (yp (yi (pv 0) C.cl C.mP GP hr bP .nil zW)) (yK (zn vy (pv 1) (pv 2) (zz _))))) (zc (zu (zQ (ac zr (ac (pv 1) zb))))) zA)
  (zh (zE (xi (y8 (yp (yi (pv 0) C.cl C.mB GB hr bB .nil zW)) (yK (ue (zju hu1 (yh (pv 0) rfl) (pv 3)))))) (zc (zu (zQ (ac zr (ac (xW hu1 (pv 3) (yh (pv 0) rfl) (fun _ _=>rfl)) zb))))) zA)
  (zc (zu (zQ (ac zr zb))))),?_⟩
 have nP:(pr r).lookup ("by_place" : Str)=none:=u7 (by decide +kernel) (by decide +kernel) (by decide +kernel)
 have nB:(pr r).lookup ("by_name" : Str)=none:=u7 (by decide +kernel) (by decide +kernel) (by decide +kernel)
 try dsimp only
 refine wq (fun σ' H'=>σ'=[some (.ref p),some (.int (i:Nat)),some (.int (many:Nat)),some (.ref d)]/\H'=H/\¬(qp r.k=true/\i<many)) ?_ (fun key=>?_);rotate_left
 ·exists _,rfl,p,dx,_,rfl,hp,nP,p,dx,_,_,_,_,rfl,C,hp,_,rfl,?_
  rw[zit r.k rok.1];cases eb:qp r.k with
  | false=>
   refine yo ?_;refine yo ?_;exact key _ _ ⟨rfl,rfl,by rw[eb];exact fun z=>Bool.noConfusion z.1⟩
  | true=>
   refine vm ?_;exists _,rfl,_,rfl,_,_,rfl,rfl,_,rfl,?_;refine vW (fun c1=>?_) (fun c1=>?_)
   ·have hlt:i<many:=by
     have:=of_decide_eq_true c1
     omega
    exists _,rfl,yN,fun t ht=>?_;exact q t _ (ze ht _) (by rw[za];unfold ug;rw[if_pos ⟨eb,hlt⟩])
   ·have hlt:¬i<many:=fun h=>c1 (decide_eq_true (by show(i:Int)<(many:Int);omega))
    exact key _ _ ⟨rfl,rfl,fun z=>hlt z.2⟩
 rintro σ1 H1 ⟨rfl,rfl,nn⟩;have e1:ug r i many fk=(if xx r.k=true/\(z8 fk (.inr r.z)).isSome=true then [.str "name",(z8 fk (.inr r.z)).getD .non] else [.str "free"]):=by unfold ug;rw[if_neg nn]
 try dsimp only
 refine wq (fun σ' H'=>σ'=[some (.ref p),some (.int (i:Nat)),some (.int (many:Nat)),some (.ref d)]/\H'=H1/\¬(xx r.k=true/\(z8 fk (.inr r.z)).isSome=true)) ?_ (fun key=>?_);rotate_left
 ·exists _,rfl,p,dx,_,rfl,hp,nB,p,dx,_,_,_,_,rfl,C,hp,_,rfl,?_
  rw[zdm r.k rok.1];cases eb:xx r.k with
  | false=>
   refine yo ?_;refine yo ?_;exact key _ _ ⟨rfl,rfl,by rw[eb];exact fun z=>Bool.noConfusion z.1⟩
  | true=>
   refine vm ?_;exists _,rfl,p,_,dx,_,_,rfl,hp,C.cl,C.nN,jq,_,rfl,d,_,rfl,.inl ⟨fk,.inr r.z,hd,rfl,rfl⟩,_,rfl,?_;refine vW (fun c1=>?_) (fun c1=>?_)
   ·obtain⟨v,hv⟩:=Option.isSome_iff_exists.mp c1
    exists _,rfl,_,rfl,p,_,dx,_,_,rfl,hp,C.cl,C.nN,jq,d,v,rfl,.inl ⟨fk,.inr r.z,hd,rfl,hv.symm⟩,yN,fun t ht=>?_;exact q t _ (ze ht _) (by rw[za,e1,if_pos ⟨eb,c1⟩,hv];rfl)
   ·exact key _ _ ⟨rfl,rfl,fun z=>c1 z.2⟩
 rintro σ2 H2 ⟨rfl,rfl,nn2⟩;exists zav,fun t ht=>?_;exact q t _ (ze ht _) (by rw[za,e1,if_neg nn2])
theorem jm:zq ["form","many","firsts","found","number","parameter"] ["form","many","firsts"] (zj ze4):=fsc
theorem zfP{g gP:Addr}{gd gf eP:FuncData}(F:Fun K "lackings" "lackings" ze4 f fd)(hen:mg "enumerate"=none)(PP:Pcs K m c)(FK:FC K CF)(mP:yT K CF "parameters" gP)(GP:zx P w K mg base CX0 1 gP eP ["self"] (uC c CF))(bP:zN K eP ["self"] [])
  (GF:zx P w K mg base CX0 1 m.fF gf ["self"] (zaq K m)) (bF:zN K gf ["self"] []) (cE1:zI P w K mg base 2 "one_entry" g gd ["parameter","number","many","firsts"] (zbV c)):zx P w K mg base CX0 3 f fd ["form","many","firsts"] (zcW c CF):=by
 refine F.ok jm (fun cdv A outer s H vs Q E hr h=>?_);obtain⟨f,d,many,rows,bars,fk,rfl,l5,hok,hF,hd,hfl,q⟩:=h;have hr1:yf 1 _:=hr.mono (by decide)
 have hU:=hr.units;have hO:∀C,Cs5 c C->Cls K C/\yT K C "free" m.fF:=fun C ⟨k,hk,e⟩=>by rw[e];exact⟨(PP k hk).cl,(PP k hk).mF⟩
 refine⟨_,zh (zw (i:=3) jm.nd rfl (Or.inl rfl) (yg zb))
  (zh (yD PassesOwn.never rfl (wu rfl hen (ac (yi (pv 0) FK.cl mP GP hr1 bP .nil zW) zb)) (yE rfl (zB (zp (i:=4) jm.nd rfl (Or.inl rfl)) (zB (zp (i:=5) jm.nd rfl (Or.inl rfl)) yk)))
   (zc (zE (xi (y8 (vc (yp (wM (pv 5) hO GF hr1 bF zW))) (yK (zn (zfv hU) (cF cE1 hr (ac (pv 5) (ac (pv 4) (ac (pv 1) (ac (pv 2) zb))))) (zQ (ac zr zb)) (zz _)))))
    (zc (zG (yv PySem.F.plainAttrs_list PySem.F.slot_list_append PySem.F.type_list_append zH (pv 3) (ac (zQ (ac zr (ac (pv 4) zb))) zb)))) zA)))
  (zc (zu (pv 3)))),?_⟩
 exists wj,fun l hl=>?_;have s1:=ze hl (.lst []);have e1:upd H l (.lst []) l=some (.lst []):=za;show uB _ _ _ _ (upd H l (.lst []));generalize upd H l (.lst [])=H1 at s1 e1 |-;obtain⟨dx,fs,lr,lb,ld,ps0,h1,h2,h3,h4,h5,h6⟩:=id hF;have nmP:fs.lookup ("parameters" : Str)=none:=h2.no _ (by decide +kernel)
 exists _,rfl,f,dx,fs,rfl,s1 _ _ h1,nmP,f,rows,bars,rfl,hF.same s1,fun lp ps H2 s2 np ep hps=>?_;have e2:=s2 _ _ e1;have nlp:lp≠l:=Ne.symm (zd e1 np);have nd:∀{b:Addr}{u:HO},H b=some u->b≠l:=fun e=>zd e hl;have s12:=s1.trans s2;have sHl:∀{H':Hp},(∀b u,H2 b=some u->b≠l->H' b=some u)->zo H H':=fun k b u e=>k b u (s12 _ _ e) (nd e);refine⟨lp,rfl,⟨_,zg ep⟩,vB (K:=K) (a:=lp) (xs:=ps.map V.ref) (fun i σ H'=>∃(us:List Addr) (v4 v5:Option V),σ=[some (.ref f),some (.int (many:Nat)),some (.ref d),some (.ref l),v4,v5]/\(∀b u,H2 b=some u->b≠l->H' b=some u)/\H' l=some (.lst (us.map V.ref))/\wU H' us (wR many fk 0 (rows.take i)))
  ⟨[],_,_,rfl,fun _ _ e _=>e,e2,.nil⟩ (fun i σ H' _ ⟨_,_,_,_,sH,_⟩=>zg (sH _ _ ep nlp)) ?_ ?_⟩
 ·rintro i x p σ H' hx ⟨us,v4,v5,rfl,sH,hl',hm⟩ hpn
  obtain⟨pa,hpa,rfl⟩:=xL hx;obtain⟨r,hr',dx',hdx⟩:=zV hps hpa;have rok:=hok r (mem_of_getElem? hr');have C:=PP r.k rok.1;have hi:i<rows.length:=(List.getElem?_eq_some_iff.mp hr').1;have npa:pa≠l:=ym hdx e2 (by intro z;cases z)
  have tk:=qa (many:=many) (fk:=fk) rows 0 i hr';rw[Nat.zero_add] at tk;have sp:=ze hpn (.tup [.int (i:Nat),.ref pa]);have lu:us.length<=i:=by
   rw[hm.length];refine le_trans (uS _ _ _ _) ?_;rw[length_take];omega
  have sH1:∀b u,H2 b=some u->b≠l->upd H' p (.tup [.int (i:Nat),.ref pa]) b=some u:=fun b u e n=>sp _ _ (sH b u e n);have hl1:=sp _ _ hl';have hm1:=hm.same sp;exists p,_,rfl,zv za,rfl,_,_,rfl,_,_,rfl,rfl,?_;generalize upd H' p (.tup [.int (i:Nat),.ref pa])=H3 at sH1 hl1 hm1 |-;have hd3:=sH1 _ _ hdx npa;exists _,rfl,pa,_,dx',_,rfl,⟨r.k,rok.1,rfl⟩,hd3,u7 (by decide +kernel) (by decide +kernel) (by decide +kernel),pa,dx',_,_,_,_,rfl,C,hd3,_,rfl,?_
  cases ef:fr r.k r.b with
  | true=>
   have il:xU r i many fk=false:=by unfold xU;rw[ef];rfl
   rw[il,if_neg zft,append_nil] at tk;refine yo ?_;refine yo ?_;exact⟨us,_,_,rfl,sH1,hl1,by rw[tk];exact hm1⟩
  | false=>
   refine vm ?_;exists _,rfl,_,rfl,_,rfl,_,rfl,pa,d,i,many,r,fk,rfl,⟨dx',hd3⟩,rok,zo.rd (sHl sH1) hd,fun u H4 s4 e4=>?_;exists zav,fun t ht=>?_;have s5:=ze ht (.tup [.str "free"]);exists u,t,_,_,rfl,rfl,zv (s5 _ _ e4),zv za,zdX hfl,rfl,_,rfl,?_;have s45:=s4.trans s5;have il:xU r i many fk=L2.eqT (ug r i many fk) [.str "free"]:=by unfold xU;rw[ef];rfl
   rw[<- il];generalize upd H4 t (.tup [.str "free"])=H5 at s5 s45 |-;have hl5:=s45 _ _ hl1;have sH5:∀b u,H2 b=some u->b≠l->H5 b=some u:=fun b u e n=>s45 _ _ (sH1 b u e n);refine vW (fun c1=>?_) (fun c1=>?_)
   ·rw[c1,if_pos rfl] at tk
    exists _,rfl,.inl ⟨rfl,_,zg hl5⟩,_,rfl,yN,fun t2 ht2=>?_;have s6:=ze ht2 (.tup [.str "lacking",.int (i:Nat)]);have hl6:=s6 _ _ hl5;have hu2:MA1 (upd H5 t2 (.tup [.str "lacking",.int (i:Nat)])) t2 ("lacking",i):=by
     show upd H5 t2 _ t2=_;rw[za]
    exists l,_,.ref t2,rfl,rfl,hl6,zC (by rw[length_map];omega),?_
    exists us++[t2],_,_,rfl,fun b u e n=>?_,by rw[za,map_append];rfl,?_
    ·rw[zf n]
     exact s6 _ _ (sH5 b u e n)
    ·rw[tk]
     exact(((hm1.same s45).same s6).snoc hu2).upd hl6
   ·have c2:xU r i many fk=false:=by
     cases e:xU r i many fk with
     | false=>rfl
     | true=>exact absurd e c1
    rw[c2,if_neg zft,append_nil] at tk;exact⟨us,_,_,rfl,sH5,hl5,by rw[tk];exact hm1.same s45⟩
 ·rintro σ H' ⟨us,v4,v5,rfl,sH,hl',hm⟩
  rw[length_map,hps.length,take_length] at hm;exact⟨_,rfl,q l H' (sHl sH) ⟨us,hl,hl',hm⟩⟩
def fpF:Nat->List (Str×Nat)->List Str->List (Str×Nat)
 | _,acc,[]=>acc
 | i,acc,z::zs=>fpF (i+1) (if (acc.any fun p=>decide (p.1=z))=true then acc else acc++[(z,i)]) zs
def kvP(fp:List (Str×Nat)):List (Key×V):=fp.map fun p=>(.inr p.1,.int (p.2:Nat))
theorem zaR(fp:List (Str×Nat))(z:Str):(z8 (kvP fp) (.inr z)).isSome=fp.any fun p=>decide (p.1=z):=by
 rw[<- xz];unfold kvP;rw[List.any_map]
 congr 1
 funext p
 show decide ((Sum.inr p.1:Key)=Sum.inr z)=decide (p.1=z);exact zgh _ _
theorem zcE:∀(zs:List Str) (i:Nat) (acc:List (Str×Nat)),vX i (kvP acc) zs=kvP (fpF i acc zs)
 | [],_,_=>rfl
 | z::zs,i,acc=>by
  show vX (i+1) (if (z8 (kvP acc) (.inr z)).isSome=true then kvP acc else yC (kvP acc) (.inr z) (.int i)) zs=kvP (fpF (i+1) (if (acc.any fun p=>decide (p.1=z))=true then acc else acc++[(z,i)]) zs)
  rw[zaR];cases e:acc.any fun p=>decide (p.1=z) with
  | true=>exact zcE zs (i+1) acc
  | false=>
   have e2:yC (kvP acc) (.inr z) (.int (i:Nat))=kvP (acc++[(z,i)]):=by
    unfold yC;rw[xz,zaR,e,if_neg zft];unfold kvP;rw[map_append];rfl
   rw[if_neg zft,if_neg zft,e2];exact zcE zs (i+1) _
theorem zaQ{fp:List (Str×Nat)}{k:Key}{v:V}(h:z8 (kvP fp) k=some v):∃(z:Str) (j:Nat),k=.inr z/\v=.int (j:Nat)/\(z,j)∈fp:=by
 unfold z8 at h;cases e:(kvP fp).find? fun kv=>decide (kv.1=k) with
 | none=>rw[e] at h;cases h
 | some kv=>
  rw[e] at h;have hm:=List.mem_of_find?_eq_some e;have hk:=List.find?_some e;unfold kvP at hm;obtain⟨p,hp,rfl⟩:=List.mem_map.mp hm;exact⟨p.1,p.2,(of_decide_eq_true hk).symm,(Option.some.inj h).symm,hp⟩
theorem zhZ(fp:List (Str×Nat)):zcM (kvP fp):=fun k v h=>by
 obtain⟨z,j,_,rfl,_⟩:=zaQ h;rfl
theorem zdn{z:Str}:∀(zs:List Str) (i:Nat) (acc:List (Str×Nat)),(acc.any fun p=>decide (p.1=z))=true->((fpF i acc zs).any fun p=>decide (p.1=z))=true
 | [],_,_,h=>h
 | y::ys,i,acc,h=>by
  show((fpF (i+1) _ ys).any _)=true;refine zdn ys (i+1) _ ?_;split
  ·exact h
  ·rw[List.any_append,h];rfl
theorem zgr{z:Str}:∀(zs:List Str) (i:Nat) (acc:List (Str×Nat)),z∈zs->((fpF i acc zs).any fun p=>decide (p.1=z))=true
 | [],_,_,h=>by cases h
 | y::ys,i,acc,h=>by
  show((fpF (i+1) _ ys).any _)=true;rcases List.mem_cons.mp h with rfl|h
  ·refine zdn ys (i+1) _ ?_
   split
   next e=>exact e
   ·rw[List.any_append]
    simp
  ·exact zgr ys (i+1) _ h
def fpZ(zs:List Str):List (Str×Nat):=fpF 0 [] zs
theorem ziv(zs:List Str):vX 0 [] zs=kvP (fpZ zs):=zcE zs 0 []
def zaX(fk:List (Key×V)):Nat->List Str->List (Str×Nat)
 | _,[]=>[]
 | i,z::zs=>(if z8 fk (.inr z)=some (.int (i:Nat)) then [] else [(("doubled" : Str),i)])++zaX fk (i+1) zs
theorem zag{fk:List (Key×V)}{z:Str}:∀(zs:List Str) (j i:Nat),zs[i]?=some z->zaX fk j (zs.take (i+1))=zaX fk j (zs.take i)++(if z8 fk (.inr z)=some (.int (j+i:Nat)) then [] else [(("doubled" : Str),j+i)])
 | [],_,_,h=>by simp at h
 | y::ys,j,0,h=>by
  have e:y=z:=by simpa using h
  subst e;show(_++[])=[]++_;rw[append_nil,nil_append];rfl
 | y::ys,j,i+1,h=>by
  have:=zag (fk:=fk) ys (j+1) i (by simpa using h)
  show _++zaX fk (j+1) (ys.take (i+1))=_;rw[this,show j+1+i=j+(i+1) by omega,<- append_assoc]
  rfl
theorem qo(fk:List (Key×V)):∀(zs:List Str) (i:Nat),(zaX fk i zs).length<=zs.length
 | [],_=>le_refl _
 | r::rs,i=>by
  have:=qo fk rs (i+1)
  show(_++zaX fk (i+1) rs).length<=rs.length+1;rw[length_append];split
  ·rw[length_nil];omega
  ·rw[length_singleton];omega
def wf(rows:List Rw)(bars:List Str)(many:Nat)(z:Str):Option Str:=
 if z∈bars then some "barred" else match lastD' z rows with
  | none=>if (zM 4 0 rows).isSome=true then none else some "strange"
  | some l=>if l<plN rows/\l<many then some "again" else none
where lastD' (z:Str) (rows:List Rw):Option Nat:=match z8 (xo 0 [] rows) (.inr z) with
 | some (.int i)=>some i.toNat
 | _=>none
def jy(rows:List Rw)(bars:List Str)(many:Nat)(fp:List (Str×Nat)):List (Str×Nat):=fp.filterMap fun p=>(wf rows bars many p.1).map fun wd=>(wd,p.2)
def u9(rows:List Rw)(bars:List Str)(many:Nat)(zs:List Str):List (Str×Nat):=zaX (kvP (fpZ zs)) 0 zs++uc rows many++jy rows bars many (fpZ zs)++wR many (kvP (fpZ zs)) 0 rows
inductive zig(c:C5)(CF:Addr)(vs:List V)(H:Hp)(Q:VK)(E:XK):Prop|mk(f d:Addr)(o:Obj)(many:Nat)(rows:List Rw)(bars:List Str)(fp:List (Str×Nat)):vs=[.ref f,.int (many:Nat),.ref d]->rows.length<=500->bars.length<=500->fp.length<=900->yF c CF H f rows bars->H d=some (.frz o (.dK (kvP fp)))->(∀(l:Addr) (H':Hp),zo H H'->zbP H H' l (jy rows bars many fp)->Q (.ref l) H')->zig c CF vs H Q E
inductive zeK(c:C5)(CF:Addr)(vs:List V)(H:Hp)(Q:VK)(E:XK):Prop|mk(f a:Addr)(many:Nat)(rows:List Rw)(bars zs:List Str):vs=[.ref f,.int (many:Nat),.ref a]->rows.length<=500->bars.length<=500->many<=900->zs.length<=900->(∀r∈rows,r.ok)->yF c CF H f rows bars->H a=some (.lst (zs.map V.str))->(∀(l:Addr) (H':Hp),zo H H'->zbP H H' l (u9 rows bars many zs)->Q (.ref l) H')->zeK c CF vs H Q E
theorem jt:∀(zs:List Str) (i:Nat) (acc:List (Str×Nat)),(fpF i acc zs).length<=acc.length+zs.length
 | [],_,_=>le_refl _
 | z::zs,i,acc=>by
  have h:=jt zs (i+1) (if (acc.any fun p=>decide (p.1=z))=true then acc else acc++[(z,i)])
  have h2:(if (acc.any fun p=>decide (p.1=z))=true then acc else acc++[(z,i)]).length<=acc.length+1:=by
   split
   ·omega
   ·rw[length_append];exact le_refl _
  show(fpF (i+1) _ zs).length<=acc.length+(zs.length+1);omega
theorem wU.app{H:Hp}{us vs:List Addr}{ms ns:List (Str×Nat)}(h:wU H us ms)(h':wU H vs ns):wU H (us++vs) (ms++ns):=ya h h'
theorem zk7:([Str.ofString "number",Str.ofString "name",Str.ofString "firsts"]:List Str).Nodup:=by decide +kernel
theorem zeS:zq ["form","many","names","firsts","doubled"] ["form","many","names"] (zj zjd):=fsc
theorem zjF{g1 g2 g3 g4:Addr}{d1 d2 d3 d4:FuncData}(F:Fun K "misfits_of" "misfits_of" zjd f fd)(hen:mg "enumerate"=none)(c1:zI P w K mg base 1 "first_numbers" g1 d1 ["names"] jD)(c2:zI P w K mg base 2 "overs" g2 d2 ["form","many"] (zcT c CF))(c3:zI P w K mg base 2 "unwelcomes" g3 d3 ["form","many","firsts"] (zig c CF))(c4:zI P w K mg base 3 "lackings" g4 d4 ["form","many","firsts"] (zcW c CF)):
  zx P w K mg base CX0 4 f fd ["form","many","names"] (zeK c CF):=by
 refine F.ok zeS (fun cdv A outer s H vs Q E hr h=>?_);obtain⟨f,a,many,rows,bars,zs,rfl,l5,lb5,lm,lz,hok,hF,ha,q⟩:=h;have hr1:yf 1 _:=hr.mono (by decide)
 have hr2:yf 2 _:=hr.mono (by decide)
 have hu1:=uu hr;refine⟨_,zh (zw (i:=3) zeS.nd rfl (Or.inr rfl) (cF c1 hr1 (ac (pv 2) zb)))
  (zh (qO (i:=4) ["firsts"] ["number","name","firsts"] [none,none,some 3] zeS.nd rfl (Or.inl rfl) rfl ⟨rfl,rfl,rfl,rfl⟩ (wu rfl hen (ac (pv 2) zb)) (wS (K:=K) (n:=2) 0 1) rfl rfl rfl
   (fun pins fp s H C=>⟨yE rfl (zB (zp (i:=0) zk7 rfl (Or.inl rfl) (.inr rfl)) (zB (zp (i:=1) zk7 rfl (Or.inl rfl) (.inr rfl)) yk)),xM (zn zfs (xW hu1 (pv 2) (pv 1) (fun _ _=>rfl)) (pv 0) (zz _)),zQ (ac zr (ac (pv 0) zb))⟩))
  (zc (zu (zt xI (zt xI (zt xI (pv 4) (cF c2 hr2 (ac (pv 0) (ac (pv 1) zb)))) (cF c3 hr2 (ac (pv 0) (ac (pv 1) (ac (pv 3) zb))))) (cF c4 hr (ac (pv 0) (ac (pv 1) (ac (pv 3) zb)))))))),?_⟩
 exists _,rfl,a,zs,rfl,ha,lz,fun d o H1 s1 hd0 hd1=>?_;rw[ziv] at hd1;have lfp:(fpZ zs).length<=900:=by
  have:=jt zs 0 []
  show(fpF 0 [] zs).length<=900;simp at this;omega
 generalize hfp:fpZ zs=fp at hd1 lfp;exists _,rfl,a,rfl,⟨_,zg (s1 _ _ ha)⟩,fun D hD=>?_;refine zdj (K:=K) (xs:=zs.map V.str) (fun i ys H'=>∃us,ys=us.map V.ref/\zo H1 H'/\H' D=some (.lst ys)/\wU H' us (zaX (kvP fp) 0 (zs.take i))) ⟨[],rfl,ze hD _,za,.nil⟩ (fun i ys H' ⟨_,_,h,_⟩=>zg (h _ _ (s1 _ _ ha))) ?_ ?_
 ·rintro i x p ys H' hlt hx ⟨us,rfl,sH,hDy,hm⟩ hpn
  obtain⟨z,hz,rfl⟩:=strs_at hx;have hi:i<zs.length:=(List.getElem?_eq_some_iff.mp hz).1;have tk:=zag (fk:=kvP fp) zs 0 i hz;rw[Nat.zero_add] at tk;have sp:=ze hpn (.tup [.int (i:Nat),.str z]);have lu:us.length<=i:=by
   rw[hm.length];refine le_trans (qo _ _ _) ?_;rw[length_take];omega
  have hsome:(z8 (kvP fp) (.inr z)).isSome=true:=by
   rw[zaR,<- hfp];exact zgr zs 0 [] (mem_of_getElem? hz)
  obtain⟨v,hv⟩:=Option.isSome_iff_exists.mp hsome;obtain⟨_,j,_,rfl,_⟩:=zaQ hv;have hd2:=sp _ _ (sH _ _ hd1);have hDy2:=sp _ _ hDy;have hm2:=hm.same sp;exists p,_,rfl,zv za,rfl,_,_,rfl,_,_,rfl,rfl,?_;have sA:=sH.trans sp;generalize upd H' p (.tup [.int (i:Nat),.str z])=H3 at sp hd2 hDy2 hm2 sA |-;exists _,rfl,_,rfl,d,_,rfl,.inl ⟨_,.inr z,.inr ⟨o,hd2⟩,rfl,hv.symm⟩,_,rfl,rfl,_,rfl,?_;by_cases ej:j=i
  ·subst ej
   rw[if_pos hv,append_nil] at tk;have ed:(!decide (V.int (j:Nat)=V.int (j:Nat)))=false:=by rw[decide_eq_true rfl];rfl
   rw[ed];exact⟨fun e=>Bool.noConfusion e,fun _=>lcS.mk hlt ⟨us,rfl,sA,hDy2,by rw[tk];exact hm2⟩⟩
  ·have nv:¬z8 (kvP fp) (.inr z)=some (.int (i:Nat)):=fun e=>by
    rw[hv] at e
    have:=V.int.inj (Option.some.inj e)
    omega
   rw[if_neg nv] at tk;have ed:(!decide (V.int (j:Nat)=V.int (i:Nat)))=true:=by
    rw[decide_eq_false (fun e=>by have:=V.int.inj e;omega)]
    rfl
   rw[ed];exists fun _=>?_,fun e=>Bool.noConfusion e;exists _,rfl,yN,fun t ht=>?_;have s4:=ze ht (.tup [.str "doubled",.int (i:Nat)]);have hDy4:=s4 _ _ hDy2;have hu:MA1 (upd H3 t (.tup [.str "doubled",.int (i:Nat)])) t ("doubled",i):=by
    show upd H3 t _ t=_;rw[za]
   refine lcN.mk hlt (yj (by rw[length_map];omega)) hDy4 (by rw[length_map];exact lu) ⟨us++[t],by rw[map_append];rfl,fun b' u' e'=>?_,za,?_⟩
   ·rw[zf (zd e' hD)]
    exact s4 _ _ (sA _ _ e')
   ·rw[tk]
    exact((hm2.same s4).snoc hu).upd hDy4
 rintro ys H2 ⟨us,rfl,s2,hDy,hm⟩;rw[length_map,take_length] at hm;have s12:=s1.trans s2;have lov:(uc rows many).length<=900:=by
  unfold uc;split
  ·exact zero_le _
  ·rw[length_map,length_range];omega
 have lun:(jy rows bars many fp).length<=900:=by
  unfold jy;exact le_trans (List.length_filterMap_le _ _) lfp
 have lla:=uS many (kvP fp) rows 0;have ldb:=qo (kvP fp) zs 0;have big : 4000<=sizeLine:=by decide
 exists _,rfl,_,rfl,_,rfl,f,many,rows,bars,rfl,lm,l5,hF.same s12,fun l3 H3 s3 ⟨us3,n3,e3,m3⟩=>?_;have lu0:=hm.length;have lu3:=m3.length;exists D,l3,_,_,rfl,rfl,s3 _ _ hDy,e3,(by simp only[length_map];omega),fun p4 hp4=>?_
 rw[<- map_append];have u4:=ze hp4 (.lst ((us++us3).map V.ref));have e4:upd H3 p4 (.lst ((us++us3).map V.ref)) p4=some (.lst ((us++us3).map V.ref)):=za;have m4:wU (upd H3 p4 (.lst ((us++us3).map V.ref))) (us++us3) _:=((hm.same s3).app m3).same u4;generalize upd H3 p4 (.lst ((us++us3).map V.ref))=H4 at u4 e4 m4 |-;have s24:=s2.trans (s3.trans u4);have s14:=s1.trans s24;exists _,rfl,_,rfl,_,rfl,f,d,o,many,rows,bars,fp,rfl,l5,lb5,lfp,hF.same s14,s24 _ _ hd1,fun l5' H5 s5 ⟨us5,n5,e5,m5⟩=>?_;have lu5:=m5.length;exists p4,l5',_,_,rfl,rfl,s5 _ _ e4,e5,(by simp only[length_map,length_append];omega),fun p6 hp6=>?_
 rw[<- map_append];have u6:=ze hp6 (.lst ((us++us3++us5).map V.ref));have e6:upd H5 p6 (.lst ((us++us3++us5).map V.ref)) p6=some (.lst ((us++us3++us5).map V.ref)):=za;have m6:wU (upd H5 p6 (.lst ((us++us3++us5).map V.ref))) (us++us3++us5) _:=((m4.same s5).app m5).same u6;generalize upd H5 p6 (.lst ((us++us3++us5).map V.ref))=H6 at u6 e6 m6 |-;have s26:=s24.trans (s5.trans u6);have s16:=s1.trans s26;exists _,rfl,_,rfl,_,rfl,f,d,many,rows,bars,kvP fp,rfl,l5,hok,hF.same s16,.inr ⟨o,s26 _ _ hd1⟩,zhZ fp,fun l7 H7 s7 ⟨us7,n7,e7,m7⟩=>?_;have lu7:=m7.length;exists p6,l7,_,_,rfl,rfl,s7 _ _ e6,e7,(by simp only[length_map,length_append];omega),fun p8 hp8=>?_
 rw[<- map_append];have u8:=ze hp8 (.lst ((us++us3++us5++us7).map V.ref));refine q p8 _ (s16.trans (s7.trans u8)) ⟨us++us3++us5++us7,(s16.trans s7).free hp8,za,?_⟩;unfold u9;rw[hfp];exact((m6.same s7).app m7).same u8
end
end K43
namespace L2
open PySem PySem.Spec PyProof.Rows
def seen(val:Nat->Str)(T:Str->Bool):Nat->Nat->Str->Bool
 | _,0,z=>T z
 | i,k+1,z=>seen val (fun y=>T y||decide (y=val i)) (i+1) k z
section
variable {P:Program}{w:World}{A:Around}{R:Result->Shared->Prop}{I:Addr}{fp wr:List Addr}{G:Array GenState->Array GenState->Prop}{n:Nat}{Pr:Nat->Value->Prop}{Sg:Nat->Shared->Prop}
theorem jz(W:WalksS P w A.in1 I fp wr G n Pr Sg)(a:Addr)(ha:a∉fp)(val:Nat->Str)(hv:∀i v,Pr i v->∃t,v=.str (val i) t)(hb:n+1<scanBound):
  ∀(k i:Nat) (s:Shared) (T:Str->Bool) (c:Nat),n - i=k->i<=n->Sg i s->c<=i->s.heap.SetOf (strKind P w) a T c->
   (∀s' c',Moved (a::wr) G s s'->c'<=n->s'.heap.SetOf (strKind P w) a (seen val T i k) c'->R (.ok (.ret .none)) s')->
   codeAny (model P w) A (.builtin "set.update.loop" ⟨[.ref a,.ref I],[]⟩) R s
 | 0,i,s,T,c,hk,hi,hg,hc,hT,hR=>by
  have hw:a∉wr:=fun z=>ha (W.sub _ z);have ei:i=n:=by omega
  subst ei;refine codeAny_builtin PyProof.Rows.F.entry_set_update_loop ?_;rw[Around.under_plainId PyProof.Rows.F.plain_set_update_loop _];show wpAny _ A.in1 (pyNext (.ref I) >>= _) _ _ _;refine zwb (W.done s _ _ hg fun s' hm=>?_);show wpAny _ A.in1 (ret Value.none) _ _ _;refine zwp (hR s' c (hm.mono fun b z=>mem_cons_of_mem _ z) hc ?_);obtain⟨ob,es,ep,t,h1,h2⟩:=hT;exact⟨ob,es,ep,t,hm.heap a _ hw h1,h2⟩
 | k+1,i,s,T,c,hk,hi,hg,hc,hT,hR=>by
  have hw:a∉wr:=fun z=>ha (W.sub _ z);have hlt:i<n:=by omega
  refine codeAny_builtin PyProof.Rows.F.entry_set_update_loop ?_;rw[Around.under_plainId PyProof.Rows.F.plain_set_update_loop _];show wpAny _ A.in1 (pyNext (.ref I) >>= _) _ _ _;refine zwb (W.item i s _ _ hlt hg fun v s' hP hg' hm=>?_);obtain⟨t,rfl⟩:=hv i v hP;have hT':s'.heap.SetOf (strKind P w) a T c:=by
   obtain⟨ob,es,ep,tb,h1,h2⟩:=hT;exact⟨ob,es,ep,tb,hm.heap a _ hw h1,h2⟩
  show wpAny _ A.in1 (holding [Value.str (val i) t] (setAdd a (.str (val i) t)) >>= _) _ _ s';refine zwb (wpAny_holding ?_);unfold setAdd;refine wpAny_holding ?_;refine zwb ((strKind P w).pyHash (k:=val i) (strKind_is _ _ _ _) ?_);refine wpAny_setAddHashed_of (knd:=strKind P w) (s:={ s' with toks:=s'.toks+1 }) (strKind_is _ _ _ _) rfl hT' (by omega) fun h' hsb h3=>?_
  refine zwp ⟨plainId_quiet PyProof.Rows.F.plain_set_update_loop _,jz W a ha val hv hb k (i+1) _ _ _ (by omega) hlt (W.frame _ s' _ _ hg' (le_succ _) fun b hb' o e=>?_) (by split <;> omega) h3 fun s2 c2 hm2 hc2 h4=>?_⟩
  ·have:b≠a:=fun z=>ha (z ▸ hb')
   rw[hsb.2 b this];exact e
  ·refine hR s2 c2 (Moved.trans W.gtrans ((hm.mono fun b z=>mem_cons_of_mem _ z).then_heap (le_succ _) fun b o hb' e=>?_) hm2) hc2 h4
   have:b≠a:=fun z=>hb' (z ▸ mem_cons_self)
   rw[hsb.2 b this];exact e
abbrev jF(led:Bool):Obj:={ cls:=.type "set",dict:=none,data:=.set #[] 0 (.fresh 0 0 led) }
end
set_option maxHeartbeats 8000000 in
theorem zcK{P:Program}{w:World}{A:Around}{E:VSP}{s:Shared}{l:Addr}{items:Array Value}{zs:List Str}{Q:VSP}
  (hh:A.handled=none) (hl:s.heap.IsList l items) (hv:∀(i:Nat) (v:Value),items[i]?=some v->∃t,v=.str (zs.getD i "") t) (hb:items.size+1<scanBound)
  (h:∀(h':Heap) (tk c:Nat),h'.SetOf (strKind P w) s.heap.objs.size (seen (fun i=>zs.getD i "") (fun _=>false) 0 items.size) c->(∀b o,b<s.heap.objs.size->s.heap.get? b=some o->h'.get? b=some o)->Q (.ref s.heap.objs.size) { s with heap:=h',toks:=tk }) :
  wpAny (model P w) A (call (.type "set") [.ref l]) Q E s:=by
 obtain⟨mc,mt,mro⟩:=PySem.F.called_set.mro;have q1:=PySem.F.called_set.made;have q2:=PySem.F.called_set.sub;have q3:=PySem.F.called_set.notType;have q4:=PySem.F.called_set.canCreate;have q5:=PySem.F.typeCall_set_1 (.ref l);refine wpAny_call (codeAny_of_tree ?_);show wpAny _ _ (callAny (.type "set") _) _ _ _;refine zwp ⟨Code.quiet_builtin _ (by decide +kernel),codeAny_builtin PySem.F.entry_type_call ?_⟩;rw[Around.under_plain (weight_type_call_type "set" [.ref l] []) rfl]
 repeat (any_goals first|assumption|wp_step)
 refine codeAny_mono (code_set_new_1 (.ref l) (E:=E) (Q₁:=fun obj s₁=>∃led:Bool,obj=.ref s.heap.objs.size/\s₁={ s with heap:=s.heap.push (jF led) }) fun led=>⟨led,rfl,rfl⟩) fun r s₁ hr=>?_
 rcases r with e|(_|_|_|obj)
 ·exact hr
 ·exact hr.elim
 ·exact hr.elim
 ·exact hr.elim
 ·obtain⟨led,rfl,rfl⟩:=hr
  have hS:(s.heap.push (jF led)).get? s.heap.objs.size=some (jF led):=zgs _ rfl;have hT:Shared.TypeIs { s with heap:=s.heap.push (jF led) } (.ref s.heap.objs.size) "set":=⟨_,hS,rfl⟩
  have q6:=PySem.F.called_set.init.lookup;have q7:=PySem.F.called_set.init.bind (.ref s.heap.objs.size)
  repeat (any_goals first|assumption|wp_step)
  refine codeAny_mono (codeAny_call_builtin (R:=wants (fun r s₂=>r=.none/\∃h' tk c,s₂={ s with heap:=h',toks:=tk }/\h'.SetOf (strKind P w) s.heap.objs.size (seen (fun i=>zs.getD i "") (fun _=>false) 0 items.size) c/\∀b o,b<s.heap.objs.size->s.heap.get? b=some o->h'.get? b=some o) E) PySem.F.called_set.init.plain PySem.F.entry_set_init (check_set_init_1 hT ?_)) fun r₂ s₂ hr₂=>?_
  ·obtain⟨ol,hol,hcl,nl,hdl⟩:=id hl
   obtain⟨ocls,odict,odata,oslots⟩:=ol;simp only at hcl hdl;subst hcl hdl;have hol':(s.heap.push (jF led)).get? l=_:=zgp (jF led) hol;have t1:=PySem.F.sub_list_set;have t2:=PySem.F.sub_list_frozenset;have t3:(Value.type "list"==Value.type "dict")=false:=by decide
   have hl1:(s.heap.push (jF led)).IsList l items:=⟨_,hol',rfl,nl,rfl⟩;have hlS:l<s.heap.objs.size:=Heap.lt_size hol;unfold Builtin.«set.__init__» noKeywords Builtin.Frozenset.updateFrom;generalize hq:pyIter=pit
   wp_walk
   subst hq;refine wpAny_pyIter_list hl1 (zwb (wpAny_runValue ?_));have hz:(s.heap.push (jF led)).objs.size=s.heap.objs.size+1:=Heap.size_push ..;have n1:l≠(s.heap.push (jF led)).objs.size:=by rw[hz];exact ne_of_lt (lt_succ_of_lt hlS)
   have n2:∀b:Addr,b<s.heap.objs.size->b∉[s.heap.objs.size,(s.heap.push (jF led)).objs.size]:=fun b hb' z=>by
    rw[hz] at z;rcases List.mem_cons.mp z with e|e
    ·exact ne_of_lt hb' e
    ·exact ne_of_lt (lt_succ_of_lt hb') (List.mem_singleton.mp e)
   have n3:s.heap.objs.size∉[(s.heap.push (jF led)).objs.size,l]:=fun z=>by
    rw[hz] at z;rcases List.mem_cons.mp z with e|e
    ·exact ne_of_lt (lt_succ_self _) e
    ·exact Nat.ne_of_gt hlS (List.mem_singleton.mp e)
   refine jz ((Walks.list (by simp [hh]) _ l n1 items).toS) s.heap.objs.size n3 (fun i=>zs.getD i "") hv hb items.size 0 _ (fun _=>false) 0 (by omega) (zero_le _) ⟨⟨_,zgs _ rfl,rfl,rfl⟩,hl1.push _⟩ (le_refl _) ?_ ?_
   ·exact(PyProof.Rows.setObjOf_fresh (knd:=strKind P w) led).setOf (zgp _ hS) (by unfold scanBound;omega)
   ·rintro⟨h',g',d',tk',os'⟩ c' hm hc' hS'
    have e1:g'=s.gens:=hm.gens;have e2:d'=s.drawn:=hm.drawn;have e3:os'=s.os:=hm.os;subst e1 e2 e3;show wpAny _ _ _ _ _ _;refine zwp ?_;show wpAny _ _ (ret Value.none) _ _ _;refine zwp ⟨rfl,h',tk',c',rfl,hS',fun b o hb' e=>hm.heap b o (n2 b hb') (zgp _ (zgp _ e))⟩
  ·rcases r₂ with e|(_|_|_|ob2)
   ·exact hr₂
   ·exact hr₂.elim
   ·exact hr₂.elim
   ·exact hr₂.elim
   ·obtain⟨rfl,h',tk,c',rfl,hS',hk'⟩:=hr₂
    repeat (any_goals first|assumption|wp_step)
    exact h _ _ _ hS' hk'
theorem zbb(val:Nat->Str)(z:Str):∀(k i:Nat) (T:Str->Bool),seen val T i k z=true ↔ (T z=true\/∃j,j<k/\z=val (i+j))
 | 0,i,T=>⟨fun h=>.inl h,fun h=>h.elim id fun⟨j,hj,_⟩=>absurd hj (Nat.not_lt_zero _)⟩
 | k+1,i,T=>by
  show seen val (fun y=>T y||decide (y=val i)) (i+1) k z=true ↔ _
  rw[zbb val z k (i+1)];simp only[Bool.or_eq_true,decide_eq_true_eq];constructor
  ·rintro ((h|h)|⟨j,hj,e⟩)
   ·exact .inl h
   ·exact .inr ⟨0,by omega,h⟩
   ·exact .inr ⟨j+1,by omega,by rw[show i+(j+1)=i+1+j by omega];exact e⟩
  ·rintro (h|⟨j,hj,e⟩)
   ·exact .inl (.inl h)
   ·cases j with
    | zero=>exact .inl (.inr e)
    | succ j=>exact .inr ⟨j,by omega,by rw[show i+1+j=i+(j+1) by omega];exact e⟩
theorem zeO(zs:List Str)(z:Str):seen (fun i=>zs.getD i "") (fun _=>false) 0 zs.length z=decide (z∈zs):=by
 rw[Bool.eq_iff_iff,zbb,decide_eq_true_eq];constructor
 ·rintro (h|⟨j,hj,e⟩)
  ·cases h
  ·rw[e,Nat.zero_add]
   show zs.getD j ""∈zs;rw[getD_eq_getElem?_getD,getElem?_eq_getElem hj];exact getElem_mem hj
 ·intro h
  obtain⟨j,hj,e⟩:=List.mem_iff_getElem.mp h;refine .inr ⟨j,hj,?_⟩;rw[Nat.zero_add];show z=zs.getD j "";rw[getD_eq_getElem?_getD,getElem?_eq_getElem hj];exact e.symm
theorem zX.strs_at:∀{zs:List Str}{us:List Value},zX (zs.map V.str) us->∀(i:Nat) (v:Value),us[i]?=some v->∃t,v=.str (zs.getD i "") t
 | [],_,.nil,i,v,h=>by simp at h
 | z::zs,_,.cons r t,0,v,h=>by
  obtain⟨tk,e⟩:=r
  have:v=.str z tk:=by rw[<- e];simpa using h.symm
  exact⟨tk,this⟩
 | z::zs,_,.cons r t,i+1,v,h=>zX.strs_at t i v (by simpa using h)
theorem zei{X:Cx}(hc:X.calm=true):xF X (.type "set") (fun xs H Q=>∃(p:Addr) (zs:List Str),xs=[.ref p]/\SqL X.K H p (zs.map V.str)/\zs.length<=900/\∀(l:Addr) (n:Nat),H l=none->Q (.ref l) (upd H l (vk X.prog X.w l (fun z=>decide (z∈zs)) n))):=by
 intro pins s σ H xs us Q I r h;obtain⟨p,zs,rfl,hS,lz,q⟩:=h;obtain⟨u,rfl,ru⟩:=ub r;cases ru;obtain⟨its,rv,hp,hz⟩:=I.list hS;have hl:its.length=zs.length:=by rw[<- rv.length,length_map]
 have hb:its.toArray.size+1<scanBound:=by
  rw[size_toArray,hl];have : 1000<scanBound:=by unfold scanBound;decide
  omega
 refine zcK (I.ok.hd hc) hp.isList (fun i v e=>rv.strs_at i v (by simpa using e)) hb fun h' tk c hS' hk=>?_
 have hsz:its.toArray.size=zs.length:=by rw[size_toArray,hl]
 rw[hsz] at hS';have eS:seen (fun i=>zs.getD i "") (fun _=>false) 0 zs.length=fun z=>decide (z∈zs):=funext (zeO zs);rw[eS] at hS';exists .ref s.heap.objs.size,_,I.laid (t':=tk) (fun b ob e=>hk b ob (Heap.lt_size e) e) (le_refl _) (zaw hS'),rfl,q _ c (I.hok.fresh (le_refl _))
end L2
namespace K43
open PySem L2 PyProof.Rows
theorem zcH:∀(rows:List Rw) (i:Nat) (acc:List (Key×V)) (k:Key) (v:V),(∀k v,z8 acc k=some v->∃j:Nat,v=.int (j:Nat))->z8 (xo i acc rows) k=some v->∃j:Nat,v=.int (j:Nat)
 | [],_,acc,k,v,h,e=>h k v e
 | r::rs,i,acc,k,v,h,e=>by
  refine zcH rs (i+1) _ k v (fun k v e=>?_) e;split at e
  ·rw[zer] at e
   split at e
   ·exact⟨i,(Option.some.inj e).symm⟩
   ·exact h k v e
  ·exact h k v e
theorem zdF{rows:List Rw}{bars:List Str}{many:Nat}{fp:List (Str×Nat)}{i:Nat}{p:Str×Nat}(h:fp[i]?=some p):jy rows bars many (fp.take (i+1))=jy rows bars many (fp.take i)++(match wf rows bars many p.1 with|some wd=>[(wd,p.2)]|none=>[]):=by
 unfold jy;rw[take_add_one,h,List.filterMap_append]
 congr 1
 show List.filterMap _ [p]=_;rw[filterMap_cons,List.filterMap_nil];cases wf rows bars many p.1 <;> rfl
theorem zet(rows:List Rw)(bars:List Str)(many:Nat)(fp:List (Str×Nat)):(jy rows bars many fp).length<=fp.length:=List.length_filterMap_le _ _
section
variable {P:Program}{w:World}{K:Frag}{mg:Str->Option Value}{base:Heap}{f CF:Addr}{fd:FuncData}{c:C5}{m:MA}
theorem qN:zq ["form","many","firsts","barred","found","name","number","leads_to"] ["form","many","firsts"] (zj zi8):=fsc
theorem zjz{gB gN gG gP:Addr}{eB eN eG eP:FuncData}(F:Fun K "unwelcomes" "unwelcomes" zi8 f fd)(hset:mg "set"=none)(FK:FC K CF)(mB:yT K CF "bars" gB)(GB:zx P w K mg base CX0 1 gB eB ["self"] (zbY c CF))(bB:zN K eB ["self"] [])(mN:yT K CF "number_of" gN)(GN:zx P w K mg base CX0 1 gN eN ["self","name"] (zcU c CF))(bN:zN K eN ["self","name"] [])
  (mG:yT K CF "bag" gG) (GG:zx P w K mg base CX0 1 gG eG ["self"] (wV c CF 4)) (bG:zN K eG ["self"] []) (mP:yT K CF "places" gP) (GP:zx P w K mg base CX0 1 gP eP ["self"] (vp c CF)) (bP:zN K eP ["self"] []) :
  zx P w K mg base CX0 2 f fd ["form","many","firsts"] (zig c CF):=by
 refine F.ok qN (fun cdv A outer s H vs Q E hr h=>?_);obtain⟨f,d,o,many,rows,bars,fp,rfl,l5,lb5,lfp,hF,hd,q⟩:=h;refine⟨_,zh (zw (i:=3) qN.nd rfl (Or.inl rfl) (cTy (zei rfl) hset PyProof.Rows.boot_set (ac (yi (pv 0) FK.cl mB GB hr bB .nil zW) zb)))
  (zh (zw (i:=4) qN.nd rfl (Or.inl rfl) (yg zb))
  (zh (yD PassesOwn.never rfl (zbk (pv 2)) (yE rfl (zB (zp (i:=5) qN.nd rfl (Or.inl rfl)) (zB (zp (i:=6) qN.nd rfl (Or.inl rfl)) yk)))
   (zh (zw (i:=7) qN.nd rfl (Or.inl rfl) (jr (pv 0) FK.cl mN GN hr bN .nil zW (ac (pv 5) zb)))
   (zc (zE (zn jY (pv 5) (pv 3) (by with_unfolding_all rfl)) (zc (zG (yv PySem.F.plainAttrs_list PySem.F.slot_list_append PySem.F.type_list_append zH (pv 4) (ac (zQ (ac zr (ac (pv 6) zb))) zb))))
    (zc (zE (ue (zaK (pv 7))) (zc (zE (ue (zaK (yi (pv 0) FK.cl mG GG hr bG .nil zW))) (zc (zG (yv PySem.F.plainAttrs_list PySem.F.slot_list_append PySem.F.type_list_append zH (pv 4) (ac (zQ (ac zr (ac (pv 6) zb))) zb)))) zA))
     (zc (zE (xi (y8 (zn vy (pv 7) (yi (pv 0) FK.cl mP GP hr bP .nil zW) (zz _)) (yK (zn vy (pv 7) (pv 1) (zz _))))) (zc (zG (yv PySem.F.plainAttrs_list PySem.F.slot_list_append PySem.F.type_list_append zH (pv 4) (ac (zQ (ac zr (ac (pv 6) zb))) zb)))) zA))))))))
  (zc (zu (pv 4))))),?_⟩
 obtain⟨dx,fs,lr,lb,ld,ps0,h1,h2,h3,h4,h5,h6⟩:=id hF;have nmB:fs.lookup ("bars" : Str)=none:=h2.no _ (by decide +kernel)
 have nmN:fs.lookup ("number_of" : Str)=none:=h2.no _ (by decide +kernel)
 have nmG:fs.lookup ("bag" : Str)=none:=h2.no _ (by decide +kernel)
 have nmP:fs.lookup ("places" : Str)=none:=h2.no _ (by decide +kernel)
 exists _,rfl,f,dx,fs,rfl,h1,nmB,f,rows,bars,rfl,hF,fun lb1 H1 s1 nb eb=>?_;exists lb1,bars,rfl,zg eb,by omega,fun sS nS hS=>?_
 have u2:=ze hS (vk P w sS (fun z=>decide (z∈bars)) nS);have e2:upd H1 sS (vk P w sS (fun z=>decide (z∈bars)) nS) sS=some (vk P w sS (fun z=>decide (z∈bars)) nS):=za;show uB _ _ _ _ (upd H1 sS (vk P w sS (fun z=>decide (z∈bars)) nS));generalize upd H1 sS (vk P w sS (fun z=>decide (z∈bars)) nS)=H2 at u2 e2 |-;exists wj,fun l hl=>?_;have u3:=ze hl (.lst []);have e3:upd H2 l (.lst []) l=some (.lst []):=za;show uB _ _ _ _ (upd H2 l (.lst []));generalize upd H2 l (.lst [])=H3 at u3 e3 |-;have s2:=s1.trans u2;have s3:=s2.trans u3;have hlH:H l=none:=s2.free hl;have nl:∀{b:Addr}{u:HO},H2 b=some u->b≠l:=fun e=>zd e hl;have sHl:∀{H':Hp},(∀b u,H2 b=some u->H' b=some u)->zo H H':=fun k b u e=>k b u (s2 _ _ e);refine⟨_,rfl,d,o,kvP fp,rfl,s3 _ _ hd,zd8 (d:=d) (o:=o) (kvs:=kvP fp) (fun i σ H'=>∃(us:List Addr) (v5 v6 v7:Option V),σ=[some (.ref f),some (.int (many:Nat)),some (.ref d),some (.ref sS),some (.ref l),v5,v6,v7]/\(∀b u,H2 b=some u->H' b=some u)/\H' l=some (.lst (us.map V.ref))/\wU H' us (jy rows bars many (fp.take i)))
  ⟨[],_,_,_,rfl,fun _ _ e=>u3 _ _ e,e3,.nil⟩ (fun i σ H' _ ⟨_,_,_,_,_,sH,_⟩=>sH _ _ (s2 _ _ hd)) ?_ ?_⟩
 ·rintro i k v p σ H' hk ⟨us,v5,v6,v7,rfl,sH,hl',hm⟩ hpn
  obtain⟨z,n,hz,rfl,rfl⟩:∃(z:Str) (n:Nat),fp[i]?=some (z,n)/\k=.inr z/\v=.int (n:Nat):=by
   unfold kvP at hk;rw[getElem?_map] at hk;cases e:fp[i]? with
   | none=>rw[e] at hk;cases hk
   | some q=>rw[e] at hk;cases hk;exact⟨q.1,q.2,rfl,rfl,rfl⟩
  have tk:=zdF (rows:=rows) (bars:=bars) (many:=many) hz;dsimp only at tk;have sp:=ze hpn (.tup [kV (.inr z),.int (n:Nat)]);have lu:us.length<=i:=by
   rw[hm.length];refine le_trans (zet _ _ _ _) ?_;rw[length_take];omega
  have hi:i<fp.length:=(List.getElem?_eq_some_iff.mp hz).1;have sH1:∀b u,H2 b=some u->upd H' p (.tup [kV (.inr z),.int (n:Nat)]) b=some u:=fun b u e=>sp _ _ (sH b u e);have hl1:=sp _ _ hl';have hm1:=hm.same sp;exists p,_,rfl,zv za,rfl,_,_,rfl,_,_,rfl,rfl,?_;generalize upd H' p (.tup [kV (.inr z),.int (n:Nat)])=H4 at sH1 hl1 hm1 |-;have s4:=sHl sH1;exists _,rfl,f,dx,fs,rfl,s4 _ _ h1,nmN,_,rfl,f,z,rows,bars,rfl,hF.same s4,?_;exists _,rfl,_,rfl,sS,_,_,z,rfl,rfl,sH1 _ _ e2,_,rfl,?_;by_cases hz1:z∈bars
  ·refine dT hz1 ?_
   rw[show wf rows bars many z=some "barred" from if_pos hz1] at tk;exists _,rfl,.inl ⟨rfl,_,zg hl1⟩,_,rfl,yN,fun t ht=>?_;have s6:=ze ht (.tup [.str "barred",.int (n:Nat)]);have hl6:=s6 _ _ hl1;have hu2:MA1 (upd H4 t (.tup [.str "barred",.int (n:Nat)])) t ("barred",n):=by
    show upd H4 t _ t=_;rw[za]
   exists l,_,.ref t,rfl,rfl,hl6,zC (by rw[length_map];omega),?_
   exists us++[t],_,_,_,rfl,fun b u e=>?_,by rw[za,map_append];rfl,?_
   ·rw[zf (nl e)]
    exact s6 _ _ (sH1 b u e)
   ·rw[tk]
    exact((hm1.same s6).snoc hu2).upd hl6
  ·refine dF hz1 ?_
   have e0:wf rows bars many z=(match wf.lastD' z rows with|none=>if (zM 4 0 rows).isSome=true then none else some "strange"|some l=>if l<plN rows/\l<many then some "again" else none):=if_neg hz1
   cases ev:z8 (xo 0 [] rows) (.inr z) with
   | none=>
    have e1:wf.lastD' z rows=none:=by unfold wf.lastD';rw[ev]
    rw[e1] at e0;exists _,rfl,_,rfl,?_;refine dT rfl ?_;exists _,rfl,f,dx,fs,rfl,s4 _ _ h1,nmG,f,rows,bars,rfl,hF.same s4,_,rfl,?_;cases eg:zM 4 0 rows with
    | none=>
     have e2':wf rows bars many z=some "strange":=by rw[e0,eg];rfl
     refine dT rfl ?_;rw[show wf rows bars many z=some "strange" from e2'] at tk;exists _,rfl,.inl ⟨rfl,_,zg hl1⟩,_,rfl,yN,fun t ht=>?_;have s6:=ze ht (.tup [.str "strange",.int (n:Nat)]);have hl6:=s6 _ _ hl1;have hu2:MA1 (upd H4 t (.tup [.str "strange",.int (n:Nat)])) t ("strange",n):=by
      show upd H4 t _ t=_;rw[za]
     exists l,_,.ref t,rfl,rfl,hl6,zC (by rw[length_map];omega),?_
     exists us++[t],_,_,_,rfl,fun b u e=>?_,by rw[za,map_append];rfl,?_
     ·rw[zf (nl e)]
      exact s6 _ _ (sH1 b u e)
     ·rw[tk]
      exact((hm1.same s6).snoc hu2).upd hl6
    | some j=>
     have e2':wf rows bars many z=none:=by rw[e0,eg];rfl
     refine dF (by intro z;cases z) ?_
     rw[show wf rows bars many z=none from e2',append_nil] at tk;exact⟨us,_,_,_,rfl,sH1,hl1,by rw[tk];exact hm1⟩
   | some v=>
    obtain⟨j,rfl⟩:=zcH rows 0 [] (.inr z) v (fun k v e=>by cases e) ev
    have e1:wf.lastD' z rows=some j:=by unfold wf.lastD';rw[ev];rfl
    rw[e1] at e0;exists _,rfl,_,rfl,?_;refine dF (by intro z;cases z) ?_
    exists _,rfl,_,rfl,f,dx,fs,rfl,s4 _ _ h1,nmP,f,rows,bars,rfl,hF.same s4,_,_,rfl,rfl,_,rfl,?_;by_cases hj1:j<plN rows
    ·refine xE (decide_eq_true (by show(j:Int)<(plN rows:Int);omega)) ?_
     exists _,rfl,_,rfl,_,_,rfl,rfl,_,rfl,?_;by_cases hj2:j<many
     ·have e2':wf rows bars many z=some "again":=by rw[e0];exact if_pos ⟨hj1,hj2⟩
      refine xE (decide_eq_true (by show(j:Int)<(many:Int);omega)) ?_
      rw[show wf rows bars many z=some "again" from e2'] at tk;exists _,rfl,.inl ⟨rfl,_,zg hl1⟩,_,rfl,yN,fun t ht=>?_;have s6:=ze ht (.tup [.str "again",.int (n:Nat)]);have hl6:=s6 _ _ hl1;have hu2:MA1 (upd H4 t (.tup [.str "again",.int (n:Nat)])) t ("again",n):=by
       show upd H4 t _ t=_;rw[za]
      exists l,_,.ref t,rfl,rfl,hl6,zC (by rw[length_map];omega),?_
      exists us++[t],_,_,_,rfl,fun b u e=>?_,by rw[za,map_append];rfl,?_
      ·rw[zf (nl e)]
       exact s6 _ _ (sH1 b u e)
      ·rw[tk]
       exact((hm1.same s6).snoc hu2).upd hl6
     ·have e2':wf rows bars many z=none:=by rw[e0];exact if_neg fun h=>hj2 h.2
      refine yW (decide_eq_false (by show ¬(j:Int)<(many:Int);omega)) ?_
      rw[show wf rows bars many z=none from e2',append_nil] at tk;exact⟨us,_,_,_,rfl,sH1,hl1,by rw[tk];exact hm1⟩
    ·have e2':wf rows bars many z=none:=by rw[e0];exact if_neg fun h=>hj1 h.1
     refine yW (decide_eq_false (by show ¬(j:Int)<(plN rows:Int);omega)) ?_
     refine yo ?_;rw[show wf rows bars many z=none from e2',append_nil] at tk;exact⟨us,_,_,_,rfl,sH1,hl1,by rw[tk];exact hm1⟩
 ·rintro σ H' ⟨us,v5,v6,v7,rfl,sH,hl',hm⟩
  have lk:(kvP fp).length=fp.length:=by unfold kvP;rw[length_map]
  rw[lk,take_length] at hm;exact⟨_,rfl,q l H' (sHl sH) ⟨us,hlH,hl',hm⟩⟩
def wP(rows:List Rw)(bars:List Str)(c:List xp):List (Str×Nat):=u9 rows bars (zR c).length (zF c)
structure qA(K:Frag)(H:Hp)(a:Addr)(ct:List xp):Prop where
 at_:∃xs,SqL K H a xs/\Paired (zD K T' H 3) xs (ct.map xu)
 lt:(zR ct).length<=900
 lp:(yn ct).length<=900
structure vF(c:C5)(CF:Addr)(H:Hp)(f:Addr)(rows:List Rw)(bars:List Str):Prop where
 at_:yF c CF H f rows bars
 lr:rows.length<=500
 lb:bars.length<=500
 ok:∀r∈rows,r.ok
theorem vF.same{c:C5}{CF:Addr}{H H':Hp}{f:Addr}{rows:List Rw}{bars:List Str}(h:vF c CF H f rows bars)(s:zo H H'):vF c CF H' f rows bars:=⟨h.at_.same s,h.lr,h.lb,h.ok⟩
inductive zik(K:Frag)(c:C5)(CF:Addr)(vs:List V)(H:Hp)(Q:VK)(E:XK):Prop|mk(f a:Addr)(rows:List Rw)(bars:List Str)(ct:List xp):vs=[.ref f,.ref a]->vF c CF H f rows bars->qA K H a ct->(∀(l:Addr) (H':Hp),zo H H'->zbP H H' l (wP rows bars ct)->Q (.ref l) H')->zik K c CF vs H Q E
theorem zeR:zq ["form","call","many","names"] ["form","call"] (zj jM):=fsc
theorem zjH{g1 g2:Addr}{d1 d2:FuncData}(F:Fun K "misfits" "misfits" jM f fd)(c1:zI P w K mg base 2 "shape" g1 d1 ["call"] (zao K))(c2:zI P w K mg base 4 "misfits_of" g2 d2 ["form","many","names"] (zeK c CF)):zx P w K mg base CX0 5 f fd ["form","call"] (zik K c CF):=by
 refine F.ok zeR (fun cdv A outer s H vs Q E hr h=>?_);obtain⟨f,a,rows,bars,ct,rfl,hF,⟨⟨xs,hx,hc⟩,lt,lp⟩,q⟩:=h;have hr2:yf 2 _:=hr.mono (by decide)
 refine⟨_,zh (vd (cF c1 hr2 (ac (pv 1) zb)) (yE rfl (zB (zp (i:=2) zeR.nd rfl (Or.inl rfl)) (zB (zp (i:=3) zeR.nd rfl (Or.inl rfl)) yk))))
  (zc (zu (cF c2 hr (ac (pv 0) (ac (pv 2) (ac (pv 3) zb)))))),?_⟩
 exists _,rfl,a,ct,xs,rfl,hx,hc,lt,lp,fun p l H1 s1 nl ep el=>?_;exists p,_,rfl,zv ep,rfl,_,_,rfl,_,_,rfl,rfl,?_;have hF1:=hF.same s1;have ln:(zF ct).length<=900:=by unfold zF;rw[length_map];exact lp
 exact⟨_,rfl,_,rfl,_,rfl,f,l,(zR ct).length,rows,bars,zF ct,rfl,hF.lr,hF.lb,lt,ln,hF.ok,hF1.at_,el,fun l2 H2 s2 ⟨us,n2,e2,m2⟩=>q l2 H2 (s1.trans s2) ⟨us,s1.free n2,e2,m2⟩⟩
end
end K43
namespace L2
open PySem PySem.Spec PyProof.Rows
section
variable {X:Cx}
theorem zX.of_at{ts:List Int}:∀{us:List Value},us.length=ts.length->(∀(i:Nat) (v:Value),us[i]?=some v->∃t,v=Value.int (ts.getD i 0) t)->zX (ts.map V.int) us:=by
 induction ts with
 | nil=>
  intro us hl _
  have:us=[]:=List.length_eq_zero_iff.mp hl
  subst this;exact .nil
 | cons t ts ih=>
  intro us hl h;cases us with
  | nil=>cases hl
  | cons u us=>
   obtain⟨k,e⟩:=h 0 u rfl;exact .cons ⟨k,e⟩ (ih (by simpa using hl) fun i v e=>h (i+1) v e)
end
end L2
namespace L2
open PySem PySem.W PySem.Builtin PySem.Builtin.ObjectAttr PySem.Spec PyProof.Rows
def zgI(K:Frag)(C:Addr):Bool:=
 match K.lookup C with
 | some ⟨.type "type",_,.cls cd,sl⟩=>
  match cd.mro,sl.toList with
  | .ref C'::bm,[_,_,_,_,some (.builtin n),_]=>C'==C&&n=="ValueError.__new__"&&!cd.hasDel&&cd.hasDict&&bm.contains (.type "ValueError")&&bm.contains (.type "BaseException")&&!bm.contains (.type "AttributeError")&&!bm.contains (.type "NameError")
  | _,_=>false
 | _=>false
structure zlt(h:Heap)(C:Addr):Prop where
 ob:∃nm q N bs bm sn sub ab col dd k0 k1 k2 k3 k5,h.get? C=some (excClassObj nm q C N bs bm true sn sub ab col dd k0 k1 k2 k3 k5 "ValueError.__new__")/\bm.contains (.type "ValueError")=true/\bm.contains (.type "BaseException")=true/\bm.contains (.type "AttributeError")=false/\bm.contains (.type "NameError")=false
theorem zcO{K:Frag}{h:Heap}{C:Addr}(X:K.In h)(q:zgI K C=true):zlt h C:=by
 simp only[zgI] at q;split at q
 case h_2=>cases q
 rename_i dd cd sl ho;obtain⟨nm,bs,mro,ns,qn,hd,sn,sub,ab,col,del⟩:=cd;obtain⟨l⟩:=sl;dsimp only at q;split at q
 case h_2=>cases q
 rename_i C' m k0 k1 k2 k3 n k5;simp only[Bool.and_eq_true,beq_iff_eq,Bool.not_eq_true'] at q;obtain⟨⟨⟨⟨⟨⟨⟨rfl,rfl⟩,rfl⟩,rfl⟩,h1⟩,h2⟩,h3⟩,h4⟩:=q;exact⟨_,_,_,_,_,_,_,_,_,_,_,_,_,_,_,X _ _ ho,h1,h2,h3,h4⟩
abbrev wE(C t:Addr):Obj:={ cls:=.ref C,data:=.fields #[.ref t,.none,.none,.none,.bool false,.none] }
abbrev xS(us:List Value):Obj:={ cls:=.type "tuple",data:=.seq us.toArray }
section
variable {prog:Program}{w:World}{A:Around}{E:VSP}{s:Shared}{K:Frag}{C f:Addr}{us:List Value}
theorem zh1{R:Result->Shared->Prop}(m:zlt s.heap C)(hl:us.length<=sizeLine)
  (h:R (.ok (.ret (.ref (s.heap.objs.size+1)))) { s with heap:=(s.heap.push (xS us)).push (wE C s.heap.objs.size) }) :
  codeAny (model prog w) A (.call (.builtin "ValueError.__new__") ⟨.ref C::us,[]⟩) R s:=by
 obtain⟨hh,g,d,t,os⟩:=s;obtain⟨nm,q,N,bs,bm,sn,sub,ab,col,dd,k0,k1,k2,k3,k5,hC,b1,b2,b3,b4⟩:=m.ob;have F:=PySem.F.excBase_ValueError;refine codeAny_call_builtin_code (Code.quiet_builtin _ F.toExcCallFacts.quiet) ?_;have k1':=F.newKind;have k2':=F.newSplit;have k3':=F.newRow;simp only[checkBuiltinCall,k1',k2',k3'];rw[if_pos (by decide +kernel)]
 refine zwb (ks_wpAny_isType_cls hC rfl ?_);rw[if_neg (by decide)]
 refine zwb (wpAny_isSubtype_exc hC ?_);rw[show(Value.ref C::bm).contains (.type "ValueError")=true by rw[contains_cons,b1,Bool.or_true],if_neg (by decide)]
 refine zwb (wpAny_staticBase_exc hC (zwb (wpAny_madeBy_exc hC ?_)));dsimp only;rw[if_neg (by decide +kernel)]
 rw[show Bind.checkArgs "ValueError.__new__" { machinery:=Manifest.Machinery.any,full:="ValueError",short:="ValueError",receiver:=Manifest.Receiver.cls,params:=[{ name:="args",kind:=Manifest.ParamKind.varPos,required:=false },{ name:="kwargs",kind:=Manifest.ParamKind.varKw,required:=false }] } { pos:=Value.ref C::us }=pure () from rfl];refine zwp (PyProof.Rows.codeAny_builtin_at F.toExcCallFacts.toExcNewFacts.entry ?_);unfold Builtin.«BaseException.__new__»;refine PyProof.Rows.wpAt_bind (PyProof.Rows.wpAt_owner rfl F.toExcCallFacts.toExcNewFacts.ends (PyProof.Rows.wpAt_of_any ?_));rw[F.toExcCallFacts.toExcNewFacts.owner];dsimp only;refine zwb (ks_wpAny_isType_cls hC rfl ?_);rw[if_neg (by decide)]
 refine zwb (wpAny_isSubtype_exc hC ?_);rw[show(Value.ref C::bm).contains (.type "ValueError")=true by rw[contains_cons,b1,Bool.or_true],if_neg (by decide)]
 refine zwb (wpAny_madeHere_exc F.canon hC ?_);have c3:(Value.ref C::bm).contains (.type "AttributeError")=false:=by rw[contains_cons,b3];rfl
 have c4:(Value.ref C::bm).contains (.type "NameError")=false:=by rw[contains_cons,b4];rfl
 refine zwb (?_:wpAny _ _ (do
   let x <- isSubtype (.ref C) (.type "AttributeError")
   if x=true then pure 2
   else do
    let y <- isSubtype (.ref C) (.type "NameError")
    if y=true then pure 1 else pure 0:Sem Nat) _ _ _)
 refine zwb (wpAny_isSubtype_exc hC ?_);rw[c3,if_neg zft];refine zwb (wpAny_isSubtype_exc hC ?_);rw[c4,if_neg zft];refine zwp (zwb (wpAny_newTuple ?_ hl));have hC2:=zgp (xS us) hC;unfold newObj;dsimp only;rw[if_neg (by show ¬6>sizeLine+2;decide)]
 unfold newObjAsIs;refine zwb (zwb (wpAny_alloc ?_));dsimp only;refine zwb ?_;unfold classHasDel;refine zwb (wpAny_load (zgp _ hC2) ?_);dsimp only;refine zwp ?_;rw[if_neg zft];refine zwp (zwp ?_);have e1:(hh.push (xS us)).objs.size=hh.objs.size+1:=Heap.size_push _ _;show R (.ok (.ret (.ref (hh.push (xS us)).objs.size))) _;rw[e1];exact h
structure zdB(K:Frag)(C f:Addr):Prop where
 ob:zgI K C=true
 init:findIn K (.ref C) "__init__"=some (some (.ref f))
 fn:isFn K (.ref f)=true
 call:specialIn K (.ref C) "__call__"=some (some (.builtin "type.__call__"))
 typ:instIn K (.ref C) (.type "type")=some true
 kp:keepIn K (.ref C)=true
theorem zgv{R:Result->Shared->Prop}(X:K.In s.heap)(m:zdB K C f)(hl:us.length<=sizeLine)
  (h:codeAny (model prog w) (A.under (.builtin "type.__call__" ⟨.ref C::us,[]⟩)) (.call (.ref f) ⟨.ref (s.heap.objs.size+1)::us,[]⟩) (InitBack (s.heap.objs.size+1) R)
   { s with heap:=(s.heap.push (xS us)).push (wE C s.heap.objs.size) }):codeAny (model prog w) A (.call (.ref C) ⟨us,[]⟩) R s:=by
 have mo:=zcO X m.ob;have LC:=looks_specialIn (M:=model prog w) X m.call;have LT:=looks_instIn (M:=model prog w) X m.typ;obtain⟨hh,g,d,t,os⟩:=s;obtain⟨nm,q,N,bs,bm,sn,sub,ab,col,dd,k0,k1,k2,k3,k5,hC,b1,b2,b3,b4⟩:=mo.ob;refine codeAny_of_own ?_;show wpOwn _ _ _ (callAny (.ref C) ⟨us,[]⟩) _ _ _;unfold callAny;refine wpOwn_of_wpAny ?_;dsimp only;refine zwb (wpAny_load hC ?_);dsimp only;unfold callAny.viaDunder;refine zwb (LC.at ?_);dsimp only;rw[show bindSpecial (.builtin "type.__call__") (.ref C)=pure (.builtin "type.__call__",[.ref C]) from by with_unfolding_all rfl]
 refine zwb (zwp ?_);dsimp only;rw[show callAny.plainCallee (.builtin "type.__call__")=pure true from by with_unfolding_all rfl]
 refine zwb (zwp ?_);rw[if_pos rfl];refine zwp ⟨rfl,?_⟩;refine codeAny_call_builtin_code (Code.quiet_builtin _ (by decide +kernel)) ?_
 have k1':builtinKind "type.__call__"=some .slot:=by decide +kernel
 have k2':splitId "type.__call__"=some ("type","__call__"):=by decide +kernel
 simp only[checkBuiltinCall,k1',k2',cons_append,nil_append];refine zwb (LT.at ?_);rw[if_neg (by decide)]
 have k3':Manifest.signature? "type.__call__"=some { machinery:=.hand,full:="wrapper __call__",short:="",receiver:=.self,params:=[] }:=by with_unfolding_all rfl
 rw[k3'];dsimp only;rw[show Bind.checkArgs "type.__call__" { machinery:=.hand,full:="wrapper __call__",short:="",receiver:=.self,params:=[] } { pos:=Value.ref C::us }=pure () from rfl];refine zwp (codeAny_builtin (b:=Builtin.«type.__call__») rfl ?_);unfold Builtin.«type.__call__»;dsimp only;rw[if_neg (show ¬(Value.ref C==Value.type "type")=true from fun z=>by cases z)]
 refine zwb (wpAny_mroOf_exc hC ?_);rw[if_neg (show ¬(Value.ref C::bm).isEmpty=true from zft)];refine zwb (wpAny_madeBy_exc hC ?_);dsimp only;refine zwb (zwp (zwb (wpAny_holding (wpAny_call (zh1 mo hl ?_)))));dsimp only at h |-;have kp:∀b o,hh.get? b=some o->((hh.push (xS us)).push (wE C hh.objs.size)).get? b=some o:=fun b o e=>zgp _ (zgp _ e);have X2:K.In ((hh.push (xS us)).push (wE C hh.objs.size)):=X.keeps kp;have eo:((hh.push (xS us)).push (wE C hh.objs.size)).get? (hh.objs.size+1)=some (wE C hh.objs.size):=by
  have:=zgs (hh.push (xS us)) (o:=wE C hh.objs.size) rfl
  rwa [Heap.size_push] at this
 have LI:=looks_findIn (M:=model prog w) X2 m.init;have LB:=bind_fn (M:=model prog w) X2 (.ref (hh.objs.size+1)) (beq_iff_eq.mp m.fn);generalize (hh.push (xS us)).push (wE C hh.objs.size)=h2 at h kp X2 eo LI LB |-;unfold isInstance;have LTy:Looks (model prog w) h2 (typeOf (.ref (hh.objs.size+1))) (.ref C):=(Looks.ld eo).andThen .now;refine zwb (zwb (LTy.at (wpAny_isSubtype_exc (kp _ _ hC) ?_)));rw[show(Value.ref C::bm).contains (.ref C)=true by rw[contains_cons,beq_self_eq_true,Bool.true_or],if_neg (by decide)]
 refine zwb (wpAny_holding ?_);unfold callSpecial? specialOf;refine zwb (zwb (LTy.at (LI.at ?_)));dsimp only;refine wpAny_holding (zwb (LB.at ?_));dsimp only;refine zwb (wpAny_call (codeAny_mono h fun r s' hq=>?_));cases r with
 | error e=>exact hq
 | ok fl=>
  cases fl with
  | ret u=>
   obtain⟨rfl,hq⟩:=hq;refine zwp ?_;dsimp only;rw[if_neg (by decide)]
   exact zwp hq
  | next=>exact False.elim hq
  | brk=>exact False.elim hq
  | cont=>exact False.elim hq
def za4:List Value:=[.type "ValueError",.type "Exception",.type "BaseException",.type "object"]
def wL:List Value->Bool
 | .ref _::l=>wL l
 | l=>l==za4
def zkd(K:Frag)(C:Addr):Bool:=(clsIn K C).any fun cd=>cd.hasDict&&wL cd.mro
variable {x:Addr}
theorem zdV{M:Model}{Q:Option Unit×Unit->Shared->Prop}{self:Value}:∀(l:List Value),wL l=true->(Q (some (),()) s)->
  wpAny M A (forIn l ((none,()):Option Unit×Unit) fun c __s=>
    match c with
    | Value.type n=>
     if (n=="_thread._local")=true then do
      rule "setattr.thread-local-passed-by"
      pure (ForInStep.yield (none,()))
     else
      if (n=="_pickle.Pickler"||n=="_pickle.Unpickler")=true then do
       rule "setattr.pickle-types-passed-by"
       pure (ForInStep.yield (none,()))
      else do
       let own <- classOwn c (Str.ofString "__setattr__")
       if own.isSome=true then
         have __do_jp:=fun (__r:Unit)=>pure (ForInStep.done (some (),()));
         if (!isObjects n (Str.ofString "__setattr__").toString)=true then do
          rule "setattr.built-in-override"
          let tn <- PySem.typeNameOf self
          let __r <-
           raiseErrorMade "TypeError"
             (toString "can't apply this "++toString (Str.ofString "__setattr__").toString++toString " to " ++
               toString tn ++
              toString " object")
          __do_jp __r
         else __do_jp ()
        else pure (ForInStep.yield (none,()))
    | x=>pure (ForInStep.yield (none,()))) Q E s:=by
 intro l;have o1:classOwn (.type "ValueError") (Str.ofString "__setattr__")=pure none:=by with_unfolding_all rfl
 have o2:classOwn (.type "Exception") (Str.ofString "__setattr__")=pure none:=by with_unfolding_all rfl
 have o3:classOwn (.type "BaseException") (Str.ofString "__setattr__")=pure none:=by with_unfolding_all rfl
 have o4:=F.own_object_setattr;induction l with
 | nil=>intro h;exact absurd h (by decide)
 | cons c l ih=>
  intro h q;rw[List.forIn_cons];cases c with
  | ref a=>exact zwb (zwp (ih h q))
  | type n=>
   have e:Value.type n::l=za4:=by
    have:(Value.type n::l==za4)=true:=h
    exact eq_of_beq this
   unfold za4 at e;injection e with e1 e2
   injection e1 with e1
   subst e1 e2;have n1:∀n:String,n∈["ValueError","Exception","BaseException","object"]->(n=="_thread._local")=false/\(n=="_pickle.Pickler"||n=="_pickle.Unpickler")=false:=by decide +kernel
   simp only[List.forIn_cons,n1 "ValueError" (by decide),n1 "Exception" (by decide),n1 "BaseException" (by decide),n1 "object" (by decide),o1,o2,o3,o4,Bool.false_eq_true,if_false]
   refine zwb (zwb (zwp ?_));refine zwp ?_;refine zwb (zwb (zwp ?_));refine zwp ?_;refine zwb (zwb (zwp ?_));refine zwp ?_;refine zwb (zwb (zwp ?_));rw[if_pos (show(some (Value.builtin "object.__setattr__")).isSome=true from rfl),if_neg (show ¬(!isObjects "object" (Str.ofString "__setattr__").toString)=true by unfold isObjects;simp)]
   exact zwp (zwp q)
  | _=>exact absurd h (by simp [wL,za4])
theorem zic{α : Type}{M:Model}{A:Around}{t t':Sem α}{Q : α->Shared->Prop}{E:VSP}{s:Shared}(e:t=t')(h:wpAny M A t' Q E s):wpAny M A t Q E s:=e ▸ h
structure qt(K:Frag)(C:Addr):Prop where
 t:zkd K C=true
 sa:findIn K (.ref C) "__setattr__"=some (some (.builtin "object.__setattr__"))
 ob:mroIn K C (.type "object")=some true
theorem qt.cd(m:qt K C):∃cd,clsIn K C=some cd/\cd.hasDict=true/\wL cd.mro=true:=by
 have:=m.t
 unfold zkd at this;cases e:clsIn K C with
 | none=>rw[e] at this;cases this
 | some cd=>
  rw[e] at this;have h2:(cd.hasDict&&wL cd.mro)=true:=this;exact⟨cd,rfl,(Bool.and_eq_true _ _ ▸ h2).1,(Bool.and_eq_true _ _ ▸ h2).2⟩
theorem zgS{oe:Obj}{vs:Array Value}{name:Str}{v:Value}{Q:Unit->Shared->Prop}(X:K.In s.heap)(m:qt K C)(ha:findIn K (.ref C) name=some none)(he:s.heap.get? x=some oe)(hc:oe.cls=.ref C)(hd:oe.data=.fields vs)(hn:oe.dict=none)
  (h:∀h':Heap,(∀b o,b≠x->s.heap.get? b=some o->h'.get? b=some o)->h'.get? x=some { oe with dict:=some s.heap.objs.size }->h'.Ns1 s.heap.objs.size (fun y=>if y=name then some v else none)->Q () { s with heap:=h',toks:=s.toks+2 }) :
  wpAny (model prog w) A (setAttr (.ref x) name v) Q E s:=by
 obtain⟨cd,hcd,hdict,hmro⟩:=m.cd;have IA:InstAt s.heap x oe C none:=⟨he,hc,by unfold notCls;rw[hd],by rw[hn];trivial⟩
 refine set_plain X IA m.sa ?_;have LO:=looks_mroIn (M:=model prog w) X m.ob;have LF:=looks_findIn (M:=model prog w) X ha;have LCd:=looks_clsIn (M:=model prog w) X hcd;have LTy:Looks (model prog w) s.heap (typeOf (.ref x)) (.ref C):=hc ▸ (Looks.ld he).andThen .now;obtain⟨hh,g,d,t,os⟩:=s;dsimp only at *;refine codeAny_call_builtin F.slot_object_setattr.plain F.entry_object_setattr ?_;have k1:=F.bk_object_setattr;have k2:=F.sp_object_setattr;simp only[checkBuiltinCall,k1,k2];refine zwb ?_;unfold isInstance;refine zwb (LTy.at ?_);refine LO.at ?_;rw[if_neg (by decide)]
 have k3:=F.args_object_setattr_3 (.ref x) (.str name t) v;refine zic k3 (zwp ?_);unfold Builtin.«object.__setattr__»;rw[if_neg (show ¬(!(⟨[Value.ref x,Value.str name t,v],[]⟩:Args).kw.isEmpty)=true from zft)];dsimp only;unfold refuseIfOverridden;refine zwb (zwb (LTy.at (zwb ?_)));unfold mroOf;refine zwb (LCd.at (zwp (zwb (zdV _ hmro ?_))));dsimp only;refine zwp (zwb ?_);unfold attrName;refine zwp (zwb (LTy.at (zwb (LF.at (zwb ?_)))));unfold storeTaker?;refine zwp ?_;dsimp only;unfold storeInOwnDict ownStreamTells;refine zwb (zwp ?_);rw[if_neg (show ¬(Value.ref C==Value.type "module")=true from fun z=>by cases z)]
 unfold ownDictForStores instanceDict;refine zwb (zwb (wpAny_loadPart he ?_));rw[hc];dsimp only;refine zwb (LCd.at ?_);rw[hdict,hn,hd];dsimp only;rw[if_neg (by decide),if_neg (show ¬(!true||!typeHasDict (Value.ref C))=true from zft)]
 refine zwb (wpAny_alloc (zwb (wpAny_update (zgp _ he) ?_)));unfold dictMade;refine zwp ?_;dsimp only;unfold storeInDict newKeyGuard;refine zwb (zwp (zwb ?_));have xlt:x≠hh.objs.size:=ne_of_lt (Heap.lt_size he);have u1:((hh.push { cls:=.type "dict",data:=.dict #[] }).update x fun o=>{ cls:=o.cls,dict:=some hh.objs.size,data:=o.data,slots:=o.slots }).get? hh.objs.size=some { cls:=.type "dict",data:=.dict #[] }:=by
  rw[Heap.get?_update_ne _ _ _ _ (Ne.symm xlt)];exact zgs hh rfl
 have n1:((hh.push { cls:=.type "dict",data:=.dict #[] }).update x fun o=>{ cls:=o.cls,dict:=some hh.objs.size,data:=o.data,slots:=o.slots }).Ns1 hh.objs.size (fun _=>none):=Heap.Ns1.of_empty ⟨_,#[],_,u1,rfl,(fun e he=>absurd he (by simp)),fun _=>rfl⟩
 refine wpAny_nsSet1 n1 fun h' hn2 hs2=>?_;have wi:PySem.Within (fun y=>if y=name then some v else none) [name]:=fun y hy=>by
  by_cases e:y=name
  ·rw[e];exact List.mem_singleton.mpr rfl
  ·exact absurd (if_neg e) hy
 obtain⟨oD,esD,epD,hoD,hdD,hcD⟩:=hn2.count wi;refine zwb (wpAny_lookBehind hoD (by rw[hdD];exact pastItsLine_dict (le_trans hcD (by show 1<=sizeLine+1;decide))) ?_)
 refine zwp ?_;have ux:((hh.push { cls:=.type "dict",data:=.dict #[] }).update x fun o=>{ cls:=o.cls,dict:=some hh.objs.size,data:=o.data,slots:=o.slots }).get? x=some { oe with dict:=some hh.objs.size }:=
  Heap.get?_update_self _ (zgp _ he) (by unfold Obj.isFreed;rw[hd])
 refine h h' (fun b o hb e=>?_) ?_ hn2
 ·have hb2:b≠hh.objs.size:=ne_of_lt (Heap.lt_size e)
  rw[hs2.2 b hb2,Heap.get?_update_ne _ _ _ _ hb];exact zgp _ e
 ·rw[hs2.2 x xlt]
  exact ux
end
end L2
namespace L2
open PySem PySem.W PySem.Builtin PySem.Builtin.ObjectAttr PySem.Builtin.Getset_descriptor PySem.Spec PyProof.Rows
section
variable {prog:Program}{w:World}{A:Around}{E:VSP}{s:Shared}{K:Frag}{C D x dx:Addr}{us:List Value}
theorem zhW{oe:Obj}{vs:Array Value}{name:Str}{v:Value}{mA:Str->Option Value}{b:Bool}{Q:VSP}(c:xj K D)(m:qt K D)(X:K.In s.heap)(ha:findIn K (.ref D) name=some none)(he:s.heap.get? x=some oe)(hc:oe.cls=.ref D)(hd:oe.data=.fields vs)(hx:oe.dict=some dx)
  (hn:s.heap.Ns1 dx mA) (hv:mA name=some v) (hv':handedIn v=true) (h:Q v { s with toks:=s.toks+1 }):wpAny (model prog w) A (getAttr (.ref x) name b) Q E s:=by
 obtain⟨cd,hcd,hdict,hmro⟩:=m.cd;obtain⟨hh,g,dr,t,os⟩:=s;have LT:Looks (model prog w) hh (typeOf (.ref x)) (.ref D):=hc ▸ (Looks.ld he).andThen .now;have LG:=looks_findIn (M:=model prog w) X c.ga;have LN:=looks_findIn (M:=model prog w) X c.no;have LC:=looks_findIn (M:=model prog w) X ha;have LB:=looks_mroIn (M:=model prog w) X c.be;have LCd:=looks_clsIn (M:=model prog w) X hcd;unfold getAttr;refine zwb (wpAny_mkText ?_);unfold getAttrBy;dsimp only;refine wpAny_holding (zwb (LT.at (zwb (LG.at ?_))));have hne:(onTheHeap (Value.ref D)&&Value.builtin "BaseException.__getattribute__"==Value.builtin "object.__getattribute__")=false:=by
  rw[show(Value.builtin "BaseException.__getattribute__"==Value.builtin "object.__getattribute__")=false from by decide +kernel,Bool.and_false]
 dsimp only;rw[hne];rw[if_neg zft];unfold getAttrByItsOwn hookBefore;rw[if_pos (show onTheHeap (Value.ref D)=true from rfl)];refine zwb (LN.at (zwb (wpAny_attempt (wpAny_holding ?_))));unfold callGetattribute boundAndCalled;rw[if_neg (show ¬(b&&onTheHeap (Value.builtin "BaseException.__getattribute__"))=true from by rw[show onTheHeap (Value.builtin "BaseException.__getattribute__")=false from rfl,Bool.and_false];exact zft)]
 have fb:=PySem.F.attrBase_ValueError.ga;rw[fb.bind (.ref x)];refine zwb (zwp ?_);refine wpAny_call (codeAny_call_builtin fb.plain F.entry_bexc_ga ?_);have k1:builtinKind "BaseException.__getattribute__"=some .slot:=by decide +kernel
 have k2:splitId "BaseException.__getattribute__"=some ("BaseException","__getattribute__"):=by decide +kernel
 have k3:=F.args_bexc_ga (.ref x) (.str name t);simp only[checkBuiltinCall,k1,k2,cons_append,nil_append];refine zwb ?_;unfold isInstance;refine zwb (LT.at (LB.at ?_));rw[if_neg (by decide)]
 refine zic k3 (zwp ?_);unfold Builtin.«object.__getattribute__»;obtain⟨od,hod,hlk⟩:=qU hn;have IA:InstAt hh x oe D (some od):=⟨he,hc,by unfold notCls;rw[hd],by rw[hx];exact hod⟩
 have hD:hasDictIn K D=true:=by unfold hasDictIn;rw[hcd];exact hdict
 have LFi:=looks_find (M:=model prog w) X IA (findObj_own hD ha rfl (by rw[hlk,hv]))
 rw[show slotArgs "__getattribute__" 1 { pos:=[Value.ref x,Value.str name t] }=pure (.ref x,[.str name t]) from rfl];refine zwb (zwp (zwb ?_));unfold attrName;refine zwp (zwb (LT.at (zwb (LFi.at ?_))));refine zwp ?_;show wpAny _ _ (handedOut v) _ _ _;rw[handedOut_of hv'];exact zwp h
end
end L2
namespace L2
open PySem PySem.Spec PyProof.Rows
abbrev vY(ea C:Addr)(od:Option Addr)(t:Addr):HO:=.ext fun h=>h.get? ea=some { cls:=.ref C,dict:=od,data:=.fields #[.ref t,.none,.none,.none,.bool false,.none] }
theorem zdq{P:Program}{w:World}{H:Hp}{h:Heap}{ea C t:Addr}{od:Option Addr}(e:h.get? ea=some { cls:=.ref C,dict:=od,data:=.fields #[.ref t,.none,.none,.none,.bool false,.none] }):yq P w H h ea (vY ea C od t):=
 ⟨e,⟨_,e⟩,fun g1 g2 q k=>k _ q⟩
section
variable {X:Cx}{pins:PnL}{σ:St}{H:Hp}{s:Shared}{x C t:Addr}{f:Str}{y:V}{u:Value}{A:Around}{E:VSP}
theorem ju{od:Option Addr}(I:Inv X pins σ H s)(e:H x=some (vY x C od t)):s.heap.get? x=some { cls:=.ref C,dict:=od,data:=.fields #[.ref t,.none,.none,.none,.bool false,.none] }:=(I.hok x _ e).1
theorem zgT{Q:Unit->Shared->Prop}(I:Inv X pins σ H s)(e:H x=some (vY x C none t))(m:qt X.K C)(n:z5 X.K C f)(ry:zT y u)
  (h:∀dx s',H dx=none->Inv X pins σ (upd (upd H x (vY x C (some dx) t)) dx (.xd [(f,y)])) s'->Q () s'):wpAny (model X.prog X.w) A (setAttr (.ref x) f u) Q E s:=by
 have hx:=ju I e;have hsz:H s.heap.objs.size=none:=I.hok.fresh (le_refl _);refine zgS I.kIn m n hx rfl rfl rfl fun h' k e1 ns=>h s.heap.objs.size _ hsz ?_;have I1:Inv X pins σ (upd H x (vY x C (some s.heap.objs.size) t)) { s with heap:=h',toks:=s.toks+2 }:=
  I.write (by rw[e];exact True.intro) (.inl rfl) k ⟨_,e1⟩ (zdq e1)
 have nx:s.heap.objs.size≠x:=Ne.symm (ne_of_lt (Heap.lt_size hx));refine I1.track (by rw[zf nx];exact hsz) ⟨_,ns,fun g=>?_⟩ (fun v e2 _ _=>?_) (fun z=>?_) (fun z c e2 z2=>?_) fun p hp z=>?_
 ·show ua (List.lookup g [(f,y)]) (if g=f then some u else none)
  by_cases q:g=f
  ·subst q;rw[lookup_cons_self,if_pos rfl];exact ry
  ·rw[lookup_cons,beq_eq_false_iff_ne.mpr q,if_neg q];trivial
 ·exact absurd (Heap.lt_size e2) (Nat.not_lt.mpr I.sz)
 ·have:=I.lt
  rw[z] at this;exact absurd this (lt_irrefl _)
 ·obtain⟨v,oc,hoc,_⟩:=I.cell z c e2
  rw[z2] at hoc;exact absurd (Heap.lt_size hoc) (lt_irrefl _)
 ·have:=(I.pin p hp).1
  rw[z] at this;exact absurd (Heap.lt_size this) (lt_irrefl _)
inductive zkJJ(K:Frag)(f:Str)(D:L2.wF)(σ:St)(y:V)(x:V)(H2:Hp):Prop|mk(a C t:Addr):x=.ref a->H2 a=some (vY a C none t)->qt K C->z5 K C f->(∀dx,H2 dx=none->D.nx σ (upd (upd H2 a (vY a C (some dx) t)) dx (.xd [(f,y)])))->zkJJ K f D σ y x H2
def zkJ(K:Frag)(ta tv:TE)(f:Str):TS:=fun D σ H=>tv σ H fun y H1=>ta σ H1 fun x H2=>zkJJ K f D σ y x H2
variable {o e value:Expr}{pos pos' tpos:Pos}{ta tv:TE}
theorem zhe(ha:PE X o ta)(hv:PE X value tv)(hs:swapsWith value (some (.Attribute o f pos')) pos.line X.env=pure false):PS X (.Assign [.Attribute o f pos'] value pos) (zkJ X.K ta tv f):=by
 exists ?_;intro pins s σ H D I h;refine plainObj_wpAny_Assign_Attribute (thn (hv pins s σ H _ I h) fun u s1 ⟨y,H1,I1,ry,q⟩=>thn (ha pins s1 σ H1 _ I1 q) fun ov s2 ⟨x,H2,I2,rx,a,C,t,ex,ea,c,n,q2⟩=>?_) hs;subst ex;obtain rfl:ov=Value.ref a:=rx;exact zgT I2 ea c n ry fun dx s3 hdx I3=>⟨σ,_,I3,q2 dx hdx⟩
def zeA(C:Addr)(sp:Sp)(E:XK)(t:TA):TE:=fun σ H Q=>t σ H fun vs H1=>vs.length<=sizeLine/\∀x tu,H1 x=none->H1 tu=none->tu≠x->sp (.ref x::vs) (upd H1 x (vY x C none tu)) (fun v H2=>v=.non/\Q (.ref x) H2) E
end
section
variable {X:Cx}{CX:CXT}{k:Nat}{f C:Addr}{fd:FuncData}{ps:List Str}{sp:Sp}{E:XK}{x:Str}{p pos:Pos}{e:Expr}{es:List Expr}{t:TA}
theorem Inv.madeX{pins:PnL}{σ : St}{H:Hp}{s:Shared}{us:List Value}(I:Inv X pins σ H s):Inv X pins σ (upd H (s.heap.objs.size+1) (vY (s.heap.objs.size+1) C none s.heap.objs.size)) { s with heap:=(s.heap.push (xS us)).push (wE C s.heap.objs.size) }:=by
 refine I.laid (fun b u e=>zgp _ (zgp _ e)) (le_succ _) (zdq ?_)
 have:=zgs (s.heap.push (xS us)) (o:=wE C s.heap.objs.size) rfl
 rwa [Heap.size_push] at this
theorem zdO{pins:PnL}{σ : St}{H:Hp}{s:Shared}{Q:VK}{us:List Value}{vs:List V}(M:zdB X.K C f)(F:zx X.prog X.w X.K X.mg X.base CX k f fd ps sp)(hr:yf (k+1) X.A)(hb:zN X.K fd ps [])
  (hx:xy CX X E) (I:Inv X pins σ H s) (r:zX vs us) (hl:vs.length<=sizeLine)
  (h:∀x tu,H x=none->H tu=none->tu≠x->sp (.ref x::vs) (upd H x (vY x C none tu)) (fun v H2=>v=.non/\Q (.ref x) H2) E) :
  wpAny (model X.prog X.w) X.A (call (.ref C) us) (EP X pins σ Q) X.xe s:=by
 have hq:=h (s.heap.objs.size+1) s.heap.objs.size (I.hok.fresh (le_succ _)) (I.hok.fresh (le_refl _)) (ne_of_lt (lt_succ_self _));have I2:=Inv.madeX (C:=C) (us:=us) I;have r2:zX (V.ref (s.heap.objs.size+1)::vs) (Value.ref (s.heap.objs.size+1)::us):=.cons rfl r;have hl2:(Value.ref (s.heap.objs.size+1)::us++[]).length=ps.length:=by
  have e:=r2.length;rw[F.len _ _ _ _ hq] at e;rw[append_nil];exact e.symm
 have hb2:=hb _ (Value.ref (s.heap.objs.size+1)::us) I2.kIn hl2;rw[append_nil] at hb2;refine wpAny_call (zgv I.kIn M (by rw[<- r.length];exact hl) (codeAny_mono (F.run _ X.stack _ _ ⟨Value.ref (s.heap.objs.size+1)::us,[]⟩ (Value.ref (s.heap.objs.size+1)::us) _ _ E (hr.make C us [])
  (I2.env0.make C us []) hb2 r2 hq) fun r s' hq'=>?_))
 cases r with
 | error e=>exact hx pins σ _ _ e s' I2 hq'
 | ok fl=>
  cases fl with
  | ret u=>
   obtain⟨v,H',I3,rv,ev,q3⟩:=I2.after hq';subst ev;exact⟨rv,⟨V.ref (s.heap.objs.size+1),H',I3,rfl,q3⟩⟩
  | next=>exact False.elim hq'
  | brk=>exact False.elim hq'
  | cont=>exact False.elim hq'
theorem wN(M:zdB X.K C f)(F:zx X.prog X.w X.K X.mg X.base CX k f fd ps sp)(hr:yf (k+1) X.A)(hg:Gl X x)(hm:X.mg x=some (.ref C))(hb:zN X.K fd ps [])(hx:xy CX X E)
  (ha:PA X (e::es) t) (hdb:(x==("__debug__" : Str))=false:=by decide) (he:starEach (e::es) X.env=(false,eval e X.env)::starEach es X.env:=by rfl) (hpl:(backTo pos (starEach es X.env)).any (·.1)=false:=by rfl) :
  PE X (.Call (.Name x p) (e::es) [] pos) (zeA C sp E t):=by
 exists ?_;intro pins s σ H Q I h;refine wpAny_Call_Name_kw (xX I hg hm ?_ hdb);refine callWith_K (h₀:=X.base) I.ok.mod.kin M.kp (thn (ha pos pins s σ H _ I h) fun us s1 ⟨vs,H1,I1,r,hl,q⟩=>⟨I1.kIn,?_⟩) he hpl;exact zdO M F hr hb hx I1 r hl q
def drop(H:Hp)(a:Addr):Hp:=fun b=>if b=a then none else H b
theorem zec{H:Hp}{a:Addr}:drop H a a=none:=by unfold drop;rw[if_pos rfl]
theorem wx{H:Hp}{a b:Addr}(h:b≠a):drop H a b=H b:=by unfold drop;rw[if_neg h]
theorem vT{H:Hp}{a b:Addr}{u:HO}(h:drop H a b=some u):b≠a/\H b=some u:=by
 unfold drop at h;split at h
 ·cases h
 ·exact⟨‹_›,h⟩
theorem HOk.drop{P:Program}{w:World}{H:Hp}{h:Heap}{a:Addr}{φ : Heap->Prop}(x:HOk P w H h)(ha:H a=some (.ext φ)):HOk P w (drop H a) h:=fun b u e=>by
 obtain⟨hb,e⟩:=vT e;exact(x b u e).stay (fun _ _ _ q=>q) (fun c q=>by rw[wx (fun z=>by rw[z,ha] at q;cases q)];exact q) fun c xs q=>by rw[wx (fun z=>by rw[z,ha] at q;cases q)];exact q
end
section
variable {X:Cx}{pins:PnL}{σ:St}{H:Hp}{s:Shared}{ea C t:Addr}{od:Option Addr}{M:Model}{E:VSP}
end
section
variable {X:Cx}{E:XK}{pos:Pos}{e:Expr}{te:TE}
variable {P:Program}{w:World}{K:Frag}{mg:Str->Option Value}{base:Heap}{N:List Str}{qual:Str}{scope:Scope}{f:Addr}{cd:Value}{A:Around}{outer:List Env}{s:Shared}{H:Hp}{E':XK}
variable {x:Str}{C:Addr}{B Bn newId nid initId inN:String}{bm bmN:List Value}{np:Pos}{es:List Expr}{t:TA}
end
section
variable {X:Cx}{pins:PnL}{σ:St}{H:Hp}{s:Shared}{M:Model}{A:Around}{E:VSP}{i:Nat}{n:Str}{pos:Pos}
variable {ea:Addr}
variable {st b₀:Stmt}{suite:List Stmt}{c:Str}{np hpos:Pos}{C:Addr}{tb:XK->TS}{ts:TS}{ok:Value->Prop}
end
section
variable {X:Cx}{pins:PnL}{σ:St}{e:Expr}{es:List Expr}{t:TA}{E:XK}{x:Str}{p pos:Pos}{k:Nat}{f C:Addr}{fd:FuncData}{ps:List Str}{sp:Sp}{dvs:List V}{ds:List Value}
abbrev zcF(C:Addr)(od:Option Addr)(t:Addr)(tb:Value):Obj:={ cls:=.ref C,dict:=od,data:=.fields #[.ref t,tb,.none,.none,.bool false,.none] }
def TrS(h base:Heap)(e C:Addr)(od:Option Addr)(t:Addr):Prop:=∃(tb:Addr) (oT:Obj) (ts:Array Value),h.get? e=some (zcF C od t (.ref tb))/\base.get? tb=none/\tb≠e/\h.get? tb=some oT/\oT.data=.fields ts/\ts[3]?=some .none
end
section
variable {M:Model}{A:Around}{E:VSP}{s:Shared}{base:Heap}{env:Env}{outer:List Env}{L e C t:Addr}{od:Option Addr}{tb0 head:Value}{hn:Bool}{Q:Unit->Shared->Prop}
theorem zgx(fr:A.frames=some (env::outer))(fl:s.heap.FunFrames base (env::outer))(hfl:env.frame=some L)(he:s.heap.get? e=some (zcF C od t tb0))(hst:base.StaysIn s.heap)(hb:base.get? e=none)
  (q:∀h':Heap,base.StaysIn h'->h'.FunFrames base (env::outer)->TrS h' base e C od t->s.heap.UpToSlots h'->Q () { s with heap:=h' }) :
  wpAny M A (do
   let a <- frameOf env
   let pl <- entryPlaceOf L hn
   let b <- EntryCells.newEntry head a Value.none (rawInt L) Value.none pl
   setField (Value.ref e) 1 b) (fun _ s'=>wpAny M A (setFlight (Value.ref e) none) Q E s') E s:=by
 refine zwb (wpAny_frameOf_fun fr fl hfl fun h1 so=>?_);obtain⟨sz,oth,sl⟩:=so;refine zwb (wpAny_entryPlaceOf fun pl hpl=>?_);unfold EntryCells.newEntry newFields;have eS:e∉List.filterMap (fun x:Env=>x.frame) (env::outer):=fun z=>by
  obtain⟨_,o,ho,hd⟩:=fl.mem z;rw[he] at ho;cases ho;exact hd _ rfl
 have e1:h1.get? e=some (zcF C od t tb0):=(oth e eS).trans he;have lp:(if pl.isEmpty=true then List.replicate 6 Value.none else pl).length=6:=by
  rcases hpl with rfl|⟨a,b,c,d,c9,b10,_,rfl⟩ <;> rfl
 have sz11:([head,Value.ref L,Value.none,rawInt L,Value.none]++if pl.isEmpty=true then List.replicate 6 Value.none else pl).length=11:=by
  rw[length_append,lp];rfl
 have hL:A.frames=some (env::outer):=fr;generalize hcells:([head,Value.ref L,Value.none,rawInt L,Value.none]++if pl.isEmpty=true then List.replicate 6 Value.none else pl)=cells at sz11 |-
 have c3:cells[3]?=some (rawInt L):=by rw[<- hcells];rfl
 refine zwb (wpAny_newObj_type ?_ (by show sizeOk (Data.fields cells.toArray);unfold sizeOk;simp only[size_toArray,sz11];decide))
 dsimp only;have hlt:e<h1.objs.size:=Heap.lt_size e1;have ne:h1.objs.size≠e:=Nat.ne_of_gt hlt;refine wpAny_setField (zgp _ e1) rfl (by show 1<6;decide) ?_
 have x2:((h1.push { cls:=.type "traceback",data:=.fields cells.toArray }).update e (Obj.mapFields fun x=>x.setIfInBounds 1 (.ref h1.objs.size))).get? e=some (zcF C od t (.ref h1.objs.size)):=
  Heap.get?_update_self _ (zgp _ e1) rfl
 have x3:((h1.push { cls:=.type "traceback",data:=.fields cells.toArray }).update e (Obj.mapFields fun x=>x.setIfInBounds 1 (.ref h1.objs.size))).get? h1.objs.size=some { cls:=.type "traceback",data:=.fields cells.toArray }:=by
  rw[Heap.get?_update_ne _ _ _ _ ne];exact zgs h1 rfl
 have x4:∀b o,b≠e->h1.get? b=some o->((h1.push { cls:=.type "traceback",data:=.fields cells.toArray }).update e (Obj.mapFields fun x=>x.setIfInBounds 1 (.ref h1.objs.size))).get? b=some o:=fun b o hbe hbo=>by
  rw[Heap.get?_update_ne _ _ _ _ hbe];exact zgp _ hbo
 generalize (h1.push { cls:=.type "traceback",data:=.fields cells.toArray }).update e (Obj.mapFields fun x=>x.setIfInBounds 1 (.ref h1.objs.size))=h2 at x2 x3 x4 |-;unfold setFlight;refine zwb (wpAny_field (x:=.ref h1.objs.size) x2 rfl rfl ?_);rw[if_pos (show(Value.ref h1.objs.size != Value.none)=true from rfl)];refine wpAny_setField x3 rfl (by rw[size_toArray,sz11];decide) ?_
 show Q () { s with heap:=h2.update h1.objs.size (Obj.mapFields fun x=>x.setIfInBounds 3 Value.none) }
 have y1:∀b,b≠h1.objs.size->(h2.update h1.objs.size (Obj.mapFields fun x=>x.setIfInBounds 3 Value.none)).get? b=h2.get? b:=fun b hb'=>Heap.get?_update_ne _ _ _ _ hb';have y2:(h2.update h1.objs.size (Obj.mapFields fun x=>x.setIfInBounds 3 Value.none)).get? h1.objs.size=some { cls:=.type "traceback",data:=.fields (cells.toArray.setIfInBounds 3 .none) }:=Heap.get?_update_self _ x3 rfl;have kp:∀b o,s.heap.get? b=some o->(∀vs,o.data≠.fields vs)->∃sl,(h2.update h1.objs.size (Obj.mapFields fun x=>x.setIfInBounds 3 Value.none)).get? b=some { o with slots:=sl }:=fun b o hbo hd=>by
  obtain⟨sl',hs'⟩:=sl b o hbo;have n1:b≠h1.objs.size:=ne_of_lt (Heap.lt_size hs');have n2:b≠e:=fun z=>by rw[z,he] at hbo;cases hbo;exact hd _ rfl
  exact⟨sl',by rw[y1 b n1];exact x4 b _ n2 hs'⟩
 refine q _ (fun b o hbo=>?_) (fl.of_keeps fun b o hbo hd=>?_) ?_ kp
 ·have n0:b∉List.filterMap (fun x:Env=>x.frame) (env::outer):=fun z=>by
   rw[(fl.mem z).1] at hbo;cases hbo
  have hs':=(oth b n0).trans (hst b o hbo);have n1:b≠h1.objs.size:=ne_of_lt (Heap.lt_size hs');have n2:b≠e:=fun z=>by rw[z,hb] at hbo;cases hbo
  rw[y1 b n1];exact x4 b o n2 hs'
 ·obtain⟨sl',hs'⟩:=kp b o hbo hd
  exact⟨_,hs',rfl⟩
 ·exists h1.objs.size,_,_,(by rw[y1 e (Ne.symm ne)];exact x2),?_,ne,y2,rfl,?_
  ·cases z:base.get? h1.objs.size with
   | none=>rfl
   | some o=>
    have:=Heap.lt_size (hst _ o z)
    rw[<- sz] at this;exact absurd this (lt_irrefl _)
  ·rw[Array.getElem?_setIfInBounds_self_of_lt (by rw[size_toArray,sz11];decide)]
theorem zfZ(fr:A.frames=some (env::outer))(fl:s.heap.FunFrames base (env::outer))(hfl:env.frame=some L)(hst:base.StaysIn s.heap)(hb:base.get? e=none)
  (he:s.heap.get? e=some (zcF C od t .none)\/TrS s.heap base e C od t)
  (q:∀h':Heap,base.StaysIn h'->h'.FunFrames base (env::outer)->TrS h' base e C od t->s.heap.UpToSlots h'->Q () { s with heap:=h' }) :
  wpAny M A (noteFrame (.ref e) env) (fun _ s'=>wpAny M A (setFlight (.ref e) none) Q E s') E s:=by
 unfold noteFrame;rw[hfl];dsimp only;rcases he with he|⟨tb,oT,ts,h1,h2,h3,h4,h5,h6⟩
 ·refine zwb (wpAny_field (x:=Value.none) he rfl rfl ?_)
  rw[if_neg (show ¬(Value.none != Value.none)=true by decide)]
  exact zgx fr fl hfl he hst hb q
 ·refine zwb (wpAny_field (x:=.ref tb) h1 rfl rfl ?_)
  rw[if_pos (show(Value.ref tb != Value.none)=true from rfl)];refine zwb (wpAny_field (x:=Value.none) h4 h5 h6 ?_);rw[if_neg (show ¬(Value.none==rawInt (L:Nat))=true from fun z=>by cases z)]
  have l3 : 3<ts.size:=by
   have:=(Array.getElem?_eq_some_iff.mp h6).1
   exact this
  refine zwb (wpAny_setField h4 h5 l3 ?_);have z1:∀b,b≠tb->(s.heap.update tb (Obj.mapFields fun x=>x.setIfInBounds 3 Value.none)).get? b=s.heap.get? b:=fun b hb'=>Heap.get?_update_ne _ _ _ _ hb';have up:s.heap.UpToSlots (s.heap.update tb (Obj.mapFields fun x=>x.setIfInBounds 3 Value.none)):=fun b o hbo hd=>by
   have n:b≠tb:=fun z=>by rw[z,h4] at hbo;cases hbo;exact hd _ h5
   exact⟨o.slots,by rw[z1 b n];exact hbo⟩
  refine zgx (s:={ s with heap:=s.heap.update tb (Obj.mapFields fun x=>x.setIfInBounds 3 Value.none) }) fr (fl.of_keeps fun b o hbo hd=>?_) hfl (tb0:=.ref tb) (by rw[z1 e (Ne.symm h3)];exact h1) (fun b o hbo=>?_) hb fun h' a1 a2 a3 a4=>q h' a1 a2 a3 (up.trans a4)
  ·obtain⟨sl,hs⟩:=up b o hbo hd
   exact⟨_,hs,rfl⟩
  ·have n:b≠tb:=fun z=>by rw[z,h2] at hbo;cases hbo
   show(s.heap.update tb (Obj.mapFields fun x=>x.setIfInBounds 3 Value.none)).get? b=some o;rw[z1 b n];exact hst b o hbo
def FlS(B:Heap)(l:List Env)(e C:Addr)(od:Option Addr)(t:Addr)(h:Heap):Prop:=B.StaysIn h/\B.get? e=none/\h.FunFrames B l/\TrS h B e C od t
structure qy(P:Program)(w:World)(outer:List Env)(H:Hp)(s:Shared)(C:Addr)(od:Option Addr)(t:Addr)(H':Hp)(ea:Addr)(s':Shared):Prop where
 os:s'.os=s.os
 bare:AllBare s'.gens
 un:Un (frs outer) [] H H' s.heap s'.heap
 hok:HOk P w H' s'.heap
 nt:H' ea=none
 fly:∃B,FlS B outer ea C od t s'.heap/\(∀b u,H' b=some u->∃o,B.get? b=some o)/\(∀b o,s.heap.get? b=some o->H b=none->b∉frs outer->B.get? b=some o)/\
  ∀b o,s.heap.get? b=some o->b∉frs outer->∃o',B.get? b=some o'
abbrev CXs(P:Program)(w:World):CXT:=fun outer H s E e s'=>∃ea C od t H',e=.ref ea/\qy P w outer H s C od t H' ea s'/\E (.ref C) od H'
variable {X:Cx}{pins:PnL}{σ:St}{H H':Hp}{s':Shared}{ea:Addr}
theorem zd9(I:Inv X pins σ H s)(hstk:X.stack=X.env::X.outer)(hfl:X.env.frame=some X.env.locals)(hex:X.ex=[])(hx:H ea=some (vY ea C od t))(hnew:X.H₀ ea=none):
  wpAny M X.A (leaving X.env (.ref ea)) (fun _ s''=>qy X.prog X.w X.outer X.H₀ X.s₀ C od t (drop H ea) ea s'') E s:=by
 have fr:=zab hstk hfl;have he:=ju I hx;have fl:s.heap.FunFrames (hideAll s.heap (ea::frs X.stack)) (X.env::X.outer):=by
  have:=I.stack
  rw[hstk] at this;refine PySem.W.funFrames_hide this fun env he b hb=>?_;rw[hstk];exact mem_cons_of_mem _ (List.mem_filterMap.mpr ⟨env,he,hb⟩)
 have fr0:=I.ok.frames;rw[hstk] at fr0;have neL:∀b o,X.s₀.heap.get? b=some o->b≠X.env.locals:=fun b o e=>ne_of_lt (lt_of_lt_of_le (Heap.lt_size e) I.ok.above);have noEx:∀b:Addr,b∉X.ex:=fun b=>by rw[hex];simp
 have inB:∀b o,s.heap.get? b=some o->b≠ea->b∉frs X.stack->(hideAll s.heap (ea::frs X.stack)).get? b=some o:=fun b o e n1 n=>PySem.W.hideAll_get _ e (fun z=>(List.mem_cons.mp z).elim n1 n);have trB:∀b u,H b=some u->b∉frs X.stack:=fun b u e n=>by rw[I.stkFree b n] at e;cases e
 have eaS:∀u,X.s₀.heap.get? ea=some u->False:=fun u e=>by
  have:=I.base.free ea u e hnew (noEx ea)
  rw[hx] at this;cases this
 unfold leaving;refine zwb (zfZ fr0 fl hfl (fun b o q=>PySem.W.of_hideAll _ q) (hideAll_none _ mem_cons_self) (.inl he) fun h2 x1 x2 x3 x4=>?_);have stay:∀b o,s.heap.get? b=some o->b≠ea->b∉frs X.stack->h2.get? b=some o:=fun b o e n1 n=>x1 b o (inB b o e n1 n);have x2':h2.FunFrames (hideAll s.heap (ea::frs X.stack)) X.outer:=by
  unfold Heap.FunFrames at x2;exact x2.2.2
 have nEa:∀b o,X.s₀.heap.get? b=some o->b≠ea:=fun b o e z=>by subst z;exact eaS o e
 exists I.os,I.bare,⟨fun b o e n hb _=>?_,fun b o e n hb _=>?_,fun b o e n _=>?_,fun b o e _=>?_,fun b xs e=>?_,fun b u v e=>?_,fun b ps e=>?_⟩,?_,zec,?_
 ·refine stay b o (I.base.keep b o e n hb (noEx b)) (nEa b o e) ?_
  rw[fr];exact fun z=>(List.mem_cons.mp z).elim (neL b o e) hb
 ·obtain⟨sl,e1⟩:=I.base.slot b o e n hb (noEx b)
  obtain⟨_,o',ho',hd⟩:=I.funs.mem hb;rw[e1] at ho';cases ho';obtain⟨sl2,e2⟩:=x4 b _ e1 hd;exact⟨sl2,e2⟩
 ·rw[wx (nEa b o e)]
  exact I.base.free b o e n (noEx b)
 ·obtain⟨o1,e1⟩:=I.base.there b o e (noEx b)
  by_cases hb:b∈frs X.stack
  ·obtain⟨_,o',ho',hd⟩:=I.stack.mem hb
   obtain⟨sl2,e2⟩:=x4 b o' ho' hd;exact⟨_,e2⟩
  ·exact⟨o1,stay b o1 e1 (nEa b o e) hb⟩
 ·have e1:=I.base.tups b xs e
  rw[wx (fun z=>by rw[z,hx] at e1;cases e1)];exact e1
 ·have e1:=I.base.frzs b u v e
  rw[wx (fun z=>by rw[z,hx] at e1;cases e1)];exact e1
 ·obtain⟨more,e1⟩:=I.base.tbls b ps e
  exact⟨more,by rw[wx (fun z=>by rw[z,hx] at e1;cases e1)];exact e1⟩
 ·exact(I.hok.drop hx).sameAt fun b u o e q=>stay b o q (vT e).1 (trB b u (vT e).2)
 ·exists _,⟨x1,hideAll_none _ mem_cons_self,x2',x3⟩,fun b u e=>?_,fun b o e n hb=>?_,fun b o e hb=>?_
  ·obtain⟨n1,e⟩:=vT e
   obtain⟨o,q⟩:=I.hok.rec e;exact⟨o,inB b o q n1 (trB b u e)⟩
  ·refine inB b o (I.base.keep b o e n hb (noEx b)) (nEa b o e) ?_
   rw[fr];exact fun z=>(List.mem_cons.mp z).elim (neL b o e) hb
  ·obtain⟨o1,e1⟩:=I.base.there b o e (noEx b)
   exists o1,inB b o1 e1 (nEa b o e) ?_;rw[fr];exact fun z=>(List.mem_cons.mp z).elim (neL b o e) hb
theorem zh0(I:Inv X pins σ H s)(hstk:X.stack=X.env::X.outer)(hfl:X.env.frame=some X.env.locals)(hex:X.ex=[])(F:qy X.prog X.w X.stack H s C od t H' ea s'):
  wpAny M X.A (leaving X.env (.ref ea)) (fun _ s''=>qy X.prog X.w X.outer X.H₀ X.s₀ C od t H' ea s'') E s':=by
 have fr:=zab hstk hfl;have fr0:=I.ok.frames;rw[hstk] at fr0;obtain⟨B,fl,tr,old,olds⟩:=F.fly;have neL:∀b o,X.s₀.heap.get? b=some o->b≠X.env.locals:=fun b o e=>ne_of_lt (lt_of_lt_of_le (Heap.lt_size e) I.ok.above);have noEx:∀b:Addr,b∉X.ex:=fun b=>by rw[hex];simp
 have nst:∀b o,X.s₀.heap.get? b=some o->b∉frs X.outer->b∉frs X.stack:=fun b o e hb=>by
  rw[fr];exact fun z=>(List.mem_cons.mp z).elim (neL b o e) hb
 have fl':=fl;rw[hstk] at fl';unfold leaving;refine zwb (zfZ fr0 fl'.2.2.1 hfl fl'.1 fl'.2.1 (.inr fl'.2.2.2) fun h2 y1 y2 y3 x2=>?_);have x1:FlS B X.outer ea C od t h2:=⟨y1,fl'.2.1,(by unfold Heap.FunFrames at y2;exact y2.2.2),y3⟩
 have oldB:∀b o,X.s₀.heap.get? b=some o->X.H₀ b=none->b∉frs X.outer->B.get? b=some o:=fun b o e n hb=>
  old b o (I.base.keep b o e n hb (noEx b)) (I.base.free b o e n (noEx b)) (nst b o e hb)
 exists F.os.trans I.os,F.bare,⟨fun b o e n hb _=>x1.1 b o (oldB b o e n hb),fun b o e n hb _=>?_,fun b o e n _=>?_,fun b o e _=>?_,fun b xs e=>F.un.tups b xs (I.base.tups b xs e),fun b o u e=>F.un.frzs b o u (I.base.frzs b o u e),fun b ps e=>?_⟩,F.hok.sameAt fun b u o e q=>?_,F.nt,⟨B,x1,tr,oldB,fun b o e hb=>?_⟩
 ·obtain⟨sl,e1⟩:=I.base.slot b o e n hb (noEx b)
  obtain⟨sl1,e2⟩:=F.un.any e1 (I.base.free b o e n (noEx b)) (by simp)
  have hd:∀vs,o.data≠.fields vs:=by
   obtain⟨_,o',ho',hd⟩:=I.funs.mem hb;rw[e1] at ho';cases ho';exact hd
  obtain⟨sl2,e3⟩:=x2 b _ e2 hd;exact⟨sl2,e3⟩
 ·obtain⟨o',e1⟩:=I.base.there b o e (noEx b)
  exact F.un.free b o' e1 (I.base.free b o e n (noEx b)) (by simp)
 ·obtain⟨o1,e1⟩:=I.base.there b o e (noEx b)
  obtain⟨o2,e2⟩:=F.un.there b o1 e1 (by simp)
  by_cases hb:b∈frs X.stack
  ·obtain⟨_,o',ho',hd⟩:=fl.2.2.1.mem hb
   obtain⟨sl2,e3⟩:=x2 b o' ho' hd;exact⟨_,e3⟩
  ·obtain⟨o3,e3⟩:=olds b o1 e1 hb
   exact⟨o3,x1.1 b o3 e3⟩
 ·obtain⟨m1,e1⟩:=I.base.tbls b ps e
  obtain⟨m2,e2⟩:=F.un.tbls b _ e1;exact⟨m1++m2,by rw[e2,Array.append_assoc]⟩
 ·obtain⟨o3,e3⟩:=tr b u e
  have e4:=fl.1 b o3 e3;rw[q] at e4;cases e4;exact x1.1 b o e3
 ·obtain⟨o1,e1⟩:=I.base.there b o e (noEx b)
  exact olds b o1 e1 (nst b o e hb)
abbrev qk(ea C:Addr)(od:Option Addr)(t:Addr):HO:=.ext fun h=>∃tb,h.get? ea=some (zcF C od t tb)
theorem zh3{P:Program}{w:World}{H:Hp}{h:Heap}{ea C t:Addr}{od:Option Addr}{tb:Value}(e:h.get? ea=some (zcF C od t tb)):yq P w H h ea (qk ea C od t):=
 ⟨⟨tb,e⟩,⟨_,e⟩,fun g1 g2 ⟨tb',q⟩ k=>⟨tb',k _ q⟩⟩
variable {h5:Heap}
theorem qy.move{P:Program}{w:World}{l:List Env}{B:Heap}(F:qy P w l H s C od t H' ea s')(fl:FlS B l ea C od t s'.heap)(tr:∀b u,H' b=some u->∃o,B.get? b=some o)
  (old:∀b o,s.heap.get? b=some o->H b=none->b∉frs l->B.get? b=some o) (olds:∀b o,s.heap.get? b=some o->b∉frs l->∃o',B.get? b=some o')
  (fl5:FlS B l ea C od t h5) (up:s'.heap.UpToSlots h5):qy P w l H s C od t H' ea { s' with heap:=h5 }:=by
 exists F.os,F.bare,⟨fun b o e n hb _=>fl5.1 b o (old b o e n hb),fun b o e n hb _=>?_,F.un.free,fun b o e _=>?_,F.un.tups,F.un.frzs,F.un.tbls⟩,F.hok.sameAt fun b u o e q=>?_,F.nt,⟨B,fl5,tr,old,olds⟩
 ·obtain⟨sl,e1⟩:=F.un.slot b o e n hb (by simp)
  obtain⟨_,o',ho',hd⟩:=fl.2.2.1.mem hb;rw[e1] at ho';cases ho';obtain⟨sl2,e2⟩:=up b _ e1 hd;exact⟨sl2,e2⟩
 ·by_cases hb:b∈frs l
  ·obtain⟨_,o',ho',hd⟩:=fl5.2.2.1.mem hb
   exact⟨o',ho'⟩
  ·obtain⟨o3,e3⟩:=olds b o e hb
   exact⟨o3,fl5.1 b o3 e3⟩
 ·obtain⟨o3,e3⟩:=tr b u e
  have e4:=fl.1 b o3 e3;rw[q] at e4;cases e4;exact fl5.1 b o e3
theorem zle{B:Heap}{l:List Env}{Q:Unit->Shared->Prop}(fl:FlS B l ea C od t s.heap)(q:∀h':Heap,FlS B l ea C od t h'->s.heap.UpToSlots h'->Q () { s with heap:=h' }):wpAny M A (setFlight (.ref ea) none) Q E s:=by
 obtain⟨f1,f2,f3,tb,oT,ts,h1,h2,h3,h4,h5,h6⟩:=fl;unfold setFlight;refine zwb (wpAny_field (x:=.ref tb) h1 rfl rfl ?_);rw[if_pos (show(Value.ref tb != Value.none)=true from rfl)];have l3 : 3<ts.size:=(Array.getElem?_eq_some_iff.mp h6).1;refine wpAny_setField h4 h5 l3 ?_;show Q () { s with heap:=s.heap.update tb (Obj.mapFields fun x=>x.setIfInBounds 3 Value.none) }
 have z1:∀b,b≠tb->(s.heap.update tb (Obj.mapFields fun x=>x.setIfInBounds 3 Value.none)).get? b=s.heap.get? b:=fun b hb'=>Heap.get?_update_ne _ _ _ _ hb';have up:s.heap.UpToSlots (s.heap.update tb (Obj.mapFields fun x=>x.setIfInBounds 3 Value.none)):=fun b o hbo hd=>by
  have n:b≠tb:=fun z=>by rw[z,h4] at hbo;cases hbo;exact hd _ h5
  exact⟨o.slots,by rw[z1 b n];exact hbo⟩
 obtain⟨oc,odd,da,osl⟩:=oT;have h5':da=.fields ts:=h5;subst h5';have z2:(s.heap.update tb (Obj.mapFields fun x=>x.setIfInBounds 3 Value.none)).get? tb=some ⟨oc,odd,.fields (ts.setIfInBounds 3 .none),osl⟩:=Heap.get?_update_self _ h4 rfl;refine q _ ⟨fun b o hbo=>?_,f2,f3.of_keeps fun b o hbo hd=>?_,tb,_,_,(by rw[z1 ea (Ne.symm h3)];exact h1),h2,h3,z2,rfl,?_⟩ up
 ·have n:b≠tb:=fun z=>by rw[z,h2] at hbo;cases hbo
  rw[z1 b n];exact f1 b o hbo
 ·obtain⟨sl,hs⟩:=up b o hbo hd
  exact⟨_,hs,rfl⟩
 ·rw[Array.getElem?_setIfInBounds_self_of_lt l3]
theorem qy.track{B:Heap}(I:Inv X pins σ H s)(F:qy X.prog X.w X.stack H s C od t H' ea s')(fl:FlS B X.stack ea C od t s'.heap)(old:∀b o,s.heap.get? b=some o->H b=none->b∉frs X.stack->B.get? b=some o):
  Inv X pins σ (upd H' ea (qk ea C od t)) s':=by
 have I1:Inv X pins σ H' s':=I.call' F.os F.un F.hok F.bare fun b z=>nomatch z;obtain⟨tb,oT,ts,he,_⟩:=fl.2.2.2;have nfr:ea∉frs X.stack:=fun z=>by
  obtain⟨_,o',ho',hd'⟩:=fl.2.2.1.mem z;rw[he] at ho';cases ho';exact hd' _ rfl
 have nold:∀b o,s.heap.get? b=some o->H b=none->b≠ea:=fun b o e n z=>by
  subst z
  have:=old b o e n nfr
  rw[fl.2.1] at this;cases this
 refine I1.track F.nt (zh3 he) (fun u e n hx=>?_) (fun z=>?_) (fun x c e z=>?_) fun p hp=>?_
 ·by_cases hb:ea∈X.fs
  ·obtain⟨_,o',ho',hd'⟩:=I1.funs.mem hb
   rw[he] at ho';cases ho';exact hd' _ rfl
  ·exact nold ea u (I.base.keep ea u e n hb hx) (I.base.free ea u e n hx) rfl
 ·obtain⟨m,⟨oL,es,ep,hoL,hdL,_⟩,_⟩:=I1.loc
  rw[z,he] at hoL;cases hoL;cases hdL
 ·obtain⟨v,oc,hoc,hdc⟩:=I1.cell x c e
  rw[z,he] at hoc;cases hoc;cases hdc
 ·obtain⟨q1,q2,_⟩:=I.pin p hp
  exact nold p.1 p.2 q1 q2
def zdD(X:Cx)(E:XK):Prop:=∀(pins:PnL) (σ : St) (H:Hp) (s:Shared) (ea C:Addr) (od:Option Addr) (t:Addr),Inv X pins σ H s->H ea=some (vY ea C od t)->X.H₀ ea=none->E (.ref C) od (drop H ea)->X.xe (.ref ea) s
inductive zcPJ(K:Frag)(H0:Hp)(E:XK)(x:V)(H1:Hp):Prop|mk(ea C:Addr)(od:Option Addr)(t:Addr):x=.ref ea->H1 ea=some (vY ea C od t)->xj K C->zgI K C=true->H0 ea=none->(E (.ref C) od (drop H1 ea))->zcPJ K H0 E x H1
def zcP(K:Frag)(H0:Hp)(E:XK)(te:TE):TS:=fun _ σ H=>te σ H fun x H1=>zcPJ K H0 E x H1
end
section
variable {X:Cx}{E:XK}{pos:Pos}{e:Expr}{te:TE}
theorem wc(hX:zdD X E)(hc:X.calm=true)(he:PE X e te):PS X (.Raise (some e) none pos) (zcP X.K X.H₀ E te):=by
 exists ?_;intro pins s σ H D I h;rw[arm_exec_Raise];refine zwb (wpAny_standAt ?_);unfold raiseStmt;show wpAny _ _ (do
  let xv <- (do
   let v <- eval e X.env
   standAt pos
   pure v)
  _) _ _ _
 refine zwb (zwb (thn (he pins s σ H _ I h) fun u s1 ⟨x,H1,I1,rx,ea,C,od,t,ex,hx,c,m,hn,q⟩=>?_));subst ex;obtain rfl:u=Value.ref ea:=rx;refine zwb (wpAny_standAt (zwp ?_));have ho:=ju I1 hx;have XO:=zcO I1.kIn m;obtain⟨nm,q',N,bs,bm,sn,sub,ab,col,dd,k0,k1,k2,k3,k5,hC,b1,b2,b3,b4⟩:=XO.ob;have hq:X.xe (.ref ea) s1:=hX pins σ H1 s1 ea C od t I1 hx hn q;have LT:Looks (model X.prog X.w) s1.heap (typeOf (.ref ea)) (.ref C):=(PySem.W.Looks.ld ho).andThen .now;have LTC:Looks (model X.prog X.w) s1.heap (typeOf (.ref C)) (.type "type"):=(PySem.W.Looks.ld hC).andThen .now;have LB:=PySem.W.looks_mroIn (M:=model X.prog X.w) I1.kIn c.be;have LIs:Looks (model X.prog X.w) s1.heap (isType (.ref ea)) false:=(PySem.W.Looks.ld ho).andThen .now;have hcalm:=I1.ok.hd hc;obtain⟨hh,g,d,tk,os⟩:=s1;dsimp only;refine zwb (zwp (zwb (wpAny_holding ?_)));unfold excFromValue isExcClass;refine zwb (zwb (LIs.at ?_));rw[if_neg zft];refine zwp ?_;rw[if_neg zft];unfold isInstance;refine zwb (zwb (LT.at (LB.at ?_)));rw[if_pos rfl];refine zwp ?_;dsimp only;refine zwb (LIs.at ?_);rw[if_neg zft];unfold raisedInstance;refine zwb (zwb (LT.at (zwb (LTC.at ?_))));rw[if_pos (by decide)]
 refine zwp (zwb ?_);unfold setFlight;refine zwb (wpAny_field (x:=Value.none) ho rfl rfl ?_);rw[if_neg (show ¬(Value.none != Value.none)=true by decide)]
 refine zwp ?_;unfold raiseNew;refine zwb (wpAny_handled_none hcalm ?_);exact wpAny_throw hq
variable {P:Program}{w:World}{K:Frag}{mg:Str->Option Value}{base:Heap}{N:List Str}{qual:Str}{scope:Scope}{f:Addr}{cd:Value}{A:Around}{outer:List Env}{s:Shared}{H:Hp}{E':XK}
theorem xG:zdD (jk (CXs P w) P w K mg base N qual scope f cd A outer s H E) E:=fun pins σ H1 s1 ea C od t I hx hn q=>by
 refine wpAny_mono (zd9 I rfl rfl rfl hx hn) (fun _ s2 F=>?_) fun _ _ z=>z;exact⟨ea,_,_,_,_,rfl,F,q⟩
theorem zir(hE:∀c d H,E' c d H->E c d H):xy (CXs P w) (jk (CXs P w) P w K mg base N qual scope f cd A outer s H E) E':=fun pins σ H1 s1 e s' I q=>by
 obtain⟨ea,C,od,t,H',rfl,F,q⟩:=q;refine wpAny_mono (zh0 I rfl rfl rfl F) (fun _ s2 F2=>?_) fun _ _ z=>z;exact⟨ea,C,od,t,H',rfl,F2,hE _ _ _ q⟩
theorem Fun.okS{x:Str}{st:Stmt}{fd:FuncData}{ps:List Str}{k:Nat}{sp:Sp}(F:Fun K x qual st f fd)(S:zq N ps (zj st))(len:∀vs H Q E,sp vs H Q E->vs.length=ps.length)
  (hbody:∀(cdv:Value) (A:Around) (outer:List Env) (s:Shared) (H:Hp) (vs:List V) (Q:VK) (E:XK),yf k (A.deeper (envOfC qual (zj st) s.heap.objs.size f cdv))->sp vs H Q E->
   ∃t,PSs (jk (CXs P w) P w K mg base N qual (zj st) f cdv A outer s H E) (zY st) t/\t { nx:=fun _ H'=>Q .non H',rt:=Q } (wg N vs) H):zx P w K mg base (CXs P w) (k+1) f fd ps sp:=by
 obtain⟨oc,od,kV,doc,pm,an,cdv,ct,osl,rfl,lk,hcd⟩:=F.ex;exact zgu lk hcd S len fun A outer s H vs Q E hr hsp=>hbody cdv A outer s H vs Q E hr hsp
structure vV(P:Program)(w:World)(K:Frag)(mg:Str->Option Value)(base:Heap)(k:Nat)(x:Str)(f:Addr)(fd:FuncData)(ps:List Str)(sp:Sp):Prop where
 ok:zx P w K mg base (CXs P w) k f fd ps sp
 mg:mg x=some (.ref f)
 kp:keepIn K (.ref f)=true
 bd:zN K fd ps []
variable {k:Nat}{fd:FuncData}{ps:List Str}{sp:Sp}{x:Str}{p:Pos}{es:List Expr}{t:TA}
theorem cS(c:vV X.prog X.w X.K X.mg X.base k x f fd ps sp)(hp:xy (CXs X.prog X.w) X E)(hr:yf k X.A)(ha:PA X (e::es) t)(hg:Gl X x:=by rfl)(hdb:(x==("__debug__" : Str))=false:=by decide)
  (h1:wD e=false:=by rfl) (h2:es.any wD=false:=by rfl):PE X (.Call (.Name x p) (e::es) [] pos) (za6 sp [] E t):=
 zdd c.ok hr hg c.mg c.kp c.bd .nil hp ha hdb (yx h1) (xN h2)
abbrev HK:=Addr->Option Addr->Addr->Addr->wF->St->Hp->Prop
structure PH(X:Cx)(hs:List ExceptHandler)(th:HK):Prop where
 run:∀(pins:PnL) (σ : St) (H1:Hp) (s1:Shared) (H':Hp) (ea C:Addr) (od:Option Addr) (t:Addr) (s5:Shared) (D:wF),Inv X pins σ H1 s1->qy X.prog X.w X.stack H1 s1 C od t H' ea s5->th C od t ea D σ H'->wpAny (model X.prog X.w) X.A (handleBy (.ref ea) X.env hs) (SP X pins D) X.xe s5
variable {hs:List ExceptHandler}{th:HK}{c n:Str}{C':Addr}{i:Nat}{ts:TS}{b₀:Stmt}{suite:List Stmt}{np hpos:Pos}
theorem zjn:PH X [] (fun _ _ _ _ _ _ _=>False):=⟨fun _ _ _ _ _ _ _ _ _ _ _ _ _ h=>h.elim⟩
def za2(X:Cx)(pins:PnL)(σ : St)(E:XK):Prop:=∀(H:Hp) (s:Shared) (e:Value) (s':Shared),Inv X pins σ H s->CXs X.prog X.w X.stack H s E e s'->X.xe e s'
def zki(tb:XK->TS)(th:HK):TS:=fun D σ H=>tb (fun cls od H'=>∃C,cls=.ref C/\∀t ea,H' ea=none->th C od t ea D σ H') D σ H
variable {st:Stmt}{h₀:ExceptHandler}{tb:XK->TS}
theorem zhd(hstk:X.stack=X.env::X.outer)(hfl:X.env.frame=some X.env.locals)(hh:PH X (h₀::hs) th)
  (hb:∀(pins:PnL) (σ : St) (xe:VSP) (E:XK),za2 (X.wish xe) pins σ E->PS1 (X.wish xe) pins σ st (tb E)):PS X (.Try [st] (h₀::hs) [] [] pos) (zki tb th):=by
 exists ?_;intro pins s σ H D I h;have fr0:=I.ok.frames;rw[hstk] at fr0;refine wpAny_Try_except ?_;have key:za2 (X.wish (zkg X pins D (h₀::hs))) pins σ (fun cls od H'=>∃C,cls=.ref C/\∀t ea,H' ea=none->th C od t ea D σ H'):=by
  intro H1 s1 e s2 I1 q;obtain⟨ea,C,od,t,H',rfl,F,C0,e0,q⟩:=q;cases e0;have I1:=I1.unwish;have F:qy X.prog X.w X.stack H1 s1 C od t H' ea s2:=F;obtain⟨B,fl,tr,old,olds⟩:=F.fly;have fl':=fl;rw[hstk] at fl';refine zfZ fr0 fl'.2.2.1 hfl fl'.1 fl'.2.1 (.inr fl'.2.2.2) fun h5 y1 y2 y3 y4=>?_;have fl5:FlS B X.stack ea C od t h5:=by rw[hstk];exact⟨y1,fl'.2.1,y2,y3⟩
  have F5:=F.move fl tr old olds fl5 y4;exact hh.run pins σ H1 s1 H' ea C od t _ D I1 F5 (q t ea F.nt)
 have run:=(hb pins σ _ _ key).run s H D (I.wish _) h;refine wpAny_execs_cons (thn run fun f s1 q=>?_)
 ·cases f with
  | next=>exact wpAny_execs_nil (wpAny_execs_nil (SP.unwish (f:=.next) q))
  | ret v=>exact SP.unwish (f:=.ret v) q
  | brk=>exact SP.unwish (f:=.brk) q
  | cont=>exact SP.unwish (f:=.cont) q
variable {pins:PnL}{σ:St}{m:Str}{apos:Pos}{C:Addr}{dvs:List V}{ds:List Value}
end
section
variable {X:Cx}{pins:PnL}{σ:St}{H:Hp}{s:Shared}{x C t:Addr}{f:Str}{A:Around}{E:VSP}
theorem zhX{b:Bool}{dx:Addr}{fs:List (Str×V)}{v:V}{Q:VSP}(I:Inv X pins σ H s)(e:H x=some (qk x C (some dx) t))(ed:H dx=some (.xd fs))(c:xj X.K C)(m:qt X.K C)(n:z5 X.K C f)(l:fs.lookup f=some v)
  (h:∀u s',Inv X pins σ H s'->zT v u->Q u s'):wpAny (model X.prog X.w) A (getAttr (.ref x) f b) Q E s:=by
 obtain⟨tb,hx⟩:=(I.hok x _ e).1;obtain⟨mA,ns,r⟩:=I.hok dx _ ed;obtain⟨u,hu,ru⟩:=x6 (v:=v) (o:=mA f) (by rw[<- l];exact r f)
 exact zhW c m I.kIn n hx rfl rfl rfl ns hu (q0 ru) (h u _ (I.tok _) ru)
inductive zifJ(K:Frag)(f:Str)(Q:VK)(x:V)(H1:Hp):Prop|mk(a C t dx:Addr)(fs:List (Str×V))(v:V):x=.ref a->H1 a=some (qk a C (some dx) t)->H1 dx=some (.xd fs)->xj K C->qt K C->z5 K C f->fs.lookup f=some v->(Q v H1)->zifJ K f Q x H1
def zif(K:Frag)(ta:TE)(f:Str):TE:=fun σ H Q=>ta σ H fun x H1=>zifJ K f Q x H1
variable {e:Expr}{pos:Pos}{ta:TE}
theorem zhk(he:PE X e ta)(hb:attributeBase e f X.env (eval e X.env)=eval e X.env):PE X (.Attribute e f pos) (zif X.K ta f):=by
 exists ?_;intro pins s σ H Q I h;refine zdy hb (thn (he pins s σ H _ I h) fun u s1 ⟨x,H1,I1,rx,a,C,t,dx,fs,v,ex,ea,ed,c,m,n,l,q⟩=>?_);subst ex;obtain rfl:u=Value.ref a:=rx;exact zhX I1 ea ed c m n l fun u' s2 I2 ru=>⟨v,H1,I2,ru,q⟩
end
end L2
namespace L2
open PySem PySem.Spec PyProof.Rows PySem.Builtin
section
variable {prog:Program}{w:World}{A:Around}{E:VSP}{s:Shared}{it ea C t:Addr}{od:Option Addr}{tb:Value}{x left step:Int}{Q:Option Value->Shared->Prop}
end
end L2
namespace L2
open PySem PySem.Spec PyProof.Rows
structure zlv(ea:Addr)(P:Program)(w:World)(K:Frag)(tg:Expr)(J:It)(fp:List Addr)(it:Addr)(tn:Nat->Heap->Prop):Prop where
 mem:it∈fp
 obj:∀i h,tn i h->∀b∈fp,∃o,h.get? b=some o/\∀v,o.data≠.cell v
 keep:∀i h h',tn i h->(∀b∈fp,∀o,h.get? b=some o->h'.get? b=some o)->tn i h'
 item:∀(X:Cx),X.prog=P->X.w=w->X.K=K->X.A.handled=some (.ref ea)->∀(i:Nat) (pins:PnL) (s:Shared) (σ : St) (H:Hp) (E:VSP),Inv X pins σ H s->(∀b∈fp,vf X pins H b)->tn i s.heap->J.go i H->
  wpAny (model P w) X.A (pyNext (.ref it)) (fun r s1=>∃u,r=some u/\
   wpAny (model P w) X.A (letOwnedTupleGo tg (.ref it) u) (fun _ s2=>∃x H',Inv X pins σ H' s2/\zT x u/\J.yld i H x H'/\tn (i+1) s2.heap/\∀b∈fp,H' b=none) E s1) E s
 done:∀(X:Cx),X.prog=P->X.w=w->X.K=K->X.A.handled=some (.ref ea)->∀(i:Nat) (pins:PnL) (s:Shared) (σ : St) (H:Hp) (E:VSP),Inv X pins σ H s->(∀b∈fp,vf X pins H b)->tn i s.heap->J.stop i H->
  wpAny (model P w) X.A (pyNext (.ref it)) (fun r s1=>r=none/\Inv X pins σ H s1) E s
 self:∀(A:Around) (i:Nat) (s:Shared) (Q:VSP) (E:VSP),tn i s.heap->Q (.ref it) s->wpAny (model P w) A (pyIter (.ref it)) Q E s
def zmB(X:Cx)(ea:Addr)(pins:PnL)(σ : St)(tg:Expr)(R:It->Hp->Prop)(itv:Value)(s2:Shared):Prop:=
 ∃(it:Addr) (fp:List Addr) (tn:Nat->Heap->Prop) (J:It) (H':Hp),itv=.ref it/\Inv X pins σ H' s2/\zlv ea X.prog X.w X.K tg J fp it tn/\tn 0 s2.heap/\(∀b∈fp,vf X pins H' b)/\R J H'
section
variable {X:Cx}{tg:Expr}
variable {pins:PnL}{σ:St}{s:Shared}{sc:Scope}{fr Nc:List Str}{caps:List (Option Nat)}{elt iter:Expr}{ifs:List Expr}{g:TG}{tt:TT}{te:TE}{ow:List Nat}{pos pos2:Pos}{E:VSP}
variable {hs:List ExceptHandler}{th:HK}{c n:Str}{C':Addr}{i:Nat}{ts:TS}{b₀:Stmt}{suite:List Stmt}{np hpos:Pos}
def zmi(K:Frag)(C':Addr)(i:Nat)(ts:Addr->TS)(xT:HK):HK:=fun C od t ea D σ H'=>
 (exmOne K (.ref C) (.ref C')=some true/\ts ea (ziw D i) (σ.set i (some (.ref ea))) (upd H' ea (qk ea C od t)))\/(exmOne K (.ref C) (.ref C')=some false/\xT C od t ea D σ H')
end
end L2
namespace L2
open PySem PySem.Spec PyProof.Rows PySem.Builtin
section
variable {prog:Program}{w:World}{A:Around}{E:VSP}{s:Shared}{it l ea C t:Addr}{od:Option Addr}{tb:Value}{i:Nat}{items:Array Value}{Q:Option Value->Shared->Prop}
variable {X:Cx}{tg:Expr}
variable {sc:Scope}{elt iter:Expr}{ifs:List Expr}{g:TG}{tt:TT}{te:TE}{ow:List Nat}{pos:Pos}
theorem zge{d:Addr}{o:Obj}{kvs:List (Key×V)}{caps:List (Option Nat)}{g:TG}{tt:TT}{te:TE}{σ : St}{H1:Hp}{Q:VK}{D:Addr}(Pv:Nat->List V->Hp->Prop)(h0:Pv 0 [] (upd H1 D (.lst [])))
  (hl:∀i ys H,Pv i ys H->H d=some (.frz o (.dK kvs)))
  (hs:∀i k v p ys H,i<kvs.length->kvs[i]?=some (k,v)->Pv i ys H->H p=none->g (.ref p) (yY caps σ) (upd H p (.tup [kV k,v])) fun σ2 H2=>tt σ2 H2 fun ok H3=>(ok=true->te σ2 H3 (lcN kvs.length i D Pv ys))/\(ok=false->lcS kvs.length i Pv ys H3))
  (hd:∀ys H,Pv kvs.length ys H->Q (.ref D) H):LCr (Itd d o kvs) caps g tt te σ H1 Q D:=by
 exists fun i m ys H=>m=kvs.length - i/\i<=kvs.length/\Pv i ys H,⟨kvs.length,by simp,zero_le _,h0⟩,?_
 rintro i m ys H ⟨rfl,hi,p⟩;have q:=hl i ys H p;by_cases hlt:i<kvs.length
 ·refine .inr ⟨⟨q,hlt⟩,fun x H' y=>?_⟩
  obtain⟨pp,k,v,rfl,hp,y2,rfl⟩:=y;exact hs i k v pp ys H hlt y2 p hp
 ·have e:i=kvs.length:=by omega
  subst e;exact .inl ⟨⟨q,le_refl _⟩,hd ys H p⟩
def yX(a n:Nat):List Int:=(List.range n).map fun (i:Nat)=>((a+i:Nat):Int)
theorem zek:xF X (.type "range") (fun xs H Q=>∃a b:Nat,xs=[.int (a:Nat),.int (b:Nat)]/\∀p,H p=none->Q (.ref p) (upd H p (.rng (a:Nat) (b:Nat)))):=by
 intro pins s σ H xs us Q I r h;obtain⟨a,b,rfl,q⟩:=h;obtain⟨u,v,rfl,ru,rv⟩:=qI r;obtain⟨t,rfl⟩:=ru;obtain⟨t',rfl⟩:=rv;refine call_range_2 ?_;exists .ref s.heap.objs.size,_,I.laid (o:=.rng (a:Nat) (b:Nat)) (fun b u e=>zgp _ e) (le_refl _) ?_,rfl,q _ (I.hok.fresh (le_refl _));exact⟨_,_,_,zgs _ rfl⟩
theorem zbM(hc:X.calm=true):xF X (.type "list") (fun xs H Q=>∃(p:Addr) (a b:Nat),xs=[.ref p]/\H p=some (.rng (a:Nat) (b:Nat))/\a<=900/\b<=900/\∀l,H l=none->Q (.ref l) (upd H l (.lst ((yX a (b - a)).map V.int)))):=by
 intro pins s σ H xs us Q I r h;obtain⟨p,a,b,rfl,hp,ha,hb,q⟩:=h;obtain⟨u,rfl,ru⟩:=ub r;cases ru;obtain⟨t,u',v',e⟩:=I.hok p _ hp;refine call_list_range (n:=b - a) (I.ok.hd hc) e ?_ ?_ (by omega) fun h' tk acc c' hk he hacc=>?_
 ·exact small_one (by omega) (by omega) (by omega) (by omega)
 ·rw[rangeSize_one]
  split <;> omega
 ·have hl:acc.toList.length=(yX a (b - a)).length:=by
   unfold yX;rw[length_map,length_range];simpa using hacc.1
  have hv:zX ((yX a (b - a)).map V.int) acc.toList:=zX.of_at hl fun i v e=>by
   obtain⟨t,rfl⟩:=hacc.2 i v (by simpa using e)
   exists t,?_;have hi:i<b - a:=by
    have:=(List.getElem?_eq_some_iff.mp e).1
    rw[hl] at this;unfold yX at this;simpa using this
   have eg:(yX a (b - a)).getD i 0=((a+i:Nat):Int):=by
    unfold yX;rw[getD_eq_getElem?_getD,getElem?_map,getElem?_range hi];rfl
   rw[eg]
   congr 1
   omega
  exists .ref s.heap.objs.size,_,I.laid (t':=tk) (o:=.lst ((yX a (b - a)).map V.int)) hk (le_refl _) ⟨?_,acc.toList,c',hv,by simpa using he⟩,rfl,q _ (I.hok.fresh (le_refl _))
  unfold yX;rw[length_map,length_map,length_range];have : 1000<=sizeLine:=by decide
  omega
end
end L2
namespace L2
open PySem PySem.Spec PyProof.Rows
def zcN(H:Hp)(ea D:Addr):Prop:=(∃od t,H ea=some (qk ea D od t))\/∃od t,H ea=some (vY ea D od t)
theorem zcN.same{H H':Hp}{ea D:Addr}(h:zcN H ea D)(s:zo H H'):zcN H' ea D:=by
 rcases h with ⟨od,t,h⟩|⟨od,t,h⟩
 ·exact .inl ⟨od,t,s _ _ h⟩
 ·exact .inr ⟨od,t,s _ _ h⟩
section
variable {X:Cx}
theorem zea{pins:PnL}{σ : St}{H:Hp}{s:Shared}{ea D:Addr}(I:Inv X pins σ H s)(e:zcN H ea D):zam ea (.ref D) s.heap:=by
 rcases e with ⟨od,t,e⟩|⟨od,t,e⟩
 ·obtain⟨tb,h⟩:=(I.hok ea _ e).1
  exact⟨_,_,h,rfl,rfl⟩
 ·exact⟨_,_,ju I e,rfl,rfl⟩
theorem xm:xF X (.builtin "isinstance") (fun xs H Q=>∃ea D C b,xs=[.ref ea,.ref C]/\zcN H ea D/\xj X.K D/\kitOne X.K (.ref D) (.ref C)=some b/\Q (.bl b) H):=by
 intro pins s σ H xs us Q I r h;obtain⟨ea,D,C,b,rfl,he,c,e,q⟩:=h;obtain⟨u,w',rfl,ru,rw'⟩:=qI r;cases rw';cases ru;exact kia_one (zgg c) I.kIn (zea I he) e (fun z=>nomatch z) fun tk=>⟨.bl b,H,I.tok tk,rfl,q⟩
theorem zfk{X:Cx}{K:Frag}{e:Expr}{f:Str}{pos:Pos}{ta:TE}(hK:X.K=K)(he:PE X e ta)(hb:attributeBase e f X.env (eval e X.env)=eval e X.env):PE X (.Attribute e f pos) (zif K ta f):=hK ▸ zhk he hb
variable {hs:List ExceptHandler}{th:HK}{c n:Str}{C':Addr}{i:Nat}{ts:TS}{b₀:Stmt}{suite:List Stmt}{np hpos:Pos}
theorem zjo{tsA:Addr->TS}(hN:X.N.Nodup)(hi:X.N[i]?=some n)(hk:X.env.scope.names.lookup n=some .local)(hg:Gl X c)(hm:X.mg c=some (.ref C'))(hs':∀ea,PSs (X.suite ea) (b₀::suite) (tsA ea))(hr:PH X hs th)
  (hd:(c==("__debug__" : Str))=false:=by decide):PH X (.ExceptHandler (some (.Name c np)) (some n) (b₀::suite) hpos::hs) (zmi X.K C' i tsA th):=by
 exists fun pins σ H1 s1 H' ea C od t s5 D I1 F5 h=>?_;obtain⟨B,fl,tr,old,olds⟩:=F5.fly;have I5:Inv X pins σ H' s5:=I1.call' F5.os F5.un F5.hok F5.bare fun b z=>nomatch z;have LT:Looks (model X.prog X.w) s5.heap (typeOf (.ref ea)) (.ref C):=by
  obtain⟨tb,oT,ts',he,_⟩:=fl.2.2.2;exact(PySem.W.Looks.ld he).andThen .now
 refine wpAny_handleBy_cons (codeAny_handlers_test (xX (I5.suite ea) hg hm ?_ hd)) (by intro z;cases z)
 rcases h with ⟨hx,h⟩|⟨hx,h⟩
 ·refine(PySem.W.exm_one (M:=model X.prog X.w) (h:=s5.heap) I5.kIn LT hx) _ _ _ _ (fun _ _ z=>z) ?_
  refine codeAny_handlers_suite_as (zle fl fun h6 fl6 up6=>?_);have F6:=F5.move fl tr old olds fl6 up6;have I6:=F6.track I1 fl6 old;refine vo (v:=.ref ea) I6 hN hi (.inl hk) rfl (fun s7 I7=>?_) (.inr hk);refine wpAny_mono ((hs' ea) pins s7 _ _ (ziw D i) (I7.suite ea) h) (fun f s8 h8=>?_) fun _ _ z=>z.elim;show wpAny (model X.prog X.w) X.A (do bindName X.env n .none;unbindBehindTheSuite X.env n hpos) (fun _ s9=>SP X pins D f s9) X.xe s8
  cases f with
  | next=>
   obtain⟨σ',H2,I8,q8⟩:=h8;exact vP (wy I1.ok I8) hN hi hk fun s9 I9=>⟨_,H2,I9,q8⟩
  | brk=>
   obtain⟨σ',H2,I8,q8⟩:=h8;exact vP (wy I1.ok I8) hN hi hk fun s9 I9=>⟨_,H2,I9,q8⟩
  | cont=>
   obtain⟨σ',H2,I8,q8⟩:=h8;exact vP (wy I1.ok I8) hN hi hk fun s9 I9=>⟨_,H2,I9,q8⟩
  | ret u=>
   obtain⟨v,σ',H2,I8,rv,q8⟩:=h8;exact vP (wy I1.ok I8) hN hi hk fun s9 I9=>⟨v,_,H2,I9,rv,q8⟩
 ·refine(PySem.W.exm_one (M:=model X.prog X.w) (h:=s5.heap) I5.kIn LT hx) _ _ _ _ (fun _ _ z=>z) ?_
  exact hr.run pins σ H1 s1 H' ea C od t s5 D I1 F5 h
structure zgF(P:Program)(w:World)(K:Frag)(mg:Str->Option Value)(base:Heap)(ea:Addr)(k:Nat)(f:Addr)(fd:FuncData)(ps:List Str)(sp:Sp):Prop where
 len:∀vs H Q E,sp vs H Q E->vs.length=ps.length
 run:∀(A:Around) (outer:List Env) (s:Shared) (H:Hp) (args:Args) (us:List Value) (vs:List V) (Q:VK),A.handled=some (.ref ea)->vi k A->qG P w K mg base A outer s H->BindsTo s fd args (ps.zip us)->zX vs us->sp vs H Q E0->
  codeAny (model P w) A (.call (.ref f) args) (CR CX0 outer P w H s Q E0) s
variable {P:Program}{w:World}{K:Frag}{mg:Str->Option Value}{base:Heap}
theorem Fun.okH{ea:Addr}{x qual:Str}{st:Stmt}{f:Addr}{fd:FuncData}{N ps:List Str}{k:Nat}{sp:Sp}(F:Fun K x qual st f fd)(S:zq N ps (zj st))(len:∀vs H Q E,sp vs H Q E->vs.length=ps.length)
  (hbody:∀(cdv:Value) (A:Around) (outer:List Env) (s:Shared) (H:Hp) (vs:List V) (Q:VK),A.handled=some (.ref ea)->vi k (A.deeper (envOfC qual (zj st) s.heap.objs.size f cdv))->sp vs H Q E0->
   ∃t,PSs (zdw P w K mg base N qual (zj st) f cdv A outer s H) (zY st) t/\t { nx:=fun _ H'=>Q .non H',rt:=Q } (wg N vs) H):zgF P w K mg base ea (k+1) f fd ps sp:=by
 obtain⟨oc,od,kV,doc,pm,an,cdv,ct,osl,rfl,lk,hcd⟩:=F.ex;exists len,fun A outer s H args us vs Q hA hr e0 hb r hsp=>?_;have hl:=len _ _ _ _ hsp;have KX:K.In s.heap:=e0.mod.kin.keeps fun b o e=>(e0.bs b o e).1;have lim:s.heap.NoLimit:=e0.mod.nolimit.keeps fun b o e=>(e0.bs b o e).1;have hkind:∀y∈ps.zip us,(zj st).names.lookup y.1=some .local\/((zj st).names.lookup y.1=some .cell/\((cellsFrom (s.heap.objs.size+1) (zj st).names []).lookup y.1).isSome=true):=fun⟨n,v⟩ hy=>by
  rcases S.par n (of_mem_zip hy).1 with q|q
  ·exact .inl q
  ·exact .inr ⟨q,cellsFrom_some _ _ _ (.inl q)⟩
 refine codeAny_call_function hr.depth (KX _ _ lk) rfl S.co S.gen rfl (PySem.W.codeRec_of KX hcd) (hb _ _ _ _ ?_);refine wpAny_newFunctionEnv_cells S.kind hkind fun env he s1 x=>?_;subst he;exists lim.keeps x.toInCall.keep,codeAny_func ?_;obtain⟨t,ht,hq⟩:=hbody cdv A outer s H vs Q hA (hr.deeper _) hsp;have I:Inv (zdw P w K mg base N qual (zj st) f cdv A outer s H) [] (wg N vs) H s1:=zcD S e0 hl r x;refine wpAny_mono (ht [] s1 (wg N vs) H _ I hq) (fun fl s' hs=>?_) fun e s' hs=>hs.elim;have fin:∀{σ':St}{H':Hp}{v:V}{u:Value},Inv (zdw P w K mg base N qual (zj st) f cdv A outer s H) [] σ' H' s'->zT v u->Q v H'->CE outer P w H s Q u s':=
  fun {σ' H' v u} J rv q=>⟨v,H',J.os,J.bare,J.base,J.hok,rv,q⟩
 cases fl with
 | ret u=>
  obtain⟨v,σ',H',J,rv,q⟩:=hs;exact fin J rv q
 | next=>
  obtain⟨σ',H',J,q⟩:=hs;exact fin (v:=V.non) (u:=Value.none) J rfl q
 | brk=>
  obtain⟨_,_,_,q⟩:=hs;exact False.elim q
 | cont=>
  obtain⟨_,_,_,q⟩:=hs;exact False.elim q
structure za3(P:Program)(w:World)(K:Frag)(mg:Str->Option Value)(base:Heap)(k:Nat)(x:Str)(f:Addr)(fd:FuncData)(ps:List Str)(sp:Addr->Sp):Prop where
 ok:∀ea,zgF P w K mg base ea k f fd ps (sp ea)
 mg:mg x=some (.ref f)
 kp:keepIn K (.ref f)=true
 bd:zN K fd ps []
variable {k:Nat}{f ea:Addr}{fd:FuncData}{ps:List Str}{sp:Addr->Sp}{x:Str}{p pos:Pos}{e:Expr}{es:List Expr}{t:TA}
theorem cH(c:za3 X.prog X.w X.K X.mg X.base k x f fd ps sp)(hA:X.A.handled=some (.ref ea))(hr:vi k X.A)(ha:PA X (e::es) t)(hg:Gl X x:=by rfl)(hdb:(x==("__debug__" : Str))=false:=by decide)
  (h1:wD e=false:=by rfl) (h2:es.any wD=false:=by rfl):PE X (.Call (.Name x p) (e::es) [] pos) (za6 (sp ea) [] E0 t):=by
 exists ?_;intro pins s σ H Q I h;refine wpAny_Call_Name_kw (xX I hg c.mg ?_ hdb);refine callWith_K (h₀:=X.base) I.ok.mod.kin c.kp (thn (ha pos pins s σ H _ I h) fun us s1 ⟨vs,H1,I1,r,q⟩=>⟨I1.kIn,?_⟩) (yx h1) (xN h2);have r2:zX (vs++[]) (us++[]):=r.append .nil;have hl:(us++[]).length=ps.length:=by rw[<- r2.length];exact(c.ok ea).len _ _ _ _ q
 refine wpAny_call (codeAny_mono ((c.ok ea).run X.A X.stack s1 H1 ⟨us,[]⟩ (us++[]) (vs++[]) Q hA hr I1.env0 (c.bd s1 us I1.kIn hl) r2 q) fun r s' hq=>?_);cases r with
 | error e=>exact False.elim hq
 | ok fl=>
  cases fl with
  | ret u=>exact I1.after hq
  | next=>exact False.elim hq
  | brk=>exact False.elim hq
  | cont=>exact False.elim hq
theorem zdK{K:Frag}{H3:Hp}{o:HO}{l b:Addr}{zs:List V}(hl:∃zs,H3 l=some (.lst zs))(hz:SqT K H3 b zs):SqT K (upd H3 l o) b zs:=by
 obtain⟨ws,hl⟩:=hl;rcases hz with (z|⟨u,z⟩)|z
 ·refine .inl (.inl ?_)
  rw[zf (fun e=>by subst e;rw[hl] at z;cases z)]
  exact z
 ·refine .inl (.inr ⟨u,?_⟩)
  rw[zf (fun e=>by subst e;rw[hl] at z;cases z)]
  exact z
 ·exact .inr z
theorem yZ{K:Frag}{ok ok':Addr->Prop}{H:Hp}{o:HO}{l:Addr}{zs:List V}(hl:H l=some (.lst zs))(hk:∀b,ok b->ok' b/\b≠l){n:Nat}{x:V}{d:Dt}(h:zD K ok H n x d):zD K ok' (upd H l o) n x d:=
 h.frame (fun a xs z=>zdK ⟨_,hl⟩ z) fun a xs oa z=>⟨(hk a oa).1,by rw[zf (hk a oa).2];exact z⟩
theorem zgc{K:Frag}{lo:Int}{n m:Nat}{caps:List (Option Nat)}{g:TG}{tt:TT}{te:TE}{σ : St}{H1:Hp}{Q:VK}{D:Addr}(dt:Nat->Dt)(hD:H1 D=none)(hn:n<=1000)
  (hs:∀(i:Nat) (H:Hp) (Qf:VK) (Qs:Hp->Prop),i<n->zo H1 H->(∀v H',zo H H'->zD K (fun a=>H a=none) H' m v (dt i)->Qf v H')->
   g (.int (lo+i)) (yY caps σ) H fun σ2 H2=>tt σ2 H2 fun ok H3=>(ok=true->te σ2 H3 Qf)/\(ok=false->Qs H3))
  (hd:∀vs H,zo H1 H->H D=some (.lst vs)->Paired (zD K (fun a=>a≠D/\H1 a=none) H m) vs ((List.range n).map dt)->Q (.ref D) H):LCr (Itr lo n) caps g tt te σ H1 Q D:=by
 have sz : 1000<=sizeLine:=by decide
 refine wQ (fun i ys H'=>zo H1 H'/\H' D=some (.lst ys)/\Paired (zD K (fun a=>a≠D/\H1 a=none) H' m) ys ((List.range i).map dt)) ⟨fun b u e=>by rw[zf (zd e hD)];exact e,za,.nil⟩ ?_ ?_
 ·rintro i ys H hi ⟨sH,hDy,hp⟩
  refine hs i H _ _ hi sH fun v H' s' hv=>?_;have ly:ys.length=i:=by rw[hp.length,length_map,length_range]
  refine lcN.mk hi (by omega) (s' _ _ hDy) (by omega) ⟨fun b u e=>?_,za,?_⟩
  ·rw[zf (zd e hD)]
   exact s' _ _ (sH _ _ e)
  ·rw[range_succ,map_append]
   refine Paired.snoc (zm (fun _ _ z=>yZ (s' _ _ hDy) (fun b o=>⟨o,o.1⟩) (z.same s')) hp) (yZ (s' _ _ hDy) (fun b o=>?_) hv);have nb:b≠D:=fun e=>by subst e;rw[o] at hDy;cases hDy
   exact⟨⟨nb,sH.free o⟩,nb⟩
 ·rintro ys H ⟨sH,hDy,hp⟩
  exact hd ys H sH hDy hp
theorem zbv{K:Frag}{a:Addr}{xs:List V}{m:Nat}{caps:List (Option Nat)}{g:TG}{tt:TT}{te:TE}{σ : St}{H1:Hp}{Q:VK}{D:Addr}(dt:Nat->Dt)(hD:H1 D=none)(ha:SqL K H1 a xs)(hn:xs.length<=1000)
  (hs:∀(i:Nat) (x:V) (H:Hp) (Qf:VK) (Qs:Hp->Prop),xs[i]?=some x->zo H1 H->(∀v H',zo H H'->zD K (fun a=>H a=none) H' m v (dt i)->Qf v H')->
   g x (yY caps σ) H fun σ2 H2=>tt σ2 H2 fun ok H3=>(ok=true->te σ2 H3 Qf)/\(ok=false->Qs H3))
  (hd:∀vs H,zo H1 H->H D=some (.lst vs)->Paired (zD K (fun a=>a≠D/\H1 a=none) H m) vs ((List.range xs.length).map dt)->Q (.ref D) H):LCr (Itl K a) caps g tt te σ H1 Q D:=by
 have sz : 1000<=sizeLine:=by decide
 refine ww (K:=K) (xs:=xs) (fun i ys H'=>zo H1 H'/\H' D=some (.lst ys)/\Paired (zD K (fun a=>a≠D/\H1 a=none) H' m) ys ((List.range i).map dt)) ⟨fun b u e=>by rw[zf (zd e hD)];exact e,za,.nil⟩ (fun i ys H h=>h.1.seq ha) ?_ ?_
 ·rintro i x ys H hi hx ⟨sH,hDy,hp⟩
  refine hs i x H _ _ hx sH fun v H' s' hv=>?_;have ly:ys.length=i:=by rw[hp.length,length_map,length_range]
  refine lcN.mk hi (by omega) (s' _ _ hDy) (by omega) ⟨fun b u e=>?_,za,?_⟩
  ·rw[zf (zd e hD)]
   exact s' _ _ (sH _ _ e)
  ·rw[range_succ,map_append]
   refine Paired.snoc (zm (fun _ _ z=>yZ (s' _ _ hDy) (fun b o=>⟨o,o.1⟩) (z.same s')) hp) (yZ (s' _ _ hDy) (fun b o=>?_) hv);have nb:b≠D:=fun e=>by subst e;rw[o] at hDy;cases hDy
   exact⟨⟨nb,sH.free o⟩,nb⟩
 ·rintro ys H ⟨sH,hDy,hp⟩
  exact hd ys H sH hDy hp
end
end L2
namespace K43
open PySem L2 PyProof.Rows
inductive ziR(K:Frag)(nm:Str)(vs:List V)(H:Hp)(Q:VK)(E:XK):Prop|mk(x C t:Addr)(v:V):vs=[.ref x,v]->H x=some (vY x C none t)->qt K C->z5 K C nm->(∀dx,H dx=none->Q .non (upd (upd H x (vY x C (some dx) t)) dx (.xd [(nm,v)])))->ziR K nm vs H Q E
section
variable {P:Program}{w:World}{K:Frag}{mg:Str->Option Value}{base:Heap}{f:Addr}{fd:FuncData}
theorem ziW:zq ["self","number"] ["self","number"] (zj zeW):=fsc
theorem vN(F:Fun K "__init__" "Misfit.__init__" zeW f fd):zx P w K mg base CX0 1 f fd ["self","number"] (ziR K "number"):=by
 refine F.ok ziW (fun cdv A outer s H vs Q E hr h=>?_);obtain⟨x,C,t,v,rfl,hx,m,n,q⟩:=h;exists _,zc (zhe (pv 0) (pv 1) rfl),?_;exact⟨_,rfl,_,rfl,x,C,t,rfl,hx,m,n,q⟩
theorem zb0{H H2:Hp}{x d:Addr}{o o' o'':HO}(s:zo H H2)(hx:H2 x=none)(hd:upd H2 x o d=none):zo H (drop (upd (upd (upd H2 x o) x o') d o'') x):=fun b u e=>by
 have nx:b≠x:=zd (s _ _ e) hx;have e2:upd H2 x o b=some u:=by rw[zf nx];exact s _ _ e
 rw[wx nx,zf (zd e2 hd),zf nx];exact e2
theorem zgy{H2:Hp}{x d:Addr}{o o' o'':HO}(hd:upd H2 x o d=none):drop (upd (upd (upd H2 x o) x o') d o'') x d=some o'':=by
 have:d≠x:=fun z=>by rw[z,za] at hd;cases hd
 rw[wx this,za]
structure uX(P:Program)(w:World)(K:Frag)(mg:Str->Option Value)(base:Heap)(x:Str)(C g:Addr)(gd:FuncData)(a nm:Str):Prop where
 call:zdB K C g
 set:qt K C
 no:z5 K C nm
 ex:xj K C
 gl:mg x=some (.ref C)
 ok:zx P w K mg base CX0 1 g gd ["self",a] (ziR K nm)
 bd:zN K gd ["self",a] []
structure X6(P:Program)(w:World)(K:Frag)(mg:Str->Option Value)(base:Heap)(cl:Nat->Addr)(g:Addr)(gd:FuncData):Prop where
 x0:uX P w K mg base "Doubled" (cl 0) g gd "number" "number"
 x1:uX P w K mg base "Over" (cl 1) g gd "number" "number"
 x2:uX P w K mg base "Barred" (cl 2) g gd "number" "number"
 x3:uX P w K mg base "Again" (cl 3) g gd "number" "number"
 x4:uX P w K mg base "Strange" (cl 4) g gd "number" "number"
 x5:uX P w K mg base "Lacking" (cl 5) g gd "number" "number"
def wo(z:Str):Nat:=if z="doubled" then 0 else if z="over" then 1 else if z="barred" then 2 else if z="again" then 3 else if z="strange" then 4 else 5
theorem zhO(z:Str):wo z<6:=by
 unfold wo
 repeat' split
 all_goals decide
inductive jB(cl:Nat->Addr)(vs:List V)(H:Hp)(Q:VK)(E:XK):Prop|mk(z:Str)(n:Nat):vs=[.str z,.int (n:Nat)]->(∀(d:Addr) (H':Hp),zo H H'->H' d=some (.xd [("number",.int (n:Nat))])->E (.ref (cl (wo z))) (some d) H')->jB cl vs H Q E
theorem zeQ:zq ["word","number"] ["word","number"] (zj zaD):=fsc
theorem zd0{cl:Nat->Addr}{g:Addr}{gd:FuncData}(F:Fun K "refuse" "refuse" zaD f fd)(X':X6 P w K mg base cl g gd):zx P w K mg base (CXs P w) 3 f fd ["word","number"] (jB cl):=by
 refine F.okS zeQ (fun vs H Q E h=>?_) (fun cdv A outer s H vs Q E hr h=>?_)
 ·obtain⟨z,n,rfl,_⟩:=h
  rfl
 obtain⟨z,n,rfl,q⟩:=h;refine⟨_,zh (zE (zn z9 (pv 0) zr (zz _)) (zc (wc xG rfl (wN X'.x0.call X'.x0.ok hr rfl X'.x0.gl X'.x0.bd zW (ac (pv 1) zb)))) zA)
  (zh (zE (zn z9 (pv 0) zr (zz _)) (zc (wc xG rfl (wN X'.x1.call X'.x1.ok hr rfl X'.x1.gl X'.x1.bd zW (ac (pv 1) zb)))) zA)
  (zh (zE (zn z9 (pv 0) zr (zz _)) (zc (wc xG rfl (wN X'.x2.call X'.x2.ok hr rfl X'.x2.gl X'.x2.bd zW (ac (pv 1) zb)))) zA)
  (zh (zE (zn z9 (pv 0) zr (zz _)) (zc (wc xG rfl (wN X'.x3.call X'.x3.ok hr rfl X'.x3.gl X'.x3.bd zW (ac (pv 1) zb)))) zA)
  (zh (zE (zn z9 (pv 0) zr (zz _)) (zc (wc xG rfl (wN X'.x4.call X'.x4.ok hr rfl X'.x4.gl X'.x4.bd zW (ac (pv 1) zb)))) zA)
  (zc (wc xG rfl (wN X'.x5.call X'.x5.ok hr rfl X'.x5.gl X'.x5.bd zW (ac (pv 1) zb)))))))),?_⟩
 have go:∀{x:Str}{C:Addr}(X':uX P w K mg base x C g gd "number" "number") (Dn:wF),(C=cl (wo z))->zcP K H E (zeA C (ziR K "number") E0 (zcQ (zbU 1) zgL)) Dn [some (.str z),some (.int (n:Nat))] H:=fun {x C} X' Dn hC=>by
  subst hC;exists _,rfl,by show 1<=sizeLine;decide,fun x tu hxn htn hne=>?_
  exists x,_,tu,_,rfl,za,X'.set,X'.no,fun d hd=>⟨rfl,x,_,some d,tu,rfl,?_,X'.ex,X'.call.ob,hxn,?_⟩
  ·have:x≠d:=fun z=>by rw[<- z,za] at hd;cases hd
   rw[zf this,za]
  ·exact q d _ (zb0 (zo.refl _) hxn hd) (zgy hd)
 exists _,rfl,rfl,_,rfl,?_;by_cases h0:z="doubled"
 ·refine dT (congrArg V.str h0) ?_
  refine go X'.x0 _ (congrArg cl (Eq.symm ?_));unfold wo;exact if_pos h0
 refine dF (fun e=>h0 (V.str.inj e)) ?_;exists _,rfl,rfl,_,rfl,?_;by_cases h1:z="over"
 ·refine dT (congrArg V.str h1) ?_
  refine go X'.x1 _ (congrArg cl (Eq.symm ?_));unfold wo;rw[if_neg h0];exact if_pos h1
 refine dF (fun e=>h1 (V.str.inj e)) ?_;exists _,rfl,rfl,_,rfl,?_;by_cases h2:z="barred"
 ·refine dT (congrArg V.str h2) ?_
  refine go X'.x2 _ (congrArg cl (Eq.symm ?_));unfold wo;rw[if_neg h0];rw[if_neg h1];exact if_pos h2
 refine dF (fun e=>h2 (V.str.inj e)) ?_;exists _,rfl,rfl,_,rfl,?_;by_cases h3:z="again"
 ·refine dT (congrArg V.str h3) ?_
  refine go X'.x3 _ (congrArg cl (Eq.symm ?_));unfold wo;rw[if_neg h0];rw[if_neg h1];rw[if_neg h2];exact if_pos h3
 refine dF (fun e=>h3 (V.str.inj e)) ?_;exists _,rfl,rfl,_,rfl,?_;by_cases h4:z="strange"
 ·refine dT (congrArg V.str h4) ?_
  refine go X'.x4 _ (congrArg cl (Eq.symm ?_));unfold wo;rw[if_neg h0];rw[if_neg h1];rw[if_neg h2];rw[if_neg h3];exact if_pos h4
 refine dF (fun e=>h4 (V.str.inj e)) ?_;have h5:cl 5=cl (wo z):=congrArg cl (by unfold wo;rw[if_neg h0,if_neg h1,if_neg h2,if_neg h3,if_neg h4])
 exact go X'.x5 { nx:=fun _ H'=>Q .non H',rt:=Q } h5
def uP(rows:List Rw)(p:Str×Nat):Bool:=(z8 (xo 0 [] rows) (.inr p.1)).isNone
def uq(rows:List Rw)(fp:List (Str×Nat)):List Nat:=(fp.filter (uP rows)).map (·.2)
theorem zcw{rows:List Rw}{fp:List (Str×Nat)}{i:Nat}{p:Str×Nat}(h:fp[i]?=some p):uq rows (fp.take (i+1))=uq rows (fp.take i)++(if uP rows p=true then [p.2] else []):=by
 unfold uq;rw[take_add_one,h,filter_append,map_append]
 congr 1
 show List.map _ (List.filter _ [p])=_;rw[filter_cons,List.filter_nil];split <;> rfl
theorem qS(rows:List Rw)(fp:List (Str×Nat)):(uq rows fp).length<=fp.length:=by
 unfold uq;rw[length_map];exact length_filter_le _ _
def vD:V->Dt
 | .int n=>.int n
 | .str z=>.str z
 | .bl b=>.bl b
 | _=>.non
def zbE(rows:List Rw)(many:Nat)(fp:List (Str×Nat))(i:Nat):Dt:=
 if zM 2 0 rows=some i then .tup [.str "places",.lst ((yX (plN rows) (many - plN rows)).map Dt.int)]
 else if zM 4 0 rows=some i then .tup [.str "names",.lst (((uq rows fp).map fun (j:Nat)=>(j:Int)).map Dt.int)]
 else match rows[i]? with
  | some r=>.tup ((ug r i many (kvP fp)).map vD)
  | none=>.non
theorem zfx{K:Frag}{ok:Addr->Prop}{H:Hp}{r:Rw}{i many:Nat}{fp:List (Str×Nat)}{n:Nat}:Paired (zD K ok H n) (ug r i many (kvP fp)) ((ug r i many (kvP fp)).map vD):=by
 unfold ug;split
 ·exact .cons .str (.cons .int .nil)
 ·split
  next h=>
   obtain⟨v,hv⟩:=Option.isSome_iff_exists.mp h.2;obtain⟨_,j,_,rfl,_⟩:=zaQ hv;rw[hv];exact .cons .str (.cons .int .nil)
  ·exact .cons .str .nil
inductive zc0(K:Frag)(c:C5)(CF:Addr)(vs:List V)(H:Hp)(Q:VK)(E:XK):Prop|mk(f d:Addr)(o:Obj)(i many:Nat)(rows:List Rw)(bars:List Str)(fp:List (Str×Nat))(r:Rw):vs=[.ref f,.int (i:Nat),.int (many:Nat),.ref d]->many<=900->fp.length<=900->rows.length<=500->rows[i]?=some r->r.ok->yF c CF H f rows bars->H d=some (.frz o (.dK (kvP fp)))->(∀(u:Addr) (H':Hp),zo H H'->zD K (fun a=>H a=none) H' 2 (.ref u) (zbE rows many fp i)->Q (.ref u) H')->zc0 K c CF vs H Q E
variable {CF:Addr}{c:C5}{m:MA}
theorem zk6:([Str.ofString "name",Str.ofString "at",Str.ofString "form"]:List Str).Nodup:=by decide +kernel
theorem zg5:zq ["form","number","many","firsts"] ["form","number","many","firsts"] (zj zcn):=fsc
theorem zfV{gT gP gB gN gS g1:Addr}{eT eP eB eN eS e1:FuncData}(F:Fun K "entry" "entry" zcn f fd)(hran:mg "range"=none)(hlst:mg "list"=none)(FK:FC K CF)(mT:yT K CF "tail" gT)(GT:zx P w K mg base CX0 1 gT eT ["self"] (wV c CF 2))(bT:zN K eT ["self"] [])(mP:yT K CF "places" gP)(GP:zx P w K mg base CX0 1 gP eP ["self"] (vp c CF))(bP:zN K eP ["self"] [])
  (mB:yT K CF "bag" gB) (GB:zx P w K mg base CX0 1 gB eB ["self"] (wV c CF 4)) (bB:zN K eB ["self"] []) (mN:yT K CF "number_of" gN) (GN:zx P w K mg base CX0 1 gN eN ["self","name"] (zcU c CF)) (bN:zN K eN ["self","name"] []) (mS:yT K CF "parameters" gS) (GS:zx P w K mg base CX0 1 gS eS ["self"] (uC c CF)) (bS:zN K eS ["self"] [])
  (cE1:zI P w K mg base 2 "one_entry" g1 e1 ["parameter","number","many","firsts"] (zbV c)):zx P w K mg base CX0 3 f fd ["form","number","many","firsts"] (zc0 K c CF):=by
 refine F.ok zg5 (fun cdv A outer s H vs Q E hr h=>?_);obtain⟨f,d,o,i,many,rows,bars,fp,r,rfl,lm,lf,l5,hri,rok,hF,hd,q⟩:=h;have hr1:yf 1 _:=hr.mono (by decide)
 refine⟨_,zh (zE (zn z9 (pv 1) (yi (pv 0) FK.cl mT GT hr1 bT .nil zW) (zz _)) (zc (zu (zQ (ac zr (ac (cTy (zbM rfl) hlst PyProof.Rows.boot_list (ac (cTy zek hran boot_range (ac (yi (pv 0) FK.cl mP GP hr1 bP .nil zW) (ac (pv 2) zb))) zb)) zb))))) zA)
  (zh (zE (zn z9 (pv 1) (yi (pv 0) FK.cl mB GB hr1 bB .nil zW) (zz _)) (zc (zu (zQ (ac zr (ac (xO ["form"] ["name","at","form"] [none,none,some 0] rfl ⟨rfl,rfl,rfl,rfl⟩ (zbk (pv 3)) (wS (K:=K) (n:=2) 0 1) rfl rfl rfl
    (fun pins fp s H C=>⟨yE rfl (zB (zp (i:=0) zk6 rfl (Or.inl rfl) (.inr rfl)) (zB (zp (i:=1) zk6 rfl (Or.inl rfl) (.inr rfl)) yk)),xM (ue (zaK (jr (pv 2) FK.cl mN GN hr1 bN .nil zW (ac (pv 0) zb)))),pv 1⟩)) zb))))) zA)
  (zc (zu (cF cE1 hr (ac (zy zL (yi (pv 0) FK.cl mS GS hr1 bS .nil zW) (pv 1) (fun _ _=>rfl)) (ac (pv 1) (ac (pv 2) (ac (pv 3) zb)))))))),?_⟩
 obtain⟨dx,fs,lr,lb,ld,ps0,h1,h2,h3,h4,h5,h6⟩:=id hF;have nmT:fs.lookup ("tail" : Str)=none:=h2.no _ (by decide +kernel)
 have nmP:fs.lookup ("places" : Str)=none:=h2.no _ (by decide +kernel)
 have nmB:fs.lookup ("bag" : Str)=none:=h2.no _ (by decide +kernel)
 have nmN:fs.lookup ("number_of" : Str)=none:=h2.no _ (by decide +kernel)
 have nmS:fs.lookup ("parameters" : Str)=none:=h2.no _ (by decide +kernel)
 have lp:plN rows<=500:=le_trans (length_filter_le _ _) l5
 try dsimp only
 refine wq (fun σ' H'=>σ'=[some (.ref f),some (.int (i:Nat)),some (.int (many:Nat)),some (.ref d)]/\H'=H/\zM 2 0 rows≠some i) ?_ (fun key=>?_);rotate_left
 ·exists _,rfl,_,rfl,f,dx,fs,rfl,h1,nmT,f,rows,bars,rfl,hF,?_
  cases hT:zM 2 0 rows with
  | none=>
   exists rfl,_,rfl,?_;refine dF (by intro z;cases z) ?_
   exact key _ _ ⟨rfl,rfl,by rw[hT];intro z;cases z⟩
  | some j=>
   exists rfl,_,rfl,?_;by_cases hij:i=j
   ·subst hij
    refine dT rfl ?_;exists _,rfl,f,dx,fs,rfl,h1,nmP,f,rows,bars,rfl,hF,_,rfl,plN rows,many,rfl,fun p hp=>?_;have s1:=ze hp (.rng (plN rows:Nat) (many:Nat));exists p,plN rows,many,rfl,za,by omega,lm,fun l hl=>?_
    have s2:=ze hl (.lst ((yX (plN rows) (many - plN rows)).map V.int));exists by show 2<=sizeLine;decide,fun u hu=>?_
    have s3:=ze hu (.tup [.str "places",.ref l]);refine q u _ (s1.trans (s2.trans s3)) ?_;unfold zbE;rw[if_pos hT];exact .tup (zv za) (.cons .str (.cons (.lst (s1.free hl) (s3 _ _ za) (vQ _)) .nil))
   ·refine dF (fun z=>hij (by have:=V.int.inj z;omega)) ?_
    exact key _ _ ⟨rfl,rfl,by rw[hT];intro z;exact hij (Option.some.inj z).symm⟩
 rintro σ1 H1 ⟨rfl,rfl,nT⟩
 try dsimp only
 refine wq (fun σ' H'=>σ'=[some (.ref f),some (.int (i:Nat)),some (.int (many:Nat)),some (.ref d)]/\H'=H1/\zM 4 0 rows≠some i) ?_ (fun key=>?_);rotate_left
 ·exists _,rfl,_,rfl,f,dx,fs,rfl,h1,nmB,f,rows,bars,rfl,hF,?_
  cases hB:zM 4 0 rows with
  | none=>
   exists rfl,_,rfl,?_;refine dF (by intro z;cases z) ?_
   exact key _ _ ⟨rfl,rfl,by rw[hB];intro z;cases z⟩
  | some j=>
   exists rfl,_,rfl,?_;by_cases hij:i=j
   ·subst hij
    refine dT rfl ?_;exists _,rfl,d,o,kvP fp,rfl,hd,fun D hD=>?_;have lk:(kvP fp).length=fp.length:=by unfold kvP;rw[length_map]
    refine zge (fun i ys H'=>zo H1 H'/\H' D=some (.lst ys)/\ys=((uq rows (fp.take i)).map fun (j:Nat)=>(j:Int)).map V.int) ⟨ze hD _,za,rfl⟩ (fun i ys H' h=>h.1 _ _ hd) ?_ ?_
    ·rintro k kk v p ys H' hlt hk ⟨sH,hDy,ey⟩ hpn
     obtain⟨z,n,hz,rfl,rfl⟩:∃(z:Str) (n:Nat),fp[k]?=some (z,n)/\kk=.inr z/\v=.int (n:Nat):=by
      unfold kvP at hk;rw[getElem?_map] at hk;cases e:fp[k]? with
      | none=>rw[e] at hk;cases hk
      | some q=>rw[e] at hk;cases hk;exact⟨q.1,q.2,rfl,rfl,rfl⟩
     have tk:=zcw (rows:=rows) hz;have sp:=ze hpn (.tup [kV (.inr z),.int (n:Nat)]);have sA:=sH.trans sp;have hDy2:=sp _ _ hDy;exists p,_,rfl,zv za,rfl,_,_,rfl,_,_,rfl,rfl,?_;generalize upd H' p (.tup [kV (.inr z),.int (n:Nat)])=H2 at sp sA hDy2 |-;exists _,rfl,f,dx,fs,rfl,sA _ _ h1,nmN,_,rfl,f,z,rows,bars,rfl,hF.same sA,_,rfl,?_;have ly:ys.length<=k:=by
      rw[ey,length_map,length_map];refine le_trans (qS _ _) ?_;rw[length_take];omega
     cases ev:z8 (xo 0 [] rows) (.inr z) with
     | none=>
      rw[show uP rows (z,n)=true from by unfold uP;rw[ev];rfl,if_pos rfl] at tk
      exists fun _=>?_,fun e=>?_
      ·exists _,rfl,lcN.mk hlt (yj (by omega)) hDy2 ly ⟨fun b' u' e'=>?_,za,?_⟩
       ·rw[zf (zd e' hD)]
        exact sA _ _ e'
       ·rw[ey,tk,map_append,map_append]
        rfl
      ·exact Bool.noConfusion e
     | some v'=>
      obtain⟨j,rfl⟩:=zcH rows 0 [] (.inr z) v' (fun k v e=>by cases e) ev
      rw[show uP rows (z,n)=false from by unfold uP;rw[ev];rfl,if_neg zft,append_nil] at tk
      exists fun e=>?_,fun _=>?_
      ·exact absurd (of_decide_eq_true e) (by intro z;cases z)
      ·exact lcS.mk hlt ⟨sA,hDy2,by rw[ey,tk]⟩
    ·rintro ys H' ⟨sH,hDy,ey⟩
     rw[lk,take_length] at ey;subst ey;exists by show 2<=sizeLine;decide,fun u hu=>?_
     have s3:=ze hu (.tup [.str "names",.ref D]);refine q u _ (sH.trans s3) ?_;unfold zbE;rw[if_neg nT,if_pos hB];exact .tup (zv za) (.cons .str (.cons (.lst hD (s3 _ _ hDy) (vQ _)) .nil))
   ·refine dF (fun z=>hij (by have:=V.int.inj z;omega)) ?_
    exact key _ _ ⟨rfl,rfl,by rw[hB];intro z;exact hij (Option.some.inj z).symm⟩
 rintro σ2 H2 ⟨rfl,rfl,nB⟩;exists _,rfl,f,dx,fs,rfl,h1,nmS,f,rows,bars,rfl,hF,fun lS ps H3 s3 nS eS hps=>?_;have hi:i<rows.length:=(List.getElem?_eq_some_iff.mp hri).1;obtain⟨pa,hpa⟩:∃pa,ps[i]?=some pa:=⟨_,getElem?_eq_getElem (by rw[hps.length];exact hi)⟩
 obtain⟨r',hr',hdx⟩:=zV hps hpa;rw[hri] at hr';cases hr';exists _,rfl,lS,_,_,.ref pa,rfl,rfl,zg eS,yO (by rw[getElem?_map,hpa];rfl),_,rfl,_,rfl,_,rfl,pa,d,i,many,r,kvP fp,rfl,hdx,rok,.inr ⟨o,s3 _ _ hd⟩,fun u H4 s4 hu=>?_
 refine q u H4 (s3.trans s4) ?_;unfold zbE;rw[if_neg nT,if_neg nB,hri];exact .tup (zv hu) zfx
def zcr(rows:List Rw)(many:Nat)(zs:List Str):List Dt:=(List.range rows.length).map (zbE rows many (fpZ zs))
inductive jl(K:Frag)(c:C5)(CF:Addr)(cl:Nat->Addr)(vs:List V)(H:Hp)(Q:VK)(E:XK):Prop|mk(f a:Addr)(rows:List Rw)(bars:List Str)(ct:List xp):vs=[.ref f,.ref a]->vF c CF H f rows bars->qA K H a ct->(wP rows bars ct=[]->∀(l:Addr) (xs:List V) (H':Hp),zo H H'->H l=none->H' l=some (.lst xs)->Paired (zD K (fun a=>a≠l/\H a=none) H' 2) xs (zcr rows (zR ct).length (zF ct))->Q (.ref l) H')->((∀m ms,wP rows bars ct=m::ms->∀(d:Addr) (H':Hp),zo H H'->H' d=some (.xd [("number",.int (m.2:Nat))])->E (.ref (cl (wo m.1))) (some d) H'))->jl K c CF cl vs H Q E
theorem zl7:([Str.ofString "at",Str.ofString "firsts",Str.ofString "form",Str.ofString "many"]:List Str).Nodup:=by decide +kernel
theorem wX:zq ["form","call","many","names","found","word","number","firsts"] ["form","call"] (zj zcb):=fsc
theorem zfI{cl:Nat->Addr}{g1 g2 g3 g4 g5 gS:Addr}{d1 d2 d3 d4 d5 eS:FuncData}(F:Fun K "paper" "paper" zcb f fd)(hran:mg "range"=none)(hlen:mg "len"=none)(FK:FC K CF)(c1:zI P w K mg base 2 "shape" g1 d1 ["call"] (zao K))(c2:zI P w K mg base 4 "misfits_of" g2 d2 ["form","many","names"] (zeK c CF))(c3:vV P w K mg base 3 "refuse" g3 d3 ["word","number"] (jB cl))
  (c4:zI P w K mg base 1 "first_numbers" g4 d4 ["names"] jD) (c5:zI P w K mg base 3 "entry" g5 d5 ["form","number","many","firsts"] (zc0 K c CF)) (mS:yT K CF "parameters" gS) (GS:zx P w K mg base CX0 1 gS eS ["self"] (uC c CF)) (bS:zN K eS ["self"] []):zx P w K mg base (CXs P w) 5 f fd ["form","call"] (jl K c CF cl):=by
 refine F.okS wX (fun vs H Q E h=>?_) (fun cdv A outer s H vs Q E hr h=>?_)
 ·obtain⟨f,a,rows,bars,ct,rfl,_⟩:=h
  rfl
 obtain⟨f,a,rows,bars,ct,rfl,hF,⟨⟨xs,hx,hc⟩,lt,lp⟩,q1,q2⟩:=h;have hr1:yf 1 _:=hr.mono (by decide)
 have hr2:yf 2 _:=hr.mono (by decide)
 have hr3:yf 3 _:=hr.mono (by decide)
 refine⟨_,zh (vd (cF c1 hr2 (ac (pv 1) zb)) (yE rfl (zB (zp (i:=2) wX.nd rfl (Or.inr rfl)) (zB (zp (i:=3) wX.nd rfl (Or.inl rfl)) yk))))
  (zh (zw (i:=4) wX.nd rfl (Or.inl rfl) (cF c2 hr (ac (pv 0) (ac (pv 2) (ac (pv 3) zb)))))
  (zh (zE (zff (pv 4) (fun _=>rfl)) (zh (vd (zy zL (pv 4) zi (fun _ _=>rfl)) (yE rfl (zB (zp (i:=5) wX.nd rfl (Or.inl rfl)) (zB (zp (i:=6) wX.nd rfl (Or.inl rfl)) yk))))
   (zc (zG (cS c3 (zir fun _ _ _ z=>z) hr3 (ac (pv 5) (ac (pv 6) zb)))))) zA)
  (zh (zw (i:=7) wX.nd rfl (Or.inr rfl) (cF c4 hr1 (ac (pv 3) zb)))
  (zc (zu (xO ["many","form","firsts"] ["at","firsts","form","many"] [none,some 7,some 0,some 2] rfl ⟨rfl,rfl,rfl,rfl⟩ (yG rfl hran (ac (cB zK hlen PySem.boot_len (ac (yi (pv 0) FK.cl mS GS hr1 bS .nil zW) zb)) zb)) (z7 0) rfl rfl rfl
   (fun pins fp s H C=>⟨zp (i:=0) zl7 rfl (Or.inl rfl) (.inr rfl),y7,cF c5 hr3 (ac (pv 2) (ac (pv 0) (ac (pv 3) (ac (pv 1) zb))))⟩))))))),?_⟩
 exists _,rfl,a,ct,xs,rfl,hx,hc,lt,lp,fun p l H1 s1 nl ep el=>?_;exists p,_,rfl,zv ep,rfl,_,_,rfl,_,_,rfl,rfl,?_;have hF1:=hF.same s1;have ln:(zF ct).length<=900:=by unfold zF;rw[length_map];exact lp
 exists _,rfl,_,rfl,_,rfl,f,l,(zR ct).length,rows,bars,zF ct,rfl,hF.lr,hF.lb,lt,ln,hF.ok,hF1.at_,el,fun l2 H2 s2 ⟨us,n2,e2,m2⟩=>?_;have s12:=s1.trans s2;have hF2:=hF.same s12;exists _,rfl,_,.inl ⟨_,zg e2,rfl⟩,?_;cases em:wP rows bars ct with
 | cons mm ms=>
  have em':u9 rows bars (zR ct).length (zF ct)=mm::ms:=em;rw[em'] at m2;cases m2 with
  | cons hm hms=>
   refine vm ?_;rename_i u us';exists _,rfl,l2,_,0,.ref u,rfl,rfl,zg e2,yO (j:=0) rfl,?_;exists u,_,rfl,zv hm,rfl,_,_,rfl,_,_,rfl,rfl,?_;exact⟨_,rfl,_,rfl,mm.1,mm.2,rfl,fun d H3 s3 hd=>q2 mm ms em d H3 (s12.trans s3) hd⟩
 | nil=>
  have em':u9 rows bars (zR ct).length (zF ct)=[]:=em;rw[em'] at m2;cases m2;refine yo ?_;exists _,rfl,l,zF ct,rfl,s2 _ _ el,ln,fun d o H3 s3 nd hd=>?_;rw[ziv] at hd;have s13:=s12.trans s3;have hF3:=hF.same s13;obtain⟨dx,fs,lr,lb,ld,ps0,h1,h2,h3,h4,h5,h6⟩:=id hF3.at_;have nmS:fs.lookup ("parameters" : Str)=none:=h2.no _ (by decide +kernel)
  exists _,rfl,f,dx,fs,rfl,h1,nmS,f,rows,bars,rfl,hF3.at_,fun lS ps H4 s4 nS eS hps=>?_;have lps:(ps.map V.ref).length=rows.length:=by rw[length_map];exact hps.length
  have s14:=s13.trans s4;have hF4:=hF.same s14;have hlr:=hF.lr;exists lS,_,rfl,.inl (zg eS),((ps.map V.ref).length:Nat),rfl,by omega,by omega,fun D hD=>?_
  have lfp:(fpZ (zF ct)).length<=900:=by
   have:=jt (zF ct) 0 []
   show(fpF 0 [] (zF ct)).length<=900;simp at this;omega
  refine zgc (K:=K) (m:=2) (zbE rows (zR ct).length (fpZ (zF ct))) hD (by omega) (fun i H5 Qf Qs hi s5 qf=>?_) (fun vs H5 s5 hDv hp=>?_)
  ·have hi':i<rows.length:=by omega
   have hri:rows[i]?=some rows[i]:=getElem?_eq_getElem hi';exists fun _=>?_,fun e=>Bool.noConfusion e;exists _,rfl,_,rfl,_,rfl,_,rfl,f,d,o,i,(zR ct).length,rows,bars,fpZ (zF ct),rows[i],(by rw[Int.zero_add];rfl),lt,lfp,hF.lr,hri,hF.ok _ (getElem_mem hi'),(hF4.same s5).at_,s5 _ _ (s4 _ _ hd),fun u H6 s6 hs6=>qf _ _ s6 hs6
  ·refine q1 em D vs H5 (s14.trans s5) (s14.free hD) hDv ?_
   unfold zcr
   have:(((ps.map V.ref).length:Nat):Int).toNat=rows.length:=by omega
   rw[this] at hp;exact zm (fun _ _ z=>xk (fun b o _=>⟨o.1,s14.free o.2⟩) z) hp
theorem zh9(x y:Str):(x++y).cps.toList=x.cps.toList++y.cps.toList:=by
 show(x.cps++y.cps).toList=_;rw[Array.toList_append]
theorem zh8(x y:Str):(x++y).length=x.length+y.length:=by
 show(x.cps++y.cps).size=_;rw[Array.size_append];rfl
theorem zhL:(Str.ofString "").cps.toList=[]:=by decide +kernel
end
end K43
namespace L2
open PySem PySem.Spec PyProof.Rows
theorem zaO{n:Nat}(h:n<=1000):n<=sizeLine:=le_of_lt (zC h)
theorem vR{α : Type}{ys:List α}{i:Nat}{y : α}(keep : α->Bool)(hy:ys[i]?=some y):(ys.take (i+1)).filter keep=(ys.take i).filter keep++(if keep y=true then [y] else []):=by
 have hi:i<ys.length:=(List.getElem?_eq_some_iff.mp hy).1;have e:ys[i]=y:=(List.getElem?_eq_some_iff.mp hy).2;rw[take_succ_eq_append_getElem hi,filter_append,e,filter_cons];rfl
theorem zdp{α : Type}{ys:List α}{i:Nat}(keep : α->Bool):((ys.take i).filter keep).length<=i:=by
 have:=length_filter_le keep (ys.take i)
 rw[length_take] at this;omega
theorem zjO{α : Type}{K:Frag}{a:Addr}{xs:List V}{caps:List (Option Nat)}{g:TG}{tt:TT}{te:TE}{σ : L2.St}{H1:Hp}{Q:VK}{D:Addr}(ys:List α)(keep : α->Bool)(out : α->V)(hD:H1 D=none)(ha:SqL K H1 a xs)(hl:xs.length=ys.length)(hn:xs.length<=1000)
  (hs:∀(i:Nat) (x:V) (y : α) (H:Hp) (N:VK) (S:Hp->Prop),xs[i]?=some x->ys[i]?=some y->zo H1 H->(∀H',zo H H'->keep y=true->N (out y) H')->(∀H',zo H H'->keep y=false->S H')->g x (yY caps σ) H fun σ2 H2=>tt σ2 H2 fun ok H3=>(ok=true->te σ2 H3 N)/\(ok=false->S H3))
  (hd:∀H,zo H1 H->H D=some (.lst ((ys.filter keep).map out))->Q (.ref D) H):LCr (Itl K a) caps g tt te σ H1 Q D:=by
 refine ww (K:=K) (xs:=xs) (fun i zs H'=>zo H1 H'/\H' D=some (.lst zs)/\zs=((ys.take i).filter keep).map out) ⟨ze hD _,za,rfl⟩ (fun i zs H' h=>h.1.seq ha) ?_ ?_
 ·rintro i x zs H' hlt hx ⟨sH,hDy,ez⟩
  obtain⟨y,hy⟩:∃y,ys[i]?=some y:=⟨_,getElem?_eq_getElem (by omega)⟩
  refine hs i x y H' _ _ hx hy sH (fun H2 s2 hk=>?_) (fun H2 s2 hk=>?_)
  ·refine lcN.mk hlt (zaO hn) (s2 _ _ hDy) (by rw[ez,length_map];exact zdp _) ⟨fun b' u e=>?_,za,?_⟩
   ·rw[zf (zd e hD)]
    exact s2 _ _ (sH b' u e)
   ·rw[ez,vR keep hy,if_pos hk,map_append]
    rfl
  ·refine lcS.mk hlt ⟨sH.trans s2,s2 _ _ hDy,?_⟩
   rw[ez,vR keep hy,if_neg (by rw[hk];exact zft),append_nil]
 ·rintro zs H2 ⟨s2,hDy,ez⟩
  rw[take_of_length_le (by omega)] at ez
  rw[ez] at hDy;exact hd H2 s2 hDy
theorem zhP{α : Type}{K:Frag}{a:Addr}{xs:List V}{caps:List (Option Nat)}{g:TG}{tt:TT}{te:TE}{σ : L2.St}{H1:Hp}{Q:VK}{D:Addr}(ys:List α)(keep : α->Bool)(out : α->V)(hD:H1 D=none)(ha:SqL K H1 a xs)(hl:xs.length=ys.length)(hn:xs.length<=1000)
  (hs:∀(i:Nat) (x:V) (y : α) (p:Addr) (H:Hp) (N:VK) (S:Hp->Prop),xs[i]?=some x->ys[i]?=some y->H p=none->zo H1 H->(∀H',zo H H'->keep y=true->N (out y) H')->(∀H',zo H H'->keep y=false->S H')->g (.ref p) (yY caps σ) (upd H p (.tup [.int i,x])) fun σ2 H2=>tt σ2 H2 fun ok H3=>(ok=true->te σ2 H3 N)/\(ok=false->S H3))
  (hd:∀H,zo H1 H->H D=some (.lst ((ys.filter keep).map out))->Q (.ref D) H):LCr (Ite K a) caps g tt te σ H1 Q D:=by
 refine zdj (K:=K) (xs:=xs) (fun i zs H'=>zo H1 H'/\H' D=some (.lst zs)/\zs=((ys.take i).filter keep).map out) ⟨ze hD _,za,rfl⟩ (fun i zs H' h=>h.1.seq ha) ?_ ?_
 ·rintro i x p zs H' hlt hx ⟨sH,hDy,ez⟩ hp
  obtain⟨y,hy⟩:∃y,ys[i]?=some y:=⟨_,getElem?_eq_getElem (by omega)⟩
  refine hs i x y p H' _ _ hx hy hp sH (fun H2 s2 hk=>?_) (fun H2 s2 hk=>?_)
  ·refine lcN.mk hlt (zaO hn) (s2 _ _ hDy) (by rw[ez,length_map];exact zdp _) ⟨fun b' u e=>?_,za,?_⟩
   ·rw[zf (zd e hD)]
    exact s2 _ _ (sH b' u e)
   ·rw[ez,vR keep hy,if_pos hk,map_append]
    rfl
  ·refine lcS.mk hlt ⟨sH.trans s2,s2 _ _ hDy,?_⟩
   rw[ez,vR keep hy,if_neg (by rw[hk];exact zft),append_nil]
 ·rintro zs H2 ⟨s2,hDy,ez⟩
  rw[take_of_length_le (by omega)] at ez
  rw[ez] at hDy;exact hd H2 s2 hDy
theorem zaP{n:Nat}{caps:List (Option Nat)}{g:TG}{tt:TT}{te:TE}{σ : L2.St}{H1:Hp}{Q:VK}{D:Addr}(keep:Nat->Bool)(out:Nat->V)(hD:H1 D=none)(hn:n<=1000)
  (hs:∀(i:Nat) (H:Hp) (N:VK) (S:Hp->Prop),i<n->zo H1 H->(∀H',zo H H'->keep i=true->N (out i) H')->(∀H',zo H H'->keep i=false->S H')->g (.int ((0:Int)+(i:Int))) (yY caps σ) H fun σ2 H2=>tt σ2 H2 fun ok H3=>(ok=true->te σ2 H3 N)/\(ok=false->S H3))
  (hd:∀H,zo H1 H->H D=some (.lst (((List.range n).filter keep).map out))->Q (.ref D) H):LCr (Itr 0 n) caps g tt te σ H1 Q D:=by
 refine wQ (n:=n) (fun i zs H'=>zo H1 H'/\H' D=some (.lst zs)/\zs=((List.range i).filter keep).map out) ⟨ze hD _,za,rfl⟩ ?_ ?_
 ·rintro i zs H' hlt ⟨sH,hDy,ez⟩
  refine hs i H' _ _ hlt sH (fun H2 s2 hk=>?_) (fun H2 s2 hk=>?_)
  ·refine lcN.mk hlt (zaO hn) (s2 _ _ hDy) (by rw[ez,length_map];have:=length_filter_le keep (List.range i);rw[length_range] at this;exact this) ⟨fun b' u e=>?_,za,?_⟩
   ·rw[zf (zd e hD)]
    exact s2 _ _ (sH b' u e)
   ·rw[ez,range_succ,filter_append,map_append,filter_cons,if_pos hk]
    rfl
  ·refine lcS.mk hlt ⟨sH.trans s2,s2 _ _ hDy,?_⟩
   rw[ez,range_succ,filter_append,map_append,filter_cons,if_neg (by rw[hk];exact zft)]
   simp
 ·rintro zs H2 ⟨s2,hDy,ez⟩
  rw[ez] at hDy;exact hd H2 s2 hDy
end L2
namespace L2
open PySem PySem.Spec PyProof.Rows PySem.Builtin
section
variable {prog:Program}{w:World}{A:Around}{E:VSP}{s:Shared}{it l ea C t:Addr}{od:Option Addr}{tb:Value}{i:Nat}{items:Array Value}{Q:Option Value->Shared->Prop}
variable {tt:Addr}
end
end L2
namespace L2
open PySem PySem.Spec PyProof.Rows
section
variable {X:Cx}{tg:Expr}
theorem zgH{α : Type}{R:Addr->α->Prop}{us:List Addr}{rows:List α}(h:Paired R us rows)(keep : α->Bool)(out : α->V):((us.zip rows).filter fun p=>keep p.2).map (fun p=>out p.2)=(rows.filter keep).map out:=by
 induction h with
 | nil=>rfl
 | cons r t ih=>
  rename_i u y us ys;rw[List.zip_cons_cons,filter_cons,filter_cons];cases hk:keep y with
  | true=>rw[if_pos rfl,if_pos rfl,map_cons,map_cons,ih]
  | false=>rw[if_neg zft,if_neg zft,ih]
theorem zjN{α : Type}{K:Frag}{a:Addr}{us:List Addr}{rows:List α}{caps:List (Option Nat)}{g:TG}{tt:TT}{te:TE}{σ : L2.St}{H1:Hp}{Q:VK}{D:Addr}(R:Hp->Addr->α->Prop)(keep : α->Bool)(out:Addr->α->V)(hD:H1 D=none)(ha:H1 a=some (.lst (us.map V.ref)))(hu:Paired (R H1) us rows)(hn:rows.length<=1000)
  (hs:∀(i:Nat) (u:Addr) (y : α) (H:Hp) (N:VK) (S:Hp->Prop),us[i]?=some u->rows[i]?=some y->R H1 u y->zo H1 H->(∀H',zo H H'->keep y=true->N (out u y) H')->(∀H',zo H H'->keep y=false->S H')->g (.ref u) (yY caps σ) H fun σ2 H2=>tt σ2 H2 fun ok H3=>(ok=true->te σ2 H3 N)/\(ok=false->S H3))
  (hd:∀H,zo H1 H->H D=some (.lst (((us.zip rows).filter fun p=>keep p.2).map fun p=>out p.1 p.2))->Q (.ref D) H):LCr (Itl K a) caps g tt te σ H1 Q D:=by
 have hl:us.length=rows.length:=hu.length;have lz:(us.zip rows).length=rows.length:=by rw[List.length_zip,hl,Nat.min_self]
 refine zjO (K:=K) (xs:=us.map V.ref) (us.zip rows) (fun p=>keep p.2) (fun p=>out p.1 p.2) hD (zg ha) (by rw[length_map,lz,hl]) (by rw[length_map,hl];exact hn) (fun i x y H N S hx hy sH n1 s1=>?_) hd
 have hi:i<rows.length:=by rw[<- lz];exact(List.getElem?_eq_some_iff.mp hy).1
 have e1:(us.zip rows)[i]?=some (us[i],rows[i]):=by
  rw[getElem?_eq_getElem (by omega),List.getElem_zip]
 rw[e1] at hy;cases hy;have hu1:us[i]?=some us[i]:=getElem?_eq_getElem (by omega)
 rw[getElem?_map,hu1] at hx;cases hx;obtain⟨d,hd',hr⟩:=Paired.get hu hu1;have e2:rows[i]?=some rows[i]:=getElem?_eq_getElem hi;rw[e2] at hd';cases hd';exact hs i us[i] rows[i] H N S hu1 e2 hr sH n1 s1
variable {pins:PnL}{σ:St}{e o:Expr}{es:List Expr}{ta:TE}{t:TA}{E:XK}{m:Str}{pos apos:Pos}{k:Nat}{f C:Addr}{fd:FuncData}{ps:List Str}{sp:Sp}
theorem zhn{pl:Sem Bool}(he:PE X o ta)(c:Cls X.K C)(hm:yT X.K C m f)(F:zx X.prog X.w X.K X.mg X.base (CXs X.prog X.w) k f fd ps sp)(hr:yf k X.A)(hb:zN X.K fd ps [])(hp:za2 X pins σ E)(ha:PA X (e::es) t)
  (hst:starEach (e::es) X.env=(false,eval e X.env)::starEach es X.env:=by rfl) (hpl:(backTo pos (starEach es X.env)).any (·.1)=false:=by rfl)
  (ht:eval (.Call (.Attribute o m apos) (e::es) [] pos) X.env=(do
   let ov <- eval o X.env
   standAt apos.atName
   let (f,first) <- holding [ov] (getMethod ov m pl)
   callWith pos f first (backTo pos (starEach (e::es) X.env)) (backToKw pos (keywordEach [] X.env))):=by rfl) :
  PE1 X pins σ (.Call (.Attribute o m apos) (e::es) [] pos) (zez C m sp [] E ta t):=by
 exists fun s H Q I h=>?_;refine methodCall_KW (pl:=pl) (thn (he pins s σ H _ I h) fun u s1 ⟨x,H1,I1,rx,a,dx,fs,ex,ea,l,q⟩=>?_) ht;subst ex;obtain rfl:u=Value.ref a:=rx;refine ve I1 ea c hm l ?_;refine callWith_K (first:=[.ref a]) (h₀:=X.base) I.ok.mod.kin hm.kp (thn (ha pos pins s1 σ H1 _ I1 q) fun us s2 ⟨vs,H2,I2,r,q2⟩=>⟨I2.kIn,?_⟩) hst hpl
 have r2:zX ((.ref a::vs)++[]) ((.ref a::us)++[]):=zX.append (.cons rfl r) .nil;have hl:((.ref a::us)++[]:List Value).length=ps.length:=by rw[<- r2.length];exact F.len _ _ _ _ q2
 refine wpAny_call (codeAny_mono (F.run X.A X.stack s2 H2 ⟨.ref a::us,[]⟩ ((.ref a::us)++[]) ((.ref a::vs)++[]) Q E hr I2.env0 (hb s2 (.ref a::us) I2.kIn hl) r2 q2) fun r s' hq=>?_);cases r with
 | error e=>exact hp H2 s2 e s' I2 hq
 | ok fl=>
  cases fl with
  | ret u=>exact I2.after hq
  | next=>exact False.elim hq
  | brk=>exact False.elim hq
  | cont=>exact False.elim hq
end
end L2
namespace K43
open PySem L2 PyProof.Rows
structure uh(mg:Str->Option Value):Prop where
 isi:mg "isinstance"=none
 int:mg "int"=none
 len:mg "len"=none
 range:mg "range"=none
 list:mg "list"=none
 zip:mg "zip"=none
 max:mg "max"=none
inductive zeH(K:Frag)(vs:List V)(H:Hp)(Q:VK)(E:XK):Prop|mk(a:Addr)(ns:List Int)(k:Nat):vs=[.ref a,.int k]->SqL K H a (ns.map V.int)->(∀n:Int,Q (.int n) H)->zeH K vs H Q E
inductive zeI(vs:List V)(H:Hp)(Q:VK)(E:XK):Prop|mk(c:Int)(k:Nat):vs=[.int c,.int k]->k<=1000->(∀m:Int,0<=m->m<2147483587->Q (.int m) H)->zeI vs H Q E
section
variable {P:Program}{w:World}{K:Frag}{mg:Str->Option Value}{base:Heap}{f:Addr}{fd:FuncData}
theorem zkC:zq ["_law_script","_law_k"] ["_law_script","_law_k"] (zj zjb):=fsc
theorem zjE(F:Fun K "_law_nth" "_law_nth" zjb f fd)(T:uh mg):zx P w K mg base CX0 1 f fd ["_law_script","_law_k"] (zeH K):=by
 refine F.ok zkC (fun cdv A outer s H vs Q E hr h=>?_);obtain⟨a,ns,k,rfl,hS,q⟩:=h;exists _,zc (zu (jU (zn vy (pv 1) (cB zK T.len PySem.boot_len (ac (pv 0) zb)) (zz _)) (zy zL (pv 0) (pv 1) (fun _ _=>rfl)) zi)),?_;exists _,rfl,_,rfl,a,_,rfl,.inl hS,_,_,rfl,rfl,_,rfl,?_;refine vW (fun c=>?_) (fun c=>q 0);have c':(k:Int)<((ns.map V.int).length:Int):=of_decide_eq_true c;rw[length_map] at c';have hk:k<ns.length:=by omega
 exists _,rfl,_,rfl,a,_,(k:Int),.int ns[k],rfl,rfl,hS,yO (by rw[getElem?_map,getElem?_eq_getElem hk];rfl),q _
theorem zin:zq ["_law_cell","_law_k","_law_number"] ["_law_cell","_law_k"] (zj zjc):=fsc
theorem zjG(F:Fun K "_law_mix" "_law_mix" zjc f fd):zx P w K mg base CX0 1 f fd ["_law_cell","_law_k"] zeI:=by
 refine F.ok zin (fun cdv A outer s H vs Q E hr h=>?_);obtain⟨c,k,rfl,hk,q⟩:=h;refine⟨_,zh (zw (i:=2) zin.nd rfl (Or.inl rfl) (zt yd (zt yz (zt yz (zt xB (zt yd (pv 0) zi) zi) (zt xB (zt xB (pv 1) (pv 1)) zi)) (zt xB zi (pv 1))) zi))
  (zc (zu (zt yd (zt yz (zt yz (zt xB (pv 2) (pv 2)) (zt xB zi (pv 2))) (pv 1)) zi))),?_⟩
 have k0:(0:Int)<=(k:Int):=by omega
 have k1:(k:Int)<=1000:=by omega
 exists _,rfl,_,_,rfl,rfl,(by show(0:Int)<2147483629;decide),_,_,rfl,rfl,.inr ⟨by decide,by decide⟩,_,rfl,_,rfl,_,_,rfl,rfl,.inl ⟨by omega,by omega⟩,_,_,rfl,rfl,.inr ⟨by decide,by decide⟩,_,_,rfl,rfl,_,rfl,_,_,rfl,rfl,.inl ⟨by decide,by decide⟩,_,_,rfl,rfl,_,_,rfl,rfl,(by show(0:Int)<2147483647;decide),?_
 have h1 : 0<=(c % 2147483629 * 48271+(k:Int) * (k:Int) * 7919+31 * (k:Int)) % 2147483647:=emod_nonneg _ (by decide)
 have h2:(c % 2147483629 * 48271+(k:Int) * (k:Int) * 7919+31 * (k:Int)) % 2147483647<2147483647:=emod_lt_of_pos _ (by decide)
 exists _,rfl,_,rfl,_,_,rfl,rfl,.inl ⟨by omega,by omega⟩,_,rfl,_,_,rfl,rfl,.inl ⟨by decide,by decide⟩,_,_,rfl,rfl,_,rfl,_,_,rfl,rfl,_,_,rfl,rfl,(by show(0:Int)<2147483587;decide),q _ (emod_nonneg _ (by decide)) (emod_lt_of_pos _ (by decide))
theorem zj7:∀m,m<26->(Str.ofString "abcdefghijklmnopqrstuvwxyz").cps.toList[m]?=some (97+m):=by decide +kernel
theorem zls:∀m,m<2->(Str.ofString "ab").cps.toList[m]?=some (97+m):=by decide +kernel
structure Abc(z:Str)(n:Nat):Prop where
 len:z.length=n
 pos : 0<n
 le:n<=26
 at_:∀m,m<n->z.cps.toList[m]?=some (97+m)
theorem zlr:Abc "abcdefghijklmnopqrstuvwxyz" 26:=⟨by decide +kernel,by decide,by decide,zj7⟩
theorem zmm:Abc "ab" 2:=⟨by decide +kernel,by decide,by decide,zls⟩
theorem zf8{z:Str}{ch:Nat}(hz:∀c∈z.cps.toList,97<=c/\c<=122)(hc : 97<=ch/\ch<=122):∀c∈(z++(⟨#[ch]⟩:Str)).cps.toList,97<=c/\c<=122:=by
 intro c h;rw[zh9] at h;rcases List.mem_append.mp h with h|h
 ·exact hz c h
 ·have:c=ch:=by simpa using h
  rw[this];exact hc
inductive zeG(K:Frag)(vs:List V)(H:Hp)(Q:VK)(E:XK):Prop|mk(c:Int):vs=[.int c]->(∀(r:Addr) (zs:List Str) (H':Hp),zo H H'->H r=none->H' r=some (.lst (zs.map V.str))->zs.Nodup->(∀z∈zs,xn z=true)->0<zs.length->zs.length<=12->Q (.ref r) H')->zeG K vs H Q E
theorem xc{z:Str}:∀{zs:List Str},inV (.str z) (zs.map V.str)=decide (z∈zs)
 | []=>by simp [inV]
 | y::ys=>by
  have ih:=xc (z:=z) (zs:=ys);show(eqV (.str y) (.str z)||inV (.str z) (ys.map V.str))=_
  rw[ih]
  have:eqV (.str y) (.str z)=decide (z=y):=by
   show(y==z)=_;rw[Bool.eq_iff_iff,beq_iff_eq,decide_eq_true_eq];exact⟨Eq.symm,Eq.symm⟩
  rw[this];simp
theorem xD:∀{zs:List Str},(zs.map V.str).all xf=true
 | []=>rfl
 | _::ys=>by
  show(true&&(ys.map V.str).all xf)=true;rw[xD];rfl
theorem wB:zq ["_law_cell","_law_letters","_law_pool_here","_law_k","_law_number","_law_rest","_law_name","_law_j"] ["_law_cell"] (zj ze0):=fsc
theorem zhv{g:Addr}{gd:FuncData}(F:Fun K "_law_pool" "_law_pool" ze0 f fd)(T:uh mg)(cM:zI P w K mg base 1 "_law_mix" g gd ["_law_cell","_law_k"] zeI):zx P w K mg base CX0 2 f fd ["_law_cell"] (zeG K):=by
 refine F.ok wB (fun cdv A outer s H vs Q E hr h=>?_);obtain⟨cc,rfl,q⟩:=h;refine⟨_,zh (zw (i:=1) wB.nd rfl (Or.inl rfl) (zy zL (yg (ac zr (ac zr zb))) (zt yd (pv 0) zi) (fun _ _=>rfl)))
  (zh (zw (i:=2) wB.nd rfl (Or.inl rfl) (yg zb))
  (zh (yD PassesOwn.never rfl (yG rfl T.range (ac zi zb)) (zp (i:=3) wB.nd rfl (Or.inl rfl))
   (zh (zw (i:=4) wB.nd rfl (Or.inl rfl) (cF cM hr (ac (pv 0) (ac (pv 3) zb))))
   (zh (zw (i:=5) wB.nd rfl (Or.inl rfl) (zt yu (pv 4) zi))
   (zh (zw (i:=6) wB.nd rfl (Or.inl rfl) zr)
   (zh (yD PassesOwn.never rfl (yG rfl T.range (ac (zt yz zi (zt yd (pv 4) (zy zL (yg (ac zi (ac zi zb))) (zt yd (pv 0) zi) (fun _ _=>rfl)))) zb)) (zp (i:=7) wB.nd rfl (Or.inl rfl))
    (zh (zw (i:=6) wB.nd rfl (Or.inl rfl) (zt zct (pv 6) (zy zjT (pv 1) (zt yd (pv 5) (cB xY T.len PySem.boot_len (ac (pv 1) zb))) (fun _ _=>rfl))))
    (zc (zw (i:=5) wB.nd rfl (Or.inl rfl) (zt yu (pv 5) (cB xY T.len PySem.boot_len (ac (pv 1) zb)))))))
   (zc (zE (zn xA (pv 6) (pv 2) (by with_unfolding_all rfl)) (zc (zG (yv PySem.F.plainAttrs_list PySem.F.slot_list_append PySem.F.type_list_append zH (pv 2) (ac (pv 6) zb)))) zA)))))))
  (zc (zu (pv 2))))),?_⟩
 exists yN,fun l0 hl0=>?_
 injections l0 hl0 H0 s0 g0
 obtain⟨L,nL,hA,bb,hb,hbp,hb8,hat,hatb⟩:∃(L:Str) (nL:Nat),Abc L nL/\∃bb:Nat,(bb=3\/bb=8)/\0<bb/\bb<=8/\atI ([.str "ab",.str "abcdefghijklmnopqrstuvwxyz"]:List V) (cc % 2)=some (.str L)/\atI ([.int 3,.int 8]:List V) (cc % 2)=some (.int (bb:Nat)):=by
  have h:cc % 2=0\/cc % 2=1:=by omega
  rcases h with h|h
  ·exact⟨"ab",2,zmm,3,.inl rfl,by decide,by decide,by rw[h];rfl,by rw[h];rfl⟩
  ·exact⟨_,26,zlr,8,.inr rfl,by decide,by decide,by rw[h];rfl,by rw[h];rfl⟩
 exists _,rfl,_,_,rfl,rfl,zp2,l0,_,_,.str L,rfl,rfl,zg g0,hat,?_;exists wj,fun lp hlp=>?_;dsimp only[zS]
 injections lp hlp H1 s1 g1
 have s01:=s0.trans s1;have nlp:H lp=none:=s0.free hlp;exists 12,rfl,by decide,by decide,?_
 refine wT (n:=12) (fun i σ H'=>∃(zs:List Str) (v3 v4 v5 v6 v7:Option V),σ=[some (.int cc),some (.str L),some (.ref lp),v3,v4,v5,v6,v7]/\zo H H'/\H' lp=some (.lst (zs.map V.str))/\zs.Nodup/\(∀z∈zs,xn z=true)/\zs.length<=i/\(0<i->0<zs.length)) ⟨[],_,_,_,_,_,rfl,s01,g1,nodup_nil,(fun _ h=>nomatch h),le_refl _,fun h=>absurd h (by decide)⟩ ?_ ?_
 rotate_left
 ·rintro σ H2 ⟨zs,v3,v4,v5,v6,v7,rfl,s2,e2,nd,nm,ln,l0'⟩
  exact⟨_,rfl,q lp zs H2 s2 nlp e2 nd nm (l0' (by decide)) ln⟩
 rintro i σ H2 hi ⟨zs,v3,v4,v5,v6,v7,rfl,s2,e2,nd,nm,ln,l0'⟩;rw[Int.zero_add];exists _,rfl,_,rfl,cc,i,rfl,by omega,fun m m0 m1=>?_
 exists _,rfl,_,_,rfl,rfl,⟨by decide,by decide⟩,?_
 have b0 : 0<=m % (bb:Int):=emod_nonneg _ (by omega)
 have b1:m % (bb:Int)<(bb:Int):=emod_lt_of_pos _ (by omega)
 exists _,rfl,yN,fun l3 hl3=>?_
 injections l3 hl3 H3 s3 g3
 have s13:=s2.trans s3;have e3:=s3 _ _ e2;exists _,rfl,_,_,rfl,rfl,zp2,l3,_,_,.int (bb:Nat),rfl,rfl,zg g3,hatb,_,_,rfl,rfl,(by show(0:Int)<(bb:Int);omega),_,_,rfl,rfl,1+m % (bb:Int),rfl,by omega,by omega,?_
 have hn:(1+m % (bb:Int)).toNat<=8/\1<=(1+m % (bb:Int)).toNat:=by omega
 generalize (1+m % (bb:Int)).toNat=n at hn;refine wT (n:=n) (fun j σ H'=>∃(r:Int) (z:Str) (v7:Option V),σ=[some (.int cc),some (.str L),some (.ref lp),some (.int (i:Nat)),some (.int m),some (.int r),some (.str z),v7]/\H'=H3/\z.length=j/\∀c∈z.cps.toList,97<=c/\c<=122)
  ⟨m / 8,"",_,rfl,rfl,rfl,fun c hc=>by rw[show("" : Str).cps.toList=[] from zhL] at hc;cases hc⟩ ?_ ?_
 ·rintro j σ H' hj ⟨r,z,v7,rfl,rfl,hl,hc⟩
  have lenL:(L.length:Int)=(nL:Int):=by rw[hA.len]
  have szL:L.length<=sizeLine:=by rw[hA.len];exact yj (by have:=hA.le;omega)
  have p0:=hA.pos;have p26:=hA.le;have d0 : 0<=r % (nL:Int):=emod_nonneg _ (by omega)
  have d1:r % (nL:Int)<(nL:Int):=emod_lt_of_pos _ (by omega)
  obtain⟨k,hk⟩:=eq_ofNat_of_zero_le d0;have hkn:k<nL:=by omega
  exists _,rfl,_,rfl,_,rfl,_,rfl,L,rfl,szL,_,_,rfl,rfl,(by rw[lenL];omega),L,_,97+k,rfl,rfl,szL,(by rw[lenL,hk];exact yO (hA.at_ k hkn)),_,_,rfl,rfl,(by rw[hl];exact yj (by show j+1<=1000;omega)),?_
  exists _,rfl,_,rfl,L,rfl,szL,_,_,rfl,rfl,⟨by rw[lenL];omega,by rw[lenL];omega⟩,?_
  exists _,_,_,rfl,rfl,?_,zf8 hc (by omega)
  rw[zh8,hl];rfl
 ·rintro σ H' ⟨r,z,v7,rfl,rfl,hl,hc⟩
  have hzn:xn z=true:=uQ.mpr ⟨by omega,by omega,hc⟩
  exists _,rfl,_,rfl,lp,_,rfl,.inl (zg e3),rfl,xD,_,rfl,?_;by_cases hm:z∈zs
  ·refine yW (by rw[if_pos rfl,xc,decide_eq_true hm];rfl) ?_
   exact⟨zs,_,_,_,_,_,rfl,s13,e3,nd,nm,le_succ_of_le ln,fun _=>List.length_pos_of_mem hm⟩
  ·refine xE (by rw[if_pos rfl,xc,decide_eq_false hm];rfl) ?_
   exists _,rfl,.inl ⟨rfl,_,zg e3⟩,_,rfl,lp,_,_,rfl,rfl,e3,zC (by rw[length_map];omega),?_
   refine⟨zs++[z],_,_,_,_,_,rfl,fun b u e=>by rw[zf (zd e nlp)];exact s13 _ _ e,by rw[za,map_append];rfl,List.nodup_append.mpr ⟨nd,by simp,fun x hx y hy e=>hm (by rw[<- List.mem_singleton.mp hy,<- e];exact hx)⟩,fun y hy=>?_,by rw[length_append];exact Nat.succ_le_succ ln,fun _=>by rw[length_append];exact Nat.succ_pos _⟩
   rcases List.mem_append.mp hy with hy|hy
   ·exact nm y hy
   ·rw[List.mem_singleton.mp hy];exact hzn
theorem zbo{l g:Nat}{r:Rw}{rs:List Rw}(hg:grp r.k=g)(hb:xR l g=false)(h:yQ g rs=true):yQ l (r::rs)=true:=by
 show(!xR l (grp r.k)&&yQ (grp r.k) rs)=true;rw[hg,hb,h];rfl
theorem jX{g:Nat}(he:xR g g=false):∀(xs ys:List Rw) (l:Nat),xR l g=false->(∀r∈xs,grp r.k=g)->yQ l ys=true->yQ g ys=true->yQ l (xs++ys)=true
 | [],_,_,_,_,h1,_=>h1
 | r::rs,ys,l,hb,hg,_,h2=>zbo (hg r mem_cons_self) hb (jX he rs ys g he (fun x hx=>hg x (mem_cons_of_mem _ hx)) h2 h2)
theorem zdf{g l:Nat}{xs ys:List Rw}(hl:xs.length<=1)(hb:xR l g=false)(hg:∀r∈xs,grp r.k=g)(h1:yQ l ys=true)(h2:yQ g ys=true):yQ l (xs++ys)=true:=by
 match xs,hl with
 | [],_=>exact h1
 | [r],_=>exact zbo (hg r mem_cons_self) hb h2
theorem zhp{xs0 xs1 xs2 xs3:List Rw}(g0:∀r∈xs0,grp r.k=0)(g1:∀r∈xs1,grp r.k=1)(l1:xs1.length<=1)(g2:∀r∈xs2,grp r.k=2)(g3:∀r∈xs3,grp r.k=3)(l3:xs3.length<=1):yQ 0 (xs0++(xs1++(xs2++xs3)))=true:=by
 have h3:∀l,l<=2->yQ l xs3=true:=fun l hl=>by
  have:=zdf (g:=3) (l:=l) (ys:=[]) l3 (by match l,hl with|0,_=>rfl|1,_=>rfl|2,_=>rfl) g3 rfl rfl
  rwa [append_nil] at this
 have h2:∀l,l<=1->yQ l (xs2++xs3)=true:=fun l hl=>jX (g:=2) rfl xs2 xs3 l (by match l,hl with|0,_=>rfl|1,_=>rfl) g2 (h3 l (by omega)) (h3 2 (by omega))
 have h1:yQ 0 (xs1++(xs2++xs3))=true:=zdf (g:=1) l1 rfl g1 (h2 0 (by omega)) (h2 1 (by omega))
 exact jX (g:=0) rfl xs0 _ 0 rfl g0 h1 h1
theorem vO(a b:List Rw):nms (a++b)=nms a++nms b:=by unfold nms;rw[filter_append,map_append]
theorem zaM(r:Rw):nms [r]=if xx r.k=true then [r.z] else []:=by
 unfold nms;cases h:xx r.k <;> simp [h]
theorem zj0{k:Nat}(hk:k<5)(h:xx k=true):grp k=0\/grp k=2:=by
 rcases lt5 hk with rfl|rfl|rfl|rfl|rfl <;> first|(exact .inl rfl)|(exact .inr rfl)|(cases h)
theorem zdh{xs:List Rw}{g:Nat}(hg:∀r∈xs,r.ok/\grp r.k=g)(h:g % 2=1):nms xs=[]:=by
 unfold nms;rw[List.filter_eq_nil_iff.mpr (fun r hr e=>?_)]
 ·rfl
 ·obtain⟨ho,q⟩:=hg r hr
  rcases zj0 ho.1 e with z|z <;> rw[z] at q <;> rw[<- q] at h <;> cases h
structure FS where
 (P T G B:List Rw) (L:List Str)
def FS.add(S:FS)(k:Nat)(z:Str)(b:Bool):FS:=match k with
 | 0=>{ S with P:=S.P++[⟨0,z,b⟩] }
 | 1=>{ S with P:=S.P++[⟨1,z,b⟩],L:=S.L++[z] }
 | 2=>{ S with T:=[⟨2,z,b⟩] }
 | 3=>{ S with G:=S.G++[⟨3,z,b⟩],L:=S.L++[z] }
 | _=>{ S with B:=[⟨4,z,b⟩] }
structure FM(i:Nat)(S:FS):Prop where
 okP:∀r∈S.P,r.ok/\grp r.k=0
 okT:∀r∈S.T,r.ok/\grp r.k=1
 okG:∀r∈S.G,r.ok/\grp r.k=2
 okB:∀r∈S.B,r.ok/\grp r.k=3
 lT:S.T.length<=1
 lB:S.B.length<=1
 nd:(nms S.P++nms S.G).Nodup
 sn:∀z∈nms S.P++nms S.G,z∈S.L
 ln:S.P.length+S.T.length+S.G.length+S.B.length<=i
 lL:S.L.length<=i
theorem j5{α : Type}{xs:List α}{y : α}{p : α->Prop}(h:∀x∈xs,p x)(hy:p y):∀x∈xs++[y],p x:=fun x hx=>by
 rcases List.mem_append.mp hx with hx|hx
 ·exact h x hx
 ·rw[List.mem_singleton.mp hx];exact hy
theorem FM.zero:FM 0 ⟨[],[],[],[],[]⟩:=by
 refine⟨?_,?_,?_,?_,?_,?_,?_,?_,?_,?_⟩ <;> first|exact(fun _ h=>nomatch h)|exact zero_le _|exact nodup_nil|exact le_refl _
theorem zf7{a b:List Str}{z:Str}(h:(a++b).Nodup)(hz:z∉a++b):(a++[z]++b).Nodup:=by
 have p:(a++[z]++b).Perm (z::(a++b)):=by
  rw[append_assoc];exact List.perm_middle
 exact p.nodup_iff.mpr (List.nodup_cons.mpr ⟨hz,h⟩)
theorem FM.add{i:Nat}{S:FS}{k:Nat}{z:Str}{b:Bool}(h:FM i S)(hk:k<5)(hz:xn z=true)(hn:xx k=true->z∉S.L):FM (i+1) (S.add k z b):=by
 have ln:=h.ln;have lL:=h.lL;have lT:=h.lT;have lB:=h.lB
 match k,hk with
 | 0,_=>
  have e:nms (S.P++[⟨0,z,b⟩])=nms S.P:=by rw[vO,zaM];simp [xx]
  exact⟨j5 h.okP ⟨⟨lt_of_sub_eq_succ rfl,hz⟩,rfl⟩,h.okT,h.okG,h.okB,h.lT,h.lB,by show(nms (S.P++_)++nms S.G).Nodup;rw[e];exact h.nd,by show ∀y∈nms (S.P++_)++nms S.G,y∈S.L;rw[e];exact h.sn,
   by show(S.P++[_]).length+S.T.length+S.G.length+S.B.length<=i+1;rw[length_append,length_singleton];omega,le_succ_of_le h.lL⟩
 | 1,_=>
  have e:nms (S.P++[⟨1,z,b⟩])=nms S.P++[z]:=by rw[vO,zaM];simp [xx]
  have nz:z∉nms S.P++nms S.G:=fun m=>hn rfl (h.sn z m);refine⟨j5 h.okP ⟨⟨lt_of_sub_eq_succ rfl,hz⟩,rfl⟩,h.okT,h.okG,h.okB,h.lT,h.lB,by show(nms (S.P++_)++nms S.G).Nodup;rw[e];exact zf7 h.nd nz,?_,
   by show(S.P++[_]).length+S.T.length+S.G.length+S.B.length<=i+1;rw[length_append,length_singleton];omega,by show(S.L++[_]).length<=i+1;rw[length_append,length_singleton];omega⟩
  show ∀y∈nms (S.P++_)++nms S.G,y∈S.L++[z];rw[e];intro y hy;rw[mem_append,mem_append] at hy;rcases hy with (hy|hy)|hy
  ·exact mem_append_left _ (h.sn y (mem_append_left _ hy))
  ·exact mem_append_right _ hy
  ·exact mem_append_left _ (h.sn y (mem_append_right _ hy))
 | 2,_=>
  exists h.okP,fun r hr=>?_,h.okG,h.okB,le_refl _,h.lB,h.nd,h.sn,?_,le_succ_of_le h.lL
  ·rw[List.mem_singleton.mp hr];exact⟨⟨lt_of_sub_eq_succ rfl,hz⟩,rfl⟩
  ·show S.P.length+1+S.G.length+S.B.length<=i+1
   omega
 | 3,_=>
  have e:nms (S.G++[⟨3,z,b⟩])=nms S.G++[z]:=by rw[vO,zaM];simp [xx]
  have nz:z∉nms S.P++nms S.G:=fun m=>hn rfl (h.sn z m);refine⟨h.okP,h.okT,j5 h.okG ⟨⟨lt_of_sub_eq_succ rfl,hz⟩,rfl⟩,h.okB,h.lT,h.lB,?_,?_,
   by show S.P.length+S.T.length+(S.G++[_]).length+S.B.length<=i+1;rw[length_append,length_singleton];omega,by show(S.L++[_]).length<=i+1;rw[length_append,length_singleton];omega⟩
  ·show(nms S.P++nms (S.G++_)).Nodup
   rw[e,<- append_assoc]
   have:=zf7 (a:=nms S.P++nms S.G) (b:=[]) (z:=z) (by rw[append_nil];exact h.nd) (by rw[append_nil];exact nz)
   rwa [append_nil] at this
  ·show ∀y∈nms S.P++nms (S.G++_),y∈S.L++[z]
   rw[e];intro y hy;rw[mem_append,mem_append] at hy;rcases hy with hy|hy|hy
   ·exact mem_append_left _ (h.sn y (mem_append_left _ hy))
   ·exact mem_append_left _ (h.sn y (mem_append_right _ hy))
   ·exact mem_append_right _ hy
 | 4,_=>
  exists h.okP,h.okT,h.okG,fun r hr=>?_,h.lT,le_refl _,h.nd,h.sn,?_,le_succ_of_le h.lL
  ·rw[List.mem_singleton.mp hr];exact⟨⟨lt_of_sub_eq_succ rfl,hz⟩,rfl⟩
  ·show S.P.length+S.T.length+S.G.length+1<=i+1
   omega
def FS.rows(S:FS):List Rw:=S.P++S.T++S.G++S.B
theorem FM.valid{i:Nat}{S:FS}{bars:List Str}(h:FM i S)(hi:i<=24)(lb:bars.length<=60)(bn:∀z∈bars,xn z=true)(bd:bars.Nodup)(bl:∀z∈bars,z∉S.L):zdC S.rows bars:=by
 have en:nms S.rows=nms S.P++nms S.G:=by
  unfold FS.rows;rw[vO,vO,vO,zdh h.okT rfl,zdh h.okB rfl,append_nil,append_nil]
 exists fun r hr=>?_,?_,lb,?_,bn,?_
 ·unfold FS.rows at hr
  rw[mem_append,mem_append,mem_append] at hr;rcases hr with ((hr|hr)|hr)|hr
  ·exact(h.okP r hr).1
  ·exact(h.okT r hr).1
  ·exact(h.okG r hr).1
  ·exact(h.okB r hr).1
 ·unfold FS.rows
  have:=h.ln
  simp only[length_append];omega
 ·unfold FS.rows
  rw[append_assoc,append_assoc];exact zhp (fun r hr=>(h.okP r hr).2) (fun r hr=>(h.okT r hr).2) h.lT (fun r hr=>(h.okG r hr).2) (fun r hr=>(h.okB r hr).2) h.lB
 ·rw[en]
  exact List.nodup_append.mpr ⟨h.nd,bd,fun x hx y hy e=>bl y hy (e ▸ h.sn x hx)⟩
theorem TAt.keep{H:Hp}{v D:Addr}{r:Rw}{o:HO}(h:TAt H v r)(hD:∀vs,H D≠some (.tup vs)):TAt (upd H D o) v r:=by
 show upd H D o v=_;rw[zf (fun e=>by subst e;exact hD _ h)]
 exact h
def uA(H:Hp)(l:Addr)(rows:List Rw):Prop:=∃us:List Addr,H l=some (.lst (us.map V.ref))/\Paired (TAt H) us rows
theorem uA.same{H H':Hp}{l:Addr}{rows:List Rw}(h:uA H l rows)(s:zo H H'):uA H' l rows:=let ⟨us,h1,h2⟩:=h;⟨us,s _ _ h1,zU s h2⟩
theorem uA.keep{H:Hp}{l D:Addr}{rows:List Rw}{o:HO}(h:uA H l rows)(ne:l≠D)(hD:∀vs,H D≠some (.tup vs)):uA (upd H D o) l rows:=
 let ⟨us,h1,h2⟩:=h
 ⟨us,by rw[zf ne];exact h1,zm (fun _ _ z=>z.keep hD) h2⟩
theorem uA.snoc{H:Hp}{l u:Addr}{rows:List Rw}{r:Rw}{us:List Addr}(h1:H l=some (.lst (us.map V.ref)))(h2:Paired (TAt H) us rows)(hu:TAt H u r):uA (upd H l (.lst (us.map V.ref++[.ref u]))) l (rows++[r]):=by
 have hD:∀vs,H l≠some (.tup vs):=fun vs e=>by rw[h1] at e;cases e
 exists us++[u],by rw[za,map_append];rfl,Paired.snoc (zm (fun _ _ z=>z.keep hD) h2) (hu.keep hD)
structure FI(H H':Hp)(lg g0 g1 g2 g3 ll:Addr)(S:FS):Prop where
 sm:zo H H'
 gg:H' lg=some (.lst [.ref g0,.ref g1,.ref g2,.ref g3])
 h0:uA H' g0 S.P
 h1:uA H' g1 S.T
 h2:uA H' g2 S.G
 h3:uA H' g3 S.B
 hl:H' ll=some (.lst (S.L.map V.str))
 nd:[lg,g0,g1,g2,g3,ll].Nodup
 fr:∀x∈[lg,g0,g1,g2,g3,ll],H x=none
variable {H H' H'':Hp}{lg g0 g1 g2 g3 ll u:Addr}{S:FS}{r:Rw}{z:Str}{b:Bool}{us:List Addr}
theorem FI.same(h:FI H H' lg g0 g1 g2 g3 ll S)(s:zo H' H''):FI H H'' lg g0 g1 g2 g3 ll S:=⟨h.sm.trans s,s _ _ h.gg,h.h0.same s,h.h1.same s,h.h2.same s,h.h3.same s,s _ _ h.hl,h.nd,h.fr⟩
theorem FI.smU(h:FI H H' lg g0 g1 g2 g3 ll S){l:Addr}(hl:H l=none){o:HO}:zo H (upd H' l o):=fun b u e=>by rw[zf (zd e hl)];exact h.sm _ _ e
theorem FI.ne(h:FI H H' lg g0 g1 g2 g3 ll S):lg≠g0/\lg≠g1/\lg≠g2/\lg≠g3/\lg≠ll/\g0≠g1/\g0≠g2/\g0≠g3/\g0≠ll/\g1≠g2/\g1≠g3/\g1≠ll/\g2≠g3/\g2≠ll/\g3≠ll:=by
 have:=h.nd
 simp only[List.nodup_cons,mem_cons,not_mem_nil,or_false,not_or] at this;obtain⟨⟨a1,a2,a3,a4,a5⟩,⟨b1,b2,b3,b4⟩,⟨c1,c2,c3⟩,⟨d1,d2⟩,e1,_⟩:=this;exact⟨a1,a2,a3,a4,a5,b1,b2,b3,b4,c1,c2,c3,d1,d2,e1⟩
theorem FI.addL(h:FI H H' lg g0 g1 g2 g3 ll S):FI H (upd H' ll (.lst (S.L.map V.str++[.str z]))) lg g0 g1 g2 g3 ll { S with L:=S.L++[z] }:=by
 have hD:∀vs,H' ll≠some (.tup vs):=fun vs e=>by rw[h.hl] at e;cases e
 obtain⟨a1,a2,a3,a4,a5,b1,b2,b3,b4,c1,c2,c3,d1,d2,e1⟩:=h.ne;exact⟨h.smU (h.fr ll (by simp)),by rw[zf a5];exact h.gg,h.h0.keep b4 hD,h.h1.keep c3 hD,h.h2.keep d2 hD,h.h3.keep e1 hD,by rw[za,map_append];rfl,h.nd,h.fr⟩
theorem FI.add0(h:FI H H' lg g0 g1 g2 g3 ll S)(hh:H' g0=some (.lst (us.map V.ref)))(h2:Paired (TAt H') us S.P)(hu:TAt H' u r):FI H (upd H' g0 (.lst (us.map V.ref++[.ref u]))) lg g0 g1 g2 g3 ll { S with P:=S.P++[r] }:=by
 have hD:∀vs,H' g0≠some (.tup vs):=fun vs e=>by rw[hh] at e;cases e
 obtain⟨a1,a2,a3,a4,a5,b1,b2,b3,b4,c1,c2,c3,d1,d2,e1⟩:=h.ne;exact⟨h.smU (h.fr g0 (by simp)),by rw[zf a1];exact h.gg,.snoc hh h2 hu,h.h1.keep b1.symm hD,h.h2.keep b2.symm hD,h.h3.keep b3.symm hD,by rw[zf b4.symm];exact h.hl,h.nd,h.fr⟩
theorem FI.add2(h:FI H H' lg g0 g1 g2 g3 ll S)(hh:H' g2=some (.lst (us.map V.ref)))(h2:Paired (TAt H') us S.G)(hu:TAt H' u r):FI H (upd H' g2 (.lst (us.map V.ref++[.ref u]))) lg g0 g1 g2 g3 ll { S with G:=S.G++[r] }:=by
 have hD:∀vs,H' g2≠some (.tup vs):=fun vs e=>by rw[hh] at e;cases e
 obtain⟨a1,a2,a3,a4,a5,b1,b2,b3,b4,c1,c2,c3,d1,d2,e1⟩:=h.ne;exact⟨h.smU (h.fr g2 (by simp)),by rw[zf a3];exact h.gg,h.h0.keep b2 hD,h.h1.keep c1 hD,.snoc hh h2 hu,h.h3.keep d1.symm hD,by rw[zf d2.symm];exact h.hl,h.nd,h.fr⟩
theorem FI.add1(h:FI H H' lg g0 g1 g2 g3 ll S)(hT:S.T=[])(hu:TAt H' u r):FI H (upd H' g1 (.lst [.ref u])) lg g0 g1 g2 g3 ll { S with T:=[r] }:=by
 obtain⟨us,hh,h2⟩:=h.h1;rw[hT] at h2;cases h2;have hD:∀vs,H' g1≠some (.tup vs):=fun vs e=>by rw[hh] at e;cases e
 obtain⟨a1,a2,a3,a4,a5,b1,b2,b3,b4,c1,c2,c3,d1,d2,e1⟩:=h.ne;have sn:=uA.snoc hh .nil hu;exact⟨h.smU (h.fr g1 (by simp)),by rw[zf a2];exact h.gg,h.h0.keep b1 hD,sn,h.h2.keep c1.symm hD,h.h3.keep c2.symm hD,by rw[zf c3.symm];exact h.hl,h.nd,h.fr⟩
theorem FI.add3(h:FI H H' lg g0 g1 g2 g3 ll S)(hT:S.B=[])(hu:TAt H' u r):FI H (upd H' g3 (.lst [.ref u])) lg g0 g1 g2 g3 ll { S with B:=[r] }:=by
 obtain⟨us,hh,h2⟩:=h.h3;rw[hT] at h2;cases h2;have hD:∀vs,H' g3≠some (.tup vs):=fun vs e=>by rw[hh] at e;cases e
 obtain⟨a1,a2,a3,a4,a5,b1,b2,b3,b4,c1,c2,c3,d1,d2,e1⟩:=h.ne;have sn:=uA.snoc hh .nil hu;exact⟨h.smU (h.fr g3 (by simp)),by rw[zf a4];exact h.gg,h.h0.keep b3 hD,h.h1.keep c2 hD,h.h2.keep d1 hD,sn,by rw[zf e1.symm];exact h.hl,h.nd,h.fr⟩
structure VR(rows:List Rw):Prop where
 ok:∀r∈rows,r.ok
 l24:rows.length<=24
 ord:yQ 0 rows=true
 nd:(nms rows).Nodup
theorem FM.vr{i:Nat}{S:FS}(h:FM i S)(hi:i<=24):VR S.rows:=by
 have v:=h.valid (bars:=[]) hi (zero_le _) (fun _ h=>nomatch h) nodup_nil (fun _ h=>nomatch h);exact⟨v.ok,v.l24,v.ord,by have:=v.nd;rwa [append_nil] at this⟩
inductive zcS(K:Frag)(vs:List V)(H:Hp)(Q:VK)(E:XK):Prop|mk(a pa:Addr)(cs:List Int)(zs:List Str):vs=[.ref a,.ref pa]->SqL K H a (cs.map V.int)->cs.length<=20->H pa=some (.lst (zs.map V.str))->0<zs.length->(∀z∈zs,xn z=true)->(∀(la:Addr) (us:List Addr) (rows:List Rw) (H':Hp),zo H H'->H la=none->H' la=some (.lst (us.map V.ref))->Paired (TAt H') us rows->VR rows->Q (.ref la) H')->zcS K vs H Q E
theorem wW:zq ["_law_cells","_law_pool_here","_law_groups","_law_seen","_law_cell","_law_kind","_law_name","_law_loose_here"] ["_law_cells","_law_pool_here"] (zj zb7):=fsc
theorem zfE(F:Fun K "_law_specs" "_law_specs" zb7 f fd)(T:uh mg):zx P w K mg base CX0 1 f fd ["_law_cells","_law_pool_here"] (zcS K):=by
 refine F.ok wW (fun cdv A outer s H vs Q E hr h=>?_);obtain⟨a,pa,cs,zs,rfl,hS,l20,hpa,z0,hzn,q⟩:=h;have hU:=hr.units;have hU0:=hr.units0;refine⟨_,zh (zw (i:=2) wW.nd rfl (Or.inl rfl) (yg (ac (yg zb) (ac (yg zb) (ac (yg zb) (ac (yg zb) zb))))))
  (zh (zw (i:=3) wW.nd rfl (Or.inl rfl) (yg zb))
  (zh (yD PassesOwn.never rfl (yt (pv 0)) (zp (i:=4) wW.nd rfl (Or.inl rfl))
   (zh (zw (i:=5) wW.nd rfl (Or.inl rfl) (zt yd (pv 4) zi))
   (zh (zw (i:=6) wW.nd rfl (Or.inl rfl) (zy zL (pv 1) (zt yd (zt yu (pv 4) zi) (cB zK T.len PySem.boot_len (ac (pv 1) zb))) (fun _ _=>rfl)))
   (zh (zw (i:=7) wW.nd rfl (Or.inl rfl) (wv z9 (zt yd (zt yu (pv 4) zi) zi) zi (zz _)))
   (zc (zE (zn vy (pv 5) zi (zz _)) (zc (zG (yv PySem.F.plainAttrs_list PySem.F.slot_list_append PySem.F.type_list_append zH (zy zL (pv 2) zi (fun _ _=>rfl)) (ac (zQ (ac zr (ac (pv 6) (ac (pv 7) zb)))) zb))))
    (zc (zE (xi (y8 (zn z9 (pv 5) zi (zz _)) (yK (zn (OpR.or (zfw hU) (zbp hU0)) (zy zL (pv 2) zi (fun _ _=>rfl)) (yg zb) (zz _))))) (zc (zG (yv PySem.F.plainAttrs_list PySem.F.slot_list_append PySem.F.type_list_append zH (zy zL (pv 2) zi (fun _ _=>rfl)) (ac (zQ (ac zr (ac (pv 6) zb))) zb))))
     (zc (zE (xi (y8 (zn z9 (pv 5) zi (zz _)) (yK (zn (OpR.or (zfw hU) (zbp hU0)) (zy zL (pv 2) zi (fun _ _=>rfl)) (yg zb) (zz _))))) (zc (zG (yv PySem.F.plainAttrs_list PySem.F.slot_list_append PySem.F.type_list_append zH (zy zL (pv 2) zi (fun _ _=>rfl)) (ac (zQ (ac zr (ac (pv 6) zb))) zb))))
      (zc (zE (xi (y8 (zn y0 (pv 5) (zQ (ac zi (ac zi (ac zi zb)))) (by with_unfolding_all rfl)) (yK (zn xA (pv 6) (pv 3) (by with_unfolding_all rfl))))) (zh (zG (yv PySem.F.plainAttrs_list PySem.F.slot_list_append PySem.F.type_list_append zH (zy zL (pv 2) zi (fun _ _=>rfl)) (ac (zQ (ac zr (ac (pv 6) (ac (pv 7) zb)))) zb))) (zc (zG (yv PySem.F.plainAttrs_list PySem.F.slot_list_append PySem.F.type_list_append zH (pv 3) (ac (pv 6) zb)))))
       (zc (zE (xi (y8 (zn y0 (pv 5) (zQ (ac zi (ac zi zb))) (by with_unfolding_all rfl)) (yK (zn xA (pv 6) (pv 3) (by with_unfolding_all rfl))))) (zh (zG (yv PySem.F.plainAttrs_list PySem.F.slot_list_append PySem.F.type_list_append zH (zy zL (pv 2) zi (fun _ _=>rfl)) (ac (zQ (ac zr (ac (pv 6) (ac (pv 7) zb)))) zb))) (zc (zG (yv PySem.F.plainAttrs_list PySem.F.slot_list_append PySem.F.type_list_append zH (pv 3) (ac (pv 6) zb))))) zA))))))))))))))
  (zc (zu (zt xI (zt xI (zt xI (zy zL (pv 2) zi (fun _ _=>rfl)) (zy zL (pv 2) zi (fun _ _=>rfl))) (zy zL (pv 2) zi (fun _ _=>rfl))) (zy zL (pv 2) zi (fun _ _=>rfl))))))),?_⟩
 exists wj,fun g0 h0=>?_
 injections g0 h0 H0 s0 e0
 exists wj,fun g1 h1=>?_
 injections g1 h1 H1 s1 e1
 exists wj,fun g2 h2=>?_
 injections g2 h2 H2 s2 e2
 exists wj,fun g3 h3=>?_
 injections g3 h3 H3 s3 e3
 exists zkx,fun lg h4=>?_;dsimp only[zS]
 injections lg h4 H4 s4 e4
 exists wj,fun ll h5=>?_;dsimp only[zS]
 injections ll h5 H5 s5 e5
 have s01:=s0.trans s1;have s02:=s01.trans s2;have s03:=s02.trans s3;have s04:=s03.trans s4;have I0:FI H H5 lg g0 g1 g2 g3 ll ⟨[],[],[],[],[]⟩:=by
  have s15:=s2.trans (s3.trans (s4.trans s5));exists s04.trans s5,s5 _ _ e4,⟨[],s15 _ _ (s1 _ _ e0),.nil⟩,⟨[],s15 _ _ e1,.nil⟩,⟨[],s5 _ _ (s4 _ _ (s3 _ _ e2)),.nil⟩,⟨[],s5 _ _ (s4 _ _ e3),.nil⟩,e5,?_,?_
  ·simp only[List.nodup_cons,mem_cons,not_mem_nil,or_false,not_or,nodup_nil,not_false_iff,and_true]
   exact⟨⟨(zd (s3 _ _ (s2 _ _ (s1 _ _ e0))) h4).symm,(zd (s3 _ _ (s2 _ _ e1)) h4).symm,(zd (s3 _ _ e2) h4).symm,(zd e3 h4).symm,zd e4 h5⟩,⟨zd e0 h1,zd (s1 _ _ e0) h2,zd (s2 _ _ (s1 _ _ e0)) h3,zd (s4 _ _ (s3 _ _ (s2 _ _ (s1 _ _ e0)))) h5⟩,⟨zd e1 h2,zd (s2 _ _ e1) h3,zd (s4 _ _ (s3 _ _ (s2 _ _ e1))) h5⟩,⟨zd e2 h3,zd (s4 _ _ (s3 _ _ e2)) h5⟩,zd (s4 _ _ e3) h5⟩
  ·intro x hx
   simp only[mem_cons,not_mem_nil,or_false] at hx;rcases hx with rfl|rfl|rfl|rfl|rfl|rfl
   ·exact s03.free h4
   ·exact h0
   ·exact s0.free h1
   ·exact s01.free h2
   ·exact s02.free h3
   ·exact s04.free h5
 have lz:((zs.map V.str).length:Int)=(zs.length:Int):=by rw[length_map]
 refine⟨_,rfl,a,rfl,⟨_,I0.sm.seq hS⟩,xC (K:=K) (a:=a) (xs:=cs.map V.int) (fun i σ H'=>∃(S:FS) (v4 v5 v6 v7:Option V),σ=[some (.ref a),some (.ref pa),some (.ref lg),some (.ref ll),v4,v5,v6,v7]/\FI H H' lg g0 g1 g2 g3 ll S/\FM i S)
  ⟨_,_,_,_,_,rfl,I0,FM.zero⟩ (fun i σ H' _ ⟨_,_,_,_,_,_,h,_⟩=>h.sm.seq hS) ?_ ?_⟩
 ·rintro i x σ H6 hx ⟨S,v4,v5,v6,v7,rfl,I6,M6⟩
  obtain⟨n,hn,rfl⟩:∃n,cs[i]?=some n/\x=.int n:=by
   rw[getElem?_map] at hx;cases e:cs[i]? with
   | none=>rw[e] at hx;cases hx
   | some n=>rw[e] at hx;cases hx;exact⟨n,rfl,rfl⟩
  have hi:i<cs.length:=(List.getElem?_eq_some_iff.mp hn).1;exists _,rfl,_,_,rfl,rfl,(by show(0:Int)<9;decide),?_
  have d0 : 0<=n / 9 % (zs.length:Int):=emod_nonneg _ (by omega)
  have d1:n / 9 % (zs.length:Int)<(zs.length:Int):=emod_lt_of_pos _ (by omega)
  obtain⟨j,hj⟩:=eq_ofNat_of_zero_le d0;have hjl:j<zs.length:=by omega
  have hpa6:=I6.sm _ _ hpa;exists _,rfl,_,rfl,_,_,rfl,rfl,⟨by decide,by decide⟩,_,rfl,pa,_,rfl,.inl (zg hpa6),_,_,rfl,rfl,(by rw[lz];omega),pa,_,_,.str zs[j],rfl,rfl,zg hpa6,(by rw[lz,hj];exact yO (by rw[getElem?_map,getElem?_eq_getElem hjl];rfl)),?_
  have hz:=hzn _ (getElem_mem hjl);generalize zs[j]=z at hz |-;exists _,rfl,_,_,rfl,rfl,⟨by decide,by decide⟩,_,_,rfl,rfl,zp2,rfl,?_
  dsimp only[zS];generalize decide (V.int (n / 108 % 2)=V.int 1)=fb;have lnS:=M6.ln;have lL:=M6.lL;have skip:∀{H':Hp},FI H H' lg g0 g1 g2 g3 ll S->∃(S:FS) (v4 v5 v6 v7:Option V),([some (.ref a),some (.ref pa),some (.ref lg),some (.ref ll),some (.int n),some (.int (n % 9)),some (.str z),some (.bl fb)]:L2.St)=[some (.ref a),some (.ref pa),some (.ref lg),some (.ref ll),v4,v5,v6,v7]/\FI H H' lg g0 g1 g2 g3 ll S/\FM (i+1) S:=fun I=>⟨S,_,_,_,_,rfl,I,⟨M6.okP,M6.okT,M6.okG,M6.okB,M6.lT,M6.lB,M6.nd,M6.sn,le_succ_of_le M6.ln,le_succ_of_le M6.lL⟩⟩;have fin:∀{k:Nat}{H':Hp}{b:Bool},FI H H' lg g0 g1 g2 g3 ll (S.add k z b)->k<5->(xx k=true->z∉S.L)->∃(S:FS) (v4 v5 v6 v7:Option V),([some (.ref a),some (.ref pa),some (.ref lg),some (.ref ll),some (.int n),some (.int (n % 9)),some (.str z),some (.bl fb)]:L2.St)=[some (.ref a),some (.ref pa),some (.ref lg),some (.ref ll),v4,v5,v6,v7]/\FI H H' lg g0 g1 g2 g3 ll S/\FM (i+1) S:=fun {k H' b} I hk hn'=>⟨S.add k z b,_,_,_,_,rfl,I,M6.add hk hz hn'⟩;exists _,rfl,_,_,rfl,rfl,_,rfl,?_;refine vW (fun _=>?_) (fun _=>?_)
  ·obtain⟨us,w1,w2⟩:=I6.h0
   have hlu:us.length<=24:=by rw[w2.length];omega
   exists _,rfl,lg,_,0,.ref g0,rfl,rfl,zg I6.gg,rfl,.inl ⟨rfl,_,zg w1⟩,_,rfl,_,rfl,vq,fun u hu=>?_;have s7:=ze hu (.tup [.str "seat",.str z,.bl fb]);have tu:TAt (upd H6 u (.tup [.str "seat",.str z,.bl fb])) u ⟨0,z,fb⟩:=za;exists g0,_,_,rfl,rfl,s7 _ _ w1,zC (by rw[length_map];omega),?_
   exact fin (k:=0) ((I6.same s7).add0 (s7 _ _ w1) (zU s7 w2) tu) (by decide) (fun e=>by cases e)
  rename_i hlt;have hge:¬n % 9<2:=fun e=>hlt (decide_eq_true e);have hcase:n % 9=2\/n % 9=3\/n % 9=4\/n % 9=5\/n % 9=6\/n % 9=7\/n % 9=8:=by omega
  rcases hcase with hv|hv|hv|hv|hv|hv|hv
  ·
   exists _,rfl,rfl,_,rfl,?_;refine dF (fun e'=>by have:=V.int.inj e';omega) ?_
   refine yo ?_;exists _,rfl,rfl,_,rfl,?_;refine dF (fun e'=>by have:=V.int.inj e';omega) ?_
   refine yo ?_;exists _,rfl,vq,fun tH7 htH7=>?_;have sH7:=ze htH7 (.tup [.int 2,.int 3,.int 4]);have I7:=I6.same sH7;exists tH7,_,rfl,.inr (zv za),rfl,rfl,_,rfl,?_;generalize upd H6 tH7 (.tup [.int 2,.int 3,.int 4])=H7 at sH7 I7 |-;refine xE (by rw[if_neg zft,hv];decide +kernel) ?_
   exists _,rfl,_,rfl,ll,_,rfl,.inl (zg I7.hl),rfl,xD,_,rfl,?_;by_cases hm:z∈S.L
   ·refine yW (by rw[if_pos rfl,xc,decide_eq_true hm];rfl) ?_
    exists _,rfl,yN,fun tH8 htH8=>?_;have sH8:=ze htH8 (.tup [.int 6,.int 7]);have I8:=I7.same sH8;exists tH8,_,rfl,.inr (zv za),rfl,rfl,_,rfl,?_;generalize upd H7 tH8 (.tup [.int 6,.int 7])=H8 at sH8 I8 |-;refine yW (by rw[if_neg zft,hv];decide +kernel) ?_
    refine yo ?_;exact skip I8
   refine xE (by rw[if_pos rfl,xc,decide_eq_false hm];rfl) ?_
   obtain⟨us,w1,w2⟩:=I7.h0;have hlu:us.length<=24:=by rw[w2.length];omega
   exists _,rfl,lg,_,0,.ref g0,rfl,rfl,zg I7.gg,rfl,.inl ⟨rfl,_,zg w1⟩,_,rfl,_,rfl,vq,fun u hu=>?_;have s9:=ze hu (.tup [.str "both",.str z,.bl fb]);have tu:TAt (upd H7 u (.tup [.str "both",.str z,.bl fb])) u ⟨1,z,fb⟩:=za;exists g0,_,_,rfl,rfl,s9 _ _ w1,zC (by rw[length_map];omega),?_
   have J:=(I7.same s9).add0 (s9 _ _ w1) (zU s9 w2) tu;dsimp only[qK];generalize upd (upd H7 u (.tup [.str "both",.str z,.bl fb])) g0 (.lst (us.map V.ref++[.ref u]))=HJ at J |-;exists _,rfl,.inl ⟨rfl,_,zg J.hl⟩,_,rfl,ll,_,_,rfl,rfl,J.hl,zC (by rw[length_map];show S.L.length<=1000;omega),?_
   exact fin (k:=1) J.addL (by decide) (fun _=>hm)
  ·
   exists _,rfl,rfl,_,rfl,?_;refine dF (fun e'=>by have:=V.int.inj e';omega) ?_
   refine yo ?_;exists _,rfl,rfl,_,rfl,?_;refine dF (fun e'=>by have:=V.int.inj e';omega) ?_
   refine yo ?_;exists _,rfl,vq,fun tH7 htH7=>?_;have sH7:=ze htH7 (.tup [.int 2,.int 3,.int 4]);have I7:=I6.same sH7;exists tH7,_,rfl,.inr (zv za),rfl,rfl,_,rfl,?_;generalize upd H6 tH7 (.tup [.int 2,.int 3,.int 4])=H7 at sH7 I7 |-;refine xE (by rw[if_neg zft,hv];decide +kernel) ?_
   exists _,rfl,_,rfl,ll,_,rfl,.inl (zg I7.hl),rfl,xD,_,rfl,?_;by_cases hm:z∈S.L
   ·refine yW (by rw[if_pos rfl,xc,decide_eq_true hm];rfl) ?_
    exists _,rfl,yN,fun tH8 htH8=>?_;have sH8:=ze htH8 (.tup [.int 6,.int 7]);have I8:=I7.same sH8;exists tH8,_,rfl,.inr (zv za),rfl,rfl,_,rfl,?_;generalize upd H7 tH8 (.tup [.int 6,.int 7])=H8 at sH8 I8 |-;refine yW (by rw[if_neg zft,hv];decide +kernel) ?_
    refine yo ?_;exact skip I8
   refine xE (by rw[if_pos rfl,xc,decide_eq_false hm];rfl) ?_
   obtain⟨us,w1,w2⟩:=I7.h0;have hlu:us.length<=24:=by rw[w2.length];omega
   exists _,rfl,lg,_,0,.ref g0,rfl,rfl,zg I7.gg,rfl,.inl ⟨rfl,_,zg w1⟩,_,rfl,_,rfl,vq,fun u hu=>?_;have s9:=ze hu (.tup [.str "both",.str z,.bl fb]);have tu:TAt (upd H7 u (.tup [.str "both",.str z,.bl fb])) u ⟨1,z,fb⟩:=za;exists g0,_,_,rfl,rfl,s9 _ _ w1,zC (by rw[length_map];omega),?_
   have J:=(I7.same s9).add0 (s9 _ _ w1) (zU s9 w2) tu;dsimp only[qK];generalize upd (upd H7 u (.tup [.str "both",.str z,.bl fb])) g0 (.lst (us.map V.ref++[.ref u]))=HJ at J |-;exists _,rfl,.inl ⟨rfl,_,zg J.hl⟩,_,rfl,ll,_,_,rfl,rfl,J.hl,zC (by rw[length_map];show S.L.length<=1000;omega),?_
   exact fin (k:=1) J.addL (by decide) (fun _=>hm)
  ·
   exists _,rfl,rfl,_,rfl,?_;refine dF (fun e'=>by have:=V.int.inj e';omega) ?_
   refine yo ?_;exists _,rfl,rfl,_,rfl,?_;refine dF (fun e'=>by have:=V.int.inj e';omega) ?_
   refine yo ?_;exists _,rfl,vq,fun tH7 htH7=>?_;have sH7:=ze htH7 (.tup [.int 2,.int 3,.int 4]);have I7:=I6.same sH7;exists tH7,_,rfl,.inr (zv za),rfl,rfl,_,rfl,?_;generalize upd H6 tH7 (.tup [.int 2,.int 3,.int 4])=H7 at sH7 I7 |-;refine xE (by rw[if_neg zft,hv];decide +kernel) ?_
   exists _,rfl,_,rfl,ll,_,rfl,.inl (zg I7.hl),rfl,xD,_,rfl,?_;by_cases hm:z∈S.L
   ·refine yW (by rw[if_pos rfl,xc,decide_eq_true hm];rfl) ?_
    exists _,rfl,yN,fun tH8 htH8=>?_;have sH8:=ze htH8 (.tup [.int 6,.int 7]);have I8:=I7.same sH8;exists tH8,_,rfl,.inr (zv za),rfl,rfl,_,rfl,?_;generalize upd H7 tH8 (.tup [.int 6,.int 7])=H8 at sH8 I8 |-;refine yW (by rw[if_neg zft,hv];decide +kernel) ?_
    refine yo ?_;exact skip I8
   refine xE (by rw[if_pos rfl,xc,decide_eq_false hm];rfl) ?_
   obtain⟨us,w1,w2⟩:=I7.h0;have hlu:us.length<=24:=by rw[w2.length];omega
   exists _,rfl,lg,_,0,.ref g0,rfl,rfl,zg I7.gg,rfl,.inl ⟨rfl,_,zg w1⟩,_,rfl,_,rfl,vq,fun u hu=>?_;have s9:=ze hu (.tup [.str "both",.str z,.bl fb]);have tu:TAt (upd H7 u (.tup [.str "both",.str z,.bl fb])) u ⟨1,z,fb⟩:=za;exists g0,_,_,rfl,rfl,s9 _ _ w1,zC (by rw[length_map];omega),?_
   have J:=(I7.same s9).add0 (s9 _ _ w1) (zU s9 w2) tu;dsimp only[qK];generalize upd (upd H7 u (.tup [.str "both",.str z,.bl fb])) g0 (.lst (us.map V.ref++[.ref u]))=HJ at J |-;exists _,rfl,.inl ⟨rfl,_,zg J.hl⟩,_,rfl,ll,_,_,rfl,rfl,J.hl,zC (by rw[length_map];show S.L.length<=1000;omega),?_
   exact fin (k:=1) J.addL (by decide) (fun _=>hm)
  ·
   exists _,rfl,rfl,_,rfl,?_;refine dT (congrArg V.int hv) ?_;obtain⟨us,w1,w2⟩:=I6.h1;exists _,rfl,lg,_,1,.ref g1,rfl,rfl,zg I6.gg,rfl,wj,fun l0 hl0=>?_;have s7:=ze hl0 (.lst []);have e7:upd H6 l0 (.lst []) l0=some (.lst []):=za;have I7:=I6.same s7;have w1:=s7 _ _ w1;have w2:=zU s7 w2;generalize upd H6 l0 (.lst [])=H7 at s7 e7 I7 w1 w2 |-;by_cases hT:S.T=[]
   ·rw[hT] at w2
    cases w2;refine .inl ⟨g1,l0,0,.lst [],fun _=>True,fun _=>True,rfl,rfl,by decide,zD.lst True.intro w1 .nil,zD.lst True.intro e7 .nil,_,rfl,?_⟩
    refine vm ?_;exists _,rfl,lg,_,1,.ref g1,rfl,rfl,zg I7.gg,rfl,.inl ⟨rfl,_,zg w1⟩,_,rfl,yN,fun u hu=>?_;have s9:=ze hu (.tup [.str "tail",.str z]);have tu:TAt (upd H7 u (.tup [.str "tail",.str z])) u ⟨2,z,fb⟩:=za;exists g1,_,_,rfl,rfl,s9 _ _ w1,zC (by show 0<=1000;decide),?_
    exact fin (k:=2) ((I7.same s9).add1 hT tu) (by decide) (fun e=>by cases e)
   refine .inr ⟨g1,l0,_,_,rfl,rfl,w1,e7,(by rw[length_map,w2.length];exact fun e=>hT (List.eq_nil_of_length_eq_zero e)),_,rfl,?_⟩
   refine yo ?_;exists _,rfl,rfl,_,rfl,?_;refine dF (fun e'=>by have:=V.int.inj e';omega) ?_
   refine yo ?_;exists _,rfl,vq,fun tH8 htH8=>?_;have sH8:=ze htH8 (.tup [.int 2,.int 3,.int 4]);have I8:=I7.same sH8;exists tH8,_,rfl,.inr (zv za),rfl,rfl,_,rfl,?_;generalize upd H7 tH8 (.tup [.int 2,.int 3,.int 4])=H8 at sH8 I8 |-;refine yW (by rw[if_neg zft,hv];decide +kernel) ?_
   refine yo ?_;exists _,rfl,yN,fun tH9 htH9=>?_;have sH9:=ze htH9 (.tup [.int 6,.int 7]);have I9:=I8.same sH9;exists tH9,_,rfl,.inr (zv za),rfl,rfl,_,rfl,?_;generalize upd H8 tH9 (.tup [.int 6,.int 7])=H9 at sH9 I9 |-;refine yW (by rw[if_neg zft,hv];decide +kernel) ?_
   refine yo ?_;exact skip I9
  ·
   exists _,rfl,rfl,_,rfl,?_;refine dF (fun e'=>by have:=V.int.inj e';omega) ?_
   refine yo ?_;exists _,rfl,rfl,_,rfl,?_;refine dF (fun e'=>by have:=V.int.inj e';omega) ?_
   refine yo ?_;exists _,rfl,vq,fun tH7 htH7=>?_;have sH7:=ze htH7 (.tup [.int 2,.int 3,.int 4]);have I7:=I6.same sH7;exists tH7,_,rfl,.inr (zv za),rfl,rfl,_,rfl,?_;generalize upd H6 tH7 (.tup [.int 2,.int 3,.int 4])=H7 at sH7 I7 |-;refine yW (by rw[if_neg zft,hv];decide +kernel) ?_
   refine yo ?_;exists _,rfl,yN,fun tH8 htH8=>?_;have sH8:=ze htH8 (.tup [.int 6,.int 7]);have I8:=I7.same sH8;exists tH8,_,rfl,.inr (zv za),rfl,rfl,_,rfl,?_;generalize upd H7 tH8 (.tup [.int 6,.int 7])=H8 at sH8 I8 |-;refine xE (by rw[if_neg zft,hv];decide +kernel) ?_
   exists _,rfl,_,rfl,ll,_,rfl,.inl (zg I8.hl),rfl,xD,_,rfl,?_;by_cases hm:z∈S.L
   ·refine yW (by rw[if_pos rfl,xc,decide_eq_true hm];rfl) ?_
    exact skip I8
   refine xE (by rw[if_pos rfl,xc,decide_eq_false hm];rfl) ?_
   obtain⟨us,w1,w2⟩:=I8.h2;have hlu:us.length<=24:=by rw[w2.length];omega
   exists _,rfl,lg,_,2,.ref g2,rfl,rfl,zg I8.gg,rfl,.inl ⟨rfl,_,zg w1⟩,_,rfl,_,rfl,vq,fun u hu=>?_;have s9:=ze hu (.tup [.str "tag",.str z,.bl fb]);have tu:TAt (upd H8 u (.tup [.str "tag",.str z,.bl fb])) u ⟨3,z,fb⟩:=za;exists g2,_,_,rfl,rfl,s9 _ _ w1,zC (by rw[length_map];omega),?_
   have J:=(I8.same s9).add2 (s9 _ _ w1) (zU s9 w2) tu;dsimp only[qK];generalize upd (upd H8 u (.tup [.str "tag",.str z,.bl fb])) g2 (.lst (us.map V.ref++[.ref u]))=HJ at J |-;exists _,rfl,.inl ⟨rfl,_,zg J.hl⟩,_,rfl,ll,_,_,rfl,rfl,J.hl,zC (by rw[length_map];show S.L.length<=1000;omega),?_
   exact fin (k:=3) J.addL (by decide) (fun _=>hm)
  ·
   exists _,rfl,rfl,_,rfl,?_;refine dF (fun e'=>by have:=V.int.inj e';omega) ?_
   refine yo ?_;exists _,rfl,rfl,_,rfl,?_;refine dF (fun e'=>by have:=V.int.inj e';omega) ?_
   refine yo ?_;exists _,rfl,vq,fun tH7 htH7=>?_;have sH7:=ze htH7 (.tup [.int 2,.int 3,.int 4]);have I7:=I6.same sH7;exists tH7,_,rfl,.inr (zv za),rfl,rfl,_,rfl,?_;generalize upd H6 tH7 (.tup [.int 2,.int 3,.int 4])=H7 at sH7 I7 |-;refine yW (by rw[if_neg zft,hv];decide +kernel) ?_
   refine yo ?_;exists _,rfl,yN,fun tH8 htH8=>?_;have sH8:=ze htH8 (.tup [.int 6,.int 7]);have I8:=I7.same sH8;exists tH8,_,rfl,.inr (zv za),rfl,rfl,_,rfl,?_;generalize upd H7 tH8 (.tup [.int 6,.int 7])=H8 at sH8 I8 |-;refine xE (by rw[if_neg zft,hv];decide +kernel) ?_
   exists _,rfl,_,rfl,ll,_,rfl,.inl (zg I8.hl),rfl,xD,_,rfl,?_;by_cases hm:z∈S.L
   ·refine yW (by rw[if_pos rfl,xc,decide_eq_true hm];rfl) ?_
    exact skip I8
   refine xE (by rw[if_pos rfl,xc,decide_eq_false hm];rfl) ?_
   obtain⟨us,w1,w2⟩:=I8.h2;have hlu:us.length<=24:=by rw[w2.length];omega
   exists _,rfl,lg,_,2,.ref g2,rfl,rfl,zg I8.gg,rfl,.inl ⟨rfl,_,zg w1⟩,_,rfl,_,rfl,vq,fun u hu=>?_;have s9:=ze hu (.tup [.str "tag",.str z,.bl fb]);have tu:TAt (upd H8 u (.tup [.str "tag",.str z,.bl fb])) u ⟨3,z,fb⟩:=za;exists g2,_,_,rfl,rfl,s9 _ _ w1,zC (by rw[length_map];omega),?_
   have J:=(I8.same s9).add2 (s9 _ _ w1) (zU s9 w2) tu;dsimp only[qK];generalize upd (upd H8 u (.tup [.str "tag",.str z,.bl fb])) g2 (.lst (us.map V.ref++[.ref u]))=HJ at J |-;exists _,rfl,.inl ⟨rfl,_,zg J.hl⟩,_,rfl,ll,_,_,rfl,rfl,J.hl,zC (by rw[length_map];show S.L.length<=1000;omega),?_
   exact fin (k:=3) J.addL (by decide) (fun _=>hm)
  ·
   exists _,rfl,rfl,_,rfl,?_;refine dF (fun e'=>by have:=V.int.inj e';omega) ?_
   refine yo ?_;exists _,rfl,rfl,_,rfl,?_;refine dT (congrArg V.int hv) ?_;obtain⟨us,w1,w2⟩:=I6.h3;exists _,rfl,lg,_,3,.ref g3,rfl,rfl,zg I6.gg,rfl,wj,fun l0 hl0=>?_;have s7:=ze hl0 (.lst []);have e7:upd H6 l0 (.lst []) l0=some (.lst []):=za;have I7:=I6.same s7;have w1:=s7 _ _ w1;have w2:=zU s7 w2;generalize upd H6 l0 (.lst [])=H7 at s7 e7 I7 w1 w2 |-;by_cases hT:S.B=[]
   ·rw[hT] at w2
    cases w2;refine .inl ⟨g3,l0,0,.lst [],fun _=>True,fun _=>True,rfl,rfl,by decide,zD.lst True.intro w1 .nil,zD.lst True.intro e7 .nil,_,rfl,?_⟩
    refine vm ?_;exists _,rfl,lg,_,3,.ref g3,rfl,rfl,zg I7.gg,rfl,.inl ⟨rfl,_,zg w1⟩,_,rfl,yN,fun u hu=>?_;have s9:=ze hu (.tup [.str "bag",.str z]);have tu:TAt (upd H7 u (.tup [.str "bag",.str z])) u ⟨4,z,fb⟩:=za;exists g3,_,_,rfl,rfl,s9 _ _ w1,zC (by show 0<=1000;decide),?_
    exact fin (k:=4) ((I7.same s9).add3 hT tu) (by decide) (fun e=>by cases e)
   refine .inr ⟨g3,l0,_,_,rfl,rfl,w1,e7,(by rw[length_map,w2.length];exact fun e=>hT (List.eq_nil_of_length_eq_zero e)),_,rfl,?_⟩
   refine yo ?_;exists _,rfl,vq,fun tH8 htH8=>?_;have sH8:=ze htH8 (.tup [.int 2,.int 3,.int 4]);have I8:=I7.same sH8;exists tH8,_,rfl,.inr (zv za),rfl,rfl,_,rfl,?_;generalize upd H7 tH8 (.tup [.int 2,.int 3,.int 4])=H8 at sH8 I8 |-;refine yW (by rw[if_neg zft,hv];decide +kernel) ?_
   refine yo ?_;exists _,rfl,yN,fun tH9 htH9=>?_;have sH9:=ze htH9 (.tup [.int 6,.int 7]);have I9:=I8.same sH9;exists tH9,_,rfl,.inr (zv za),rfl,rfl,_,rfl,?_;generalize upd H8 tH9 (.tup [.int 6,.int 7])=H9 at sH9 I9 |-;refine yW (by rw[if_neg zft,hv];decide +kernel) ?_
   refine yo ?_;exact skip I9
 ·rintro σ H6 ⟨S,v4,v5,v6,v7,rfl,I6,M6⟩
  rw[length_map] at M6;have lnS:=M6.ln;obtain⟨u0,a0,b0⟩:=I6.h0;obtain⟨u1,a1,b1⟩:=I6.h1;obtain⟨u2,a2,b2⟩:=I6.h2;obtain⟨u3,a3,b3⟩:=I6.h3;have c0:=b0.length;have c1:=b1.length;have c2:=b2.length;have c3:=b3.length;exists _,rfl,lg,_,0,.ref g0,rfl,rfl,zg I6.gg,rfl,_,rfl,lg,_,1,.ref g1,rfl,rfl,zg I6.gg,rfl,g0,g1,_,_,rfl,rfl,a0,a1,yj (by rw[length_map,length_map];omega),fun p1 hp1=>?_
  injections p1 hp1 H7 t1 f1
  exists _,rfl,lg,_,2,.ref g2,rfl,rfl,zg (t1 _ _ I6.gg),rfl,p1,g2,_,_,rfl,rfl,f1,t1 _ _ a2,yj (by rw[length_append,length_map,length_map,length_map];omega),fun p2 hp2=>?_
  injections p2 hp2 H8 t2 f2
  have t12:=t1.trans t2;exists _,rfl,lg,_,3,.ref g3,rfl,rfl,zg (t12 _ _ I6.gg),rfl,p2,g3,_,_,rfl,rfl,f2,t12 _ _ a3,yj (by simp only[length_append,length_map];omega),fun p3 hp3=>?_
  have t3:=ze hp3 (.lst (u0.map V.ref++u1.map V.ref++u2.map V.ref++u3.map V.ref));have t13:=t12.trans t3;refine q p3 (u0++u1++u2++u3) S.rows _ (I6.sm.trans t13) (I6.sm.free (t12.free hp3)) ?_ ?_ (M6.vr (by omega))
  ·rw[za]
   simp only[map_append]
  ·have paired_app':∀{α β : Type}{R : α->β->Prop}{a c:List α}{b d:List β},Paired R a b->Paired R c d->Paired R (a++c) (b++d):=by
    intro α β R a c b d h1 h2;induction h1 with
    | nil=>exact h2
    | cons r t ih=>exact .cons r ih
   unfold FS.rows;exact paired_app' (paired_app' (paired_app' (zU t13 b0) (zU t13 b1)) (zU t13 b2)) (zU t13 b3)
theorem jo{r:Rw}(h:r.ok):atI (rv r) 0=some (.str (kw r.k)):=by
 obtain⟨k,z,b⟩:=r;rcases lt5 h.1 with e|e|e|e|e <;> (cases e;rfl)
theorem zc7{r:Rw}(h:r.ok):atI (rv r) 1=some (.str r.z):=by
 obtain⟨k,z,b⟩:=r;rcases lt5 h.1 with e|e|e|e|e <;> (cases e;rfl)
theorem zjW{k:Nat}(h:k<5):inV (.str (kw k)) [.str "both",.str "tag"]=xx k:=zdm k h
theorem zhJ{R:Addr->Rw->Prop}{us:List Addr}{rows:List Rw}(h:Paired R us rows):((us.zip rows).filter fun p=>xx p.2.k).map (fun p=>V.str p.2.z)=(nms rows).map V.str:=by
 have:=zgH h (fun r=>xx r.k) (fun r=>V.str r.z)
 rw[this];unfold nms;rw[map_map];rfl
inductive zcY(K:Frag)(vs:List V)(H:Hp)(Q:VK)(E:XK):Prop|mk(a pa la:Addr)(cs:List Int)(zs:List Str)(us:List Addr)(rows:List Rw):vs=[.ref a,.ref pa,.ref la]->SqL K H a (cs.map V.int)->cs.length<=20->H pa=some (.lst (zs.map V.str))->0<zs.length->(∀z∈zs,xn z=true)->H la=some (.lst (us.map V.ref))->Paired (TAt H) us rows->VR rows->(∀(l:Addr) (bars:List Str) (H':Hp),zo H H'->H l=none->H' l=some (.lst (bars.map V.str))->zdC rows bars->Q (.ref l) H')->zcY K vs H Q E
theorem zk1:([Str.ofString "_law_one"]:List Str).Nodup:=by decide +kernel
theorem ul:zq ["_law_cells","_law_pool_here","_law_specs_here","_law_seen","_law_shut","_law_cell","_law_name"] ["_law_cells","_law_pool_here","_law_specs_here"] (zj zfc):=fsc
theorem zfN(F:Fun K "_law_bars" "_law_bars" zfc f fd)(T:uh mg):zx P w K mg base CX0 1 f fd ["_law_cells","_law_pool_here","_law_specs_here"] (zcY K):=by
 refine F.ok ul (fun cdv A outer s H vs Q E hr h=>?_);obtain⟨a,pa,la,cs,zs,us,rows,rfl,hS,l20,hpa,z0,hzn,hla,hu,V1,q⟩:=h;refine⟨_,zh (qO (i:=3) [] ["_law_one"] [none] ul.nd rfl (Or.inl rfl) rfl ⟨rfl,rfl,rfl,rfl⟩ (yt (pv 2)) (z7 0) rfl rfl rfl
   (fun pins fp s H C=>⟨zp (i:=0) zk1 rfl (Or.inl rfl) (.inr rfl),xM (zn (r:=rIn K false) y0 (zy (r:=zdP K) zJ (pv 0) zi (fun _ _=>rfl)) (zQ (ac zr (ac zr zb))) (by with_unfolding_all rfl)),zy (r:=zdP K) zJ (pv 0) zi (fun _ _=>rfl)⟩))
  (zh (zw (i:=4) ul.nd rfl (Or.inl rfl) (yg zb))
  (zh (yD PassesOwn.never rfl (yt (pv 0)) (zp (i:=5) ul.nd rfl (Or.inl rfl))
   (zh (zw (i:=6) ul.nd rfl (Or.inl rfl) (zy zL (pv 1) (zt yd (pv 5) (cB zK T.len PySem.boot_len (ac (pv 1) zb))) (fun _ _=>rfl)))
   (zc (zE (xi (y8 (zn xA (pv 6) (pv 3) (by with_unfolding_all rfl)) (yK (zn xA (pv 6) (pv 4) (by with_unfolding_all rfl))))) (zc (zG (yv PySem.F.plainAttrs_list PySem.F.slot_list_append PySem.F.type_list_append zH (pv 4) (ac (pv 6) zb)))) zA))))
  (zc (zu (pv 4))))),?_⟩
 have l24:=V1.l24;exists _,rfl,la,rfl,⟨_,zg hla⟩,fun D hD=>?_;refine zjN (K:=K) TAt (fun r=>xx r.k) (fun _ r=>.str r.z) hD hla hu (by omega) (fun i u r H' N S hu' hr' tr sH n1 s1=>?_) (fun H1 s1 hD1=>?_)
 ·have rk:=V1.ok r (mem_of_getElem? hr')
  have tu:=sH _ _ tr;exists _,rfl,u,_,0,_,rfl,rfl,zv tu,jo rk,yN,fun l hl=>?_;have s2:=ze hl (.tup [.str "both",.str "tag"]);exists l,_,rfl,.inr (zv za),rfl,rfl,_,rfl,?_;rw[if_neg zft,zjW rk.1];exact⟨fun e=>⟨_,rfl,u,_,1,_,rfl,rfl,zv (s2 _ _ tu),zc7 rk,n1 _ s2 e⟩,fun e=>s1 _ s2 e⟩
 rw[zhJ hu] at hD1;exists wj,fun fo hfo=>?_;dsimp only[zS]
 injections fo hfo H2 s2 g2
 have s12:=s1.trans s2;have nD:=s2 _ _ hD1;have nfo:H fo=none:=s1.free hfo;have neD:D≠fo:=zd hD1 hfo;have lz:((zs.map V.str).length:Int)=(zs.length:Int):=by rw[length_map]
 refine⟨_,rfl,a,rfl,⟨_,s12.seq hS⟩,xC (K:=K) (a:=a) (xs:=cs.map V.int) (fun i σ H'=>∃(bars:List Str) (v5 v6:Option V),σ=[some (.ref a),some (.ref pa),some (.ref la),some (.ref D),some (.ref fo),v5,v6]/\zo H H'/\H' D=some (.lst ((nms rows).map V.str))/\H' fo=some (.lst (bars.map V.str))/\bars.Nodup/\(∀z∈bars,xn z=true)/\(∀z∈bars,z∉nms rows)/\bars.length<=i)
  ⟨[],_,_,rfl,s12,nD,g2,nodup_nil,(fun _ h=>nomatch h),(fun _ h=>nomatch h),le_refl _⟩ (fun i σ H' _ ⟨_,_,_,_,sH,_⟩=>sH.seq hS) ?_ ?_⟩
 ·rintro i x σ H3 hx ⟨bars,v5,v6,rfl,s3,eD,eF,nd,nm,nk,ln⟩
  obtain⟨n,hn,rfl⟩:∃n,cs[i]?=some n/\x=.int n:=by
   rw[getElem?_map] at hx;cases e:cs[i]? with
   | none=>rw[e] at hx;cases hx
   | some n=>rw[e] at hx;cases hx;exact⟨n,rfl,rfl⟩
  have hi:i<cs.length:=(List.getElem?_eq_some_iff.mp hn).1;have d0 : 0<=n % (zs.length:Int):=emod_nonneg _ (by omega)
  have d1:n % (zs.length:Int)<(zs.length:Int):=emod_lt_of_pos _ (by omega)
  obtain⟨j,hj⟩:=eq_ofNat_of_zero_le d0;have hjl:j<zs.length:=by omega
  have hpa3:=s3 _ _ hpa;exists _,rfl,_,rfl,_,rfl,pa,_,rfl,.inl (zg hpa3),_,_,rfl,rfl,(by rw[lz];omega),pa,_,_,.str zs[j],rfl,rfl,zg hpa3,(by rw[lz,hj];exact yO (by rw[getElem?_map,getElem?_eq_getElem hjl];rfl)),?_
  have hz:=hzn _ (getElem_mem hjl);generalize zs[j]=z at hz |-;exists _,rfl,_,rfl,D,_,rfl,.inl (zg eD),rfl,xD,_,rfl,?_;by_cases hk:z∈nms rows
  ·refine yW (by rw[if_pos rfl,xc,decide_eq_true hk];rfl) ?_
   refine yo ?_;exact⟨bars,_,_,rfl,s3,eD,eF,nd,nm,nk,le_succ_of_le ln⟩
  refine xE (by rw[if_pos rfl,xc,decide_eq_false hk];rfl) ?_
  exists _,rfl,_,rfl,fo,_,rfl,.inl (zg eF),rfl,xD,_,rfl,?_;by_cases hb:z∈bars
  ·refine yW (by rw[if_pos rfl,xc,decide_eq_true hb];rfl) ?_
   exact⟨bars,_,_,rfl,s3,eD,eF,nd,nm,nk,le_succ_of_le ln⟩
  refine xE (by rw[if_pos rfl,xc,decide_eq_false hb];rfl) ?_
  exists _,rfl,.inl ⟨rfl,_,zg eF⟩,_,rfl,fo,_,_,rfl,rfl,eF,zC (by rw[length_map];omega),?_
  refine⟨bars++[z],_,_,rfl,fun b u e=>by rw[zf (zd e nfo)];exact s3 _ _ e,by rw[zf neD];exact eD,by rw[za,map_append];rfl,List.nodup_append.mpr ⟨nd,by simp,fun x hx y hy e=>hb (by rw[<- List.mem_singleton.mp hy,<- e];exact hx)⟩,fun y hy=>?_,fun y hy=>?_,by rw[length_append];exact Nat.succ_le_succ ln⟩
  ·rcases List.mem_append.mp hy with hy|hy
   ·exact nm y hy
   ·rw[List.mem_singleton.mp hy];exact hz
  ·rcases List.mem_append.mp hy with hy|hy
   ·exact nk y hy
   ·rw[List.mem_singleton.mp hy];exact hk
 ·rintro σ H3 ⟨bars,v5,v6,rfl,s3,eD,eF,nd,nm,nk,ln⟩
  rw[length_map] at ln;exact⟨_,rfl,q fo bars H3 s3 nfo eF ⟨V1.ok,V1.l24,by omega,V1.ord,nm,List.nodup_append.mpr ⟨V1.nd,nd,fun x hx y hy e=>nk y hy (e ▸ hx)⟩⟩⟩
def xt(k:Nat):Bool:=k==0||k==1||k==3
theorem ziu:∀k,k<5->inV (.str (kw k)) [.str "seat",.str "both",.str "tag"]=xt k:=by decide +kernel
def uD(rows:List Rw)(p:Int):Bool:=if 0<=p then match rows[p.toNat]? with|some r=>xt r.k|none=>false else false
inductive zeF(vs:List V)(H:Hp)(Q:VK)(E:XK):Prop|mk(la:Addr)(p:Int)(us:List Addr)(rows:List Rw):vs=[.ref la,.int p]->H la=some (.lst (us.map V.ref))->Paired (TAt H) us rows->VR rows->(∀H',zo H H'->Q (.bl (uD rows p)) H')->zeF vs H Q E
theorem zkB:zq ["_law_specs_here","_law_p"] ["_law_specs_here","_law_p"] (zj zaC):=fsc
theorem zjB(F:Fun K "_law_single" "_law_single" zaC f fd)(T:uh mg):zx P w K mg base CX0 1 f fd ["_law_specs_here","_law_p"] zeF:=by
 refine F.ok zkB (fun cdv A outer s H vs Q E hr h=>?_);obtain⟨la,p,us,rows,rfl,hla,hu,V1,q⟩:=h;exists _,zc (zu (zfn (wv zdg zi (pv 1) (zz _)) (zfn (wv vy (pv 1) (cB zK T.len PySem.boot_len (ac (pv 0) zb)) (zz _)) (zjq (wv y0 (zy zJ (zy zL (pv 0) (pv 1) (fun _ _=>rfl)) zi (fun _ _=>rfl)) (zQ (ac zr (ac zr (ac zr zb)))) (by with_unfolding_all rfl)))))),?_
 have lu:us.length=rows.length:=hu.length;exists _,rfl,_,_,rfl,rfl,_,rfl,?_;unfold uD at q;by_cases h0 : 0<=p
 rotate_left
 ·refine dF h0 ?_
  have:=q H (zo.refl _)
  rw[if_neg h0] at this;exact this
 refine dT h0 ?_;rw[if_pos h0] at q;obtain⟨n,rfl⟩:=eq_ofNat_of_zero_le h0;rw[toNat_natCast] at q;exists _,rfl,_,rfl,la,_,rfl,.inl (zg hla),_,_,rfl,rfl,_,rfl,?_;by_cases h1:n<rows.length
 rotate_left
 ·have h1':¬((n:Nat):Int)<((us.map V.ref).length:Int):=by rw[length_map];omega
  refine dF h1' ?_
  have:=q H (zo.refl _)
  rw[List.getElem?_eq_none (by omega)] at this
  exact this
 have h1':((n:Nat):Int)<((us.map V.ref).length:Int):=by rw[length_map];omega
 refine dT h1' ?_;have e2:rows[n]?=some rows[n]:=getElem?_eq_getElem h1;have eu:us[n]?=some us[n]:=getElem?_eq_getElem (by omega)
 obtain⟨r,hr',tr⟩:=zV hu eu;rw[hr'] at q;have rk:=V1.ok r (mem_of_getElem? hr');exists _,rfl,_,rfl,la,_,_,.ref us[n],rfl,rfl,zg hla,yO (by rw[getElem?_map,eu];rfl),us[n],_,0,_,rfl,rfl,zv tr,jo rk,vq,fun t ht=>?_
 have s1:=ze ht (.tup [.str "seat",.str "both",.str "tag"]);exists t,_,rfl,.inr (zv za),rfl,rfl,?_;rw[if_neg zft,ziu _ rk.1];exact q _ s1
theorem zaI{r:Rw}(h:xt r.k=true):atI (rv r) 2=some (.bl r.b):=by
 obtain⟨k,z,b⟩:=r;unfold xt at h;simp only[Bool.or_eq_true,beq_iff_eq] at h;rcases h with (h|h)|h <;> (cases h;rfl)
def jc(rows:List Rw)(i:Nat):Bool:=match rows[i]? with|some r=>xt r.k&&r.b|none=>false
def z6(rows:List Rw):List Nat:=(List.range rows.length).filter (jc rows)
inductive zcV(vs:List V)(H:Hp)(Q:VK)(E:XK):Prop|mk(la:Addr)(us:List Addr)(rows:List Rw):vs=[.ref la]->H la=some (.lst (us.map V.ref))->Paired (TAt H) us rows->VR rows->(∀(l:Addr) (H':Hp),zo H H'->H l=none->H' l=some (.lst ((z6 rows).map fun n=>V.int (n:Nat)))->Q (.ref l) H')->zcV vs H Q E
theorem zl6:([Str.ofString "_law_p",Str.ofString "_law_specs_here"]:List Str).Nodup:=by decide +kernel
theorem zg1:zq ["_law_specs_here"] ["_law_specs_here"] (zj zce):=fsc
theorem zfL{g:Addr}{gd:FuncData}(F:Fun K "_law_loose" "_law_loose" zce f fd)(T:uh mg)(cS:zI P w K mg base 1 "_law_single" g gd ["_law_specs_here","_law_p"] zeF):zx P w K mg base CX0 2 f fd ["_law_specs_here"] zcV:=by
 refine F.ok zg1 (fun cdv A outer s H vs Q E hr h=>?_);obtain⟨la,us,rows,rfl,hla,hu,V1,q⟩:=h;refine⟨_,zc (zu (xO ["_law_specs_here"] ["_law_p","_law_specs_here"] [none,some 0] rfl ⟨rfl,rfl,rfl,rfl⟩ (yG rfl T.range (ac (cB zK T.len PySem.boot_len (ac (pv 0) zb)) zb)) (z7 0) rfl rfl rfl
   (fun pins fp s H C=>⟨zp (i:=0) zl6 rfl (Or.inl rfl) (.inr rfl),xM (xi (y8 (yp (cF cS hr (ac (pv 1) (ac (pv 0) zb)))) (yK (yp (zy (r:=zdP K) zJ (zy (r:=jR K) zL (pv 1) (pv 0) (fun _ _=>rfl)) zi (fun _ _=>rfl)))))),pv 0⟩))),?_⟩
 have lu:us.length=rows.length:=hu.length;have l24:=V1.l24;exists _,rfl,la,_,rfl,.inl (zg hla),(((us.map V.ref).length:Nat):Int),rfl,by omega,(by rw[length_map];omega),fun D hD=>?_
 rw[show(((us.map V.ref).length:Nat):Int).toNat=rows.length by rw[length_map];omega]
 refine zaP (n:=rows.length) (jc rows) (fun n=>.int (n:Nat)) hD (by omega) (fun i H' N S hi sH n1 s1=>?_) (fun H1 s1 h1=>q D H1 s1 hD h1)
 rw[Int.zero_add];have e2:rows[i]?=some rows[i]:=getElem?_eq_getElem hi;have eu:us[i]?=some us[i]:=getElem?_eq_getElem (by omega)
 have tr:TAt H us[i] rows[i]:=by
  obtain⟨r,hr',tr⟩:=zV hu eu;rw[e2] at hr';cases hr';exact tr
 exists _,rfl,_,rfl,la,(i:Int),us,rows,rfl,sH _ _ hla,zU sH hu,V1,fun H2 s2=>?_;have es:uD rows (i:Int)=xt rows[i].k:=by
  unfold uD;rw[if_pos (by omega),toNat_natCast,e2]
 have ek:jc rows i=(xt rows[i].k&&rows[i].b):=by
  unfold jc;rw[e2]
 exists _,rfl,?_;rw[es];cases ho:xt rows[i].k with
 | false=>
  refine yo ?_;exact⟨fun e=>Bool.noConfusion e,fun _=>s1 _ s2 (by rw[ek,ho];rfl)⟩
 | true=>
  refine vm ?_;have sH2:=sH.trans s2;exists _,rfl,_,rfl,la,_,_,.ref us[i],rfl,rfl,zg (sH2 _ _ hla),yO (by rw[getElem?_map,eu];rfl),us[i],_,2,_,rfl,rfl,zv (sH2 _ _ tr),zaI ho,_,rfl,?_
  exact⟨fun e=>⟨_,rfl,n1 _ s2 (by rw[ek,ho,e];rfl)⟩,fun e=>s1 _ s2 (by rw[ek,ho,e];rfl)⟩
inductive Df where
 | told (n:Int)|once|anew|sum (at_ times plus:Int)
def Df.row:Df->List V
 | .told n=>[.str "told",.int n]|.once=>[.str "once"]|.anew=>[.str "anew"]|.sum a t p=>[.str "sum",.int a,.int t,.int p]
def fTo(v:V):List (Str×V):=zO "number" v []
def fSu(a t p:V):List (Str×V):=zO "plus" p (zO "times" t (zO "at" a []))
def Df.fs:Df->List (Str×V)
 | .told n=>fTo (.int n)|.sum a t p=>fSu (.int a) (.int t) (.int p)|_=>[]
def Df.k:Df->Nat
 | .told _=>0|.once=>1|.anew=>2|.sum _ _ _=>3
structure C4 where
 (c0 c1 c2 c3:Addr)
def C4.at(c:C4):Nat->Addr
 | 0=>c.c0|1=>c.c1|2=>c.c2|_=>c.c3
inductive zgP(C:Addr)(vs:List V)(H:Hp)(Q:VK)(E:XK):Prop|mk(p dx:Addr)(v:V):vs=[.ref p,v]->H p=some (.ins C dx [])->(Q .non (upd H p (.ins C dx (fTo v))))->zgP C vs H Q E
inductive ziV(C:Addr)(vs:List V)(H:Hp)(Q:VK)(E:XK):Prop|mk(p dx:Addr)(x y z:V):vs=[.ref p,x,y,z]->H p=some (.ins C dx [])->(Q .non (upd H p (.ins C dx (fSu x y z))))->ziV C vs H Q E
inductive zil(K:Frag)(c:C4)(vs:List V)(H:Hp)(Q:VK)(E:XK):Prop|mk(p:Addr)(d:Df):vs=[.ref p]->H p=some (.tup d.row)->(∀(x dx:Addr) (H':Hp),zo H H'->H x=none->H' x=some (.ins (c.at d.k) dx d.fs)->Q (.ref x) H')->zil K c vs H Q E
structure zgG(P:Program)(w:World)(K:Frag)(mg:Str->Option Value)(base:Heap)(c:C4)(i0 i3:Addr)(d0 d3:FuncData):Prop where
 k0:uY P w K mg base CX0 1 "Told" c.c0 i0 d0 ["self","number"] [] (zgP c.c0)
 k3:uY P w K mg base CX0 1 "Sum" c.c3 i3 d3 ["self","at","times","plus"] [] (ziV c.c3)
 k1:Mk0 K c.c1
 k2:Mk0 K c.c2
 m1:mg "Once"=some (.ref c.c1)
 m2:mg "Anew"=some (.ref c.c2)
theorem zmc:¬(V.str "once"=V.str "told"):=by decide +kernel
theorem zld:¬(V.str "anew"=V.str "told"):=by decide +kernel
theorem zlc:¬(V.str "anew"=V.str "once"):=by decide +kernel
theorem zlb:¬(V.str "sum"=V.str "told"):=by decide +kernel
theorem zla:¬(V.str "sum"=V.str "once"):=by decide +kernel
theorem zk9:¬(V.str "sum"=V.str "anew"):=by decide +kernel
variable {C i0 i3:Addr}{d0 d3:FuncData}{c:C4}
theorem zg6:zq ["self","number"] ["self","number"] (zj zcp):=fsc
theorem zfX(F:Fun K "__init__" "Told.__init__" zcp f fd)(cc:Cls K C)(n:z5 K C "number"):zx P w K mg base CX0 1 f fd ["self","number"] (zgP C):=by
 refine F.ok zg6 (fun cdv A outer s H vs Q E hr h=>?_);obtain⟨p,dx,v,rfl,hp,q⟩:=h;exists _,zc (y9 (pv 0) (pv 1) rfl),?_;exact⟨_,rfl,_,rfl,p,C,dx,[],rfl,hp,cc,n,(by show 0<1000;decide),q⟩
theorem zi5:zq ["self","at","times","plus"] ["self","at","times","plus"] (zj zfa):=fsc
theorem zhG(F:Fun K "__init__" "Sum.__init__" zfa f fd)(cc:Cls K C)(n1:z5 K C "at")(n2:z5 K C "times")(n3:z5 K C "plus"):zx P w K mg base CX0 1 f fd ["self","at","times","plus"] (ziV C):=by
 refine F.ok zi5 (fun cdv A outer s H vs Q E hr h=>?_);obtain⟨p,dx,x,y,z,rfl,hp,q⟩:=h;exists _,zh (y9 (pv 0) (pv 1) rfl) (zh (y9 (pv 0) (pv 2) rfl) (zc (y9 (pv 0) (pv 3) rfl))),?_;exists _,rfl,_,rfl,p,C,dx,[],rfl,hp,cc,n1,(by show 0<1000;decide),?_
 exists _,rfl,_,rfl,p,C,dx,_,rfl,za,cc,n2,(by show 1<1000;decide),?_
 rw[vG];exists _,rfl,_,rfl,p,C,dx,_,rfl,za,cc,n3,(by show 2<1000;decide),?_
 rw[vG];exact q
theorem zkE:zq ["_law_told"] ["_law_told"] (zj jO):=fsc
theorem zjJ(F:Fun K "_law_default" "_law_default" jO f fd)(U:zgG P w K mg base c i0 i3 d0 d3):zx P w K mg base CX0 3 f fd ["_law_told"] (zil K c):=by
 refine F.ok zkE (fun cdv A outer s H vs Q E hr h=>?_);obtain⟨p,d,rfl,hp,q⟩:=h;have hS:SqT K H p d.row:=zv hp;refine⟨_,zh (zE (zn z9 (zy zJ (pv 0) zi (fun _ _=>rfl)) zr (zz _)) (zc (zu (cMk U.k0 .nil zW hr (ac (zy zJ (pv 0) zi (fun _ _=>rfl)) zb)))) zA)
  (zh (zE (zn z9 (zy zJ (pv 0) zi (fun _ _=>rfl)) zr (zz _)) (zc (zu (zfj U.k1 rfl U.m1))) zA)
  (zh (zE (zn z9 (zy zJ (pv 0) zi (fun _ _=>rfl)) zr (zz _)) (zc (zu (zfj U.k2 rfl U.m2))) zA)
  (zc (zu (cMk U.k3 .nil zW hr (ac (zy zJ (pv 0) zi (fun _ _=>rfl)) (ac (zy zJ (pv 0) zi (fun _ _=>rfl)) (ac (zy zJ (pv 0) zi (fun _ _=>rfl)) zb)))))))),?_⟩
 cases d with
 | told n=>
  exists _,rfl,p,_,_,.str "told",rfl,rfl,hS,rfl,rfl,_,rfl,?_;refine dT rfl ?_;exact⟨_,rfl,p,_,_,.int n,rfl,rfl,hS,rfl,fun x dx hx hdx ne=>⟨x,dx,.int n,rfl,za,⟨rfl,q x dx _ (vK hx hdx) hx za⟩⟩⟩
 | once=>
  exists _,rfl,p,_,_,.str "once",rfl,rfl,hS,rfl,rfl,_,rfl,?_;refine dF zmc ?_;exists _,rfl,p,_,_,.str "once",rfl,rfl,hS,rfl,rfl,_,rfl,?_;refine dT rfl ?_;exact fun x dx hx hdx ne=>q x dx _ (yL hx hdx) hx za
 | anew=>
  exists _,rfl,p,_,_,.str "anew",rfl,rfl,hS,rfl,rfl,_,rfl,?_;refine dF zld ?_;exists _,rfl,p,_,_,.str "anew",rfl,rfl,hS,rfl,rfl,_,rfl,?_;refine dF zlc ?_;exists _,rfl,p,_,_,.str "anew",rfl,rfl,hS,rfl,rfl,_,rfl,?_;refine dT rfl ?_;exact fun x dx hx hdx ne=>q x dx _ (yL hx hdx) hx za
 | sum a' t' p'=>
  exists _,rfl,p,_,_,.str "sum",rfl,rfl,hS,rfl,rfl,_,rfl,?_;refine dF zlb ?_;exists _,rfl,p,_,_,.str "sum",rfl,rfl,hS,rfl,rfl,_,rfl,?_;refine dF zla ?_;exists _,rfl,p,_,_,.str "sum",rfl,rfl,hS,rfl,rfl,_,rfl,?_;refine dF zk9 ?_;exact⟨_,rfl,p,_,_,.int a',rfl,rfl,hS,rfl,_,rfl,p,_,_,.int t',rfl,rfl,hS,rfl,_,rfl,p,_,_,.int p',rfl,rfl,hS,rfl,fun x dx hx hdx ne=>⟨x,dx,.int a',.int t',.int p',rfl,za,⟨rfl,q x dx _ (vK hx hdx) hx za⟩⟩⟩
def wl(n:Int):List (Str×V):=[(Str.ofString "coming",V.int n)]
theorem zeq(n:Int):zO "coming" (.int n) []=wl n:=rfl
theorem ziD(n m:Int):zO "coming" (.int m) (wl n)=wl m:=by
 show(if (Str.ofString "coming")="coming" then _ else _)=_
 rw[if_pos rfl];rfl
theorem zan(n:Int):(wl n).lookup ("coming" : Str)=some (.int n):=by
 rw[<- zeq,zk,if_pos rfl]
theorem jv(n:Int){m:Str}(h:¬m="coming"):(wl n).lookup m=none:=by
 rw[<- zeq,zk,if_neg h];rfl
theorem nm1:¬(("draw" : Str)="coming"):=by decide +kernel
theorem nm2:¬(("ahead" : Str)="coming"):=by decide +kernel
inductive zbX(C:Addr)(vs:List V)(H:Hp)(Q:VK)(E:XK):Prop|mk(p dx:Addr)(n:Int):vs=[.ref p,.int n]->H p=some (.ins C dx [])->(Q .non (upd H p (.ins C dx (wl n))))->zbX C vs H Q E
inductive zar(C:Addr)(vs:List V)(H:Hp)(Q:VK)(E:XK):Prop|mk(p dx:Addr)(n:Int):vs=[.ref p]->H p=some (.ins C dx (wl n))->(Q (.int n) (upd H p (.ins C dx (wl (n+1)))))->zar C vs H Q E
inductive zas(C:Addr)(vs:List V)(H:Hp)(Q:VK)(E:XK):Prop|mk(p dx:Addr)(n:Int):vs=[.ref p]->H p=some (.ins C dx (wl n))->(Q (.int n) H)->zas C vs H Q E
structure qu(K:Frag)(mg:Str->Option Value)(C:Addr):Prop where
 cl:Cls K C
 nC:z5 K C "coming"
 mgW:mg "Well"=some (.ref C)
theorem zgU:zq ["self","first"] ["self","first"] (zj zb1):=fsc
theorem zfz{ds:List Value}(F:qv K "__init__" "Well.__init__" zb1 f fd ds)(T:qu K mg C):zx P w K mg base CX0 1 f fd ["self","first"] (zbX C):=by
 refine F.ok zgU (fun vs H Q E h=>?_) (fun cdv A outer s H vs Q E hr h=>?_)
 ·obtain⟨p,dx,n,rfl,_⟩:=h
  rfl
 obtain⟨p,dx,n,rfl,hp,q⟩:=h;exists _,zc (y9 (pv 0) (pv 1) rfl),?_;exact⟨_,rfl,_,rfl,p,C,dx,[],rfl,hp,T.cl,T.nC,(by show 0<1000;decide),q⟩
theorem zc2:zq ["self","given"] ["self"] (zj zb2):=fsc
theorem zfA(F:Fun K "draw" "Well.draw" zb2 f fd)(T:qu K mg C):zx P w K mg base CX0 1 f fd ["self"] (zar C):=by
 refine F.ok zc2 (fun cdv A outer s H vs Q E hr h=>?_);obtain⟨p,dx,n,rfl,hp,q⟩:=h;exists _,zh (zw (i:=1) zc2.nd rfl (Or.inl rfl) (yh (pv 0) rfl)) (zh (zdQ (pv 0) zi zjX) (zc (zu (pv 1)))),?_;exists _,rfl,p,C,dx,_,_,rfl,hp,T.cl,T.nC,zan n,?_;exists _,rfl,p,C,dx,_,_,rfl,hp,T.cl,T.nC,zan n,_,_,rfl,rfl,dx,_,hp,(by show 1<1000;decide),?_
 exists _,rfl,?_;rw[ziD];exact q
theorem zeP:zq ["self"] ["self"] (zj zaA):=fsc
theorem zdZ(F:Fun K "ahead" "Well.ahead" zaA f fd)(T:qu K mg C):zx P w K mg base CX0 1 f fd ["self"] (zas C):=by
 refine F.ok zeP (fun cdv A outer s H vs Q E hr h=>?_);obtain⟨p,dx,n,rfl,hp,q⟩:=h;exists _,zc (zu (yh (pv 0) rfl)),?_;exact⟨_,rfl,p,C,dx,_,_,rfl,hp,T.cl,T.nC,zan n,q⟩
inductive ziU(c:C5)(CF:Addr)(vs:List V)(H:Hp)(Q:VK)(E:XK):Prop|mk(f:Addr)(rows:List Rw)(bars:List Str):vs=[.ref f]->yF c CF H f rows bars->VR rows->(∀(l:Addr) (H':Hp),zo H H'->H l=none->H' l=some (.lst ((z6 rows).map fun n=>V.int (n:Nat)))->Q (.ref l) H')->ziU c CF vs H Q E
end
section
variable {P:Program}{w:World}{K:Frag}{mg:Str->Option Value}{base:Heap}{f CF:Addr}{fd:FuncData}{c:C5}{m:MA}
theorem zk4:([Str.ofString "number",Str.ofString "one"]:List Str).Nodup:=by decide +kernel
theorem zkD:zq ["form","parameters"] ["form"] (zj zci):=fsc
theorem zkR{gP:Addr}{eP gt gf:FuncData}(F:Fun K "free_numbers" "free_numbers" zci f fd)(hen:mg "enumerate"=none)(PP:Pcs K m c)(FK:FC K CF)(mP:yT K CF "parameters" gP)(GP:zx P w K mg base CX0 1 gP eP ["self"] (uC c CF))(bP:zN K eP ["self"] [])
  (GT:zx P w K mg base CX0 1 m.fT gt ["self"] (jh K m otL)) (bT:zN K gt ["self"] []) (GF:zx P w K mg base CX0 1 m.fF gf ["self"] (zaq K m)) (bF:zN K gf ["self"] []):zx P w K mg base CX0 2 f fd ["form"] (ziU c CF):=by
 refine F.ok zkD (fun cdv A outer s H vs Q E hr h=>?_);obtain⟨f,rows,bars,rfl,hF,V1,q⟩:=h;have hT:∀C,Cs5 c C->Cls K C/\yT K C "takes_one" m.fT:=fun C ⟨k,hk,e⟩=>by rw[e];exact⟨(PP k hk).cl,(PP k hk).mT⟩
 have hO:∀C,Cs5 c C->Cls K C/\yT K C "free" m.fF:=fun C ⟨k,hk,e⟩=>by rw[e];exact⟨(PP k hk).cl,(PP k hk).mF⟩
 refine⟨_,zh (zw (i:=1) zkD.nd rfl (Or.inl rfl) (yi (pv 0) FK.cl mP GP hr bP .nil zW))
  (zc (zu (xO [] ["number","one"] [none,none] rfl ⟨rfl,rfl,rfl,rfl⟩ (wu rfl hen (ac (pv 1) zb)) (wS (K:=K) (n:=2) 0 1) rfl rfl rfl
   (fun pins fp s H C=>⟨yE rfl (zB (zp (i:=0) zk4 rfl (Or.inl rfl) (.inr rfl)) (zB (zp (i:=1) zk4 rfl (Or.inl rfl) (.inr rfl)) yk)),xM (xi (y8 (yp (wM (pv 1) hT GT hr bT zW)) (yK (yp (wM (pv 1) hO GF hr bF zW))))),pv 0⟩)))),?_⟩
 have l24:=V1.l24;obtain⟨dx,fs,lr,lb,ld,ps0,h1,h2,h3,h4,h5,h6⟩:=id hF;exists _,rfl,f,dx,fs,rfl,h1,h2.no _ (by decide +kernel),f,rows,bars,rfl,hF,fun lp ps H2 s2 np ep hps=>?_
 have lps:ps.length=rows.length:=hps.length;exists _,rfl,lp,rfl,⟨_,zg ep⟩,fun D hD=>?_;refine zhP (K:=K) (xs:=ps.map V.ref) (List.range rows.length) (jc rows) (fun n=>.int (n:Nat)) hD (zg ep) (by rw[length_map,length_range,lps]) (by rw[length_map];omega) (fun i x y p H' N S hx hy hp sH n1 s1=>?_) (fun H3 s3 h3'=>q D H3 (s2.trans s3) (s2.free hD) h3')
 obtain⟨pa,hpa,rfl⟩:=xL hx;obtain⟨r,hr',dx',hdx⟩:=zV hps hpa;have hi:i<rows.length:=(List.getElem?_eq_some_iff.mp hr').1;rw[getElem?_range hi] at hy;cases hy;have rok:=V1.ok r (mem_of_getElem? hr');have C:=PP r.k rok.1;have ek:jc rows i=(xt r.k&&r.b):=by unfold jc;rw[hr']
 have sp:=ze hp (.tup [.int (i:Nat),.ref pa]);have hdx3:=sp _ _ (sH _ _ hdx);exists p,_,rfl,zv za,rfl,_,_,rfl,_,_,rfl,rfl,?_;generalize upd H' p (.tup [.int (i:Nat),.ref pa])=H4 at sp hdx3 |-;exists _,rfl,pa,_,dx',_,rfl,⟨r.k,rok.1,rfl⟩,hdx3,u7 (by decide +kernel) (by decide +kernel) (by decide +kernel),pa,dx',_,_,_,_,rfl,C,hdx3,_,rfl,?_
 rw[show inV (.str (kw r.k)) otL=xt r.k from ziu r.k rok.1];cases ho:xt r.k with
 | false=>
  refine yo ?_;exact⟨fun e=>Bool.noConfusion e,fun _=>s1 _ sp (by rw[ek,ho];rfl)⟩
 | true=>
  refine vm ?_;exists _,rfl,pa,_,dx',_,rfl,⟨r.k,rok.1,rfl⟩,hdx3,u7 (by decide +kernel) (by decide +kernel) (by decide +kernel),pa,dx',_,_,_,_,rfl,C,hdx3,_,rfl,?_
  have ef:fr r.k r.b=r.b:=by
   have h:=ho;unfold xt at h;simp only[Bool.or_eq_true,beq_iff_eq] at h;rcases h with (h|h)|h <;> rw[h] <;> rfl
  rw[ef];exact⟨fun e=>⟨_,rfl,n1 _ sp (by rw[ek,ho,e];rfl)⟩,fun e=>s1 _ sp (by rw[ek,ho,e];rfl)⟩
end
end K43
namespace L2
open PySem PySem.Spec PyProof.Rows
theorem Inv.turnedL{X:Cx}{pins:PnL}{σ : St}{H:Hp}{s:Shared}{h':Heap}{t':Nat}{ch:List Addr}(I:Inv X pins σ H s)(hf:∀b∈ch,vf X pins H b)(k:∀b o,b∉ch->s.heap.get? b=some o->h'.get? b=some o):Inv X pins σ H { s with heap:=h',toks:=t' }:=by
 have nit:∀b u,H b=some u->b∉ch:=fun b u e z=>by rw[(hf b z).1] at e;cases e
 refine I.step (g':=s.gens) (d':=s.drawn) (ch:=ch) (fun b hb=>?_) (fun b o _ _ hc e _=>k b o hc e) (fun b o _ _ hc e _=>⟨o.slots,k b o hc e⟩) (fun _ _ _ _ n=>n)
  (fun b o hc e=>⟨o,k b o hc e⟩) (fun _ _ e=>e) (fun _ _ _ e=>e) (fun b ps e=>⟨#[],by rw[e];simp⟩) (fun m hm=>?_) (fun b u e=>?_) I.bare
 ·obtain⟨f0,f1,f2,f3,f4,f5⟩:=hf b hb
  exact⟨f3,f1,f4,f5⟩
 ·obtain⟨o,es,ep,ho,r⟩:=hm
  exact⟨o,es,ep,k _ o (fun z=>(hf _ z).2.1 rfl) ho,r⟩
 ·refine(I.hok b u e).stay (fun c v hc q=>k c v ?_ q) (fun _ q=>q) fun _ _ q=>q
  rcases hc with z|z
  ·rw[z];exact nit b u e
  ·exact nit c _ z
def Itz(K:Frag)(a b:Addr):It:=
 ⟨fun i H=>∃xs ys x y,SqL K H a xs/\SqL K H b ys/\xs[i]?=some x/\ys[i]?=some y,
  fun i H v H'=>∃(p:Addr) (x y:V),v=.ref p/\H p=none/\(∀xs,SqL K H a xs->xs[i]?=some x)/\(∀ys,SqL K H b ys->ys[i]?=some y)/\H'=upd H p (.tup [x,y]),
  fun i H=>∃xs ys,SqL K H a xs/\SqL K H b ys/\(xs.length<=i\/ys.length<=i)⟩
theorem zew{P:Program}{w:World}{K:Frag}{elts:List Expr}{x1:Nat}{tpos:Pos}(a b z TI TO i1 i2:Addr)(D:ZipApart z TI TO i1 i2 a b):
  qF P w K (.Tuple elts x1 tpos) (Itz K a b) [z,TI,TO,i1,i2] z (fun i h=>IsZip h z TI TO .none/\IsPair h TI (.ref i1) (.ref i2)/\(∃u v,IsPair h TO u v)/\h.IsListIter i1 a i/\h.IsListIter i2 b i) where
 mem:=by simp
 obj:=fun i h st c hc=>by
  obtain⟨hz,hTI,⟨u,v,hTO⟩,⟨o1,ho1,_,d1⟩,⟨o2,ho2,_,d2⟩⟩:=st;have hc':c=z\/c=TI\/c=TO\/c=i1\/c=i2:=by simpa using hc
  rcases hc' with rfl|rfl|rfl|rfl|rfl
  ·exact⟨_,hz,fun v q=>by cases q⟩
  ·exact⟨_,hTI,fun v q=>by cases q⟩
  ·exact⟨_,hTO,fun v q=>by cases q⟩
  ·exact⟨o1,ho1,fun v q=>by rw[d1] at q;cases q⟩
  ·exact⟨o2,ho2,fun v q=>by rw[d2] at q;cases q⟩
 keep:=fun i h h' st k=>by
  obtain⟨hz,hTI,⟨u,v,hTO⟩,⟨o1,ho1,d1⟩,⟨o2,ho2,d2⟩⟩:=st;exact⟨k z (by simp) _ hz,k TI (by simp) _ hTI,⟨u,v,k TO (by simp) _ hTO⟩,⟨o1,k i1 (by simp) _ ho1,d1⟩,⟨o2,k i2 (by simp) _ ho2,d2⟩⟩
 item:=by
  intro X hP hw hK hc i pins s σ H E I hf st hg;subst hP hw hK;obtain⟨hz,hTI,⟨u0,v0,hTO⟩,h1,h2⟩:=st;obtain⟨xs,ys,x,y,hS,hS',hx,hy⟩:=hg;obtain⟨its,rv,hp,hz1⟩:=I.list hS;obtain⟨its',rv',hp',hz2⟩:=I.list hS';obtain⟨u,hu,ru⟩:=rv.get hx;obtain⟨u',hu',ru'⟩:=rv'.get hy;refine wpAny_pyNext_zip_item D hz hTI hTO h1 h2 hp.isList hp'.isList (x:=u) (y:=u') (by simpa using hu) (by simpa using hu') fun h' hz' hTO' h1' h2' htup hsz hk=>?_
  have I0:Inv X pins σ H { s with heap:=h',toks:=s.toks }:=I.turnedL (ch:=[z,TO,i1,i2]) (fun c hc'=>hf c (by
    have hc':c=z\/c=TO\/c=i1\/c=i2:=by simpa using hc'
    rcases hc' with rfl|rfl|rfl|rfl <;> simp)) (fun c o hc' e=>hk c o (fun q=>hc' (by simp [q])) (fun q=>hc' (by simp [q])) (fun q=>hc' (by simp [q])) (fun q=>hc' (by simp [q])) e)
  have hfr:H s.heap.objs.size=none:=I.hok.fresh (le_refl _);have I1:Inv X pins σ (upd H s.heap.objs.size (.tup [x,y])) { s with heap:=h',toks:=s.toks }:=by
   have hok:HOk X.prog X.w (upd H s.heap.objs.size (.tup [x,y])) h':=fun b o q=>by
    by_cases hb:b=s.heap.objs.size
    ·subst hb
     rw[za] at q;cases q;exact⟨by show 2<=sizeLine;decide,[u,u'],.cons ru (.cons ru' .nil),⟨_,htup,rfl,_,rfl⟩⟩
    ·rw[zf hb] at q
     exact(I0.hok b o q).stay (fun _ _ _ z=>z) (fun c z=>by rw[zf (zd z hfr)];exact z) fun c xs' z=>by rw[zf (zd z hfr)];exact z
   refine I0.step (s:={ s with heap:=h',toks:=s.toks }) (g':=s.gens) (d':=s.drawn) (h':=h') (t':=s.toks) (ch:=[s.heap.objs.size]) (fun b hb=>?_) (fun b o _ _ _ e1 _=>e1) (fun b o _ _ _ e1 _=>⟨o.slots,e1⟩) (fun b o hb e1 n=>by rw[zf (fun z=>hb (by simp [z]))];exact n)
    (fun b o _ e1=>⟨o,e1⟩) (fun b xs' e1=>by rw[zf (zd e1 hfr)];exact e1) (fun b o' u' e1=>by rw[zf (zd e1 hfr)];exact e1) (fun b ps e1=>⟨#[],by rw[zf (zd e1 hfr),e1];simp⟩) (fun m hm=>hm) hok I0.bare
   have e':b=s.heap.objs.size:=by simpa using hb
   subst e';exists .inr I.sz,fun z=>?_,fun y c h z=>?_,fun p hp' z=>?_
   ·have:=I.lt;rw[<- z] at this;exact absurd this (lt_irrefl _)
   ·obtain⟨v',hv⟩:=I.cell y c h
    have:=hv.lt;rw[z] at this;exact absurd this (lt_irrefl _)
   ·have:=I.pin_lt hp';rw[z] at this;exact absurd this (lt_irrefl _)
  exists _,rfl,wpAny_letOwnedTupleGo_zip hz' fun h3 hz3 hs3=>?_;have lt:∀c∈[z,TI,TO,i1,i2],s.heap.objs.size≠c:=fun c hc' e=>by
   have hc':c=z\/c=TI\/c=TO\/c=i1\/c=i2:=by simpa using hc'
   have:∃o,s.heap.get? c=some o:=by
    obtain⟨o1,ho1,_⟩:=h1;obtain⟨o2,ho2,_⟩:=h2;rcases hc' with rfl|rfl|rfl|rfl|rfl
    ·exact⟨_,hz⟩
    ·exact⟨_,hTI⟩
    ·exact⟨_,hTO⟩
    ·exact⟨_,ho1⟩
    ·exact⟨_,ho2⟩
   obtain⟨o,ho⟩:=this
   have:=Heap.lt_size ho
   rw[<- e] at this;exact absurd this (lt_irrefl _)
  obtain⟨f0,f1,f2,f3,f4,f5⟩:=hf z (by simp)
  have I2:Inv X pins σ (upd H s.heap.objs.size (.tup [x,y])) { s with heap:=h3,toks:=s.toks }:=
   I1.turned (s:={ s with heap:=h',toks:=s.toks }) (t':=s.toks) (it:=z) (fun b o hb q=>(hs3.2 b hb).trans q) (by rw[zf (lt z (by simp)).symm];exact f0) f1 f3 f4 f5
  exists .ref s.heap.objs.size,_,I2,rfl,⟨_,x,y,rfl,hfr,fun xs' h'=>?_,fun ys' h'=>?_,rfl⟩,⟨hz3,(hs3.2 TI D.TIz).trans (hk TI _ D.TIz D.TITO D.TIi1 D.TIi2 hTI),⟨_,_,(hs3.2 TO D.TOz).trans hTO'⟩,?_,?_⟩,fun b hb=>?_
  ·rw[I.list_inj h' hS];exact hx
  ·rw[I.list_inj h' hS'];exact hy
  ·obtain⟨o,ho,r⟩:=h1'
   exact⟨o,(hs3.2 i1 D.i1z).trans ho,r⟩
  ·obtain⟨o,ho,r⟩:=h2'
   exact⟨o,(hs3.2 i2 D.i2z).trans ho,r⟩
  ·rw[zf (lt b hb).symm];exact(hf b hb).1
 done:=by
  intro X hP hw hK hc i pins s σ H E I hf st hg;subst hP hw hK;obtain⟨hz,hTI,⟨u0,v0,hTO⟩,h1,h2⟩:=st;obtain⟨xs,ys,hS,hS',hle⟩:=hg;obtain⟨its,rv,hp,hz1⟩:=I.list hS;obtain⟨its',rv',hp',hz2⟩:=I.list hS';refine wpAny_pyNext_zip_end (I.ok.hd hc) D hz hTI hTO h1 h2 hp.isList hp'.isList ?_ fun h' hk=>⟨rfl,?_⟩
  ·rcases hle with h|h
   ·exact .inl (by simp [<- rv.length,h])
   ·exact .inr (by simp [<- rv'.length,h])
  ·exact I.turnedL (t':=s.toks) (ch:=[z,TO,i1,i2]) (fun c hc'=>hf c (by
    have hc':c=z\/c=TO\/c=i1\/c=i2:=by simpa using hc'
    rcases hc' with rfl|rfl|rfl|rfl <;> simp)) (fun c o hc' e=>hk c o (fun q=>hc' (by simp [q])) (fun q=>hc' (by simp [q])) (fun q=>hc' (by simp [q])) (fun q=>hc' (by simp [q])) e)
 self:=fun A i s Q E st h=>wpAny_pyIter_zip st.1 h
section
variable {X:Cx}{elts:List Expr}{x1:Nat}{tpos:Pos}
inductive zmgJ(K:Frag)(R:It->Hp->Prop)(vs:List V)(H1:Hp):Prop|mk(a b:_):vs=[.ref a,.ref b]->(∃xs,SqL K H1 a xs)->(∃ys,SqL K H1 b ys)->(R (Itz K a b) H1)->zmgJ K R vs H1
def zmg(K:Frag)(ta:TA):TI:=fun σ H R=>ta σ H fun vs H1=>zmgJ K R vs H1
theorem zfg{l l':Expr}{ta:TA}{p pos:Pos}(hg:Gl X "zip")(hm:X.mg "zip"=none)(ha:PA X [l,l'] ta)(hl:wD l=false:=by rfl)(hl':wD l'=false:=by rfl):PI X (.Tuple elts x1 tpos) (.Call (.Name "zip" p) [l,l'] [] pos) (zmg X.K ta):=by
 exists ?_;intro pins s σ H R I h;have e2:starEach [l'] X.env=[(false,eval l' X.env)]:=yx hl';refine Call_ (vA I hg hm PyProof.Rows.boot_zip (PyProof.Rows.callWith_type1 (thn (ha pos pins s σ H _ I h) fun us s1 ⟨vs,H1,I1,r1,q1⟩=>?_) (yx hl) (by rw[e2];rfl)))
 obtain⟨a,b,e,⟨xs,hS⟩,⟨ys,hS'⟩,q⟩:=q1;subst e;obtain⟨u,u',rfl,ru,ru'⟩:=qI r1;cases ru;cases ru';obtain⟨its,rv,hp,hz⟩:=I1.list hS;obtain⟨its',rv',hp',hz'⟩:=I1.list hS';have la:a<s1.heap.objs.size:=by
  obtain⟨o,ho,_⟩:=hp.isList;exact Heap.lt_size ho
 have lb:b<s1.heap.objs.size:=by
  obtain⟨o,ho,_⟩:=hp'.isList;exact Heap.lt_size ho
 refine call_zip_2 hp.isList hp'.isList fun h' hzz hTI hTO h1 h2 hsz hk=>?_;refine wpAny_pyIter_zip hzz ?_;have hfr:∀b,s1.heap.objs.size<=b->H1 b=none:=fun b hb=>I1.hok.fresh hb;have I2:Inv X pins σ H1 { s1 with heap:=h' }:=I1.kept (t':=s1.toks) hk
 exists s1.heap.objs.size+4,[s1.heap.objs.size+4,s1.heap.objs.size+2,s1.heap.objs.size+3,s1.heap.objs.size,s1.heap.objs.size+1],_,_,H1,rfl,I2,zew a b _ _ _ _ _ (zipApart_new la lb),⟨hzz,hTI,⟨_,_,hTO⟩,h1,h2⟩,fun c hc=>?_,q;have hc':s1.heap.objs.size<=c:=by
  have hc':c=s1.heap.objs.size+4\/c=s1.heap.objs.size+2\/c=s1.heap.objs.size+3\/c=s1.heap.objs.size\/c=s1.heap.objs.size+1:=by simpa using hc
  rcases hc' with rfl|rfl|rfl|rfl|rfl
  ·exact le_add_right _ _
  ·exact le_add_right _ _
  ·exact le_add_right _ _
  ·exact le_refl _
  ·exact le_add_right _ _
 exact I1.fpOk hc' (hfr _ hc')
theorem zdo{K:Frag}{a b:Addr}{xs ys:List V}{g:TG}{tb:TS}{D:wF}{σ : St}{H:Hp}(Pv:Nat->St->Hp->Prop)(el:ys.length=xs.length)(h0:Pv 0 σ H)(hl:∀i σ H,i<=xs.length->Pv i σ H->SqL K H a xs/\SqL K H b ys)
  (hs:∀i x y p σ H,xs[i]?=some x->ys[i]?=some y->Pv i σ H->H p=none->g (.ref p) σ (upd H p (.tup [x,y])) fun σ2 H2=>tb { D with nx:=Pv (i+1),ct:=Pv (i+1),bk:=D.nx } σ2 H2) (hd:∀σ H,Pv xs.length σ H->D.nx σ H) :
  ∃W:Nat->Nat->St->Hp->Prop,(∃m,W 0 m σ H)/\∀i m σ H,W i m σ H->
   ((Itz K a b).stop i H/\D.nx σ H)\/((Itz K a b).go i H/\∃N:St->Hp->Prop,(∀σ' H',N σ' H'->∃m',m'<m/\W (i+1) m' σ' H')/\∀x H',(Itz K a b).yld i H x H'->g x σ H' fun σ2 H2=>tb { D with nx:=N,ct:=N,bk:=D.nx } σ2 H2):=by
 exists fun i m σ H=>m=xs.length - i/\i<=xs.length/\Pv i σ H,⟨xs.length,by simp,zero_le _,h0⟩,?_
 rintro i m σ H ⟨rfl,hi,p⟩;obtain⟨q,q'⟩:=hl i σ H hi p;by_cases hlt:i<xs.length
 ·have hlt':i<ys.length:=by omega
  refine .inr ⟨⟨xs,ys,xs[i],ys[i],q,q',by simp [hlt],by simp [hlt']⟩,Pv (i+1),fun σ' H' p'=>⟨xs.length - (i+1),by omega,rfl,hlt,p'⟩,fun x H' y=>?_⟩
  obtain⟨pp,x,y,rfl,hp,y1,y2,rfl⟩:=y;exact hs i x y pp σ H (y1 xs q) (y2 ys q') p hp
 ·have e:i=xs.length:=by omega
  subst e;exact .inl ⟨⟨xs,ys,q,q',.inl (le_refl _)⟩,hd σ H p⟩
end
end L2
namespace K43
open PySem L2 PyProof.Rows
theorem zj6{l g0 g:Nat}(h1:xR l g0=false)(h2:xR g0 g=false):xR l g=false:=by
 unfold xR at *;simp only[Bool.or_eq_false_iff,decide_eq_false_iff_not,Bool.and_eq_false_iff,beq_eq_false_iff_ne] at *;omega
theorem zfp:∀(rows:List Rw) (l n:Nat) (r:Rw),yQ l rows=true->rows[n]?=some r->xR l (grp r.k)=false
 | [],_,_,_,_,h=>by simp at h
 | x::xs,l,0,r,h,e=>by
  cases e;have h':(!xR l (grp x.k)&&yQ (grp x.k) xs)=true:=h;rw[Bool.and_eq_true,Bool.not_eq_true'] at h';exact h'.1
 | x::xs,l,n+1,r,h,e=>by
  have h':(!xR l (grp x.k)&&yQ (grp x.k) xs)=true:=h;rw[Bool.and_eq_true,Bool.not_eq_true'] at h';exact zj6 h'.1 (zfp xs _ n r h'.2 (by simpa using e))
theorem zfo:∀(rows:List Rw) (l m n:Nat) (r r':Rw),yQ l rows=true->m<n->rows[m]?=some r->rows[n]?=some r'->xR (grp r.k) (grp r'.k)=false
 | [],_,_,_,_,_,_,_,h,_=>by simp at h
 | x::xs,l,m,0,r,r',h,hm,_,_=>by omega
 | x::xs,l,0,n+1,r,r',h,_,e,e'=>by
  cases e;have h':(!xR l (grp x.k)&&yQ (grp x.k) xs)=true:=h;rw[Bool.and_eq_true,Bool.not_eq_true'] at h';exact zfp xs _ n r' h'.2 (by simpa using e')
 | x::xs,l,m+1,n+1,r,r',h,hm,e,e'=>by
  have h':(!xR l (grp x.k)&&yQ (grp x.k) xs)=true:=h;rw[Bool.and_eq_true,Bool.not_eq_true'] at h';exact zfo xs _ m n r r' h'.2 (by omega) (by simpa using e) (by simpa using e')
theorem zad{kk:Nat}:∀(rows:List Rw) (i m:Nat) (r:Rw),rows[m]?=some r->r.k=kk->(∀j r',j<m->rows[j]?=some r'->¬r'.k=kk)->zM kk i rows=some (i+m)
 | [],_,_,_,h,_,_=>by simp at h
 | x::xs,i,0,r,h,hk,_=>by
  cases h;show(if x.k=kk then some i else _)=_
  rw[if_pos hk];rfl
 | x::xs,i,m+1,r,h,hk,hn=>by
  show(if x.k=kk then some i else zM kk (i+1) xs)=_
  rw[if_neg (hn 0 x (by omega) rfl),zad xs (i+1) m r (by simpa using h) hk (fun j r' hj e=>hn (j+1) r' (by omega) (by simpa using e))]
  congr 1
  omega
theorem uV{kk:Nat}:∀(rows:List Rw) (i j:Nat),zM kk i rows=some j->∃r,i<=j/\rows[j - i]?=some r/\r.k=kk
 | [],_,_,h=>by cases h
 | x::xs,i,j,h=>by
  have h':(if x.k=kk then some i else zM kk (i+1) xs)=some j:=h
  by_cases e:x.k=kk
  ·rw[if_pos e] at h'
   cases h';exact⟨x,le_refl _,by simp,e⟩
  ·rw[if_neg e] at h'
   obtain⟨r,hl,hr,hk⟩:=uV xs (i+1) j h';exists r,by omega,?_,hk
   rw[show j - i=(j - (i+1))+1 by omega]
   simpa using hr
def jf(rows:List Rw)(n:Nat):Df->Prop
 | .sum a t _=>0<=a/\a<(n:Int)/\uD rows a=true/\-9<=t/\t<=9
 | _=>True
theorem zd7{rows:List Rw}{a:Int}(h0 : 0<=a)(h:uD rows a=true):V.int a≠wn (zM 2 0 rows):=fun e=>by
 cases ef:zM 2 0 rows with
 | none=>rw[ef] at e;cases e
 | some j=>
  rw[ef] at e;have ej:a=(j:Int):=V.int.inj e;obtain⟨r3,_,hr3,hk3⟩:=uV rows 0 j ef;unfold uD at h;rw[if_pos h0,ej,toNat_natCast] at h;rw[sub_zero] at hr3;rw[hr3] at h;have h:xt r3.k=true:=h;rw[hk3] at h;cases h
def DAt(c:C4)(H:Hp)(p:Addr)(d:Df):Prop:=∃dx,H p=some (.ins (c.at d.k) dx d.fs)
theorem vU{c:C4}{H H':Hp}{ps:List Addr}{ds:List Df}(s:zo H H')(h:Paired (DAt c H) ps ds):Paired (DAt c H') ps ds:=zm (fun _ _ ⟨dx,z⟩=>⟨dx,s _ _ z⟩) h
theorem Df.k4(d:Df):d.k<4:=by cases d <;> simp [Df.k]
structure D4(K:Frag)(mg:Str->Option Value)(c:C4)(DF:Addr):Prop where
 ty:∀k,k<4->∀(H:Hp) (p dx:Addr) (fs:List (Str×V)),H p=some (.ins (c.at k) dx fs)->wp K H (.ref p) (.ref (c.at k))
 kt:∀k,k<4->∀j,j<4->kitOne K (.ref (c.at k)) (.ref (c.at j))=some (decide (j=k))
 kd:∀k,k<4->kitOne K (.ref (c.at k)) (.ref DF)=some true
 cl0:Cls K c.c0
 cl3:Cls K c.c3
 nn:z5 K c.c0 "number"
 na:z5 K c.c3 "at"
 nt:z5 K c.c3 "times"
 np:z5 K c.c3 "plus"
 m0:mg "Told"=some (.ref c.c0)
 m1:mg "Once"=some (.ref c.c1)
 m2:mg "Anew"=some (.ref c.c2)
 m3:mg "Sum"=some (.ref c.c3)
 mD:mg "Default"=some (.ref DF)
theorem zeC{a t p:V}:(fSu a t p).lookup ("at" : Str)=some a:=by
 unfold fSu;rw[zk,if_neg (by decide +kernel),zk,if_neg (by decide +kernel),zk,if_pos rfl]
theorem zeB{a t p:V}:(fSu a t p).lookup ("times" : Str)=some t:=by
 unfold fSu;rw[zk,if_neg (by decide +kernel),zk,if_pos rfl]
theorem zgO{a t p:V}:(fSu a t p).lookup ("plus" : Str)=some p:=by
 unfold fSu;rw[zk,if_pos rfl]
theorem ziJ{v:V}:(fTo v).lookup ("number" : Str)=some v:=by
 unfold fTo;rw[zk,if_pos rfl]
theorem ur{ns:List Nat}{i:Nat}{x:V}(h:(ns.map fun n=>V.int (n:Nat))[i]?=some x):∃n,ns[i]?=some n/\x=.int (n:Nat):=by
 rw[getElem?_map] at h;cases e:ns[i]? with
 | none=>rw[e] at h;cases h
 | some z=>rw[e] at h;exact⟨z,rfl,(Option.some.inj h).symm⟩def spRDef (c:C5) (c4:C4) (CF:Addr):Sp:=fun vs H Q _=>∃(f ld:Addr) (rows:List Rw) (bars:List Str) (ps:List Addr) (ds:List Df),vs=[.ref f,.ref ld]/\yF c CF H f rows bars/\VR rows/\H ld=some (.lst (ps.map V.ref))/\Paired (DAt c4 H) ps ds/\Paired (jf rows) (z6 rows) ds/\∀H',zo H H'->Q .non H'
section
variable {P:Program}{w:World}{K:Frag}{mg:Str->Option Value}{base:Heap}{f CF DF:Addr}{fd:FuncData}{c:C5}{m:MA}{c4:C4}
theorem zay:zq ["form","defaults","numbers","number","default"] ["form","defaults"] (zj zeZ):=fsc
theorem zhu{g1 gT:Addr}{d1 eT:FuncData}(F:Fun K "refuse_defaults" "refuse_defaults" zeZ f fd)(T:uh mg)(FK:FC K CF)(DK:D4 K mg c4 DF)(cN:zI P w K mg base 2 "free_numbers" g1 d1 ["form"] (ziU c CF))
  (mT:yT K CF "tail" gT) (GT:zx P w K mg base CX0 1 gT eT ["self"] (wV c CF 2)) (bT:zN K eT ["self"] []):zx P w K mg base CX0 3 f fd ["form","defaults"] (spRDef c c4 CF):=by
 refine F.ok zay (fun cdv A outer s H vs Q E hr h=>?_);obtain⟨f,ld,rows,bars,ps,ds,rfl,hF,V1,hld,hp,hg,q⟩:=h;have hr1:yf 1 _:=hr.mono (by decide)
 refine⟨_,zh (zw (i:=2) zay.nd rfl (Or.inl rfl) (cF cN hr (ac (pv 0) zb)))
  (zh (zE (zn vy (cB zK T.len PySem.boot_len (ac (pv 1) zb)) (cB zK T.len PySem.boot_len (ac (pv 2) zb)) (zz _)) (zc xV) zA)
  (zh (zE (zn zfu (cB zK T.len PySem.boot_len (ac (pv 1) zb)) (cB zK T.len PySem.boot_len (ac (pv 2) zb)) (zz _)) (zc xV) zA)
  (zc (yD PassesOwn.never rfl (zfg rfl T.zip (ac (pv 2) (ac (pv 1) zb))) (yE rfl (zB (zp (i:=3) zay.nd rfl (Or.inl rfl)) (zB (zp (i:=4) zay.nd rfl (Or.inl rfl)) yk)))
   (zc (zE (xi (y8 (yp (cB xZ T.isi boot_isinstance (ac (pv 4) (ac (yB (v:=.ref c4.c3) rfl DK.m3 rfl) zb)))) (yK (xi (jS (vc (zbj zdg vy zi (yh (pv 4) rfl) (pv 3))) (uK (zn z9 (yh (pv 4) rfl) (yi (pv 0) FK.cl mT GT hr1 bT .nil zW) (zz _))))))))
    (zc xV) zA)))))),?_⟩
 exists _,rfl,f,rows,bars,rfl,hF,V1,fun l H1 s1 nl el=>?_;have lp:ps.length=ds.length:=hp.length;have lg:(z6 rows).length=ds.length:=hg.length;have lf:(z6 rows).length<=24:=le_trans (length_filter_le _ _) (by rw[length_range];exact V1.l24)
 have hld1:=s1 _ _ hld;exists _,rfl,ld,_,rfl,.inl (zg hld1),_,rfl,l,_,rfl,.inl (zg el),_,_,rfl,rfl,_,rfl,?_;refine dF (by rw[length_map,length_map];omega) ?_
 exists _,rfl,ld,_,rfl,.inl (zg hld1),_,rfl,l,_,rfl,.inl (zg el),_,_,rfl,rfl,_,rfl,?_;refine dF (by rw[length_map,length_map];omega) ?_
 refine⟨_,rfl,_,rfl,l,ld,rfl,⟨_,zg el⟩,⟨_,zg hld1⟩,zdo (K:=K) (a:=l) (b:=ld) (xs:=(z6 rows).map fun n=>V.int (n:Nat)) (ys:=ps.map V.ref) (fun i σ H'=>∃v3 v4,σ=[some (.ref f),some (.ref ld),some (.ref l),v3,v4]/\zo H1 H')
  (by rw[length_map,length_map];omega) ⟨_,_,rfl,zo.refl _⟩ (fun i σ H' _ ⟨_,_,_,sH⟩=>⟨zg (sH _ _ el),zg (sH _ _ hld1)⟩) ?_ ?_⟩
 ·rintro i x y p σ H2 hx hy ⟨v3,v4,rfl,s2⟩ hpn
  obtain⟨n,hn',rfl⟩:=ur hx;obtain⟨pa,hpa,rfl⟩:=xL hy;obtain⟨d,hd,dx,hdx⟩:=zV hp hpa;obtain⟨d',hd',gd⟩:=zV hg hn';rw[hd] at hd';cases hd';have sp:=ze hpn (.tup [.int (n:Nat),.ref pa]);exists p,_,rfl,zv za,rfl,_,_,rfl,_,_,rfl,rfl,?_;generalize upd H2 p (.tup [.int (n:Nat),.ref pa])=H3 at sp |-;have s3:=s2.trans sp;have s13:=s1.trans s3;have hd3:=s13 _ _ hdx;exists _,rfl,_,_,_,_,rfl,DK.ty _ d.k4 _ _ _ _ hd3,DK.kt _ d.k4 3 (by decide),_,rfl,?_
  cases d with
  | told _=>exact yW rfl (yo ⟨_,_,rfl,s3⟩)
  | once=>exact yW rfl (yo ⟨_,_,rfl,s3⟩)
  | anew=>exact yW rfl (yo ⟨_,_,rfl,s3⟩)
  | sum a t pl=>
   obtain⟨h0,h3,hs,_⟩:=gd;refine xE rfl ?_;exists _,rfl,pa,c4.c3,dx,_,_,rfl,hd3,DK.cl3,DK.na,zeC,_,_,rfl,rfl,_,rfl,?_;refine dT h0 ?_;exists _,rfl,_,_,rfl,rfl,_,rfl,?_;rw[decide_eq_true h3];refine yo ?_;have hF3:=hF.same s13;obtain⟨dxf,fs,lr,lb,ldo,ps0,g1,g2,g3,g4,g5,g6⟩:=id hF3;exists _,rfl,pa,c4.c3,dx,_,_,rfl,hd3,DK.cl3,DK.na,zeC,_,rfl,f,dxf,fs,rfl,g1,g2.no _ (by decide +kernel),f,rows,bars,rfl,hF3,?_,_,rfl,?_
   ·cases zM 2 0 rows <;> rfl
   refine yW (decide_eq_false (zd7 h0 hs)) ?_;exact⟨_,_,rfl,s3⟩
 ·rintro σ H2 ⟨v3,v4,rfl,s2⟩
  exact q H2 (s1.trans s2)
def Df.isOnce(d:Df):Bool:=d.k==1
def yc(ds:List Df):Nat:=(ds.filter Df.isOnce).length
theorem qQ{ds:List Df}{i:Nat}{d:Df}(h:ds[i]?=some d):yc (ds.take (i+1))=yc (ds.take i)+(if d.isOnce=true then 1 else 0):=by
 have hi:i<ds.length:=(List.getElem?_eq_some_iff.mp h).1;have e:ds[i]=d:=(List.getElem?_eq_some_iff.mp h).2;unfold yc;rw[take_succ_eq_append_getElem hi,e,filter_append,length_append];cases hd:d.isOnce <;> simp [List.filter,hd]
theorem zlp(d:Df)(n:Int):d.fs≠wl n:=fun e=>by
 have h:=zan n;rw[<- e] at h;cases d with
 | told m=>
  have h':(fTo (.int m)).lookup ("coming" : Str)=some (.int n):=h;unfold fTo at h';rw[zk,if_neg (by decide +kernel)] at h'
  cases h'
 | once=>cases h
 | anew=>cases h
 | sum a t p=>
  have h':(fSu (.int a) (.int t) (.int p)).lookup ("coming" : Str)=some (.int n):=h;unfold fSu at h';rw[zk,if_neg (by decide +kernel),zk,if_neg (by decide +kernel),zk,if_neg (by decide +kernel)] at h'
  cases h'
theorem DAt.now{c:C4}{H:Hp}{p wa CW dw:Addr}{d:Df}{n:Int}(h:DAt c H p d)(hw:H wa=some (.ins CW dw (wl n))):p≠wa:=fun z=>by
 obtain⟨dx,h⟩:=h;rw[z,hw] at h;injection h with h
 injection h with h1 h2 h3
 exact zlp d n h3.symm
theorem yF.sx{c:C5}{CF f p C dx:Addr}{H H':Hp}{rows:List Rw}{bars:List Str}{fs:List (Str×V)}(h:yF c CF H f rows bars)(e:H p=some (.ins C dx fs))(n1:fs.lookup ("word" : Str)=none)(n2:fs.lookup ("row" : Str)=none)(x:SX p H H'):yF c CF H' f rows bars:=by
 obtain⟨dxf,fsf,lr,lb,ld,ps,h1,h2,h3,h4,h5,h6⟩:=h;have nf:f≠p:=fun z=>by
  rw[z,e] at h1;injection h1 with h1
  injection h1 with a1 a2 a3
  have:=h2.row
  rw[<- a3,n2] at this;cases this
 exact⟨dxf,fsf,lr,lb,ld,ps,x _ _ h1 nf,h2,x _ _ h3 (ym h3 e (by intro z;cases z)),vM e n1 x h4,x _ _ h5 (ym h5 e (by intro z;cases z)),x _ _ h6 (ym h6 e (by intro z;cases z))⟩
theorem zkS:¬(("word" : Str)="coming"):=by decide +kernel
theorem zjM:¬(("row" : Str)="coming"):=by decide +kernel
def xq:Int->List Df->List Df
 | _,[]=>[]
 | n,.once::ds=>.told n::xq (n+1) ds
 | n,d::ds=>d::xq n ds
theorem vt:∀(n:Int) (ds:List Df),(xq n ds).length=ds.length
 | _,[]=>rfl
 | n,.once::ds=>by show(xq (n+1) ds).length+1=ds.length+1;rw[vt]
 | n,.told _::ds=>by show(xq n ds).length+1=ds.length+1;rw[vt]
 | n,.anew::ds=>by show(xq n ds).length+1=ds.length+1;rw[vt]
 | n,.sum _ _ _::ds=>by show(xq n ds).length+1=ds.length+1;rw[vt]
theorem wH:∀(n:Int) (ds:List Df) (d:Df),xq n (ds++[d])=xq n ds++xq (n+(yc ds:Nat)) [d]
 | n,[],d=>by rw[show n+((yc []:Nat):Int)=n from Int.add_zero n];rfl
 | n,.once::ds,d=>by
  show Df.told n::xq (n+1) (ds++[d])=Df.told n::(xq (n+1) ds++xq (n+((yc (.once::ds):Nat):Int)) [d]);rw[wH,show n+1+((yc ds:Nat):Int)=n+((yc (Df.once::ds):Nat):Int) from by
   rw[show yc (Df.once::ds)=yc ds+1 from rfl];omega]
 | n,.told x::ds,d=>by show Df.told x::xq n (ds++[d])=_;rw[wH];rfl
 | n,.anew::ds,d=>by show Df.anew::xq n (ds++[d])=_;rw[wH];rfl
 | n,.sum x y z::ds,d=>by show Df.sum x y z::xq n (ds++[d])=_;rw[wH];rfl
theorem qM{n:Int}{ds:List Df}{i:Nat}{d:Df}(h:ds[i]?=some d):xq n (ds.take (i+1))=xq n (ds.take i)++xq (n+(yc (ds.take i):Nat)) [d]:=by
 rw[take_add_one,h];exact wH _ _ _
def xa(ns:List Nat)(vs:List Addr):List (Key×V):=(ns.zip vs).map fun p=>(Sum.inl (p.1:Int),V.ref p.2)
theorem j0{ns:List Nat}{vs:List Addr}(h:vs.length<=ns.length):(xa ns vs).length=vs.length:=by
 unfold xa;rw[length_map,List.length_zip];omega
theorem qR:∀{ns:List Nat}{us:List Addr}{j:Nat}{x:Addr},ns[us.length]?=some j->xa ns (us++[x])=xa ns us++[(Sum.inl (j:Int),V.ref x)]
 | [],us,_,_,h=>by simp at h
 | n::ns,[],j,x,h=>by
  have:n=j:=by simpa using h
  subst this;cases ns <;> rfl
 | n::ns,u::us,j,x,h=>by
  show(Sum.inl (n:Int),V.ref u)::xa ns (us++[x])=(Sum.inl (n:Int),V.ref u)::(xa ns us++[(Sum.inl (j:Int),V.ref x)]);rw[qR (by simpa using h)]
theorem uO:∀{ns:List Nat}{us:List Addr},∀p∈xa ns us,∃m,m∈ns.take us.length/\p.1=Sum.inl (m:Int)
 | [],us,p,h=>by simp [xa] at h
 | n::ns,[],p,h=>by simp [xa] at h
 | n::ns,u::us,p,h=>by
  have h:p∈(Sum.inl (n:Int),V.ref u)::xa ns us:=h;rcases List.mem_cons.mp h with h|h
  ·exact⟨n,by simp,by rw[h]⟩
  ·obtain⟨m,hm,e⟩:=uO p h
   exact⟨m,by simp [hm],e⟩
theorem jZ{ns:List Nat}{us:List Addr}{j:Nat}{x:Addr}(nd:ns.Nodup)(h:ns[us.length]?=some j):yC (xa ns us) (Sum.inl (j:Int)) (V.ref x)=xa ns (us++[x]):=by
 unfold yC;rw[if_neg,qR h];intro e;obtain⟨p,hp,he⟩:=List.any_eq_true.mp e;obtain⟨m,hm,e2⟩:=uO p hp;have e3:(m:Int)=(j:Int):=by
  have:=of_decide_eq_true he
  rw[e2] at this;exact Sum.inl.inj this
 have e4:m=j:=by omega
 subst e4;obtain⟨k,hk,ek⟩:=List.mem_take_iff_getElem.mp hm;have h2:=List.getElem?_eq_some_iff.mp h;obtain⟨hl,eh⟩:=h2
 have:=(List.getElem_inj (i:=k) (j:=us.length) (h₀:=by omega) (h₁:=hl) nd).mp (by rw[ek,eh])
 omega
theorem wO:∀{ns:List Nat}{us:List Addr}{i j:Nat}{u:Addr},ns.Nodup->ns[i]?=some j->us[i]?=some u->z8 (xa ns us) (Sum.inl (j:Int))=some (V.ref u)
 | [],_,_,_,_,_,h,_=>by simp at h
 | _::_,[],_,_,_,_,_,h=>by simp at h
 | n::ns,v::us,0,j,u,_,h,h'=>by
  cases h;cases h';exact yH (p:=(Sum.inl (n:Int),V.ref v)) (r:=xa ns us) rfl
 | n::ns,v::us,i+1,j,u,nd,h,h'=>by
  obtain⟨n1,n2⟩:=List.nodup_cons.mp nd;have h:ns[i]?=some j:=h;have hj:=mem_of_getElem? h;have e:z8 (xa (n::ns) (v::us)) (Sum.inl (j:Int))=z8 (xa ns us) (Sum.inl (j:Int)):=yI (p:=(Sum.inl (n:Int),V.ref v)) (r:=xa ns us) (fun e=>n1 (by
   have:(n:Int)=(j:Int):=Sum.inl.inj e
   rw[show n=j by omega];exact hj))
  rw[e];exact wO n2 h h'
theorem xw(rows:List Rw):(z6 rows).Nodup:=(List.nodup_range).sublist List.filter_sublist
theorem DAt.upd{c:C4}{H:Hp}{p a:Addr}{o:HO}{d:Df}(h:DAt c H p d)(n:p≠a):DAt c (upd H a o) p d:=let ⟨dx,e⟩:=h;⟨dx,by rw[zf n];exact e⟩
theorem uw{c:C4}{H:Hp}{a:Addr}{o:HO}{ps:List Addr}{ds:List Df}(h:Paired (DAt c H) ps ds)(n:∀p d,DAt c H p d->p≠a):Paired (DAt c (L2.upd H a o)) ps ds:=zm (fun _ _ z=>z.upd (n _ _ z)) h
theorem DAt.dic{c:C4}{H:Hp}{p D:Addr}{d:Df}{kvs:List (Key×V)}(h:DAt c H p d)(hD:H D=some (.dK kvs)):p≠D:=fun z=>by
 obtain⟨dx,e⟩:=h;rw[z,hD] at e;cases e
theorem zlq(d:Df):d.fs.lookup ("kept_form" : Str)=none:=by
 cases d with
 | told m=>show(fTo (.int m)).lookup ("kept_form" : Str)=none;unfold fTo;rw[zk,if_neg (by decide +kernel)];rfl
 | once=>rfl
 | anew=>rfl
 | sum a t p=>show(fSu (.int a) (.int t) (.int p)).lookup ("kept_form" : Str)=none;unfold fSu;rw[zk,if_neg (by decide +kernel),zk,if_neg (by decide +kernel),zk,if_neg (by decide +kernel)];rfl
theorem DAt.fun_{c:C4}{H:Hp}{p q C dx:Addr}{d:Df}{fs:List (Str×V)}{v:V}(h:DAt c H p d)(hq:H q=some (.ins C dx fs))(e:fs.lookup ("kept_form" : Str)=some v):p≠q:=fun z=>by
 obtain⟨dx',h⟩:=h;rw[z,hq] at h;injection h with h
 injection h with h1 h2 h3
 rw[h3,zlq] at e;cases e
inductive zih(c:C5)(c4:C4)(CF CW:Addr)(vs:List V)(H:Hp)(Q:VK)(E:XK):Prop|mk(f ld wa dw:Addr)(n:Int)(rows:List Rw)(bars:List Str)(ps:List Addr)(ds:List Df):vs=[.ref f,.ref ld,.ref wa]->yF c CF H f rows bars->VR rows->H ld=some (.lst (ps.map V.ref))->Paired (DAt c4 H) ps ds->ds.length=(z6 rows).length->H wa=some (.ins CW dw (wl n))->(∀(D:Addr) (us:List Addr) (H':Hp),SX wa H H'->H D=none->H' D=some (.dK (xa (z6 rows) us))->Paired (DAt c4 H') us (xq n ds)->H' wa=some (.ins CW dw (wl (n+(yc ds:Nat))))->Q (.ref D) H')->zih c c4 CF CW vs H Q E
def uF(f wa D:Addr):List (Str×V):=zO "defaults" (.ref D) (zO "well" (.ref wa) (zO "kept_form" (.ref f) []))
theorem zeu{f wa D:Addr}:(uF f wa D).lookup ("kept_form" : Str)=some (.ref f):=by
 unfold uF;rw[zk,if_neg (by decide +kernel),zk,if_neg (by decide +kernel),zk,if_pos rfl]
theorem zkf{f wa D:Addr}{m:Str}(h1:¬m="kept_form")(h2:¬m="well")(h3:¬m="defaults"):(uF f wa D).lookup m=none:=by
 unfold uF;rw[zk,if_neg h3,zk,if_neg h2,zk,if_neg h1];rfl
inductive ziS(c:C5)(c4:C4)(CF CW CU:Addr)(vs:List V)(H:Hp)(Q:VK)(E:XK):Prop|mk(p dx f ld wa dw:Addr)(n:Int)(rows:List Rw)(bars:List Str)(ps:List Addr)(ds:List Df):vs=[.ref p,.ref f,.ref ld,.ref wa]->H p=some (.ins CU dx [])->yF c CF H f rows bars->VR rows->H ld=some (.lst (ps.map V.ref))->Paired (DAt c4 H) ps ds->(∀a∈ps,a≠p)->Paired (jf rows) (z6 rows) ds->H wa=some (.ins CW dw (wl n))->(∀(D:Addr) (us:List Addr) (H':Hp),H D=none->(∀b u,H b=some u->b≠p->b≠wa->H' b=some u)->H' wa=some (.ins CW dw (wl (n+(yc ds:Nat))))->H' p=some (.ins CU dx (uF f wa D))->H' D=some (.dK (xa (z6 rows) us))->Paired (DAt c4 H') us (xq n ds)->Q .non H')->ziS c c4 CF CW CU vs H Q E
structure UC(K:Frag)(CU:Addr):Prop where
 cl:Cls K CU
 n1:z5 K CU "kept_form"
 n2:z5 K CU "well"
 n3:z5 K CU "defaults"
variable {CN CW CU:Addr}
theorem zc3:zq ["form","defaults","well","found","number","default"] ["form","defaults","well"] (zj jL):=fsc
theorem zjC{g1 gD i0:Addr}{d1 eD d0:FuncData}(F:Fun K "settled" "settled" jL f fd)(T:uh mg)(DK:D4 K mg c4 DF)(WC:qu K mg CW)(cN:zI P w K mg base 2 "free_numbers" g1 d1 ["form"] (ziU c CF))
  (mD:yT K CW "draw" gD) (GD:zx P w K mg base CX0 1 gD eD ["self"] (zar CW)) (bD:zN K eD ["self"] []) (U:uY P w K mg base CX0 1 "Told" c4.c0 i0 d0 ["self","number"] [] (zgP c4.c0)):zx P w K mg base CX0 3 f fd ["form","defaults","well"] (zih c c4 CF CW):=by
 refine F.ok zc3 (fun cdv A outer s H vs Q E hr h=>?_);obtain⟨f,ld,wa,dw,n,rows,bars,ps,ds,rfl,hF,V1,hld,hp,el2,hwa,q⟩:=h;have hr1:yf 1 _:=hr.mono (by decide)
 have hu:=uu hr;refine⟨_,zh (zw (i:=3) zc3.nd rfl (Or.inl rfl) jV)
  (zh (yD PassesOwn.never rfl (zfg rfl T.zip (ac (cF cN hr (ac (pv 0) zb)) (ac (pv 1) zb))) (yE rfl (zB (zp (i:=4) zc3.nd rfl (Or.inl rfl)) (zB (zp (i:=5) zc3.nd rfl (Or.inl rfl)) yk)))
   (zc (jp hu (pv 3) (pv 4) (jU (yp (cB xZ T.isi boot_isinstance (ac (pv 5) (ac (yB (v:=.ref c4.c1) rfl DK.m1 rfl) zb)))) (cMk U .nil zW hr (ac (yi (pv 2) WC.cl mD GD hr1 bD .nil zW) zb)) (pv 5)) rfl)))
  (zc (zu (pv 3)))),?_⟩
 intro D hD;dsimp only[zS]
 injections D hD H1 s1 g1
 exists _,rfl,f,rows,bars,rfl,hF.same s1,V1,fun l H2 s2 nl el=>?_;have s12:=s1.trans s2;have lp:ps.length=ds.length:=hp.length;have lf:(z6 rows).length<=24:=le_trans (length_filter_le _ _) (by rw[length_range];exact V1.l24)
 have hwa2:=s12 _ _ hwa;have g2:=s2 _ _ g1;have nDw:D≠wa:=fun z=>by rw[z,hwa] at hD;cases hD
 have nlw:l≠wa:=ym el hwa2 (by intro z;cases z)
 have nlD:l≠D:=ym el g2 (by intro z;cases z)
 have nldw:ld≠wa:=ym hld hwa (by intro z;cases z)
 refine⟨_,rfl,l,ld,rfl,⟨_,zg el⟩,⟨_,zg (s12 _ _ hld)⟩,zdo (K:=K) (a:=l) (b:=ld) (xs:=(z6 rows).map fun n=>V.int (n:Nat)) (ys:=ps.map V.ref) (fun i σ H'=>∃v4 v5 us,σ=[some (.ref f),some (.ref ld),some (.ref wa),some (.ref D),v4,v5]/\SX wa H H'/\H' l=some (.lst ((z6 rows).map fun n=>V.int (n:Nat)))/\H' D=some (.dK (xa (z6 rows) us))/\us.length=i/\Paired (DAt c4 H') us (xq n (ds.take i))/\H' wa=some (.ins CW dw (wl (n+(yc (ds.take i):Nat)))))
  (by rw[length_map,length_map];omega) ⟨_,_,[],rfl,fun b u e _=>s12 _ _ e,el,(by cases h:z6 rows <;> exact g2),rfl,(by rw[take_zero];exact .nil),by rw[take_zero,show n+((yc []:Nat):Int)=n from Int.add_zero n];exact hwa2⟩ (fun i σ H' _ ⟨_,_,_,_,sH,e,_⟩=>⟨zg e,zg (sH _ _ hld nldw)⟩) ?_ ?_⟩
 ·rintro i x y p σ H3 hx hy ⟨v4,v5,us,rfl,s3,el3,gD3,lk,pu3,hw3⟩ hpn
  obtain⟨j,hj,rfl⟩:=ur hx;obtain⟨pa,hpa,rfl⟩:=xL hy;obtain⟨d,hd,hda⟩:=zV hp hpa;have npw:=hda.now hwa;obtain⟨dx,hdx⟩:=hda;have hi:i<ds.length:=(List.getElem?_eq_some_iff.mp hd).1;have lkD:(xa (z6 rows) us).length<=24:=by rw[j0 (by omega)];omega
  have sp:=ze hpn (.tup [.int (j:Nat),.ref pa]);exists p,_,rfl,zv za,rfl,_,_,rfl,_,_,rfl,rfl,?_;have s4:SX wa H _:=s3.same sp;have hd4:=s4 _ _ hdx npw;have hw4:=sp _ _ hw3;have el4:=sp _ _ el3;have gD4:=sp _ _ gD3;have pu4:=vU sp pu3;generalize upd H3 p (.tup [.int (j:Nat),.ref pa])=H4 at sp s4 hd4 hw4 el4 gD4 pu4 |-;exists _,rfl,_,_,_,_,rfl,DK.ty _ d.k4 _ _ _ _ hd4,DK.kt _ d.k4 1 (by decide),_,rfl,?_
  have et:=qQ hd;have es:=qM (n:=n) hd;have hjk:(z6 rows)[us.length]?=some j:=by rw[lk];exact hj
  cases ho:d.isOnce with
  | true=>
   rw[ho,if_pos rfl] at et;have hk:d.k=1:=by unfold Df.isOnce at ho;exact beq_iff_eq.mp ho
   have hdo:d=.once:=by cases d <;> first|rfl|cases hk
   subst hdo;refine xE rfl ?_;exists _,rfl,wa,dw,_,rfl,hw4,jv _ nm1,wa,dw,_,rfl,hw4,fun x dx' hx hdx' ne=>⟨x,dx',_,rfl,za,⟨rfl,?_⟩⟩;have sM:=vK (o1:=.ins c4.c0 dx' []) (o2:=.ins c4.c0 dx' (fTo (.int (n+(yc (ds.take i):Nat))))) hx hdx';have hw5:=sM _ _ (za (H:=H4) (a:=wa) (o:=.ins CW dw (wl (n+(yc (ds.take i):Nat)+1))));have gD5:=sM _ _ (show upd H4 wa (.ins CW dw (wl (n+(yc (ds.take i):Nat)+1))) D=_ by rw[zf nDw];exact gD4)
   have el5:=sM _ _ (show upd H4 wa (.ins CW dw (wl (n+(yc (ds.take i):Nat)+1))) l=_ by rw[zf nlw];exact el4)
   have pu5:=vU sM (uw (o:=.ins CW dw (wl (n+(yc (ds.take i):Nat)+1))) pu4 fun _ _ z=>z.now hw4);have s5:SX wa H _:=(s4.upd (o:=.ins CW dw (wl (n+(yc (ds.take i):Nat)+1)))).same sM;have gx5:upd (upd (upd (upd H4 wa (.ins CW dw (wl (n+(yc (ds.take i):Nat)+1)))) dx' (.own x)) x (.ins c4.c0 dx' [])) x (.ins c4.c0 dx' (fTo (.int (n+(yc (ds.take i):Nat))))) x=some (.ins c4.c0 dx' (fTo (.int (n+(yc (ds.take i):Nat))))):=za;generalize upd (upd (upd (upd H4 wa (.ins CW dw (wl (n+(yc (ds.take i):Nat)+1)))) dx' (.own x)) x (.ins c4.c0 dx' [])) x (.ins c4.c0 dx' (fTo (.int (n+(yc (ds.take i):Nat)))))=H5 at hw5 gD5 el5 s5 pu5 gx5 |-;exists _,rfl,_,rfl,D,_,rfl,zbR.k (k:=Sum.inl (j:Int)) gD5 (zC (by omega)),?_
   rw[jZ (xw rows) hjk];exists _,_,us++[x],rfl,fun b u e nb=>?_,?_,za,?_,?_,?_
   ·rw[zf (zd e hD)]
    exact s5 _ _ e nb
   ·rw[zf nlD]
    exact el5
   ·rw[length_append,lk];rfl
   ·rw[es]
    exact uw (ya pu5 (.cons (show DAt c4 H5 x (.told _) from ⟨dx',gx5⟩) .nil)) fun _ _ z=>z.dic gD5
   ·rw[zf nDw.symm,et,hw5]
    congr 3
    omega
  | false=>
   rw[ho,if_neg (by decide),Nat.add_zero] at et
   have hk:¬d.k=1:=fun z=>by unfold Df.isOnce at ho;rw[z] at ho;cases ho
   refine yW (decide_eq_false fun z=>hk z.symm) ?_;exists _,rfl,_,rfl,_,rfl,D,_,rfl,zbR.k (k:=Sum.inl (j:Int)) gD4 (zC (by omega)),?_
   rw[jZ (xw rows) hjk];have e1:xq (n+(yc (ds.take i):Nat)) [d]=[d]:=by cases d <;> first|rfl|exact absurd rfl hk
   exists _,_,us++[pa],rfl,fun b u e nb=>?_,?_,za,?_,?_,?_
   ·rw[zf (zd e hD)]
    exact s4 _ _ e nb
   ·rw[zf nlD]
    exact el4
   ·rw[length_append,lk];rfl
   ·rw[es,e1]
    exact uw (ya pu4 (.cons ⟨dx,hd4⟩ .nil)) fun _ _ z=>z.dic gD4
   ·rw[zf nDw.symm,et]
    exact hw4
 ·rintro σ H3 ⟨v4,v5,us,rfl,s3,el3,gD3,lk,pu3,hw3⟩
  rw[length_map,<- el2,take_length] at hw3 pu3;exact⟨_,rfl,q D us H3 s3 hD gD3 pu3 hw3⟩
theorem zgV:zq ["self","form","defaults","well"] ["self","form","defaults","well"] (zj zb4):=fsc
theorem zfB{g1 g2:Addr}{d1 d2:FuncData}(F:Fun K "__init__" "Function.__init__" zb4 f fd)(UK:UC K CU)(cR:zI P w K mg base 3 "refuse_defaults" g1 d1 ["form","defaults"] (spRDef c c4 CF))(cS':zI P w K mg base 3 "settled" g2 d2 ["form","defaults","well"] (zih c c4 CF CW)):zx P w K mg base CX0 4 f fd ["self","form","defaults","well"] (ziS c c4 CF CW CU):=by
 refine F.ok zgV (fun cdv A outer s H vs Q E hr h=>?_);obtain⟨p,dx,f,ld,wa,dw,n,rows,bars,ps,ds,rfl,hp,hF,V1,hld,hps,hne,hg,hwa,q⟩:=h;refine⟨_,zh (zG (cF cR hr (ac (pv 1) (ac (pv 2) zb))))
  (zh (y9 (pv 0) (pv 1) rfl)
  (zh (y9 (pv 0) (pv 3) rfl)
  (zc (y9 (pv 0) (cF cS' hr (ac (pv 1) (ac (pv 2) (ac (pv 3) zb)))) rfl)))),?_⟩
 exists _,rfl,_,rfl,f,ld,rows,bars,ps,ds,rfl,hF,V1,hld,hps,hg,fun H1 s1=>?_;have hp1:=s1 _ _ hp;exists _,rfl,_,rfl,p,CU,dx,_,rfl,hp1,UK.cl,UK.n1,(by show 0+1<=1000;decide),?_
 exists _,rfl,_,rfl,p,CU,dx,_,rfl,za,UK.cl,UK.n2,(by show 1+1<=1000;decide),?_
 rw[vG];have npw:wa≠p:=fun z=>by
  rw[z,hp] at hwa;injection hwa with hwa
  injection hwa with a1 a2 a3
  cases a3
 have x1:SX p H1 (upd H1 p (.ins CU dx (zO "well" (.ref wa) (zO "kept_form" (.ref f) [])))):=SX.refl.upd;have hF2:=(hF.same s1).sx hp1 rfl rfl x1;have hld2:=x1 _ _ (s1 _ _ hld) (ym (s1 _ _ hld) hp1 (by intro z;cases z))
 have hwa2:=x1 _ _ (s1 _ _ hwa) npw;have hps2:Paired (DAt c4 (upd H1 p (.ins CU dx (zO "well" (.ref wa) (zO "kept_form" (.ref f) []))))) ps ds:=by
  have:=vU s1 hps
  clear hps hld hld2 q hg;induction this with
  | nil=>exact .nil
  | cons h t ih=>
   refine .cons ?_ (ih (fun a ha=>hne a (mem_cons_of_mem _ ha)));obtain⟨dx',z⟩:=h;exact⟨dx',x1 _ _ z (hne _ mem_cons_self)⟩
 have p2:upd H1 p (.ins CU dx (zO "well" (.ref wa) (zO "kept_form" (.ref f) []))) p=some (.ins CU dx (zO "well" (.ref wa) (zO "kept_form" (.ref f) []))):=za;generalize upd H1 p (.ins CU dx (zO "well" (.ref wa) (zO "kept_form" (.ref f) [])))=H2 at x1 hF2 hld2 hwa2 hps2 p2 |-;exists _,rfl,_,rfl,_,rfl,f,_,wa,dw,n,rows,bars,ps,ds,rfl,hF2,V1,hld2,hps2,hg.length.symm,hwa2,fun D us H3 x3 nD hD3 pu3 hw3=>?_;have p3:=x3 _ _ p2 npw.symm;exists _,rfl,p,CU,dx,_,rfl,p3,UK.cl,UK.n3,(by show 2+1<=1000;decide),?_
 have ek:(zO "well" (.ref wa) (zO "kept_form" (.ref f) [])).lookup ("kept_form" : Str)=some (.ref f):=by
  rw[zk,if_neg (by decide +kernel),zk,if_pos rfl]
 have nD0:H D=none:=by
  cases e:H D with
  | none=>rfl
  | some o=>
   by_cases z:D=p
   ·rw[z,p2] at nD;cases nD
   ·rw[x1 _ _ (s1 _ _ e) z] at nD;cases nD
 refine q D us _ nD0 (fun b u e n1 n2=>?_) ?_ za ?_ ?_
 ·rw[zf n1]
  exact x3 _ _ (x1 _ _ (s1 _ _ e) n1) n2
 ·rw[zf npw]
  exact hw3
 ·rw[zf (ym hD3 p3 (by intro z;cases z))]
  exact hD3
 ·exact uw pu3 fun _ _ z=>z.fun_ p3 ek
end
end K43
namespace L2
open PySem PySem.Spec PyProof.Rows
theorem zkL{X:Cx}{pins:PnL}{σ : St}{H:Hp}{s:Shared}{A:Around}{a b:Addr}{xs ys:List V}(I:Inv X pins σ H s)(ha:SqT X.K H a xs)(hb:SqT X.K H b ys)(hz:∀(j:Nat) x y,xs[j]?=some x->ys[j]?=some y->xf x=true/\xf y=true)(hu:A.units+8<cLine):
  SeqAt.RcAt A s (.ref a) (.ref b) (eqT xs ys):=by
 obtain⟨ia,va,pa,_⟩:=I.tuple ha;obtain⟨ib,vb,pb,_⟩:=I.tuple hb;have la:ia.toArray.size=xs.length:=by rw[size_toArray];exact va.length.symm
 have lb:ib.toArray.size=ys.length:=by rw[size_toArray];exact vb.length.symm
 have:=SeqAt.RcAt.tuples (A:=A) (s:=s) (e:=fun j=>eqV (xs[j]?.getD .non) (ys[j]?.getD .non)) (show s.heap.IsTuple a ia.toArray from pa) (show s.heap.IsTuple b ib.toArray from pb) (by omega) (fun j h1 h2=>by
  have j1:j<ia.length:=by simpa using h1
  have j2:j<ib.length:=by simpa using h2
  have hxl:j<xs.length:=by rw[va.length];exact j1
  have hyl:j<ys.length:=by rw[vb.length];exact j2
  obtain⟨u',e1,e2⟩:=va.get (i:=j) (getElem?_eq_getElem hxl);obtain⟨v',e3,e4⟩:=vb.get (i:=j) (getElem?_eq_getElem hyl);rw[getElem?_eq_getElem j1] at e1;rw[getElem?_eq_getElem j2] at e3;cases e1;cases e3;have z:=hz j _ _ (getElem?_eq_getElem hxl) (getElem?_eq_getElem hyl);have q:=zcG (A:=A.in1) (s:=s) e2 e4 z.1 z.2;simpa [hxl,hyl] using q)
 rw[la,lb] at this;exact this
inductive zkMJ(K:Frag)(x:V)(y:V)(H:Hp)(Q:VK):Prop|mk(a c:Addr)(xs ys:List V):x=.ref a->y=.ref c->SqT K H a xs->SqT K H c ys->(∀(j:Nat) x y,xs[j]?=some x->ys[j]?=some y->xf x=true/\xf y=true)->(Q (.bl (eqT xs ys)) H)->zkMJ K x y H Q
def zkM(K:Frag):R2:=fun x y H Q=>zkMJ K x y H Q
theorem zhq{X:Cx}(hu:X.A.units+64<cLine):OpR X (compareOp .Eq) (zkM X.K):=by
 intro pins s σ H x y v u Q I rx ry h;obtain⟨a,c,xs,ys,rfl,rfl,ha,hc,hz,q⟩:=h;cases rx;cases ry;exact zkL (A:=X.A) I ha hc hz (by omega) X.prog X.w X.xe _ ⟨.bl _,H,I,rfl,q⟩
end L2
namespace K43
open PySem L2 PyProof.Rows
inductive En where
 | place (i:Nat)|name (j:Nat)|free|places (ns:List Int)|names (ns:List Int)
def En.row:En->List Dt
 | .place i=>[.str "place",.int (i:Nat)]|.name j=>[.str "name",.int (j:Nat)]|.free=>[.str "free"]
 | .places ns=>[.str "places",.lst (ns.map Dt.int)]|.names ns=>[.str "names",.lst (ns.map Dt.int)]
def En.ok(nT nP:Nat):En->Prop
 | .place i=>i<nT|.name j=>j<nP|.free=>True
 | .places ns=>ns.length<=900/\∀n∈ns,∃k:Nat,n=(k:Int)/\k<nT
 | .names ns=>ns.length<=900/\∀n∈ns,∃k:Nat,n=(k:Int)/\k<nP
def enE(rows:List Rw)(many:Nat)(fp:List (Str×Nat))(i:Nat):En:=
 if zM 2 0 rows=some i then .places (yX (plN rows) (many - plN rows))
 else if zM 4 0 rows=some i then .names ((uq rows fp).map fun (j:Nat)=>(j:Int))
 else match rows[i]? with
  | some r=>if qp r.k=true/\i<many then .place i else match fp.find? (fun p=>decide (p.1=r.z)) with
   | some p=>if xx r.k=true then .name p.2 else .free
   | none=>.free
  | none=>.free
theorem zbw(fp:List (Str×Nat))(z:Str):z8 (kvP fp) (.inr z)=(fp.find? fun p=>decide (p.1=z)).map fun p=>V.int (p.2:Nat):=by
 induction fp with
 | nil=>rfl
 | cons p fp ih=>
  by_cases e:p.1=z
  ·rw[find?_cons,decide_eq_true e]
   exact yH (p:=((Sum.inr p.1:Key),V.int (p.2:Nat))) (r:=kvP fp) (by rw[e])
  ·rw[find?_cons,decide_eq_false e]
   have h:z8 (kvP (p::fp)) (.inr z)=z8 (kvP fp) (.inr z):=yI (p:=((Sum.inr p.1:Key),V.int (p.2:Nat))) (r:=kvP fp) (fun q=>e (Sum.inr.inj q));rw[h,ih]
theorem ziy{rows:List Rw}{many:Nat}{fp:List (Str×Nat)}{i:Nat}(h:i<rows.length):zbE rows many fp i=.tup (enE rows many fp i).row:=by
 unfold zbE enE;split
 ·rfl
 ·split
  ·rw[map_map];simp [En.row,map_map]
  ·rw[getElem?_eq_getElem h]
   dsimp only;generalize rows[i]=r;unfold ug;rw[zbw];by_cases c:qp r.k=true/\i<many
   ·rw[if_pos c,if_pos c];rfl
   ·rw[if_neg c,if_neg c]
    cases e:fp.find? fun p=>decide (p.1=r.z) with
    | none=>rw[if_neg (by rintro⟨_,h⟩;cases h)];rfl
    | some p=>
     by_cases d:xx r.k=true
     ·rw[if_pos ⟨d,rfl⟩];dsimp only;rw[if_pos d];rfl
     ·rw[if_neg (fun z=>d z.1)];dsimp only;rw[if_neg d];rfl
theorem zgt:∀(zs:List Str) (i:Nat) (acc:List (Str×Nat)),(∀p∈acc,p.2<i)->∀p∈fpF i acc zs,p.2<i+zs.length
 | [],_,_,h,p,hp=>by simpa using h p hp
 | z::zs,i,acc,h,p,hp=>by
  have hp:p∈fpF (i+1) (if (acc.any fun p=>decide (p.1=z))=true then acc else acc++[(z,i)]) zs:=hp
  have:=zgt zs (i+1) _ (fun q hq=>by
   split at hq
   ·exact lt_succ_of_lt (h q hq)
   ·rcases List.mem_append.mp hq with hq|hq
    ·exact lt_succ_of_lt (h q hq)
    ·rw[List.mem_singleton.mp hq];exact lt_succ_self i) p hp
  rw[length_cons];omega
theorem zix{rows:List Rw}{zs:List Str}{many i:Nat}(h1:many<=900)(h2:zs.length<=900):(enE rows many (fpZ zs) i).ok many zs.length:=by
 have hlt:∀p∈fpZ zs,p.2<zs.length:=fun p hp=>by
  have:=zgt zs 0 [] (fun _ h=>nomatch h) p hp
  omega
 unfold enE;split
 ·exists by unfold L2.yX;rw[length_map,length_range];omega,fun n hn=>?_
  unfold L2.yX at hn;obtain⟨k,hk,rfl⟩:=List.mem_map.mp hn
  have:=List.mem_range.mp hk
  exact⟨plN rows+k,rfl,by omega⟩
 ·split
  ·exists ?_,fun n hn=>?_
   ·have a:=qS rows (fpZ zs)
    have b:=jt zs 0 [];have b:(fpZ zs).length<=zs.length:=by show(fpF 0 [] zs).length<=_;simpa using b
    rw[length_map];omega
   ·obtain⟨k,hk,rfl⟩:=List.mem_map.mp hn
    unfold uq at hk;obtain⟨p,hp,rfl⟩:=List.mem_map.mp hk;exact⟨p.2,rfl,hlt p (List.mem_filter.mp hp).1⟩
  ·split
   ·split
    next h=>exact h.2
    ·split
     next p e=>
      split
      ·exact hlt p (List.mem_of_find?_eq_some e)
      ·exact True.intro
     ·exact True.intro
   ·exact True.intro
theorem qV{many:Nat}{fk:List (Key×V)}:∀{rows:List Rw}{j:Nat},wR many fk j rows=[]->∀i r,rows[i]?=some r->xU r (j+i) many fk=false
 | [],_,_,i,r,h=>by simp at h
 | r0::rs,j,h,i,r,hr=>by
  have h:(if xU r0 j many fk=true then [(("lacking" : Str),j)] else [])++wR many fk (j+1) rs=[]:=h
  obtain⟨h1,h2⟩:=List.append_eq_nil_iff.mp h;cases i with
  | zero=>
   cases hr;rw[Nat.add_zero];cases e:xU r0 j many fk with
   | false=>rfl
   | true=>rw[e,if_pos rfl] at h1;cases h1
  | succ i=>
   have:=qV h2 i r (by simpa using hr)
   rw[show j+(i+1)=j+1+i by omega]
   exact this
theorem zdr{rows:List Rw}{many i:Nat}{fp:List (Str×Nat)}(V1:VR rows)(hl:wR many (kvP fp) 0 rows=[])(h:i<rows.length)(e:enE rows many fp i=.free):i∈z6 rows:=by
 have hr:rows[i]?=some rows[i]:=getElem?_eq_getElem h;have lk:=qV hl i _ hr;have rk:=V1.ok _ (getElem_mem h);have one:∀kk,(kk=2\/kk=4)->zM kk 0 rows≠some i->rows[i].k≠kk:=fun kk hk n e=>by
  refine n ?_;rw[zad rows 0 i _ hr e (fun j r2 hj e1 e2=>by
   have:=zfo rows 0 j i r2 _ V1.ord hj e1 hr
   rw[e2,e] at this;rcases hk with rfl|rfl <;> exact absurd this (by decide)),Nat.zero_add]
 unfold enE at e;split at e
 ·cases e
 next n2=>
  split at e
  ·cases e
  next n4=>
   have k2:=one 2 (.inl rfl) n2;have k4:=one 4 (.inr rfl) n4;rw[hr] at e;dsimp only at e;have hof:xt rows[i].k=true:=by
    unfold xt
    have:=rk.1
    simp only[Bool.or_eq_true,beq_iff_eq];omega
   have hone:ug rows[i] (0+i) many (kvP fp)=[.str "free"]:=by
    rw[Nat.zero_add];unfold ug;rw[zbw];split at e
    ·cases e
    next c=>
     rw[if_neg c];split at e
     next p ep=>
      split at e
      ·cases e
      next d=>rw[if_neg (fun z=>d z.1)]
     next ep=>rw[ep,if_neg (by rintro⟨_,h⟩;cases h)]
   unfold xU at lk;rw[hone] at lk;have hb:rows[i].b=true:=by
    have lk:(!fr rows[i].k rows[i].b&&L2.eqT [V.str "free"] [.str "free"])=false:=lk;rw[show L2.eqT [V.str "free"] [.str "free"]=true by decide +kernel,Bool.and_true,Bool.not_eq_false'] at lk
    have:=rk.1
    have:rows[i].k=0\/rows[i].k=1\/rows[i].k=3:=by omega
    rcases this with z|z|z <;> (rw[z] at lk;exact lk)
   unfold z6;refine List.mem_filter.mpr ⟨List.mem_range.mpr h,?_⟩;unfold jc;rw[hr];show(xt rows[i].k&&rows[i].b)=true;rw[hof,hb];rfl
theorem zae{rows:List Rw}{many i:Nat}{fp:List (Str×Nat)}{r:Rw}(hr:rows[i]?=some r)(ho:xt r.k=true):(∃j,enE rows many fp i=.place j)\/(∃j,enE rows many fp i=.name j)\/enE rows many fp i=.free:=by
 have no:∀kk,(kk=2\/kk=4)->zM kk 0 rows≠some i:=fun kk hk e=>by
  obtain⟨r',_,h1,h2⟩:=uV rows 0 i e;rw[sub_zero,hr] at h1;cases h1;rw[h2] at ho;rcases hk with rfl|rfl <;> cases ho
 unfold enE;rw[if_neg (no 2 (.inl rfl)),if_neg (no 4 (.inr rfl)),hr];dsimp only;split
 ·exact .inl ⟨_,rfl⟩
 ·split
  ·split
   ·exact .inr (.inl ⟨_,rfl⟩)
   ·exact .inr (.inr rfl)
  ·exact .inr (.inr rfl)
def dfF:List Nat->List Df->Nat->Df
 | n::ns,d::ds,i=>if n=i then d else dfF ns ds i
 | _,_,_=>.once
theorem zcI:∀{ns:List Nat}{ds:List Df}{k i:Nat}{d:Df},ns.Nodup->ns[k]?=some i->ds[k]?=some d->dfF ns ds i=d
 | [],_,_,_,_,_,h,_=>by simp at h
 | _::_,[],_,_,_,_,_,h=>by simp at h
 | n::ns,d0::ds,0,i,d,_,h,h'=>by cases h;cases h';exact if_pos rfl
 | n::ns,d0::ds,k+1,i,d,nd,h,h'=>by
  obtain⟨n1,n2⟩:=List.nodup_cons.mp nd;have h:ns[k]?=some i:=h;show(if n=i then d0 else dfF ns ds i)=d
  rw[if_neg (fun e=>n1 (by rw[e];exact mem_of_getElem? h))]
  exact zcI n2 h h'
def zjV:Option Dt->Int
 | some (.int n)=>n
 | _=>0
def jb(given:List Dt)(n:Int):Df->Int×Int
 | .told m=>(m,n)
 | .sum a t p=>(t * zjV given[a.toNat]?+p,n)
 | _=>(n,n+1)
def zfy(ts:List Int)(ps:List (Str×Int)):En->Dt
 | .place i=>.int (ts.getD i 0)
 | .name j=>.int (ps.getD j ("",0)).2
 | .places ns=>.lst ((ns.map fun n=>ts.getD n.toNat 0).map Dt.int)
 | .names ns=>.lst ((ns.map fun n=>ps.getD n.toNat ("",0)).map yy)
 | .free=>.non
def uZ(ts:List Int)(ps:List (Str×Int))(d:Df)(g:List Dt×Int):En->List Dt×Int
 | .free=>(g.1++[.int (jb g.1 g.2 d).1],(jb g.1 g.2 d).2)
 | e=>(g.1++[zfy ts ps e],g.2)
def jx(ts:List Int)(ps:List (Str×Int))(df:Nat->Df)(es:Nat->En)(n:Int):Nat->List Dt×Int
 | 0=>([],n)
 | k+1=>uZ ts ps (df k) (jx ts ps df es n k) (es k)
theorem zdJ{ts:List Int}{ps:List (Str×Int)}{d:Df}{g:List Dt×Int}:∀e,(uZ ts ps d g e).1.length=g.1.length+1:=fun e=>by cases e <;> exact length_append ..
theorem wG{ts:List Int}{ps:List (Str×Int)}{df:Nat->Df}{es:Nat->En}{n:Int}:∀k,(jx ts ps df es n k).1.length=k
 | 0=>rfl
 | k+1=>by show(uZ ..).1.length=_;rw[zdJ,wG k]
theorem zes{ts:List Int}{ps:List (Str×Int)}{df:Nat->Df}{es:Nat->En}{n:Int}{k i:Nat}(h:i<k):(jx ts ps df es n (k+1)).1[i]?=(jx ts ps df es n k).1[i]?:=by
 have e:∃x,(jx ts ps df es n (k+1)).1=(jx ts ps df es n k).1++[x]:=by
  show ∃x,(uZ ts ps (df k) (jx ts ps df es n k) (es k)).1=_;cases es k <;> exact⟨_,rfl⟩
 obtain⟨x,e⟩:=e;rw[e,List.getElem?_append_left (by rw[wG];exact h)]
theorem jw{ts:List Int}{ps:List (Str×Int)}{df:Nat->Df}{es:Nat->En}{n:Int}:∀{k i:Nat},i<k->((∃j,es i=.place j)\/(∃j,es i=.name j)\/es i=.free)->∃x,(jx ts ps df es n k).1[i]?=some (.int x)
 | 0,i,h,_=>absurd h (Nat.not_lt_zero _)
 | k+1,i,h,hi=>by
  by_cases c:i<k
  ·rw[zes c];exact jw c hi
  ·have:i=k:=by omega
   subst this;show ∃x,(uZ ts ps (df i) (jx ts ps df es n i) (es i)).1[i]?=some (.int x);have last:∀y:Dt,((jx ts ps df es n i).1++[y])[i]?=some y:=fun y=>by
    rw[List.getElem?_append_right (by rw[wG];exact le_refl _),wG,sub_self];rfl
   rcases hi with ⟨j,e⟩|⟨j,e⟩|e <;> rw[e]
   ·exact⟨_,last _⟩
   ·exact⟨_,last _⟩
   ·exact⟨_,last _⟩
end K43
namespace L2
open PySem PyProof.Rows
def ziH(X:Cx)(ss:List Stmt):TS:=fun D σ H=>∃t,PSs X ss t/\t D σ H
theorem yA{X:Cx}{ss:List Stmt}:PSs X ss (ziH X ss):=⟨fun pins s σ H D I ⟨_,p,h⟩=>p pins s σ H D I h⟩
theorem zP{X:Cx}{st:Stmt}{xT:List Stmt}{t:TS}{D:L2.wF}{σ : L2.St}{H:Hp}(p:PS X st t)(h:uB t (ziH X xT) D σ H):ziH X (st::xT) D σ H:=⟨_,zh p yA,h⟩
end L2
namespace K43
open PySem L2 PyProof.Rows
theorem zaV{ts:List Int}{i:Nat}{x:V}(h:(ts.map V.int)[i]?=some x):∃t,ts[i]?=some t/\x=.int t:=by
 rw[getElem?_map] at h;cases e:ts[i]? with
 | none=>rw[e] at h;cases h
 | some t=>rw[e] at h;exact⟨t,rfl,(Option.some.inj h).symm⟩
def zeo(K:Frag)(H:Hp)(x:V)(e:En):Prop:=zD K T' H 2 x (.tup e.row)
theorem qg{ts:List Int}{k:Nat}(h:k<ts.length):atI (ts.map V.int) (k:Int)=some (.int (ts.getD k 0)):=yO (by rw[getElem?_map,getElem?_eq_getElem h,getD_eq_getElem?_getD,getElem?_eq_getElem h];rfl)
theorem uM{K:Frag}{ok:Addr->Prop}{H:Hp}{xs:List V}{ps:List (Str×Int)}{k:Nat}(hp:Paired (zD K ok H 1) xs (ps.map yy))(h:k<ps.length):∃b,atI xs (k:Int)=some (.ref b)/\SqT K H b [.str (ps.getD k ("",0)).1,.int (ps.getD k ("",0)).2]:=by
 have hl:xs.length=ps.length:=by rw[hp.length,length_map]
 have hx:xs[k]?=some xs[k]:=getElem?_eq_getElem (by omega)
 obtain⟨d,hd,hs⟩:=Paired.get hp hx;obtain⟨p,hpk,rfl⟩:=zbn hd;obtain⟨b,eb,hb⟩:=qP hs;rw[eb] at hx;exists b,yO hx,?_;rw[getD_eq_getElem?_getD,hpk];exact hb
theorem zgb{K:Frag}{la lt D:Addr}{k:Nat}{σ : L2.St}{H:Hp}{Q:VK}{ns ts:List Int}(hk:yY [none,some k] σ=[none,some (.ref lt)])(hD:H D=none)(hla:H la=some (.lst (ns.map V.int)))(hlt:H lt=some (.lst (ts.map V.int)))(l9:ns.length<=900)(hn:∀n∈ns,∃k:Nat,n=(k:Int)/\k<ts.length)
  (q:∀H',zo H H'->zD K (fun a=>H a=none) H' 2 (.ref D) (.lst ((ns.map fun n=>ts.getD n.toNat 0).map Dt.int))->Q (.ref D) H'):LCr (Itl K la) [none,some k] (zS 0) zey (tOp (jR K) (zbU 1) (zbU 0)) σ H Q D:=by
 refine zbv (K:=K) (m:=1) (fun i=>Dt.int (ts.getD (ns.getD i 0).toNat 0)) hD (zg hla) (by rw[length_map];omega) (fun i x H' Qf Qs hx sH qf=>?_) (fun ws HF sF' eF pF=>?_)
 ·obtain⟨n,hn',rfl⟩:=zaV hx
  obtain⟨k,rfl,hk'⟩:=hn n (mem_of_getElem? hn');rw[hk];exists fun _=>?_,fun e=>Bool.noConfusion e;exists _,rfl,_,rfl,lt,_,_,_,rfl,rfl,zg (sH _ _ hlt),qg hk',qf _ _ (zo.refl _) ?_;rw[getD_eq_getElem?_getD (l:=ns),hn'];exact .int
 ·have:(List.range (ns.map V.int).length).map (fun i=>Dt.int (ts.getD (ns.getD i 0).toNat 0))=(ns.map fun n=>ts.getD n.toNat 0).map Dt.int:=by
   rw[length_map,map_map];refine List.ext_getElem (by simp) fun i h1 h2=>?_
   simp at h1 h2;simp [h1]
  rw[this] at pF;exact q _ sF' (zD.lst hD eF (zm (fun _ _ z=>xk (fun _ h _=>h.2) z) pF))
theorem zgd{K:Frag}{la lp D:Addr}{k:Nat}{σ : L2.St}{H:Hp}{Q:VK}{ns:List Int}{xs:List V}{ps:List (Str×Int)}(hk:yY [none,some k] σ=[none,some (.ref lp)])(hD:H D=none)(hla:H la=some (.lst (ns.map V.int)))(hlp:H lp=some (.lst xs))(hp:Paired (zD K T' H 1) xs (ps.map yy))(l9:ns.length<=900)(hn:∀n∈ns,∃k:Nat,n=(k:Int)/\k<ps.length)
  (q:∀H',zo H H'->zD K (fun a=>H a=none) H' 2 (.ref D) (.lst ((ns.map fun n=>ps.getD n.toNat ("",0)).map yy))->Q (.ref D) H'):LCr (Itl K la) [none,some k] (zS 0) zey (tOp (jR K) (zbU 1) (zbU 0)) σ H Q D:=by
 refine zbv (K:=K) (m:=1) (fun i=>yy (ps.getD (ns.getD i 0).toNat ("",0))) hD (zg hla) (by rw[length_map];omega) (fun i x H' Qf Qs hx sH qf=>?_) (fun ws HF sF' eF pF=>?_)
 ·obtain⟨n,hn',rfl⟩:=zaV hx
  obtain⟨k,rfl,hk'⟩:=hn n (mem_of_getElem? hn');obtain⟨b,hb,tb⟩:=uM hp hk';rw[hk];exists fun _=>?_,fun e=>Bool.noConfusion e;exists _,rfl,_,rfl,lp,_,_,_,rfl,rfl,zg (sH _ _ hlp),hb,qf _ _ (zo.refl _) ?_;rw[getD_eq_getElem?_getD (l:=ns),hn'];exact zD.tup (sH.sqT tb) (.cons .str (.cons .int .nil))
 ·have:(List.range (ns.map V.int).length).map (fun i=>yy (ps.getD (ns.getD i 0).toNat ("",0)))=(ns.map fun n=>ps.getD n.toNat ("",0)).map yy:=by
   rw[length_map,map_map];refine List.ext_getElem (by simp) fun i h1 h2=>?_
   simp at h1 h2;simp [h1]
  rw[this] at pF;exact q _ sF' (zD.lst hD eF (zm (fun _ _ z=>xk (fun _ h _=>h.2) z) pF))
theorem zkW:¬(V.str "free"=V.str "place"):=by decide +kernel
theorem zkV:¬(V.str "free"=V.str "name"):=by decide +kernel
theorem zkU:¬(V.str "free"=V.str "places"):=by decide +kernel
theorem zkT:¬(V.str "free"=V.str "names"):=by decide +kernel
inductive zkv(K:Frag)(vs:List V)(H:Hp)(Q:VK)(E:XK):Prop|mk(x:V)(lt lp:Addr)(xs:List V)(ts:List Int)(ps:List (Str×Int))(e:En):vs=[x,.ref lt,.ref lp]->zeo K H x e->e.ok ts.length ps.length->e≠.free->H lt=some (.lst (ts.map V.int))->H lp=some (.lst xs)->Paired (zD K T' H 1) xs (ps.map yy)->(∀(v:V) (H':Hp),zo H H'->zD K (fun a=>H a=none) H' 2 v (zfy ts ps e)->Q v H')->zkv K vs H Q E
theorem zis:¬(V.str "name"=V.str "place"):=by decide +kernel
theorem zf3:¬(V.str "places"=V.str "place"):=by decide +kernel
theorem zf4:¬(V.str "places"=V.str "name"):=by decide +kernel
theorem zf5:¬(V.str "names"=V.str "place"):=by decide +kernel
theorem zf6:¬(V.str "names"=V.str "name"):=by decide +kernel
theorem zdi:¬(V.str "names"=V.str "places"):=by decide +kernel
section
variable {P:Program}{w:World}{K:Frag}{mg:Str->Option Value}{base:Heap}{f CF CW CU DF:Addr}{fd:FuncData}{c:C5}{m:MA}{c4:C4}
theorem zma:([Str.ofString "number",Str.ofString "things"]:List Str).Nodup:=by decide +kernel
theorem zmb:([Str.ofString "number",Str.ofString "pairs"]:List Str).Nodup:=by decide +kernel
theorem zi1:zq ["entry","things","pairs","word","at"] ["entry","things","pairs"] (zj uI):=fsc
theorem zkQ(F:Fun K "handed_on" "handed_on" uI f fd):zx P w K mg base CX0 1 f fd ["entry","things","pairs"] (zkv K):=by
 refine F.ok zi1 (fun cdv A outer s H vs Q E hr h=>?_);obtain⟨x,lt,lp,xs,ts,ps,e,rfl,hx,hok,nf,hlt,hlp,hp,q⟩:=h;obtain⟨u,vs,rfl,hS,hv⟩:=yV hx;refine zP (vd (pv 0) (yE rfl (zB (zp (i:=3) zi1.nd rfl (Or.inl rfl)) (zB (zp (i:=4) zi1.nd rfl (Or.inl rfl)) yk)))) ?_;have rd:∃z a,vs=[.str z,a]:=by
  cases e with
  | free=>exact absurd rfl nf
  | place i=>cases hv with|cons h1 t=>cases t with|cons h2 t=>cases t;exact⟨_,_,by rw[z3 h1]⟩
  | name i=>cases hv with|cons h1 t=>cases t with|cons h2 t=>cases t;exact⟨_,_,by rw[z3 h1]⟩
  | places i=>cases hv with|cons h1 t=>cases t with|cons h2 t=>cases t;exact⟨_,_,by rw[z3 h1]⟩
  | names i=>cases hv with|cons h1 t=>cases t with|cons h2 t=>cases t;exact⟨_,_,by rw[z3 h1]⟩
 obtain⟨z,a,rfl⟩:=rd;exists _,rfl,u,_,rfl,hS,rfl,_,_,rfl,_,_,rfl,rfl,?_;dsimp only[zS];refine⟨_,zh (zE (zn z9 (pv 3) zr (zz _)) (zc (zu (zy zL (pv 1) (pv 4) (fun _ _=>rfl)))) zA)
  (zh (zE (zn z9 (pv 3) zr (zz _)) (zc (zu (zy zJ (zy zL (pv 2) (pv 4) (fun _ _=>rfl)) zi (fun _ _=>rfl)))) zA)
  (zh (zE (zn z9 (pv 3) zr (zz _)) (zc (zu (xO ["things"] ["number","things"] [none,some 1] rfl ⟨rfl,rfl,rfl,rfl⟩ (yt (pv 4)) (z7 0) rfl rfl rfl
   (fun pins fp s H C=>⟨zp (i:=0) zma rfl (Or.inl rfl) (.inr rfl),y7,zy (r:=jR K) zL (pv 1) (pv 0) (fun _ _=>rfl)⟩)))) zA)
  (zc (zu (xO ["pairs"] ["number","pairs"] [none,some 2] rfl ⟨rfl,rfl,rfl,rfl⟩ (yt (pv 4)) (z7 0) rfl rfl rfl
   (fun pins fp s H C=>⟨zp (i:=0) zmb rfl (Or.inl rfl) (.inr rfl),y7,zy (r:=jR K) zL (pv 1) (pv 0) (fun _ _=>rfl)⟩)))))),?_⟩
 cases e with
 | free=>exact absurd rfl nf
 | place i=>
  cases hv with|cons h1 t=>cases t with|cons h2 t=>
  obtain rfl:=xr h2;cases z3 h1;exists _,rfl,rfl,_,rfl,?_;refine dT rfl ?_;exact⟨_,rfl,_,rfl,lt,_,_,_,rfl,rfl,zg hlt,qg hok,q _ _ (zo.refl _) .int⟩
 | name j=>
  cases hv with|cons h1 t=>cases t with|cons h2 t=>
  obtain rfl:=xr h2;cases z3 h1;obtain⟨b,hb,tb⟩:=uM hp hok;exists _,rfl,rfl,_,rfl,?_;refine dF zis ?_;exists _,rfl,rfl,_,rfl,?_;refine dT rfl ?_;exact⟨_,rfl,_,rfl,lp,_,_,_,rfl,rfl,zg hlp,hb,b,_,1,_,rfl,rfl,tb,rfl,q _ _ (zo.refl _) .int⟩
 | places ns=>
  cases hv with|cons h1 t=>cases t with|cons h2 t=>
  obtain⟨la,ys,rfl,_,hla,hy⟩:=wk h2;obtain rfl:=wb hy;cases z3 h1;obtain⟨l9,hn⟩:=hok;exists _,rfl,rfl,_,rfl,?_;refine dF zf3 ?_;exists _,rfl,rfl,_,rfl,?_;refine dF zf4 ?_;exists _,rfl,rfl,_,rfl,?_;refine dT rfl ?_;exact⟨_,rfl,la,rfl,⟨_,zg hla⟩,fun D hD=>zgb rfl hD hla hlt l9 hn fun H' s' h=>q _ _ s' h⟩
 | names ns=>
  cases hv with|cons h1 t=>cases t with|cons h2 t=>
  obtain⟨la,ys,rfl,_,hla,hy⟩:=wk h2;obtain rfl:=wb hy;cases z3 h1;obtain⟨l9,hn⟩:=hok;exists _,rfl,rfl,_,rfl,?_;refine dF zf5 ?_;exists _,rfl,rfl,_,rfl,?_;refine dF zf6 ?_;exists _,rfl,rfl,_,rfl,?_;refine dF zdi ?_;exact⟨_,rfl,la,rfl,⟨_,zg hla⟩,fun D hD=>zgd rfl hD hla hlp hp l9 hn fun H' s' h=>q _ _ s' h⟩
theorem ziQ{K:Frag}{H H':Hp}{u p C dx:Addr}{vs:List V}{fs:List (Str×V)}(h:SqT K H u vs)(s:SX p H H')(hp:H p=some (.ins C dx fs)):SqT K H' u vs:=by
 rcases h with (h|⟨o,h⟩)|h
 ·exact .inl (.inl (s _ _ h (fun e=>by rw[e,hp] at h;cases h)))
 ·exact .inl (.inr ⟨o,s _ _ h (fun e=>by rw[e,hp] at h;cases h)⟩)
 ·exact .inr h
theorem vJ{K:Frag}{ok:Addr->Prop}{H H':Hp}{p C dx:Addr}{fs:List (Str×V)}{n:Nat}{x:V}{d:Dt}(h:zD K ok H n x d)(s:SX p H H')(hp:H p=some (.ins C dx fs)):zD K ok H' n x d:=
 h.frame (fun _ _ z=>ziQ z s hp) fun _ _ o z=>⟨o,s _ _ z (fun e=>by rw[e,hp] at z;cases z)⟩
theorem zgQ{H H':Hp}{p a:Addr}{u:HO}(s:SX p H H')(hp:H' p=some u)(h:H' a=none):H a=none:=by
 cases e:H a with
 | none=>rfl
 | some o=>rw[s a o e (fun z=>by rw[z,hp] at h;cases h)] at h;cases h
theorem ziG{f wa D:Addr}:(uF f wa D).lookup ("defaults" : Str)=some (.ref D):=by
 unfold uF;rw[zk,if_pos rfl]
theorem ziF{f wa D:Addr}:(uF f wa D).lookup ("well" : Str)=some (.ref wa):=by
 unfold uF;rw[zk,if_neg (by decide +kernel),zk,if_pos rfl]
structure qx(c:C5)(c4:C4)(CF CW CU:Addr)(H:Hp)(p f wa D dw:Addr)(rows:List Rw)(bars:List Str)(us:List Addr)(ds:List Df)(n:Int):Prop where
 at_:∃dx,H p=some (.ins CU dx (uF f wa D))
 fo:vF c CF H f rows bars
 v:VR rows
 di:H D=some (.dK (xa (z6 rows) us))
 pd:Paired (DAt c4 H) us ds
 gd:Paired (jf rows) (z6 rows) ds
 no:∀d∈ds,d.k≠1
 we:H wa=some (.ins CW dw (wl n))
theorem zh5{c:C4}{H H':Hp}{wa CW dw:Addr}{n:Int}{ps:List Addr}{ds:List Df}(h:Paired (DAt c H) ps ds)(s:SX wa H H')(hw:H wa=some (.ins CW dw (wl n))):Paired (DAt c H') ps ds:=
 zm (fun _ _ z=>let n:=z.now hw;let ⟨dx,e⟩:=z;⟨dx,s _ _ e n⟩) h
theorem zbC{H:Hp}{p wa CU CW dx dw f D:Addr}{n:Int}(h:H p=some (.ins CU dx (uF f wa D)))(hw:H wa=some (.ins CW dw (wl n))):p≠wa:=fun e=>by
 rw[e,hw] at h;injection h with h
 injection h with h1 h2 h3
 have:=zeu (f:=f) (wa:=wa) (D:=D)
 rw[<- h3,jv n (by decide +kernel)] at this
 cases this
theorem qx.sx{c:C5}{c4:C4}{CF CW CU:Addr}{H H':Hp}{p f wa D dw:Addr}{rows:List Rw}{bars:List Str}{us:List Addr}{ds:List Df}{n n':Int}(h:qx c c4 CF CW CU H p f wa D dw rows bars us ds n)(s:SX wa H H')(hw:H' wa=some (.ins CW dw (wl n'))):qx c c4 CF CW CU H' p f wa D dw rows bars us ds n':=by
 obtain⟨⟨dx,h1⟩,h2,h3,h4,h5,h6,h7,h8⟩:=h;exact⟨⟨dx,s _ _ h1 (zbC h1 h8)⟩,⟨h2.at_.sx h8 (jv n zkS) (jv n zjM) s,h2.lr,h2.lb,h2.ok⟩,h3,s _ _ h4 (ym h4 h8 (by intro z;cases z)),zh5 h5 s h8,h6,h7,hw⟩
inductive zbW(K:Frag)(c:C5)(c4:C4)(CF CW CU:Addr)(vs:List V)(H:Hp)(Q:VK)(E:XK):Prop|mk(p f wa D dw g:Addr)(rows:List Rw)(bars:List Str)(us:List Addr)(ds:List Df)(n:Int)(i:Nat)(xs:List V)(given:List Dt)(ok:Addr->Prop):vs=[.ref p,.int (i:Nat),.ref g]->qx c c4 CF CW CU H p f wa D dw rows bars us ds n->i∈z6 rows->H g=some (.lst xs)->Paired (zD K ok H 2) xs given->(∀k,k<i->uD rows (k:Int)=true->∃x,given[k]?=some (.int x))->(∀H',SX wa H H'->H' wa=some (.ins CW dw (wl (jb given n (dfF (z6 rows) ds i)).2))->Q (.int (jb given n (dfF (z6 rows) ds i)).1) H')->zbW K c c4 CF CW CU vs H Q E
theorem zeT:zq ["self","number","given","default"] ["self","number","given"] (zj zb3):=fsc
theorem zhA{gD:Addr}{eD:FuncData}(F:Fun K "left_out" "Function.left_out" zb3 f fd)(T:uh mg)(DK:D4 K mg c4 DF)(UK:UC K CU)(WC:qu K mg CW)(mD:yT K CW "draw" gD)(GD:zx P w K mg base CX0 1 gD eD ["self"] (zar CW))(bD:zN K eD ["self"] []):zx P w K mg base CX0 2 f fd ["self","number","given"] (zbW K c c4 CF CW CU):=by
 refine F.ok zeT (fun cdv A outer s H vs Q E hr h=>?_);obtain⟨p,f,wa,D,dw,g,rows,bars,us,ds,n,i,xs,given,ok,rfl,⟨⟨dx,hp⟩,hF,V1,hD,pd,gd,no,hw⟩,hi,hg,hgs,hint,q⟩:=h;have hr1:yf 1 _:=hr.mono (by decide)
 have hu:=uu hr;obtain⟨k,hk⟩:=List.getElem?_of_mem hi;obtain⟨d,hd,gdd⟩:=zV gd hk;obtain⟨u,hu',hud⟩:∃u,us[k]?=some u/\DAt c4 H u d:=by
  have hl:us.length=ds.length:=pd.length;have hkl:k<ds.length:=(List.getElem?_eq_some_iff.mp hd).1;have e:us[k]?=some us[k]:=getElem?_eq_getElem (by omega)
  obtain⟨d',e1,e2⟩:=zV pd e;rw[hd] at e1;cases e1;exact⟨_,e,e2⟩
 have edf:=zcI (xw rows) hk hd;have nd1:=no d (mem_of_getElem? hd);rw[edf] at q;refine zP (zw (i:=3) zeT.nd rfl (Or.inl rfl) (xW hu (yh (pv 0) rfl) (pv 1) (fun _ _=>rfl))) ?_;have hget:vh H D (.int (i:Nat)) (some (.ref u)):=by
  have:=vh.k (k:=Sum.inl (i:Int)) hD
  rw[wO (xw rows) hk hu'] at this;exact this
 exists _,rfl,p,CU,dx,_,_,rfl,hp,UK.cl,UK.n3,ziG,_,rfl,D,_,rfl,hget,?_;dsimp only[zS];obtain⟨dx',hd'⟩:=hud;have ty:=DK.ty _ d.k4 _ _ _ _ hd';refine⟨_,zh (zE (yp (cB xZ T.isi boot_isinstance (ac (pv 3) (ac (yB (v:=.ref c4.c0) rfl DK.m0 rfl) zb)))) (zc (zu (yh (pv 3) rfl))) zA)
  (zh (zE (yp (cB xZ T.isi boot_isinstance (ac (pv 3) (ac (yB (v:=.ref c4.c3) rfl DK.m3 rfl) zb)))) (zc (zu (zt yz (zt xB (yh (pv 3) rfl) (zy zL (pv 2) (yh (pv 3) rfl) (fun _ _=>rfl))) (yh (pv 3) rfl)))) zA)
  (zc (zu (yi (yh (pv 0) rfl) WC.cl mD GD hr1 bD .nil zW)))),?_⟩
 exists _,rfl,_,_,_,_,rfl,ty,DK.kt _ d.k4 0 (by decide),_,rfl,?_
 cases d with
 | told m=>
  refine xE rfl ?_;exact⟨_,rfl,u,c4.c0,dx',_,_,rfl,hd',DK.cl0,DK.nn,ziJ,q _ SX.refl hw⟩
 | once=>exact absurd rfl nd1
 | anew=>
  refine yW rfl ?_;exists _,rfl,_,_,_,_,rfl,ty,DK.kt _ (Df.k4 .anew) 3 (by decide),_,rfl,?_
  refine yW rfl ?_;exact⟨_,rfl,p,CU,dx,_,_,rfl,hp,UK.cl,UK.n2,ziF,wa,dw,_,rfl,hw,jv _ nm1,wa,dw,_,rfl,hw,q _ SX.refl.upd za⟩
 | sum a t pl=>
  obtain⟨h0,h3,hs,t0,t1⟩:=gdd;refine yW rfl ?_;exists _,rfl,_,_,_,_,rfl,ty,DK.kt _ (Df.k4 (.sum a t pl)) 3 (by decide),_,rfl,?_
  refine xE rfl ?_;obtain⟨b,rfl⟩:=eq_ofNat_of_zero_le h0;obtain⟨x,hx⟩:=hint b (by omega) hs
  have hxl:b<given.length:=(List.getElem?_eq_some_iff.mp hx).1;have hgl:=hgs.length;have hbl:b<xs.length:=by omega
  have e:xs[b]?=some xs[b]:=getElem?_eq_getElem hbl;obtain⟨d2,e1,e2⟩:=Paired.get hgs e;rw[hx] at e1;cases e1;have e3:=xr e2;rw[e3] at e;have el:jb given n (.sum (b:Int) t pl)=(t * x+pl,n):=by
   show(t * zjV given[(b:Int).toNat]?+pl,n)=_;rw[toNat_natCast,hx];rfl
  rw[el] at q;exact⟨_,rfl,u,c4.c3,dx',_,_,rfl,hd',DK.cl3,DK.nt,zeB,_,rfl,_,rfl,u,c4.c3,dx',_,_,rfl,hd',DK.cl3,DK.na,zeC,g,_,_,_,rfl,rfl,zg hg,yO e,t,x,rfl,rfl,.inl ⟨by omega,by omega⟩,_,rfl,u,c4.c3,dx',_,_,rfl,hd',DK.cl3,DK.np,zgO,_,_,rfl,rfl,q _ SX.refl hw⟩
theorem za7{ts:List Int}{ps:List (Str×Int)}{d:Df}{g:List Dt×Int}{e:En}(h:e≠.free):uZ ts ps d g e=(g.1++[zfy ts ps e],g.2):=by cases e <;> first|rfl|exact absurd rfl h
theorem zj2{K:Frag}{H:Hp}{x:V}{e:En}(h:zeo K H x e)(n:e≠.free):∃u z a,x=.ref u/\SqT K H u [.str z,a]:=by
 obtain⟨u,vs,rfl,hS,hv⟩:=yV h;cases e with
 | free=>exact absurd rfl n
 | place i=>cases hv with|cons h1 t=>cases t with|cons h2 t=>cases t;exact⟨u,_,_,rfl,by rw[<- z3 h1];exact hS⟩
 | name i=>cases hv with|cons h1 t=>cases t with|cons h2 t=>cases t;exact⟨u,_,_,rfl,by rw[<- z3 h1];exact hS⟩
 | places i=>cases hv with|cons h1 t=>cases t with|cons h2 t=>cases t;exact⟨u,_,_,rfl,by rw[<- z3 h1];exact hS⟩
 | names i=>cases hv with|cons h1 t=>cases t with|cons h2 t=>cases t;exact⟨u,_,_,rfl,by rw[<- z3 h1];exact hS⟩
theorem zj3{K:Frag}{H:Hp}{x:V}(h:zeo K H x .free):∃u,x=.ref u/\SqT K H u [.str "free"]:=by
 obtain⟨u,vs,rfl,hS,hv⟩:=yV h;cases hv with|cons h1 t=>cases t;exact⟨u,rfl,by rw[<- z3 h1];exact hS⟩
theorem qj{z:Str}{r:List V}:∀(j:Nat) x y,(V.str z::r)[j]?=some x->[V.str "free"][j]?=some y->xf x=true/\xf y=true
 | 0,x,y,h,h'=>by cases h;cases h';exact⟨rfl,rfl⟩
 | j+1,x,y,h,h'=>by simp at h'
def yr(rows:List Rw)(ds:List Df)(ct:List xp)(n:Int)(k:Nat):List Dt×Int:=jx (zR ct) (yn ct) (dfF (z6 rows) ds) (enE rows (zR ct).length (fpZ (zF ct))) n k
inductive zeN(K:Frag)(c:C5)(c4:C4)(CF CW CU:Addr)(cl:Nat->Addr)(vs:List V)(H:Hp)(Q:VK)(E:XK):Prop|mk(p f wa D dw a:Addr)(rows:List Rw)(bars:List Str)(us:List Addr)(ds:List Df)(n:Int)(ct:List xp):vs=[.ref p,.ref a]->qx c c4 CF CW CU H p f wa D dw rows bars us ds n->qA K H a ct->(wP rows bars ct=[]->∀(g:Addr) (H':Hp),SX wa H H'->H g=none->zD K (fun b=>H b=none) H' 3 (.ref g) (.lst (yr rows ds ct n rows.length).1)->H' wa=some (.ins CW dw (wl (yr rows ds ct n rows.length).2))->Q (.ref g) H')->((∀m ms,wP rows bars ct=m::ms->∀(d:Addr) (H':Hp),zo H H'->H' d=some (.xd [("number",.int (m.2:Nat))])->E (.ref (cl (wo m.1))) (some d) H'))->zeN K c c4 CF CW CU cl vs H Q E
theorem jJ:zq ["self","call","entries","things","pairs","given","number","entry"] ["self","call"] (zj jK):=fsc
theorem zjL{cl:Nat->Addr}{g1 g2 g3 gL:Addr}{d1 d2 d3 eL:FuncData}(F:Fun K "answer" "Function.answer" jK f fd)(hen:mg "enumerate"=none)(UK:UC K CU)(cP:vV P w K mg base 5 "paper" g1 d1 ["form","call"] (jl K c CF cl))(cL:zI P w K mg base 1 "laid" g2 d2 ["call"] (jC K))(cH:zI P w K mg base 1 "handed_on" g3 d3 ["entry","things","pairs"] (zkv K))
  (mL:yT K CU "left_out" gL) (GL:zx P w K mg base CX0 2 gL eL ["self","number","given"] (zbW K c c4 CF CW CU)) (bL:zN K eL ["self","number","given"] []):zx P w K mg base (CXs P w) 6 f fd ["self","call"] (zeN K c c4 CF CW CU cl):=by
 refine F.okS jJ (fun vs H Q E h=>?_) (fun cdv A outer s H vs Q E hr h=>?_)
 ·obtain⟨p,f,wa,D,dw,a,rows,bars,us,ds,n,ct,rfl,_⟩:=h
  rfl
 obtain⟨p,f,wa,D,dw,a,rows,bars,us,ds,n,ct,rfl,hfn,hc,q1,q2⟩:=h;have hr1:yf 1 _:=hr.mono (by decide)
 have hr2:yf 2 _:=hr.mono (by decide)
 have hr5:yf 5 _:=hr.mono (by decide)
 have hU:=hr.units;have V1:=hfn.v;have l24:=V1.l24;obtain⟨dx,hp⟩:=hfn.at_;have npw:=zbC hp hfn.we;refine zP (zw (i:=2) jJ.nd rfl (Or.inl rfl) (cS cP (zir fun _ _ _ z=>z) hr5 (ac (yh (pv 0) rfl) (ac (pv 1) zb)))) ?_;exists _,rfl,p,CU,dx,_,_,rfl,hp,UK.cl,UK.n1,zeu,_,rfl,f,a,rows,bars,ct,rfl,hfn.fo,hc,fun em l xs H1 s1 nl hl hxs=>?_,q2;have q1:=q1 em;dsimp only[zS];obtain⟨⟨cxs,cx1,cx2⟩,ct1,ct2⟩:=hc;refine zP (vd (cF cL hr1 (ac (pv 1) zb)) (yE rfl (zB (zp (i:=3) jJ.nd rfl (Or.inl rfl)) (zB (zp (i:=4) jJ.nd rfl (Or.inl rfl)) yk)))) ?_;exists _,rfl,a,ct,cxs,rfl,s1.seq cx1,zm (fun _ _ z=>z.same s1) cx2,ct1,ct2,fun pt H2 s2 ⟨l1,l2,ys,n1,n2,n12,np,hpt,hl1,hl2,hys⟩=>?_;exists pt,_,rfl,zv hpt,rfl,_,_,rfl,_,_,rfl,rfl,?_;dsimp only[zS];have s02:=s1.trans s2;have hl:=s2 _ _ hl;have hxs:=zm (fun _ _ z=>z.same s2) hxs;have fn2:qx c c4 CF CW CU H2 p f wa D dw rows bars us ds n:=hfn.sx (fun b u e _=>s02 _ _ e) (s02 _ _ hfn.we);have hxl:xs.length=rows.length:=by rw[hxs.length];unfold zcr;rw[length_map,length_range]
 clear s1 s2 hpt cx1 cx2 nl;refine zP (zw (i:=5) jJ.nd rfl (Or.inl rfl) (yg zb)) ?_;exists wj,fun g hg=>?_;dsimp only[zS]
 injections g hg H3 s3 g3
 have ngw:g≠wa:=fun e=>by rw[e,fn2.we] at hg;cases hg
 refine zP (yD PassesOwn.leaving rfl (wu rfl hen (ac (pv 2) zb)) (yE rfl (zB (zp (i:=6) jJ.nd rfl (Or.inl rfl)) (zB (zp (i:=7) jJ.nd rfl (Or.inl rfl)) yk))) yA) ?_;have nlw:l≠wa:=ym hl fn2.we (by intro z;cases z)
 refine⟨_,rfl,l,rfl,⟨_,zg (s3 _ _ hl)⟩,vB (K:=K) (a:=l) (xs:=xs) (fun i σ H'=>∃(v6 v7:Option V) (vs:List V),σ=[some (.ref p),some (.ref a),some (.ref l),some (.ref l1),some (.ref l2),some (.ref g),v6,v7]/\SX wa H2 H'/\H' g=some (.lst vs)/\Paired (zD K (fun b=>b≠g/\H2 b=none) H' 2) vs (yr rows ds ct n i).1/\H' wa=some (.ins CW dw (wl (yr rows ds ct n i).2)))
  ⟨_,_,[],rfl,fun b u e _=>s3 _ _ e,g3,.nil,s3 _ _ fn2.we⟩ (fun i σ H' _ ⟨_,_,_,_,sH,_⟩=>zg (sH _ _ hl nlw)) ?_ ?_⟩
 ·rintro i x pp σ H4 hx ⟨v6,v7,vs,rfl,s4,hg4,hv4,hw4⟩ hpn
  have hi:i<rows.length:=by rw[<- hxl];exact(List.getElem?_eq_some_iff.mp hx).1
  have lvs:vs.length=i:=by rw[hv4.length];exact wG i
  have sp:=ze hpn (.tup [.int (i:Nat),x]);exists pp,_,rfl,zv za,rfl,_,_,rfl,_,_,rfl,rfl,?_;have s5:SX wa H2 _:=s4.same sp;have hg5:=sp _ _ hg4;have hw5:=sp _ _ hw4;have hv5:=zm (fun _ _ z=>z.same sp) hv4;generalize upd H4 pp (.tup [.int (i:Nat),x])=H5 at sp s5 hg5 hw5 hv5 |-;clear s4 hg4 hv4 hw4 sp;obtain⟨d,hd,hs⟩:=Paired.get hxs hx;have hd':d=.tup (enE rows (zR ct).length (fpZ (zF ct)) i).row:=by
   unfold zcr at hd;rw[getElem?_map,getElem?_range hi] at hd;rw[<- ziy hi];exact(Option.some.inj hd).symm
  have eok:=zix (rows:=rows) (i:=i) ct1 (show(zF ct).length<=900 by unfold zF;rw[length_map];exact ct2)
  have lnm:(zF ct).length=(yn ct).length:=by unfold zF;rw[length_map]
  rw[lnm] at eok;rw[hd'] at hs;have hstep:yr rows ds ct n (i+1)=uZ (zR ct) (yn ct) (dfF (z6 rows) ds i) (yr rows ds ct n i) (enE rows (zR ct).length (fpZ (zF ct)) i):=rfl;have hent:zeo K H5 x (enE rows (zR ct).length (fpZ (zF ct)) i):=xk (fun _ _ _=>trivial) (vJ hs s5 fn2.we);have hfree:enE rows (zR ct).length (fpZ (zF ct)) i=.free->i∈z6 rows:=fun e=>zdr V1 (List.append_eq_nil_iff.mp (show u9 rows bars (zR ct).length (zF ct)=[] from em)).2 hi e;generalize enE rows (zR ct).length (fpZ (zF ct)) i=e at hstep hent eok hfree;have fn5:=fn2.sx s5 hw5;have grow:∀(v:V) (dt:Dt) (H7:Hp),SX wa H2 H7->H7 g=some (.lst vs)->Paired (zD K (fun b=>b≠g/\H2 b=none) H7 2) vs (yr rows ds ct n i).1->zD K (fun b=>b≠g/\H2 b=none) H7 2 v dt->(yr rows ds ct n (i+1)).1=(yr rows ds ct n i).1++[dt]->H7 wa=some (.ins CW dw (wl (yr rows ds ct n (i+1)).2))->
    ∃(v6 v7:Option V) (vs':List V),([some (.ref p),some (.ref a),some (.ref l),some (.ref l1),some (.ref l2),some (.ref g),some (.int (i:Nat)),some x]:L2.St)=[some (.ref p),some (.ref a),some (.ref l),some (.ref l1),some (.ref l2),some (.ref g),v6,v7]/\SX wa H2 (upd H7 g (.lst (vs++[v])))/\upd H7 g (.lst (vs++[v])) g=some (.lst vs')/\Paired (zD K (fun b=>b≠g/\H2 b=none) (upd H7 g (.lst (vs++[v]))) 2) vs' (yr rows ds ct n (i+1)).1/\upd H7 g (.lst (vs++[v])) wa=some (.ins CW dw (wl (yr rows ds ct n (i+1)).2)):=fun v dt H7 s7 h7 p7 hv ev hw=>by
   refine⟨_,_,vs++[v],rfl,fun b u e nb=>by rw[zf (zd e hg)];exact s7 _ _ e nb,za,?_,by rw[zf ngw.symm];exact hw⟩
   rw[ev];exact ya (zm (fun _ _ z=>yZ h7 (fun b o=>⟨o,o.1⟩) z) p7) (.cons (yZ h7 (fun b o=>⟨o,o.1⟩) hv) .nil)
  exists _,zc (zE (zn (zhq hU) (pv 7) (zQ (ac zr zb)) (zz _)) yA yA),?_;dsimp only[zS];by_cases he:e=.free
  ·subst he
   obtain⟨u,rfl,hu⟩:=zj3 hent;exists _,rfl,zav,fun tf htf=>?_;have sT:=ze htf (.tup [.str "free"]);have gT:upd H5 tf (.tup [.str "free"]) tf=some (.tup [.str "free"]):=za;exists u,tf,_,_,rfl,rfl,sT.sqT hu,zv za,qj,_,rfl,?_;refine xE (by decide +kernel) ?_
   have s6:SX wa H2 _:=s5.same sT;have hg6:=sT _ _ hg5;have hw6:=sT _ _ hw5;have hv6:=zm (fun _ _ z=>z.same sT) hv5;have fn6:=fn2.sx s6 hw6;generalize upd H5 tf (.tup [.str "free"])=H6 at s6 hg6 hw6 hv6 fn6 |-;obtain⟨dx6,hp6⟩:=fn6.at_;exists _,zc (zG (yv PySem.F.plainAttrs_list PySem.F.slot_list_append PySem.F.type_list_append zH (pv 5) (ac (jr (pv 0) UK.cl mL GL hr2 bL .nil zW (ac (pv 6) (ac (pv 5) zb))) zb))),?_;exists _,rfl,.inl ⟨rfl,_,zg hg6⟩,_,rfl,p,dx6,_,rfl,hp6,zkf (by decide +kernel) (by decide +kernel) (by decide +kernel),_,rfl,_,rfl,p,f,wa,D,dw,g,rows,bars,us,ds,_,i,vs,_,_,rfl,fn6,hfree rfl,hg6,hv6,fun k hk hs=>?_,fun H7 s7 hw7=>?_
   ·have:∃r,rows[k]?=some r/\xt r.k=true:=by
     unfold uD at hs;rw[if_pos (Int.natCast_nonneg k),toNat_natCast] at hs;cases e:rows[k]? with
     | none=>rw[e] at hs;cases hs
     | some r=>rw[e] at hs;exact⟨r,rfl,hs⟩
    obtain⟨r,hr,ho⟩:=this;exact jw hk (zae hr ho)
   ·have s27:SX wa H2 H7:=fun b u e nb=>s7 _ _ (s6 _ _ e nb) nb
    have hg7:=s7 _ _ hg6 ngw;have hv7:=zm (fun _ _ z=>vJ z s7 hw6) hv6;exists g,_,_,rfl,rfl,hg7,zC (by omega),grow _ _ H7 s27 hg7 hv7 .int ?_ ?_
    ·rw[hstep];rfl
    ·rw[hstep];exact hw7
  ·obtain⟨u,z,a',rfl,hu⟩:=zj2 hent he
   exists _,rfl,zav,fun tf htf=>?_;have sT:=ze htf (.tup [.str "free"]);exists u,tf,_,_,rfl,rfl,sT.sqT hu,zv za,qj,_,rfl,?_;refine yW (Bool.and_false _) ?_;have s6:SX wa H2 _:=s5.same sT;have hg6:=sT _ _ hg5;have hw6:=sT _ _ hw5;have hv6:=zm (fun _ _ z=>z.same sT) hv5;have hent6:zeo K _ (.ref u) e:=hent.same sT;generalize upd H5 tf (.tup [.str "free"])=H6 at s6 hg6 hw6 hv6 hent6 |-;exists _,zc (zG (yv PySem.F.plainAttrs_list PySem.F.slot_list_append PySem.F.type_list_append zH (pv 5) (ac (cF cH hr1 (ac (pv 7) (ac (pv 3) (ac (pv 4) zb)))) zb))),?_;exists _,rfl,.inl ⟨rfl,_,zg hg6⟩,_,rfl,_,rfl,_,rfl,.ref u,l1,l2,ys,zR ct,yn ct,e,rfl,hent6,eok,he,s6 _ _ hl1 (ym hl1 fn2.we (by intro z;cases z)),s6 _ _ hl2 (ym hl2 fn2.we (by intro z;cases z)),zm (fun _ _ z=>vJ z s6 fn2.we) hys,fun v H7 s7 hv=>?_
   have s27:SX wa H2 H7:=s6.same s7;exists g,_,_,rfl,rfl,s7 _ _ hg6,zC (by omega),grow v _ H7 s27 (s7 _ _ hg6) (zm (fun _ _ z=>z.same s7) hv6) (xk (fun b o _=>⟨(fun e=>by rw[e,hg6] at o;cases o),zgQ s6 hw6 o⟩) hv) ?_ ?_
   ·rw[hstep,za7 he]
   ·rw[hstep,za7 he];exact s7 _ _ hw6
 ·rintro σ H4 ⟨v6,v7,vs,rfl,s4,hg4,hv4,hw4⟩
  rw[hxl] at hv4 hw4;exists _,zc (zu (pv 5)),_,rfl,q1 g H4 (fun b u e nb=>s4 _ _ (s02 _ _ e) nb) (s02.free hg) (zD.lst (s02.free hg) hg4 (zm (fun _ _ z=>xk (fun b o _=>s02.free o.2) z) hv4)) hw4
def zep:Nat->Str
 | 0=>"doubled"
 | 1=>"over"
 | 2=>"barred"
 | 3=>"again"
 | 4=>"strange"
 | _=>"lacking"
structure zj8(mg:Str->Option Value)(cl:Nat->Addr)(MI:Addr):Prop where
 isi:mg "isinstance"=none
 int:mg "int"=none
 mi:mg "Misfit"=some (.ref MI)
 m0:mg "Doubled"=some (.ref (cl 0))
 m1:mg "Over"=some (.ref (cl 1))
 m2:mg "Barred"=some (.ref (cl 2))
 m3:mg "Again"=some (.ref (cl 3))
 m4:mg "Strange"=some (.ref (cl 4))
 m5:mg "Lacking"=some (.ref (cl 5))
structure uz(K:Frag)(cl:Nat->Addr)(MI:Addr)(i:Nat):Prop where
 ex:xj K (cl i)
 set:qt K (cl i)
 no:z5 K (cl i) "number"
 k:∀j,j<6->kitOne K (.ref (cl i)) (.ref (cl j))=some (decide (j=i))
 ce:exmOne K (.ref (cl i)) (.ref MI)=some true
abbrev rG(K:Frag):List V->Hp->VK->Prop:=fun xs H Q=>∃(ea D C:Addr) (b:Bool),xs=[.ref ea,.ref C]/\zcN H ea D/\xj K D/\kitOne K (.ref D) (.ref C)=some b/\Q (.bl b) H
inductive zeD(K:Frag)(cl:Nat->Addr)(MI:Addr)(ea:Addr)(vs:List V)(H:Hp)(Q:VK)(E:XK):Prop|mk(i:Nat)(d t:Addr):vs=[.ref ea]->i<6->uz K cl MI i->H ea=some (qk ea (cl i) (some d) t)->(∀H',zo H H'->Q (.str (zep i)) H')->zeD K cl MI ea vs H Q E
inductive zeL(K:Frag)(c:C5)(c4:C4)(CF CW CU:Addr)(vs:List V)(H:Hp)(Q:VK)(E:XK):Prop|mk(p f wa D dw a:Addr)(rows:List Rw)(bars:List Str)(us:List Addr)(ds:List Df)(n:Int)(ct:List xp):vs=[.ref p,.ref a]->qx c c4 CF CW CU H p f wa D dw rows bars us ds n->qA K H a ct->(wP rows bars ct=[]->∀(t g:Addr) (H':Hp),SX wa H H'->H' t=some (.tup [.str "told",.ref g])->zD K (fun b=>H b=none) H' 3 (.ref g) (.lst (yr rows ds ct n rows.length).1)->H' wa=some (.ins CW dw (wl (yr rows ds ct n rows.length).2))->Q (.ref t) H')->((∀m ms,wP rows bars ct=m::ms->∀(t:Addr) (H':Hp),zo H H'->H' t=some (.tup [.str m.1,.int (m.2:Nat)])->Q (.ref t) H'))->zeL K c c4 CF CW CU vs H Q E
def vn(z:Str):Prop:=zep (wo z)=z
theorem wd0:vn "doubled":=by unfold vn;decide +kernel
theorem wd1:vn "over":=by unfold vn;decide +kernel
theorem wd2:vn "barred":=by unfold vn;decide +kernel
theorem wd3:vn "again":=by unfold vn;decide +kernel
theorem wd4:vn "strange":=by unfold vn;decide +kernel
theorem wd5:vn "lacking":=by unfold vn;decide +kernel
theorem zgC(fk:List (Key×V)):∀(zs:List Str) (i:Nat),∀m∈zaX fk i zs,vn m.1
 | [],_,m,h=>by cases h
 | z::zs,i,m,h=>by
  rcases List.mem_append.mp h with h|h
  ·split at h
   ·cases h
   ·rw[List.mem_singleton.mp h];exact wd0
  ·exact zgC fk zs (i+1) m h
theorem zdk(many:Nat)(fk:List (Key×V)):∀(rows:List Rw) (i:Nat),∀m∈wR many fk i rows,vn m.1
 | [],_,m,h=>by cases h
 | r::rs,i,m,h=>by
  rcases List.mem_append.mp h with h|h
  ·split at h
   ·rw[List.mem_singleton.mp h];exact wd5
   ·cases h
  ·exact zdk many fk rs (i+1) m h
theorem zho(rows:List Rw)(many:Nat):∀m∈uc rows many,vn m.1:=fun m h=>by
 unfold uc at h;split at h
 ·cases h
 ·obtain⟨_,_,rfl⟩:=List.mem_map.mp h
  exact wd1
theorem zgJ{rows:List Rw}{bars:List Str}{many:Nat}{z x:Str}(h:wf rows bars many z=some x):vn x:=by
 unfold wf at h;split at h
 ·cases h;exact wd2
 ·split at h
  ·split at h
   ·cases h
   ·cases h;exact wd4
  ·split at h
   ·cases h;exact wd3
   ·cases h
theorem ziE(rows:List Rw)(bars:List Str)(many:Nat)(fp:List (Str×Nat)):∀m∈jy rows bars many fp,vn m.1:=fun m h=>by
 unfold jy at h;obtain⟨p,_,e⟩:=List.mem_filterMap.mp h;cases e2:wf rows bars many p.1 with
 | none=>rw[e2] at e;cases e
 | some x=>
  rw[e2] at e;cases e;exact zgJ e2
theorem zhN{rows:List Rw}{bars:List Str}{ct:List xp}:∀m∈wP rows bars ct,vn m.1:=fun m h=>by
 unfold wP u9 at h;rw[mem_append,mem_append,mem_append] at h;rcases h with ((h|h)|h)|h
 ·exact zgC _ _ _ m h
 ·exact zho _ _ m h
 ·exact ziE _ _ _ _ m h
 ·exact zdk _ _ _ _ m h
variable {MI:Addr}{cl:Nat->Addr}
theorem zkz:zq ["_law_e"] ["_law_e"] (zj zcg):=fsc
theorem zjy(F:Fun K "_law_word" "_law_word" zcg f fd)(U:zj8 mg cl MI)(ea:Addr):zgF P w K mg base ea 1 f fd ["_law_e"] (zeD K cl MI ea):=by
 refine F.okH zkz (fun vs H Q E h=>?_) (fun cdv A outer s H vs Q hA hr h=>?_)
 ·obtain⟨i,d,t,rfl,_⟩:=h
  rfl
 obtain⟨i,d,t,rfl,hi,so,hea,q⟩:=h;have he:zcN H ea (cl i):=.inl ⟨_,_,hea⟩;have no:∀j,j≠i->decide (j=i)=false:=fun j h=>decide_eq_false h;refine⟨_,zh (zE (yp (cB (r:=rG K) xm U.isi boot_isinstance (ac (pv 0) (ac (yB (v:=.ref (cl 0)) rfl U.m0 rfl) zb)))) (zc (zu zr)) zA)
  (zh (zE (yp (cB (r:=rG K) xm U.isi boot_isinstance (ac (pv 0) (ac (yB (v:=.ref (cl 1)) rfl U.m1 rfl) zb)))) (zc (zu zr)) zA)
  (zh (zE (yp (cB (r:=rG K) xm U.isi boot_isinstance (ac (pv 0) (ac (yB (v:=.ref (cl 2)) rfl U.m2 rfl) zb)))) (zc (zu zr)) zA)
  (zh (zE (yp (cB (r:=rG K) xm U.isi boot_isinstance (ac (pv 0) (ac (yB (v:=.ref (cl 3)) rfl U.m3 rfl) zb)))) (zc (zu zr)) zA)
  (zh (zE (yp (cB (r:=rG K) xm U.isi boot_isinstance (ac (pv 0) (ac (yB (v:=.ref (cl 4)) rfl U.m4 rfl) zb)))) (zc (zu zr)) zA)
  (zc (zu (zy zL (yg (ac zr (ac zr zb))) (cTy zem U.int PyProof.Rows.boot_int (ac (cB (r:=rG K) xm U.isi boot_isinstance (ac (pv 0) (ac (yB (v:=.ref (cl 5)) rfl U.m5 rfl) zb))) zb)) (fun _ _=>rfl)))))))),?_⟩
 exists _,rfl,ea,cl i,cl 0,_,rfl,he,so.ex,so.k 0 (by decide),_,rfl,?_
 by_cases h0:i=0
 ·subst h0;exact xE rfl (q _ (zo.refl _))
 refine yW (no 0 (Ne.symm h0)) ?_;exists _,rfl,ea,cl i,cl 1,_,rfl,he,so.ex,so.k 1 (by decide),_,rfl,?_
 by_cases h1:i=1
 ·subst h1;exact xE rfl (q _ (zo.refl _))
 refine yW (no 1 (Ne.symm h1)) ?_;exists _,rfl,ea,cl i,cl 2,_,rfl,he,so.ex,so.k 2 (by decide),_,rfl,?_
 by_cases h2:i=2
 ·subst h2;exact xE rfl (q _ (zo.refl _))
 refine yW (no 2 (Ne.symm h2)) ?_;exists _,rfl,ea,cl i,cl 3,_,rfl,he,so.ex,so.k 3 (by decide),_,rfl,?_
 by_cases h3:i=3
 ·subst h3;exact xE rfl (q _ (zo.refl _))
 refine yW (no 3 (Ne.symm h3)) ?_;exists _,rfl,ea,cl i,cl 4,_,rfl,he,so.ex,so.k 4 (by decide),_,rfl,?_
 by_cases h4:i=4
 ·subst h4;exact xE rfl (q _ (zo.refl _))
 refine yW (no 4 (Ne.symm h4)) ?_;have h5:i=5:=by omega
 subst h5;exists yN,fun l hl=>?_;have s1:=ze hl (.lst [.str "other",.str "lacking"]);exact⟨_,rfl,ea,cl 5,cl 5,true,rfl,he.same s1,so.ex,so.k 5 (by decide),.inr ⟨_,rfl,l,_,1,_,rfl,rfl,zg za,rfl,q _ s1⟩⟩
theorem jI:zq ["_law_function","_law_handed","_law_found","_law_e"] ["_law_function","_law_handed"] (zj uH):=fsc
theorem zhz{gA g1:Addr}{eA d1:FuncData}(F:Fun K "_law_refusal" "_law_refusal" uH f fd)(UK:UC K CU)(U:zj8 mg cl MI)(so:∀i,i<6->uz K cl MI i)(mA:yT K CU "answer" gA)(GA:zx P w K mg base (CXs P w) 6 gA eA ["self","call"] (zeN K c c4 CF CW CU cl))(bA:zN K eA ["self","call"] [])(cW:za3 P w K mg base 1 "_law_word" g1 d1 ["_law_e"] (zeD K cl MI)):zx P w K mg base CX0 7 f fd ["_law_function","_law_handed"] (zeL K c c4 CF CW CU):=by
 refine F.ok jI (fun cdv A outer s H vs Q E hr h=>?_);obtain⟨p,f,wa,D,dw,a,rows,bars,us,ds,n,ct,rfl,hfn,hc,q1,q2⟩:=h;have hr1:yf 1 _:=hr.mono (by decide)
 obtain⟨dx,hp⟩:=hfn.at_;refine⟨_,zh (zw (i:=2) jI.nd rfl (Or.inl rfl) zfi)
  (zh (zhd rfl rfl
    (zjo (i:=3) jI.nd rfl rfl rfl U.mi (fun ea=>zc (zw (i:=2) jI.nd rfl (Or.inl rfl) (zQ (ac (cH (ea:=ea) cW rfl (hr1.m.mark _) (ac (pv 3) zb)) (ac (zfk (K:=K) rfl (pv 3) rfl) zb))))) zjn)
   (fun pins σ xe E hp=>zjh (i:=2) jI.nd rfl (Or.inl rfl) (zjw (zdA zr.one (zdA (zhn (pv 0) UK.cl mA GA hr bA hp (ac (pv 1) zb)) zb.one)))))
  (zc (zu (pv 2)))),?_⟩
 exists _,rfl,p,dx,_,rfl,hp,zkf (by decide +kernel) (by decide +kernel) (by decide +kernel),_,rfl,p,f,wa,D,dw,a,rows,bars,us,ds,n,ct,rfl,hfn,hc,fun em g H1 s1 ng hg hw=>?_,fun m ms em d H1 s1 hd=>?_
 ·exists yN,fun t ht=>?_
  have s2:=ze ht (.tup [.str "told",.ref g]);exact⟨_,rfl,q1 em t g _ (s1.same s2) za (hg.same s2) (s2 _ _ hw)⟩
 ·have hi:=zhO m.1
  exists cl (wo m.1),rfl,fun tt ea hea=>.inl ⟨(so _ hi).ce,?_⟩;have s2:=ze hea (qk ea (cl (wo m.1)) (some d) tt);have e2:upd H1 ea (qk ea (cl (wo m.1)) (some d) tt) ea=some (qk ea (cl (wo m.1)) (some d) tt):=za;have hd2:=s2 _ _ hd;generalize upd H1 ea (qk ea (cl (wo m.1)) (some d) tt)=H2 at s2 e2 hd2 |-;have ew:zep (wo m.1)=m.1:=zhN m (by rw[em];exact mem_cons_self)
  exists _,rfl,wo m.1,d,tt,rfl,hi,so _ hi,e2,fun H3 s3=>?_;exists _,rfl,ea,cl (wo m.1),tt,d,_,.int (m.2:Nat),rfl,s3 _ _ e2,s3 _ _ hd2,(so _ hi).ex,(so _ hi).set,(so _ hi).no,rfl,yN,fun t ht=>?_;rw[ew];have s4:=ze ht (.tup [.str m.1,.int (m.2:Nat)]);exact⟨_,rfl,q2 m ms em t _ (s1.trans (s2.trans (s3.trans s4))) za⟩
theorem zgi{c:List xp}{i:Nat}{d:Dt}(h:(c.map xu)[i]?=some d):∃it,c[i]?=some it/\xu it=d:=by
 rw[getElem?_map] at h;cases e:c[i]? with
 | none=>rw[e] at h;cases h
 | some it=>rw[e] at h;exact⟨it,rfl,Option.some.inj h⟩
theorem zbm{K:Frag}{ok ok':Addr->Prop}{H3:Hp}:∀{ps:List (Str×Int)}{zs:List V},Paired (zD K ok H3 1) zs (ps.map yy)->Paired (zD K ok' H3 1) zs (ps.map yy)
 | [],_,r=>by cases r;exact .nil
 | p::ps,_,r=>by
  cases r with
  | cons h r=>
   refine .cons ?_ (zbm r);obtain⟨b,ws,rfl,hS',r'⟩:=yV h;exact .tup hS' (zm (fun _ _ z=>z) r')
theorem jA{α : Type}{l:List α}{i:Nat}{x : α}(h:l[i]?=some x):l.take (i+1)=l.take i++[x]:=by
 rw[take_add_one,h];rfl
theorem za8{K:Frag}{H3:Hp}{o:HO}{l b:Addr}{zs:List V}(hl:H3 l=none\/(∃zs,H3 l=some (.lst zs)))(hz:SqT K H3 b zs):SqT K (upd H3 l o) b zs:=by
 rcases hz with (z|⟨u,z⟩)|z
 ·refine .inl (.inl ?_)
  have:b≠l:=fun e=>by
   subst e;rcases hl with e|⟨_,e⟩
   ·rw[e] at z;cases z
   ·rw[e] at z;cases z
  rw[zf this];exact z
 ·refine .inl (.inr ⟨u,?_⟩)
  have:b≠l:=fun e=>by
   subst e;rcases hl with e|⟨_,e⟩
   ·rw[e] at z;cases z
   ·rw[e] at z;cases z
  rw[zf this];exact z
 ·exact .inr z
theorem uf{K:Frag}{ok:Addr->Prop}{H3:Hp}{o:HO}{l:Addr}(hl:H3 l=none\/(∃zs,H3 l=some (.lst zs))):∀{ps:List (Str×Int)}{zs:List V},Paired (zD K ok H3 1) zs (ps.map yy)->Paired (zD K ok (upd H3 l o) 1) zs (ps.map yy)
 | [],_,r=>by cases r;exact .nil
 | p::ps,_,r=>by
  cases r with
  | cons h r=>
   refine .cons ?_ (uf hl r);obtain⟨b,ws,rfl,hS',r'⟩:=yV h;exact .tup (za8 hl hS') (zm (fun _ _ z=>z) r')
theorem zbe{K:Frag}{ok ok':Addr->Prop}{H:Hp}{o:HO}{l:Addr}(hl:H l=none\/(∃zs,H l=some (.lst zs)))(hk:∀b,ok b->H b≠none->ok' b/\b≠l){n:Nat}{x:V}{d:Dt}(h:zD K ok H n x d):zD K ok' (upd H l o) n x d:=
 h.frame (fun a xs z=>za8 hl z) fun a xs oa z=>by
  have:=hk a oa (by rw[z];intro q;cases q)
  exact⟨this.1,by rw[zf this.2];exact z⟩
def yP(c:Int):Int:=if V.int (c % 2)=V.int 0 then c / 2 % 41 - 20 else c / 2 % (2 * 10 ^ (60:Int).toNat - 1) - (10 ^ (60:Int).toNat - 1)
inductive uj(vs:List V)(H:Hp)(Q:VK)(E:XK):Prop|mk(c:Int):vs=[.int c]->(Q (.int (yP c)) H)->uj vs H Q E
theorem zgW:zq ["_law_cell"] ["_law_cell"] (zj zb5):=fsc
theorem zfD(F:Fun K "_law_thing" "_law_thing" zb5 f fd):zx P w K mg base CX0 1 f fd ["_law_cell"] uj:=by
 refine F.ok zgW (fun cdv A outer s H vs Q E hr h=>?_);obtain⟨c,rfl,q⟩:=h;unfold yP at q;refine⟨_,zh (zE (zn z9 (zt yd (pv 0) zi) zi (zz _)) (zc (zu (zt uN (zt yd (zt yu (pv 0) zi) zi) zi))) zA)
  (zc (zu (zt uN (zt yd (zt yu (pv 0) zi) (zt uN (zt xB zi (zt zfq zi zi)) zi)) (zt uN (zt zfq zi zi) zi)))),?_⟩
 exists _,rfl,_,_,rfl,rfl,zp2,rfl,_,rfl,?_;refine vW (fun h=>?_) (fun h=>?_)
 ·rw[if_pos (of_decide_eq_true h)] at q
  exact⟨_,rfl,_,_,rfl,rfl,⟨by decide,by decide⟩,_,_,rfl,rfl,(by show(0:Int)<41;decide),_,_,rfl,rfl,q⟩
 ·rw[if_neg (fun z=>h (decide_eq_true z))] at q
  exact⟨_,rfl,_,_,rfl,rfl,⟨by decide,by decide⟩,_,_,rfl,rfl,⟨by decide,by decide,by decide⟩,_,_,rfl,rfl,.inl ⟨by decide,by decide⟩,_,_,rfl,rfl,_,_,rfl,rfl,(by show(0:Int)<2 * 10 ^ Int.toNat 60 - 1;decide +kernel),_,_,rfl,rfl,⟨by decide,by decide,by decide⟩,_,_,rfl,rfl,_,_,rfl,rfl,q⟩
def zaN(zs:List Str)(i:Int):Str:=zs.getD (i % (zs.length:Int)).toNat ""
def zg8(xT:Int):List Int:=(List.range (xT % 5).toNat).map fun (k:Nat)=>yP (xT+(k:Int) * (k:Int))
def wC(zs:List Str)(xT:Int):List Str:=(List.range (xT % 4).toNat).map fun (k:Nat)=>zaN zs (xT+(k:Int) * (1+xT / 5 % 3))
def zbN(zs:List Str)(xT:Int):List (Str×Int):=(wC zs xT).map fun z=>(z,yP (xT / 5+(z.length:Int)))
def xQ(zs:List Str)(c:Int):xp:=
 if c % 8<3 then .one (yP (c / 8)) else if V.int (c % 8)=V.int 3 then .row (zg8 (c / 8)) else if V.int (c % 8)=V.int 7 then .book (zbN zs (c / 8)) else .named (zaN zs (c / 8)) (yP (c / 8 / 3))
theorem zf2{zs:List Str}(h : 0<zs.length)(x:Int):atI (zs.map V.str) (x % ((zs.map V.str).length:Int))=some (.str (zaN zs x))/\zaN zs x∈zs:=by
 have lz:(0:Int)<(zs.length:Int):=by omega
 have h0:=emod_nonneg x (Int.ne_of_gt lz);have h1:=emod_lt_of_pos x lz;rw[length_map];obtain⟨v,hv,hat,hg⟩:=zdz (xs:=zs.map V.str) h0 (by rw[length_map];exact h1)
 rw[getElem?_map] at hg;have hk:(x % (zs.length:Int)).toNat<zs.length:=by omega
 rw[getElem?_eq_getElem hk] at hg;have e:zaN zs x=zs[(x % (zs.length:Int)).toNat]:=by
  unfold zaN;rw[getD_eq_getElem?_getD,getElem?_eq_getElem hk];rfl
 rw[e];have e2:v=.str zs[(x % (zs.length:Int)).toNat]:=(Option.some.inj hg).symm;rw[<- e2];exact⟨hat,getElem_mem hk⟩
inductive zcZ(K:Frag)(vs:List V)(H:Hp)(Q:VK)(E:XK):Prop|mk(cs pl:Addr)(ns:List Int)(zs:List Str):vs=[.ref cs,.ref pl]->SqL K H cs (ns.map V.int)->ns.length<=63->H pl=some (.lst (zs.map V.str))->0<zs.length->(∀z∈zs,z.length<=100)->(∀(r:Addr) (xs:List V) (H':Hp),zo H H'->H r=none->H' r=some (.lst xs)->Paired (zD K T' H' 3) xs ((ns.map (xQ zs)).map xu)->Q (.ref r) H')->zcZ K vs H Q E
theorem ndK:([Str.ofString "_law_k",Str.ofString "_law_rest"]:List Str).Nodup:=by decide +kernel
theorem ndP:([Str.ofString "_law_k",Str.ofString "_law_pool_here",Str.ofString "_law_rest"]:List Str).Nodup:=by decide +kernel
theorem ndB:([Str.ofString "_law_name",Str.ofString "_law_rest"]:List Str).Nodup:=by decide +kernel
theorem vI:zq ["_law_cells","_law_pool_here","_law_items_here","_law_cell","_law_kind","_law_rest","_law_names"] ["_law_cells","_law_pool_here"] (zj zch):=fsc
theorem zfQ{g:Addr}{gd:FuncData}(F:Fun K "_law_items" "_law_items" zch f fd)(T:uh mg)(cT:zI P w K mg base 1 "_law_thing" g gd ["_law_cell"] uj):zx P w K mg base CX0 2 f fd ["_law_cells","_law_pool_here"] (zcZ K):=by
 refine F.ok vI (fun cdv A outer s H vs Q E hr h=>?_);obtain⟨cs,pl,ns,zs,rfl,hS,h63,hpl,hz0,hz1,q⟩:=h;refine⟨_,zh (zw (i:=2) vI.nd rfl (Or.inl rfl) (yg zb))
  (zh (yD PassesOwn.never rfl (yt (pv 0)) (zp (i:=3) vI.nd rfl (Or.inl rfl))
   (zh (zw (i:=4) vI.nd rfl (Or.inl rfl) (zt yd (pv 3) zi))
   (zh (zw (i:=5) vI.nd rfl (Or.inr rfl) (zt yu (pv 3) zi))
   (zc (zE (zn vy (pv 4) zi (zz _))
    (zc (zG (yv PySem.F.plainAttrs_list PySem.F.slot_list_append PySem.F.type_list_append zH (pv 2) (ac (zQ (ac zr (ac (cF cT hr (ac (pv 5) zb)) zb))) zb))))
    (zc (zE (zn z9 (pv 4) zi (zz _))
     (zc (zG (yv PySem.F.plainAttrs_list PySem.F.slot_list_append PySem.F.type_list_append zH (pv 2) (ac (zQ (ac zr (ac (xO ["_law_rest"] ["_law_k","_law_rest"] [none,some 5] rfl ⟨rfl,rfl,rfl,rfl⟩ (yG rfl T.range (ac (zt yd (pv 5) zi) zb)) (z7 0) rfl rfl rfl
      (fun pins fp s H C=>⟨zp (i:=0) ndK rfl (Or.inl rfl) (.inr rfl),y7,cF cT hr (ac (zt yz (pv 1) (zt xB (pv 0) (pv 0))) zb)⟩)) zb))) zb))))
     (zc (zE (zn z9 (pv 4) zi (zz _))
      (zh (qO (i:=6) ["_law_rest","_law_pool_here"] ["_law_k","_law_pool_here","_law_rest"] [none,some 1,some 5] vI.nd rfl (Or.inl rfl) rfl ⟨rfl,rfl,rfl,rfl⟩ (yG rfl T.range (ac (zt yd (pv 5) zi) zb)) (z7 0) rfl rfl rfl
       (fun pins fp s H C=>⟨zp (i:=0) ndP rfl (Or.inl rfl) (.inr rfl),y7,zy (r:=jR K) zL (pv 1) (zt yd (zt yz (pv 2) (zt xB (pv 0) (zt yz zi (zt yd (zt yu (pv 2) zi) zi)))) (cB (r:=fun xs H Q=>∃p ys,xs=[.ref p]/\(SqL K H p ys\/SqT K H p ys)/\Q (.int ys.length) H) zK T.len PySem.boot_len (ac (pv 1) zb))) (fun _ _=>rfl)⟩))
      (zc (zG (yv PySem.F.plainAttrs_list PySem.F.slot_list_append PySem.F.type_list_append zH (pv 2) (ac (zQ (ac zr (ac (xO ["_law_rest"] ["_law_name","_law_rest"] [none,some 5] rfl ⟨rfl,rfl,rfl,rfl⟩ (yt (pv 6)) (z7 0) rfl rfl rfl
       (fun pins fp s H C=>⟨zp (i:=0) ndB rfl (Or.inl rfl) (.inr rfl),y7,zQ (ac (pv 0) (ac (cF cT hr (ac (zt yz (zt yu (pv 1) zi) (cB xY T.len PySem.boot_len (ac (pv 0) zb))) zb)) zb))⟩)) zb))) zb)))))
      (zc (zG (yv PySem.F.plainAttrs_list PySem.F.slot_list_append PySem.F.type_list_append zH (pv 2) (ac (zQ (ac zr (ac (zy zL (pv 1) (zt yd (pv 5) (cB zK T.len PySem.boot_len (ac (pv 1) zb))) (fun _ _=>rfl)) (ac (cF cT hr (ac (zt yu (pv 5) zi) zb)) zb)))) zb)))))))))))))
  (zc (zu (pv 2)))),?_⟩
 exists wj,fun r hrn=>?_;have sr:=ze hrn (.lst []);refine⟨_,rfl,cs,rfl,⟨_,sr.seq hS⟩,xC (K:=K) (a:=cs) (xs:=ns.map V.int) (fun i σ H2=>∃v3 v4 v5 v6 xs,σ=[some (.ref cs),some (.ref pl),some (.ref r),v3,v4,v5,v6]/\zo H H2/\H2 r=some (.lst xs)/\Paired (zD K (fun b=>b≠r) H2 3) xs (((ns.take i).map (xQ zs)).map xu))
  ⟨_,_,_,_,[],rfl,sr,za,.nil⟩ (fun i σ H2 _ ⟨_,_,_,_,_,_,s2,_⟩=>s2.seq hS) ?_ ?_⟩
 ·rintro i y σ H2 hi ⟨v3,v4,v5,v6,xs,rfl,s2,g,hx⟩
  obtain⟨c,hc,rfl⟩:=zaV hi;have hil:i<ns.length:=(List.getElem?_eq_some_iff.mp hc).1;have lx:xs.length<=i:=by rw[hx.length,length_map,length_map,length_take];omega
  have hpl2:=s2 _ _ hpl;have fin:∀{H3:Hp}{x:V}{v6:Option V},zo H2 H3->zD K (fun b=>b≠r) H3 3 x (xu (xQ zs c))->∃v3 v4 v5 v6' xs',[some (V.ref cs),some (.ref pl),some (.ref r),some (.int c),some (.int (c % 8)),some (.int (c / 8)),v6]=[some (V.ref cs),some (.ref pl),some (.ref r),v3,v4,v5,v6']/\zo H (upd H3 r (.lst (xs++[x])))/\upd H3 r (.lst (xs++[x])) r=some (.lst xs')/\Paired (zD K (fun b=>b≠r) (upd H3 r (.lst (xs++[x]))) 3) xs' (((ns.take (i+1)).map (xQ zs)).map xu):=by
   intro H3 x v6 s3 hsx;exists _,_,_,_,xs++[x],rfl,yJ (s2.trans s3) hrn _,za,?_;rw[jA hc,map_append,map_append];exact ya (zm (fun _ _ z=>zbe (.inr ⟨_,s3 _ _ g⟩) (fun b hb _=>⟨hb,hb⟩) (z.same s3)) hx) (.cons (zbe (.inr ⟨_,s3 _ _ g⟩) (fun b hb _=>⟨hb,hb⟩) hsx) .nil)
  exists _,rfl,_,_,rfl,rfl,(by show(0:Int)<8;decide),?_
  exists _,rfl,_,_,rfl,rfl,⟨by decide,by decide⟩,?_
  exists _,rfl,_,_,rfl,rfl,_,rfl,?_;refine vW (fun cc=>?_) (fun cc=>?_)
  ·have c1:c % 8<3:=of_decide_eq_true cc
   have e:xQ zs c=.one (yP (c / 8)):=by unfold xQ;rw[if_pos c1]
   exists _,rfl,.inl ⟨rfl,_,zg g⟩,_,rfl,c / 8,rfl,yN,fun tp htp=>?_;have st:=ze htp (.tup [.str "one",.int (yP (c / 8))]);exists r,_,_,rfl,rfl,st _ _ g,zC (by omega),?_
   exact fin st (by rw[e];exact .tup (zv za) (.cons .str (.cons .int .nil)))
  have c1:¬c % 8<3:=fun z=>cc (decide_eq_true z);exists _,rfl,rfl,_,rfl,?_;refine vW (fun cc2=>?_) (fun cc2=>?_)
  ·have e:xQ zs c=.row (zg8 (c / 8)):=by unfold xQ;rw[if_neg c1,if_pos (of_decide_eq_true cc2)]
   have m0 : 0<=c / 8 % 5:=emod_nonneg _ (by decide)
   have m1:c / 8 % 5<5:=emod_lt_of_pos _ (by decide)
   exists _,rfl,.inl ⟨rfl,_,zg g⟩,_,rfl,_,_,rfl,rfl,(by show(0:Int)<5;decide),c / 8 % 5,rfl,by omega,by omega,fun D hD=>?_
   refine wQ (n:=(c / 8 % 5).toNat) (fun j ys H'=>zo H2 H'/\H' D=some (.lst ys)/\ys=((List.range j).map fun (k:Nat)=>yP (c / 8+(k:Int) * (k:Int))).map V.int) ⟨ze hD _,za,rfl⟩ ?_ ?_
   ·rintro j ys H' hj ⟨sH,hDy,ey⟩
    have e0:(0:Int)+(j:Int)=(j:Nat):=by omega
    rw[e0];exists fun _=>⟨_,rfl,_,rfl,_,rfl,_,_,rfl,rfl,.inl ⟨by omega,by omega⟩,_,_,rfl,rfl,_,rfl,lcN.mk hj (yj (by omega)) hDy (by rw[ey,length_map,length_map,length_range];exact le_refl _) ⟨yJ sH hD _,za,?_⟩⟩,fun z=>absurd z (by decide)
    rw[ey,range_succ,map_append,map_append];rfl
   rintro ys H3 ⟨s3,hDy,ey⟩;exists yN,fun tp htp=>?_;have st:=ze htp (.tup [.str "row",.ref D]);exists r,_,_,rfl,rfl,(s3.trans st) _ _ g,zC (by omega),?_
   refine fin (s3.trans st) ?_;rw[e];have hD3:=st _ _ hDy;rw[ey] at hD3;exact .tup (zv za) (.cons .str (.cons (.lst (zd g hD).symm hD3 (vQ _)) .nil))
  exists _,rfl,rfl,_,rfl,?_;refine vW (fun cc3=>?_) (fun cc3=>?_)
  ·have e:xQ zs c=.book (zbN zs (c / 8)):=by unfold xQ;rw[if_neg c1,if_neg (fun z=>cc2 (decide_eq_true z)),if_pos (of_decide_eq_true cc3)]
   have m0 : 0<=c / 8 % 4:=emod_nonneg _ (by decide)
   have m1:c / 8 % 4<4:=emod_lt_of_pos _ (by decide)
   exists _,rfl,_,_,rfl,rfl,zp4,c / 8 % 4,rfl,by omega,by omega,fun D hD=>?_
   refine wQ (n:=(c / 8 % 4).toNat) (fun j ys H'=>zo H2 H'/\H' D=some (.lst ys)/\ys=((List.range j).map fun (k:Nat)=>zaN zs (c / 8+(k:Int) * (1+c / 8 / 5 % 3))).map V.str) ⟨ze hD _,za,rfl⟩ ?_ ?_
   ·rintro j ys H' hj ⟨sH,hDy,ey⟩
    have e0:(0:Int)+(j:Int)=(j:Nat):=by omega
    rw[e0];have lz:(0:Int)<((zs.map V.str).length:Int):=by rw[length_map];omega
    obtain⟨hat,_⟩:=zf2 hz0 (c / 8+(j:Int) * (1+c / 8 / 5 % 3));refine⟨fun _=>⟨_,rfl,_,rfl,_,rfl,_,rfl,_,_,rfl,rfl,⟨by decide,by decide⟩,_,_,rfl,rfl,(by show(0:Int)<3;decide),_,_,rfl,rfl,_,_,rfl,rfl,.inl ⟨by omega,by omega⟩,_,_,rfl,rfl,_,rfl,pl,_,rfl,.inl (zg (sH _ _ hpl2)),_,_,rfl,rfl,lz,pl,_,_,_,rfl,rfl,zg (sH _ _ hpl2),hat,
     lcN.mk hj (yj (by omega)) hDy (by rw[ey,length_map,length_map,length_range];exact le_refl _) ⟨yJ sH hD _,za,?_⟩⟩,fun z=>absurd z (by decide)⟩
    rw[ey,range_succ,map_append,map_append];rfl
   rintro ys H3 ⟨s3,hDy,ey⟩;have ey':ys=(wC zs (c / 8)).map V.str:=ey;have ln:(wC zs (c / 8)).length<=3:=by unfold wC;rw[length_map,length_range];omega
   have hmem:∀z∈wC zs (c / 8),z.length<=100:=fun z hz=>by
    unfold wC at hz;obtain⟨k,_,rfl⟩:=List.mem_map.mp hz;exact hz1 _ (zf2 hz0 _).2
   subst ey';exists _,rfl,.inl ⟨rfl,_,zg (s3 _ _ g)⟩,_,rfl,D,rfl,⟨_,zg hDy⟩,fun D2 hD2=>?_;refine ww (K:=K) (xs:=(wC zs (c / 8)).map V.str) (fun j ys H'=>zo H3 H'/\H' D2=some (.lst ys)/\Paired (zD K T' H' 1) ys ((((wC zs (c / 8)).take j).map fun z=>(z,yP (c / 8 / 5+(Str.length z:Int)))).map yy)) ⟨ze hD2 _,za,.nil⟩ (fun j ys H' h=>zg (h.1 _ _ hDy)) ?_ ?_
   ·rintro j x ys H' hj hx2 ⟨sH,hDy2,hp⟩
    rw[length_map] at hj |-;obtain⟨z,hz,rfl⟩:∃z,(wC zs (c / 8))[j]?=some z/\x=.str z:=by
     rw[getElem?_map,getElem?_eq_getElem hj] at hx2;exact⟨_,getElem?_eq_getElem hj,(Option.some.inj hx2).symm⟩
    have zl:=hmem z (mem_of_getElem? hz);have lys:ys.length=j:=by rw[hp.length,length_map,length_map,length_take];omega
    exists fun _=>⟨_,rfl,_,rfl,_,_,rfl,rfl,⟨by decide,by decide⟩,_,rfl,z,rfl,yj (by omega),_,_,rfl,rfl,_,rfl,yN,fun tp htp=>?_⟩,fun z=>absurd z (by decide)
    have nD:=zd hDy2 htp;refine lcN.mk hj (yj (by omega)) (by rw[zf nD];exact hDy2) (by omega) ⟨yJ (yJ sH (sH.free htp) _) hD2 _,za,?_⟩
    rw[jA hz,map_append,map_append];refine ya (uf (.inr ⟨_,by rw[zf nD];exact hDy2⟩) (uf (.inl htp) hp)) (.cons (.tup (xs:=[.str z,.int (yP (c / 8 / 5+(z.length:Int)))]) (zv ?_) (.cons .str (.cons .int .nil))) .nil)
    rw[zf nD.symm,za]
   rintro ys H4 ⟨s4,hDy2,hp⟩;rw[length_map,take_length] at hp;have hp:Paired (zD K T' H4 1) ys ((zbN zs (c / 8)).map yy):=hp;exists yN,fun tp htp=>?_;have st:=ze htp (.tup [.str "book",.ref D2]);exists r,_,_,rfl,rfl,(s3.trans (s4.trans st)) _ _ g,zC (by omega),?_
   refine fin (s3.trans (s4.trans st)) ?_;rw[e];exact .tup (zv za) (.cons .str (.cons (.lst (zd (s3 _ _ g) hD2).symm (st _ _ hDy2) (zbm (yS st hp))) .nil))
  ·have e:xQ zs c=.named (zaN zs (c / 8)) (yP (c / 8 / 3)):=by unfold xQ;rw[if_neg c1,if_neg (fun z=>cc2 (decide_eq_true z)),if_neg (fun z=>cc3 (decide_eq_true z))]
   have lz:(0:Int)<((zs.map V.str).length:Int):=by rw[length_map];omega
   obtain⟨hat,_⟩:=zf2 hz0 (c / 8);exists _,rfl,.inl ⟨rfl,_,zg g⟩,_,rfl,_,rfl,_,rfl,pl,_,rfl,.inl (zg hpl2),_,_,rfl,rfl,lz,pl,_,_,_,rfl,rfl,zg hpl2,hat,_,rfl,_,_,rfl,rfl,⟨by decide,by decide⟩,_,rfl,vq,fun tp htp=>?_
   have st:=ze htp (.tup [.str "named",.str (zaN zs (c / 8)),.int (yP (c / 8 / 3))]);exists r,_,_,rfl,rfl,st _ _ g,zC (by omega),?_
   exact fin st (by rw[e];exact .tup (zv za) (.cons .str (.cons .str (.cons .int .nil))))
 ·rintro σ H2 ⟨v3,v4,v5,v6,xs,rfl,s2,g,hx⟩
  rw[length_map,take_length] at hx;exact⟨_,rfl,q r xs H2 s2 hrn g (zm (fun _ _ z=>xk (fun _ _ _=>True.intro) z) hx)⟩
theorem wt:zq ["_law_items_here","_law_things","_law_pairs","_law_item"] ["_law_items_here"] (zj zcf):=fsc
theorem zfO(F:Fun K "_law_laid" "_law_laid" zcf f fd):zx P w K mg base CX0 1 f fd ["_law_items_here"] (jC K):=by
 refine F.ok wt (fun cdv A outer s H vs Q E hr h=>?_);obtain⟨a,c,xs,rfl,hS,hc,hT,hP,q⟩:=h;refine⟨_,zh (zw (i:=1) wt.nd rfl (Or.inl rfl) (yg zb)) (zh (zw (i:=2) wt.nd rfl (Or.inl rfl) (yg zb))
  (zh (yD PassesOwn.never rfl (yt (pv 0)) (zp (i:=3) wt.nd rfl (Or.inl rfl))
   (zc (zE (zn z9 (zy zJ (pv 3) zi (fun _ _=>rfl)) zr (zz _)) (zc (zw (i:=1) wt.nd rfl (Or.inl rfl) (zt xI (pv 1) (yg (ac (zy zJ (pv 3) zi (fun _ _=>rfl)) zb)))))
   (zc (zE (zn z9 (zy zJ (pv 3) zi (fun _ _=>rfl)) zr (zz _)) (zc (zw (i:=1) wt.nd rfl (Or.inl rfl) (zt xI (pv 1) (zy zJ (pv 3) zi (fun _ _=>rfl)))))
   (zc (zE (zn z9 (zy zJ (pv 3) zi (fun _ _=>rfl)) zr (zz _)) (zc (zw (i:=2) wt.nd rfl (Or.inl rfl) (zt xI (pv 2) (yg (ac (zQ (ac (zy zJ (pv 3) zi (fun _ _=>rfl)) (ac (zy zJ (pv 3) zi (fun _ _=>rfl)) zb))) zb)))))
   (zc (zw (i:=2) wt.nd rfl (Or.inl rfl) (zt xI (pv 2) (zy zJ (pv 3) zi (fun _ _=>rfl))))))))))))
  (zc (zu (zQ (ac (pv 1) (ac (pv 2) zb))))))),?_⟩
 exists wj,fun l1 h1=>?_;exists wj,fun l2 h2=>?_;have n12:l1≠l2:=zd za h2;have s0:zo H (upd (upd H l1 (.lst [])) l2 (.lst [])):=(ze h1 _).trans (ze h2 _);refine⟨_,rfl,a,rfl,⟨_,s0.seq hS⟩,xC (K:=K) (a:=a) (xs:=xs) (fun i σ H2=>∃l1 l2 v3 ys,σ=[some (.ref a),some (.ref l1),some (.ref l2),v3]/\zo H H2/\H l1=none/\H l2=none/\l1≠l2/\H2 l1=some (.lst ((zR (c.take i)).map V.int))/\H2 l2=some (.lst ys)/\Paired (zD K T' H2 1) ys ((yn (c.take i)).map yy))
  ⟨l1,l2,_,[],rfl,s0,h1,(ze h1 _).free h2,n12,by rw[zf n12,za];rfl,za,.nil⟩ (fun i σ H2 _ ⟨_,_,_,_,_,s2,_⟩=>s2.seq hS) ?_ ?_⟩
 ·rintro i y σ H2 hi ⟨l1,l2,v3,ys,rfl,s2,f1,f2,n12,g1,g2,gp⟩
  obtain⟨d,hd,hy⟩:=Paired.get hc hi;obtain⟨it,hit,rfl⟩:=zgi hd;have hy2:=hy.same s2;have eT:=j6 c i it hit;have eP:=j8 c i it hit;have lT1:=j7 c (i+1);have lP1:=j9 c (i+1);have lys:ys.length=(yn (c.take i)).length:=by rw[gp.length,length_map]
  cases it with
  | one t=>
   obtain⟨b,rfl,hb⟩:=zbB hy2;have e1:(zR (c.take (i+1))).length=(zR (c.take i)).length+1:=by rw[eT,length_append];rfl
   exists _,rfl,b,_,_,.str "one",rfl,rfl,hb,rfl,rfl,_,rfl,?_;refine dT rfl ?_;exists _,rfl,_,rfl,b,_,_,.int t,rfl,rfl,hb,rfl,zav,fun p hp=>?_;have sp:=ze hp (.lst [.int t]);exists l1,p,_,_,rfl,rfl,sp _ _ g1,za,(by rw[length_map];show _+1<=sizeLine;exact yj (by omega)),fun l3 h3=>?_
   have s3:=sp.trans (ze h3 (.lst ((zR (c.take i)).map V.int++[.int t])));exists l3,l2,_,ys,rfl,s2.trans s3,s2.free (sp.free h3),f2,(zd (sp _ _ g2) h3).symm,?_,s3 _ _ g2,?_
   ·rw[za,eT,map_append];rfl
   ·rw[eP];show Paired _ _ ((yn (c.take i)++[]).map yy);rw[append_nil];exact yS s3 gp
  | row ts=>
   obtain⟨b,bl,rfl,hb,_,hbl⟩:=zbA hy2;have e1:(zR (c.take (i+1))).length=(zR (c.take i)).length+ts.length:=by rw[eT,length_append];rfl
   exists _,rfl,b,_,_,.str "row",rfl,rfl,hb,rfl,rfl,_,rfl,?_;refine dF ne1 ?_;exists _,rfl,b,_,_,.str "row",rfl,rfl,hb,rfl,rfl,_,rfl,?_;refine dT rfl ?_;exists _,rfl,_,rfl,b,_,_,.ref bl,rfl,rfl,hb,rfl,l1,bl,_,_,rfl,rfl,g1,hbl,(by rw[length_map,length_map];exact yj (by omega)),fun l3 h3=>?_
   have s3:=ze h3 (.lst ((zR (c.take i)).map V.int++ts.map V.int));exists l3,l2,_,ys,rfl,s2.trans s3,s2.free h3,f2,(zd g2 h3).symm,?_,s3 _ _ g2,?_
   ·rw[za,eT,map_append];rfl
   ·rw[eP];show Paired _ _ ((yn (c.take i)++[]).map yy);rw[append_nil];exact yS s3 gp
  | named z t=>
   obtain⟨b,rfl,hb⟩:=qd hy2;have e1:(yn (c.take (i+1))).length=(yn (c.take i)).length+1:=by rw[eP,length_append];rfl
   exists _,rfl,b,_,_,.str "named",rfl,rfl,hb,rfl,rfl,_,rfl,?_;refine dF ne2 ?_;exists _,rfl,b,_,_,.str "named",rfl,rfl,hb,rfl,rfl,_,rfl,?_;refine dF ne4 ?_;exists _,rfl,b,_,_,.str "named",rfl,rfl,hb,rfl,rfl,_,rfl,?_;refine dT rfl ?_;exists _,rfl,_,rfl,b,_,_,.str z,rfl,rfl,hb,rfl,_,rfl,b,_,_,.int t,rfl,rfl,hb,rfl,yN,fun p hp=>?_;have sp:=ze hp (.tup [.str z,.int t]);exists zav,fun p2 hp2=>?_;have sp2:=sp.trans (ze hp2 (.lst [.ref p]));exists l2,p2,_,_,rfl,rfl,sp2 _ _ g2,za,(by rw[lys];show _+1<=sizeLine;exact yj (by omega)),fun l3 h3=>?_
   have s3:=sp2.trans (ze h3 (.lst (ys++[.ref p])));have hp3:=((ze hp2 (.lst [.ref p])).trans (ze h3 (.lst (ys++[.ref p])))) p (.tup [.str z,.int t]) za;exists l1,l3,_,ys++[.ref p],rfl,s2.trans s3,f1,s2.free (sp2.free h3),zd (sp2 _ _ g1) h3,?_,za,?_
   ·rw[s3 _ _ g1,eT];show _=some (HO.lst ((zR (c.take i)++[]).map V.int));rw[append_nil]
   ·rw[eP,map_append]
    exact ya (yS s3 gp) (.cons (.tup (xs:=[.str z,.int t]) (zv hp3) (.cons .str (.cons .int .nil))) .nil)
  | book ps=>
   obtain⟨b,bl,zs,rfl,hb,_,hbl,hz⟩:=qX hy2;have lz:zs.length=ps.length:=by rw[hz.length,length_map]
   have e1:(yn (c.take (i+1))).length=(yn (c.take i)).length+ps.length:=by rw[eP,length_append];rfl
   exists _,rfl,b,_,_,.str "book",rfl,rfl,hb,rfl,rfl,_,rfl,?_;refine dF ne3 ?_;exists _,rfl,b,_,_,.str "book",rfl,rfl,hb,rfl,rfl,_,rfl,?_;refine dF ne5 ?_;exists _,rfl,b,_,_,.str "book",rfl,rfl,hb,rfl,rfl,_,rfl,?_;refine dF ne6 ?_;exists _,rfl,_,rfl,b,_,_,.ref bl,rfl,rfl,hb,rfl,l2,bl,_,_,rfl,rfl,g2,hbl,(by rw[lys,lz];exact yj (by omega)),fun l3 h3=>?_
   have s3:=ze h3 (.lst (ys++zs));exists l1,l3,_,ys++zs,rfl,s2.trans s3,f1,s2.free h3,zd g1 h3,?_,za,?_
   ·rw[s3 _ _ g1,eT];show _=some (HO.lst ((zR (c.take i)++[]).map V.int));rw[append_nil]
   ·rw[eP,map_append]
    exact ya (yS s3 gp) (yS s3 hz)
 ·rintro σ H2 ⟨l1,l2,v3,ys,rfl,s2,f1,f2,n12,g1,g2,gp⟩
  exists _,rfl,_,rfl,yN,fun p hp=>?_;have hl:xs.length=c.length:=by rw[hc.length,length_map]
  rw[hl,take_length] at g1 gp;have sp:=ze hp (.tup [.ref l1,.ref l2]);exact q p _ (s2.trans sp) ⟨l1,l2,ys,f1,f2,n12,s2.free hp,za,sp _ _ g1,sp _ _ g2,yS sp gp⟩
end
end K43
namespace L2
open PySem PySem.Spec PyProof.Rows
theorem ui{prog:Program}{w:World}{A:Around}{E:VSP}{s:Shared}{b:Bool}{Q:Int->Shared->Prop}(h:Q (hashInt (if b then 1 else 0)) { s with toks:=s.toks+1 }):
  wpAny (model prog w) A (pyHash (.bool b)) Q E s:=by
 have hr:=rawHash_range (if b then 1 else 0)
 have hT:s.TypeIs (.bool b) "bool":=rfl;unfold pyHash;have hv:[Value.bool b].any Value.onHeap=false:=rfl;refine zwb ?_;rw[cRoomFor,if_neg (by rw[hv];exact zft)];refine zwp ?_
 refine zwb (wpAny_specialOf hT PySem.F.slot_bool_hash.lookup ?_);show wpAny _ _ (if (some (Value.builtin "int.__hash__")==some Value.none)=true then _ else _) Q E s
 rw[if_neg (by rw[beq_builtin_none];exact zft)]
 refine zwb (wpAny_specialOf hT PySem.F.slot_bool_hash.lookup ?_);show wpAny _ _ (callSpecialIfBoundUnlessNone? (.bool b) "__hash__" _ >>= _) Q E s;refine zwb (wpAny_callSpecialIfBoundUnlessNone?_slot hT PySem.F.slot_bool_hash
  (wpAny_call_entry PySem.F.slot_bool_hash hT entry_int_hash
   (show wpAny _ _ (do ret (<- mkInt (rawHash (if b then 1 else 0)))) _ _ s from wpAny_ret_mkInt ?_) (args_int_hash _)))
 show wpAny _ _ (if (decide (-(2:Int) ^ 63<=rawHash (if b then 1 else 0))&&decide (rawHash (if b then 1 else 0)<2 ^ 63))=true then _ else _) Q E _
 rw[if_pos (by rw[decide_eq_true hr.1,decide_eq_true hr.2];rfl)]
 exact zwp h
abbrev SB:=Str ⊕ Bool
def sbV:SB->V
 | .inl x=>.str x
 | .inr b=>.bl b
def zkG:SB->Value->Bool
 | .inl x,.str y _=>y==x
 | .inr b,.bool c=>c==b
 | _,_=>false
theorem yR{k:SB}{v:Value}(h:zkG k v=true):(∃x t,k=.inl x/\v=.str x t)\/∃b,k=.inr b/\v=.bool b:=by
 cases k with
 | inl x=>
  cases v with
  | str y t=>
   have h':(y==x)=true:=h;exact .inl ⟨x,t,rfl,by rw[eq_of_beq h']⟩
  | _=>cases h
 | inr b=>
  cases v with
  | bool c=>
   have h':(c==b)=true:=h;exact .inr ⟨b,rfl,by rw[eq_of_beq h']⟩
  | _=>cases h
def sbH(w:World):SB->Int
 | .inl x=>hashStr w x
 | .inr b=>hashInt (if b then 1 else 0)
def ud(prog:Program)(w:World):PySem.KeyKind prog w SB where
 is:=zkG
 hash:=sbH w
 inj:=fun v a b ha hb=>by
  rcases yR ha with ⟨x,t,rfl,rfl⟩|⟨c,rfl,rfl⟩
  ·rcases yR hb with ⟨y,u,rfl,e⟩|⟨d,rfl,e⟩
   ·injection e with e1 _;rw[e1]
   ·exact nomatch e
  ·rcases yR hb with ⟨y,u,rfl,e⟩|⟨d,rfl,e⟩
   ·exact nomatch e
   ·injection e with e1;rw[e1]
 byValue:=fun k v h=>by
  rcases yR h with ⟨x,t,rfl,rfl⟩|⟨b,rfl,rfl⟩ <;> rfl
 pyHash:=fun hv h=>by
  rcases yR hv with ⟨x,t,rfl,rfl⟩|⟨b,rfl,rfl⟩
  ·exact wpAny_pyHash_str h
  ·exact ui h
 eqBool:=fun hu hv h=>by
  rcases yR hu with ⟨x,t,rfl,rfl⟩|⟨b,rfl,rfl⟩
  ·rcases yR hv with ⟨y,u,rfl,rfl⟩|⟨d,rfl,rfl⟩
   ·refine wpAny_eqBool_str ?_
    have e:decide ((Sum.inl x:SB)=Sum.inl y)=decide (x=y):=by simp
    rwa [e] at h
   ·refine SeqAt.EqAt.str_bool x t d _ _ _ _ ?_
    have e:decide ((Sum.inl x:SB)=Sum.inr d)=false:=decide_eq_false (fun q=>nomatch q)
    rwa [e] at h
  ·rcases yR hv with ⟨y,u,rfl,rfl⟩|⟨d,rfl,rfl⟩
   ·refine SeqAt.EqAt.bool_str b y u _ _ _ _ ?_
    have e:decide ((Sum.inr b:SB)=Sum.inl y)=false:=decide_eq_false (fun q=>nomatch q)
    rwa [e] at h
   ·refine SeqAt.EqAt.bool_bool b d _ _ _ _ ?_
    have e:decide ((Sum.inr b:SB)=Sum.inr d)=(b==d):=by cases b <;> cases d <;> decide
    rwa [e] at h
 «strs»:=fun k x t v h=>by
  rcases yR h with ⟨y,u,rfl,e⟩|⟨b,rfl,e⟩
  ·injection e with e1 _
   subst e1;cases v <;> rfl
  ·exact nomatch e
theorem zi7{P:Program}{w:World}{k:SB}{u:Value}(r:zT (sbV k) u):(ud P w).is k u=true:=by
 cases k with
 | inl x=>
  obtain⟨t,e⟩:=(show ∃t,u=Value.str x t from r);subst e;show(x==x)=true;exact beq_self_eq_true x
 | inr b=>
  have e:u=Value.bool b:=r;subst e;show(b==b)=true;exact beq_self_eq_true b
theorem zbd{P:Program}{w:World}:∀{ks:List SB}{us:List Value},zX (ks.map sbV) us->ItemsAre (ud P w) ks us
 | [],_,r=>by rw[map_nil] at r;cases r;exact .nil
 | k::ks,_,r=>by
  rw[map_cons] at r;cases r with
  | cons h t=>exact .cons (zi7 h) (zbd t)
theorem zeV{P:Program}{w:World}{H:Hp}{h:Heap}{a:Addr}{ks:List SB}(ok:HOk P w H h)(e:H a=some (.tup (ks.map sbV))):(tupleKind (ud P w)).is h ks a:=by
 obtain⟨_,its,r,o,h1,h2,n,h3⟩:=(show yq P w H h a (.tup (ks.map sbV)) from ok a _ e);exact⟨o,its.toArray,n,h1,h2,h3,by simpa using zbd r⟩
def dBφ (P:Program)(w:World)(a:Addr)(xs:List (List SB×Addr×Value)):Heap->Prop:=fun h=>∃o es ep,h.get? a=some o/\o.ExactDict/\o.data=.dict es ep/\es.toList=xs.map (entryOfKey (tupleKind (ud P w)))/\(xs.map (·.1)).Nodup
abbrev KB(H:Hp):List (List SB×V)->List (List SB×Addr×Value)->Prop:=Paired fun p q=>p.1=q.1/\H q.2.1=some (.tup (p.1.map sbV))/\zT p.2 q.2.2
def DB(P:Program)(w:World)(H:Hp)(a:Addr)(kvs:List (List SB×V)):Prop:=∃xs,H a=some (.ext (dBφ P w a xs))/\KB H kvs xs
theorem DB.same{P:Program}{w:World}{H H':Hp}{a:Addr}{kvs:List (List SB×V)}(h:DB P w H a kvs)(s:zo H H'):DB P w H' a kvs:=by
 obtain⟨xs,h1,h2⟩:=h;exact⟨xs,s _ _ h1,xh h2 fun _ _ z=>⟨z.1,s _ _ z.2.1,z.2.2⟩⟩
theorem KB.val{H:Hp}{kvs:List (List SB×V)}{xs:List (List SB×Addr×Value)}(r:KB H kvs xs)(k:List SB):ua (z8 kvs k) ((atKey xs k).map (·.2)):=by
 induction r with
 | nil=>exact True.intro
 | @cons p q ps qs h t ih=>
  obtain⟨h1,_,h2⟩:=h;by_cases e:p.1=k
  ·have e':q.1=k:=h1.symm.trans e
   have b:atKey (q::qs) k=some q.2:=by simp [atKey,find?_cons,e']
   rw[yH e,b];exact h2
  ·have e':¬q.1=k:=fun z=>e (h1.trans z)
   have b:atKey (q::qs) k=atKey qs k:=by simp [atKey,find?_cons,e']
   rw[yI e,b];exact ih
theorem KB.repl{H:Hp}{kvs:List (List SB×V)}{xs:List (List SB×Addr×Value)}(r:KB H kvs xs)(k:List SB){y:V}{u:Value}(ry:zT y u):
  KB H (kvs.map fun kv=>if kv.1=k then (kv.1,y) else kv) (xs.map (putAt k u)):=by
 induction r with
 | nil=>exact .nil
 | @cons p q ps qs h t ih=>
  rw[map_cons,map_cons];refine .cons ?_ ih;obtain⟨h1,h2,h3⟩:=h;unfold putAt;by_cases e:p.1=k
  ·rw[if_pos e,if_pos (h1.symm.trans e)];exact⟨h1,h2,ry⟩
  ·rw[if_neg e,if_neg (fun z=>e (h1.trans z))];exact⟨h1,h2,h3⟩
theorem KB.put{H:Hp}{kvs:List (List SB×V)}{xs:List (List SB×Addr×Value)}(r:KB H kvs xs)(k:List SB){b:Addr}{y:V}{u:Value}(hb:H b=some (.tup (k.map sbV)))(ry:zT y u):
  KB H (yC kvs k y) (storedH xs k b u):=by
 have e:(kvs.any fun kv=>decide (kv.1=k))=(atKey xs k).isSome:=by
  rw[xz,(r.val k).isSome_eq,isSome_map]
 unfold yC storedH;rw[e];by_cases q:(atKey xs k).isSome=true
 ·rw[if_pos q,if_pos q];exact r.repl k ry
 ·rw[if_neg q,if_neg q];exact Paired.snoc r ⟨rfl,hb,ry⟩
theorem KB.keys{P:Program}{w:World}{H:Hp}{h:Heap}(ok:HOk P w H h):∀{kvs:List (List SB×V)}{xs:List (List SB×Addr×Value)},KB H kvs xs->∀x∈xs,(tupleKind (ud P w)).is h x.1 x.2.1:=by
 intro kvs xs r;induction r with
 | nil=>intro x hx;exact nomatch hx
 | @cons p q ps qs hq t ih=>
  intro x hx;rcases List.mem_cons.mp hx with e|hx
  ·subst e
   exact zeV ok (by rw[<- hq.1];exact hq.2.1)
  ·exact ih x hx
theorem ziA{P:Program}{w:World}{H:Hp}{h:Heap}{a:Addr}{xs:List (List SB×Addr×Value)}{kvs:List (List SB×V)}(ok:HOk P w H h)(e:H a=some (.ext (dBφ P w a xs)))(r:KB H kvs xs):h.DictOfH (tupleKind (ud P w)) a xs:=by
 obtain⟨⟨o,es,ep,h1,h2,h3,h4,h5⟩,_⟩:=(show yq P w H h a (.ext (dBφ P w a xs)) from ok a _ e);exact⟨o,es,ep,h1,h2,h3,h4,r.keys ok,h5⟩
section
variable {P:Program}{w:World}{A:Around}{R:Result->Shared->Prop}{I:Addr}{fp wr:List Addr}{G:Array GenState->Array GenState->Prop}{n:Nat}{Pr:Nat->Value->Prop}{Sg:Nat->Shared->Prop}
end
section
variable {prog:Program}{w:World}{κ : Type}[DecidableEq κ] {knd:HeapKind prog w κ}{A:Around}{E:VSP}{s:Shared}
theorem zba{d a:Addr}{xs:List (κ×Addr×Value)}{k : κ}{v:Value}{Q:VSP}(hu:knd.room A)(hkey:knd.is s.heap k a)(hm:s.heap.DictOfH knd d xs)
  (hthere:∀p,atKey xs k=some p->Q p.2 { s with toks:=s.toks+knd.draws k })
  (hnew:atKey xs k=none->∀h',h'.DictOfH knd d (storedH xs k a v)->Heap.SameBut d s.heap h'->Q v { s with heap:=h',toks:=s.toks+knd.draws k })
  (hsz:xs.length<=sizeLine):wpAny (model prog w) A (dictSetDefault d (.ref a) v) Q E s:=by
 obtain⟨o,es,ep,ho,hc,hd,he,his,hn⟩:=hm;unfold dictSetDefault
 try with_reducible refine wpAny_holding ?_
 refine zwb (knd.pyHash hu hkey ?_);refine zwb (wpAny_dictFind_heap (s:={ s with toks:=s.toks+knd.draws k }) hu hkey ho hd he his hn ?_ ?_)
 ·intro hno
  have hnot:k∉xs.map (·.1):=not_mem_keys_of_get hno;have hst:=storedH_new (v:=v) (a:=a) (atKey_none_of_get hno);refine zwb (wpAny_rule (zwb (wpAny_updateDictKeys (hz:=by have e:=size_of_entries he;omega) (s:={ s with toks:=s.toks+knd.draws k }) ho hd (zwp (hnew (atKey_none_of_get hno) _ ⟨_,_,ep+1,Heap.get?_update_self _ ho (Obj.isFreed_of_dict (Obj.data_mapDictKeys hd _)),
   hc.mapDictKeys _,Obj.data_mapDictKeys hd _,?_,?_,?_⟩ (Heap.SameBut.update ..))))))
  ·rw[storedH_new (atKey_none_of_get hno)]
   simp [he,entryOfKey]
  ·rw[storedH_new (atKey_none_of_get hno)]
   intro x hx;rcases List.mem_append.mp hx with hx|hx
   ·exact knd.keeps (his x hx) ho hd (Heap.SameBut.update ..)
   ·simp only[List.mem_singleton] at hx
    subst hx;exact knd.keeps hkey ho hd (Heap.SameBut.update ..)
  ·rw[storedH_new (atKey_none_of_get hno)]
   rw[map_append,List.nodup_append];exists hn,by simp,?_
   intro x hx y hy;simp only[map_cons,map_nil,List.mem_singleton] at hy;subst hy;exact fun e=>hnot (e ▸ hx)
 ·intro j p hj
  have ej:=entry_at he j;rw[hj] at ej;refine zwb (wpAny_dictEntries (s:={ s with toks:=s.toks+knd.draws k }) ho hd ?_)
  rw[ej];exact zwb (wpAny_rule (zwp (hthere p (atKey_of_get hn hj))))
theorem qC(knd:HeapKind prog w κ)(d a:Addr)(hd:(d==sysModules)=false)(dflt:Value):
  MeetsIn prog w (Builtin.«dict.setdefault» ⟨[.ref d,.ref a,dflt],[]⟩) (fun A R s=>knd.room A.in1/\∃k xs,knd.is s.heap k a/\s.heap.DictOfH knd d xs/\xs.length<=sizeLine/\
   (∀p,atKey xs k=some p->R (.ok (.ret p.2)) { s with toks:=s.toks+knd.draws k })/\
   (atKey xs k=none->∀h',h'.DictOfH knd d (storedH xs k a dflt)->Heap.SameBut d s.heap h'->R (.ok (.ret dflt)) { s with heap:=h',toks:=s.toks+knd.draws k })):=
 .of_wp fun A R s ⟨hu,k,xs,hkey,hm,hz,h1,h2⟩=>by
  unfold Builtin.«dict.setdefault»;refine zwb ?_;unfold Builtin.Dict.keyAndDefault;refine zwb (wpAny_notOrdered_dict hm.typeIs ?_);show wpAny _ _ (pure (d,Value.ref a,some dflt)) _ _ s;refine zwp ?_;show wpAny _ _ (if (d==sysModules)=true then _ else (dictSetDefault d (.ref a) dflt >>= _)) _ _ s
  rw[if_neg (by rw[hd];exact zft)]
  exact zwb (zba hu hkey hm (fun p hp=>zwp ⟨p.2,rfl,h1 p hp⟩) (fun hn h' hm' hs'=>zwp ⟨dflt,rfl,h2 hn h' hm' hs'⟩) hz)
end
theorem ziB{P:Program}{w:World}{H:Hp}{h:Heap}{a:Addr}{xs:List (List SB×Addr×Value)}(e:dBφ P w a xs h):yq P w H h a (.ext (dBφ P w a xs)):=
 ⟨e,let ⟨o,_,_,h1,_⟩:=e;⟨o,h1⟩,fun g1 g2 q k=>let ⟨o,es,ep,h1,c⟩:=q;⟨o,es,ep,k o h1,c⟩⟩
def zlI(P:Program)(w:World):TE:=fun _ H Q=>∀a,H a=none->(a==sysModules)=false->Q (.ref a) (upd H a (.ext (dBφ P w a [])))
section
variable {X:Cx}{P:Program}{w:World}{pos:Pos}
theorem zjs(hP:X.prog=P)(hw:X.w=w):PE X (.Dict [] [] pos) (zlI P w):=by
 subst hP;subst hw;exact⟨fun pins s σ H Q I h=>
 wpAny_Dict_empty ⟨.ref s.heap.objs.size,_,I.laid (a:=s.heap.objs.size) (o:=.ext (dBφ X.prog X.w s.heap.objs.size [])) (t':=s.toks) (fun _ _ q=>zgp _ q) (le_refl _) (ziB ⟨_,#[],0,zgs _ rfl,⟨rfl,rfl,rfl⟩,rfl,rfl,nodup_nil⟩),rfl,h _ (I.hok.fresh (le_refl _)) (beq_eq_false_iff_ne.mpr (Ne.symm (ne_of_lt I.big)))⟩⟩
def zkj(P:Program)(w:World)(td:TE)(ta:TA):TE:=fun σ H Q=>td σ H fun x H1=>(∃(a:Addr) (kvs:List (List SB×V)),x=.ref a/\DB P w H1 a kvs)/\ta σ H1 fun ys H2=>∃(a b:Addr) (kvs:List (List SB×V)) (k:List SB) (v:V),x=.ref a/\ys=[.ref b,v]/\DB P w H2 a kvs/\(a==sysModules)=false/\kvs.length<=1000/\H2 b=some (.tup (k.map sbV))/\
 (∀v',z8 kvs k=some v'->Q v' H2)/\(z8 kvs k=none->∀H3,(∃o,H3=upd H2 a (.ext o))->DB P w H3 a (yC kvs k v)->Q v H3)
variable {o e1 e2:Expr}{td:TE}{ta:TA}{apos cpos:Pos}
theorem zfh(hP:X.prog=P)(hw:X.w=w)(hu:X.A.units+1<cLine)(ho:PE X o td)(ha:PA X [e1,e2] ta)
  (hbase:attributeBase o "setdefault" X.env (eval o X.env)=eval o X.env:=by rfl)
  (hfew:((backTo cpos (starEach [e1,e2] X.env)).all (fun x=>!x.1)&&(backToKw cpos (keywordEach [] X.env)).all (fun x=>x.1.isSome)
   && decide (([e1,e2]:List Expr).length+([]:List Keyword).length+(if ([]:List Keyword).isEmpty then 0 else 1)<30))=true:=by rfl)
  (hline:(apos.endLine==cpos.line)=true:=by rfl) (hs:starEach [e1,e2] X.env=(false,eval e1 X.env)::starEach [e2] X.env:=by rfl) (hplain:(backTo cpos (starEach [e2] X.env)).any (·.1)=false:=by rfl) :
  PE X (.Call (.Attribute o "setdefault" apos) [e1,e2] [] cpos) (zkj P w td ta):=by
 subst hP;subst hw;exists ?_;intro pins s σ H Q I h;refine wpAny_Call_method_late hbase hfew hline rfl (thn (ho pins s σ H _ I h) fun u s1 ⟨x,H1,I1,r1,⟨a,kvs,ex,xs,exs,kb⟩,q1⟩=>?_);subst ex;obtain rfl:u=Value.ref a:=r1;have dd:=ziA I1.hok exs kb;have nod:∀b,Value.ref a=.ref b->∃ob,s1.heap.get? b=some ob/\ob.dict=none:=fun b eb=>by
  cases eb;obtain⟨ob,_,_,g1,g2,_⟩:=dd;exact⟨ob,g1,g2.2.1⟩
 exists "dict","dict.setdefault",PySem.F.plainAttrs_dict,PySem.F.slot_dict_setdefault,PySem.F.type_dict_setdefault,dd.typeIs,nod,?_;have hA:=ha cpos pins s1 σ H1 _ I1 q1;rw[hs] at hA |-;refine Calls.callWith_builtin (by show(false||(backTo cpos (starEach [e2] X.env)).any (·.1))=false;rw[hplain] <;> rfl) (Calls.evalArgs_plain ?_)
 refine thn hA fun us s2 ⟨vs,H2,I2,r2,a',b,kvs2,k,v,ea,ey,db2,hsys,l1000,hb,q2,q3⟩=>?_;cases ea;subst ey;obtain⟨u1,u2,rfl,ru1,ru2⟩:=qI r2;obtain rfl:u1=Value.ref b:=ru1;obtain⟨xs2,exs2,kb2⟩:=db2;have dd2:=ziA I2.hok exs2 kb2;have hval:=kb2.val k;have lz:xs2.length<=sizeLine:=by
  have e1:=kb2.length;have e2 : 1000<=sizeLine:=by decide
  omega
 refine call_meetsIn PySem.F.slot_dict_setdefault dd2.typeIs PySem.F.entry_dict_setdefault (PySem.F.args_dict_setdefault_3 _ _ _) (qC (tupleKind (ud X.prog X.w)) a b hsys u2) ⟨tupleKind_room_in1 hu,k,xs2,zeV I2.hok hb,dd2,lz,fun p hp=>?_,fun hn h' hm' hs'=>?_⟩
 ·rw[hp] at hval
  cases ev:z8 kvs2 k with
  | none=>rw[ev] at hval;exact absurd hval id
  | some v'=>
   rw[ev] at hval;exact⟨v',H2,I2.tok _,hval,q2 v' ev⟩
 ·rw[hn] at hval
  have ev:z8 kvs2 k=none:=by
   cases ev:z8 kvs2 k with
   | none=>rfl
   | some v'=>rw[ev] at hval;exact absurd hval id
  have kb3:=kb2.put k hb ru2;have hφ : dBφ X.prog X.w a (storedH xs2 k b u2) h':=by
   obtain⟨ob,es,ep,g1,g2,g3,g4,g5,g6⟩:=hm';exact⟨ob,es,ep,g1,g2,g3,g4,g6⟩
  exists v,upd H2 a (.ext (dBφ X.prog X.w a (storedH xs2 k b u2))),?_,ru2,q3 ev _ ⟨_,rfl⟩ ⟨_,za,xh kb3 fun _ q z=>⟨z.1,?_,z.2.2⟩⟩
  ·exact I2.write (x:=a) (e:=a) (by rw[exs2];exact True.intro) (.inl rfl) (fun b' q' hb' z=>(hs'.2 b' hb').trans z) (let ⟨ob,_,_,g1,_⟩:=hφ;⟨ob,g1⟩) (ziB hφ)
  ·rw[zf (fun e=>by have:=z.2.1;rw[e,exs2] at this;cases this)]
   exact z.2.1
end
end L2
namespace K43
open PySem L2 PyProof.Rows
theorem uG{H H2:Hp}{l:Addr}{o:HO}(s:zo H H2)(h:H l=none):zo H (upd H2 l o):=fun b u e=>by rw[zf (zd e h)];exact s b u e
theorem PAt.upd{c:C5}{H:Hp}{v D:Addr}{r:Rw}{ys:List V}{o:HO}(h:PAt c H v r)(hD:H D=some (.lst ys)):PAt c (upd H D o) v r:=by
 obtain⟨dx,h⟩:=h;exists dx,?_;rw[zf (fun e=>by rw[e,hD] at h;cases h)]
 exact h
def zbf(r:Rw):List SB:=match r.k with
 | 0=>[.inl "seat",.inl r.z,.inr r.b]|1=>[.inl "both",.inl r.z,.inr r.b]|2=>[.inl "tail",.inl r.z]|3=>[.inl "tag",.inl r.z,.inr r.b]|_=>[.inl "bag",.inl r.z]
theorem zjj{r:Rw}:(zbf r).map sbV=rv r:=by
 obtain⟨k,z,b⟩:=r
 match k with
 | 0=>rfl
 | 1=>rfl
 | 2=>rfl
 | 3=>rfl
 | n+4=>rfl
theorem zlf:∀i:Nat,i<5->∀j:Nat,j<5->kw i=kw j->i=j:=by decide +kernel
theorem zc9{r:Rw}:(zbf r)[0]?=some (.inl (kw r.k)):=by
 obtain⟨k,z,b⟩:=r
 match k with
 | 0=>rfl
 | 1=>rfl
 | 2=>rfl
 | 3=>rfl
 | n+4=>rfl
theorem zc8{r:Rw}:(zbf r)[1]?=some (.inl r.z):=by
 obtain⟨k,z,b⟩:=r
 match k with
 | 0=>rfl
 | 1=>rfl
 | 2=>rfl
 | 3=>rfl
 | n+4=>rfl
def sbB:Option SB->Bool
 | some (.inr b)=>b
 | _=>true
theorem zda{r:Rw}:fr r.k r.b=sbB ((zbf r)[2]?):=by
 obtain⟨k,z,b⟩:=r
 match k with
 | 0=>rfl
 | 1=>rfl
 | 2=>rfl
 | 3=>rfl
 | n+4=>rfl
theorem zfe{c:C5}{H:Hp}{p:Addr}{r r':Rw}(h:zbf r=zbf r')(o:r.ok)(o':r'.ok)(hp:PAt c H p r'):PAt c H p r:=by
 have e1:kw r.k=kw r'.k:=by
  have h1:=zc9 (r:=r);rw[h,zc9] at h1;exact(Sum.inl.inj (Option.some.inj h1)).symm
 have e2:r.z=r'.z:=by
  have h1:=zc8 (r:=r);rw[h,zc8] at h1;exact(Sum.inl.inj (Option.some.inj h1)).symm
 have e3:fr r.k r.b=fr r'.k r'.b:=by rw[zda,zda,h]
 have ek:=zlf _ o.1 _ o'.1 e1;obtain⟨dx,hp⟩:=hp;exact⟨dx,by show H p=some (.ins (c.at r.k) dx (pf (kw r.k) (.str r.z) (fr r.k r.b)));rw[e3,e2,ek];exact hp⟩
theorem PAt.ext{c:C5}{H:Hp}{v a:Addr}{r:Rw}{x:Heap->Prop}{o:HO}(h:PAt c H v r)(hD:H a=some (.ext x)):PAt c (L2.upd H a o) v r:=by
 obtain⟨dx,h⟩:=h;exists dx,?_;rw[zf (fun e=>by rw[e,hD] at h;cases h)]
 exact h
theorem zgD{P:Program}{w:World}{H:Hp}{a D:Addr}{ys:List V}{o:HO}{kvs:List (List SB×V)}(h:DB P w H a kvs)(hD:H D=some (.lst ys)):DB P w (L2.upd H D o) a kvs:=by
 obtain⟨xs,e,kb⟩:=h;exists xs,by rw[zf (fun z=>by rw[z,hD] at e;cases e)];exact e,xh kb fun _ _ z=>⟨z.1,?_,z.2.2⟩
 rw[zf (fun e'=>by have:=z.2.1;rw[e',hD] at this;cases this)]
 exact z.2.1
theorem zdE{kvs:List (List SB×V)}{k k':List SB}{v v':V}(hn:z8 kvs k=none)(h:z8 (yC kvs k v) k'=some v'):z8 kvs k'=some v'\/(k'=k/\v'=v):=by
 rw[zbi v hn] at h;unfold z8 at h |-;rw[List.find?_append] at h;cases e:kvs.find? fun kv=>decide (kv.1=k') with
 | some p=>rw[e] at h;exact .inl h
 | none=>
  rw[e] at h;by_cases ek:k=k'
  ·rw[List.find?_cons_of_pos (by simpa using ek)] at h
   cases h;exact .inr ⟨ek.symm,rfl⟩
  ·rw[List.find?_cons_of_neg (by simpa using ek)] at h
   cases h
theorem zhc{kvs:List (List SB×V)}{k:List SB}{v:V}(hn:z8 kvs k=none):(yC kvs k v).length=kvs.length+1:=by rw[zbi v hn,length_append];rfl
inductive zcX(c:C5)(CF:Addr)(vs:List V)(H:Hp)(Q:VK)(E:XK):Prop|mk(la lb:Addr)(us:List Addr)(rows:List Rw)(bars:List Str):vs=[.ref la,.ref lb]->H la=some (.lst (us.map V.ref))->Paired (TAt H) us rows->H lb=some (.lst (bars.map V.str))->zdC rows bars->(∀(x:Addr) (H':Hp),zo H H'->vF c CF H' x rows bars->Q (.ref x) H')->zcX c CF vs H Q E
section
variable {P:Program}{w:World}{K:Frag}{mg:Str->Option Value}{base:Heap}{f CF:Addr}{fd:FuncData}{c:C5}{m:MA}
theorem zl8:([Str.ofString "_law_one",Str.ofString "_law_like"]:List Str).Nodup:=by decide +kernel
theorem zc5:zq ["_law_specs_here","_law_shut","_law_like"] ["_law_specs_here","_law_shut"] (zj ze7):=fsc
theorem zfM{gF g1:Addr}{eF e1:FuncData}(F:Fun K "_law_form" "_law_form" ze7 f fd)(mCF:mg "Form"=some (.ref CF))(MF:Mk K CF gF)(GF:zx P w K mg base CX0 3 gF eF ["self","parameters","bars"] (zkw c CF))(bF:zN K eF ["self","parameters","bars"] [])(cP:zI P w K mg base 5 "parameter_of" g1 e1 ["told"] (zii K c)):zx P w K mg base CX0 6 f fd ["_law_specs_here","_law_shut"] (zcX c CF):=by
 refine F.ok zc5 (fun cdv A outer s H8 vs Q E hr h=>?_);obtain⟨la,lb,us,rows,bars,rfl,hla,hu,hlb,V1,q⟩:=h;have hr4:yf 4 _:=hr.mono (by decide)
 have hu1:=uu hr;have l24:=V1.l24;have l60:=V1.l60;have lu:us.length=rows.length:=hu.length;refine zP (zw (i:=2) zc5.nd rfl (Or.inr rfl) (zjs (P:=P) (w:=w) rfl rfl)) ?_;intro kd hkd hsys;dsimp only[zS]
 injections kd hkd H9 s9 g9
 have hla9:=s9 _ _ hla;refine⟨_,zc (zu (zaJ MF GF hr4 rfl mCF bF .nil zW (ac (xO ["_law_like"] ["_law_one","_law_like"] [none,some 2] rfl ⟨rfl,rfl,rfl,rfl⟩ (yt (pv 0)) (z7 0) rfl rfl rfl
   (fun pins fp s H C=>⟨zp (i:=0) zl8 rfl (Or.inl rfl) (.inr rfl),y7,zfh (P:=P) (w:=w) rfl rfl hu1 (pv 1) (ac (pv 0) (ac (cF cP hr (ac (pv 0) zb)) zb))⟩)) (ac (pv 1) zb)))),?_⟩
 exists _,rfl,la,rfl,⟨_,zg hla9⟩,fun D hD=>?_;have neD:D≠kd:=fun e=>by rw[e,g9] at hD;cases hD
 have nD:H8 D=none:=s9.free hD;refine ww (K:=K) (xs:=us.map V.ref) (fun i ys H'=>∃(ps:List Addr) (kvs:List (List SB×V)),ys=ps.map V.ref/\zo H8 H'/\H' D=some (.lst ys)/\Paired (PAt c H') ps (rows.take i)/\DB P w H' kd kvs/\kvs.length<=i/\∀k v,z8 kvs k=some v->∃r pa,r.ok/\k=zbf r/\v=.ref pa/\PAt c H' pa r)
  ⟨[],[],rfl,s9.trans (ze hD _),za,.nil,⟨[],by rw[zf neD.symm];exact g9,.nil⟩,le_refl _,(fun k v h=>by cases h)⟩ (fun i ys H' ⟨_,_,_,sH,_⟩=>zg (sH _ _ hla)) ?_ ?_
 ·rintro i x ys H2 hi hx ⟨ps,kvs,rfl,s2,hD2,hp2,db2,lk,hv2⟩
  obtain⟨u,hu',rfl⟩:=xL hx;obtain⟨r,hr',tr⟩:=zV hu hu';have rk:=V1.ok r (mem_of_getElem? hr');have hil:i<rows.length:=(List.getElem?_eq_some_iff.mp hr').1;have er:rows[i]=r:=(List.getElem?_eq_some_iff.mp hr').2;have lps:ps.length<=i:=by rw[hp2.length,length_take];omega
  exists fun _=>?_,fun e=>Bool.noConfusion e;exists _,rfl,⟨kd,kvs,rfl,db2⟩,_,rfl,_,rfl,u,r.k,.str r.z,r.b,rfl,rk.1,s2 _ _ tr,.inl ⟨r.z,rfl,zbs rk.2⟩,rk.2,fun pa dx H3 s3 ho=>?_;have pa3:PAt c H3 pa r:=⟨dx,ho⟩;have s23:=s2.trans s3;have db3:=db2.same s3;exists kd,u,kvs,zbf r,.ref pa,rfl,rfl,db3,hsys,by omega,by rw[zjj];exact s23 _ _ tr,fun v' hv'=>?_,fun hn H4 ⟨o4,e4⟩ db4=>?_
  ·obtain⟨r',pa',rk',ek,ev,hp'⟩:=hv2 _ _ hv'
   subst ev;have hq:PAt c H3 pa' r:=(zfe ek rk rk' hp').same s3;refine lcN.mk hi (yj (by rw[length_map];omega)) (s3 _ _ hD2) (by rw[length_map];exact lps) ⟨ps++[pa'],kvs,by rw[map_append];rfl,uG s23 nD,za,?_,?_,by omega,fun k v hkv=>?_⟩
   ·rw[take_succ_eq_append_getElem hil,er]
    exact Paired.snoc (zm (fun _ _ z=>PAt.upd (z.same s3) (s3 _ _ hD2)) hp2) (PAt.upd hq (s3 _ _ hD2))
   ·exact zgD db3 (s3 _ _ hD2)
   ·obtain⟨r1,p1,a1,a2,a3,a4⟩:=hv2 k v hkv
    exact⟨r1,p1,a1,a2,a3,PAt.upd (a4.same s3) (s3 _ _ hD2)⟩
  ·obtain⟨xs3,ex3,_⟩:=id db3
   have s4:zo H8 H4:=by rw[e4];exact uG s23 hkd
   have hD4:H4 D=some (.lst (ps.map V.ref)):=by rw[e4,zf neD];exact s3 _ _ hD2
   have ups:∀{v:Addr}{r:Rw},PAt c H3 v r->PAt c H4 v r:=fun z=>by rw[e4];exact PAt.ext z ex3
   refine lcN.mk hi (yj (by rw[length_map];omega)) hD4 (by rw[length_map];exact lps) ⟨ps++[pa],_,by rw[map_append];rfl,uG s4 nD,za,?_,zgD db4 hD4,by rw[zhc hn];omega,fun k v hkv=>?_⟩
   ·rw[take_succ_eq_append_getElem hil,er]
    exact Paired.snoc (zm (fun _ _ z=>PAt.upd (ups (z.same s3)) hD4) hp2) (PAt.upd (ups pa3) hD4)
   ·rcases zdE hn hkv with h|⟨h1,h2⟩
    ·obtain⟨r1,p1,a1,a2,a3,a4⟩:=hv2 k v h
     exact⟨r1,p1,a1,a2,a3,PAt.upd (ups (a4.same s3)) hD4⟩
    ·exact⟨r,pa,rk,h1,h2,PAt.upd (ups pa3) hD4⟩
 rintro ys1 H10 ⟨ps,kvs,rfl,s10,hD10,hp10,_,_,_⟩;rw[length_map,lu,take_length] at hp10;exists _,rfl,?_;intro x dx hx hdx hne;have smk:zo H10 (upd (upd H10 dx (.own x)) x (.ins CF dx [])):=yL hx hdx;have hx1:upd (upd H10 dx (.own x)) x (.ins CF dx []) x=some (.ins CF dx []):=za;generalize upd (upd H10 dx (.own x)) x (.ins CF dx [])=H11 at smk hx1 |-;exists x,D,dx,.ref lb,ps,rows,bars,rfl,hx1,smk _ _ hD10,xH smk hp10,.inr ⟨lb,rfl,(s10.trans smk) _ _ hlb⟩,V1,fun H12 sx F6 L6=>?_;exists rfl,q x H12 (fun b' u e=>sx b' u (smk _ _ (s10 _ _ e)) (zd (s10 _ _ e) hx)) ⟨F6.at,by omega,by omega,V1.ok⟩
end
end K43
namespace L2
open PySem PySem.Spec PyProof.Rows
theorem zjv{P:Program}{w:World}{X:Cx}:xy (CXs P w) X (fun _ _ _=>False):=fun pins σ H1 s1 e s' I q=>by
 obtain⟨_,_,_,_,_,_,_,q⟩:=q;exact q.elim
theorem zhQ{β : Type}{K:Frag}{a:Addr}{xs:List V}{bs:List β}{caps:List (Option Nat)}{g:TG}{tt:TT}{te:TE}{σ : L2.St}{H1:Hp}{Q:VK}{D:Addr}(R':Hp->Addr->β->Prop)
  (sR':∀{H H' v r},R' H v r->zo H H'->R' H' v r) (uR':∀{H v r D ys o},R' H v r->H D=some (.lst ys)->R' (upd H D o) v r)
  (ha:SqL K H1 a xs) (hl:xs.length=bs.length) (hn:bs.length<=500) (hD:H1 D=none)
  (hs:∀(i:Nat) x b H (Qf:VK) (Qs:Hp->Prop),xs[i]?=some x->bs[i]?=some b->zo H1 H->(∀v H',zo H H'->R' H' v b->Qf (.ref v) H')->
   g x (yY caps σ) H fun σ2 H2=>tt σ2 H2 fun ok H3=>(ok=true->te σ2 H3 Qf)/\(ok=false->Qs H3))
  (hd:∀vs H,zo H1 H->H D=some (.lst (vs.map V.ref))->Paired (R' H) vs bs->Q (.ref D) H):LCr (Itl K a) caps g tt te σ H1 Q D:=by
 refine ww (K:=K) (xs:=xs) (fun i ys H'=>∃vs,ys=vs.map V.ref/\zo H1 H'/\H' D=some (.lst ys)/\Paired (R' H') vs (bs.take i)) ⟨[],rfl,ze hD _,za,.nil⟩ (fun i ys H' ⟨_,_,h,_⟩=>h.seq ha) ?_ ?_
 ·rintro i x ys H' hlt hx ⟨vs,rfl,sH,hDy,fv⟩
  have hi:i<bs.length:=by omega
  have hb:bs[i]?=some bs[i]:=getElem?_eq_getElem hi;have nl:(vs.map V.ref).length<=i:=by
   rw[length_map,fv.length,length_take];omega
  refine hs i x _ H' _ _ hx hb sH (fun v H2 s2 r2=>?_);have s3:zo H1 (upd H2 D (.lst (vs.map V.ref++[.ref v]))):=fun b o z=>by
   rw[zf (zd z hD)];exact s2 _ _ (sH b o z)
  refine lcN.mk hlt (le_of_lt (zC (by omega))) (s2 _ _ hDy) nl ⟨vs++[v],by rw[map_append];rfl,s3,za,?_⟩
  rw[take_succ_eq_append_getElem hi];exact Paired.snoc (zm (fun w r' z=>uR' (sR' z s2) (s2 _ _ hDy)) fv) (uR' r2 (s2 _ _ hDy))
 ·rintro ys H ⟨vs,rfl,sH,hDy,fv⟩
  rw[hl,take_length] at fv;exact hd vs H sH hDy fv
section
variable {X:Cx}
theorem qr(bt:Nat->Nat->Bool):∀k,argBest bt k<=k
 | 0=>le_refl _
 | k+1=>by
  unfold argBest;split
  ·exact le_refl _
  ·exact le_succ_of_le (qr bt k)
theorem zel(hc:X.calm=true):xF X (.builtin "max") (fun xs H Q=>∃(p:Addr) (ns:List Int),xs=[.ref p]/\SqL X.K H p (ns.map V.int)/\ns≠[]/\∀m∈ns,Q (.int m) H):=by
 intro pins s σ H xs us Q I r h;obtain⟨p,ns,rfl,hS,hne,q⟩:=h;obtain⟨u,rfl,ru⟩:=ub r;cases ru;obtain⟨its,rv,hp,hz⟩:=I.list hS;have hlen:its.length=ns.length:=by rw[<- rv.length,length_map]
 have hlt:p<s.heap.objs.size:=by obtain⟨_,e,_⟩:=hp.isList;exact Heap.lt_size e
 have hpne:p≠s.heap.objs.size:=ne_of_lt hlt;have hn0 : 0<ns.length:=List.length_pos_iff.mpr hne;have hval:∀(i:Nat) (v:Value),its.toArray[i]?=some v->∃t,v=.int (ns.getD i 0) t:=fun i v hP=>by
  have hv:its[i]?=some v:=by simpa using hP
  have hi:i<ns.length:=by rw[<- hlen];exact(List.getElem?_eq_some_iff.mp hv).1
  obtain⟨u',e1,t,e2⟩:=rv.get (i:=i) (x:=V.int ns[i]) (by rw[getElem?_map,getElem?_eq_getElem hi];rfl)
  rw[hv] at e1;cases e1;exists t,?_;rw[e2,getD_eq_getElem?_getD,getElem?_eq_getElem hi];rfl
 refine call_max_walk (wpAny_pyIter_list hp.isList ?_);exists s.heap.objs.size,_,_,_,_,_,_,rfl,Walks.list (A:=X.A.in1) (I.ok.hd hc) s.heap.objs.size p hpne its.toArray,⟨⟨_,zgs _ rfl,rfl,rfl⟩,hp.isList.push _⟩,fun b hb=>?_,by rw[size_toArray,hlen];exact hn0,CmpOf.ints_gt (fun i=>ns.getD i 0) hval,fun v h' tk hP hk=>?_
 ·show b<(s.heap.push _).objs.size
  rw[Heap.size_push];rcases List.mem_cons.mp hb with rfl|hb
  ·exact lt_succ_self _
  ·rcases List.mem_cons.mp hb with rfl|hb
   ·exact lt_succ_of_lt hlt
   ·cases hb
 ·obtain⟨t,rfl⟩:=hval _ _ hP
  have hb:=qr (fun i j=>decide (ns.getD i 0>ns.getD j 0)) (its.toArray.size - 1);generalize argBest (fun i j=>decide (ns.getD i 0>ns.getD j 0)) (its.toArray.size - 1)=k at hb hP |-;rw[size_toArray,hlen] at hb;have hkl:k<ns.length:=by omega
  exists .int (ns.getD k 0),H,I.kept (old_kept hk),⟨t,rfl⟩,q _ ?_;rw[getD_eq_getElem?_getD,getElem?_eq_getElem hkl];exact getElem_mem hkl
inductive zlPJ(x:V)(y:V)(H:Hp)(Q:VK):Prop|mk(a b:Addr)(xs:List V):x=.ref a->y=.ref b->H a=some (.lst xs)->H b=some (.lst [])->(Q (.bl (!decide (xs=[]))) H)->zlPJ x y H Q
def zlP:R2:=fun x y H Q=>zlPJ x y H Q
theorem zfr{X:Cx}(hu:X.A.units<cLine):OpR X (compareOp .NotEq) zlP:=by
 intro pins s σ H x y v u Q I rx ry h;obtain⟨a,b,xs,rfl,rfl,ha,hb,q⟩:=h;cases rx;cases ry;obtain⟨ia,va,pa,_⟩:=I.list (zg ha);obtain⟨ib,vb,pb,_⟩:=I.list (zg hb);cases vb;by_cases e:xs=[]
 ·subst e
  cases va;rw[decide_eq_true rfl] at q;have t2:=SeqAt.RcNeAt.lists (A:=X.A) (s:=s) (e:=fun _=>true) pa.isList pb.isList rfl hu (fun j h1 h2=>absurd h1 (by simp))
  rw[vE] at t2;exact t2 X.prog X.w X.xe _ ⟨.bl false,H,I,rfl,q⟩
 ·rw[decide_eq_false e] at q
  have l1:=va.length
  have:ia.length≠0:=fun z=>e (List.eq_nil_of_length_eq_zero (by omega))
  exact SeqAt.RcNeAt.lists_lengths pa.isList pb.isList (by simp;exact fun z=>this (by rw[z];rfl)) hu X.prog X.w X.xe _ ⟨.bl true,H,I,rfl,q⟩
end
end L2
namespace K43
open PySem L2 PyProof.Rows
inductive zc1(vs:List V)(H:Hp)(Q:VK)(E:XK):Prop|mk(c:Int)(la:Addr)(p:Nat)(us:List Addr)(rows:List Rw):vs=[.int c,.ref la,.int (p:Nat)]->H la=some (.lst (us.map V.ref))->Paired (TAt H) us rows->VR rows->p<=24->(∀(u:Addr) (d:Df) (H':Hp),zo H H'->H u=none->H' u=some (.tup d.row)->jf rows p d->Q (.ref u) H')->zc1 vs H Q E
def ItS(it:xp):Prop:=(itT it).length<=4/\(itP it).length<=4
theorem zdl:∀{ct:List xp},(∀it∈ct,ItS it)->(zR ct).length<=4 * ct.length/\(yn ct).length<=4 * ct.length
 | [],_=>⟨le_refl _,le_refl _⟩
 | it::ct,h=>by
  obtain⟨a,b⟩:=zdl (ct:=ct) fun x hx=>h x (mem_cons_of_mem _ hx);obtain⟨c,d⟩:=h it mem_cons_self;show((it::ct).map itT).flatten.length<=_/\((it::ct).map itP).flatten.length<=_;rw[map_cons,map_cons,List.flatten_cons,List.flatten_cons,length_append,length_append,length_cons];have a:((ct.map itT).flatten).length<=4 * ct.length:=a;have b:((ct.map itP).flatten).length<=4 * ct.length:=b;omega
inductive za9(K:Frag)(vs:List V)(H:Hp)(Q:VK)(E:XK):Prop|mk(la:Addr)(c:Int)(us:List Addr)(rows:List Rw):vs=[.ref la,.int c]->H la=some (.lst (us.map V.ref))->Paired (TAt H) us rows->VR rows->(∀(l:Addr) (xs:List V) (ct:List xp) (H':Hp),zo H H'->H l=none->H' l=some (.lst xs)->Paired (zD K (fun a=>a≠l) H' 3) xs (ct.map xu)->(∀it∈ct,ItS it)->ct.length<=24->Q (.ref l) H')->za9 K vs H Q E
theorem zlg:∀k,k<5->inV (.str (kw k)) [.str "seat",.str "both"]=qp k:=by decide +kernel
theorem zlh:∀k,k<5->inV (.str (kw k)) [.str "both",.str "tag"]=xx k:=by decide +kernel
theorem zjY{tc:TT}{t u:TS}{D:wF}{σ : L2.St}{H:Hp}(R:Hp->Prop)(h2:∀H,R H->u D σ H)(h1:(∀H,R H->u D σ H)->ziM tc t u D σ H):ziM tc t u D σ H:=h1 h2
section
variable {P:Program}{w:World}{K:Frag}{mg:Str->Option Value}{base:Heap}{f CF:Addr}{fd:FuncData}{c:C5}{m:MA}
theorem zl9:([Str.ofString "_law_k",Str.ofString "_law_specs_here"]:List Str).Nodup:=by decide +kernel
theorem zkY:([Str.ofString "_law_p",Str.ofString "_law_specs_here"]:List Str).Nodup:=by decide +kernel
theorem jn:zq ["_law_cell","_law_specs_here","_law_p","_law_ahead","_law_number","_law_at"] ["_law_cell","_law_specs_here","_law_p"] (zj zco):=fsc
theorem zfW{g1 g2 g3:Addr}{d1 d2 d3:FuncData}(F:Fun K "_law_drawn" "_law_drawn" zco f fd)(T:uh mg)(cS:zI P w K mg base 1 "_law_single" g1 d1 ["_law_specs_here","_law_p"] zeF)(cM:zI P w K mg base 1 "_law_mix" g2 d2 ["_law_cell","_law_k"] zeI)(cT:zI P w K mg base 1 "_law_thing" g3 d3 ["_law_cell"] uj):zx P w K mg base CX0 2 f fd ["_law_cell","_law_specs_here","_law_p"] zc1:=by
 refine F.ok jn (fun cdv A outer s H vs Q E hr h=>?_);obtain⟨cc,la,p,us,rows,rfl,hla,hu,V1,lp,q⟩:=h;have hU:=hr.units;refine zP (qO (i:=3) ["_law_specs_here"] ["_law_k","_law_specs_here"] [none,some 1] jn.nd rfl (Or.inl rfl) rfl ⟨rfl,rfl,rfl,rfl⟩ (yG rfl T.range (ac (pv 2) zb)) (z7 0) rfl rfl rfl
   (fun pins fp s H C=>⟨zp (i:=0) zl9 rfl (Or.inl rfl) (.inr rfl),xM (yp (cF cS hr (ac (pv 1) (ac (pv 0) zb)))),pv 0⟩)) ?_
 exists _,rfl,((p:Nat):Int),rfl,by omega,by omega,fun D hD=>?_
 rw[show((p:Nat):Int).toNat=p by omega]
 refine zaP (n:=p) (fun k:Nat=>uD rows (k:Int)) (fun n=>.int (n:Nat)) hD (by omega) (fun i H' N S hi sH n1 s1=>?_) (fun H1 s1 h1=>?_)
 ·rw[Int.zero_add]
  exists _,rfl,_,rfl,la,(i:Int),us,rows,rfl,sH _ _ hla,zU sH hu,V1,fun H2 s2=>?_;exact⟨_,rfl,(fun e=>⟨_,rfl,n1 _ s2 e⟩),fun e=>s1 _ s2 e⟩
 obtain⟨ns,en,hm⟩:∃ns:List Nat,ns=(List.range p).filter (fun k:Nat=>uD rows (k:Int))/\∀n∈ns,n<p/\uD rows (n:Int)=true:=⟨_,rfl,fun n hn=>by
  obtain⟨a,b⟩:=List.mem_filter.mp hn;exact⟨List.mem_range.mp a,b⟩⟩
 rw[<- en] at h1;clear en;dsimp only[zS];refine zP (zw (i:=4) jn.nd rfl (Or.inl rfl) (cF cM hr (ac (pv 0) (ac (pv 2) zb)))) ?_;exists _,rfl,_,rfl,cc,p,rfl,by omega,fun mm m0 m1=>?_
 dsimp only[zS];refine zP (zE (zn z9 (zt yd (pv 4) zi) zi (zz _)) (zc (zu (zQ (ac zr zb)))) zA) ?_;exists _,rfl,_,_,rfl,rfl,zp4,rfl,_,rfl,?_;refine vW (fun _=>?_) (fun _=>?_)
 ·exists zav,fun u hu'=>?_
  exact q u .once _ (s1.trans (ze hu' _)) (s1.free hu') za trivial
 refine zP (zE (zn z9 (zt yd (pv 4) zi) zi (zz _)) (zc (zu (zQ (ac zr zb)))) zA) ?_;exists _,rfl,_,_,rfl,rfl,zp4,rfl,_,rfl,?_;refine vW (fun _=>?_) (fun _=>?_)
 ·exists zav,fun u hu'=>?_
  exact q u .anew _ (s1.trans (ze hu' _)) (s1.free hu') za trivial
 refine zP (zE (xi (y8 (zn z9 (zt yd (pv 4) zi) zi (zz _)) (yK (zn (zfr hr.units0) (pv 3) (yg zb) (zz _))))) yA zA) ?_;refine wq (fun σ' H'=>σ'=[some (.int cc),some (.ref la),some (.int (p:Nat)),some (.ref D),some (.int mm),none]/\zo H H') ?_ (fun key=>?_);rotate_left
 ·exists _,rfl,_,_,rfl,rfl,zp4,rfl,_,rfl,?_
  refine vW (fun _=>?_) (fun _=>?_);rotate_left
  ·exact key _ _ ⟨rfl,s1⟩
  exists _,rfl,wj,fun le hle=>?_;have s2:=ze hle (.lst []);have g2:upd H1 le (.lst []) le=some (.lst []):=za;have h2:=s2 _ _ h1;have s12:=s1.trans s2;generalize upd H1 le (.lst [])=H2 at s2 g2 h2 s12 |-;exists D,le,_,rfl,rfl,h2,g2,_,rfl,?_;by_cases hne:ns=[]
  ·subst hne
   refine yW rfl ?_;exact key _ _ ⟨rfl,s12⟩
  refine xE (by cases ns with|nil=>exact absurd rfl hne|cons _ _=>rfl) ?_
  have ln : 0<ns.length:=List.length_pos_iff.mpr hne;refine zP (zw (i:=5) jn.nd rfl (Or.inl rfl) (zy zL (pv 3) (zt yd (zt yu (pv 4) zi) (cB zK T.len PySem.boot_len (ac (pv 3) zb))) (fun _ _=>rfl))) ?_;have lz:(((ns.map fun n=>V.int (n:Nat)).length:Nat):Int)=(ns.length:Int):=by rw[length_map]
  obtain⟨v,hv,hat,_⟩:=zdz (xs:=ns.map fun n=>V.int (n:Nat)) (i:=mm / 4 % (((ns.map fun n=>V.int (n:Nat)).length:Nat):Int)) (emod_nonneg _ (by omega)) (emod_lt_of_pos _ (by omega))
  obtain⟨a,ha,rfl⟩:=List.mem_map.mp hv;obtain⟨a1,a2⟩:=hm a ha;exists _,rfl,_,rfl,_,_,rfl,rfl,⟨by decide,by decide⟩,_,rfl,D,_,rfl,.inl (zg h2),_,_,rfl,rfl,(by omega),D,_,_,_,rfl,rfl,zg h2,hat,?_
  dsimp only[zS];exists _,zc (zu (zQ (ac zr (ac (pv 5) (ac (zt uN (zt yd (zt yu (pv 4) zi) zi) zi) (ac (cF cT hr (ac (pv 0) zb)) zb)))))),?_;exists _,rfl,_,rfl,_,_,rfl,rfl,⟨by decide,by decide⟩,_,_,rfl,rfl,(by show(0:Int)<19;decide),_,_,rfl,rfl,_,rfl,cc,rfl,zkx,fun u hu'=>?_
  exact q u (.sum (a:Nat) (mm / 64 % 19 - 9) (yP cc)) _ (s12.trans (ze hu' _)) (s12.free hu') za ⟨by omega,by omega,a2,by omega,by omega⟩
 ·rintro σ H2 ⟨rfl,s2⟩
  exists _,zc (zu (zQ (ac zr (ac (cF cT hr (ac (zt yz (pv 0) (pv 2)) zb)) zb)))),?_;exists _,rfl,_,rfl,_,_,rfl,rfl,_,rfl,yN,fun u hu'=>?_;exact q u (.told (yP (cc+(p:Nat)))) _ (s2.trans (ze hu' _)) (s2.free hu') za trivial
theorem wI:zq ["_law_specs_here","_law_cell","_law_items_here","_law_p","_law_must","_law_many","_law_word_here"] ["_law_specs_here","_law_cell"] (zj zaz):=fsc
theorem zdY{g1:Addr}{d1:FuncData}(F:Fun K "_law_wanted" "_law_wanted" zaz f fd)(T:uh mg)(cT:zI P w K mg base 1 "_law_thing" g1 d1 ["_law_cell"] uj):zx P w K mg base CX0 2 f fd ["_law_specs_here","_law_cell"] (za9 K):=by
 refine F.ok wI (fun cdv A outer s H vs Q E hr h=>?_);obtain⟨la,cc,us,rows,rfl,hla,hu,V1,q⟩:=h;have l24:=V1.l24;have lu:us.length=rows.length:=hu.length;have row:∀{i:Nat},i<rows.length->∃u r,us[i]?=some u/\rows[i]?=some r/\TAt H u r/\r.ok:=fun {i} hi=>by
  have e:us[i]?=some us[i]:=getElem?_eq_getElem (by omega)
  obtain⟨r,hr',tr⟩:=zV hu e;exact⟨_,r,e,hr',tr,V1.ok r (mem_of_getElem? hr')⟩
 have uat:∀{i:Nat}{u:Addr},us[i]?=some u->atI (us.map V.ref) (i:Int)=some (.ref u):=fun e=>yO (by rw[getElem?_map,e];rfl)
 refine zP (zw (i:=2) wI.nd rfl (Or.inl rfl) (yg zb)) ?_;exists wj,fun lf hlf=>?_;dsimp only[zS]
 injections lf hlf H1 s1 g1
 refine zP (qO (i:=4) ["_law_specs_here"] ["_law_p","_law_specs_here"] [none,some 0] wI.nd rfl (Or.inl rfl) rfl ⟨rfl,rfl,rfl,rfl⟩ (yG rfl T.range (ac (cB zK T.len PySem.boot_len (ac (pv 0) zb)) zb)) (z7 0) rfl rfl rfl
   (fun pins fp s H C=>⟨zp (i:=0) zkY rfl (Or.inl rfl) (.inr rfl),xM (xi (y8 (zn z9 (zy (r:=zdP K) zJ (zy (r:=jR K) zL (pv 1) (pv 0) (fun _ _=>rfl)) zi (fun _ _=>rfl)) zr (zz _)) (yK (vc (yp (zy (r:=zdP K) zJ (zy (r:=jR K) zL (pv 1) (pv 0) (fun _ _=>rfl)) zi (fun _ _=>rfl))))))),zt yz (pv 0) zi⟩)) ?_
 exists _,rfl,la,_,rfl,.inl (zg (s1 _ _ hla)),(((us.map V.ref).length:Nat):Int),rfl,by omega,(by rw[length_map];omega),fun D hD=>?_
 rw[show(((us.map V.ref).length:Nat):Int).toNat=rows.length by rw[length_map];omega]
 refine zaP (n:=rows.length) (fun i=>match rows[i]? with|some r=>r.k==0&&!r.b|none=>false) (fun n=>.int ((n:Int)+1)) hD (by omega) (fun i H' N S hi sH n1 k1=>?_) (fun H2 s2 h2=>?_)
 ·rw[Int.zero_add]
  obtain⟨u,r,eu,er,tr,rk⟩:=row hi;have sH:=s1.trans sH;exists _,rfl,_,rfl,la,_,_,.ref u,rfl,rfl,zg (sH _ _ hla),uat eu,u,_,0,_,rfl,rfl,zv (sH _ _ tr),jo rk,rfl,_,rfl,?_;have ek:decide (V.str (kw r.k)=V.str "seat")=(r.k==0):=by
   rcases lt5 rk.1 with e|e|e|e|e <;> rw[e] <;> decide +kernel
  rw[er] at n1 k1;cases h0:r.k==0 with
  | false=>
   refine yW (ek.trans h0) ?_;exact⟨fun e=>Bool.noConfusion e,fun _=>k1 _ (zo.refl _) (by show(r.k==0&&_)=false;rw[h0];rfl)⟩
  | true=>
   refine xE (ek.trans h0) ?_;have ho:xt r.k=true:=by rw[beq_iff_eq.mp h0];rfl
   exists _,rfl,_,rfl,la,_,_,.ref u,rfl,rfl,zg (sH _ _ hla),uat eu,u,_,2,_,rfl,rfl,zv (sH _ _ tr),zaI ho,_,rfl,?_;exact⟨fun e=>⟨_,rfl,_,_,rfl,rfl,n1 _ (zo.refl _) (by show(r.k==0&&!r.b)=true;rw[h0,e];rfl)⟩,fun e=>k1 _ (zo.refl _) (by show(r.k==0&&!r.b)=false;rw[h0,e];rfl)⟩
 have s02:=s1.trans s2;have g2:=s2 _ _ g1;dsimp only[zS];obtain⟨ms,em⟩:∃ms:List Int,((List.range rows.length).filter (fun i=>match rows[i]? with|some r=>r.k==0&&!r.b|none=>false)).map (fun n:Nat=>V.int ((n:Int)+1))=ms.map V.int:=⟨((List.range rows.length).filter (fun i=>match rows[i]? with|some r=>r.k==0&&!r.b|none=>false)).map (fun n:Nat=>(n:Int)+1),by rw[map_map];rfl⟩
 have lms:ms.length<=24:=by
  have:=congrArg List.length em
  rw[length_map,length_map] at this
  have:=length_filter_le (fun i=>match rows[i]? with|some r=>r.k==0&&!r.b|none=>false) (List.range rows.length)
  rw[length_range] at this;omega
 rw[em] at h2;clear em;refine zP (zw (i:=5) wI.nd rfl (Or.inl rfl) (cB (zel rfl) T.max boot_max (ac (zt xI (pv 4) (yg (ac (zt yd (pv 1) (zt yz (cB zK T.len PySem.boot_len (ac (pv 0) zb)) zi)) zb))) zb))) ?_;exists _,rfl,_,rfl,_,rfl,la,_,rfl,.inl (zg (s02 _ _ hla)),_,_,rfl,rfl,_,_,rfl,rfl,(by omega),zav,fun l1 hl1=>?_
 generalize cc % _=mm at hl1 |-;have s3:=ze hl1 (.lst [.int mm]);exists D,l1,_,_,rfl,rfl,s3 _ _ h2,za,yj (by rw[length_map];show _+1<=1000;omega),fun l2 hl2=>?_
 have s4:=ze hl2 (.lst (ms.map V.int++[.int mm]));exists l2,ms++[mm],rfl,zg (by rw[za,map_append];rfl),by simp,fun many _=>?_
 have s24:=s3.trans s4;have s04:=s02.trans s24;have g4:=s24 _ _ g2;generalize upd (upd H2 l1 (.lst [.int mm])) l2 (.lst (ms.map V.int++[.int mm]))=H4 at s04 g4 |-;clear s24 s4 s3 h2 s2 hD;dsimp only[zS];refine zP (yD PassesOwn.never rfl (yG rfl T.range (ac (cB zK T.len PySem.boot_len (ac (pv 0) zb)) zb)) (zp (i:=3) wI.nd rfl (Or.inl rfl)) yA) ?_;exists _,rfl,la,_,rfl,.inl (zg (s04 _ _ hla)),(((us.map V.ref).length:Nat):Int),rfl,by omega,(by rw[length_map];omega),?_
 rw[show(((us.map V.ref).length:Nat):Int).toNat=rows.length by rw[length_map];omega]
 refine wT (n:=rows.length) (fun i σ H'=>∃(v3 v6:Option V) (xs:List V) (ct:List xp),σ=[some (.ref la),some (.int cc),some (.ref lf),v3,some (.ref D),some (.int many),v6]/\zo H H'/\H' lf=some (.lst xs)/\Paired (zD K (fun a=>a≠lf) H' 3) xs (ct.map xu)/\(∀it∈ct,ItS it)/\ct.length<=i) ⟨_,_,[],[],rfl,s04,g4,.nil,(fun _ h=>nomatch h),le_refl _⟩ ?_ ?_
 ·rintro i σ H5 hi ⟨v3,v6,xs,ct,rfl,s5,g5,p5,hs5,lc⟩
  rw[Int.zero_add];obtain⟨u,r,eu,er,tr,rk⟩:=row hi;have lx:xs.length=ct.length:=by rw[p5.length,length_map]
  dsimp only[zS];refine zP (zw (i:=6) wI.nd rfl (Or.inl rfl) (zy zJ (zy zL (pv 0) (pv 3) (fun _ _=>rfl)) zi (fun _ _=>rfl))) ?_;exists _,rfl,_,rfl,la,_,_,.ref u,rfl,rfl,zg (s5 _ _ hla),uat eu,u,_,0,_,rfl,rfl,zv (s5 _ _ tr),jo rk,?_;dsimp only[zS];exists _,zc (zE (xi (y8 (zn y0 (pv 6) (zQ (ac zr (ac zr zb))) (by with_unfolding_all rfl)) (yK (zn vy (pv 3) (pv 5) (zz _))))) yA yA),?_
  have put:∀(t:Addr) (it:xp) (H7:Hp) (v6:Option V),zo H5 H7->zD K (fun a=>a≠lf) H7 3 (.ref t) (xu it)->ItS it->∃(v3' v6':Option V) (xs':List V) (ct':List xp),([some (.ref la),some (.int cc),some (.ref lf),some (.int (i:Int)),some (.ref D),some (.int many),v6]:L2.St)=[some (.ref la),some (.int cc),some (.ref lf),v3',some (.ref D),some (.int many),v6']/\zo H (upd H7 lf (.lst (xs++[.ref t])))/\upd H7 lf (.lst (xs++[.ref t])) lf=some (.lst xs')/\Paired (zD K (fun a=>a≠lf) (upd H7 lf (.lst (xs++[.ref t]))) 3) xs' (ct'.map xu)/\(∀it∈ct',ItS it)/\ct'.length<=i+1:=fun t it H7 v6 s7 hsay hit=>by
   refine⟨_,_,xs++[.ref t],ct++[it],rfl,yJ (s5.trans s7) hlf _,za,?_,fun x hx=>?_,by rw[length_append];exact Nat.succ_le_succ lc⟩
   ·rw[map_append]
    exact ya (zm (fun _ _ z=>yZ (s7 _ _ g5) (fun b o=>⟨o,o⟩) (z.same s7)) p5) (.cons (yZ (s7 _ _ g5) (fun b o=>⟨o,o⟩) hsay) .nil)
   ·rcases List.mem_append.mp hx with hx|hx
    ·exact hs5 x hx
    ·rw[List.mem_singleton.mp hx];exact hit
  have lx1:xs.length<sizeLine:=zC (by omega)
  refine zjY (fun H'=>zo H5 H') (fun H6 s6=>?_) (fun key=>?_)
  ·exists _,zc (zE (xi (y8 (zn y0 (pv 6) (zQ (ac zr (ac zr zb))) (by with_unfolding_all rfl)) (yK (xi (jS (vc (yp (zy zJ (zy zL (pv 0) (pv 3) (fun _ _=>rfl)) zi (fun _ _=>rfl)))) (uK (zn z9 (zt yd (zt yu (pv 1) zi) zi) zi (zz _)))))))) yA zA),?_
   exists _,rfl,yN,fun l hl=>?_;have s7:=s6.trans (ze hl (.tup [.str "both",.str "tag"]));exists l,_,rfl,.inr (zv za),rfl,rfl,_,rfl,?_;rw[if_neg zft,zlh _ rk.1];generalize upd H6 l (.tup [.str "both",.str "tag"])=H7 at s7 |-;have stay:∃(v3' v6':Option V) (xs':List V) (ct':List xp),([some (.ref la),some (.int cc),some (.ref lf),some (.int (i:Int)),some (.ref D),some (.int many),some (.str (kw r.k))]:L2.St)=[some (.ref la),some (.int cc),some (.ref lf),v3',some (.ref D),some (.int many),v6']/\zo H H7/\H7 lf=some (.lst xs')/\Paired (zD K (fun a=>a≠lf) H7 3) xs' (ct'.map xu)/\(∀it∈ct',ItS it)/\ct'.length<=i+1:=
    ⟨_,_,xs,ct,rfl,s5.trans s7,s7 _ _ g5,zm (fun _ _ z=>z.same s7) p5,hs5,le_succ_of_le lc⟩
   cases hb:xx r.k with
   | false=>
    refine yo ?_;exact stay
   | true=>
    refine vm ?_;have ho:xt r.k=true:=by
     unfold xx at hb;simp only[Bool.or_eq_true,beq_iff_eq] at hb;rcases hb with e|e <;> rw[e] <;> rfl
    have sH:=s5.trans s7;exists _,rfl,_,rfl,la,_,_,.ref u,rfl,rfl,zg (sH _ _ hla),uat eu,u,_,2,_,rfl,rfl,zv (sH _ _ tr),zaI ho,_,rfl,?_;cases r.b
    case' false=>refine vm (vm ?_)
    case' true=>
     refine yo ?_;exists _,rfl,_,_,rfl,rfl,⟨by decide,by decide⟩,_,_,rfl,rfl,zp2,rfl,_,rfl,?_
     refine vW (fun _=>?_) (fun _=>stay)
    all_goals
     exists _,zc (zG (yv PySem.F.plainAttrs_list PySem.F.slot_list_append PySem.F.type_list_append zH (pv 2) (ac (zQ (ac zr (ac (zy zJ (zy zL (pv 0) (pv 3) (fun _ _=>rfl)) zi (fun _ _=>rfl)) (ac (cF cT hr (ac (zt uN (zt yu (pv 1) zi) (pv 3)) zb)) zb)))) zb))),?_;exists _,rfl,.inl ⟨rfl,_,zg (s7 _ _ g5)⟩,_,rfl,_,rfl,la,_,_,.ref u,rfl,rfl,zg (sH _ _ hla),uat eu,u,_,1,_,rfl,rfl,zv (sH _ _ tr),zc7 rk,_,rfl,_,_,rfl,rfl,⟨by decide,by decide⟩,_,rfl,_,_,rfl,rfl,_,rfl,vq,fun t ht=>?_
     have s8:=ze ht (.tup [.str "named",.str r.z,.int (yP (cc / 3 - (i:Nat)))]);exact⟨lf,_,_,rfl,rfl,s8 _ _ (s7 _ _ g5),lx1,put t (.named r.z (yP (cc / 3 - (i:Nat)))) _ _ (s7.trans s8) (zD.tup (zv za) (.cons .str (.cons .str (.cons .int .nil)))) ⟨zero_le _,by show 1<=4;decide⟩⟩
  exists _,rfl,yN,fun l hl=>?_;have s6:=ze hl (.tup [.str "seat",.str "both"]);exists l,_,rfl,.inr (zv za),rfl,rfl,_,rfl,?_;rw[if_neg zft,zlg _ rk.1];generalize upd H5 l (.tup [.str "seat",.str "both"])=H6 at s6 |-;cases hb:qp r.k with
  | false=>
   refine yo ?_;exact key _ s6
  | true=>
   refine vm ?_;exists _,rfl,_,rfl,_,_,rfl,rfl,_,rfl,?_;by_cases hm:(i:Int)<many
   rotate_left
   ·refine dF hm ?_
    exact key _ s6
   refine dT hm ?_;exists _,zc (zG (yv PySem.F.plainAttrs_list PySem.F.slot_list_append PySem.F.type_list_append zH (pv 2) (ac (zQ (ac zr (ac (cF cT hr (ac (zt yz (zt yu (pv 1) zi) (pv 3)) zb)) zb))) zb))),?_;exists _,rfl,.inl ⟨rfl,_,zg (s6 _ _ g5)⟩,_,rfl,_,_,rfl,rfl,⟨by decide,by decide⟩,_,rfl,_,_,rfl,rfl,_,rfl,yN,fun t ht=>?_
   have s8:=ze ht (.tup [.str "one",.int (yP (cc / 5+(i:Nat)))]);exact⟨lf,_,_,rfl,rfl,s8 _ _ (s6 _ _ g5),lx1,put t (.one (yP (cc / 5+(i:Nat)))) _ _ (s6.trans s8) (zD.tup (zv za) (.cons .str (.cons .int .nil))) ⟨by show 1<=4;decide,zero_le _⟩⟩
 ·rintro σ H5 ⟨v3,v6,xs,ct,rfl,s5,g5,p5,hs5,lc⟩
  exact⟨_,zc (zu (pv 2)),_,rfl,q lf xs ct H5 s5 hlf g5 p5 hs5 (by omega)⟩
def RAt(H:Hp)(u:Addr)(d:Df):Prop:=H u=some (.tup d.row)
theorem uJ{H H':Hp}{us:List Addr}{ds:List Df}(s:zo H H')(h:Paired (RAt H) us ds):Paired (RAt H') us ds:=zm (fun _ _ z=>s _ _ z) h
inductive zeE(K:Frag)(vs:List V)(H:Hp)(Q:VK)(E:XK):Prop|mk(le lt lp D:Addr)(n:Int)(rows:List Rw)(bars:List Str)(us:List Addr)(ds:List Df)(ct:List xp)(xs ys:List V):vs=[.ref le,.ref lt,.ref lp,.ref D,.int n]->VR rows->wP rows bars ct=[]->(zR ct).length<=900->(yn ct).length<=900->H le=some (.lst xs)->Paired (zD K T' H 2) xs (zcr rows (zR ct).length (zF ct))->H lt=some (.lst ((zR ct).map V.int))->H lp=some (.lst ys)->Paired (zD K T' H 1) ys ((yn ct).map yy)->H D=some (.dK (xa (z6 rows) us))->Paired (RAt H) us ds->Paired (jf rows) (z6 rows) ds->(∀d∈ds,d.k≠1)->(∀(t g:Addr) (H':Hp),zo H H'->H' t=some (.tup [.ref g,.int (yr rows ds ct n rows.length).2])->zD K (fun b=>H b=none) H' 3 (.ref g) (.lst (yr rows ds ct n rows.length).1)->Q (.ref t) H')->zeE K vs H Q E
theorem zl5:([Str.ofString "_law_i",Str.ofString "_law_things"]:List Str).Nodup:=by decide +kernel
theorem zl4:([Str.ofString "_law_j",Str.ofString "_law_pairs"]:List Str).Nodup:=by decide +kernel
theorem wz:zq ["_law_entries","_law_things","_law_pairs","_law_told","_law_drawn_here","_law_values_here","_law_coming","_law_p","_law_entry","_law_word_here","_law_at","_law_times","_law_plus"] ["_law_entries","_law_things","_law_pairs","_law_told","_law_drawn_here"] (zj zaB):=fsc
theorem zhr(F:Fun K "_law_values" "_law_values" zaB f fd)(T:uh mg):zx P w K mg base CX0 1 f fd ["_law_entries","_law_things","_law_pairs","_law_told","_law_drawn_here"] (zeE K):=by
 refine F.ok wz (fun cdv A outer s H vs Q E hr h=>?_);obtain⟨le,lt,lp,D,n,rows,bars,us,ds,ct,xs,ys,rfl,V1,em,ct1,ct2,hle,hxs,hlt,hlp,hys,hD,pd,gd,no,q⟩:=h;have hu:=uu hr;have l24:=V1.l24;have hxl:xs.length=rows.length:=by rw[hxs.length];unfold zcr;rw[length_map,length_range]
 have lnm:(zF ct).length=(yn ct).length:=by unfold zF;rw[length_map]
 refine zP (zw (i:=5) wz.nd rfl (Or.inl rfl) (yg zb)) ?_;exists wj,fun g hg=>?_;dsimp only[zS]
 injections g hg H1 s1 g1
 refine zP (zw (i:=6) wz.nd rfl (Or.inl rfl) (pv 4)) ?_;exists _,rfl,?_;dsimp only[zS];refine zP (yD PassesOwn.never rfl (yG rfl T.range (ac (cB zK T.len PySem.boot_len (ac (pv 0) zb)) zb)) (zp (i:=7) wz.nd rfl (Or.inl rfl)) yA) ?_;exists _,rfl,le,_,rfl,.inl (zg (s1 _ _ hle)),((xs.length:Nat):Int),rfl,by omega,(by omega),?_
 rw[show((xs.length:Nat):Int).toNat=rows.length by omega]
 refine wT (n:=rows.length) (fun i σ H'=>∃(v7 v8 v9 v10 v11 v12:Option V) (vs:List V),σ=[some (.ref le),some (.ref lt),some (.ref lp),some (.ref D),some (.int n),some (.ref g),some (.int (yr rows ds ct n i).2),v7,v8,v9,v10,v11,v12]/\zo H H'/\H' g=some (.lst vs)/\Paired (zD K (fun b=>b≠g/\H b=none) H' 2) vs (yr rows ds ct n i).1) ⟨_,_,_,_,_,_,[],rfl,s1,g1,.nil⟩ ?_ ?_
 ·rintro i σ H2 hi ⟨v7,v8,v9,v10,v11,v12,vs,rfl,s2,g2,p2⟩
  rw[Int.zero_add];have lvs:vs.length=i:=by rw[p2.length];exact wG i
  have hx:xs[i]?=some xs[i]:=getElem?_eq_getElem (by omega)
  obtain⟨d,hd,hs⟩:=Paired.get hxs hx;have hd':d=.tup (enE rows (zR ct).length (fpZ (zF ct)) i).row:=by
   unfold zcr at hd;rw[getElem?_map,getElem?_range hi] at hd;rw[<- ziy hi];exact(Option.some.inj hd).symm
  have eok:=zix (rows:=rows) (i:=i) ct1 (show(zF ct).length<=900 by omega)
  rw[lnm] at eok;rw[hd'] at hs;have hstep:yr rows ds ct n (i+1)=uZ (zR ct) (yn ct) (dfF (z6 rows) ds i) (yr rows ds ct n i) (enE rows (zR ct).length (fpZ (zF ct)) i):=rfl;have hent:zeo K H2 xs[i] (enE rows (zR ct).length (fpZ (zF ct)) i):=hs.same s2;have hfree:enE rows (zR ct).length (fpZ (zF ct)) i=.free->i∈z6 rows:=fun e=>zdr V1 (List.append_eq_nil_iff.mp (show u9 rows bars (zR ct).length (zF ct)=[] from em)).2 hi e;generalize enE rows (zR ct).length (fpZ (zF ct)) i=e at hstep hent eok hfree;obtain⟨u,zs,ex,hS,hz⟩:=yV hent;have hle2:=s2 _ _ hle;have hlt2:=s2 _ _ hlt;have hlp2:=s2 _ _ hlp;dsimp only[zS];refine zP (zw (i:=8) wz.nd rfl (Or.inl rfl) (zy zL (pv 0) (pv 7) (fun _ _=>rfl))) ?_;exists _,rfl,_,rfl,le,_,_,_,rfl,rfl,zg hle2,yO hx,?_;rw[ex];dsimp only[zS];have put:∀(v:V) (dt:Dt) (H7:Hp) (m:Int) (v9 v10 v11 v12:Option V),zo H2 H7->zD K (fun b=>b≠g/\H b=none) H7 2 v dt->(yr rows ds ct n (i+1)).1=(yr rows ds ct n i).1++[dt]->(yr rows ds ct n (i+1)).2=m->
    ∃(w7 w8 w9 w10 w11 w12:Option V) (vs':List V),([some (.ref le),some (.ref lt),some (.ref lp),some (.ref D),some (.int n),some (.ref g),some (.int m),some (.int (i:Int)),some (.ref u),v9,v10,v11,v12]:L2.St)=[some (.ref le),some (.ref lt),some (.ref lp),some (.ref D),some (.int n),some (.ref g),some (.int (yr rows ds ct n (i+1)).2),w7,w8,w9,w10,w11,w12]/\zo H (upd H7 g (.lst (vs++[v])))/\upd H7 g (.lst (vs++[v])) g=some (.lst vs')/\Paired (zD K (fun b=>b≠g/\H b=none) (upd H7 g (.lst (vs++[v]))) 2) vs' (yr rows ds ct n (i+1)).1:=fun v dt H7 m v9 v10 v11 v12 s7 hv e1 e2=>by
   exists _,_,_,_,_,_,vs++[v],by rw[e2],yJ (s2.trans s7) hg _,za,?_
   rw[e1];exact ya (zm (fun _ _ z=>yZ (s7 _ _ g2) (fun b o=>⟨o,o.1⟩) (z.same s7)) p2) (.cons (yZ (s7 _ _ g2) (fun b o=>⟨o,o.1⟩) hv) .nil)
  have lv:vs.length<sizeLine:=zC (by omega)
  have out:∀{H7:Hp}{v:V}{dt:Dt},zD K (fun b=>H2 b=none) H7 2 v dt->zD K (fun b=>b≠g/\H b=none) H7 2 v dt:=fun {H7 v dt} h=>xk (fun b o _=>⟨(fun e=>by rw[e,g2] at o;cases o),s2.free o⟩) h
  refine⟨_,zc (zE (zn z9 (zy zJ (pv 8) zi (fun _ _=>rfl)) zr (zz _)) (zc (zG (yv PySem.F.plainAttrs_list PySem.F.slot_list_append PySem.F.type_list_append zH (pv 5) (ac (zy zL (pv 1) (zy zJ (pv 8) zi (fun _ _=>rfl)) (fun _ _=>rfl)) zb))))
   (zc (zE (zn z9 (zy zJ (pv 8) zi (fun _ _=>rfl)) zr (zz _)) (zc (zG (yv PySem.F.plainAttrs_list PySem.F.slot_list_append PySem.F.type_list_append zH (pv 5) (ac (zy zJ (zy zL (pv 2) (zy zJ (pv 8) zi (fun _ _=>rfl)) (fun _ _=>rfl)) zi (fun _ _=>rfl)) zb))))
   (zc (zE (zn z9 (zy zJ (pv 8) zi (fun _ _=>rfl)) zr (zz _)) (zc (zG (yv PySem.F.plainAttrs_list PySem.F.slot_list_append PySem.F.type_list_append zH (pv 5) (ac (xO ["_law_things"] ["_law_i","_law_things"] [none,some 1] rfl ⟨rfl,rfl,rfl,rfl⟩ (yt (zy zJ (pv 8) zi (fun _ _=>rfl))) (z7 0) rfl rfl rfl
    (fun pins fp s H C=>⟨zp (i:=0) zl5 rfl (Or.inl rfl) (.inr rfl),y7,zy (r:=jR K) zL (pv 1) (pv 0) (fun _ _=>rfl)⟩)) zb))))
   (zc (zE (zn z9 (zy zJ (pv 8) zi (fun _ _=>rfl)) zr (zz _)) (zc (zG (yv PySem.F.plainAttrs_list PySem.F.slot_list_append PySem.F.type_list_append zH (pv 5) (ac (xO ["_law_pairs"] ["_law_j","_law_pairs"] [none,some 2] rfl ⟨rfl,rfl,rfl,rfl⟩ (yt (zy zJ (pv 8) zi (fun _ _=>rfl))) (z7 0) rfl rfl rfl
    (fun pins fp s H C=>⟨zp (i:=0) zl4 rfl (Or.inl rfl) (.inr rfl),y7,zy (r:=jR K) zL (pv 1) (pv 0) (fun _ _=>rfl)⟩)) zb)))) yA))))))),?_⟩
  cases e with
  | place k=>
   cases hz with|cons h1 t=>cases t with|cons h2 t=>
   cases t;obtain rfl:=xr h2;cases z3 h1;exists _,rfl,u,_,0,_,rfl,rfl,hS,rfl,rfl,_,rfl,?_;refine dT rfl ?_;exact⟨_,rfl,.inl ⟨rfl,_,zg g2⟩,_,rfl,_,rfl,u,_,1,_,rfl,rfl,hS,rfl,lt,_,_,_,rfl,rfl,zg hlt2,qg eok,g,_,_,rfl,rfl,g2,lv,put _ _ H2 _ _ _ _ _ (zo.refl _) .int (by rw[hstep];rfl) (by rw[hstep];rfl)⟩
  | name k=>
   cases hz with|cons h1 t=>cases t with|cons h2 t=>
   cases t;obtain rfl:=xr h2;cases z3 h1;obtain⟨b,hb,tb⟩:=uM hys eok;exists _,rfl,u,_,0,_,rfl,rfl,hS,rfl,rfl,_,rfl,?_;refine dF zis ?_;exists _,rfl,u,_,0,_,rfl,rfl,hS,rfl,rfl,_,rfl,?_;refine dT rfl ?_;exact⟨_,rfl,.inl ⟨rfl,_,zg g2⟩,_,rfl,_,rfl,u,_,1,_,rfl,rfl,hS,rfl,lp,_,_,_,rfl,rfl,zg hlp2,hb,b,_,1,_,rfl,rfl,s2.sqT tb,rfl,g,_,_,rfl,rfl,g2,lv,put _ _ H2 _ _ _ _ _ (zo.refl _) .int (by rw[hstep];rfl) (by rw[hstep];rfl)⟩
  | places ks=>
   cases hz with|cons h1 t=>cases t with|cons h2 t=>
   cases t;obtain⟨la,ws,rfl,_,hla,hy⟩:=wk h2;obtain rfl:=wb hy;cases z3 h1;exists _,rfl,u,_,0,_,rfl,rfl,hS,rfl,rfl,_,rfl,?_;refine dF zf3 ?_;exists _,rfl,u,_,0,_,rfl,rfl,hS,rfl,rfl,_,rfl,?_;refine dF zf4 ?_;exists _,rfl,u,_,0,_,rfl,rfl,hS,rfl,rfl,_,rfl,?_;refine dT rfl ?_;exists _,rfl,.inl ⟨rfl,_,zg g2⟩,_,rfl,u,_,1,_,rfl,rfl,hS,rfl,la,rfl,⟨_,zg hla⟩,fun D2 hD2=>zgb rfl hD2 hla hlt2 eok.1 eok.2 fun H7 s7 hv=>?_;exact⟨g,_,_,rfl,rfl,s7 _ _ g2,lv,put _ _ H7 _ _ _ _ _ s7 (out hv) (by rw[hstep];rfl) (by rw[hstep];rfl)⟩
  | names ks=>
   cases hz with|cons h1 t=>cases t with|cons h2 t=>
   cases t;obtain⟨la,ws,rfl,_,hla,hy⟩:=wk h2;obtain rfl:=wb hy;cases z3 h1;exists _,rfl,u,_,0,_,rfl,rfl,hS,rfl,rfl,_,rfl,?_;refine dF zf5 ?_;exists _,rfl,u,_,0,_,rfl,rfl,hS,rfl,rfl,_,rfl,?_;refine dF zf6 ?_;exists _,rfl,u,_,0,_,rfl,rfl,hS,rfl,rfl,_,rfl,?_;refine dF zdi ?_;exists _,rfl,u,_,0,_,rfl,rfl,hS,rfl,rfl,_,rfl,?_;refine dT rfl ?_;exists _,rfl,.inl ⟨rfl,_,zg g2⟩,_,rfl,u,_,1,_,rfl,rfl,hS,rfl,la,rfl,⟨_,zg hla⟩,fun D2 hD2=>zgd rfl hD2 hla hlp2 (yS s2 hys) eok.1 eok.2 fun H7 s7 hv=>?_;exact⟨g,_,_,rfl,rfl,s7 _ _ g2,lv,put _ _ H7 _ _ _ _ _ s7 (out hv) (by rw[hstep];rfl) (by rw[hstep];rfl)⟩
  | free=>
   cases hz with|cons h1 t=>
   cases t;cases z3 h1;exists _,rfl,u,_,0,_,rfl,rfl,hS,rfl,rfl,_,rfl,?_;refine dF zkW ?_;exists _,rfl,u,_,0,_,rfl,rfl,hS,rfl,rfl,_,rfl,?_;refine dF zkV ?_;exists _,rfl,u,_,0,_,rfl,rfl,hS,rfl,rfl,_,rfl,?_;refine dF zkU ?_;exists _,rfl,u,_,0,_,rfl,rfl,hS,rfl,rfl,_,rfl,?_;refine dF zkT ?_;obtain⟨k,hk⟩:=List.getElem?_of_mem (hfree rfl);obtain⟨d,hd,gdd⟩:=zV gd hk;have edf:=zcI (xw rows) hk hd;have nd1:=no d (mem_of_getElem? hd);rw[edf] at hstep;obtain⟨ut,hut,rt⟩:∃ut,us[k]?=some ut/\RAt H ut d:=by
    have hl:us.length=ds.length:=pd.length;have hkl:k<ds.length:=(List.getElem?_eq_some_iff.mp hd).1;have e:us[k]?=some us[k]:=getElem?_eq_getElem (by omega)
    obtain⟨d',e1,e2⟩:=zV pd e;rw[hd] at e1;cases e1;exact⟨_,e,e2⟩
   have hget:vh H2 D (.int (i:Int)) (some (.ref ut)):=by
    have:=vh.k (k:=Sum.inl (i:Int)) (s2 _ _ hD)
    rw[wO (xw rows) hk hut] at this;exact this
   have hSt:SqT K H2 ut d.row:=zv (s2 _ _ rt);refine⟨_,zc (zE (zn z9 (zy zJ (xW hu (pv 3) (pv 7) (fun _ _=>rfl)) zi (fun _ _=>rfl)) zr (zz _)) (zc (zG (yv PySem.F.plainAttrs_list PySem.F.slot_list_append PySem.F.type_list_append zH (pv 5) (ac (zy zJ (xW hu (pv 3) (pv 7) (fun _ _=>rfl)) zi (fun _ _=>rfl)) zb))))
    (zc (zE (zn z9 (zy zJ (xW hu (pv 3) (pv 7) (fun _ _=>rfl)) zi (fun _ _=>rfl)) zr (zz _)) (zh (zG (yv PySem.F.plainAttrs_list PySem.F.slot_list_append PySem.F.type_list_append zH (pv 5) (ac (pv 6) zb))) (zc (zw (i:=6) wz.nd rfl (Or.inl rfl) (zt yz (pv 6) zi)))) yA))),?_⟩
   cases d with
   | told m=>
    exists _,rfl,_,rfl,D,_,rfl,hget,ut,_,0,_,rfl,rfl,hSt,rfl,rfl,_,rfl,?_;refine dT rfl ?_;exact⟨_,rfl,.inl ⟨rfl,_,zg g2⟩,_,rfl,_,rfl,D,_,rfl,hget,ut,_,1,_,rfl,rfl,hSt,rfl,g,_,_,rfl,rfl,g2,lv,put _ _ H2 _ _ _ _ _ (zo.refl _) .int (by rw[hstep];rfl) (by rw[hstep];rfl)⟩
   | once=>exact absurd rfl nd1
   | anew=>
    exists _,rfl,_,rfl,D,_,rfl,hget,ut,_,0,_,rfl,rfl,hSt,rfl,rfl,_,rfl,?_;refine dF zld ?_;exists _,rfl,_,rfl,D,_,rfl,hget,ut,_,0,_,rfl,rfl,hSt,rfl,rfl,_,rfl,?_;refine dT rfl ?_;exact⟨_,rfl,.inl ⟨rfl,_,zg g2⟩,_,rfl,g,_,_,rfl,rfl,g2,lv,_,rfl,_,_,rfl,rfl,put _ _ H2 _ _ _ _ _ (zo.refl _) .int (by rw[hstep];rfl) (by rw[hstep];rfl)⟩
   | sum a t pl=>
    obtain⟨h0,h3,hs,t0,t1⟩:=gdd;obtain⟨b,rfl⟩:=eq_ofNat_of_zero_le h0
    have:∃r,rows[b]?=some r/\xt r.k=true:=by
     unfold uD at hs;rw[if_pos (Int.natCast_nonneg b),toNat_natCast] at hs;cases e:rows[b]? with
     | none=>rw[e] at hs;cases hs
     | some r=>rw[e] at hs;exact⟨r,rfl,hs⟩
    obtain⟨r,hr',ho⟩:=this;obtain⟨x,hx0⟩:=jw (ts:=zR ct) (ps:=yn ct) (df:=dfF (z6 rows) ds) (n:=n) (show b<i by omega) (zae (many:=(zR ct).length) (fp:=fpZ (zF ct)) hr' ho)
    have hx:(yr rows ds ct n i).1[b]?=some (.int x):=hx0;have hbl:b<vs.length:=by rw[lvs];omega
    have e0:vs[b]?=some vs[b]:=getElem?_eq_getElem hbl;obtain⟨d2,e1,e2⟩:=Paired.get p2 e0;rw[hx] at e1;cases e1;have e3:=xr e2;rw[e3] at e0;have el:jb (yr rows ds ct n i).1 (yr rows ds ct n i).2 (.sum (b:Int) t pl)=(t * x+pl,(yr rows ds ct n i).2):=by
     show(t * zjV (yr rows ds ct n i).1[(b:Int).toNat]?+pl,_)=_;rw[toNat_natCast,hx];rfl
    exists _,rfl,_,rfl,D,_,rfl,hget,ut,_,0,_,rfl,rfl,hSt,rfl,rfl,_,rfl,?_;refine dF zlb ?_;exists _,rfl,_,rfl,D,_,rfl,hget,ut,_,0,_,rfl,rfl,hSt,rfl,rfl,_,rfl,?_;refine dF zk9 ?_;refine zP (vd (xW hu (pv 3) (pv 7) (fun _ _=>rfl)) (yE rfl (zB (zp (i:=9) wz.nd rfl (Or.inl rfl)) (zB (zp (i:=10) wz.nd rfl (Or.inl rfl)) (zB (zp (i:=11) wz.nd rfl (Or.inl rfl)) (zB (zp (i:=12) wz.nd rfl (Or.inl rfl)) yk)))))) ?_;exists _,rfl,_,rfl,D,_,rfl,hget,ut,_,rfl,hSt,rfl,_,_,rfl,_,_,rfl,_,_,rfl,_,_,rfl,rfl,?_;dsimp only[zS];exists _,zc (zG (yv PySem.F.plainAttrs_list PySem.F.slot_list_append PySem.F.type_list_append zH (pv 5) (ac (zt yz (zt xB (pv 11) (zy zL (pv 5) (pv 10) (fun _ _=>rfl))) (pv 12)) zb))),?_;exact⟨_,rfl,.inl ⟨rfl,_,zg g2⟩,_,rfl,_,rfl,_,rfl,g,_,_,_,rfl,rfl,zg g2,yO e0,t,x,rfl,rfl,.inl ⟨by omega,by omega⟩,_,rfl,_,_,rfl,rfl,g,_,_,rfl,rfl,g2,lv,put _ _ H2 _ _ _ _ _ (zo.refl _) .int (by rw[hstep];show(_++[Dt.int (jb _ _ _).1])=_;rw[el]) (by rw[hstep];show(jb _ _ _).2=_;rw[el])⟩
 ·rintro σ H2 ⟨v7,v8,v9,v10,v11,v12,vs,rfl,s2,g2,p2⟩
  exists _,zc (zu (zQ (ac (pv 5) (ac (pv 6) zb)))),_,rfl,_,rfl,yN,fun t ht=>?_;have s3:=ze ht (.tup [.ref g,.int (yr rows ds ct n rows.length).2]);exact q t g _ (s2.trans s3) za (zD.lst hg (s3 _ _ g2) (zm (fun _ _ z=>(xk (fun b o _=>o.2) z).same s3) p2))
theorem zbG(ns:List Int)(a b:Nat):∃ms:List Int,zaZ (ns.map V.int) (some (a:Int)) (some (b:Int))=ms.map V.int/\ms.length<=b - a:=by
 exists (ns.drop (min a ns.length)).take (min b ns.length - min a ns.length),?_,?_
 ·unfold zaZ
  rw[HT.zlz,HT.zlz,length_map,map_take,List.map_drop]
 ·rw[length_take,List.length_drop]
  omega
theorem zbr:∀{ns:List Nat}{us:List Addr}{i j:Nat}{x:Addr},ns.Nodup->ns[i]?=some j->i<us.length->(xa ns us).map (fun kv=>if kv.1=(Sum.inl (j:Int):Key) then (kv.1,V.ref x) else kv)=xa ns (us.set i x)
 | [],_,_,_,_,_,h,_=>by simp at h
 | _::_,[],_,_,_,_,_,h=>absurd h (Nat.not_lt_zero _)
 | n::ns,u::us,0,j,x,nd,h,_=>by
  cases h;obtain⟨n1,_⟩:=List.nodup_cons.mp nd;show _::(xa ns us).map _=_::xa ns us
  congr 1
  ·exact if_pos rfl
  ·conv=>rhs;rw[<- List.map_id (xa ns us)]
   refine List.map_congr_left fun p hp=>?_;obtain⟨m,hm,e⟩:=uO p hp;rw[if_neg]
   ·rfl
   ·rw[e]
    intro z
    have:(m:Int)=(n:Int):=Sum.inl.inj z
    exact n1 (by rw[<- show m=n by omega];exact List.mem_of_mem_take hm)
 | n::ns,u::us,i+1,j,x,nd,h,hl=>by
  obtain⟨n1,n2⟩:=List.nodup_cons.mp nd;have h:ns[i]?=some j:=h;show _::(xa ns us).map _=_::xa ns (us.set i x);rw[zbr n2 h (by simpa using hl)]
  congr 1
  refine if_neg fun z=>?_
  have:(n:Int)=(j:Int):=Sum.inl.inj z
  exact n1 (by rw[show n=j by omega];exact mem_of_getElem? h)
theorem zfY{ns:List Nat}{us:List Addr}{i j:Nat}{x:Addr}(nd:ns.Nodup)(h:ns[i]?=some j)(hl:i<us.length):yC (xa ns us) (Sum.inl (j:Int)) (V.ref x)=xa ns (us.set i x):=by
 unfold yC;rw[if_pos,zbr nd h hl];have e:=wO nd h (getElem?_eq_getElem hl);rw[xz,e];rfl
theorem vH:∀(n:Int) (ds:List Df),∀d∈xq n ds,d.k≠1
 | _,[],d,h=>nomatch h
 | n,.once::ds,d,h=>by
  rcases List.mem_cons.mp h with h|h
  ·rw[h];exact fun e=>nomatch e
  ·exact vH _ ds d h
 | n,.told _::ds,d,h=>by
  rcases List.mem_cons.mp h with h|h
  ·rw[h];exact fun e=>nomatch e
  ·exact vH _ ds d h
 | n,.anew::ds,d,h=>by
  rcases List.mem_cons.mp h with h|h
  ·rw[h];exact fun e=>nomatch e
  ·exact vH _ ds d h
 | n,.sum _ _ _::ds,d,h=>by
  rcases List.mem_cons.mp h with h|h
  ·rw[h];exact fun e=>nomatch e
  ·exact vH _ ds d h
theorem x8{rows:List Rw}:∀{ns:List Nat}{ds:List Df}(n:Int),Paired (jf rows) ns ds->Paired (jf rows) ns (xq n ds)
 | _,_,_,.nil=>.nil
 | _,.once::_,n,.cons h t=>.cons trivial (x8 _ t)
 | _,.told _::_,n,.cons h t=>.cons h (x8 _ t)
 | _,.anew::_,n,.cons h t=>.cons h (x8 _ t)
 | _,.sum _ _ _::_,n,.cons h t=>.cons h (x8 _ t)
theorem zbg{H:Hp}{x:Addr}{d:Df}:∀{us:List Addr}{ds:List Df}{i:Nat},Paired (RAt H) us ds->RAt H x d->Paired (RAt H) (us.set i x) (ds.set i d)
 | _,_,_,.nil,_=>.nil
 | _,_,0,.cons _ t,r=>.cons r t
 | _,_,i+1,.cons h t,r=>.cons h (zbg t r)
theorem RAt.upd{H:Hp}{u a:Addr}{o:HO}{d:Df}(h:RAt H u d)(n:u≠a):RAt (L2.upd H a o) u d:=by
 show L2.upd H a o u=_;rw[zf n];exact h
inductive zap(K:Frag)(vs:List V)(H:Hp)(Q:VK)(E:XK):Prop|mk(a:Addr)(ns:List Int):vs=[.ref a]->SqL K H a (ns.map V.int)->ns.length<=63->(∀H',Q (.bl true) H')->zap K vs H Q E
theorem uE{K:Frag}{H H':Hp}{u p C dx:Addr}{vs:List V}{fs:List (Str×V)}(h:SqL K H u vs)(s:SX p H H')(hp:H p=some (.ins C dx fs)):SqL K H' u vs:=by
 rcases h with (h|⟨o,h⟩)|h
 ·exact .inl (.inl (s _ _ h (fun e=>by rw[e,hp] at h;cases h)))
 ·exact .inl (.inr ⟨o,s _ _ h (fun e=>by rw[e,hp] at h;cases h)⟩)
 ·exact .inr h
theorem zhM{z:Str}(h:xn z=true):z.length<=100:=by
 unfold xn at h;simp only[Bool.and_eq_true,decide_eq_true_eq] at h;omega
theorem Paired.takeP{α β : Type}{R : α->β->Prop}:∀{xs:List α}{ys:List β}(n:Nat),Paired R xs ys->Paired R (xs.take n) (ys.take n)
 | _,_,0,_=>.nil
 | _,_,_+1,.nil=>.nil
 | _,_,n+1,.cons h t=>.cons h (Paired.takeP n t)
theorem zgj(zs:List Str)(c:Int):ItS (xQ zs c):=by
 unfold xQ;have h5:(c / 8 % 5).toNat<=4:=by omega
 have h4:(c / 8 % 4).toNat<=4:=by omega
 split
 ·exact⟨by show 1<=4;decide,zero_le _⟩
 ·split
  ·exists ?_,zero_le _
   show(zg8 (c / 8)).length<=4;unfold zg8;rw[length_map,length_range];exact h5
  ·split
   ·exists zero_le _,?_
    show(zbN zs (c / 8)).length<=4;unfold zbN wC;rw[length_map,length_map,length_range];exact h4
   ·exact⟨zero_le _,by show 1<=4;decide⟩
theorem qx.put{c:C5}{c4:C4}{CF CW CU:Addr}{H0 H H':Hp}{p f wa D dw Dt:Addr}{rows:List Rw}{bars:List Str}{us:List Addr}{ds:List Df}{n:Int}{kvs:List (Key×V)}(h:qx c c4 CF CW CU H p f wa D dw rows bars us ds n)(h0:vF c CF H0 f rows bars)(s0:zo H0 H')(s:SX Dt H H')(hD:H Dt=some (.dK kvs))(nD:D≠Dt):qx c c4 CF CW CU H' p f wa D dw rows bars us ds n:=by
 obtain⟨⟨dx,h1⟩,h2,h3,h4,h5,h6,h7,h8⟩:=h;exact⟨⟨dx,s _ _ h1 (ym h1 hD (by intro z;cases z))⟩,h0.same s0,h3,s _ _ h4 nD,zm (fun _ _ z=>let n:=z.dic hD;let ⟨dx,e⟩:=z;⟨dx,s _ _ e n⟩) h5,h6,h7,s _ _ h8 (ym h8 hD (by intro z;cases z))⟩
theorem zef{xs:List V}{n:Nat}:zaZ xs none (some (n:Int))=xs.take n:=by
 unfold zaZ;rw[HT.zlz,HT.zkI,List.drop_zero,sub_zero];by_cases h:n<=xs.length
 ·rw[Nat.min_eq_left h]
 ·rw[Nat.min_eq_right (by omega),take_of_length_le (le_refl _),take_of_length_le (by omega)]
variable {CW CU DF:Addr}{c4:C4}{cl:Nat->Addr}
theorem zkX:¬(V.str "told"=V.str "once"):=by decide +kernel
theorem zk5:([Str.ofString "_law_k",Str.ofString "_law_script"]:List Str).Nodup:=by decide +kernel
theorem zk0:([Str.ofString "_law_p",Str.ofString "_law_told"]:List Str).Nodup:=by decide +kernel
theorem y6:zq ["_law_script","_law_pool_here","_law_specs_here","_law_k","_law_shut","_law_shape","_law_told","_law_p","_law_coming","_law_well","_law_defaults","_law_function","_law_handed","_law_more","_law_kept","_law_wrong","_law_found","_law_things","_law_pairs","_law_values_here"] ["_law_script"] (zj zje):=fsc
theorem zjI{f1 f2 f3 f4 f5 f6 f7 f8 f9 f10 f11 f12 f13 f14 f15 f16 gW gA gU:Addr}{e1 e2 e3 e4 e5 e6 e7 e8 e9 e10 e11 e12 e13 e14 e15 e16 eW eA eU:FuncData}(F:Fun K "law" "law" zje f fd)(T:uh mg)
  (cN:zI P w K mg base 1 "_law_nth" f1 e1 ["_law_script","_law_k"] (zeH K)) (cPo:zI P w K mg base 2 "_law_pool" f2 e2 ["_law_cell"] (zeG K)) (cSp:zI P w K mg base 1 "_law_specs" f3 e3 ["_law_cells","_law_pool_here"] (zcS K)) (cBa:zI P w K mg base 1 "_law_bars" f4 e4 ["_law_cells","_law_pool_here","_law_specs_here"] (zcY K)) (cFm:zI P w K mg base 6 "_law_form" f5 e5 ["_law_specs_here","_law_shut"] (zcX c CF)) (cLo:zI P w K mg base 2 "_law_loose" f6 e6 ["_law_specs_here"] zcV) (cDr:zI P w K mg base 2 "_law_drawn" f7 e7 ["_law_cell","_law_specs_here","_law_p"] zc1) (cTh:zI P w K mg base 1 "_law_thing" f8 e8 ["_law_cell"] uj)
  (cDe:zI P w K mg base 3 "_law_default" f9 e9 ["_law_told"] (zil K c4)) (WC:qu K mg CW) (UW:uY P w K mg base CX0 1 "Well" CW gW eW ["self","first"] [] (zbX CW)) (mA:yT K CW "ahead" gA) (GA:zx P w K mg base CX0 1 gA eA ["self"] (zas CW)) (bA:zN K eA ["self"] []) (mCU:mg "Function"=some (.ref CU)) (MU:Mk K CU gU) (GU:zx P w K mg base CX0 4 gU eU ["self","form","defaults","well"] (ziS c c4 CF CW CU)) (bU:zN K eU ["self","form","defaults","well"] [])
  (cIt:zI P w K mg base 2 "_law_items" f10 e10 ["_law_cells","_law_pool_here"] (zcZ K)) (cWa:zI P w K mg base 2 "_law_wanted" f11 e11 ["_law_specs_here","_law_cell"] (za9 K)) (cMi:zI P w K mg base 5 "misfits" f12 e12 ["form","call"] (zik K c CF)) (cRe:zI P w K mg base 7 "_law_refusal" f13 e13 ["_law_function","_law_handed"] (zeL K c c4 CF CW CU)) (cLa:zI P w K mg base 1 "_law_laid" f14 e14 ["_law_items_here"] (jC K)) (cPa:vV P w K mg base 5 "paper" f15 e15 ["form","call"] (jl K c CF cl)) (cVa:zI P w K mg base 1 "_law_values" f16 e16 ["_law_entries","_law_things","_law_pairs","_law_told","_law_drawn_here"] (zeE K)) :
  zx P w K mg base CX0 8 f fd ["_law_script"] (zap K):=by
 refine F.ok y6 (fun cdv A outer s H vs Q E hr h=>?_);obtain⟨sa,ns,rfl,hS,h63,q⟩:=h;have hr1:yf 1 _:=hr.mono (by decide)
 have hr2:yf 2 _:=hr.mono (by decide)
 have hr3:yf 3 _:=hr.mono (by decide)
 have hr4:yf 4 _:=hr.mono (by decide)
 have hr5:yf 5 _:=hr.mono (by decide)
 have hr6:yf 6 _:=hr.mono (by decide)
 have hU:=hr.units;have hu:=uu hr;refine zP (zw (i:=1) y6.nd rfl (Or.inl rfl) (cF cPo hr2 (ac (cF cN hr1 (ac (pv 0) (ac zi zb))) zb))) ?_;exists _,rfl,sa,ns,0,rfl,hS,fun c0=>⟨c0,rfl,fun pa zs H1 s1 npa hpa znd znm z0 z12=>?_⟩;dsimp only[zS];refine zP (zw (i:=2) y6.nd rfl (Or.inl rfl) (cF cSp hr1 (ac (jT zau (pv 0) (uo zi) (uo zi)) (ac (pv 1) zb)))) ?_;exists _,rfl,_,rfl,_,rfl,sa,_,rfl,s1.seq hS,fun p2 hp2=>?_;obtain⟨ms,em,lm⟩:=zbG ns 7 27;rw[show zaZ (ns.map V.int) (some 7) (some 27)=ms.map V.int from em]
 injections p2 hp2 H2 s2 g2
 exists _,rfl,p2,pa,ms,zs,rfl,zg g2,lm,s2 _ _ hpa,z0,znm,fun la us rows H3 s3 nla hla hus V1=>?_;have s03:=s1.trans (s2.trans s3);have hpa:=s3 _ _ (s2 _ _ hpa);have lu:us.length=rows.length:=hus.length;have l24:=V1.l24;clear g2 hp2 em lm s1 s2 s3;dsimp only[zS];refine zP (zw (i:=4) y6.nd rfl (Or.inl rfl) (cF cBa hr1 (ac (xO ["_law_script"] ["_law_k","_law_script"] [none,some 0] rfl ⟨rfl,rfl,rfl,rfl⟩ (yG rfl T.range (ac (zt yd (zt yu (cF cN hr1 (ac (pv 0) (ac zi zb))) zi) zi) zb)) (z7 0) rfl rfl rfl
   (fun pins fp s H C=>⟨zp (i:=0) zk5 rfl (Or.inl rfl) (.inr rfl),y7,zt yu (cF cN hr1 (ac (pv 1) (ac (pv 0) zb))) zi⟩)) (ac (pv 1) (ac (pv 2) zb))))) ?_
 exists _,rfl,sa,ns,0,rfl,s03.seq hS,fun cb=>?_;have b0 : 0<=cb / 2 % 4:=emod_nonneg _ (by decide)
 have b1:cb / 2 % 4<4:=emod_lt_of_pos _ (by decide)
 obtain⟨nb,hnb⟩:=eq_ofNat_of_zero_le b0;exists _,_,rfl,rfl,⟨by decide,by decide⟩,_,_,rfl,rfl,zp4,(nb:Int),by rw[hnb],by omega,by omega,fun D7 hD7=>?_
 rw[show(nb:Int).toNat=nb by omega]
 refine wQ (n:=nb) (fun i ys H'=>zo H3 H'/\H' D7=some (.lst ys)/\∃ks:List Int,ys=ks.map V.int/\ks.length=i) ⟨ze hD7 _,za,[],rfl,rfl⟩ ?_ ?_
 ·rintro i ys H' hi ⟨sH,hDy,ks,rfl,lk⟩
  rw[Int.zero_add];exists fun _=>?_,fun e=>Bool.noConfusion e;exists _,rfl,_,rfl,sa,ns,i,rfl,(s03.trans sH).seq hS,fun n=>⟨_,_,rfl,rfl,⟨by decide,by decide⟩,?_⟩
  exact lcN.mk hi (yj (by omega)) hDy (by rw[length_map];omega) ⟨yJ sH hD7 _,za,ks++[_],by rw[map_append];rfl,by rw[length_append,lk];rfl⟩
 rintro ys H7 ⟨s7,hDy,ks,rfl,lk⟩;exists _,rfl,_,rfl,D7,pa,la,ks,zs,us,rows,rfl,zg hDy,by omega,s7 _ _ hpa,z0,znm,s7 _ _ hla,zU s7 hus,V1,fun lb bars H8 s8 nlb hlb VB=>?_
 have s38:=s7.trans s8;have s08:=s03.trans s38;have hpa:=s38 _ _ hpa;have hla:=s38 _ _ hla;have hus:=zU s38 hus;clear hDy hD7 hnb b0 b1 s38 s03 s7 s8 lk nlb;dsimp only[zS];refine zP (zw (i:=5) y6.nd rfl (Or.inl rfl) (cF cFm hr6 (ac (pv 2) (ac (pv 4) zb)))) ?_;exists _,rfl,_,rfl,la,lb,us,rows,bars,rfl,hla,hus,hlb,VB,fun x H9 s9 hF=>?_;have s09:=s08.trans s9;have hpa:=s9 _ _ hpa;have hla:=s9 _ _ hla;have hus:=zU s9 hus;clear s08 s9 hlb;dsimp only[zS];refine zP (zw (i:=6) y6.nd rfl (Or.inr rfl) jV) ?_;intro Dt hDt;dsimp only[zS]
 injections Dt hDt H10 s10 g10
 have lf:(z6 rows).length<=24:=le_trans (length_filter_le _ _) (by rw[length_range];exact l24)
 refine zP (yD PassesOwn.never rfl (yt (cF cLo hr2 (ac (pv 2) zb))) (zp (i:=7) y6.nd rfl (Or.inl rfl)) yA) ?_;exists _,rfl,la,us,rows,rfl,s10 _ _ hla,zU s10 hus,V1,fun ll H11 s11 nll hll=>?_;have nlD:ll≠Dt:=fun e=>by rw[e,g10] at nll;cases nll
 refine⟨ll,rfl,⟨_,zg hll⟩,xC (K:=K) (a:=ll) (xs:=(z6 rows).map fun n=>V.int (n:Nat)) (fun i σ H'=>∃(v7:Option V) (uts:List Addr) (ds:List Df),σ=[some (.ref sa),some (.ref pa),some (.ref la),none,some (.ref lb),some (.ref x),some (.ref Dt),v7,none,none,none,none,none,none,none,none,none,none,none,none]/\zo H9 H'/\H' ll=some (.lst ((z6 rows).map fun n=>V.int (n:Nat)))/\H' Dt=some (.dK (xa (z6 rows) uts))/\uts.length=i/\Paired (RAt H') uts ds/\Paired (jf rows) ((z6 rows).take i) ds)
  ⟨_,[],[],rfl,s10.trans s11,hll,(by cases h:z6 rows <;> exact s11 _ _ g10),rfl,.nil,.nil⟩ (fun i σ H' _ ⟨_,_,_,_,_,e,_⟩=>zg e) ?_ ?_⟩
 ·rintro i y σ H12 hy ⟨v7,uts,ds,rfl,s12,hl12,hD12,lut,pr,pg⟩
  obtain⟨j,hj,rfl⟩:=ur hy;have hjm:=mem_of_getElem? hj;have hjl:j<rows.length:=List.mem_range.mp (List.mem_filter.mp hjm).1;have hil:i<(z6 rows).length:=(List.getElem?_eq_some_iff.mp hj).1;dsimp only[zS];exists _,zc (jp hu (pv 6) (pv 7) (cF cDr hr2 (ac (cF cN hr1 (ac (pv 0) (ac (zt yz zi (zt yd (pv 7) zi)) zb))) (ac (pv 2) (ac (pv 7) zb)))) rfl),?_;exists _,rfl,_,rfl,_,_,rfl,rfl,(by show(0:Int)<5;decide),_,_,rfl,rfl,sa,ns,1+j % 5,by congr 2,(s09.trans s12).seq hS,fun cn=>?_
  exists _,rfl,_,rfl,cn,la,j,us,rows,rfl,s12 _ _ hla,zU s12 hus,V1,by omega,fun u d H13 s13 nu hud gd=>?_
  exists _,rfl,_,rfl,Dt,_,rfl,zbR.k (k:=Sum.inl (j:Int)) (s13 _ _ hD12) (zC (by rw[j0 (by omega)];omega)),?_
  rw[jZ (xw rows) (by rw[lut];exact hj)]
  have hD13:=s13 _ _ hD12;have nDt:∀v e,RAt H13 v e->v≠Dt:=fun v e r z=>by rw[z] at r;rw[RAt,hD13] at r;cases r
  exists _,uts++[u],ds++[d],rfl,yJ (s12.trans s13) hDt _,by rw[zf nlD];exact s13 _ _ hl12,za,by rw[length_append,lut];rfl,?_,?_
  ·exact ya (zm (fun _ _ z=>RAt.upd (s13 _ _ z) (nDt _ _ (s13 _ _ z))) pr) (.cons (RAt.upd hud (nDt _ _ hud)) .nil)
  ·rw[take_add_one,hj]
   exact ya pg (.cons gd .nil)
 rintro σ H12 ⟨v7,uts,ds,rfl,s12,_,hD12,lut,pr,pg⟩;rw[length_map] at lut pg;rw[take_length] at pg;have s012:=s09.trans s12;have hpa:=s12 _ _ hpa;have hla:=s12 _ _ hla;have hus:=zU s12 hus;have hF9:=hF;have hF:=hF.same s12;have lds:ds.length=(z6 rows).length:=pg.length.symm;clear s10 g10 s11 hll nll nlD;refine zP (zw (i:=8) y6.nd rfl (Or.inl rfl) (cF cTh hr1 (ac (cF cN hr1 (ac (pv 0) (ac zi zb))) zb))) ?_;exists _,rfl,sa,ns,6,rfl,s012.seq hS,fun c6=>⟨c6,rfl,?_⟩;generalize yP c6=first
 dsimp only[zS];refine zP (zw (i:=9) y6.nd rfl (Or.inl rfl) (cMk UW .nil zW hr2 (ac (pv 8) zb))) ?_;exists _,rfl,fun wa dw hwa hdw hnw=>⟨wa,dw,first,rfl,za,⟨rfl,?_⟩⟩
 have sW:=vK (o1:=.ins CW dw []) (o2:=.ins CW dw (wl first)) hwa hdw
 have hw13:upd (upd (upd H12 dw (.own wa)) wa (.ins CW dw [])) wa (.ins CW dw (wl first)) wa=some (.ins CW dw (wl first)):=za
 dsimp only[zS];generalize upd (upd (upd H12 dw (.own wa)) wa (.ins CW dw [])) wa (.ins CW dw (wl first))=H13 at sW hw13 |-
 have nw12:∀b u,H12 b=some u->b≠wa:=fun b u e=>zd e hwa;have hD13:=sW _ _ hD12;have pr13:=uJ sW pr;refine zP (qO (i:=10) ["_law_told"] ["_law_p","_law_told"] [none,some 6] y6.nd rfl (Or.inl rfl) rfl ⟨rfl,rfl,rfl,rfl⟩ (yt (cF cLo hr2 (ac (pv 2) zb))) (z7 0) rfl rfl rfl
   (fun pins fp s H C=>⟨zp (i:=0) zk0 rfl (Or.inl rfl) (.inr rfl),y7,cF cDe hr3 (ac (xW hu (pv 1) (pv 0) (fun _ _=>rfl)) zb)⟩)) ?_
 exists _,rfl,la,us,rows,rfl,sW _ _ hla,zU sW hus,V1,fun ll H14 s14 nll hll=>?_;exists ll,rfl,⟨_,zg hll⟩,fun ld hld=>?_;refine zhQ (K:=K) (bs:=ds) (DAt c4) (fun⟨dx,z⟩ s=>⟨dx,s _ _ z⟩) (fun {H v r D ys o} z h=>DAt.upd z (fun e=>by obtain⟨dx,z⟩:=z;rw[e,h] at z;cases z)) (zg hll) (by rw[length_map,lds]) (by omega) hld (fun i y d H' Qf Qs hy hd' sH qf=>?_) fun as H15 s15 e15 p15=>?_
 ·obtain⟨j,hj,rfl⟩:=ur hy
  obtain⟨u,hut,rt⟩:∃u,uts[i]?=some u/\RAt H13 u d:=by
   have hl:=pr13.length;have hil:i<ds.length:=(List.getElem?_eq_some_iff.mp hd').1;have e:uts[i]?=some uts[i]:=getElem?_eq_getElem (by omega)
   obtain⟨d2,e1,e2⟩:=zV pr13 e;rw[hd'] at e1;cases e1;exact⟨_,e,e2⟩
  have sX:=s14.trans sH;have hget:vh H' Dt (.int (j:Nat)) (some (.ref u)):=by
   have:=vh.k (k:=Sum.inl (j:Int)) (sX _ _ hD13)
   rw[wO (xw rows) hj hut] at this;exact this
  exact⟨fun _=>⟨_,rfl,_,rfl,Dt,_,rfl,hget,u,d,rfl,sX _ _ rt,fun x dx H5 s5 _ ho=>qf x H5 s5 ⟨dx,ho⟩⟩,fun e=>Bool.noConfusion e⟩
 have s1315:=s14.trans s15;have hF15:=(hF.same sW).same s1315;have hw15:=s1315 _ _ hw13;have nld:∀b u,H13 b=some u->b≠ld:=fun b u e=>zd (s14 _ _ e) hld;clear s14 s15 hll nll hld;dsimp only[zS];refine zP (zw (i:=11) y6.nd rfl (Or.inl rfl) (zaJ MU GU hr5 rfl mCU bU .nil zW (ac (pv 5) (ac (pv 10) (ac (pv 9) zb))))) ?_;exists _,rfl,_,rfl,_,rfl,?_;intro p dp hp0 hdp hnp;have smk:zo H15 (upd (upd H15 dp (.own p)) p (.ins CU dp [])):=yL hp0 hdp;have hp1:upd (upd H15 dp (.own p)) p (.ins CU dp []) p=some (.ins CU dp []):=za;have npw:p≠wa:=fun e=>by rw[e,hw15] at hp0;cases hp0
 have np15:∀b u,H15 b=some u->b≠p:=fun b u e=>zd e hp0;generalize upd (upd H15 dp (.own p)) p (.ins CU dp [])=H16 at smk hp1 |-;exists p,dp,x,ld,wa,dw,first,rows,bars,as,ds,rfl,hp1,(hF15.same smk).at_,V1,smk _ _ e15,vU smk p15,fun a ha e=>?_,pg,smk _ _ hw15,fun D us2 H17 nD16 k17 hw17 hp17 hD17 pd17=>⟨rfl,?_⟩
 ·subst e
  obtain⟨i,hi⟩:=List.getElem?_of_mem ha;obtain⟨d,_,dx,e⟩:=zV p15 hi;exact np15 _ _ e rfl
 dsimp only[zS];have nDD:D≠Dt:=fun e=>by rw[e,smk _ _ (s1315 _ _ hD13)] at nD16;cases nD16
 have k1517:∀b u,H15 b=some u->b≠wa->H17 b=some u:=fun b u e n=>k17 _ _ (smk _ _ e) (np15 _ _ e) n;have hld17:=k1517 _ _ e15 (fun e=>by rw[e,hw15] at e15;cases e15)
 refine zP (zG (zjt PySem.F.plainAttrs_list PySem.F.slot_list_clear PySem.F.type_list_clear zf9 (pv 10))) ?_;exists _,rfl,.inl ⟨rfl,_,zg hld17⟩,ld,_,rfl,rfl,hld17,?_;have k18:∀b u,H12 b=some u->upd H17 ld (.lst []) b=some u:=fun b u e=>by
  rw[zf (nld _ _ (sW _ _ e))];exact k1517 _ _ (s1315 _ _ (sW _ _ e)) (nw12 _ _ e)
 have fn18:qx c c4 CF CW CU (upd H17 ld (.lst [])) p x wa D dw rows bars us2 (xq first ds) (first+(yc ds:Nat)):=by
  have nl:∀{b o},H17 b=some o->(∀ys,o≠.lst ys)->b≠ld:=fun {b o} e n z=>by rw[z,hld17] at e;exact n _ (Option.some.inj e).symm
  refine⟨⟨dp,by rw[zf (nl hp17 fun _ z=>nomatch z)];exact hp17⟩,?_,V1,by rw[zf (nl hD17 fun _ z=>nomatch z)];exact hD17,?_,x8 _ pg,vH _ _,by rw[zf (nl hw17 fun _ z=>nomatch z)];exact hw17⟩
  ·exact hF.same k18
  ·exact zm (fun v e z=>z.upd (by obtain⟨dx,z⟩:=z;exact nl z fun _ y=>nomatch y)) pd17
 have hD18:=k18 _ _ hD12;have pr18:Paired (RAt (upd H17 ld (.lst []))) uts ds:=zm (fun _ _ z=>k18 _ _ z) pr;generalize upd H17 ld (.lst [])=H18 at k18 fn18 hD18 pr18 |-;have s918:zo H9 H18:=fun b u e=>k18 _ _ (s12 _ _ e);have s018:zo H H18:=fun b u e=>k18 _ _ (s012 _ _ e);have hpa:=k18 _ _ hpa;have hla:=k18 _ _ hla;have hus:Paired (TAt H18) us rows:=zm (fun _ _ z=>k18 _ _ z) hus;clear k17 k1517 hld17 nld hw17 hp17 hD17 pd17 smk hp1 np15 hp0 hdp hnp nD16 s12 hF15 hw15 s1315 e15 p15 hD13 pr13 hw13 sW hwa hdw hnw hF k18 nw12 hD12 pr s012;dsimp only[zS];refine zP (yD PassesOwn.never rfl (yt (cF cLo hr2 (ac (pv 2) zb))) (zp (i:=7) y6.nd rfl (Or.inl rfl)) yA) ?_;exists _,rfl,la,us,rows,rfl,hla,hus,V1,fun ll H19 s19 nll hll=>?_;have nlD:ll≠Dt:=fun e=>by rw[e,hD18] at nll;cases nll
 refine⟨ll,rfl,⟨_,zg hll⟩,xC (K:=K) (a:=ll) (xs:=(z6 rows).map fun n=>V.int (n:Nat)) (fun i σ H'=>∃(v7:Option V) (uts:List Addr),σ=[some (.ref sa),some (.ref pa),some (.ref la),none,some (.ref lb),some (.ref x),some (.ref Dt),v7,some (.int (first+(yc (ds.take i):Nat))),some (.ref wa),some (.ref ld),some (.ref p),none,none,none,none,none,none,none,none]/\SX Dt H18 H'/\H' ll=some (.lst ((z6 rows).map fun n=>V.int (n:Nat)))/\H' Dt=some (.dK (xa (z6 rows) uts))/\uts.length=ds.length/\Paired (RAt H') uts (xq first (ds.take i)++ds.drop i))
  ⟨_,uts,by rw[take_zero,show first+((yc []:Nat):Int)=first from Int.add_zero first];rfl,fun b u e _=>s19 _ _ e,hll,s19 _ _ hD18,pr18.length,by rw[take_zero,List.drop_zero];exact uJ s19 pr18⟩ (fun i σ H' _ ⟨_,_,_,_,e,_⟩=>zg e) ?_ ?_⟩
 ·rintro i y σ H20 hy ⟨v7,uts,rfl,s20,hl20,hD20,lut,pr⟩
  obtain⟨j,hj,rfl⟩:=ur hy;have hil:i<ds.length:=by rw[lds];exact(List.getElem?_eq_some_iff.mp hj).1
  have hdi:ds[i]?=some ds[i]:=getElem?_eq_getElem hil;generalize ds[i]=d at hdi;have es:=qM (n:=first) hdi
  have et:=qQ hdi;have lsd:(xq first (ds.take i)).length=i:=by rw[vt,length_take];omega
  have hut:uts[i]?=some uts[i]:=getElem?_eq_getElem (by omega)
  have hdr:(xq first (ds.take i)++ds.drop i)[i]?=some d:=by
   rw[List.getElem?_append_right (by omega),lsd,sub_self,List.getElem?_drop,Nat.add_zero]
   exact hdi
  obtain⟨d2,e1,rt⟩:=zV pr hut;rw[hdr] at e1;cases e1;generalize uts[i]=u at hut rt;have hdd:ds.drop i=d::ds.drop (i+1):=by
   rw[List.drop_eq_getElem_cons hil]
   congr 1
   exact(List.getElem?_eq_some_iff.mp hdi).2
  have hget:vh H20 Dt (.int (j:Nat)) (some (.ref u)):=by
   have:=vh.k (k:=Sum.inl (j:Int)) hD20
   rw[wO (xw rows) hj hut] at this;exact this
  have hSt:SqT K H20 u d.row:=zv rt;dsimp only[zS];exists _,zc (zE (zn z9 (zy zJ (xW hu (pv 6) (pv 7) (fun _ _=>rfl)) zi (fun _ _=>rfl)) zr (zz _)) (zh (jp hu (pv 6) (pv 7) (zQ (ac zr (ac (pv 8) zb))) rfl) (zc (zw (i:=8) y6.nd rfl (Or.inl rfl) (zt yz (pv 8) zi)))) zA),?_;have stay:∀(h:d.k≠1),∃(v7:Option V) (uts:List Addr),([some (.ref sa),some (.ref pa),some (.ref la),none,some (.ref lb),some (.ref x),some (.ref Dt),some (.int (j:Nat)),some (.int (first+(yc (ds.take i):Nat))),some (.ref wa),some (.ref ld),some (.ref p),none,none,none,none,none,none,none,none]:L2.St)=[some (.ref sa),some (.ref pa),some (.ref la),none,some (.ref lb),some (.ref x),some (.ref Dt),v7,some (.int (first+(yc (ds.take (i+1)):Nat))),some (.ref wa),some (.ref ld),some (.ref p),none,none,none,none,none,none,none,none]/\SX Dt H18 H20/\H20 ll=some (.lst ((z6 rows).map fun n=>V.int (n:Nat)))/\H20 Dt=some (.dK (xa (z6 rows) uts))/\uts.length=ds.length/\Paired (RAt H20) uts (xq first (ds.take (i+1))++ds.drop (i+1)):=fun h=>by
   have ho:d.isOnce=false:=by unfold Df.isOnce;exact beq_false_of_ne h
   have et2:yc (ds.take (i+1))=yc (ds.take i):=by rw[et,ho];rfl
   exists _,uts,by rw[et2],s20,hl20,hD20,lut,?_
   have e1:xq (first+(yc (ds.take i):Nat)) [d]=[d]:=by cases d <;> first|rfl|exact absurd rfl h
   rw[es,e1,append_assoc];rw[hdd] at pr;exact pr
  cases d with
  | told m=>
   exists _,rfl,_,rfl,Dt,_,rfl,hget,u,_,0,_,rfl,rfl,hSt,rfl,rfl,_,rfl,?_;refine dF zkX ?_;exact stay (fun e=>nomatch e)
  | anew=>
   exists _,rfl,_,rfl,Dt,_,rfl,hget,u,_,0,_,rfl,rfl,hSt,rfl,rfl,_,rfl,?_;refine dF zlc ?_;exact stay (fun e=>nomatch e)
  | sum a' t' p'=>
   exists _,rfl,_,rfl,Dt,_,rfl,hget,u,_,0,_,rfl,rfl,hSt,rfl,rfl,_,rfl,?_;refine dF zla ?_;exact stay (fun e=>nomatch e)
  | once=>
   exists _,rfl,_,rfl,Dt,_,rfl,hget,u,_,0,_,rfl,rfl,hSt,rfl,rfl,_,rfl,?_;refine dT rfl ?_;exists _,rfl,yN,fun u2 hu2=>?_;have s21:=ze hu2 (.tup [.str "told",.int (first+(yc (ds.take i):Nat))])
   have g21:upd H20 u2 (.tup [.str "told",.int (first+(yc (ds.take i):Nat))]) u2=some (.tup [.str "told",.int (first+(yc (ds.take i):Nat))]):=za
   have pr21:=uJ s21 pr;have hD21:=s21 _ _ hD20;have s1821:SX Dt H18 _:=s20.same s21;have hl21:=s21 _ _ hl20;generalize upd H20 u2 (.tup [.str "told",.int (first+(yc (ds.take i):Nat))])=H21 at s21 g21 pr21 hD21 s1821 hl21 |-
   exists _,rfl,_,rfl,Dt,_,rfl,zbR.k (k:=Sum.inl (j:Int)) hD21 (zC (by rw[j0 (by omega)];omega)),?_
   rw[zfY (xw rows) hj (by omega)]
   have nDt:∀v e,RAt H21 v e->v≠Dt:=fun v e r z=>by rw[z] at r;rw[RAt,hD21] at r;cases r
   have ho:Df.isOnce .once=true:=rfl;rw[ho,if_pos rfl] at et;have e8:V.int (first+(yc (ds.take i):Nat)+1)=V.int (first+(yc (ds.take (i+1)):Nat)):=by rw[et];congr 1;omega
   exists _,rfl,_,_,rfl,rfl,some (.int (j:Nat)),uts.set i u2,by rw[<- e8];rfl,s1821.upd,by rw[zf nlD];exact hl21,za,by rw[length_set];exact lut,?_
   ·have gx:RAt H21 u2 (.told (first+(yc (ds.take i):Nat))):=g21
    have:=zbg (i:=i) pr21 gx
    rw[List.set_append_right _ _ (by omega),lsd,sub_self,hdd] at this
    rw[es,append_assoc];exact zm (fun _ _ z=>RAt.upd z (nDt _ _ z)) this
 rintro σ H20 ⟨v7,uts',rfl,s20,_,hD20,_,pr20⟩;rw[length_map,<- lds,take_length,List.drop_length,append_nil] at pr20;rw[length_map,<- lds,take_length];have s920:zo H9 H20:=fun b u e=>s20 _ _ (s918 _ _ e) (zd e hDt);have fn20:=fn18.put hF9 s920 s20 hD18 nDD;have s020:zo H H20:=fun b u e=>s920 _ _ (s09 _ _ e);have hS:=s020.seq hS;have hpa:=s20 _ _ hpa (ym hpa hD18 (by intro z;cases z))
 have hla:=s20 _ _ hla (ym hla hD18 (by intro z;cases z))
 have hus:Paired (TAt H20) us rows:=zm (fun _ _ z=>s20 _ _ z (ym z hD18 (by intro y;cases y))) hus
 have we:=fn20.we;generalize first+((yc ds:Nat):Int)=n0 at fn20 we |-
 clear fn18 hD18 pr18 s018 s20 s918 hF9 hDt nDD s020 s920;have gds:=x8 (rows:=rows) first pg
 have nds:=vH first ds
 generalize xq first ds=es at fn20 pr20 gds nds
 dsimp only[zS];refine zP (yD PassesOwn.never rfl (yG rfl T.range (ac zi zb)) (zp (i:=3) y6.nd rfl (Or.inl rfl)) yA) ?_;exists 3,rfl,by decide,by decide,?_
 rw[show(3:Int).toNat=3 from rfl];refine wT (n:=3) (fun i σ H'=>∃(v3 v12 v13 v14 v15 v16 v17 v18 v19:Option V) (n:Int),σ=[some (.ref sa),some (.ref pa),some (.ref la),v3,some (.ref lb),some (.ref x),some (.ref Dt),v7,some (.int n),some (.ref wa),some (.ref ld),some (.ref p),v12,v13,v14,v15,v16,v17,v18,v19]/\SX wa H20 H'/\H' wa=some (.ins CW dw (wl n))) ⟨_,_,_,_,_,_,_,_,_,n0,rfl,SX.refl,we⟩ ?_ ?_;rotate_left
 ·rintro σ H21 ⟨v3,v12,v13,v14,v15,v16,v17,v18,v19,n,rfl,_,_⟩
  exact⟨_,zc (zu jW),q H21⟩
 rintro i σ J0 hi ⟨v3,v12,v13,v14,v15,v16,v17,v18,v19,n,rfl,x0,w0⟩;rw[Int.zero_add];dsimp only[zS];have keep:∀{J:Hp}{b:Addr}{o:HO},SX wa H20 J->H20 b=some o->(∀C dx fs,o≠.ins C dx fs)->J b=some o:=fun s e n=>s _ _ e (fun z=>by rw[z,we] at e;exact n _ _ _ (Option.some.inj e).symm)
 refine zP (zw (i:=12) y6.nd rfl (Or.inl rfl) (cF cIt hr2 (ac (jT zau (pv 0) (uo (zt yz zi (zt xB zi (pv 3)))) (uo (zt yz zi (zt xB zi (pv 3))))) (ac (pv 1) zb)))) ?_;exists _,rfl,_,rfl,_,_,rfl,rfl,.inl ⟨by decide,by decide⟩,_,_,rfl,rfl,_,rfl,_,rfl,_,_,rfl,rfl,.inl ⟨by decide,by decide⟩,_,_,rfl,rfl,_,rfl,sa,_,rfl,uE hS x0 we,fun ca hca=>?_
 obtain⟨cs,ec,lc⟩:=zbG ns (27+10 * i) (37+10 * i);rw[show(27:Int)+10 * (i:Int)=((27+10 * i:Nat):Int) by omega,show(37:Int)+10 * (i:Int)=((37+10 * i:Nat):Int) by omega,ec]
 have t1:=ze hca (.lst (cs.map V.int));have g1:upd J0 ca (.lst (cs.map V.int)) ca=some (.lst (cs.map V.int)):=za;have x1:SX wa H20 _:=x0.same t1;have w1:=t1 _ _ w0;generalize upd J0 ca (.lst (cs.map V.int))=J1 at t1 g1 x1 w1 |-;exists _,rfl,ca,pa,cs,zs,rfl,zg g1,by omega,keep x1 hpa (fun _ _ _ z=>nomatch z),z0,fun z hz=>zhM (znm z hz),fun lh xs J2 t2 nlh hlh hxs=>?_
 have x2:=x1.same t2;have w2:=t2 _ _ w1;have hit:∀it∈cs.map (xQ zs),ItS it:=fun it h=>by
  obtain⟨c',_,rfl⟩:=List.mem_map.mp h;exact zgj zs c'
 have lct:(cs.map (xQ zs)).length<=10:=by rw[length_map];omega
 generalize cs.map (xQ zs)=ct at hxs hit lct;dsimp only[zS];clear ec lc g1 t1 t2 hca w0 x0 w1 x1;refine zP (zE (zn z9 (zt yd (zt yu (cF cN hr1 (ac (pv 0) (ac (zt yz zi (pv 3)) zb))) zi) zi) zi (zz _)) yA zA) ?_;refine wq (fun σ' J'=>∃(v13:Option V) (lh:Addr) (xs:List V) (ct:List xp),σ'=[some (.ref sa),some (.ref pa),some (.ref la),some (.int (i:Int)),some (.ref lb),some (.ref x),some (.ref Dt),v7,some (.int n),some (.ref wa),some (.ref ld),some (.ref p),some (.ref lh),v13,v14,v15,v16,v17,v18,v19]/\SX wa H20 J'/\J' wa=some (.ins CW dw (wl n))/\J' lh=some (.lst xs)/\Paired (zD K T' J' 3) xs (ct.map xu)/\(∀it∈ct,ItS it)/\ct.length<=40) ?_ (fun key=>?_);rotate_left
 ·exists _,rfl,_,rfl,_,_,rfl,rfl,sa,ns,1+i,by congr 2,uE hS x2 we,fun c1=>?_
  exists _,_,rfl,rfl,⟨by decide,by decide⟩,_,_,rfl,rfl,zp2,rfl,_,rfl,?_
  refine vW (fun _=>?_) (fun _=>?_);rotate_left
  ·exact key _ _ ⟨_,lh,xs,ct,rfl,x2,w2,hlh,hxs,hit,by omega⟩
  refine zP (zw (i:=13) y6.nd rfl (Or.inl rfl) (jT zau (pv 12) zhf (uo (zt xB zi (zt yd (zt yu (cF cN hr1 (ac (pv 0) (ac (zt yz zi (pv 3)) zb))) zi) zi))))) ?_;exists _,rfl,_,rfl,_,rfl,_,_,rfl,rfl,sa,ns,1+i,by congr 2,uE hS x2 we,fun c2=>?_
  exists _,_,rfl,rfl,⟨by decide,by decide⟩,_,_,rfl,rfl,zp2,_,_,rfl,rfl,.inl ⟨by decide,by decide⟩,_,rfl,lh,_,rfl,zg hlh,fun lm hlm=>?_
  obtain⟨k,hk⟩:∃k:Nat,2 * (c2 / 6 % 2)=(k:Int):=⟨(2 * (c2 / 6 % 2)).toNat,by omega⟩
  rw[hk,zef];have t3:=ze hlm (.lst (xs.take k));have g3:upd J2 lm (.lst (xs.take k)) lm=some (.lst (xs.take k)):=za;have x3:SX wa H20 _:=x2.same t3;have w3:=t3 _ _ w2;have p3:=zm (fun _ _ z=>z.same t3) (Paired.takeP k hxs);generalize upd J2 lm (.lst (xs.take k))=J3 at t3 g3 x3 w3 p3 |-;dsimp only[zS];exists _,zc (zw (i:=12) y6.nd rfl (Or.inl rfl) (zt xI (cF cWa hr2 (ac (pv 2) (ac (cF cN hr1 (ac (pv 0) (ac (zt yz zi (pv 3)) zb))) zb))) (pv 13))),?_;exists _,rfl,_,rfl,_,rfl,_,_,rfl,rfl,sa,ns,4+i,by congr 2,uE hS x3 we,fun c3=>?_
  exists la,c3,us,rows,rfl,keep x3 hla (fun _ _ _ z=>nomatch z),zm (fun _ r z=>keep (o:=.tup (rv r)) x3 z (fun _ _ _ y=>nomatch y)) hus,V1,fun lw ys cw J4 t4 nlw hlw hys hiw lcw=>?_;have lxs:xs.length=ct.length:=by rw[hxs.length,length_map]
  have lys:ys.length=cw.length:=by rw[hys.length,length_map]
  exists _,rfl,lw,lm,_,_,rfl,rfl,hlw,t4 _ _ g3,yj (by rw[length_take];omega),fun l2 hl2=>?_
  have t5:=ze hl2 (.lst (ys++xs.take k));refine key _ _ ⟨_,l2,ys++xs.take k,cw++ct.take k,rfl,(x3.same t4).same t5,t5 _ _ (t4 _ _ w3),za,?_,fun it h=>?_,by rw[length_append,length_take];omega⟩
  ·rw[map_append,map_take]
   exact ya (zm (fun _ _ z=>(xk (fun _ _ _=>trivial) z).same t5) hys) (zm (fun _ _ z=>(z.same t4).same t5) p3)
  ·rcases List.mem_append.mp h with h|h
   ·exact hiw it h
   ·exact hit it (List.mem_of_mem_take h)
 clear hit lct hxs hlh nlh w2 x2;rintro σ J2 ⟨v13,lh,xs,ct,rfl,x2,w2,hlh,hxs,hit,lct⟩;obtain⟨lT,lP⟩:=zdl hit;have lxs:xs.length=ct.length:=by rw[hxs.length,length_map]
 refine zP (zw (i:=14) y6.nd rfl (Or.inl rfl) (cTy xl T.list PyProof.Rows.boot_list (ac (pv 12) zb))) ?_;exists _,rfl,lh,_,rfl,.inl (zg hlh),fun lk hlk=>?_;have t3:=ze hlk (.lst xs);have hk3:upd J2 lk (.lst xs) lk=some (.lst xs):=za;have x3:SX wa H20 _:=x2.same t3;have w3:=t3 _ _ w2;have hlh:=t3 _ _ hlh;have hxs:=zm (fun _ _ z=>z.same t3) hxs;dsimp only[zS];generalize upd J2 lk (.lst xs)=J3 at t3 hk3 x3 w3 hlh hxs |-;have fn3:=fn20.sx x3 w3;have cok:∀{J:Hp},SX wa J3 J->qA K J lh ct:=fun s=>⟨⟨xs,uE (zg hlh) s w3,zm (fun _ _ z=>vJ z s w3) hxs⟩,by omega,by omega⟩
 refine zP (zw (i:=15) y6.nd rfl (Or.inl rfl) (cF cMi hr5 (ac (pv 5) (ac (pv 12) zb)))) ?_;exists _,rfl,_,rfl,x,lh,rows,bars,ct,rfl,fn3.fo,cok SX.refl,fun lw J4 t4 ⟨ws,nlw,hlw,hms⟩=>?_;have x34:SX wa J3 J4:=fun b u e _=>t4 _ _ e;have w4:=t4 _ _ w3;have fn4:=fn3.sx x34 w4;dsimp only[zS];refine zP (zw (i:=16) y6.nd rfl (Or.inl rfl) (cF cRe hr (ac (pv 11) (ac (pv 12) zb)))) ?_;refine(fun (key0:∀(t:Addr) (J5:Hp) (n':Int),SX wa J4 J5->J5 wa=some (.ins CW dw (wl n'))->((wP rows bars ct=[]/\∃g,J5 t=some (.tup [.str "told",.ref g])/\zD K (fun b=>J4 b=none) J5 3 (.ref g) (.lst (yr rows es ct n rows.length).1)/\n'=(yr rows es ct n rows.length).2)\/∃m ms,wP rows bars ct=m::ms/\J5 t=some (.tup [.str m.1,.int (m.2:Nat)])/\n'=n)->_)=>⟨_,rfl,_,rfl,p,x,wa,D,dw,lh,rows,bars,us2,es,n,ct,rfl,fn4,cok x34,fun em t g J5 x45 ht hg w5=>key0 t J5 _ x45 w5 (.inl ⟨em,g,ht,hg,rfl⟩),fun m ms em t J5 t5 ht=>key0 t J5 n (fun b u e _=>t5 _ _ e) (t5 _ _ w4) (.inr ⟨m,ms,em,ht,rfl⟩)⟩) ?_;intro t J5 n' x45 w5 dis;dsimp only[zS];refine zP (zE (zn (zfr hr.units0) (pv 15) (yg zb) (zz _)) yA yA) ?_;refine wq (fun σ' J'=>∃(v17 v18 v19:Option V),σ'=[some (.ref sa),some (.ref pa),some (.ref la),some (.int (i:Int)),some (.ref lb),some (.ref x),some (.ref Dt),v7,some (.int n'),some (.ref wa),some (.ref ld),some (.ref p),some (.ref lh),v13,some (.ref lk),some (.ref lw),some (.ref t),v17,v18,v19]/\SX wa J3 J'/\J' wa=some (.ins CW dw (wl n'))) ?_ (fun key=>?_)
 ·rintro σ J ⟨v17,v18,v19,rfl,xJ,wJ⟩
  have pJ:=zm (fun _ _ z=>vJ z xJ w3) hxs;exists _,zc (zE (zn (zcs hU) (pv 12) (pv 14) (zz _)) (zc (zu jW)) zA),?_;exists _,rfl,_,rfl,lh,lk,3,.lst (ct.map xu),T',T',rfl,rfl,by decide,zD.lst trivial (xJ _ _ hlh (ym hlh w3 (by intro z;cases z))) pJ,zD.lst trivial (xJ _ _ hk3 (ym hk3 w3 (by intro z;cases z))) pJ,_,rfl,?_
  refine yo ?_;exact⟨_,_,_,_,_,_,_,_,_,n',rfl,fun b u e nb=>xJ _ _ (x3 _ _ e nb) nb,wJ⟩
 exists _,rfl,wj,fun le hle=>?_;have t6:=ze hle (.lst []);have g6:upd J5 le (.lst []) le=some (.lst []):=za;have x36:SX wa J3 _:=SX.same (fun b u e nb=>x45 _ _ (t4 _ _ e) nb) t6;have w6:=t6 _ _ w5;have hlw6:=t6 _ _ (x45 _ _ hlw (ym hlw w4 (by intro z;cases z)))
 generalize upd J5 le (.lst [])=J6 at t6 g6 x36 w6 hlw6 |-;exists lw,le,_,rfl,rfl,hlw6,g6,_,rfl,?_;rcases dis with ⟨em,g,ht,hg,rfl⟩|⟨m,ms,em,ht,rfl⟩
 rotate_left
 ·rw[em] at hms
  cases hms with
  | cons hm hms'=>
  rename_i u us';have hm:J4 u=some (.tup [.str m.1,.int (m.2:Nat)]):=hm;refine xE rfl ?_;exists _,zc (zE (xi (jS (zn (zcs hU) (pv 16) (zy zL (pv 15) zi (fun _ _=>rfl)) (zz _)) (uK (zn zfs (yi (pv 9) WC.cl mA GA hr1 bA .nil zW) (pv 8) (zz _))))) (zc (zu jW)) zA),?_;exists _,rfl,_,rfl,lw,_,0,.ref u,rfl,rfl,zg hlw6,yO (j:=0) rfl,t,u,0,.tup [.str m.1,.int (m.2:Nat)],T',T',rfl,rfl,by decide,zD.tup (zv (t6 _ _ ht)) (.cons .str (.cons .int .nil)),zD.tup (zv (t6 _ _ (x45 _ _ hm (ym hm w4 (by intro z;cases z))))) (.cons .str (.cons .int .nil)),_,rfl,?_
  refine yo ?_;exists _,rfl,wa,dw,_,rfl,w6,jv _ nm2,wa,dw,_,rfl,w6,_,rfl,rfl,_,rfl,?_;refine yW (by rw[decide_eq_true rfl];rfl) ?_
  exact key _ _ ⟨_,_,_,rfl,x36,w6⟩
 rw[em] at hms;cases hms;refine yW rfl ?_;refine zP (vd (cF cLa hr1 (ac (pv 12) zb)) (yE rfl (zB (zp (i:=17) y6.nd rfl (Or.inl rfl)) (zB (zp (i:=18) y6.nd rfl (Or.inl rfl)) yk)))) ?_;exists _,rfl,lh,ct,xs,rfl,uE (zg hlh) x36 w3,zm (fun _ _ z=>vJ z x36 w3) hxs,by omega,by omega,fun pt J7 t7 ⟨l1,l2,ys,n1,n2,n12,np,hpt,hl1,hl2,hys⟩=>?_
 exists pt,_,rfl,zv hpt,rfl,_,_,rfl,_,_,rfl,rfl,?_;dsimp only[zS];have x37:SX wa J3 J7:=x36.same t7;have fn7:=fn3.sx x37 (t7 _ _ w6);refine zP (vd (cF cVa hr1 (ac (cS (E:=fun _ _ _=>False) cPa zjv hr5 (ac (pv 5) (ac (pv 12) zb))) (ac (pv 17) (ac (pv 18) (ac (pv 6) (ac (pv 8) zb)))))) (yE rfl (zB (zp (i:=19) y6.nd rfl (Or.inl rfl)) (zB (zp (i:=8) y6.nd rfl (Or.inl rfl)) yk)))) ?_;refine⟨_,rfl,_,rfl,x,lh,rows,bars,ct,rfl,fn7.fo,cok x37,fun _ l xs' J8 t8 nl hl hxs'=>?_,fun m ms e=>by rw[em] at e;cases e⟩
 have x08:SX wa H20 J8:=fun b u e nb=>t8 _ _ (x37 _ _ (x3 _ _ e nb) nb);exists _,rfl,_,rfl,_,rfl,_,rfl,l,l1,l2,Dt,n,rows,bars,uts',es,ct,xs',ys,rfl,V1,em,by omega,by omega,hl,zm (fun _ _ z=>xk (fun _ _ _=>trivial) z) hxs',t8 _ _ hl1,t8 _ _ hl2,yS t8 hys,keep x08 hD20 (fun _ _ _ z=>nomatch z),zm (fun _ d z=>keep (o:=.tup d.row) x08 z (fun _ _ _ y=>nomatch y)) pr20,gds,nds,fun tv g2 J9 t9 htv hg2=>?_
 exists tv,_,rfl,zv htv,rfl,_,_,rfl,_,_,rfl,rfl,?_;dsimp only[zS];have t69:=t7.trans (t8.trans t9);have t59:=t6.trans t69;exists _,zc (zE (xi (jS (zn (zcs hU) (pv 16) (zQ (ac zr (ac (pv 19) zb))) (zz _)) (jS (vc (yp (cB je T.isi boot_isinstance (ac (zy zJ (pv 16) zi (fun _ _=>rfl)) (ac (zde (v:=.ty "list") rfl T.list PyProof.Rows.boot_list rfl) zb))))) (uK (zn zfs (yi (pv 9) WC.cl mA GA hr1 bA .nil zW) (pv 8) (zz _)))))) (zc (zu jW)) zA),?_;exists _,rfl,_,rfl,yN,fun tf htf=>?_;have tA:=ze htf (.tup [.str "told",.ref g2]);have gA:upd J9 tf (.tup [.str "told",.ref g2]) tf=some (.tup [.str "told",.ref g2]):=za;have t5A:=t59.trans tA;have wA:=tA _ _ (t69 _ _ w6);have x3A:SX wa J3 _:=x36.same (t69.trans tA);have hg2:=hg2.same tA;generalize upd J9 tf (.tup [.str "told",.ref g2])=JA at tA gA t5A wA x3A hg2 |-;have htA:=t5A _ _ ht;have hgA:=hg.same t5A;exists t,tf,3,.tup [.str "told",.lst (yr rows es ct n rows.length).1],T',T',rfl,rfl,by decide,zD.tup (zv htA) (.cons .str (.cons (xk (fun _ _ _=>trivial) hgA) .nil)),zD.tup (zv gA) (.cons .str (.cons (xk (fun _ _ _=>trivial) hg2) .nil)),_,rfl,?_
 refine yo ?_;obtain⟨g',vg,eg,_,hgl,_⟩:=wk hgA;cases eg;exists _,rfl,t,_,1,.ref g,rfl,rfl,zv htA,rfl,_,_,_,_,rfl,.lst hgl,zaT K,_,rfl,?_;refine yo ?_;exists _,rfl,wa,dw,_,rfl,wA,jv _ nm2,wa,dw,_,rfl,wA,_,rfl,rfl,_,rfl,?_;refine yW (by rw[decide_eq_true rfl];rfl) ?_
 exact key _ _ ⟨_,_,_,rfl,x3A,wA⟩
end
end K43
namespace L2
open PySem PySem.Spec PyProof.Rows
section
variable {P:Program}{w:World}{K:Frag}{mg:Str->Option Value}{base h:Heap}{x q p p2 p3 p4 p5:Str}{st:Stmt}{f C T:Addr}{fd:FuncData}{sp:Sp}{k n:Nat}
structure TB(P:Program)(w:World)(K:Frag)(mg:Str->Option Value)(base:Heap):Prop where
 mgo:∀{x:Str}{v:Value},nsIn K mainGlobals x=some (some v)->mg x=some v
structure GD(K:Frag)(x:Str)(st:Stmt)(f:Addr)(fd:FuncData):Prop where
 a:nsIn K mainGlobals x=some (some (.ref f))
 F:Fun K x x st f fd
structure MD(K:Frag)(C:Addr)(x q:Str)(st:Stmt)(f:Addr)(fd:FuncData):Prop where
 m:yT K C x f
 F:Fun K x q st f fd
structure DD(K:Frag)(C:Addr)(x q:Str)(st:Stmt)(f:Addr)(fd:FuncData)(ds:List Value):Prop where
 m:yT K C x f
 F:qv K x q st f fd ds
structure CD(K:Frag)(x:Str)(C:Addr):Prop where
 a:nsIn K mainGlobals x=some (some (.ref C))
 c:Cls K C
 ms:makesIn K C=true
 kc:keepIn K (.ref C)=true
theorem zmx{oc:Value}{od an:Option Addr}{osl:Array (Option Value)}{kV doc pm cdv ct:Value}(a:nsIn K mainGlobals x=some (some (.ref f)))(l:K.lookup f=some ⟨oc,od,.func (fnOf x x (yb st) (zY st) (zj st) .none kV doc pm an cdv ct),osl⟩)
  (c:codeIn K cdv x=true) (k:keepIn K (.ref f)=true):GD K x st f (fnOf x x (yb st) (zY st) (zj st) .none kV doc pm an cdv ct):=⟨a,zgo l c k⟩
theorem zmw{oc:Value}{od an:Option Addr}{osl:Array (Option Value)}{kV doc pm cdv ct:Value}(a:findIn K (.ref C) x=some (some (.ref f)))(i:isFn K (.ref f)=true)(l:K.lookup f=some ⟨oc,od,.func (fnOf x q (yb st) (zY st) (zj st) .none kV doc pm an cdv ct),osl⟩)
  (c:codeIn K cdv q=true) (k:keepIn K (.ref f)=true):MD K C x q st f (fnOf x q (yb st) (zY st) (zj st) .none kV doc pm an cdv ct):=⟨⟨a,i,k⟩,zgo l c k⟩
theorem zmy{oc oT:Value}{od an dT:Option Addr}{osl sT:Array (Option Value)}{kV doc pm cdv ct d:Value}(a:findIn K (.ref C) x=some (some (.ref f)))(i:isFn K (.ref f)=true)(l:K.lookup f=some ⟨oc,od,.func (fnOf x q (yb st) (zY st) (zj st) (.ref T) kV doc pm an cdv ct),osl⟩)
  (c:codeIn K cdv q=true) (k:keepIn K (.ref f)=true) (t:K.lookup T=some ⟨oT,dT,.seq #[d] n,sT⟩):DD K C x q st f (fnOf x q (yb st) (zY st) (zj st) (.ref T) kV doc pm an cdv ct) [d]:=⟨⟨a,i,k⟩,zhY (items:=[d]) l c k t rfl⟩
theorem zmz(a:nsIn K mainGlobals x=some (some (.ref C)))(pg:plainGet K C Str.empty=true)(hd:hasDictIn K C=true)(po:plainOver K C=true)(sa:findIn K (.ref C) "__setattr__"=some (some (.builtin "object.__setattr__")))(mk:makesIn K C=true)(kc:keepIn K (.ref C)=true):CD K x C:=⟨a,⟨pg,hd,po,sa⟩,mk,kc⟩
theorem Fun.b1(F:Fun K x q st f fd)(h:∀(kV doc pm:Value) (an:Option Addr) (cdv ct u:Value),bindArgs (fnOf x q (yb st) (zY st) (zj st) .none kV doc pm an cdv ct) ⟨[u],[]⟩=pure [(p,u)]:=by intros;rfl):zN K fd [p] []:=
 F.binds fun _ _ _ _ _ _ us hl=>match us,hl with|[_],_=>h _ _ _ _ _ _ _
theorem Fun.b2(F:Fun K x q st f fd)(h:∀(kV doc pm:Value) (an:Option Addr) (cdv ct u u2:Value),bindArgs (fnOf x q (yb st) (zY st) (zj st) .none kV doc pm an cdv ct) ⟨[u,u2],[]⟩=pure [(p,u),(p2,u2)]:=by intros;rfl):zN K fd [p,p2] []:=
 F.binds fun _ _ _ _ _ _ us hl=>match us,hl with|[_,_],_=>h _ _ _ _ _ _ _ _
theorem Fun.b3(F:Fun K x q st f fd)(h:∀(kV doc pm:Value) (an:Option Addr) (cdv ct u u2 u3:Value),bindArgs (fnOf x q (yb st) (zY st) (zj st) .none kV doc pm an cdv ct) ⟨[u,u2,u3],[]⟩=pure [(p,u),(p2,u2),(p3,u3)]:=by intros;rfl):zN K fd [p,p2,p3] []:=
 F.binds fun _ _ _ _ _ _ us hl=>match us,hl with|[_,_,_],_=>h _ _ _ _ _ _ _ _ _
theorem Fun.b4(F:Fun K x q st f fd)(h:∀(kV doc pm:Value) (an:Option Addr) (cdv ct u u2 u3 u4:Value),bindArgs (fnOf x q (yb st) (zY st) (zj st) .none kV doc pm an cdv ct) ⟨[u,u2,u3,u4],[]⟩=pure [(p,u),(p2,u2),(p3,u3),(p4,u4)]:=by intros;rfl):zN K fd [p,p2,p3,p4] []:=
 F.binds fun _ _ _ _ _ _ us hl=>match us,hl with|[_,_,_,_],_=>h _ _ _ _ _ _ _ _ _ _
theorem Fun.b5(F:Fun K x q st f fd)(h:∀(kV doc pm:Value) (an:Option Addr) (cdv ct u u2 u3 u4 u5:Value),bindArgs (fnOf x q (yb st) (zY st) (zj st) .none kV doc pm an cdv ct) ⟨[u,u2,u3,u4,u5],[]⟩=pure [(p,u),(p2,u2),(p3,u3),(p4,u4),(p5,u5)]:=by intros;rfl):zN K fd [p,p2,p3,p4,p5] []:=
 F.binds fun _ _ _ _ _ _ us hl=>match us,hl with|[_,_,_,_,_],_=>h _ _ _ _ _ _ _ _ _ _ _
theorem GD.c1(g:GD K x st f fd)(B:TB P w K mg base)(ok:zx P w K mg base CX0 k f fd [p] sp)(h:∀(kV doc pm:Value) (an:Option Addr) (cdv ct u:Value),bindArgs (fnOf x x (yb st) (zY st) (zj st) .none kV doc pm an cdv ct) ⟨[u],[]⟩=pure [(p,u)]:=by intros;rfl):zI P w K mg base k x f fd [p] sp:=⟨ok,B.mgo g.a,g.F.kp,g.F.b1 h⟩
theorem GD.c2(g:GD K x st f fd)(B:TB P w K mg base)(ok:zx P w K mg base CX0 k f fd [p,p2] sp)(h:∀(kV doc pm:Value) (an:Option Addr) (cdv ct u u2:Value),bindArgs (fnOf x x (yb st) (zY st) (zj st) .none kV doc pm an cdv ct) ⟨[u,u2],[]⟩=pure [(p,u),(p2,u2)]:=by intros;rfl):zI P w K mg base k x f fd [p,p2] sp:=⟨ok,B.mgo g.a,g.F.kp,g.F.b2 h⟩
theorem GD.c3(g:GD K x st f fd)(B:TB P w K mg base)(ok:zx P w K mg base CX0 k f fd [p,p2,p3] sp)(h:∀(kV doc pm:Value) (an:Option Addr) (cdv ct u u2 u3:Value),bindArgs (fnOf x x (yb st) (zY st) (zj st) .none kV doc pm an cdv ct) ⟨[u,u2,u3],[]⟩=pure [(p,u),(p2,u2),(p3,u3)]:=by intros;rfl):zI P w K mg base k x f fd [p,p2,p3] sp:=⟨ok,B.mgo g.a,g.F.kp,g.F.b3 h⟩
theorem GD.c4(g:GD K x st f fd)(B:TB P w K mg base)(ok:zx P w K mg base CX0 k f fd [p,p2,p3,p4] sp)(h:∀(kV doc pm:Value) (an:Option Addr) (cdv ct u u2 u3 u4:Value),bindArgs (fnOf x x (yb st) (zY st) (zj st) .none kV doc pm an cdv ct) ⟨[u,u2,u3,u4],[]⟩=pure [(p,u),(p2,u2),(p3,u3),(p4,u4)]:=by intros;rfl):zI P w K mg base k x f fd [p,p2,p3,p4] sp:=⟨ok,B.mgo g.a,g.F.kp,g.F.b4 h⟩
theorem GD.c5(g:GD K x st f fd)(B:TB P w K mg base)(ok:zx P w K mg base CX0 k f fd [p,p2,p3,p4,p5] sp)(h:∀(kV doc pm:Value) (an:Option Addr) (cdv ct u u2 u3 u4 u5:Value),bindArgs (fnOf x x (yb st) (zY st) (zj st) .none kV doc pm an cdv ct) ⟨[u,u2,u3,u4,u5],[]⟩=pure [(p,u),(p2,u2),(p3,u3),(p4,u4),(p5,u5)]:=by intros;rfl):zI P w K mg base k x f fd [p,p2,p3,p4,p5] sp:=⟨ok,B.mgo g.a,g.F.kp,g.F.b5 h⟩
theorem GD.law(g:GD K x st f fd)(h:∀(kV doc pm:Value) (an:Option Addr) (cdv ct u:Value),bindArgs (fnOf x x (yb st) (zY st) (zj st) .none kV doc pm an cdv ct) ⟨[u],[]⟩=pure [(p,u)]:=by intros;rfl):∀(s:Shared) (v:Value),BindsTo s fd ⟨[v],[]⟩ [(p,v)]:=by
 obtain⟨oc,od,kV,doc,pm,an,cdv,ct,osl,rfl,lk,hcd⟩:=g.F.ex;exact fun s v=>.of_eq (h kV doc pm an cdv ct v)
theorem DD.b0{d:Value}(D:DD K C x q st f fd [d])(h:∀(T:Addr) (kV doc pm:Value) (an:Option Addr) (cdv ct u u2 u3:Value),∃k:Option (Array Value)->Sem (List (Str×Value)),bindArgs (fnOf x q (yb st) (zY st) (zj st) (.ref T) kV doc pm an cdv ct) ⟨[u,u2,u3],[]⟩=seqItems? (.ref T) >>= k/\k (some [d].toArray)=pure [(p,u),(p2,u2),(p3,u3)]:=by exact fun _ _ _ _ _ _ _ _ _ _=>⟨_,rfl,rfl⟩):zN K fd [p,p2,p3] []:=
 fun _ us KX hl=>match us,hl with|[_,_,_],_=>D.F.bindsTo (fun _ _ _ _ _ _ _=>h _ _ _ _ _ _ _ _ _ _) KX
end
end L2
def PySem.W.Fast.tw16827665344610432744:Unit:=()
def PySem.W.Fast.tw6441290555792186990:Unit:=()
def PySem.W.Fast.tw9313533061003208113:Unit:=()
def PySem.W.Fast.tw15238635780548429692:Unit:=()
def PySem.W.Fast.tw336670882866546807:Unit:=()
def PySem.W.Fast.tw2331050731107982916:Unit:=()
def PySem.W.Fast.tw1096913807650667770:Unit:=()
def PySem.W.Fast.tw2453713085815862262:Unit:=()
def PySem.W.Fast.tw6150954671875666136:Unit:=()
def PySem.W.Fast.tw1612401360553989727:Unit:=()
def PySem.W.Fast.tw17904789508629649275:Unit:=()
def PySem.W.Fast.tw15262031725000113483:Unit:=()
def PySem.W.Fast.tw12350428141909704063:Unit:=()
def PySem.W.Fast.tw12799135832218150108:Unit:=()
def PySem.W.Fast.tw10068364894605080369:Unit:=()
def PySem.W.Fast.tw2331729485405188493:Unit:=()
def PySem.W.Fast.tw4198189803484475636:Unit:=()
def PySem.W.Fast.tw17732876090293855747:Unit:=()
def PySem.W.Fast.tw3342418143505925055:Unit:=()
def PySem.W.Fast.tw13557103515558342413:Unit:=()
def PySem.W.Fast.tw15185101858750630843:Unit:=()
def PySem.W.Fast.tw1990161997109682768:Unit:=()
def PySem.W.Fast.tw9450491367035019615:Unit:=()
def PySem.W.Fast.tw13495867046823918922:Unit:=()
def PySem.W.Fast.tw9682397229803897348:Unit:=()
def PySem.W.Fast.tw7610687152158220091:Unit:=()
def PySem.W.Fast.tw4890237876307283622:Unit:=()
def PySem.W.Fast.tw12132038043988605472:Unit:=()
def PySem.W.Fast.tw3519232793472383312:Unit:=()
def PySem.W.Fast.tw10261649523257755152:Unit:=()
def PySem.W.Fast.tw1263760265374065998:Unit:=()
def PySem.W.Fast.tw5944187063624638379:Unit:=()
def PySem.W.Fast.tw6774263714632008411:Unit:=()
def PySem.W.Fast.tw18136574450005644321:Unit:=()
def PySem.W.Fast.tw17673950684348179898:Unit:=()
def PySem.W.Fast.tw12088195550971828411:Unit:=()
def PySem.W.Fast.tw17778656582703292718:Unit:=()
def PySem.W.Fast.tw17843588435087520271:Unit:=()
def PySem.W.Fast.tw17814917895971536358:Unit:=()
def PySem.W.Fast.tw15266767317836317196:Unit:=()
def PySem.W.Fast.tw14411519449348219027:Unit:=()
def PySem.W.Fast.tw8096778489476402659:Unit:=()
def PySem.W.Fast.tw6243261506983905139:Unit:=()
def PySem.W.Fast.tw5801582435983194205:Unit:=()
def PySem.W.Fast.tw9349627446112229572:Unit:=()
def PySem.W.Fast.tw8546554800725487912:Unit:=()
def PySem.W.Fast.tw4863370881650072071:Unit:=()
def PySem.W.Fast.tw12677143314693025804:Unit:=()
def PySem.W.Fast.tw3193605686098113247:Unit:=()
def PySem.W.Fast.tw17115525566910887428:Unit:=()
def PySem.W.Fast.tw4483806751459591976:Unit:=()
def PySem.W.Fast.tw11678737728612511100:Unit:=()
def PySem.W.Fast.tw15472856310695245600:Unit:=()
def PySem.W.Fast.tw14424404878511236894:Unit:=()
def PySem.W.Fast.tw7223523675730314199:Unit:=()
def PySem.W.Fast.tw4953625373252723894:Unit:=()
def PySem.W.Fast.tw16710904591683353431:Unit:=()
def PySem.W.Fast.tw6709758922035163505:Unit:=()
def PySem.W.Fast.tw11297266726035590164:Unit:=()
def PySem.W.Fast.tw7924191469095816196:Unit:=()
def PySem.W.Fast.tw4624016358843001884:Unit:=()
def PySem.W.Fast.tw11174834699778491110:Unit:=()
def PySem.W.Fast.tw14830542933243681392:Unit:=()
def PySem.W.Fast.tw2112732538668367190:Unit:=()
def PySem.W.Fast.tw5237553462309033723:Unit:=()
def PySem.W.Fast.tw9482400689042293614:Unit:=()
def PySem.W.Fast.tw59412753361390530:Unit:=()
def PySem.W.Fast.tw2734603021741634621:Unit:=()
def PySem.W.Fast.tw14161521990432935128:Unit:=()
def PySem.W.Fast.tw11048455739795525353:Unit:=()
def PySem.W.Fast.tw1353061766429523275:Unit:=()
def PySem.W.Fast.tw6099697306255865084:Unit:=()
def PySem.W.Fast.tw6878103637338989578:Unit:=()
def PySem.W.Fast.tw4557927158577109661:Unit:=()
def PySem.W.Fast.tw5019213920061620477:Unit:=()
def PySem.W.Fast.tw1952085710568317010:Unit:=()
def PySem.W.Fast.tw18375554634794859268:Unit:=()
def PySem.W.Fast.tw12491189932710876563:Unit:=()
def PySem.W.Fast.tw13642720007994069489:Unit:=()
def PySem.W.Fast.tw14712659332555125620:Unit:=()
def PySem.W.Fast.tw13996286608679125977:Unit:=()
def PySem.W.Fast.tw11032462925468862615:Unit:=()
def PySem.W.Fast.tw11909371870931066373:Unit:=()
def PySem.W.Fast.tw7893415225449980099:Unit:=()
def PySem.W.Fast.tw840955024037357248:Unit:=()
def PySem.W.Fast.tw17399385284519031394:Unit:=()
def PySem.W.Fast.tw859946081734886577:Unit:=()
def PySem.W.Fast.tw15116549256241286070:Unit:=()
def PySem.W.Fast.tw14306454675159670908:Unit:=()
def PySem.W.Fast.tw17230502691942129928:Unit:=()
def PySem.W.Fast.tw6792328252014523525:Unit:=()
namespace K43
open PySem L2 PyProof.Rows
theorem zhR{w:World}{K:Frag}{Gr:Addr}{es:Array DictEntry}{n:Nat}{t0 t1 t2 t3 t4:Tok}(hl:K.lookup Gr=some ⟨.type "dict",none,.dict es n,#[]⟩)(hk:KeysLit w.params es.toList)(h0:nsIn K Gr "seat"=some (some (.int 0 t0)))(h1:nsIn K Gr "both"=some (some (.int 0 t1)))(h2:nsIn K Gr "tail"=some (some (.int 1 t2)))
  (h3:nsIn K Gr "tag"=some (some (.int 2 t3))) (h4:nsIn K Gr "bag"=some (some (.int 3 t4))):zkb w K Gr zhU:=by
 exists ⟨es,n,hl,hk⟩,fun x v h=>?_;unfold zhU at h;by_cases e0:x="seat"
 ·subst e0;rw[lookup_cons_self] at h;cases h;exact⟨_,h0,_,rfl⟩
 rw[lookup_cons,beq_eq_false_iff_ne.mpr e0] at h;by_cases e1:x="both"
 ·subst e1;rw[lookup_cons_self] at h;cases h;exact⟨_,h1,_,rfl⟩
 rw[lookup_cons,beq_eq_false_iff_ne.mpr e1] at h;by_cases e2:x="tail"
 ·subst e2;rw[lookup_cons_self] at h;cases h;exact⟨_,h2,_,rfl⟩
 rw[lookup_cons,beq_eq_false_iff_ne.mpr e2] at h;by_cases e3:x="tag"
 ·subst e3;rw[lookup_cons_self] at h;cases h;exact⟨_,h3,_,rfl⟩
 rw[lookup_cons,beq_eq_false_iff_ne.mpr e3] at h;by_cases e4:x="bag"
 ·subst e4;rw[lookup_cons_self] at h;cases h;exact⟨_,h4,_,rfl⟩
 rw[lookup_cons,beq_eq_false_iff_ne.mpr e4] at h;cases h
theorem zmk{l:PySem.W.OpenLaw}{w:World}{K:Frag}{h:Heap}{mg:Str->Option Value}{fa D C0 C1 C2 C3 C4 FM f1 f2 f3 f4 f5 f6 f7 f8 f9 f10 f11 f12 f13 f14 f15 f16 f17 f18 f19 f20 f21 f22 f23 f24 f25 f26 f27 f28 Q0 Q1 Q2 Q3 FU WE f29 f30 f31 f32 f33 f34 f35 f36 f37 f38 f39 f40 f41 f42 f43 f44 f45 f46 f47 f48 f49 f50 f51 f52 f53 f54 f55 f56 f57 f58 f59 f60 f61 f62 f63 f64 f65 f66 f67 f68 f69 f70 DF E9 E10 E11 E12 E13 E14 E15:Addr}{e1 e2 e3 e4 e5 e6 e7 e8 e9 e10 e11 e12 e13 e14 e15 e16 e17 e18 e19 e20 e21 e22 e23 e24 e25 e26 e27 e28 e29 e30 e31 e32 e33 e34 e35 e36 e37 e38 e39 e40 e41 e42 e43 e44 e45 e46 e47 e48 e49 e50 e51 e52 e53 e54 e55 e56 e57 e58 e59 e60 e61 e62 e63 e64 e65 e66 e67 e68 e69 e70:FuncData}{tP tB tO sg Gr:Addr}{tL tN tMP tMB ktP0 ktP1 ktB0 ktB1 ktO0 ktO1 ktO2 ksg0 ksg1 kG0 kG1 kG2 kG3 kG4 tk1:Tok}{odtP odtB odtO odsg:Option Addr}{ntP ntB ntO nsg nG:Nat}{sltP sltB sltO slsg:Array (Option Value)}{esG:Array DictEntry}(X:K.In h)(G:h.Ns mainGlobals mg)(hfa:mg "law"=some (.ref fa))
  (cD:CD K "Parameter" D)
  (cC0:CD K "Seat" C0)
  (nC0:findIn K (.ref C0) "word"=some none/\findIn K (.ref C0) "name"=some none/\findIn K (.ref C0) "may_lack"=some none)
  (cC1:CD K "Both" C1)
  (nC1:findIn K (.ref C1) "word"=some none/\findIn K (.ref C1) "name"=some none/\findIn K (.ref C1) "may_lack"=some none)
  (cC2:CD K "Tail" C2)
  (nC2:findIn K (.ref C2) "word"=some none/\findIn K (.ref C2) "name"=some none/\findIn K (.ref C2) "may_lack"=some none)
  (cC3:CD K "Tag" C3)
  (nC3:findIn K (.ref C3) "word"=some none/\findIn K (.ref C3) "name"=some none/\findIn K (.ref C3) "may_lack"=some none)
  (cC4:CD K "Bag" C4)
  (nC4:findIn K (.ref C4) "word"=some none/\findIn K (.ref C4) "name"=some none/\findIn K (.ref C4) "may_lack"=some none)
  (cFM:CD K "Form" FM)
  (nFM:findIn K (.ref FM) "row"=some none/\findIn K (.ref FM) "bar_names"=some none/\findIn K (.ref FM) "place_count"=some none/\findIn K (.ref FM) "tail_number"=some none/\findIn K (.ref FM) "bag_number"=some none/\findIn K (.ref FM) "doors"=some none)
  (g1:GD K "is_name" sIs f1 e1)
  (g2:MD K D "__init__" "Parameter.__init__" zcc f2 e2)
  (g3:MD K D "free" "Parameter.free" ze6 f3 e3)
  (g4:MD K D "by_place" "Parameter.by_place" jP f4 e4)
  (g5:MD K D "by_name" "Parameter.by_name" zaH f5 e5)
  (g6:MD K D "takes_one" "Parameter.takes_one" zb6 f6 e6)
  (g7:MD K D "told" "Parameter.told" zkH f7 e7)
  (g8:DD K C0 "__init__" "Seat.__init__" zeY f8 e8 [Value.bool false])
  (g9:DD K C1 "__init__" "Both.__init__" zfb f9 e9 [Value.bool false])
  (g10:MD K C2 "__init__" "Tail.__init__" zeX f10 e10)
  (g11:DD K C3 "__init__" "Tag.__init__" zi9 f11 e11 [Value.bool false])
  (g12:MD K C4 "__init__" "Bag.__init__" zjg f12 e12)
  (g13:DD K FM "__init__" "Form.__init__" zcl f13 e13 [Value.none])
  (g14:MD K FM "keep" "Form.keep" ze5 f14 e14)
  (g15:MD K FM "parameters" "Form.parameters" zck f15 e15)
  (g16:MD K FM "bars" "Form.bars" zcm f16 e16)
  (g17:MD K FM "places" "Form.places" jN f17 e17)
  (g18:MD K FM "tail" "Form.tail" zcj f18 e18)
  (g19:MD K FM "bag" "Form.bag" ze9 f19 e19)
  (g20:MD K FM "number_of" "Form.number_of" ze8 f20 e20)
  (g21:MD K FM "told" "Form.told" zjf f21 e21)
  (g22:GD K "parameter_of" zja f22 e22)
  (g23:GD K "refuse_too_many" zb9 f23 e23)
  (g24:GD K "refuse_bad_order" zaF f24 e24)
  (g25:GD K "refuse_bars_without_name" zca f25 e25)
  (g26:GD K "refuse_twice" zaE f26 e26)
  (g27:GD K "number_of_word" ze2 f27 e27)
  (yM:nsIn K mainGlobals "Misfit"=some (some (.ref E15)))
  (g28:MD K E15 "__init__" "Misfit.__init__" zeW f28 e28)
  (cQ0:CD K "Told" Q0)
  (nQ0:findIn K (.ref Q0) "number"=some none)
  (cQ1:CD K "Once" Q1)
  (cQ2:CD K "Anew" Q2)
  (cQ3:CD K "Sum" Q3)
  (nQ3:findIn K (.ref Q3) "at"=some none/\findIn K (.ref Q3) "times"=some none/\findIn K (.ref Q3) "plus"=some none)
  (cFU:CD K "Function" FU)
  (nFU:findIn K (.ref FU) "kept_form"=some none/\findIn K (.ref FU) "well"=some none/\findIn K (.ref FU) "defaults"=some none)
  (cWE:CD K "Well" WE)
  (nWE:findIn K (.ref WE) "coming"=some none)
  (g29:MD K Q0 "__init__" "Told.__init__" zcp f29 e29)
  (g30:MD K Q3 "__init__" "Sum.__init__" zfa f30 e30)
  (g31:MD K FU "__init__" "Function.__init__" zb4 f31 e31)
  (g32:MD K FU "answer" "Function.answer" jK f32 e32)
  (g33:MD K FU "left_out" "Function.left_out" zb3 f33 e33)
  (g34:DD K WE "__init__" "Well.__init__" zb1 f34 e34 [Value.int 1 tk1])
  (g35:MD K WE "draw" "Well.draw" zb2 f35 e35)
  (g36:MD K WE "ahead" "Well.ahead" zaA f36 e36)
  (g37:GD K "laid" ze3 f37 e37)
  (g38:GD K "misfits" jM f38 e38)
  (g39:GD K "shape" zb8 f39 e39)
  (g40:GD K "first_numbers" zaG f40 e40)
  (g41:GD K "misfits_of" zjd f41 e41)
  (g42:GD K "overs" zcd f42 e42)
  (g43:GD K "unwelcomes" zi8 f43 e43)
  (g44:GD K "lackings" ze4 f44 e44)
  (g45:GD K "one_entry" ze1 f45 e45)
  (g46:GD K "refuse" zaD f46 e46)
  (g47:GD K "entry" zcn f47 e47)
  (g48:GD K "paper" zcb f48 e48)
  (g49:GD K "free_numbers" zci f49 e49)
  (g50:GD K "refuse_defaults" zeZ f50 e50)
  (g51:GD K "settled" jL f51 e51)
  (g52:GD K "handed_on" uI f52 e52)
  (g53:GD K "_law_nth" zjb f53 e53)
  (g54:GD K "_law_mix" zjc f54 e54)
  (g55:GD K "_law_pool" ze0 f55 e55)
  (g56:GD K "_law_specs" zb7 f56 e56)
  (g57:GD K "_law_bars" zfc f57 e57)
  (g58:GD K "_law_thing" zb5 f58 e58)
  (g59:GD K "_law_items" zch f59 e59)
  (g60:GD K "_law_laid" zcf f60 e60)
  (g61:GD K "_law_single" zaC f61 e61)
  (g62:GD K "_law_loose" zce f62 e62)
  (g63:GD K "_law_default" jO f63 e63)
  (g64:GD K "_law_drawn" zco f64 e64)
  (g65:GD K "_law_wanted" zaz f65 e65)
  (g66:GD K "_law_word" zcg f66 e66)
  (g67:GD K "_law_refusal" uH f67 e67)
  (g68:GD K "_law_values" zaB f68 e68)
  (g69:GD K "_law_form" ze7 f69 e69)
  (g70:GD K "law" zje f70 e70)
  (zisinstance:nsIn K mainGlobals "isinstance"=some none)
  (zstr:nsIn K mainGlobals "str"=some none)
  (zbool:nsIn K mainGlobals "bool"=some none)
  (zlen:nsIn K mainGlobals "len"=some none)
  (zall:nsIn K mainGlobals "all"=some none)
  (zrange:nsIn K mainGlobals "range"=some none)
  (zlist:nsIn K mainGlobals "list"=some none)
  (zenumerate:nsIn K mainGlobals "enumerate"=some none)
  (zset:nsIn K mainGlobals "set"=some none)
  (zmax:nsIn K mainGlobals "max"=some none)
  (zint:nsIn K mainGlobals "int"=some none)
  (zzip:nsIn K mainGlobals "zip"=some none)
  (gL:nsIn K mainGlobals "LETTERS"=some (some (.str letters tL)))
  (gN:nsIn K mainGlobals "LONGEST"=some (some (.int 8 tN)))
  (gMP:nsIn K mainGlobals "MOST_PARAMETERS"=some (some (.int 24 tMP)))
  (gMB:nsIn K mainGlobals "MOST_BARS"=some (some (.int 60 tMB)))
  (ytP:nsIn K mainGlobals "BY_PLACE"=some (some (.ref tP)))
  (utP:K.lookup tP=some ⟨.type "tuple",odtP,.seq #[.str "seat" ktP0,.str "both" ktP1] ntP,sltP⟩)
  (ytB:nsIn K mainGlobals "BY_NAME"=some (some (.ref tB)))
  (utB:K.lookup tB=some ⟨.type "tuple",odtB,.seq #[.str "both" ktB0,.str "tag" ktB1] ntB,sltB⟩)
  (ytO:nsIn K mainGlobals "OF_ONE_THING"=some (some (.ref tO)))
  (utO:K.lookup tO=some ⟨.type "tuple",odtO,.seq #[.str "seat" ktO0,.str "both" ktO1,.str "tag" ktO2] ntO,sltO⟩)
  (ysg:nsIn K mainGlobals "SINGLE_GROUPS"=some (some (.ref sg)))
  (usg:K.lookup sg=some ⟨.type "tuple",odsg,.seq #[.int 1 ksg0,.int 3 ksg1] nsg,slsg⟩)
  (yGr:nsIn K mainGlobals "GROUPS"=some (some (.ref Gr)))
  (lGr:K.lookup Gr=some ⟨.type "dict",none,.dict esG nG,#[]⟩)
  (kGr:KeysLit w.params esG.toList)
  (eG0:nsIn K Gr "seat"=some (some (.int 0 kG0)))
  (eG1:nsIn K Gr "both"=some (some (.int 0 kG1)))
  (eG2:nsIn K Gr "tail"=some (some (.int 1 kG2)))
  (eG3:nsIn K Gr "tag"=some (some (.int 2 kG3)))
  (eG4:nsIn K Gr "bag"=some (some (.int 3 kG4)))
  (dga:qz K D "__init__" f2)
  (h0:findIn K (.ref C0) "free"=some (some (.ref f3))/\findIn K (.ref C0) "by_place"=some (some (.ref f4))/\findIn K (.ref C0) "by_name"=some (some (.ref f5))/\findIn K (.ref C0) "takes_one"=some (some (.ref f6))/\findIn K (.ref C0) "told"=some (some (.ref f7)))
  (h1:findIn K (.ref C1) "free"=some (some (.ref f3))/\findIn K (.ref C1) "by_place"=some (some (.ref f4))/\findIn K (.ref C1) "by_name"=some (some (.ref f5))/\findIn K (.ref C1) "takes_one"=some (some (.ref f6))/\findIn K (.ref C1) "told"=some (some (.ref f7)))
  (h2:findIn K (.ref C2) "free"=some (some (.ref f3))/\findIn K (.ref C2) "by_place"=some (some (.ref f4))/\findIn K (.ref C2) "by_name"=some (some (.ref f5))/\findIn K (.ref C2) "takes_one"=some (some (.ref f6))/\findIn K (.ref C2) "told"=some (some (.ref f7)))
  (h3:findIn K (.ref C3) "free"=some (some (.ref f3))/\findIn K (.ref C3) "by_place"=some (some (.ref f4))/\findIn K (.ref C3) "by_name"=some (some (.ref f5))/\findIn K (.ref C3) "takes_one"=some (some (.ref f6))/\findIn K (.ref C3) "told"=some (some (.ref f7)))
  (h4:findIn K (.ref C4) "free"=some (some (.ref f3))/\findIn K (.ref C4) "by_place"=some (some (.ref f4))/\findIn K (.ref C4) "by_name"=some (some (.ref f5))/\findIn K (.ref C4) "takes_one"=some (some (.ref f6))/\findIn K (.ref C4) "told"=some (some (.ref f7)))
  (yDF:nsIn K mainGlobals "Default"=some (some (.ref DF)))
  (qc0:findIn K (.ref Q0) "__class__"=some (some (.builtin "object.__class__"))/\mroIn K Q0 (.type "object")=some true)
  (qc1:findIn K (.ref Q1) "__class__"=some (some (.builtin "object.__class__"))/\mroIn K Q1 (.type "object")=some true)
  (qc2:findIn K (.ref Q2) "__class__"=some (some (.builtin "object.__class__"))/\mroIn K Q2 (.type "object")=some true)
  (qc3:findIn K (.ref Q3) "__class__"=some (some (.builtin "object.__class__"))/\mroIn K Q3 (.type "object")=some true)
  (qk0:kitOne K (.ref Q0) (.ref Q0)=some true/\kitOne K (.ref Q0) (.ref Q1)=some false/\kitOne K (.ref Q0) (.ref Q2)=some false/\kitOne K (.ref Q0) (.ref Q3)=some false/\kitOne K (.ref Q0) (.ref DF)=some true)
  (qk1:kitOne K (.ref Q1) (.ref Q0)=some false/\kitOne K (.ref Q1) (.ref Q1)=some true/\kitOne K (.ref Q1) (.ref Q2)=some false/\kitOne K (.ref Q1) (.ref Q3)=some false/\kitOne K (.ref Q1) (.ref DF)=some true)
  (qk2:kitOne K (.ref Q2) (.ref Q0)=some false/\kitOne K (.ref Q2) (.ref Q1)=some false/\kitOne K (.ref Q2) (.ref Q2)=some true/\kitOne K (.ref Q2) (.ref Q3)=some false/\kitOne K (.ref Q2) (.ref DF)=some true)
  (qk3:kitOne K (.ref Q3) (.ref Q0)=some false/\kitOne K (.ref Q3) (.ref Q1)=some false/\kitOne K (.ref Q3) (.ref Q2)=some false/\kitOne K (.ref Q3) (.ref Q3)=some true/\kitOne K (.ref Q3) (.ref DF)=some true)
  (qi1:findIn K (.ref Q1) "__init__"=some (some (.builtin "object.__init__")))
  (qi2:findIn K (.ref Q2) "__init__"=some (some (.builtin "object.__init__")))
  (xg:specialIn K (.builtin "object.__class__") "__get__"=some (some (.builtin "getset_descriptor.__get__"))/\PySem.W.takesIn K (.builtin "object.__class__")=some true)
  (yE9:nsIn K mainGlobals "Doubled"=some (some (.ref E9)))
  (yE10:nsIn K mainGlobals "Over"=some (some (.ref E10)))
  (yE11:nsIn K mainGlobals "Barred"=some (some (.ref E11)))
  (yE12:nsIn K mainGlobals "Again"=some (some (.ref E12)))
  (yE13:nsIn K mainGlobals "Strange"=some (some (.ref E13)))
  (yE14:nsIn K mainGlobals "Lacking"=some (some (.ref E14)))
  (ec9:(clsIn K E9).isSome=true/\L2.zgI K E9=true/\L2.zkd K E9=true)
  (ec10:(clsIn K E10).isSome=true/\L2.zgI K E10=true/\L2.zkd K E10=true)
  (ec11:(clsIn K E11).isSome=true/\L2.zgI K E11=true/\L2.zkd K E11=true)
  (ec12:(clsIn K E12).isSome=true/\L2.zgI K E12=true/\L2.zkd K E12=true)
  (ec13:(clsIn K E13).isSome=true/\L2.zgI K E13=true/\L2.zkd K E13=true)
  (ec14:(clsIn K E14).isSome=true/\L2.zgI K E14=true/\L2.zkd K E14=true)
  (ea9:findIn K (.ref E9) "__getattribute__"=some (some (.builtin "BaseException.__getattribute__"))/\findIn K (.ref E9) "__getattr__"=some none/\findIn K (.ref E9) "__class__"=some (some (.builtin "object.__class__"))/\mroIn K E9 (.type "BaseException")=some true/\mroIn K E9 (.type "object")=some true/\keepIn K (.ref E9)=true/\findIn K (.ref E9) "__init__"=some (some (.ref f28))/\specialIn K (.ref E9) "__call__"=some (some (.builtin "type.__call__"))/\instIn K (.ref E9) (.type "type")=some true/\findIn K (.ref E9) "__setattr__"=some (some (.builtin "object.__setattr__"))/\findIn K (.ref E9) "number"=some none)
  (ea10:findIn K (.ref E10) "__getattribute__"=some (some (.builtin "BaseException.__getattribute__"))/\findIn K (.ref E10) "__getattr__"=some none/\findIn K (.ref E10) "__class__"=some (some (.builtin "object.__class__"))/\mroIn K E10 (.type "BaseException")=some true/\mroIn K E10 (.type "object")=some true/\keepIn K (.ref E10)=true/\findIn K (.ref E10) "__init__"=some (some (.ref f28))/\specialIn K (.ref E10) "__call__"=some (some (.builtin "type.__call__"))/\instIn K (.ref E10) (.type "type")=some true/\findIn K (.ref E10) "__setattr__"=some (some (.builtin "object.__setattr__"))/\findIn K (.ref E10) "number"=some none)
  (ea11:findIn K (.ref E11) "__getattribute__"=some (some (.builtin "BaseException.__getattribute__"))/\findIn K (.ref E11) "__getattr__"=some none/\findIn K (.ref E11) "__class__"=some (some (.builtin "object.__class__"))/\mroIn K E11 (.type "BaseException")=some true/\mroIn K E11 (.type "object")=some true/\keepIn K (.ref E11)=true/\findIn K (.ref E11) "__init__"=some (some (.ref f28))/\specialIn K (.ref E11) "__call__"=some (some (.builtin "type.__call__"))/\instIn K (.ref E11) (.type "type")=some true/\findIn K (.ref E11) "__setattr__"=some (some (.builtin "object.__setattr__"))/\findIn K (.ref E11) "number"=some none)
  (ea12:findIn K (.ref E12) "__getattribute__"=some (some (.builtin "BaseException.__getattribute__"))/\findIn K (.ref E12) "__getattr__"=some none/\findIn K (.ref E12) "__class__"=some (some (.builtin "object.__class__"))/\mroIn K E12 (.type "BaseException")=some true/\mroIn K E12 (.type "object")=some true/\keepIn K (.ref E12)=true/\findIn K (.ref E12) "__init__"=some (some (.ref f28))/\specialIn K (.ref E12) "__call__"=some (some (.builtin "type.__call__"))/\instIn K (.ref E12) (.type "type")=some true/\findIn K (.ref E12) "__setattr__"=some (some (.builtin "object.__setattr__"))/\findIn K (.ref E12) "number"=some none)
  (ea13:findIn K (.ref E13) "__getattribute__"=some (some (.builtin "BaseException.__getattribute__"))/\findIn K (.ref E13) "__getattr__"=some none/\findIn K (.ref E13) "__class__"=some (some (.builtin "object.__class__"))/\mroIn K E13 (.type "BaseException")=some true/\mroIn K E13 (.type "object")=some true/\keepIn K (.ref E13)=true/\findIn K (.ref E13) "__init__"=some (some (.ref f28))/\specialIn K (.ref E13) "__call__"=some (some (.builtin "type.__call__"))/\instIn K (.ref E13) (.type "type")=some true/\findIn K (.ref E13) "__setattr__"=some (some (.builtin "object.__setattr__"))/\findIn K (.ref E13) "number"=some none)
  (ea14:findIn K (.ref E14) "__getattribute__"=some (some (.builtin "BaseException.__getattribute__"))/\findIn K (.ref E14) "__getattr__"=some none/\findIn K (.ref E14) "__class__"=some (some (.builtin "object.__class__"))/\mroIn K E14 (.type "BaseException")=some true/\mroIn K E14 (.type "object")=some true/\keepIn K (.ref E14)=true/\findIn K (.ref E14) "__init__"=some (some (.ref f28))/\specialIn K (.ref E14) "__call__"=some (some (.builtin "type.__call__"))/\instIn K (.ref E14) (.type "type")=some true/\findIn K (.ref E14) "__setattr__"=some (some (.builtin "object.__setattr__"))/\findIn K (.ref E14) "number"=some none)
  (k9:kitOne K (.ref E9) (.ref E9)=some true/\kitOne K (.ref E9) (.ref E10)=some false/\kitOne K (.ref E9) (.ref E11)=some false/\kitOne K (.ref E9) (.ref E12)=some false/\kitOne K (.ref E9) (.ref E13)=some false/\kitOne K (.ref E9) (.ref E14)=some false)
  (k10:kitOne K (.ref E10) (.ref E9)=some false/\kitOne K (.ref E10) (.ref E10)=some true/\kitOne K (.ref E10) (.ref E11)=some false/\kitOne K (.ref E10) (.ref E12)=some false/\kitOne K (.ref E10) (.ref E13)=some false/\kitOne K (.ref E10) (.ref E14)=some false)
  (k11:kitOne K (.ref E11) (.ref E9)=some false/\kitOne K (.ref E11) (.ref E10)=some false/\kitOne K (.ref E11) (.ref E11)=some true/\kitOne K (.ref E11) (.ref E12)=some false/\kitOne K (.ref E11) (.ref E13)=some false/\kitOne K (.ref E11) (.ref E14)=some false)
  (k12:kitOne K (.ref E12) (.ref E9)=some false/\kitOne K (.ref E12) (.ref E10)=some false/\kitOne K (.ref E12) (.ref E11)=some false/\kitOne K (.ref E12) (.ref E12)=some true/\kitOne K (.ref E12) (.ref E13)=some false/\kitOne K (.ref E12) (.ref E14)=some false)
  (k13:kitOne K (.ref E13) (.ref E9)=some false/\kitOne K (.ref E13) (.ref E10)=some false/\kitOne K (.ref E13) (.ref E11)=some false/\kitOne K (.ref E13) (.ref E12)=some false/\kitOne K (.ref E13) (.ref E13)=some true/\kitOne K (.ref E13) (.ref E14)=some false)
  (k14:kitOne K (.ref E14) (.ref E9)=some false/\kitOne K (.ref E14) (.ref E10)=some false/\kitOne K (.ref E14) (.ref E11)=some false/\kitOne K (.ref E14) (.ref E12)=some false/\kitOne K (.ref E14) (.ref E13)=some false/\kitOne K (.ref E14) (.ref E14)=some true)
  (em9:exmOne K (.ref E9) (.ref E15)=some true)
  (em10:exmOne K (.ref E10) (.ref E15)=some true)
  (em11:exmOne K (.ref E11) (.ref E15)=some true)
  (em12:exmOne K (.ref E12) (.ref E15)=some true)
  (em13:exmOne K (.ref E13) (.ref E15)=some true)
  (em14:exmOne K (.ref E14) (.ref E15)=some true)
  : ∃fd:FuncData,(∀(s:Shared) (v:Value),BindsTo s fd ⟨[v],[]⟩ [("_law_script",v)])/\∀base:Heap,K.In base->base.Ns mainGlobals mg->zx l.prog w K mg base CX0 8 fa fd ["_law_script"] (zap K):=by
 have e:=hfa.symm.trans (mg_of X G g70.a);cases e;have no:∀{x:Str},nsIn K mainGlobals x=some none->mg x=none:=fun z=>PySem.W.mg_none_of X G z;have T:zlu K mg:=⟨no zisinstance,no zstr,no zbool,no zlen,no zall,no zrange,⟨tL,mg_of X G gL⟩,⟨tN,mg_of X G gN⟩,ji K,zcB K,zbz K,zbx K,zaS K,zby K,zcA K,zaU K⟩;have Wd:Wds K mg tP tB tO:=⟨mg_of X G ytP,mg_of X G ytB,mg_of X G ytO,fun H=>.inr ⟨_,_,_,utP,rfl,rfl,yN,.cons ⟨_,rfl⟩ (.cons ⟨_,rfl⟩ (.nil))⟩,fun H=>.inr ⟨_,_,_,utB,rfl,rfl,yN,.cons ⟨_,rfl⟩ (.cons ⟨_,rfl⟩ (.nil))⟩,fun H=>.inr ⟨_,_,_,utO,rfl,rfl,vq,.cons ⟨_,rfl⟩ (.cons ⟨_,rfl⟩ (.cons ⟨_,rfl⟩ (.nil)))⟩⟩;have TF:zbO w K mg Gr sg:=⟨no zlen,no zenumerate,no zlist,no zset,⟨tMP,mg_of X G gMP⟩,⟨tMB,mg_of X G gMB⟩,mg_of X G yGr,zhR lGr kGr eG0 eG1 eG2 eG3 eG4,mg_of X G ysg,fun H=>.inr ⟨_,_,_,usg,rfl,rfl,yN,.cons ⟨_,rfl⟩ (.cons ⟨_,rfl⟩ .nil)⟩⟩;have pc0:PC K ⟨f3,f4,f5,f6,f7⟩ C0:=⟨cC0.c,nC0.1,nC0.2.1,nC0.2.2,⟨h0.1,g3.m.fn,g3.F.kp⟩,⟨h0.2.1,g4.m.fn,g4.F.kp⟩,⟨h0.2.2.1,g5.m.fn,g5.F.kp⟩,⟨h0.2.2.2.1,g6.m.fn,g6.F.kp⟩,⟨h0.2.2.2.2,g7.m.fn,g7.F.kp⟩⟩;have pc1:PC K ⟨f3,f4,f5,f6,f7⟩ C1:=⟨cC1.c,nC1.1,nC1.2.1,nC1.2.2,⟨h1.1,g3.m.fn,g3.F.kp⟩,⟨h1.2.1,g4.m.fn,g4.F.kp⟩,⟨h1.2.2.1,g5.m.fn,g5.F.kp⟩,⟨h1.2.2.2.1,g6.m.fn,g6.F.kp⟩,⟨h1.2.2.2.2,g7.m.fn,g7.F.kp⟩⟩;have pc2:PC K ⟨f3,f4,f5,f6,f7⟩ C2:=⟨cC2.c,nC2.1,nC2.2.1,nC2.2.2,⟨h2.1,g3.m.fn,g3.F.kp⟩,⟨h2.2.1,g4.m.fn,g4.F.kp⟩,⟨h2.2.2.1,g5.m.fn,g5.F.kp⟩,⟨h2.2.2.2.1,g6.m.fn,g6.F.kp⟩,⟨h2.2.2.2.2,g7.m.fn,g7.F.kp⟩⟩;have pc3:PC K ⟨f3,f4,f5,f6,f7⟩ C3:=⟨cC3.c,nC3.1,nC3.2.1,nC3.2.2,⟨h3.1,g3.m.fn,g3.F.kp⟩,⟨h3.2.1,g4.m.fn,g4.F.kp⟩,⟨h3.2.2.1,g5.m.fn,g5.F.kp⟩,⟨h3.2.2.2.1,g6.m.fn,g6.F.kp⟩,⟨h3.2.2.2.2,g7.m.fn,g7.F.kp⟩⟩;have pc4:PC K ⟨f3,f4,f5,f6,f7⟩ C4:=⟨cC4.c,nC4.1,nC4.2.1,nC4.2.2,⟨h4.1,g3.m.fn,g3.F.kp⟩,⟨h4.2.1,g4.m.fn,g4.F.kp⟩,⟨h4.2.2.1,g5.m.fn,g5.F.kp⟩,⟨h4.2.2.2.1,g6.m.fn,g6.F.kp⟩,⟨h4.2.2.2.2,g7.m.fn,g7.F.kp⟩⟩;have PP:Pcs K ⟨f3,f4,f5,f6,f7⟩ ⟨C0,C1,C2,C3,C4⟩:=fun k hk=>by
  rcases lt5 hk with rfl|rfl|rfl|rfl|rfl
  ·exact pc0
  ·exact pc1
  ·exact pc2
  ·exact pc3
  ·exact pc4
 have FK:FC K FM:=⟨cFM.c,nFM.1,nFM.2.1,nFM.2.2.1,nFM.2.2.2.1,nFM.2.2.2.2.1,nFM.2.2.2.2.2⟩
 let cl:Nat->Addr:=fun j=>match j with|0=>E9|1=>E10|2=>E11|3=>E12|4=>E13|_=>E14
 have ex9:xj K E9:=⟨ec9.1,ea9.1,ea9.2.1,ea9.2.2.1,xg.1,xg.2,ea9.2.2.2.1,ea9.2.2.2.2.1⟩;have so9:uz K cl E15 0:=⟨ex9,⟨ec9.2.2,ea9.2.2.2.2.2.2.2.2.2.1,ea9.2.2.2.2.1⟩,ea9.2.2.2.2.2.2.2.2.2.2,fun l hl=>match l,hl with|0,_=>k9.1|1,_=>k9.2.1|2,_=>k9.2.2.1|3,_=>k9.2.2.2.1|4,_=>k9.2.2.2.2.1|5,_=>k9.2.2.2.2.2|l+6,h=>absurd h (by omega),em9⟩
 have ex10:xj K E10:=⟨ec10.1,ea10.1,ea10.2.1,ea10.2.2.1,xg.1,xg.2,ea10.2.2.2.1,ea10.2.2.2.2.1⟩;have so10:uz K cl E15 1:=⟨ex10,⟨ec10.2.2,ea10.2.2.2.2.2.2.2.2.2.1,ea10.2.2.2.2.1⟩,ea10.2.2.2.2.2.2.2.2.2.2,fun l hl=>match l,hl with|0,_=>k10.1|1,_=>k10.2.1|2,_=>k10.2.2.1|3,_=>k10.2.2.2.1|4,_=>k10.2.2.2.2.1|5,_=>k10.2.2.2.2.2|l+6,h=>absurd h (by omega),em10⟩
 have ex11:xj K E11:=⟨ec11.1,ea11.1,ea11.2.1,ea11.2.2.1,xg.1,xg.2,ea11.2.2.2.1,ea11.2.2.2.2.1⟩;have so11:uz K cl E15 2:=⟨ex11,⟨ec11.2.2,ea11.2.2.2.2.2.2.2.2.2.1,ea11.2.2.2.2.1⟩,ea11.2.2.2.2.2.2.2.2.2.2,fun l hl=>match l,hl with|0,_=>k11.1|1,_=>k11.2.1|2,_=>k11.2.2.1|3,_=>k11.2.2.2.1|4,_=>k11.2.2.2.2.1|5,_=>k11.2.2.2.2.2|l+6,h=>absurd h (by omega),em11⟩
 have ex12:xj K E12:=⟨ec12.1,ea12.1,ea12.2.1,ea12.2.2.1,xg.1,xg.2,ea12.2.2.2.1,ea12.2.2.2.2.1⟩;have so12:uz K cl E15 3:=⟨ex12,⟨ec12.2.2,ea12.2.2.2.2.2.2.2.2.2.1,ea12.2.2.2.2.1⟩,ea12.2.2.2.2.2.2.2.2.2.2,fun l hl=>match l,hl with|0,_=>k12.1|1,_=>k12.2.1|2,_=>k12.2.2.1|3,_=>k12.2.2.2.1|4,_=>k12.2.2.2.2.1|5,_=>k12.2.2.2.2.2|l+6,h=>absurd h (by omega),em12⟩
 have ex13:xj K E13:=⟨ec13.1,ea13.1,ea13.2.1,ea13.2.2.1,xg.1,xg.2,ea13.2.2.2.1,ea13.2.2.2.2.1⟩;have so13:uz K cl E15 4:=⟨ex13,⟨ec13.2.2,ea13.2.2.2.2.2.2.2.2.2.1,ea13.2.2.2.2.1⟩,ea13.2.2.2.2.2.2.2.2.2.2,fun l hl=>match l,hl with|0,_=>k13.1|1,_=>k13.2.1|2,_=>k13.2.2.1|3,_=>k13.2.2.2.1|4,_=>k13.2.2.2.2.1|5,_=>k13.2.2.2.2.2|l+6,h=>absurd h (by omega),em13⟩
 have ex14:xj K E14:=⟨ec14.1,ea14.1,ea14.2.1,ea14.2.2.1,xg.1,xg.2,ea14.2.2.2.1,ea14.2.2.2.2.1⟩;have so14:uz K cl E15 5:=⟨ex14,⟨ec14.2.2,ea14.2.2.2.2.2.2.2.2.2.1,ea14.2.2.2.2.1⟩,ea14.2.2.2.2.2.2.2.2.2.2,fun l hl=>match l,hl with|0,_=>k14.1|1,_=>k14.2.1|2,_=>k14.2.2.1|3,_=>k14.2.2.2.1|4,_=>k14.2.2.2.2.1|5,_=>k14.2.2.2.2.2|l+6,h=>absurd h (by omega),em14⟩
 have so:∀i,i<6->uz K cl E15 i:=fun i hi=>match i,hi with|0,_=>so9|1,_=>so10|2,_=>so11|3,_=>so12|4,_=>so13|5,_=>so14|l+6,h=>absurd h (by omega)
 have UW:zj8 mg cl E15:=⟨no zisinstance,no zint,mg_of X G yM,mg_of X G yE9,mg_of X G yE10,mg_of X G yE11,mg_of X G yE12,mg_of X G yE13,mg_of X G yE14⟩;have UL:uh mg:=⟨no zisinstance,no zint,no zlen,no zrange,no zlist,no zzip,no zmax⟩;have DK:D4 K mg ⟨Q0,Q1,Q2,Q3⟩ DF:=⟨fun k hk H p dx fs e=>match k,hk,e with|0,_,e=>wp.ins (C:=Q0) e cQ0.c qc0.1 xg.1 xg.2 qc0.2|1,_,e=>wp.ins (C:=Q1) e cQ1.c qc1.1 xg.1 xg.2 qc1.2|2,_,e=>wp.ins (C:=Q2) e cQ2.c qc2.1 xg.1 xg.2 qc2.2|3,_,e=>wp.ins (C:=Q3) e cQ3.c qc3.1 xg.1 xg.2 qc3.2|k+4,h,_=>absurd h (by omega),fun k hk l hl=>match k,hk,l,hl with|0,_,0,_=>qk0.1|0,_,1,_=>qk0.2.1|0,_,2,_=>qk0.2.2.1|0,_,3,_=>qk0.2.2.2.1|1,_,0,_=>qk1.1|1,_,1,_=>qk1.2.1|1,_,2,_=>qk1.2.2.1|1,_,3,_=>qk1.2.2.2.1|2,_,0,_=>qk2.1|2,_,1,_=>qk2.2.1|2,_,2,_=>qk2.2.2.1|2,_,3,_=>qk2.2.2.2.1|3,_,0,_=>qk3.1|3,_,1,_=>qk3.2.1|3,_,2,_=>qk3.2.2.1|3,_,3,_=>qk3.2.2.2.1|k+4,h,_,_=>absurd h (by omega)|_,_,l+4,h=>absurd h (by omega),fun k hk=>match k,hk with|0,_=>qk0.2.2.2.2|1,_=>qk1.2.2.2.2|2,_=>qk2.2.2.2.2|3,_=>qk3.2.2.2.2|k+4,h=>absurd h (by omega),cQ0.c,cQ3.c,nQ0,nQ3.1,nQ3.2.1,nQ3.2.2,mg_of X G cQ0.a,mg_of X G cQ1.a,mg_of X G cQ2.a,mg_of X G cQ3.a,mg_of X G yDF⟩
 have WC:qu K mg WE:=⟨cWE.c,nWE,mg_of X G cWE.a⟩;have UK:K43.UC K FU:=⟨cFU.c,nFU.1,nFU.2.1,nFU.2.2⟩;exists _,g70.law,fun base KB GB=>?_;have B:TB l.prog w K mg base:=⟨fun e=>mg_of X G e⟩;have x9:uX l.prog w K mg base "Doubled" (cl 0) f28 _ "number" "number":=⟨⟨ec9.2.1,ea9.2.2.2.2.2.2.1,g28.m.fn,ea9.2.2.2.2.2.2.2.1,ea9.2.2.2.2.2.2.2.2.1,ea9.2.2.2.2.2.1⟩,⟨ec9.2.2,ea9.2.2.2.2.2.2.2.2.2.1,ea9.2.2.2.2.1⟩,ea9.2.2.2.2.2.2.2.2.2.2,ex9,mg_of X G yE9,vN g28.F,g28.F.b2⟩;have x10:uX l.prog w K mg base "Over" (cl 1) f28 _ "number" "number":=⟨⟨ec10.2.1,ea10.2.2.2.2.2.2.1,g28.m.fn,ea10.2.2.2.2.2.2.2.1,ea10.2.2.2.2.2.2.2.2.1,ea10.2.2.2.2.2.1⟩,⟨ec10.2.2,ea10.2.2.2.2.2.2.2.2.2.1,ea10.2.2.2.2.1⟩,ea10.2.2.2.2.2.2.2.2.2.2,ex10,mg_of X G yE10,vN g28.F,g28.F.b2⟩;have x11:uX l.prog w K mg base "Barred" (cl 2) f28 _ "number" "number":=⟨⟨ec11.2.1,ea11.2.2.2.2.2.2.1,g28.m.fn,ea11.2.2.2.2.2.2.2.1,ea11.2.2.2.2.2.2.2.2.1,ea11.2.2.2.2.2.1⟩,⟨ec11.2.2,ea11.2.2.2.2.2.2.2.2.2.1,ea11.2.2.2.2.1⟩,ea11.2.2.2.2.2.2.2.2.2.2,ex11,mg_of X G yE11,vN g28.F,g28.F.b2⟩;have x12:uX l.prog w K mg base "Again" (cl 3) f28 _ "number" "number":=⟨⟨ec12.2.1,ea12.2.2.2.2.2.2.1,g28.m.fn,ea12.2.2.2.2.2.2.2.1,ea12.2.2.2.2.2.2.2.2.1,ea12.2.2.2.2.2.1⟩,⟨ec12.2.2,ea12.2.2.2.2.2.2.2.2.2.1,ea12.2.2.2.2.1⟩,ea12.2.2.2.2.2.2.2.2.2.2,ex12,mg_of X G yE12,vN g28.F,g28.F.b2⟩;have x13:uX l.prog w K mg base "Strange" (cl 4) f28 _ "number" "number":=⟨⟨ec13.2.1,ea13.2.2.2.2.2.2.1,g28.m.fn,ea13.2.2.2.2.2.2.2.1,ea13.2.2.2.2.2.2.2.2.1,ea13.2.2.2.2.2.1⟩,⟨ec13.2.2,ea13.2.2.2.2.2.2.2.2.2.1,ea13.2.2.2.2.1⟩,ea13.2.2.2.2.2.2.2.2.2.2,ex13,mg_of X G yE13,vN g28.F,g28.F.b2⟩;have x14:uX l.prog w K mg base "Lacking" (cl 5) f28 _ "number" "number":=⟨⟨ec14.2.1,ea14.2.2.2.2.2.2.1,g28.m.fn,ea14.2.2.2.2.2.2.2.1,ea14.2.2.2.2.2.2.2.2.1,ea14.2.2.2.2.2.1⟩,⟨ec14.2.2,ea14.2.2.2.2.2.2.2.2.2.1,ea14.2.2.2.2.1⟩,ea14.2.2.2.2.2.2.2.2.2.2,ex14,mg_of X G yE14,vN g28.F,g28.F.b2⟩;have X6:X6 l.prog w K mg base cl f28 _:=⟨x9,x10,x11,x12,x13,x14⟩;have cI:=g1.c1 B (zkP g1.F T);have GP:zx l.prog w K mg base CX0 2 f2 _ ["self","word","name","may_lack"] (spP K ⟨f3,f4,f5,f6,f7⟩):=zfH g2.F cI;have mD:=mg_of X G cD.a;have UC:ziC l.prog w K mg base ⟨C0,C1,C2,C3,C4⟩ f8 f9 f10 f11 f12 _ _ _ _ _:=⟨⟨⟨cC0.ms,g8.m.at_,g8.m.fn,cC0.kc⟩,zht g8.F pc0 dga mD GP g2.F.b4,mg_of X G cC0.a,g8.b0⟩,⟨⟨cC1.ms,g9.m.at_,g9.m.fn,cC1.kc⟩,zhH g9.F pc1 dga mD GP g2.F.b4,mg_of X G cC1.a,g9.b0⟩,⟨⟨cC2.ms,g10.m.at_,g10.m.fn,cC2.kc⟩,zhs g10.F pc2 dga mD GP g2.F.b4,mg_of X G cC2.a,g10.F.b2⟩,⟨⟨cC3.ms,g11.m.at_,g11.m.fn,cC3.kc⟩,zjA g11.F pc3 dga mD GP g2.F.b4,mg_of X G cC3.a,g11.b0⟩,⟨⟨cC4.ms,g12.m.at_,g12.m.fn,cC4.kc⟩,zjK g12.F pc4 dga mD GP g2.F.b4,mg_of X G cC4.a,g12.F.b2⟩⟩;have GF:zx l.prog w K mg base CX0 1 f3 _ ["self"] (zaq K ⟨f3,f4,f5,f6,f7⟩):=zhD g3.F;have GQ:zx l.prog w K mg base CX0 1 f4 _ ["self"] (jh K ⟨f3,f4,f5,f6,f7⟩ bpL):=zbq g4.F Wd;have GN:zx l.prog w K mg base CX0 1 f5 _ ["self"] (jh K ⟨f3,f4,f5,f6,f7⟩ bnL):=zcv g5.F Wd;have cM1:=g23.c2 B (zhy g23.F TF);have cM2:=g24.c1 B (zfK g24.F TF PP);have cM3:=g25.c1 B (zfG g25.F cI);have cM4:=g26.c2 B (zfC g26.F TF PP GN g5.F.b1);have cW:=g27.c2 B (zhx g27.F TF PP);have GK:=zhC g14.F TF PP FK cW GQ g4.F.b1 GN g5.F.b1;have GI:=zfT g13.F FK g14.m cM1 cM2 cM3 cM4 GK (g14.F.b3);have Gpa:zx l.prog w K mg base CX0 1 f15 _ ["self"] (uC ⟨C0,C1,C2,C3,C4⟩ FM):=zfS g15.F TF FK;have Gba:zx l.prog w K mg base CX0 1 f16 _ ["self"] (zbY ⟨C0,C1,C2,C3,C4⟩ FM):=zfU g16.F TF FK;have Gpl:zx l.prog w K mg base CX0 1 f17 _ ["self"] (vp ⟨C0,C1,C2,C3,C4⟩ FM):=zcu g17.F FK;have Gta:zx l.prog w K mg base CX0 1 f18 _ ["self"] (wV ⟨C0,C1,C2,C3,C4⟩ FM 2):=zfR g18.F FK;have Gbg:zx l.prog w K mg base CX0 1 f19 _ ["self"] (wV ⟨C0,C1,C2,C3,C4⟩ FM 4):=zhF g19.F FK;have Gnu:zx l.prog w K mg base CX0 1 f20 _ ["self","name"] (zcU ⟨C0,C1,C2,C3,C4⟩ FM):=zhE g20.F FK;have cL:=g37.c1 B (zhB g37.F);have cSh:=g39.c1 B (zfF g39.F (no zlen) cL);have cFn:=g40.c1 B (zd1 g40.F (no zenumerate));have cOv:=g42.c2 B (zfJ g42.F (no zrange) FK g18.m Gta (g18.F.b1) g17.m Gpl (g17.F.b1));have cUn:=g43.c3 B (zjz g43.F (no zset) FK g16.m Gba (g16.F.b1) g20.m Gnu (g20.F.b2) g19.m Gbg (g19.F.b1) g17.m Gpl (g17.F.b1));have cEn:=g45.c4 B (zhw g45.F PP GQ g4.F.b1 GN g5.F.b1);have cLa:=g44.c3 B (zfP g44.F (no zenumerate) PP FK g15.m Gpa (g15.F.b1) GF g3.F.b1 cEn);have cMo:=g41.c3 B (zjF g41.F (no zenumerate) cFn cOv cUn cLa);have cMi:=g38.c2 B (zjH g38.F cSh cMo);have GTk:zx l.prog w K mg base CX0 1 f6 _ ["self"] (jh K ⟨f3,f4,f5,f6,f7⟩ otL):=zaL g6.F Wd;have kT:uY l.prog w K mg base CX0 1 "Told" Q0 f29 _ ["self","number"] [] (zgP Q0):=⟨⟨cQ0.ms,g29.m.at_,g29.m.fn,cQ0.kc⟩,zfX g29.F cQ0.c nQ0,mg_of X G cQ0.a,g29.F.b2⟩;have kS:uY l.prog w K mg base CX0 1 "Sum" Q3 f30 _ ["self","at","times","plus"] [] (ziV Q3):=⟨⟨cQ3.ms,g30.m.at_,g30.m.fn,cQ3.kc⟩,zhG g30.F cQ3.c nQ3.1 nQ3.2.1 nQ3.2.2,mg_of X G cQ3.a,g30.F.b4⟩;have k4:zgG l.prog w K mg base ⟨Q0,Q1,Q2,Q3⟩ f29 f30 _ _:=⟨kT,kS,⟨cQ1.ms,qi1,cQ1.kc⟩,⟨cQ2.ms,qi2,cQ2.kc⟩,mg_of X G cQ1.a,mg_of X G cQ2.a⟩;have bW:zN K _ ["self","first"] []:=fun s us KX hl=>match us,hl with|[u,v],_=>g34.F.bindsTo (fun _ _ _ _ _ _ _=>⟨_,rfl,rfl⟩) KX
 have kW:uY l.prog w K mg base CX0 1 "Well" WE f34 _ ["self","first"] [] (zbX WE):=⟨⟨cWE.ms,g34.m.at_,g34.m.fn,cWE.kc⟩,zfz g34.F WC,mg_of X G cWE.a,bW⟩;have GD:zx l.prog w K mg base CX0 1 f35 _ ["self"] (zar WE):=zfA g35.F WC;have GA:zx l.prog w K mg base CX0 1 f36 _ ["self"] (zas WE):=zdZ g36.F WC;have cFr:=g49.c1 B (zkR g49.F (no zenumerate) PP FK g15.m Gpa (g15.F.b1) GTk g6.F.b1 GF g3.F.b1);have cRd:=g50.c2 B (zhu g50.F UL FK DK cFr g18.m Gta (g18.F.b1));have cSe:=g51.c3 B (zjC g51.F UL DK WC cFr g35.m GD (g35.F.b1) kT);have GU:zx l.prog w K mg base CX0 4 f31 _ ["self","form","defaults","well"] (ziS ⟨C0,C1,C2,C3,C4⟩ ⟨Q0,Q1,Q2,Q3⟩ FM WE FU):=zfB g31.F UK cRd cSe;have cHo:=g52.c3 B (zkQ g52.F);have GL:zx l.prog w K mg base CX0 2 f33 _ ["self","number","given"] (zbW K ⟨C0,C1,C2,C3,C4⟩ ⟨Q0,Q1,Q2,Q3⟩ FM WE FU):=zhA g33.F UL DK UK WC g35.m GD (g35.F.b1);have cEy:=g47.c4 B (zfV g47.F (no zrange) (no zlist) FK g18.m Gta (g18.F.b1) g17.m Gpl (g17.F.b1) g19.m Gbg (g19.F.b1) g20.m Gnu (g20.F.b2) g15.m Gpa (g15.F.b1) cEn);have cRe:vV l.prog w K mg base 3 "refuse" f46 _ ["word","number"] (jB cl):=⟨zd0 g46.F X6,B.mgo g46.a,g46.F.kp,g46.F.b2⟩;have cPa:vV l.prog w K mg base 5 "paper" f48 _ ["form","call"] (jl K ⟨C0,C1,C2,C3,C4⟩ FM cl):=⟨zfI g48.F (no zrange) (no zlen) FK cSh cMo cRe cFn cEy g15.m Gpa (g15.F.b1),B.mgo g48.a,g48.F.kp,g48.F.b2⟩;have GAn:zx l.prog w K mg base (CXs l.prog w) 6 f32 _ ["self","call"] (zeN K ⟨C0,C1,C2,C3,C4⟩ ⟨Q0,Q1,Q2,Q3⟩ FM WE FU cl):=zjL g32.F (no zenumerate) UK cPa cL cHo g33.m GL (g33.F.b3);have cWo:za3 l.prog w K mg base 1 "_law_word" f66 _ ["_law_e"] (zeD K cl E15):=⟨fun ea=>zjy g66.F UW ea,B.mgo g66.a,g66.F.kp,g66.F.b1⟩;have cRf:=g67.c2 B (zhz g67.F UK UW so g32.m GAn (g32.F.b2) cWo);have cPf:=g22.c1 B (zjD g22.F UC);have cN:=g53.c2 B (zjE g53.F UL);have cMx:=g54.c2 B (zjG g54.F);have cPl:=g55.c1 B (zhv g55.F UL cMx);have cSp:=g56.c2 B (zfE g56.F UL);have cBr:=g57.c3 B (zfN g57.F UL);have cTh:=g58.c1 B (zfD g58.F);have cIt:=g59.c2 B (zfQ g59.F UL cTh);have cLd:=g60.c1 B (zfO g60.F);have cSg:=g61.c2 B (zjB g61.F UL);have cLo:=g62.c1 B (zfL g62.F UL cSg);have cDe:=g63.c1 B (zjJ g63.F k4);have cDr:=g64.c3 B (zfW g64.F UL cSg cMx cTh);have cWa:=g65.c2 B (zdY g65.F UL cTh);have cVa:=g68.c5 B (zhr g68.F UL);have cFo:=g69.c2 B (zfM g69.F (mg_of X G cFM.a) ⟨cFM.ms,g13.m.at_,g13.m.fn,cFM.kc⟩ GI g13.b0 cPf);exact zjI g70.F UL cN cPl cSp cBr cFo cLo cDr cTh cDe WC kW g36.m GA (g36.F.b1) (mg_of X G cFU.a) ⟨cFU.ms,g31.m.at_,g31.m.fn,cFU.kc⟩ GU (g31.F.b4) cIt cWa cMi cRf cLd cPa cVa
theorem zmA{l:PySem.W.OpenLaw}{q:Program}{loose:List Str}{XP:(Str->Option Value)->Heap->Prop}{YP:World->Heap->Prop}{d:DefRec}{K:Params->Frag}(hn:l.most=some 63)(hdf:d.params.defaults=[])
  (hY:∀(w:World) (h:Heap),YP w h->(K w.params).In h)
  (F:∀(w:World) (mg:Str->Option Value) (fa:Addr) (h:Heap),(K w.params).In h->h.Ns mainGlobals mg->mg d.name=some (.ref fa)->
   ∃fd:FuncData,(∀(s:Shared) (u:Value),BindsTo s fd ⟨[u],[]⟩ [("_law_script",u)])/\∀base:Heap,(K w.params).In base->base.Ns mainGlobals mg->zx l.prog w (K w.params) mg base CX0 8 fa fd ["_law_script"] (zap (K w.params))) :
  PySem.W.WalkO q loose XP YP l.row.toRowW d [] (fun f vs=>PySem.call f vs):=
 L2.zke (n:=63) (k:=8) (x:="_law_script") (CX:=fun _=>CX0) (sp:=fun w=>zap (K w.params)) hn (by decide) hdf ⟨rfl,by decide,by decide,rfl⟩ hY F (fun _ _ a ns hl hb _ hS=>⟨a,ns,rfl,hS,hl,fun _=>rfl⟩) fun _ _ _ _ _ z=>z
end K43
open PySem PySem.W PyProof.Rows
set_option maxRecDepth 100000 in
set_option maxHeartbeats 0 in
theorem PySem.Challenge.cw_callbinds_k43_values_by_the_paper_holds : PySem.Challenge.rw_callbinds_k43_values_by_the_paper.Holds := by
 w_on; o_law; k_head; (case hw => w_witness2)
 k_fill
 refine K43.zmA (l := PySem.Challenge.rw_callbinds_k43_values_by_the_paper) rfl rfl (fun w h Y => PySem.W.kIn_of Y) ?F
 case F =>
  intro w mg fa h KX G hmg
  refine' K43.zmk KX G hmg ?cD ?cC0 ?nC0 ?cC1 ?nC1 ?cC2 ?nC2 ?cC3 ?nC3 ?cC4 ?nC4 ?cFM ?nFM ?g1 ?g2 ?g3 ?g4 ?g5 ?g6 ?g7 ?g8 ?g9 ?g10 ?g11 ?g12 ?g13 ?g14 ?g15 ?g16 ?g17 ?g18 ?g19 ?g20 ?g21 ?g22 ?g23 ?g24 ?g25 ?g26 ?g27 ?yM ?g28 ?cQ0 ?nQ0 ?cQ1 ?cQ2 ?cQ3 ?nQ3 ?cFU ?nFU ?cWE ?nWE ?g29 ?g30 ?g31 ?g32 ?g33 ?g34 ?g35 ?g36 ?g37 ?g38 ?g39 ?g40 ?g41 ?g42 ?g43 ?g44 ?g45 ?g46 ?g47 ?g48 ?g49 ?g50 ?g51 ?g52 ?g53 ?g54 ?g55 ?g56 ?g57 ?g58 ?g59 ?g60 ?g61 ?g62 ?g63 ?g64 ?g65 ?g66 ?g67 ?g68 ?g69 ?g70 ?zisinstance ?zstr ?zbool ?zlen ?zall ?zrange ?zlist ?zenumerate ?zset ?zmax ?zint ?zzip ?gL ?gN ?gMP ?gMB ?ytP ?utP ?ytB ?utB ?ytO ?utO ?ysg ?usg ?yGr ?lGr ?kGr ?eG0 ?eG1 ?eG2 ?eG3 ?eG4 ?dga ?h0 ?h1 ?h2 ?h3 ?h4 ?yDF ?qc0 ?qc1 ?qc2 ?qc3 ?qk0 ?qk1 ?qk2 ?qk3 ?qi1 ?qi2 ?xg ?yE9 ?yE10 ?yE11 ?yE12 ?yE13 ?yE14 ?ec9 ?ec10 ?ec11 ?ec12 ?ec13 ?ec14 ?ea9 ?ea10 ?ea11 ?ea12 ?ea13 ?ea14 ?k9 ?k10 ?k11 ?k12 ?k13 ?k14 ?em9 ?em10 ?em11 ?em12 ?em13 ?em14
  (case cD | cC0 => apply L2.zmz <;> k_is)
  (case nC0 => exact ⟨by k_is, by k_is, by k_is⟩)
  (case cC1 => apply L2.zmz <;> k_is)
  (case nC1 => exact ⟨by k_is, by k_is, by k_is⟩)
  (case cC2 => apply L2.zmz <;> k_is)
  (case nC2 => exact ⟨by k_is, by k_is, by k_is⟩)
  (case cC3 => apply L2.zmz <;> k_is)
  (case nC3 => exact ⟨by k_is, by k_is, by k_is⟩)
  (case cC4 => apply L2.zmz <;> k_is)
  (case nC4 => exact ⟨by k_is, by k_is, by k_is⟩)
  (case cFM => apply L2.zmz <;> k_is)
  (case nFM => exact ⟨by k_is, by k_is, by k_is, by k_is, by k_is, by k_is⟩)
  (case g1 => apply L2.zmx <;> k_is)
  (case g2 | g3 | g4 | g5 | g6 | g7 => apply L2.zmw <;> k_is)
  (case g8 | g9 => apply L2.zmy <;> k_is)
  (case g10 => apply L2.zmw <;> k_is)
  (case g11 => apply L2.zmy <;> k_is)
  (case g12 => apply L2.zmw <;> k_is)
  (case g13 => apply L2.zmy <;> k_is)
  (case g14 | g15 | g16 | g17 | g18 | g19 | g20 | g21 => apply L2.zmw <;> k_is)
  (case g22 | g23 | g24 | g25 | g26 | g27 => apply L2.zmx <;> k_is)
  (case yM => k_is)
  (case g28 => apply L2.zmw <;> k_is)
  (case cQ0 => apply L2.zmz <;> k_is)
  (case nQ0 => k_is)
  (case cQ1 | cQ2 | cQ3 => apply L2.zmz <;> k_is)
  (case nQ3 => exact ⟨by k_is, by k_is, by k_is⟩)
  (case cFU => apply L2.zmz <;> k_is)
  (case nFU => exact ⟨by k_is, by k_is, by k_is⟩)
  (case cWE => apply L2.zmz <;> k_is)
  (case nWE => k_is)
  (case g29 | g30 | g31 | g32 | g33 => apply L2.zmw <;> k_is)
  (case g34 => apply L2.zmy <;> k_is)
  (case g35 | g36 => apply L2.zmw <;> k_is)
  (case g37 | g38 | g39 | g40 | g41 | g42 | g43 | g44 | g45 | g46 | g47 | g48 | g49 | g50 | g51 | g52 | g53 | g54 | g55 | g56 | g57 | g58 | g59 | g60 | g61 | g62 | g63 | g64 | g65 | g66 | g67 | g68 | g69 | g70 => apply L2.zmx <;> k_is)
  (case zisinstance | zstr | zbool | zlen | zall | zrange | zlist | zenumerate | zset | zmax | zint | zzip | gL | gN | gMP | gMB | ytP | utP | ytB | utB | ytO | utO | ysg | usg | yGr | lGr => k_is)
  (case kGr => k_keys)
  (case eG0 | eG1 | eG2 | eG3 | eG4 => k_is)
  (case dga => exact ⟨by k_is, by k_is, by k_is, by k_is⟩)
  (case h0 | h1 | h2 | h3 | h4 => exact ⟨by k_is, by k_is, by k_is, by k_is, by k_is⟩)
  (case yDF => k_is)
  (case qc0 | qc1 | qc2 | qc3 => exact ⟨by k_is, by k_is⟩)
  (case qk0 | qk1 | qk2 | qk3 => exact ⟨by kit_is, by kit_is, by kit_is, by kit_is, by kit_is⟩)
  (case qi1 | qi2 => k_is)
  (case xg => exact ⟨by k_is, by k_is⟩)
  (case yE9 | yE10 | yE11 | yE12 | yE13 | yE14 => k_is)
  (case ec9 | ec10 | ec11 | ec12 | ec13 | ec14 => exact ⟨by first | kernel_rfl | exact rfl, by first | kernel_rfl | exact rfl, by first | kernel_rfl | exact rfl⟩)
  (case ea9 | ea10 | ea11 | ea12 | ea13 | ea14 => exact ⟨by k_is, by k_is, by k_is, by k_is, by k_is, by k_is, by k_is, by k_is, by k_is, by k_is, by k_is⟩)
  (case k9 | k10 | k11 | k12 | k13 | k14 => exact ⟨by kit_is, by kit_is, by kit_is, by kit_is, by kit_is, by kit_is⟩)
  (case em9 | em10 | em11 | em12 | em13 | em14 => kts_exm)
#print axioms PySem.Challenge.cw_callbinds_k43_values_by_the_paper_holds
