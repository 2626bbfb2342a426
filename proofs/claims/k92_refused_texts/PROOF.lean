import PyProof.Rows.All
import Wide.All
import OpenK.AllK
import Wide.FinOn
import Lean
import PyProof.EqAt
import PyProof.EqKinds
import PyProof.TupleCall
import KE.KTryMore
import PyProof.ExcAttrAll.ValueError
import KE.KRevIter
import PyProof.SetNew
import PyProof.SetRoads
import PyProof.Rows.SetObj
import PyProof.DictCompW
import PyProof.DictItems
import PyProof.Rows.SetFrom
import PyProof.ListRange
import KE.KIntText
import KE.IntTextLaws
import PyProof.Rows.StrNews2
import Wide.Txt
import PyProof.FString5
import PyProof.Rows.Range3
import KE.IntBitsLaws
import PyProof.AttrMissHeap
import PyProof.FactsAll.bool_1
import KE.KDictOf
import PyProof.DictRoadsH
import PyProof.P3Eq
import PyProof.Rows.SortStr
import PyProof.Rows.SortWalk
import PyProof.FactsAll.set
import PyProof.CollectWalk
import PyProof.WalkInts
import PyProof.CollectIter
import KE.KMinBuiltin
import PyProof.Rows.CallKwBuiltin
import PyProof.NeData
import PyProof.StrLawsIdx
import PyProof.FitsReplace
import PyProof.StrLawsFirst
import PyProof.ConsumeS
import PyProof.StrCalls2
import PyProof.StrLawsJoin
import KE.RegKIsAll
import KE.RegKTryMore
import PySem.Challenge.RW_callbinds_k92_refused_texts
set_option Elab.async false
set_option linter.all false
set_option maxRecDepth 100000
set_option maxHeartbeats 4000000
open Nat (lt_of_lt_of_le lt_irrefl ne_of_lt le_trans le_of_lt le_refl zero_le lt_succ_self le_succ succ_mul min_eq_left min_eq_right le_add_right)
open List (filterMap_cons mem_cons_self mem_cons_of_mem mem_append_left getElem?_set_self getElem?_set_ne mem_append_right size_toArray length_cons map_cons length_map append_nil of_mem_zip length_take getElem?_map mem_of_getElem? length_append length_replicate length_drop all_cons any_cons replicate_succ flatten_cons append_assoc nil_append find?_cons length_nil map_nil lookup_cons length_set getElem?_eq_getElem getD_eq_getElem?_getD all_eq_true getElem_mem contains_cons forIn_cons lookup_cons_self mem_cons drop_left drop_eq_nil_of_le map_map take_of_length_le all_map take_add_one map_append take_succ_eq_append_getElem filter_append drop_length length_filter_le take_length flatten_append take_append_drop filter_cons nodup_nil length_range not_mem_nil map_take map_drop sum_cons drop_zero take_nil cons_ne_nil sum_append eq_of_mem_replicate)
open Option (getD_none)
open Int (emod_nonneg emod_lt_of_pos toNat_of_nonneg)
open PySem.W (instObj methodObj hideAll hideAll_get of_hideAll hideAll_none lookIn plainGet hasDictIn plainGet_of plainOver takerIn makesIn emptyDict kitOne kia_one callWith_K methodCall_KW callWith_K0 cellsFrom_some fnOf codeIn funFrames_hide exmOne kitAny KeysLit nsIn mapOf_K excIn mg_of Frag findIn specialIn keepIn isFn clsIn mroIn Looks)
namespace L2
open PySem PySem.Spec PyProof.Rows
theorem zp2:(0:Int)<2:=by decide
theorem zp3:(0:Int)<3:=by decide
theorem zp9:(0:Int)<9:=by decide
abbrev PnL:=List (Addr×Obj)
abbrev VSP:=Value->Shared->Prop
theorem vc : 0<=sizeLine:=by decide
theorem zhg : 1<=sizeLine:=by decide
theorem y7 : 2<=sizeLine:=by decide
theorem zbu : 3<=sizeLine:=by decide
theorem zmx : 4<=sizeLine:=by decide
theorem zmw : 5<=sizeLine:=by decide
theorem zmv : 7<=sizeLine:=by decide
theorem zlf : 11<=sizeLine:=by decide
abbrev zwb:=@wpAny_bind
abbrev zwp:=@wpAny_pure
abbrev zft:=@Bool.false_ne_true
abbrev zgp:=@Heap.get?_push_of_some
abbrev zgs:=@Heap.get?_push_size
abbrev Key:=Sum Int Str
def zai:Key->Value->Bool
 | .inl k,v=>Value.isInt k v
 | .inr x,v=>Value.isStrOf x v
def zmZ(w:World):Key->Int
 | .inl k=>hashInt k
 | .inr x=>hashStr w x
theorem yN:∀{k:Key}{v:Value},zai k v=true->(∃i t,k=Sum.inl i/\v=Value.int i t)\/(∃x t,k=Sum.inr x/\v=Value.str x t)
 | .inl i,v,h=>by
  obtain⟨t,e⟩:=Value.isInt_shape (k:=i) (v:=v) h;exact .inl ⟨i,t,rfl,e⟩
 | .inr x,v,h=>by
  obtain⟨t,e⟩:=Value.isStrOf_shape (x:=x) (v:=v) h;exact .inr ⟨x,t,rfl,e⟩
theorem zeI(i:Int)(t:Tok):zai (.inl i) (.int i t)=true:=by simp [zai,Value.isInt]
theorem zeH(x:Str)(t:Tok):zai (.inr x) (.str x t)=true:=by simp [zai,Value.isStrOf]
theorem zkO(a b:Int):decide ((Sum.inl a:Key)=Sum.inl b)=(a==b):=by
 by_cases e:a=b
 ·subst e;simp
 ·have h:¬(Sum.inl a:Key)=Sum.inl b:=fun q=>e (Sum.inl.inj q)
  rw[decide_eq_false h];exact(beq_eq_false_iff_ne.mpr e).symm
theorem zkL(a b:Str):decide ((Sum.inr a:Key)=Sum.inr b)=decide (a=b):=by
 by_cases e:a=b
 ·subst e;simp
 ·have h:¬(Sum.inr a:Key)=Sum.inr b:=fun q=>e (Sum.inr.inj q)
  rw[decide_eq_false h,decide_eq_false e]
theorem zkN(a:Int)(b:Str):decide ((Sum.inl a:Key)=Sum.inr b)=false:=decide_eq_false (fun q=>nomatch q)
theorem zkM(a:Str)(b:Int):decide ((Sum.inr a:Key)=Sum.inl b)=false:=decide_eq_false (fun q=>nomatch q)
def yG(prog:Program)(w:World):PySem.KeyKind prog w Key where
 is:=zai
 hash:=zmZ w
 inj:=fun v a b ha hb=>by
  rcases yN ha with ⟨i,t,rfl,rfl⟩|⟨x,t,rfl,rfl⟩
  ·rcases yN hb with ⟨j,u,rfl,e⟩|⟨y,u,rfl,e⟩
   ·injection e with e1 _;rw[e1]
   ·exact nomatch e
  ·rcases yN hb with ⟨j,u,rfl,e⟩|⟨y,u,rfl,e⟩
   ·exact nomatch e
   ·injection e with e1 _;rw[e1]
 byValue:=fun k v h=>by
  rcases yN h with ⟨i,t,rfl,rfl⟩|⟨x,t,rfl,rfl⟩ <;> rfl
 pyHash:=fun hv h=>by
  rcases yN hv with ⟨i,t,rfl,rfl⟩|⟨x,t,rfl,rfl⟩
  ·exact wpAny_pyHash_int h
  ·exact wpAny_pyHash_str h
 eqBool:=fun hu hv h=>by
  rcases yN hu with ⟨i,t,rfl,rfl⟩|⟨x,t,rfl,rfl⟩
  ·rcases yN hv with ⟨j,u,rfl,rfl⟩|⟨y,u,rfl,rfl⟩
   ·rw[zkO] at h;exact wpAny_eqBool_int h
   ·rw[zkN] at h;exact SeqAt.EqAt.int_str i t y u _ _ _ _ h
  ·rcases yN hv with ⟨j,u,rfl,rfl⟩|⟨y,u,rfl,rfl⟩
   ·rw[zkM] at h;exact SeqAt.EqAt.str_int x t j u _ _ _ _ h
   ·rw[zkL] at h;exact wpAny_eqBool_str h
 «strs»:=fun k x t v h=>by
  rcases yN h with ⟨i,u,rfl,e⟩|⟨y,u,rfl,e⟩
  ·exact nomatch e
  ·injection e with e1 _
   subst e1;cases v <;> rfl
theorem zbT(prog:Program)(w:World)(i:Int)(t:Tok):(yG prog w).is (.inl i) (.int i t)=true:=zeI i t
theorem zbS(prog:Program)(w:World)(x:Str)(t:Tok):(yG prog w).is (.inr x) (.str x t)=true:=zeH x t
inductive V where
 | non|bl (b:Bool)|int (i:Int)|str (x:Str)|byt (b:Array UInt8)|flt (b:UInt64)|ref (a:Addr)|ty (n:String)
 deriving DecidableEq
def yj:V->Value->Prop
 | .non,u=>u=Value.none
 | .bl b,u=>u=Value.bool b
 | .int i,u=>∃t,u=Value.int i t
 | .str x,u=>∃t,u=Value.str x t
 | .byt b,u=>∃t,u=Value.bytes b t
 | .flt b,u=>∃t,u=Value.float b t
 | .ref a,u=>u=Value.ref a
 | .ty n,u=>u=Value.type n
abbrev zY:List V->List Value->Prop:=Paired yj
theorem zY.length{xs:List V}{us:List Value}(r:zY xs us):xs.length=us.length:=Paired.length r
theorem zY.get:∀{xs:List V}{us:List Value}{i:Nat}{x:V},zY xs us->xs[i]?=some x->∃u,us[i]?=some u/\yj x u
 | _,_,_,_,.nil,e=>by simp at e
 | _,_,0,_,.cons r _,e=>by simp at e;subst e;exact⟨_,rfl,r⟩
 | _,_,i+1,x,.cons _ t,e=>by
  obtain⟨u,h1,h2⟩:=zY.get (i:=i) (x:=x) t (by simpa using e)
  exact⟨u,by simpa using h1,h2⟩
theorem zY.append:∀{xs ys:List V}{us ws:List Value},zY xs us->zY ys ws->zY (xs++ys) (us++ws)
 | _,_,_,_,.nil,s=>s
 | _,_,_,_,.cons r t,s=>.cons r (zY.append t s)
theorem zY.take:∀{xs:List V}{us:List Value}(n:Nat),zY xs us->zY (xs.take n) (us.take n)
 | _,_,0,_=>.nil
 | _,_,_+1,.nil=>.nil
 | _,_,n+1,.cons r t=>.cons r (zY.take n t)
theorem zY.drop:∀{xs:List V}{us:List Value}(n:Nat),zY xs us->zY (xs.drop n) (us.drop n)
 | _,_,0,r=>r
 | _,_,_+1,.nil=>.nil
 | _,_,n+1,.cons _ t=>zY.drop n t
def jk:Option V->Option Value->Prop
 | some v,some u=>yj v u
 | none,none=>True
 | _,_=>False
def KV{κ : Type}:List (κ×V)->List (κ×Value)->Prop:=Paired fun (p : κ×V) (q : κ×Value)=>p.1=q.1/\yj p.2 q.2
def kV:Key->V
 | .inl i=>.int i
 | .inr x=>.str x
inductive HO where
 | lst (xs:List V)
 | tup (xs:List V)
 | dK (kvs:List (Key×V))|dT (kvs:List (List Key×V))
 | set (S:Int->Bool) (n:Nat)
 | ins (C dx:Addr) (fs:List (Str×V))
 | own (x:Addr)
 | xd (fs:List (Str×V))
 | met (f x:Addr)
 | rng (lo hi:Int)
 | frz (o:Obj) (u:HO)
 | tbl (ps:Array Value)
 | ext (φ : Heap->Prop)
abbrev Hp:=Addr->Option HO
def upd(H:Hp)(a:Addr)(o:HO):Hp:=fun b=>if b=a then some o else H b
theorem zc{H:Hp}{a:Addr}{o:HO}:upd H a o a=some o:=by unfold upd;rw[if_pos rfl]
theorem zv{H:Hp}{a b:Addr}{o:HO}(h:b≠a):upd H a o b=H b:=by unfold upd;rw[if_neg h]
theorem xZ{H:Hp}{a:Addr}{o u:HO}:upd (upd H a o) a u=upd H a u:=by
 funext b;unfold upd;split <;> rfl
theorem ul{H:Hp}{a b:Addr}{o u:HO}(h:H a=some o)(h':H b=some u)(d:o≠u):a≠b:=by
 intro e;subst e;rw[h] at h';exact d (Option.some.inj h')
theorem zu{H:Hp}{a b:Addr}{o:HO}(h:H a=some o)(h':H b=none):a≠b:=by
 intro e;subst e;rw[h] at h';cases h'
section
variable (P:Program) (w:World)
def yB(H:Hp)(h:Heap)(a:Addr):HO->Prop
 | .lst xs=>xs.length<=sizeLine/\∃(its:List Value) (n:Nat),zY xs its/\h.get? a=some { cls:=.type "list",data:=.seq its.toArray n }
 | .tup xs=>xs.length<=sizeLine/\∃its:List Value,zY xs its/\IsTup h a its.toArray
 | .dK kvs=>kvs.length<=sizeLine/\(a==sysModules)=false/\∃vs,KV kvs vs/\h.DictOf (yG P w) a vs
 | .dT kvs=>kvs.length<=sizeLine/\(a==sysModules)=false/\∃xs:List (List Key×Addr×Value),
   Paired (fun (p:List Key×V) (q:List Key×Addr×Value)=>p.1=q.1/\H q.2.1=some (.tup (p.1.map kV))/\yj p.2 q.2.2) kvs xs/\
   ∃o es ep,h.get? a=some o/\o.ExactDict/\o.data=.dict es ep/\es.toList=xs.map (entryOfKey (tupleKind (yG P w)))/\(xs.map (·.1)).Nodup
 | .set S n=>h.SetOf (intKind P w) a S n
 | .ins C dx fs=>H dx=some (.own a)/\fs.length<=1000/\dx≠a/\h.get? a=some (instObj C dx)/\
   ∃mA,h.Ns1 dx mA/\(∀f,jk (fs.lookup f) (mA f))/\PySem.Within mA (fs.map (·.1))
 | .own _=>∃o,h.get? a=some o
 | .xd fs=>∃mA,h.Ns1 a mA/\∀f,jk (fs.lookup f) (mA f)
 | .rng lo hi=>∃t u v,h.get? a=some { cls:=.type "range",data:=.fields #[.int lo t,.int hi u,.int 1 v] }
 | .frz o u=>h.get? a=some o/\yB H h a u
 | .tbl ps=>h.get? a=some { cls:=.none,data:=.fields ps }
 | .met f x=>h.get? a=some (methodObj (.ref f) (.ref x))
 | .ext φ=>φ h/\(∃o,h.get? a=some o)/\∀h1 h2:Heap,φ h1->(∀o,h1.get? a=some o->h2.get? a=some o)->φ h2
def HOk(H:Hp)(h:Heap):Prop:=∀a o,H a=some o->yB P w H h a o
end
section
variable {P:Program}{w:World}{H H':Hp}{h h':Heap}{a:Addr}{o:HO}
theorem yB.lt(x:yB P w H h a o):a<h.objs.size:=by
 cases o with
 | lst xs=>obtain⟨_,_,_,_,e⟩:=x;exact Heap.lt_size e
 | tup xs=>obtain⟨_,_,_,p⟩:=x;exact p.lt
 | dK kvs=>obtain⟨_,_,_,_,o,_,_,e,_⟩:=x;exact Heap.lt_size e
 | dT kvs=>obtain⟨_,_,_,_,o,_,_,e,_⟩:=x;exact Heap.lt_size e
 | set S n=>obtain⟨o,_,_,_,e,_⟩:=x;exact Heap.lt_size e
 | ins C dx fs=>obtain⟨_,_,_,e,_⟩:=x;exact Heap.lt_size e
 | own y=>obtain⟨_,e⟩:=x;exact Heap.lt_size e
 | xd fs=>obtain⟨_,⟨_,_,_,e,_⟩,_⟩:=x;exact Heap.lt_size e
 | rng lo hi=>obtain⟨_,_,_,e⟩:=x;exact Heap.lt_size e
 | frz ob u=>obtain⟨e,_⟩:=x;exact Heap.lt_size e
 | tbl ps=>exact Heap.lt_size (show h.get? a=some _ from x)
 | met f y=>exact Heap.lt_size (show h.get? a=some _ from x)
 | ext φ=>obtain⟨_,⟨_,e⟩,_⟩:=x;exact Heap.lt_size e
theorem wG{α β : Type}{F G : α->β->Prop}:∀{l₁:List α}{l₂:List β},Paired F l₁ l₂->(∀a b,F a b->G a b)->Paired G l₁ l₂
 | _,_,.nil,_=>.nil
 | _,_,.cons r t,f=>.cons (f _ _ r) (wG t f)
theorem zH{α β : Type}{F G : α->β->Prop}(f:∀a b,F a b->G a b){l₁:List α}{l₂:List β}(r:Paired F l₁ l₂):Paired G l₁ l₂:=wG r f
theorem yB.stay(x:yB P w H h a o)(k:∀b u,(b=a\/H b=some (.own a))->h.get? b=some u->h'.get? b=some u)
  (ho:∀b,H b=some (.own a)->H' b=some (.own a)) (ht:∀b xs,H b=some (.tup xs)->H' b=some (.tup xs)):yB P w H' h' a o:=by
 induction o with
 | lst xs=>obtain⟨z,its,n,r,e⟩:=x;exact⟨z,its,n,r,k _ _ (.inl rfl) e⟩
 | tup xs=>obtain⟨z,its,r,ob,e,c⟩:=x;exact⟨z,its,r,ob,k _ _ (.inl rfl) e,c⟩
 | dK kvs=>obtain⟨z,y,vs,r,ob,es,ep,e,c⟩:=x;exact⟨z,y,vs,r,ob,es,ep,k _ _ (.inl rfl) e,c⟩
 | dT kvs=>
  obtain⟨z,y,xs,r,ob,es,ep,e,c⟩:=x;exact⟨z,y,xs,wG r fun p q z=>⟨z.1,ht _ _ z.2.1,z.2.2⟩,ob,es,ep,k _ _ (.inl rfl) e,c⟩
 | set S n=>obtain⟨ob,es,ep,t,e,c⟩:=x;exact⟨ob,es,ep,t,k _ _ (.inl rfl) e,c⟩
 | ins C dx fs=>
  obtain⟨d,z,ne,e,mA,⟨od,es,ep,e2,c⟩,r⟩:=x;exact⟨ho _ d,z,ne,k _ _ (.inl rfl) e,mA,⟨od,es,ep,k _ _ (.inr d) e2,c⟩,r⟩
 | own y=>obtain⟨ob,e⟩:=x;exact⟨ob,k _ _ (.inl rfl) e⟩
 | xd fs=>obtain⟨mA,⟨od,es,ep,e,c⟩,r⟩:=x;exact⟨mA,⟨od,es,ep,k _ _ (.inl rfl) e,c⟩,r⟩
 | rng lo hi=>obtain⟨t,u,v,e⟩:=x;exact⟨t,u,v,k _ _ (.inl rfl) e⟩
 | frz ob u ih=>obtain⟨e,q⟩:=x;exact⟨k _ _ (.inl rfl) e,ih q⟩
 | tbl ps=>
  have e:h.get? a=some { cls:=.none,data:=.fields ps }:=x;show h'.get? a=some { cls:=.none,data:=.fields ps };exact k a _ (.inl rfl) e
 | met f y=>
  have e:h.get? a=some (methodObj (.ref f) (.ref y)):=x;show h'.get? a=some (methodObj (.ref f) (.ref y));exact k a _ (.inl rfl) e
 | ext φ=>obtain⟨p,⟨o,e⟩,st⟩:=x;exact⟨st _ _ p fun o q=>k _ _ (.inl rfl) q,⟨o,k _ _ (.inl rfl) e⟩,st⟩
theorem HOk.lt(x:HOk P w H h)(e:H a=some o):a<h.objs.size:=(x a o e).lt
theorem HOk.fresh(x:HOk P w H h)(e:h.objs.size<=a):H a=none:=by
 cases q:H a with
 | none=>rfl
 | some u=>exact absurd (lt_of_lt_of_le (x.lt q) e) (lt_irrefl _)
theorem HOk.kept(x:HOk P w H h)(k:∀b u,h.get? b=some u->h'.get? b=some u):HOk P w H h':=fun a o e=>
 (x a o e).stay (fun b u _ q=>k b u q) (fun _ q=>q) fun _ _ q=>q
theorem HOk.laid(x:HOk P w H h)(k:∀b u,h.get? b=some u->h'.get? b=some u)(hp:h.objs.size<=a)(new:yB P w (upd H a o) h' a o):HOk P w (upd H a o) h':=fun b u e=>by
 have hn:=x.fresh hp;by_cases hb:b=a
 ·subst hb;rw[zc] at e;cases e;exact new
 ·rw[zv hb] at e
  exact(x b u e).stay (fun c v _ q=>k c v q) (fun c q=>by rw[zv (zu q hn)];exact q) fun c xs q=>by rw[zv (zu q hn)];exact q
def Rd(H:Hp)(a:Addr)(u:HO):Prop:=H a=some u\/∃o,H a=some (.frz o u)
theorem Rd.ok{P:Program}{w:World}{H:Hp}{h:Heap}{a:Addr}{u:HO}(r:Rd H a u)(x:HOk P w H h):yB P w H h a u:=by
 rcases r with r|⟨o,r⟩
 ·exact x a u r
 ·obtain⟨_,q⟩:=x a _ r
  exact q
def Mut:Option HO->Prop
 | some (.lst _)=>True
 | some (.dK _)=>True
 | some (.dT _)=>True
 | some (.set _ _)=>True
 | some (.ins _ _ _)=>True
 | some (.ext _)=>True
 | _=>False
variable {x e:Addr}{o':HO}
theorem HOk.write(ok:HOk P w H h)(mu:Mut (H x))(he:e=x\/H e=some (.own x))(k:∀b u,b≠e->h.get? b=some u->h'.get? b=some u)(heo:∃u,h'.get? e=some u)
  (new:yB P w (upd H x o') h' x o'):HOk P w (upd H x o') h':=fun b u q=>by
 have nown:∀c y,H c=some (.own y)->c≠x:=fun c y r z=>by subst z;rw[r] at mu;exact mu
 have ntup:∀c xs,H c=some (.tup xs)->c≠x:=fun c xs r z=>by subst z;rw[r] at mu;exact mu
 by_cases hb:b=x
 ·subst hb;rw[zc] at q;cases q;exact new
 ·rw[zv hb] at q
  by_cases hbe:b=e
  ·have q':H b=some (.own x):=by
    rcases he with z|z
    ·exact absurd (hbe.trans z) hb
    ·rw[hbe];exact z
   rw[q] at q';cases q';obtain⟨v,hv⟩:=heo;exact⟨v,by rw[hbe];exact hv⟩
  ·refine(ok b u q).stay (fun c v hc r=>k c v ?_ r) (fun c r=>by rw[zv (nown c b r)];exact r) fun c xs r=>by rw[zv (ntup c xs r)];exact r
   rcases hc with rfl|hc
   ·exact hbe
   ·rintro rfl
    rcases he with z|z
    ·exact nown c b hc z
    ·rw[hc] at z;cases z;exact hb rfl
structure Un(fs ex:List Addr)(H H':Hp)(h h':Heap):Prop where
 keep:∀b o,h.get? b=some o->H b=none->b∉fs->b∉ex->h'.get? b=some o
 slot:∀b o,h.get? b=some o->H b=none->b∈fs->b∉ex->∃sl,h'.get? b=some { o with slots:=sl }
 free:∀b o,h.get? b=some o->H b=none->b∉ex->H' b=none
 there:∀b o,h.get? b=some o->b∉ex->∃o',h'.get? b=some o'
 tups:∀b xs,H b=some (.tup xs)->H' b=some (.tup xs)
 frzs:∀b o u,H b=some (.frz o u)->H' b=some (.frz o u)
 tbls:∀b ps,H b=some (.tbl ps)->∃more,H' b=some (.tbl (ps++more))
variable {fs fs' ex ex':List Addr}{H1 H2:Hp}{h1 h2:Heap}
theorem Un.any(u:Un fs ex H H1 h h1){b:Addr}{ob:Obj}(q:h.get? b=some ob)(n:H b=none)(hx:b∉ex):∃sl,h1.get? b=some { ob with slots:=sl }:=by
 by_cases hb:b∈fs
 ·exact u.slot b ob q n hb hx
 ·exact⟨ob.slots,u.keep b ob q n hb hx⟩
theorem Un.kept(k:∀b u,h.get? b=some u->h'.get? b=some u):Un fs ex H H h h':=
 ⟨fun b ob q _ _ _=>k b ob q,fun b ob q _ _ _=>⟨ob.slots,k b ob q⟩,fun _ _ _ n _=>n,fun b ob q _=>⟨ob,k b ob q⟩,fun _ _ q=>q,fun _ _ _ q=>q,fun _ ps q=>⟨#[],by rw[q];simp⟩⟩
theorem Un.refl:Un fs ex H H h h:=Un.kept fun _ _ q=>q
theorem Un.laid(k:∀b u,h.get? b=some u->h'.get? b=some u)(hp:h.objs.size<=a)(hn:H a=none):Un fs ex H (upd H a o) h h' where
 keep:=fun b u q _ _ _=>k b u q
 slot:=fun b u q _ _ _=>⟨u.slots,k b u q⟩
 free:=fun b u q n _=>by rw[zv (ne_of_lt (lt_of_lt_of_le (Heap.lt_size q) hp))];exact n
 there:=fun b u q _=>⟨u,k b u q⟩
 tups:=fun b xs q=>by rw[zv (zu q hn)];exact q
 frzs:=fun b u xs q=>by rw[zv (zu q hn)];exact q
 tbls:=fun b ps q=>⟨#[],by rw[zv (zu q hn),q];simp⟩
theorem Un.write(mu:Mut (H x))(he:e=x\/H e=some (.own x))(k:∀b u,b≠e->h.get? b=some u->h'.get? b=some u)(heo:∃u,h'.get? e=some u):Un fs ex H (upd H x o) h h':=by
 have hx:∀b,H b=none->b≠x:=fun b n z=>by subst z;rw[n] at mu;exact mu
 have hb:∀b,H b=none->b≠e:=fun b n z=>by
  subst z;rcases he with r|r
  ·exact hx b n r
  ·rw[n] at r;cases r
 have hm:∀b u,H b=some u->¬Mut (some u)->b≠x:=fun b u q nm z=>by subst z;rw[q] at mu;exact nm mu
 refine⟨fun b u q n _ _=>k b u (hb b n) q,fun b u q n _ _=>⟨u.slots,k b u (hb b n) q⟩,fun b u q n _=>by rw[zv (hx b n)];exact n,fun b u q _=>?_,
  fun b xs q=>by rw[zv (hm b _ q fun z=>z)];exact q,fun b u xs q=>by rw[zv (hm b _ q fun z=>z)];exact q,fun b ps q=>⟨#[],by rw[zv (hm b _ q fun z=>z),q];simp⟩⟩
 by_cases hbe:b=e
 ·subst hbe;exact heo
 ·exact⟨u,k b u hbe q⟩
def trk(h:Heap)(H:Hp):List Addr:=(List.range h.objs.size).filter fun a=>(H a).isSome
def za9(h:Heap)(H:Hp):Heap:=hideAll h (trk h H)
theorem zeK(h:Heap)(H:Hp):(za9 h H).objs.size=h.objs.size:=PySem.W.hideAll_size _ _
theorem zgz{h:Heap}{H:Hp}{b:Addr}{o:Obj}(e:h.get? b=some o)(n:H b=none):(za9 h H).get? b=some o:=
 hideAll_get _ e fun hm=>by
  have q:(H b).isSome=true:=(List.mem_filter.mp hm).2;rw[n] at q;simp at q
theorem zh1{h:Heap}{H:Hp}{b:Addr}{o:Obj}(e:(za9 h H).get? b=some o):h.get? b=some o/\H b=none:=by
 have e':h.get? b=some o:=of_hideAll (trk h H) e;refine⟨e',?_⟩;cases q:H b with
 | none=>rfl
 | some x=>
  have hm:b∈trk h H:=List.mem_filter.mpr ⟨List.mem_range.mpr (Heap.lt_size e'),by simp [q]⟩
  have z:(za9 h H).get? b=none:=hideAll_none (trk h H) hm;rw[z] at e;cases e
def ziF(g h:Heap)(L:Addr):List (Addr×Obj):=(List.range h.objs.size).filterMap fun a=>if a=L\/(g.get? a).isSome=true then none else (h.get? a).map fun o=>(a,o)
def rest(g h:Heap)(L d:Addr):List (Addr×Obj):=(ziF g h L).filter fun p=>decide (p.1≠d)
structure Mod(K:Frag)(mg:Str->Option Value)(base:Heap):Prop where
 kin:K.In base
 glob:base.Ns mainGlobals mg
 blt:∃mb,base.Ns builtinsNs mb/\∀x:Str,x≠"__name__"->mb x=bootBuiltins x
 nolimit:base.NoLimit
structure Cx where
 prog:Program
 w:World
 K:Frag
 mg:Str->Option Value
 base:Heap
 A:Around
 N:List Str
 s₀:Shared
 H₀:Hp
 env:Env
 outer:List Env
 stack:List Env
 ex:List Addr
 fn:Str->Bool
 calm:Bool
 pn:List (Addr×Obj)
 xe:Value->Shared->Prop
def frs(l:List Env):List Addr:=l.filterMap (·.frame)
end
abbrev Cx.fs(X:Cx):List Addr:=frs X.outer
def Vis(sc:Scope)(x:Str):Prop:=sc.names.lookup x=some .local\/sc.names.lookup x=some .cell\/sc.names.lookup x=some .free
def Loc(sc:Scope)(x:Str):Prop:=sc.names.lookup x=some .local\/sc.names.lookup x=some .cell
def zm8(env:Env)(h:Heap)(m:Str->Option Value)(x:Str)(u:Value):Prop:=
 (env.kindOf x=some .local/\m x=some u)\/((env.kindOf x=some .cell\/env.kindOf x=some .free)/\∃c,env.cells.lookup x=some c/\h.IsCell c (some u))
structure Cx.Ok(X:Cx):Prop where
 mod:Mod X.K X.mg X.base
 kind:X.env.scope.kind=.function
 glob:X.env.globals=mainGlobals
 blt:X.env.builtins=builtinsNs
 above:X.s₀.heap.objs.size<=X.env.locals
 inj:∀x y c,X.env.cells.lookup x=some c->X.env.cells.lookup y=some c->x=y
 has:∀x,(X.env.kindOf x=some .cell\/X.env.kindOf x=some .free)->∃c,X.env.cells.lookup x=some c
 cab:∀x c,X.fn x=true->X.env.cells.lookup x=some c->X.s₀.heap.objs.size<=c
 hd:X.calm=true->X.A.handled=none
 frames:X.A.frames=some X.stack
 stk:X.stack=X.outer\/(X.stack=X.env::X.outer/\X.env.frame=some X.env.locals)
 exf:∀b∈X.ex,b≠X.env.locals/\∀x c,X.env.cells.lookup x=some c->c≠b
 bs:∀b o,X.base.get? b=some o->X.s₀.heap.get? b=some o/\X.H₀ b=none
 bsz:X.base.objs.size<=X.s₀.heap.objs.size
 noex:∀b o,X.base.get? b=some o->b∉X.ex
 exfs:∀b∈X.ex,b∉X.fs
 funs:X.s₀.heap.FunFrames X.base X.outer
 frf:∀b∈X.fs,X.H₀ b=none
structure Inv(X:Cx)(pins:PnL)(σ : List (Option V))(H:Hp)(s:Shared):Prop where
 ok:X.Ok
 os:s.os=X.s₀.os
 bare:AllBare s.gens
 base:Un X.fs X.ex X.H₀ H X.s₀.heap s.heap
 loc:∃m,s.heap.Ns X.env.locals m/\∀(i:Nat) (x:Str) (v:V),X.N[i]?=some x->σ[i]?=some (some v)->Vis X.env.scope x->∃u,yj v u/\zm8 X.env s.heap m x u
 cell:∀x c,X.env.cells.lookup x=some c->∃v,s.heap.IsCell c v
 free:H X.env.locals=none
 freeC:∀x c,X.env.cells.lookup x=some c->H c=none
 pin:∀p∈X.pn++pins,s.heap.get? p.1=some p.2/\H p.1=none/\p.1≠X.env.locals/\p.1∉X.fs/\∀v,p.2.data≠.cell v
 hok:HOk X.prog X.w H s.heap
 len : σ.length=X.N.length
section
variable {X:Cx}{pins:PnL}{σ:List (Option V)}{H H':Hp}{s:Shared}{h':Heap}
theorem Cx.Ok.nofr(ok:X.Ok){b:Addr}{o:Obj}(e:X.base.get? b=some o):b∉X.fs:=fun hb=>by
 have:=(ok.funs.mem hb).1
 rw[e] at this;cases this
theorem Inv.bs(I:Inv X pins σ H s):∀b o,X.base.get? b=some o->s.heap.get? b=some o/\H b=none:=fun b o e=>
 ⟨I.base.keep b o (I.ok.bs b o e).1 (I.ok.bs b o e).2 (I.ok.nofr e) (I.ok.noex b o e),I.base.free b o (I.ok.bs b o e).1 (I.ok.bs b o e).2 (I.ok.noex b o e)⟩
theorem Inv.bk(I:Inv X pins σ H s):∀b o,X.base.get? b=some o->s.heap.get? b=some o:=fun b o e=>(I.bs b o e).1
theorem Inv.mod(I:Inv X pins σ H s):Mod X.K X.mg X.base:=I.ok.mod
theorem Inv.kIn(I:Inv X pins σ H s):X.K.In s.heap:=I.ok.mod.kin.keeps I.bk
theorem Inv.lt(I:Inv X pins σ H s):X.env.locals<s.heap.objs.size:=let ⟨_,hn,_⟩:=I.loc;hn.lt
theorem Inv.sz(I:Inv X pins σ H s):X.s₀.heap.objs.size<=s.heap.objs.size:=le_trans I.ok.above (le_of_lt I.lt)
theorem Inv.nofs(I:Inv X pins σ H s){a:Addr}(h:s.heap.objs.size<=a):a∉X.fs:=fun hb=>by
 obtain⟨_,o,ho,_⟩:=I.ok.funs.mem hb;exact absurd (lt_of_lt_of_le (Heap.lt_size ho) (le_trans I.sz h)) (lt_irrefl _)
theorem Inv.cne(I:Inv X pins σ H s):∀x c,X.env.cells.lookup x=some c->c≠X.env.locals:=fun x c e z=>by
 obtain⟨v,o,ho,hd⟩:=I.cell x c e;obtain⟨m,⟨o',es,ep,ho',hd',_⟩,_⟩:=I.loc;rw[z,ho'] at ho;cases ho;rw[hd'] at hd;cases hd
theorem Inv.funs(I:Inv X pins σ H s):s.heap.FunFrames X.base X.outer:=by
 have all:∀(l:List Env),(∀b∈frs l,b∈X.fs)->X.s₀.heap.FunFrames X.base l->s.heap.FunFrames X.base l:=by
  intro l;induction l with
  | nil=>intro _ _;trivial
  | cons env r ih=>
   intro hs hl;obtain⟨hk,⟨L,o,hf,hn,ho,hd⟩,hr⟩:=hl;have hL:L∈X.fs:=hs L (by unfold frs;rw[filterMap_cons,hf];exact mem_cons_self)
   obtain⟨sl,e⟩:=I.base.slot L o ho (I.ok.frf L hL) hL fun z=>I.ok.exfs L z hL;exact⟨hk,⟨L,_,hf,hn,e,hd⟩,ih (fun b hb=>hs b (by unfold frs;rw[filterMap_cons,hf];exact mem_cons_of_mem _ hb)) hr⟩
 exact all X.outer (fun _ hb=>hb) I.ok.funs
theorem Inv.stack(I:Inv X pins σ H s):s.heap.FunFrames X.base X.stack:=by
 rcases I.ok.stk with e|⟨e,hf⟩
 ·rw[e];exact I.funs
 ·rw[e]
  obtain⟨m,hn,_⟩:=I.loc;refine .cons (by rw[I.ok.kind];decide) hf hn ?_ I.funs
  exact Heap.get?_none_of_le (le_trans I.ok.bsz I.ok.above)
theorem Inv.stkSub(I:Inv X pins σ H s):∀b∈frs X.stack,b∈X.env.locals::X.fs:=fun b hb=>by
 rcases I.ok.stk with e|⟨e,hf⟩
 ·rw[e] at hb;exact mem_cons_of_mem _ hb
 ·rw[e] at hb
  unfold frs at hb;rw[filterMap_cons,hf] at hb;exact hb
theorem Inv.stkFree(I:Inv X pins σ H s):∀b∈frs X.stack,H b=none:=fun b hb=>by
 rcases List.mem_cons.mp (I.stkSub b hb) with e|hb
 ·rw[e];exact I.free
 ·obtain⟨_,o,ho,_⟩:=I.ok.funs.mem hb
  exact I.base.free b o ho (I.ok.frf b hb) fun z=>I.ok.exfs b z hb
theorem Inv.step{g':Array GenState}{t':Nat}{d':Drawn}{ch:List Addr}(I:Inv X pins σ H s)
  (hch:∀b∈ch,(b∈X.ex\/X.s₀.heap.objs.size<=b)/\b≠X.env.locals/\(∀x c,X.env.cells.lookup x=some c->c≠b)/\∀p∈X.pn++pins,p.1≠b)
  (keep:∀b o,b≠X.env.locals->b∉X.fs->b∉ch->s.heap.get? b=some o->H b=none->h'.get? b=some o)
  (slot:∀b o,b≠X.env.locals->b∈X.fs->b∉ch->s.heap.get? b=some o->H b=none->∃sl,h'.get? b=some { o with slots:=sl }) (free:∀b o,b∉ch->s.heap.get? b=some o->H b=none->H' b=none)
  (there:∀b o,b∉ch->s.heap.get? b=some o->∃o',h'.get? b=some o')
  (tups:∀b xs,H b=some (.tup xs)->H' b=some (.tup xs)) (frzs:∀b o u,H b=some (.frz o u)->H' b=some (.frz o u)) (tbls:∀b ps,H b=some (.tbl ps)->∃more,H' b=some (.tbl (ps++more)))
  (ns:∀m,s.heap.Ns X.env.locals m->h'.Ns X.env.locals m) (hok:HOk X.prog X.w H' h') (hg:AllBare g') :
  Inv X pins σ H' { s with heap:=h',gens:=g',drawn:=d',toks:=t' }:=by
 have neL:∀b o,X.s₀.heap.get? b=some o->b≠X.env.locals:=fun b o e=>ne_of_lt (lt_of_lt_of_le (Heap.lt_size e) I.ok.above);have neC:∀b o,X.s₀.heap.get? b=some o->b∉X.ex->b∉ch:=fun b o e hx hb=>by
  rcases (hch b hb).1 with z|z
  ·exact hx z
  ·exact absurd (lt_of_lt_of_le (Heap.lt_size e) z) (lt_irrefl _)
 have cellK:∀x c,X.env.cells.lookup x=some c->∀v,s.heap.IsCell c v->h'.IsCell c v:=fun x c e v ⟨o,ho,hd⟩=>by
  have nch:c∉ch:=fun z=>(hch c z).2.2.1 x c e rfl;by_cases hc:c∈X.fs
  ·obtain⟨sl,q⟩:=slot c o (I.cne x c e) hc nch ho (I.freeC x c e)
   exact⟨_,q,hd⟩
  ·exact⟨o,keep c o (I.cne x c e) hc nch ho (I.freeC x c e),hd⟩
 refine⟨I.ok,I.os,hg,⟨fun b o e n hb hx=>?_,fun b o e n hb hx=>?_,fun b o e n hx=>?_,fun b o e hx=>?_,fun b xs e=>tups b xs (I.base.tups b xs e),fun b o xs e=>frzs b o xs (I.base.frzs b o xs e),fun b ps e=>?_⟩,?_,fun x c e=>?_,?_,fun x c e=>?_,fun p hp=>?_,hok,I.len⟩
 ·exact keep b o (neL b o e) hb (neC b o e hx) (I.base.keep b o e n hb hx) (I.base.free b o e n hx)
 ·obtain⟨sl,e1⟩:=I.base.slot b o e n hb hx
  obtain⟨sl',e2⟩:=slot b _ (neL b o e) hb (neC b o e hx) e1 (I.base.free b o e n hx);exact⟨sl',e2⟩
 ·obtain⟨o',e1⟩:=I.base.there b o e hx
  exact free b o' (neC b o e hx) e1 (I.base.free b o e n hx)
 ·obtain⟨o',e1⟩:=I.base.there b o e hx
  exact there b o' (neC b o e hx) e1
 ·obtain⟨m1,e1⟩:=I.base.tbls b ps e
  obtain⟨m2,e2⟩:=tbls b _ e1;exact⟨m1++m2,by rw[e2,Array.append_assoc]⟩
 ·obtain⟨m,hn,hl⟩:=I.loc
  refine⟨m,ns m hn,fun i x v e1 e2 e3=>?_⟩;obtain⟨u,r,l⟩:=hl i x v e1 e2 e3;refine⟨u,r,?_⟩;rcases l with l|⟨k,c,e,z⟩
  ·exact .inl l
  ·exact .inr ⟨k,c,e,cellK x c e _ z⟩
 ·obtain⟨v,z⟩:=I.cell x c e
  exact⟨v,cellK x c e v z⟩
 ·obtain⟨m,⟨o,_,_,ho,_⟩,_⟩:=I.loc
  exact free _ o (fun z=>(hch _ z).2.1 rfl) ho I.free
 ·obtain⟨v,o,ho,hd⟩:=I.cell x c e
  exact free c o (fun z=>(hch c z).2.2.1 x c e rfl) ho (I.freeC x c e)
 ·obtain⟨e,n,ne,nf,d⟩:=I.pin p hp
  have nch:p.1∉ch:=fun z=>(hch p.1 z).2.2.2 p hp rfl;exact⟨keep p.1 p.2 ne nf nch e n,free p.1 p.2 nch e n,ne,nf,d⟩
theorem Inv.un{t':Nat}(I:Inv X pins σ H s)(u:Un X.fs [] H H' s.heap h')(hok:HOk X.prog X.w H' h'):Inv X pins σ H' { s with heap:=h',toks:=t' }:=by
 obtain⟨m,⟨o,es,ep,ho,r⟩,_⟩:=id I.loc;obtain⟨sl,hL⟩:=u.any ho I.free (by simp)
 exact I.step (g':=s.gens) (d':=s.drawn) (ch:=[]) (fun _ z=>nomatch z) (fun b o _ hb _ e n=>u.keep b o e n hb (by simp)) (fun b o _ hb _ e n=>u.slot b o e n hb (by simp)) (fun b o _ e n=>u.free b o e n (by simp)) (fun b o _ e=>u.there b o e (by simp)) u.tups u.frzs u.tbls (fun m' hm=>by
  obtain⟨o',es',ep',ho',r'⟩:=hm;rw[ho] at ho';cases ho';exact⟨_,es',ep',hL,r'⟩) hok I.bare
theorem Inv.call{g':Array GenState}{t':Nat}{d':Drawn}{ch:List Addr}(I:Inv X pins σ H s)(u:Un (frs X.stack) ch H H' s.heap h')(hok:HOk X.prog X.w H' h')(hg:AllBare g')
  (hch:∀b∈ch,(b∈X.ex\/X.s₀.heap.objs.size<=b)/\b≠X.env.locals/\(∀x c,X.env.cells.lookup x=some c->c≠b)/\∀p∈X.pn++pins,p.1≠b) :
  Inv X pins σ H' { s with heap:=h',gens:=g',drawn:=d',toks:=t' }:=by
 obtain⟨m,⟨o,es,ep,ho,r⟩,_⟩:=id I.loc;obtain⟨sl,hL⟩:=u.any ho I.free fun z=>(hch _ z).2.1 rfl;exact I.step (ch:=ch) hch (fun b o hL hb hc e n=>u.keep b o e n (fun z=>(List.mem_cons.mp (I.stkSub b z)).elim hL hb) hc) (fun b o _ _ hc e n=>u.any e n hc) (fun b o hc e n=>u.free b o e n hc) (fun b o hc e=>u.there b o e hc) u.tups u.frzs u.tbls (fun m' hm=>by
  obtain⟨o',es',ep',ho',r'⟩:=hm;rw[ho] at ho';cases ho';exact⟨_,es',ep',hL,r'⟩) hok hg
theorem Inv.turned{t':Nat}{it:Addr}(I:Inv X pins σ H s)(k:∀b o,b≠it->s.heap.get? b=some o->h'.get? b=some o)(hn:H it=none)(hL:it≠X.env.locals)
  (h1:it∈X.ex\/X.s₀.heap.objs.size<=it) (h2:∀x c,X.env.cells.lookup x=some c->c≠it) (h3:∀p∈X.pn++pins,p.1≠it):Inv X pins σ H { s with heap:=h',toks:=t' }:=by
 have nit:∀b u,H b=some u->b≠it:=fun b u e z=>by rw[z,hn] at e;cases e
 refine I.step (g':=s.gens) (d':=s.drawn) (ch:=[it]) (fun b hb=>?_) (fun b o _ _ hc e _=>k b o (fun z=>hc (by simp [z])) e) (fun b o _ _ hc e _=>⟨o.slots,k b o (fun z=>hc (by simp [z])) e⟩) (fun _ _ _ _ n=>n)
  (fun b o hc e=>⟨o,k b o (fun z=>hc (by simp [z])) e⟩) (fun _ _ e=>e) (fun _ _ _ e=>e) (fun b ps e=>⟨#[],by rw[e];simp⟩) (fun m hm=>?_) (fun b u e=>?_) I.bare
 ·have e:b=it:=by simpa using hb
  subst e;exact⟨h1,hL,h2,h3⟩
 ·obtain⟨o,es,ep,ho,r⟩:=hm
  exact⟨o,es,ep,k _ o (Ne.symm hL) ho,r⟩
 ·refine(I.hok b u e).stay (fun c v hc q=>k c v ?_ q) (fun _ q=>q) fun _ _ q=>q
  rcases hc with z|z
  ·rw[z];exact nit b u e
  ·exact nit c _ z
theorem Inv.tok(I:Inv X pins σ H s)(t:Nat):Inv X pins σ H { s with toks:=t }:=I.un (h':=s.heap) (t':=t) Un.refl I.hok
theorem Inv.kept{t':Nat}(I:Inv X pins σ H s)(k:∀b u,s.heap.get? b=some u->h'.get? b=some u):Inv X pins σ H { s with heap:=h',toks:=t' }:=I.un (Un.kept k) (I.hok.kept k)
theorem Inv.laid{a:Addr}{o:HO}{t':Nat}(I:Inv X pins σ H s)(k:∀b u,s.heap.get? b=some u->h'.get? b=some u)(hp:s.heap.objs.size<=a)(new:yB X.prog X.w (upd H a o) h' a o):
  Inv X pins σ (upd H a o) { s with heap:=h',toks:=t' }:=I.un (Un.laid k hp (I.hok.fresh hp)) (I.hok.laid k hp new)
theorem Inv.write{x e:Addr}{o:HO}{t':Nat}(I:Inv X pins σ H s)(mu:Mut (H x))(he:e=x\/H e=some (.own x))(k:∀b u,b≠e->s.heap.get? b=some u->h'.get? b=some u)(heo:∃u,h'.get? e=some u)
  (new:yB X.prog X.w (upd H x o) h' x o):Inv X pins σ (upd H x o) { s with heap:=h',toks:=t' }:=I.un (Un.write mu he k heo) (I.hok.write mu he k heo new)
theorem Inv.weak{σ':List (Option V)}(I:Inv X pins σ H s)(hl : σ'.length=σ.length)(w:∀(i:Nat) v,σ'[i]?=some (some v)->σ[i]?=some (some v)):Inv X pins σ' H s:=
 ⟨I.ok,I.os,I.bare,I.base,let ⟨m,hn,hl'⟩:=I.loc;⟨m,hn,fun i x v e1 e2 e3=>hl' i x v e1 (w i v e2) e3⟩,I.cell,I.free,I.freeC,I.pin,I.hok,hl.trans I.len⟩
theorem Inv.pins_of{pins':PnL}(I:Inv X pins σ H s)(h:∀p∈pins',s.heap.get? p.1=some p.2/\H p.1=none/\p.1≠X.env.locals/\p.1∉X.fs/\∀v,p.2.data≠.cell v):Inv X pins' σ H s:=
 ⟨I.ok,I.os,I.bare,I.base,I.loc,I.cell,I.free,I.freeC,fun p hp=>(List.mem_append.mp hp).elim (fun z=>I.pin p (mem_append_left _ z)) (h p),I.hok,I.len⟩
theorem qo{N:List Str}(hN:N.Nodup){i j:Nat}{x:Str}(a:N[i]?=some x)(b:N[j]?=some x):i=j:=by
 obtain⟨h1,e1⟩:=List.getElem?_eq_some_iff.mp a;obtain⟨h2,e2⟩:=List.getElem?_eq_some_iff.mp b;exact(List.getElem_inj hN).mp (e1.trans e2.symm)
theorem u6{M:Model}{A:Around}{E:VSP}{i:Nat}{x:Str}{v:V}{u:Value}{Q:Unit->Shared->Prop}(I:Inv X pins σ H s)(hN:X.N.Nodup)(hi:X.N[i]?=some x)(hx:Loc X.env.scope x)(r:yj v u)
  (h:∀s',Inv X pins (σ.set i (some v)) H s'->(∃a,Heap.SameBut a s.heap s'.heap/\(a=X.env.locals\/X.env.cells.lookup x=some a))->Q () s') (hf:X.fn x=true\/X.env.scope.names.lookup x=some .local:=by first|exact .inl rfl|exact .inr rfl|assumption):wpAny M A (storeName X.env x u) Q E s:=by
 obtain⟨m,hn,hl⟩:=id I.loc;have hcls:(X.env.scope.kind==.class||(X.env.scope.kind==.module&&X.env.locals != X.env.globals))=false:=by rw[I.ok.kind];rfl
 have hiσ : i<σ.length:=by rw[I.len];exact(List.getElem?_eq_some_iff.mp hi).1
 have cne:=I.cne;have tracked:∀{a:Addr}{h':Heap},(∃o,s.heap.get? a=some o/\H a=none)->Heap.SameBut a s.heap h'->HOk X.prog X.w H h':=fun {a h'} ha hs b ob e=>by
  obtain⟨_,_,hfree⟩:=ha;refine(I.hok b ob e).stay (fun c w' hc q=>(hs.2 c ?_).trans q) (fun _ q=>q) fun _ _ q=>q;rintro rfl;rcases hc with rfl|hc
  ·rw[hfree] at e;cases e
  ·rw[hfree] at hc;cases hc
 rcases hx with hk|hk
 ·refine wpAny_storeName_local hk hn (fun h' hn' hs=>?_) hcls
  obtain⟨oL,_,_,hoL,_⟩:=id hn;refine h _ ⟨I.ok,I.os,I.bare,⟨fun b o e n hb hx=>?_,fun b o e n hb hx=>?_,I.base.free,fun b o e hx=>?_,I.base.tups,I.base.frzs,I.base.tbls⟩,⟨_,hn',fun j y v' e1 e2 e3=>?_⟩,fun y c e=>?_,I.free,I.freeC,fun p hp=>?_,tracked ⟨oL,hoL,I.free⟩ hs,by simpa using I.len⟩ ⟨_,hs,.inl rfl⟩
  ·exact(hs.2 b (ne_of_lt (lt_of_lt_of_le (Heap.lt_size e) I.ok.above))).trans (I.base.keep b o e n hb hx)
  ·obtain⟨sl,e1⟩:=I.base.slot b o e n hb hx
   exact⟨sl,(hs.2 b (ne_of_lt (lt_of_lt_of_le (Heap.lt_size e) I.ok.above))).trans e1⟩
  ·obtain⟨o',e1⟩:=I.base.there b o e hx
   exact⟨o',(hs.2 b (ne_of_lt (lt_of_lt_of_le (Heap.lt_size e) I.ok.above))).trans e1⟩
  ·by_cases hj:j=i
   ·subst hj
    rw[hi] at e1;cases e1;rw[getElem?_set_self hiσ] at e2;cases e2;exact⟨u,r,.inl ⟨hk,by simp⟩⟩
   ·rw[getElem?_set_ne (Ne.symm hj)] at e2
    obtain⟨u',r',q⟩:=hl j y v' e1 e2 e3;refine⟨u',r',?_⟩;rcases q with ⟨k,e⟩|⟨k,c,e,z⟩
    ·refine .inl ⟨k,?_⟩
     have:y≠x:=fun e=>hj (qo hN e1 (e ▸ hi))
     simp [this,e]
    ·exact .inr ⟨k,c,e,z.sameBut hs (cne y c e)⟩
  ·obtain⟨w',z⟩:=I.cell y c e
   exact⟨w',z.sameBut hs (cne y c e)⟩
  ·obtain⟨e,n,ne,nf,d⟩:=I.pin p hp
   exact⟨(hs.2 p.1 ne).trans e,n,ne,nf,d⟩
 ·have hfn:X.fn x=true:=by
   rcases hf with z|z
   ·exact z
   ·rw[z] at hk;cases hk
  obtain⟨c,hc⟩:=I.ok.has x (.inl hk);obtain⟨w',z⟩:=I.cell x c hc;refine wpAny_storeName_cell I.ok.kind hk hc z (fun h' hc' hs=>?_);obtain⟨oc,hoc,hocd⟩:=id z;refine h { s with heap:=h' } ⟨I.ok,I.os,I.bare,⟨fun b o e n hb hx=>?_,fun b o e n hb hx=>?_,I.base.free,fun b o e hx=>?_,I.base.tups,I.base.frzs,I.base.tbls⟩,⟨m,hn.sameBut hs (Ne.symm (cne x c hc)),fun j y v' e1 e2 e3=>?_⟩,fun y c' e=>?_,I.free,I.freeC,fun p hp=>?_,tracked ⟨oc,hoc,I.freeC x c hc⟩ hs,by simpa using I.len⟩ ⟨c,hs,.inr hc⟩
  ·exact(hs.2 b (ne_of_lt (lt_of_lt_of_le (Heap.lt_size e) (I.ok.cab x c hfn hc)))).trans (I.base.keep b o e n hb hx)
  ·obtain⟨sl,e1⟩:=I.base.slot b o e n hb hx
   exact⟨sl,(hs.2 b (ne_of_lt (lt_of_lt_of_le (Heap.lt_size e) (I.ok.cab x c hfn hc)))).trans e1⟩
  ·obtain⟨o',e1⟩:=I.base.there b o e hx
   exact⟨o',(hs.2 b (ne_of_lt (lt_of_lt_of_le (Heap.lt_size e) (I.ok.cab x c hfn hc)))).trans e1⟩
  ·by_cases hj:j=i
   ·subst hj
    rw[hi] at e1;cases e1;rw[getElem?_set_self hiσ] at e2;cases e2;exact⟨u,r,.inr ⟨.inl hk,c,hc,hc'⟩⟩
   ·rw[getElem?_set_ne (Ne.symm hj)] at e2
    obtain⟨u',r',q⟩:=hl j y v' e1 e2 e3;refine⟨u',r',?_⟩;rcases q with q|⟨k,c',e,z'⟩
    ·exact .inl q
    ·refine .inr ⟨k,c',e,z'.sameBut hs ?_⟩
     rintro rfl;exact hj (qo hN e1 (I.ok.inj _ _ _ e hc ▸ hi))
  ·by_cases hcc:c'=c
   ·subst hcc;exact⟨_,hc'⟩
   ·obtain⟨w2,z2⟩:=I.cell y c' e
    exact⟨w2,z2.sameBut hs hcc⟩
  ·obtain⟨e,n,ne,nf,d⟩:=I.pin p hp
   refine⟨(hs.2 p.1 ?_).trans e,n,ne,nf,d⟩;intro q;rw[q,hoc] at e;have q':oc=p.2:=Option.some.inj e;exact d w' (by rw[<- q'];exact hocd)
theorem vz{M:Model}{A:Around}{E:VSP}{i:Nat}{x:Str}{v:V}{u:Value}{Q:Unit->Shared->Prop}(I:Inv X pins σ H s)(hN:X.N.Nodup)(hi:X.N[i]?=some x)(hx:Loc X.env.scope x)(r:yj v u)
  (h:∀s',Inv X pins (σ.set i (some v)) H s'->Q () s') (hf:X.fn x=true\/X.env.scope.names.lookup x=some .local:=by first|exact .inl rfl|exact .inr rfl|assumption):wpAny M A (storeName X.env x u) Q E s:=
 u6 I hN hi hx r (fun s' I' _=>h s' I') hf
theorem Inv.call'{s':Shared}{ch:List Addr}(I:Inv X pins σ H s)(ho:s'.os=s.os)(u:Un (frs X.stack) ch H H' s.heap s'.heap)(hok:HOk X.prog X.w H' s'.heap)(hg:AllBare s'.gens)
  (hch:∀b∈ch,(b∈X.ex\/X.s₀.heap.objs.size<=b)/\b≠X.env.locals/\(∀x c,X.env.cells.lookup x=some c->c≠b)/\∀p∈X.pn++pins,p.1≠b):Inv X pins σ H' s':=by
 obtain⟨h',g',d',t',o'⟩:=s';have e:o'=s.os:=ho;subst e;exact I.call (g':=g') (t':=t') (d':=d') u hok hg hch
abbrev XK:=Value->Option Addr->Hp->Prop
abbrev St:=List (Option V)
abbrev VK:=V->Hp->Prop
abbrev TE:=St->Hp->VK->Prop
abbrev TT:=St->Hp->(Bool->Hp->Prop)->Prop
abbrev TA:=St->Hp->(List V->Hp->Prop)->Prop
structure wO where
 nx:St->Hp->Prop
 rt:VK
 bk:St->Hp->Prop:=fun _ _=>False
 ct:St->Hp->Prop:=fun _ _=>False
abbrev TS:=wO->St->Hp->Prop
def EP(X:Cx)(pins:PnL)(σ : St)(Q:VK)(u:Value)(s':Shared):Prop:=∃v H',Inv X pins σ H' s'/\yj v u/\Q v H'
def TP(X:Cx)(pins:PnL)(σ : St)(Q:Bool->Hp->Prop)(b:Bool)(s':Shared):Prop:=∃H',Inv X pins σ H' s'/\Q b H'
def AP(X:Cx)(pins:PnL)(σ : St)(Q:List V->Hp->Prop)(us:List Value)(s':Shared):Prop:=∃vs H',Inv X pins σ H' s'/\zY vs us/\Q vs H'
def SP(X:Cx)(pins:PnL)(D:wO)(f:Flow)(s':Shared):Prop:=
 match f with
 | .next=>∃σ' H',Inv X pins σ' H' s'/\D.nx σ' H'
 | .brk=>∃σ' H',Inv X pins σ' H' s'/\D.bk σ' H'
 | .cont=>∃σ' H',Inv X pins σ' H' s'/\D.ct σ' H'
 | .ret u=>∃v σ' H',Inv X pins σ' H' s'/\yj v u/\D.rt v H'
structure PE(X:Cx)(e:Expr)(t:TE):Prop where
 run:∀(pins:PnL) (s:Shared) (σ : St) (H:Hp) (Q:VK),Inv X pins σ H s->t σ H Q->wpAny (model X.prog X.w) X.A (eval e X.env) (EP X pins σ Q) X.xe s
instance {X:Cx}{e:Expr}{t:TE}:CoeFun (PE X e t) (fun _=>∀(pins:PnL) (s:Shared) (σ : St) (H:Hp) (Q:VK),Inv X pins σ H s->t σ H Q->wpAny (model X.prog X.w) X.A (eval e X.env) (EP X pins σ Q) X.xe s):=⟨PE.run⟩
structure PT(X:Cx)(e:Expr)(t:TT):Prop where
 run:∀(pins:PnL) (s:Shared) (σ : St) (H:Hp) (Q:Bool->Hp->Prop),Inv X pins σ H s->t σ H Q->wpAny (model X.prog X.w) X.A (isTrue e X.env (eval e X.env)) (TP X pins σ Q) X.xe s
instance {X:Cx}{e:Expr}{t:TT}:CoeFun (PT X e t) (fun _=>∀(pins:PnL) (s:Shared) (σ : St) (H:Hp) (Q:Bool->Hp->Prop),Inv X pins σ H s->t σ H Q->wpAny (model X.prog X.w) X.A (isTrue e X.env (eval e X.env)) (TP X pins σ Q) X.xe s):=⟨PT.run⟩
structure PW(X:Cx)(e:Expr)(t:TT):Prop where
 run:∀(whole:Sem Value) (pins:PnL) (s:Shared) (σ : St) (H:Hp) (Q:Bool->Hp->Prop),Inv X pins σ H s->t σ H Q->wpAny (model X.prog X.w) X.A (isTrue e X.env whole) (TP X pins σ Q) X.xe s
instance {X:Cx}{e:Expr}{t:TT}:CoeFun (PW X e t) (fun _=>∀(whole:Sem Value) (pins:PnL) (s:Shared) (σ : St) (H:Hp) (Q:Bool->Hp->Prop),Inv X pins σ H s->t σ H Q->wpAny (model X.prog X.w) X.A (isTrue e X.env whole) (TP X pins σ Q) X.xe s):=⟨PW.run⟩
theorem yv{X:Cx}{e:Expr}{t:TT}(h:PW X e t):PT X e t:=⟨h _⟩
structure PA(X:Cx)(es:List Expr)(t:TA):Prop where
 run:∀(pos:Pos) (pins:PnL) (s:Shared) (σ : St) (H:Hp) (Q:List V->Hp->Prop),Inv X pins σ H s->t σ H Q->wpAny (model X.prog X.w) X.A (spliced (backTo pos (starEach es X.env))) (AP X pins σ Q) X.xe s
instance {X:Cx}{es:List Expr}{t:TA}:CoeFun (PA X es t) (fun _=>∀(pos:Pos) (pins:PnL) (s:Shared) (σ : St) (H:Hp) (Q:List V->Hp->Prop),Inv X pins σ H s->t σ H Q->wpAny (model X.prog X.w) X.A (spliced (backTo pos (starEach es X.env))) (AP X pins σ Q) X.xe s):=⟨PA.run⟩
structure PS(X:Cx)(st:Stmt)(t:TS):Prop where
 run:∀(pins:PnL) (s:Shared) (σ : St) (H:Hp) (D:wO),Inv X pins σ H s->t D σ H->wpAny (model X.prog X.w) X.A (exec st X.env) (SP X pins D) X.xe s
instance {X:Cx}{st:Stmt}{t:TS}:CoeFun (PS X st t) (fun _=>∀(pins:PnL) (s:Shared) (σ : St) (H:Hp) (D:wO),Inv X pins σ H s->t D σ H->wpAny (model X.prog X.w) X.A (exec st X.env) (SP X pins D) X.xe s):=⟨PS.run⟩
structure PSs(X:Cx)(st:List Stmt)(t:TS):Prop where
 run:∀(pins:PnL) (s:Shared) (σ : St) (H:Hp) (D:wO),Inv X pins σ H s->t D σ H->wpAny (model X.prog X.w) X.A (execs st X.env) (SP X pins D) X.xe s
instance {X:Cx}{st:List Stmt}{t:TS}:CoeFun (PSs X st t) (fun _=>∀(pins:PnL) (s:Shared) (σ : St) (H:Hp) (D:wO),Inv X pins σ H s->t D σ H->wpAny (model X.prog X.w) X.A (execs st X.env) (SP X pins D) X.xe s):=⟨PSs.run⟩
theorem thn{α : Type}{t:Sem α}{Q Q' : α->Shared->Prop}{M:Model}{A:Around}{E:VSP}{s:Shared}(h:wpAny M A t Q E s)(hQ:∀a s,Q a s->Q' a s):wpAny M A t Q' E s:=wpAny_mono h hQ fun _ _ x=>x
inductive znb(i:Nat)(σ : St)(H:Hp)(Q:VK):Prop where
 | mk (v:V) (e : σ[i]?=some (some v)) (q:Q v H)
def uf(i:Nat):TE:=fun σ H Q=>znb i σ H Q
def tC(v:V):TE:=fun _ H Q=>Q v H
theorem zkh{i:Nat}{x:Str}{pos:Pos}(hN:X.N[i]?=some x)(hv:Vis X.env.scope x)(hd:(x==("__debug__" : Str))=false:=by decide)(hcd:(x==("__classdict__" : Str))=false:=by decide):PE X (.Name x pos) (uf i):=by
 refine⟨?_⟩;intro pins s σ H Q I h;obtain⟨v,e,h⟩:=h;obtain⟨m,hn,hl⟩:=I.loc;obtain⟨u,r,l⟩:=hl i x v hN e hv;have fin:EP X pins σ Q u s:=⟨v,H,I,r,h⟩;rcases l with ⟨hk,hm⟩|⟨hk,c,hc,hcell⟩
 ·exact wpAny_Name (wpAny_loadName_local I.ok.kind hk hn hm fin) hd
 ·rcases hk with hk|hk
  ·exact wpAny_Name (wpAny_loadName_cell I.ok.kind hk hc hcell fin) hd
  ·exact wpAny_Name (wpAny_loadName_free I.ok.kind hk hc hcell fin hcd) hd
theorem zj{i j pos}:PE X (.Constant (.int i) j pos) (tC (.int i)):=⟨fun _ _ _ H _ I h=>wpAny_Constant_int ⟨.int i,H,I.tok _,⟨_,rfl⟩,h⟩⟩
theorem wE{b j pos}:PE X (.Constant (.bool b) j pos) (tC (.bl b)):=⟨fun _ _ _ H _ I h=>Constant_bool ⟨.bl b,H,I,rfl,h⟩⟩
theorem y9{j pos}:PE X (.Constant .none j pos) (tC .non):=⟨fun _ _ _ H _ I h=>Constant_none ⟨.non,H,I,rfl,h⟩⟩
theorem zo{x j pos}:PE X (.Constant (.str x) j pos) (tC (.str x)):=⟨fun _ _ _ H _ I h=>Calls.Constant_str ⟨.str x,H,I.tok _,⟨_,rfl⟩,h⟩⟩
def Gl(X:Cx)(x:Str):Prop:=X.env.kindOf x=some .globalImplicit
theorem yY{E:VSP}{pins:PnL}{s:Shared}{σ : St}{H:Hp}{x:Str}{u:Value}{pos:Pos}{Q:VSP}(I:Inv X pins σ H s)(hg:Gl X x)(hm:X.mg x=some u)(h:Q u s)
  (hd:(x==("__debug__" : Str))=false:=by decide):wpAny (model X.prog X.w) X.A (eval (.Name x pos) X.env) Q E s:=
 Calls.Name_function_global I.ok.kind hg (Calls.loadGlobal_global (by rw[I.ok.glob];exact I.mod.glob.keeps I.bk) hm h) hd
theorem vk{E:VSP}{pins:PnL}{s:Shared}{σ : St}{H:Hp}{x:Str}{u:Value}{pos:Pos}{Q:VSP}(I:Inv X pins σ H s)(hg:Gl X x)(hm:X.mg x=none)(hv:bootBuiltins x=some u)(h:Q u s)
  (hn:x≠"__name__":=by decide) (hd:(x==("__debug__" : Str))=false:=by decide):wpAny (model X.prog X.w) X.A (eval (.Name x pos) X.env) Q E s:=by
 obtain⟨mb,h1,h2⟩:=I.mod.blt;exact Calls.Name_function_global I.ok.kind hg (Calls.loadGlobal_builtin (by rw[I.ok.glob];exact I.mod.glob.keeps I.bk) hm (by rw[I.ok.blt];exact h1.keeps I.bk) ((h2 x hn).trans hv) h) hd
theorem z6{x:Str}{v:V}{u:Value}{pos:Pos}(hg:Gl X x)(hm:X.mg x=some u)(r:yj v u)(hd:(x==("__debug__" : Str))=false:=by decide):PE X (.Name x pos) (tC v):=⟨fun _ _ _ H _ I h=>yY I hg hm ⟨v,H,I,r,h⟩ hd⟩
theorem za3{x:Str}{v:V}{u:Value}{pos:Pos}(hg:Gl X x)(hm:X.mg x=none)(hv:bootBuiltins x=some u)(r:yj v u)(hn:x≠"__name__":=by decide)(hd:(x==("__debug__" : Str))=false:=by decide):PE X (.Name x pos) (tC v):=⟨fun _ _ _ H _ I h=>vk I hg hm hv ⟨v,H,I,r,h⟩ hn hd⟩
variable {a b:Expr}{ta tb:TE}{pos:Pos}
structure PC(X:Cx)(op:CmpOp)(a b:Expr)(t:TE):Prop where
 run:∀(pins:PnL) (s:Shared) (σ : St) (H:Hp) (Q:VK),Inv X pins σ H s->t σ H Q->
  wpAny (model X.prog X.w) X.A (eval a X.env) (fun v s₁=>wpAny (model X.prog X.w) X.A (eval b X.env) (fun u s₂=>wpAny (model X.prog X.w) X.A (compareOp op v u) (EP X pins σ Q) X.xe s₂) X.xe s₁) X.xe s
instance {X:Cx}{op:CmpOp}{a b:Expr}{t:TE}:CoeFun (PC X op a b t) (fun _=>∀(pins:PnL) (s:Shared) (σ : St) (H:Hp) (Q:VK),Inv X pins σ H s->t σ H Q->
  wpAny (model X.prog X.w) X.A (eval a X.env) (fun v s₁=>wpAny (model X.prog X.w) X.A (eval b X.env) (fun u s₂=>wpAny (model X.prog X.w) X.A (compareOp op v u) (EP X pins σ Q) X.xe s₂) X.xe s₁) X.xe s):=⟨PC.run⟩
theorem zgo(b:Expr){op:CmpOp}(h:op≠.In)(h2:op≠.NotIn):behindInMarks op b=false:=by
 have e1:(op==CmpOp.In)=false:=by cases op <;> first|rfl|exact absurd rfl h
 have e2:(op==CmpOp.NotIn)=false:=by cases op <;> first|rfl|exact absurd rfl h2
 cases b <;> simp [behindInMarks,e1,e2]
def zmq(ta:TE):TE:=fun σ H Q=>ta σ H fun x H1=>Q (.bl (decide (x=.non))) H1
def zk8(ta:TE):TE:=fun σ H Q=>ta σ H fun x H1=>Q (.bl (!decide (x=.non))) H1
theorem yj.none_iff{x:V}{v:Value}(r:yj x v):(v==Value.none)=decide (x=.non):=by
 cases x with
 | non=>cases r;rfl
 | bl _=>cases r;rfl
 | int _=>obtain⟨t,rfl⟩:=r;rfl
 | str _=>obtain⟨t,rfl⟩:=r;rfl
 | byt _=>obtain⟨t,rfl⟩:=r;rfl
 | flt _=>obtain⟨t,rfl⟩:=r;rfl
 | ref _=>cases r;rfl
 | ty _=>cases r;rfl
theorem vC{j pos'}(ha:PE X a ta):PC X .Is a (.Constant .none j pos') (zmq ta):=by
 refine⟨?_⟩;intro pins s σ H Q I h;refine thn (ha pins s σ H _ I h) fun v s1 ⟨x,H1,I1,r1,q1⟩=>?_;exact Constant_none (is_none_gen ⟨.bl _,H1,I1,by rw[r1.none_iff];rfl,q1⟩)
theorem zdE{j pos'}(ha:PE X a ta):PC X .IsNot a (.Constant .none j pos') (zk8 ta):=by
 refine⟨?_⟩;intro pins s σ H Q I h;refine thn (ha pins s σ H _ I h) fun v s1 ⟨x,H1,I1,r1,q1⟩=>?_;exact Constant_none (isnot_none_gen ⟨.bl _,H1,I1,by rw[r1.none_iff];rfl,q1⟩)
def tB(t:TE):TT:=fun σ H Q=>t σ H fun x H1=>∃c,x=.bl c/\Q c H1
theorem wI{op:CmpOp}{t:TE}(h:PC X op a b t)(h1:behindInMarks op b=false:=by first|exact zgo _ (by decide) (by decide)|rfl):PT X (.Compare a [op] [b] pos) (tB t):=by
 refine⟨?_⟩;intro pins s σ H Q I hw;refine wpAny_isTrue_Compare1 (thn (h pins s σ H _ I hw) fun v s1 h1=>thn h1 fun u s2 h2=>thn h2 fun c s3 ⟨x,H1,I1,r1,q1⟩=>?_) h1;obtain⟨d,rfl,q⟩:=q1;cases r1;exact wpAny_truthy_bool ⟨H1,I1,q⟩
theorem yx{e:Expr}{t:TE}(h:PE X e t)(he:∀whole,isTrue e X.env whole=(do let v <- whole;standAt e.pos;holding [v] (truthy v)):=by intro _;rfl):PT X e (tB t):=by
 refine⟨?_⟩;intro pins s σ H Q I hw;refine isTrue_plain (thn (h pins s σ H _ I hw) fun v s1 ⟨x,H1,I1,r1,q1⟩=>?_) (he _);obtain⟨d,rfl,q⟩:=q1;cases r1;exact wpAny_truthy_bool ⟨H1,I1,q⟩
variable {tA tB':TT}{rest:List Expr}
def zms(t u:TT):TT:=fun σ H Q=>t σ H fun c H1=>if c=true then u σ H1 Q else Q false H1
def tOr(t u:TT):TT:=fun σ H Q=>t σ H fun c H1=>if c=true then Q true H1 else u σ H1 Q
def zmo(t:TT):TT:=fun σ H Q=>t σ H fun c H1=>Q (!c) H1
theorem yD(ha:PT X a tA):PW X (.BoolOp .And [a] pos) tA:=by
 refine⟨?_⟩;intro wh pins s σ H Q I h;refine isTrue_and (thn (ha pins s σ H Q I h) fun c s1 e=>?_);cases c with
 | true=>exact isTrue_and_nil e
 | false=>exact e
theorem yV(ha:PT X a tA):PW X (.BoolOp .Or [a] pos) tA:=by
 refine⟨?_⟩;intro wh pins s σ H Q I h;refine isTrue_or (thn (ha pins s σ H Q I h) fun c s1 e=>?_);cases c with
 | false=>exact isTrue_or_nil e
 | true=>exact e
theorem yW(ha:PT X a tA)(hb:PW X (.BoolOp .And (b::rest) pos) tB'):PW X (.BoolOp .And (a::b::rest) pos) (zms tA tB'):=by
 refine⟨?_⟩;intro wh pins s σ H Q I h;refine isTrue_and (thn (ha pins s σ H _ I h) fun c s1 ⟨H1,I1,q1⟩=>?_);cases c with
 | true=>exact hb wh pins s1 σ H1 Q I1 q1
 | false=>exact⟨H1,I1,q1⟩
theorem xw(ha:PT X a tA)(hb:PW X (.BoolOp .Or (b::rest) pos) tB'):PW X (.BoolOp .Or (a::b::rest) pos) (tOr tA tB'):=by
 refine⟨?_⟩;intro wh pins s σ H Q I h;refine isTrue_or (thn (ha pins s σ H _ I h) fun c s1 ⟨H1,I1,q1⟩=>?_);cases c with
 | true=>exact⟨H1,I1,q1⟩
 | false=>exact hb wh pins s1 σ H1 Q I1 q1
theorem xI(ha:PT X a tA):PT X (.UnaryOp .Not a pos) (zmo tA):=by
 refine⟨?_⟩;intro pins s σ H Q I h;exact isTrue_not (ha pins s σ H (fun c H1=>Q (!c) H1) I h)
def ziO(ta tb:TE):TE:=fun σ H Q=>ta σ H fun x H1=>∃c,x=.bl c/\if c=true then tb σ H1 Q else Q (.bl false) H1
def zmn(ta tb:TE):TE:=fun σ H Q=>ta σ H fun x H1=>∃c,x=.bl c/\if c=true then Q (.bl true) H1 else tb σ H1 Q
def ziM(ta:TE):TE:=fun σ H Q=>ta σ H fun x H1=>∃c,x=.bl c/\Q (.bl (!c)) H1
theorem za1{op}{t:TE}(h:PE X a t):PE X (.BoolOp op [a] pos) t:=⟨fun pins s σ H Q I hw=>BoolOp_one (h pins s σ H Q I hw)⟩
theorem qj(ha:PE X a ta)(hb:PE X (.BoolOp .And (b::rest) pos) tb):PE X (.BoolOp .And (a::b::rest) pos) (ziO ta tb):=by
 refine⟨?_⟩;intro pins s σ H Q I h;refine BoolOp_and (thn (ha pins s σ H _ I h) fun v s1 ⟨x,H1,I1,r1,q1⟩=>?_);obtain⟨c,rfl,q1⟩:=q1;cases r1;refine wpAny_truthy_bool ?_;cases c with
 | true=>exact hb pins s1 σ H1 Q I1 q1
 | false=>exact⟨.bl false,H1,I1,rfl,q1⟩
theorem zlx(ha:PE X a ta)(hb:PE X (.BoolOp .Or (b::rest) pos) tb):PE X (.BoolOp .Or (a::b::rest) pos) (zmn ta tb):=by
 refine⟨?_⟩;intro pins s σ H Q I h;refine BoolOp_or (thn (ha pins s σ H _ I h) fun v s1 ⟨x,H1,I1,r1,q1⟩=>?_);obtain⟨c,rfl,q1⟩:=q1;cases r1;refine wpAny_truthy_bool ?_;cases c with
 | false=>exact hb pins s1 σ H1 Q I1 q1
 | true=>exact⟨.bl true,H1,I1,rfl,q1⟩
theorem zf1(ha:PE X a ta):PE X (.UnaryOp .Not a pos) (ziM ta):=by
 refine⟨?_⟩;intro pins s σ H Q I h;refine UnaryOp_ (thn (ha pins s σ H _ I h) fun v s1 ⟨x,H1,I1,r1,q1⟩=>?_);obtain⟨c,rfl,q1⟩:=q1;cases r1;exact not_of (wpAny_truthy_bool ⟨.bl (!c),H1,I1,rfl,q1⟩)
def tIf(t:TT)(ta tb:TE):TE:=fun σ H Q=>t σ H fun c H1=>if c=true then ta σ H1 Q else tb σ H1 Q
theorem xQ{c:Expr}(hc:PT X c tA)(ha:PE X a ta)(hb:PE X b tb):PE X (.IfExp c a b pos) (tIf tA ta tb):=by
 refine⟨?_⟩;intro pins s σ H Q I h;refine wpAny_IfExp (thn (hc pins s σ H _ I h) fun d s1 ⟨H1,I1,q1⟩=>?_);cases d with
 | true=>exact ha pins s1 σ H1 Q I1 q1
 | false=>exact hb pins s1 σ H1 Q I1 q1
def SqL(K:Frag)(H:Hp)(a:Addr)(xs:List V):Prop:=
 Rd H a (.lst xs)\/
  ∃(o:Obj) (its:Array Value) (n:Nat),K.lookup a=some o/\o.cls=.type "list"/\o.dict=none/\o.data=.seq its n/\its.size<=sizeLine/\zY xs its.toList
def SqT(K:Frag)(H:Hp)(a:Addr)(xs:List V):Prop:=
 Rd H a (.tup xs)\/
  ∃(o:Obj) (its:Array Value) (n:Nat),K.lookup a=some o/\o.cls=.type "tuple"/\o.data=.seq its n/\its.size<=sizeLine/\zY xs its.toList
def zm3:Value->Option V
 | .none=>some .non
 | .bool b=>some (.bl b)
 | .int i _=>some (.int i)
 | .str x _=>some (.str x)
 | .bytes b _=>some (.byt b)
 | .float b _=>some (.flt b)
 | .ref a=>some (.ref a)
 | .type n=>some (.ty n)
 | _=>none
theorem yj.abs{x:V}{u:Value}(r:yj x u):zm3 u=some x:=by
 cases x with
 | non=>cases r;rfl
 | bl _=>cases r;rfl
 | int _=>obtain⟨t,rfl⟩:=r;rfl
 | str _=>obtain⟨t,rfl⟩:=r;rfl
 | byt _=>obtain⟨t,rfl⟩:=r;rfl
 | flt _=>obtain⟨t,rfl⟩:=r;rfl
 | ref _=>cases r;rfl
 | ty _=>cases r;rfl
theorem yj.inj{x y:V}{u:Value}(r:yj x u)(q:yj y u):x=y:=Option.some.inj (r.abs.symm.trans q.abs)
theorem zY.inj:∀{xs ys:List V}{us:List Value},zY xs us->zY ys us->xs=ys
 | _,_,_,.nil,.nil=>rfl
 | _,_,_,.cons r t,.cons r' t'=>by rw[r.inj r',zY.inj t t']
end
section
variable {X:Cx}{pins:PnL}{σ:St}{H:Hp}{s:Shared}{a:Addr}{xs ys:List V}
theorem zq{K:Frag}(h:H a=some (.lst xs)):SqL K H a xs:=.inl (.inl h)
theorem zI{K:Frag}(h:H a=some (.tup xs)):SqT K H a xs:=.inl (.inl h)
theorem Inv.list(I:Inv X pins σ H s)(h:SqL X.K H a xs):∃its:List Value,zY xs its/\PlainL s.heap a its.toArray/\xs.length<=sizeLine:=by
 rcases h with h|⟨o,its,n,hk,hc,hd,hs,hz,r⟩
 ·obtain⟨z,its,n,r,e⟩:=h.ok I.hok
  exact⟨its,r,⟨_,n,e,rfl,rfl,rfl⟩,z⟩
 ·refine⟨its.toList,r,⟨o,n,I.kIn a o hk,hc,hd,by simpa using hs⟩,?_⟩
  have e:=r.length;simp only[Array.length_toList] at e;omega
theorem Inv.tuple(I:Inv X pins σ H s)(h:SqT X.K H a xs):∃its:List Value,zY xs its/\IsTup s.heap a its.toArray/\xs.length<=sizeLine:=by
 rcases h with h|⟨o,its,n,hk,hc,hs,hz,r⟩
 ·obtain⟨z,its,r,p⟩:=h.ok I.hok
  exact⟨its,r,p,z⟩
 ·refine⟨its.toList,r,⟨o,I.kIn a o hk,hc,n,by simpa using hs⟩,?_⟩
  have e:=r.length;simp only[Array.length_toList] at e;omega
theorem Inv.list_inj(I:Inv X pins σ H s)(h:SqL X.K H a xs)(h':SqL X.K H a ys):xs=ys:=by
 obtain⟨its,r,⟨o,n,e,_,_,d⟩,_⟩:=I.list h;obtain⟨its',r',⟨o',n',e',_,_,d'⟩,_⟩:=I.list h';rw[e] at e';cases e';rw[d] at d';injection d' with d1 _
 have:its=its':=by simpa using congrArg Array.toList d1
 subst this;exact r.inj r'
abbrev Cx.wish(X:Cx)(E:VSP):Cx:={ X with xe:=E }
abbrev Cx.nox(X:Cx):Cx:=X.wish fun _ _=>False
theorem Cx.Ok.wish{X:Cx}(ok:X.Ok)(E:VSP):(X.wish E).Ok:=
 ⟨ok.mod,ok.kind,ok.glob,ok.blt,ok.above,ok.inj,ok.has,ok.cab,ok.hd,ok.frames,ok.stk,ok.exf,ok.bs,ok.bsz,ok.noex,ok.exfs,ok.funs,ok.frf⟩
theorem Cx.Ok.unwish{X:Cx}{E:VSP}(ok:(X.wish E).Ok):X.Ok:=
 ⟨ok.mod,ok.kind,ok.glob,ok.blt,ok.above,ok.inj,ok.has,ok.cab,ok.hd,ok.frames,ok.stk,ok.exf,ok.bs,ok.bsz,ok.noex,ok.exfs,ok.funs,ok.frf⟩
variable {E:VSP}
theorem Inv.wish(I:Inv X pins σ H s)(E:VSP):Inv (X.wish E) pins σ H s:=⟨I.ok.wish E,I.os,I.bare,I.base,I.loc,I.cell,I.free,I.freeC,I.pin,I.hok,I.len⟩
theorem Inv.unwish(I:Inv (X.wish E) pins σ H s):Inv X pins σ H s:=⟨I.ok.unwish,I.os,I.bare,I.base,I.loc,I.cell,I.free,I.freeC,I.pin,I.hok,I.len⟩
theorem SP.unwish{D:wO}{f:Flow}{s':Shared}(h:SP (X.wish E) pins D f s'):SP X pins D f s':=by
 cases f with
 | next=>obtain⟨σ',H',I,q⟩:=h;exact⟨σ',H',I.unwish,q⟩
 | brk=>obtain⟨σ',H',I,q⟩:=h;exact⟨σ',H',I.unwish,q⟩
 | cont=>obtain⟨σ',H',I,q⟩:=h;exact⟨σ',H',I.unwish,q⟩
 | ret u=>obtain⟨v,σ',H',I,r,q⟩:=h;exact⟨v,σ',H',I.unwish,r,q⟩
theorem PSs.nox{st:List Stmt}{t:TS}(h:PSs X.nox st t):PSs X st t:=⟨fun pins s σ H D I hw=>
 wpAny_mono (h pins s σ H D (I.wish _) hw) (fun _ _ q=>q.unwish) fun _ _ z=>False.elim z⟩
variable {st:Stmt}{rest:List Stmt}{t u:TS}{e:Expr}{te:TE}{pos:Pos}
def ziN:TS:=fun D σ H=>D.nx σ H
def jA(t u:TS):TS:=fun D σ H=>t { D with nx:=u D } σ H
theorem zz:PSs X [] ziN:=⟨fun _ _ σ H _ I h=>wpAny_execs_nil ⟨σ,H,I,h⟩⟩
theorem zp(h1:PS X st t)(h2:PSs X rest u):PSs X (st::rest) (jA t u):=by
 refine⟨?_⟩;intro pins s σ H D I h;refine wpAny_execs_cons (thn (h1 pins s σ H { D with nx:=u D } I h) fun f s1 q=>?_)
 cases f with
 | next=>
  obtain⟨σ',H',I',q⟩:=q;exact h2 pins s1 σ' H' D I' q
 | ret v=>exact q
 | brk=>exact q
 | cont=>exact q
theorem zm(h1:PS X st t):PSs X [st] t:=by
 refine⟨?_⟩;intro pins s σ H D I h;refine wpAny_execs_cons (thn (h1 pins s σ H D I h) fun f s1 q=>?_);cases f with
 | next=>exact wpAny_execs_nil q
 | ret v=>exact q
 | brk=>exact q
 | cont=>exact q
theorem Inv.quiet{pins:PnL}{σ : St}{H:Hp}{s:Shared}(I:Inv X pins σ H s):interactive X.env=false:=by simp [interactive,I.ok.kind]
def zla(te:TE):TS:=fun D σ H=>te σ H fun _ H1=>D.nx σ H1
theorem zW(he:PE X e te)(hs:swapsWith e none pos.line X.env=pure false:=by rfl):PS X (.Expr e pos) (zla te):=by
 refine⟨?_⟩;intro pins s σ H D I h;exact wpAny_Expr_any (thn (he pins s σ H _ I h) fun v s1 ⟨x,H1,I1,r1,q1⟩=>⟨σ,H1,I1,q1⟩) I.quiet hs
def zee(te:TE):TS:=fun D σ H=>te σ H D.rt
theorem zB(he:PE X e te):PS X (.Return (some e) pos) (zee te):=by
 refine⟨?_⟩;intro pins s σ H D I h;exact wpAny_Return_some (thn (he pins s σ H _ I h) fun v s1 ⟨x,H1,I1,r1,q1⟩=>⟨x,σ,H1,I1,r1,q1⟩)
def zfa(c:TT)(t u:TS):TS:=fun D σ H=>c σ H fun b H1=>if b=true then t D σ H1 else u D σ H1
theorem zJ{c:Expr}{a b:List Stmt}{tc:TT}(hc:PT X c tc)(ha:PSs X a t)(hb:PSs X b u):PS X (.If c a b pos) (zfa tc t u):=by
 refine⟨?_⟩;intro pins s σ H D I h;refine wpAny_If (thn (hc pins s σ H _ I h) fun d s1 ⟨H1,I1,q1⟩=>?_);cases d with
 | true=>exact ha pins s1 σ H1 D I1 q1
 | false=>exact hb pins s1 σ H1 D I1 q1
abbrev TG:=V->St->Hp->(St->Hp->Prop)->Prop
abbrev TGs:=List V->St->Hp->(St->Hp->Prop)->Prop
structure PG(X:Cx)(target:Expr)(t:TG):Prop where
 run:∀(pins:PnL) (s:Shared) (σ : St) (H:Hp) (v:V) (u:Value) (Q:St->Hp->Prop),Inv X pins σ H s->yj v u->t v σ H Q->
  wpAny (model X.prog X.w) X.A (assign target X.env u) (fun _ s'=>∃σ' H',Inv X pins σ' H' s'/\Q σ' H') X.xe s
instance {X:Cx}{target:Expr}{t:TG}:CoeFun (PG X target t) (fun _=>∀(pins:PnL) (s:Shared) (σ : St) (H:Hp) (v:V) (u:Value) (Q:St->Hp->Prop),Inv X pins σ H s->yj v u->t v σ H Q->
  wpAny (model X.prog X.w) X.A (assign target X.env u) (fun _ s'=>∃σ' H',Inv X pins σ' H' s'/\Q σ' H') X.xe s):=⟨PG.run⟩
structure PGs(X:Cx)(ts:List Expr)(t:TGs):Prop where
 run:∀(pins:PnL) (s:Shared) (σ : St) (H:Hp) (vs:List V) (us:List Value) (Q:St->Hp->Prop),Inv X pins σ H s->zY vs us->t vs σ H Q->
  wpAny (model X.prog X.w) X.A (assignInOrder ((assignEach ts X.env).map (·.2)) us) (fun _ s'=>∃σ' H',Inv X pins σ' H' s'/\Q σ' H') X.xe s
instance {X:Cx}{ts:List Expr}{t:TGs}:CoeFun (PGs X ts t) (fun _=>∀(pins:PnL) (s:Shared) (σ : St) (H:Hp) (vs:List V) (us:List Value) (Q:St->Hp->Prop),Inv X pins σ H s->zY vs us->t vs σ H Q->
  wpAny (model X.prog X.w) X.A (assignInOrder ((assignEach ts X.env).map (·.2)) us) (fun _ s'=>∃σ' H',Inv X pins σ' H' s'/\Q σ' H') X.xe s):=⟨PGs.run⟩
def yc(i:Nat):TG:=fun v σ H Q=>Q (σ.set i (some v)) H
theorem zF{i:Nat}{x:Str}(hN:X.N.Nodup)(hi:X.N[i]?=some x)(hx:Loc X.env.scope x)(hf:X.fn x=true\/X.env.scope.names.lookup x=some .local:=by first|exact .inl rfl|exact .inr rfl|assumption):PG X (.Name x pos) (yc i):=by
 refine⟨?_⟩;intro pins s σ H v u Q I r h;exact wpAny_assign_Name (vz I hN hi hx r (fun s' I'=>⟨_,H,I',h⟩) hf)
def zl1:TGs:=fun vs σ H Q=>vs=[]/\Q σ H
def zgE(t:TG)(u:TGs):TGs:=fun vs σ H Q=>∃v r,vs=v::r/\t v σ H fun σ' H'=>u r σ' H' Q
theorem xL:PGs X [] zl1:=by
 refine⟨?_⟩;intro pins s σ H vs us Q I r h;obtain⟨e,h⟩:=h;subst e;cases r;exact assignInOrder_nil ⟨σ,H,I,h⟩
theorem yo{e:Expr}{es:List Expr}{t:TG}{u:TGs}(h1:PG X e t)(h2:PGs X es u)
  (hs:(assignEach (e::es) X.env).map (·.2)=assign e X.env::(assignEach es X.env).map (·.2):=by rfl):PGs X (e::es) (zgE t u):=by
 refine⟨?_⟩;intro pins s σ H vs us Q I r h;obtain⟨v,vr,e1,h⟩:=h;subst e1;cases r with
 | cons r rr=>
  rw[hs];refine assignInOrder_cons (thn (h1 pins s σ H _ _ _ I r h) fun _ s1 ⟨σ1,H1,I1,q1⟩=>?_);exact h2 pins s1 σ1 H1 _ _ Q I1 rr q1
def zl0(K:Frag)(n:Nat)(t:TGs):TG:=fun v σ H Q=>∃a xs,v=.ref a/\SqT K H a xs/\xs.length=n/\t xs σ H Q
theorem wJ{es:List Expr}{k:Nat}{t:TGs}{n:Nat}(hc:X.calm=true)(h:PGs X es t)
  (hn:(assignEach es X.env).length=n:=by rfl) (hst:(assignEach es X.env).findIdx? (·.1)=none:=by rfl):PG X (.Tuple es k pos) (zl0 X.K n t):=by
 refine⟨?_⟩;intro pins s σ H v u Q I r hw;obtain⟨a,xs,e1,hq,hl,hw⟩:=hw;subst e1;cases r;obtain⟨its,rv,ht,hz⟩:=I.tuple hq;refine assign_Tuple_tuple (I.ok.hd hc) ht (by simp [hn,<- hl,rv.length]) hst fun h' hx=>?_
 have I1:Inv X pins σ H { s with heap:=h' }:=I.kept (t':=s.toks) fun b o e=>hx b o (ne_of_lt (Heap.lt_size e)) e
 exact h pins _ σ H xs _ Q I1 (by simpa using rv) hw
def zef(te:TE)(g:TG):TS:=fun D σ H=>te σ H fun x H1=>g x σ H1 D.nx
theorem zaX{tg e:Expr}{te:TE}{g:TG}(he:PE X e te)(hg:PG X tg g)(hs:swapsWithSole [tg] e pos.line X.env=pure false:=by rfl)(hw:swappedStores [tg] e X.env=pure none:=by rfl)
  (h1:(assignEach [tg] X.env).map (·.2)=[assign tg X.env]:=by rfl):PS X (.Assign [tg] e pos) (zef te g):=by
 refine⟨?_⟩;intro pins s σ H D I h;refine wpAny_Assign_stores (thn (he pins s σ H _ I h) fun v s1 ⟨x,H1,I1,r1,q1⟩=>?_) hs hw;rw[h1];exact thn (hg pins s1 σ H1 x v _ I1 r1 q1) fun _ s2 q=>q
theorem zC{i:Nat}{x:Str}{e:Expr}{te:TE}{pos':Pos}(hN:X.N.Nodup)(hi:X.N[i]?=some x)(hx:Loc X.env.scope x)(he:PE X e te)(hs:swapsWith e (some (.Name x pos')) pos.line X.env=pure false:=by rfl)(hf:X.fn x=true\/X.env.scope.names.lookup x=some .local:=by first|exact .inl rfl|exact .inr rfl|assumption):
  PS X (.Assign [.Name x pos'] e pos) (zef te (yc i)):=by
 refine⟨?_⟩;intro pins s σ H D I h;refine wpAny_Assign_Name (thn (he pins s σ H _ I h) fun v s1 ⟨y,H1,I1,r1,q1⟩=>?_) hs;exact vz I1 hN hi hx r1 (fun s2 I2=>⟨_,H1,I2,q1⟩) hf
structure It where
 go:Nat->Hp->Prop
 yld:Nat->Hp->V->Hp->Prop
 stop:Nat->Hp->Prop
def wN(X:Cx)(pins:PnL)(H:Hp)(b:Addr):Prop:=
 H b=none/\b≠X.env.locals/\b∉X.fs/\(b∈X.ex\/X.s₀.heap.objs.size<=b)/\(∀x c,X.env.cells.lookup x=some c->c≠b)/\∀p∈X.pn++pins,p.1≠b
theorem Inv.fpOk{X:Cx}{pins:PnL}{σ : St}{H H':Hp}{s:Shared}{b:Addr}(I:Inv X pins σ H s)(hb:s.heap.objs.size<=b)(hn:H' b=none):wN X pins H' b:=by
 refine⟨hn,Nat.ne_of_gt (lt_of_lt_of_le I.lt hb),I.nofs hb,.inr (le_trans I.sz hb),fun x c e z=>?_,fun p hp z=>?_⟩
 ·obtain⟨v,q⟩:=I.cell x c e
  exact absurd (lt_of_lt_of_le q.lt (by rw[z];exact hb)) (lt_irrefl _)
 ·exact absurd (lt_of_lt_of_le (Heap.lt_size (I.pin p hp).1) (by rw[z];exact hb)) (lt_irrefl _)
structure qV(P:Program)(w:World)(K:Frag)(tg:Expr)(J:It)(fp:List Addr)(it:Addr)(tn:Nat->Heap->Prop):Prop where
 mem:it∈fp
 obj:∀i h,tn i h->∀b∈fp,∃o,h.get? b=some o/\∀v,o.data≠.cell v
 keep:∀i h h',tn i h->(∀b∈fp,∀o,h.get? b=some o->h'.get? b=some o)->tn i h'
 item:∀(X:Cx),X.prog=P->X.w=w->X.K=K->X.calm=true->∀(i:Nat) (pins:PnL) (s:Shared) (σ : St) (H:Hp) (E:VSP),Inv X pins σ H s->(∀b∈fp,wN X pins H b)->tn i s.heap->J.go i H->
  wpAny (model P w) X.A (pyNext (.ref it)) (fun r s1=>∃u,r=some u/\
   wpAny (model P w) X.A (letOwnedTupleGo tg (.ref it) u) (fun _ s2=>∃x H',Inv X pins σ H' s2/\yj x u/\J.yld i H x H'/\tn (i+1) s2.heap/\∀b∈fp,H' b=none) E s1) E s
 done:∀(X:Cx),X.prog=P->X.w=w->X.K=K->X.calm=true->∀(i:Nat) (pins:PnL) (s:Shared) (σ : St) (H:Hp) (E:VSP),Inv X pins σ H s->(∀b∈fp,wN X pins H b)->tn i s.heap->J.stop i H->
  wpAny (model P w) X.A (pyNext (.ref it)) (fun r s1=>r=none/\Inv X pins σ H s1) E s
 self:∀(A:Around) (i:Nat) (s:Shared) (Q:VSP) (E:VSP),tn i s.heap->Q (.ref it) s->wpAny (model P w) A (pyIter (.ref it)) Q E s
abbrev TI:=St->Hp->(It->Hp->Prop)->Prop
def PIE(X:Cx)(pins:PnL)(σ : St)(tg:Expr)(R:It->Hp->Prop)(itv:Value)(s2:Shared):Prop:=
 ∃(it:Addr) (fp:List Addr) (tn:Nat->Heap->Prop) (J:It) (H':Hp),itv=.ref it/\Inv X pins σ H' s2/\qV X.prog X.w X.K tg J fp it tn/\tn 0 s2.heap/\(∀b∈fp,wN X pins H' b)/\R J H'
structure PI(X:Cx)(tg iter:Expr)(wi:TI):Prop where
 run:∀(pins:PnL) (s:Shared) (σ : St) (H:Hp) (R:It->Hp->Prop),Inv X pins σ H s->wi σ H R->
  wpAny (model X.prog X.w) X.A (eval iter X.env) (fun v s1=>wpAny (model X.prog X.w) X.A (pyIter v) (PIE X pins σ tg R) X.xe s1) X.xe s
instance {X:Cx}{tg iter:Expr}{wi:TI}:CoeFun (PI X tg iter wi) (fun _=>∀(pins:PnL) (s:Shared) (σ : St) (H:Hp) (R:It->Hp->Prop),Inv X pins σ H s->wi σ H R->
  wpAny (model X.prog X.w) X.A (eval iter X.env) (fun v s1=>wpAny (model X.prog X.w) X.A (pyIter v) (PIE X pins σ tg R) X.xe s1) X.xe s):=⟨PI.run⟩
theorem zgC{M:Model}{A:Around}{E:VSP}{s:Shared}{tg:Expr}{it:Addr}{u:Value}{o:Obj}{n:String}{vs:Array Value}{Q:Unit->Shared->Prop}(ho:s.heap.get? it=some o)(hc:o.cls=.type n)(hd:o.data=.fields vs)
  (hn:["enumerate","zip","dict_itemiterator","dict_reverseitemiterator","odict_iterator","itertools.zip_longest","itertools.pairwise"].contains n=false) (hQ:Q () s):wpAny M A (letOwnedTupleGo tg (.ref it) u) Q E s:=by
 unfold letOwnedTupleGo;cases tg <;> first
  | exact zwp hQ
  | (cases u <;> first
    | exact zwp hQ
    | (refine zwb (wpAny_load ho ?_)
       rw[hc,hd];show wpAny M A (if (["enumerate","zip","dict_itemiterator","dict_reverseitemiterator","odict_iterator","itertools.zip_longest","itertools.pairwise"].contains n&&vs[0]?==some (rawInt _))=true then _ else _) Q E s
       rw[if_neg (by intro h;rw[hn,Bool.false_and] at h;cases h)]
       exact zwp hQ))
def Itl(K:Frag)(a:Addr):It:=
 ⟨fun i H=>∃xs x,SqL K H a xs/\xs[i]?=some x,fun i H x H'=>H'=H/\∀xs,SqL K H a xs->xs[i]?=some x,fun i H=>∃xs,SqL K H a xs/\xs.length<=i⟩
def Itr(lo:Int)(n:Nat):It:=⟨fun i _=>i<n,fun i H x H'=>H'=H/\x=.int (lo+i),fun i _=>n<=i⟩
theorem zeb{P:Program}{w:World}{K:Frag}{tg:Expr}(a it:Addr):qV P w K tg (Itl K a) [it] it (fun i h=>h.IsListIter it a i) where
 mem:=by simp
 obj:=fun i h st b hb=>by
  have e:b=it:=by simpa using hb
  subst e;obtain⟨o,e,c,d⟩:=st;exact⟨o,e,fun v z=>by rw[d] at z;cases z⟩
 keep:=fun i h h' st k=>st.at fun o e=>k it (by simp) o e
 item:=by
  intro X hP hw hK hc i pins s σ H E I hf st hg;subst hP hw hK;obtain⟨xs,x,hq,hx⟩:=hg;obtain⟨its,rv,p,hz⟩:=I.list hq;obtain⟨u,hu,ru⟩:=rv.get hx;obtain⟨f0,f1,f2,f3,f4,f5⟩:=hf it (by simp)
  refine wpAny_pyNext_list_item st p.isList (x:=u) (by simpa using hu) fun h' st' sb=>?_
  have I1:Inv X pins σ H { s with heap:=h' }:=I.turned (t':=s.toks) (fun b o hb e=>(sb.2 b hb).trans e) f0 f1 f3 f4 f5
  obtain⟨o,e,c,d⟩:=id st';exact⟨u,rfl,zgC (s:={ s with heap:=h' }) e c d (by decide) ⟨x,H,I1,ru,⟨rfl,fun ys hy=>by rw[I.list_inj hy hq];exact hx⟩,st',fun b hb=>(hf b hb).1⟩⟩
 done:=by
  intro X hP hw hK hc i pins s σ H E I hf st hg;subst hP hw hK;obtain⟨xs,hq,hx⟩:=hg;obtain⟨its,rv,p,hz⟩:=I.list hq;obtain⟨f0,f1,f2,f3,f4,f5⟩:=hf it (by simp)
  have hl:=rv.length;exact wpAny_pyNext_list_end (I.ok.hd hc) st p.isList (by simp;omega) fun h' eb=>⟨rfl,I.turned (t':=s.toks) (fun b o hb e=>eb b o hb e) f0 f1 f3 f4 f5⟩
 self:=fun _ _ _ _ _ st h=>wpAny_pyIter_listiter st h
theorem zcs{P:Program}{w:World}{K:Frag}{tg:Expr}(it:Addr)(lo:Int)(n:Nat):qV P w K tg (Itr lo n) [it] it (fun i h=>IsRangeIter h it (lo+(i:Nat) * 1) ((n:Int) - (i:Nat)) 1) where
 mem:=by simp
 obj:=fun i h st b hb=>by
  have e:b=it:=by simpa using hb
  subst e;exact⟨_,st,fun v z=>by
   have z':Data.fields _=Data.cell v:=z;cases z'⟩
 keep:=fun i h h' st k=>k it (by simp) _ st
 item:=by
  intro X hP hw hK hc i pins s σ H E I hf st hg;subst hP hw hK;obtain⟨f0,f1,f2,f3,f4,f5⟩:=hf it (by simp)
  have W:=Walks.range (prog:=X.prog) (w:=X.w) (I.ok.hd hc) it lo 1 n;refine W.item i s _ _ hg st fun v h' tk hv st' kk=>?_;obtain⟨t,rfl⟩:=hv;have I1:Inv X pins σ H { s with heap:=h',toks:=tk }:=I.turned (fun b o hb e=>kk b o (by simpa using hb) e) f0 f1 f3 f4 f5
  refine⟨_,rfl,zgC (s:={ s with heap:=h',toks:=tk }) (n:="range_iterator") st' rfl rfl (by decide) ⟨.int (lo+i),H,I1,⟨t,?_⟩,⟨rfl,rfl⟩,st',fun b hb=>(hf b hb).1⟩⟩
  rw[Int.mul_one]
 done:=by
  intro X hP hw hK hc i pins s σ H E I hf st hg;subst hP hw hK;obtain⟨f0,f1,f2,f3,f4,f5⟩:=hf it (by simp)
  exact wpAny_pyNext_range_end (I.ok.hd hc) st (by have:n<=i:=hg;omega) fun h' eb=>⟨rfl,I.turned (t':=s.toks) (fun b o hb e=>eb b o hb e) f0 f1 f3 f4 f5⟩
 self:=fun _ _ _ _ _ st h=>wpAny_pyIter_rangeiter st h
variable {tg:Expr}
def zlY(K:Frag)(tl:TE):TI:=fun σ H R=>tl σ H fun x H1=>∃a,x=.ref a/\(∃xs,SqL K H1 a xs)/\R (Itl K a) H1
theorem ye{l:Expr}{tl:TE}(hl:PE X l tl):PI X tg l (zlY X.K tl):=by
 refine⟨?_⟩;intro pins s σ H R I h;refine thn (hl pins s σ H _ I h) fun v s1 ⟨x,H1,I1,r1,q1⟩=>?_;obtain⟨a,e,⟨xs,hq⟩,q⟩:=q1;subst e;cases r1;obtain⟨its,rv,p,hz⟩:=I1.list hq;refine wpAny_pyIter_list p.isList ?_;refine⟨s1.heap.objs.size,[s1.heap.objs.size],_,_,H1,rfl,I1.kept (t':=s1.toks) fun b o e=>zgp _ e,zeb a _,⟨_,zgs _ rfl,rfl,rfl⟩,fun b hb=>?_,q⟩;have e:b=s1.heap.objs.size:=by simpa using hb
 subst e;exact I1.fpOk (le_refl _) (I1.hok.fresh (le_refl _))
theorem zfX{pins:PnL}{σ : St}{H:Hp}{s:Shared}{R:It->Hp->Prop}{E:VSP}{lo hi:Int}{t u v:Tok}{tk:Nat}(I:Inv X pins σ H s)(h1 : -(2 ^ 62)<=lo)(h2:lo<2 ^ 62)(h3 : -(2 ^ 62)<=hi)(h4:hi<2 ^ 62)
  (q:R (Itr lo (hi - lo).toNat) H):wpAny (model X.prog X.w) X.A (pyIter (.ref s.heap.objs.size)) (PIE X pins σ tg R) E { s with heap:=s.heap.push { cls:=.type "range",data:=.fields #[.int lo t,.int hi u,.int 1 v] },toks:=tk }:=by
 refine wpAny_pyIter_range (IsRange.new ..) (small_one h1 h2 h3 h4) ?_;have I1:Inv X pins σ H { s with heap:=s.heap.push { cls:=.type "range",data:=.fields #[.int lo t,.int hi u,.int 1 v] },toks:=tk }:=I.kept fun b o e=>zgp _ e
 refine⟨(s.heap.push { cls:=.type "range",data:=.fields #[.int lo t,.int hi u,.int 1 v] }).objs.size,[(s.heap.push { cls:=.type "range",data:=.fields #[.int lo t,.int hi u,.int 1 v] }).objs.size],_,_,H,rfl,
  I1.kept (t':=tk) fun b o e=>zgp _ e,zcs _ lo (hi - lo).toNat,?_,fun b hb=>?_,q⟩
 ·have e1:lo+((0:Nat):Int) * 1=lo:=by simp
  have e2:(((hi - lo).toNat:Nat):Int) - ((0:Nat):Int)=Builtin.Range.rangeSize lo hi 1:=by rw[rangeSize_one];split <;> omega
  show IsRangeIter _ _ (lo+((0:Nat):Int) * 1) ((((hi - lo).toNat:Nat):Int) - ((0:Nat):Int)) 1;rw[e1,e2];exact zgs _ rfl
 ·have e:b=(s.heap.push { cls:=.type "range",data:=.fields #[.int lo t,.int hi u,.int 1 v] }).objs.size:=by simpa using hb
  subst e;exact I1.fpOk (le_refl _) (I1.hok.fresh (le_refl _))
def zlX(ta:TA):TI:=fun σ H R=>ta σ H fun vs H1=>∃j:Int,vs=[.int j]/\-(2 ^ 62)<=j/\j<2 ^ 62/\R (Itr 0 j.toNat) H1
theorem xJ{a:Expr}{ta:TA}{p pos:Pos}(hg:Gl X "range")(hm:X.mg "range"=none)(ha:PA X [a] ta)(hs:starEach [a] X.env=[(false,eval a X.env)]:=by rfl):PI X tg (.Call (.Name "range" p) [a] [] pos) (zlX ta):=by
 refine⟨?_⟩;intro pins s σ H R I h;refine Call_ (vk I hg hm boot_range (PyProof.Rows.callWith_type1 (thn (ha pos pins s σ H _ I h) fun us s1 ⟨vs,H1,I1,r1,q1⟩=>?_) hs rfl));obtain⟨j,e,q1,q2,q⟩:=q1;subst e;cases r1 with
 | cons r rr=>
  cases rr;obtain⟨t,rfl⟩:=r;exact call_range_1 (zfX I1 (by omega) (by omega) q1 q2 (by simpa using q))
def zmr(wi:TI)(g:TG)(tb:TS):TS:=fun D σ H=>wi σ H fun J H1=>∃W:Nat->Nat->St->Hp->Prop,(∃m,W 0 m σ H1)/\∀i m σ H,W i m σ H->
 (J.stop i H/\D.nx σ H)\/(J.go i H/\∃N:St->Hp->Prop,(∀σ' H',N σ' H'->∃m',m'<m/\W (i+1) m' σ' H')/\∀x H',J.yld i H x H'->g x σ H' fun σ2 H2=>tb { D with nx:=N,ct:=N,bk:=D.nx } σ2 H2)
def jb(fp:List Addr)(h:Heap):List (Addr×Obj):=fp.filterMap fun b=>(h.get? b).map fun o=>(b,o)
theorem xK{fp:List Addr}{h:Heap}{b:Addr}{o:Obj}(hb:b∈fp)(e:h.get? b=some o):(b,o)∈jb fp h:=List.mem_filterMap.mpr ⟨b,hb,by rw[e];rfl⟩
theorem zeB{fp:List Addr}{h:Heap}{p:Addr×Obj}(hp:p∈jb fp h):p.1∈fp/\h.get? p.1=some p.2:=by
 obtain⟨b,hb,e⟩:=List.mem_filterMap.mp hp;cases q:h.get? b with
 | none=>rw[q] at e;cases e
 | some o=>
  rw[q] at e;have e':(b,o)=p:=Option.some.inj e;subst e';exact⟨hb,q⟩
theorem Inv.pinned{pins:PnL}{σ : St}{H:Hp}{s:Shared}{fp:List Addr}(I:Inv X pins σ H s)(hf:∀b∈fp,wN X pins H b)(ho:∀b∈fp,∃o,s.heap.get? b=some o/\∀v,o.data≠.cell v):Inv X (pins++jb fp s.heap) σ H s:=
 I.pins_of fun p hp=>(List.mem_append.mp hp).elim (fun z=>I.pin p (mem_append_right _ z)) fun z=>by
  obtain⟨hb,e⟩:=zeB z;obtain⟨f0,f1,f2,_⟩:=hf p.1 hb;obtain⟨o,e',d⟩:=ho p.1 hb;rw[e] at e';cases e';exact⟨e,f0,f1,f2,d⟩
theorem Inv.unpinned{pins pl:PnL}{σ : St}{H:Hp}{s:Shared}(I:Inv X (pins++pl) σ H s):Inv X pins σ H s:=I.pins_of fun p hp=>I.pin p (mem_append_right _ (mem_append_left _ hp))
theorem y8{iter:Expr}{body:List Stmt}{wi:TI}{g:TG}{tb:TS}{pos:Pos}(hp:PassesOwn (model X.prog X.w) X.A X.env X.xe)(hc:X.calm=true)(hi:PI X tg iter wi)(hg:PG X tg g)(hb:PSs X body tb)
  (hs:∀x,foldedSetIterable iter X.env x=pure x:=by intro _;rfl):PS X (.For tg iter body [] pos) (zmr wi g tb):=by
 refine⟨?_⟩;intro pins s σ H D I h;refine wpAny_For (thn (hi pins s σ H _ I h) fun v s1 h1=>thn h1 fun itv s2 h2=>?_) hs;obtain⟨it,fp,tn,J,H2,e,I2,T,st2,f2,W,⟨m0,w0⟩,turn⟩:=h2;subst e;have stat:∀{H':Hp},(∀b∈fp,H' b=none)->∀b∈fp,wN X pins H' b:=fun hn b hb=>⟨hn b hb,(f2 b hb).2⟩;refine codeAny_forLoop_any (fun n s'=>∃i σ' H',Inv X pins σ' H' s'/\tn i s'.heap/\(∀b∈fp,H' b=none)/\W i n σ' H') ?_ m0 ⟨0,σ,H2,I2,st2,fun b hb=>(f2 b hb).1,w0⟩;rintro n s3 ⟨i,σ3,H3,I3,st3,fr3,w3⟩;rcases turn i n σ3 H3 w3 with ⟨stop,qn⟩|⟨go,N,hN,step⟩
 ·refine wpAny_passesOwn hp (thn (T.done X rfl rfl rfl hc i pins s3 σ3 H3 X.xe I3 (stat fr3) st3 stop) fun r s4 ⟨hr,I4⟩=>?_)
  subst hr;exact wpAny_execs_nil ⟨σ3,H3,I4,qn⟩
 ·refine wpAny_passesOwn hp (thn (T.item X rfl rfl rfl hc i pins s3 σ3 H3 X.xe I3 (stat fr3) st3 go) fun r s4 ⟨u,hr,h4⟩=>?_)
  subst hr;refine wpAny_passesOwn hp (thn h4 fun _ s5 ⟨x,H5,I5,r5,y5,st5,fr5⟩=>?_);have I5':=I5.pinned (stat fr5) (T.obj _ _ st5);refine wpAny_passesOwn hp (thn (hg _ s5 σ3 H5 x u _ I5' r5 (step x H5 y5)) fun _ s6 ⟨σ6,H6,I6,q6⟩=>?_);refine wpAny_passesOwn hp (thn (hb _ s6 σ6 H6 _ I6 q6) fun f s7 q7=>?_);have again:∀{σ7:St}{H7:Hp},Inv X (pins++jb fp s5.heap) σ7 H7 s7->N σ7 H7->∃m,m<n/\∃i σ' H',Inv X pins σ' H' s7/\tn i s7.heap/\(∀b∈fp,H' b=none)/\W i m σ' H':=fun {σ7 H7} I7 n7=>by
   obtain⟨m',hm,w7⟩:=hN σ7 H7 n7;refine⟨m',hm,i+1,σ7,H7,I7.unpinned,T.keep _ _ _ st5 fun b hb o e=>(I7.pin (b,o) (mem_append_right _ (mem_append_right _ (xK hb e)))).1,fun b hb=>?_,w7⟩;obtain⟨o,e,d⟩:=T.obj _ _ st5 b hb;exact(I7.pin (b,o) (mem_append_right _ (mem_append_right _ (xK hb e)))).2.1
  cases f with
  | next=>obtain⟨σ7,H7,I7,n7⟩:=q7;exact again I7 n7
  | cont=>obtain⟨σ7,H7,I7,n7⟩:=q7;exact again I7 n7
  | brk=>obtain⟨σ7,H7,I7,q7⟩:=q7;exact⟨σ7,H7,I7.unpinned,q7⟩
  | ret v=>obtain⟨x7,σ7,H7,I7,r7,q7⟩:=q7;exact⟨x7,σ7,H7,I7.unpinned,r7,q7⟩
theorem yO{K:Frag}{a:Addr}{xs:List V}{g:TG}{tb:TS}{D:wO}{σ : St}{H:Hp}(Pv:Nat->St->Hp->Prop)(h0:Pv 0 σ H)(hl:∀i σ H,i<=xs.length->Pv i σ H->SqL K H a xs)
  (hs:∀i x σ H,xs[i]?=some x->Pv i σ H->g x σ H fun σ2 H2=>tb { D with nx:=Pv (i+1),ct:=Pv (i+1),bk:=D.nx } σ2 H2) (hd:∀σ H,Pv xs.length σ H->D.nx σ H) :
  ∃W:Nat->Nat->St->Hp->Prop,(∃m,W 0 m σ H)/\∀i m σ H,W i m σ H->
   ((Itl K a).stop i H/\D.nx σ H)\/((Itl K a).go i H/\∃N:St->Hp->Prop,(∀σ' H',N σ' H'->∃m',m'<m/\W (i+1) m' σ' H')/\∀x H',(Itl K a).yld i H x H'->g x σ H' fun σ2 H2=>tb { D with nx:=N,ct:=N,bk:=D.nx } σ2 H2):=by
 refine⟨fun i m σ H=>m=xs.length - i/\i<=xs.length/\Pv i σ H,⟨xs.length,by simp,zero_le _,h0⟩,?_⟩
 rintro i m σ H ⟨rfl,hi,p⟩;have q:=hl i σ H hi p;by_cases hlt:i<xs.length
 ·refine .inr ⟨⟨xs,xs[i],q,by simp [hlt]⟩,Pv (i+1),fun σ' H' p'=>⟨xs.length - (i+1),by omega,rfl,hlt,p'⟩,fun x H' y=>?_⟩
  obtain⟨e,y⟩:=y;subst e;exact hs i x σ _ (y xs q) p
 ·have e:i=xs.length:=by omega
  subst e;exact .inl ⟨⟨xs,q,le_refl _⟩,hd σ H p⟩
theorem zan{lo:Int}{n:Nat}{g:TG}{tb:TS}{D:wO}{σ : St}{H:Hp}(Pv:Nat->St->Hp->Prop)(h0:Pv 0 σ H)
  (hs:∀i σ H,i<n->Pv i σ H->g (.int (lo+i)) σ H fun σ2 H2=>tb { D with nx:=Pv (i+1),ct:=Pv (i+1),bk:=D.nx } σ2 H2) (hd:∀σ H,Pv n σ H->D.nx σ H) :
  ∃W:Nat->Nat->St->Hp->Prop,(∃m,W 0 m σ H)/\∀i m σ H,W i m σ H->
   ((Itr lo n).stop i H/\D.nx σ H)\/((Itr lo n).go i H/\∃N:St->Hp->Prop,(∀σ' H',N σ' H'->∃m',m'<m/\W (i+1) m' σ' H')/\∀x H',(Itr lo n).yld i H x H'->g x σ H' fun σ2 H2=>tb { D with nx:=N,ct:=N,bk:=D.nx } σ2 H2):=by
 refine⟨fun i m σ H=>m=n - i/\i<=n/\Pv i σ H,⟨n,by simp,zero_le _,h0⟩,?_⟩
 rintro i m σ H ⟨rfl,hi,p⟩;by_cases hlt:i<n
 ·refine .inr ⟨hlt,Pv (i+1),fun σ' H' p'=>⟨n - (i+1),by omega,rfl,hlt,p'⟩,fun x H' y=>?_⟩
  obtain⟨e,y⟩:=y;subst e y;exact hs i σ _ hlt p
 ·have e:i=n:=by omega
  subst e;exact .inl ⟨le_refl _,hd σ H p⟩
abbrev R2:=V->V->Hp->VK->Prop
def OpR(X:Cx)(f:Value->Value->Sem Value)(r:R2):Prop:=
 ∀(pins:PnL) (s:Shared) (σ : St) (H:Hp) (x y:V) (v u:Value) (Q:VK),Inv X pins σ H s->yj x v->yj y u->r x y H Q->
  wpAny (model X.prog X.w) X.A (f v u) (EP X pins σ Q) X.xe s
def UnR(X:Cx)(f:Value->Sem Value)(r:V->Hp->VK->Prop):Prop:=
 ∀(pins:PnL) (s:Shared) (σ : St) (H:Hp) (x:V) (v:Value) (Q:VK),Inv X pins σ H s->yj x v->r x H Q->
  wpAny (model X.prog X.w) X.A (f v) (EP X pins σ Q) X.xe s
def xp(X:Cx)(f:Value)(r:List V->Hp->VK->Prop):Prop:=
 ∀(pins:PnL) (s:Shared) (σ : St) (H:Hp) (xs:List V) (us:List Value) (Q:VK),Inv X pins σ H s->zY xs us->r xs H Q->
  wpAny (model X.prog X.w) X.A (call f us) (EP X pins σ Q) X.xe s
def zm6(X:Cx)(r:V->Hp->(Bool->Hp->Prop)->Prop):Prop:=
 ∀(pins:PnL) (s:Shared) (σ : St) (H:Hp) (x:V) (v:Value) (Q:Bool->Hp->Prop),Inv X pins σ H s->yj x v->r x H Q->
  wpAny (model X.prog X.w) X.A (truthy v) (TP X pins σ Q) X.xe s
def tOp(r:R2)(ta tb:TE):TE:=fun σ H Q=>ta σ H fun x H1=>tb σ H1 fun y H2=>r x y H2 Q
def tUn(r:V->Hp->VK->Prop)(ta:TE):TE:=fun σ H Q=>ta σ H fun x H1=>r x H1 Q
inductive IrI(C:Int->Int->Prop)(g:Int->Int->V)(x y:V)(H:Hp)(Q:VK):Prop where
 | mk (i j:Int) (e1:x=.int i) (e2:y=.int j) (c:C i j) (q:Q (g i j) H)
def rI(C:Int->Int->Prop)(g:Int->Int->V):R2:=fun x y H Q=>IrI C g x y H Q
inductive zna(g:Int->Int->V)(x y:V)(H:Hp)(Q:VK):Prop where
 | mk (i j:Int) (e1:x=.int i) (e2:y=.int j) (q:Q (g i j) H)
def rI0(g:Int->Int->V):R2:=fun x y H Q=>zna g x y H Q
def rU(g:Int->V):V->Hp->VK->Prop:=fun x H Q=>∃i,x=.int i/\Q (g i) H
end
section
variable {X:Cx}{a b c:Expr}{ta tb tc:TE}{pos:Pos}
theorem zkT(ha:PE X a ta)(hb:PE X b tb){pins:PnL}{s:Shared}{σ : St}{H:Hp}{R:V->V->Hp->Prop}(I:Inv X pins σ H s)
  (h:ta σ H fun x H1=>tb σ H1 fun y H2=>R x y H2) {Q:VSP}{f:Value->Value->Sem Value}
  (hf:∀v u s2 x y H2,Inv X pins σ H2 s2->yj x v->yj y u->R x y H2->wpAny (model X.prog X.w) X.A (f v u) Q X.xe s2) :
  wpAny (model X.prog X.w) X.A (eval a X.env) (fun v s₁=>wpAny (model X.prog X.w) X.A (eval b X.env) (fun u s₂=>wpAny (model X.prog X.w) X.A (f v u) Q X.xe s₂) X.xe s₁) X.xe s:=by
 refine thn (ha pins s σ H _ I h) fun v s1 ⟨x,H1,I1,r1,q1⟩=>?_;refine thn (hb pins s1 σ H1 _ I1 q1) fun u s2 ⟨y,H2,I2,r2,q2⟩=>?_;exact hf v u s2 x y H2 I2 r1 r2 q2
theorem zt{op:Operator}{r:R2}(ho:OpR X (binaryOp op) r)(ha:PE X a ta)(hb:PE X b tb):PE X (.BinOp a op b pos) (tOp r ta tb):=by
 refine⟨?_⟩;intro pins s σ H Q I h;exact wpAny_BinOp (zkT ha hb I h fun v u s2 x y H2 I2 rx ry q=>ho pins s2 σ H2 x y v u Q I2 rx ry q)
theorem qh{op:UnaryOp}{r:V->Hp->VK->Prop}(ho:UnR X (unaryOp op) r)(ha:PE X a ta):PE X (.UnaryOp op a pos) (tUn r ta):=by
 refine⟨?_⟩;intro pins s σ H Q I h;exact UnaryOp_ (thn (ha pins s σ H _ I h) fun v s1 ⟨x,H1,I1,r1,q1⟩=>ho pins s1 σ H1 x v Q I1 r1 q1)
theorem opI{f:Value->Value->Sem Value}{C:Int->Int->Prop}{g:Int->Int->Int}
  (rule:∀(i j:Int) (t u:Tok) (s:Shared) (Q:VSP) (E:VSP),C i j->Q (.int (g i j) s.toks) { s with toks:=s.toks+1 }->wpAny (model X.prog X.w) X.A (f (.int i t) (.int j u)) Q E s) :
  OpR X f (rI C fun i j=>.int (g i j)):=by
 intro pins s σ H x y v u Q I rx ry h;obtain⟨i,j,rfl,rfl,hc,q⟩:=h;obtain⟨t,rfl⟩:=rx;obtain⟨t',rfl⟩:=ry;exact rule i j t t' s _ _ hc ⟨.int (g i j),H,I.tok _,⟨_,rfl⟩,q⟩
theorem zlA{f:Value->Value->Sem Value}{g:Int->Int->Int}
  (rule:∀(i j:Int) (t u:Tok) (s:Shared) (Q:VSP) (E:VSP),Q (.int (g i j) s.toks) { s with toks:=s.toks+1 }->wpAny (model X.prog X.w) X.A (f (.int i t) (.int j u)) Q E s) :
  OpR X f (rI0 fun i j=>.int (g i j)):=by
 intro pins s σ H x y v u Q I rx ry h;obtain⟨i,j,rfl,rfl,q⟩:=h;obtain⟨t,rfl⟩:=rx;obtain⟨t',rfl⟩:=ry;exact rule i j t t' s _ _ ⟨.int (g i j),H,I.tok _,⟨_,rfl⟩,q⟩
theorem zhO{f:Value->Value->Sem Value}{g:Int->Int->Bool}
  (rule:∀(i j:Int) (t u:Tok) (s:Shared) (Q:VSP) (E:VSP),Q (.bool (g i j)) s->wpAny (model X.prog X.w) X.A (f (.int i t) (.int j u)) Q E s) :
  OpR X f (rI0 fun i j=>.bl (g i j)):=by
 intro pins s σ H x y v u Q I rx ry h;obtain⟨i,j,rfl,rfl,q⟩:=h;obtain⟨t,rfl⟩:=rx;obtain⟨t',rfl⟩:=ry;exact rule i j t t' s _ _ ⟨.bl (g i j),H,I,rfl,q⟩
def znf(i j:Int):Prop:=0<j/\j<1073741824
def zne(i j:Int):Prop:=0<=j/\j<=1000000/\i.natAbs<2 ^ 64
def zk0(i j:Int):Prop:=(-(2 ^ 64)<i/\i<2 ^ 64)\/(-(2 ^ 64)<j/\j<2 ^ 64)
theorem zk0.ok{i j:Int}(h:zk0 i j):IntMulOk i j:=by
 rcases h with ⟨h1,h2⟩|⟨h1,h2⟩
 ·exact .of_left (intBits_le_64 h1 h2)
 ·exact .of_right (intBits_le_64 h1 h2)
theorem yJ:OpR X (binaryOp .Add) (rI0 fun i j=>.int (i+j)):=zlA fun _ _ _ _ _ _ _ q=>add_int q
theorem uB:OpR X (binaryOp .Sub) (rI0 fun i j=>.int (i - j)):=zlA fun _ _ _ _ _ _ _ q=>sub_int q
theorem xX:OpR X (binaryOp .Mult) (rI zk0 fun i j=>.int (i * j)):=opI fun _ _ _ _ _ _ _ hc q=>mul_int q hc.ok
theorem yf:OpR X (binaryOp .FloorDiv) (rI znf fun i j=>.int (i / j)):=opI fun i j _ _ _ _ _ hc q=>by
 have h1:(0:Int)<j:=hc.1;have h2:j<1073741824:=hc.2;exact floordiv_int (by omega) (by rw[Int.fdiv_eq_ediv_of_nonneg i (by omega)];exact q) (.inl (PyProof.noPylong_small (by omega)))
theorem zZ:OpR X (binaryOp .Mod) (rI (fun _ j=>0<j) fun i j=>.int (i % j)):=opI fun i j _ _ _ _ _ hc q=>by
 have h1:(0:Int)<j:=hc;exact mod_int' (by omega) (by rw[Int.fmod_eq_emod_of_nonneg i (by omega)];exact q)
theorem zf8:OpR X (binaryOp .Pow) (rI zne fun i j=>.int (i ^ j.toNat)):=opI fun _ _ _ _ _ _ _ hc q=>pow_int_small hc.1 hc.2.1 hc.2.2 q
theorem unI{f:Value->Sem Value}{g:Int->Int}
  (rule:∀(i:Int) (t:Tok) (s:Shared) (Q:VSP) (E:VSP),Q (.int (g i) s.toks) { s with toks:=s.toks+1 }->wpAny (model X.prog X.w) X.A (f (.int i t)) Q E s) :
  UnR X f (rU fun i=>.int (g i)):=by
 intro pins s σ H x v Q I rx h;obtain⟨i,rfl,q⟩:=h;obtain⟨t,rfl⟩:=rx;exact rule i t s _ _ ⟨.int (g i),H,I.tok _,⟨_,rfl⟩,q⟩
theorem ur:UnR X (unaryOp .USub) (rU fun i=>.int (-i)):=unI fun _ _ _ _ _ q=>neg_int q
def zlg:V->V->Bool
 | .non,.non=>true|.non,.int _=>true|.int _,.non=>true|.non,.bl _=>true|.bl _,.non=>true|.non,.str _=>true|.str _,.non=>true
 | .int _,.int _=>true|.bl _,.bl _=>true|.str _,.str _=>true|.byt _,.byt _=>true
 | .int _,.str _=>true|.str _,.int _=>true|.bl _,.str _=>true|.str _,.bl _=>true
 | _,_=>false
def rEq:R2:=fun x y H Q=>zlg x y=true/\Q (.bl (decide (x=y))) H
def rNe:R2:=fun x y H Q=>zlg x y=true/\Q (.bl (!decide (x=y))) H
theorem zd0{i j:Int}:decide (V.int i=V.int j)=(i==j):=by
 rw[Bool.eq_iff_iff];simp
theorem zgU{i j:Bool}:decide (V.bl i=V.bl j)=(i==j):=by
 rw[Bool.eq_iff_iff];simp
theorem zdZ{i j:Str}:decide (V.str i=V.str j)=(i==j):=by
 rw[Bool.eq_iff_iff];simp
theorem zd1{i j:Array UInt8}:decide (V.byt i=V.byt j)=(i.toList==j.toList):=by
 rw[Bool.eq_iff_iff];cases i;cases j;simp
theorem yq{pins:PnL}{σ : St}{H:Hp}{s:Shared}{Q:VK}{k k':Bool}(I:Inv X pins σ H s)(q:Q (.bl k) H)(e:k=k'):EP X pins σ Q (.bool k') s:=by
 subst e;exact⟨.bl k,H,I,rfl,q⟩
theorem yi:OpR X (compareOp .Eq) rEq:=by
 intro pins s σ H x y v u Q I rx ry h;obtain⟨hs,q⟩:=h;cases x with
 | non=>
  cases rx;cases y with
  | non=>cases ry;exact PySem.EqNone.eq_none_none (yq I q (by simp))
  | bl j=>cases ry;exact PySem.EqNone.eq_none_bool (yq I q (by simp))
  | int j=>obtain⟨t',rfl⟩:=ry;exact PySem.EqNone.eq_none_int (yq I q (by simp))
  | str j=>obtain⟨t',rfl⟩:=ry;exact PySem.EqNone.eq_none_str (yq I q (by simp))
  | _=>exact absurd (show false=true from hs) zft
 | bl i=>
  cases rx;cases y with
  | non=>cases ry;exact PySem.EqNone.eq_bool_none (yq I q (by simp))
  | bl j=>cases ry;exact eq_bool (yq I q zgU)
  | str j=>obtain⟨t',rfl⟩:=ry;exact PySem.EqMixed.eq_bool_str (yq I q (by simp))
  | _=>exact absurd (show false=true from hs) zft
 | int i=>
  obtain⟨t,rfl⟩:=rx;cases y with
  | non=>cases ry;exact PySem.EqNone.eq_int_none (yq I q (by simp))
  | int j=>obtain⟨t',rfl⟩:=ry;exact eq_int (yq I q zd0)
  | str j=>obtain⟨t',rfl⟩:=ry;exact PySem.EqMixed.eq_int_str (yq I q (by simp))
  | _=>exact absurd (show false=true from hs) zft
 | str i=>
  obtain⟨t,rfl⟩:=rx;cases y with
  | non=>cases ry;exact PySem.EqNone.eq_str_none (yq I q (by simp))
  | bl j=>cases ry;exact PySem.EqMixed.eq_str_bool (yq I q (by simp))
  | int j=>obtain⟨t',rfl⟩:=ry;exact PySem.EqMixed.eq_str_int (yq I q (by simp))
  | str j=>obtain⟨t',rfl⟩:=ry;exact eq_str (yq I q zdZ)
  | _=>exact absurd (show false=true from hs) zft
 | byt i=>
  obtain⟨t,rfl⟩:=rx;cases y with
  | byt j=>obtain⟨t',rfl⟩:=ry;exact PySem.W.eq_bytes (yq I q zd1)
  | _=>exact absurd (show false=true from hs) zft
 | _=>cases y <;> exact absurd (show false=true from hs) zft
theorem zdK:OpR X (compareOp .NotEq) rNe:=by
 intro pins s σ H x y v u Q I rx ry h;obtain⟨hs,q⟩:=h;cases x with
 | non=>
  cases rx;cases y with
  | non=>cases ry;exact PySem.EqNone.ne_none_none (yq I q (by simp))
  | bl j=>cases ry;exact PySem.EqNone.ne_none_bool (yq I q (by simp))
  | int j=>obtain⟨t',rfl⟩:=ry;exact PySem.EqNone.ne_none_int (yq I q (by simp))
  | str j=>obtain⟨t',rfl⟩:=ry;exact PySem.EqNone.ne_none_str (yq I q (by simp))
  | _=>exact absurd (show false=true from hs) zft
 | bl i=>
  cases rx;cases y with
  | non=>cases ry;exact PySem.EqNone.ne_bool_none (yq I q (by simp))
  | bl j=>cases ry;exact ne_bool (yq I q (congrArg not zgU))
  | str j=>obtain⟨t',rfl⟩:=ry;exact PySem.EqMixed.ne_bool_str (yq I q (by simp))
  | _=>exact absurd (show false=true from hs) zft
 | int i=>
  obtain⟨t,rfl⟩:=rx;cases y with
  | non=>cases ry;exact PySem.EqNone.ne_int_none (yq I q (by simp))
  | int j=>obtain⟨t',rfl⟩:=ry;exact ne_int (yq I q (congrArg not zd0))
  | str j=>obtain⟨t',rfl⟩:=ry;exact PySem.EqMixed.ne_int_str (yq I q (by simp))
  | _=>exact absurd (show false=true from hs) zft
 | str i=>
  obtain⟨t,rfl⟩:=rx;cases y with
  | non=>cases ry;exact PySem.EqNone.ne_str_none (yq I q (by simp))
  | bl j=>cases ry;exact PySem.EqMixed.ne_str_bool (yq I q (by simp))
  | int j=>obtain⟨t',rfl⟩:=ry;exact PySem.EqMixed.ne_str_int (yq I q (by simp))
  | str j=>obtain⟨t',rfl⟩:=ry;exact ne_str (yq I q (congrArg not zdZ))
  | _=>exact absurd (show false=true from hs) zft
 | byt i=>
  obtain⟨t,rfl⟩:=rx;cases y with
  | byt j=>obtain⟨t',rfl⟩:=ry;exact PySem.W.ne_bytes (yq I q (congrArg not zd1))
  | _=>exact absurd (show false=true from hs) zft
 | _=>cases y <;> exact absurd (show false=true from hs) zft
theorem uj:OpR X (compareOp .Lt) (rI0 fun i j=>.bl (decide (i<j))):=zhO fun _ _ _ _ _ _ _ q=>lt_int q
theorem zdL:OpR X (compareOp .LtE) (rI0 fun i j=>.bl (decide (i<=j))):=zhO fun _ _ _ _ _ _ _ q=>le_int q
theorem vq:OpR X (compareOp .Gt) (rI0 fun i j=>.bl (decide (j<i))):=zhO fun _ _ _ _ _ _ _ q=>gt_int q
theorem zlz:OpR X (compareOp .GtE) (rI0 fun i j=>.bl (decide (j<=i))):=zhO fun _ _ _ _ _ _ _ q=>ge_int q
theorem vV:OpR X (compareOp .In) (fun x y H Q=>∃i j,x=.str i/\y=.str j/\Q (.bl (!(Builtin.Str.occurrences j i 0 j.length 1).isEmpty)) H):=by
 intro pins s σ H x y v u Q I rx ry h;obtain⟨i,j,rfl,rfl,q⟩:=h;obtain⟨t,rfl⟩:=rx;obtain⟨t',rfl⟩:=ry;exact in_str (yq I q rfl)
theorem OpR.or{f:Value->Value->Sem Value}{r r':R2}(h:OpR X f r)(h':OpR X f r'):OpR X f (fun x y H Q=>r x y H Q\/r' x y H Q):=by
 intro pins s σ H x y v u Q I rx ry q;rcases q with q|q
 ·exact h pins s σ H x y v u Q I rx ry q
 ·exact h' pins s σ H x y v u Q I rx ry q
theorem zE(b:Expr){op:CmpOp}(h:op≠.In:=by decide)(h2:op≠.NotIn:=by decide):behindInMarks op b=false:=by
 have e1:(op==CmpOp.In)=false:=by cases op <;> first|rfl|exact absurd rfl h
 have e2:(op==CmpOp.NotIn)=false:=by cases op <;> first|rfl|exact absurd rfl h2
 cases b <;> simp [behindInMarks,e1,e2]
theorem xf{op:CmpOp}{r:R2}(ho:OpR X (compareOp op) r)(ha:PE X a ta)(hb:PE X b tb)(hm:behindInMarks op b=false):PE X (.Compare a [op] [b] pos) (tOp r ta tb):=by
 refine⟨?_⟩;intro pins s σ H Q I h;exact wpAny_Compare1 (zkT ha hb I h fun v u s2 x y H2 I2 rx ry q=>ho pins s2 σ H2 x y v u Q I2 rx ry q) hm
inductive zmg(x:V)(H:Hp)(Q:Bool->Hp->Prop):Prop where
 | mk (k:Bool) (e:x=.bl k) (q:Q k H)
def ze5(t:TE):TT:=fun σ H Q=>t σ H fun x H'=>zmg x H' Q
theorem zw{op:CmpOp}{r:R2}(ho:OpR X (compareOp op) r)(ha:PE X a ta)(hb:PE X b tb)(hm:behindInMarks op b=false):PT X (.Compare a [op] [b] pos) (ze5 (tOp r ta tb)):=by
 refine⟨?_⟩;intro pins s σ H Q I h;refine wpAny_isTrue_Compare1 (thn (ha pins s σ H _ I h) fun v s1 ⟨x,H1,I1,r1,q1⟩=>thn (hb pins s1 σ H1 _ I1 q1) fun u s2 ⟨y,H2,I2,r2,q2⟩=>
  thn (ho pins s2 σ H2 x y v u _ I2 r1 r2 q2) fun c s3 ⟨z,H3,I3,r3,k,e,q3⟩=>?_) hm
 subst e;cases r3;exact wpAny_truthy_bool ⟨H3,I3,q3⟩
def zjv(r r':R2)(ta tb tc:TE):TE:=fun σ H Q=>ta σ H fun x H1=>tb σ H1 fun y H2=>r x y H2 fun z H3=>∃k,z=.bl k/\
 (if k=true then tc σ H3 fun w' H4=>r' y w' H4 Q else Q (.bl false) H3)
theorem zbJ{op op':CmpOp}{r r':R2}(ho:OpR X (compareOp op) r)(ho':OpR X (compareOp op') r')(ha:PE X a ta)(hb:PE X b tb)(hc:PE X c tc)
  (hm:lastMarks [op,op'] [b,c]=false:=by with_unfolding_all rfl):PT X (.Compare a [op,op'] [b,c] pos) (ze5 (zjv r r' ta tb tc)):=by
 refine⟨?_⟩;intro pins s σ H Q I h;refine isTrue_chain (thn (ha pins s σ H _ I h) fun v s1 ⟨x,H1,I1,r1,q1⟩=>test_link (thn (hb pins s1 σ H1 _ I1 q1) fun u s2 ⟨y,H2,I2,r2,q2⟩=>
  thn (ho pins s2 σ H2 x y v u _ I2 r1 r2 q2) fun d s3 ⟨z,H3,I3,r3,k,e,q3⟩=>?_)) hm
 subst e;cases r3;refine wpAny_truthy_bool ?_;cases k with
 | false=>
  obtain⟨k',e',q'⟩:=q3;cases e';exact ite_ff ⟨H3,I3,q'⟩
 | true=>
  refine ite_tt (test_last (thn (hc pins s3 σ H3 _ I3 q3) fun w' s4 ⟨z',H4,I4,r4,q4⟩=>thn (ho' pins s4 σ H4 y z' u w' _ I4 r2 r4 q4) fun d' s5 ⟨z2,H5,I5,r5,k2,e2,q5⟩=>?_));subst e2;cases r5;exact wpAny_truthy_bool ⟨H5,I5,q5⟩
def zmd(K:Frag)(x:V)(H:Hp)(k:Bool):Prop:=
 match x with
 | .non=>k=false
 | .bl b=>k=b
 | .int i=>k=(i != 0)
 | .str y=>y.length<=sizeLine/\k=((y.length:Int) != 0)
 | .byt y=>y.size<=sizeLine/\k=((y.size:Int) != 0)
 | .ref p=>(∃xs,SqL K H p xs/\k=!xs.isEmpty)\/(∃xs,SqT K H p xs/\k=!xs.isEmpty)\/∃kvs,H p=some (.dK kvs)/\k=!kvs.isEmpty
 | _=>False
theorem zc5{κ : Type}{kvs:List (κ×V)}{vs:List (κ×Value)}(r:KV kvs vs):(!vs.isEmpty)=!kvs.isEmpty:=by
 cases r <;> rfl
theorem qB{xs:List V}{its:List Value}(r:zY xs its):(!its.toArray.isEmpty)=!xs.isEmpty:=by
 cases r <;> simp
theorem uD:(sizeLine:Nat)<2 ^ 63:=by rw[sizeLine_eq];decide
theorem zjr:zm6 X (fun x H Q=>∃k,zmd X.K x H k/\Q k H):=by
 intro pins s σ H x v Q I rx h;obtain⟨k,e,q⟩:=h;have hl:=uD;have hs:sizeLine=16777216:=sizeLine_eq;cases x with
 | non=>
  cases rx;have e':k=false:=e;subst e';exact truthy_none ⟨H,I,q⟩
 | bl b=>
  cases rx;have e':k=b:=e;subst e';exact wpAny_truthy_bool ⟨H,I,q⟩
 | int i=>
  obtain⟨t,rfl⟩:=rx;have e':k=(i != 0):=e;subst e';exact PySem.P.truthy_int ⟨H,I,q⟩
 | str y=>
  obtain⟨t,rfl⟩:=rx;obtain⟨hy,e'⟩:y.length<=sizeLine/\k=((y.length:Int) != 0):=e;subst e';exact PySem.P.truthy_str (by omega) ⟨H,I.tok _,q⟩
 | byt y=>
  obtain⟨t,rfl⟩:=rx;obtain⟨hy,e'⟩:y.size<=sizeLine/\k=((y.size:Int) != 0):=e;subst e';exact PySem.W.truthy_bytes (by omega) ⟨H,I.tok _,q⟩
 | ref p=>
  cases rx;have e':(∃xs,SqL X.K H p xs/\k=!xs.isEmpty)\/(∃xs,SqT X.K H p xs/\k=!xs.isEmpty)\/∃kvs,H p=some (.dK kvs)/\k=!kvs.isEmpty:=e;rcases e' with ⟨xs,hx,e'⟩|⟨xs,hx,e'⟩|⟨kvs,hx,e'⟩
  ·subst e'
   obtain⟨its,r,pl,hz⟩:=I.list hx;have hlen:=r.length;exact wpAny_truthy_list pl.isList (by simp only[size_toArray];omega) ⟨H,I.tok _,by rw[qB r];exact q⟩
  ·subst e'
   obtain⟨its,r,pl,hz⟩:=I.tuple hx;have hlen:=r.length;exact truthy_tuple pl (by simp only[size_toArray];omega) ⟨H,I.tok _,by rw[qB r];exact q⟩
  ·subst e'
   obtain⟨hz,hS,vs,r,m⟩:kvs.length<=sizeLine/\(p==sysModules)=false/\∃vs,KV kvs vs/\s.heap.DictOf (yG X.prog X.w) p vs:=I.hok p _ hx;have hlen:kvs.length=vs.length:=Paired.length r;exact wpAny_truthy_dict hS m (by omega) ⟨H,I.tok _,by rw[zc5 r];exact q⟩
 | _=>exact(show False from e).elim
theorem qg(ha:PE X a ta)(he:∀whole,isTrue a X.env whole=(do let v <- whole;standAt a.pos;holding [v] (truthy v))):
  PT X a (fun σ H Q=>ta σ H fun x H'=>∃k,zmd X.K x H' k/\Q k H'):=by
 refine⟨?_⟩;intro pins s σ H Q I h;exact isTrue_plain (thn (ha pins s σ H _ I h) fun v s1 ⟨x,H1,I1,r1,q1⟩=>zjr pins s1 σ H1 x v Q I1 r1 q1) (he _)
theorem zA:OpR X (binaryOp .Add) (fun x y H Q=>∃i j,x=.str i/\y=.str j/\i.length+j.length<=sizeLine/\Q (.str (i++j)) H):=by
 intro pins s σ H x y v u Q I rx ry h;obtain⟨i,j,rfl,rfl,hz,q⟩:=h;obtain⟨t,rfl⟩:=rx;obtain⟨t',rfl⟩:=ry;exact add_str (fun t' tk=>⟨.str (i++j),H,I.tok _,⟨_,rfl⟩,q⟩) hz
theorem wP{x:V}{us:List Value}(r:zY [x] us):∃u,us=[u]/\yj x u:=by
 cases r with
 | cons r1 r2=>cases r2;exact⟨_,rfl,r1⟩
theorem zbn{x y:V}{us:List Value}(r:zY [x,y] us):∃u w',us=[u,w']/\yj x u/\yj y w':=by
 cases r with
 | cons r1 r2=>
  cases r2 with
  | cons r3 r4=>cases r4;exact⟨_,_,rfl,r1,r3⟩
theorem ze0:xp X (.type "int") (fun xs H Q=>(∃i,xs=[.int i]/\Q (.int i) H)\/∃k,xs=[.bl k]/\Q (.int (if k then 1 else 0)) H):=by
 intro pins s σ H xs us Q I r h;rcases h with ⟨i,rfl,q⟩|⟨k,rfl,q⟩
 ·obtain⟨u,rfl,t,rfl⟩:=wP r
  exact call_int_int ⟨.int i,H,I,⟨_,rfl⟩,q⟩
 ·obtain⟨u,rfl,r1⟩:=wP r
  cases r1;exact call_int_bool ⟨.int (if k then 1 else 0),H,I.tok _,⟨_,rfl⟩,q⟩
def zm9(K:Frag)(x:V)(H:Hp)(n:Nat):Prop:=
 match x with
 | .str y=>y.length<=sizeLine/\n=y.length
 | .byt y=>y.size<=sizeLine/\n=y.size
 | .ref p=>(∃xs,SqL K H p xs/\n=xs.length)\/∃xs,SqT K H p xs/\n=xs.length
 | _=>False
theorem zcl:xp X (.builtin "len") (fun xs H Q=>∃x n,xs=[x]/\zm9 X.K x H n/\Q (.int n) H):=by
 intro pins s σ H xs us Q I r h;obtain⟨x,n,rfl,e,q⟩:=h;obtain⟨u,rfl,rx⟩:=wP r;have hl:=uD;have hs:sizeLine=16777216:=sizeLine_eq;cases x with
 | str y=>
  obtain⟨t,rfl⟩:=rx;obtain⟨hy,e'⟩:y.length<=sizeLine/\n=y.length:=e;subst e';exact len_str (by omega) ⟨.int _,H,I.tok _,⟨_,rfl⟩,q⟩
 | byt y=>
  obtain⟨t,rfl⟩:=rx;obtain⟨hy,e'⟩:y.size<=sizeLine/\n=y.size:=e;subst e';exact PySem.W.len_bytes (by omega) ⟨.int _,H,I.tok _,⟨_,rfl⟩,q⟩
 | ref p=>
  cases rx;have e':(∃xs,SqL X.K H p xs/\n=xs.length)\/∃xs,SqT X.K H p xs/\n=xs.length:=e;rcases e' with ⟨xs,hx,e'⟩|⟨xs,hx,e'⟩
  ·subst e'
   obtain⟨its,r',pl,hz⟩:=I.list hx;have hlen:=r'.length;exact Calls.call_len_list pl.isList (by simp only[size_toArray];omega) ⟨.int xs.length,H,I.tok _,⟨_,by simp only[size_toArray];rw[hlen]⟩,q⟩
  ·subst e'
   obtain⟨its,r',pl,hz⟩:=I.tuple hx;have hlen:=r'.length;exact len_tuple pl (by simp only[size_toArray];omega) ⟨.int xs.length,H,I.tok _,⟨_,by simp only[size_toArray];rw[hlen]⟩,q⟩
 | _=>exact(show False from e).elim
structure zdf(h:Heap)(x dx C:Addr)(mA:Str->Option Value):Prop where
 obj:h.get? x=some (instObj C dx)
 ns:h.Ns1 dx mA
 ne:dx≠x
theorem zeE{h:Heap}{dx:Addr}{mA:Str->Option Value}(n:h.Ns1 dx mA):∃od,h.get? dx=some od/\∀name,lookIn name od=some (mA name):=by
 obtain⟨o,es,ep,ho,hd,hk,_,hm⟩:=n;refine⟨o,ho,fun name=>?_⟩;have e:=hm name;unfold nsFind findBy at e;rw[<- Array.find?_toList] at e;unfold lookIn;rw[hd];dsimp only;split
 ·rename_i y q
  rw[q] at e;exact congrArg some e
 ·rename_i q
  rw[q] at e;have a:es.toList.any (·.refKey)=false:=by
   rw[List.any_eq_false];intro y hy;obtain⟨z,t,hkey⟩:=hk y (Array.mem_toList_iff.mp hy);simp [DictEntry.refKey,hkey]
  have a':¬es.toList.any (·.refKey)=true:=by rw[a];exact zft
  rw[if_neg a'];exact congrArg some e
theorem zdf.look{h:Heap}{x dx C:Addr}{mA:Str->Option Value}(I:zdf h x dx C mA):∃od,PySem.W.InstAt h x (instObj C dx) C (some od)/\∀name,lookIn name od=some (mA name):=
 let ⟨od,ho,hl⟩:=zeE I.ns
 ⟨od,⟨I.obj,rfl,rfl,ho⟩,hl⟩
variable {prog:Program}{w:World}{A:Around}{E:VSP}{s:Shared}{K:Frag}{x dx C f:Addr}{mA:Str->Option Value}{name:Str}{v:Value}
theorem zik{expr:Bool}{Q:VSP}(X:K.In s.heap)(I:zdf s.heap x dx C mA)(hg:plainGet K C name=true)(hh:hasDictIn K C=true)
  (ha:findIn K (.ref C) name=some none) (hv:mA name=some v) (hv':PySem.W.handedIn v=true) (h:Q v { s with toks:=s.toks+1 }) :
  wpAny (model prog w) A (getAttr (.ref x) name expr) Q E s:=by
 obtain⟨od,J,hl⟩:=I.look;exact PySem.W.get_value X J (plainGet_of hg).1 (PySem.W.findObj_own hh ha rfl (by rw[hl,hv])) hv' h
theorem zgD{pl:Sem Bool}{Q:Value×List Value->Shared->Prop}(X:K.In s.heap)(I:zdf s.heap x dx C mA)(hg:plainGet K C name=true)
  (hf:findIn K (.ref C) name=some (some (.ref f))) (ht:isFn K (.ref f)=true) (hv:mA name=none) (h:Q (.ref f,[.ref x]) s) :
  wpAny (model prog w) A (getMethod (.ref x) name pl) Q E s:=by
 obtain⟨od,J,hl⟩:=I.look;exact PySem.W.method_fn X J (plainGet_of hg).1 (plainGet_of hg).2 hf (beq_iff_eq.mp ht) (by show(lookIn name od).map (·.isSome)=some false;rw[hl,hv];rfl) h
theorem zhh{ns:List Str}{Q:Unit->Shared->Prop}(X:K.In s.heap)(I:zdf s.heap x dx C mA)
  (hs:findIn K (.ref C) "__setattr__"=some (some (.builtin "object.__setattr__"))) (hp:plainOver K C=true) (ht:takerIn K C name=some none) (hh:hasDictIn K C=true)
  (hw:PySem.Within mA ns) (hsz:ns.length<=sizeLine)
  (h:∀h',zdf h' x dx C (fun y=>if y=name then some v else mA y)->Heap.SameBut dx s.heap h'->Q () { s with heap:=h',toks:=s.toks+2 }) :
  wpAny (model prog w) A (setAttr (.ref x) name v) Q E s:=by
 obtain⟨od,J,hl⟩:=I.look;refine PySem.W.set_plain X J hs (PySem.W.osa_open (s:={ s with toks:=s.toks+1 }) (r:=none) X J hp ht fun b=>?_)
 obtain⟨cd,hc,hd'⟩:=PySem.W.any_some hh;have hx:s.heap.get? x=some ⟨.ref C,some dx,.plain,#[]⟩:=I.obj;refine zwb (zwp (zwb (zwb (wpAny_loadPart hx (zwb (PySem.W.Looks.here (s:={ s with toks:=s.toks+1 }) (PySem.W.looks_clsIn X hc) ?_))))))
 rw[hd'];refine zwp (a:=some dx) (zwb (zwp (zwb ?_)));refine wpAny_nsSet1 (s:={ s with toks:=s.toks+1 }) I.ns fun h' hn2 hs2=>?_
 obtain⟨oD,esD,epD,hoD,hdD,hcD⟩:=hn2.count (PySem.Within.cons name v hw);refine zwb (wpAny_lookBehind hoD (by rw[hdD];exact pastItsLine_dict (le_trans hcD (by rw[length_cons];omega))) ?_)
 exact zwp (h _ ⟨(hs2.2 _ (Ne.symm I.ne)).trans I.obj,hn2,I.ne⟩ hs2)
theorem zbU{R:Result->Shared->Prop}{vs:List Value}{kw:List (Str×Value)}(X:K.In s.heap)(hm:makesIn K C=true)
  (hi:findIn K (.ref C) "__init__"=some (some (.ref f))) (hf:PySem.W.typeIn K (.ref f)=some (.type "function"))
  (h:codeAny (model prog w) (A.under (.builtin "type.__call__" ⟨.ref C::vs,kw⟩)) (.call (.ref f) ⟨.ref (s.heap.objs.size+1)::vs,kw⟩) (PySem.W.InitBack (s.heap.objs.size+1) R)
   { s with heap:=(s.heap.push emptyDict).push (instObj C s.heap.objs.size) }) :
  codeAny (model prog w) A (.call (.ref C) ⟨vs,kw⟩) R s:=by
 obtain⟨hh,g,d,t,os⟩:=s;exact PySem.W.make_core (PySem.W.makes_of X hm) (PySem.W.looks_findIn X hi) (fun self=>PySem.W.bind_fn X self hf) (.inl rfl) h
def yl(f:Str)(v:V):List (Str×V)->List (Str×V)
 | []=>[(f,v)]
 | (g,x)::r=>if g=f then (g,v)::r else (g,x)::yl f v r
theorem zy(f g:Str)(v:V):∀fs:List (Str×V),(yl f v fs).lookup g=if g=f then some v else fs.lookup g
 | []=>by
  show List.lookup g [(f,v)]=_;by_cases h:g=f
  ·have hb:(g==f)=true:=beq_iff_eq.mpr h
   simp only[List.lookup,hb,if_pos h]
  ·have hb:(g==f)=false:=beq_eq_false_iff_ne.mpr h
   simp only[List.lookup,hb,if_neg h]
 | (k,x)::r=>by
  have ih:=zy f g v r;rw[show yl f v ((k,x)::r)=(if k=f then (k,v)::r else (k,x)::yl f v r) from rfl]
  by_cases hk:k=f
  ·rw[if_pos hk]
   by_cases h:g=k
   ·have hb:(g==k)=true:=beq_iff_eq.mpr h
    simp only[List.lookup,hb,if_pos (h.trans hk)]
   ·have hb:(g==k)=false:=beq_eq_false_iff_ne.mpr h
    simp only[List.lookup,hb,if_neg (fun e:g=f=>h (e.trans hk.symm))]
  ·rw[if_neg hk]
   by_cases h:g=k
   ·have hb:(g==k)=true:=beq_iff_eq.mpr h
    simp only[List.lookup,hb,if_neg (fun e:g=f=>hk (h.symm.trans e))]
   ·have hb:(g==k)=false:=beq_eq_false_iff_ne.mpr h
    simp only[List.lookup,hb];exact ih
theorem je(f:Str)(v:V):∀fs:List (Str×V),f∈(yl f v fs).map (·.1)/\∀g,g∈fs.map (·.1)->g∈(yl f v fs).map (·.1)
 | []=>⟨by simp [yl],fun g h=>by simp at h⟩
 | (k,x)::r=>by
  obtain⟨i1,i2⟩:=je f v r;rw[show yl f v ((k,x)::r)=(if k=f then (k,v)::r else (k,x)::yl f v r) from rfl]
  by_cases hk:k=f
  ·rw[if_pos hk]
   subst hk;exact⟨by simp,fun g h=>by simpa using h⟩
  ·rw[if_neg hk]
   refine⟨?_,fun g h=>?_⟩
   ·rw[map_cons]
    exact mem_cons_of_mem _ i1
   ·rw[map_cons] at h |-
    rcases List.mem_cons.mp h with e|e
    ·exact List.mem_cons.mpr (.inl e)
    ·exact mem_cons_of_mem _ (i2 g e)
theorem ju(f:Str)(v:V):∀fs:List (Str×V),(yl f v fs).length<=fs.length+1
 | []=>by simp [yl]
 | (k,x)::r=>by
  have ih:=ju f v r;rw[show yl f v ((k,x)::r)=(if k=f then (k,v)::r else (k,x)::yl f v r) from rfl]
  by_cases hk:k=f
  ·rw[if_pos hk,length_cons,length_cons];omega
  ·rw[if_neg hk,length_cons,length_cons];omega
theorem vp{v:V}{o:Option Value}(r:jk (some v) o):∃u,o=some u/\yj v u:=by
 cases o with
 | none=>exact(show False from r).elim
 | some u=>exact⟨u,rfl,r⟩
theorem jk.none_of{o:Option Value}(r:jk none o):o=none:=by
 cases o with
 | none=>rfl
 | some u=>exact(show False from r).elim
theorem zeL{v:V}{u:Value}(r:yj v u):PySem.W.handedIn u=true:=by
 cases v with
 | non=>cases (show u=Value.none from r);rfl
 | bl b=>cases (show u=Value.bool b from r);rfl
 | int i=>obtain⟨t,e⟩:=(show ∃t,u=Value.int i t from r);cases e;rfl
 | str x=>obtain⟨t,e⟩:=(show ∃t,u=Value.str x t from r);cases e;rfl
 | byt b=>obtain⟨t,e⟩:=(show ∃t,u=Value.bytes b t from r);cases e;rfl
 | flt b=>obtain⟨t,e⟩:=(show ∃t,u=Value.float b t from r);cases e;rfl
 | ref a=>cases (show u=Value.ref a from r);rfl
 | ty n=>cases (show u=Value.type n from r);rfl
end
section
variable {P:Program}{w:World}{H H':Hp}{h h':Heap}{a C dx:Addr}{fs fs':List (Str×V)}
theorem jR(hok:HOk P w H h)(e:H a=some (.ins C dx fs)):∃mA,zdf h a dx C mA/\(∀f,jk (fs.lookup f) (mA f))/\PySem.Within mA (fs.map (·.1))/\fs.length<=1000/\H dx=some (.own a):=by
 obtain⟨d,z,ne,ob,mA,n,r,q⟩:=(show yB P w H h a (.ins C dx fs) from hok a _ e);exact⟨mA,⟨ob,n,ne⟩,r,q,z,d⟩
structure Cls(K:Frag)(C:Addr):Prop where
 pg:plainGet K C Str.empty=true
 hd:hasDictIn K C=true
 po:plainOver K C=true
 sa:findIn K (.ref C) "__setattr__"=some (some (.builtin "object.__setattr__"))
theorem Cls.get{K:Frag}{C:Addr}(c:Cls K C)(f:Str):plainGet K C f=true:=c.pg
def yZ(K:Frag)(C:Addr)(f:Str):Prop:=findIn K (.ref C) f=some none
theorem yZ.taker{K:Frag}{C:Addr}{f:Str}(n:yZ K C f):takerIn K C f=some none:=by
 unfold takerIn;rw[show findIn K (.ref C) f=some none from n];rfl
structure vw(K:Frag)(C:Addr)(m:Str)(f:Addr):Prop where
 at_:findIn K (.ref C) m=some (some (.ref f))
 fn:isFn K (.ref f)=true
 kp:keepIn K (.ref f)=true
variable {X:Cx}{pins:PnL}{σ:St}{s:Shared}{f:Str}{v:V}{A:Around}{E:VSP}
theorem zc7{b:Bool}{Q:VSP}(I:Inv X pins σ H s)(e:H a=some (.ins C dx fs))(c:Cls X.K C)(n:yZ X.K C f)(l:fs.lookup f=some v)
  (h:∀u s',Inv X pins σ H s'->yj v u->Q u s'):wpAny (model X.prog X.w) A (getAttr (.ref a) f b) Q E s:=by
 obtain⟨mA,O,r,_,_,_⟩:=jR I.hok e;obtain⟨u,hu,ru⟩:=vp (v:=v) (o:=mA f) (by rw[<- l];exact r f)
 exact zik I.kIn O (c.get f) c.hd n hu (zeL ru) (h u _ (I.tok _) ru)
theorem vn{m:Str}{g:Addr}{pl:Sem Bool}{Q:Value×List Value->Shared->Prop}(I:Inv X pins σ H s)(e:H a=some (.ins C dx fs))(c:Cls X.K C)(k:vw X.K C m g)(l:fs.lookup m=none)
  (h:Q (.ref g,[.ref a]) s):wpAny (model X.prog X.w) A (getMethod (.ref a) m pl) Q E s:=by
 obtain⟨mA,O,r,_,_,_⟩:=jR I.hok e;have hn:mA m=none:=jk.none_of (by rw[<- l];exact r m)
 exact zgD I.kIn O (c.get m) k.at_ k.fn hn h
theorem zcx{y:V}{u:Value}{Q:Unit->Shared->Prop}(I:Inv X pins σ H s)(e:H a=some (.ins C dx fs))(c:Cls X.K C)(n:yZ X.K C f)(hl:fs.length<1000)(ry:yj y u)
  (h:∀s',Inv X pins σ (upd H a (.ins C dx (yl f y fs))) s'->Q () s'):wpAny (model X.prog X.w) A (setAttr (.ref a) f u) Q E s:=by
 obtain⟨mA,O,r,wi,_,ho⟩:=jR I.hok e;have hz:(fs.map (·.1)).length<=sizeLine:=by rw[length_map,sizeLine_eq];omega
 refine zhh I.kIn O c.sa c.po n.taker c.hd wi hz fun h' O' sb=>h _ ?_;have hd:∃o,h'.get? dx=some o:=let ⟨o,_,_,e',_⟩:=O'.ns;⟨o,e'⟩;refine I.write (x:=a) (e:=dx) (by rw[e];exact True.intro) (.inr ho) (fun b q hb z=>(sb.2 b hb).trans z) hd ?_
 refine⟨by rw[zv O.ne];exact ho,?_,O.ne,O'.obj,_,O'.ns,fun g=>?_,fun g hg=>?_⟩
 ·have:=ju f y fs;omega
 ·show jk ((yl f y fs).lookup g) (if g=f then some u else mA g)
  rw[zy];by_cases q:g=f
  ·rw[if_pos q,if_pos q];exact ry
  ·rw[if_neg q,if_neg q];exact r g
 ·by_cases q:g=f
  ·rw[q];exact(je f y fs).1
  ·refine(je f y fs).2 g (wi g fun z=>hg ?_)
   show(if g=f then some u else mA g)=none
   rw[if_neg q];exact z
theorem Inv.made(I:Inv X pins σ H s):Inv X pins σ (upd (upd H s.heap.objs.size (.own (s.heap.objs.size+1))) (s.heap.objs.size+1) (.ins C s.heap.objs.size []))
  { s with heap:=(s.heap.push emptyDict).push (instObj C s.heap.objs.size) }:=by
 have e1:(s.heap.push emptyDict).get? s.heap.objs.size=some emptyDict:=zgs s.heap rfl;have e2:((s.heap.push emptyDict).push (instObj C s.heap.objs.size)).get? (s.heap.objs.size+1)=some (instObj C s.heap.objs.size):=by
  have:=zgs (s.heap.push emptyDict) (o:=instObj C s.heap.objs.size) rfl
  rwa [Heap.size_push] at this
 have e3:(s.heap.push emptyDict).Ns s.heap.objs.size (fun _=>none):=⟨emptyDict,#[],_,e1,rfl,(fun e he=>absurd he (by simp)),fun _=>rfl⟩
 have I1:=I.laid (a:=s.heap.objs.size) (o:=.own (s.heap.objs.size+1)) (h':=s.heap.push emptyDict) (t':=s.toks) (fun b u q=>zgp _ q) (le_refl _) ⟨_,e1⟩;refine I1.laid (a:=s.heap.objs.size+1) (o:=.ins C s.heap.objs.size []) (t':=s.toks) (fun b u q=>zgp _ q) (Nat.le_of_eq (Heap.size_push _ _)) ?_;have ne:s.heap.objs.size≠s.heap.objs.size+1:=ne_of_lt (lt_succ_self _);refine⟨by rw[zv ne,zc],zero_le _,ne,e2,fun _=>none,(Heap.Ns1.of_empty e3).at fun o q=>zgp _ q,fun _=>True.intro,fun y hy=>absurd rfl hy⟩
theorem ziB{prog:Program}{w:World}{env:Env}{e:Expr}{f:Str}{pos:Pos}{s:Shared}{Q:VSP}(hb:attributeBase e f env (eval e env)=eval e env)
  (h:wpAny (model prog w) A (eval e env) (fun o s₁=>wpAny (model prog w) A (getAttr o f true) Q E s₁) E s):wpAny (model prog w) A (eval (.Attribute e f pos) env) Q E s:=
 Attribute_any_ h (by rw[arm_eval_Attribute,hb])
def zk9(K:Frag)(ta:TE)(f:Str):TE:=fun σ H Q=>ta σ H fun x H1=>∃a C dx fs v,x=.ref a/\H1 a=some (.ins C dx fs)/\Cls K C/\yZ K C f/\fs.lookup f=some v/\Q v H1
def zmz(K:Frag)(ta tv:TE)(f:Str):TS:=fun D σ H=>tv σ H fun y H1=>ta σ H1 fun x H2=>∃a C dx fs,x=.ref a/\H2 a=some (.ins C dx fs)/\Cls K C/\yZ K C f/\fs.length<1000/\
 D.nx σ (upd H2 a (.ins C dx (yl f y fs)))
variable {o e value:Expr}{pos pos' tpos:Pos}{ta tv:TE}
theorem xi(he:PE X e ta)(hb:attributeBase e f X.env (eval e X.env)=eval e X.env):PE X (.Attribute e f pos) (zk9 X.K ta f):=by
 refine⟨?_⟩;intro pins s σ H Q I h;refine ziB hb (thn (he pins s σ H _ I h) fun u s1 ⟨x,H1,I1,rx,a,C,dx,fs,v,ex,ea,c,n,l,q⟩=>?_);subst ex;obtain rfl:u=Value.ref a:=rx;exact zc7 I1 ea c n l fun u' s2 I2 ru=>⟨v,H1,I2,ru,q⟩
theorem vh(ha:PE X o ta)(hv:PE X value tv)(hs:swapsWith value (some (.Attribute o f pos')) pos.line X.env=pure false):PS X (.Assign [.Attribute o f pos'] value pos) (zmz X.K ta tv f):=by
 refine⟨?_⟩;intro pins s σ H D I h;refine plainObj_wpAny_Assign_Attribute (thn (hv pins s σ H _ I h) fun u s1 ⟨y,H1,I1,ry,q⟩=>thn (ha pins s1 σ H1 _ I1 q) fun ov s2 ⟨x,H2,I2,rx,a,C,dx,fs,ex,ea,c,n,l,q2⟩=>?_) hs;subst ex;obtain rfl:ov=Value.ref a:=rx;exact zcx I2 ea c n l ry fun s3 I3=>⟨σ,_,I3,q2⟩
variable {Q:VSP}{c:Value}{b:Bool}
inductive wA(K:Frag)(H:Hp):V->Value->Prop where
 | non:wA K H .non (.type "NoneType")
 | bl (x:Bool):wA K H (.bl x) (.type "bool")
 | int (i:Int):wA K H (.int i) (.type "int")
 | str (x:Str):wA K H (.str x) (.type "str")
 | flt (x:UInt64):wA K H (.flt x) (.type "float")
 | lst {a:Addr}{xs:List V}(e:H a=some (.lst xs)):wA K H (.ref a) (.type "list")
 | frz {a:Addr}{o:Obj}{xs:List V}(e:H a=some (.frz o (.lst xs))):wA K H (.ref a) (.type "list")
 | tup {a:Addr}{xs:List V}(e:H a=some (.tup xs)):wA K H (.ref a) (.type "tuple")
 | dK {a:Addr}{kvs:List (Key×V)}(e:H a=some (.dK kvs)):wA K H (.ref a) (.type "dict")
 | dT {a:Addr}{kvs:List (List Key×V)}(e:H a=some (.dT kvs)):wA K H (.ref a) (.type "dict")
 | ins {a C dx:Addr}{fs:List (Str×V)}(e:H a=some (.ins C dx fs)) (cl:Cls K C) (ha:findIn K (.ref C) "__class__"=some (some (.builtin "object.__class__")))
   (hn:specialIn K (.builtin "object.__class__") "__get__"=some (some (.builtin "getset_descriptor.__get__"))) (htk:PySem.W.takesIn K (.builtin "object.__class__")=some true)
   (hm:mroIn K C (.type "object")=some true):wA K H (.ref a) (.ref C)
theorem zeJ{x:V}{u t:Value}(I:Inv X pins σ H s)(rx:yj x u)(ty:wA X.K H x t)(e:kitOne X.K t c=some b)(h:∀tk,Q (.bool b) { s with toks:=tk }):
  wpAny (model X.prog X.w) A (call (.builtin "isinstance") [u,c]) Q E s:=by
 cases ty with
 | non=>cases (show u=Value.none from rx);exact kia_one PySem.W.kitx_none I.kIn True.intro e (fun z=>nomatch z) h
 | bl y=>cases (show u=Value.bool y from rx);exact kia_one PySem.W.kitx_bool I.kIn True.intro e (fun z=>nomatch z) h
 | int i=>obtain⟨t,q⟩:=(show ∃t,u=Value.int i t from rx);cases q;exact kia_one PySem.W.kitx_int I.kIn True.intro e (fun z=>nomatch z) h
 | str y=>obtain⟨t,q⟩:=(show ∃t,u=Value.str y t from rx);cases q;exact kia_one PySem.W.kitx_str I.kIn True.intro e (fun z=>nomatch z) h
 | flt y=>obtain⟨t,q⟩:=(show ∃t,u=Value.float y t from rx);cases q;exact kia_one PySem.W.kitx_float I.kIn True.intro e (fun z=>nomatch z) h
 | @lst a xs ea=>
  cases (show u=Value.ref a from rx);obtain⟨_,_,n,_,h1⟩:=(show yB X.prog X.w H s.heap a (.lst xs) from I.hok a _ ea);exact kia_one PySem.W.kitx_list I.kIn ⟨_,h1,rfl⟩ e (fun z=>nomatch z) h
 | @frz a ob xs ea=>
  cases (show u=Value.ref a from rx);obtain⟨_,_,_,n,_,h1⟩:=(show yB X.prog X.w H s.heap a (.frz ob (.lst xs)) from I.hok a _ ea);exact kia_one PySem.W.kitx_list I.kIn ⟨_,h1,rfl⟩ e (fun z=>nomatch z) h
 | @tup a xs ea=>
  cases (show u=Value.ref a from rx);obtain⟨_,_,_,p⟩:=(show yB X.prog X.w H s.heap a (.tup xs) from I.hok a _ ea);obtain⟨o,h1,h2,_⟩:=p;exact kia_one PySem.W.kitx_tuple I.kIn ⟨o,h1,h2⟩ e (fun z=>nomatch z) h
 | @dK a kvs ea=>
  cases (show u=Value.ref a from rx);obtain⟨_,_,vs,_,p⟩:=(show yB X.prog X.w H s.heap a (.dK kvs) from I.hok a _ ea);obtain⟨o,es,ep,h1,h2,_⟩:=p;exact kia_one PySem.W.kitx_dict I.kIn ⟨o,h1,h2.1⟩ e (fun z=>nomatch z) h
 | @dT a kvs ea=>
  cases (show u=Value.ref a from rx);obtain⟨_,_,xs,_,o,es,ep,h1,h2,_⟩:=(show yB X.prog X.w H s.heap a (.dT kvs) from I.hok a _ ea);exact kia_one PySem.W.kitx_dict I.kIn ⟨o,h1,h2.1⟩ e (fun z=>nomatch z) h
 | @ins a C dx fs ea cl ha hn htk hm=>
  cases (show u=Value.ref a from rx);obtain⟨mA,O,_⟩:=jR I.hok ea;obtain⟨od,J,_⟩:=O.look;exact kia_one (PySem.W.kitx_own (cl.get _) cl.hd ha hn htk hm) I.kIn J e (fun z=>nomatch z) h
structure yh(k:Nat)(A:Around):Prop where
 hd:A.handled=none
 dp:A.depth+3 * k+5<recursionLimit
 un:A.units+16 * k+200<cLine
theorem yh.mono{j k:Nat}{A:Around}(r:yh k A)(h:j<=k):yh j A:=⟨r.hd,by have:=r.dp;omega,by have:=r.un;omega⟩
theorem yh.deeper{k:Nat}{A:Around}(r:yh (k+1) A)(env:Env):yh k (A.deeper env):=
 ⟨r.hd,by have:=r.dp;show A.depth+1+3 * k+5<_;omega,by have:=r.un;show A.units+3+16 * k+200<_;omega⟩
theorem zcZ{A:Around}{C:Addr}{us:List Value}{kw:List (Str×Value)}:(A.under (.builtin "type.__call__" ⟨.ref C::us,kw⟩)).depth=A.depth+1:=by
 first|rfl|simp [Around.under,Code.weight,Code.isCreation,Code.isGuard,Code.isCaller,Code.frames,Code.isFrame,guardIds]
theorem zcY{A:Around}{C:Addr}{us:List Value}{kw:List (Str×Value)}:(A.under (.builtin "type.__call__" ⟨.ref C::us,kw⟩)).units=A.units+1:=by
 first|rfl|simp [Around.under,Code.cUnits,Code.frames,Code.isFrame]
theorem yh.make{k:Nat}{A:Around}(r:yh (k+1) A)(C:Addr)(us:List Value)(kw:List (Str×Value)):yh k (A.under (.builtin "type.__call__" ⟨.ref C::us,kw⟩)):=
 ⟨r.hd,by have:=r.dp;rw[zcZ];omega,by have:=r.un;rw[zcY];omega⟩
theorem yh.depth{k:Nat}{A:Around}(r:yh k A):A.depth<recursionLimit:=by have:=r.dp;omega
theorem yh.units{k:Nat}{A:Around}(r:yh k A):A.units+64<cLine:=by have:=r.un;omega
theorem yh.units0{k:Nat}{A:Around}(r:yh k A):A.units<cLine:=by have:=r.un;omega
def jB:TA:=fun _ H Q=>Q [] H
def xM(ta:TE)(tr:TA):TA:=fun σ H Q=>ta σ H fun x H1=>tr σ H1 fun xs H2=>Q (x::xs) H2
variable {es:List Expr}{te:TE}{t:TA}
theorem zi:PA X [] jB:=⟨fun _ _ _ _ H Q I h=>Calls.spliced_nil ⟨[],H,I,.nil,h⟩⟩
theorem zhL(ha:PE X e te)(hr:PA X es t)(hs:starEach (e::es) X.env=(false,eval e X.env)::starEach es X.env:=by rfl):PA X (e::es) (xM te t):=by
 refine⟨?_⟩;intro pos pins s σ H Q I h;rw[hs];show wpAny _ _ (spliced ((false,eval e X.env)::backTo pos (starEach es X.env))) _ _ s;refine Calls.spliced_cons (thn (ha pins s σ H _ I h) fun u s1 ⟨x,H1,I1,r1,q1⟩=>?_);exact thn (hr pos pins s1 σ H1 _ I1 q1) fun us s2 ⟨xs,H2,I2,r2,q2⟩=>⟨x::xs,H2,I2,.cons r1 r2,q2⟩
def zed(t:TA):TE:=fun σ H Q=>t σ H fun xs H1=>xs.length<=sizeLine/\∀p,H1 p=none->Q (.ref p) (upd H1 p (.tup xs))
def zmp(t:TA):TE:=fun σ H Q=>t σ H fun xs H1=>xs.length<=sizeLine/\∀p,H1 p=none->Q (.ref p) (upd H1 p (.lst xs))
theorem zM{x1}(h:PA X es t):PE X (.Tuple es x1 pos) (zed t):=by
 refine⟨?_⟩;intro pins s σ H Q I hq;refine wpAny_Tuple_spliced (thn (h pos pins s σ H _ I hq) fun us s1 ⟨xs,H1,I1,r,z,q⟩=>⟨by rw[<- r.length];exact z,?_⟩)
 have hf:H1 s1.heap.objs.size=none:=I1.hok.fresh (le_refl _);refine⟨.ref s1.heap.objs.size,upd H1 s1.heap.objs.size (.tup xs),I1.laid (t':=s1.toks) (fun b u e=>zgp _ e) (le_refl _) ?_,rfl,q _ hf⟩;exact⟨z,us,r,⟨_,zgs _ rfl,rfl,_,rfl⟩⟩
theorem zP(h:PA X es t):PE X (.List es pos) (zmp t):=by
 refine⟨?_⟩;intro pins s σ H Q I hq;refine wpAny_List_spliced (thn (h pos pins s σ H _ I hq) fun us s1 ⟨xs,H1,I1,r,z,q⟩=>⟨by rw[<- r.length];exact z,?_⟩)
 have hf:H1 s1.heap.objs.size=none:=I1.hok.fresh (le_refl _);refine⟨.ref s1.heap.objs.size,upd H1 s1.heap.objs.size (.lst xs),I1.laid (t':=s1.toks) (fun b u e=>zgp _ e) (le_refl _) ?_,rfl,q _ hf⟩;exact⟨z,us,0,r,zgs _ rfl⟩
abbrev Sp:=List V->Hp->VK->XK->Prop
abbrev CXT:=List Env->Hp->Shared->XK->Value->Shared->Prop
structure qW(P:Program)(w:World)(K:Frag)(mg:Str->Option Value)(base:Heap)(A:Around)(outer:List Env)(s:Shared)(H:Hp):Prop where
 frames:A.frames=some outer
 mod:Mod K mg base
 bs:∀b o,base.get? b=some o->s.heap.get? b=some o/\H b=none
 bsz:base.objs.size<=s.heap.objs.size
 funs:s.heap.FunFrames base outer
 frf:∀b∈frs outer,H b=none
 hok:HOk P w H s.heap
 bare:AllBare s.gens
def CE(outer:List Env)(P:Program)(w:World)(H:Hp)(s:Shared)(Q:VK)(u:Value)(s':Shared):Prop:=
 ∃v H',s'.os=s.os/\AllBare s'.gens/\Un (frs outer) [] H H' s.heap s'.heap/\HOk P w H' s'.heap/\yj v u/\Q v H'
def CR(CX:CXT)(outer:List Env)(P:Program)(w:World)(H:Hp)(s:Shared)(Q:VK)(E:XK)(r:Result)(s':Shared):Prop:=
 match r with
 | .ok (.ret u)=>CE outer P w H s Q u s'
 | .ok _=>False
 | .error e=>CX outer H s E e s'
structure zL(P:Program)(w:World)(K:Frag)(mg:Str->Option Value)(base:Heap)(CX:CXT)(k:Nat)(f:Addr)(fd:FuncData)(ps:List Str)(sp:Sp):Prop where
 len:∀vs H Q E,sp vs H Q E->vs.length=ps.length
 run:∀(A:Around) (outer:List Env) (s:Shared) (H:Hp) (args:Args) (us:List Value) (vs:List V) (Q:VK) (E:XK),yh k A->qW P w K mg base A outer s H->BindsTo s fd args (ps.zip us)->zY vs us->sp vs H Q E->
  codeAny (model P w) A (.call (.ref f) args) (CR CX outer P w H s Q E) s
theorem qW.make{P:Program}{w:World}{K:Frag}{mg:Str->Option Value}{base:Heap}{A:Around}{outer:List Env}{s:Shared}{H:Hp}(e:qW P w K mg base A outer s H)(C:Addr)(us:List Value)(kw:List (Str×Value)):
  qW P w K mg base (A.under (.builtin "type.__call__" ⟨.ref C::us,kw⟩)) outer s H:=⟨by first|exact e.frames|(simpa [Around.under,Code.envs,Code.isFrame,pushEnvs] using e.frames),e.mod,e.bs,e.bsz,e.funs,e.frf,e.hok,e.bare⟩
variable {s':Shared}
theorem Inv.env0(I:Inv X pins σ H s):qW X.prog X.w X.K X.mg X.base X.A X.stack s H:=
 ⟨I.ok.frames,I.ok.mod,I.bs,le_trans I.ok.bsz I.sz,I.stack,I.stkFree,I.hok,I.bare⟩
theorem Inv.after{Q:VK}{u:Value}(I:Inv X pins σ H s)(h:CE X.stack X.prog X.w H s Q u s'):EP X pins σ Q u s':=by
 obtain⟨v,H',os,bare,un,hok,r,q⟩:=h;obtain⟨hh,g,d,t,os'⟩:=s';obtain rfl:os'=s.os:=os;exact⟨v,H',I.call (h':=hh) (g':=g) (d':=d) (t':=t) (ch:=[]) un hok bare (fun b z=>absurd z (by simp)),r,q⟩
def jp(sp:Sp)(dvs:List V)(E:XK)(t:TA):TE:=fun σ H Q=>t σ H fun vs H1=>sp (vs++dvs) H1 Q E
def ze7(C:Addr)(m:Str)(sp:Sp)(dvs:List V)(E:XK)(ta:TE)(t:TA):TE:=fun σ H Q=>ta σ H fun x H1=>∃a dx fs,x=.ref a/\H1 a=some (.ins C dx fs)/\fs.lookup m=none/\
 t σ H1 fun vs H2=>sp (x::(vs++dvs)) H2 Q E
def ze9(C:Addr)(sp:Sp)(dvs:List V)(E:XK)(t:TA):TE:=fun σ H Q=>t σ H fun vs H1=>∀x dx,H1 x=none->H1 dx=none->dx≠x->
 sp (.ref x::(vs++dvs)) (upd (upd H1 dx (.own x)) x (.ins C dx [])) (fun v H2=>v=.non/\Q (.ref x) H2) E
def yt(K:Frag)(fd:FuncData)(ps:List Str)(ds:List Value):Prop:=
 ∀(s:Shared) (us:List Value),K.In s.heap->(us++ds).length=ps.length->BindsTo s fd ⟨us,[]⟩ (ps.zip (us++ds))
theorem yt.all{K:Frag}{fd:FuncData}{ps:List Str}(h:∀us:List Value,us.length=ps.length->bindArgs fd ⟨us,[]⟩=pure (ps.zip us)):yt K fd ps []:=fun s us _ hl=>by
 rw[append_nil] at hl |-;exact .of_eq (h us hl)
def yE(CX:CXT)(X:Cx)(E:XK):Prop:=∀(pins:PnL) (σ : St) (H:Hp) (s:Shared) (e:Value) (s':Shared),Inv X pins σ H s->CX X.stack H s E e s'->X.xe e s'
end
section
variable {X:Cx}{CX:CXT}{k:Nat}{f C:Addr}{fd:FuncData}{ps:List Str}{sp:Sp}{dvs:List V}{ds:List Value}{E:XK}{x m:Str}{p pos apos:Pos}{e o:Expr}{es:List Expr}{ta:TE}{t:TA}
theorem u7{pins:PnL}{σ : St}{H:Hp}{s:Shared}{Q:VK}{us:List Value}{vs:List V}(F:zL X.prog X.w X.K X.mg X.base CX k f fd ps sp)(hr:yh k X.A)(hb:yt X.K fd ps ds)(hd:zY dvs ds)(hx:yE CX X E)
  (I:Inv X pins σ H s) (r:zY vs us) (h:sp (vs++dvs) H Q E):wpAny (model X.prog X.w) X.A (call (.ref f) us) (EP X pins σ Q) X.xe s:=by
 have r2:zY (vs++dvs) (us++ds):=r.append hd;have hl:(us++ds).length=ps.length:=by rw[<- r2.length];exact F.len _ _ _ _ h
 refine wpAny_call (codeAny_mono (F.run X.A X.stack s H ⟨us,[]⟩ (us++ds) (vs++dvs) Q E hr I.env0 (hb s us I.kIn hl) r2 h) fun r s' hq=>?_);cases r with
 | error e=>exact hx pins σ H s e s' I hq
 | ok fl=>
  cases fl with
  | ret u=>exact I.after hq
  | next=>exact False.elim hq
  | brk=>exact False.elim hq
  | cont=>exact False.elim hq
theorem za2(F:zL X.prog X.w X.K X.mg X.base CX k f fd ps sp)(hr:yh k X.A)(hg:Gl X x)(hm:X.mg x=some (.ref f))(hk:keepIn X.K (.ref f)=true)(hb:yt X.K fd ps ds)(hd:zY dvs ds)(hx:yE CX X E)
  (ha:PA X (e::es) t) (hdb:(x==("__debug__" : Str))=false:=by decide) (he:starEach (e::es) X.env=(false,eval e X.env)::starEach es X.env:=by rfl) (hpl:(backTo pos (starEach es X.env)).any (·.1)=false:=by rfl) :
  PE X (.Call (.Name x p) (e::es) [] pos) (jp sp dvs E t):=by
 refine⟨?_⟩;intro pins s σ H Q I h;refine wpAny_Call_Name_kw (yY I hg hm ?_ hdb);refine callWith_K (h₀:=X.base) I.ok.mod.kin hk (thn (ha pos pins s σ H _ I h) fun us s1 ⟨vs,H1,I1,r,q⟩=>⟨I1.kIn,?_⟩) he hpl;exact u7 F hr hb hd hx I1 r q
theorem zhI{pl:Sem Bool}(he:PE X o ta)(c:Cls X.K C)(hm:vw X.K C m f)(F:zL X.prog X.w X.K X.mg X.base CX k f fd ps sp)(hr:yh k X.A)(hb:yt X.K fd ps ds)(hd:zY dvs ds)(hx:yE CX X E)(ha:PA X (e::es) t)
  (hst:starEach (e::es) X.env=(false,eval e X.env)::starEach es X.env:=by rfl) (hpl:(backTo pos (starEach es X.env)).any (·.1)=false:=by rfl)
  (ht:eval (.Call (.Attribute o m apos) (e::es) [] pos) X.env=(do
   let ov <- eval o X.env
   standAt apos.atName
   let (f,first) <- holding [ov] (getMethod ov m pl)
   callWith pos f first (backTo pos (starEach (e::es) X.env)) (backToKw pos (keywordEach [] X.env))):=by rfl) :
  PE X (.Call (.Attribute o m apos) (e::es) [] pos) (ze7 C m sp dvs E ta t):=by
 refine⟨?_⟩;intro pins s σ H Q I h;refine methodCall_KW (pl:=pl) (thn (he pins s σ H _ I h) fun u s1 ⟨x,H1,I1,rx,a,dx,fs,ex,ea,l,q⟩=>?_) ht;subst ex;obtain rfl:u=Value.ref a:=rx;refine vn I1 ea c hm l ?_;refine callWith_K (first:=[.ref a]) (h₀:=X.base) I.ok.mod.kin hm.kp (thn (ha pos pins s1 σ H1 _ I1 q) fun us s2 ⟨vs,H2,I2,r,q2⟩=>⟨I2.kIn,?_⟩) hst hpl
 exact u7 (us:=.ref a::us) (vs:=.ref a::vs) F hr hb hd hx I2 (.cons rfl r) q2
theorem zf2{pl:Sem Bool}(he:PE X o ta)(c:Cls X.K C)(hm:vw X.K C m f)(F:zL X.prog X.w X.K X.mg X.base CX k f fd ps sp)(hr:yh k X.A)(hb:yt X.K fd ps ds)(hd:zY dvs ds)(hx:yE CX X E)
  (ht:eval (.Call (.Attribute o m apos) [] [] pos) X.env=(do
   let ov <- eval o X.env
   standAt apos.atName
   let (f,first) <- holding [ov] (getMethod ov m pl)
   callWith pos f first (backTo pos (starEach [] X.env)) (backToKw pos (keywordEach [] X.env))):=by rfl) :
  PE X (.Call (.Attribute o m apos) [] [] pos) (ze7 C m sp dvs E ta jB):=by
 refine⟨?_⟩;intro pins s σ H Q I h;refine methodCall_KW (pl:=pl) (thn (he pins s σ H _ I h) fun u s1 ⟨x,H1,I1,rx,a,dx,fs,ex,ea,l,q⟩=>?_) ht;subst ex;obtain rfl:u=Value.ref a:=rx;refine vn I1 ea c hm l ?_;exact callWith_K0 (first:=[.ref a]) I1.kIn hm.kp (u7 (us:=[.ref a]) (vs:=[.ref a]) F hr hb hd hx I1 (.cons rfl .nil) q)
structure Mk(K:Frag)(C f:Addr):Prop where
 makes:makesIn K C=true
 init:findIn K (.ref C) "__init__"=some (some (.ref f))
 fn:isFn K (.ref f)=true
 kp:keepIn K (.ref C)=true
theorem zfN{pins:PnL}{σ : St}{H:Hp}{s:Shared}{Q:VK}{us:List Value}{vs:List V}(M:Mk X.K C f)(F:zL X.prog X.w X.K X.mg X.base CX k f fd ps sp)(hr:yh (k+1) X.A)(hb:yt X.K fd ps ds)(hd:zY dvs ds)
  (hx:yE CX X E) (I:Inv X pins σ H s) (r:zY vs us)
  (h:∀x dx,H x=none->H dx=none->dx≠x->sp (.ref x::(vs++dvs)) (upd (upd H dx (.own x)) x (.ins C dx [])) (fun v H2=>v=.non/\Q (.ref x) H2) E) :
  wpAny (model X.prog X.w) X.A (call (.ref C) us) (EP X pins σ Q) X.xe s:=by
 have hq:=h (s.heap.objs.size+1) s.heap.objs.size (I.hok.fresh (le_succ _)) (I.hok.fresh (le_refl _)) (ne_of_lt (lt_succ_self _));have I2:=Inv.made (C:=C) I;have r2:zY (V.ref (s.heap.objs.size+1)::(vs++dvs)) (Value.ref (s.heap.objs.size+1)::(us++ds)):=.cons rfl (r.append hd);have hl:(Value.ref (s.heap.objs.size+1)::us++ds).length=ps.length:=by
  have e:=r2.length;rw[F.len _ _ _ _ hq] at e;exact e.symm
 refine wpAny_call (zbU (f:=f) I.kIn M.makes M.init (beq_iff_eq.mp M.fn) (codeAny_mono (F.run _ X.stack _ _ ⟨Value.ref (s.heap.objs.size+1)::us,[]⟩ (Value.ref (s.heap.objs.size+1)::(us++ds)) _ _ E (hr.make C us [])
  (I2.env0.make C us []) (hb _ (Value.ref (s.heap.objs.size+1)::us) I2.kIn hl) r2 hq) fun r s' hq'=>?_))
 cases r with
 | error e=>exact hx pins σ _ _ e s' I2 hq'
 | ok fl=>
  cases fl with
  | ret u=>
   obtain⟨v,H',I3,rv,ev,q3⟩:=I2.after hq';subst ev;exact⟨rv,⟨V.ref (s.heap.objs.size+1),H',I3,rfl,q3⟩⟩
  | next=>exact False.elim hq'
  | brk=>exact False.elim hq'
  | cont=>exact False.elim hq'
theorem zhJ(M:Mk X.K C f)(F:zL X.prog X.w X.K X.mg X.base CX k f fd ps sp)(hr:yh (k+1) X.A)(hg:Gl X x)(hm:X.mg x=some (.ref C))(hb:yt X.K fd ps ds)(hd:zY dvs ds)(hx:yE CX X E)
  (ha:PA X (e::es) t) (hdb:(x==("__debug__" : Str))=false:=by decide) (he:starEach (e::es) X.env=(false,eval e X.env)::starEach es X.env:=by rfl) (hpl:(backTo pos (starEach es X.env)).any (·.1)=false:=by rfl) :
  PE X (.Call (.Name x p) (e::es) [] pos) (ze9 C sp dvs E t):=by
 refine⟨?_⟩;intro pins s σ H Q I h;refine wpAny_Call_Name_kw (yY I hg hm ?_ hdb);refine callWith_K (h₀:=X.base) I.ok.mod.kin M.kp (thn (ha pos pins s σ H _ I h) fun us s1 ⟨vs,H1,I1,r,q⟩=>⟨I1.kIn,?_⟩) he hpl;exact zfN M F hr hb hd hx I1 r q
variable {ks:List Str}{kpos:Pos}{kws:List Keyword}{te:TE}{tk:TA}{nm:Option Str}
variable {g:List Value->List Value->List Value}{gV:List V->List V->List V}
structure zD(N P:List Str)(sc:Scope):Prop where
 kind:sc.kind=.function
 co:sc.isCoroutine=false
 gen:sc.isGenerator=false
 nd:N.Nodup
 pre:N.take P.length=P
 par:∀x∈P,sc.names.lookup x=some .local\/sc.names.lookup x=some .cell
 nofree:∀y∈sc.names,y.2≠.free
theorem fsc{N P:List Str}{sc:Scope}(a:sc.kind=.function:=by rfl)(b:sc.isCoroutine=false:=by rfl)(c:sc.isGenerator=false:=by rfl)(d:N.Nodup:=by decide +kernel)(e:N.take P.length=P:=by rfl)(f:∀x∈P,sc.names.lookup x=some .local\/sc.names.lookup x=some .cell:=by decide +kernel)(g:∀y∈sc.names,y.2≠.free:=by decide +kernel):zD N P sc:=⟨a,b,c,d,e,f,g⟩
theorem zax{kindOf:Str->Option NameKind}{x:Str}:∀{binds:List (Str×Value)}{m:Str->Option Value},(∀v,(x,v)∉binds)->bindL kindOf binds m x=m x
 | [],_,_=>rfl
 | (n,v)::r,m,h=>by
  unfold bindL;rw[zax fun w hw=>h w (mem_cons_of_mem _ hw)];split
  ·have:x≠n:=by rintro rfl;exact h v mem_cons_self
   simp [this]
  ·rfl
theorem zaz{kindOf:Str->Option NameKind}{x:Str}:∀{binds:List (Str×Value)}{m:Str->Option Value},(∀v,(x,v)∉binds)->bindC kindOf binds m x=m x
 | [],_,_=>rfl
 | (n,v)::r,m,h=>by
  unfold bindC;rw[zaz fun w hw=>h w (mem_cons_of_mem _ hw)];split
  ·rfl
  ·have:x≠n:=by rintro rfl;exact h v mem_cons_self
   simp [this]
theorem zay{kindOf:Str->Option NameKind}{x:Str}{v:Value}:∀{P:List Str}{vs:List Value}{i:Nat}{m:Str->Option Value},P.Nodup->P[i]?=some x->vs[i]?=some v->kindOf x=some .local->
  bindL kindOf (P.zip vs) m x=some v
 | [],_,_,_,_,h,_,_=>by simp at h
 | _::_,[],_,_,_,_,h,_=>by simp at h
 | p::P,w::vs,0,m,nd,h1,h2,hk=>by
  simp at h1 h2;subst h1;subst h2;show bindL kindOf ((p,w)::P.zip vs) m p=_;unfold bindL;rw[zax fun v hv=>(List.nodup_cons.mp nd).1 (of_mem_zip hv).1,if_pos hk];simp
 | p::P,w::vs,i+1,m,nd,h1,h2,hk=>by
  show bindL kindOf ((p,w)::P.zip vs) m x=_;unfold bindL;exact zay (i:=i) (List.nodup_cons.mp nd).2 (by simpa using h1) (by simpa using h2) hk
theorem zaA{kindOf:Str->Option NameKind}{x:Str}{v:Value}:∀{P:List Str}{vs:List Value}{i:Nat}{m:Str->Option Value},P.Nodup->P[i]?=some x->vs[i]?=some v->kindOf x≠some .local->
  bindC kindOf (P.zip vs) m x=some v
 | [],_,_,_,_,h,_,_=>by simp at h
 | _::_,[],_,_,_,_,h,_=>by simp at h
 | p::P,w::vs,0,m,nd,h1,h2,hk=>by
  simp at h1 h2;subst h1;subst h2;show bindC kindOf ((p,w)::P.zip vs) m p=_;unfold bindC;rw[zaz fun v hv=>(List.nodup_cons.mp nd).1 (of_mem_zip hv).1,if_neg hk];simp
 | p::P,w::vs,i+1,m,nd,h1,h2,hk=>by
  show bindC kindOf ((p,w)::P.zip vs) m x=_;unfold bindC;exact zaA (i:=i) (List.nodup_cons.mp nd).2 (by simpa using h1) (by simpa using h2) hk
def xN(N:List Str)(vs:List V):St:=vs.map some++List.replicate (N.length - vs.length) none
def w5(CX:CXT)(P:Program)(w:World)(K:Frag)(mg:Str->Option Value)(base:Heap)(N:List Str)(qual:Str)(scope:Scope)(f:Addr)(cd:Value)(A:Around)(outer:List Env)(s:Shared)(H:Hp)(E:XK):Cx where
 prog:=P
 w:=w
 K:=K
 mg:=mg
 base:=base
 A:=A.deeper (envOfC qual scope s.heap.objs.size f cd)
 N:=N
 s₀:=s
 H₀:=H
 env:=envOfC qual scope s.heap.objs.size f cd
 outer:=outer
 stack:=envOfC qual scope s.heap.objs.size f cd::outer
 ex:=[]
 calm:=true
 fn:=fun _=>true
 pn:=[]
 xe:=fun e s'=>wpAny (model P w) (A.deeper (envOfC qual scope s.heap.objs.size f cd)) (leaving (envOfC qual scope s.heap.objs.size f cd) e) (fun _ s''=>CX outer H s E e s'') (fun e' s''=>CX outer H s E e' s'') s'
theorem zcj{sc:Scope}{n:Nat}{x:Str}(h:sc.names.lookup x=some .cell):∃c,(cellsFrom n sc.names []).lookup x=some c:=by
 have q:=cellsFrom_some sc.names n [] (.inl h);exact Option.isSome_iff_exists.mp q
theorem zak{CX:CXT}{P:Program}{w:World}{K:Frag}{mg:Str->Option Value}{base:Heap}{N ps:List Str}{qual:Str}{scope:Scope}{f:Addr}{cd:Value}{A:Around}{outer:List Env}{s s1:Shared}{H:Hp}{E:XK}{us:List Value}{vs:List V}
  (S:zD N ps scope) (hd:A.handled=none) (e0:qW P w K mg base A outer s H) (hl:vs.length=ps.length) (r:zY vs us)
  (x:InCallC s s.heap.objs.size (bindL (envOfC qual scope s.heap.objs.size f cd).kindOf (ps.zip us) fun _=>none) (cellsFrom (s.heap.objs.size+1) scope.names []) (bindC (envOfC qual scope s.heap.objs.size f cd).kindOf (ps.zip us) fun _=>none) s1) :
  Inv (w5 CX P w K mg base N qual scope f cd A outer s H E) [] (xN N vs) H s1:=by
 have hpl:ps.length<=N.length:=by have:=congrArg List.length S.pre;rw[length_take] at this;omega
 obtain⟨h1,tk,rfl,hk⟩:=x.done;have noA:∀b:Addr,b∉(w5 CX P w K mg base N qual scope f cd A outer s H E).ex:=fun b z=>absurd (show b∈([]:List Addr) from z) (by simp)
 refine⟨⟨e0.mod,S.kind,rfl,rfl,le_refl _,fun y z c h1 h2=>?_,fun y hy=>?_,fun y c _ h=>?_,fun _=>hd,Around.frames_deeper e0.frames,.inr ⟨rfl,rfl⟩,fun b z=>absurd z (noA b),e0.bs,e0.bsz,fun b _ _=>noA b,fun b z=>absurd z (noA b),e0.funs,e0.frf⟩,
  rfl,e0.bare,Un.kept hk,⟨_,x.toInCall.ns,fun i y v h1 h2 h3=>?_⟩,fun y c h=>⟨_,x.cell y c h⟩,e0.hok.fresh (le_refl _),fun y c h=>?_,fun p hp=>absurd (show p∈([]:PnL) from hp) (by simp),e0.hok.kept hk,?_⟩
 ·exact name_of_addr x.apart (PySem.mem_of_lookup h1) (PySem.mem_of_lookup h2)
 ·have hy:scope.names.lookup y=some .cell\/scope.names.lookup y=some .free:=hy
  rcases hy with hy|hy
  ·exact zcj hy
  ·exact absurd rfl (S.nofree _ (PySem.mem_of_lookup hy))
 ·exact le_of_lt (x.above y c (PySem.mem_of_lookup h))
 ·have hi:i<vs.length:=by
   unfold xN at h2;by_cases hi:i<vs.length
   ·exact hi
   ·rw[List.getElem?_append_right (by simpa using hi)] at h2
    rw[List.getElem?_replicate] at h2;split at h2 <;> cases h2
  have ha:vs[i]?=some v:=by
   unfold xN at h2;rw[List.getElem?_append_left (by simpa using hi),getElem?_map] at h2
   cases e:vs[i]? with
   | none=>rw[e] at h2;cases h2
   | some a=>rw[e] at h2;cases h2;rfl
  obtain⟨u,hu,rv⟩:=r.get ha;have hp:ps[i]?=some y:=by
   rw[<- S.pre,List.getElem?_take_of_lt (by omega)];exact h1
  have ndP:ps.Nodup:=by rw[<- S.pre];exact S.nd.sublist (List.take_sublist _ _)
  refine⟨u,rv,?_⟩;rcases S.par y (mem_of_getElem? hp) with k|k
  ·exact .inl ⟨k,zay ndP hp hu k⟩
  ·obtain⟨c,e⟩:=zcj (n:=s.heap.objs.size+1) k
   refine .inr ⟨.inl k,c,e,?_⟩;have q:=x.cell y c e;rw[zaA ndP hp hu (by show scope.names.lookup y≠_;rw[k];decide)] at q
   exact q
 ·exact e0.hok.fresh (le_of_lt (x.above y c (PySem.mem_of_lookup h)))
 ·unfold xN
  show _=N.length;rw[length_append,length_map,length_replicate];omega
theorem zb5{CX:CXT}{P:Program}{w:World}{K:Frag}{mg:Str->Option Value}{base:Heap}{k:Nat}{f:Addr}{name qual:Str}{params:Arguments}{body:List Stmt}{scope:Scope}{dV kV doc pm cdv ct oc:Value}{an od:Option Addr}
  {osl:Array (Option Value)}{N ps:List Str}{sp:Sp}(lk:K.lookup f=some ⟨oc,od,.func (fnOf name qual params body scope dV kV doc pm an cdv ct),osl⟩) (hcd:codeIn K cdv qual=true) (S:zD N ps scope)
  (len:∀vs H Q E,sp vs H Q E->vs.length=ps.length)
  (hbody:∀(A:Around) (outer:List Env) (s:Shared) (H:Hp) (vs:List V) (Q:VK) (E:XK),yh k (A.deeper (envOfC qual scope s.heap.objs.size f cdv))->sp vs H Q E->
   ∃t,PSs (w5 CX P w K mg base N qual scope f cdv A outer s H E) body t/\t { nx:=fun _ H'=>Q .non H',rt:=Q } (xN N vs) H) :
  zL P w K mg base CX (k+1) f (fnOf name qual params body scope dV kV doc pm an cdv ct) ps sp:=by
 refine⟨len,fun A outer s H args us vs Q E hr e0 hb r hsp=>?_⟩;have hl:=len _ _ _ _ hsp;have KX:K.In s.heap:=e0.mod.kin.keeps fun b o e=>(e0.bs b o e).1;have lim:s.heap.NoLimit:=e0.mod.nolimit.keeps fun b o e=>(e0.bs b o e).1;have hkind:∀y∈ps.zip us,scope.names.lookup y.1=some .local\/(scope.names.lookup y.1=some .cell/\((cellsFrom (s.heap.objs.size+1) scope.names []).lookup y.1).isSome=true):=fun⟨n,v⟩ hy=>by
  rcases S.par n (of_mem_zip hy).1 with q|q
  ·exact .inl q
  ·exact .inr ⟨q,cellsFrom_some _ _ _ (.inl q)⟩
 refine codeAny_call_function hr.depth (KX _ _ lk) rfl S.co S.gen rfl (PySem.W.codeRec_of KX hcd) (hb _ _ _ _ ?_);refine wpAny_newFunctionEnv_cells S.kind hkind fun env he s1 x=>?_;subst he;refine⟨lim.keeps x.toInCall.keep,codeAny_func ?_⟩;obtain⟨t,ht,hq⟩:=hbody A outer s H vs Q E (hr.deeper _) hsp;have I:Inv (w5 CX P w K mg base N qual scope f cdv A outer s H E) [] (xN N vs) H s1:=zak S hr.hd e0 hl r x;refine wpAny_mono (ht [] s1 (xN N vs) H _ I hq) (fun fl s' hs=>?_) fun e s' hs=>hs;have fin:∀{σ':St}{H':Hp}{v:V}{u:Value},Inv (w5 CX P w K mg base N qual scope f cdv A outer s H E) [] σ' H' s'->yj v u->Q v H'->CE outer P w H s Q u s':=
  fun {σ' H' v u} J rv q=>⟨v,H',J.os,J.bare,J.base,J.hok,rv,q⟩
 cases fl with
 | ret u=>
  obtain⟨v,σ',H',J,rv,q⟩:=hs;exact fin J rv q
 | next=>
  obtain⟨σ',H',J,q⟩:=hs;exact fin (v:=V.non) (u:=Value.none) J rfl q
 | brk=>
  obtain⟨_,_,_,q⟩:=hs;exact False.elim q
 | cont=>
  obtain⟨_,_,_,q⟩:=hs;exact False.elim q
variable {id T:String}{r:List V->Hp->VK->Prop}
def tCB(r:List V->Hp->VK->Prop)(t:TA):TE:=fun σ H Q=>t σ H fun vs H1=>r vs H1 Q
theorem zf5(hc:xp X (.builtin id) r)(hg:Gl X x)(hm:X.mg x=none)(hv:bootBuiltins x=some (.builtin id))(ha:PA X (e::es) t)(hn:x≠"__name__":=by decide)(hdb:(x==("__debug__" : Str))=false:=by decide)
  (he:starEach (e::es) X.env=(false,eval e X.env)::starEach es X.env:=by rfl) (hpl:(backTo pos (starEach es X.env)).any (·.1)=false:=by rfl):PE X (.Call (.Name x p) (e::es) [] pos) (tCB r t):=by
 refine⟨?_⟩;intro pins s σ H Q I h;refine wpAny_Call_Name_kw (vk I hg hm hv ?_ hn hdb);exact PyProof.Rows.callWith_builtin1 (thn (ha pos pins s σ H _ I h) fun us s1 ⟨vs,H1,I1,r1,q1⟩=>hc pins s1 σ H1 vs us Q I1 r1 q1) he hpl
theorem zep(hc:xp X (.type T) r)(hg:Gl X x)(hm:X.mg x=none)(hv:bootBuiltins x=some (.type T))(ha:PA X (e::es) t)(hn:x≠"__name__":=by decide)(hdb:(x==("__debug__" : Str))=false:=by decide)
  (he:starEach (e::es) X.env=(false,eval e X.env)::starEach es X.env:=by rfl) (hpl:(backTo pos (starEach es X.env)).any (·.1)=false:=by rfl):PE X (.Call (.Name x p) (e::es) [] pos) (tCB r t):=by
 refine⟨?_⟩;intro pins s σ H Q I h;refine wpAny_Call_Name_kw (vk I hg hm hv ?_ hn hdb);exact PyProof.Rows.callWith_type1 (thn (ha pos pins s σ H _ I h) fun us s1 ⟨vs,H1,I1,r1,q1⟩=>hc pins s1 σ H1 vs us Q I1 r1 q1) he hpl
theorem zcQ(hc:xp X (.type T) r)(hg:Gl X x)(hm:X.mg x=none)(hv:bootBuiltins x=some (.type T))(hn:x≠"__name__":=by decide)(hdb:(x==("__debug__" : Str))=false:=by decide):
  PE X (.Call (.Name x p) [] [] pos) (tCB r jB):=by
 refine⟨?_⟩;intro pins s σ H Q I h;refine wpAny_Call_Name_kw (vk I hg hm hv ?_ hn hdb);exact PyProof.Rows.callWith_type0 (hc pins s σ H [] [] Q I .nil h)
end
end L2
namespace HT
open PySem PyProof.Rows
section
open PySem.SeqAt
open PySem.AutoSeq1 (wpAny_loadPart')
open PySem.MeetsSeq PySem.MeetsSeq2 PySem.MeetsSeq3
end
section
variable {prog:Program}{w:World}{A:Around}{E:VSP}{s:Shared}
def sIx(n d:Nat):Option Int->Nat
 | none=>d
 | some v=>if v<0 then (v+(n:Int)).toNat else min v.toNat n
theorem zlo(n d:Nat):sIx n d none=d:=rfl
theorem zml(n d k:Nat):sIx n d (some (k:Int))=min k n:=by
 show(if (k:Int)<0 then ((k:Int)+(n:Int)).toNat else min (k:Int).toNat n)=min k n
 rw[if_neg (by omega),Int.toNat_natCast]
end
end HT
namespace L2
open PySem PySem.Spec PyProof.Rows
abbrev TO:=St->Hp->(Option Int->Hp->Prop)->Prop
structure PO(X:Cx)(e:Option Expr)(t:TO):Prop where
 run:∀(pins:PnL) (s:Shared) (σ : St) (H:Hp) (Q:Option Int->Hp->Prop),Inv X pins σ H s->t σ H Q->
  wpAny (model X.prog X.w) X.A (evalPart e X.env) (fun u s'=>∃o H',Inv X pins σ H' s'/\IsPart u o/\Q o H') X.xe s
instance {X:Cx}{e:Option Expr}{t:TO}:CoeFun (PO X e t) (fun _=>∀(pins:PnL) (s:Shared) (σ : St) (H:Hp) (Q:Option Int->Hp->Prop),Inv X pins σ H s->t σ H Q->
  wpAny (model X.prog X.w) X.A (evalPart e X.env) (fun u s'=>∃o H',Inv X pins σ H' s'/\IsPart u o/\Q o H') X.xe s):=⟨PO.run⟩
def zaH:TO:=fun _ H Q=>Q none H
def ze6(t:TE):TO:=fun σ H Q=>t σ H fun x H1=>∃i,x=.int i/\Q (some i) H1
section
variable {X:Cx}{e:Expr}{te:TE}{lo hi:Option Expr}{tl th:TO}{pos p2:Pos}
theorem ym:PO X none zaH:=by
 refine⟨?_⟩;intro pins s σ H Q I h;rw[evalPart_none];exact zwp ⟨none,H,I,.none,h⟩
theorem zT(h:PE X e te):PO X (some e) (ze6 te):=by
 refine⟨?_⟩;intro pins s σ H Q I hw;rw[evalPart_some];refine thn (h pins s σ H _ I hw) fun u s1 ⟨x,H1,I1,r1,q1⟩=>?_;obtain⟨i,rfl,q⟩:=q1;obtain⟨t,rfl⟩:=r1;exact⟨some i,H1,I1,.int i t,q⟩
def SlR(X:Cx)(r:V->Option Int->Option Int->Hp->VK->Prop):Prop:=
 ∀(pins:PnL) (s:Shared) (σ : St) (H:Hp) (x:V) (v vl vu:Value) (lo hi:Option Int) (sl:Addr) (Q:VK),Inv X pins σ H s->yj x v->s.heap.IsSliceOf sl vl vu .none->IsPart vl lo->IsPart vu hi->r x lo hi H Q->
  ∃T id,typeLookup (.type T) "__getitem__"=pure (some (.builtin id))/\s.TypeIs v T/\wpAny (model X.prog X.w) X.A (getItem v (.ref sl)) (EP X pins σ Q) X.xe s
def tSl(r:V->Option Int->Option Int->Hp->VK->Prop)(te:TE)(tl th:TO):TE:=fun σ H Q=>te σ H fun x H1=>tl σ H1 fun l H2=>th σ H2 fun u H3=>r x l u H3 Q
theorem zR{r:V->Option Int->Option Int->Hp->VK->Prop}(hr:SlR X r)(he:PE X e te)(hl:PO X lo tl)(hu:PO X hi th):PE X (.Subscript e (.Slice lo hi none p2) pos) (tSl r te tl th):=by
 refine⟨?_⟩;intro pins s σ H Q I h;refine Subscript_ (thn (he pins s σ H _ I h) fun v s1 ⟨x,H1,I1,r1,q1⟩=>?_);refine wpAny_Slice (thn (hl pins s1 σ H1 _ I1 q1) fun vl s2 ⟨l,H2,I2,pl,q2⟩=>thn (hu pins s2 σ H2 _ I2 q2) fun vu s3 ⟨u,H3,I3,pu,q3⟩=>?_);rw[evalPart_none];refine zwp ?_;have I4:Inv X pins σ H3 { s3 with heap:=s3.heap.push { cls:=.type "slice",data:=.fields #[vl,vu,.none] } }:=I3.kept (t':=s3.toks) fun b ob q=>zgp _ q
 obtain⟨T,id,hT,ht,hg⟩:=hr pins { s3 with heap:=s3.heap.push { cls:=.type "slice",data:=.fields #[vl,vu,.none] } } σ H3 x v vl vu l u s3.heap.objs.size Q I4 r1 (Heap.IsSliceOf.new ..) pl pu q3
 show wpAny (model X.prog X.w) X.A (subscriptTail e (.Slice lo hi none p2) v (.ref s3.heap.objs.size)) (EP X pins σ Q) X.xe { s3 with heap:=s3.heap.push { cls:=.type "slice",data:=.fields #[vl,vu,.none] } }
 exact tail_any (ops:=[.ref s3.heap.objs.size,v]) ht hT hg (by with_unfolding_all rfl)
def ji(xs:List V)(lo hi:Option Int):List V:=(xs.drop (HT.sIx xs.length 0 lo)).take (HT.sIx xs.length xs.length hi - HT.sIx xs.length 0 lo)
theorem zcd(xs:List V)(lo hi:Option Int):(ji xs lo hi).length<=xs.length:=by
 unfold ji;rw[length_take,length_drop];omega
def ixN(n:Nat)(i:Int):Option Nat:=if 0<=i then (if i<n then some i.toNat else none) else if -(n:Int)<=i then some (i+n).toNat else none
def atI{α : Type}(xs:List α)(i:Int):Option α:=(ixN xs.length i).bind fun j=>xs[j]?
theorem zid{n:Nat}{i:Int}{j:Nat}(h:ixN n i=some j):seqIndex? i n=some j/\j<n/\-(n:Int)<=i/\i<n:=by
 unfold ixN at h;by_cases h0 : 0<=i
 ·rw[if_pos h0] at h
  by_cases h1:i<n
  ·rw[if_pos h1] at h
   have e:i.toNat=j:=Option.some.inj h;exact⟨by rw[seqIndex_of h0 h1,e],by omega,by omega,h1⟩
  ·rw[if_neg h1] at h;cases h
 ·rw[if_neg h0] at h
  by_cases h1 : -(n:Int)<=i
  ·rw[if_pos h1] at h
   have e:(i+n).toNat=j:=Option.some.inj h;exact⟨by rw[seqIndex_neg (by omega) h1,e],by omega,h1,by omega⟩
  ·rw[if_neg h1] at h;cases h
theorem zbh{α : Type}{xs:List α}{i:Int}{v : α}(h:atI xs i=some v):∃j,seqIndex? i xs.length=some j/\xs[j]?=some v/\j<xs.length/\-(xs.length:Int)<=i/\i<xs.length:=by
 unfold atI at h;cases e:ixN xs.length i with
 | none=>rw[e] at h;cases h
 | some j=>
  rw[e] at h;obtain⟨h1,h2,h3,h4⟩:=zid e;exact⟨j,h1,h,h2,h3,h4⟩
theorem ue{α : Type}{xs:List α}{j:Nat}{v : α}(h:xs[j]?=some v):atI xs (j:Int)=some v:=by
 have hj:j<xs.length:=(List.getElem?_eq_some_iff.mp h).1;have e:ixN xs.length (j:Int)=some j:=by
  unfold ixN;rw[if_pos (by omega),if_pos (by omega)];simp
 unfold atI;rw[e];exact h
theorem zgZ{α : Type}(xs:List α)(v : α):atI (xs++[v]) (-1)=some v:=by
 have hl:(xs++[v]).length=xs.length+1:=by simp
 have e:ixN (xs++[v]).length (-1)=some xs.length:=by
  unfold ixN;rw[hl,if_neg (by decide),if_pos (by omega)]
  congr 1
  omega
 unfold atI;rw[e];show(xs++[v])[xs.length]?=some v;simp
def ziK(b:Expr):Prop:=∀o i,subscripted b false o i=operate [o,i] (getItem o i)
def IxR(X:Cx)(r:R2):Prop:=
 ∀(value slice:Expr) (pins:PnL) (s:Shared) (σ : St) (H:Hp) (x y:V) (v u:Value) (Q:VK),Inv X pins σ H s->yj x v->yj y u->r x y H Q->
  subscripted slice false v u=operate [v,u] (getItem v u)->wpAny (model X.prog X.w) X.A (subscriptTail value slice v u) (EP X pins σ Q) X.xe s
def MtR(X:Cx)(id:String)(r:V->List V->Hp->VK->Prop):Prop:=
 ∀(pins:PnL) (s:Shared) (σ : St) (H:Hp) (x:V) (xs:List V) (v:Value) (us:List Value) (Q:VK),Inv X pins σ H s->yj x v->zY xs us->r x xs H Q->
  wpAny (model X.prog X.w) X.A (call (.builtin id) (v::us)) (EP X pins σ Q) X.xe s
variable {a b:Expr}{ta tb:TE}
theorem zK{r:R2}(hr:IxR X r)(ha:PE X a ta)(hb:PE X b tb)(hs:ziK b):PE X (.Subscript a b pos) (tOp r ta tb):=by
 refine⟨?_⟩;intro pins s σ H Q I h;exact Subscript_ (zkT ha hb I h fun v u s2 x y H2 I2 rx ry q=>hr a b pins s2 σ H2 x y v u Q I2 rx ry q (hs _ _))
inductive znd(K:Frag)(x y:V)(H:Hp)(Q:VK):Prop where
 | mk (p:Addr) (xs:List V) (i:Int) (v:V) (e1:x=.ref p) (e2:y=.int i) (h:SqL K H p xs) (a:atI xs i=some v) (q:Q v H)
def zlv(K:Frag):R2:=fun x y H Q=>znd K x y H Q
inductive znc(K:Frag)(x y:V)(H:Hp)(Q:VK):Prop where
 | mk (p:Addr) (xs:List V) (i:Int) (v:V) (e1:x=.ref p) (e2:y=.int i) (h:SqT K H p xs) (a:atI xs i=some v) (q:Q v H)
def zke(K:Frag):R2:=fun x y H Q=>znc K x y H Q
def zmE:R2:=fun x y H Q=>∃z i c,x=.str z/\y=.int i/\z.length<=sizeLine/\atI z.cps.toList i=some c/\Q (.str ⟨#[c]⟩) H
theorem yn:IxR X (zlv X.K):=by
 intro value slice pins s σ H x y v u Q I rx ry h hs;obtain⟨p,xs,i,z,rfl,rfl,hq,he,q⟩:=h;cases rx;obtain⟨t,rfl⟩:=ry;obtain⟨its,r,pl,hz⟩:=I.list hq;obtain⟨j,h1,h2,h3,h4,h5⟩:=zbh he;obtain⟨w,ew,rw'⟩:=r.get h2;have hl:=r.length;have hn:=uD;have fin:EP X pins σ Q w s:=⟨z,H,I,rw',q⟩;by_cases h0 : 0<=i
 ·have hj:i.toNat=j:=by
   rw[seqIndex_of h0 h5] at h1;exact Option.some.inj h1
  exact item_listR pl.isList h0 (by omega) (by rw[hj];simpa using ew) fin hs
 ·have hj:(i+(its.toArray.size:Int)).toNat=j:=by
   rw[seqIndex_neg (by omega) h4] at h1
   rw[size_toArray,<- hl];exact Option.some.inj h1
  exact subscriptTail_builtinR (x:=w) pl.isList.typeIs slot_list_getitem.lookup
   (wpAny_getItem_list_neg (Q:=fun r s'=>r=w/\EP X pins σ Q r s') pl.isList (by omega) (by rw[size_toArray] <;> omega) (by omega) (by rw[hj];simpa using ew) ⟨rfl,fin⟩) hs
theorem ya:IxR X (zke X.K):=by
 intro value slice pins s σ H x y v u Q I rx ry h hs;obtain⟨p,xs,i,z,rfl,rfl,hq,he,q⟩:=h;cases rx;obtain⟨t,rfl⟩:=ry;obtain⟨its,r,pl,hz⟩:=I.tuple hq;obtain⟨j,h1,h2,h3,h4,h5⟩:=zbh he;obtain⟨w,ew,rw'⟩:=r.get h2;have hl:=r.length;have hn:=uD;have fin:EP X pins σ Q w s:=⟨z,H,I,rw',q⟩;exact subscriptTail_builtinR (x:=w) pl.typeIs slot_tuple_getitem.lookup
  (getItem_tuple (j:=j) (Q:=fun r s'=>r=w/\EP X pins σ Q r s') pl (by omega) (by omega) (by rw[size_toArray,<- hl];exact h1) (by simpa using ew) ⟨rfl,fin⟩) hs
theorem wt:IxR X zmE:=by
 intro value slice pins s σ H x y v u Q I rx ry h hs;obtain⟨z,i,c,rfl,rfl,hz,he,q⟩:=h;obtain⟨t,rfl⟩:=rx;obtain⟨t',rfl⟩:=ry;obtain⟨j,h1,h2,h3,h4,h5⟩:=zbh he;have hl:z.cps.toList.length=z.length:=by simp [Str.length]
 rw[hl] at h1 h4 h5;have hn:=uD;exact tail_any (typeIs_str s z t) slot_str_getitem.lookup (getItem_str (c:=c) (by
  have e1:decide (i < -(2 ^ 63:Int))=false:=decide_eq_false (by omega)
  have e2:decide (i>=2 ^ 63)=false:=decide_eq_false (by omega)
  rw[e1,e2,Bool.or_false]) (by rw[h1];simpa using h2) ⟨.str ⟨#[c]⟩,H,I.tok _,⟨_,rfl⟩,q⟩) hs
theorem zaO(lo hi:Option Int)(n:Nat):(sliceBounds lo hi none n).1=((HT.sIx n 0 lo:Nat):Int)/\(sliceBounds lo hi none n).2.1=((HT.sIx n n hi:Nat):Int)/\(sliceBounds lo hi none n).2.2=1:=by
 refine⟨?_,?_,rfl⟩
 ·cases lo with
  | none=>simp [sliceBounds,HT.sIx]
  | some i=>
   simp only[sliceBounds,HT.sIx,getD_none,show(1:Int)>0 by decide,if_true]
   by_cases h:i<0
   ·simp only[h,if_true] <;> omega
   ·simp only[h,if_false] <;> omega
 ·cases hi with
  | none=>simp [sliceBounds,HT.sIx]
  | some i=>
   simp only[sliceBounds,HT.sIx,getD_none,show(1:Int)>0 by decide,if_true]
   by_cases h:i<0
   ·simp only[h,if_true] <;> omega
   ·simp only[h,if_false] <;> omega
theorem qP(its:List Value)(lo hi:Option Int):slicePick its.toArray lo hi none=((its.drop (HT.sIx its.length 0 lo)).take (HT.sIx its.length its.length hi - HT.sIx its.length 0 lo)).toArray:=by
 obtain⟨h1,h2,h3⟩:=zaO lo hi its.toArray.size;unfold slicePick;rw[h1,h2,h3];simp only[sliceRange_one,pick_run,size_toArray] <;> rfl
def zmA(K:Frag):V->Option Int->Option Int->Hp->VK->Prop:=fun x lo hi H Q=>∃a xs,x=.ref a/\SqL K H a xs/\∀p,H p=none->Q (.ref p) (upd H p (.lst (ji xs lo hi)))
theorem vQ:SlR X (zmA X.K):=by
 intro pins s σ H x v vl vu lo hi sl Q I rx hs pl pu h;obtain⟨a,xs,rfl,hx,q⟩:=h;cases rx;obtain⟨its,r,ht,hz⟩:=I.list hx;have hlen:=r.length;refine⟨"list",_,slot_list_getitem.lookup,ht.isList.typeIs,?_⟩;refine wpAny_getItem_list_slice ht.isList hs pl pu .none (by simp) ?_ (by rw[size_toArray] <;> omega)
 rw[qP,<- hlen];refine⟨.ref s.heap.objs.size,_,I.laid (t':=s.toks) (o:=.lst (ji xs lo hi)) (fun b ob q=>zgp _ q) (le_refl _) ?_,rfl,q _ (I.hok.fresh (le_refl _))⟩;exact⟨le_trans (zcd xs lo hi) hz,_,0,(r.drop (HT.sIx xs.length 0 lo)).take (HT.sIx xs.length xs.length hi - HT.sIx xs.length 0 lo),zgs _ rfl⟩
def vK:V->Bool
 | .non=>true
 | .bl _=>true
 | .int _=>true
 | .str _=>true
 | _=>false
def eqV:V->V->Bool
 | .non,.non=>true
 | .bl a,.bl b=>a==b
 | .bl a,.int b=>(if a then 1 else 0)==b
 | .int a,.bl b=>a==(if b then 1 else 0)
 | .int a,.int b=>a==b
 | .str a,.str b=>a==b
 | _,_=>false
theorem zgK{A:Around}{s:Shared}{y x:V}{u v:Value}(ry:yj y u)(rx:yj x v)(fy:vK y=true)(fx:vK x=true):SeqAt.EqAt A s u v (eqV y x):=by
 cases y with
 | non=>
  cases ry;cases x with
  | non=>cases rx;exact SeqAt.EqAt.same _
  | bl b=>cases rx;exact SeqAt.EqAt.none_bool b
  | int b=>obtain⟨t,rfl⟩:=rx;exact SeqAt.EqAt.none_int b t
  | str b=>obtain⟨t,rfl⟩:=rx;exact SeqAt.EqAt.none_str b t
  | _=>exact absurd (show false=true from fx) zft
 | bl a=>
  cases ry;cases x with
  | non=>cases rx;exact SeqAt.EqAt.bool_none a
  | bl b=>cases rx;exact SeqAt.EqAt.bool_bool a b
  | int b=>obtain⟨t,rfl⟩:=rx;exact SeqAt.EqAt.bool_int a b t
  | str b=>obtain⟨t,rfl⟩:=rx;exact SeqAt.EqAt.bool_str a b t
  | _=>exact absurd (show false=true from fx) zft
 | int a=>
  obtain⟨t',rfl⟩:=ry;cases x with
  | non=>cases rx;exact SeqAt.EqAt.int_none a t'
  | bl b=>cases rx;exact SeqAt.EqAt.int_bool a t' b
  | int b=>obtain⟨t,rfl⟩:=rx;exact SeqAt.EqAt.int_int a t' b t
  | str b=>obtain⟨t,rfl⟩:=rx;exact SeqAt.EqAt.int_str a t' b t
  | _=>exact absurd (show false=true from fx) zft
 | str a=>
  obtain⟨t',rfl⟩:=ry;cases x with
  | non=>cases rx;exact SeqAt.EqAt.str_none a t'
  | bl b=>cases rx;exact SeqAt.EqAt.str_bool a t' b
  | int b=>obtain⟨t,rfl⟩:=rx;exact SeqAt.EqAt.str_int a t' b t
  | str b=>obtain⟨t,rfl⟩:=rx;exact SeqAt.EqAt.str_str a t' b t
  | _=>exact absurd (show false=true from fx) zft
 | _=>exact absurd (show false=true from fy) zft
def eqU(x:V)(u:Value):Bool:=match u with
 | .none=>eqV .non x
 | .bool b=>eqV (.bl b) x
 | .int i _=>eqV (.int i) x
 | .str z _=>eqV (.str z) x
 | _=>false
theorem zc9{x y:V}{u:Value}(r:yj y u)(f:vK y=true):eqU x u=eqV y x:=by
 cases y with
 | non=>cases r;rfl
 | bl b=>cases r;rfl
 | int i=>obtain⟨t,rfl⟩:=r;rfl
 | str z=>obtain⟨t,rfl⟩:=r;rfl
 | _=>exact absurd (show false=true from f) zft
theorem uZ{x:V}:∀{xs:List V}{us:List Value},zY xs us->xs.all vK=true->us.any (eqU x)=xs.any fun y=>eqV y x
 | _,_,.nil,_=>rfl
 | y::xs,u::us,.cons r t,f=>by
  rw[all_cons,Bool.and_eq_true] at f;rw[any_cons,any_cons,zc9 r f.1,uZ t f.2]
theorem vF{A:Around}{s:Shared}{x:V}{v:Value}(rx:yj x v)(fx:vK x=true):∀{xs:List V}{us:List Value},zY xs us->xs.all vK=true->∀u∈us,SeqAt.EqAt A s u v (eqU x u)
 | _,_,.nil,_=>fun u hu=>by cases hu
 | y::xs,u::us,.cons r t,f=>fun u' hu=>by
  rw[all_cons,Bool.and_eq_true] at f;rcases List.mem_cons.mp hu with rfl|hu
  ·rw[zc9 r f.1];exact zgK r rx f.1 fx
  ·exact vF rx fx t f.2 u' hu
def inV(x:V)(xs:List V):Bool:=xs.any fun y=>eqV y x
def rIn(K:Frag)(neg:Bool):R2:=fun x y H Q=>∃p xs,y=.ref p/\(SqL K H p xs\/SqT K H p xs)/\vK x=true/\xs.all vK=true/\Q (.bl (if neg then !inV x xs else inV x xs)) H
theorem yF:OpR X (compareOp .In) (rIn X.K false):=by
 intro pins s σ H x y v u Q I rx ry h;obtain⟨p,xs,rfl,hq,fx,fs,q⟩:=h;cases ry;rcases hq with hq|hq
 ·obtain⟨its,r,pl,hz⟩:=I.list hq
  refine SeqAt.in_listAt (eqU x) pl.isList (fun w hw=>vF rx fx r fs w (by simpa using hw)) ⟨.bl _,H,I,rfl,?_⟩
  rw[show its.toArray.any (eqU x)=its.any (eqU x) by simp,uZ r fs]
  exact q
 ·obtain⟨its,r,pl,hz⟩:=I.tuple hq
  refine SeqAt.in_tupleAt (eqU x) pl (fun w hw=>vF rx fx r fs w (by simpa using hw)) ⟨.bl _,H,I,rfl,?_⟩
  rw[show its.toArray.any (eqU x)=its.any (eqU x) by simp,uZ r fs]
  exact q
theorem xl:OpR X (compareOp .NotIn) (rIn X.K true):=by
 intro pins s σ H x y v u Q I rx ry h;obtain⟨p,xs,rfl,hq,fx,fs,q⟩:=h;cases ry;rcases hq with hq|hq
 ·obtain⟨its,r,pl,hz⟩:=I.list hq
  refine SeqAt.notIn_listAt (eqU x) pl.isList (fun w hw=>vF rx fx r fs w (by simpa using hw)) ⟨.bl _,H,I,rfl,?_⟩
  rw[show its.toArray.any (eqU x)=its.any (eqU x) by simp,uZ r fs]
  exact q
 ·obtain⟨its,r,pl,hz⟩:=I.tuple hq
  refine SeqAt.notIn_tupleAt (eqU x) pl (fun w hw=>vF rx fx r fs w (by simpa using hw)) ⟨.bl _,H,I,rfl,?_⟩
  rw[show its.toArray.any (eqU x)=its.any (eqU x) by simp,uZ r fs]
  exact q
theorem uO:OpR X (compareOp .NotIn) (fun x y H Q=>∃i j,x=.str i/\y=.str j/\Q (.bl (!(!(Builtin.Str.occurrences j i 0 j.length 1).isEmpty))) H):=by
 intro pins s σ H x y v u Q I rx ry h;obtain⟨i,j,rfl,rfl,q⟩:=h;obtain⟨t,rfl⟩:=rx;obtain⟨t',rfl⟩:=ry;exact notIn_str ⟨.bl _,H,I,rfl,q⟩
theorem zO:xp X (.builtin "len") (fun xs H Q=>∃p ys,xs=[.ref p]/\(SqL X.K H p ys\/SqT X.K H p ys)/\Q (.int ys.length) H):=by
 intro pins s σ H xs us Q I r h;obtain⟨p,ys,rfl,hq,q⟩:=h;obtain⟨u,rfl,rx⟩:=wP r;cases rx;have hn:=uD;rcases hq with hq|hq
 ·obtain⟨its,r',pl,hz⟩:=I.list hq
  have hlen:=r'.length;exact Calls.call_len_list pl.isList (by simp only[size_toArray] <;> omega) ⟨.int ys.length,H,I.tok _,⟨s.toks+1,by rw[size_toArray,hlen]⟩,q⟩
 ·obtain⟨its,r',pl,hz⟩:=I.tuple hq
  have hlen:=r'.length;exact len_tuple pl (by simp only[size_toArray] <;> omega) ⟨.int ys.length,H,I.tok _,⟨s.toks+1,by rw[size_toArray,hlen]⟩,q⟩
theorem yg:xp X (.builtin "len") (fun xs H Q=>∃z,xs=[.str z]/\z.length<=sizeLine/\Q (.int z.length) H):=by
 intro pins s σ H xs us Q I r h;obtain⟨z,rfl,hz,q⟩:=h;obtain⟨u,rfl,t,rfl⟩:=wP r;have hn:=uD;exact len_str (by omega) ⟨.int z.length,H,I.tok _,⟨_,rfl⟩,q⟩
theorem wb:xp X (.type "list") (fun xs H Q=>∃p ys,xs=[.ref p]/\(SqL X.K H p ys\/SqT X.K H p ys)/\∀l,H l=none->Q (.ref l) (upd H l (.lst ys))):=by
 intro pins s σ H xs us Q I r h;obtain⟨p,ys,rfl,hq,q⟩:=h;obtain⟨u,rfl,rx⟩:=wP r;cases rx;have fin:∀(its:List Value),zY ys its->ys.length<=sizeLine->∀(h':Heap) (c':Nat),(∀b o',s.heap.get? b=some o'->h'.get? b=some o')->
   h'.get? s.heap.objs.size=some { cls:=.type "list",dict:=none,data:=.seq its.toArray c',slots:=#[] }->EP X pins σ Q (.ref s.heap.objs.size) { s with heap:=h' }:=fun its r' hz h' c' kp e=>
  ⟨.ref s.heap.objs.size,_,I.laid (t':=s.toks) kp (le_refl _) (show yB X.prog X.w _ h' _ (.lst ys) from ⟨hz,its,c',r',e⟩),rfl,q _ (I.hok.fresh (le_refl _))⟩
 rcases hq with hq|hq
 ·obtain⟨its,r',pl,hz⟩:=I.list hq
  have hlen:=r'.length;obtain⟨o,ho,hc,n,hd⟩:=pl.isList;exact call_list_seq p (.inl rfl) ho hc hd (fun h' c' kp e=>fin its r' hz h' c' kp e) (by simp only[size_toArray] <;> omega)
 ·obtain⟨its,r',pl,hz⟩:=I.tuple hq
  have hlen:=r'.length;obtain⟨o,ho,hc,n,hd⟩:=pl;exact call_list_seq p (.inr rfl) ho hc hd (fun h' c' kp e=>fin its r' hz h' c' kp e) (by simp only[size_toArray] <;> omega)
def tyV(K:Frag)(T:String)(x:V)(H:Hp):Prop:=match x with
 | .str _=>T="str"
 | .int _=>T="int"
 | .ref p=>(T="list"/\∃xs,SqL K H p xs)\/(T="tuple"/\∃o,K.lookup p=some o/\o.cls=.type "tuple"/\o.dict=none)\/
   (T="dict"/\((∃kvs,H p=some (.dK kvs))\/∃kvs,H p=some (.dT kvs)))\/(T="set"/\∃S n,H p=some (.set S n))
 | _=>False
theorem zjq{pins:PnL}{σ : St}{H:Hp}{s:Shared}{T:String}{x:V}{v:Value}(I:Inv X pins σ H s)(r:yj x v)(ty:tyV X.K T x H):
  s.TypeIs v T/\∀a,v=.ref a->∃ob,s.heap.get? a=some ob/\ob.dict=none:=by
 cases x with
 | str z=>
  obtain⟨t,rfl⟩:=r;cases (show T="str" from ty);exact⟨typeIs_str s z t,fun _ e=>nomatch e⟩
 | int i=>
  obtain⟨t,rfl⟩:=r;cases (show T="int" from ty);exact⟨typeIs_int s i t,fun _ e=>nomatch e⟩
 | ref p=>
  cases r;rcases ty with ⟨rfl,xs,hq⟩|⟨rfl,o,hk,hc,hd⟩|⟨rfl,hk⟩|⟨rfl,S,n,hk⟩
  ·obtain⟨its,_,pl,_⟩:=I.list hq
   refine⟨pl.isList.typeIs,fun a e=>?_⟩;cases e;obtain⟨o,n,e,c,hd,_⟩:=pl;exact⟨o,e,hd⟩
  ·refine⟨⟨o,I.kIn p o hk,hc⟩,fun a e=>?_⟩
   cases e;exact⟨o,I.kIn _ o hk,hd⟩
  ·have z:∃o,s.heap.get? p=some o/\o.ExactDict:=by
    rcases hk with ⟨kvs,hk⟩|⟨kvs,hk⟩
    ·obtain⟨_,_,_,_,o,_,_,e,ex,_⟩:=I.hok p _ hk
     exact⟨o,e,ex⟩
    ·obtain⟨_,_,_,_,o,_,_,e,ex,_⟩:=I.hok p _ hk
     exact⟨o,e,ex⟩
   obtain⟨o,e,ex⟩:=z;refine⟨⟨o,e,ex.1⟩,fun a e2=>?_⟩;cases e2;exact⟨o,e,ex.2.1⟩
  ·obtain⟨o,_,_,_,e,ex,_⟩:=I.hok p _ hk
   refine⟨⟨o,e,ex.1⟩,fun a e2=>?_⟩;cases e2;exact⟨o,e,ex.2.1⟩
 | _=>exact False.elim ty
def tBM(K:Frag)(T:String)(r:V->List V->Hp->VK->Prop)(to:TE)(t:TA):TE:=fun σ H Q=>to σ H fun x H1=>tyV K T x H1/\t σ H1 fun xs H2=>r x xs H2 Q
variable {o:Expr}{es:List Expr}{to:TE}{t:TA}{name:Str}{apos cpos:Pos}{T id:String}{r:V->List V->Hp->VK->Prop}
theorem z7(pa:PlainAttrs T)(slot:Slot T name id)(hty:typeOf (.builtin id)=pure (.type "method_descriptor"))(hm:MtR X id r)(ho:PE X o to)(ha:PA X (e::es) t)
  (hbase:attributeBase o name X.env (eval o X.env)=eval o X.env:=by rfl)
  (hfew:((backTo cpos (starEach (e::es) X.env)).all (fun x=>!x.1)&&(backToKw cpos (keywordEach [] X.env)).all (fun x=>x.1.isSome)
   && decide ((e::es).length+([]:List Keyword).length+(if ([]:List Keyword).isEmpty then 0 else 1)<30))=true:=by rfl)
  (hline:(apos.endLine==cpos.line)=true:=by rfl) (hs:starEach (e::es) X.env=(false,eval e X.env)::starEach es X.env:=by rfl) (hplain:(backTo cpos (starEach es X.env)).any (·.1)=false:=by rfl) :
  PE X (.Call (.Attribute o name apos) (e::es) [] cpos) (tBM X.K T r to t):=by
 refine⟨?_⟩;intro pins s σ H Q I h;refine wpAny_Call_method_late hbase hfew hline rfl (thn (ho pins s σ H _ I h) fun v s1 ⟨x,H1,I1,r1,ty,q1⟩=>?_);obtain⟨h1,h2⟩:=zjq I1 r1 ty;refine⟨T,id,pa,slot,hty,h1,h2,?_⟩;have hA:=ha cpos pins s1 σ H1 _ I1 q1;rw[hs] at hA |-;refine Calls.callWith_builtin (by show(false||(backTo cpos (starEach es X.env)).any (·.1))=false;rw[hplain] <;> rfl) (Calls.evalArgs_plain ?_)
 exact thn hA fun us s2 ⟨vs,H2,I2,r2,q2⟩=>hm pins s2 σ H2 x vs v us Q I2 r1 r2 q2
def MtM(X:Cx)(id:String)(r:V->List V->Hp->VK->Prop):Prop:=
 ∀(pins:PnL) (s:Shared) (σ : St) (H:Hp) (x:V) (xs:List V) (v:Value) (us:List Value) (Q:VK),Inv X pins σ H s->yj x v->zY xs us->r x xs H Q->
  wpAny (model X.prog X.w) X.A (call (.builtin id) (v::us)) (EP X pins σ Q) X.xe s
theorem zY.one:∀{x:V}{us:List Value},zY [x] us->∃u,us=[u]/\yj x u
 | _,_,.cons r .nil=>⟨_,rfl,r⟩
theorem zY.rep{xs:List V}{us:List Value}(h:zY xs us):∀k:Nat,zY (List.replicate k xs).flatten (List.replicate k us).flatten
 | 0=>.nil
 | k+1=>by
  rw[replicate_succ,replicate_succ,flatten_cons,flatten_cons];exact zY.append h (zY.rep h k)
theorem zao(its:List Value):∀(k:Nat) (acc:List Value),
  List.foldl (fun x1 x2=>x1++x2) acc.toArray (List.replicate k its.toArray)=(acc++(List.replicate k its).flatten).toArray
 | 0,acc=>by simp
 | k+1,acc=>by
  have e:acc.toArray++its.toArray=(acc++its).toArray:=by simp
  have e2:(acc++its)++(List.replicate k its).flatten=acc++(List.replicate (k+1) its).flatten:=by
   rw[replicate_succ,flatten_cons,append_assoc]
  rw[<- e2,<- zao its k (acc++its),<- e,replicate_succ,List.foldl_cons]
end
section
variable {X:Cx}{pins:PnL}{σ:St}{H:Hp}{s:Shared}{l b:Addr}{xs ys zs:List V}
theorem Inv.lset{its its':List Value}{n:Nat}{f:Array Value->Array Value}{t':Nat}(I:Inv X pins σ H s)(hH:H l=some (.lst xs))
  (e:s.heap.get? l=some { cls:=.type "list",data:=.seq its.toArray n }) (hf:f its.toArray=its'.toArray) (hv:zY ys its') (hz:ys.length<=sizeLine) :
  Inv X pins σ (upd H l (.lst ys)) { s with heap:=s.heap.update l (Obj.mapSeq f),toks:=t' }:=by
 have q:=PySem.IsL.update e f;rw[hf] at q;refine I.write (x:=l) (e:=l) (by rw[hH];exact trivial) (.inl rfl) (fun b' u hb hu=>(Heap.get?_update_other s.heap (Obj.mapSeq f) (Ne.symm hb)).trans hu) ⟨_,q⟩ ?_
 exact⟨hz,its',_,hv,q⟩
theorem Inv.lnew{its:List Value}{t':Nat}(I:Inv X pins σ H s)(hv:zY ys its)(hz:ys.length<=sizeLine):
  Inv X pins σ (upd H s.heap.objs.size (.lst ys)) { s with heap:=s.heap.push { cls:=.type "list",data:=.seq its.toArray },toks:=t' }:=
 I.laid (fun _ _ q=>zgp _ q) (le_refl _) ⟨hz,its,0,hv,zgs _ rfl⟩
theorem Inv.fresh(I:Inv X pins σ H s):H s.heap.objs.size=none:=I.hok.fresh (le_refl _)
theorem Inv.lstM(I:Inv X pins σ H s)(hH:H l=some (.lst xs)):xs.length<=sizeLine/\∃(its:List Value) (n:Nat),zY xs its/\xs.length=its.length/\s.heap.get? l=some { cls:=.type "list",data:=.seq its.toArray n }:=by
 obtain⟨z,its,n,r,e⟩:=I.hok l _ hH;exact⟨z,its,n,r,r.length,e⟩
theorem zbQ{n:Nat}(h:n<=sizeLine):Builtin.List.listTooLong n=false:=by
 unfold Builtin.List.listTooLong;exact decide_eq_false (by omega)
def zhB:V->List V->Hp->VK->Prop:=fun x vs H Q=>∃l xs y,x=.ref l/\vs=[y]/\H l=some (.lst xs)/\xs.length<sizeLine/\Q .non (upd H l (.lst (xs++[y])))
theorem z9:MtM X "list.append" zhB:=by
 intro pins s σ H x vs v us Q I rx rv h;obtain⟨l,xs,y,rfl,rfl,hH,hz,q⟩:=h;cases rx;obtain⟨u,rfl,ru⟩:=rv.one;obtain⟨z,its,n,r,hl,e⟩:=I.lstM hH;refine call_meets F.slot_list_append ⟨_,e,rfl⟩ F.entry_list_append (F.args_list_append_2 _ _) (PySem.list_append l its.toArray n u (by rw[size_toArray];omega)) ⟨e,?_⟩
 refine⟨.non,_,I.lset (its':=its++[u]) hH e (by simp) (r.append (.cons ru .nil)) ?_,rfl,q⟩
 rw[length_append,List.length_singleton];omega
def zhA:V->List V->Hp->VK->Prop:=fun x vs H Q=>∃l b xs zs,x=.ref l/\vs=[.ref b]/\H l=some (.lst xs)/\H b=some (.lst zs)/\xs.length+zs.length<=sizeLine/\Q .non (upd H l (.lst (xs++zs)))
theorem zaf:MtM X "list.extend" zhA:=by
 intro pins s σ H x vs v us Q I rx rv h;obtain⟨l,b,xs,zs,rfl,rfl,hH,hB,hz,q⟩:=h;cases rx;obtain⟨u,rfl,ru⟩:=rv.one;cases ru;obtain⟨z,its,n,r,hl,e⟩:=I.lstM hH;obtain⟨z2,its2,n2,r2,hl2,e2⟩:=I.lstM hB;have hsz:its.toArray.size+its2.toArray.size<=sizeLine:=by rw[size_toArray,size_toArray];omega
 have hlong:¬(!its.toArray.isEmpty&&Builtin.List.listTooLong (its.toArray.size+its2.toArray.size))=true:=by
  rw[zbQ hsz,Bool.and_false];exact zft
 refine call_meets F.slot_list_extend ⟨_,e,rfl⟩ F.entry_list_extend (F.args_list_extend_2 _ _)
  (AutoSeq1.list_extend_list_list_0 l its.toArray n b its2.toArray n2 hlong (by rw[size_toArray];omega) (by omega)) ⟨e,e2,?_⟩
 refine⟨.non,_,I.lset (its':=its++its2) hH e (by simp) (r.append r2) ?_,rfl,q⟩
 rw[length_append];omega
def zmG:R2:=fun x y H Q=>∃l b xs zs,x=.ref l/\y=.ref b/\H l=some (.lst xs)/\H b=some (.lst zs)/\xs.length+zs.length<=sizeLine/\∀p,H p=none->Q (.ref p) (upd H p (.lst (xs++zs)))
theorem wp:OpR X (binaryOp .Add) zmG:=by
 intro pins s σ H x y v u Q I rx ry h;obtain⟨l,b,xs,zs,rfl,rfl,hH,hB,hz,q⟩:=h;cases rx;cases ry;obtain⟨z,its,n,r,hl,e⟩:=I.lstM hH;obtain⟨z2,its2,n2,r2,hl2,e2⟩:=I.lstM hB;refine PySem.P.add_list e e2 ?_ (by rw[size_toArray,size_toArray];omega)
 have ea:its.toArray++its2.toArray=(its++its2).toArray:=by simp
 rw[ea];exact⟨.ref _,_,I.lnew (t':=s.toks) (r.append r2) (by rw[length_append];omega),rfl,q _ I.fresh⟩
def zlt:R2:=fun x y H Q=>∃l k xs,x=.ref l/\y=.int k/\H l=some (.lst xs)/\-(2 ^ 63)<=k/\k<2 ^ 63/\xs.length * k.toNat<=sizeLine/\
 ∀p,H p=none->Q (.ref p) (upd H p (.lst (List.replicate k.toNat xs).flatten))
theorem zh7{α : Type}(xs:List α)(k:Nat):(List.replicate k xs).flatten.length=k * xs.length:=by
 induction k with
 | zero=>simp
 | succ k ih=>rw[replicate_succ,flatten_cons,length_append,ih,succ_mul,Nat.add_comm]
theorem wo:OpR X (binaryOp .Mult) zlt:=by
 intro pins s σ H x y v u Q I rx ry h;obtain⟨l,k,xs,rfl,rfl,hH,h1,h2,hz,q⟩:=h;cases rx;obtain⟨t,rfl⟩:=ry;obtain⟨z,its,n,r,hl,e⟩:=I.lstM hH;have hlen:its.toArray.size * k.toNat<=sizeLine:=by rw[size_toArray,<- hl];exact hz
 have hcap:¬its.toArray.size * k.toNat>(2 ^ 63 - 1) / 8:=by
  have:(sizeLine:Nat)<=(2 ^ 63 - 1) / 8:=by decide
  omega
 have hfit:¬(!Builtin.List.listFitsIndex k)=true:=by
  rw[fitsIndex_both h1 h2];exact zft
 have hlong:¬Builtin.List.listTooLong (its.toArray.size * k.toNat)=true:=by
  rw[zbQ hlen];exact zft
 have hnew:List.foldl (fun x1 x2=>x1++x2) #[] (List.replicate (if its.toArray.isEmpty=true then 0 else k.toNat) its.toArray)=(List.replicate k.toNat its).flatten.toArray:=by
  have f0:∀m:Nat,List.foldl (fun x1 x2=>x1++x2) #[] (List.replicate m its.toArray)=(List.replicate m its).flatten.toArray:=fun m=>by
   have:=zao its m []
   rw[nil_append] at this;exact this
  rw[f0];cases its with
  | nil=>simp
  | cons a r'=>rw[if_neg (by simp)]
 refine wpAny_binaryOp_repeat_ref (T:="list") (U:="int") (by decide) ⟨_,e,rfl⟩ (fun s'=>typeIs_int s' k t) noFill_list_mul F.fills_int_mul F.slot_int_rmul repeat_list F.slot_int_index.lookup
  (call_meets F.slot_int_rmul (typeIs_int s k t) F.entry_int_rmul (F.args_int_rmul_2 _ _) (int___rmul___int_list k t l its.toArray n)
   ⟨e,rfl,⟨_,e,rfl⟩,call_meets F.slot_list_mul ⟨_,e,rfl⟩ F.entry_list_mul (F.args_list_mul_2 _ _) (AutoListH.list___mul___list_int_3 l its.toArray n k t hfit hcap hlong) ⟨e,?_⟩⟩)
 rw[hnew];exact⟨.ref _,_,I.lnew (t':=s.toks) (r.rep k.toNat) (by rw[zh7,Nat.mul_comm];exact hz),rfl,q _ I.fresh⟩
variable {prog:Program}{w:World}{A:Around}{E:VSP}
end
section
variable {κ : Type}[DecidableEq κ]
def jz(kvs:List (κ×V))(k : κ):Option V:=(kvs.find? fun kv=>decide (kv.1=k)).map (·.2)
def xH(kvs:List (κ×V))(k : κ)(v:V):List (κ×V):=
 if (kvs.any fun kv=>decide (kv.1=k))=true then kvs.map (fun kv=>if kv.1=k then (kv.1,v) else kv) else kvs++[(k,v)]
theorem jW{p : κ×V}{r:List (κ×V)}{k : κ}(e:p.1=k):jz (p::r) k=some p.2:=by simp [jz,find?_cons,e]
theorem jX{p : κ×V}{r:List (κ×V)}{k : κ}(e:¬p.1=k):jz (p::r) k=jz r k:=by simp [jz,find?_cons,e]
theorem zbo(k : κ):∀kvs:List (κ×V),(kvs.any fun kv=>decide (kv.1=k))=(jz kvs k).isSome
 | []=>rfl
 | p::r=>by
  rw[any_cons];by_cases e:p.1=k
  ·simp only[jW e,decide_eq_true e,Bool.true_or,Option.isSome_some]
  ·rw[jX e,decide_eq_false e,Bool.false_or];exact zbo k r
theorem xT(kvs:List (κ×V))(k : κ)(v:V):(xH kvs k v).length<=kvs.length+1:=by
 unfold xH;split
 ·rw[length_map];omega
 ·rw[length_append,length_cons,length_nil];omega
theorem jk.isSome_eq{o:Option V}{u:Option Value}(r:jk o u):o.isSome=u.isSome:=by
 cases o with
 | none=>cases u with
  | none=>rfl
  | some _=>exact(show False from r).elim
 | some _=>cases u with
  | none=>exact(show False from r).elim
  | some _=>rfl
theorem KV.val{kvs:List (κ×V)}{vs:List (κ×Value)}(r:KV kvs vs)(k : κ):jk (jz kvs k) (valueAt vs k):=by
 unfold KV at r;induction r with
 | nil=>exact True.intro
 | @cons p q ps qs h t ih=>
  obtain⟨h1,h2⟩:=h;by_cases e:p.1=k
  ·have e':q.1=k:=h1.symm.trans e
   have b:valueAt (q::qs) k=some q.2:=by simp [valueAt,find?_cons,e']
   rw[jW e,b];exact h2
  ·have e':¬q.1=k:=fun z=>e (h1.trans z)
   have b:valueAt (q::qs) k=valueAt qs k:=by simp [valueAt,find?_cons,e']
   rw[jX e,b];exact ih
theorem KV.any{kvs:List (κ×V)}{vs:List (κ×Value)}(r:KV kvs vs)(k : κ):(kvs.any fun kv=>decide (kv.1=k))=vs.any fun kv=>decide (kv.1=k):=by
 unfold KV at r;induction r with
 | nil=>rfl
 | cons h t ih=>rw[any_cons,any_cons,ih,h.1]
theorem KV.repl{kvs:List (κ×V)}{vs:List (κ×Value)}(r:KV kvs vs)(k : κ){y:V}{u:Value}(ry:yj y u):
  KV (kvs.map fun kv=>if kv.1=k then (kv.1,y) else kv) (vs.map fun kv=>if kv.1=k then (kv.1,u) else kv):=by
 unfold KV at r |-;induction r with
 | nil=>exact .nil
 | @cons p q ps qs h t ih=>
  rw[map_cons,map_cons];refine .cons ?_ ih;obtain⟨h1,h2⟩:=h;by_cases e:p.1=k
  ·rw[if_pos e,if_pos (h1.symm.trans e)];exact⟨h1,ry⟩
  ·rw[if_neg e,if_neg (fun z=>e (h1.trans z))];exact⟨h1,h2⟩
theorem KV.put{kvs:List (κ×V)}{vs:List (κ×Value)}(r:KV kvs vs)(k : κ){y:V}{u:Value}(ry:yj y u):KV (xH kvs k y) (stored vs k u):=by
 unfold xH stored;rw[r.any k];by_cases e:(vs.any fun kv=>decide (kv.1=k))=true
 ·rw[if_pos e,if_pos e];exact r.repl k ry
 ·rw[if_neg e,if_neg e];exact Paired.snoc r ⟨rfl,ry⟩
theorem KV.length{kvs:List (κ×V)}{vs:List (κ×Value)}(r:KV kvs vs):kvs.length=vs.length:=Paired.length r
end
theorem zb0{P:Program}{w:World}{k:Key}{u:Value}(r:yj (kV k) u):(yG P w).is k u=true:=by
 cases k with
 | inl i=>obtain⟨t,e⟩:=(show ∃t,u=Value.int i t from r);subst e;exact zbT P w i t
 | inr x=>obtain⟨t,e⟩:=(show ∃t,u=Value.str x t from r);subst e;exact zbS P w x t
theorem zaj{P:Program}{w:World}:∀{ks:List Key}{us:List Value},zY (ks.map kV) us->ItemsAre (yG P w) ks us
 | [],_,r=>by rw[map_nil] at r;cases r;exact .nil
 | k::ks,_,r=>by
  rw[map_cons] at r;cases r with
  | cons h t=>exact .cons (zb0 h) (zaj t)
abbrev KT(H:Hp):List (List Key×V)->List (List Key×Addr×Value)->Prop:=Paired fun p q=>p.1=q.1/\H q.2.1=some (.tup (p.1.map kV))/\yj p.2 q.2.2
theorem KT.val{H:Hp}{kvs:List (List Key×V)}{xs:List (List Key×Addr×Value)}(r:KT H kvs xs)(k:List Key):jk (jz kvs k) ((atKey xs k).map (·.2)):=by
 induction r with
 | nil=>exact True.intro
 | @cons p q ps qs h t ih=>
  obtain⟨h1,_,h2⟩:=h;by_cases e:p.1=k
  ·have e':q.1=k:=h1.symm.trans e
   have b:atKey (q::qs) k=some q.2:=by simp [atKey,find?_cons,e']
   rw[jW e,b];exact h2
  ·have e':¬q.1=k:=fun z=>e (h1.trans z)
   have b:atKey (q::qs) k=atKey qs k:=by simp [atKey,find?_cons,e']
   rw[jX e,b];exact ih
theorem KT.repl{H:Hp}{kvs:List (List Key×V)}{xs:List (List Key×Addr×Value)}(r:KT H kvs xs)(k:List Key){y:V}{u:Value}(ry:yj y u):
  KT H (kvs.map fun kv=>if kv.1=k then (kv.1,y) else kv) (xs.map (putAt k u)):=by
 induction r with
 | nil=>exact .nil
 | @cons p q ps qs h t ih=>
  rw[map_cons,map_cons];refine .cons ?_ ih;obtain⟨h1,h2,h3⟩:=h;unfold putAt;by_cases e:p.1=k
  ·rw[if_pos e,if_pos (h1.symm.trans e)];exact⟨h1,h2,ry⟩
  ·rw[if_neg e,if_neg (fun z=>e (h1.trans z))];exact⟨h1,h2,h3⟩
theorem KT.put{H:Hp}{kvs:List (List Key×V)}{xs:List (List Key×Addr×Value)}(r:KT H kvs xs)(k:List Key){b:Addr}{y:V}{u:Value}(hb:H b=some (.tup (k.map kV)))(ry:yj y u):
  KT H (xH kvs k y) (storedH xs k b u):=by
 have e:(kvs.any fun kv=>decide (kv.1=k))=(atKey xs k).isSome:=by
  rw[zbo,(r.val k).isSome_eq,Option.isSome_map]
 unfold xH storedH;rw[e];by_cases q:(atKey xs k).isSome=true
 ·rw[if_pos q,if_pos q];exact r.repl k ry
 ·rw[if_neg q,if_neg q];exact Paired.snoc r ⟨rfl,hb,ry⟩
theorem KT.keeps{H H':Hp}{kvs:List (List Key×V)}{xs:List (List Key×Addr×Value)}(r:KT H kvs xs)(ht:∀b ys,H b=some (.tup ys)->H' b=some (.tup ys)):KT H' kvs xs:=
 wG r fun _ _ z=>⟨z.1,ht _ _ z.2.1,z.2.2⟩
section
variable {P:Program}{w:World}{H:Hp}{h:Heap}{a:Addr}
theorem zja{u:HO}(ok:HOk P w H h)(e:Rd H a u):yB P w H h a u:=e.ok ok
theorem zgR{kvs:List (Key×V)}(ok:HOk P w H h)(e:Rd H a (.dK kvs)):kvs.length<=sizeLine/\(a==sysModules)=false/\∃vs,KV kvs vs/\h.DictOf (yG P w) a vs:=
 show yB P w H h a (.dK kvs) from zja ok e
theorem zgS{kvs:List (Key×V)}(ok:HOk P w H h)(e:H a=some (.dK kvs)):kvs.length<=sizeLine/\(a==sysModules)=false/\∃vs,KV kvs vs/\h.DictOf (yG P w) a vs:=zgR ok (.inl e)
theorem zc4{ks:List Key}(ok:HOk P w H h)(e:H a=some (.tup (ks.map kV))):(tupleKind (yG P w)).is h ks a:=by
 obtain⟨_,its,r,o,h1,h2,n,h3⟩:=(show yB P w H h a (.tup (ks.map kV)) from ok a _ e);exact⟨o,its.toArray,n,h1,h2,h3,by simpa using zaj r⟩
theorem zgQ{kvs:List (List Key×V)}(ok:HOk P w H h)(e:Rd H a (.dT kvs)):kvs.length<=sizeLine/\(a==sysModules)=false/\
  ∃xs,KT H kvs xs/\h.DictOfH (tupleKind (yG P w)) a xs:=by
 obtain⟨z,y,xs,r,o,es,ep,h1,h2,h3,h4,h5⟩:=(show yB P w H h a (.dT kvs) from zja ok e);refine⟨z,y,xs,r,o,es,ep,h1,h2,h3,h4,fun x hx=>?_,h5⟩;have all:∀{l:List (List Key×V)}{m:List (List Key×Addr×Value)},KT H l m->∀x∈m,(tupleKind (yG P w)).is h x.1 x.2.1:=by
  intro l m q;induction q with
  | nil=>intro x hx;exact nomatch hx
  | @cons p q ps qs hq t ih=>
   intro x hx;rcases List.mem_cons.mp hx with e|hx
   ·subst e
    exact zc4 ok (by rw[<- hq.1];exact hq.2.1)
   ·exact ih x hx
 exact all r x hx
theorem zl3{kvs:List (List Key×V)}(ok:HOk P w H h)(e:H a=some (.dT kvs)):kvs.length<=sizeLine/\(a==sysModules)=false/\
  ∃xs,KT H kvs xs/\h.DictOfH (tupleKind (yG P w)) a xs:=zgQ ok (.inl e)
def zkZ(H:Hp)(a:Addr)(y:V)(r:Option V):Prop:=
 (∃kvs k,Rd H a (.dK kvs)/\y=kV k/\r=jz kvs k)\/∃kvs k b,Rd H a (.dT kvs)/\y=.ref b/\H b=some (.tup (k.map kV))/\r=jz kvs k
def zmk(H:Hp)(a:Addr)(y v:V)(H':Hp):Prop:=
 (∃kvs k,H a=some (.dK kvs)/\y=kV k/\kvs.length<sizeLine/\H'=upd H a (.dK (xH kvs k v)))\/
 ∃kvs k b,H a=some (.dT kvs)/\y=.ref b/\H b=some (.tup (k.map kV))/\kvs.length<sizeLine/\H'=upd H a (.dT (xH kvs k v))
variable {X:Cx}{pins:PnL}{σ:St}{s:Shared}{y v:V}{u r:Value}{o:Option V}{A:Around}{E:VSP}
theorem Inv.big(I:Inv X pins σ H s):sysModules<s.heap.objs.size:=by
 have h:mainGlobals<s.heap.objs.size:=(I.mod.glob.keeps I.bk).lt;exact Nat.lt_trans (by decide) h
theorem zeU{Q:VSP}(hu:A.units+1<cLine)(I:Inv X pins σ H s)(g:zkZ H a y (some v))(ry:yj y u)(h:∀w' s',Inv X pins σ H s'->yj v w'->Q w' s'):
  wpAny (model X.prog X.w) A (getItem (.ref a) u) Q E s:=by
 rcases g with ⟨kvs,k,e,ey,l⟩|⟨kvs,k,b,e,ey,eb,l⟩
 ·subst ey
  obtain⟨z,hd,vs,rel,dd⟩:=zgR I.hok e;obtain⟨w',hw,rw'⟩:=vp (v:=v) (o:=valueAt vs k) (by rw[l];exact rel.val k)
  exact wpAny_getItem_of (zb0 ry) dd.mapOf hw (h w' _ (I.tok _) rw')
 ·subst ey
  cases (show u=Value.ref b from ry);obtain⟨z,hd,xs,rel,dd⟩:=zgQ I.hok e;obtain⟨w',hw,rw'⟩:=vp (v:=v) (o:=(atKey xs k).map (·.2)) (by rw[l];exact rel.val k)
  obtain⟨p,hp,hp2⟩:=Option.map_eq_some_iff.mp hw;refine wpAny_getItem_heap (tupleKind_room_in1 hu) (zc4 I.hok eb) dd hp ?_;rw[hp2];exact h w' _ (I.tok _) rw'
theorem jT{h':Heap}{t':Nat}{ob:HO}(I:Inv X pins σ H s)(mu:Mut (H a))(hs:Heap.SameBut a s.heap h')(he:∃q,h'.get? a=some q)(new:yB X.prog X.w (upd H a ob) h' a ob):
  Inv X pins σ (upd H a ob) { s with heap:=h',toks:=t' }:=
 I.write (x:=a) (e:=a) mu (.inl rfl) (fun b q hb z=>(hs.2 b hb).trans z) he new
theorem zda{P:Program}{w:World}{H':Hp}{h':Heap}{kvs:List (Key×V)}{vs:List (Key×Value)}(z:kvs.length<=sizeLine)(hd:(a==sysModules)=false)(rel:KV kvs vs)(dd:h'.DictOf (yG P w) a vs):
  yB P w H' h' a (.dK kvs):=⟨z,hd,vs,rel,dd⟩
theorem zeT{H':Hp}{Q:Unit->Shared->Prop}(hu:A.units+1<cLine)(I:Inv X pins σ H s)(g:zmk H a y v H')(ry:yj y u)(rv:yj v r)(h:∀s',Inv X pins σ H' s'->Q () s'):
  wpAny (model X.prog X.w) A (setItem (.ref a) u r) Q E s:=by
 rcases g with ⟨kvs,k,e,ey,l,eH⟩|⟨kvs,k,b,e,ey,eb,l,eH⟩
 ·subst ey eH
  obtain⟨z,hd,vs,rel,dd⟩:=zgS I.hok e;have hz:vs.length<=sizeLine:=by rw[<- rel.length];exact z
  have hl:(xH kvs k v).length<=sizeLine:=by have:=xT kvs k v;omega
  refine wpAny_setItem_pairs (hsz:=hz) (zb0 ry) dd fun h' dd' hs=>h _ ?_;have he:∃q,h'.get? a=some q:=let ⟨q,_,_,hq,_⟩:=dd';⟨q,hq⟩;exact jT I (by rw[e];exact True.intro) hs he (zda hl hd (rel.put k rv) dd')
 ·subst ey eH
  cases (show u=Value.ref b from ry);obtain⟨z,hd,xs,rel,dd⟩:=zl3 I.hok e;have hz:xs.length<=sizeLine:=by rw[<- Paired.length rel];exact z
  have hl:(xH kvs k v).length<=sizeLine:=by have:=xT kvs k v;omega
  refine wpAny_setItem_heap (hsz:=hz) (tupleKind_room_in1 hu) (zc4 I.hok eb) dd fun h' dd' hs=>h _ ?_;obtain⟨q,es,ep,hq,h2,h3,h4,_,h5⟩:=dd';refine jT I (by rw[e];exact True.intro) hs ⟨q,hq⟩ ⟨hl,hd,_,(rel.put k eb rv).keeps fun c ys ec=>?_,q,es,ep,hq,h2,h3,h4,h5⟩
  rw[zv (ul ec e (fun z=>nomatch z))];exact ec
variable {kvs:List (Key×V)}{k:Key}
def zkX(i:Expr):Prop:=∀ov iv,subscripted i false ov iv=operate [ov,iv] (getItem ov iv)
theorem zdm{prog:Program}{w:World}{A:Around}{E:VSP}{s:Shared}{env:Env}{value slice:Expr}{pos:Pos}{T id:String}{Q:VSP}
  (hl:typeLookup (.type T) "__getitem__"=pure (some (.builtin id))) (hs:zkX slice)
  (h:wpAny (model prog w) A (eval value env) (fun o s₁=>wpAny (model prog w) A (eval slice env) (fun i s₂=>s₂.TypeIs o T/\wpAny (model prog w) A (getItem o i) Q E s₂) E s₁) E s) :
  wpAny (model prog w) A (eval (.Subscript value slice pos) env) Q E s:=by
 refine Subscript_ (wpAny_mono h (fun o s₁ h₁=>wpAny_mono h₁ (fun i s₂ h₂=>?_) fun _ _ x=>x) fun _ _ x=>x);obtain⟨hT,h₂⟩:=h₂;unfold subscriptTail;refine zwb ?_;rw[getitemInPython_of_ne hT.not_modules];refine zwb (wpAny_specialOf hT hl ?_);have fin:wpAny (model prog w) A (subscripted slice false o i) (fun r s₃=>wpAny (model prog w) A (letTemporaryGo value o r >>= fun _=>pure r) Q E s₃) E s₂:=by
  rw[hs o i];exact wpAny_operating (wpAny_mono h₂ (fun r s₃ h₃=>zwb (wpAny_letTemporaryGo (zwp h₃))) fun _ _ x=>x)
 first
  | exact zwp (zwb fin)
  | exact zwb (zwp (zwb fin))
  | exact zwb fin
theorem zcb{X:Cx}{pins:PnL}{σ : St}{H:Hp}{s:Shared}{a:Addr}{y:V}{o:Option V}(I:Inv X pins σ H s)(g:zkZ H a y o):s.TypeIs (.ref a) "dict":=by
 rcases g with ⟨kvs,k,e,_,_⟩|⟨kvs,k,b,e,_,_,_⟩
 ·obtain⟨_,_,vs,_,dd⟩:=zgR I.hok e
  exact dd.typeIs
 ·obtain⟨_,_,xs,_,dd⟩:=zgQ I.hok e
  exact dd.typeIs
def zlc(td ty:TE):TE:=fun σ H Q=>td σ H fun x H1=>ty σ H1 fun y H2=>∃a v,x=.ref a/\zkZ H2 a y (some v)/\Q v H2
def zlr(td ty tv:TE):TS:=fun D σ H=>tv σ H fun v H1=>td σ H1 fun x H2=>ty σ H2 fun y H3=>∃a H4,x=.ref a/\zmk H3 a y v H4/\D.nx σ H4
end
section
variable {X:Cx}{o i e value:Expr}{pos pos' tpos:Pos}{td ty tv:TE}
theorem wD(hu:X.A.units+1<cLine)(ho:PE X o td)(hi:PE X i ty)(hs:zkX i):PE X (.Subscript o i pos) (zlc td ty):=by
 refine⟨?_⟩;intro pins s σ H Q I h;refine zdm PySem.F.slot_dict_getitem.lookup hs (thn (ho pins s σ H _ I h) fun u s1 ⟨x,H1,I1,rx,q1⟩=>thn (hi pins s1 σ H1 _ I1 q1) fun iv s2 ⟨y,H2,I2,ry,a,v,ex,g,q2⟩=>?_);subst ex;obtain rfl:u=Value.ref a:=rx;exact⟨zcb I2 g,zeU hu I2 g ry fun w' s3 I3 rw'=>⟨v,H2,I3,rw',q2⟩⟩
theorem zhD(hu:X.A.units+1<cLine)(ho:PE X o td)(hi:PE X i ty)(hv:PE X value tv)(hs:swapsWith value (some (.Subscript o i pos')) pos.line X.env=pure false):
  PS X (.Assign [.Subscript o i pos'] value pos) (zlr td ty tv):=by
 refine⟨?_⟩;intro pins s σ H D I h;refine wpAny_Assign_Subscript (thn (hv pins s σ H _ I h) fun r s1 ⟨v,H1,I1,rv,q1⟩=>thn (ho pins s1 σ H1 _ I1 q1) fun u s2 ⟨x,H2,I2,rx,q2⟩=>thn (hi pins s2 σ H2 _ I2 q2) fun iv s3 ⟨y,H3,I3,ry,a,H4,ex,g,q3⟩=>?_) hs;subst ex;obtain rfl:u=Value.ref a:=rx;exact zeT hu I3 g ry rv fun s4 I4=>⟨σ,H4,I4,q3⟩
theorem zgT{P:Program}{w:World}{H:Hp}(h:Heap)(hb:sysModules<h.objs.size):yB P w H (h.push { cls:=.type "dict",data:=.dict #[] }) h.objs.size (.dK []):=
 ⟨zero_le _,beq_eq_false_iff_ne.mpr (Ne.symm (ne_of_lt hb)),[],.nil,Heap.DictOf.new h⟩
def zaG:List (TE×TE)->St->Hp->(List (V×V)->Hp->Prop)->Prop
 | [],_,H,Q=>Q [] H
 | (tk,tv)::r,σ,H,Q=>tk σ H fun x H1=>tv σ H1 fun y H2=>zaG r σ H2 fun ps H3=>Q ((x,y)::ps) H3
abbrev VV:List (V×V)->List (Value×Value)->Prop:=Paired fun p q=>yj p.1 q.1/\yj p.2 q.2
structure PPs(X:Cx)(pos:Pos)(keys:List (Option Expr))(values:List Expr)(trs:List (TE×TE)):Prop where
 run:∀(pins:PnL) (s:Shared) (σ : St) (H:Hp) (Q:List (V×V)->Hp->Prop),Inv X pins σ H s->zaG trs σ H Q->
  wpAny (model X.prog X.w) X.A (evalPairs (pairTrees keys values X.env pos)) (fun vs s'=>∃ps H',Inv X pins σ H' s'/\VV ps vs/\Q ps H') X.xe s
instance {X:Cx}{pos:Pos}{keys:List (Option Expr)}{values:List Expr}{trs:List (TE×TE)}:CoeFun (PPs X pos keys values trs) (fun _=>∀(pins:PnL) (s:Shared) (σ : St) (H:Hp) (Q:List (V×V)->Hp->Prop),Inv X pins σ H s->zaG trs σ H Q->
  wpAny (model X.prog X.w) X.A (evalPairs (pairTrees keys values X.env pos)) (fun vs s'=>∃ps H',Inv X pins σ H' s'/\VV ps vs/\Q ps H') X.xe s):=⟨PPs.run⟩
theorem jJ{X:Cx}{pos:Pos}:PPs X pos [] [] []:=⟨fun pins s σ H Q I h=>pairTrees_nil_walk ⟨[],H,I,.nil,h⟩⟩
theorem yC{X:Cx}{pos:Pos}{k v:Expr}{ks:List (Option Expr)}{vs:List Expr}{tk tv:TE}{trs:List (TE×TE)}(hk:PE X k tk)(hv:PE X v tv)(hr:PPs X pos ks vs trs):
  PPs X pos (some k::ks) (v::vs) ((tk,tv)::trs):=⟨fun pins s σ H Q I h=>
 pairTrees_cons_walk (thn (hk pins s σ H _ I h) fun u s1 ⟨x,H1,I1,rx,q1⟩=>thn (hv pins s1 σ H1 _ I1 q1) fun w2 s2 ⟨y,H2,I2,ry,q2⟩=>
  thn (hr pins s2 σ H2 _ I2 q2) fun ws s3 ⟨ps,H3,I3,rel,q3⟩=>⟨(x,y)::ps,H3,I3,.cons ⟨rx,ry⟩ rel,q3⟩)⟩
def yK(kvs more:List (Key×V)):List (Key×V):=more.foldl (fun acc kv=>xH acc kv.1 kv.2) kvs
theorem KV.merge:∀{more:List (Key×V)}{rs:List (Key×Value)}{kvs:List (Key×V)}{vs:List (Key×Value)},KV more rs->KV kvs vs->KV (yK kvs more) (merged vs rs):=by
 intro more rs kvs vs r;unfold KV at r;induction r generalizing kvs vs with
 | nil=>intro q;exact q
 | @cons p q ps qs h t ih=>
  intro r0;have e:KV (xH kvs p.1 p.2) (stored vs q.1 q.2):=by
   have:=r0.put p.1 h.2
   rw[<- h.1];exact this
  exact ih e
theorem um:∀(more kvs:List (Key×V)),(yK kvs more).length<=kvs.length+more.length
 | [],kvs=>by show kvs.length<=kvs.length+0;omega
 | p::r,kvs=>by
  have h1:=um r (xH kvs p.1 p.2);have h2:=xT kvs p.1 p.2;show(yK (xH kvs p.1 p.2) r).length<=_;rw[length_cons];omega
theorem qH{P:Program}{w:World}:∀{kvs:List (Key×V)}{ws:List (Value×Value)},VV (kvs.map fun kv=>(kV kv.1,kv.2)) ws->∃rs,Carries (yG P w) ws rs/\KV kvs rs
 | [],_,r=>by rw[map_nil] at r;cases r;exact⟨[],True.intro,.nil⟩
 | p::kvs,_,r=>by
  rw[map_cons] at r;cases r with
  | @cons a b as bs h t=>
   obtain⟨rs,c,q⟩:=qH (P:=P) (w:=w) t;obtain⟨b1,b2⟩:=b;exact⟨(p.1,b2)::rs,⟨zb0 h.1,rfl,c⟩,.cons ⟨rfl,h.2⟩ q⟩
def zlb(trs:List (TE×TE)):TE:=fun σ H Q=>∀p,H p=none->zaG trs σ (upd H p (.dK [])) fun ps H2=>H2 p=some (.dK [])/\∃kvs:List (Key×V),ps=kvs.map (fun kv=>(kV kv.1,kv.2))/\kvs.length<=15/\Q (.ref p) (upd H2 p (.dK (yK [] kvs)))
theorem jK{X:Cx}{pos:Pos}{keys:List (Option Expr)}{values:List Expr}{trs:List (TE×TE)}(h:PPs X pos keys values trs)(hall:keys.all (·.isSome)=true)(hl:keys.length=values.length)(h0:keys≠[])
  (h15:keys.length<=15):PE X (.Dict keys values pos) (zlb trs):=by
 refine⟨?_⟩;intro pins s σ H Q I q;have hn:=I.hok.fresh (le_refl s.heap.objs.size);have I1:=I.laid (a:=s.heap.objs.size) (o:=.dK []) (h':=s.heap.push { cls:=.type "dict",data:=.dict #[] }) (t':=s.toks) (fun _ _ q=>zgp _ q) (le_refl _) (zgT s.heap I.big);refine wpAny_Dict_walk (knd:=yG X.prog X.w) hall hl h0 h15 (thn (h pins _ σ _ _ I1 (q _ hn)) fun ws s2 ⟨ps,H2,I2,rel,e,kvs,ep,lk,q2⟩=>?_);subst ep;obtain⟨rs,c,rk⟩:=qH (P:=X.prog) (w:=X.w) rel;obtain⟨z,hd,vs0,r0,dd⟩:=zgS I2.hok e;cases r0;refine⟨rs,c,dd,fun h' dd' hs=>⟨.ref s.heap.objs.size,_,?_,rfl,q2⟩⟩;have hz:(yK [] kvs).length<=sizeLine:=by
  have h1:=um kvs [];rw[length_nil] at h1;rw[sizeLine_eq];omega
 have he:∃q,h'.get? s.heap.objs.size=some q:=let ⟨q,_,_,hq,_⟩:=dd';⟨q,hq⟩;exact jT I2 (by rw[e];exact True.intro) hs he (zda hz hd (rk.merge .nil) dd')
structure M1(X:Cx)(o:Expr)(m:Str)(apos:Pos)(e:Expr)(cpos:Pos):Prop where
 base:attributeBase o m X.env (eval o X.env)=eval o X.env
 few:((backTo cpos (starEach [e] X.env)).all (fun x=>!x.1)&&(backToKw cpos (keywordEach [] X.env)).all (fun x=>x.1.isSome)
  && decide (([e]:List Expr).length+([]:List Keyword).length+(if ([]:List Keyword).isEmpty then 0 else 1)<30))=true
 line:(apos.endLine==cpos.line)=true
 trees:backTo cpos (starEach [e] X.env)=[(false,eval e X.env)]
end
section
variable {X:Cx}{pins:PnL}{σ:St}{H:Hp}{s:Shared}{a:Addr}{y d:V}{u r:Value}{o:Option V}{A:Around}{E:VSP}
end
section
variable {X:Cx}{o e f:Expr}{apos cpos:Pos}{td ty tx:TE}
variable {pins:PnL}{σ:St}{H:Hp}{s:Shared}{a:Addr}{kvs:List (Key×V)}{A:Around}{E:VSP}
variable {y:V}{u:Value}
end
end L2
namespace Att
open PySem PySem.W PySem.Calls PyProof.Rows
theorem jG{P:Params}{h:Heap}:∀(ns:List Int) (vs:List Value),WellAll P h vs (ns.map WData.int)->IntsAre vs ns:=by
 intro ns;induction ns with
 | nil=>
  intro vs w;rw[map_nil] at w;cases w;exact .nil
 | cons n ns ih=>
  intro vs w;rw[map_cons] at w;cases w with
  | cons a b=>
   cases a;exact .cons _ _ (ih _ b)
theorem zeh{l:OpenLaw}{n:Nat}(hn:l.most=some n){P:Params}{h:Heap}{args:List WData}{vals:List Value}
  (hpre:l.row.toRowW.claim.pre args=true) (hwl:WellAll P h vals args) :
  ∃a vs ns,vals=[Value.ref a]/\args=[WData.list (ns.map WData.int)]/\h.get? a=some { cls:=.type "list",data:=.seq vs.toArray }/\IntsAre vs ns/\ns.length<=n:=by
 have hsh:WShape.hasAll [] args [.list .int]=true:=(pre_splitW hpre).1;have hc:l.pre.holds [] { args:=args }=true:=(pre_splitW hpre).2;obtain⟨d,r,rfl,h1,h2⟩:=hasAllW_cons hsh;obtain rfl:=hasAllW_nil h2;obtain⟨xs,rfl,h3⟩:=hasW_list h1;obtain⟨ns,rfl⟩:=items_int h3;have hlen:ns.length<=n:=by
  unfold OpenLaw.pre at hc;have h4:(WTm.not (.lt (.lit (.int (n:Int))) (.len (.arg 0)))).holds [] { args:=[.list (ns.map .int)] }=true:=by
   have h4:=(holds_andW hc).1;rw[hn] at h4;exact h4
  have h5:=condW_of h4 (w_not (w_lt w_lit (w_len_list (w_arg rfl))));rw[length_map] at h5;refine Nat.le_of_not_lt fun q=>?_;have q':(n:Int)<((ns.length:Nat):Int):=by omega
  first
   | (rw[decide_eq_true q'] at h5;exact absurd h5 (by decide))
   | (simp at h5;omega)
 cases hwl with
 | cons w1 w2=>
  cases w2;cases w1 with
  | list ho hall=>exact⟨_,_,ns,rfl,rfl,ho,jG ns _ hall,hlen⟩
theorem zeo(l:OpenLaw)(args:List WData):l.row.toRowW.claim.post args (.bool true) args=true:=
 postW_of (r:=l.row.toRowW) (X:=(true==true))
  (show WShape.has [] (.bool true) .bool=true by first|rfl|decide|simp [WShape.has,WShape.arms,WShape.armsAll])
  (show(WTm.eq .res (.lit (.bool true))).value [] { args:=args,res:=some (.bool true),after:=args }=some (.bool (true==true)) from w_eq_bool (w_res rfl) w_lit) rfl
section
variable {prog:Program}{w:World}{A:Around}{E:VSP}{s:Shared}{K:Frag}
def zmY(h:Heap)(L d:Addr):List (Addr×Obj):=(List.range h.objs.size).filterMap fun a=>if a=L\/a=d then none else (h.get? a).map fun o=>(a,o)
end
end Att
namespace L2
open PySem PySem.Spec PyProof.Rows
theorem qY:∀{vs:List Value}{ns:List Int},IntsAre vs ns->zY (ns.map V.int) vs
 | _,_,.nil=>.nil
 | _,_,.cons n t h=>.cons ⟨t,rfl⟩ (qY h)
def zkW(H:Hp):Prop:=∀b,H b=none\/∃o xs,H b=some (.frz o (.lst xs))
theorem zgv{P:Program}{w:World}{K:Frag}{mg mb:Str->Option Value}{CX:CXT}{k:Nat}{fa a:Addr}{fd:FuncData}{x:Str}{sp:Sp}{s₁:Shared}{vs:List Value}{ns:List Int}
  (KX:K.In s₁.heap) (hns:s₁.heap.Ns mainGlobals mg) (hb:s₁.heap.Ns builtinsNs mb) (hbb:∀x:Str,x≠"__name__"->mb x=bootBuiltins x) (hlim:s₁.heap.NoLimit) (hg:s₁.gens=#[])
  (ha:s₁.heap.get? a=some { cls:=.type "list",data:=.seq vs.toArray }) (hi:IntsAre vs ns) (hl:ns.length<=sizeLine) (hr:yh k callerA)
  (F:∀base:Heap,K.In base->base.Ns mainGlobals mg->zL P w K mg base CX k fa fd [x] sp) (hbind:∀(s:Shared) (u:Value),BindsTo s fd ⟨[u],[]⟩ [(x,u)])
  (hsp:∀H:Hp,zkW H->SqL K H a (ns.map V.int)->sp [.ref a] H (fun v _=>v=.bl true) fun _ _ _=>False)
  (hCX:∀H e s',CX [] H s₁ (fun _ _ _=>False) e s'->False) :
  codeAny (model P w) callerA (.call (.ref fa) ⟨[.ref a],[]⟩) (fun r s'=>r=.ok (.ret (.bool true))/\OldK s₁.heap s'.heap/\s'.os=s₁.os/\AllBare s'.gens) s₁:=by
 have rv:=qY hi;have lenV:=hi.length;have core:∀H:Hp,zkW H->SqL K H a (ns.map V.int)->HOk P w H s₁.heap->(∀b,H b≠none->b=a)->(H a≠none->K.lookup a=none)->
   codeAny (model P w) callerA (.call (.ref fa) ⟨[.ref a],[]⟩) (fun r s'=>r=.ok (.ret (.bool true))/\OldK s₁.heap s'.heap/\s'.os=s₁.os/\AllBare s'.gens) s₁:=by
  intro H hO hS hok hA hK;have base_of:∀{b:Addr}{o:Obj},s₁.heap.get? b=some o->H b=none->(za9 s₁.heap H).get? b=some o:=fun e n=>zgz e n;have noA:∀{b:Addr}{o:Obj}{es:Array DictEntry}{ep:Nat},s₁.heap.get? b=some o->o.data=.dict es ep->H b=none:=fun {b o es ep} e d=>by
   cases q:H b with
   | none=>rfl
   | some u=>
    have e':b=a:=hA b (by rw[q];simp)
    subst e';rw[ha] at e;cases e;have d':Data.seq vs.toArray _=Data.dict es ep:=d;cases d'
  have nsK:∀{b:Addr}{m:Str->Option Value},s₁.heap.Ns b m->(za9 s₁.heap H).Ns b m:=fun {b m} ⟨o,es,ep,e,d,r⟩=>⟨o,es,ep,base_of e (noA e d),d,r⟩;have hKb:K.In (za9 s₁.heap H):=fun b o e=>base_of (KX b o e) (by
   cases q:H b with
   | none=>rfl
   | some u=>
    have e':b=a:=hA b (by rw[q];simp)
    subst e';rw[hK (by rw[q];simp)] at e;cases e)
  have hM:Mod K mg (za9 s₁.heap H):=⟨hKb,nsK hns,⟨mb,nsK hb,hbb⟩,let ⟨mc,h1,h2⟩:=hlim;⟨mc,nsK h1,h2⟩⟩;have e0:qW P w K mg (za9 s₁.heap H) callerA [] s₁ H:=⟨rfl,hM,fun b o e=>zh1 e,Nat.le_of_eq (zeK _ _),trivial,fun b hb=>absurd (show b∈([]:List Addr) from hb) (by simp),hok,.of_eq hg⟩
  refine codeAny_mono ((F _ hKb (nsK hns)).run callerA [] s₁ H ⟨[.ref a],[]⟩ [.ref a] [.ref a] _ _ hr e0 (hbind s₁ (.ref a)) (.cons rfl .nil) (hsp H hO hS)) fun r s' h=>?_;cases r with
  | error e=>exact(hCX H e s' h).elim
  | ok fl=>
   cases fl with
   | next=>exact False.elim h
   | brk=>exact False.elim h
   | cont=>exact False.elim h
   | ret u=>
    obtain⟨v,H',os,bare,un,hok',r',q⟩:=h;have q':v=.bl true:=q;subst q';obtain rfl:u=Value.bool true:=r';refine⟨rfl,OldK.of_keep fun b o e=>?_,os,bare⟩;cases q:H b with
    | none=>exact un.keep b o e q (by intro z;exact absurd (show b∈([]:List Addr) from z) (by simp)) (by simp)
    | some u=>
     rcases hO b with z|⟨ob,xs,z⟩
     ·rw[q] at z;cases z
     ·have z2:=un.frzs b ob _ z
      obtain⟨e1,_⟩:=hok b _ z;obtain⟨e2,_⟩:=hok' b _ z2;rw[e] at e1;cases e1;exact e2
 cases hk:K.lookup a with
 | some o=>
  have e:=KX a o hk;rw[ha] at e;cases e;refine core (fun _=>none) (fun _=>.inl rfl) (.inr ⟨_,vs.toArray,_,hk,rfl,rfl,rfl,by rw[size_toArray,lenV];exact hl,by simpa using rv⟩) (fun b u z=>by have z':(none:Option HO)=some u:=z;cases z') (fun b z=>absurd rfl z) fun z=>absurd rfl z
 | none=>
  refine core (fun b=>if b=a then some (.frz { cls:=.type "list",data:=.seq vs.toArray } (.lst (ns.map V.int))) else none) (fun b=>?_) (.inl (.inr ⟨{ cls:=.type "list",data:=.seq vs.toArray },if_pos rfl⟩)) (fun b u z=>?_) (fun b z=>?_) fun _=>hk
  ·by_cases hb:b=a
   ·exact .inr ⟨_,_,if_pos hb⟩
   ·exact .inl (if_neg hb)
  ·by_cases hb:b=a
   ·have z':=(if_pos hb).symm.trans z
    cases z';subst hb;exact⟨ha,by rw[length_map];exact hl,vs,_,rv,ha⟩
   ·have z':=(if_neg hb).symm.trans z
    cases z'
  ·by_cases hb:b=a
   ·exact hb
   ·exact absurd (if_neg hb) z
def yR(s:Stmt)(j:Nat):Stmt:=match s with
 | .ClassDef _ _ _ body _ _ _ _ _ _ _=>body.getD j (.Pass ⟨0,0,0,0⟩)
 | _=>.Pass ⟨0,0,0,0⟩
def yr(s:Stmt):Arguments:=match s with
 | .FunctionDef _ a _ _ _ _ _ _ _ _=>a
 | _=>{ posonlyargs:=[],args:=[],vararg:=none,kwonlyargs:=[],kw_defaults:=[],kwarg:=none,defaults:=[] }
def yd(s:Stmt):List Stmt:=match s with
 | .FunctionDef _ _ b _ _ _ _ _ _ _=>b
 | _=>[]
def zr(s:Stmt):Scope:=match s with
 | .FunctionDef _ _ _ _ _ _ sc _ _ _=>sc
 | _=>{ kind:=.function,names:=[],isGenerator:=false,isCoroutine:=false }
abbrev CX0:CXT:=fun _ _ _ _ _ _=>False
abbrev E0:XK:=fun _ _ _=>False
theorem xx{X:Cx}:yE CX0 X E0:=fun _ _ _ _ _ _ _ h=>h.elim
structure Fun(K:Frag)(x qual:Str)(st:Stmt)(f:Addr)(fd:FuncData):Prop where
 ex:∃(oc:Value) (od:Option Addr) (kV doc pm:Value) (an:Option Addr) (cdv ct:Value) (osl:Array (Option Value)),
  fd=fnOf x qual (yr st) (yd st) (zr st) .none kV doc pm an cdv ct/\K.lookup f=some ⟨oc,od,.func fd,osl⟩/\codeIn K cdv qual=true
 kp:keepIn K (.ref f)=true
section
variable {P:Program}{w:World}{K:Frag}{mg:Str->Option Value}{base:Heap}
theorem Fun.ok{x qual:Str}{st:Stmt}{f:Addr}{fd:FuncData}{N ps:List Str}{k:Nat}{sp:Sp}(F:Fun K x qual st f fd)(S:zD N ps (zr st))(hbody:∀(cdv:Value) (A:Around) (outer:List Env) (s:Shared) (H:Hp) (vs:List V) (Q:VK) (E:XK),yh k (A.deeper (envOfC qual (zr st) s.heap.objs.size f cdv))->sp vs H Q E->
   ∃t,PSs (w5 CX0 P w K mg base N qual (zr st) f cdv A outer s H E).nox (yd st) t/\t { nx:=fun _ H'=>Q .non H',rt:=Q } (xN N vs) H) (len:∀vs H Q E,sp vs H Q E->vs.length=ps.length:=by intro vs H Q E h;first|(obtain⟨_,rfl,_⟩:=h;rfl)|(obtain⟨_,_,rfl,_⟩:=h;rfl)|(obtain⟨_,_,_,rfl,_⟩:=h;rfl)|(obtain⟨_,_,_,_,rfl,_⟩:=h;rfl)|(obtain⟨_,_,_,_,_,rfl,_⟩:=h;rfl)|(obtain⟨_,_,_,_,_,_,rfl,_⟩:=h;rfl)|(obtain⟨_,_,_,_,_,_,_,rfl,_⟩:=h;rfl)|(obtain⟨_,_,_,_,_,_,_,_,rfl,_⟩:=h;rfl)|(obtain⟨_,_,_,_,_,_,_,_,_,rfl,_⟩:=h;rfl)|(obtain⟨_,_,_,_,_,_,_,_,_,_,rfl,_⟩:=h;rfl)|(obtain⟨_,_,_,_,_,_,_,_,_,_,_,rfl,_⟩:=h;rfl)):zL P w K mg base CX0 (k+1) f fd ps sp:=by
 obtain⟨oc,od,kV,doc,pm,an,cdv,ct,osl,rfl,lk,hcd⟩:=F.ex;refine zb5 lk hcd S len fun A outer s H vs Q E hr hsp=>?_;obtain⟨t,h,q⟩:=hbody cdv A outer s H vs Q E hr hsp;exact⟨t,h.nox,q⟩
theorem Fun.binds{x qual:Str}{st:Stmt}{f:Addr}{fd:FuncData}{ps:List Str}(F:Fun K x qual st f fd)
  (h:∀(kV doc pm:Value) (an:Option Addr) (cdv ct:Value) (us:List Value),us.length=ps.length->bindArgs (fnOf x qual (yr st) (yd st) (zr st) .none kV doc pm an cdv ct) ⟨us,[]⟩=pure (ps.zip us)):yt K fd ps []:=by
 obtain⟨oc,od,kV,doc,pm,an,cdv,ct,osl,rfl,lk,hcd⟩:=F.ex;exact .all (h kV doc pm an cdv ct)
theorem zgF{x qual:Str}{st:Stmt}{f:Addr}{oc:Value}{od an:Option Addr}{osl:Array (Option Value)}{kV doc pm cdv ct:Value}(l:K.lookup f=some ⟨oc,od,.func (fnOf x qual (yr st) (yd st) (zr st) .none kV doc pm an cdv ct),osl⟩)
  (c:codeIn K cdv qual=true) (k:keepIn K (.ref f)=true):Fun K x qual st f (fnOf x qual (yr st) (yd st) (zr st) .none kV doc pm an cdv ct):=⟨⟨oc,od,kV,doc,pm,an,cdv,ct,osl,rfl,l,c⟩,k⟩
theorem zdU{A:Around}{k:Nat}(hr:yh k A):A.units+1<cLine:=Nat.lt_of_le_of_lt (Nat.add_le_add_left (by decide : 1<=64) _) hr.units
theorem yu{n:Nat}(h:n<=1000):n<sizeLine:=Nat.lt_of_le_of_lt h (by decide)
variable {X:Cx}
theorem pv(i:Nat){x:Str}{pos:Pos}(hN:X.N[i]?=some x:=by rfl)(hv:Vis X.env.scope x:=by first|exact Or.inl rfl|exact Or.inr (Or.inl rfl)|exact Or.inr (Or.inr rfl))(hd:(x==("__debug__" : Str))=false:=by decide)
  (hcd:(x==("__classdict__" : Str))=false:=by decide):PE X (.Name x pos) (uf i):=zkh hN hv hd hcd
theorem yb{A B:Prop}(h:B):if false=true then A else B:=by
 rw[if_neg zft];exact h
theorem yp{A B:Prop}(h:A):if true=true then A else B:=by
 rw[if_pos rfl];exact h
theorem jf{c A B:Prop}[Decidable c](h1:c->A)(h2:¬c->B):if c then A else B:=by
 by_cases h:c
 ·rw[if_pos h]
  exact h1 h
 ·rw[if_neg h]
  exact h2 h
def zx(H H':Hp):Prop:=∀b o,H b=some o->H' b=some o
theorem zx.refl(H:Hp):zx H H:=fun _ _ h=>h
theorem zx.trans{H H1 H2:Hp}(a:zx H H1)(b:zx H1 H2):zx H H2:=fun c o h=>b c o (a c o h)
theorem zx.free{H H':Hp}(e:zx H H'){l:Addr}(h:H' l=Option.none):H l=Option.none:=by
 cases q:H l with
 | none=>rfl
 | some o=>
  rw[e l o q] at h;cases h
theorem zx.seq{K:Frag}{H H':Hp}{a:Addr}{xs:List V}(e:zx H H')(h:SqL K H a xs):SqL K H' a xs:=by
 rcases h with (h|⟨o,h⟩)|h
 ·exact .inl (.inl (e _ _ h))
 ·exact .inl (.inr ⟨o,e _ _ h⟩)
 ·exact .inr h
end
section
variable {κ : Type}[DecidableEq κ]
end
def clB(env:Env)(fr:List Str):List (Str×Addr):=fr.map fun n=>(n,(env.cells.lookup n).getD 0)
theorem zci{env:Env}:∀{fr:List Str}{x:Str}{c:Addr},(clB env fr).lookup x=some c->x∈fr/\c=(env.cells.lookup x).getD 0
 | [],x,c,h=>by simp [clB] at h
 | n::r,x,c,h=>by
  have h':List.lookup x ((n,(env.cells.lookup n).getD 0)::clB env r)=some c:=h;rw[lookup_cons] at h';cases e:x==n with
  | true=>
   rw[e] at h';have e':x=n:=by simpa using e
   subst e';exact⟨mem_cons_self,(Option.some.inj h').symm⟩
  | false=>
   rw[e] at h';obtain⟨h1,h2⟩:=zci h';exact⟨mem_cons_of_mem _ h1,h2⟩
theorem zbf{env:Env}:∀{fr:List Str}{x:Str},x∈fr->(clB env fr).lookup x=some ((env.cells.lookup x).getD 0)
 | n::r,x,h=>by
  show List.lookup x ((n,(env.cells.lookup n).getD 0)::clB env r)=_;rw[lookup_cons];cases e:x==n with
  | true=>
   have e':x=n:=by simpa using e
   subst e';rfl
  | false=>
   rcases List.mem_cons.mp h with z|z
   ·subst z;simp at e
   ·exact zbf z
theorem vA{env:Env}:∀{names:List (Str×NameKind)}{x:Str}{k:NameKind},
  (names.map fun (n,k)=>if (k==NameKind.free&&env.scope.kind==.function&&env.kindOf n==some .cell) then (n,NameKind.cell) else (n,k)).lookup x=some k->
  ∃k0,(x,k0)∈names/\(k=k0\/(k0=.free/\k=.cell))
 | [],_,_,h=>by simp at h
 | (n,k0)::r,x,k,h=>by
  have h':List.lookup x ((if (k0==NameKind.free&&env.scope.kind==.function&&env.kindOf n==some .cell)=true then (n,NameKind.cell) else (n,k0)) ::
   (r.map fun (n,k)=>if (k==NameKind.free&&env.scope.kind==.function&&env.kindOf n==some .cell) then (n,NameKind.cell) else (n,k)))=some k:=h
  by_cases hc:(k0==NameKind.free&&env.scope.kind==.function&&env.kindOf n==some .cell)=true
  ·rw[if_pos hc,lookup_cons] at h'
   cases e:x==n with
   | true=>
    rw[e] at h';have e':x=n:=by simpa using e
    subst e';simp only[Bool.and_eq_true] at hc;exact⟨k0,mem_cons_self,.inr ⟨by simpa using hc.1.1,(Option.some.inj h').symm⟩⟩
   | false=>
    rw[e] at h';obtain⟨k1,h1,h2⟩:=vA h';exact⟨k1,mem_cons_of_mem _ h1,h2⟩
  ·rw[if_neg hc,lookup_cons] at h'
   cases e:x==n with
   | true=>
    rw[e] at h';have e':x=n:=by simpa using e
    subst e';exact⟨k0,mem_cons_self,.inl (Option.some.inj h').symm⟩
   | false=>
    rw[e] at h';obtain⟨k1,h1,h2⟩:=vA h';exact⟨k1,mem_cons_of_mem _ h1,h2⟩
theorem vd{env:Env}(hk:env.scope.kind=.function):∀{names:List (Str×NameKind)}{x:Str},names.lookup x=some .free->env.kindOf x=some .cell->
  (names.map fun (n,k)=>if (k==NameKind.free&&env.scope.kind==.function&&env.kindOf n==some .cell) then (n,NameKind.cell) else (n,k)).lookup x=some .cell
 | [],_,h,_=>by simp at h
 | (n,k0)::r,x,h,hx=>by
  show List.lookup x ((if (k0==NameKind.free&&env.scope.kind==.function&&env.kindOf n==some .cell)=true then (n,NameKind.cell) else (n,k0)) ::
   (r.map fun (n,k)=>if (k==NameKind.free&&env.scope.kind==.function&&env.kindOf n==some .cell) then (n,NameKind.cell) else (n,k)))=some .cell
  rw[lookup_cons] at h;cases e:x==n with
  | true=>
   rw[e] at h;have e':x=n:=by simpa using e
   subst e';have h0:k0=.free:=Option.some.inj h;subst h0;rw[if_pos (by rw[hk,hx];decide),lookup_cons]
   simp
  | false=>
   rw[e] at h;have ih:=vd hk h hx;split
   ·rw[lookup_cons,e];exact ih
   ·rw[lookup_cons,e];exact ih
abbrev zX(X:Cx)(pins:PnL)(sc:Scope)(fr Nc:List Str)(fp:List Addr)(s:Shared)(H:Hp)(C:Addr):Cx:=
 { prog:=X.prog,w:=X.w,K:=X.K,mg:=X.mg,base:=X.base,A:=X.A,N:=Nc,s₀:=s,H₀:=H,env:=compEnvC sc (clB X.env fr) C X.env,outer:=X.stack,stack:=X.stack,ex:=fp,fn:=fun _=>false,calm:=X.calm,pn:=X.pn++pins,xe:=fun _ _=>False }
structure yH(env:Env)(sc:Scope)(fr:List Str):Prop where
 kind:sc.kind=.function
 clos:closureFor sc env=pure (clB env fr)
 cells:(fr.all fun n=>(env.cells.lookup n).isSome)=true
 names:(sc.names.all fun y=>(y.2 != .cell)&&(y.2 != .free||fr.contains y.1)&&(y.2 != .local||sc.names.lookup y.1==some .local))=true
def wz(N Nc:List Str)(caps:List (Option Nat))(env:Env)(sc:Scope)(fr:List Str):Bool:=
 (Nc.zip caps).all fun p=>match p.2 with
  | none=>true
  | some j=>(N[j]?==some p.1)&&(env.kindOf p.1==some .cell)&&(sc.names.lookup p.1==some .free)&&fr.contains p.1
def xk(caps:List (Option Nat))(σ : St):St:=caps.map fun o=>match o with
 | none=>none
 | some j=>(σ[j]?).join
section
variable {X:Cx}{pins:PnL}{σ:St}{H:Hp}{s:Shared}{sc:Scope}{fr Nc:List Str}{fp:List Addr}{C:Addr}
theorem yH.sub{env:Env}(B:yH env sc fr){x:Str}{c:Addr}(h:(clB env fr).lookup x=some c):env.cells.lookup x=some c:=by
 obtain⟨h1,h2⟩:=zci h;have h3:=List.all_eq_true.mp B.cells x h1;obtain⟨d,hd⟩:=Option.isSome_iff_exists.mp h3;rw[hd] at h2 |-;rw[h2];rfl
theorem yH.free{env:Env}(B:yH env sc fr){x:Str}{k:NameKind}(h:(relabel sc env).names.lookup x=some k)(hk:k=.cell\/k=.free):x∈fr:=by
 obtain⟨k0,h1,h2⟩:=vA h;have h3:=List.all_eq_true.mp B.names _ h1;simp only[Bool.and_eq_true,Bool.or_eq_true,bne_iff_ne,ne_eq,List.contains_iff_mem] at h3;have h4:k0=.free:=by
  rcases h2 with h2|⟨h2,_⟩
  ·subst h2
   rcases hk with z|z
   ·exact absurd z h3.1.1
   ·exact z
  ·exact h2
 rcases h3.1.2 with z|z
 ·exact absurd h4 z
 ·exact z
theorem zd4(I:Inv X pins σ H s)(B:yH X.env sc fr)(hf:∀b∈fp,wN X pins H b)(ho:∀b∈fp,∃o,s.heap.get? b=some o)(hC:s.heap.objs.size<=C):(zX X pins sc fr Nc fp s H C).Ok where
 mod:=I.ok.mod
 kind:=B.kind
 glob:=I.ok.glob
 blt:=I.ok.blt
 above:=hC
 inj:=fun x y c h1 h2=>I.ok.inj x y c (B.sub h1) (B.sub h2)
 has:=fun x h=>by
  have hx:x∈fr:=by
   rcases h with h|h
   ·exact B.free h (.inl rfl)
   ·exact B.free h (.inr rfl)
  exact⟨_,zbf hx⟩
 cab:=fun x c h=>absurd h (by simp)
 hd:=I.ok.hd
 frames:=I.ok.frames
 stk:=.inl rfl
 exf:=fun b hb=>by
  obtain⟨o,e⟩:=ho b hb;refine⟨fun z=>?_,fun x c h=>(hf b hb).2.2.2.2.1 x c (B.sub h)⟩;have z':b=C:=z
  have:=Heap.lt_size e
  rw[z'] at this;exact absurd (lt_of_lt_of_le this hC) (lt_irrefl _)
 bs:=I.bs
 bsz:=le_trans I.ok.bsz I.sz
 noex:=fun b o e hb=>by
  rcases (hf b hb).2.2.2.1 with z|z
  ·exact I.ok.noex b o e z
  ·exact absurd (lt_of_lt_of_le (Heap.lt_size (I.ok.bs b o e).1) z) (lt_irrefl _)
 exfs:=fun b hb h=>by
  rcases List.mem_cons.mp (I.stkSub b h) with z|z
  ·exact(hf b hb).2.1 z
  ·exact(hf b hb).2.2.1 z
 funs:=I.stack
 frf:=I.stkFree
theorem Inv.pin_lt(I:Inv X pins σ H s){p:Addr×Obj}(hp:p∈X.pn++pins):p.1<s.heap.objs.size:=Heap.lt_size (I.pin p hp).1
theorem zdb{caps:List (Option Nat)}{h':Heap}{D:Addr}{m:Str->Option Value}{t' n0:Nat}(I:Inv X pins σ H s)(B:yH X.env sc fr)(hf:∀b∈fp,wN X pins H b)(ho:∀b∈fp,∃o,s.heap.get? b=some o)
  (hC:s.heap.objs.size<=C) (hD:s.heap.objs.size<=D) (hDC:D≠C) (keep:∀b o,s.heap.get? b=some o->h'.get? b=some o) (hl:h'.get? D=some { cls:=.type "list",data:=.seq ([]:List Value).toArray n0 }) (hn:h'.Ns C m)
  (hcap:wz X.N Nc caps X.env sc fr=true) (hlen:caps.length=Nc.length) :
  Inv (zX X pins sc fr Nc fp s H C) [] (xk caps σ) (upd H D (.lst [])) { s with heap:=h',toks:=t' }:=by
 have hk:X.env.scope.kind=.function:=I.ok.kind;have fresh:∀a,s.heap.objs.size<=a->H a=none:=fun a ha=>I.hok.fresh ha;refine⟨zd4 I B hf ho hC,rfl,I.bare,Un.laid keep hD (fresh D hD),⟨m,hn,fun i x v e1 e2 e3=>?_⟩,fun x c h=>?_,?_,fun x c h=>?_,fun p hp=>?_,?_,?_⟩
 ·
  have e2':(caps[i]?).map (fun o=>match o with|none=>none|some j=>(σ[j]?).join)=some (some v):=by
   have:(xk caps σ)[i]?=some (some v):=e2
   unfold xk at this;rw[getElem?_map] at this;exact this
  cases hc:caps[i]? with
  | none=>rw[hc] at e2';cases e2'
  | some o=>
   rw[hc] at e2';cases o with
   | none=>simp at e2'
   | some j=>
    have e4:(σ[j]?).join=some v:=by simpa using e2'
    have e5 : σ[j]?=some (some v):=by
     cases q : σ[j]? with
     | none=>rw[q] at e4;cases e4
     | some w'=>rw[q] at e4;simp at e4;rw[e4]
    have e6:(Nc.zip caps)[i]?=some (x,some j):=by
     rw[List.getElem?_zip_eq_some];exact⟨e1,hc⟩
    have e7:=List.all_eq_true.mp hcap _ (mem_of_getElem? e6);simp only[Bool.and_eq_true,beq_iff_eq,List.contains_iff_mem] at e7;obtain⟨⟨⟨a1,a2⟩,a3⟩,a4⟩:=e7;obtain⟨m0,hn0,hl0⟩:=I.loc;obtain⟨u,r,l⟩:=hl0 j x v a1 e5 (.inr (.inl a2));refine⟨u,r,.inr ⟨.inl (vd hk a3 a2),_,zbf a4,?_⟩⟩;rcases l with ⟨z,_⟩|⟨_,c,ec,hcell⟩
    ·rw[a2] at z;cases z
    ·have:(X.env.cells.lookup x).getD 0=c:=by rw[ec];rfl
     rw[this];exact hcell.keeps keep
 ·obtain⟨v,hv⟩:=I.cell x c (B.sub h)
  exact⟨v,hv.keeps keep⟩
 ·show upd H D (.lst []) C=none
  rw[zv (Ne.symm hDC)];exact fresh C hC
 ·obtain⟨v,hv⟩:=I.cell x c (B.sub h)
  have:c≠D:=fun z=>by have:=hv.lt;rw[z] at this;exact absurd (lt_of_lt_of_le this hD) (lt_irrefl _)
  rw[zv this];exact I.freeC x c (B.sub h)
 ·have hp':p∈X.pn++pins:=by simpa using hp
  obtain⟨e,n,ne,nf,d⟩:=I.pin p hp';have hlt:=I.pin_lt hp';refine⟨keep _ _ e,?_,?_,fun z=>?_,d⟩
  ·rw[zv (fun z=>by rw[z] at hlt;exact absurd (lt_of_lt_of_le hlt hD) (lt_irrefl _))];exact n
  ·intro z
   have z':p.1=C:=z;rw[z'] at hlt;exact absurd (lt_of_lt_of_le hlt hC) (lt_irrefl _)
  ·rcases List.mem_cons.mp (I.stkSub p.1 z) with q|q
   ·exact ne q
   ·exact nf q
 ·exact I.hok.laid keep hD ⟨zero_le _,[],n0,.nil,hl⟩
 ·show(xk caps σ).length=Nc.length
  unfold xk;rw[length_map,hlen]
theorem wg{pl:PnL}{σ':St}{H':Hp}{s':Shared}(I:Inv X pins σ H s)(hf:∀b∈fp,wN X pins H b)(J:Inv (zX X pins sc fr Nc fp s H C) pl σ' H' s'):Inv X pins σ H' s':=
 I.call' J.os J.base J.hok J.bare fun b hb=>⟨(hf b hb).2.2.2.1,(hf b hb).2.1,(hf b hb).2.2.2.2.1,(hf b hb).2.2.2.2.2⟩
theorem uc{pl:PnL}{σ' σ2:St}{H':Hp}{s':Shared}{h2:Heap}{t2:Nat}(I:Inv X pins σ H s)(J:Inv (zX X pins sc fr Nc fp s H C) pl σ' H' s')(J2:Inv X pins σ2 H' s')(hs:Heap.SameBut C s'.heap h2):Inv X pins σ2 H' { s' with heap:=h2,toks:=t2 }:=by
 have hC:s.heap.objs.size<=C:=J.ok.above;refine J2.turned (it:=C) (fun b o hb e=>(hs.2 b hb).trans e) J.free ?_ (.inr (le_trans I.sz hC)) (fun x c h z=>?_) fun p hp z=>?_
 ·intro z
  have:=I.lt
  rw[<- z] at this;exact absurd (lt_of_lt_of_le this hC) (lt_irrefl _)
 ·obtain⟨v,hv⟩:=I.cell x c h
  have:=hv.lt
  rw[z] at this;exact absurd (lt_of_lt_of_le this hC) (lt_irrefl _)
 ·have:=I.pin_lt hp
  rw[z] at this;exact absurd (lt_of_lt_of_le this hC) (lt_irrefl _)
def zk6:TT:=fun _ H Q=>Q true H
structure PIf(X:Cx)(ifs:List Expr)(t:TT):Prop where
 run:∀(pins:PnL) (s:Shared) (σ : St) (H:Hp) (Q:Bool->Hp->Prop),Inv X pins σ H s->t σ H Q->
  wpAny (model X.prog X.w) X.A (forIn ifs true fun c r=>if r=true then do let ok <- isTrue c X.env (eval c X.env);pure (ForInStep.yield ok) else pure (ForInStep.yield r)) (TP X pins σ Q) X.xe s
instance {X:Cx}{ifs:List Expr}{t:TT}:CoeFun (PIf X ifs t) (fun _=>∀(pins:PnL) (s:Shared) (σ : St) (H:Hp) (Q:Bool->Hp->Prop),Inv X pins σ H s->t σ H Q->
  wpAny (model X.prog X.w) X.A (forIn ifs true fun c r=>if r=true then do let ok <- isTrue c X.env (eval c X.env);pure (ForInStep.yield ok) else pure (ForInStep.yield r)) (TP X pins σ Q) X.xe s):=⟨PIf.run⟩
theorem yA{X:Cx}:PIf X [] zk6:=⟨fun _ _ _ H _ I h=>wpAny_tests_nil ⟨H,I,h⟩⟩
theorem vT{X:Cx}{c:Expr}{t:TT}(hc:PT X c t):PIf X [c] t:=⟨fun pins s σ H Q I h=>wpAny_tests_one (hc pins s σ H Q I h)⟩
def qK(g:TG)(ow:List Nat):Prop:=
 ∀(v:V) (σ : St) (H:Hp) (Q:St->Hp->Prop),g v σ H Q->g v σ H fun σ2 H2=>Q σ2 H2/\σ2.length=σ.length/\∀i,i∉ow->σ2[i]?=σ[i]?
theorem z5(i:Nat):qK (yc i) [i]:=fun v σ H Q h=>⟨h,length_set ..,fun j hj=>getElem?_set_ne (fun e=>hj (by simp [e]))⟩
theorem jg{K:Frag}{n:Nat}(i j:Nat):qK (zl0 K n (zgE (yc i) (zgE (yc j) zl1))) [i,j]:=by
 rintro v σ H Q ⟨a,xs,e1,e2,e3,v1,r1,e4,v2,r2,e5,e6,q⟩;refine⟨a,xs,e1,e2,e3,v1,r1,e4,v2,r2,e5,e6,q,by rw[length_set,length_set],fun k hk=>?_⟩
 have h1:i≠k:=fun e=>hk (by simp [e])
 have h2:j≠k:=fun e=>hk (by simp [e])
 rw[getElem?_set_ne h2,getElem?_set_ne h1]
variable {prog:Program}{w:World}{A:Around}{R:Result->Shared->Prop}
theorem qQ{elt target iter:Expr}{ifs:List Expr}{scope:Scope}{pos:Pos}{it acc:Value}{env:Env}(Ex:VSP)(hE:∀e s,Ex e s->notedBy (model prog w) A env (fun x s'=>R (.error x) s') e s)(I:Nat->Shared->Prop)
  (turn:∀n s,I n s->wpAny (model prog w) A (pyNext it) (fun r s₁=>match r with
   | none=>R (.ok .next) s₁
   | some v=>wpAny (model prog w) A (letOwnedTupleGo target it v) (fun _ s₀=>wpAny (model prog w) A (assign target env v) (fun _ s₂=>
     wpAny (model prog w) A (forIn ifs true fun c r=>if r=true then do let ok <- isTrue c env (eval c env);pure (ForInStep.yield ok) else pure (ForInStep.yield r)) (fun ok s₃=>
      if ok=true then wpAny (model prog w) A (eval elt env) (fun x s₄=>
       wpAny (model prog w) A (call (.builtin "list.append") [acc,x]) (fun _ s₅=>∃m,m<n/\I m s₅) Ex s₄) Ex s₃
      else ∃m,m<n/\I m s₃) Ex s₂) Ex s₀) Ex s₁) Ex s)
  (n:Nat) (h:I n s) :
  codeAny (model prog w) A (.compLoop (.ListComp elt [⟨target,iter,ifs,0⟩] scope pos) 0 it acc env) R s:=by
 refine codeAny_loop rfl I (fun n s hI=>?_) n h;show wpAny _ A ((compTurn (.ListComp elt [⟨target,iter,ifs,0⟩] scope pos) 0 it acc env).onRaise (fun x=>do noteFrame x env;theTreesLotGoes x)) _ _ s
 refine wpAny_noted ?_;rw[compTurn_list];refine zwb (wpAny_standAt (zwb (wpAny_mono (turn n s hI) (fun r s₁ h₁=>?_) hE)));cases r with
 | none=>exact zwp h₁
 | some v=>
  refine zwb (wpAny_mono h₁ (fun _ s₀ h₀=>?_) hE);refine zwb (wpAny_mono h₀ (fun _ s₂ h₂=>zwb (wpAny_mono h₂ (fun ok s₃ h₃=>?_) hE)) hE);cases ok with
  | false=>exact zwp ⟨rfl,h₃⟩
  | true=>
   exact zwb (zwb (wpAny_mono h₃ (fun x s₄ h₄=>zwb (wpAny_mono h₄ (fun _ s₅ h₅=>zwp (zwp ⟨rfl,h₅⟩)) hE)) hE))
def LCr(J:It)(caps:List (Option Nat))(g:TG)(tt:TT)(te:TE)(σ : St)(H1:Hp)(Q:VK)(D:Addr):Prop:=
 ∃W:Nat->Nat->List V->Hp->Prop,(∃m,W 0 m [] (upd H1 D (.lst [])))/\∀i m ys H,W i m ys H->
  (J.stop i H/\Q (.ref D) H)\/
  (J.go i H/\∀x H',J.yld i H x H'->g x (xk caps σ) H' fun σ2 H2=>tt σ2 H2 fun ok H3=>
   (ok=true->te σ2 H3 fun v H4=>H4 D=some (.lst ys)/\ys.length<sizeLine/\∃m',m'<m/\W (i+1) m' (ys++[v]) (upd H4 D (.lst (ys++[v]))))/\
   (ok=false->∃m',m'<m/\W (i+1) m' ys H3))
def tLC(wi:TI)(caps:List (Option Nat))(g:TG)(tt:TT)(te:TE):TE:=fun σ H Q=>wi σ H fun J H1=>∀D,H1 D=none->LCr J caps g tt te σ H1 Q D
variable {caps:List (Option Nat)}{elt tg iter:Expr}{ifs:List Expr}{g:TG}{tt:TT}{te:TE}{ow:List Nat}{pos pos2:Pos}{E:VSP}
theorem zat{H2:Hp}{it:Addr}{fp:List Addr}{tn:Nat->Heap->Prop}{J:It}{Q:VK}{RR:Value->Addr->Result->Shared->Prop}
  (hc:X.calm=true) (B:yH X.env sc fr) (go:qK g ow) (how:(ow.all fun i=>caps[i]?==some none)=true) (hcap:wz X.N Nc caps X.env sc fr=true) (hlen:caps.length=Nc.length)
  (Ex:Addr->Addr->Value->Shared->Prop) (hb:∀D C,PG ((zX X pins sc fr Nc fp s H2 C).wish (Ex D C)) tg g/\PIf ((zX X pins sc fr Nc fp s H2 C).wish (Ex D C)) ifs tt/\PE ((zX X pins sc fr Nc fp s H2 C).wish (Ex D C)) elt te)
  (I2:Inv X pins σ H2 s) (T:qV X.prog X.w X.K tg J fp it tn) (st2:tn 0 s.heap) (f2:∀b∈fp,wN X pins H2 b) (h:∀D,H2 D=none->LCr J caps g tt te σ H2 Q D)
  (hE:∀D C e s',Ex D C e s'->notedBy (model X.prog X.w) X.A (compEnvC sc (clB X.env fr) C X.env) (fun x s3=>RR (.ref D) C (.error x) s3) e s')
  (fin:∀(D C:Addr) (σ':St) (H':Hp) (s':Shared),Inv (zX X pins sc fr Nc fp s H2 C) [] σ' H' s'->Q (.ref D) H'->RR (.ref D) C (.ok .next) s') :
  wpAny (model X.prog X.w) X.A (newList []) (fun acc s₃=>wpAny (model X.prog X.w) X.A (newFunctionEnv sc X.env.globals (clB X.env fr) [] X.env.qual none .none (some X.env)) (fun cenv s₄=>
   codeAny (model X.prog X.w) X.A (.compStart (.ListComp elt [⟨tg,iter,ifs,0⟩] sc pos) 0 (.ref it) acc { cenv with scope:=relabel sc X.env }) (RR acc cenv.locals) s₄) E s₃) E s:=by
 have hcell:∀y∈sc.names,y.2≠.cell:=fun y hy=>by
  have h3:=List.all_eq_true.mp B.names _ hy;simp only[Bool.and_eq_true,bne_iff_ne,ne_eq] at h3;exact h3.1.1
 refine wpAny_newObj_type (wpAny_newFunctionEnv hcell (by intro y hy;simp at hy) (fun h₁ hns₁ hsb₁=>?_) B.kind)
 dsimp only at hns₁ hsb₁ |-;generalize hH2:s.heap.push { cls:=.type "list",dict:=none,data:=.seq ([]:List Value).toArray }=H3 at hns₁ hsb₁ |-;have hCs:H3.objs.size=s.heap.objs.size+1:=by rw[<- hH2,Heap.size_push]
 have hDC:s.heap.objs.size≠H3.objs.size:=by rw[hCs];exact ne_of_lt (lt_succ_self _)
 have hC:s.heap.objs.size<=H3.objs.size:=by rw[hCs];exact le_succ _
 have old:∀b o,s.heap.get? b=some o->h₁.get? b=some o:=fun b o e=>
  hsb₁.extBut b o (ne_of_lt (lt_of_lt_of_le (Heap.lt_size e) hC)) (zgp _ (hH2 ▸ zgp _ e))
 have hD:h₁.get? s.heap.objs.size=some { cls:=.type "list",data:=.seq ([]:List Value).toArray }:=hsb₁.extBut _ _ hDC (zgp _ (hH2 ▸ zgs _ rfl));have ho:∀b∈fp,∃o,s.heap.get? b=some o:=fun b hb'=>let ⟨o,e,_⟩:=T.obj 0 _ st2 b hb';⟨o,e⟩
 let CC:Cx:=zX X pins sc fr Nc fp s H2 H3.objs.size
 let xb:Value->Shared->Prop:=Ex s.heap.objs.size H3.objs.size
 have I4:∀t',Inv (CC.wish xb) [] (xk caps σ) (upd H2 s.heap.objs.size (.lst [])) { s with heap:=h₁,toks:=t' }:=fun t'=>
  (zdb I2 B f2 ho hC (le_refl _) hDC old hD hns₁ hcap hlen).wish xb
 have ok:=(I4 0).ok;obtain⟨hbg,hbt,hbe⟩:=hb s.heap.objs.size H3.objs.size;obtain⟨W,⟨m0,w0⟩,turn⟩:=h s.heap.objs.size (I2.hok.fresh (le_refl _));have stat:∀{H':Hp},(∀b∈fp,H' b=none)->∀b∈fp,wN (CC.wish xb) [] H' b:=fun hn b hb'=>
  ⟨hn b hb',(ok.exf b hb').1,ok.exfs b hb',.inl hb',(ok.exf b hb').2,fun p hp=>(f2 b hb').2.2.2.2.2 p (by have hp':p∈(X.pn++pins)++[]:=hp;simpa using hp')⟩
 have hfp0:∀b∈fp,upd H2 s.heap.objs.size (.lst []) b=none:=fun b hb'=>by
  obtain⟨o,e⟩:=ho b hb';rw[zv (ne_of_lt (Heap.lt_size e))];exact(f2 b hb').1
 have loop:∀s₃:Shared,s₃={ s with heap:=h₁,toks:=s.toks+([]:List (Str×Value)).length }->
   codeAny (model X.prog X.w) X.A (.compLoop (.ListComp elt [⟨tg,iter,ifs,0⟩] sc pos) 0 (.ref it) (.ref s.heap.objs.size) (compEnvC sc (clB X.env fr) H3.objs.size X.env)) (RR (.ref s.heap.objs.size) H3.objs.size) s₃:=by
  rintro s₃ rfl;refine qQ xb (hE _ _) (fun n s'=>∃i σ' H' ys,Inv (CC.wish xb) [] σ' H' s'/\tn i s'.heap/\(∀b∈fp,H' b=none)/\W i n ys H'/\
   (∀(k:Nat) (v:V),(xk caps σ)[k]?=some (some v)->σ'[k]?=some (some v))) ?_ m0
   ⟨0,_,_,[],I4 _,T.keep _ _ _ st2 (fun b _ o e=>old b o e),hfp0,w0,fun _ _ e=>e⟩
  rintro n s3 ⟨i,σ3,H4,ys,I3,st3,fr3,w3,wk3⟩;have I3':Inv (CC.wish xb) [] (xk caps σ) H4 s3:=I3.weak (by rw[I3.len];exact(I4 0).len) wk3
  rcases turn i n ys H4 w3 with ⟨stop,qn⟩|⟨gg,step⟩
  ·refine thn (T.done (CC.wish xb) rfl rfl rfl hc i [] s3 _ H4 xb I3' (stat fr3) st3 stop) fun r s4 ⟨hr,I4'⟩=>?_
   subst hr;exact fin _ _ _ _ _ I4'.unwish qn
  ·refine thn (T.item (CC.wish xb) rfl rfl rfl hc i [] s3 _ H4 xb I3' (stat fr3) st3 gg) fun r s4 ⟨u,hr,h4⟩=>?_
   subst hr;refine thn h4 fun _ s5 ⟨x,H5,I5,r5,y5,st5,fr5⟩=>?_;have I5':=I5.pinned (stat fr5) (T.obj _ _ st5);refine thn (hbg _ s5 _ H5 x u _ I5' r5 (go _ _ _ _ (step x H5 y5))) fun _ s6 ⟨σ6,H6,I6,q6,l6,k6⟩=>?_;have wk6:∀(k:Nat) (v:V),(xk caps σ)[k]?=some (some v)->σ6[k]?=some (some v):=fun k v e=>by
    rw[k6 k fun hk=>?_]
    ·exact e
    ·have h1:=List.all_eq_true.mp how k hk
     have h2:caps[k]?=some none:=by simpa using h1
     unfold xk at e;rw[getElem?_map,h2] at e;cases e
   refine thn (hbt _ s6 σ6 H6 _ I6 q6) fun ok s7 ⟨H7,I7,q7⟩=>?_;have again:∀{H8:Hp}{s8:Shared}{ys':List V},Inv (CC.wish xb) ([]++jb fp s5.heap) σ6 H8 s8->(∃m',m'<n/\W (i+1) m' ys' H8)->
     ∃m,m<n/\∃i σ' H' ys,Inv (CC.wish xb) [] σ' H' s8/\tn i s8.heap/\(∀b∈fp,H' b=none)/\W i m ys H'/\(∀(k:Nat) (v:V),(xk caps σ)[k]?=some (some v)->σ'[k]?=some (some v)):=fun {H8 s8 ys'} I8 ⟨m',hm,w8⟩=>by
    refine⟨m',hm,i+1,σ6,H8,ys',I8.unpinned,T.keep _ _ _ st5 fun b hb' o e=>(I8.pin (b,o) (mem_append_right _ (mem_append_right _ (xK hb' e)))).1,fun b hb'=>?_,w8,wk6⟩;obtain⟨o,e,d⟩:=T.obj _ _ st5 b hb';exact(I8.pin (b,o) (mem_append_right _ (mem_append_right _ (xK hb' e)))).2.1
   cases ok with
   | false=>
    rw[if_neg zft];exact again I7 (q7.2 rfl)
   | true=>
    rw[if_pos rfl];refine thn (hbe _ s7 σ6 H7 _ I7 (q7.1 rfl)) fun uv s8 ⟨v,H8,I8,r8,hD8,hz,q8⟩=>?_;refine thn (z9 (X:=CC.wish xb) _ s8 σ6 H8 (.ref s.heap.objs.size) [v] _ [uv] (fun _ H'=>H'=upd H8 s.heap.objs.size (.lst (ys++[v]))) I8 rfl (.cons r8 .nil) ⟨_,ys,v,rfl,rfl,hD8,hz,rfl⟩) fun _ s9 ⟨_,H9,I9,_,e9⟩=>?_;subst e9;exact again I9 q8
 exact codeAny_compStart_list (loop _ rfl) (T.self _ 0 _ _ _ (T.keep _ _ _ st2 (fun b _ o e=>old b o e)) (loop _ rfl))
theorem zcf{H2:Hp}{it:Addr}{fp:List Addr}{tn:Nat->Heap->Prop}{J:It}{Q:VK}{RR:Value->Addr->Result->Shared->Prop}
  (hc:X.calm=true) (B:yH X.env sc fr) (go:qK g ow) (how:(ow.all fun i=>caps[i]?==some none)=true) (hcap:wz X.N Nc caps X.env sc fr=true) (hlen:caps.length=Nc.length)
  (hb:∀(pins:PnL) (fp:List Addr) (s:Shared) (H:Hp) (C:Addr),PG (zX X pins sc fr Nc fp s H C) tg g/\PIf (zX X pins sc fr Nc fp s H C) ifs tt/\PE (zX X pins sc fr Nc fp s H C) elt te)
  (I2:Inv X pins σ H2 s) (T:qV X.prog X.w X.K tg J fp it tn) (st2:tn 0 s.heap) (f2:∀b∈fp,wN X pins H2 b) (h:∀D,H2 D=none->LCr J caps g tt te σ H2 Q D)
  (fin:∀(D C:Addr) (σ':St) (H':Hp) (s':Shared),Inv (zX X pins sc fr Nc fp s H2 C) [] σ' H' s'->Q (.ref D) H'->RR (.ref D) C (.ok .next) s') :
  wpAny (model X.prog X.w) X.A (newList []) (fun acc s₃=>wpAny (model X.prog X.w) X.A (newFunctionEnv sc X.env.globals (clB X.env fr) [] X.env.qual none .none (some X.env)) (fun cenv s₄=>
   codeAny (model X.prog X.w) X.A (.compStart (.ListComp elt [⟨tg,iter,ifs,0⟩] sc pos) 0 (.ref it) acc { cenv with scope:=relabel sc X.env }) (RR acc cenv.locals) s₄) E s₃) E s:=
 zat hc B go how hcap hlen (fun _ _ _ _=>False) (fun _ C=>hb pins fp s H2 C) I2 T st2 f2 h (fun _ _ _ _ z=>z.elim) fin
theorem yH.loc{env:Env}(B:yH env sc fr):∀x∈sc.names,x.2=.local->sc.names.lookup x.1=some .local:=fun y hy e=>by
 have h3:=List.all_eq_true.mp B.names _ hy;simp only[Bool.and_eq_true,Bool.or_eq_true,bne_iff_ne,ne_eq,beq_iff_eq] at h3;rcases h3.2 with z|z
 ·exact absurd e z
 ·exact z
theorem xY{wi:TI}(fr Nc:List Str)(caps:List (Option Nat))(hc:X.calm=true)(B:yH X.env sc fr)(hi:PI X tg iter wi)(go:qK g ow)(how:(ow.all fun i=>caps[i]?==some none)=true)
  (hcap:wz X.N Nc caps X.env sc fr=true) (hlen:caps.length=Nc.length)
  (hb:∀(pins:PnL) (fp:List Addr) (s:Shared) (H:Hp) (C:Addr),PG (zX X pins sc fr Nc fp s H C) tg g/\PIf (zX X pins sc fr Nc fp s H C) ifs tt/\PE (zX X pins sc fr Nc fp s H C) elt te)
  (hs:∀x,foldedSetIterable iter X.env x=pure x:=by intro _;rfl):PE X (.ListComp elt [⟨tg,iter,ifs,0⟩] sc pos) (tLC wi caps g tt te):=by
 refine⟨?_⟩;intro pins s σ H Q I h;rw[eval_ListComp];refine wpAny_comprehension_free (use:=none) rfl hs B.clos B.kind B.loc (thn (hi pins s σ H _ I h) fun v s1 h1=>thn h1 fun itv s2 h2=>?_);obtain⟨it,fp,tn,J,H2,e,I2,T,st2,f2,q⟩:=h2;subst e;refine zcf (RR:=fun acc C=>compPost (model X.prog X.w) X.A X.xe none (EP X pins σ Q) acc C) hc B go how hcap hlen hb I2 T st2 f2 q ?_;intro D C σ' H' s' J' qq;obtain⟨m,hn,_⟩:=J'.loc;exact⟨m,hn,fun h' hs'=>⟨.ref D,H',uc I2 J' (wg I2 f2 J') hs',rfl,qq⟩⟩
theorem zae{wi:TI}{i:Nat}{x:Str}{pos':Pos}(fr Nc:List Str)(caps:List (Option Nat))(hN:X.N.Nodup)(hix:X.N[i]?=some x)(hx:Loc X.env.scope x)(hc:X.calm=true)(B:yH X.env sc fr)(hi:PI X tg iter wi)(go:qK g ow)(how:(ow.all fun i=>caps[i]?==some none)=true)
  (hcap:wz X.N Nc caps X.env sc fr=true) (hlen:caps.length=Nc.length)
  (hb:∀(pins:PnL) (fp:List Addr) (s:Shared) (H:Hp) (C:Addr),PG (zX X pins sc fr Nc fp s H C) tg g/\PIf (zX X pins sc fr Nc fp s H C) ifs tt/\PE (zX X pins sc fr Nc fp s H C) elt te)
  (hsw:swapsWith (.ListComp elt [⟨tg,iter,ifs,0⟩] sc pos) (some (.Name x pos')) pos2.line X.env=pure true:=by rfl)
  (hs:∀x,foldedSetIterable iter X.env x=pure x:=by intro _;rfl) (hf:X.fn x=true\/X.env.scope.names.lookup x=some .local:=by first|exact .inl rfl|exact .inr rfl|assumption) :
  PS X (.Assign [.Name x pos'] (.ListComp elt [⟨tg,iter,ifs,0⟩] sc pos) pos2) (zef (tLC wi caps g tt te) (yc i)):=by
 refine⟨?_⟩;intro pins s σ H D0 I h;rw[exec_Assign_Name_used _ _ _ _ hsw];refine zwb (wpAny_standAt (zwb ?_));show wpAny _ X.A (do let _ <- comprehension (.ListComp elt [⟨tg,iter,ifs,0⟩] sc pos) sc X.env _ (newList []) false (eval iter X.env) (some (assign (.Name x pos') X.env))) _ _ s
 refine zwb (wpAny_mono (wpAny_comprehension_free (use:=some (assign (.Name x pos') X.env)) (Q:=fun _ s'=>SP X pins D0 .next s') rfl hs B.clos B.kind B.loc
  (thn (hi pins s σ H _ I h) fun v s1 h1=>thn h1 fun itv s2 h2=>?_)) (fun _ s' hq=>zwp (zwp hq)) fun _ _ e=>e)
 obtain⟨it,fp,tn,J,H2,e,I2,T,st2,f2,q⟩:=h2;subst e;refine zcf (Q:=fun v H1=>yc i v σ H1 D0.nx) (RR:=fun acc C=>compPost (model X.prog X.w) X.A X.xe (some (assign (.Name x pos') X.env)) (fun _ s'=>SP X pins D0 .next s') acc C) hc B go how hcap hlen hb I2 T st2 f2 q ?_;intro D C σ' H' s' J' qq;have I':=wg I2 f2 J';obtain⟨m,hn,_⟩:=J'.loc;have hC:s2.heap.objs.size<=C:=J'.ok.above;show wpAny _ X.A (assign (.Name x pos') X.env (.ref D)) _ _ s';refine wpAny_assign_Name (u6 (v:=.ref D) I' hN hix hx rfl (fun s'' I'' ⟨a,sb,ha⟩=>?_) hf);have haC:C≠a:=by
  rintro rfl;rcases ha with z|z
  ·have:=I2.lt
   rw[<- z] at this;exact absurd (lt_of_lt_of_le this hC) (lt_irrefl _)
  ·obtain⟨v,hv⟩:=I2.cell x C z
   exact absurd (lt_of_lt_of_le hv.lt hC) (lt_irrefl _)
 have hCH:H' C=none:=J'.free;refine⟨m,hn.sameBut sb haC,fun h' hs'=>⟨_,H',?_,qq⟩⟩;refine I''.turned (it:=C) (t':=s''.toks) (fun b o hb e=>(hs'.2 b hb).trans e) hCH ?_ (.inr (le_trans I2.sz hC)) (fun x c h z=>?_) fun p hp z=>?_
 ·intro z
  have:=I2.lt
  rw[<- z] at this;exact absurd (lt_of_lt_of_le this hC) (lt_irrefl _)
 ·obtain⟨v,hv⟩:=I2.cell x c h
  have:=hv.lt
  rw[z] at this;exact absurd (lt_of_lt_of_le this hC) (lt_irrefl _)
 ·have:=I2.pin_lt hp
  rw[z] at this;exact absurd (lt_of_lt_of_le this hC) (lt_irrefl _)
def Its(z:Str):It:=⟨fun i _=>i<z.cps.size,fun i H x H'=>H'=H/\∃c,z.cps[i]?=some c/\x=.str ⟨#[c]⟩,fun i _=>z.cps.size<=i⟩
theorem ze4{P:Program}{w:World}{K:Frag}{tg:Expr}(it:Addr)(z:Str)(t:Tok):qV P w K tg (Its z) [it] it (fun i h=>h.IsStrIter it (strIterType z) z t i) where
 mem:=by simp
 obj:=fun i h st b hb=>by
  have e:b=it:=by simpa using hb
  subst e;obtain⟨o,e,_,d⟩:=st;exact⟨o,e,fun v q=>by rw[d] at q;cases q⟩
 keep:=fun i h h' st k=>by
  obtain⟨o,e,r⟩:=st;exact⟨o,k it (by simp) o e,r⟩
 item:=by
  intro X hP hw hK hc i pins s σ H E I hf st hg;subst hP hw hK;obtain⟨f0,f1,f2,f3,f4,f5⟩:=hf it (by simp)
  have hi:i<z.cps.size:=hg;have hx:z.cps[i]?=some z.cps[i]:=by simp [hi]
  have fin:∀h',h'.IsStrIter it (strIterType z) z t (i+1)->Heap.SameBut it s.heap h'->
    ∃u,some (Value.str ⟨#[z.cps[i]]⟩ s.toks)=some u/\wpAny (model X.prog X.w) X.A (letOwnedTupleGo tg (.ref it) u) (fun _ s2=>∃x H',Inv X pins σ H' s2/\yj x u/\(Its z).yld i H x H'/\s2.heap.IsStrIter it (strIterType z) z t (i+1)/\∀b∈[it],H' b=none) E { s with heap:=h',toks:=s.toks+1 }:=fun h' hit hs=>by
   have I1:Inv X pins σ H { s with heap:=h',toks:=s.toks+1 }:=I.turned (fun b o hb e=>(hs.2 b hb).trans e) f0 f1 f3 f4 f5
   obtain⟨o,e1,e2,e3⟩:=id hit;refine⟨_,rfl,zgC (s:={ s with heap:=h',toks:=s.toks+1 }) e1 e2 e3 ?_ ⟨.str ⟨#[z.cps[i]]⟩,H,I1,⟨_,rfl⟩,⟨rfl,_,hx,rfl⟩,hit,fun b hb=>(hf b hb).1⟩⟩
   unfold strIterType;split <;> decide
  cases ha:z.cps.all (·<128)
  ·have e:strIterType z="str_iterator":=by simp [strIterType,ha]
   rw[e] at st;exact wpAny_pyNext_wide_item st hx fun h' a b=>fin h' (e.symm ▸ a) b
  ·have e:strIterType z="str_ascii_iterator":=by simp [strIterType,ha]
   rw[e] at st;exact wpAny_pyNext_ascii_item st hx fun h' a b=>fin h' (e.symm ▸ a) b
 done:=by
  intro X hP hw hK hc i pins s σ H E I hf st hg;subst hP hw hK;obtain⟨f0,f1,f2,f3,f4,f5⟩:=hf it (by simp)
  have hi:z.cps.size<=i:=hg;have hx:z.cps[i]?=none:=by simp [hi]
  have fin:∀h',Heap.ExtBut it s.heap h'->(none:Option Value)=none/\Inv X pins σ H { s with heap:=h' }:=fun h' eb=>⟨rfl,I.turned (t':=s.toks) (fun b o hb e=>eb b o hb e) f0 f1 f3 f4 f5⟩
  cases ha:z.cps.all (·<128)
  ·have e:strIterType z="str_iterator":=by simp [strIterType,ha]
   rw[e] at st;exact wpAny_pyNext_wide_end (I.ok.hd hc) st hx fin
  ·have e:strIterType z="str_ascii_iterator":=by simp [strIterType,ha]
   rw[e] at st;exact wpAny_pyNext_ascii_end (I.ok.hd hc) st hx fin
 self:=fun A i s Q E st h=>by
  cases ha:z.cps.all (·<128)
  ·have e:strIterType z="str_iterator":=by simp [strIterType,ha]
   rw[e] at st;exact wpAny_pyIter_striter_wide st h
  ·have e:strIterType z="str_ascii_iterator":=by simp [strIterType,ha]
   rw[e] at st;exact wpAny_pyIter_striter_ascii st h
def zm1(tl:TE):TI:=fun σ H R=>tl σ H fun x H1=>∃z,x=.str z/\R (Its z) H1
theorem zaY{l:Expr}{tl:TE}(hl:PE X l tl):PI X tg l (zm1 tl):=by
 refine⟨?_⟩;intro pins s σ H R I h;refine thn (hl pins s σ H _ I h) fun v s1 ⟨x,H1,I1,r1,q1⟩=>?_;obtain⟨z,e,q⟩:=q1;subst e;obtain⟨t,rfl⟩:=r1;refine wpAny_pyIter_strU ?_;refine⟨s1.heap.objs.size,[s1.heap.objs.size],_,_,H1,rfl,I1.kept (t':=s1.toks) fun b o e=>zgp _ e,ze4 _ z t,⟨_,zgs _ rfl,rfl,rfl⟩,fun b hb=>?_,q⟩;have e:b=s1.heap.objs.size:=by simpa using hb
 subst e;exact I1.fpOk (le_refl _) (I1.hok.fresh (le_refl _))
def zkd:V->Option Int->Option Int->Hp->VK->Prop:=fun x lo hi H Q=>∃z,x=.str z/\z.length<=sizeLine/\Q (.str (Txt.slice z lo hi)) H
theorem yy:SlR X zkd:=by
 intro pins s σ H x v vl vu lo hi sl Q I rx hs pl pu h;obtain⟨z,rfl,hz,q⟩:=h;obtain⟨t,rfl⟩:=rx;refine⟨"str",_,F.slot_str_getitem.lookup,typeIs_str _ _ _,?_⟩;have fin:∀t' k,EP X pins σ Q (.str (Txt.slice z lo hi) t') { s with toks:=k }:=fun t' k=>⟨.str (Txt.slice z lo hi),H,I.tok k,⟨t',rfl⟩,q⟩
 cases pl with
 | none=>
  cases pu with
  | none=>exact wpAny_getItem_str_slice (l:=none) (u:=none) (st:=none) hs rfl (post_val_or_str ⟨le_trans (Txt.slice_le z _ _) hz,fin⟩)
  | int j tj=>exact wpAny_getItem_str_slice (l:=none) (u:=some (j,tj)) (st:=none) hs rfl (post_val_or_str ⟨le_trans (Txt.slice_le z _ _) hz,fin⟩)
 | int i ti=>
  cases pu with
  | none=>exact wpAny_getItem_str_slice (l:=some (i,ti)) (u:=none) (st:=none) hs rfl (post_val_or_str ⟨le_trans (Txt.slice_le z _ _) hz,fin⟩)
  | int j tj=>exact wpAny_getItem_str_slice (l:=some (i,ti)) (u:=some (j,tj)) (st:=none) hs rfl (post_val_or_str ⟨le_trans (Txt.slice_le z _ _) hz,fin⟩)
theorem zaw(hc:X.calm=true):xp X (.builtin "all") (fun xs H Q=>∃(p:Addr) (bs:List Bool),xs=[.ref p]/\SqL X.K H p (bs.map V.bl)/\Q (.bl (bs.all id)) H):=by
 intro pins s σ H xs us Q I r h;obtain⟨p,bs,rfl,hS,q⟩:=h;obtain⟨u,rfl,ru⟩:=wP r;cases ru;obtain⟨its,rv,hp,hz⟩:=I.list hS;have hlen:its.length=bs.length:=by rw[<- rv.length,length_map]
 have hne:p≠s.heap.objs.size:=ne_of_lt (by obtain⟨_,e,_⟩:=hp.isList;exact Heap.lt_size e)
 refine call_all_walk (wpAny_pyIter_list hp.isList ?_);refine⟨s.heap.objs.size,_,_,_,_,_,fun i=>bs.getD i false,rfl,Walks.list (A:=X.A.in1) (I.ok.hd hc) s.heap.objs.size p hne its.toArray,⟨⟨_,zgs _ rfl,rfl,rfl⟩,hp.isList.push _⟩,?_,fun h' tk k=>?_⟩
 ·intro i v s' Q' E' hP hQ
  have hv:its[i]?=some v:=by simpa using hP
  have hi:i<bs.length:=by rw[<- hlen];exact(List.getElem?_eq_some_iff.mp hv).1
  obtain⟨u',e1,e2⟩:=rv.get (i:=i) (x:=V.bl bs[i]) (by rw[getElem?_map,getElem?_eq_getElem hi];rfl)
  rw[hv] at e1;cases e1;cases e2;refine wpAny_truthy_bool ?_
  have:bs.getD i false=bs[i]:=by rw[getD_eq_getElem?_getD,getElem?_eq_getElem hi];rfl
  rw[<- this];exact hQ
 ·have e:((List.range its.toArray.size).all fun i=>bs.getD i false)=bs.all id:=by
   rw[size_toArray,hlen,Bool.eq_iff_iff,all_eq_true,all_eq_true];constructor
   ·intro hh b hb
    obtain⟨i,hi,rfl⟩:=List.getElem_of_mem hb
    have:=hh i (List.mem_range.mpr hi)
    rw[getD_eq_getElem?_getD,getElem?_eq_getElem hi] at this;exact this
   ·intro hh i hi
    have hi':=List.mem_range.mp hi;rw[getD_eq_getElem?_getD,getElem?_eq_getElem hi'];exact hh _ (getElem_mem hi')
  rw[e];exact⟨.bl (bs.all id),H,I.kept (h':=h') (t':=tk) (fun b o q=>k b o (fun hm=>by
   have e:b=s.heap.objs.size:=by simpa using hm
   exact absurd (Heap.lt_size q) (by rw[e];exact lt_irrefl _)) (zgp _ q)),rfl,q⟩
theorem jw:xp X (.builtin "isinstance") (fun xs H Q=>∃x T t b,xs=[x,.ty T]/\wA X.K H x t/\kitOne X.K t (.type T)=some b/\Q (.bl b) H):=by
 intro pins s σ H xs us Q I r h;obtain⟨x,T,t,b,rfl,ty,e,q⟩:=h;obtain⟨u,w',rfl,ru,rw'⟩:=zbn r;cases rw';exact zeJ I ru ty e fun tk=>⟨.bl b,H,I.tok tk,rfl,q⟩
def xB:Expr->Bool
 | .Starred ..=>true
 | _=>false
theorem yk{e:Expr}{es:List Expr}{env:Env}(h:xB e=false):starEach (e::es) env=(false,eval e env)::starEach es env:=by
 cases e <;> first|rfl|cases h
theorem xh{env:Env}{pos:Pos}:∀{es:List Expr},es.any xB=false->(backTo pos (starEach es env)).any (·.1)=false
 | [],_=>rfl
 | e::es,h=>by
  rw[any_cons,Bool.or_eq_false_iff] at h;rw[yk h.1];show(false||(backTo pos (starEach es env)).any (·.1))=false
  rw[xh h.2];rfl
end
section
variable {X:Cx}{CX:CXT}{k:Nat}{f C:Addr}{fd:FuncData}{ps:List Str}{sp:Sp}{dvs:List V}{ds:List Value}{E:XK}{x m:Str}{p pos apos:Pos}{e o:Expr}{es:List Expr}{te ta:TE}{t:TA}{id T:String}{r:List V->Hp->VK->Prop}
theorem ac(ha:PE X e te)(hr:PA X es t)(h:xB e=false:=by rfl):PA X (e::es) (xM te t):=zhL ha hr (yk h)
theorem cB(hc:xp X (.builtin id) r)(hm:X.mg x=none)(hv:bootBuiltins x=some (.builtin id))(ha:PA X (e::es) t)(hg:Gl X x:=by rfl)(hn:x≠"__name__":=by decide)(hdb:(x==("__debug__" : Str))=false:=by decide)
  (h1:xB e=false:=by rfl) (h2:es.any xB=false:=by rfl):PE X (.Call (.Name x p) (e::es) [] pos) (tCB r t):=zf5 hc hg hm hv ha hn hdb (yk h1) (xh h2)
theorem cTy(hc:xp X (.type T) r)(hm:X.mg x=none)(hv:bootBuiltins x=some (.type T))(ha:PA X (e::es) t)(hg:Gl X x:=by rfl)(hn:x≠"__name__":=by decide)(hdb:(x==("__debug__" : Str))=false:=by decide)
  (h1:xB e=false:=by rfl) (h2:es.any xB=false:=by rfl):PE X (.Call (.Name x p) (e::es) [] pos) (tCB r t):=zep hc hg hm hv ha hn hdb (yk h1) (xh h2)
structure z8(P:Program)(w:World)(K:Frag)(mg:Str->Option Value)(base:Heap)(k:Nat)(x:Str)(f:Addr)(fd:FuncData)(ps:List Str)(sp:Sp):Prop where
 ok:zL P w K mg base CX0 k f fd ps sp
 mg:mg x=some (.ref f)
 kp:keepIn K (.ref f)=true
 bd:yt K fd ps []
theorem cF(c:z8 X.prog X.w X.K X.mg X.base k x f fd ps sp)(hr:yh k X.A)(ha:PA X (e::es) t)(hg:Gl X x:=by rfl)(hdb:(x==("__debug__" : Str))=false:=by decide)
  (h1:xB e=false:=by rfl) (h2:es.any xB=false:=by rfl):PE X (.Call (.Name x p) (e::es) [] pos) (jp sp [] E0 t):=
 za2 c.ok hr hg c.mg c.kp c.bd .nil xx ha hdb (yk h1) (xh h2)
end
end L2
namespace L2
open PySem PyProof.Rows
theorem jF(K:Frag):kitOne K (.type "NoneType") (.type "str")=some false:=by kernel_rfl
theorem zc3(K:Frag):kitOne K (.type "int") (.type "str")=some false:=by kernel_rfl
theorem zbZ(K:Frag):kitOne K (.type "bool") (.type "str")=some false:=by kernel_rfl
theorem za7(K:Frag):kitOne K (.type "bool") (.type "bool")=some true:=by kernel_rfl
theorem zc2(K:Frag):kitOne K (.type "str") (.type "str")=some true:=by kernel_rfl
theorem zbX(K:Frag):kitOne K (.type "list") (.type "str")=some false:=by kernel_rfl
theorem za6(K:Frag):kitOne K (.type "tuple") (.type "str")=some false:=by kernel_rfl
theorem zbY(K:Frag):kitOne K (.type "dict") (.type "str")=some false:=by kernel_rfl
end L2
namespace L2
open PySem PySem.Spec PyProof.Rows
inductive Dt where
 | non|bl (b:Bool)|int (i:Int)|str (z:Str)|tup (ds:List Dt)|lst (ds:List Dt)
def jx:V->Dt->Prop
 | .non,.non=>True
 | .bl a,.bl b=>a=b
 | .int a,.int b=>a=b
 | .str a,.str b=>a=b
 | _,_=>False
def zS(K:Frag)(ok:Addr->Prop)(H:Hp):Nat->V->Dt->Prop
 | 0,x,d=>jx x d
 | n+1,x,d=>jx x d\/(∃a xs ds,x=.ref a/\d=.tup ds/\SqT K H a xs/\Paired (zS K ok H n) xs ds)\/(∃a xs ds,x=.ref a/\d=.lst ds/\ok a/\H a=some (.lst xs)/\Paired (zS K ok H n) xs ds)
section
variable {K:Frag}{ok ok':Addr->Prop}{H H':Hp}
theorem zS.flat{n:Nat}{x:V}{d:Dt}(h:jx x d):zS K ok H n x d:=by
 cases n with
 | zero=>exact h
 | succ n=>exact .inl h
theorem zS.int{n:Nat}{i:Int}:zS K ok H n (.int i) (.int i):=.flat rfl
theorem zS.str{n:Nat}{z:Str}:zS K ok H n (.str z) (.str z):=.flat rfl
theorem zS.bl{n:Nat}{b:Bool}:zS K ok H n (.bl b) (.bl b):=.flat rfl
theorem zS.tup{n:Nat}{a:Addr}{xs:List V}{ds:List Dt}(h:SqT K H a xs)(r:Paired (zS K ok H n) xs ds):zS K ok H (n+1) (.ref a) (.tup ds):=.inr (.inl ⟨a,xs,ds,rfl,rfl,h,r⟩)
theorem zS.lst{n:Nat}{a:Addr}{xs:List V}{ds:List Dt}(o:ok a)(h:H a=some (.lst xs))(r:Paired (zS K ok H n) xs ds):zS K ok H (n+1) (.ref a) (.lst ds):=.inr (.inr ⟨a,xs,ds,rfl,rfl,o,h,r⟩)
theorem zS.frame(hT:∀a xs,SqT K H a xs->SqT K H' a xs)(hL:∀a xs,ok a->H a=some (.lst xs)->ok' a/\H' a=some (.lst xs)):∀{n:Nat}{x:V}{d:Dt},zS K ok H n x d->zS K ok' H' n x d
 | 0,_,_,h=>h
 | n+1,x,d,h=>by
  rcases h with h|⟨a,xs,ds,e1,e2,h,r⟩|⟨a,xs,ds,e1,e2,o,h,r⟩
  ·exact .inl h
  ·exact .inr (.inl ⟨a,xs,ds,e1,e2,hT a xs h,zH (fun _ _ z=>zS.frame hT hL z) r⟩)
  ·exact .inr (.inr ⟨a,xs,ds,e1,e2,(hL a xs o h).1,(hL a xs o h).2,zH (fun _ _ z=>zS.frame hT hL z) r⟩)
theorem zx.sqT{a:Addr}{xs:List V}(e:zx H H')(h:SqT K H a xs):SqT K H' a xs:=by
 rcases h with (h|⟨o,h⟩)|h
 ·exact .inl (.inl (e _ _ h))
 ·exact .inl (.inr ⟨o,e _ _ h⟩)
 ·exact .inr h
theorem zS.same{n:Nat}{x:V}{d:Dt}(e:zx H H')(h:zS K ok H n x d):zS K ok H' n x d:=h.frame (fun _ _ z=>e.sqT z) fun _ _ o z=>⟨o,e _ _ z⟩
theorem Paired.get{α β : Type}{F : α->β->Prop}:∀{l₁:List α}{l₂:List β}{i:Nat}{a : α},Paired F l₁ l₂->l₁[i]?=some a->∃b,l₂[i]?=some b/\F a b
 | _,_,_,_,.nil,e=>by simp at e
 | _,_,0,_,.cons r _,e=>by simp at e;subst e;exact⟨_,rfl,r⟩
 | _,_,i+1,a,.cons _ t,e=>by
  obtain⟨b,h1,h2⟩:=Paired.get (i:=i) (a:=a) t (by simpa using e)
  exact⟨b,by simpa using h1,h2⟩
variable {X:Cx}{pins:PnL}{σ:St}{s:Shared}
theorem zap{A:Around}{x y:V}{d:Dt}{u v:Value}(hx:jx x d)(hy:jx y d)(ru:yj x u)(rv:yj y v):SeqAt.EqAt A s u v true:=by
 cases d with
 | non=>
  cases x <;> try exact hx.elim
  cases y <;> try exact hy.elim
  cases ru;cases rv;exact SeqAt.EqAt.same _
 | bl b=>
  cases x <;> try exact hx.elim
  cases y <;> try exact hy.elim
  rename_i a c;obtain rfl:a=b:=hx;obtain rfl:c=a:=hy;cases ru;cases rv;exact SeqAt.EqAt.same _
 | int b=>
  cases x <;> try exact hx.elim
  cases y <;> try exact hy.elim
  rename_i a c;obtain rfl:a=b:=hx;obtain rfl:c=a:=hy;obtain⟨t,rfl⟩:=ru;obtain⟨t',rfl⟩:=rv
  have:=SeqAt.EqAt.int_int (A:=A) (s:=s) c t c t'
  simpa using this
 | str b=>
  cases x <;> try exact hx.elim
  cases y <;> try exact hy.elim
  rename_i a c;obtain rfl:a=b:=hx;obtain rfl:c=a:=hy;obtain⟨t,rfl⟩:=ru;obtain⟨t',rfl⟩:=rv
  have:=SeqAt.EqAt.str_str (A:=A) (s:=s) c t c t'
  simpa using this
 | tup ds=>cases x <;> exact hx.elim
 | lst ds=>cases x <;> exact hx.elim
theorem qC{a:Addr}{d:Dt}(h:jx (.ref a) d):False:=by cases d <;> exact h
theorem vN(n:Nat):((List.range n).all fun _=>true)=true:=by rw[all_eq_true];intro _ _;rfl
theorem ua(I:Inv X pins σ H s):∀(n:Nat) {A:Around}{x y:V}{d:Dt}{u v:Value},zS X.K ok H n x d->zS X.K ok' H n y d->yj x u->yj y v->A.units+n<cLine->SeqAt.EqAt A s u v true
 | 0,A,x,y,d,u,v,hx,hy,ru,rv,_=>zap hx hy ru rv
 | n+1,A,x,y,d,u,v,hx,hy,ru,rv,hu=>by
  have hin:A.in1.units+n<cLine:=by show A.units+1+n<cLine;omega
  rcases hx with hx|⟨a,xs,ds,rfl,rfl,hx,r⟩|⟨a,xs,ds,rfl,rfl,_,hx,r⟩
  ·rcases hy with hy|⟨b,ys,es,rfl,rfl,hy,q⟩|⟨b,ys,es,rfl,rfl,_,hy,q⟩
   ·exact zap hx hy ru rv
   ·cases x <;> exact hx.elim
   ·cases x <;> exact hx.elim
  ·rcases hy with hy|⟨b,ys,es,rfl,e2,hy,q⟩|⟨b,ys,es,rfl,e2,_,hy,q⟩
   ·cases y <;> exact hy.elim
   ·cases e2
    cases ru;cases rv;by_cases hab:a=b
    ·subst hab;exact SeqAt.EqAt.same _
    ·obtain⟨ia,va,pa,_⟩:=I.tuple hx
     obtain⟨ib,vb,pb,_⟩:=I.tuple hy;have la:ia.length=ds.length:=by rw[<- va.length,r.length]
     have lb:ib.length=ds.length:=by rw[<- vb.length,q.length]
     have:=SeqAt.RcAt.tuples (A:=A) (s:=s) (e:=fun _=>true) (show s.heap.IsTuple a ia.toArray from pa) (show s.heap.IsTuple b ib.toArray from pb) (by omega) (fun j h1 h2=>by
      have j1:j<ia.length:=by simpa using h1
      have j2:j<ib.length:=by simpa using h2
      have hxl:j<xs.length:=by rw[va.length];exact j1
      have hyl:j<ys.length:=by rw[vb.length];exact j2
      obtain⟨u',e1,e2⟩:=va.get (i:=j) (getElem?_eq_getElem hxl);obtain⟨v',e3,e4⟩:=vb.get (i:=j) (getElem?_eq_getElem hyl);obtain⟨d1,f1,f2⟩:=Paired.get r (getElem?_eq_getElem hxl);obtain⟨d2,f3,f4⟩:=Paired.get q (getElem?_eq_getElem hyl);rw[f1] at f3;cases f3;rw[getElem?_eq_getElem j1] at e1;rw[getElem?_eq_getElem j2] at e3;cases e1;cases e3;simpa using ua I n f2 f4 e2 e4 hin)
     rw[vN] at this;have z:(ia.toArray.size==ib.toArray.size)=true:=by simp [la,lb]
     rw[z] at this;exact SeqAt.EqAt.of_refs hab this
   ·cases e2
  ·rcases hy with hy|⟨b,ys,es,rfl,e2,hy,q⟩|⟨b,ys,es,rfl,e2,_,hy,q⟩
   ·cases y <;> exact hy.elim
   ·cases e2
   ·cases e2
    cases ru;cases rv;by_cases hab:a=b
    ·subst hab;exact SeqAt.EqAt.same _
    ·obtain⟨ia,va,pa,_⟩:=I.list (zq hx)
     obtain⟨ib,vb,pb,_⟩:=I.list (zq hy);have la:ia.length=ds.length:=by rw[<- va.length,r.length]
     have lb:ib.length=ds.length:=by rw[<- vb.length,q.length]
     have:=SeqAt.RcAt.lists (A:=A) (s:=s) (e:=fun _=>true) pa.isList pb.isList (by simp [la,lb]) (by omega) (fun j h1 h2=>by
      have j1:j<ia.length:=by simpa using h1
      have j2:j<ib.length:=by simpa using h2
      have hxl:j<xs.length:=by rw[va.length];exact j1
      have hyl:j<ys.length:=by rw[vb.length];exact j2
      obtain⟨u',e1,e2⟩:=va.get (i:=j) (getElem?_eq_getElem hxl);obtain⟨v',e3,e4⟩:=vb.get (i:=j) (getElem?_eq_getElem hyl);obtain⟨d1,f1,f2⟩:=Paired.get r (getElem?_eq_getElem hxl);obtain⟨d2,f3,f4⟩:=Paired.get q (getElem?_eq_getElem hyl);rw[f1] at f3;cases f3;rw[getElem?_eq_getElem j1] at e1;rw[getElem?_eq_getElem j2] at e3;cases e1;cases e3;simpa using ua I n f2 f4 e2 e4 hin)
     rw[vN] at this;exact SeqAt.EqAt.of_refs hab this
theorem zdA(I:Inv X pins σ H s){n:Nat}{A:Around}{a b:Addr}{d:Dt}(hx:zS X.K ok H (n+1) (.ref a) d)(hy:zS X.K ok' H (n+1) (.ref b) d)(hu:A.units+n+1<cLine):
  SeqAt.RcAt A s (.ref a) (.ref b) true/\SeqAt.RcNeAt A s (.ref a) (.ref b) false:=by
 have hin:A.in1.units+n<cLine:=by show A.units+1+n<cLine;omega
 rcases hx with hx|⟨a,xs,ds,e0,rfl,hx,r⟩|⟨a,xs,ds,e0,rfl,_,hx,r⟩
 ·exact(qC hx).elim
 ·cases e0
  rcases hy with hy|⟨b,ys,es,e1,e2,hy,q⟩|⟨b,ys,es,e1,e2,_,hy,q⟩
  ·exact(qC hy).elim
  ·cases e1;cases e2
   obtain⟨ia,va,pa,_⟩:=I.tuple hx;obtain⟨ib,vb,pb,_⟩:=I.tuple hy;have la:ia.length=ds.length:=by rw[<- va.length,r.length]
   have lb:ib.length=ds.length:=by rw[<- vb.length,q.length]
   have el:∀j (h1:j<ia.toArray.size) (h2:j<ib.toArray.size),SeqAt.EqAt A.in1 s ia.toArray[j] ib.toArray[j] true:=fun j h1 h2=>by
    have j1:j<ia.length:=by simpa using h1
    have j2:j<ib.length:=by simpa using h2
    have hxl:j<xs.length:=by rw[va.length];exact j1
    have hyl:j<ys.length:=by rw[vb.length];exact j2
    obtain⟨u',e1,e2⟩:=va.get (i:=j) (getElem?_eq_getElem hxl);obtain⟨v',e3,e4⟩:=vb.get (i:=j) (getElem?_eq_getElem hyl);obtain⟨d1,f1,f2⟩:=Paired.get r (getElem?_eq_getElem hxl);obtain⟨d2,f3,f4⟩:=Paired.get q (getElem?_eq_getElem hyl);rw[f1] at f3;cases f3;rw[getElem?_eq_getElem j1] at e1;rw[getElem?_eq_getElem j2] at e3;cases e1;cases e3;simpa using ua I n f2 f4 e2 e4 hin
   have z:(ia.toArray.size==ib.toArray.size)=true:=by simp [la,lb]
   have t1:=SeqAt.RcAt.tuples (A:=A) (s:=s) (e:=fun _=>true) (show s.heap.IsTuple a ia.toArray from pa) (show s.heap.IsTuple b ib.toArray from pb) (by omega) el
   have t2:=SeqAt.RcNeAt.tuples (A:=A) (s:=s) (e:=fun _=>true) (show s.heap.IsTuple a ia.toArray from pa) (show s.heap.IsTuple b ib.toArray from pb) (by omega) el
   rw[vN,z] at t1 t2;exact⟨t1,t2⟩
  ·cases e1;cases e2
 ·cases e0
  rcases hy with hy|⟨b,ys,es,e1,e2,hy,q⟩|⟨b,ys,es,e1,e2,_,hy,q⟩
  ·exact(qC hy).elim
  ·cases e1;cases e2
  ·cases e1;cases e2
   obtain⟨ia,va,pa,_⟩:=I.list (zq hx);obtain⟨ib,vb,pb,_⟩:=I.list (zq hy);have la:ia.length=ds.length:=by rw[<- va.length,r.length]
   have lb:ib.length=ds.length:=by rw[<- vb.length,q.length]
   have el:∀j (h1:j<ia.toArray.size) (h2:j<ib.toArray.size),SeqAt.EqAt A.in1 s ia.toArray[j] ib.toArray[j] true:=fun j h1 h2=>by
    have j1:j<ia.length:=by simpa using h1
    have j2:j<ib.length:=by simpa using h2
    have hxl:j<xs.length:=by rw[va.length];exact j1
    have hyl:j<ys.length:=by rw[vb.length];exact j2
    obtain⟨u',e1,e2⟩:=va.get (i:=j) (getElem?_eq_getElem hxl);obtain⟨v',e3,e4⟩:=vb.get (i:=j) (getElem?_eq_getElem hyl);obtain⟨d1,f1,f2⟩:=Paired.get r (getElem?_eq_getElem hxl);obtain⟨d2,f3,f4⟩:=Paired.get q (getElem?_eq_getElem hyl);rw[f1] at f3;cases f3;rw[getElem?_eq_getElem j1] at e1;rw[getElem?_eq_getElem j2] at e3;cases e1;cases e3;simpa using ua I n f2 f4 e2 e4 hin
   have t1:=SeqAt.RcAt.lists (A:=A) (s:=s) (e:=fun _=>true) pa.isList pb.isList (by simp [la,lb]) (by omega) el
   have t2:=SeqAt.RcNeAt.lists (A:=A) (s:=s) (e:=fun _=>true) pa.isList pb.isList (by simp [la,lb]) (by omega) el
   rw[vN] at t1 t2;exact⟨t1,t2⟩
def zjb(K:Frag)(b:Bool):R2:=fun x y H Q=>∃(a c:Addr) (n:Nat) (d:Dt) (ok ok':Addr->Prop),x=.ref a/\y=.ref c/\n<=20/\zS K ok H (n+1) x d/\zS K ok' H (n+1) y d/\Q (.bl b) H
theorem zcU(hu:X.A.units+64<cLine):OpR X (compareOp .Eq) (zjb X.K true):=by
 intro pins s σ H x y v u Q I rx ry h;obtain⟨a,c,n,d,ok,ok',rfl,rfl,hn,hx,hy,q⟩:=h;cases rx;cases ry;exact(zdA (A:=X.A) I hx hy (by omega)).1 X.prog X.w X.xe _ ⟨.bl true,H,I,rfl,q⟩
theorem jc(hu:X.A.units+64<cLine):OpR X (compareOp .NotEq) (zjb X.K false):=by
 intro pins s σ H x y v u Q I rx ry h;obtain⟨a,c,n,d,ok,ok',rfl,rfl,hn,hx,hy,q⟩:=h;cases rx;cases ry;exact(zdA (A:=X.A) I hx hy (by omega)).2 X.prog X.w X.xe _ ⟨.bl false,H,I,rfl,q⟩
def Ite(K:Frag)(a:Addr):It:=
 ⟨fun i H=>∃xs x,SqL K H a xs/\xs[i]?=some x,fun i H x H'=>∃(p:Addr) (y:V),x=.ref p/\H p=none/\(∀xs,SqL K H a xs->xs[i]?=some y)/\H'=upd H p (.tup [.int i,y]),fun i H=>∃xs,SqL K H a xs/\xs.length<=i⟩
theorem zec{P:Program}{w:World}{K:Frag}{elts:List Expr}{x1:Nat}{tpos:Pos}(a e it:Addr)(hne:e≠it):
  qV P w K (.Tuple elts x1 tpos) (Ite K a) [e,it] e (fun i h=>(∃old,IsEnum h e it (i:Int) old)/\h.IsListIter it a i) where
 mem:=by simp
 obj:=fun i h st b hb=>by
  rcases List.mem_cons.mp hb with rfl|hb
  ·obtain⟨⟨old,he⟩,_⟩:=st
   exact⟨_,he,fun v q=>by cases q⟩
  ·have e':b=it:=by simpa using hb
   subst e';obtain⟨_,o,ho,_,hd⟩:=st;exact⟨o,ho,fun v q=>by rw[hd] at q;cases q⟩
 keep:=fun i h h' st k=>by
  obtain⟨⟨old,he⟩,o,ho,r⟩:=st;exact⟨⟨old,k e (by simp) _ he⟩,o,k it (by simp) o ho,r⟩
 item:=by
  intro X hP hw hK hc i pins s σ H E I hf st hg;subst hP hw hK;obtain⟨f0,f1,f2,f3,f4,f5⟩:=hf e (by simp)
  obtain⟨g0,g1,g2,g3,g4,g5⟩:=hf it (by simp)
  obtain⟨⟨old,he⟩,hit⟩:=st;obtain⟨xs,x,hS,hx⟩:=hg;obtain⟨its,rv,hp,hz⟩:=I.list hS;obtain⟨u,hu,ru⟩:=rv.get hx;refine wpAny_pyNext_enum_item he hit hp.isList (x:=u) (by simpa using hu) hne fun h' he' hit' htup hsz hk=>?_
  have I0:Inv X pins σ H { s with heap:=h',toks:=s.toks+1 }:=by
   refine I.step (g':=s.gens) (d':=s.drawn) (ch:=[e,it]) (fun b hb=>?_) (fun b o _ _ hc' e1 _=>hk b o (fun z=>hc' (by simp [z])) (fun z=>hc' (by simp [z])) e1) (fun b o _ _ hc' e1 _=>⟨o.slots,hk b o (fun z=>hc' (by simp [z])) (fun z=>hc' (by simp [z])) e1⟩) (fun _ _ _ _ n=>n)
    (fun b o hc' e1=>⟨o,hk b o (fun z=>hc' (by simp [z])) (fun z=>hc' (by simp [z])) e1⟩) (fun _ _ e1=>e1) (fun _ _ _ e1=>e1) (fun b ps e1=>⟨#[],by rw[e1];simp⟩) (fun m hm=>?_) (fun b u' e1=>?_) I.bare
   ·rcases List.mem_cons.mp hb with rfl|hb
    ·exact⟨f3,f1,f4,f5⟩
    ·have e':b=it:=by simpa using hb
     subst e';exact⟨g3,g1,g4,g5⟩
   ·obtain⟨o,es,ep,ho,r⟩:=hm
    exact⟨o,es,ep,hk _ o (Ne.symm f1) (Ne.symm g1) ho,r⟩
   ·have nit:∀c v',H c=some v'->c≠e/\c≠it:=fun c v' q=>⟨fun z=>(by rw[z,f0] at q;cases q),fun z=>(by rw[z,g0] at q;cases q)⟩
    refine(I.hok b u' e1).stay (fun c v' hc' q=>?_) (fun _ q=>q) fun _ _ q=>q;rcases hc' with z|z
    ·subst z;exact hk c v' (nit c _ e1).1 (nit c _ e1).2 q
    ·exact hk c v' (nit c _ z).1 (nit c _ z).2 q
  have hfr:H s.heap.objs.size=none:=I.hok.fresh (le_refl _);have I1:Inv X pins σ (upd H s.heap.objs.size (.tup [.int i,x])) { s with heap:=h',toks:=s.toks+1 }:=by
   have hok:HOk X.prog X.w (upd H s.heap.objs.size (.tup [.int i,x])) h':=fun b o q=>by
    by_cases hb:b=s.heap.objs.size
    ·subst hb
     rw[zc] at q;cases q;exact⟨by show 2<=sizeLine;decide,[.int i s.toks,u],.cons ⟨_,rfl⟩ (.cons ru .nil),⟨_,htup,rfl,_,rfl⟩⟩
    ·rw[zv hb] at q
     exact(I0.hok b o q).stay (fun _ _ _ z=>z) (fun c z=>by rw[zv (zu z hfr)];exact z) fun c xs' z=>by rw[zv (zu z hfr)];exact z
   refine I0.step (s:={ s with heap:=h',toks:=s.toks+1 }) (g':=s.gens) (d':=s.drawn) (h':=h') (t':=s.toks+1) (ch:=[s.heap.objs.size]) (fun b hb=>?_) (fun b o _ _ _ e1 _=>e1) (fun b o _ _ _ e1 _=>⟨o.slots,e1⟩) (fun b o hb e1 n=>by rw[zv (fun z=>hb (by simp [z]))];exact n)
    (fun b o _ e1=>⟨o,e1⟩) (fun b xs' e1=>by rw[zv (zu e1 hfr)];exact e1) (fun b o' u' e1=>by rw[zv (zu e1 hfr)];exact e1) (fun b ps e1=>⟨#[],by rw[zv (zu e1 hfr),e1];simp⟩) (fun m hm=>hm) hok I0.bare
   have e':b=s.heap.objs.size:=by simpa using hb
   subst e';refine⟨.inr I.sz,fun z=>?_,fun y c h z=>?_,fun p hp' z=>?_⟩
   ·have:=I.lt;rw[<- z] at this;exact absurd this (lt_irrefl _)
   ·obtain⟨v',hv⟩:=I.cell y c h
    have:=hv.lt;rw[z] at this;exact absurd this (lt_irrefl _)
   ·have:=I.pin_lt hp';rw[z] at this;exact absurd this (lt_irrefl _)
  refine⟨_,rfl,wpAny_letOwnedTupleGo_enum he' fun h2 he2 hs2=>?_⟩;have nes:s.heap.objs.size≠e:=fun z=>by
   have:=Heap.lt_size (show s.heap.get? e=some _ from he)
   rw[<- z] at this;exact absurd this (lt_irrefl _)
  have nis:s.heap.objs.size≠it:=fun z=>by
   obtain⟨o,ho,_⟩:=hit
   have:=Heap.lt_size ho
   rw[<- z] at this;exact absurd this (lt_irrefl _)
  have I2:Inv X pins σ (upd H s.heap.objs.size (.tup [.int i,x])) { s with heap:=h2,toks:=s.toks+1 }:=
   I1.turned (s:={ s with heap:=h',toks:=s.toks+1 }) (t':=s.toks+1) (it:=e) (fun b o hb q=>(hs2.2 b hb).trans q) (by rw[zv nes.symm];exact f0) f1 f3 f4 f5
  refine⟨.ref s.heap.objs.size,_,I2,rfl,⟨_,x,rfl,hfr,fun xs' h'=>?_,rfl⟩,⟨⟨_,by simpa using he2⟩,?_⟩,fun b hb=>?_⟩
  ·rw[I.list_inj h' hS];exact hx
  ·obtain⟨o,ho,r⟩:=hit'
   exact⟨o,(hs2.2 it (Ne.symm hne)).trans ho,r⟩
  ·rcases List.mem_cons.mp hb with rfl|hb
   ·rw[zv nes.symm];exact f0
   ·have e':b=it:=by simpa using hb
    subst e';rw[zv nis.symm];exact g0
 done:=by
  intro X hP hw hK hc i pins s σ H E I hf st hg;subst hP hw hK;obtain⟨⟨old,he⟩,hit⟩:=st;obtain⟨g0,g1,g2,g3,g4,g5⟩:=hf it (by simp)
  obtain⟨xs,hS,hle⟩:=hg;obtain⟨its,rv,hp,hz⟩:=I.list hS;have hx:its.toArray[i]?=none:=by simp [<- rv.length,hle]
  exact wpAny_pyNext_enum_end (I.ok.hd hc) he hit hp.isList hx fun h' eb=>⟨rfl,I.turned (t':=s.toks) (fun b o hb e1=>eb b o hb e1) g0 g1 g3 g4 g5⟩
 self:=fun A i s Q E st h=>by
  obtain⟨⟨old,he⟩,_⟩:=st;exact wpAny_pyIter_enum he h
variable {elts:List Expr}{x1:Nat}{tpos:Pos}
def zlZ(K:Frag)(ta:TA):TI:=fun σ H R=>ta σ H fun vs H1=>∃a,vs=[.ref a]/\(∃xs,SqL K H1 a xs)/\R (Ite K a) H1
theorem zaZ{l:Expr}{ta:TA}{p pos:Pos}(hg:Gl X "enumerate")(hm:X.mg "enumerate"=none)(ha:PA X [l] ta)(hl:xB l=false:=by rfl):PI X (.Tuple elts x1 tpos) (.Call (.Name "enumerate" p) [l] [] pos) (zlZ X.K ta):=by
 refine⟨?_⟩;intro pins s σ H R I h;refine Call_ (vk I hg hm PyProof.Rows.boot_enumerate (PyProof.Rows.callWith_type1 (thn (ha pos pins s σ H _ I h) fun us s1 ⟨vs,H1,I1,r1,q1⟩=>?_) (yk hl) rfl));obtain⟨a,e,⟨xs,hS⟩,q⟩:=q1;subst e;obtain⟨u,rfl,ru⟩:=wP r1;cases ru;obtain⟨its,rv,hp,hz⟩:=I1.list hS;refine call_enumerate_list hp.isList fun h' he hit hsz hk=>?_;refine wpAny_pyIter_enum he ?_;have hfr:∀b,s1.heap.objs.size<=b->H1 b=none:=fun b hb=>I1.hok.fresh hb;have I2:Inv X pins σ H1 { s1 with heap:=h' }:=I1.kept (t':=s1.toks) hk
 refine⟨s1.heap.objs.size+1,[s1.heap.objs.size+1,s1.heap.objs.size],_,_,H1,rfl,I2,zec a _ _ (Nat.succ_ne_self _),⟨⟨_,he⟩,hit⟩,fun b hb=>?_,q⟩;rcases List.mem_cons.mp hb with rfl|hb
 ·exact I1.fpOk (le_succ _) (hfr _ (le_succ _))
 ·have e':b=s1.heap.objs.size:=by simpa using hb
  subst e';exact I1.fpOk (le_refl _) (hfr _ (le_refl _))
end
end L2
namespace Att
open PySem PySem.W PySem.Calls PyProof.Rows
theorem zbx{ns:List Int}(h:WData.layableAll [WData.list (ns.map WData.int)]=true):∀n∈ns,Builtin.Int.intBits n<=1048576:=fun n hn=>
 PySem.intBits_le_of_layable (layable0_of_all (lay0_int (layableW_item (layW_cons h).1 (.int n) (List.mem_map.mpr ⟨n,hn,rfl⟩))))
theorem ziC{l:OpenLaw}{n:Nat}{q:Program}{xS:List Str}{XP:(Str->Option Value)->Heap->Prop}{YP:World->Heap->Prop}{d:DefRec}
  (hn:l.most=some n) (hdf:d.params.defaults=[])
  (call:∀(w:World) (s₀ s₁:Shared) (mg mb:Str->Option Value) (fa:Addr) (o:Obj) (pm cd doc:Value) (a:Addr) (vs:List Value) (ns:List Int),
   Ground q xS [] XP w s₀ mg mb s₁.heap->YP w s₁.heap->
   s₁.heap.get? fa=some o->o.data=.func (docDef d.name d.params d.body d.scope pm cd doc)->s₁.heap.CodeRec cd d.name->mg d.name=some (.ref fa)->
   s₁.heap.get? a=some { cls:=.type "list",data:=.seq vs.toArray }->IntsAre vs ns->ns.length<=n->(∀m∈ns,Builtin.Int.intBits m<=1048576)->s₁.gens=#[]->
   codeAny (model l.prog w) callerA (.call (.ref fa) ⟨[.ref a],[]⟩) (fun r s'=>r=.ok (.ret (.bool true))/\OldK s₁.heap s'.heap/\s'.os=s₁.os/\AllBare s'.gens) s₁) :
  WalkO q xS XP YP l.row.toRowW d [] (fun f vs=>PySem.call f vs):=by
 intro w s₀ s₁ mg mb G Y fa o pm cd doc dV kV ho hd hcd hD hmg hg args vals as hpre hlay hrd hwl hlo;obtain rfl:dV=.none:=Dflts.none hD hdf;obtain rfl:kV=.none:=Dflts.noKw hD;obtain⟨a,vs,ns,rfl,rfl,hobj,hints,hlen⟩:=zeh hn hpre hwl;refine enter_call (codeAny_mono (call w s₀ s₁ mg mb fa o pm cd doc a vs ns G Y ho (fd_plain hd) hcd hmg hobj hints hlen (zbx hlay) hg) fun r s' hq=>?_);obtain⟨rfl,h2,h3,h4⟩:=hq;exact⟨.inl ⟨.bool true,.bool true,[],rfl,fun _=>rfl,.bool true,zeo l _,fun _=>⟨List.Pairwise.nil,fun _ hm=>(nomatch hm)⟩⟩,h2,h3,h4⟩
end Att
namespace L2
open PySem PySem.Spec PyProof.Rows
theorem zk4{l:PySem.W.OpenLaw}{n k:Nat}{q:Program}{xS:List Str}{XP:(Str->Option Value)->Heap->Prop}{YP:World->Heap->Prop}{d:DefRec}{K:Params->Frag}{CX:World->CXT}{sp:World->Sp}{x:Str}
  (hn:l.most=some n) (hn2:n<=sizeLine) (hdf:d.params.defaults=[]) (hr:yh k callerA)
  (hY:∀(w:World) (h:Heap),YP w h->(K w.params).In h)
  (F:∀(w:World) (mg:Str->Option Value) (fa:Addr) (h:Heap),(K w.params).In h->h.Ns mainGlobals mg->mg d.name=some (.ref fa)->
   ∃fd:FuncData,(∀(s:Shared) (u:Value),BindsTo s fd ⟨[u],[]⟩ [(x,u)])/\
    ∀base:Heap,(K w.params).In base->base.Ns mainGlobals mg->zL l.prog w (K w.params) mg base (CX w) k fa fd [x] (sp w))
  (hsp:∀(w:World) (H:Hp) (a:Addr) (ns:List Int),ns.length<=n->(∀m∈ns,Builtin.Int.intBits m<=1048576)->zkW H->SqL (K w.params) H a (ns.map V.int)->sp w [.ref a] H (fun v _=>v=.bl true) fun _ _ _=>False)
  (hCX:∀(w:World) (H:Hp) (s:Shared) (e:Value) (s':Shared),CX w [] H s (fun _ _ _=>False) e s'->False) :
  PySem.W.WalkO q xS XP YP l.row.toRowW d [] (fun f vs=>PySem.call f vs):=by
 refine Att.ziC hn hdf fun w s₀ s₁ mg mb fa o pm cd doc a vs ns G Y ho hd hcd hmg hobj hints hlen hbits hg=>?_;have KX:=hY w _ Y;obtain⟨fd,hb,hF⟩:=F w mg fa _ KX G.T.g hmg;exact zgv KX G.T.g G.T.b G.T.builtins G.T.nolimit hg hobj hints (le_trans hlen hn2) hr hF hb (fun H hO hS=>hsp w H a ns hlen hbits hO hS) fun H e s'=>hCX w H s₁ e s'
section
variable {X:Cx}
structure jH(K:Frag)(x qual:Str)(st:Stmt)(f:Addr)(fd:FuncData)(items:List Value):Prop where
 ex:∃(oc:Value) (od:Option Addr) (T:Addr) (kV doc pm:Value) (an:Option Addr) (cdv ct:Value) (osl:Array (Option Value)) (o:Obj) (n:Nat),
  fd=fnOf x qual (yr st) (yd st) (zr st) (.ref T) kV doc pm an cdv ct/\K.lookup f=some ⟨oc,od,.func fd,osl⟩/\codeIn K cdv qual=true/\K.lookup T=some o/\o.data=.seq items.toArray n
 kp:keepIn K (.ref f)=true
variable {P:Program}{w:World}{K:Frag}{mg:Str->Option Value}{base:Heap}
theorem jH.ok{x qual:Str}{st:Stmt}{f:Addr}{fd:FuncData}{items:List Value}{N ps:List Str}{k:Nat}{sp:Sp}(F:jH K x qual st f fd items)(S:zD N ps (zr st))(len:∀vs H Q E,sp vs H Q E->vs.length=ps.length)
  (hbody:∀(cdv:Value) (A:Around) (outer:List Env) (s:Shared) (H:Hp) (vs:List V) (Q:VK) (E:XK),yh k (A.deeper (envOfC qual (zr st) s.heap.objs.size f cdv))->sp vs H Q E->
   ∃t,PSs (w5 CX0 P w K mg base N qual (zr st) f cdv A outer s H E).nox (yd st) t/\t { nx:=fun _ H'=>Q .non H',rt:=Q } (xN N vs) H):zL P w K mg base CX0 (k+1) f fd ps sp:=by
 obtain⟨oc,od,T,kV,doc,pm,an,cdv,ct,osl,o,n,rfl,lk,hcd,_,_⟩:=F.ex;refine zb5 lk hcd S len fun A outer s H vs Q E hr hsp=>?_;obtain⟨t,h,q⟩:=hbody cdv A outer s H vs Q E hr hsp;exact⟨t,h.nox,q⟩
theorem jH.bindsTo{x qual:Str}{st:Stmt}{f:Addr}{fd:FuncData}{items:List Value}(F:jH K x qual st f fd items){args:Args}{bs:List (Str×Value)}
  (h:∀(T:Addr) (kV doc pm:Value) (an:Option Addr) (cdv ct:Value),∃k:Option (Array Value)->Sem (List (Str×Value)),
   bindArgs (fnOf x qual (yr st) (yd st) (zr st) (.ref T) kV doc pm an cdv ct) args=seqItems? (.ref T) >>= k/\k (some items.toArray)=pure bs) {s:Shared}(KX:K.In s.heap):BindsTo s fd args bs:=by
 obtain⟨oc,od,T,kV,doc,pm,an,cdv,ct,osl,o,n,rfl,lk,hcd,lt,hs⟩:=F.ex;obtain⟨k,h1,h2⟩:=h T kV doc pm an cdv ct;exact BindsTo.of_defaults (T:=T) (n:=n) rfl (KX _ _ lt) hs h1 h2
theorem zil{x qual:Str}{st:Stmt}{f T:Addr}{oc:Value}{od an:Option Addr}{osl:Array (Option Value)}{kV doc pm cdv ct:Value}{o:Obj}{n:Nat}{items:List Value}
  (l:K.lookup f=some ⟨oc,od,.func (fnOf x qual (yr st) (yd st) (zr st) (.ref T) kV doc pm an cdv ct),osl⟩)
  (c:codeIn K cdv qual=true) (k:keepIn K (.ref f)=true) (lT:K.lookup T=some o) (hs:o.data=.seq items.toArray n) :
  jH K x qual st f (fnOf x qual (yr st) (yd st) (zr st) (.ref T) kV doc pm an cdv ct) items:=⟨⟨oc,od,T,kV,doc,pm,an,cdv,ct,osl,o,n,rfl,l,c,lT,hs⟩,k⟩
variable {CX:CXT}{k:Nat}{f C:Addr}{fd:FuncData}{ps ks:List Str}{sp:Sp}{E:XK}{x:Str}{p pos:Pos}{e:Expr}{es:List Expr}{kws:List Keyword}{t tk:TA}
 {g:List Value->List Value->List Value}{gV:List V->List V->List V}
theorem yQ{t u:TS}{D:wO}{σ : St}{H:Hp}(R:St->Hp->Prop)(h2:∀σ H,R σ H->u D σ H)(h1:(∀σ H,R σ H->u D σ H)->t { D with nx:=u D } σ H):jA t u D σ H:=h1 h2
def lcN(n i:Nat)(D:Addr)(Pv:Nat->List V->Hp->Prop)(ys:List V):VK:=fun v H4=>H4 D=some (.lst ys)/\ys.length<sizeLine/\∃m',m'<n - i/\m'=n - (i+1)/\i+1<=n/\Pv (i+1) (ys++[v]) (upd H4 D (.lst (ys++[v])))
def lcS(n i:Nat)(Pv:Nat->List V->Hp->Prop)(ys:List V):Hp->Prop:=fun H4=>∃m',m'<n - i/\m'=n - (i+1)/\i+1<=n/\Pv (i+1) ys H4
theorem lcN.mk{n i:Nat}{D:Addr}{Pv:Nat->List V->Hp->Prop}{ys:List V}{v:V}{H4:Hp}(hi:i<n)(hn:n<=sizeLine)(hD:H4 D=some (.lst ys))(hy:ys.length<=i)(p:Pv (i+1) (ys++[v]) (upd H4 D (.lst (ys++[v])))):lcN n i D Pv ys v H4:=
 ⟨hD,by omega,n - (i+1),by omega,rfl,hi,p⟩
theorem lcS.mk{n i:Nat}{Pv:Nat->List V->Hp->Prop}{ys:List V}{H4:Hp}(hi:i<n)(p:Pv (i+1) ys H4):lcS n i Pv ys H4:=⟨n - (i+1),by omega,rfl,hi,p⟩
theorem wF{K:Frag}{a:Addr}{xs:List V}{caps:List (Option Nat)}{g:TG}{tt:TT}{te:TE}{σ : St}{H1:Hp}{Q:VK}{D:Addr}(Pv:Nat->List V->Hp->Prop)(h0:Pv 0 [] (upd H1 D (.lst [])))
  (hl:∀i ys H,Pv i ys H->SqL K H a xs)
  (hs:∀i x ys H,i<xs.length->xs[i]?=some x->Pv i ys H->g x (xk caps σ) H fun σ2 H2=>tt σ2 H2 fun ok H3=>(ok=true->te σ2 H3 (lcN xs.length i D Pv ys))/\(ok=false->lcS xs.length i Pv ys H3))
  (hd:∀ys H,Pv xs.length ys H->Q (.ref D) H):LCr (Itl K a) caps g tt te σ H1 Q D:=by
 refine⟨fun i m ys H=>m=xs.length - i/\i<=xs.length/\Pv i ys H,⟨xs.length,by simp,zero_le _,h0⟩,?_⟩
 rintro i m ys H ⟨rfl,hi,p⟩;have q:=hl i ys H p;by_cases hlt:i<xs.length
 ·refine .inr ⟨⟨xs,xs[i],q,by simp [hlt]⟩,fun x H' y=>?_⟩
  obtain⟨e,y⟩:=y;subst e;exact hs i x ys _ hlt (y xs q) p
 ·have e:i=xs.length:=by omega
  subst e;exact .inl ⟨⟨xs,q,le_refl _⟩,hd ys H p⟩
theorem xt{H:Hp}{x dx:Addr}{o1:HO}(hx:H x=none)(hd:H dx=none):zx H (upd (upd H dx (.own x)) x o1):=fun b u q=>by
 rw[zv (zu q hx),zv (zu q hd)];exact q
theorem zk{H:Hp}{p:Addr}(h:H p=none)(o:HO):zx H (upd H p o):=fun b u q=>by rw[zv (zu q h)];exact q
theorem vG{lo:Int}{n:Nat}{caps:List (Option Nat)}{g:TG}{tt:TT}{te:TE}{σ : St}{H1:Hp}{Q:VK}{D:Addr}(Pv:Nat->List V->Hp->Prop)(h0:Pv 0 [] (upd H1 D (.lst [])))
  (hs:∀i ys H,i<n->Pv i ys H->g (.int (lo+i)) (xk caps σ) H fun σ2 H2=>tt σ2 H2 fun ok H3=>(ok=true->te σ2 H3 (lcN n i D Pv ys))/\(ok=false->lcS n i Pv ys H3))
  (hd:∀ys H,Pv n ys H->Q (.ref D) H):LCr (Itr lo n) caps g tt te σ H1 Q D:=by
 refine⟨fun i m ys H=>m=n - i/\i<=n/\Pv i ys H,⟨n,by simp,zero_le _,h0⟩,?_⟩
 rintro i m ys H ⟨rfl,hi,p⟩;by_cases hlt:i<n
 ·refine .inr ⟨hlt,fun x H' y=>?_⟩
  obtain⟨e,y⟩:=y;subst e y;exact hs i ys _ hlt p
 ·have e:i=n:=by omega
  subst e;exact .inl ⟨le_refl _,hd ys H p⟩
theorem zb4{K:Frag}{a:Addr}{xs:List V}{g:TG}{tb:TS}{D:wO}{σ : St}{H:Hp}(Pv:Nat->St->Hp->Prop)(h0:Pv 0 σ H)(hl:∀i σ H,i<=xs.length->Pv i σ H->SqL K H a xs)
  (hs:∀i x p σ H,xs[i]?=some x->Pv i σ H->H p=none->g (.ref p) σ (upd H p (.tup [.int i,x])) fun σ2 H2=>tb { D with nx:=Pv (i+1),ct:=Pv (i+1),bk:=D.nx } σ2 H2) (hd:∀σ H,Pv xs.length σ H->D.nx σ H) :
  ∃W:Nat->Nat->St->Hp->Prop,(∃m,W 0 m σ H)/\∀i m σ H,W i m σ H->
   ((Ite K a).stop i H/\D.nx σ H)\/((Ite K a).go i H/\∃N:St->Hp->Prop,(∀σ' H',N σ' H'->∃m',m'<m/\W (i+1) m' σ' H')/\∀x H',(Ite K a).yld i H x H'->g x σ H' fun σ2 H2=>tb { D with nx:=N,ct:=N,bk:=D.nx } σ2 H2):=by
 refine⟨fun i m σ H=>m=xs.length - i/\i<=xs.length/\Pv i σ H,⟨xs.length,by simp,zero_le _,h0⟩,?_⟩
 rintro i m σ H ⟨rfl,hi,p⟩;have q:=hl i σ H hi p;by_cases hlt:i<xs.length
 ·refine .inr ⟨⟨xs,xs[i],q,by simp [hlt]⟩,Pv (i+1),fun σ' H' p'=>⟨xs.length - (i+1),by omega,rfl,hlt,p'⟩,fun x H' y=>?_⟩
  obtain⟨pp,y,rfl,hp,y2,rfl⟩:=y;exact hs i y pp σ H (y2 xs q) p hp
 ·have e:i=xs.length:=by omega
  subst e;exact .inl ⟨⟨xs,q,le_refl _⟩,hd σ H p⟩
theorem uY{α : Type}{xs:List α}{i:Int}(h0 : 0<=i)(h1:i<xs.length):∃x,x∈xs/\atI xs i=some x/\xs[i.toNat]?=some x:=by
 obtain⟨k,rfl⟩:=Int.eq_ofNat_of_zero_le h0;have hk:k<xs.length:=by omega
 exact⟨xs[k],getElem_mem hk,ue (getElem?_eq_getElem hk),by simp [hk]⟩
structure Fly(P:Program)(w:World)(outer:List Env)(H:Hp)(s:Shared)(cls:Value)(H':Hp)(ea:Addr)(s':Shared):Prop where
 os:s'.os=s.os
 bare:AllBare s'.gens
 un:Un (frs outer) [] H H' s.heap s'.heap
 hok:HOk P w H' s'.heap
 nt:H' ea=none
 fly:∃B a0,Heap.FlyingW B outer ea cls a0 s'.heap/\(∀b u,H' b=some u->∃o,B.get? b=some o)/\(∀b o,s.heap.get? b=some o->H b=none->b∉frs outer->B.get? b=some o)/\
  ∀b o,s.heap.get? b=some o->b∉frs outer->∃o',B.get? b=some o'
abbrev CXe(P:Program)(w:World):CXT:=fun outer H s E e s'=>∃ea cls H',e=.ref ea/\Fly P w outer H s cls H' ea s'/\E cls none H'
end
section
variable {X:Cx}{pins:PnL}{σ:St}{H H':Hp}{s s':Shared}{ea:Addr}{cls:Value}{vs:List Value}{h':Heap}{M:Model}{E:VSP}
theorem wZ(hstk:X.stack=X.env::X.outer)(hfl:X.env.frame=some X.env.locals):frs X.stack=X.env.locals::frs X.outer:=by
 rw[hstk];unfold frs;rw[filterMap_cons,hfl]
theorem HOk.sameAt{P:Program}{w:World}{h h':Heap}(x:HOk P w H h)(k:∀b u o,H b=some u->h.get? b=some o->h'.get? b=some o):HOk P w H h':=fun a o e=>
 (x a o e).stay (fun b u hb q=>by
  rcases hb with z|z
  ·exact k b o u (by rw[z];exact e) q
  ·exact k b _ u z q) (fun _ q=>q) fun _ _ q=>q
theorem HOk.rec{P:Program}{w:World}{h:Heap}(x:HOk P w H h){b:Addr}{u:HO}(e:H b=some u):∃o,h.get? b=some o:=by
 have q:=x b u e;cases u with
 | lst xs=>obtain⟨_,_,_,_,e⟩:=q;exact⟨_,e⟩
 | tup xs=>obtain⟨_,_,_,o,e,_⟩:=q;exact⟨_,e⟩
 | dK kvs=>obtain⟨_,_,_,_,o,_,_,e,_⟩:=q;exact⟨_,e⟩
 | dT kvs=>obtain⟨_,_,_,_,o,_,_,e,_⟩:=q;exact⟨_,e⟩
 | set S n=>obtain⟨o,_,_,_,e,_⟩:=q;exact⟨_,e⟩
 | ins C dx fs=>obtain⟨_,_,_,e,_⟩:=q;exact⟨_,e⟩
 | own y=>exact q
 | xd fs=>obtain⟨_,⟨o,_,_,e,_⟩,_⟩:=q;exact⟨_,e⟩
 | rng lo hi=>obtain⟨_,_,_,e⟩:=q;exact⟨_,e⟩
 | frz ob u=>obtain⟨e,_⟩:=q;exact⟨_,e⟩
 | tbl ps=>exact⟨_,q⟩
 | met f y=>exact⟨_,q⟩
 | ext φ=>exact q.2.1
theorem zgI(I:Inv X pins σ H s)(hstk:X.stack=X.env::X.outer)(hfl:X.env.frame=some X.env.locals)(hex:X.ex=[])(hx:Heap.MadeExcOf s.heap h' ea cls vs):
  wpAny M X.A (leaving X.env (.ref ea)) (fun _ s''=>Fly X.prog X.w X.outer X.H₀ X.s₀ cls H ea s'') E { s with heap:=h' }:=by
 have fr:=wZ hstk hfl;have fl:s.heap.FunFrames (hideAll s.heap (frs X.stack)) (X.env::X.outer):=by
  have:=I.stack
  rw[hstk] at this;refine funFrames_hide this fun env he b hb=>?_;rw[hstk];exact List.mem_filterMap.mpr ⟨env,he,hb⟩
 have fr0:=I.ok.frames;rw[hstk] at fr0;have neL:∀b o,X.s₀.heap.get? b=some o->b≠X.env.locals:=fun b o e=>ne_of_lt (lt_of_lt_of_le (Heap.lt_size e) I.ok.above);have noEx:∀b:Addr,b∉X.ex:=fun b=>by rw[hex];simp
 have inB:∀b o,s.heap.get? b=some o->b∉frs X.stack->(hideAll s.heap (frs X.stack)).get? b=some o:=fun b o e n=>hideAll_get _ e n;have trB:∀b u,H b=some u->b∉frs X.stack:=fun b u e n=>by rw[I.stkFree b n] at e;cases e
 refine wpAny_leaves_madeW (base:=hideAll s.heap (frs X.stack)) fr0 hfl (fun b o q=>of_hideAll _ q) fl hx fun h2 t x1 x2 x3 x4=>?_;have stay:∀b o,s.heap.get? b=some o->b∉frs X.stack->h2.get? b=some o:=fun b o e n=>x1.1 b o (inB b o e n);have up:∀b o,s.heap.get? b=some o->(∀vs,o.data≠.fields vs)->∃sl,h2.get? b=some { o with slots:=sl }:=fun b o e n=>x4 b o (hx.keeps b o e) n
 refine⟨I.os,I.bare,⟨fun b o e n hb _=>?_,fun b o e n hb _=>?_,fun b o e n _=>I.base.free b o e n (noEx b),fun b o e _=>?_,I.base.tups,I.base.frzs,I.base.tbls⟩,I.hok.sameAt fun b u o e q=>stay b o q (trB b u e),?_,?_⟩
 ·refine stay b o (I.base.keep b o e n hb (noEx b)) ?_
  rw[fr];exact fun z=>(List.mem_cons.mp z).elim (neL b o e) hb
 ·obtain⟨sl,e1⟩:=I.base.slot b o e n hb (noEx b)
  obtain⟨_,o',ho',hd⟩:=I.funs.mem hb;rw[e1] at ho';cases ho';obtain⟨sl2,e2⟩:=up b _ e1 hd;exact⟨sl2,e2⟩
 ·obtain⟨o1,e1⟩:=I.base.there b o e (noEx b)
  by_cases hb:b∈frs X.stack
  ·obtain⟨_,o',ho',hd⟩:=I.stack.mem hb
   obtain⟨sl2,e2⟩:=up b o' ho' hd;exact⟨_,e2⟩
  ·exact⟨o1,stay b o1 e1 hb⟩
 ·cases q:H ea with
  | none=>rfl
  | some u=>
   obtain⟨o,e⟩:=I.hok.rec q;rw[hx.new] at e;cases e
 ·refine⟨_,_,x1,fun b u e=>?_,fun b o e n hb=>?_,fun b o e hb=>?_⟩
  ·obtain⟨o,q⟩:=I.hok.rec e
   exact⟨o,inB b o q (trB b u e)⟩
  ·refine inB b o (I.base.keep b o e n hb (noEx b)) ?_
   rw[fr];exact fun z=>(List.mem_cons.mp z).elim (neL b o e) hb
  ·obtain⟨o1,e1⟩:=I.base.there b o e (noEx b)
   refine⟨o1,inB b o1 e1 ?_⟩;rw[fr];exact fun z=>(List.mem_cons.mp z).elim (neL b o e) hb
theorem zkQ(I:Inv X pins σ H s)(hstk:X.stack=X.env::X.outer)(hfl:X.env.frame=some X.env.locals)(hex:X.ex=[])(F:Fly X.prog X.w X.stack H s cls H' ea s'):
  wpAny M X.A (leaving X.env (.ref ea)) (fun _ s''=>Fly X.prog X.w X.outer X.H₀ X.s₀ cls H' ea s'') E s':=by
 have fr:=wZ hstk hfl;have fr0:=I.ok.frames;rw[hstk] at fr0;obtain⟨B,a0,fl,tr,old,olds⟩:=F.fly;have neL:∀b o,X.s₀.heap.get? b=some o->b≠X.env.locals:=fun b o e=>ne_of_lt (lt_of_lt_of_le (Heap.lt_size e) I.ok.above);have noEx:∀b:Addr,b∉X.ex:=fun b=>by rw[hex];simp
 have nst:∀b o,X.s₀.heap.get? b=some o->b∉frs X.outer->b∉frs X.stack:=fun b o e hb=>by
  rw[fr];exact fun z=>(List.mem_cons.mp z).elim (neL b o e) hb
 have fl':=fl;rw[hstk] at fl';refine wpAny_leaves_onW fr0 hfl fl' fun h2 x1 x2=>?_;have oldB:∀b o,X.s₀.heap.get? b=some o->X.H₀ b=none->b∉frs X.outer->B.get? b=some o:=fun b o e n hb=>
  old b o (I.base.keep b o e n hb (noEx b)) (I.base.free b o e n (noEx b)) (nst b o e hb)
 refine⟨F.os.trans I.os,F.bare,⟨fun b o e n hb _=>x1.1 b o (oldB b o e n hb),fun b o e n hb _=>?_,fun b o e n _=>?_,fun b o e _=>?_,fun b xs e=>F.un.tups b xs (I.base.tups b xs e),fun b o u e=>F.un.frzs b o u (I.base.frzs b o u e),fun b ps e=>?_⟩,F.hok.sameAt fun b u o e q=>?_,F.nt,⟨B,a0,x1,tr,oldB,fun b o e hb=>?_⟩⟩
 ·obtain⟨sl,e1⟩:=I.base.slot b o e n hb (noEx b)
  obtain⟨sl1,e2⟩:=F.un.any e1 (I.base.free b o e n (noEx b)) (by simp)
  have hd:∀vs,o.data≠.fields vs:=by
   obtain⟨_,o',ho',hd⟩:=I.funs.mem hb;rw[e1] at ho';cases ho';exact hd
  obtain⟨sl2,e3⟩:=x2 b _ e2 hd;exact⟨sl2,e3⟩
 ·obtain⟨o',e1⟩:=I.base.there b o e (noEx b)
  exact F.un.free b o' e1 (I.base.free b o e n (noEx b)) (by simp)
 ·obtain⟨o1,e1⟩:=I.base.there b o e (noEx b)
  obtain⟨o2,e2⟩:=F.un.there b o1 e1 (by simp)
  by_cases hb:b∈frs X.stack
  ·obtain⟨_,o',ho',hd⟩:=fl.2.2.1.mem hb
   obtain⟨sl2,e3⟩:=x2 b o' ho' hd;exact⟨_,e3⟩
  ·obtain⟨o3,e3⟩:=olds b o1 e1 hb
   exact⟨o3,x1.1 b o3 e3⟩
 ·obtain⟨m1,e1⟩:=I.base.tbls b ps e
  obtain⟨m2,e2⟩:=F.un.tbls b _ e1;exact⟨m1++m2,by rw[e2,Array.append_assoc]⟩
 ·obtain⟨o3,e3⟩:=tr b u e
  have e4:=fl.1 b o3 e3;rw[q] at e4;cases e4;exact x1.1 b o e3
 ·obtain⟨o1,e1⟩:=I.base.there b o e (noEx b)
  exact olds b o1 e1 (nst b o e hb)
def zg1(X:Cx)(E:XK):Prop:=∀(pins:PnL) (σ : St) (H:Hp) (s:Shared) (ea:Addr) (cls:Value) (vs:List Value) (h':Heap),Inv X pins σ H s->Heap.MadeExcOf s.heap h' ea cls vs->E cls none H->X.xe (.ref ea) { s with heap:=h' }
def zjs(C:Addr)(E:XK)(t:TA):TS:=fun _ σ H=>t σ H fun vs H1=>vs.length<=sizeLine/\E (.ref C) none H1
end
section
variable {X:Cx}{E:XK}{x:Str}{C:Addr}{B Bn newId nid initId inN:String}{bm bmN:List Value}{np cpos pos:Pos}{e:Expr}{es:List Expr}{t:TA}
theorem zfY(hX:zg1 X E)(O:OwnCls x C bm newId X.mg X.base)(Fn:ExcBaseFacts Bn newId inN bmN)(hBn:bm.contains (.type Bn)=true)(FB:ExcBaseFacts B nid initId bm)(hc:X.calm=true)(ha:PA X (e::es) t)
  (hg:Gl X x:=by rfl) (hd:(x==("__debug__" : Str))=false:=by decide) (h1:xB e=false:=by rfl) (h2:es.any xB=false:=by rfl) :
  PS X (.Raise (some (.Call (.Name x np) (e::es) [] cpos)) none pos) (zjs C E t):=by
 refine⟨?_⟩;intro pins s σ H D I h;obtain⟨tl,N,nm,q,bs,hdct,sn,sub,ab,col,dd,k0,k1,k2,k3,k5,mN,hC,hN,hni,T⟩:=O.obj;have hst:starEach (e::es) X.env=(false,eval e X.env)::starEach es X.env:=yk h1;refine wpAny_Raise_call_subU (C:=C) (nm:=nm) (q:=q) (N:=N) (bs:=bs) (bm:=tl) (hdct:=hdct) (sn:=sn) (sub:=sub) (ab:=ab) (col:=col) (dd:=dd) (k0:=k0) (k1:=k1) (k2:=k2) (k3:=k3) (k5:=k5)
  Fn hBn FB (mN:=mN) (T.hasType FB.hasBase) (I.ok.hd hc) (by rw[hst];show(false||(backTo cpos (starEach es X.env)).any (·.1))=false;rw[xh h2];rfl) hni (yY I hg O.bound ⟨rfl,?_⟩ hd)
 rw[hst];refine Calls.evalArgs_plain ?_;have hA:=ha cpos pins s σ H _ I h;rw[hst] at hA;refine thn hA fun us s2 ⟨vs,H1,I1,r,hl,q1⟩=>⟨rfl,by rw[<- r.length];exact hl,I1.bk _ _ hC,hN.keeps I1.bk,T.keeps I1.bk,fun h' ea hm=>?_⟩
 exact hX pins σ H1 s2 ea _ _ h' I1 hm q1
variable {P:Program}{w:World}{K:Frag}{mg:Str->Option Value}{base:Heap}{N:List Str}{qual:Str}{scope:Scope}{f:Addr}{cd:Value}{A:Around}{outer:List Env}{s:Shared}{H:Hp}{E':XK}
theorem zen:zg1 (w5 (CXe P w) P w K mg base N qual scope f cd A outer s H E) E:=fun pins σ H1 s1 ea cls vs h' I hm q=>by
 refine wpAny_mono (zgI I rfl rfl rfl hm) (fun _ s2 F=>?_) fun _ _ z=>z;exact⟨ea,cls,H1,rfl,F,q⟩
theorem jr(hE:∀c d H,E' c d H->E c d H):yE (CXe P w) (w5 (CXe P w) P w K mg base N qual scope f cd A outer s H E) E':=fun pins σ H1 s1 e s' I q=>by
 obtain⟨ea,cls,H',rfl,F,q⟩:=q;refine wpAny_mono (zkQ I rfl rfl rfl F) (fun _ s2 F2=>?_) fun _ _ z=>z;exact⟨ea,cls,H',rfl,F2,hE _ _ _ q⟩
theorem Fun.okE{x:Str}{st:Stmt}{fd:FuncData}{ps:List Str}{k:Nat}{sp:Sp}(F:Fun K x qual st f fd)(S:zD N ps (zr st))(len:∀vs H Q E,sp vs H Q E->vs.length=ps.length)
  (hbody:∀(cdv:Value) (A:Around) (outer:List Env) (s:Shared) (H:Hp) (vs:List V) (Q:VK) (E:XK),yh k (A.deeper (envOfC qual (zr st) s.heap.objs.size f cdv))->sp vs H Q E->
   ∃t,PSs (w5 (CXe P w) P w K mg base N qual (zr st) f cdv A outer s H E) (yd st) t/\t { nx:=fun _ H'=>Q .non H',rt:=Q } (xN N vs) H):zL P w K mg base (CXe P w) (k+1) f fd ps sp:=by
 obtain⟨oc,od,kV,doc,pm,an,cdv,ct,osl,rfl,lk,hcd⟩:=F.ex;exact zb5 lk hcd S len fun A outer s H vs Q E hr hsp=>hbody cdv A outer s H vs Q E hr hsp
structure yw(P:Program)(w:World)(K:Frag)(mg:Str->Option Value)(base:Heap)(k:Nat)(x:Str)(f:Addr)(fd:FuncData)(ps:List Str)(sp:Sp):Prop where
 ok:zL P w K mg base (CXe P w) k f fd ps sp
 mg:mg x=some (.ref f)
 kp:keepIn K (.ref f)=true
 bd:yt K fd ps []
variable {k:Nat}{fd:FuncData}{ps:List Str}{sp:Sp}{p:Pos}
theorem cE(c:yw X.prog X.w X.K X.mg X.base k x f fd ps sp)(hp:yE (CXe X.prog X.w) X E)(hr:yh k X.A)(ha:PA X (e::es) t)(hg:Gl X x:=by rfl)(hdb:(x==("__debug__" : Str))=false:=by decide)
  (h1:xB e=false:=by rfl) (h2:es.any xB=false:=by rfl):PE X (.Call (.Name x p) (e::es) [] pos) (jp sp [] E t):=
 za2 c.ok hr hg c.mg c.kp c.bd .nil hp ha hdb (yk h1) (xh h2)
def jy(ea:Addr)(cls:Value)(h:Heap):Prop:=∃oe vs,h.get? ea=some oe/\oe.cls=cls/\oe.data=.fields vs
abbrev jh(ea:Addr)(cls:Value):HO:=.ext (jy ea cls)
variable {pins:PnL}{σ:St}{H':Hp}{s':Shared}{ea a:Addr}{cls:Value}{o:HO}{h5:Heap}
theorem zit{P:Program}{w:World}{h:Heap}(e:jy ea cls h):yB P w H h ea (jh ea cls):=by
 obtain⟨oe,vs,h1,h2,h3⟩:=e;exact⟨⟨oe,vs,h1,h2,h3⟩,⟨oe,h1⟩,fun g1 g2 ⟨oe',vs',q1,q2,q3⟩ k=>⟨oe',vs',k _ q1,q2,q3⟩⟩
theorem Inv.track(I:Inv X pins σ H s)(hn:H a=none)(new:yB X.prog X.w (upd H a o) s.heap a o)(h0:∀u,X.s₀.heap.get? a=some u->X.H₀ a=none->a∉X.ex->False)(hL:X.env.locals≠a)
  (hc:∀x c,X.env.cells.lookup x=some c->c≠a) (hp:∀p∈X.pn++pins,p.1≠a):Inv X pins σ (upd H a o) s:=by
 refine⟨I.ok,I.os,I.bare,⟨I.base.keep,I.base.slot,fun b u e n x=>?_,I.base.there,fun b xs e=>?_,fun b u v e=>?_,fun b ps e=>?_⟩,I.loc,I.cell,?_,fun x c e=>?_,fun p hp'=>?_,fun b u e=>?_,I.len⟩
 ·have hb:b≠a:=fun z=>by subst z;exact h0 u e n x
  rw[zv hb];exact I.base.free b u e n x
 ·have e1:=I.base.tups b xs e
  rw[zv (zu e1 hn)];exact e1
 ·have e1:=I.base.frzs b u v e
  rw[zv (zu e1 hn)];exact e1
 ·obtain⟨more,e1⟩:=I.base.tbls b ps e
  exact⟨more,by rw[zv (zu e1 hn)];exact e1⟩
 ·rw[zv hL];exact I.free
 ·rw[zv (hc x c e)];exact I.freeC x c e
 ·obtain⟨q1,q2,q3⟩:=I.pin p hp'
  exact⟨q1,by rw[zv (hp p hp')];exact q2,q3⟩
 ·by_cases hb:b=a
  ·subst hb;rw[zc] at e;cases e;exact new
  ·rw[zv hb] at e
   exact(I.hok b u e).stay (fun _ _ _ q=>q) (fun c q=>by rw[zv (zu q hn)];exact q) fun c xs q=>by rw[zv (zu q hn)];exact q
theorem Fly.move{P:Program}{w:World}{l:List Env}{B:Heap}{a0:Value}(F:Fly P w l H s cls H' ea s')(fl:Heap.FlyingW B l ea cls a0 s'.heap)(tr:∀b u,H' b=some u->∃o,B.get? b=some o)
  (old:∀b o,s.heap.get? b=some o->H b=none->b∉frs l->B.get? b=some o) (olds:∀b o,s.heap.get? b=some o->b∉frs l->∃o',B.get? b=some o')
  (fl5:Heap.FlyingW B l ea cls a0 h5) (up:s'.heap.UpToSlots h5):Fly P w l H s cls H' ea { s' with heap:=h5 }:=by
 refine⟨F.os,F.bare,⟨fun b o e n hb _=>fl5.1 b o (old b o e n hb),fun b o e n hb _=>?_,F.un.free,fun b o e _=>?_,F.un.tups,F.un.frzs,F.un.tbls⟩,F.hok.sameAt fun b u o e q=>?_,F.nt,⟨B,a0,fl5,tr,old,olds⟩⟩
 ·obtain⟨sl,e1⟩:=F.un.slot b o e n hb (by simp)
  obtain⟨_,o',ho',hd⟩:=fl.2.2.1.mem hb;rw[e1] at ho';cases ho';obtain⟨sl2,e2⟩:=up b _ e1 hd;exact⟨sl2,e2⟩
 ·by_cases hb:b∈frs l
  ·obtain⟨_,o',ho',hd⟩:=fl5.2.2.1.mem hb
   exact⟨o',ho'⟩
  ·obtain⟨o3,e3⟩:=olds b o e hb
   exact⟨o3,fl5.1 b o3 e3⟩
 ·obtain⟨o3,e3⟩:=tr b u e
  have e4:=fl.1 b o3 e3;rw[q] at e4;cases e4;exact fl5.1 b o e3
theorem Fly.track{B:Heap}{a0:Value}(I:Inv X pins σ H s)(F:Fly X.prog X.w X.stack H s cls H' ea s')(fl:Heap.FlyingW B X.stack ea cls a0 s'.heap)(old:∀b o,s.heap.get? b=some o->H b=none->b∉frs X.stack->B.get? b=some o):
  Inv X pins σ (upd H' ea (jh ea cls)) s':=by
 have I1:Inv X pins σ H' s':=I.call' F.os F.un F.hok F.bare fun b z=>nomatch z;obtain⟨oe,vs,he,hc,hd,_⟩:=fl.first
 have nfr:ea∉frs X.stack:=fun z=>by
  obtain⟨_,o',ho',hd'⟩:=fl.2.2.1.mem z;rw[he] at ho';cases ho';exact hd' _ hd
 have nold:∀b o,s.heap.get? b=some o->H b=none->b≠ea:=fun b o e n z=>by
  subst z
  have:=old b o e n nfr
  rw[fl.2.1] at this;cases this
 refine I1.track F.nt (zit ⟨oe,vs,he,hc,hd⟩) (fun u e n hx=>?_) (fun z=>?_) (fun x c e z=>?_) fun p hp=>?_
 ·by_cases hb:ea∈X.fs
  ·obtain⟨_,o',ho',hd'⟩:=I1.funs.mem hb
   rw[he] at ho';cases ho';exact hd' _ hd
  ·exact nold ea u (I.base.keep ea u e n hb hx) (I.base.free ea u e n hx) rfl
 ·obtain⟨m,⟨oL,es,ep,hoL,hdL,_⟩,_⟩:=I1.loc
  rw[z,he] at hoL;cases hoL;rw[hd] at hdL;cases hdL
 ·obtain⟨v,oc,hoc,hdc⟩:=I1.cell x c e
  rw[z,he] at hoc;cases hoc;rw[hd] at hdc;cases hdc
 ·obtain⟨q1,q2,_⟩:=I.pin p hp
  exact nold p.1 p.2 q1 q2
end
section
variable {X:Cx}{pins:PnL}{σ:St}{H:Hp}{s:Shared}{M:Model}{A:Around}{E:VSP}{i:Nat}{n:Str}{pos:Pos}
theorem vW{Q:Unit->Shared->Prop}(I:Inv X pins σ H s)(hN:X.N.Nodup)(hi:X.N[i]?=some n)(hk:X.env.scope.names.lookup n=some .local)(h:∀s',Inv X pins (σ.set i none) H s'->Q () s'):
  wpAny M A (do bindName X.env n .none;unbindBehindTheSuite X.env n pos) Q E s:=by
 refine zwb (wpAny_bindName (vz (v:=.non) (u:=.none) I hN hi (.inl hk) rfl (fun s1 I1=>?_) (.inr hk)));unfold unbindBehindTheSuite;refine wpAny_onRaise ?_;have hiσ : i<σ.length:=by rw[I.len];exact(List.getElem?_eq_some_iff.mp hi).1
 have hcls:(X.env.scope.kind==.class||(X.env.scope.kind==.module&&X.env.locals != X.env.globals))=false:=by rw[I.ok.kind];rfl
 obtain⟨m,hn,hl⟩:=id I1.loc;obtain⟨u0,_,lk⟩:=hl i n .non hi (by rw[getElem?_set_self hiσ]) (.inl hk)
 have hv:m n=some u0:=by
  rcases lk with ⟨_,e⟩|⟨z,_⟩
  ·exact e
  ·have z':X.env.scope.names.lookup n=some .cell\/X.env.scope.names.lookup n=some .free:=z
   rw[hk] at z';rcases z' with z'|z' <;> cases z'
 refine wpAny_unbindName_local hk hn hv hcls fun h2 u hn2 hs=>h _ ?_;have old:∀b o,X.s₀.heap.get? b=some o->b≠X.env.locals:=fun b o e=>ne_of_lt (lt_of_lt_of_le (Heap.lt_size e) I1.ok.above);refine⟨I1.ok,I1.os,I1.bare,⟨fun b o e z hb hx=>(hs.2 b (old b o e)).trans (I1.base.keep b o e z hb hx),fun b o e z hb hx=>?_,I1.base.free,fun b o e hx=>?_,I1.base.tups,I1.base.frzs,I1.base.tbls⟩,⟨_,hn2,fun j y v e1 e2 e3=>?_⟩,fun y c e=>?_,I1.free,I1.freeC,fun p hp=>?_,fun b ob e=>?_,by rw[length_set];exact I.len⟩
 ·obtain⟨sl,e1⟩:=I1.base.slot b o e z hb hx
  exact⟨sl,(hs.2 b (old b o e)).trans e1⟩
 ·obtain⟨o',e1⟩:=I1.base.there b o e hx
  exact⟨o',(hs.2 b (old b o e)).trans e1⟩
 ·by_cases hj:j=i
  ·subst hj
   rw[getElem?_set_self hiσ] at e2;cases e2
  ·rw[getElem?_set_ne (Ne.symm hj)] at e2
   obtain⟨u',r',q⟩:=hl j y v e1 (by rw[getElem?_set_ne (Ne.symm hj)];exact e2) e3
   refine⟨u',r',?_⟩;rcases q with ⟨k,e⟩|⟨k,c,e,z⟩
   ·have ny:y≠n:=fun w=>hj (qo hN e1 (w ▸ hi))
    exact .inl ⟨k,by simp [ny,e]⟩
   ·exact .inr ⟨k,c,e,z.sameBut hs (I1.cne y c e)⟩
 ·obtain⟨w',z⟩:=I1.cell y c e
  exact⟨w',z.sameBut hs (I1.cne y c e)⟩
 ·obtain⟨e,z,ne,nf,d⟩:=I1.pin p hp
  exact⟨(hs.2 p.1 ne).trans e,z,ne,nf,d⟩
 ·refine(I1.hok b ob e).stay (fun c w' hc q=>(hs.2 c fun z=>?_).trans q) (fun _ q=>q) fun _ _ q=>q
  rcases hc with w1|w1
  ·rw[<- w1,z,I1.free] at e;cases e
  ·rw[z,I1.free] at w1;cases w1
structure PE1(X:Cx)(pins:PnL)(σ : St)(e:Expr)(t:TE):Prop where
 run:∀(s:Shared) (H:Hp) (Q:VK),Inv X pins σ H s->t σ H Q->wpAny (model X.prog X.w) X.A (eval e X.env) (EP X pins σ Q) X.xe s
structure PA1(X:Cx)(pins:PnL)(σ : St)(es:List Expr)(t:TA):Prop where
 run:∀(pos:Pos) (s:Shared) (H:Hp) (Q:List V->Hp->Prop),Inv X pins σ H s->t σ H Q->wpAny (model X.prog X.w) X.A (spliced (backTo pos (starEach es X.env))) (AP X pins σ Q) X.xe s
structure PS1(X:Cx)(pins:PnL)(σ : St)(st:Stmt)(t:TS):Prop where
 run:∀(s:Shared) (H:Hp) (D:wO),Inv X pins σ H s->t D σ H->wpAny (model X.prog X.w) X.A (exec st X.env) (SP X pins D) X.xe s
def zbj(X:Cx)(pins:PnL)(σ : St)(E:XK):Prop:=∀(H:Hp) (s:Shared) (e:Value) (s':Shared),Inv X pins σ H s->CXe X.prog X.w X.stack H s E e s'->X.xe e s'
end
section
variable {X:Cx}{pins:PnL}{σ:St}{e:Expr}{es:List Expr}{te ta:TE}{t tr:TA}{E:XK}{x m:Str}{p pos apos:Pos}{k:Nat}{f C:Addr}{fd:FuncData}{ps:List Str}{sp:Sp}{o:Expr}{dvs:List V}{ds:List Value}
theorem PE.one(h:PE X e te):PE1 X pins σ e te:=⟨fun s H Q I q=>h pins s σ H Q I q⟩
theorem PA.one(h:PA X es t):PA1 X pins σ es t:=⟨fun pos s H Q I q=>h pos pins s σ H Q I q⟩
theorem zdJ(c:yw X.prog X.w X.K X.mg X.base k x f fd ps sp)(hp:zbj X pins σ E)(hr:yh k X.A)(ha:PA X (e::es) t)(hg:Gl X x:=by rfl)(hdb:(x==("__debug__" : Str))=false:=by decide)
  (h1:xB e=false:=by rfl) (h2:es.any xB=false:=by rfl):PE1 X pins σ (.Call (.Name x p) (e::es) [] pos) (jp sp [] E t):=by
 refine⟨fun s H Q I h=>?_⟩;refine wpAny_Call_Name_kw (yY I hg c.mg ?_ hdb);refine callWith_K (h₀:=X.base) I.ok.mod.kin c.kp (thn (ha pos pins s σ H _ I h) fun us s1 ⟨vs,H1,I1,r,q⟩=>⟨I1.kIn,?_⟩) (yk h1) (xh h2);have r2:zY (vs++[]) (us++[]):=r.append .nil;have hl:(us++[]).length=ps.length:=by rw[<- r2.length];exact c.ok.len _ _ _ _ q
 refine wpAny_call (codeAny_mono (c.ok.run X.A X.stack s1 H1 ⟨us,[]⟩ (us++[]) (vs++[]) Q E hr I1.env0 (c.bd s1 us I1.kIn hl) r2 q) fun r s' hq=>?_);cases r with
 | error e=>exact hp H1 s1 e s' I1 hq
 | ok fl=>
  cases fl with
  | ret u=>exact I1.after hq
  | next=>exact False.elim hq
  | brk=>exact False.elim hq
  | cont=>exact False.elim hq
theorem jV(ha:PE1 X pins σ e te)(hr:PA1 X pins σ es tr)(h:xB e=false:=by rfl):PA1 X pins σ (e::es) (xM te tr):=by
 refine⟨fun pos s H Q I q=>?_⟩;rw[yk h];show wpAny _ _ (spliced ((false,eval e X.env)::backTo pos (starEach es X.env))) _ _ s;refine Calls.spliced_cons (thn (ha.run s H _ I q) fun u s1 ⟨x,H1,I1,r1,q1⟩=>?_);exact thn (hr.run pos s1 H1 _ I1 q1) fun us s2 ⟨xs,H2,I2,r2,q2⟩=>⟨x::xs,H2,I2,.cons r1 r2,q2⟩
theorem zf6{x1:Nat}(h:PA1 X pins σ es t):PE1 X pins σ (.Tuple es x1 pos) (zed t):=by
 refine⟨fun s H Q I hq=>?_⟩;refine wpAny_Tuple_spliced (thn (h.run pos s H _ I hq) fun us s1 ⟨xs,H1,I1,r,z,q⟩=>⟨by rw[<- r.length];exact z,?_⟩)
 have hf:H1 s1.heap.objs.size=none:=I1.hok.fresh (le_refl _);refine⟨.ref s1.heap.objs.size,upd H1 s1.heap.objs.size (.tup xs),I1.laid (t':=s1.toks) (fun b u e=>zgp _ e) (le_refl _) ?_,rfl,q _ hf⟩;exact⟨z,us,r,⟨_,zgs _ rfl,rfl,_,rfl⟩⟩
theorem zfK{i:Nat}{pos':Pos}(hN:X.N.Nodup)(hi:X.N[i]?=some x)(hx:Loc X.env.scope x)(he:PE1 X pins σ e te)(hs:swapsWith e (some (.Name x pos')) pos.line X.env=pure false:=by rfl)
  (hf:X.fn x=true\/X.env.scope.names.lookup x=some .local:=by first|exact .inl rfl|exact .inr rfl|assumption):PS1 X pins σ (.Assign [.Name x pos'] e pos) (zef te (yc i)):=by
 refine⟨fun s H D I h=>?_⟩;refine wpAny_Assign_Name (thn (he.run s H _ I h) fun v s1 ⟨y,H1,I1,r1,q1⟩=>?_) hs;exact vz I1 hN hi hx r1 (fun s2 I2=>⟨_,H1,I2,q1⟩) hf
abbrev Cx.suite(X:Cx)(ea:Addr):Cx:={ X with A:=X.A.mark (some (.ref ea)),calm:=false,xe:=fun _ _=>False }
variable {H:Hp}{s:Shared}{ea:Addr}
theorem Inv.suite(I:Inv X pins σ H s)(ea:Addr):Inv (X.suite ea) pins σ H s:=
 ⟨⟨I.ok.mod,I.ok.kind,I.ok.glob,I.ok.blt,I.ok.above,I.ok.inj,I.ok.has,I.ok.cab,(fun z=>Bool.noConfusion z),I.ok.frames,I.ok.stk,I.ok.exf,I.ok.bs,I.ok.bsz,I.ok.noex,I.ok.exfs,I.ok.funs,I.ok.frf⟩,I.os,I.bare,I.base,I.loc,I.cell,I.free,I.freeC,I.pin,I.hok,I.len⟩
theorem xV(hok:X.Ok)(I:Inv (X.suite ea) pins σ H s):Inv X pins σ H s:=
 ⟨hok,I.os,I.bare,I.base,I.loc,I.cell,I.free,I.freeC,I.pin,I.hok,I.len⟩
def zdX(D:wO)(i:Nat):wO:={ nx:=fun σ H=>D.nx (σ.set i none) H,rt:=D.rt,bk:=fun σ H=>D.bk (σ.set i none) H,ct:=fun σ H=>D.ct (σ.set i none) H }
def zmm(tb:XK->TS)(ok:Value->Prop)(i:Nat)(ts:TS):TS:=fun D σ H=>
 tb (fun cls _ H'=>ok cls/\∀ea,H' ea=none->ts (zdX D i) (σ.set i (some (.ref ea))) (upd H' ea (jh ea cls))) D σ H
abbrev ziL(X:Cx)(pins:PnL)(D:wO)(hs:List ExceptHandler):Value->Shared->Prop:=fun e s₁=>
 wpAny (model X.prog X.w) X.A (noteFrame e X.env) (fun _ s₂=>wpAny (model X.prog X.w) X.A (setFlight e none) (fun _ s₃=>wpAny (model X.prog X.w) X.A (handleBy e X.env hs) (SP X pins D) X.xe s₃) X.xe s₂) X.xe s₁
variable {st b₀:Stmt}{suite:List Stmt}{c n:Str}{np hpos:Pos}{i:Nat}{tb:XK->TS}{ts:TS}{ok:Value->Prop}
theorem zkf(hstk:X.stack=X.env::X.outer)(hfl:X.env.frame=some X.env.locals)(hN:X.N.Nodup)(hi:X.N[i]?=some n)(hk:X.env.scope.names.lookup n=some .local)(hg:Gl X c)(hm:X.mg c=some (.ref C))
  (hc:∀cls,ok cls->exmOne X.K cls (.ref C)=some true)
  (hb:∀(pins:PnL) (σ : St) (xe:VSP) (E:XK),zbj (X.wish xe) pins σ E->PS1 (X.wish xe) pins σ st (tb E)) (hs:∀ea,PSs (X.suite ea) (b₀::suite) ts)
  (hd:(c==("__debug__" : Str))=false:=by decide) :
  PS X (.Try [st] [.ExceptHandler (some (.Name c np)) (some n) (b₀::suite) hpos] [] [] pos) (zmm tb ok i ts):=by
 refine⟨?_⟩;intro pins s σ H D I h;have fr0:=I.ok.frames;rw[hstk] at fr0;refine wpAny_Try_except ?_;have key:zbj (X.wish (ziL X pins D [.ExceptHandler (some (.Name c np)) (some n) (b₀::suite) hpos])) pins σ (fun cls _ H'=>ok cls/\∀ea,H' ea=none->ts (zdX D i) (σ.set i (some (.ref ea))) (upd H' ea (jh ea cls))):=by
  intro H1 s1 e s2 I1 q;obtain⟨ea,cls,H',rfl,F,hok,q⟩:=q;have I1:=I1.unwish;have F:Fly X.prog X.w X.stack H1 s1 cls H' ea s2:=F;obtain⟨B,a0,fl,tr,old,olds⟩:=F.fly;have fl':=fl;rw[hstk] at fl';refine wpAny_looks_onW fr0 hfl fl' fun h4 held4 up4=>?_;refine wpAny_landsW held4 fun h5 fl5 up5=>?_;have fl5':Heap.FlyingW B X.stack ea cls a0 h5:=by rw[hstk];exact fl5
  have F5:=F.move fl tr old olds fl5' (up4.trans up5);have I5:Inv X pins σ H' { s2 with heap:=h5 }:=I1.call' F5.os F5.un F5.hok F5.bare fun b z=>nomatch z
  have LT:Looks (model X.prog X.w) h5 (typeOf (.ref ea)) cls:=by
   obtain⟨ob,h1,h2⟩:=fl5.there;exact h2 ▸ (PySem.W.Looks.ld h1).andThen .now
  refine wpAny_handleBy_cons (codeAny_handlers_test (yY (I5.suite ea) hg hm ?_ hd)) (by intro z;cases z)
  refine(PySem.W.exm_one (M:=model X.prog X.w) (h:=h5) I5.kIn LT (hc cls hok)) _ _ _ _ (fun _ _ z=>z) ?_;refine codeAny_handlers_suite_as (lands_againW fl5 fun h6 fl6 up6=>?_);have fl6':Heap.FlyingW B X.stack ea cls a0 h6:=by rw[hstk];exact fl6
  have F6:=F5.move fl5' tr old olds fl6' up6;have I6:=Fly.track I1 F6 fl6' old;refine vz (v:=.ref ea) I6 hN hi (.inl hk) rfl (fun s7 I7=>?_) (.inr hk);refine wpAny_mono ((hs ea) pins s7 _ _ (zdX D i) (I7.suite ea) (q ea F.nt)) (fun f s8 h8=>?_) fun _ _ z=>z.elim;show wpAny (model X.prog X.w) X.A (do bindName X.env n .none;unbindBehindTheSuite X.env n hpos) (fun _ s9=>SP X pins D f s9) X.xe s8
  cases f with
  | next=>
   obtain⟨σ',H2,I8,q8⟩:=h8;exact vW (xV I.ok I8) hN hi hk fun s9 I9=>⟨_,H2,I9,q8⟩
  | brk=>
   obtain⟨σ',H2,I8,q8⟩:=h8;exact vW (xV I.ok I8) hN hi hk fun s9 I9=>⟨_,H2,I9,q8⟩
  | cont=>
   obtain⟨σ',H2,I8,q8⟩:=h8;exact vW (xV I.ok I8) hN hi hk fun s9 I9=>⟨_,H2,I9,q8⟩
  | ret u=>
   obtain⟨v,σ',H2,I8,rv,q8⟩:=h8;exact vW (xV I.ok I8) hN hi hk fun s9 I9=>⟨v,_,H2,I9,rv,q8⟩
 have run:=(hb pins σ _ _ key).run s H D (I.wish _) h;refine wpAny_execs_cons (thn run fun f s1 q=>?_)
 ·cases f with
  | next=>exact wpAny_execs_nil (wpAny_execs_nil (SP.unwish (f:=.next) q))
  | ret v=>exact SP.unwish (f:=.ret v) q
  | brk=>exact SP.unwish (f:=.brk) q
  | cont=>exact SP.unwish (f:=.cont) q
end
end L2
namespace L2
open PySem PySem.W PySem.Builtin PySem.Builtin.ObjectAttr PySem.Builtin.Getset_descriptor PySem.Spec PyProof.Rows
structure xc(K:Frag)(D:Addr):Prop where
 cd:(clsIn K D).isSome=true
 ga:findIn K (.ref D) "__getattribute__"=some (some (.builtin "BaseException.__getattribute__"))
 no:findIn K (.ref D) "__getattr__"=some none
 cl:findIn K (.ref D) "__class__"=some (some (.builtin "object.__class__"))
 gt:specialIn K (.builtin "object.__class__") "__get__"=some (some (.builtin "getset_descriptor.__get__"))
 tk:takesIn K (.builtin "object.__class__")=some true
 be:mroIn K D (.type "BaseException")=some true
 ob:mroIn K D (.type "object")=some true
section
variable {prog:Program}{w:World}{A:Around}{E:VSP}{s:Shared}{K:Frag}{x D:Addr}
theorem jy.ty{M:Model}{h:Heap}(e:jy x (.ref D) h):Looks M h (typeOf (.ref x)) (.ref D):=by
 obtain⟨oe,vs,h1,h2,h3⟩:=e;exact h2 ▸ (Looks.ld h1).andThen .now
theorem zis{R:Result->Shared->Prop}{tp:Value}(c:xc K D)(X:K.In s.heap)(e:jy x (.ref D) s.heap)(h:R (.ok (.ret (.ref D))) s):
  codeAny (model prog w) A (.call (.builtin "getset_descriptor.__get__") ⟨[.builtin "object.__class__",.ref x,tp],[]⟩) R s:=by
 obtain⟨hh,g,dr,t,os⟩:=s;have LT:=e.ty (M:=model prog w);have LM:=looks_mroIn (M:=model prog w) X c.ob;refine codeAny_call_builtin KF.slot_gs.plain KF.entry_gs ?_;refine KF.slot_gs.check _ _ _ _ _ _ _ _ KF.type_class (KF.args_gs _ _ _) ?_;unfold Builtin.«getset_descriptor.__get__»;unfold descrGet;rw[dga_obj (.builtin "object.__class__") tp x];refine zwb (zwp ?_);unfold descrGetter;unfold descrCheckInstance descrNameAndClass;unfold isInstance;simp only[KF.owner_class]
 repeat lk
 refine⟨Code.quiet_builtin _ (by decide +kernel),?_⟩
 refine codeAny_builtin KF.entry_class ?_;unfold Builtin.«object.__class__»;unfold shownTypeOf
 repeat lk
 exact h
theorem zeO{Q:Option Value->Shared->Prop}(c:xc K D)(X:K.In s.heap)(e:jy x (.ref D) s.heap)(h:Q (some (.ref D)) { s with toks:=s.toks+1 }):wpAny (model prog w) A (getAttr? (.ref x) "__class__") Q E s:=by
 obtain⟨hh,g,dr,t,os⟩:=s;have LT:=e.ty (M:=model prog w);have LG:=looks_findIn (M:=model prog w) X c.ga;have LN:=looks_findIn (M:=model prog w) X c.no;have LC:=looks_findIn (M:=model prog w) X c.cl;have LB:=looks_mroIn (M:=model prog w) X c.be;have L2:=looks_specialIn (M:=model prog w) X c.gt;have L3:=looks_takesIn (M:=model prog w) X c.tk;unfold getAttr?;unfold getAttrBy? getAttrBy;refine zwb (wpAny_mkText (zwb (wpAny_attempt ?_)));refine wpAny_holding (zwb (LT.at (zwb (LG.at ?_))));have hne:(onTheHeap (Value.ref D)&&Value.builtin "BaseException.__getattribute__"==Value.builtin "object.__getattribute__")=false:=by
  rw[show(Value.builtin "BaseException.__getattribute__"==Value.builtin "object.__getattribute__")=false from by decide +kernel,Bool.and_false]
 dsimp only;rw[hne];rw[if_neg zft];unfold getAttrByItsOwn hookBefore;rw[if_pos (show onTheHeap (Value.ref D)=true from rfl)];refine zwb (LN.at (zwb (wpAny_attempt (wpAny_holding ?_))));unfold callGetattribute boundAndCalled;rw[if_neg (by simp)]
 have fb:=PySem.F.attrBase_ValueError.ga;rw[fb.bind (.ref x)];refine zwb (zwp ?_);refine wpAny_call (codeAny_call_builtin fb.plain F.entry_bexc_ga ?_);have ck:∀(Q':Unit->Shared->Prop) (E':VSP) (A':Around),Q' () ⟨hh,g,dr,t+1,os⟩->wpAny (model prog w) A' (checkBuiltinCall "BaseException.__getattribute__" ⟨[.ref x,.str "__class__" t],[]⟩) Q' E' ⟨hh,g,dr,t+1,os⟩:=by
  intro Q' E' A' q';have k1:builtinKind "BaseException.__getattribute__"=some .slot:=by decide +kernel
  have k2:splitId "BaseException.__getattribute__"=some ("BaseException","__getattribute__"):=by decide +kernel
  have k3:=F.args_bexc_ga (.ref x) (.str "__class__" t);simp only[checkBuiltinCall,k1,k2];refine zwb ?_;unfold isInstance
  repeat (first|lk|wp_step)
  exact q'
 refine ck _ _ _ ?_;unfold Builtin.«object.__getattribute__»;unfold find getOf dataDescriptor?
 repeat (first|lk|wp_step)
 refine wpAny_run (zis (s:=⟨hh,g,dr,t+1,os⟩) c X e ?_);refine zwp (zwp ?_);show wpAny _ _ (handedOut (Value.ref D)) _ _ _;rw[handedOut_of (show handedIn (Value.ref D)=true from rfl)];exact zwp (zwp h)
theorem qx(c:xc K D):KitX K (.ref x) (.ref D) (jy x (.ref D)) where
 ty:=fun _ _ _ e=>e.ty
 it:=fun _ _ X _=>by
  obtain⟨cd,hc⟩:=Option.isSome_iff_exists.mp c.cd;unfold clsIn at hc;split at hc
  ·rename_i c' d' cd' sl' ho
   intro A' Q' E' s' k q;unfold isType;unfold loadHead;exact zwb (wpAny_loadPart (k _ _ (X _ _ ho)) (zwp q))
  ·cases hc
 ne:=fun h tp dd its n sl X htp=>by
  obtain⟨cd,hc⟩:=Option.isSome_iff_exists.mp c.cd;refine Bool.eq_false_iff.mpr fun q=>?_;have z:D=tp:=Value.ref.inj (beq_iff_eq.mp q);subst z;unfold clsIn at hc;split at hc
  ·rename_i c' d' cd' sl' ho
   have w:=(X _ _ ho).symm.trans htp;cases w
  ·cases hc
 ca:=fun X e k=>zeO c X e k
end
end L2
namespace L2
open PySem PySem.Spec PyProof.Rows
section
variable {X:Cx}
theorem qD{pins:PnL}{σ : St}{H:Hp}{s:Shared}{ea:Addr}{cls:Value}(I:Inv X pins σ H s)(e:H ea=some (jh ea cls)):jy ea cls s.heap:=(I.hok ea _ e).1
theorem zbg:xp X (.builtin "isinstance") (fun xs H Q=>∃ea D C b,xs=[.ref ea,.ref C]/\H ea=some (jh ea (.ref D))/\xc X.K D/\kitOne X.K (.ref D) (.ref C)=some b/\Q (.bl b) H):=by
 intro pins s σ H xs us Q I r h;obtain⟨ea,D,C,b,rfl,he,c,e,q⟩:=h;obtain⟨u,w',rfl,ru,rw'⟩:=zbn r;cases rw';cases ru;exact kia_one (qx c) I.kIn (qD I he) e (fun z=>nomatch z) fun tk=>⟨.bl b,H,I.tok tk,rfl,q⟩
theorem qU:xp X (.builtin "isinstance") (fun xs H Q=>∃ea D T b,xs=[.ref ea,.ty T]/\H ea=some (jh ea (.ref D))/\xc X.K D/\kitOne X.K (.ref D) (.type T)=some b/\Q (.bl b) H):=by
 intro pins s σ H xs us Q I r h;obtain⟨ea,D,T,b,rfl,he,c,e,q⟩:=h;obtain⟨u,w',rfl,ru,rw'⟩:=zbn r;cases rw';cases ru;exact kia_one (qx c) I.kIn (qD I he) e (fun z=>nomatch z) fun tk=>⟨.bl b,H,I.tok tk,rfl,q⟩
theorem qX:∀{cs:List Addr}{us:List Value},zY (cs.map V.ref) us->us=cs.map Value.ref
 | [],_,.nil=>rfl
 | c::cs,_,.cons r t=>by
  cases r;rw[qX t];rfl
theorem uq:xp X (.builtin "isinstance") (fun xs H Q=>∃(ea D tp:Addr) (cs:List Addr) (b:Bool),xs=[.ref ea,.ref tp]/\H ea=some (jh ea (.ref D))/\xc X.K D/\H tp=some (.tup (cs.map V.ref))/\kitAny X.K (.ref D) (cs.map Value.ref)=some b/\Q (.bl b) H):=by
 intro pins s σ H xs us Q I r h;obtain⟨ea,D,tp,cs,b,rfl,he,c,ht,e,q⟩:=h;obtain⟨u,w',rfl,ru,rw'⟩:=zbn r;cases rw';cases ru;obtain⟨_,its,rv,⟨oc,od,oda,osl⟩,h1,h2,n,h3⟩:=I.hok tp _ ht;have h2:oc=.type "tuple":=h2;have h3:oda=.seq its.toArray n:=h3;subst h2 h3;rw[qX rv] at h1;exact PySem.W.kia_tup (qx c) I.kIn (qD I he) h1 e (fun z=>nomatch z) fun tk=>⟨.bl b,H,I.tok tk,rfl,q⟩
structure w6(k:Nat)(A:Around):Prop where
 dp:A.depth+3 * k+5<recursionLimit
 un:A.units+16 * k+200<cLine
theorem yh.m{k:Nat}{A:Around}(r:yh k A):w6 k A:=⟨r.dp,r.un⟩
theorem w6.mark{k:Nat}{A:Around}(r:w6 k A)(h:Option Value):w6 k (A.mark h):=⟨r.dp,r.un⟩
theorem w6.deeper{k:Nat}{A:Around}(r:w6 (k+1) A)(env:Env):w6 k (A.deeper env):=
 ⟨by have:=r.dp;show A.depth+1+3 * k+5<_;omega,by have:=r.un;show A.units+3+16 * k+200<_;omega⟩
theorem w6.depth{k:Nat}{A:Around}(r:w6 k A):A.depth<recursionLimit:=by have:=r.dp;omega
structure zg5(P:Program)(w:World)(K:Frag)(mg:Str->Option Value)(base:Heap)(k:Nat)(f:Addr)(fd:FuncData)(ps:List Str)(sp:Sp):Prop where
 len:∀vs H Q E,sp vs H Q E->vs.length=ps.length
 run:∀(A:Around) (outer:List Env) (s:Shared) (H:Hp) (args:Args) (us:List Value) (vs:List V) (Q:VK),w6 k A->qW P w K mg base A outer s H->BindsTo s fd args (ps.zip us)->zY vs us->sp vs H Q E0->
  codeAny (model P w) A (.call (.ref f) args) (CR CX0 outer P w H s Q E0) s
abbrev zd2(P:Program)(w:World)(K:Frag)(mg:Str->Option Value)(base:Heap)(N:List Str)(qual:Str)(scope:Scope)(f:Addr)(cd:Value)(A:Around)(outer:List Env)(s:Shared)(H:Hp):Cx:=
 { w5 CX0 P w K mg base N qual scope f cd A outer s H E0 with calm:=false,xe:=fun _ _=>False }
variable {P:Program}{w:World}{K:Frag}{mg:Str->Option Value}{base:Heap}
theorem zc6{N ps:List Str}{qual:Str}{scope:Scope}{f:Addr}{cd:Value}{A:Around}{outer:List Env}{s s1:Shared}{H:Hp}{us:List Value}{vs:List V}
  (S:zD N ps scope) (e0:qW P w K mg base A outer s H) (hl:vs.length=ps.length) (r:zY vs us)
  (x:InCallC s s.heap.objs.size (bindL (envOfC qual scope s.heap.objs.size f cd).kindOf (ps.zip us) fun _=>none) (cellsFrom (s.heap.objs.size+1) scope.names []) (bindC (envOfC qual scope s.heap.objs.size f cd).kindOf (ps.zip us) fun _=>none) s1) :
  Inv (zd2 P w K mg base N qual scope f cd A outer s H) [] (xN N vs) H s1:=by
 have e1:qW P w K mg base { A with handled:=none } outer s H:=⟨e0.frames,e0.mod,e0.bs,e0.bsz,e0.funs,e0.frf,e0.hok,e0.bare⟩
 have I:Inv (w5 CX0 P w K mg base N qual scope f cd { A with handled:=none } outer s H E0) [] (xN N vs) H s1:=zak S rfl e1 hl r x
 exact⟨⟨I.ok.mod,I.ok.kind,I.ok.glob,I.ok.blt,I.ok.above,I.ok.inj,I.ok.has,I.ok.cab,(fun z=>Bool.noConfusion z),Around.frames_deeper e0.frames,I.ok.stk,I.ok.exf,I.ok.bs,I.ok.bsz,I.ok.noex,I.ok.exfs,I.ok.funs,I.ok.frf⟩,I.os,I.bare,I.base,I.loc,I.cell,I.free,I.freeC,I.pin,I.hok,I.len⟩
theorem Fun.okM{x qual:Str}{st:Stmt}{f:Addr}{fd:FuncData}{N ps:List Str}{k:Nat}{sp:Sp}(F:Fun K x qual st f fd)(S:zD N ps (zr st))(len:∀vs H Q E,sp vs H Q E->vs.length=ps.length)
  (hbody:∀(cdv:Value) (A:Around) (outer:List Env) (s:Shared) (H:Hp) (vs:List V) (Q:VK),w6 k (A.deeper (envOfC qual (zr st) s.heap.objs.size f cdv))->sp vs H Q E0->
   ∃t,PSs (zd2 P w K mg base N qual (zr st) f cdv A outer s H) (yd st) t/\t { nx:=fun _ H'=>Q .non H',rt:=Q } (xN N vs) H):zg5 P w K mg base (k+1) f fd ps sp:=by
 obtain⟨oc,od,kV,doc,pm,an,cdv,ct,osl,rfl,lk,hcd⟩:=F.ex;refine⟨len,fun A outer s H args us vs Q hr e0 hb r hsp=>?_⟩;have hl:=len _ _ _ _ hsp;have KX:K.In s.heap:=e0.mod.kin.keeps fun b o e=>(e0.bs b o e).1;have lim:s.heap.NoLimit:=e0.mod.nolimit.keeps fun b o e=>(e0.bs b o e).1;have hkind:∀y∈ps.zip us,(zr st).names.lookup y.1=some .local\/((zr st).names.lookup y.1=some .cell/\((cellsFrom (s.heap.objs.size+1) (zr st).names []).lookup y.1).isSome=true):=fun⟨n,v⟩ hy=>by
  rcases S.par n (of_mem_zip hy).1 with q|q
  ·exact .inl q
  ·exact .inr ⟨q,cellsFrom_some _ _ _ (.inl q)⟩
 refine codeAny_call_function hr.depth (KX _ _ lk) rfl S.co S.gen rfl (PySem.W.codeRec_of KX hcd) (hb _ _ _ _ ?_);refine wpAny_newFunctionEnv_cells S.kind hkind fun env he s1 x=>?_;subst he;refine⟨lim.keeps x.toInCall.keep,codeAny_func ?_⟩;obtain⟨t,ht,hq⟩:=hbody cdv A outer s H vs Q (hr.deeper _) hsp;have I:Inv (zd2 P w K mg base N qual (zr st) f cdv A outer s H) [] (xN N vs) H s1:=zc6 S e0 hl r x;refine wpAny_mono (ht [] s1 (xN N vs) H _ I hq) (fun fl s' hs=>?_) fun e s' hs=>hs.elim;have fin:∀{σ':St}{H':Hp}{v:V}{u:Value},Inv (zd2 P w K mg base N qual (zr st) f cdv A outer s H) [] σ' H' s'->yj v u->Q v H'->CE outer P w H s Q u s':=
  fun {σ' H' v u} J rv q=>⟨v,H',J.os,J.bare,J.base,J.hok,rv,q⟩
 cases fl with
 | ret u=>
  obtain⟨v,σ',H',J,rv,q⟩:=hs;exact fin J rv q
 | next=>
  obtain⟨σ',H',J,q⟩:=hs;exact fin (v:=V.non) (u:=Value.none) J rfl q
 | brk=>
  obtain⟨_,_,_,q⟩:=hs;exact False.elim q
 | cont=>
  obtain⟨_,_,_,q⟩:=hs;exact False.elim q
structure zbk(P:Program)(w:World)(K:Frag)(mg:Str->Option Value)(base:Heap)(k:Nat)(x:Str)(f:Addr)(fd:FuncData)(ps:List Str)(sp:Sp):Prop where
 ok:zg5 P w K mg base k f fd ps sp
 mg:mg x=some (.ref f)
 kp:keepIn K (.ref f)=true
 bd:yt K fd ps []
variable {k:Nat}{f:Addr}{fd:FuncData}{ps:List Str}{sp:Sp}{x:Str}{p pos:Pos}{e:Expr}{es:List Expr}{t:TA}
theorem cM(c:zbk X.prog X.w X.K X.mg X.base k x f fd ps sp)(hr:w6 k X.A)(ha:PA X (e::es) t)(hg:Gl X x:=by rfl)(hdb:(x==("__debug__" : Str))=false:=by decide)
  (h1:xB e=false:=by rfl) (h2:es.any xB=false:=by rfl):PE X (.Call (.Name x p) (e::es) [] pos) (jp sp [] E0 t):=by
 refine⟨?_⟩;intro pins s σ H Q I h;refine wpAny_Call_Name_kw (yY I hg c.mg ?_ hdb);refine callWith_K (h₀:=X.base) I.ok.mod.kin c.kp (thn (ha pos pins s σ H _ I h) fun us s1 ⟨vs,H1,I1,r,q⟩=>⟨I1.kIn,?_⟩) (yk h1) (xh h2);have r2:zY (vs++[]) (us++[]):=r.append .nil;have hl:(us++[]).length=ps.length:=by rw[<- r2.length];exact c.ok.len _ _ _ _ q
 refine wpAny_call (codeAny_mono (c.ok.run X.A X.stack s1 H1 ⟨us,[]⟩ (us++[]) (vs++[]) Q hr I1.env0 (c.bd s1 us I1.kIn hl) r2 q) fun r s' hq=>?_);cases r with
 | error e=>exact False.elim hq
 | ok fl=>
  cases fl with
  | ret u=>exact I1.after hq
  | next=>exact False.elim hq
  | brk=>exact False.elim hq
  | cont=>exact False.elim hq
end
section
variable {prog:Program}{w:World}{A:Around}{E:VSP}{s:Shared}{r:Addr}{n:Int}{t u v:Tok}
theorem zgX:bootBuiltins "reversed"=some (.type "reversed"):=by decide +kernel
variable {X:Cx}{tg:Expr}
variable {o i:Expr}{to ti:TE}{pos tpos:Pos}
def zmD:R2:=fun x y H Q=>∃(a c:Addr) (xs ys:List V),x=.ref a/\y=.ref c/\H a=some (.lst xs)/\H c=some (.lst ys)/\xs.length≠ys.length/\Q (.bl false) H
theorem ql(hu:X.A.units<cLine):OpR X (compareOp .Eq) zmD:=by
 intro pins s σ H x y v u Q I rx ry h;obtain⟨a,c,xs,ys,rfl,rfl,ha,hc,hn,q⟩:=h;cases rx;cases ry;obtain⟨its,r,pl,_⟩:=I.list (zq ha);obtain⟨its2,r2,pl2,_⟩:=I.list (zq hc);have e1:=r.length;have e2:=r2.length;exact PySem.SeqAt.eq_list_lengthsAt pl.isList pl2.isList (by simp only[size_toArray,bne_iff_ne];omega) hu ⟨.bl false,H,I,rfl,q⟩
variable {pins:PnL}{σ:St}{e:Expr}{te:TE}{p:Pos}{C:Addr}{x:Str}
theorem wk{H H1:Hp}{x dx:Addr}{o1 o2:HO}(hx:H x=none)(hd:H dx=none)(s:zx (upd (upd H dx (.own x)) x o1) H1):zx H (upd H1 x o2):=fun b u q=>by
 rw[zv (zu q hx)];exact s _ _ (xt hx hd b u q)
structure ze2(P:Program)(w:World)(K:Frag)(mg:Str->Option Value)(base:Heap)(CX:CXT)(k:Nat)(x:Str)(C i:Addr)(fd:FuncData)(ps:List Str)(ds:List Value)(sp:Sp):Prop where
 mkr:Mk K C i
 ok:zL P w K mg base CX k i fd ps sp
 mg:mg x=some (.ref C)
 bd:yt K fd ps ds
end
section
variable {X:Cx}{CX:CXT}{k:Nat}{C i f:Addr}{fd:FuncData}{ps ks:List Str}{sp:Sp}{E:XK}{x m:Str}{p pos apos:Pos}{e:Expr}{es:List Expr}{t tk:TA}{ds:List Value}{dvs:List V}{kws:List Keyword}
 {g:List Value->List Value->List Value}{gV:List V->List V->List V}
theorem cMk(c:ze2 X.prog X.w X.K X.mg X.base CX k x C i fd ps ds sp)(hd:zY dvs ds)(hp:yE CX X E)(hr:yh (k+1) X.A)(ha:PA X (e::es) t)(hg:Gl X x:=by rfl)(hdb:(x==("__debug__" : Str))=false:=by decide)
  (h1:xB e=false:=by rfl) (h2:es.any xB=false:=by rfl):PE X (.Call (.Name x p) (e::es) [] pos) (ze9 C sp dvs E t):=zhJ c.mkr c.ok hr hg c.mg c.bd hd hp ha hdb (yk h1) (xh h2)
structure qM(K:Frag)(C:Addr)(m:Str)(f:Addr):Prop where
 ga:specialIn K (.ref C) "__getattribute__"=some (some (.builtin "type.__getattribute__"))
 rd:PySem.W.readsIn K C (.type "type")=true
 fc:PySem.W.findCls K (.ref C) (.type "type") m=some (.val (.ref f))
 kp:keepIn K (.ref f)=true
theorem zbM{pl:Sem Bool}(B:qM X.K C m f)(hm:X.mg x=some (.ref C))(F:zL X.prog X.w X.K X.mg X.base CX k f fd ps sp)(hr:yh k X.A)(hb:yt X.K fd ps [])(hx:yE CX X E)(ha:PA X (e::es) t)(hg:Gl X x:=by rfl)
  (hdb:(x==("__debug__" : Str))=false:=by decide) (h1:xB e=false:=by rfl) (h2:es.any xB=false:=by rfl)
  (ht:eval (.Call (.Attribute (.Name x p) m apos) (e::es) [] pos) X.env=(do
   let ov <- eval (.Name x p) X.env
   standAt apos.atName
   let (f,first) <- holding [ov] (getMethod ov m pl)
   callWith pos f first (backTo pos (starEach (e::es) X.env)) (backToKw pos (keywordEach [] X.env))):=by rfl) :
  PE X (.Call (.Attribute (.Name x p) m apos) (e::es) [] pos) (jp sp [] E t):=by
 refine⟨?_⟩;intro pins s σ H Q I h;refine methodCall_KW (pl:=pl) (yY I hg hm ?_ hdb) ht;refine PySem.W.method_cls I.kIn B.ga (PySem.W.cls_value I.kIn B.rd B.fc rfl ?_);have It:=I.tok (s.toks+1);refine callWith_K (first:=[]) (h₀:=X.base) I.ok.mod.kin B.kp (thn (ha pos pins _ σ H _ It h) fun us s2 ⟨vs,H2,I2,r,q2⟩=>⟨I2.kIn,?_⟩) (yk h1) (xh h2)
 exact u7 F hr hb .nil hx I2 r q2
theorem zhE{X:Cx}{st:Stmt}:PS X st (fun _ _ _=>False):=⟨fun _ _ _ _ _ _ h=>h.elim⟩
def zm7(P:Program)(w:World)(a:Addr)(S:Str->Bool)(n:Nat)(h:Heap):Prop:=h.SetOf (strKind P w) a S n
abbrev jC(P:Program)(w:World)(a:Addr)(S:Str->Bool)(n:Nat):HO:=.ext (zm7 P w a S n)
theorem zds{P:Program}{w:World}{H:Hp}{h:Heap}{a:Addr}{S:Str->Bool}{n:Nat}(e:h.SetOf (strKind P w) a S n):yB P w H h a (jC P w a S n):=
 ⟨e,let ⟨o,_,_,_,h1,_⟩:=e;⟨o,h1⟩,fun g1 g2 q k=>let ⟨o,es,ep,t,h1,c⟩:=q;⟨o,es,ep,t,k o h1,c⟩⟩
theorem zeY:xp X (.type "set") (fun xs H Q=>xs=[]/\∀p,H p=none->Q (.ref p) (upd H p (jC X.prog X.w p (fun _=>false) 0))):=by
 intro pins s σ H xs us Q I r h;obtain⟨rfl,q⟩:=h;cases r;refine call_set_0 fun led=>?_;have hf:H s.heap.objs.size=none:=I.hok.fresh (le_refl _);refine⟨.ref s.heap.objs.size,_,I.laid (t':=s.toks) (fun b u e=>zgp _ e) (le_refl _) (zds ?_),rfl,q _ hf⟩;exact(setObjOf_fresh led).setOf (zgs _ rfl) (by decide)
theorem zcT:OpR X (compareOp .In) (fun x y H Q=>∃(a:Addr) (S:Str->Bool) (n:Nat) (z:Str),x=.str z/\y=.ref a/\H a=some (jC X.prog X.w a S n)/\Q (.bl (S z)) H):=by
 intro pins s σ H x y v u Q I rx ry h;obtain⟨a,S,n,z,rfl,rfl,e,q⟩:=h;obtain⟨t,rfl⟩:=rx;cases ry;have hS:s.heap.SetOf (strKind X.prog X.w) a S n:=(I.hok a _ e).1;exact wpAny_inSet_of (strKind_is X.prog X.w z t) rfl hS ⟨.bl (S z),H,I.tok _,rfl,q⟩
def zk7(P:Program)(w:World)(to te:TE):TE:=fun σ H Q=>to σ H fun x H1=>∃(a:Addr) (S:Str->Bool) (n:Nat),x=.ref a/\H1 a=some (jC P w a S n)/\te σ H1 fun y H2=>∃(S:Str->Bool) (n:Nat) (z:Str),y=.str z/\H2 a=some (jC P w a S n)/\n+1<scanBound/\
 Q .non (upd H2 a (jC P w a (fun k=>S k||decide (k=z)) (if S z then n else n+1)))
theorem zhH{o e:Expr}{apos cpos:Pos}{to te:TE}(ho:PE X o to)(he:PE X e te)(m:M1 X o "add" apos e cpos):PE X (.Call (.Attribute o "add" apos) [e] [] cpos) (zk7 X.prog X.w to te):=by
 refine⟨?_⟩;intro pins s σ H Q I h;refine wpAny_Call_method m.base m.few m.line PySem.F.plainAttrs_set PySem.F.slot_set_add PySem.F.type_set_add (thn (ho pins s σ H _ I h) fun u s1 ⟨x,H1,I1,rx,a,S,n,ex,d,q1⟩=>?_);subst ex;obtain rfl:u=Value.ref a:=rx;have hS:s1.heap.SetOf (strKind X.prog X.w) a S n:=(I1.hok a _ d).1;refine⟨hS.typeIs,hS.noDict,?_⟩;rw[m.trees];refine Calls.callWith_builtin rfl (Calls.evalArgs_plain (Calls.spliced_cons (thn (he pins s1 σ H1 _ I1 q1) fun iv s2 ⟨y,H2,I2,ry,S2,n2,z,ey,e2,hn,q2⟩=>Calls.spliced_nil ?_)));subst ey;obtain⟨t,rfl⟩:=ry;have hS2:s2.heap.SetOf (strKind X.prog X.w) a S2 n2:=(I2.hok a _ e2).1;refine call_set_add (strKind_is X.prog X.w z t) rfl hS2 hn fun h' hs hS3=>⟨.non,_,?_,rfl,q2⟩;refine I2.write (x:=a) (e:=a) (by rw[e2];exact True.intro) (.inl rfl) (fun b q hb z=>(hs.2 b hb).trans z) (let ⟨o,_,_,_,h1,_⟩:=hS3;⟨o,h1⟩) (zds hS3)
def zjt(Cs:Addr->Prop)(m:Str)(sp:Sp)(E:XK)(ta:TE):TE:=fun σ H Q=>ta σ H fun x H1=>∃a C dx fs,x=.ref a/\Cs C/\H1 a=some (.ins C dx fs)/\fs.lookup m=none/\sp [x] H1 Q E
theorem uM{CX:CXT}{k:Nat}{f:Addr}{fd:FuncData}{ps:List Str}{sp:Sp}{E:XK}{m:Str}{pos apos:Pos}{o:Expr}{ta:TE}{Cs:Addr->Prop}{pl:Sem Bool}(he:PE X o ta)(hC:∀C,Cs C->Cls X.K C/\vw X.K C m f)(F:zL X.prog X.w X.K X.mg X.base CX k f fd ps sp)(hr:yh k X.A)(hb:yt X.K fd ps [])(hx:yE CX X E)
  (ht:eval (.Call (.Attribute o m apos) [] [] pos) X.env=(do
   let ov <- eval o X.env
   standAt apos.atName
   let (f,first) <- holding [ov] (getMethod ov m pl)
   callWith pos f first (backTo pos (starEach [] X.env)) (backToKw pos (keywordEach [] X.env))):=by rfl) :
  PE X (.Call (.Attribute o m apos) [] [] pos) (zjt Cs m sp E ta):=by
 refine⟨?_⟩;intro pins s σ H Q I h;refine methodCall_KW (pl:=pl) (thn (he pins s σ H _ I h) fun u s1 ⟨x,H1,I1,rx,a,C,dx,fs,ex,hc,ea,l,q⟩=>?_) ht;subst ex;obtain rfl:u=Value.ref a:=rx;obtain⟨c,hm⟩:=hC C hc;refine vn I1 ea c hm l ?_;exact callWith_K0 (first:=[.ref a]) I1.kIn hm.kp (u7 (us:=[.ref a]) (vs:=[.ref a]) F hr hb .nil hx I1 (.cons rfl .nil) q)
structure zkY(w:World)(K:Frag)(a:Addr)(f:Str->Option V):Prop where
 obj:∃es n,K.lookup a=some ⟨.type "dict",none,.dict es n,#[]⟩/\KeysLit w.params es.toList
 vals:∀x v,f x=some v->∃u,nsIn K a x=some (some u)/\yj v u
theorem zhK{e:Expr}{d:Str}{p pos:Pos}{a:Addr}{f:Str->Option V}{te:TE}(T:zkY X.w X.K a f)(hm:X.mg d=some (.ref a))(he:PE X e te)(hg:Gl X d:=by rfl)(hs:zkX e:=by first|exact fun _ _=>rfl|decide|rfl)(hdb:(d==("__debug__" : Str))=false:=by decide):
  PE X (.Subscript (.Name d p) e pos) (fun σ H Q=>te σ H fun y H1=>∃x v,y=.str x/\f x=some v/\Q v H1):=by
 refine⟨?_⟩;intro pins s σ H Q I h;obtain⟨es,n,hl,hk⟩:=T.obj;refine zdm PySem.F.slot_dict_getitem.lookup hs (yY I hg hm (thn (he pins s σ H _ I h) fun iv s2 ⟨y,H2,I2,ry,x,v,ey,ef,q2⟩=>?_) hdb);subst ey;obtain⟨t,rfl⟩:=ry;obtain⟨u,eu,ru⟩:=T.vals x v ef;have hmap:=mapOf_K (prog:=X.prog) (w:=X.w) I2.kIn hl hk;exact⟨hmap.typeIs,wpAny_getItem_of (strKind_is X.prog X.w x t) hmap (PySem.W.find_K hl eu) ⟨v,H2,I2.tok _,ru,q2⟩⟩
variable {pins:PnL}{σ:St}{H:Hp}{s:Shared}{sc:Scope}{fr Nc:List Str}{fp:List Addr}
theorem zce{caps:List (Option Nat)}{h':Heap}{D:Addr}{m:Str->Option Value}{t':Nat}{o0:HO}(I:Inv X pins σ H s)(B:yH X.env sc fr)(hf:∀b∈fp,wN X pins H b)(ho:∀b∈fp,∃o,s.heap.get? b=some o)
  (hC:s.heap.objs.size<=C) (hD:s.heap.objs.size<=D) (hDC:D≠C) (keep:∀b o,s.heap.get? b=some o->h'.get? b=some o) (new:yB X.prog X.w (upd H D o0) h' D o0) (hn:h'.Ns C m)
  (hcap:wz X.N Nc caps X.env sc fr=true) (hlen:caps.length=Nc.length) :
  Inv (zX X pins sc fr Nc fp s H C) [] (xk caps σ) (upd H D o0) { s with heap:=h',toks:=t' }:=by
 have hk:X.env.scope.kind=.function:=I.ok.kind;have fresh:∀a,s.heap.objs.size<=a->H a=none:=fun a ha=>I.hok.fresh ha;refine⟨zd4 I B hf ho hC,rfl,I.bare,Un.laid keep hD (fresh D hD),⟨m,hn,fun i x v e1 e2 e3=>?_⟩,fun x c h=>?_,?_,fun x c h=>?_,fun p hp=>?_,?_,?_⟩
 ·
  have e2':(caps[i]?).map (fun o=>match o with|none=>none|some j=>(σ[j]?).join)=some (some v):=by
   have:(xk caps σ)[i]?=some (some v):=e2
   unfold xk at this;rw[getElem?_map] at this;exact this
  cases hc:caps[i]? with
  | none=>rw[hc] at e2';cases e2'
  | some o=>
   rw[hc] at e2';cases o with
   | none=>simp at e2'
   | some j=>
    have e4:(σ[j]?).join=some v:=by simpa using e2'
    have e5 : σ[j]?=some (some v):=by
     cases q : σ[j]? with
     | none=>rw[q] at e4;cases e4
     | some w'=>rw[q] at e4;simp at e4;rw[e4]
    have e6:(Nc.zip caps)[i]?=some (x,some j):=by
     rw[List.getElem?_zip_eq_some];exact⟨e1,hc⟩
    have e7:=List.all_eq_true.mp hcap _ (mem_of_getElem? e6);simp only[Bool.and_eq_true,beq_iff_eq,List.contains_iff_mem] at e7;obtain⟨⟨⟨a1,a2⟩,a3⟩,a4⟩:=e7;obtain⟨m0,hn0,hl0⟩:=I.loc;obtain⟨u,r,l⟩:=hl0 j x v a1 e5 (.inr (.inl a2));refine⟨u,r,.inr ⟨.inl (vd hk a3 a2),_,zbf a4,?_⟩⟩;rcases l with ⟨z,_⟩|⟨_,c,ec,hcell⟩
    ·rw[a2] at z;cases z
    ·have:(X.env.cells.lookup x).getD 0=c:=by rw[ec];rfl
     rw[this];exact hcell.keeps keep
 ·obtain⟨v,hv⟩:=I.cell x c (B.sub h)
  exact⟨v,hv.keeps keep⟩
 ·show upd H D o0 C=none
  rw[zv (Ne.symm hDC)];exact fresh C hC
 ·obtain⟨v,hv⟩:=I.cell x c (B.sub h)
  have:c≠D:=fun z=>by have:=hv.lt;rw[z] at this;exact absurd (lt_of_lt_of_le this hD) (lt_irrefl _)
  rw[zv this];exact I.freeC x c (B.sub h)
 ·have hp':p∈X.pn++pins:=by simpa using hp
  obtain⟨e,n,ne,nf,d⟩:=I.pin p hp';have hlt:=I.pin_lt hp';refine⟨keep _ _ e,?_,?_,fun z=>?_,d⟩
  ·rw[zv (fun z=>by rw[z] at hlt;exact absurd (lt_of_lt_of_le hlt hD) (lt_irrefl _))];exact n
  ·intro z
   have z':p.1=C:=z;rw[z'] at hlt;exact absurd (lt_of_lt_of_le hlt hC) (lt_irrefl _)
  ·rcases List.mem_cons.mp (I.stkSub p.1 z) with q|q
   ·exact ne q
   ·exact nf q
 ·exact I.hok.laid keep hD new
 ·show(xk caps σ).length=Nc.length
  unfold xk;rw[length_map,hlen]
variable {prog:Program}{w:World}{A:Around}{R:Result->Shared->Prop}
theorem qR{kx vx target iter:Expr}{ifs:List Expr}{scope:Scope}{pos:Pos}{it:Value}{D:Addr}{env:Env}(I:Nat->Shared->Prop)
  (turn:∀n s,I n s->wpAny (model prog w) A (pyNext it) (fun r s₁=>match r with
   | none=>R (.ok .next) s₁
   | some v=>wpAny (model prog w) A (letOwnedTupleGo target it v) (fun _ s₀=>wpAny (model prog w) A (assign target env v) (fun _ s₂=>
     wpAny (model prog w) A (forIn ifs true fun c r=>if r=true then do let ok <- isTrue c env (eval c env);pure (ForInStep.yield ok) else pure (ForInStep.yield r)) (fun ok s₃=>
      if ok=true then wpAny (model prog w) A (eval kx env) (fun kv s₄=>wpAny (model prog w) A (eval vx env) (fun vv s₅=>
       wpAny (model prog w) A (dictSet D kv vv) (fun _ s₆=>∃m,m<n/\I m s₆) (fun _ _=>False) s₅) (fun _ _=>False) s₄) (fun _ _=>False) s₃
      else ∃m,m<n/\I m s₃) (fun _ _=>False) s₂) (fun _ _=>False) s₀) (fun _ _=>False) s₁) (fun _ _=>False) s)
  (n:Nat) (h:I n s) :
  codeAny (model prog w) A (.compLoop (.DictComp kx vx [⟨target,iter,ifs,0⟩] scope pos) 0 it (.ref D) env) R s:=by
 refine codeAny_loop rfl I (fun n s hI=>?_) n h;show wpAny _ A ((compTurn (.DictComp kx vx [⟨target,iter,ifs,0⟩] scope pos) 0 it (.ref D) env).onRaise (fun x=>do noteFrame x env;theTreesLotGoes x)) _ _ s
 refine wpAny_noted ?_;rw[compTurn_dict];refine zwb (wpAny_standAt (zwb (wpAny_mono (turn n s hI) (fun r s₁ h₁=>?_) fun _ _ z=>z.elim)));cases r with
 | none=>exact zwp h₁
 | some v=>
  refine zwb (wpAny_mono h₁ (fun _ s₀ h₀=>?_) fun _ _ z=>z.elim);refine zwb (wpAny_mono h₀ (fun _ s₂ h₂=>zwb (wpAny_mono h₂ (fun ok s₃ h₃=>?_) fun _ _ z=>z.elim)) fun _ _ z=>z.elim);cases ok with
  | false=>exact zwp ⟨rfl,h₃⟩
  | true=>
   exact zwb (zwb (wpAny_mono h₃ (fun kv s₄ h₄=>zwb (wpAny_holding (wpAny_mono h₄ (fun vv s₅ h₅=>zwb (wpAny_standAt (wpAny_holding (wpAny_mono h₅ (fun _ s₆ h₆=>zwp ⟨rfl,h₆⟩) fun _ _ z=>z.elim)))) fun _ _ z=>z.elim))) fun _ _ z=>z.elim))
def DCr(J:It)(caps:List (Option Nat))(g:TG)(tt:TT)(tk tv:TE)(σ : St)(H1:Hp)(Q:VK)(D:Addr):Prop:=
 ∃W:Nat->Nat->List (Key×V)->Hp->Prop,(∃m,W 0 m [] (upd H1 D (.dK [])))/\∀i m ys H,W i m ys H->
  (J.stop i H/\Q (.ref D) H)\/
  (J.go i H/\∀x H',J.yld i H x H'->g x (xk caps σ) H' fun σ2 H2=>tt σ2 H2 fun ok H3=>
   (ok=true->tk σ2 H3 fun y H4=>tv σ2 H4 fun v H5=>∃k,y=kV k/\H5 D=some (.dK ys)/\ys.length<sizeLine/\∃m',m'<m/\W (i+1) m' (xH ys k v) (upd H5 D (.dK (xH ys k v))))/\
   (ok=false->∃m',m'<m/\W (i+1) m' ys H3))
def tDC(wi:TI)(caps:List (Option Nat))(g:TG)(tt:TT)(tk tv:TE):TE:=fun σ H Q=>wi σ H fun J H1=>∀D,H1 D=none->DCr J caps g tt tk tv σ H1 Q D
end
section
variable {X:Cx}{pins:PnL}{σ:St}{s:Shared}{sc:Scope}{fr Nc:List Str}{caps:List (Option Nat)}{kx vx tg iter:Expr}{ifs:List Expr}{g:TG}{tt:TT}{tk tv:TE}{ow:List Nat}{pos pos2:Pos}{E:VSP}
theorem zld{H:Hp}(I:Inv X pins σ H s):sysModules<s.heap.objs.size:=I.big
theorem zeW{H2:Hp}{it:Addr}{fp:List Addr}{tn:Nat->Heap->Prop}{J:It}{Q:VK}{RR:Value->Addr->Result->Shared->Prop}
  (hc:X.calm=true) (B:yH X.env sc fr) (go:qK g ow) (how:(ow.all fun i=>caps[i]?==some none)=true) (hcap:wz X.N Nc caps X.env sc fr=true) (hlen:caps.length=Nc.length)
  (hb:∀(pins:PnL) (fp:List Addr) (s:Shared) (H:Hp) (C:Addr),PG (zX X pins sc fr Nc fp s H C) tg g/\PIf (zX X pins sc fr Nc fp s H C) ifs tt/\PE (zX X pins sc fr Nc fp s H C) kx tk/\PE (zX X pins sc fr Nc fp s H C) vx tv)
  (I2:Inv X pins σ H2 s) (T:qV X.prog X.w X.K tg J fp it tn) (st2:tn 0 s.heap) (f2:∀b∈fp,wN X pins H2 b) (h:∀D,H2 D=none->DCr J caps g tt tk tv σ H2 Q D)
  (fin:∀(D C:Addr) (σ':St) (H':Hp) (s':Shared),Inv (zX X pins sc fr Nc fp s H2 C) [] σ' H' s'->Q (.ref D) H'->RR (.ref D) C (.ok .next) s') :
  wpAny (model X.prog X.w) X.A newDict (fun acc s₃=>wpAny (model X.prog X.w) X.A (newFunctionEnv sc X.env.globals (clB X.env fr) [] X.env.qual none .none (some X.env)) (fun cenv s₄=>
   codeAny (model X.prog X.w) X.A (.compStart (.DictComp kx vx [⟨tg,iter,ifs,0⟩] sc pos) 0 (.ref it) acc { cenv with scope:=relabel sc X.env }) (RR acc cenv.locals) s₄) E s₃) E s:=by
 have hcell:∀y∈sc.names,y.2≠.cell:=fun y hy=>by
  have h3:=List.all_eq_true.mp B.names _ hy;simp only[Bool.and_eq_true,bne_iff_ne,ne_eq] at h3;exact h3.1.1
 refine wpAny_newObj_type (wpAny_newFunctionEnv hcell (by intro y hy;simp at hy) (fun h₁ hns₁ hsb₁=>?_) B.kind)
 dsimp only at hns₁ hsb₁ |-;have hnew:(s.heap.push { cls:=.type "dict",dict:=none,data:=.dict #[] }).DictOf (yG X.prog X.w) s.heap.objs.size []:=Heap.DictOf.new s.heap;generalize hH2:s.heap.push { cls:=.type "dict",dict:=none,data:=.dict #[] }=H3 at hns₁ hsb₁ hnew |-;have hCs:H3.objs.size=s.heap.objs.size+1:=by rw[<- hH2,Heap.size_push]
 have hDC:s.heap.objs.size≠H3.objs.size:=by rw[hCs];exact ne_of_lt (lt_succ_self _)
 have hC:s.heap.objs.size<=H3.objs.size:=by rw[hCs];exact le_succ _
 have old:∀b o,s.heap.get? b=some o->h₁.get? b=some o:=fun b o e=>
  hsb₁.extBut b o (ne_of_lt (lt_of_lt_of_le (Heap.lt_size e) hC)) (zgp _ (hH2 ▸ zgp _ e))
 have hsm:sysModules<s.heap.objs.size:=zld I2;have hD:h₁.DictOf (yG X.prog X.w) s.heap.objs.size []:=hnew.at fun o e=>hsb₁.extBut _ _ hDC (zgp _ e);have hDo:∀H',yB X.prog X.w H' h₁ s.heap.objs.size (.dK []):=fun _=>⟨zero_le _,beq_eq_false_iff_ne.mpr (Ne.symm (ne_of_lt hsm)),[],.nil,hD⟩;have ho:∀b∈fp,∃o,s.heap.get? b=some o:=fun b hb'=>let ⟨o,e,_⟩:=T.obj 0 _ st2 b hb';⟨o,e⟩;have I4:∀t',Inv (zX X pins sc fr Nc fp s H2 H3.objs.size) [] (xk caps σ) (upd H2 s.heap.objs.size (.dK [])) { s with heap:=h₁,toks:=t' }:=fun t'=>
  zce I2 B f2 ho hC (le_refl _) hDC old (hDo _) hns₁ hcap hlen
 have ok:=(I4 0).ok;obtain⟨hbg,hbt,hbk,hbv⟩:=hb pins fp s H2 H3.objs.size;obtain⟨W,⟨m0,w0⟩,turn⟩:=h s.heap.objs.size (I2.hok.fresh (le_refl _));have stat:∀{H':Hp},(∀b∈fp,H' b=none)->∀b∈fp,wN (zX X pins sc fr Nc fp s H2 H3.objs.size) [] H' b:=fun hn b hb'=>
  ⟨hn b hb',(ok.exf b hb').1,ok.exfs b hb',.inl hb',(ok.exf b hb').2,fun p hp=>(f2 b hb').2.2.2.2.2 p (by simpa using hp)⟩
 have hfp0:∀b∈fp,upd H2 s.heap.objs.size (.dK []) b=none:=fun b hb'=>by
  obtain⟨o,e⟩:=ho b hb';rw[zv (ne_of_lt (Heap.lt_size e))];exact(f2 b hb').1
 have loop:∀s₃:Shared,s₃={ s with heap:=h₁,toks:=s.toks+([]:List (Str×Value)).length }->
   codeAny (model X.prog X.w) X.A (.compLoop (.DictComp kx vx [⟨tg,iter,ifs,0⟩] sc pos) 0 (.ref it) (.ref s.heap.objs.size) (compEnvC sc (clB X.env fr) H3.objs.size X.env)) (RR (.ref s.heap.objs.size) H3.objs.size) s₃:=by
  rintro s₃ rfl;refine qR (fun n s'=>∃i σ' H' ys,Inv (zX X pins sc fr Nc fp s H2 H3.objs.size) [] σ' H' s'/\tn i s'.heap/\(∀b∈fp,H' b=none)/\W i n ys H'/\
   (∀(k:Nat) (v:V),(xk caps σ)[k]?=some (some v)->σ'[k]?=some (some v))) ?_ m0
   ⟨0,_,_,[],I4 _,T.keep _ _ _ st2 (fun b _ o e=>old b o e),hfp0,w0,fun _ _ e=>e⟩
  rintro n s3 ⟨i,σ3,H4,ys,I3,st3,fr3,w3,wk3⟩;have I3':Inv (zX X pins sc fr Nc fp s H2 H3.objs.size) [] (xk caps σ) H4 s3:=I3.weak (by rw[I3.len];exact(I4 0).len) wk3
  rcases turn i n ys H4 w3 with ⟨stop,qn⟩|⟨gg,step⟩
  ·refine thn (T.done (zX X pins sc fr Nc fp s H2 H3.objs.size) rfl rfl rfl hc i [] s3 _ H4 (fun _ _=>False) I3' (stat fr3) st3 stop) fun r s4 ⟨hr,I4'⟩=>?_
   subst hr;exact fin _ _ _ _ _ I4' qn
  ·refine thn (T.item (zX X pins sc fr Nc fp s H2 H3.objs.size) rfl rfl rfl hc i [] s3 _ H4 (fun _ _=>False) I3' (stat fr3) st3 gg) fun r s4 ⟨u,hr,h4⟩=>?_
   subst hr;refine thn h4 fun _ s5 ⟨x,H5,I5,r5,y5,st5,fr5⟩=>?_;have I5':=I5.pinned (stat fr5) (T.obj _ _ st5);refine thn (hbg _ s5 _ H5 x u _ I5' r5 (go _ _ _ _ (step x H5 y5))) fun _ s6 ⟨σ6,H6,I6,q6,l6,k6⟩=>?_;have wk6:∀(k:Nat) (v:V),(xk caps σ)[k]?=some (some v)->σ6[k]?=some (some v):=fun k v e=>by
    rw[k6 k fun hk=>?_]
    ·exact e
    ·have h1:=List.all_eq_true.mp how k hk
     have h2:caps[k]?=some none:=by simpa using h1
     unfold xk at e;rw[getElem?_map,h2] at e;cases e
   refine thn (hbt _ s6 σ6 H6 _ I6 q6) fun ok s7 ⟨H7,I7,q7⟩=>?_;have again:∀{H8:Hp}{s8:Shared}{ys':List (Key×V)},Inv (zX X pins sc fr Nc fp s H2 H3.objs.size) ([]++jb fp s5.heap) σ6 H8 s8->(∃m',m'<n/\W (i+1) m' ys' H8)->
     ∃m,m<n/\∃i σ' H' ys,Inv (zX X pins sc fr Nc fp s H2 H3.objs.size) [] σ' H' s8/\tn i s8.heap/\(∀b∈fp,H' b=none)/\W i m ys H'/\(∀(k:Nat) (v:V),(xk caps σ)[k]?=some (some v)->σ'[k]?=some (some v)):=fun {H8 s8 ys'} I8 ⟨m',hm,w8⟩=>by
    refine⟨m',hm,i+1,σ6,H8,ys',I8.unpinned,T.keep _ _ _ st5 fun b hb' o e=>(I8.pin (b,o) (mem_append_right _ (mem_append_right _ (xK hb' e)))).1,fun b hb'=>?_,w8,wk6⟩;obtain⟨o,e,d⟩:=T.obj _ _ st5 b hb';exact(I8.pin (b,o) (mem_append_right _ (mem_append_right _ (xK hb' e)))).2.1
   cases ok with
   | false=>
    rw[if_neg zft];exact again I7 (q7.2 rfl)
   | true=>
    rw[if_pos rfl];refine thn (hbk _ s7 σ6 H7 _ I7 (q7.1 rfl)) fun uk s8 ⟨y,H8,I8,r8,q8⟩=>?_;refine thn (hbv _ s8 σ6 H8 _ I8 q8) fun uv s9 ⟨v,H9,I9,r9,k,ey,hD9,hz,q9⟩=>?_;subst ey;obtain⟨z,hd,vs,rel,dd⟩:=zgS I9.hok hD9;have hzs:vs.length<=sizeLine:=by rw[<- rel.length];exact z
    have hl:(xH ys k v).length<=sizeLine:=by have:=xT ys k v;omega
    refine wpAny_dictSet_pairs (hsz:=hzs) (zb0 r8) dd fun h' dd' hs=>?_;have he:∃q,h'.get? s.heap.objs.size=some q:=let ⟨q,_,_,hq,_⟩:=dd';⟨q,hq⟩;exact again (jT I9 (by rw[hD9];exact True.intro) hs he (zda hl hd (rel.put k r9) dd')) q9
 exact codeAny_compStart_dict (loop _ rfl) (T.self _ 0 _ _ _ (T.keep _ _ _ st2 (fun b _ o e=>old b o e)) (loop _ rfl))
theorem zly{wi:TI}(fr Nc:List Str)(caps:List (Option Nat))(hc:X.calm=true)(B:yH X.env sc fr)(hi:PI X tg iter wi)(go:qK g ow)(how:(ow.all fun i=>caps[i]?==some none)=true)
  (hcap:wz X.N Nc caps X.env sc fr=true) (hlen:caps.length=Nc.length)
  (hb:∀(pins:PnL) (fp:List Addr) (s:Shared) (H:Hp) (C:Addr),PG (zX X pins sc fr Nc fp s H C) tg g/\PIf (zX X pins sc fr Nc fp s H C) ifs tt/\PE (zX X pins sc fr Nc fp s H C) kx tk/\PE (zX X pins sc fr Nc fp s H C) vx tv)
  (hs:∀x,foldedSetIterable iter X.env x=pure x:=by intro _;rfl):PE X (.DictComp kx vx [⟨tg,iter,ifs,0⟩] sc pos) (tDC wi caps g tt tk tv):=by
 refine⟨?_⟩;intro pins s σ H Q I h;rw[arm_eval_DictComp];refine wpAny_comprehension_free (use:=none) rfl hs B.clos B.kind B.loc (thn (hi pins s σ H _ I h) fun v s1 h1=>thn h1 fun itv s2 h2=>?_);obtain⟨it,fp,tn,J,H2,e,I2,T,st2,f2,q⟩:=h2;subst e;refine zeW (RR:=fun acc C=>compPost (model X.prog X.w) X.A X.xe none (EP X pins σ Q) acc C) hc B go how hcap hlen hb I2 T st2 f2 q ?_;intro D C σ' H' s' J' qq;obtain⟨m,hn,_⟩:=J'.loc;exact⟨m,hn,fun h' hs'=>⟨.ref D,H',uc I2 J' (wg I2 f2 J') hs',rfl,qq⟩⟩
theorem zY.rev{xs:List V}{us:List Value}(r:zY xs us):zY xs.reverse us.reverse:=by
 induction r with
 | nil=>exact .nil
 | cons h t ih=>
  rw[List.reverse_cons,List.reverse_cons];exact ih.append (.cons h .nil)
variable {H:Hp}
variable {elts:List Expr}{x1:Nat}{tpos:Pos}
def seen(val:Nat->Str)(T:Str->Bool):Nat->Nat->Str->Bool
 | _,0,z=>T z
 | i,k+1,z=>seen val (fun y=>T y||decide (y=val i)) (i+1) k z
variable {P:Program}{w:World}{A:Around}{R:Result->Shared->Prop}{I:Addr}{fp wr:List Addr}{G:Array GenState->Array GenState->Prop}{n:Nat}{Pr:Nat->Value->Prop}{Sg:Nat->Shared->Prop}
abbrev jD(led:Bool):Obj:={ cls:=.type "set",dict:=none,data:=.set #[] 0 (.fresh 0 0 led) }
theorem zbw(val:Nat->Str)(z:Str):∀(k i:Nat) (T:Str->Bool),seen val T i k z=true ↔ (T z=true\/∃j,j<k/\z=val (i+j))
 | 0,i,T=>⟨fun h=>.inl h,fun h=>h.elim id fun⟨j,hj,_⟩=>absurd hj (Nat.not_lt_zero _)⟩
 | k+1,i,T=>by
  show seen val (fun y=>T y||decide (y=val i)) (i+1) k z=true ↔ _
  rw[zbw val z k (i+1)];simp only[Bool.or_eq_true,decide_eq_true_eq];constructor
  ·rintro ((h|h)|⟨j,hj,e⟩)
   ·exact .inl h
   ·exact .inr ⟨0,by omega,h⟩
   ·exact .inr ⟨j+1,by omega,by rw[show i+(j+1)=i+1+j by omega];exact e⟩
  ·rintro (h|⟨j,hj,e⟩)
   ·exact .inl (.inl h)
   ·cases j with
    | zero=>exact .inl (.inr e)
    | succ j=>exact .inr ⟨j,by omega,by rw[show i+1+j=i+(j+1) by omega];exact e⟩
theorem zfs(zs:List Str)(z:Str):seen (fun i=>zs.getD i "") (fun _=>false) 0 zs.length z=decide (z∈zs):=by
 rw[Bool.eq_iff_iff,zbw,decide_eq_true_eq];constructor
 ·rintro (h|⟨j,hj,e⟩)
  ·cases h
  ·rw[e,Nat.zero_add]
   show zs.getD j ""∈zs;rw[getD_eq_getElem?_getD,getElem?_eq_getElem hj];exact getElem_mem hj
 ·intro h
  obtain⟨j,hj,e⟩:=List.mem_iff_getElem.mp h;refine .inr ⟨j,hj,?_⟩;rw[Nat.zero_add];show z=zs.getD j "";rw[getD_eq_getElem?_getD,getElem?_eq_getElem hj];exact e.symm
theorem zY.strs_at:∀{zs:List Str}{us:List Value},zY (zs.map V.str) us->∀(i:Nat) (v:Value),us[i]?=some v->∃t,v=.str (zs.getD i "") t
 | [],_,.nil,i,v,h=>by simp at h
 | z::zs,_,.cons r t,0,v,h=>by
  obtain⟨tk,e⟩:=r
  have:v=.str z tk:=by rw[<- e];simpa using h.symm
  exact⟨tk,this⟩
 | z::zs,_,.cons r t,i+1,v,h=>zY.strs_at t i v (by simpa using h)
theorem zgV:xp X (.type "range") (fun xs H Q=>∃n:Nat,xs=[.int (n:Nat)]/\∀p,H p=none->Q (.ref p) (upd H p (.rng 0 (n:Nat)))):=by
 intro pins s σ H xs us Q I r h;obtain⟨n,rfl,q⟩:=h;obtain⟨u,rfl,ru⟩:=wP r;obtain⟨t,rfl⟩:=ru;refine call_range_1 ?_;refine⟨.ref s.heap.objs.size,_,I.laid (o:=.rng 0 (n:Nat)) (fun b u e=>zgp _ e) (le_refl _) ?_,rfl,q _ (I.hok.fresh (le_refl _))⟩;exact⟨_,_,_,zgs _ rfl⟩
end
end L2
namespace L2
open PySem PySem.W PySem.Builtin PySem.Builtin.ObjectAttr PySem.Spec PyProof.Rows
def zea(K:Frag)(C:Addr):Bool:=
 match K.lookup C with
 | some ⟨.type "type",_,.cls cd,sl⟩=>
  match cd.mro,sl.toList with
  | .ref C'::bm,[_,_,_,_,some (.builtin n),_]=>C'==C&&n=="ValueError.__new__"&&!cd.hasDel&&cd.hasDict&&bm.contains (.type "ValueError")&&bm.contains (.type "BaseException")&&!bm.contains (.type "AttributeError")&&!bm.contains (.type "NameError")
  | _,_=>false
 | _=>false
structure zl7(h:Heap)(C:Addr):Prop where
 ob:∃nm q N bs bm sn sub ab col dd k0 k1 k2 k3 k5,h.get? C=some (excClassObj nm q C N bs bm true sn sub ab col dd k0 k1 k2 k3 k5 "ValueError.__new__")/\bm.contains (.type "ValueError")=true/\bm.contains (.type "BaseException")=true/\bm.contains (.type "AttributeError")=false/\bm.contains (.type "NameError")=false
theorem zaE{K:Frag}{h:Heap}{C:Addr}(X:K.In h)(q:zea K C=true):zl7 h C:=by
 simp only[zea] at q;split at q
 case h_2=>cases q
 rename_i dd cd sl ho;obtain⟨nm,bs,mro,ns,qn,hd,sn,sub,ab,col,del⟩:=cd;obtain⟨l⟩:=sl;dsimp only at q;split at q
 case h_2=>cases q
 rename_i C' m k0 k1 k2 k3 n k5;simp only[Bool.and_eq_true,beq_iff_eq,Bool.not_eq_true'] at q;obtain⟨⟨⟨⟨⟨⟨⟨rfl,rfl⟩,rfl⟩,rfl⟩,h1⟩,h2⟩,h3⟩,h4⟩:=q;exact⟨_,_,_,_,_,_,_,_,_,_,_,_,_,_,_,X _ _ ho,h1,h2,h3,h4⟩
abbrev wL(C t:Addr):Obj:={ cls:=.ref C,data:=.fields #[.ref t,.none,.none,.none,.bool false,.none] }
abbrev xW(us:List Value):Obj:={ cls:=.type "tuple",data:=.seq us.toArray }
section
variable {prog:Program}{w:World}{A:Around}{E:VSP}{s:Shared}{K:Frag}{C f:Addr}{us:List Value}
theorem zir{R:Result->Shared->Prop}(m:zl7 s.heap C)(hl:us.length<=sizeLine)
  (h:R (.ok (.ret (.ref (s.heap.objs.size+1)))) { s with heap:=(s.heap.push (xW us)).push (wL C s.heap.objs.size) }) :
  codeAny (model prog w) A (.call (.builtin "ValueError.__new__") ⟨.ref C::us,[]⟩) R s:=by
 obtain⟨hh,g,d,t,os⟩:=s;obtain⟨nm,q,N,bs,bm,sn,sub,ab,col,dd,k0,k1,k2,k3,k5,hC,b1,b2,b3,b4⟩:=m.ob;have F:=PySem.F.excBase_ValueError;refine codeAny_call_builtin_code (Code.quiet_builtin _ F.toExcCallFacts.quiet) ?_;have k1':=F.newKind;have k2':=F.newSplit;have k3':=F.newRow;simp only[checkBuiltinCall,k1',k2',k3'];rw[if_pos (by decide +kernel)]
 refine zwb (ks_wpAny_isType_cls hC rfl ?_);rw[if_neg (by decide)]
 refine zwb (wpAny_isSubtype_exc hC ?_);rw[show(Value.ref C::bm).contains (.type "ValueError")=true by rw[contains_cons,b1,Bool.or_true],if_neg (by decide)]
 refine zwb (wpAny_staticBase_exc hC (zwb (wpAny_madeBy_exc hC ?_)));dsimp only;rw[if_neg (by decide +kernel)]
 rw[show Bind.checkArgs "ValueError.__new__" { machinery:=Manifest.Machinery.any,full:="ValueError",short:="ValueError",receiver:=Manifest.Receiver.cls,params:=[{ name:="args",kind:=Manifest.ParamKind.varPos,required:=false },{ name:="kwargs",kind:=Manifest.ParamKind.varKw,required:=false }] } { pos:=Value.ref C::us }=pure () from rfl];refine zwp (PyProof.Rows.codeAny_builtin_at F.toExcCallFacts.toExcNewFacts.entry ?_);unfold Builtin.«BaseException.__new__»;refine PyProof.Rows.wpAt_bind (PyProof.Rows.wpAt_owner rfl F.toExcCallFacts.toExcNewFacts.ends (PyProof.Rows.wpAt_of_any ?_));rw[F.toExcCallFacts.toExcNewFacts.owner];dsimp only;refine zwb (ks_wpAny_isType_cls hC rfl ?_);rw[if_neg (by decide)]
 refine zwb (wpAny_isSubtype_exc hC ?_);rw[show(Value.ref C::bm).contains (.type "ValueError")=true by rw[contains_cons,b1,Bool.or_true],if_neg (by decide)]
 refine zwb (wpAny_madeHere_exc F.canon hC ?_);have c3:(Value.ref C::bm).contains (.type "AttributeError")=false:=by rw[contains_cons,b3];rfl
 have c4:(Value.ref C::bm).contains (.type "NameError")=false:=by rw[contains_cons,b4];rfl
 refine zwb (?_:wpAny _ _ (do
   let x <- isSubtype (.ref C) (.type "AttributeError")
   if x=true then pure 2
   else do
    let y <- isSubtype (.ref C) (.type "NameError")
    if y=true then pure 1 else pure 0:Sem Nat) _ _ _)
 refine zwb (wpAny_isSubtype_exc hC ?_);rw[c3,if_neg zft];refine zwb (wpAny_isSubtype_exc hC ?_);rw[c4,if_neg zft];refine zwp (zwb (wpAny_newTuple ?_ hl));have hC2:=zgp (xW us) hC;unfold newObj;dsimp only;rw[if_neg (by show ¬6>sizeLine+2;decide)]
 unfold newObjAsIs;refine zwb (zwb (wpAny_alloc ?_));dsimp only;refine zwb ?_;unfold classHasDel;refine zwb (wpAny_load (zgp _ hC2) ?_);dsimp only;refine zwp ?_;rw[if_neg zft];refine zwp (zwp ?_);have e1:(hh.push (xW us)).objs.size=hh.objs.size+1:=Heap.size_push _ _;show R (.ok (.ret (.ref (hh.push (xW us)).objs.size))) _;rw[e1];exact h
structure zd8(K:Frag)(C f:Addr):Prop where
 ob:zea K C=true
 init:findIn K (.ref C) "__init__"=some (some (.ref f))
 fn:isFn K (.ref f)=true
 call:specialIn K (.ref C) "__call__"=some (some (.builtin "type.__call__"))
 typ:instIn K (.ref C) (.type "type")=some true
 kp:keepIn K (.ref C)=true
theorem zgJ{R:Result->Shared->Prop}(X:K.In s.heap)(m:zd8 K C f)(hl:us.length<=sizeLine)
  (h:codeAny (model prog w) (A.under (.builtin "type.__call__" ⟨.ref C::us,[]⟩)) (.call (.ref f) ⟨.ref (s.heap.objs.size+1)::us,[]⟩) (InitBack (s.heap.objs.size+1) R)
   { s with heap:=(s.heap.push (xW us)).push (wL C s.heap.objs.size) }):codeAny (model prog w) A (.call (.ref C) ⟨us,[]⟩) R s:=by
 have mo:=zaE X m.ob;have LC:=looks_specialIn (M:=model prog w) X m.call;have LT:=looks_instIn (M:=model prog w) X m.typ;obtain⟨hh,g,d,t,os⟩:=s;obtain⟨nm,q,N,bs,bm,sn,sub,ab,col,dd,k0,k1,k2,k3,k5,hC,b1,b2,b3,b4⟩:=mo.ob;refine codeAny_of_own ?_;show wpOwn _ _ _ (callAny (.ref C) ⟨us,[]⟩) _ _ _;unfold callAny;refine wpOwn_of_wpAny ?_;dsimp only;refine zwb (wpAny_load hC ?_);dsimp only;unfold callAny.viaDunder;refine zwb (LC.at ?_);dsimp only;rw[show bindSpecial (.builtin "type.__call__") (.ref C)=pure (.builtin "type.__call__",[.ref C]) from by with_unfolding_all rfl]
 refine zwb (zwp ?_);dsimp only;rw[show callAny.plainCallee (.builtin "type.__call__")=pure true from by with_unfolding_all rfl]
 refine zwb (zwp ?_);rw[if_pos rfl];refine zwp ⟨rfl,?_⟩;refine codeAny_call_builtin_code (Code.quiet_builtin _ (by decide +kernel)) ?_
 have k1':builtinKind "type.__call__"=some .slot:=by decide +kernel
 have k2':splitId "type.__call__"=some ("type","__call__"):=by decide +kernel
 simp only[checkBuiltinCall,k1',k2',List.cons_append,nil_append];refine zwb (LT.at ?_);rw[if_neg (by decide)]
 have k3':Manifest.signature? "type.__call__"=some { machinery:=.hand,full:="wrapper __call__",short:="",receiver:=.self,params:=[] }:=by with_unfolding_all rfl
 rw[k3'];dsimp only;rw[show Bind.checkArgs "type.__call__" { machinery:=.hand,full:="wrapper __call__",short:="",receiver:=.self,params:=[] } { pos:=Value.ref C::us }=pure () from rfl];refine zwp (codeAny_builtin (b:=Builtin.«type.__call__») rfl ?_);unfold Builtin.«type.__call__»;dsimp only;rw[if_neg (show ¬(Value.ref C==Value.type "type")=true from fun z=>by cases z)]
 refine zwb (wpAny_mroOf_exc hC ?_);rw[if_neg (show ¬(Value.ref C::bm).isEmpty=true from zft)];refine zwb (wpAny_madeBy_exc hC ?_);dsimp only;refine zwb (zwp (zwb (wpAny_holding (wpAny_call (zir mo hl ?_)))));dsimp only at h |-;have kp:∀b o,hh.get? b=some o->((hh.push (xW us)).push (wL C hh.objs.size)).get? b=some o:=fun b o e=>zgp _ (zgp _ e);have X2:K.In ((hh.push (xW us)).push (wL C hh.objs.size)):=X.keeps kp;have eo:((hh.push (xW us)).push (wL C hh.objs.size)).get? (hh.objs.size+1)=some (wL C hh.objs.size):=by
  have:=zgs (hh.push (xW us)) (o:=wL C hh.objs.size) rfl
  rwa [Heap.size_push] at this
 have LI:=looks_findIn (M:=model prog w) X2 m.init;have LB:=bind_fn (M:=model prog w) X2 (.ref (hh.objs.size+1)) (beq_iff_eq.mp m.fn);generalize (hh.push (xW us)).push (wL C hh.objs.size)=h2 at h kp X2 eo LI LB |-;unfold isInstance;have LTy:Looks (model prog w) h2 (typeOf (.ref (hh.objs.size+1))) (.ref C):=(Looks.ld eo).andThen .now;refine zwb (zwb (LTy.at (wpAny_isSubtype_exc (kp _ _ hC) ?_)));rw[show(Value.ref C::bm).contains (.ref C)=true by rw[contains_cons,beq_self_eq_true,Bool.true_or],if_neg (by decide)]
 refine zwb (wpAny_holding ?_);unfold callSpecial? specialOf;refine zwb (zwb (LTy.at (LI.at ?_)));dsimp only;refine wpAny_holding (zwb (LB.at ?_));dsimp only;refine zwb (wpAny_call (codeAny_mono h fun r s' hq=>?_));cases r with
 | error e=>exact hq
 | ok fl=>
  cases fl with
  | ret u=>
   obtain⟨rfl,hq⟩:=hq;refine zwp ?_;dsimp only;rw[if_neg (by decide)]
   exact zwp hq
  | next=>exact False.elim hq
  | brk=>exact False.elim hq
  | cont=>exact False.elim hq
def zbm:List Value:=[.type "ValueError",.type "Exception",.type "BaseException",.type "object"]
def wS:List Value->Bool
 | .ref _::l=>wS l
 | l=>l==zbm
def zk2(K:Frag)(C:Addr):Bool:=(clsIn K C).any fun cd=>cd.hasDict&&wS cd.mro
variable {x:Addr}
theorem zet{M:Model}{Q:Option Unit×Unit->Shared->Prop}{self:Value}:∀(l:List Value),wS l=true->(Q (some (),()) s)->
  wpAny M A (forIn l ((none,()):Option Unit×Unit) fun c __s=>
    match c with
    | Value.type n=>
     if (n=="_thread._local")=true then do
      rule "setattr.thread-local-passed-by"
      pure (ForInStep.yield (none,()))
     else
      if (n=="_pickle.Pickler"||n=="_pickle.Unpickler")=true then do
       rule "setattr.pickle-types-passed-by"
       pure (ForInStep.yield (none,()))
      else do
       let own <- classOwn c (Str.ofString "__setattr__")
       if own.isSome=true then
         have __do_jp:=fun (__r:Unit)=>pure (ForInStep.done (some (),()));
         if (!isObjects n (Str.ofString "__setattr__").toString)=true then do
          rule "setattr.built-in-override"
          let tn <- PySem.typeNameOf self
          let __r <-
           raiseErrorMade "TypeError"
             (toString "can't apply this "++toString (Str.ofString "__setattr__").toString++toString " to " ++
               toString tn ++
              toString " object")
          __do_jp __r
         else __do_jp ()
        else pure (ForInStep.yield (none,()))
    | x=>pure (ForInStep.yield (none,()))) Q E s:=by
 intro l;have o1:classOwn (.type "ValueError") (Str.ofString "__setattr__")=pure none:=by with_unfolding_all rfl
 have o2:classOwn (.type "Exception") (Str.ofString "__setattr__")=pure none:=by with_unfolding_all rfl
 have o3:classOwn (.type "BaseException") (Str.ofString "__setattr__")=pure none:=by with_unfolding_all rfl
 have o4:=F.own_object_setattr;induction l with
 | nil=>intro h;exact absurd h (by decide)
 | cons c l ih=>
  intro h q;rw[forIn_cons];cases c with
  | ref a=>exact zwb (zwp (ih h q))
  | type n=>
   have e:Value.type n::l=zbm:=by
    have:(Value.type n::l==zbm)=true:=h
    exact eq_of_beq this
   unfold zbm at e;injection e with e1 e2
   injection e1 with e1
   subst e1 e2;have n1:∀n:String,n∈["ValueError","Exception","BaseException","object"]->(n=="_thread._local")=false/\(n=="_pickle.Pickler"||n=="_pickle.Unpickler")=false:=by decide +kernel
   simp only[forIn_cons,n1 "ValueError" (by decide),n1 "Exception" (by decide),n1 "BaseException" (by decide),n1 "object" (by decide),o1,o2,o3,o4,Bool.false_eq_true,if_false]
   refine zwb (zwb (zwp ?_));refine zwp ?_;refine zwb (zwb (zwp ?_));refine zwp ?_;refine zwb (zwb (zwp ?_));refine zwp ?_;refine zwb (zwb (zwp ?_));rw[if_pos (show(some (Value.builtin "object.__setattr__")).isSome=true from rfl),if_neg (show ¬(!isObjects "object" (Str.ofString "__setattr__").toString)=true by unfold isObjects;simp)]
   exact zwp (zwp q)
  | _=>exact absurd h (by simp [wS,zbm])
theorem zk3{α : Type}{M:Model}{A:Around}{t t':Sem α}{Q : α->Shared->Prop}{E:VSP}{s:Shared}(e:t=t')(h:wpAny M A t' Q E s):wpAny M A t Q E s:=e ▸ h
structure zdd(K:Frag)(C:Addr):Prop where
 t:zk2 K C=true
 sa:findIn K (.ref C) "__setattr__"=some (some (.builtin "object.__setattr__"))
 ob:mroIn K C (.type "object")=some true
theorem zdd.cd(m:zdd K C):∃cd,clsIn K C=some cd/\cd.hasDict=true/\wS cd.mro=true:=by
 have:=m.t
 unfold zk2 at this;cases e:clsIn K C with
 | none=>rw[e] at this;cases this
 | some cd=>
  rw[e] at this;have h2:(cd.hasDict&&wS cd.mro)=true:=this;exact⟨cd,rfl,(Bool.and_eq_true _ _ ▸ h2).1,(Bool.and_eq_true _ _ ▸ h2).2⟩
theorem zhi{oe:Obj}{vs:Array Value}{name:Str}{v:Value}{Q:Unit->Shared->Prop}(X:K.In s.heap)(m:zdd K C)(ha:findIn K (.ref C) name=some none)(he:s.heap.get? x=some oe)(hc:oe.cls=.ref C)(hd:oe.data=.fields vs)(hn:oe.dict=none)
  (h:∀h':Heap,(∀b o,b≠x->s.heap.get? b=some o->h'.get? b=some o)->h'.get? x=some { oe with dict:=some s.heap.objs.size }->h'.Ns1 s.heap.objs.size (fun y=>if y=name then some v else none)->Q () { s with heap:=h',toks:=s.toks+2 }) :
  wpAny (model prog w) A (setAttr (.ref x) name v) Q E s:=by
 obtain⟨cd,hcd,hdict,hmro⟩:=m.cd;have IA:InstAt s.heap x oe C none:=⟨he,hc,by unfold notCls;rw[hd],by rw[hn];trivial⟩
 refine set_plain X IA m.sa ?_;have LO:=looks_mroIn (M:=model prog w) X m.ob;have LF:=looks_findIn (M:=model prog w) X ha;have LCd:=looks_clsIn (M:=model prog w) X hcd;have LTy:Looks (model prog w) s.heap (typeOf (.ref x)) (.ref C):=hc ▸ (Looks.ld he).andThen .now;obtain⟨hh,g,d,t,os⟩:=s;dsimp only at *;refine codeAny_call_builtin F.slot_object_setattr.plain F.entry_object_setattr ?_;have k1:=F.bk_object_setattr;have k2:=F.sp_object_setattr;simp only[checkBuiltinCall,k1,k2];refine zwb ?_;unfold isInstance;refine zwb (LTy.at ?_);refine LO.at ?_;rw[if_neg (by decide)]
 have k3:=F.args_object_setattr_3 (.ref x) (.str name t) v;refine zk3 k3 (zwp ?_);unfold Builtin.«object.__setattr__»;rw[if_neg (show ¬(!(⟨[Value.ref x,Value.str name t,v],[]⟩:Args).kw.isEmpty)=true from zft)];dsimp only;unfold refuseIfOverridden;refine zwb (zwb (LTy.at (zwb ?_)));unfold mroOf;refine zwb (LCd.at (zwp (zwb (zet _ hmro ?_))));dsimp only;refine zwp (zwb ?_);unfold attrName;refine zwp (zwb (LTy.at (zwb (LF.at (zwb ?_)))));unfold storeTaker?;refine zwp ?_;dsimp only;unfold storeInOwnDict ownStreamTells;refine zwb (zwp ?_);rw[if_neg (show ¬(Value.ref C==Value.type "module")=true from fun z=>by cases z)]
 unfold ownDictForStores instanceDict;refine zwb (zwb (wpAny_loadPart he ?_));rw[hc];dsimp only;refine zwb (LCd.at ?_);rw[hdict,hn,hd];dsimp only;rw[if_neg (by decide),if_neg (show ¬(!true||!typeHasDict (Value.ref C))=true from zft)]
 refine zwb (wpAny_alloc (zwb (wpAny_update (zgp _ he) ?_)));unfold dictMade;refine zwp ?_;dsimp only;unfold storeInDict newKeyGuard;refine zwb (zwp (zwb ?_));have xlt:x≠hh.objs.size:=ne_of_lt (Heap.lt_size he);have u1:((hh.push { cls:=.type "dict",data:=.dict #[] }).update x fun o=>{ cls:=o.cls,dict:=some hh.objs.size,data:=o.data,slots:=o.slots }).get? hh.objs.size=some { cls:=.type "dict",data:=.dict #[] }:=by
  rw[Heap.get?_update_ne _ _ _ _ (Ne.symm xlt)];exact zgs hh rfl
 have n1:((hh.push { cls:=.type "dict",data:=.dict #[] }).update x fun o=>{ cls:=o.cls,dict:=some hh.objs.size,data:=o.data,slots:=o.slots }).Ns1 hh.objs.size (fun _=>none):=Heap.Ns1.of_empty ⟨_,#[],_,u1,rfl,(fun e he=>absurd he (by simp)),fun _=>rfl⟩
 refine wpAny_nsSet1 n1 fun h' hn2 hs2=>?_;have wi:PySem.Within (fun y=>if y=name then some v else none) [name]:=fun y hy=>by
  by_cases e:y=name
  ·rw[e];exact List.mem_singleton.mpr rfl
  ·exact absurd (if_neg e) hy
 obtain⟨oD,esD,epD,hoD,hdD,hcD⟩:=hn2.count wi;refine zwb (wpAny_lookBehind hoD (by rw[hdD];exact pastItsLine_dict (le_trans hcD (by show 1<=sizeLine+1;decide))) ?_)
 refine zwp ?_;have ux:((hh.push { cls:=.type "dict",data:=.dict #[] }).update x fun o=>{ cls:=o.cls,dict:=some hh.objs.size,data:=o.data,slots:=o.slots }).get? x=some { oe with dict:=some hh.objs.size }:=
  Heap.get?_update_self _ (zgp _ he) (by unfold Obj.isFreed;rw[hd])
 refine h h' (fun b o hb e=>?_) ?_ hn2
 ·have hb2:b≠hh.objs.size:=ne_of_lt (Heap.lt_size e)
  rw[hs2.2 b hb2,Heap.get?_update_ne _ _ _ _ hb];exact zgp _ e
 ·rw[hs2.2 x xlt]
  exact ux
end
end L2
namespace L2
open PySem PySem.W PySem.Builtin PySem.Builtin.ObjectAttr PySem.Builtin.Getset_descriptor PySem.Spec PyProof.Rows
section
variable {prog:Program}{w:World}{A:Around}{E:VSP}{s:Shared}{K:Frag}{C D x dx:Addr}{us:List Value}
end
end L2
namespace L2
open PySem PySem.Spec PyProof.Rows
abbrev vL(ea C:Addr)(od:Option Addr)(t:Addr):HO:=.ext fun h=>h.get? ea=some { cls:=.ref C,dict:=od,data:=.fields #[.ref t,.none,.none,.none,.bool false,.none] }
theorem zba{P:Program}{w:World}{H:Hp}{h:Heap}{ea C t:Addr}{od:Option Addr}(e:h.get? ea=some { cls:=.ref C,dict:=od,data:=.fields #[.ref t,.none,.none,.none,.bool false,.none] }):yB P w H h ea (vL ea C od t):=
 ⟨e,⟨_,e⟩,fun g1 g2 q k=>k _ q⟩
section
variable {X:Cx}{pins:PnL}{σ:St}{H:Hp}{s:Shared}{x C t:Addr}{f:Str}{y:V}{u:Value}{A:Around}{E:VSP}
theorem jS{od:Option Addr}(I:Inv X pins σ H s)(e:H x=some (vL x C od t)):s.heap.get? x=some { cls:=.ref C,dict:=od,data:=.fields #[.ref t,.none,.none,.none,.bool false,.none] }:=(I.hok x _ e).1
theorem zhj{Q:Unit->Shared->Prop}(I:Inv X pins σ H s)(e:H x=some (vL x C none t))(m:zdd X.K C)(n:yZ X.K C f)(ry:yj y u)
  (h:∀dx s',H dx=none->Inv X pins σ (upd (upd H x (vL x C (some dx) t)) dx (.xd [(f,y)])) s'->Q () s'):wpAny (model X.prog X.w) A (setAttr (.ref x) f u) Q E s:=by
 have hx:=jS I e;have hsz:H s.heap.objs.size=none:=I.hok.fresh (le_refl _);refine zhi I.kIn m n hx rfl rfl rfl fun h' k e1 ns=>h s.heap.objs.size _ hsz ?_;have I1:Inv X pins σ (upd H x (vL x C (some s.heap.objs.size) t)) { s with heap:=h',toks:=s.toks+2 }:=
  I.write (by rw[e];exact True.intro) (.inl rfl) k ⟨_,e1⟩ (zba e1)
 have nx:s.heap.objs.size≠x:=Ne.symm (ne_of_lt (Heap.lt_size hx));refine I1.track (by rw[zv nx];exact hsz) ⟨_,ns,fun g=>?_⟩ (fun v e2 _ _=>?_) (fun z=>?_) (fun z c e2 z2=>?_) fun p hp z=>?_
 ·show jk (List.lookup g [(f,y)]) (if g=f then some u else none)
  by_cases q:g=f
  ·subst q;rw[lookup_cons_self,if_pos rfl];exact ry
  ·rw[lookup_cons,beq_eq_false_iff_ne.mpr q,if_neg q];trivial
 ·exact absurd (Heap.lt_size e2) (Nat.not_lt.mpr I.sz)
 ·have:=I.lt
  rw[z] at this;exact absurd this (lt_irrefl _)
 ·obtain⟨v,oc,hoc,_⟩:=I.cell z c e2
  rw[z2] at hoc;exact absurd (Heap.lt_size hoc) (lt_irrefl _)
 ·have:=(I.pin p hp).1
  rw[z] at this;exact absurd (Heap.lt_size this) (lt_irrefl _)
def zlq(K:Frag)(ta tv:TE)(f:Str):TS:=fun D σ H=>tv σ H fun y H1=>ta σ H1 fun x H2=>∃(a C t:Addr),x=.ref a/\H2 a=some (vL a C none t)/\zdd K C/\yZ K C f/\∀dx,H2 dx=none->D.nx σ (upd (upd H2 a (vL a C (some dx) t)) dx (.xd [(f,y)]))
variable {o e value:Expr}{pos pos' tpos:Pos}{ta tv:TE}
theorem zdC(ha:PE X o ta)(hv:PE X value tv)(hs:swapsWith value (some (.Attribute o f pos')) pos.line X.env=pure false):PS X (.Assign [.Attribute o f pos'] value pos) (zlq X.K ta tv f):=by
 refine⟨?_⟩;intro pins s σ H D I h;refine plainObj_wpAny_Assign_Attribute (thn (hv pins s σ H _ I h) fun u s1 ⟨y,H1,I1,ry,q⟩=>thn (ha pins s1 σ H1 _ I1 q) fun ov s2 ⟨x,H2,I2,rx,a,C,t,ex,ea,c,n,q2⟩=>?_) hs;subst ex;obtain rfl:ov=Value.ref a:=rx;exact zhj I2 ea c n ry fun dx s3 hdx I3=>⟨σ,_,I3,q2 dx hdx⟩
def ze8(C:Addr)(sp:Sp)(E:XK)(t:TA):TE:=fun σ H Q=>t σ H fun vs H1=>vs.length<=sizeLine/\∀x tu,H1 x=none->H1 tu=none->tu≠x->sp (.ref x::vs) (upd H1 x (vL x C none tu)) (fun v H2=>v=.non/\Q (.ref x) H2) E
end
section
variable {X:Cx}{CX:CXT}{k:Nat}{f C:Addr}{fd:FuncData}{ps:List Str}{sp:Sp}{E:XK}{x:Str}{p pos:Pos}{e:Expr}{es:List Expr}{t:TA}
theorem Inv.madeX{pins:PnL}{σ : St}{H:Hp}{s:Shared}{us:List Value}(I:Inv X pins σ H s):Inv X pins σ (upd H (s.heap.objs.size+1) (vL (s.heap.objs.size+1) C none s.heap.objs.size)) { s with heap:=(s.heap.push (xW us)).push (wL C s.heap.objs.size) }:=by
 refine I.laid (fun b u e=>zgp _ (zgp _ e)) (le_succ _) (zba ?_)
 have:=zgs (s.heap.push (xW us)) (o:=wL C s.heap.objs.size) rfl
 rwa [Heap.size_push] at this
theorem zej{pins:PnL}{σ : St}{H:Hp}{s:Shared}{Q:VK}{us:List Value}{vs:List V}(M:zd8 X.K C f)(F:zL X.prog X.w X.K X.mg X.base CX k f fd ps sp)(hr:yh (k+1) X.A)(hb:yt X.K fd ps [])
  (hx:yE CX X E) (I:Inv X pins σ H s) (r:zY vs us) (hl:vs.length<=sizeLine)
  (h:∀x tu,H x=none->H tu=none->tu≠x->sp (.ref x::vs) (upd H x (vL x C none tu)) (fun v H2=>v=.non/\Q (.ref x) H2) E) :
  wpAny (model X.prog X.w) X.A (call (.ref C) us) (EP X pins σ Q) X.xe s:=by
 have hq:=h (s.heap.objs.size+1) s.heap.objs.size (I.hok.fresh (le_succ _)) (I.hok.fresh (le_refl _)) (ne_of_lt (lt_succ_self _));have I2:=Inv.madeX (C:=C) (us:=us) I;have r2:zY (V.ref (s.heap.objs.size+1)::vs) (Value.ref (s.heap.objs.size+1)::us):=.cons rfl r;have hl2:(Value.ref (s.heap.objs.size+1)::us++[]).length=ps.length:=by
  have e:=r2.length;rw[F.len _ _ _ _ hq] at e;rw[append_nil];exact e.symm
 have hb2:=hb _ (Value.ref (s.heap.objs.size+1)::us) I2.kIn hl2;rw[append_nil] at hb2;refine wpAny_call (zgJ I.kIn M (by rw[<- r.length];exact hl) (codeAny_mono (F.run _ X.stack _ _ ⟨Value.ref (s.heap.objs.size+1)::us,[]⟩ (Value.ref (s.heap.objs.size+1)::us) _ _ E (hr.make C us [])
  (I2.env0.make C us []) hb2 r2 hq) fun r s' hq'=>?_))
 cases r with
 | error e=>exact hx pins σ _ _ e s' I2 hq'
 | ok fl=>
  cases fl with
  | ret u=>
   obtain⟨v,H',I3,rv,ev,q3⟩:=I2.after hq';subst ev;exact⟨rv,⟨V.ref (s.heap.objs.size+1),H',I3,rfl,q3⟩⟩
  | next=>exact False.elim hq'
  | brk=>exact False.elim hq'
  | cont=>exact False.elim hq'
theorem zbL(M:zd8 X.K C f)(F:zL X.prog X.w X.K X.mg X.base CX k f fd ps sp)(hr:yh (k+1) X.A)(hg:Gl X x)(hm:X.mg x=some (.ref C))(hb:yt X.K fd ps [])(hx:yE CX X E)
  (ha:PA X (e::es) t) (hdb:(x==("__debug__" : Str))=false:=by decide) (he:starEach (e::es) X.env=(false,eval e X.env)::starEach es X.env:=by rfl) (hpl:(backTo pos (starEach es X.env)).any (·.1)=false:=by rfl) :
  PE X (.Call (.Name x p) (e::es) [] pos) (ze8 C sp E t):=by
 refine⟨?_⟩;intro pins s σ H Q I h;refine wpAny_Call_Name_kw (yY I hg hm ?_ hdb);refine callWith_K (h₀:=X.base) I.ok.mod.kin M.kp (thn (ha pos pins s σ H _ I h) fun us s1 ⟨vs,H1,I1,r,hl,q⟩=>⟨I1.kIn,?_⟩) he hpl;exact zej M F hr hb hx I1 r hl q
def drop(H:Hp)(a:Addr):Hp:=fun b=>if b=a then none else H b
theorem zeS{H:Hp}{a:Addr}:drop H a a=none:=by unfold drop;rw[if_pos rfl]
theorem wa{H:Hp}{a b:Addr}(h:b≠a):drop H a b=H b:=by unfold drop;rw[if_neg h]
theorem ub{H:Hp}{a b:Addr}{u:HO}(h:drop H a b=some u):b≠a/\H b=some u:=by
 unfold drop at h;split at h
 ·cases h
 ·exact⟨‹_›,h⟩
theorem HOk.drop{P:Program}{w:World}{H:Hp}{h:Heap}{a:Addr}{φ : Heap->Prop}(x:HOk P w H h)(ha:H a=some (.ext φ)):HOk P w (drop H a) h:=fun b u e=>by
 obtain⟨hb,e⟩:=ub e;exact(x b u e).stay (fun _ _ _ q=>q) (fun c q=>by rw[wa (fun z=>by rw[z,ha] at q;cases q)];exact q) fun c xs q=>by rw[wa (fun z=>by rw[z,ha] at q;cases q)];exact q
end
section
variable {X:Cx}{pins:PnL}{σ:St}{H:Hp}{s:Shared}{ea C t:Addr}{od:Option Addr}{M:Model}{E:VSP}
end
section
variable {X:Cx}{E:XK}{pos:Pos}{e:Expr}{te:TE}
variable {P:Program}{w:World}{K:Frag}{mg:Str->Option Value}{base:Heap}{N:List Str}{qual:Str}{scope:Scope}{f:Addr}{cd:Value}{A:Around}{outer:List Env}{s:Shared}{H:Hp}{E':XK}
def zju(C:Addr)(t:TA):TE:=fun σ H Q=>t σ H fun vs H1=>vs.length<=sizeLine/\∀x tu,H1 x=none->Q (.ref x) (upd H1 x (vL x C none tu))
variable {x:Str}{C:Addr}{B Bn newId nid initId inN:String}{bm bmN:List Value}{np:Pos}{es:List Expr}{t:TA}
theorem Inv.madeP{pins:PnL}{σ : St}{H:Hp}{s:Shared}{vs:List Value}{h':Heap}{ea:Addr}(I:Inv X pins σ H s)(hm:Heap.MadeExcOf s.heap h' ea (.ref C) vs):H ea=none/\∃tu,Inv X pins σ (upd H ea (vL ea C none tu)) { s with heap:=h' }:=by
 have hn:H ea=none:=by
  cases q:H ea with
  | none=>rfl
  | some u=>
   obtain⟨o,e⟩:=I.hok.rec q;rw[hm.new] at e;cases e
 obtain⟨tu,h1,_,_⟩:=hm.there;refine⟨hn,tu,(I.kept (t':=s.toks) hm.keeps).track hn (zba h1) (fun u e2 n x=>?_) (fun z=>?_) (fun z c e2 z2=>?_) fun p hp z=>?_⟩
 ·obtain⟨o,e3⟩:=I.base.there ea u e2 x
  rw[hm.new] at e3;cases e3
 ·obtain⟨m,⟨oL,es,ep,hoL,_⟩,_⟩:=I.loc
  rw[z,hm.new] at hoL;cases hoL
 ·obtain⟨v,oc,hoc,_⟩:=I.cell z c e2
  rw[z2,hm.new] at hoc;cases hoc
 ·have:=(I.pin p hp).1
  rw[z,hm.new] at this;cases this
theorem qi(O:OwnCls x C bm newId X.mg X.base)(kp:keepIn X.K (.ref C)=true)(Fn:ExcBaseFacts Bn newId inN bmN)(hBn:bm.contains (.type Bn)=true)(FB:ExcBaseFacts B nid initId bm)(ha:PA X (e::es) t)
  (hg:Gl X x:=by rfl) (hdb:(x==("__debug__" : Str))=false:=by decide) (he:starEach (e::es) X.env=(false,eval e X.env)::starEach es X.env:=by rfl) (hpl:(backTo pos (starEach es X.env)).any (·.1)=false:=by rfl) :
  PE X (.Call (.Name x np) (e::es) [] pos) (zju C t):=by
 refine⟨?_⟩;intro pins s σ H Q I h;obtain⟨tl,N,nm,q,bs,hdct,sn,sub,ab,col,dd,k0,k1,k2,k3,k5,mN,hC,hN,hni,T⟩:=O.obj;refine wpAny_Call_Name_kw (yY I hg O.bound ?_ hdb);refine callWith_K (h₀:=X.base) I.ok.mod.kin kp (thn (ha pos pins s σ H _ I h) fun us s1 ⟨vs,H1,I1,r,hl,q⟩=>⟨I1.kIn,?_⟩) he hpl;obtain⟨hh,g,d,tk,os⟩:=s1;refine wpAny_call_exc_subU Fn hBn FB (T.keeps I1.bk) (I1.bk _ _ hC) (hN.keeps I1.bk) hni (fun h' ea hm=>?_) (by rw[nil_append,<- r.length];exact hl)
 obtain⟨hn,tu,I2⟩:=I1.madeP hm;exact⟨.ref ea,_,I2,rfl,q ea tu hn⟩
end
section
variable {X:Cx}{pins:PnL}{σ:St}{H:Hp}{s:Shared}{M:Model}{A:Around}{E:VSP}{i:Nat}{n:Str}{pos:Pos}
variable {ea:Addr}
variable {st b₀:Stmt}{suite:List Stmt}{c:Str}{np hpos:Pos}{C:Addr}{tb:XK->TS}{ts:TS}{ok:Value->Prop}
end
section
variable {X:Cx}{pins:PnL}{σ:St}{e:Expr}{es:List Expr}{t:TA}{E:XK}{x:Str}{p pos:Pos}{k:Nat}{f C:Addr}{fd:FuncData}{ps:List Str}{sp:Sp}{dvs:List V}{ds:List Value}
abbrev zbb(C:Addr)(od:Option Addr)(t:Addr)(tb:Value):Obj:={ cls:=.ref C,dict:=od,data:=.fields #[.ref t,tb,.none,.none,.bool false,.none] }
def TrS(h base:Heap)(e C:Addr)(od:Option Addr)(t:Addr):Prop:=∃(tb:Addr) (oT:Obj) (ts:Array Value),h.get? e=some (zbb C od t (.ref tb))/\base.get? tb=none/\tb≠e/\h.get? tb=some oT/\oT.data=.fields ts/\ts[3]?=some .none
end
section
variable {M:Model}{A:Around}{E:VSP}{s:Shared}{base:Heap}{env:Env}{outer:List Env}{L e C t:Addr}{od:Option Addr}{tb0 head:Value}{hn:Bool}{Q:Unit->Shared->Prop}
theorem zgL(fr:A.frames=some (env::outer))(fl:s.heap.FunFrames base (env::outer))(hfl:env.frame=some L)(he:s.heap.get? e=some (zbb C od t tb0))(hst:base.StaysIn s.heap)(hb:base.get? e=none)
  (q:∀h':Heap,base.StaysIn h'->h'.FunFrames base (env::outer)->TrS h' base e C od t->s.heap.UpToSlots h'->Q () { s with heap:=h' }) :
  wpAny M A (do
   let a <- frameOf env
   let pl <- entryPlaceOf L hn
   let b <- EntryCells.newEntry head a Value.none (rawInt L) Value.none pl
   setField (Value.ref e) 1 b) (fun _ s'=>wpAny M A (setFlight (Value.ref e) none) Q E s') E s:=by
 refine zwb (wpAny_frameOf_fun fr fl hfl fun h1 so=>?_);obtain⟨sz,oth,sl⟩:=so;refine zwb (wpAny_entryPlaceOf fun pl hpl=>?_);unfold EntryCells.newEntry newFields;have eS:e∉List.filterMap (fun x:Env=>x.frame) (env::outer):=fun z=>by
  obtain⟨_,o,ho,hd⟩:=fl.mem z;rw[he] at ho;cases ho;exact hd _ rfl
 have e1:h1.get? e=some (zbb C od t tb0):=(oth e eS).trans he;have lp:(if pl.isEmpty=true then List.replicate 6 Value.none else pl).length=6:=by
  rcases hpl with rfl|⟨a,b,c,d,c9,b10,_,rfl⟩ <;> rfl
 have sz11:([head,Value.ref L,Value.none,rawInt L,Value.none]++if pl.isEmpty=true then List.replicate 6 Value.none else pl).length=11:=by
  rw[length_append,lp];rfl
 have hL:A.frames=some (env::outer):=fr;generalize hcells:([head,Value.ref L,Value.none,rawInt L,Value.none]++if pl.isEmpty=true then List.replicate 6 Value.none else pl)=cells at sz11 |-
 have c3:cells[3]?=some (rawInt L):=by rw[<- hcells];rfl
 refine zwb (wpAny_newObj_type ?_ (by show sizeOk (Data.fields cells.toArray);unfold sizeOk;simp only[size_toArray,sz11];decide))
 dsimp only;have hlt:e<h1.objs.size:=Heap.lt_size e1;have ne:h1.objs.size≠e:=Nat.ne_of_gt hlt;refine wpAny_setField (zgp _ e1) rfl (by show 1<6;decide) ?_
 have x2:((h1.push { cls:=.type "traceback",data:=.fields cells.toArray }).update e (Obj.mapFields fun x=>x.setIfInBounds 1 (.ref h1.objs.size))).get? e=some (zbb C od t (.ref h1.objs.size)):=
  Heap.get?_update_self _ (zgp _ e1) rfl
 have x3:((h1.push { cls:=.type "traceback",data:=.fields cells.toArray }).update e (Obj.mapFields fun x=>x.setIfInBounds 1 (.ref h1.objs.size))).get? h1.objs.size=some { cls:=.type "traceback",data:=.fields cells.toArray }:=by
  rw[Heap.get?_update_ne _ _ _ _ ne];exact zgs h1 rfl
 have x4:∀b o,b≠e->h1.get? b=some o->((h1.push { cls:=.type "traceback",data:=.fields cells.toArray }).update e (Obj.mapFields fun x=>x.setIfInBounds 1 (.ref h1.objs.size))).get? b=some o:=fun b o hbe hbo=>by
  rw[Heap.get?_update_ne _ _ _ _ hbe];exact zgp _ hbo
 generalize (h1.push { cls:=.type "traceback",data:=.fields cells.toArray }).update e (Obj.mapFields fun x=>x.setIfInBounds 1 (.ref h1.objs.size))=h2 at x2 x3 x4 |-;unfold setFlight;refine zwb (wpAny_field (x:=.ref h1.objs.size) x2 rfl rfl ?_);rw[if_pos (show(Value.ref h1.objs.size != Value.none)=true from rfl)];refine wpAny_setField x3 rfl (by rw[size_toArray,sz11];decide) ?_
 show Q () { s with heap:=h2.update h1.objs.size (Obj.mapFields fun x=>x.setIfInBounds 3 Value.none) }
 have y1:∀b,b≠h1.objs.size->(h2.update h1.objs.size (Obj.mapFields fun x=>x.setIfInBounds 3 Value.none)).get? b=h2.get? b:=fun b hb'=>Heap.get?_update_ne _ _ _ _ hb';have y2:(h2.update h1.objs.size (Obj.mapFields fun x=>x.setIfInBounds 3 Value.none)).get? h1.objs.size=some { cls:=.type "traceback",data:=.fields (cells.toArray.setIfInBounds 3 .none) }:=Heap.get?_update_self _ x3 rfl;have kp:∀b o,s.heap.get? b=some o->(∀vs,o.data≠.fields vs)->∃sl,(h2.update h1.objs.size (Obj.mapFields fun x=>x.setIfInBounds 3 Value.none)).get? b=some { o with slots:=sl }:=fun b o hbo hd=>by
  obtain⟨sl',hs'⟩:=sl b o hbo;have n1:b≠h1.objs.size:=ne_of_lt (Heap.lt_size hs');have n2:b≠e:=fun z=>by rw[z,he] at hbo;cases hbo;exact hd _ rfl
  exact⟨sl',by rw[y1 b n1];exact x4 b _ n2 hs'⟩
 refine q _ (fun b o hbo=>?_) (fl.of_keeps fun b o hbo hd=>?_) ?_ kp
 ·have n0:b∉List.filterMap (fun x:Env=>x.frame) (env::outer):=fun z=>by
   rw[(fl.mem z).1] at hbo;cases hbo
  have hs':=(oth b n0).trans (hst b o hbo);have n1:b≠h1.objs.size:=ne_of_lt (Heap.lt_size hs');have n2:b≠e:=fun z=>by rw[z,hb] at hbo;cases hbo
  rw[y1 b n1];exact x4 b o n2 hs'
 ·obtain⟨sl',hs'⟩:=kp b o hbo hd
  exact⟨_,hs',rfl⟩
 ·refine⟨h1.objs.size,_,_,(by rw[y1 e (Ne.symm ne)];exact x2),?_,ne,y2,rfl,?_⟩
  ·cases z:base.get? h1.objs.size with
   | none=>rfl
   | some o=>
    have:=Heap.lt_size (hst _ o z)
    rw[<- sz] at this;exact absurd this (lt_irrefl _)
  ·rw[Array.getElem?_setIfInBounds_self_of_lt (by rw[size_toArray,sz11];decide)]
theorem zgn(fr:A.frames=some (env::outer))(fl:s.heap.FunFrames base (env::outer))(hfl:env.frame=some L)(hst:base.StaysIn s.heap)(hb:base.get? e=none)
  (he:s.heap.get? e=some (zbb C od t .none)\/TrS s.heap base e C od t)
  (q:∀h':Heap,base.StaysIn h'->h'.FunFrames base (env::outer)->TrS h' base e C od t->s.heap.UpToSlots h'->Q () { s with heap:=h' }) :
  wpAny M A (noteFrame (.ref e) env) (fun _ s'=>wpAny M A (setFlight (.ref e) none) Q E s') E s:=by
 unfold noteFrame;rw[hfl];dsimp only;rcases he with he|⟨tb,oT,ts,h1,h2,h3,h4,h5,h6⟩
 ·refine zwb (wpAny_field (x:=Value.none) he rfl rfl ?_)
  rw[if_neg (show ¬(Value.none != Value.none)=true by decide)]
  exact zgL fr fl hfl he hst hb q
 ·refine zwb (wpAny_field (x:=.ref tb) h1 rfl rfl ?_)
  rw[if_pos (show(Value.ref tb != Value.none)=true from rfl)];refine zwb (wpAny_field (x:=Value.none) h4 h5 h6 ?_);rw[if_neg (show ¬(Value.none==rawInt (L:Nat))=true from fun z=>by cases z)]
  have l3 : 3<ts.size:=by
   have:=(Array.getElem?_eq_some_iff.mp h6).1
   exact this
  refine zwb (wpAny_setField h4 h5 l3 ?_);have z1:∀b,b≠tb->(s.heap.update tb (Obj.mapFields fun x=>x.setIfInBounds 3 Value.none)).get? b=s.heap.get? b:=fun b hb'=>Heap.get?_update_ne _ _ _ _ hb';have up:s.heap.UpToSlots (s.heap.update tb (Obj.mapFields fun x=>x.setIfInBounds 3 Value.none)):=fun b o hbo hd=>by
   have n:b≠tb:=fun z=>by rw[z,h4] at hbo;cases hbo;exact hd _ h5
   exact⟨o.slots,by rw[z1 b n];exact hbo⟩
  refine zgL (s:={ s with heap:=s.heap.update tb (Obj.mapFields fun x=>x.setIfInBounds 3 Value.none) }) fr (fl.of_keeps fun b o hbo hd=>?_) hfl (tb0:=.ref tb) (by rw[z1 e (Ne.symm h3)];exact h1) (fun b o hbo=>?_) hb fun h' a1 a2 a3 a4=>q h' a1 a2 a3 (up.trans a4)
  ·obtain⟨sl,hs⟩:=up b o hbo hd
   exact⟨_,hs,rfl⟩
  ·have n:b≠tb:=fun z=>by rw[z,h2] at hbo;cases hbo
   show(s.heap.update tb (Obj.mapFields fun x=>x.setIfInBounds 3 Value.none)).get? b=some o;rw[z1 b n];exact hst b o hbo
def FlS(B:Heap)(l:List Env)(e C:Addr)(od:Option Addr)(t:Addr)(h:Heap):Prop:=B.StaysIn h/\B.get? e=none/\h.FunFrames B l/\TrS h B e C od t
structure qL(P:Program)(w:World)(outer:List Env)(H:Hp)(s:Shared)(C:Addr)(od:Option Addr)(t:Addr)(H':Hp)(ea:Addr)(s':Shared):Prop where
 os:s'.os=s.os
 bare:AllBare s'.gens
 un:Un (frs outer) [] H H' s.heap s'.heap
 hok:HOk P w H' s'.heap
 nt:H' ea=none
 fly:∃B,FlS B outer ea C od t s'.heap/\(∀b u,H' b=some u->∃o,B.get? b=some o)/\(∀b o,s.heap.get? b=some o->H b=none->b∉frs outer->B.get? b=some o)/\
  ∀b o,s.heap.get? b=some o->b∉frs outer->∃o',B.get? b=some o'
abbrev CXs(P:Program)(w:World):CXT:=fun outer H s E e s'=>∃ea C od t H',e=.ref ea/\qL P w outer H s C od t H' ea s'/\E (.ref C) od H'
variable {X:Cx}{pins:PnL}{σ:St}{H H':Hp}{s':Shared}{ea:Addr}
theorem zeN(I:Inv X pins σ H s)(hstk:X.stack=X.env::X.outer)(hfl:X.env.frame=some X.env.locals)(hex:X.ex=[])(hx:H ea=some (vL ea C od t))(hnew:X.H₀ ea=none):
  wpAny M X.A (leaving X.env (.ref ea)) (fun _ s''=>qL X.prog X.w X.outer X.H₀ X.s₀ C od t (drop H ea) ea s'') E s:=by
 have fr:=wZ hstk hfl;have he:=jS I hx;have fl:s.heap.FunFrames (hideAll s.heap (ea::frs X.stack)) (X.env::X.outer):=by
  have:=I.stack
  rw[hstk] at this;refine funFrames_hide this fun env he b hb=>?_;rw[hstk];exact mem_cons_of_mem _ (List.mem_filterMap.mpr ⟨env,he,hb⟩)
 have fr0:=I.ok.frames;rw[hstk] at fr0;have neL:∀b o,X.s₀.heap.get? b=some o->b≠X.env.locals:=fun b o e=>ne_of_lt (lt_of_lt_of_le (Heap.lt_size e) I.ok.above);have noEx:∀b:Addr,b∉X.ex:=fun b=>by rw[hex];simp
 have inB:∀b o,s.heap.get? b=some o->b≠ea->b∉frs X.stack->(hideAll s.heap (ea::frs X.stack)).get? b=some o:=fun b o e n1 n=>hideAll_get _ e (fun z=>(List.mem_cons.mp z).elim n1 n);have trB:∀b u,H b=some u->b∉frs X.stack:=fun b u e n=>by rw[I.stkFree b n] at e;cases e
 have eaS:∀u,X.s₀.heap.get? ea=some u->False:=fun u e=>by
  have:=I.base.free ea u e hnew (noEx ea)
  rw[hx] at this;cases this
 unfold leaving;refine zwb (zgn fr0 fl hfl (fun b o q=>of_hideAll _ q) (hideAll_none _ mem_cons_self) (.inl he) fun h2 x1 x2 x3 x4=>?_);have stay:∀b o,s.heap.get? b=some o->b≠ea->b∉frs X.stack->h2.get? b=some o:=fun b o e n1 n=>x1 b o (inB b o e n1 n);have x2':h2.FunFrames (hideAll s.heap (ea::frs X.stack)) X.outer:=by
  unfold Heap.FunFrames at x2;exact x2.2.2
 have nEa:∀b o,X.s₀.heap.get? b=some o->b≠ea:=fun b o e z=>by subst z;exact eaS o e
 refine⟨I.os,I.bare,⟨fun b o e n hb _=>?_,fun b o e n hb _=>?_,fun b o e n _=>?_,fun b o e _=>?_,fun b xs e=>?_,fun b u v e=>?_,fun b ps e=>?_⟩,?_,zeS,?_⟩
 ·refine stay b o (I.base.keep b o e n hb (noEx b)) (nEa b o e) ?_
  rw[fr];exact fun z=>(List.mem_cons.mp z).elim (neL b o e) hb
 ·obtain⟨sl,e1⟩:=I.base.slot b o e n hb (noEx b)
  obtain⟨_,o',ho',hd⟩:=I.funs.mem hb;rw[e1] at ho';cases ho';obtain⟨sl2,e2⟩:=x4 b _ e1 hd;exact⟨sl2,e2⟩
 ·rw[wa (nEa b o e)]
  exact I.base.free b o e n (noEx b)
 ·obtain⟨o1,e1⟩:=I.base.there b o e (noEx b)
  by_cases hb:b∈frs X.stack
  ·obtain⟨_,o',ho',hd⟩:=I.stack.mem hb
   obtain⟨sl2,e2⟩:=x4 b o' ho' hd;exact⟨_,e2⟩
  ·exact⟨o1,stay b o1 e1 (nEa b o e) hb⟩
 ·have e1:=I.base.tups b xs e
  rw[wa (fun z=>by rw[z,hx] at e1;cases e1)];exact e1
 ·have e1:=I.base.frzs b u v e
  rw[wa (fun z=>by rw[z,hx] at e1;cases e1)];exact e1
 ·obtain⟨more,e1⟩:=I.base.tbls b ps e
  exact⟨more,by rw[wa (fun z=>by rw[z,hx] at e1;cases e1)];exact e1⟩
 ·exact(I.hok.drop hx).sameAt fun b u o e q=>stay b o q (ub e).1 (trB b u (ub e).2)
 ·refine⟨_,⟨x1,hideAll_none _ mem_cons_self,x2',x3⟩,fun b u e=>?_,fun b o e n hb=>?_,fun b o e hb=>?_⟩
  ·obtain⟨n1,e⟩:=ub e
   obtain⟨o,q⟩:=I.hok.rec e;exact⟨o,inB b o q n1 (trB b u e)⟩
  ·refine inB b o (I.base.keep b o e n hb (noEx b)) (nEa b o e) ?_
   rw[fr];exact fun z=>(List.mem_cons.mp z).elim (neL b o e) hb
  ·obtain⟨o1,e1⟩:=I.base.there b o e (noEx b)
   refine⟨o1,inB b o1 e1 (nEa b o e) ?_⟩;rw[fr];exact fun z=>(List.mem_cons.mp z).elim (neL b o e) hb
theorem zim(I:Inv X pins σ H s)(hstk:X.stack=X.env::X.outer)(hfl:X.env.frame=some X.env.locals)(hex:X.ex=[])(F:qL X.prog X.w X.stack H s C od t H' ea s'):
  wpAny M X.A (leaving X.env (.ref ea)) (fun _ s''=>qL X.prog X.w X.outer X.H₀ X.s₀ C od t H' ea s'') E s':=by
 have fr:=wZ hstk hfl;have fr0:=I.ok.frames;rw[hstk] at fr0;obtain⟨B,fl,tr,old,olds⟩:=F.fly;have neL:∀b o,X.s₀.heap.get? b=some o->b≠X.env.locals:=fun b o e=>ne_of_lt (lt_of_lt_of_le (Heap.lt_size e) I.ok.above);have noEx:∀b:Addr,b∉X.ex:=fun b=>by rw[hex];simp
 have nst:∀b o,X.s₀.heap.get? b=some o->b∉frs X.outer->b∉frs X.stack:=fun b o e hb=>by
  rw[fr];exact fun z=>(List.mem_cons.mp z).elim (neL b o e) hb
 have fl':=fl;rw[hstk] at fl';unfold leaving;refine zwb (zgn fr0 fl'.2.2.1 hfl fl'.1 fl'.2.1 (.inr fl'.2.2.2) fun h2 y1 y2 y3 x2=>?_);have x1:FlS B X.outer ea C od t h2:=⟨y1,fl'.2.1,(by unfold Heap.FunFrames at y2;exact y2.2.2),y3⟩
 have oldB:∀b o,X.s₀.heap.get? b=some o->X.H₀ b=none->b∉frs X.outer->B.get? b=some o:=fun b o e n hb=>
  old b o (I.base.keep b o e n hb (noEx b)) (I.base.free b o e n (noEx b)) (nst b o e hb)
 refine⟨F.os.trans I.os,F.bare,⟨fun b o e n hb _=>x1.1 b o (oldB b o e n hb),fun b o e n hb _=>?_,fun b o e n _=>?_,fun b o e _=>?_,fun b xs e=>F.un.tups b xs (I.base.tups b xs e),fun b o u e=>F.un.frzs b o u (I.base.frzs b o u e),fun b ps e=>?_⟩,F.hok.sameAt fun b u o e q=>?_,F.nt,⟨B,x1,tr,oldB,fun b o e hb=>?_⟩⟩
 ·obtain⟨sl,e1⟩:=I.base.slot b o e n hb (noEx b)
  obtain⟨sl1,e2⟩:=F.un.any e1 (I.base.free b o e n (noEx b)) (by simp)
  have hd:∀vs,o.data≠.fields vs:=by
   obtain⟨_,o',ho',hd⟩:=I.funs.mem hb;rw[e1] at ho';cases ho';exact hd
  obtain⟨sl2,e3⟩:=x2 b _ e2 hd;exact⟨sl2,e3⟩
 ·obtain⟨o',e1⟩:=I.base.there b o e (noEx b)
  exact F.un.free b o' e1 (I.base.free b o e n (noEx b)) (by simp)
 ·obtain⟨o1,e1⟩:=I.base.there b o e (noEx b)
  obtain⟨o2,e2⟩:=F.un.there b o1 e1 (by simp)
  by_cases hb:b∈frs X.stack
  ·obtain⟨_,o',ho',hd⟩:=fl.2.2.1.mem hb
   obtain⟨sl2,e3⟩:=x2 b o' ho' hd;exact⟨_,e3⟩
  ·obtain⟨o3,e3⟩:=olds b o1 e1 hb
   exact⟨o3,x1.1 b o3 e3⟩
 ·obtain⟨m1,e1⟩:=I.base.tbls b ps e
  obtain⟨m2,e2⟩:=F.un.tbls b _ e1;exact⟨m1++m2,by rw[e2,Array.append_assoc]⟩
 ·obtain⟨o3,e3⟩:=tr b u e
  have e4:=fl.1 b o3 e3;rw[q] at e4;cases e4;exact x1.1 b o e3
 ·obtain⟨o1,e1⟩:=I.base.there b o e (noEx b)
  exact olds b o1 e1 (nst b o e hb)
abbrev ziv(ea C:Addr)(od:Option Addr)(t:Addr):HO:=.ext fun h=>∃tb,h.get? ea=some (zbb C od t tb)
theorem ziu{P:Program}{w:World}{H:Hp}{h:Heap}{ea C t:Addr}{od:Option Addr}{tb:Value}(e:h.get? ea=some (zbb C od t tb)):yB P w H h ea (ziv ea C od t):=
 ⟨⟨tb,e⟩,⟨_,e⟩,fun g1 g2 ⟨tb',q⟩ k=>⟨tb',k _ q⟩⟩
variable {h5:Heap}
theorem qL.move{P:Program}{w:World}{l:List Env}{B:Heap}(F:qL P w l H s C od t H' ea s')(fl:FlS B l ea C od t s'.heap)(tr:∀b u,H' b=some u->∃o,B.get? b=some o)
  (old:∀b o,s.heap.get? b=some o->H b=none->b∉frs l->B.get? b=some o) (olds:∀b o,s.heap.get? b=some o->b∉frs l->∃o',B.get? b=some o')
  (fl5:FlS B l ea C od t h5) (up:s'.heap.UpToSlots h5):qL P w l H s C od t H' ea { s' with heap:=h5 }:=by
 refine⟨F.os,F.bare,⟨fun b o e n hb _=>fl5.1 b o (old b o e n hb),fun b o e n hb _=>?_,F.un.free,fun b o e _=>?_,F.un.tups,F.un.frzs,F.un.tbls⟩,F.hok.sameAt fun b u o e q=>?_,F.nt,⟨B,fl5,tr,old,olds⟩⟩
 ·obtain⟨sl,e1⟩:=F.un.slot b o e n hb (by simp)
  obtain⟨_,o',ho',hd⟩:=fl.2.2.1.mem hb;rw[e1] at ho';cases ho';obtain⟨sl2,e2⟩:=up b _ e1 hd;exact⟨sl2,e2⟩
 ·by_cases hb:b∈frs l
  ·obtain⟨_,o',ho',hd⟩:=fl5.2.2.1.mem hb
   exact⟨o',ho'⟩
  ·obtain⟨o3,e3⟩:=olds b o e hb
   exact⟨o3,fl5.1 b o3 e3⟩
 ·obtain⟨o3,e3⟩:=tr b u e
  have e4:=fl.1 b o3 e3;rw[q] at e4;cases e4;exact fl5.1 b o e3
theorem zlT{B:Heap}{l:List Env}{Q:Unit->Shared->Prop}(fl:FlS B l ea C od t s.heap)(q:∀h':Heap,FlS B l ea C od t h'->s.heap.UpToSlots h'->Q () { s with heap:=h' }):wpAny M A (setFlight (.ref ea) none) Q E s:=by
 obtain⟨f1,f2,f3,tb,oT,ts,h1,h2,h3,h4,h5,h6⟩:=fl;unfold setFlight;refine zwb (wpAny_field (x:=.ref tb) h1 rfl rfl ?_);rw[if_pos (show(Value.ref tb != Value.none)=true from rfl)];have l3 : 3<ts.size:=(Array.getElem?_eq_some_iff.mp h6).1;refine wpAny_setField h4 h5 l3 ?_;show Q () { s with heap:=s.heap.update tb (Obj.mapFields fun x=>x.setIfInBounds 3 Value.none) }
 have z1:∀b,b≠tb->(s.heap.update tb (Obj.mapFields fun x=>x.setIfInBounds 3 Value.none)).get? b=s.heap.get? b:=fun b hb'=>Heap.get?_update_ne _ _ _ _ hb';have up:s.heap.UpToSlots (s.heap.update tb (Obj.mapFields fun x=>x.setIfInBounds 3 Value.none)):=fun b o hbo hd=>by
  have n:b≠tb:=fun z=>by rw[z,h4] at hbo;cases hbo;exact hd _ h5
  exact⟨o.slots,by rw[z1 b n];exact hbo⟩
 obtain⟨oc,odd,da,osl⟩:=oT;have h5':da=.fields ts:=h5;subst h5';have z2:(s.heap.update tb (Obj.mapFields fun x=>x.setIfInBounds 3 Value.none)).get? tb=some ⟨oc,odd,.fields (ts.setIfInBounds 3 .none),osl⟩:=Heap.get?_update_self _ h4 rfl;refine q _ ⟨fun b o hbo=>?_,f2,f3.of_keeps fun b o hbo hd=>?_,tb,_,_,(by rw[z1 ea (Ne.symm h3)];exact h1),h2,h3,z2,rfl,?_⟩ up
 ·have n:b≠tb:=fun z=>by rw[z,h2] at hbo;cases hbo
  rw[z1 b n];exact f1 b o hbo
 ·obtain⟨sl,hs⟩:=up b o hbo hd
  exact⟨_,hs,rfl⟩
 ·rw[Array.getElem?_setIfInBounds_self_of_lt l3]
theorem qL.track{B:Heap}(I:Inv X pins σ H s)(F:qL X.prog X.w X.stack H s C od t H' ea s')(fl:FlS B X.stack ea C od t s'.heap)(old:∀b o,s.heap.get? b=some o->H b=none->b∉frs X.stack->B.get? b=some o):
  Inv X pins σ (upd H' ea (ziv ea C od t)) s':=by
 have I1:Inv X pins σ H' s':=I.call' F.os F.un F.hok F.bare fun b z=>nomatch z;obtain⟨tb,oT,ts,he,_⟩:=fl.2.2.2;have nfr:ea∉frs X.stack:=fun z=>by
  obtain⟨_,o',ho',hd'⟩:=fl.2.2.1.mem z;rw[he] at ho';cases ho';exact hd' _ rfl
 have nold:∀b o,s.heap.get? b=some o->H b=none->b≠ea:=fun b o e n z=>by
  subst z
  have:=old b o e n nfr
  rw[fl.2.1] at this;cases this
 refine I1.track F.nt (ziu he) (fun u e n hx=>?_) (fun z=>?_) (fun x c e z=>?_) fun p hp=>?_
 ·by_cases hb:ea∈X.fs
  ·obtain⟨_,o',ho',hd'⟩:=I1.funs.mem hb
   rw[he] at ho';cases ho';exact hd' _ rfl
  ·exact nold ea u (I.base.keep ea u e n hb hx) (I.base.free ea u e n hx) rfl
 ·obtain⟨m,⟨oL,es,ep,hoL,hdL,_⟩,_⟩:=I1.loc
  rw[z,he] at hoL;cases hoL;cases hdL
 ·obtain⟨v,oc,hoc,hdc⟩:=I1.cell x c e
  rw[z,he] at hoc;cases hoc;cases hdc
 ·obtain⟨q1,q2,_⟩:=I.pin p hp
  exact nold p.1 p.2 q1 q2
def zd9(X:Cx)(E:XK):Prop:=∀(pins:PnL) (σ : St) (H:Hp) (s:Shared) (ea C:Addr) (od:Option Addr) (t:Addr),Inv X pins σ H s->H ea=some (vL ea C od t)->X.H₀ ea=none->E (.ref C) od (drop H ea)->X.xe (.ref ea) s
def zdk(K:Frag)(H0:Hp)(E:XK)(te:TE):TS:=fun _ σ H=>te σ H fun x H1=>∃(ea C:Addr) (od:Option Addr) (t:Addr),x=.ref ea/\H1 ea=some (vL ea C od t)/\xc K C/\zea K C=true/\H0 ea=none/\E (.ref C) od (drop H1 ea)
end
section
variable {X:Cx}{E:XK}{pos:Pos}{e:Expr}{te:TE}
theorem wT(hX:zd9 X E)(hc:X.calm=true)(he:PE X e te):PS X (.Raise (some e) none pos) (zdk X.K X.H₀ E te):=by
 refine⟨?_⟩;intro pins s σ H D I h;rw[arm_exec_Raise];refine zwb (wpAny_standAt ?_);unfold raiseStmt;show wpAny _ _ (do
  let xv <- (do
   let v <- eval e X.env
   standAt pos
   pure v)
  _) _ _ _
 refine zwb (zwb (thn (he pins s σ H _ I h) fun u s1 ⟨x,H1,I1,rx,ea,C,od,t,ex,hx,c,m,hn,q⟩=>?_));subst ex;obtain rfl:u=Value.ref ea:=rx;refine zwb (wpAny_standAt (zwp ?_));have ho:=jS I1 hx;have XO:=zaE I1.kIn m;obtain⟨nm,q',N,bs,bm,sn,sub,ab,col,dd,k0,k1,k2,k3,k5,hC,b1,b2,b3,b4⟩:=XO.ob;have hq:X.xe (.ref ea) s1:=hX pins σ H1 s1 ea C od t I1 hx hn q;have LT:Looks (model X.prog X.w) s1.heap (typeOf (.ref ea)) (.ref C):=(PySem.W.Looks.ld ho).andThen .now;have LTC:Looks (model X.prog X.w) s1.heap (typeOf (.ref C)) (.type "type"):=(PySem.W.Looks.ld hC).andThen .now;have LB:=PySem.W.looks_mroIn (M:=model X.prog X.w) I1.kIn c.be;have LIs:Looks (model X.prog X.w) s1.heap (isType (.ref ea)) false:=(PySem.W.Looks.ld ho).andThen .now;have hcalm:=I1.ok.hd hc;obtain⟨hh,g,d,tk,os⟩:=s1;dsimp only;refine zwb (zwp (zwb (wpAny_holding ?_)));unfold excFromValue isExcClass;refine zwb (zwb (LIs.at ?_));rw[if_neg zft];refine zwp ?_;rw[if_neg zft];unfold isInstance;refine zwb (zwb (LT.at (LB.at ?_)));rw[if_pos rfl];refine zwp ?_;dsimp only;refine zwb (LIs.at ?_);rw[if_neg zft];unfold raisedInstance;refine zwb (zwb (LT.at (zwb (LTC.at ?_))));rw[if_pos (by decide)]
 refine zwp (zwb ?_);unfold setFlight;refine zwb (wpAny_field (x:=Value.none) ho rfl rfl ?_);rw[if_neg (show ¬(Value.none != Value.none)=true by decide)]
 refine zwp ?_;unfold raiseNew;refine zwb (wpAny_handled_none hcalm ?_);exact wpAny_throw hq
variable {P:Program}{w:World}{K:Frag}{mg:Str->Option Value}{base:Heap}{N:List Str}{qual:Str}{scope:Scope}{f:Addr}{cd:Value}{A:Around}{outer:List Env}{s:Shared}{H:Hp}{E':XK}
theorem wn:zd9 (w5 (CXs P w) P w K mg base N qual scope f cd A outer s H E) E:=fun pins σ H1 s1 ea C od t I hx hn q=>by
 refine wpAny_mono (zeN I rfl rfl rfl hx hn) (fun _ s2 F=>?_) fun _ _ z=>z;exact⟨ea,_,_,_,_,rfl,F,q⟩
theorem zdF(hE:∀c d H,E' c d H->E c d H):yE (CXs P w) (w5 (CXs P w) P w K mg base N qual scope f cd A outer s H E) E':=fun pins σ H1 s1 e s' I q=>by
 obtain⟨ea,C,od,t,H',rfl,F,q⟩:=q;refine wpAny_mono (zim I rfl rfl rfl F) (fun _ s2 F2=>?_) fun _ _ z=>z;exact⟨ea,C,od,t,H',rfl,F2,hE _ _ _ q⟩
theorem Fun.okS{x:Str}{st:Stmt}{fd:FuncData}{ps:List Str}{k:Nat}{sp:Sp}(F:Fun K x qual st f fd)(S:zD N ps (zr st))(len:∀vs H Q E,sp vs H Q E->vs.length=ps.length)
  (hbody:∀(cdv:Value) (A:Around) (outer:List Env) (s:Shared) (H:Hp) (vs:List V) (Q:VK) (E:XK),yh k (A.deeper (envOfC qual (zr st) s.heap.objs.size f cdv))->sp vs H Q E->
   ∃t,PSs (w5 (CXs P w) P w K mg base N qual (zr st) f cdv A outer s H E) (yd st) t/\t { nx:=fun _ H'=>Q .non H',rt:=Q } (xN N vs) H):zL P w K mg base (CXs P w) (k+1) f fd ps sp:=by
 obtain⟨oc,od,kV,doc,pm,an,cdv,ct,osl,rfl,lk,hcd⟩:=F.ex;exact zb5 lk hcd S len fun A outer s H vs Q E hr hsp=>hbody cdv A outer s H vs Q E hr hsp
structure wc(P:Program)(w:World)(K:Frag)(mg:Str->Option Value)(base:Heap)(k:Nat)(x:Str)(f:Addr)(fd:FuncData)(ps:List Str)(sp:Sp):Prop where
 ok:zL P w K mg base (CXs P w) k f fd ps sp
 mg:mg x=some (.ref f)
 kp:keepIn K (.ref f)=true
 bd:yt K fd ps []
variable {k:Nat}{fd:FuncData}{ps:List Str}{sp:Sp}{x:Str}{p:Pos}{es:List Expr}{t:TA}
theorem cS(c:wc X.prog X.w X.K X.mg X.base k x f fd ps sp)(hp:yE (CXs X.prog X.w) X E)(hr:yh k X.A)(ha:PA X (e::es) t)(hg:Gl X x:=by rfl)(hdb:(x==("__debug__" : Str))=false:=by decide)
  (h1:xB e=false:=by rfl) (h2:es.any xB=false:=by rfl):PE X (.Call (.Name x p) (e::es) [] pos) (jp sp [] E t):=
 za2 c.ok hr hg c.mg c.kp c.bd .nil hp ha hdb (yk h1) (xh h2)
abbrev HK:=Addr->Option Addr->Addr->Addr->wO->St->Hp->Prop
structure PH(X:Cx)(hs:List ExceptHandler)(th:HK):Prop where
 run:∀(pins:PnL) (σ : St) (H1:Hp) (s1:Shared) (H':Hp) (ea C:Addr) (od:Option Addr) (t:Addr) (s5:Shared) (D:wO),Inv X pins σ H1 s1->qL X.prog X.w X.stack H1 s1 C od t H' ea s5->th C od t ea D σ H'->wpAny (model X.prog X.w) X.A (handleBy (.ref ea) X.env hs) (SP X pins D) X.xe s5
variable {hs:List ExceptHandler}{th:HK}{c n:Str}{C':Addr}{i:Nat}{ts:TS}{b₀:Stmt}{suite:List Stmt}{np hpos:Pos}
def zbi(X:Cx)(pins:PnL)(σ : St)(E:XK):Prop:=∀(H:Hp) (s:Shared) (e:Value) (s':Shared),Inv X pins σ H s->CXs X.prog X.w X.stack H s E e s'->X.xe e s'
def zk5(tb:XK->TS)(th:HK):TS:=fun D σ H=>tb (fun cls od H'=>∃C,cls=.ref C/\∀t ea,H' ea=none->th C od t ea D σ H') D σ H
variable {st:Stmt}{h₀:ExceptHandler}{tb:XK->TS}
theorem zhC(hstk:X.stack=X.env::X.outer)(hfl:X.env.frame=some X.env.locals)(hh:PH X (h₀::hs) th)
  (hb:∀(pins:PnL) (σ : St) (xe:VSP) (E:XK),zbi (X.wish xe) pins σ E->PS1 (X.wish xe) pins σ st (tb E)):PS X (.Try [st] (h₀::hs) [] [] pos) (zk5 tb th):=by
 refine⟨?_⟩;intro pins s σ H D I h;have fr0:=I.ok.frames;rw[hstk] at fr0;refine wpAny_Try_except ?_;have key:zbi (X.wish (ziL X pins D (h₀::hs))) pins σ (fun cls od H'=>∃C,cls=.ref C/\∀t ea,H' ea=none->th C od t ea D σ H'):=by
  intro H1 s1 e s2 I1 q;obtain⟨ea,C,od,t,H',rfl,F,C0,e0,q⟩:=q;cases e0;have I1:=I1.unwish;have F:qL X.prog X.w X.stack H1 s1 C od t H' ea s2:=F;obtain⟨B,fl,tr,old,olds⟩:=F.fly;have fl':=fl;rw[hstk] at fl';refine zgn fr0 fl'.2.2.1 hfl fl'.1 fl'.2.1 (.inr fl'.2.2.2) fun h5 y1 y2 y3 y4=>?_;have fl5:FlS B X.stack ea C od t h5:=by rw[hstk];exact⟨y1,fl'.2.1,y2,y3⟩
  have F5:=F.move fl tr old olds fl5 y4;exact hh.run pins σ H1 s1 H' ea C od t _ D I1 F5 (q t ea F.nt)
 have run:=(hb pins σ _ _ key).run s H D (I.wish _) h;refine wpAny_execs_cons (thn run fun f s1 q=>?_)
 ·cases f with
  | next=>exact wpAny_execs_nil (wpAny_execs_nil (SP.unwish (f:=.next) q))
  | ret v=>exact SP.unwish (f:=.ret v) q
  | brk=>exact SP.unwish (f:=.brk) q
  | cont=>exact SP.unwish (f:=.cont) q
variable {pins:PnL}{σ:St}{m:Str}{apos:Pos}{C:Addr}{dvs:List V}{ds:List Value}
theorem zhM(M:Mk X.K C f)(F:zL X.prog X.w X.K X.mg X.base (CXs X.prog X.w) k f fd ps sp)(hr:yh (k+1) X.A)(hg:Gl X x)(hm:X.mg x=some (.ref C))(hb:yt X.K fd ps ds)(hd:zY dvs ds)(hp:zbi X pins σ E)
  (ha:PA X (e::es) t) (hdb:(x==("__debug__" : Str))=false:=by decide) (he:starEach (e::es) X.env=(false,eval e X.env)::starEach es X.env:=by rfl) (hpl:(backTo pos (starEach es X.env)).any (·.1)=false:=by rfl) :
  PE1 X pins σ (.Call (.Name x p) (e::es) [] pos) (ze9 C sp dvs E t):=by
 refine⟨fun s H Q I h=>?_⟩;refine wpAny_Call_Name_kw (yY I hg hm ?_ hdb);refine callWith_K (h₀:=X.base) I.ok.mod.kin M.kp (thn (ha pos pins s σ H _ I h) fun us s1 ⟨vs,H1,I1,r,q⟩=>⟨I1.kIn,?_⟩) he hpl;have hq:=q (s1.heap.objs.size+1) s1.heap.objs.size (I1.hok.fresh (le_succ _)) (I1.hok.fresh (le_refl _)) (ne_of_lt (lt_succ_self _));have I2:=Inv.made (C:=C) I1;have r2:zY (V.ref (s1.heap.objs.size+1)::(vs++dvs)) (Value.ref (s1.heap.objs.size+1)::(us++ds)):=.cons rfl (r.append hd);have hl:(Value.ref (s1.heap.objs.size+1)::us++ds).length=ps.length:=by
  have e:=r2.length;rw[F.len _ _ _ _ hq] at e;exact e.symm
 refine wpAny_call (zbU (f:=f) I1.kIn M.makes M.init (beq_iff_eq.mp M.fn) (codeAny_mono (F.run _ X.stack _ _ ⟨Value.ref (s1.heap.objs.size+1)::us,[]⟩ (Value.ref (s1.heap.objs.size+1)::(us++ds)) _ _ E (hr.make C us [])
  (I2.env0.make C us []) (hb _ (Value.ref (s1.heap.objs.size+1)::us) I2.kIn hl) r2 hq) fun r s' hq'=>?_))
 cases r with
 | error e=>exact hp _ _ e s' I2 hq'
 | ok fl=>
  cases fl with
  | ret u=>
   obtain⟨v,H',I3,rv,ev,q3⟩:=I2.after hq';subst ev;exact⟨rv,⟨V.ref (s1.heap.objs.size+1),H',I3,rfl,q3⟩⟩
  | next=>exact False.elim hq'
  | brk=>exact False.elim hq'
  | cont=>exact False.elim hq'
end
section
variable {X:Cx}{pins:PnL}{σ:St}{H:Hp}{s:Shared}{x C t:Addr}{f:Str}{A:Around}{E:VSP}
variable {e:Expr}{pos:Pos}{ta:TE}
end
end L2
namespace L2
open PySem PySem.Spec PyProof.Rows PySem.Builtin
section
variable {prog:Program}{w:World}{A:Around}{E:VSP}{s:Shared}{it ea C t:Addr}{od:Option Addr}{tb:Value}{x left step:Int}{Q:Option Value->Shared->Prop}
end
end L2
namespace L2
open PySem PySem.Spec PyProof.Rows
structure zmc(ea:Addr)(P:Program)(w:World)(K:Frag)(tg:Expr)(J:It)(fp:List Addr)(it:Addr)(tn:Nat->Heap->Prop):Prop where
 mem:it∈fp
 obj:∀i h,tn i h->∀b∈fp,∃o,h.get? b=some o/\∀v,o.data≠.cell v
 keep:∀i h h',tn i h->(∀b∈fp,∀o,h.get? b=some o->h'.get? b=some o)->tn i h'
 item:∀(X:Cx),X.prog=P->X.w=w->X.K=K->X.A.handled=some (.ref ea)->∀(i:Nat) (pins:PnL) (s:Shared) (σ : St) (H:Hp) (E:VSP),Inv X pins σ H s->(∀b∈fp,wN X pins H b)->tn i s.heap->J.go i H->
  wpAny (model P w) X.A (pyNext (.ref it)) (fun r s1=>∃u,r=some u/\
   wpAny (model P w) X.A (letOwnedTupleGo tg (.ref it) u) (fun _ s2=>∃x H',Inv X pins σ H' s2/\yj x u/\J.yld i H x H'/\tn (i+1) s2.heap/\∀b∈fp,H' b=none) E s1) E s
 done:∀(X:Cx),X.prog=P->X.w=w->X.K=K->X.A.handled=some (.ref ea)->∀(i:Nat) (pins:PnL) (s:Shared) (σ : St) (H:Hp) (E:VSP),Inv X pins σ H s->(∀b∈fp,wN X pins H b)->tn i s.heap->J.stop i H->
  wpAny (model P w) X.A (pyNext (.ref it)) (fun r s1=>r=none/\Inv X pins σ H s1) E s
 self:∀(A:Around) (i:Nat) (s:Shared) (Q:VSP) (E:VSP),tn i s.heap->Q (.ref it) s->wpAny (model P w) A (pyIter (.ref it)) Q E s
def znl(X:Cx)(ea:Addr)(pins:PnL)(σ : St)(tg:Expr)(R:It->Hp->Prop)(itv:Value)(s2:Shared):Prop:=
 ∃(it:Addr) (fp:List Addr) (tn:Nat->Heap->Prop) (J:It) (H':Hp),itv=.ref it/\Inv X pins σ H' s2/\zmc ea X.prog X.w X.K tg J fp it tn/\tn 0 s2.heap/\(∀b∈fp,wN X pins H' b)/\R J H'
section
variable {X:Cx}{tg:Expr}
variable {pins:PnL}{σ:St}{s:Shared}{sc:Scope}{fr Nc:List Str}{caps:List (Option Nat)}{elt iter:Expr}{ifs:List Expr}{g:TG}{tt:TT}{te:TE}{ow:List Nat}{pos pos2:Pos}{E:VSP}
theorem jH.okS{P:Program}{w:World}{K:Frag}{mg:Str->Option Value}{base:Heap}{x qual:Str}{st:Stmt}{f:Addr}{fd:FuncData}{items:List Value}{N ps:List Str}{k:Nat}{sp:Sp}(F:jH K x qual st f fd items)(S:zD N ps (zr st))(len:∀vs H Q E,sp vs H Q E->vs.length=ps.length)
  (hbody:∀(cdv:Value) (A:Around) (outer:List Env) (s:Shared) (H:Hp) (vs:List V) (Q:VK) (E:XK),yh k (A.deeper (envOfC qual (zr st) s.heap.objs.size f cdv))->sp vs H Q E->
   ∃t,PSs (w5 (CXs P w) P w K mg base N qual (zr st) f cdv A outer s H E) (yd st) t/\t { nx:=fun _ H'=>Q .non H',rt:=Q } (xN N vs) H):zL P w K mg base (CXs P w) (k+1) f fd ps sp:=by
 obtain⟨oc,od,T,kV,doc,pm,an,cdv,ct,osl,o,n,rfl,lk,hcd,_,_⟩:=F.ex;exact zb5 lk hcd S len fun A outer s H vs Q E hr hsp=>hbody cdv A outer s H vs Q E hr hsp
variable {hs:List ExceptHandler}{th:HK}{c n:Str}{C':Addr}{i:Nat}{ts:TS}{b₀:Stmt}{suite:List Stmt}{np hpos:Pos}
theorem zfb{ys:List Str}:∀{its:List Value},zY (ys.map V.str) its->StrsAre its ys:=by
 induction ys with
 | nil=>intro its h;cases h;exact .nil
 | cons y ys ih=>
  intro its h;cases h with
  | cons r t=>
   obtain⟨tk,rfl⟩:=r;exact .cons _ _ (ih t)
def zlu:V->List V->Hp->VK->Prop:=fun x xs H Q=>∃(z:Str) (a:Addr) (ys:List Str),x=.str z/\xs=[.ref a]/\H a=some (.lst (ys.map V.str))/\z.length<=16/\(ys.map (·.length)).sum+ys.length<=1048576/\Q (.str (Txt.join z ys)) H
theorem yX:MtR X "str.join" zlu:=by
 intro pins s σ H x xs v us Q I rx r h;obtain⟨z,a,ys,rfl,rfl,ha,hz,hl,q⟩:=h;obtain⟨t,rfl⟩:=rx;obtain⟨u,rfl,ru⟩:=r.one;cases ru;obtain⟨its,rv,pl,_⟩:=I.list (zq ha);exact join_listW pl.isList (by simpa using zfb rv) hz hl fun t' k=>⟨.str _,H,I.tok _,⟨_,rfl⟩,q⟩
theorem vX:MtR X "str.startswith" (fun x xs H Q=>∃z y,x=.str z/\xs=[.str y]/\Q (.bl (Txt.startswith z y)) H):=by
 intro pins s σ H x xs v us Q I rx r h;obtain⟨z,y,rfl,rfl,q⟩:=h;obtain⟨t,rfl⟩:=rx;obtain⟨u,rfl,t2,rfl⟩:=r.one;exact SC.startswith ⟨.bl _,H,I,rfl,q⟩
theorem za5:MtR X "str.endswith" (fun x xs H Q=>∃z y,x=.str z/\xs=[.str y]/\Q (.bl (Txt.endswith z y)) H):=by
 intro pins s σ H x xs v us Q I rx r h;obtain⟨z,y,rfl,rfl,q⟩:=h;obtain⟨t,rfl⟩:=rx;obtain⟨u,rfl,t2,rfl⟩:=r.one;exact SC.endswith ⟨.bl _,H,I,rfl,q⟩
theorem zcX:MtR X "str.rstrip" (fun x xs H Q=>∃z y,x=.str z/\xs=[.str y]/\z.length<=sizeLine/\Q (.str (Txt.rstripChars z y)) H):=by
 intro pins s σ H x xs v us Q I rx r h;obtain⟨z,y,rfl,rfl,hz,q⟩:=h;obtain⟨t,rfl⟩:=rx;obtain⟨u,rfl,t2,rfl⟩:=r.one;exact SCL.rstripChars (fun t' k _=>⟨.str _,H,I.tok _,⟨_,rfl⟩,q⟩) hz
theorem qZ:∀(ys:List Str) (t:Nat),zY (ys.map V.str) (strsFrom t ys)
 | [],_=>.nil
 | y::ys,t=>.cons ⟨_,rfl⟩ (qZ ys (t+1))
def zkc:V->List V->Hp->VK->Prop:=fun x xs H Q=>∃z y,x=.str z/\xs=[.str y]/\(y.length==0)=false/\z.length<=sizeLine/\(PySem.Builtin.Str.partsBetween z (PySem.Builtin.Str.occurrences z y 0 z.length (z.length+1)) y.length).length<=sizeLine/\∀l,H l=none->Q (.ref l) (upd H l (.lst ((Txt.split z y).map V.str)))
theorem wW:MtR X "str.split" zkc:=by
 intro pins s σ H x xs v us Q I rx r h;obtain⟨z,y,rfl,rfl,hy,hz,hp,q⟩:=h;obtain⟨t,rfl⟩:=rx;obtain⟨u,rfl,t2,rfl⟩:=r.one;have q:=q s.heap.objs.size I.fresh;cases h1:(decide (z.length<y.length)||decide (PySem.Builtin.Str.strKind z<PySem.Builtin.Str.strKind y))
 ·cases hf:(PySem.Builtin.Str.occurrences z y 0 z.length (z.length+1)).isEmpty
  ·have e:Txt.split z y=PySem.Builtin.Str.partsBetween z (PySem.Builtin.Str.occurrences z y 0 z.length (z.length+1)) y.length:=by unfold Txt.split;rw[h1,if_neg zft,hf,if_neg zft]
   rw[e] at q;refine call_meets F.slot_str_split (typeIs_str _ _ _) F.entry_str_split (F.args_str_split_2 _ _) (meets_str_split_sep z y t t2 h1 hy hf hz hp) ?_;exact⟨.ref _,_,I.lnew (qZ _ _) (by rw[length_map];exact hp),rfl,q⟩
  ·have e:Txt.split z y=[z]:=by unfold Txt.split;rw[h1,if_neg zft,hf,if_pos rfl]
   rw[e] at q;refine call_meets F.slot_str_split (typeIs_str _ _ _) F.entry_str_split (F.args_str_split_2 _ _) (meets_str_split_not_found z y t t2 h1 hy hf) ?_;exact⟨.ref _,_,I.lnew (its:=[.str z t]) (t':=s.toks) (ys:=[.str z]) (.cons ⟨_,rfl⟩ .nil) zhg,rfl,q⟩
 ·have e:Txt.split z y=[z]:=by unfold Txt.split;rw[h1,if_pos rfl]
  rw[e] at q;refine call_meets F.slot_str_split (typeIs_str _ _ _) F.entry_str_split (F.args_str_split_2 _ _) (meets_str_split_cannot_occur z y t t2 h1) ?_;exact⟨.ref _,_,I.lnew (its:=[.str z t]) (t':=s.toks) (ys:=[.str z]) (.cons ⟨_,rfl⟩ .nil) zhg,rfl,q⟩
theorem zdO:MtR X "str.partition" (fun x xs H Q=>∃z y,x=.str z/\xs=[.str y]/\(y.length==0)=false/\z.length<=sizeLine/\∀p,H p=none->Q (.ref p) (upd H p (.tup [.str (Txt.partition z y).1,.str (Txt.partition z y).2.1,.str (Txt.partition z y).2.2]))):=by
 intro pins s σ H x xs v us Q I rx r h;obtain⟨z,y,rfl,rfl,hy,hz,q⟩:=h;obtain⟨t,rfl⟩:=rx;obtain⟨u,rfl,t2,rfl⟩:=r.one;have q:=q s.heap.objs.size I.fresh;refine call_meets F.slot_str_partition (typeIs_str _ _ _) F.entry_str_partition (F.args_str_partition_2 _ _) (meets_str_partition z y t t2 hy hz) ?_;unfold Txt.partition at q;generalize PySem.Builtin.Str.occurrences z y 0 z.length 1=oc at q |-;cases oc with
 | nil=>exact⟨.ref _,_,I.laid (o:=.tup [.str z,.str Str.empty,.str Str.empty]) (fun b o e=>zgp _ e) (le_refl _) ⟨by show 3<=sizeLine;decide,[.str z t,.str Str.empty s.toks,.str Str.empty s.toks],.cons ⟨_,rfl⟩ (.cons ⟨_,rfl⟩ (.cons ⟨_,rfl⟩ .nil)),⟨_,zgs s.heap rfl,rfl,0,rfl⟩⟩,rfl,q⟩
 | cons i r=>exact⟨.ref _,_,I.laid (o:=.tup [.str (PySem.Builtin.Str.strSub z 0 i),.str y,.str (PySem.Builtin.Str.strSub z (i+y.length) z.length)]) (fun b o e=>zgp _ e) (le_refl _) ⟨by show 3<=sizeLine;decide,[.str (PySem.Builtin.Str.strSub z 0 i) s.toks,.str y t2,.str (PySem.Builtin.Str.strSub z (i+y.length) z.length) (s.toks+1)],.cons ⟨_,rfl⟩ (.cons ⟨_,rfl⟩ (.cons ⟨_,rfl⟩ .nil)),⟨_,zgs s.heap rfl,rfl,0,rfl⟩⟩,rfl,q⟩
theorem ud:xp X (.type "str") (fun xs H Q=>∃i:Int,xs=[.int i]/\i.natAbs.log2<1920/\Q (.str (Str.ofString (toString i))) H):=by
 intro pins s σ H xs us Q I r h;obtain⟨i,rfl,hi,q⟩:=h;obtain⟨u,rfl,t,rfl⟩:=wP r;exact PySem.P.str_of_int hi ⟨.str _,H,I.tok _,⟨_,rfl⟩,q⟩
theorem zav:xp X (.type "int") (fun xs H Q=>∃(z:Str) (n:Int),xs=[.str z]/\PySem.intText? z=some n/\z.length<=640/\Q (.int n) H):=by
 intro pins s σ H xs us Q I r h;obtain⟨z,n,rfl,hn,hl,q⟩:=h;obtain⟨u,rfl,t,rfl⟩:=wP r;exact PySem.W.KIN.call_text hn hl ⟨.int _,H,I.tok _,⟨_,rfl⟩,q⟩
abbrev sg(z:Str):List Nat:=z.cps.toList
theorem xF{a b:Str}(h:sg a=sg b):a=b:=by
 obtain⟨x⟩:=a;obtain⟨y⟩:=b;exact congrArg Str.mk (Array.toList_inj.mp h)
theorem xG(a b:Str):sg (a++b)=sg a++sg b:=by
 show(a.cps++b.cps).toList=_;rw[Array.toList_append]
theorem zN(a:Str):a.length=(sg a).length:=by simp [Str.length,sg]
def Spc(k m:Nat):Nat->List Nat->Prop
 | _,[]=>True
 | f,c::cs=>f<=c/\c<m/\Spc k m (c+k) cs
theorem Spc.all{k m:Nat}:∀{f:Nat}{cs:List Nat},Spc k m f cs->∀c∈cs,f<=c/\c<m
 | _,_::_,⟨h1,h2,h3⟩,c,hc=>by
  rcases List.mem_cons.mp hc with rfl|hc
  ·exact⟨h1,h2⟩
  ·have:=Spc.all h3 c hc
   exact⟨by omega,this.2⟩
theorem jN{s sub:Str}{hi lim:Nat}(hk : 0<sub.length):∀(n i:Nat) (cuts:List Nat) (found:Array Nat) (free:Nat),
  (∀j,i<=j->j<i+n->((j+sub.length<=hi/\PySem.Builtin.Str.subAt s sub j=true) ↔ j∈cuts))->Spc sub.length (i+n) free cuts->(∀c∈cuts,i<=c)->found.size+cuts.length<=lim->
  (forIn (m:=Id) (List.range' i n) (found,free) (PySem.StrLaws.occBody s sub hi lim)).run.fst=found++cuts.toArray
 | 0,i,cuts,found,free,_,hs,hg,_=>by
  cases cuts with
  | nil=>simp
  | cons c cs=>exact absurd (hs.2.1) (by have:=hg c mem_cons_self;omega)
 | n+1,i,cuts,found,free,hm,hs,hg,hl=>by
  rw[List.range'_succ,forIn_cons];have hi0:=hm i (le_refl _) (by omega)
  cases cuts with
  | nil=>
   have hc:¬(((found.size<lim/\free<=i)/\i+sub.length<=hi)/\PySem.Builtin.Str.subAt s sub i=true):=fun h=>by cases hi0.mp ⟨h.1.2,h.2⟩
   unfold PySem.StrLaws.occBody;rw[if_neg hc];exact jN hk n (i+1) [] found free (fun j h1 h2=>hm j (by omega) (by omega)) trivial (fun c hc=>by cases hc) hl
  | cons c cs=>
   obtain⟨h1,h2,h3⟩:=hs;by_cases e:i=c
   ·subst e
    obtain⟨a1,a2⟩:=hi0.mpr mem_cons_self;have hc:((found.size<lim/\free<=i)/\i+sub.length<=hi)/\PySem.Builtin.Str.subAt s sub i=true:=⟨⟨⟨by simp at hl;omega,h1⟩,a1⟩,a2⟩
    unfold PySem.StrLaws.occBody;rw[if_pos hc]
    have:=jN (s:=s) (sub:=sub) (hi:=hi) (lim:=lim) hk n (i+1) cs (found.push i) (i+sub.length) (fun j h1' h2'=>by
     rw[hm j (by omega) (by omega),mem_cons]
     exact⟨fun h=>h.resolve_left (by omega),.inr⟩) (by rw[show i+1+n=i+(n+1) by omega];exact h3) (fun d hd=>by have:=(h3.all d hd).1;omega) (by simp at hl |-;omega)
    refine this.trans ?_;simp
   ·have gi:=hg c mem_cons_self
    have hn:i∉c::cs:=fun h=>by
     rcases List.mem_cons.mp h with h|h
     ·exact e h
     ·have:=(h3.all i h).1;omega
    have hc:¬(((found.size<lim/\free<=i)/\i+sub.length<=hi)/\PySem.Builtin.Str.subAt s sub i=true):=fun h=>hn (hi0.mp ⟨h.1.2,h.2⟩);unfold PySem.StrLaws.occBody;rw[if_neg hc];refine jN hk n (i+1) (c::cs) found free (fun j h1 h2=>hm j (by omega) (by omega)) (by rw[show i+1+n=i+(n+1) by omega];exact⟨h1,h2,h3⟩) (fun d hd=>?_) hl
    have:=hg d hd
    have:i≠d:=fun e=>hn (e ▸ hd)
    omega
theorem zgk{s sub:Str}{lim:Nat}{cuts:List Nat}(hk : 0<sub.length)(hm:∀j,(j+sub.length<=s.length/\PySem.Builtin.Str.subAt s sub j=true) ↔ j∈cuts)(hs:Spc sub.length (s.length+1) 0 cuts)(hl:cuts.length<=lim):
  PySem.Builtin.Str.occurrences s sub 0 s.length lim=cuts:=by
 rw[PySem.StrLaws.occ_eq]
 have:=jN (s:=s) (sub:=sub) (hi:=s.length) (lim:=lim) hk (s.length+1 - 0) 0 cuts #[] 0 (fun j _ _=>hm j) (by rw[show 0+(s.length+1 - 0)=s.length+1 by omega];exact hs) (fun _ _=>zero_le _) (by simpa using hl)
 rw[this];simp
def jL(sep:List Nat):List (List Nat)->List Nat
 | []=>[]
 | [p]=>p
 | p::q::r=>p++sep++jL sep (q::r)
def cL(k:Nat):Nat->List (List Nat)->List Nat
 | _,[]=>[]
 | _,[_]=>[]
 | f,p::q::r=>(f+p.length)::cL k (f+p.length+k) (q::r)
theorem jI(sep:Str)(ys:List Str):sg (Txt.join sep ys)=jL (sg sep) (ys.map sg):=by
  show sg (PySem.Builtin.Str.glued sep ys)=_;rw[PySem.StrLaws.glued_eq_join];induction ys with
  | nil=>rfl
  | cons p r ih=>
   cases r with
   | nil=>rfl
   | cons q r=>
    show sg (p++sep++Str.join sep (q::r))=_;rw[xG,xG,ih];rfl
theorem zgW(k:Nat):∀(f:Nat) (ps:List (List Nat)),(cL k f ps).length=ps.length - 1
 | _,[]=>rfl
 | _,[_]=>rfl
 | f,p::q::r=>by simp [cL,zgW k _ (q::r)]
theorem zjj(k:Nat):∀(f:Nat) (ps:List (List Nat)),∀c∈cL k f ps,f<=c
 | f,p::q::r,c,hc=>by
  rcases List.mem_cons.mp hc with rfl|hc
  ·omega
  ·have:=zjj k _ (q::r) c hc
   omega
theorem zjk(sep:List Nat)(h0 : 0<sep.length):∀(f:Nat) (ps:List (List Nat)),Spc sep.length (f+(jL sep ps).length+1) f (cL sep.length f ps)
 | _,[]=>trivial
 | _,[_]=>trivial
 | f,p::q::r=>by
  refine⟨by omega,by simp [jL];omega,?_⟩
  have:=zjk sep h0 (f+p.length+sep.length) (q::r)
  have e:f+p.length+sep.length+(jL sep (q::r)).length+1=f+(jL sep (p::q::r)).length+1:=by simp [jL];omega
  rw[e] at this;exact this
theorem zjl{c0:Nat}{rest:List Nat}(hr:c0∉rest):∀(f:Nat) (ps:List (List Nat)),(∀p∈ps,c0∉p)->∀i,(jL (c0::rest) ps)[i]?=some c0->f+i∈cL (rest.length+1) f ps
 | _,[],_,i,h=>by simp [jL] at h
 | _,[p],hp,i,h=>absurd (mem_of_getElem? h) (hp p mem_cons_self)
 | f,p::q::r,hp,i,h=>by
  simp only[jL,append_assoc] at h;by_cases h1:i<p.length
  ·rw[List.getElem?_append_left h1] at h
   exact absurd (mem_of_getElem? h) (hp p mem_cons_self)
  ·rw[List.getElem?_append_right (by omega)] at h
   by_cases h2:i - p.length<(c0::rest).length
   ·rw[List.getElem?_append_left h2] at h
    rcases e:i - p.length with _|j
    ·exact List.mem_cons.mpr (.inl (by omega))
    ·rw[e] at h
     exact absurd (mem_of_getElem? (show rest[j]?=some c0 from h)) hr
   ·rw[List.getElem?_append_right (by omega)] at h
    have:=zjl hr (f+p.length+(rest.length+1)) (q::r) (fun p hp'=>hp p (mem_cons_of_mem _ hp')) _ h
    simp at h2;refine mem_cons_of_mem _ ?_;rw[show f+i=f+p.length+(rest.length+1)+(i - p.length - (c0::rest).length) by simp;omega]
    exact this
theorem zjm(sep:List Nat):∀(ps:List (List Nat)) (f i:Nat),f+i∈cL sep.length f ps->((jL sep ps).drop i).take sep.length=sep/\i+sep.length<=(jL sep ps).length
 | p::q::r,f,i,h=>by
  simp only[jL,append_assoc];rcases List.mem_cons.mp h with h|h
  ·have:i=p.length:=by omega
   subst this;refine⟨?_,by simp⟩
   rw[drop_left,List.take_left]
  ·have hu:=zjj _ _ _ _ h
   obtain⟨j,rfl⟩:∃j,i=p.length+(sep.length+j):=⟨i - p.length - sep.length,by omega⟩
   have ih:=zjm sep (q::r) (f+p.length+sep.length) j (by rw[show f+p.length+sep.length+j=f+(p.length+(sep.length+j)) by omega];exact h)
   rw[List.drop_append,drop_eq_nil_of_le (by omega),nil_append,show p.length+(sep.length+j) - p.length=sep.length+j by omega,List.drop_append,drop_eq_nil_of_le (by omega),nil_append,show sep.length+j - sep.length=j by omega]
   refine⟨ih.1,?_⟩;simp;omega
theorem zeV{s sub:Str}{c0:Nat}{rest:List Nat}{ps:List (List Nat)}{lim:Nat}(hsub:sg sub=c0::rest)(hr:c0∉rest)(hs:sg s=jL (c0::rest) ps)(hp:∀p∈ps,c0∉p)(hl:ps.length - 1<=lim):
  PySem.Builtin.Str.occurrences s sub 0 s.length lim=cL (rest.length+1) 0 ps:=by
 have hk:sub.length=rest.length+1:=by rw[zN,hsub];rfl
 refine zgk (by omega) (fun j=>?_) ?_ (by rw[zgW];exact hl)
 ·rw[PySem.StrLaws.subAt_eq,beq_iff_eq,show s.cps.toList=jL (c0::rest) ps from hs,show sub.cps.toList=c0::rest from hsub,hk,zN,hs]
  constructor
  ·rintro⟨h1,h2⟩
   have e:((jL (c0::rest) ps).drop j)[0]?=some c0:=by
    have:=congrArg (·[0]?) h2
    simp only[List.getElem?_take] at this;simpa using this
   rw[List.getElem?_drop] at e
   have:=zjl hr 0 ps hp _ e
   simpa using this
  ·intro h
   have:=zjm (c0::rest) ps 0 j (by simpa using h)
   exact⟨this.2,this.1⟩
 ·rw[hk,zN,hs]
  have:=zjk (c0::rest) (by simp) 0 ps
  simpa using this
theorem qk(sep:List Nat):∀(ps:List (List Nat)) (pre:List Nat),ps≠[]->
  ((pre.length::(cL sep.length pre.length ps).map (·+sep.length)).zip (cL sep.length pre.length ps++[pre.length+(jL sep ps).length])).map (fun q=>((pre++jL sep ps).drop q.1).take (q.2 - q.1))=ps
 | [],_,h=>absurd rfl h
 | [p],pre,_=>by simp [cL,jL]
 | p::q::r,pre,_=>by
  have ih:=qk sep (q::r) (pre++p++sep) (by simp)
  simp only[cL,map_cons,List.cons_append,List.zip_cons_cons,map_cons,jL];have e1:(pre++p++sep).length=pre.length+p.length+sep.length:=by simp;omega
  rw[e1] at ih
  congr 1
  ·rw[drop_left,append_assoc,show pre.length+p.length - pre.length=p.length by omega,List.take_left]
  ·refine Eq.trans ?_ ih
   simp [append_assoc,Nat.add_assoc]
theorem zcu{s sub:Str}{c0:Nat}{rest:List Nat}{ys:List Str}(hsub:sg sub=c0::rest)(hr:c0∉rest)(hs:s=Txt.join sub ys)(hp:∀p∈ys,c0∉sg p)(h0:ys≠[]):
  PySem.Builtin.Str.partsBetween s (PySem.Builtin.Str.occurrences s sub 0 s.length (s.length+1)) sub.length=ys/\Txt.split s sub=ys:=by
 have hk:sub.length=rest.length+1:=by rw[zN,hsub];rfl
 have es:sg s=jL (c0::rest) (ys.map sg):=by rw[hs,jI,hsub]
 have hp':∀p∈ys.map sg,c0∉p:=fun p h=>by obtain⟨y,hy,rfl⟩:=List.mem_map.mp h;exact hp y hy
 have hle:(ys.map sg).length - 1<=s.length+1:=by
  have:∀qs:List (List Nat),qs.length - 1<=(jL (c0::rest) qs).length:=by
   intro qs;induction qs with
   | nil=>simp
   | cons q r ih=>
    cases r with
    | nil=>simp
    | cons x r=>simp [jL] at ih |-;omega
  have:=this (ys.map sg)
  rw[<- es,<- zN] at this;omega
 have eo:=zeV (lim:=s.length+1) hsub hr es hp' hle;have e1:PySem.Builtin.Str.partsBetween s (PySem.Builtin.Str.occurrences s sub 0 s.length (s.length+1)) sub.length=ys:=by
  rw[eo,hk]
  have:=qk (c0::rest) (ys.map sg) [] (by simpa using h0)
  have inj:∀{a b:List Str},a.map sg=b.map sg->a=b:=fun {a b} h=>List.map_inj_right (fun _ _=>xF) |>.mp h
  refine inj ?_;refine Eq.trans ?_ this;unfold PySem.Builtin.Str.partsBetween;simp only[map_map,length_nil,nil_append,length_cons,Nat.zero_add];rw[<- es,<- zN];refine List.map_congr_left fun q _=>?_;exact PySem.StrLaws.strSub_toList s q.1 q.2
 refine⟨e1,?_⟩;unfold Txt.split;split
 ·rename_i h
  have e:PySem.Builtin.Str.occurrences s sub 0 s.length (s.length+1)=[]:=by
   refine PySem.W.occ_nil_of_no s sub _ fun i hi=>?_;rcases Bool.or_eq_true_iff.mp h with h|h
   ·have:=of_decide_eq_true h;omega
   ·cases e:PySem.Builtin.Str.subAt s sub i
    ·rfl
    ·have:=PySem.W.kind_le s sub e;have:=of_decide_eq_true h;omega
  rw[e] at e1;rw[<- e1];simp [PySem.Builtin.Str.partsBetween,PySem.Builtin.Str.strSub,Str.length]
 ·split
  ·rename_i h
   rw[List.isEmpty_iff.mp h] at e1;rw[<- e1];simp [PySem.Builtin.Str.partsBetween,PySem.Builtin.Str.strSub,Str.length]
  ·exact e1
def xn(i:Int):Str:=Str.ofString (toString i)
theorem zca:∀m:Nat,(Nat.toDigits 10 m).head?=some '0'->m=0:=by
 intro m;induction m using Nat.strongRecOn with
 | _ m ih=>
  intro h;by_cases hm:m<10
  ·rw[Nat.toDigits_of_lt_base hm] at h
   have:∀d:Nat,d<10->Nat.digitChar d='0'->d=0:=by decide
   exact this m hm (by simpa using h)
  ·have hd:m % 10<10:=Nat.mod_lt m (by decide)
   have t:Nat.toDigits 10 (m / 10)++Nat.toDigits 10 (m % 10)=Nat.toDigits 10 (10 * (m / 10)+m % 10):=Nat.toDigits_append_toDigits (by decide) (by omega) hd
   rw[Nat.div_add_mod] at t;rw[<- t] at h;have l:=PySem.toDigits_len_ge 10 (m / 10)
   have:(Nat.toDigits 10 (m / 10)).head?=some '0':=by
    cases e:Nat.toDigits 10 (m / 10) with
    | nil=>rw[e] at l;exact absurd l (by decide)
    | cons x r=>rw[e] at h;simpa using h
   have:=ih (m / 10) (by omega) this
   omega
structure Num(i:Int)(ds:List Nat):Prop where
 dig:PySem.NumText.AllDigits ds
 l1 : 1<=ds.length
 l60:ds.length<=60
 hd:ds.head?=some 48->i=0
 txt:(0<=i/\sg (xn i)=ds)\/(i<0/\sg (xn i)=45::ds)
 read:PySem.intText? (xn i)=some i
theorem zgm(i:Int)(h:i.natAbs<10 ^ 60):Num i ((Nat.toDigits 10 i.natAbs).map Char.toNat):=by
 have dg:PySem.NumText.AllDigits ((Nat.toDigits 10 i.natAbs).map Char.toNat):=by
  intro c hc;obtain⟨ch,hch,e⟩:=List.mem_map.mp hc;rw[<- e];exact digit_range (Nat.isDigit_of_mem_toDigits (by decide) (by decide) hch)
 have l1 : 1<=((Nat.toDigits 10 i.natAbs).map Char.toNat).length:=by rw[length_map];exact PySem.toDigits_len_ge 10 _
 have l60:((Nat.toDigits 10 i.natAbs).map Char.toNat).length<=60:=by rw[length_map];exact PySem.toDigits_len_pow (by decide) (by decide) h
 have hd:((Nat.toDigits 10 i.natAbs).map Char.toNat).head?=some 48->i=0:=fun e=>by
  rw[List.head?_map] at e;cases e2:(Nat.toDigits 10 i.natAbs).head? with
  | none=>rw[e2] at e;cases e
  | some c=>
   rw[e2] at e;have ec:c='0':=by
    have:c.toNat=48:=by simpa using e
    exact Char.ext (UInt32.toNat_inj.mp this)
   rw[ec] at e2
   have:=zca _ e2
   omega
 have hn:(Nat.toDigits 10 i.natAbs).map Char.toNat≠[]:=fun e=>by rw[e] at l1;exact absurd l1 (by decide)
 have tx:(0<=i/\sg (xn i)=(Nat.toDigits 10 i.natAbs).map Char.toNat)\/(i<0/\sg (xn i)=45::(Nat.toDigits 10 i.natAbs).map Char.toNat):=by
  cases i with
  | ofNat m=>exact .inl ⟨Int.natCast_nonneg _,PySem.W.KIN.signs_num m⟩
  | negSucc m=>
   refine .inr ⟨Int.negSucc_lt_zero m,?_⟩;show(Str.ofString (toString (Int.negSucc m))).cps.toList=_;rw[signs_ofString];show("-"++Nat.repr (m+1)).toList.map Char.toNat=_;rw[String.toList_append,Nat.toList_repr];rfl
 refine⟨dg,l1,l60,hd,tx,?_⟩;rcases tx with ⟨h0,e⟩|⟨h0,e⟩
 ·have:=PySem.intText_digits (x:=xn i) (by rw[show(xn i).cps.toList=_ from e];exact dg) (by rw[show(xn i).cps.toList=_ from e];exact hn) (by rw[zN,e];omega)
  rw[this,show(xn i).cps.toList=_ from e,PySem.W.KIN.val_back]
  congr 1
  omega
 ·have:=PySem.intText_neg (x:=xn i) e dg hn (by rw[zN,e];simp at l60 |-;omega)
  rw[this,PySem.W.KIN.val_back]
  congr 1
  omega
theorem zek{x y a b:Str}(hx:x=a++b)(ha:∀c∈sg a,c∉sg y)(hb:∀c∈sg b,c∈sg y):Txt.rstripChars x y=a:=by
 have go:∀c,y.cps.contains c=decide (c∈sg y):=fun c=>by simp [sg]
 obtain⟨_,h0,h1,h2⟩:=hi_facts y.cps.contains x 0 (zero_le _);have es:sg x=sg a++sg b:=by rw[hx,xG]
 have lx:x.length=(sg a).length+(sg b).length:=by rw[zN,es,length_append]
 have gd:∀k,x.cps.getD k 0=(sg x).getD k 0:=fun k=>(getD_list x k).symm;unfold Txt.rstripChars;rw[stripBy_eq];show PySem.Builtin.Str.strSub x 0 (stripHi y.cps.contains true x 0)=a;generalize stripHi y.cps.contains true x 0=hi at h0 h1 h2;have e:hi=(sg a).length:=by
  rcases Nat.lt_trichotomy hi (sg a).length with h|h|h
  ·have:=h1 hi (le_refl _) (by omega)
   rw[gd,es,go,decide_eq_true_eq,getD_eq_getElem?_getD,List.getElem?_append_left h,getElem?_eq_getElem h] at this;exact absurd this (ha _ (getElem_mem h))
  ·exact h
  ·rcases h2 with h2|h2
   ·omega
   ·rw[gd,es,go,decide_eq_false_iff_not,getD_eq_getElem?_getD,List.getElem?_append_right (by omega),getElem?_eq_getElem (by omega)] at h2
    exact absurd (hb _ (getElem_mem (by omega))) h2
 refine xF ?_;rw[show sg (PySem.Builtin.Str.strSub x 0 hi)=_ from PySem.StrLaws.strSub_toList _ _ _,show x.cps.toList=sg a++sg b from es,e];simp
end
end L2
namespace K92
open PySem L2 PyProof.Rows
def top(i:Nat):Stmt:=PySem.Challenge.pw_callbinds_k92_refused_texts.main.body.getD i (.Pass ⟨0,0,0,0⟩)
abbrev sIs:Stmt:=top 24
abbrev zcG:Stmt:=yR (top 40) 0
abbrev zlp:Stmt:=yR (top 40) 1
abbrev qb:Stmt:=yR (top 40) 2
abbrev zaT:Stmt:=yR (top 40) 3
abbrev zcC:Stmt:=yR (top 40) 4
abbrev zfz:Stmt:=yR (top 40) 5
abbrev zfB:Stmt:=yR (top 41) 0
abbrev zfI:Stmt:=yR (top 42) 0
abbrev zfA:Stmt:=yR (top 43) 0
abbrev zjH:Stmt:=yR (top 44) 0
abbrev zj7:Stmt:=yR (top 45) 0
abbrev zcL:Stmt:=yR (top 30) 0
abbrev zfH:Stmt:=yR (top 30) 1
abbrev zcJ:Stmt:=yR (top 30) 8
abbrev zjO:Stmt:=top 46
abbrev zcE:Stmt:=top 31
abbrev zaS:Stmt:=top 32
abbrev zcF:Stmt:=top 33
abbrev zaR:Stmt:=top 34
abbrev zfE:Stmt:=top 35
abbrev zfF:Stmt:=top 2
abbrev zfy:Stmt:=yR (top 7) 0
abbrev zaQ:Stmt:=yR (top 8) 0
abbrev zjL:Stmt:=top 56
abbrev zjP:Stmt:=top 57
abbrev zjI:Stmt:=top 58
abbrev sFO:Stmt:=top 59
abbrev zjM:Stmt:=top 60
abbrev zjK:Stmt:=top 61
abbrev sWW:Stmt:=top 62
abbrev zfC:Stmt:=top 63
abbrev zjJ:Stmt:=top 64
abbrev zjN:Stmt:=top 65
abbrev zjQ:Stmt:=top 67
abbrev zjR:Stmt:=top 68
abbrev zfD:Stmt:=top 69
abbrev zcD:Stmt:=top 70
abbrev zfJ:Stmt:=top 71
abbrev zcB:Stmt:=top 72
abbrev zcH:Stmt:=top 73
abbrev zcK:Stmt:=top 74
abbrev zcI:Stmt:=top 75
abbrev zcM:Stmt:=top 76
abbrev zj6:Stmt:=top 77
abbrev zjZ:Stmt:=top 78
abbrev zjY:Stmt:=top 79
abbrev zfG:Stmt:=top 80
abbrev zj0:Stmt:=top 81
abbrev zj5:Stmt:=top 82
abbrev zjX:Stmt:=top 83
abbrev zjT:Stmt:=top 84
abbrev zj4:Stmt:=top 85
abbrev zjV:Stmt:=top 86
abbrev zjU:Stmt:=top 87
abbrev zj1:Stmt:=top 88
abbrev zjW:Stmt:=top 89
abbrev zj2:Stmt:=top 90
abbrev zj3:Stmt:=top 91
abbrev zjS:Stmt:=top 92
def low(c:Nat):Bool:=decide (97<=c)&&decide (c<=122)
def zV(z:Str):Bool:=decide (1<=z.length)&&decide (z.length<=8)&&z.cps.toList.all low
def nmV:V->Bool
 | .str z=>zV z
 | _=>false
def OkS(z:Str):Prop:=z.length<=100000
def OkV(K:Frag)(H:Hp)(x:V):Prop:=(∃z,x=.str z/\OkS z)\/(nmV x=false/\∃t,wA K H x t/\kitOne K t (.type "str")=some false)
theorem yS{z:Str}:zV z=true ↔ 1<=z.length/\z.length<=8/\∀c∈z.cps.toList,97<=c/\c<=122:=by
 unfold zV low;simp only[Bool.and_eq_true,decide_eq_true_eq,all_eq_true];constructor
 ·rintro⟨⟨a,b⟩,c⟩;exact⟨a,b,c⟩
 ·rintro⟨a,b,c⟩;exact⟨⟨a,b⟩,c⟩
theorem qr{z:Str}(h:z.length=0\/9<=z.length):zV z=false:=by
 cases e:zV z with
 | false=>rfl
 | true=>
  have:=yS.mp e
  omega
theorem zgt{z:Str}(h:zV z=true):OkS z:=by
 obtain⟨_,h2,h3⟩:=yS.mp h;show z.length<=100000;omega
def letters:Str:="abcdefghijklmnopqrstuvwxyz"
theorem qt(c:Nat):(!(Builtin.Str.occurrences letters ⟨#[c]⟩ 0 letters.length 1).isEmpty)=low c:=by
 rw[empty_one letters c,Bool.not_not];by_cases h:c<128
 ·have:∀c:Nat,c<128->decide (c∈letters.cps.toList)=low c:=by decide +kernel
  exact this c h
 ·have:∀x∈letters.cps.toList,x<128:=by decide +kernel
  rw[decide_eq_false fun z=>h (this c z)];unfold low;rw[decide_eq_false (show ¬c<=122 by omega),Bool.and_false]
theorem zk{H:Hp}{p:Addr}(h:H p=none)(o:HO):zx H (upd H p o):=fun b u q=>by rw[zv (zu q h)];exact q
theorem u5{K:Frag}{H H':Hp}{x:V}{t:Value}(s:zx H H')(h:wA K H x t):wA K H' x t:=by
 cases h with
 | non=>exact .non
 | bl b=>exact .bl b
 | int i=>exact .int i
 | str z=>exact .str z
 | flt z=>exact .flt z
 | lst e=>exact .lst (s _ _ e)
 | frz e=>exact .frz (s _ _ e)
 | tup e=>exact .tup (s _ _ e)
 | dK e=>exact .dK (s _ _ e)
 | dT e=>exact .dT (s _ _ e)
 | ins e a b c d f=>exact .ins (s _ _ e) a b c d f
theorem OkV.same{K:Frag}{H H':Hp}{x:V}(s:zx H H')(h:OkV K H x):OkV K H' x:=by
 rcases h with h|⟨h,t,ty,e⟩
 ·exact .inl h
 ·exact .inr ⟨h,t,u5 s ty,e⟩
theorem nd1:([Str.ofString "sign"]:List Str).Nodup:=by decide +kernel
def zfm(K:Frag):Sp:=fun vs H Q _=>∃x,vs=[x]/\OkV K H x/\∀H',zx H H'->Q (.bl (nmV x)) H'
structure ziI(K:Frag)(mg:Str->Option Value):Prop where
 isi:mg "isinstance"=none
 str:mg "str"=none
 bool:mg "bool"=none
 len:mg "len"=none
 all:mg "all"=none
 range:mg "range"=none
 letters:∃t,mg "LETTERS"=some (.str letters t)
 longest:∃t,mg "LONGEST"=some (.int 8 t)
 kNon:kitOne K (.type "NoneType") (.type "str")=some false
 kInt:kitOne K (.type "int") (.type "str")=some false
 kBl:kitOne K (.type "bool") (.type "str")=some false
 kLst:kitOne K (.type "list") (.type "str")=some false
 kTup:kitOne K (.type "tuple") (.type "str")=some false
 kDct:kitOne K (.type "dict") (.type "str")=some false
 kStr:kitOne K (.type "str") (.type "str")=some true
 bBl:kitOne K (.type "bool") (.type "bool")=some true
section
variable {P:Program}{w:World}{K:Frag}{mg:Str->Option Value}{base:Heap}{f:Addr}{fd:FuncData}
theorem zmy:zD ["thing"] ["thing"] (zr sIs):=fsc
theorem zlD(F:Fun K "is_name" "is_name" sIs f fd)(T:ziI K mg):zL P w K mg base CX0 1 f fd ["thing"] (zfm K):=by
 refine F.ok zmy (fun cdv A outer s H vs Q E hr h=>?_);obtain⟨x,rfl,hx,q⟩:=h;obtain⟨tL,hL⟩:=T.letters;obtain⟨tN,hN⟩:=T.longest;refine⟨_,zp (zJ (yv (xw (xI (yx (cB jw T.isi boot_isinstance (ac (pv 0) (ac (za3 (v:=.ty "str") rfl T.str PyProof.Rows.boot_str rfl) zi)))))
   (yV (xI (zbJ zdL zdL zj (cB yg T.len PySem.boot_len (ac (pv 0) zi)) (z6 (v:=.int 8) rfl hN ⟨_,rfl⟩))))))
   (zm (zB wE)) zz)
  (zm (zB (cB (zaw rfl) T.all boot_all (ac (xY [] ["sign"] [none] rfl ⟨rfl,rfl,rfl,rfl⟩ (zaY (pv 0)) (z5 0) rfl rfl rfl
   (fun pins fp s H C=>⟨zF (i:=0) nd1 rfl (Or.inl rfl) (.inr rfl),yA,xf vV (pv 0) (z6 (v:=.str letters) rfl hL ⟨_,rfl⟩) (by with_unfolding_all rfl)⟩)) zi)))),?_⟩
 rcases hx with ⟨z,rfl,hz1⟩|⟨hn,t,ty,e⟩
 ·refine⟨_,rfl,_,_,_,_,rfl,.str z,T.kStr,_,rfl,?_⟩
  refine yb ?_;refine⟨_,rfl,z,rfl,le_trans hz1 (by decide),_,_,rfl,rfl,_,rfl,?_⟩
  have no:zV z=false->Q (.bl false) H:=fun e=>by
   have:=q H (zx.refl H)
   have e':nmV (.str z)=false:=e;rw[e'] at this;exact this
  refine jf (fun c=>?_) (fun c=>?_)
  ·have c':(1:Int)<=(z.length:Int):=of_decide_eq_true c
   refine⟨_,_,rfl,rfl,_,rfl,?_⟩;by_cases h8:(z.length:Int)<=8
   ·rw[decide_eq_true h8]
    refine yb ?_;refine⟨_,rfl,z,rfl,fun D hD=>?_⟩;refine⟨fun i m ys H'=>i<=z.cps.size/\m=z.cps.size - i/\ys=(z.cps.toList.take i).map (fun c=>V.bl (low c))/\H'=upd H D (.lst ys),⟨_,zero_le _,rfl,rfl,rfl⟩,?_⟩;rintro i m ys H' ⟨hi,rfl,rfl,rfl⟩;by_cases he:i=z.cps.size
    ·subst he
     refine .inl ⟨le_refl _,?_⟩;refine⟨D,z.cps.toList.map low,rfl,zq ?_,?_⟩
     ·rw[zc,take_of_length_le (by simp),map_map]
      rfl
     ·have e:(z.cps.toList.map low).all id=nmV (.str z):=by
       show _=zV z;unfold zV;rw[decide_eq_true (show 1<=z.length by omega),decide_eq_true (show z.length<=8 by omega),all_map]
       rfl
      rw[e];exact q _ (zk hD _)
    ·refine .inr ⟨by show i<z.cps.size;omega,?_⟩
     rintro x H' ⟨rfl,c,hc,rfl⟩;refine⟨fun _=>?_,fun e=>Bool.noConfusion e⟩;refine⟨_,rfl,_,_,rfl,rfl,zc,?_,z.cps.size - (i+1),by omega,by omega,rfl,?_,?_⟩
     ·rw[length_map,length_take]
      have:z.cps.size<=1000:=by have:(z.cps.size:Int)<=8:=h8;omega
      exact yu (by omega)
     ·have hc':z.cps.toList[i]?=some c:=by simpa using hc
      have hlow:=qt c;rw[hlow,take_add_one,hc',map_append];rfl
     ·rw[xZ]
   ·rw[decide_eq_false h8]
    refine yp ?_;exact no (qr (.inr (by omega)))
  ·have c':¬(1:Int)<=(z.length:Int):=of_decide_eq_false (Bool.eq_false_iff.mpr c)
   refine⟨_,rfl,?_⟩;exact yp (no (qr (.inl (by omega))))
 ·refine⟨_,rfl,_,_,_,_,rfl,ty,e,_,rfl,?_⟩
  refine yp ?_;refine yp ?_
  have:=q H (zx.refl H)
  rw[hn] at this;exact this
theorem dT{A B:Prop}{c:Prop}[Decidable c](h:c)(a:A):if decide c=true then A else B:=by rw[decide_eq_true h];exact yp a
theorem dF{A B:Prop}{c:Prop}[Decidable c](h:¬c)(b:B):if decide c=true then A else B:=by rw[decide_eq_false h];exact yb b
def kw:Nat->Str
 | 0=>"seat"|1=>"both"|2=>"tail"|3=>"tag"|_=>"bag"
def zhv(k:Nat)(x:V)(b:Bool):List V:=match k with
 | 0=>[.str "seat",x,.bl b]|1=>[.str "both",x,.bl b]|2=>[.str "tail",x]|3=>[.str "tag",x,.bl b]|_=>[.str "bag",x]
def fr(k:Nat)(b:Bool):Bool:=match k with
 | 0=>b|1=>b|2=>true|3=>b|_=>true
theorem lt5{k:Nat}(h:k<5):k=0\/k=1\/k=2\/k=3\/k=4:=by omega
def pf(wd:Str)(x:V)(b:Bool):List (Str×V):=yl "may_lack" (.bl b) (yl "name" x (yl "word" (.str wd) []))
theorem xz{wd:Str}{x:V}{b:Bool}:(pf wd x b).lookup ("word" : Str)=some (.str wd):=by
 unfold pf;rw[zy,if_neg (by decide +kernel),zy,if_neg (by decide +kernel),zy,if_pos rfl]
theorem vi{wd:Str}{x:V}{b:Bool}:(pf wd x b).lookup ("name" : Str)=some x:=by
 unfold pf;rw[zy,if_neg (by decide +kernel),zy,if_pos rfl]
theorem za0{wd:Str}{x:V}{b:Bool}:(pf wd x b).lookup ("may_lack" : Str)=some (.bl b):=by
 unfold pf;rw[zy,if_pos rfl]
theorem zbK{wd:Str}{x:V}{b:Bool}{m:Str}(h1:¬m="may_lack")(h2:¬m="name")(h3:¬m="word"):(pf wd x b).lookup m=none:=by
 unfold pf;rw[zy,if_neg h1,zy,if_neg h2,zy,if_neg h3];rfl
structure MA where
 (fF fP fB fT fO:Addr)
structure PC(K:Frag)(m:MA)(C:Addr):Prop where
 cl:Cls K C
 nW:yZ K C "word"
 nN:yZ K C "name"
 nM:yZ K C "may_lack"
 mF:vw K C "free" m.fF
 mP:vw K C "by_place" m.fP
 mB:vw K C "by_name" m.fB
 mT:vw K C "takes_one" m.fT
 mO:vw K C "told" m.fO
def spP(K:Frag)(m:MA):Sp:=fun vs H Q _=>∃(p dx C:Addr) (wd:Str) (x:V) (b:Bool),vs=[.ref p,.str wd,x,.bl b]/\H p=some (.ins C dx [])/\PC K m C/\OkV K H x/\nmV x=true/\∀H1,zx H H1->Q .non (upd H1 p (.ins C dx (pf wd x b)))
def spS(K:Frag)(C:Addr)(wd:Str):Sp:=fun vs H Q _=>∃(p dx:Addr) (x:V) (b:Bool),vs=[.ref p,x,.bl b]/\H p=some (.ins C dx [])/\OkV K H x/\nmV x=true/\∀H1,zx H H1->Q .non (upd H1 p (.ins C dx (pf wd x b)))
def spT(K:Frag)(C:Addr)(wd:Str):Sp:=fun vs H Q _=>∃(p dx:Addr) (x:V),vs=[.ref p,x]/\H p=some (.ins C dx [])/\OkV K H x/\nmV x=true/\∀H1,zx H H1->Q .non (upd H1 p (.ins C dx (pf wd x true)))
def bpL:List V:=[.str "seat",.str "both"]
def bnL:List V:=[.str "both",.str "tag"]
def otL:List V:=[.str "seat",.str "both",.str "tag"]
def qN(K:Frag)(m:MA)(l:List V):Sp:=fun vs H Q _=>∃(p dx C:Addr) (wd:Str) (x:V) (b:Bool),vs=[.ref p]/\PC K m C/\H p=some (.ins C dx (pf wd x b))/\Q (.bl (inV (.str wd) l)) H
def zcv(K:Frag)(m:MA):Sp:=fun vs H Q _=>∃(p dx C:Addr) (k:Nat) (x:V) (b:Bool),vs=[.ref p]/\k<5/\PC K m C/\H p=some (.ins C dx (pf (kw k) x (fr k b)))/\∀(r:Addr) (H':Hp),zx H H'->H' r=some (.tup (zhv k x b))->Q (.ref r) H'
structure Wds(K:Frag)(mg:Str->Option Value)(tP tB tO:Addr):Prop where
 mP:mg "BY_PLACE"=some (.ref tP)
 mB:mg "BY_NAME"=some (.ref tB)
 mO:mg "OF_ONE_THING"=some (.ref tO)
 hP:∀H,SqT K H tP bpL
 hB:∀H,SqT K H tB bnL
 hO:∀H,SqT K H tO otL
variable {C tP tB tO:Addr}{m:MA}
theorem zho:zD ["self","word","name","may_lack"] ["self","word","name","may_lack"] (zr zcG):=fsc
theorem zgd{g:Addr}{gd:FuncData}(F:Fun K "__init__" "Parameter.__init__" zcG f fd)(cI:z8 P w K mg base 1 "is_name" g gd ["thing"] (zfm K)):
  zL P w K mg base CX0 2 f fd ["self","word","name","may_lack"] (spP K m):=by
 refine F.ok zho (fun cdv A outer s H vs Q E hr h=>?_);obtain⟨p,dx,C,wd,x,b,rfl,hp,c,hx,q1,q2⟩:=h;refine⟨_,zp (zJ (xI (yx (cF cI hr (ac (pv 2) zi)))) (zm zhE) zz)
  (zp (vh (pv 0) (pv 1) rfl) (zp (vh (pv 0) (pv 2) rfl) (zm (vh (pv 0) (pv 3) rfl)))),?_⟩
 refine⟨_,rfl,x,rfl,hx,fun H1 s1=>⟨_,rfl,?_⟩⟩;rw[q1];refine yb ?_;refine⟨_,rfl,_,rfl,p,C,dx,[],rfl,s1 _ _ hp,c.cl,c.nW,(by show 0<1000;decide),?_⟩
 refine⟨_,rfl,_,rfl,p,C,dx,_,rfl,zc,c.cl,c.nN,(by show 1<1000;decide),?_⟩
 refine⟨_,rfl,_,rfl,p,C,dx,_,rfl,zc,c.cl,c.nM,(by show 2<1000;decide),?_⟩
 rw[xZ,xZ];exact q2 _ s1
theorem zjD:zD ["self","name","free"] ["self","name","free"] (zr zfB):=fsc
theorem zhS{g D:Addr}{gd:FuncData}{ds:List Value}(F:jH K "__init__" "Seat.__init__" zfB f fd ds)(c:PC K m C)(B:qM K D "__init__" g)(mD:mg "Parameter"=some (.ref D))(G:zL P w K mg base CX0 2 g gd ["self","word","name","may_lack"] (spP K m))(bg:yt K gd ["self","word","name","may_lack"] []):
  zL P w K mg base CX0 3 f fd ["self","name","free"] (spS K C "seat"):=by
 refine F.ok zjD (fun vs H Q E h=>?_) (fun cdv A outer s H vs Q E hr h=>?_)
 ·obtain⟨p,dx,x,b,rfl,_⟩:=h
  rfl
 obtain⟨p,dx,x,b,rfl,hp,hx,q1,q2⟩:=h;refine⟨_,zm (zW (zbM B mD G hr bg xx (ac (pv 0) (ac zo (ac (pv 1) (ac (pv 2) zi)))))),?_⟩;exact⟨_,rfl,_,rfl,_,rfl,p,dx,C,_,x,b,rfl,hp,c,hx,q1,q2⟩
theorem zjG:zD ["self","name","free"] ["self","name","free"] (zr zfI):=fsc
theorem zh0{g D:Addr}{gd:FuncData}{ds:List Value}(F:jH K "__init__" "Both.__init__" zfI f fd ds)(c:PC K m C)(B:qM K D "__init__" g)(mD:mg "Parameter"=some (.ref D))(G:zL P w K mg base CX0 2 g gd ["self","word","name","may_lack"] (spP K m))(bg:yt K gd ["self","word","name","may_lack"] []):
  zL P w K mg base CX0 3 f fd ["self","name","free"] (spS K C "both"):=by
 refine F.ok zjG (fun vs H Q E h=>?_) (fun cdv A outer s H vs Q E hr h=>?_)
 ·obtain⟨p,dx,x,b,rfl,_⟩:=h
  rfl
 obtain⟨p,dx,x,b,rfl,hp,hx,q1,q2⟩:=h;refine⟨_,zm (zW (zbM B mD G hr bg xx (ac (pv 0) (ac zo (ac (pv 1) (ac (pv 2) zi)))))),?_⟩;exact⟨_,rfl,_,rfl,_,rfl,p,dx,C,_,x,b,rfl,hp,c,hx,q1,q2⟩
theorem zlh:zD ["self","name","free"] ["self","name","free"] (zr zjH):=fsc
theorem zkk{g D:Addr}{gd:FuncData}{ds:List Value}(F:jH K "__init__" "Tag.__init__" zjH f fd ds)(c:PC K m C)(B:qM K D "__init__" g)(mD:mg "Parameter"=some (.ref D))(G:zL P w K mg base CX0 2 g gd ["self","word","name","may_lack"] (spP K m))(bg:yt K gd ["self","word","name","may_lack"] []):
  zL P w K mg base CX0 3 f fd ["self","name","free"] (spS K C "tag"):=by
 refine F.ok zlh (fun vs H Q E h=>?_) (fun cdv A outer s H vs Q E hr h=>?_)
 ·obtain⟨p,dx,x,b,rfl,_⟩:=h
  rfl
 obtain⟨p,dx,x,b,rfl,hp,hx,q1,q2⟩:=h;refine⟨_,zm (zW (zbM B mD G hr bg xx (ac (pv 0) (ac zo (ac (pv 1) (ac (pv 2) zi)))))),?_⟩;exact⟨_,rfl,_,rfl,_,rfl,p,dx,C,_,x,b,rfl,hp,c,hx,q1,q2⟩
theorem zjC:zD ["self","name"] ["self","name"] (zr zfA):=fsc
theorem zhR{g D:Addr}{gd:FuncData}(F:Fun K "__init__" "Tail.__init__" zfA f fd)(c:PC K m C)(B:qM K D "__init__" g)(mD:mg "Parameter"=some (.ref D))(G:zL P w K mg base CX0 2 g gd ["self","word","name","may_lack"] (spP K m))(bg:yt K gd ["self","word","name","may_lack"] []):
  zL P w K mg base CX0 3 f fd ["self","name"] (spT K C "tail"):=by
 refine F.ok zjC (fun cdv A outer s H vs Q E hr h=>?_);obtain⟨p,dx,x,rfl,hp,hx,q1,q2⟩:=h;refine⟨_,zm (zW (zbM B mD G hr bg xx (ac (pv 0) (ac zo (ac (pv 1) (ac wE zi)))))),?_⟩;exact⟨_,rfl,_,rfl,p,dx,C,_,x,true,rfl,hp,c,hx,q1,q2⟩
theorem zln:zD ["self","name"] ["self","name"] (zr zj7):=fsc
theorem zkF{g D:Addr}{gd:FuncData}(F:Fun K "__init__" "Bag.__init__" zj7 f fd)(c:PC K m C)(B:qM K D "__init__" g)(mD:mg "Parameter"=some (.ref D))(G:zL P w K mg base CX0 2 g gd ["self","word","name","may_lack"] (spP K m))(bg:yt K gd ["self","word","name","may_lack"] []):
  zL P w K mg base CX0 3 f fd ["self","name"] (spT K C "bag"):=by
 refine F.ok zln (fun cdv A outer s H vs Q E hr h=>?_);obtain⟨p,dx,x,rfl,hp,hx,q1,q2⟩:=h;refine⟨_,zm (zW (zbM B mD G hr bg xx (ac (pv 0) (ac zo (ac (pv 1) (ac wE zi)))))),?_⟩;exact⟨_,rfl,_,rfl,p,dx,C,_,x,true,rfl,hp,c,hx,q1,q2⟩
theorem zei:zD ["self"] ["self"] (zr qb):=fsc
theorem zbP(F:Fun K "by_place" "Parameter.by_place" qb f fd)(Wd:Wds K mg tP tB tO):zL P w K mg base CX0 1 f fd ["self"] (qN K m bpL):=by
 refine F.ok zei (fun cdv A outer s H vs Q E hr h=>?_);obtain⟨p,dx,C,wd,x,b,rfl,c,hp,q⟩:=h;refine⟨_,zm (zB (xf yF (xi (pv 0) rfl) (z6 (v:=.ref tP) rfl Wd.mP rfl) (by with_unfolding_all rfl))),?_⟩
 exact⟨_,rfl,p,C,dx,_,_,rfl,hp,c.cl,c.nW,xz,tP,bpL,rfl,.inr (Wd.hP H),rfl,(by decide),q⟩
theorem zfx:zD ["self"] ["self"] (zr zaT):=fsc
theorem zcV(F:Fun K "by_name" "Parameter.by_name" zaT f fd)(Wd:Wds K mg tP tB tO):zL P w K mg base CX0 1 f fd ["self"] (qN K m bnL):=by
 refine F.ok zfx (fun cdv A outer s H vs Q E hr h=>?_);obtain⟨p,dx,C,wd,x,b,rfl,c,hp,q⟩:=h;refine⟨_,zm (zB (xf yF (xi (pv 0) rfl) (z6 (v:=.ref tB) rfl Wd.mB rfl) (by with_unfolding_all rfl))),?_⟩
 exact⟨_,rfl,p,C,dx,_,_,rfl,hp,c.cl,c.nW,xz,tB,bnL,rfl,.inr (Wd.hB H),rfl,(by decide),q⟩
theorem zhm:zD ["self"] ["self"] (zr zcC):=fsc
theorem za4(F:Fun K "takes_one" "Parameter.takes_one" zcC f fd)(Wd:Wds K mg tP tB tO):zL P w K mg base CX0 1 f fd ["self"] (qN K m otL):=by
 refine F.ok zhm (fun cdv A outer s H vs Q E hr h=>?_);obtain⟨p,dx,C,wd,x,b,rfl,c,hp,q⟩:=h;refine⟨_,zm (zB (xf yF (xi (pv 0) rfl) (z6 (v:=.ref tO) rfl Wd.mO rfl) (by with_unfolding_all rfl))),?_⟩
 exact⟨_,rfl,p,C,dx,_,_,rfl,hp,c.cl,c.nW,xz,tO,otL,rfl,.inr (Wd.hO H),rfl,(by decide),q⟩
theorem zjB:zD ["self"] ["self"] (zr zfz):=fsc
theorem zhQ{gd:FuncData}(F:Fun K "told" "Parameter.told" zfz f fd)(G:zL P w K mg base CX0 1 m.fT gd ["self"] (qN K m otL))(bg:yt K gd ["self"] []):zL P w K mg base CX0 2 f fd ["self"] (zcv K m):=by
 refine F.ok zjB (fun cdv A outer s H vs Q E hr h=>?_);obtain⟨p,dx,C,k,x,b,rfl,hk,c,hp,q⟩:=h;have nt:(pf (kw k) x (fr k b)).lookup ("takes_one" : Str)=none:=zbK (by decide +kernel) (by decide +kernel) (by decide +kernel)
 refine⟨_,zp (zJ (yx (zf2 (pv 0) c.cl c.mT G hr bg .nil xx)) (zm (zB (zM (ac (xi (pv 0) rfl) (ac (xi (pv 0) rfl) (ac (xi (pv 0) rfl) zi)))))) zz)
  (zm (zB (zM (ac (xi (pv 0) rfl) (ac (xi (pv 0) rfl) zi))))),?_⟩
 refine⟨_,rfl,p,dx,_,rfl,hp,nt,p,dx,C,kw k,x,fr k b,rfl,c,hp,_,rfl,?_⟩;have fW:∃b',pf (kw k) x (fr k b)=pf (kw k) x b':=⟨_,rfl⟩;rcases lt5 hk with rfl|rfl|rfl|rfl|rfl
 ·refine yp ?_
  exact⟨_,rfl,p,C,dx,_,_,rfl,hp,c.cl,c.nW,xz,_,rfl,p,C,dx,_,_,rfl,hp,c.cl,c.nN,vi,_,rfl,p,C,dx,_,_,rfl,hp,c.cl,c.nM,za0,zbu,fun r hr=>q r _ (zk hr _) zc⟩
 ·refine yp ?_
  exact⟨_,rfl,p,C,dx,_,_,rfl,hp,c.cl,c.nW,xz,_,rfl,p,C,dx,_,_,rfl,hp,c.cl,c.nN,vi,_,rfl,p,C,dx,_,_,rfl,hp,c.cl,c.nM,za0,zbu,fun r hr=>q r _ (zk hr _) zc⟩
 ·refine yb ?_
  exact⟨_,rfl,p,C,dx,_,_,rfl,hp,c.cl,c.nW,xz,_,rfl,p,C,dx,_,_,rfl,hp,c.cl,c.nN,vi,y7,fun r hr=>q r _ (zk hr _) zc⟩
 ·refine yp ?_
  exact⟨_,rfl,p,C,dx,_,_,rfl,hp,c.cl,c.nW,xz,_,rfl,p,C,dx,_,_,rfl,hp,c.cl,c.nN,vi,_,rfl,p,C,dx,_,_,rfl,hp,c.cl,c.nM,za0,zbu,fun r hr=>q r _ (zk hr _) zc⟩
 ·refine yb ?_
  exact⟨_,rfl,p,C,dx,_,_,rfl,hp,c.cl,c.nW,xz,_,rfl,p,C,dx,_,_,rfl,hp,c.cl,c.nN,vi,y7,fun r hr=>q r _ (zk hr _) zc⟩
structure C5 where
 (c0 c1 c2 c3 c4:Addr)
def C5.at(c:C5):Nat->Addr
 | 0=>c.c0|1=>c.c1|2=>c.c2|3=>c.c3|_=>c.c4
structure zjo(P:Program)(w:World)(K:Frag)(mg:Str->Option Value)(base:Heap)(c:C5)(i0 i1 i2 i3 i4:Addr)(d0 d1 d2 d3 d4:FuncData):Prop where
 k0:ze2 P w K mg base CX0 3 "Seat" c.c0 i0 d0 ["self","name","free"] [] (spS K c.c0 "seat")
 k1:ze2 P w K mg base CX0 3 "Both" c.c1 i1 d1 ["self","name","free"] [] (spS K c.c1 "both")
 k2:ze2 P w K mg base CX0 3 "Tail" c.c2 i2 d2 ["self","name"] [] (spT K c.c2 "tail")
 k3:ze2 P w K mg base CX0 3 "Tag" c.c3 i3 d3 ["self","name","free"] [] (spS K c.c3 "tag")
 k4:ze2 P w K mg base CX0 3 "Bag" c.c4 i4 d4 ["self","name"] [] (spT K c.c4 "bag")
def Res(c:C5)(H:Hp)(k:Nat)(x:V)(b:Bool)(Q:VK):Prop:=
 nmV x=true/\∀(o dx:Addr) (H':Hp),zx H H'->H' o=some (.ins (c.at k) dx (pf (kw k) x (fr k b)))->Q (.ref o) H'
def zfg(K:Frag)(c:C5):Sp:=fun vs H Q _=>∃(p:Addr) (k:Nat) (x:V) (b:Bool),vs=[.ref p]/\k<5/\H p=some (.tup (zhv k x b))/\OkV K H x/\Res c H k x b Q
theorem zmR:¬(V.str "both"=V.str "seat"):=by decide +kernel
theorem zmQ:¬(V.str "tail"=V.str "seat"):=by decide +kernel
theorem zmP:¬(V.str "tail"=V.str "both"):=by decide +kernel
theorem zmO:¬(V.str "tag"=V.str "seat"):=by decide +kernel
theorem zmN:¬(V.str "tag"=V.str "both"):=by decide +kernel
theorem zmM:¬(V.str "tag"=V.str "tail"):=by decide +kernel
theorem zmK:¬(V.str "bag"=V.str "seat"):=by decide +kernel
theorem zmJ:¬(V.str "bag"=V.str "both"):=by decide +kernel
theorem zmI:¬(V.str "bag"=V.str "tail"):=by decide +kernel
theorem zmH:¬(V.str "bag"=V.str "tag"):=by decide +kernel
variable {i0 i1 i2 i3 i4:Addr}{d0 d1 d2 d3 d4:FuncData}{c:C5}
theorem zmX{x:V}{k:Nat}{b:Bool}(h:k<5):atI (zhv k x b) 0=some (.str (kw k)):=by rcases lt5 h with rfl|rfl|rfl|rfl|rfl <;> rfl
theorem zi7:zD ["told","word"] ["told"] (zr zjO):=fsc
theorem zkm(F:Fun K "parameter_of" "parameter_of" zjO f fd)(U:zjo P w K mg base c i0 i1 i2 i3 i4 d0 d1 d2 d3 d4):zL P w K mg base CX0 5 f fd ["told"] (zfg K c):=by
 refine F.ok zi7 (fun cdv A outer s H vs Q E hr h=>?_);obtain⟨p,k,x,b,rfl,hk,hp,hx,r1,r2⟩:=h;refine⟨_,zp (zC (i:=1) zi7.nd rfl (Or.inl rfl) (zK ya (pv 0) zj (fun _ _=>rfl)))
  (zp (zJ (zw yi (pv 1) zo (zE _)) (zm (zB (cMk U.k0 .nil xx hr (ac (zK ya (pv 0) zj (fun _ _=>rfl)) (ac (zK ya (pv 0) zj (fun _ _=>rfl)) zi))))) zz)
  (zp (zJ (zw yi (pv 1) zo (zE _)) (zm (zB (cMk U.k1 .nil xx hr (ac (zK ya (pv 0) zj (fun _ _=>rfl)) (ac (zK ya (pv 0) zj (fun _ _=>rfl)) zi))))) zz)
  (zp (zJ (zw yi (pv 1) zo (zE _)) (zm (zB (cMk U.k2 .nil xx hr (ac (zK ya (pv 0) zj (fun _ _=>rfl)) zi)))) zz)
  (zp (zJ (zw yi (pv 1) zo (zE _)) (zm (zB (cMk U.k3 .nil xx hr (ac (zK ya (pv 0) zj (fun _ _=>rfl)) (ac (zK ya (pv 0) zj (fun _ _=>rfl)) zi))))) zz)
  (zm (zB (cMk U.k4 .nil xx hr (ac (zK ya (pv 0) zj (fun _ _=>rfl)) zi)))))))),?_⟩
 refine⟨_,rfl,p,_,_,.str (kw k),rfl,rfl,zI hp,zmX hk,?_⟩;rcases lt5 hk with rfl|rfl|rfl|rfl|rfl
 ·have hS:SqT K H p _:=zI hp
  refine⟨_,rfl,rfl,_,rfl,?_⟩;refine dT rfl ?_;exact⟨_,rfl,p,_,_,x,rfl,rfl,hS,rfl,_,rfl,p,_,_,.bl b,rfl,rfl,hS,rfl,fun o dx ho hdx ne=>⟨o,dx,x,b,rfl,zc,hx.same (xt ho hdx),r1,fun H1 s1=>⟨rfl,r2 o dx _ (wk ho hdx s1) zc⟩⟩⟩
 ·have hS:SqT K H p _:=zI hp
  refine⟨_,rfl,rfl,_,rfl,?_⟩;refine dF zmR ?_;refine⟨_,rfl,rfl,_,rfl,?_⟩;refine dT rfl ?_;exact⟨_,rfl,p,_,_,x,rfl,rfl,hS,rfl,_,rfl,p,_,_,.bl b,rfl,rfl,hS,rfl,fun o dx ho hdx ne=>⟨o,dx,x,b,rfl,zc,hx.same (xt ho hdx),r1,fun H1 s1=>⟨rfl,r2 o dx _ (wk ho hdx s1) zc⟩⟩⟩
 ·have hS:SqT K H p _:=zI hp
  refine⟨_,rfl,rfl,_,rfl,?_⟩;refine dF zmQ ?_;refine⟨_,rfl,rfl,_,rfl,?_⟩;refine dF zmP ?_;refine⟨_,rfl,rfl,_,rfl,?_⟩;refine dT rfl ?_;exact⟨_,rfl,p,_,_,x,rfl,rfl,hS,rfl,fun o dx ho hdx ne=>⟨o,dx,x,rfl,zc,hx.same (xt ho hdx),r1,fun H1 s1=>⟨rfl,r2 o dx _ (wk ho hdx s1) zc⟩⟩⟩
 ·have hS:SqT K H p _:=zI hp
  refine⟨_,rfl,rfl,_,rfl,?_⟩;refine dF zmO ?_;refine⟨_,rfl,rfl,_,rfl,?_⟩;refine dF zmN ?_;refine⟨_,rfl,rfl,_,rfl,?_⟩;refine dF zmM ?_;refine⟨_,rfl,rfl,_,rfl,?_⟩;refine dT rfl ?_;exact⟨_,rfl,p,_,_,x,rfl,rfl,hS,rfl,_,rfl,p,_,_,.bl b,rfl,rfl,hS,rfl,fun o dx ho hdx ne=>⟨o,dx,x,b,rfl,zc,hx.same (xt ho hdx),r1,fun H1 s1=>⟨rfl,r2 o dx _ (wk ho hdx s1) zc⟩⟩⟩
 ·have hS:SqT K H p _:=zI hp
  refine⟨_,rfl,rfl,_,rfl,?_⟩;refine dF zmK ?_;refine⟨_,rfl,rfl,_,rfl,?_⟩;refine dF zmJ ?_;refine⟨_,rfl,rfl,_,rfl,?_⟩;refine dF zmI ?_;refine⟨_,rfl,rfl,_,rfl,?_⟩;refine dF zmH ?_;exact⟨_,rfl,p,_,_,x,rfl,rfl,hS,rfl,fun o dx ho hdx ne=>⟨o,dx,x,rfl,zc,hx.same (xt ho hdx),r1,fun H1 s1=>⟨rfl,r2 o dx _ (wk ho hdx s1) zc⟩⟩⟩
end
end K92
namespace L2
open PySem PySem.Spec PyProof.Rows
def dcN(n i:Nat)(D:Addr)(Pv:Nat->List (Key×V)->Hp->Prop)(ys:List (Key×V))(y:V):VK:=fun v H5=>∃k,y=kV k/\H5 D=some (.dK ys)/\ys.length<sizeLine/\∃m',m'<n - i/\m'=n - (i+1)/\i+1<=n/\Pv (i+1) (xH ys k v) (upd H5 D (.dK (xH ys k v)))
def dcS(n i:Nat)(Pv:Nat->List (Key×V)->Hp->Prop)(ys:List (Key×V))(H4:Hp):Prop:=∃m',m'<n - i/\m'=n - (i+1)/\i+1<=n/\Pv (i+1) ys H4
theorem dcN.mk{n i:Nat}{D:Addr}{Pv:Nat->List (Key×V)->Hp->Prop}{ys:List (Key×V)}{y v:V}{H5:Hp}(k:Key)(hi:i<n)(ek:y=kV k)(hn:n<=sizeLine)(hD:H5 D=some (.dK ys))(hy:ys.length<=i)(p:Pv (i+1) (xH ys k v) (upd H5 D (.dK (xH ys k v)))):dcN n i D Pv ys y v H5:=
 ⟨k,ek,hD,by omega,n - (i+1),by omega,rfl,hi,p⟩
theorem dcS.mk{n i:Nat}{Pv:Nat->List (Key×V)->Hp->Prop}{ys:List (Key×V)}{H4:Hp}(hi:i<n)(p:Pv (i+1) ys H4):dcS n i Pv ys H4:=⟨n - (i+1),by omega,rfl,hi,p⟩
theorem zix{K:Frag}{a:Addr}{xs:List V}{caps:List (Option Nat)}{g:TG}{tt:TT}{tk tv:TE}{σ : St}{H1:Hp}{Q:VK}{D:Addr}(Pv:Nat->List (Key×V)->Hp->Prop)(h0:Pv 0 [] (upd H1 D (.dK [])))
  (hl:∀i ys H,Pv i ys H->SqL K H a xs)
  (hs:∀i x p ys H,i<xs.length->xs[i]?=some x->Pv i ys H->H p=none->g (.ref p) (xk caps σ) (upd H p (.tup [.int i,x])) fun σ2 H2=>tt σ2 H2 fun ok H3=>(ok=true->tk σ2 H3 fun y H4=>tv σ2 H4 (dcN xs.length i D Pv ys y))/\(ok=false->dcS xs.length i Pv ys H3))
  (hd:∀ys H,Pv xs.length ys H->Q (.ref D) H):DCr (Ite K a) caps g tt tk tv σ H1 Q D:=by
 refine⟨fun i m ys H=>m=xs.length - i/\i<=xs.length/\Pv i ys H,⟨xs.length,by simp,zero_le _,h0⟩,?_⟩
 rintro i m ys H ⟨rfl,hi,p⟩;have q:=hl i ys H p;by_cases hlt:i<xs.length
 ·refine .inr ⟨⟨xs,xs[i],q,by simp [hlt]⟩,fun x H' y=>?_⟩
  obtain⟨pp,y,rfl,hp,y2,rfl⟩:=y;exact hs i y pp ys H hlt (y2 xs q) p hp
 ·have e:i=xs.length:=by omega
  subst e;exact .inl ⟨⟨xs,q,le_refl _⟩,hd ys H p⟩
end L2
namespace K92
open PySem L2 PyProof.Rows
structure Rw where
 (k:Nat) (z:Str) (b:Bool)
def Rw.ok(r:Rw):Prop:=r.k<5/\zV r.z=true
abbrev rv(r:Rw):List V:=zhv r.k (.str r.z) r.b
abbrev pr(r:Rw):List (Str×V):=pf (kw r.k) (.str r.z) (fr r.k r.b)
def PAt(c:C5)(H:Hp)(p:Addr)(r:Rw):Prop:=∃dx,H p=some (.ins (c.at r.k) dx (pr r))
def ziz(k:Nat):Bool:=k==0||k==1
def ug(k:Nat):Bool:=k==1||k==3
theorem zlV:∀k:Nat,k<5->inV (.str (kw k)) bpL=ziz k:=by decide +kernel
theorem zdT:∀k:Nat,k<5->inV (.str (kw k)) bnL=ug k:=by decide +kernel
def grp:Nat->Nat
 | 0=>0|1=>0|2=>1|3=>2|_=>3
def uX(l g:Nat):Bool:=decide (g<l)||(g==l&&(g==1||g==3))
def nms(rows:List Rw):List Str:=(rows.filter fun r=>ug r.k).map (·.z)
def yz(kk:Nat):Nat->List Rw->Option Nat
 | _,[]=>none
 | i,r::rs=>if r.k=kk then some i else yz kk (i+1) rs
def wV:Option Nat->V
 | none=>.non
 | some i=>.int i
def wM:Nat->List (Key×V)->List Rw->List (Key×V)
 | _,acc,[]=>acc
 | i,acc,r::rs=>wM (i+1) (if ug r.k=true then xH acc (.inr r.z) (.int i) else acc) rs
def plN(rows:List Rw):Nat:=(rows.filter fun r=>ziz r.k).length
def zgY:List Str:=["row","bar_names","place_count","tail_number","bag_number","doors"]
structure FF(fs:List (Str×V))(lr lb ld:Addr)(rows:List Rw):Prop where
 row:fs.lookup ("row" : Str)=some (.ref lr)
 bn:fs.lookup ("bar_names" : Str)=some (.ref lb)
 pc:fs.lookup ("place_count" : Str)=some (.int (plN rows))
 tn:fs.lookup ("tail_number" : Str)=some (wV (yz 2 0 rows))
 bg:fs.lookup ("bag_number" : Str)=some (wV (yz 4 0 rows))
 dr:fs.lookup ("doors" : Str)=some (.ref ld)
 no:∀m,m∉zgY->fs.lookup m=none
def zg4(c:C5)(CF:Addr)(H:Hp)(f:Addr)(rows:List Rw)(bars:List Str):Prop:=
 ∃dx fs lr lb ld ps,H f=some (.ins CF dx fs)/\FF fs lr lb ld rows/\H lr=some (.lst (ps.map V.ref))/\Paired (PAt c H) ps rows/\H lb=some (.lst (bars.map V.str))/\H ld=some (.dK (wM 0 [] rows))
section
variable {c:C5}{CF f p:Addr}{H H':Hp}{rows:List Rw}{bars:List Str}{r:Rw}{ps:List Addr}
theorem PAt.same(h:PAt c H p r)(s:zx H H'):PAt c H' p r:=h.imp fun _=>s _ _
theorem vU(s:zx H H')(h:Paired (PAt c H) ps rows):Paired (PAt c H') ps rows:=zH (fun _ _ z=>z.same s) h
def zcr(c:C5)(CF:Addr)(H H':Hp)(f:Addr)(rows:List Rw)(bars:List Str):Prop:=
 ∃dx fs lr lb ld ps,H' f=some (.ins CF dx fs)/\FF fs lr lb ld rows/\H' lr=some (.lst (ps.map V.ref))/\Paired (PAt c H') ps rows/\H' lb=some (.lst (bars.map V.str))/\H' ld=some (.dK (wM 0 [] rows))/\H lr=none/\H lb=none
theorem zcr.of{H0:Hp}(h:zcr c CF H H' f rows bars)(s:zx H0 H):zcr c CF H0 H' f rows bars:=by
 obtain⟨dx,fs,lr,lb,ld,ps,h1,h2,h3,h4,h5,h6,h7,h8⟩:=h;exact⟨dx,fs,lr,lb,ld,ps,h1,h2,h3,h4,h5,h6,s.free h7,s.free h8⟩
theorem xy{α β : Type}{R : α->β->Prop}{xs:List α}{ys:List β}(h:Paired R xs ys):∀{i:Nat}{x : α},xs[i]?=some x->∃y,ys[i]?=some y/\R x y:=by
 induction h with
 | nil=>intro i x e;simp at e
 | cons r t ih=>
  intro i x e;cases i with
  | zero=>exact⟨_,rfl,by simp at e;exact e ▸ r⟩
  | succ i=>simpa using ih (by simpa using e)
def zij(x:Str):Option V:=([(("seat" : Str),V.int 0),("both",.int 0),("tail",.int 1),("tag",.int 2),("bag",.int 3)]:List (Str×V)).lookup x
theorem zii:∀k:Nat,k<5->zij (kw k)=some (.int (grp k)):=by decide +kernel
theorem zgB(k:Nat):grp k<4:=by unfold grp;split <;> decide
structure zde(w:World)(K:Frag)(mg:Str->Option Value)(G sg:Addr):Prop where
 len:mg "len"=none
 en:mg "enumerate"=none
 lst:mg "list"=none
 set:mg "set"=none
 mp:∃t,mg "MOST_PARAMETERS"=some (.int 24 t)
 mb:∃t,mg "MOST_BARS"=some (.int 60 t)
 mgr:mg "GROUPS"=some (.ref G)
 gt:zkY w K G zij
 ms:mg "SINGLE_GROUPS"=some (.ref sg)
 hs:∀H,SqT K H sg [.int 1,.int 3]
def Cs5(c:C5):Addr->Prop:=fun C=>∃k,k<5/\C=c.at k
def zle(c:C5):Sp:=fun vs H Q _=>∃(a:Addr) (ps:List Addr) (rows:List Rw) (kk:Nat),vs=[.ref a,.str (kw kk)]/\kk<5/\H a=some (.lst (ps.map V.ref))/\Paired (PAt c H) ps rows/\(∀r∈rows,r.ok)/\∀H',zx H H'->Q (wV (yz kk 0 rows)) H'
theorem zkK:∀i:Nat,i<5->∀k:Nat,k<5->decide (V.str (kw k)=V.str (kw i))=(k==i):=by decide +kernel
theorem uV{α : Type}{xs:List α}{i:Nat}{x : α}(h:xs[i]?=some x):xs.drop i=x::xs.drop (i+1):=by
 have hi:i<xs.length:=(List.getElem?_eq_some_iff.mp h).1;rw[List.drop_eq_getElem_cons hi];rw[getElem?_eq_getElem hi] at h;rw[Option.some.inj h]
theorem wC{ps:List Addr}{i:Nat}{x:V}(h:(ps.map V.ref)[i]?=some x):∃p,ps[i]?=some p/\x=.ref p:=by
 rw[getElem?_map] at h;cases e:ps[i]? with
 | none=>rw[e] at h;cases h
 | some p=>rw[e] at h;exact⟨p,rfl,(Option.some.inj h).symm⟩
theorem strs_at{zs:List Str}{i:Nat}{x:V}(h:(zs.map V.str)[i]?=some x):∃z,zs[i]?=some z/\x=.str z:=by
 rw[getElem?_map] at h;cases e:zs[i]? with
 | none=>rw[e] at h;cases h
 | some p=>rw[e] at h;exact⟨p,rfl,(Option.some.inj h).symm⟩
variable {P:Program}{w:World}{K:Frag}{mg:Str->Option Value}{base:Heap}{G sg:Addr}{fd:FuncData}{m:MA}
def Pcs(K:Frag)(m:MA)(c:C5):Prop:=∀k,k<5->PC K m (c.at k)
theorem zhn:zD ["parameters","bars"] ["parameters","bars"] (zr zcE):=fsc
theorem wQ:zD ["parameters","last","at","parameter","group"] ["parameters"] (zr zaS):=fsc
end
end K92
namespace L2
open PySem PySem.Spec PyProof.Rows
theorem zdD{X:Cx}{K:Frag}{e:Expr}{f:Str}{pos:Pos}{ta:TE}(hK:X.K=K)(he:PE X e ta)(hb:attributeBase e f X.env (eval e X.env)=eval e X.env):PE X (.Attribute e f pos) (zk9 K ta f):=hK ▸ xi he hb
end L2
namespace K92
open PySem L2 PyProof.Rows
theorem yP{n:Nat}(h:n<=1000):n<=sizeLine:=le_of_lt (yu h)
theorem zdM{rows:List Rw}{i:Nat}{r:Rw}(h:rows[i]?=some r):nms (rows.take (i+1))=nms (rows.take i)++(if ug r.k=true then [r.z] else []):=by
 have hi:i<rows.length:=(List.getElem?_eq_some_iff.mp h).1;have e:rows[i]=r:=by rw[getElem?_eq_getElem hi] at h;exact Option.some.inj h
 unfold nms;rw[take_succ_eq_append_getElem hi,filter_append,map_append,e];cases hb:ug r.k <;> simp [hb]
section
variable {P:Program}{w:World}{K:Frag}{mg:Str->Option Value}{base:Heap}{f G sg:Addr}{fd:FuncData}{c:C5}{m:MA}
theorem zcA:zD ["parameters","word","at","parameter"] ["parameters","word"] (zr zfE):=fsc
theorem zhW(F:Fun K "number_of_word" "number_of_word" zfE f fd)(T:zde w K mg G sg)(PP:Pcs K m c):zL P w K mg base CX0 1 f fd ["parameters","word"] (zle c):=by
 refine F.ok zcA (fun cdv A outer s H vs Q E hr h=>?_);obtain⟨a,ps,rows,kk,rfl,hkk,ha,hp,hok,q⟩:=h;refine⟨_,zp (y8 PassesOwn.never rfl (zaZ rfl T.en (ac (pv 0) zi)) (wJ rfl (yo (zF (i:=2) zcA.nd rfl (Or.inl rfl)) (yo (zF (i:=3) zcA.nd rfl (Or.inl rfl)) xL)))
   (zm (zJ (zw yi (xi (pv 3) rfl) (pv 1) (zE _)) (zm (zB (pv 2))) zz))) (zm (zB y9)),?_⟩
 refine⟨_,rfl,a,rfl,⟨_,zq ha⟩,zb4 (K:=K) (a:=a) (xs:=ps.map V.ref) (fun i σ H'=>∃(v2 v3:Option V),σ=[some (.ref a),some (.str (kw kk)),v2,v3]/\zx H H'/\yz kk i (rows.drop i)=yz kk 0 rows)
  ⟨_,_,rfl,zx.refl _,rfl⟩ (fun i σ H' _ ⟨_,_,_,sH,_⟩=>zq (sH _ _ ha)) ?_ ?_⟩
 ·rintro i x p σ H' hx ⟨v2,v3,rfl,sH,hl⟩ hpn
  obtain⟨pa,hpa,rfl⟩:=wC hx;obtain⟨r,hr',dx,hdx⟩:=xy hp hpa;have rok:=hok r (mem_of_getElem? hr');have C:=PP r.k rok.1;rw[uV hr'] at hl;have hl':(if r.k=kk then some i else yz kk (i+1) (rows.drop (i+1)))=yz kk 0 rows:=hl
  have sp:=zk hpn (.tup [.int (i:Nat),.ref pa]);refine⟨p,_,rfl,zI zc,rfl,_,_,rfl,_,_,rfl,rfl,?_⟩;refine⟨_,rfl,pa,_,dx,_,_,rfl,sp _ _ (sH _ _ hdx),C.cl,C.nW,xz,_,rfl,rfl,_,rfl,?_⟩;by_cases e:r.k=kk
  ·refine dT (by rw[e]) ?_
   rw[if_pos e] at hl';refine⟨_,rfl,?_⟩
   have:=q _ (sH.trans sp)
   rw[<- hl'] at this;exact this
  ·refine dF (fun z=>?_) ?_
   ·have h1:=zkK kk hkk r.k rok.1
    rw[decide_eq_true z] at h1;exact e (by simpa using h1.symm)
   ·rw[if_neg e] at hl'
    exact⟨_,_,rfl,sH.trans sp,hl'⟩
 ·rintro σ H' ⟨v2,v3,rfl,sH,hl⟩
  have e:yz kk 0 rows=none:=by
   rw[<- hl,length_map,hp.length,drop_length];rfl
  have:=q _ sH
  rw[e] at this;exact this
theorem zdu:zD ["bars","bar"] ["bars"] (zr zcF):=fsc
theorem zkG:([Str.ofString "parameter"]:List Str).Nodup:=by decide +kernel
theorem j3:zD ["parameters","bars","seen","name"] ["parameters","bars"] (zr zaR):=fsc
def SX(f:Addr)(H H':Hp):Prop:=∀b u,H b=some u->b≠f->H' b=some u
theorem SX.same{f:Addr}{H H1 H2:Hp}(x:SX f H H1)(s:zx H1 H2):SX f H H2:=fun b u e n=>s b u (x b u e n)
theorem SX.upd{f:Addr}{H H1:Hp}{o:HO}(x:SX f H H1):SX f H (upd H1 f o):=fun b u e n=>by rw[zv n];exact x b u e n
theorem SX.refl{f:Addr}{H:Hp}:SX f H H:=fun _ _ e _=>e
theorem vg(f:Str)(v:V):∀fs:List (Str×V),(yl f v fs).length<=fs.length+1
 | []=>le_refl _
 | (g,x)::r=>by
  show(if g=f then (g,v)::r else (g,x)::yl f v r).length<=_
  split
  ·simp
  ·have:=vg f v r
   simp only[length_cons];omega
def Pre(fs:List (Str×V)):Prop:=fs.length<=50/\∀m,m∉zgY->fs.lookup m=none
structure FC(K:Frag)(CF:Addr):Prop where
 cl:Cls K CF
 n1:yZ K CF "row"
 n2:yZ K CF "bar_names"
 n3:yZ K CF "place_count"
 n4:yZ K CF "tail_number"
 n5:yZ K CF "bag_number"
 n6:yZ K CF "doors"
def zfl(c:C5)(CF:Addr):Sp:=fun vs H Q _=>∃(f a b dx:Addr) (fs:List (Str×V)) (ps:List Addr) (rows:List Rw) (bars:List Str),vs=[.ref f,.ref a,.ref b]/\H f=some (.ins CF dx fs)/\Pre fs/\H a=some (.lst (ps.map V.ref))/\Paired (PAt c H) ps rows/\(∀r∈rows,r.ok)/\rows.length<=500/\H b=some (.lst (bars.map V.str))/\
 ∀H',SX f H H'->zcr c CF H H' f rows bars->(∃dx' fs',H' f=some (.ins CF dx' fs')/\fs'.length<=fs.length+6)->Q .non H'
theorem zhG{rows:List Rw}{i:Nat}{r:Rw}(h:rows[i]?=some r):plN (rows.take (i+1))=plN (rows.take i)+(if ziz r.k=true then 1 else 0):=by
 have hi:i<rows.length:=(List.getElem?_eq_some_iff.mp h).1;have e:rows[i]=r:=by rw[getElem?_eq_getElem hi] at h;exact Option.some.inj h
 unfold plN;rw[take_succ_eq_append_getElem hi,filter_append,length_append,e];cases hb:ziz r.k <;> simp [hb]
theorem zar:∀(rows:List Rw) (i:Nat) (acc:List (Key×V)),(wM i acc rows).length<=acc.length+rows.length
 | [],_,_=>le_refl _
 | r::rs,i,acc=>by
  have h:=zar rs (i+1) (if ug r.k=true then xH acc (.inr r.z) (.int i) else acc)
  have h2:(if ug r.k=true then xH acc (.inr r.z) (.int i) else acc).length<=acc.length+1:=by
   split
   ·exact xT acc _ _
   ·omega
  show(wM (i+1) _ rs).length<=acc.length+(rs.length+1);omega
theorem jv{r:Rw}:∀(rows:List Rw) (j i:Nat) (acc:List (Key×V)),rows[i]?=some r->wM j acc (rows.take (i+1))=(if ug r.k=true then xH (wM j acc (rows.take i)) (.inr r.z) (.int (j+i:Nat)) else wM j acc (rows.take i))
 | [],_,_,_,h=>by simp at h
 | r0::rs,j,0,acc,h=>by
  have e:r0=r:=by simpa using h
  subst e;show(if ug r0.k=true then xH acc (.inr r0.z) (.int j) else acc)=_
  rfl
 | r0::rs,j,i+1,acc,h=>by
  have:=jv rs (j+1) i (if ug r0.k=true then xH acc (.inr r0.z) (.int j) else acc) (by simpa using h)
  show wM (j+1) _ (rs.take (i+1))=_;rw[this,show j+1+i=j+(i+1) by omega]
  rfl
variable {CF:Addr}
theorem PAt.ne{H:Hp}{p f CF dx:Addr}{r:Rw}{fs:List (Str×V)}(h:PAt c H p r)(e:H f=some (.ins CF dx fs))(n:fs.lookup ("word" : Str)=none):p≠f:=fun z=>by
 obtain⟨d,h⟩:=h;rw[z,e] at h;injection h with h
 injection h with h1 h2 h3
 rw[h3,xz] at n;cases n
theorem uN{H H':Hp}{f CF dx:Addr}{fs:List (Str×V)}(e:H f=some (.ins CF dx fs))(n:fs.lookup ("word" : Str)=none)(x:SX f H H'){ps:List Addr}{rows:List Rw}(h:Paired (PAt c H) ps rows):Paired (PAt c H') ps rows:=
 zH (fun _ _ z=>by
  have ne:=z.ne e n;obtain⟨d,q⟩:=z;exact⟨d,x _ _ q ne⟩) h
theorem zlQ:([Str.ofString "at",Str.ofString "parameter"]:List Str).Nodup:=by decide +kernel
theorem zjF:zD ["self","parameters","bars"] ["self","parameters","bars"] (zr zfH):=fsc
theorem zhZ{g:Addr}{gd gp gb:FuncData}(F:Fun K "keep" "Form.keep" zfH f fd)(T:zde w K mg G sg)(PP:Pcs K m c)(FK:FC K CF)(cW:z8 P w K mg base 1 "number_of_word" g gd ["parameters","word"] (zle c))
  (GP:zL P w K mg base CX0 1 m.fP gp ["self"] (qN K m bpL)) (bP:yt K gp ["self"] []) (GB:zL P w K mg base CX0 1 m.fB gb ["self"] (qN K m bnL)) (bB:yt K gb ["self"] []):zL P w K mg base CX0 2 f fd ["self","parameters","bars"] (zfl c CF):=by
 refine F.ok zjF (fun cdv A outer s H vs Q E hr h=>?_);obtain⟨f,a,b,dx,fs,ps,rows,bars,rfl,hf,⟨pl,pn⟩,ha,hp,hok,l5,hb,q⟩:=h;have hP:∀C,Cs5 c C->Cls K C/\vw K C "by_place" m.fP:=fun C ⟨k,hk,e⟩=>by rw[e];exact⟨(PP k hk).cl,(PP k hk).mP⟩
 have hB:∀C,Cs5 c C->Cls K C/\vw K C "by_name" m.fB:=fun C ⟨k,hk,e⟩=>by rw[e];exact⟨(PP k hk).cl,(PP k hk).mB⟩
 have nw:fs.lookup ("word" : Str)=none:=pn _ (by decide +kernel)
 refine⟨_,zp (vh (pv 0) (cTy wb T.lst PyProof.Rows.boot_list (ac (pv 1) zi)) rfl)
  (zp (vh (pv 0) (cTy wb T.lst PyProof.Rows.boot_list (ac (pv 2) zi)) rfl)
  (zp (vh (pv 0) (cB zO T.len PySem.boot_len (ac (xY [] ["parameter"] [none] rfl ⟨rfl,rfl,rfl,rfl⟩ (ye (xi (pv 0) rfl)) (z5 0) rfl rfl rfl
    (fun pins fp s H C=>⟨zF (i:=0) zkG rfl (Or.inl rfl) (.inr rfl),vT (yx (uM (pv 0) hP GP hr bP xx)),pv 0⟩)) zi)) rfl)
  (zp (vh (pv 0) (cF cW hr (ac (xi (pv 0) rfl) (ac zo zi))) rfl)
  (zp (vh (pv 0) (cF cW hr (ac (xi (pv 0) rfl) (ac zo zi))) rfl)
  (zm (vh (pv 0) (zly [] ["at","parameter"] [none,none] rfl ⟨rfl,rfl,rfl,rfl⟩ (zaZ rfl T.en (ac (xi (pv 0) rfl) zi)) (jg (K:=K) (n:=2) 0 1) rfl rfl rfl
    (fun pins fp s H C=>⟨wJ rfl (yo (zF (i:=0) zlQ rfl (Or.inl rfl) (.inr rfl)) (yo (zF (i:=1) zlQ rfl (Or.inl rfl) (.inr rfl)) xL)),vT (yx (uM (pv 1) hB GB hr bB xx)),zdD (K:=K) rfl (pv 1) rfl,pv 0⟩)) rfl)))))),?_⟩
 refine⟨_,rfl,a,_,rfl,.inl (zq ha),fun l1 hl1=>?_⟩;have s1:=zk hl1 (.lst (ps.map V.ref));refine⟨_,rfl,f,CF,dx,fs,rfl,s1 _ _ hf,FK.cl,FK.n1,(by omega),?_⟩
 have x1:SX f H (upd (upd H l1 (.lst (ps.map V.ref))) f (.ins CF dx (yl "row" (.ref l1) fs))):=(SX.refl.same s1).upd;have f1:upd (upd H l1 (.lst (ps.map V.ref))) f (.ins CF dx (yl "row" (.ref l1) fs)) f=some (.ins CF dx (yl "row" (.ref l1) fs)):=zc;have e1:upd (upd H l1 (.lst (ps.map V.ref))) f (.ins CF dx (yl "row" (.ref l1) fs)) l1=some (.lst (ps.map V.ref)):=by
  rw[zv (fun z=>by rw[z,hf] at hl1;cases hl1),zc]
 have p1:=vg "row" (.ref l1) fs;have r1:(yl "row" (.ref l1) fs).lookup ("row" : Str)=some (.ref l1):=by rw[zy,if_pos rfl]
 show jA _ _ _ _ (upd (upd H l1 (.lst (ps.map V.ref))) f (.ins CF dx (yl "row" (.ref l1) fs)));generalize upd (upd H l1 (.lst (ps.map V.ref))) f (.ins CF dx (yl "row" (.ref l1) fs))=H1 at x1 f1 e1 |-;have nbf:b≠f:=ul hb hf (by intro z;cases z)
 refine⟨_,rfl,b,_,rfl,.inl (zq (x1 _ _ hb nbf)),fun l2 hl2=>?_⟩;have s2:=zk hl2 (.lst (bars.map V.str));have hlb:H l2=none:=by
  cases e:H l2 with
  | none=>rfl
  | some u=>exact absurd (x1 _ _ e (fun z=>by rw[z,f1] at hl2;cases hl2)) (by rw[hl2];intro z;cases z)
 refine⟨_,rfl,f,CF,dx,_,rfl,s2 _ _ f1,FK.cl,FK.n2,(by omega),?_⟩
 have x2:SX f H (upd (upd H1 l2 (.lst (bars.map V.str))) f (.ins CF dx (yl "bar_names" (.ref l2) (yl "row" (.ref l1) fs)))):=(x1.same s2).upd;have f2:upd (upd H1 l2 (.lst (bars.map V.str))) f (.ins CF dx (yl "bar_names" (.ref l2) (yl "row" (.ref l1) fs))) f=some (.ins CF dx (yl "bar_names" (.ref l2) (yl "row" (.ref l1) fs))):=zc;have g2:upd (upd H1 l2 (.lst (bars.map V.str))) f (.ins CF dx (yl "bar_names" (.ref l2) (yl "row" (.ref l1) fs))) l2=some (.lst (bars.map V.str)):=by
  rw[zv (fun z=>by rw[z,f1] at hl2;cases hl2),zc]
 have e2:upd (upd H1 l2 (.lst (bars.map V.str))) f (.ins CF dx (yl "bar_names" (.ref l2) (yl "row" (.ref l1) fs))) l1=some (.lst (ps.map V.ref)):=by
  rw[zv (ul e1 f1 (by intro z;cases z)),s2 _ _ e1]
 have p2:=vg "bar_names" (.ref l2) (yl "row" (.ref l1) fs);have r2:(yl "bar_names" (.ref l2) (yl "row" (.ref l1) fs)).lookup ("row" : Str)=some (.ref l1):=by rw[zy,if_neg (by decide +kernel)];exact r1
 show jA _ _ _ _ (upd (upd H1 l2 (.lst (bars.map V.str))) f (.ins CF dx (yl "bar_names" (.ref l2) (yl "row" (.ref l1) fs))));generalize hfs2:yl "bar_names" (.ref l2) (yl "row" (.ref l1) fs)=fs2 at f2 e2 g2 p2 r2 x2 |-;generalize upd (upd H1 l2 (.lst (bars.map V.str))) f (.ins CF dx fs2)=H2 at x2 f2 e2 g2 |-;have hp2:=uN hf nw x2 hp;refine⟨_,rfl,f,CF,dx,_,_,rfl,f2,FK.cl,FK.n1,r2,l1,rfl,⟨_,zq e2⟩,fun D hD=>?_⟩;refine wF (K:=K) (xs:=ps.map V.ref) (fun i ys H'=>zx H2 H'/\H' D=some (.lst ys)/\ys.length=plN (rows.take i)) ⟨zk hD _,zc,rfl⟩ (fun i ys H' h=>zq (h.1 _ _ e2)) ?_ ?_
 ·rintro i x ys H' hlt hx ⟨sH,hDy,ey⟩
  obtain⟨pa,hpa,rfl⟩:=wC hx;obtain⟨r,hr',dx',hdx⟩:=xy hp2 hpa;have rok:=hok r (mem_of_getElem? hr');have C:=PP r.k rok.1;have nl:ys.length<=i:=by
   rw[ey];unfold plN;refine le_trans (length_filter_le _ _) ?_;rw[length_take];omega
  have hd2:=sH _ _ hdx;refine⟨_,rfl,pa,_,dx',_,rfl,⟨r.k,rok.1,rfl⟩,hd2,zbK (by decide +kernel) (by decide +kernel) (by decide +kernel),pa,dx',_,_,_,_,rfl,C,hd2,_,rfl,?_⟩
  rw[zlV r.k rok.1];have tk:=zhG hr';refine⟨fun e=>?_,fun e=>?_⟩
  ·rw[e,if_pos rfl] at tk
   refine⟨_,rfl,lcN.mk hlt (yP (by rw[length_map,hp.length];omega)) hDy nl ⟨fun b u e=>?_,zc,?_⟩⟩
   ·rw[zv (zu e hD)]
    exact sH b u e
   ·rw[length_append,ey,tk]
    rfl
  ·rw[e,if_neg zft] at tk
   exact lcS.mk hlt ⟨sH,hDy,by rw[ey,tk];rfl⟩
 rintro ys H3 ⟨s3,hDy,ey⟩;rw[length_map,hp.length,take_length] at ey;refine⟨D,_,rfl,.inl (zq hDy),?_⟩;rw[ey];have x3:=x2.same s3;refine⟨_,rfl,f,CF,dx,_,rfl,s3 _ _ f2,FK.cl,FK.n3,(by omega),?_⟩
 have f3:upd H3 f (.ins CF dx (yl "place_count" (.int (plN rows:Nat)) fs2)) f=some (.ins CF dx (yl "place_count" (.int (plN rows:Nat)) fs2)):=zc;have x4:SX f H (upd H3 f (.ins CF dx (yl "place_count" (.int (plN rows:Nat)) fs2))):=x3.upd;have e4:upd H3 f (.ins CF dx (yl "place_count" (.int (plN rows:Nat)) fs2)) l1=some (.lst (ps.map V.ref)):=by rw[zv (ul e2 f2 (by intro z;cases z))];exact s3 _ _ e2
 have g4:upd H3 f (.ins CF dx (yl "place_count" (.int (plN rows:Nat)) fs2)) l2=some (.lst (bars.map V.str)):=by rw[zv (ul g2 f2 (by intro z;cases z))];exact s3 _ _ g2
 have p3:=vg "place_count" (.int (plN rows:Nat)) fs2;have r3:(yl "place_count" (.int (plN rows:Nat)) fs2).lookup ("row" : Str)=some (.ref l1):=by rw[zy,if_neg (by decide +kernel)];exact r2
 show jA _ _ _ _ (upd H3 f (.ins CF dx (yl "place_count" (.int (plN rows:Nat)) fs2)));generalize hfs3:yl "place_count" (.int (plN rows:Nat)) fs2=fs3 at f3 x4 e4 g4 p3 r3 |-;generalize upd H3 f (.ins CF dx fs3)=H4 at x4 f3 e4 g4 |-;refine⟨_,rfl,f,CF,dx,_,_,rfl,f3,FK.cl,FK.n1,r3,l1,ps,rows,2,rfl,by decide,e4,uN hf nw x4 hp,hok,fun H5 s5=>?_⟩
 refine⟨_,rfl,f,CF,dx,_,rfl,s5 _ _ f3,FK.cl,FK.n4,(by omega),?_⟩
 have f5:upd H5 f (.ins CF dx (yl "tail_number" (wV (yz 2 0 rows)) fs3)) f=some (.ins CF dx (yl "tail_number" (wV (yz 2 0 rows)) fs3)):=zc;have x5:SX f H (upd H5 f (.ins CF dx (yl "tail_number" (wV (yz 2 0 rows)) fs3))):=(x4.same s5).upd;have e5:upd H5 f (.ins CF dx (yl "tail_number" (wV (yz 2 0 rows)) fs3)) l1=some (.lst (ps.map V.ref)):=by rw[zv (ul e4 f3 (by intro z;cases z))];exact s5 _ _ e4
 have g5:upd H5 f (.ins CF dx (yl "tail_number" (wV (yz 2 0 rows)) fs3)) l2=some (.lst (bars.map V.str)):=by rw[zv (ul g4 f3 (by intro z;cases z))];exact s5 _ _ g4
 have p4:=vg "tail_number" (wV (yz 2 0 rows)) fs3;have r4:(yl "tail_number" (wV (yz 2 0 rows)) fs3).lookup ("row" : Str)=some (.ref l1):=by rw[zy,if_neg (by decide +kernel)];exact r3
 show jA _ _ _ _ (upd H5 f (.ins CF dx (yl "tail_number" (wV (yz 2 0 rows)) fs3)));generalize hfs4:yl "tail_number" (wV (yz 2 0 rows)) fs3=fs4 at f5 x5 e5 g5 p4 r4 |-;generalize upd H5 f (.ins CF dx fs4)=H6 at x5 f5 e5 g5 |-;refine⟨_,rfl,f,CF,dx,_,_,rfl,f5,FK.cl,FK.n1,r4,l1,ps,rows,4,rfl,by decide,e5,uN hf nw x5 hp,hok,fun H7 s7=>?_⟩
 refine⟨_,rfl,f,CF,dx,_,rfl,s7 _ _ f5,FK.cl,FK.n5,(by omega),?_⟩
 have f7:upd H7 f (.ins CF dx (yl "bag_number" (wV (yz 4 0 rows)) fs4)) f=some (.ins CF dx (yl "bag_number" (wV (yz 4 0 rows)) fs4)):=zc;have x7:SX f H (upd H7 f (.ins CF dx (yl "bag_number" (wV (yz 4 0 rows)) fs4))):=(x5.same s7).upd;have e7:upd H7 f (.ins CF dx (yl "bag_number" (wV (yz 4 0 rows)) fs4)) l1=some (.lst (ps.map V.ref)):=by rw[zv (ul e5 f5 (by intro z;cases z))];exact s7 _ _ e5
 have g7:upd H7 f (.ins CF dx (yl "bag_number" (wV (yz 4 0 rows)) fs4)) l2=some (.lst (bars.map V.str)):=by rw[zv (ul g5 f5 (by intro z;cases z))];exact s7 _ _ g5
 have p5:=vg "bag_number" (wV (yz 4 0 rows)) fs4;have r5:(yl "bag_number" (wV (yz 4 0 rows)) fs4).lookup ("row" : Str)=some (.ref l1):=by rw[zy,if_neg (by decide +kernel)];exact r4
 generalize hfs5:yl "bag_number" (wV (yz 4 0 rows)) fs4=fs5 at f7 x7 e7 g7 p5 r5 |-;generalize upd H7 f (.ins CF dx fs5)=H8 at x7 f7 e7 g7 |-;have hp8:=uN hf nw x7 hp;refine⟨_,rfl,f,CF,dx,_,_,rfl,f7,FK.cl,FK.n1,r5,l1,rfl,⟨_,zq e7⟩,fun D2 hD2=>?_⟩;refine zix (K:=K) (xs:=ps.map V.ref) (fun i ys H'=>zx H8 H'/\H' D2=some (.dK ys)/\ys=wM 0 [] (rows.take i)) ⟨zk hD2 _,zc,rfl⟩ (fun i ys H' h=>zq (h.1 _ _ e7)) ?_ ?_
 ·rintro i x p ys H' hlt hx ⟨sH,hDy,ey⟩ hpn
  obtain⟨pa,hpa,rfl⟩:=wC hx;obtain⟨r,hr',dx',hdx⟩:=xy hp8 hpa;have rok:=hok r (mem_of_getElem? hr');have C:=PP r.k rok.1;have sp:=zk hpn (.tup [.int (i:Nat),.ref pa]);have hd2:=sp _ _ (sH _ _ hdx);have hDp:upd H' p (.tup [.int (i:Nat),.ref pa]) D2=some (.dK ys):=by rw[zv (zu hDy hpn)];exact hDy
  have nl:ys.length<=i:=by
   rw[ey];refine le_trans (zar _ _ _) ?_;rw[length_take];show 0+_<=i;omega
  refine⟨p,_,rfl,zI zc,rfl,_,_,rfl,_,_,rfl,rfl,?_⟩;refine⟨_,rfl,pa,_,dx',_,rfl,⟨r.k,rok.1,rfl⟩,hd2,zbK (by decide +kernel) (by decide +kernel) (by decide +kernel),pa,dx',_,_,_,_,rfl,C,hd2,_,rfl,?_⟩
  rw[zdT r.k rok.1];have tk:=jv rows 0 i [] hr';refine⟨fun e=>?_,fun e=>?_⟩
  ·rw[e,if_pos rfl] at tk
   refine⟨_,rfl,pa,_,dx',_,_,rfl,hd2,C.cl,C.nN,vi,_,rfl,dcN.mk (.inr r.z) hlt rfl (yP (by rw[length_map,hp.length];omega)) hDp nl ⟨fun b u e=>?_,zc,?_⟩⟩
   ·rw[zv (zu e hD2)]
    exact sp _ _ (sH b u e)
   ·rw[tk,<- ey,Nat.zero_add]
  ·rw[e,if_neg zft] at tk
   exact dcS.mk hlt ⟨sH.trans sp,hDp,by rw[ey,tk]⟩
 rintro ys H9 ⟨s9,hDy,ey⟩;rw[length_map,hp.length,take_length] at ey;refine⟨_,rfl,f,CF,dx,_,rfl,s9 _ _ f7,FK.cl,FK.n6,(by omega),?_⟩
 have nf:∀{x:Addr}{o:HO},H9 x=some o->(∀C d g,o≠.ins C d g)->upd H9 f (.ins CF dx (yl "doors" (.ref D2) fs5)) x=some o:=fun {x o} e n=>by
  rw[zv (ul e (s9 _ _ f7) (by intro z;exact n _ _ _ z))]
  exact e
 refine q _ (x7.same s9).upd ⟨dx,_,l1,l2,D2,ps,zc,?_,nf (s9 _ _ e7) (by intro _ _ _ z;cases z),uN hf nw (x7.same s9).upd hp,nf (s9 _ _ g7) (by intro _ _ _ z;cases z),nf (by rw[hDy,ey]) (by intro _ _ _ z;cases z),hl1,hlb⟩ ⟨dx,_,zc,le_trans (vg _ _ _) (by omega)⟩
 rw[<- hfs5,<- hfs4,<- hfs3,<- hfs2];refine⟨?_,?_,?_,?_,?_,?_,fun mm hm=>?_⟩
 ·rw[zy,if_neg (by decide +kernel),zy,if_neg (by decide +kernel),zy,if_neg (by decide +kernel),zy,if_neg (by decide +kernel),zy,if_neg (by decide +kernel),zy,if_pos rfl]
 ·rw[zy,if_neg (by decide +kernel),zy,if_neg (by decide +kernel),zy,if_neg (by decide +kernel),zy,if_neg (by decide +kernel),zy,if_pos rfl]
 ·rw[zy,if_neg (by decide +kernel),zy,if_neg (by decide +kernel),zy,if_neg (by decide +kernel),zy,if_pos rfl]
 ·rw[zy,if_neg (by decide +kernel),zy,if_neg (by decide +kernel),zy,if_pos rfl]
 ·rw[zy,if_neg (by decide +kernel),zy,if_pos rfl]
 ·rw[zy,if_pos rfl]
 ·have h':∀a∈zgY,¬mm=a:=fun a ha e=>hm (e ▸ ha)
  rw[zy,if_neg (h' _ (by decide +kernel)),zy,if_neg (h' _ (by decide +kernel)),zy,if_neg (h' _ (by decide +kernel)),zy,if_neg (h' _ (by decide +kernel)),zy,if_neg (h' _ (by decide +kernel)),zy,if_neg (h' _ (by decide +kernel))]
  exact pn mm hm
def TAt(H:Hp)(u:Addr)(r:Rw):Prop:=H u=some (.tup (rv r))
def zaN(c:C5)(CF:Addr):Sp:=fun vs H Q _=>∃(f:Addr) (rows:List Rw) (bars:List Str),vs=[.ref f]/\(∀r∈rows,r.ok)/\rows.length<=500/\zg4 c CF H f rows bars/\∀(t l1 l2:Addr) (us:List Addr) (H':Hp),zx H H'->H l1=none->H l2=none->l1≠l2->H' t=some (.tup [.ref l1,.ref l2])->
 H' l1=some (.lst (us.map V.ref))->Paired (TAt H') us rows->H' l2=some (.lst (bars.map V.str))->Q (.ref t) H'
theorem y6{H H':Hp}{us:List Addr}{rows:List Rw}(s:zx H H')(h:Paired (TAt H) us rows):Paired (TAt H') us rows:=zH (fun _ _ z=>s _ _ z) h
theorem zdx:zD ["self","parameters","bars","names"] ["self","parameters","bars"] (zr zcL):=fsc
theorem zhq:zD ["self"] ["self"] (zr zcJ):=fsc
theorem zgh{gd:FuncData}(F:Fun K "told" "Form.told" zcJ f fd)(T:zde w K mg G sg)(FK:FC K CF)(PP:Pcs K m c)(GO:zL P w K mg base CX0 2 m.fO gd ["self"] (zcv K m))(bO:yt K gd ["self"] []):zL P w K mg base CX0 3 f fd ["self"] (zaN c CF):=by
 refine F.ok zhq (fun cdv A outer s H vs Q E hr h=>?_);obtain⟨f,rows,bars,rfl,hok,l5,⟨dx,fs,lr,lb,ld,ps,h1,h2,h3,h4,h5,h6⟩,q⟩:=h;have hO:∀C,Cs5 c C->Cls K C/\vw K C "told" m.fO:=fun C ⟨k,hk,e⟩=>by rw[e];exact⟨(PP k hk).cl,(PP k hk).mO⟩
 refine⟨_,zm (zB (zM (ac (xY [] ["parameter"] [none] rfl ⟨rfl,rfl,rfl,rfl⟩ (ye (xi (pv 0) rfl)) (z5 0) rfl rfl rfl
   (fun pins fp s H C=>⟨zF (i:=0) zkG rfl (Or.inl rfl) (.inr rfl),yA,uM (pv 0) hO GO hr bO xx⟩)) (ac (cTy wb T.lst PyProof.Rows.boot_list (ac (xi (pv 0) rfl) zi)) zi)))),?_⟩
 refine⟨_,rfl,f,CF,dx,_,_,rfl,h1,FK.cl,FK.n1,h2.row,lr,rfl,⟨_,zq h3⟩,fun D hD=>?_⟩;refine wF (K:=K) (xs:=ps.map V.ref) (fun i ys H'=>zx H H'/\H' D=some (.lst ys)/\∃us,ys=us.map V.ref/\Paired (TAt H') us (rows.take i)) ⟨zk hD _,zc,[],rfl,.nil⟩ (fun i ys H' h=>zq (h.1 _ _ h3)) ?_ ?_
 ·rintro i x ys H' hlt hx ⟨sH,hDy,us,ey,pu⟩
  obtain⟨pa,hpa,rfl⟩:=wC hx;obtain⟨r,hr',dx',hdx⟩:=xy h4 hpa;have rok:=hok r (mem_of_getElem? hr');have C:=PP r.k rok.1;have hd2:=sH _ _ hdx;have hi:i<rows.length:=(List.getElem?_eq_some_iff.mp hr').1;have er:rows[i]=r:=by rw[getElem?_eq_getElem hi] at hr';exact Option.some.inj hr'
  refine⟨fun _=>?_,fun e=>Bool.noConfusion e⟩;refine⟨_,rfl,pa,_,dx',_,rfl,⟨r.k,rok.1,rfl⟩,hd2,zbK (by decide +kernel) (by decide +kernel) (by decide +kernel),pa,dx',_,r.k,.str r.z,r.b,rfl,rok.1,C,hd2,fun u H2 s2 hu2=>?_⟩
  have nl:ys.length<=i:=by
   rw[ey,length_map,pu.length,length_take];omega
  have nDu:u≠D:=fun z=>by
   rw[z,s2 _ _ hDy] at hu2;cases hu2
  refine lcN.mk hlt (yP (by rw[length_map,h4.length];omega)) (s2 _ _ hDy) nl ⟨fun b u' e=>?_,zc,us++[u],by rw[ey,map_append];rfl,?_⟩
  ·rw[zv (zu e hD)]
   exact s2 _ _ (sH b u' e)
  ·rw[take_succ_eq_append_getElem hi,er]
   refine Paired.snoc (zH (fun v r' z=>?_) pu) ?_
   ·have z2:H2 v=some (.tup (rv r')):=s2 _ _ z
    show upd H2 D _ v=some (.tup (rv r'));rw[zv (fun e=>by rw[e,s2 _ _ hDy] at z2;cases z2)]
    exact z2
   ·show upd H2 D _ u=some (.tup (rv r))
    rw[zv nDu];exact hu2
 rintro ys H2 ⟨s2,hDy,us,rfl,pu⟩;rw[length_map,h4.length,take_length] at pu;refine⟨_,rfl,f,CF,dx,_,_,rfl,s2 _ _ h1,FK.cl,FK.n2,h2.bn,lb,_,rfl,.inl (zq (s2 _ _ h5)),fun l2 hl2=>?_⟩;have s3:=zk hl2 (.lst (bars.map V.str));refine⟨y7,fun t ht=>?_⟩;have s4:=zk ht (.tup [.ref D,.ref l2]);exact q t D l2 us _ (s2.trans (s3.trans s4)) hD (s2.free hl2) (zu hDy hl2) zc (s4 _ _ (s3 _ _ hDy)) (y6 (s3.trans s4) pu) (s4 _ _ zc)
inductive yU where
 | one (t:Int)|row (ts:List Int)|named (n:Str) (t:Int)|book (ps:List (Str×Int))
def xC(p:Str×Int):Dt:=.tup [.str p.1,.int p.2]
def yI:yU->Dt
 | .one t=>.tup [.str "one",.int t]
 | .row ts=>.tup [.str "row",.lst (ts.map .int)]
 | .named n t=>.tup [.str "named",.str n,.int t]
 | .book ps=>.tup [.str "book",.lst (ps.map xC)]
def itT:yU->List Int
 | .one t=>[t]
 | .row ts=>ts
 | _=>[]
def itP:yU->List (Str×Int)
 | .named n t=>[(n,t)]
 | .book ps=>ps
 | _=>[]
def yL(c:List yU):List Int:=(c.map itT).flatten
def yM(c:List yU):List (Str×Int):=(c.map itP).flatten
abbrev T':Addr->Prop:=fun _=>True
def Two(K:Frag)(H H':Hp)(p:Addr)(ts:List Int)(ps:List (Str×Int)):Prop:=
 ∃l1 l2 xs,H l1=none/\H l2=none/\l1≠l2/\H p=none/\H' p=some (.tup [.ref l1,.ref l2])/\H' l1=some (.lst (ts.map V.int))/\H' l2=some (.lst xs)/\Paired (zS K T' H' 1) xs (ps.map xC)
def zfi(K:Frag):Sp:=fun vs H Q _=>∃(a:Addr) (c:List yU) (xs:List V),vs=[.ref a]/\SqL K H a xs/\Paired (zS K T' H 3) xs (c.map yI)/\(yL c).length<=900/\(yM c).length<=900/\
 ∀(p:Addr) (H':Hp),zx H H'->Two K H H' p (yL c) (yM c)->Q (.ref p) H'
variable {ok:Addr->Prop}{H H':Hp}{n:Nat}{x:V}
theorem uL{i:Int}(h:zS K ok H n x (.int i)):x=.int i:=by
 have fl:jx x (.int i)->x=.int i:=fun h=>by
  cases x <;> first|exact h.elim|(have e:=(show _=_ from h);rw[e])
 cases n with
 | zero=>exact fl h
 | succ n=>
  rcases h with h|⟨_,_,_,_,e,_⟩|⟨_,_,_,_,e,_⟩
  ·exact fl h
  ·cases e
  ·cases e
theorem wR{z:Str}(h:zS K ok H n x (.str z)):x=.str z:=by
 have fl:jx x (.str z)->x=.str z:=fun h=>by
  cases x <;> first|exact h.elim|(have e:=(show _=_ from h);rw[e])
 cases n with
 | zero=>exact fl h
 | succ n=>
  rcases h with h|⟨_,_,_,_,e,_⟩|⟨_,_,_,_,e,_⟩
  ·exact fl h
  ·cases e
  ·cases e
theorem xP{ds:List Dt}(h:zS K ok H (n+1) x (.tup ds)):∃a xs,x=.ref a/\SqT K H a xs/\Paired (zS K ok H n) xs ds:=by
 rcases h with h|⟨a,xs,ds',e1,e2,e3,r⟩|⟨_,_,_,_,e,_⟩
 ·cases x <;> exact h.elim
 ·cases e2;exact⟨a,xs,e1,e3,r⟩
 ·cases e
theorem zbA{ds:List Dt}(h:zS K ok H (n+1) x (.lst ds)):∃a xs,x=.ref a/\ok a/\H a=some (.lst xs)/\Paired (zS K ok H n) xs ds:=by
 rcases h with h|⟨_,_,_,_,e,_⟩|⟨a,xs,ds',e1,e2,o,e3,r⟩
 ·cases x <;> exact h.elim
 ·cases e
 ·cases e2;exact⟨a,xs,e1,o,e3,r⟩
theorem zac:∀{ts:List Int}{xs:List V},Paired (zS K ok H n) xs (ts.map .int)->xs=ts.map V.int
 | [],_,r=>by cases r;rfl
 | t::ts,_,r=>by
  cases r with
  | cons h r=>rw[uL h,zac r];rfl
theorem xu{α β : Type}{F : α->β->Prop}:∀{a c:List α}{b d:List β},Paired F a b->Paired F c d->Paired F (a++c) (b++d)
 | _,_,_,_,.nil,s=>s
 | _,_,_,_,.cons r t,s=>.cons r (xu t s)
theorem vI{t:Int}(h:zS K ok H 3 x (yI (.one t))):∃a,x=.ref a/\SqT K H a [.str "one",.int t]:=by
 obtain⟨a,xs,rfl,hS,r⟩:=xP h;cases r with
 | cons h1 r=>cases r with
  | cons h2 r=>cases r;rw[wR h1,uL h2] at hS;exact⟨a,rfl,hS⟩
theorem vH{ts:List Int}(h:zS K ok H 3 x (yI (.row ts))):∃a b,x=.ref a/\SqT K H a [.str "row",.ref b]/\ok b/\H b=some (.lst (ts.map V.int)):=by
 obtain⟨a,xs,rfl,hS,r⟩:=xP h;cases r with
 | cons h1 r=>cases r with
  | cons h2 r=>
   cases r;obtain⟨b,ys,rfl,o,hb,q⟩:=zbA h2;rw[wR h1] at hS;rw[zac q] at hb;exact⟨a,b,rfl,hS,o,hb⟩
theorem wu{z:Str}{t:Int}(h:zS K ok H 3 x (yI (.named z t))):∃a,x=.ref a/\SqT K H a [.str "named",.str z,.int t]:=by
 obtain⟨a,xs,rfl,hS,r⟩:=xP h;cases r with
 | cons h1 r=>cases r with
  | cons h2 r=>cases r with
   | cons h3 r=>cases r;rw[wR h1,wR h2,uL h3] at hS;exact⟨a,rfl,hS⟩
theorem wX{ps:List (Str×Int)}(h:zS K ok H 3 x (yI (.book ps))):∃a b ys,x=.ref a/\SqT K H a [.str "book",.ref b]/\ok b/\H b=some (.lst ys)/\Paired (zS K ok H 1) ys (ps.map xC):=by
 obtain⟨a,xs,rfl,hS,r⟩:=xP h;cases r with
 | cons h1 r=>cases r with
  | cons h2 r=>
   cases r;obtain⟨b,ys,rfl,o,hb,q⟩:=zbA h2;rw[wR h1] at hS;exact⟨a,b,ys,rfl,hS,o,hb,q⟩
theorem qv(c:List yU)(i:Nat)(it:yU)(h:c[i]?=some it):yL (c.take (i+1))=yL (c.take i)++itT it:=by
 unfold yL;rw[take_add_one,h,map_append,flatten_append];simp
theorem qw(c:List yU)(i:Nat)(it:yU)(h:c[i]?=some it):yM (c.take (i+1))=yM (c.take i)++itP it:=by
 unfold yM;rw[take_add_one,h,map_append,flatten_append];simp
theorem zbV(c:List yU)(i:Nat):(yL (c.take i)).length<=(yL c).length:=by
 unfold yL
 conv=>rhs;rw[<- take_append_drop i c]
 rw[map_append,flatten_append,length_append];omega
theorem zbW(c:List yU)(i:Nat):(yM (c.take i)).length<=(yM c).length:=by
 unfold yM
 conv=>rhs;rw[<- take_append_drop i c]
 rw[map_append,flatten_append,length_append];omega
theorem ne1:¬(V.str "row"=V.str "one"):=by decide +kernel
theorem ne2:¬(V.str "named"=V.str "one"):=by decide +kernel
theorem ne3:¬(V.str "book"=V.str "one"):=by decide +kernel
theorem ne4:¬(V.str "named"=V.str "row"):=by decide +kernel
theorem ne5:¬(V.str "book"=V.str "row"):=by decide +kernel
theorem ne6:¬(V.str "book"=V.str "named"):=by decide +kernel
theorem j4:zD ["call","things","pairs","item","word"] ["call"] (zr zfF):=fsc
theorem zU{H H2:Hp}{l:Addr}(s:zx H H2)(h:H l=none)(o:HO):zx H (upd H2 l o):=fun b u q=>by rw[zv (zu q h)];exact s b u q
theorem zhY(F:Fun K "laid" "laid" zfF f fd):zL P w K mg base CX0 1 f fd ["call"] (zfi K):=by
 refine F.ok j4 (fun cdv A outer s H vs Q E hr h=>?_);obtain⟨a,c,xs,rfl,hS,hc,hT,hP,q⟩:=h;refine⟨_,zp (zC (i:=1) j4.nd rfl (Or.inl rfl) (zP zi)) (zp (zC (i:=2) j4.nd rfl (Or.inl rfl) (zP zi))
  (zp (y8 PassesOwn.never rfl (ye (pv 0)) (zF (i:=3) j4.nd rfl (Or.inl rfl))
   (zp (zC (i:=4) j4.nd rfl (Or.inl rfl) (zK ya (pv 3) zj (fun _ _=>rfl)))
   (zm (zJ (zw yi (pv 4) zo (zE _)) (zm (zW (z7 PySem.F.plainAttrs_list PySem.F.slot_list_append PySem.F.type_list_append z9 (pv 1) (ac (zK ya (pv 3) zj (fun _ _=>rfl)) zi))))
    (zm (zJ (zw yi (pv 4) zo (zE _)) (zm (zW (z7 PySem.F.plainAttrs_list PySem.F.slot_list_extend PySem.F.type_list_extend zaf (pv 1) (ac (zK ya (pv 3) zj (fun _ _=>rfl)) zi))))
     (zm (zJ (zw yi (pv 4) zo (zE _)) (zm (zW (z7 PySem.F.plainAttrs_list PySem.F.slot_list_append PySem.F.type_list_append z9 (pv 2) (ac (zM (ac (zK ya (pv 3) zj (fun _ _=>rfl)) (ac (zK ya (pv 3) zj (fun _ _=>rfl)) zi))) zi))))
      (zm (zW (z7 PySem.F.plainAttrs_list PySem.F.slot_list_extend PySem.F.type_list_extend zaf (pv 2) (ac (zK ya (pv 3) zj (fun _ _=>rfl)) zi))))))))))))
  (zm (zB (zM (ac (pv 1) (ac (pv 2) zi))))))),?_⟩
 refine⟨vc,fun l1 h1=>?_⟩;refine⟨vc,fun l2 h2=>?_⟩;have n12:l1≠l2:=zu zc h2;have f2:H l2=none:=(zk h1 _).free h2;have s0:zx H (upd (upd H l1 (.lst [])) l2 (.lst [])):=(zk h1 _).trans (zk h2 _);refine⟨_,rfl,a,rfl,⟨_,s0.seq hS⟩,yO (K:=K) (a:=a) (xs:=xs) (fun i σ H2=>∃v3 v4 ys,σ=[some (.ref a),some (.ref l1),some (.ref l2),v3,v4]/\zx H H2/\H2 l1=some (.lst ((yL (c.take i)).map V.int))/\H2 l2=some (.lst ys)/\Paired (zS K T' H2 1) ys ((yM (c.take i)).map xC))
  ⟨_,_,[],rfl,s0,by rw[zv n12,zc];rfl,zc,.nil⟩ (fun i σ H2 _ ⟨_,_,_,_,s2,_⟩=>s2.seq hS) ?_ ?_⟩
 ·rintro i y σ H2 hi ⟨v3,v4,ys,rfl,s2,g1,g2,gp⟩
  obtain⟨d,hd,hy⟩:=Paired.get hc hi;obtain⟨it,hit,rfl⟩:∃it,c[i]?=some it/\yI it=d:=by
   rw[getElem?_map] at hd;cases e:c[i]? with
   | none=>rw[e] at hd;cases hd
   | some it=>rw[e] at hd;exact⟨it,rfl,Option.some.inj hd⟩
  have hy2:=hy.same s2;have eT:=qv c i it hit;have eP:=qw c i it hit;have lT:=zbV c i;have lP:=zbW c i;have lT1:=zbV c (i+1);have lP1:=zbW c (i+1);have lys:ys.length=(yM (c.take i)).length:=by rw[gp.length,length_map]
  have sT:∀{H3:Hp}{o:HO}{l:Addr},H3 l=none\/(∃zs,H3 l=some (.lst zs))->∀{b zs},SqT K H3 b zs->SqT K (upd H3 l o) b zs:=fun {H3 o l} hl {b zs} hz=>by
   rcases hz with (z|⟨u,z⟩)|z
   ·refine .inl (.inl ?_)
    have:b≠l:=fun e=>by
     subst e;rcases hl with e|⟨_,e⟩
     ·rw[e] at z;cases z
     ·rw[e] at z;cases z
    rw[zv this];exact z
   ·refine .inl (.inr ⟨u,?_⟩)
    have:b≠l:=fun e=>by
     subst e;rcases hl with e|⟨_,e⟩
     ·rw[e] at z;cases z
     ·rw[e] at z;cases z
    rw[zv this];exact z
   ·exact .inr z
  have keepP:∀{H3:Hp}{o:HO}{l:Addr}{zs:List V}{ps:List (Str×Int)},H3 l=none\/(∃zs,H3 l=some (.lst zs))->Paired (zS K T' H3 1) zs (ps.map xC)->Paired (zS K T' (upd H3 l o) 1) zs (ps.map xC):=by
   intro H3 o l zs ps hl r;induction ps generalizing zs with
   | nil=>cases r;exact .nil
   | cons p ps ih=>
    cases r with
    | cons h r=>
     refine .cons ?_ (ih r);obtain⟨b,ws,rfl,hS',r'⟩:=xP h;exact .tup (sT hl hS') (zH (fun _ _ z=>z) r')
  cases it with
  | one t=>
   obtain⟨b,rfl,hb⟩:=vI hy2;refine⟨_,rfl,b,_,_,.str "one",rfl,rfl,hb,rfl,?_⟩;refine⟨_,rfl,rfl,_,rfl,?_⟩;refine dT rfl ?_;refine⟨_,rfl,.inl ⟨rfl,_,zq g1⟩,_,rfl,b,_,_,.int t,rfl,rfl,hb,rfl,l1,_,_,rfl,rfl,g1,?_,?_⟩
   ·rw[length_map];exact yu (by omega)
   ·refine⟨_,_,ys,rfl,zU s2 h1 _,?_,?_,?_⟩
    ·rw[zc,eT,map_append];rfl
    ·rw[zv n12.symm];exact g2
    ·rw[eP];show Paired _ _ ((yM (c.take i)++[]).map xC);rw[append_nil];exact keepP (.inr ⟨_,g1⟩) gp
  | row ts=>
   obtain⟨b,bl,rfl,hb,_,hbl⟩:=vH hy2;refine⟨_,rfl,b,_,_,.str "row",rfl,rfl,hb,rfl,?_⟩;refine⟨_,rfl,rfl,_,rfl,?_⟩;refine dF ne1 ?_;refine⟨_,rfl,rfl,_,rfl,?_⟩;refine dT rfl ?_;refine⟨_,rfl,.inl ⟨rfl,_,zq g1⟩,_,rfl,b,_,_,.ref bl,rfl,rfl,hb,rfl,l1,bl,_,_,rfl,rfl,g1,hbl,?_,?_⟩
   ·have e1:(yL (c.take (i+1))).length=(yL (c.take i)).length+ts.length:=by rw[eT,length_append];rfl
    rw[length_map,length_map];exact yP (by omega)
   ·refine⟨_,_,ys,rfl,zU s2 h1 _,?_,?_,?_⟩
    ·rw[zc,eT,map_append];rfl
    ·rw[zv n12.symm];exact g2
    ·rw[eP];show Paired _ _ ((yM (c.take i)++[]).map xC);rw[append_nil];exact keepP (.inr ⟨_,g1⟩) gp
  | named z t=>
   obtain⟨b,rfl,hb⟩:=wu hy2;refine⟨_,rfl,b,_,_,.str "named",rfl,rfl,hb,rfl,?_⟩;refine⟨_,rfl,rfl,_,rfl,?_⟩;refine dF ne2 ?_;refine⟨_,rfl,rfl,_,rfl,?_⟩;refine dF ne4 ?_;refine⟨_,rfl,rfl,_,rfl,?_⟩;refine dT rfl ?_;refine⟨_,rfl,.inl ⟨rfl,_,zq g2⟩,_,rfl,b,_,_,.str z,rfl,rfl,hb,rfl,_,rfl,b,_,_,.int t,rfl,rfl,hb,rfl,y7,fun p hp=>?_⟩;have np2:l2≠p:=zu g2 hp;have np1:l1≠p:=zu g1 hp;have fp:H p=none:=s2.free hp;refine⟨l2,_,_,rfl,rfl,(by rw[zv np2];exact g2),?_,?_⟩
   ·rw[lys];exact yu (by omega)
   ·refine⟨_,_,ys++[.ref p],rfl,zU (zU s2 fp _) f2 _,?_,zc,?_⟩
    ·rw[zv n12,zv np1,g1,eT];show _=some (HO.lst ((yL (c.take i)++[]).map V.int));rw[append_nil]
    ·rw[eP,map_append]
     refine xu (keepP (.inr ⟨_,by rw[zv np2];exact g2⟩) (keepP (.inl hp) gp)) (.cons (.tup (xs:=[.str z,.int t]) (zI ?_) (.cons .str (.cons .int .nil))) .nil)
     rw[zv np2.symm,zc]
  | book ps=>
   obtain⟨b,bl,zs,rfl,hb,_,hbl,hz⟩:=wX hy2;refine⟨_,rfl,b,_,_,.str "book",rfl,rfl,hb,rfl,?_⟩;refine⟨_,rfl,rfl,_,rfl,?_⟩;refine dF ne3 ?_;refine⟨_,rfl,rfl,_,rfl,?_⟩;refine dF ne5 ?_;refine⟨_,rfl,rfl,_,rfl,?_⟩;refine dF ne6 ?_;have lz:zs.length=ps.length:=by rw[hz.length,length_map]
   refine⟨_,rfl,.inl ⟨rfl,_,zq g2⟩,_,rfl,b,_,_,.ref bl,rfl,rfl,hb,rfl,l2,bl,_,_,rfl,rfl,g2,hbl,?_,?_⟩
   ·have e1:(yM (c.take (i+1))).length=(yM (c.take i)).length+ps.length:=by rw[eP,length_append];rfl
    rw[lys,lz];exact yP (by omega)
   ·refine⟨_,_,ys++zs,rfl,zU s2 f2 _,?_,zc,?_⟩
    ·rw[zv n12,g1,eT];show _=some (HO.lst ((yL (c.take i)++[]).map V.int));rw[append_nil]
    ·rw[eP,map_append]
     exact xu (keepP (.inr ⟨_,g2⟩) gp) (keepP (.inr ⟨_,g2⟩) hz)
 ·rintro σ H2 ⟨v3,v4,ys,rfl,s2,g1,g2,gp⟩
  refine⟨_,rfl,_,rfl,y7,fun p hp=>?_⟩;have hl:xs.length=c.length:=by rw[hc.length,length_map]
  rw[hl,take_length] at g1 gp;refine q p _ (s2.trans (zk hp _)) ⟨l1,l2,ys,h1,f2,n12,s2.free hp,zc,?_,?_,zH (fun _ _ z=>z.same (zk hp _)) gp⟩
  ·rw[zv (zu g1 hp)];exact g1
  ·rw[zv (zu g2 hp)];exact g2
theorem wY{A B:Prop}{b:Bool}(h:b=true)(a:A):if b=true then A else B:=by rw[h];exact yp a
theorem vt{A B:Prop}{b:Bool}(h:b=false)(a:B):if b=true then A else B:=by rw[h];exact yb a
end
section
variable {P:Program}{w:World}{K:Frag}{mg:Str->Option Value}{base:Heap}{f:Addr}{fd:FuncData}
section
variable {H H':Hp}{p l1 l2 l:Addr}{ys:List V}{ts:List Int}{ps:List (Str×Int)}{o:HO}
end
end
section
variable {P:Program}{w:World}{K:Frag}{mg:Str->Option Value}{base:Heap}{f CF:Addr}{fd:FuncData}{c:C5}{m:MA}
structure zg3(c:C5)(CF:Addr)(H:Hp)(f:Addr)(rows:List Rw)(bars:List Str):Prop where
 at_:zg4 c CF H f rows bars
 lr:rows.length<=500
 lb:bars.length<=500
 ok:∀r∈rows,r.ok
end
end K92
namespace L2
open PySem PySem.Spec PyProof.Rows
section
variable {X:Cx}
end
end L2
namespace L2
open PySem PySem.Spec PyProof.Rows PySem.Builtin
section
variable {prog:Program}{w:World}{A:Around}{E:VSP}{s:Shared}{it l ea C t:Addr}{od:Option Addr}{tb:Value}{i:Nat}{items:Array Value}{Q:Option Value->Shared->Prop}
variable {X:Cx}{tg:Expr}
variable {sc:Scope}{elt iter:Expr}{ifs:List Expr}{g:TG}{tt:TT}{te:TE}{ow:List Nat}{pos:Pos}
end
end L2
namespace L2
open PySem PySem.Spec PyProof.Rows
section
variable {X:Cx}
variable {hs:List ExceptHandler}{th:HK}{c n:Str}{C':Addr}{i:Nat}{ts:TS}{b₀:Stmt}{suite:List Stmt}{np hpos:Pos}
variable {P:Program}{w:World}{K:Frag}{mg:Str->Option Value}{base:Heap}
variable {k:Nat}{f ea:Addr}{fd:FuncData}{ps:List Str}{sp:Addr->Sp}{x:Str}{p pos:Pos}{e:Expr}{es:List Expr}{t:TA}
end
end L2
namespace K92
open PySem L2 PyProof.Rows
section
variable {P:Program}{w:World}{K:Frag}{mg:Str->Option Value}{base:Heap}{f CF:Addr}{fd:FuncData}{c:C5}{m:MA}
variable {H H' H'':Hp}{lp lt ll de u:Addr}{S:FS}{r:Rw}{z:Str}{b:Bool}
end
end K92
namespace L2
open PySem PySem.Spec PyProof.Rows
theorem zh8{n:Nat}(h:n<=1000):n<=sizeLine:=le_of_lt (yu h)
theorem zaq{α : Type}{ys:List α}{i:Nat}{y : α}(keep : α->Bool)(hy:ys[i]?=some y):(ys.take (i+1)).filter keep=(ys.take i).filter keep++(if keep y=true then [y] else []):=by
 have hi:i<ys.length:=(List.getElem?_eq_some_iff.mp hy).1;have e:ys[i]=y:=(List.getElem?_eq_some_iff.mp hy).2;rw[take_succ_eq_append_getElem hi,filter_append,e,filter_cons];rfl
theorem ziq{α : Type}{ys:List α}{i:Nat}(keep : α->Bool):((ys.take i).filter keep).length<=i:=by
 have:=length_filter_le keep (ys.take i)
 rw[length_take] at this;omega
theorem zkJ{α : Type}{K:Frag}{a:Addr}{xs:List V}{caps:List (Option Nat)}{g:TG}{tt:TT}{te:TE}{σ : L2.St}{H1:Hp}{Q:VK}{D:Addr}(ys:List α)(keep : α->Bool)(out : α->V)(hD:H1 D=none)(ha:SqL K H1 a xs)(hl:xs.length=ys.length)(hn:xs.length<=1000)
  (hs:∀(i:Nat) (x:V) (y : α) (H:Hp) (N:VK) (S:Hp->Prop),xs[i]?=some x->ys[i]?=some y->zx H1 H->(∀H',zx H H'->keep y=true->N (out y) H')->(∀H',zx H H'->keep y=false->S H')->g x (xk caps σ) H fun σ2 H2=>tt σ2 H2 fun ok H3=>(ok=true->te σ2 H3 N)/\(ok=false->S H3))
  (hd:∀H,zx H1 H->H D=some (.lst ((ys.filter keep).map out))->Q (.ref D) H):LCr (Itl K a) caps g tt te σ H1 Q D:=by
 refine wF (K:=K) (xs:=xs) (fun i zs H'=>zx H1 H'/\H' D=some (.lst zs)/\zs=((ys.take i).filter keep).map out) ⟨zk hD _,zc,rfl⟩ (fun i zs H' h=>h.1.seq ha) ?_ ?_
 ·rintro i x zs H' hlt hx ⟨sH,hDy,ez⟩
  obtain⟨y,hy⟩:∃y,ys[i]?=some y:=⟨_,getElem?_eq_getElem (by omega)⟩
  refine hs i x y H' _ _ hx hy sH (fun H2 s2 hk=>?_) (fun H2 s2 hk=>?_)
  ·refine lcN.mk hlt (zh8 hn) (s2 _ _ hDy) (by rw[ez,length_map];exact ziq _) ⟨fun b' u e=>?_,zc,?_⟩
   ·rw[zv (zu e hD)]
    exact s2 _ _ (sH b' u e)
   ·rw[ez,zaq keep hy,if_pos hk,map_append]
    rfl
  ·refine lcS.mk hlt ⟨sH.trans s2,s2 _ _ hDy,?_⟩
   rw[ez,zaq keep hy,if_neg (by rw[hk];exact zft),append_nil]
 ·rintro zs H2 ⟨s2,hDy,ez⟩
  rw[take_of_length_le (by omega)] at ez
  rw[ez] at hDy;exact hd H2 s2 hDy
end L2
namespace K92
open PySem L2 PyProof.Rows
section
variable {P:Program}{w:World}{K:Frag}{mg:Str->Option Value}{base:Heap}{f:Addr}{fd:FuncData}
variable {c:C5}
variable {ok:Addr->Prop}{H:Hp}{n:Nat}
end
end K92
namespace L2
open PySem PySem.Spec PyProof.Rows
end L2
namespace K92
open PySem L2 PyProof.Rows
section
variable {K:Frag}{H0 H' H'':Hp}{l a b:Addr}{vs ys:List V}{ct:List yU}{ts:List Int}{ps:List (Str×Int)}
variable {P:Program}{w:World}{mg:Str->Option Value}{base:Heap}{f:Addr}{fd:FuncData}
end
end K92
namespace L2
open PySem PySem.Spec PyProof.Rows PySem.Builtin
section
variable {prog:Program}{w:World}{A:Around}{E:VSP}{s:Shared}{it l ea C t:Addr}{od:Option Addr}{tb:Value}{i:Nat}{items:Array Value}{Q:Option Value->Shared->Prop}
variable {tt:Addr}
end
end L2
namespace L2
open PySem PySem.Spec PyProof.Rows
section
variable {X:Cx}{tg:Expr}
theorem zg9{α : Type}{R:Addr->α->Prop}{us:List Addr}{rows:List α}(h:Paired R us rows)(keep : α->Bool)(out : α->V):((us.zip rows).filter fun p=>keep p.2).map (fun p=>out p.2)=(rows.filter keep).map out:=by
 induction h with
 | nil=>rfl
 | cons r t ih=>
  rename_i u y us ys;rw[List.zip_cons_cons,filter_cons,filter_cons];cases hk:keep y with
  | true=>rw[if_pos rfl,if_pos rfl,map_cons,map_cons,ih]
  | false=>rw[if_neg zft,if_neg zft,ih]
theorem zkI{α : Type}{K:Frag}{a:Addr}{us:List Addr}{rows:List α}{caps:List (Option Nat)}{g:TG}{tt:TT}{te:TE}{σ : L2.St}{H1:Hp}{Q:VK}{D:Addr}(R:Hp->Addr->α->Prop)(keep : α->Bool)(out:Addr->α->V)(hD:H1 D=none)(ha:H1 a=some (.lst (us.map V.ref)))(hu:Paired (R H1) us rows)(hn:rows.length<=1000)
  (hs:∀(i:Nat) (u:Addr) (y : α) (H:Hp) (N:VK) (S:Hp->Prop),us[i]?=some u->rows[i]?=some y->R H1 u y->zx H1 H->(∀H',zx H H'->keep y=true->N (out u y) H')->(∀H',zx H H'->keep y=false->S H')->g (.ref u) (xk caps σ) H fun σ2 H2=>tt σ2 H2 fun ok H3=>(ok=true->te σ2 H3 N)/\(ok=false->S H3))
  (hd:∀H,zx H1 H->H D=some (.lst (((us.zip rows).filter fun p=>keep p.2).map fun p=>out p.1 p.2))->Q (.ref D) H):LCr (Itl K a) caps g tt te σ H1 Q D:=by
 have hl:us.length=rows.length:=hu.length;have lz:(us.zip rows).length=rows.length:=by rw[List.length_zip,hl,Nat.min_self]
 refine zkJ (K:=K) (xs:=us.map V.ref) (us.zip rows) (fun p=>keep p.2) (fun p=>out p.1 p.2) hD (zq ha) (by rw[length_map,lz,hl]) (by rw[length_map,hl];exact hn) (fun i x y H N S hx hy sH n1 s1=>?_) hd
 have hi:i<rows.length:=by rw[<- lz];exact(List.getElem?_eq_some_iff.mp hy).1
 have e1:(us.zip rows)[i]?=some (us[i],rows[i]):=by
  rw[getElem?_eq_getElem (by omega),List.getElem_zip]
 rw[e1] at hy;cases hy;have hu1:us[i]?=some us[i]:=getElem?_eq_getElem (by omega)
 rw[getElem?_map,hu1] at hx;cases hx;obtain⟨d,hd',hr⟩:=Paired.get hu hu1;have e2:rows[i]?=some rows[i]:=getElem?_eq_getElem hi;rw[e2] at hd';cases hd';exact hs i us[i] rows[i] H N S hu1 e2 hr sH n1 s1
variable {pins:PnL}{σ:St}{e o:Expr}{es:List Expr}{ta:TE}{t:TA}{E:XK}{m:Str}{pos apos:Pos}{k:Nat}{f C:Addr}{fd:FuncData}{ps:List Str}{sp:Sp}
theorem Inv.turnedL{X:Cx}{pins:PnL}{σ : St}{H:Hp}{s:Shared}{h':Heap}{t':Nat}{ch:List Addr}(I:Inv X pins σ H s)(hf:∀b∈ch,wN X pins H b)(k:∀b o,b∉ch->s.heap.get? b=some o->h'.get? b=some o):Inv X pins σ H { s with heap:=h',toks:=t' }:=by
 have nit:∀b u,H b=some u->b∉ch:=fun b u e z=>by rw[(hf b z).1] at e;cases e
 refine I.step (g':=s.gens) (d':=s.drawn) (ch:=ch) (fun b hb=>?_) (fun b o _ _ hc e _=>k b o hc e) (fun b o _ _ hc e _=>⟨o.slots,k b o hc e⟩) (fun _ _ _ _ n=>n)
  (fun b o hc e=>⟨o,k b o hc e⟩) (fun _ _ e=>e) (fun _ _ _ e=>e) (fun b ps e=>⟨#[],by rw[e];simp⟩) (fun m hm=>?_) (fun b u e=>?_) I.bare
 ·obtain⟨f0,f1,f2,f3,f4,f5⟩:=hf b hb
  exact⟨f3,f1,f4,f5⟩
 ·obtain⟨o,es,ep,ho,r⟩:=hm
  exact⟨o,es,ep,k _ o (fun z=>(hf _ z).2.1 rfl) ho,r⟩
 ·refine(I.hok b u e).stay (fun c v hc q=>k c v ?_ q) (fun _ q=>q) fun _ _ q=>q
  rcases hc with z|z
  ·rw[z];exact nit b u e
  ·exact nit c _ z
variable {elts:List Expr}{x1:Nat}{tpos:Pos}
variable {P:Program}{w:World}{A:Around}{R:Result->Shared->Prop}{I:Addr}{fp wr:List Addr}{G:Array GenState->Array GenState->Prop}{n:Nat}{Pr:Nat->Value->Prop}{Sg:Nat->Shared->Prop}
end
end L2
namespace K92
open PySem L2 PyProof.Rows
section
variable {P:Program}{w:World}{K:Frag}{mg:Str->Option Value}{base:Heap}{f CF N:Addr}{fd:FuncData}{c:C5}
end
end K92
namespace L2
open PySem PySem.Spec PyProof.Rows
end L2
namespace K92
open PySem L2 PyProof.Rows
structure ze1(mg:Str->Option Value):Prop where
 isi:mg "isinstance"=none
 int:mg "int"=none
 len:mg "len"=none
 range:mg "range"=none
 list:mg "list"=none
 zip:mg "zip"=none
 max:mg "max"=none
def ziS:Sp:=fun vs H Q _=>∃(c:Int) (k:Nat),vs=[.int c,.int k]/\k<=1000/\∀m:Int,0<=m->m<2147483587->Q (.int m) H
section
variable {P:Program}{w:World}{K:Frag}{mg:Str->Option Value}{base:Heap}{f:Addr}{fd:FuncData}
theorem zli:zD ["_law_script","_law_k"] ["_law_script","_law_k"] (zr zjQ):=fsc
theorem zi8:zD ["_law_cell","_law_k","_law_number"] ["_law_cell","_law_k"] (zr zjR):=fsc
theorem zkn(F:Fun K "_law_mix" "_law_mix" zjR f fd):zL P w K mg base CX0 1 f fd ["_law_cell","_law_k"] ziS:=by
 refine F.ok zi8 (fun cdv A outer s H vs Q E hr h=>?_);obtain⟨c,k,rfl,hk,q⟩:=h;refine⟨_,zp (zC (i:=2) zi8.nd rfl (Or.inl rfl) (zt zZ (zt yJ (zt yJ (zt xX (zt zZ (pv 0) zj) zj) (zt xX (zt xX (pv 1) (pv 1)) zj)) (zt xX zj (pv 1))) zj))
  (zm (zB (zt zZ (zt yJ (zt yJ (zt xX (pv 2) (pv 2)) (zt xX zj (pv 2))) (pv 1)) zj))),?_⟩
 have k0:(0:Int)<=(k:Int):=by omega
 have k1:(k:Int)<=1000:=by omega
 refine⟨_,rfl,_,_,rfl,rfl,(by show(0:Int)<2147483629;decide),_,_,rfl,rfl,.inr ⟨by decide,by decide⟩,_,rfl,_,rfl,_,_,rfl,rfl,.inl ⟨by omega,by omega⟩,_,_,rfl,rfl,.inr ⟨by decide,by decide⟩,_,_,rfl,rfl,_,rfl,_,_,rfl,rfl,.inl ⟨by decide,by decide⟩,_,_,rfl,rfl,_,_,rfl,rfl,(by show(0:Int)<2147483647;decide),?_⟩
 have h1 : 0<=(c % 2147483629 * 48271+(k:Int) * (k:Int) * 7919+31 * (k:Int)) % 2147483647:=emod_nonneg _ (by decide)
 have h2:(c % 2147483629 * 48271+(k:Int) * (k:Int) * 7919+31 * (k:Int)) % 2147483647<2147483647:=emod_lt_of_pos _ (by decide)
 refine⟨_,rfl,_,rfl,_,_,rfl,rfl,.inl ⟨by omega,by omega⟩,_,rfl,_,_,rfl,rfl,.inl ⟨by decide,by decide⟩,_,_,rfl,rfl,_,rfl,_,_,rfl,rfl,_,_,rfl,rfl,(by show(0:Int)<2147483587;decide),q _ (emod_nonneg _ (by decide)) (emod_lt_of_pos _ (by decide))⟩
theorem zG(x y:Str):(x++y).length=x.length+y.length:=by
 show(x.cps++y.cps).size=_;rw[Array.size_append];rfl
theorem ziE(x y:Str):(x++y).cps.toList=x.cps.toList++y.cps.toList:=by
 show(x.cps++y.cps).toList=_;rw[Array.toList_append]
theorem zh4:(Str.ofString "").cps.toList=[]:=by decide +kernel
theorem zih{ts:List Int}{i:Nat}{x:V}(h:(ts.map V.int)[i]?=some x):∃t,ts[i]?=some t/\x=.int t:=by
 rw[getElem?_map] at h;cases e:ts[i]? with
 | none=>rw[e] at h;cases h
 | some it=>rw[e] at h;exact⟨it,rfl,(Option.some.inj h).symm⟩
theorem zcR{K:Frag}{ok:Addr->Prop}{H H':Hp}{zs:List V}{ps:List (Str×Int)}(s:zx H H')(r:Paired (zS K ok H 1) zs (ps.map xC)):Paired (zS K ok H' 1) zs (ps.map xC):=zH (fun _ _ z=>z.same s) r
theorem zhs{K:Frag}{ok ok':Addr->Prop}{H:Hp}(hk:∀b,ok b->H b≠none->ok' b){n:Nat}{x:V}{d:Dt}(h:zS K ok H n x d):zS K ok' H n x d:=
 h.frame (fun a xs z=>z) fun a xs oa z=>⟨hk a oa (by rw[z];intro q;cases q),z⟩
theorem zbO{K:Frag}{ok ok':Addr->Prop}{H3:Hp}:∀{ps:List (Str×Int)}{zs:List V},Paired (zS K ok H3 1) zs (ps.map xC)->Paired (zS K ok' H3 1) zs (ps.map xC)
 | [],_,r=>by cases r;exact .nil
 | p::ps,_,r=>by
  cases r with
  | cons h r=>
   refine .cons ?_ (zbO r);obtain⟨b,ws,rfl,hS',r'⟩:=xP h;exact .tup hS' (zH (fun _ _ z=>z) r')
theorem vZ{K:Frag}{ok:Addr->Prop}{H:Hp}{n:Nat}:∀(ts:List Int),Paired (zS K ok H n) (ts.map V.int) (ts.map Dt.int)
 | []=>.nil
 | _::ts=>.cons .int (vZ ts)
theorem xr{α : Type}{l:List α}{i:Nat}{x : α}(h:l[i]?=some x):l.take (i+1)=l.take i++[x]:=by
 rw[take_add_one,h];rfl
theorem zbq{K:Frag}{H3:Hp}{o:HO}{l b:Addr}{zs:List V}(hl:H3 l=none\/(∃zs,H3 l=some (.lst zs)))(hz:SqT K H3 b zs):SqT K (upd H3 l o) b zs:=by
 rcases hz with (z|⟨u,z⟩)|z
 ·refine .inl (.inl ?_)
  have:b≠l:=fun e=>by
   subst e;rcases hl with e|⟨_,e⟩
   ·rw[e] at z;cases z
   ·rw[e] at z;cases z
  rw[zv this];exact z
 ·refine .inl (.inr ⟨u,?_⟩)
  have:b≠l:=fun e=>by
   subst e;rcases hl with e|⟨_,e⟩
   ·rw[e] at z;cases z
   ·rw[e] at z;cases z
  rw[zv this];exact z
 ·exact .inr z
theorem uK{K:Frag}{ok ok':Addr->Prop}{H:Hp}{o:HO}{l:Addr}(hl:H l=none\/(∃zs,H l=some (.lst zs)))(hk:∀b,ok b->H b≠none->ok' b/\b≠l){n:Nat}{x:V}{d:Dt}(h:zS K ok H n x d):zS K ok' (upd H l o) n x d:=
 h.frame (fun a xs z=>zbq hl z) fun a xs oa z=>by
  have:=hk a oa (by rw[z];intro q;cases q)
  exact⟨this.1,by rw[zv this.2];exact z⟩
theorem uz{K:Frag}{ok:Addr->Prop}{H3:Hp}{o:HO}{l:Addr}(hl:H3 l=none\/(∃zs,H3 l=some (.lst zs))):∀{ps:List (Str×Int)}{zs:List V},Paired (zS K ok H3 1) zs (ps.map xC)->Paired (zS K ok (upd H3 l o) 1) zs (ps.map xC)
 | [],_,r=>by cases r;exact .nil
 | p::ps,_,r=>by
  cases r with
  | cons h r=>
   refine .cons ?_ (uz hl r);obtain⟨b,ws,rfl,hS',r'⟩:=xP h;exact .tup (zbq hl hS') (zH (fun _ _ z=>z) r')
theorem zkU:∀m,m<26->(Str.ofString "abcdefghijklmnopqrstuvwxyz").cps.toList[m]?=some (97+m):=by decide +kernel
theorem zl6:∀m,m<2->(Str.ofString "ab").cps.toList[m]?=some (97+m):=by decide +kernel
structure Abc(z:Str)(n:Nat):Prop where
 len:z.length=n
 pos : 0<n
 le:n<=26
 at_:∀m,m<n->z.cps.toList[m]?=some (97+m)
theorem zl5:Abc "abcdefghijklmnopqrstuvwxyz" 26:=⟨by decide +kernel,by decide,by decide,zkU⟩
theorem zm4:Abc "ab" 2:=⟨by decide +kernel,by decide,by decide,zl6⟩
theorem zgq{z:Str}{ch:Nat}(hz:∀c∈z.cps.toList,97<=c/\c<=122)(hc : 97<=ch/\ch<=122):∀c∈(z++(⟨#[ch]⟩:Str)).cps.toList,97<=c/\c<=122:=by
 intro c h;rw[ziE] at h;rcases List.mem_append.mp h with h|h
 ·exact hz c h
 ·have:c=ch:=by simpa using h
  rw[this];exact hc
def zff(K:Frag):Sp:=fun vs H Q _=>∃c:Int,vs=[.int c]/\∀(r:Addr) (zs:List Str) (H':Hp),zx H H'->H r=none->H' r=some (.lst (zs.map V.str))->zs.Nodup->(∀z∈zs,zV z=true)->0<zs.length->zs.length<=30->Q (.ref r) H'
theorem uG{z:Str}:∀{zs:List Str},inV (.str z) (zs.map V.str)=decide (z∈zs)
 | []=>by simp [inV]
 | y::ys=>by
  have ih:=uG (z:=z) (zs:=ys);show(eqV (.str y) (.str z)||inV (.str z) (ys.map V.str))=_
  rw[ih]
  have:eqV (.str y) (.str z)=decide (z=y):=by
   show(y==z)=_;rw[Bool.eq_iff_iff,beq_iff_eq,decide_eq_true_eq];exact⟨Eq.symm,Eq.symm⟩
  rw[this];simp
theorem w4:∀{zs:List Str},(zs.map V.str).all vK=true
 | []=>rfl
 | _::ys=>by
  show(true&&(ys.map V.str).all vK)=true;rw[w4];rfl
theorem wH:zD ["_law_cell","_law_letters","_law_pool_here","_law_k","_law_number","_law_rest","_law_name","_law_j"] ["_law_cell"] (zr zfD):=fsc
theorem zhT{g:Addr}{gd:FuncData}(F:Fun K "_law_pool" "_law_pool" zfD f fd)(T:ze1 mg)(cM:z8 P w K mg base 1 "_law_mix" g gd ["_law_cell","_law_k"] ziS):zL P w K mg base CX0 2 f fd ["_law_cell"] (zff K):=by
 refine F.ok wH (fun cdv A outer s H vs Q E hr h=>?_);obtain⟨cc,rfl,q⟩:=h;refine⟨_,zp (zC (i:=1) wH.nd rfl (Or.inl rfl) (zK yn (zP (ac zo (ac zo zi))) (zt zZ (pv 0) zj) (fun _ _=>rfl)))
  (zp (zC (i:=2) wH.nd rfl (Or.inl rfl) (zP zi))
  (zp (y8 PassesOwn.never rfl (xJ rfl T.range (ac zj zi)) (zF (i:=3) wH.nd rfl (Or.inl rfl))
   (zp (zC (i:=4) wH.nd rfl (Or.inl rfl) (cF cM hr (ac (pv 0) (ac (pv 3) zi))))
   (zp (zC (i:=5) wH.nd rfl (Or.inl rfl) (zt yf (pv 4) zj))
   (zp (zC (i:=6) wH.nd rfl (Or.inl rfl) zo)
   (zp (y8 PassesOwn.never rfl (xJ rfl T.range (ac (zt yJ zj (zt zZ (pv 4) (zK yn (zP (ac zj (ac zj zi))) (zt zZ (pv 0) zj) (fun _ _=>rfl)))) zi)) (zF (i:=7) wH.nd rfl (Or.inl rfl))
    (zp (zC (i:=6) wH.nd rfl (Or.inl rfl) (zt zA (pv 6) (zK wt (pv 1) (zt zZ (pv 5) (cB yg T.len PySem.boot_len (ac (pv 1) zi))) (fun _ _=>rfl))))
    (zm (zC (i:=5) wH.nd rfl (Or.inl rfl) (zt yf (pv 5) (cB yg T.len PySem.boot_len (ac (pv 1) zi)))))))
   (zm (zJ (zw xl (pv 6) (pv 2) (by with_unfolding_all rfl)) (zm (zW (z7 PySem.F.plainAttrs_list PySem.F.slot_list_append PySem.F.type_list_append z9 (pv 2) (ac (pv 6) zi)))) zz)))))))
  (zm (zB (pv 2))))),?_⟩
 refine⟨y7,fun l0 hl0=>?_⟩;have s0:=zk hl0 (.lst [.str "ab",.str "abcdefghijklmnopqrstuvwxyz"]);have g0:upd H l0 (.lst [.str "ab",.str "abcdefghijklmnopqrstuvwxyz"]) l0=some (.lst [.str "ab",.str "abcdefghijklmnopqrstuvwxyz"]):=zc;generalize upd H l0 (.lst [.str "ab",.str "abcdefghijklmnopqrstuvwxyz"])=H0 at s0 g0 |-;obtain⟨L,nL,hA,bb,hb,hbp,hb8,hat,hatb⟩:∃(L:Str) (nL:Nat),Abc L nL/\∃bb:Nat,(bb=3\/bb=8)/\0<bb/\bb<=8/\atI ([.str "ab",.str "abcdefghijklmnopqrstuvwxyz"]:List V) (cc % 2)=some (.str L)/\atI ([.int 3,.int 8]:List V) (cc % 2)=some (.int (bb:Nat)):=by
  have h:cc % 2=0\/cc % 2=1:=by omega
  rcases h with h|h
  ·exact⟨"ab",2,zm4,3,.inl rfl,by decide,by decide,by rw[h];rfl,by rw[h];rfl⟩
  ·exact⟨_,26,zl5,8,.inr rfl,by decide,by decide,by rw[h];rfl,by rw[h];rfl⟩
 refine⟨_,rfl,_,_,rfl,rfl,zp2,l0,_,_,.str L,rfl,rfl,zq g0,hat,?_⟩;refine⟨vc,fun lp hlp=>?_⟩;have s1:=zk hlp (.lst []);have g1:upd H0 lp (.lst []) lp=some (.lst []):=zc;dsimp only[yc];generalize upd H0 lp (.lst [])=H1 at s1 g1 |-;have s01:=s0.trans s1;have nlp:H lp=none:=s0.free hlp;obtain⟨mm,em,hm0,hm1⟩:∃mm:Nat,mm=12/\0<mm/\mm<=30:=⟨12,rfl,by decide,by decide⟩
 refine⟨(mm:Int),by rw[em];rfl,by omega,by omega,?_⟩
 rw[show((mm:Int)).toNat=mm from rfl];refine zan (n:=mm) (fun i σ H'=>∃(zs:List Str) (v3 v4 v5 v6 v7:Option V),σ=[some (.int cc),some (.str L),some (.ref lp),v3,v4,v5,v6,v7]/\zx H H'/\H' lp=some (.lst (zs.map V.str))/\zs.Nodup/\(∀z∈zs,zV z=true)/\zs.length<=i/\(0<i->0<zs.length)) ⟨[],_,_,_,_,_,rfl,s01,g1,nodup_nil,(fun _ h=>nomatch h),le_refl _,fun h=>absurd h (by decide)⟩ ?_ ?_
 rotate_left
 ·rintro σ H2 ⟨zs,v3,v4,v5,v6,v7,rfl,s2,e2,nd,nm,ln,l0'⟩
  exact⟨_,rfl,q lp zs H2 s2 nlp e2 nd nm (l0' hm0) (by omega)⟩
 rintro i σ H2 hi ⟨zs,v3,v4,v5,v6,v7,rfl,s2,e2,nd,nm,ln,l0'⟩;rw[Int.zero_add];refine⟨_,rfl,_,rfl,cc,i,rfl,by omega,fun m m0 m1=>?_⟩
 refine⟨_,rfl,_,_,rfl,rfl,⟨by decide,by decide⟩,?_⟩
 have b0 : 0<=m % (bb:Int):=emod_nonneg _ (by omega)
 have b1:m % (bb:Int)<(bb:Int):=emod_lt_of_pos _ (by omega)
 refine⟨_,rfl,y7,fun l3 hl3=>?_⟩;have s3:=zk hl3 (.lst [.int 3,.int 8]);have g3:upd H2 l3 (.lst [.int 3,.int 8]) l3=some (.lst [.int 3,.int 8]):=zc;generalize upd H2 l3 (.lst [.int 3,.int 8])=H3 at s3 g3 |-;have s13:=s2.trans s3;have e3:=s3 _ _ e2;refine⟨_,rfl,_,_,rfl,rfl,zp2,l3,_,_,.int (bb:Nat),rfl,rfl,zq g3,hatb,_,_,rfl,rfl,(by show(0:Int)<(bb:Int);omega),_,_,rfl,rfl,1+m % (bb:Int),rfl,by omega,by omega,?_⟩
 have hn:(1+m % (bb:Int)).toNat<=8/\1<=(1+m % (bb:Int)).toNat:=by omega
 generalize (1+m % (bb:Int)).toNat=n at hn;refine zan (n:=n) (fun j σ H'=>∃(r:Int) (z:Str) (v7:Option V),σ=[some (.int cc),some (.str L),some (.ref lp),some (.int (i:Nat)),some (.int m),some (.int r),some (.str z),v7]/\H'=H3/\z.length=j/\∀c∈z.cps.toList,97<=c/\c<=122)
  ⟨m / 8,"",_,rfl,rfl,rfl,fun c hc=>by rw[show("" : Str).cps.toList=[] from zh4] at hc;cases hc⟩ ?_ ?_
 ·rintro j σ H' hj ⟨r,z,v7,rfl,rfl,hl,hc⟩
  have lenL:(L.length:Int)=(nL:Int):=by rw[hA.len]
  have szL:L.length<=sizeLine:=by rw[hA.len];exact yP (by have:=hA.le;omega)
  have p0:=hA.pos;have p26:=hA.le;have d0 : 0<=r % (nL:Int):=emod_nonneg _ (by omega)
  have d1:r % (nL:Int)<(nL:Int):=emod_lt_of_pos _ (by omega)
  obtain⟨k,hk⟩:=Int.eq_ofNat_of_zero_le d0;have hkn:k<nL:=by omega
  refine⟨_,rfl,_,rfl,_,rfl,_,rfl,L,rfl,szL,_,_,rfl,rfl,(by rw[lenL];omega),L,_,97+k,rfl,rfl,szL,(by rw[lenL,hk];exact ue (hA.at_ k hkn)),_,_,rfl,rfl,(by rw[hl];exact yP (by show j+1<=1000;omega)),?_⟩
  refine⟨_,rfl,_,rfl,L,rfl,szL,_,_,rfl,rfl,⟨by rw[lenL];omega,by rw[lenL];omega⟩,?_⟩
  refine⟨_,_,_,rfl,rfl,?_,zgq hc (by omega)⟩
  rw[zG,hl];rfl
 ·rintro σ H' ⟨r,z,v7,rfl,rfl,hl,hc⟩
  have hzn:zV z=true:=yS.mpr ⟨by omega,by omega,hc⟩
  refine⟨_,rfl,_,rfl,lp,_,rfl,.inl (zq e3),rfl,w4,_,rfl,?_⟩;by_cases hm:z∈zs
  ·refine vt (by rw[if_pos rfl,uG,decide_eq_true hm];rfl) ?_
   exact⟨zs,_,_,_,_,_,rfl,s13,e3,nd,nm,Nat.le_succ_of_le ln,fun _=>List.length_pos_of_mem hm⟩
  ·refine wY (by rw[if_pos rfl,uG,decide_eq_false hm];rfl) ?_
   refine⟨_,rfl,.inl ⟨rfl,_,zq e3⟩,_,rfl,lp,_,_,rfl,rfl,e3,yu (by rw[length_map];omega),?_⟩
   refine⟨zs++[z],_,_,_,_,_,rfl,fun b u e=>by rw[zv (zu e nlp)];exact s13 _ _ e,by rw[zc,map_append];rfl,List.nodup_append.mpr ⟨nd,by simp,fun x hx y hy e=>hm (by rw[<- List.mem_singleton.mp hy,<- e];exact hx)⟩,fun y hy=>?_,by rw[length_append];exact Nat.succ_le_succ ln,fun _=>by rw[length_append];exact Nat.succ_pos _⟩
   rcases List.mem_append.mp hy with hy|hy
   ·exact nm y hy
   ·rw[List.mem_singleton.mp hy];exact hzn
variable {H H' H'':Hp}{lg g0 g1 g2 g3 ll u:Addr}{S:FS}{r:Rw}{z:Str}{b:Bool}{us:List Addr}
theorem zhu{r:Rw}(h:r.ok):atI (rv r) 0=some (.str (kw r.k)):=by
 obtain⟨k,z,b⟩:=r;rcases lt5 h.1 with e|e|e|e|e <;> (cases e;rfl)
theorem zht{r:Rw}(h:r.ok):atI (rv r) 1=some (.str r.z):=by
 obtain⟨k,z,b⟩:=r;rcases lt5 h.1 with e|e|e|e|e <;> (cases e;rfl)
theorem zkP{k:Nat}(h:k<5):inV (.str (kw k)) [.str "both",.str "tag"]=ug k:=zdT k h
theorem zh3{R:Addr->Rw->Prop}{us:List Addr}{rows:List Rw}(h:Paired R us rows):((us.zip rows).filter fun p=>ug p.2.k).map (fun p=>V.str p.2.z)=(nms rows).map V.str:=by
 have:=zg9 h (fun r=>ug r.k) (fun r=>V.str r.z)
 rw[this];unfold nms;rw[map_map];rfl
theorem zlJ:([Str.ofString "_law_one"]:List Str).Nodup:=by decide +kernel
theorem uI:zD ["_law_cells","_law_pool_here","_law_specs_here","_law_seen","_law_shut","_law_cell","_law_name"] ["_law_cells","_law_pool_here","_law_specs_here"] (zr zfJ):=fsc
def xq(c:Int):Int:=if V.int (c % 2)=V.int 0 then c / 2 % 41 - 20 else c / 2 % (2 * 10 ^ (60:Int).toNat - 1) - (10 ^ (60:Int).toNat - 1)
def zdn:Sp:=fun vs H Q _=>∃c:Int,vs=[.int c]/\Q (.int (xq c)) H
theorem zhl:zD ["_law_cell"] ["_law_cell"] (zr zcB):=fsc
theorem zgc(F:Fun K "_law_thing" "_law_thing" zcB f fd):zL P w K mg base CX0 1 f fd ["_law_cell"] zdn:=by
 refine F.ok zhl (fun cdv A outer s H vs Q E hr h=>?_);obtain⟨c,rfl,q⟩:=h;unfold xq at q;refine⟨_,zp (zJ (zw yi (zt zZ (pv 0) zj) zj (zE _)) (zm (zB (zt uB (zt zZ (zt yf (pv 0) zj) zj) zj))) zz)
  (zm (zB (zt uB (zt zZ (zt yf (pv 0) zj) (zt uB (zt xX zj (zt zf8 zj zj)) zj)) (zt uB (zt zf8 zj zj) zj)))),?_⟩
 refine⟨_,rfl,_,_,rfl,rfl,zp2,rfl,_,rfl,?_⟩;refine jf (fun h=>?_) (fun h=>?_)
 ·rw[if_pos (of_decide_eq_true h)] at q
  exact⟨_,rfl,_,_,rfl,rfl,⟨by decide,by decide⟩,_,_,rfl,rfl,(by show(0:Int)<41;decide),_,_,rfl,rfl,q⟩
 ·rw[if_neg (fun z=>h (decide_eq_true z))] at q
  exact⟨_,rfl,_,_,rfl,rfl,⟨by decide,by decide⟩,_,_,rfl,rfl,⟨by decide,by decide,by decide⟩,_,_,rfl,rfl,.inl ⟨by decide,by decide⟩,_,_,rfl,rfl,_,_,rfl,rfl,(by show(0:Int)<2 * 10 ^ Int.toNat 60 - 1;decide +kernel),_,_,rfl,rfl,⟨by decide,by decide,by decide⟩,_,_,rfl,rfl,_,_,rfl,rfl,q⟩
def jE(zs:List Str)(i:Int):Str:=zs.getD (i % (zs.length:Int)).toNat ""
def zel(rest:Int):List Int:=(List.range (rest % 5).toNat).map fun (k:Nat)=>xq (rest+(k:Int) * (k:Int))
def wK(zs:List Str)(rest:Int):List Str:=(List.range (rest % 4).toNat).map fun (k:Nat)=>jE zs (rest+(k:Int) * (1+rest / 5 % 3))
def qJ(zs:List Str)(rest:Int):List (Str×Int):=(wK zs rest).map fun z=>(z,xq (rest / 5+(z.length:Int)))
def xA(zs:List Str)(c:Int):yU:=
 if c % 8<3 then .one (xq (c / 8)) else if V.int (c % 8)=V.int 3 then .row (zel (c / 8)) else if V.int (c % 8)=V.int 7 then .book (qJ zs (c / 8)) else .named (jE zs (c / 8)) (xq (c / 8 / 3))
theorem zbR{zs:List Str}(h : 0<zs.length)(x:Int):atI (zs.map V.str) (x % ((zs.map V.str).length:Int))=some (.str (jE zs x))/\jE zs x∈zs:=by
 have lz:(0:Int)<(zs.length:Int):=by omega
 have h0:=emod_nonneg x (Int.ne_of_gt lz);have h1:=emod_lt_of_pos x lz;rw[length_map];obtain⟨v,hv,hat,hg⟩:=uY (xs:=zs.map V.str) h0 (by rw[length_map];exact h1)
 rw[getElem?_map] at hg;have hk:(x % (zs.length:Int)).toNat<zs.length:=by omega
 rw[getElem?_eq_getElem hk] at hg;have e:jE zs x=zs[(x % (zs.length:Int)).toNat]:=by
  unfold jE;rw[getD_eq_getElem?_getD,getElem?_eq_getElem hk];rfl
 rw[e];have e2:v=.str zs[(x % (zs.length:Int)).toNat]:=(Option.some.inj hg).symm;rw[<- e2];exact⟨hat,getElem_mem hk⟩
def zdq(K:Frag):Sp:=fun vs H Q _=>∃(cs pl:Addr) (ns:List Int) (zs:List Str),vs=[.ref cs,.ref pl]/\SqL K H cs (ns.map V.int)/\ns.length<=63/\H pl=some (.lst (zs.map V.str))/\0<zs.length/\(∀z∈zs,z.length<=100)/\
 ∀(r:Addr) (xs:List V) (H':Hp),zx H H'->H r=none->H' r=some (.lst xs)->Paired (zS K T' H' 3) xs ((ns.map (xA zs)).map yI)->Q (.ref r) H'
theorem ndK:([Str.ofString "_law_k",Str.ofString "_law_rest"]:List Str).Nodup:=by decide +kernel
theorem ndP:([Str.ofString "_law_k",Str.ofString "_law_pool_here",Str.ofString "_law_rest"]:List Str).Nodup:=by decide +kernel
theorem ndB:([Str.ofString "_law_name",Str.ofString "_law_rest"]:List Str).Nodup:=by decide +kernel
theorem vR:zD ["_law_cells","_law_pool_here","_law_items_here","_law_cell","_law_kind","_law_rest","_law_names"] ["_law_cells","_law_pool_here"] (zr zcH):=fsc
theorem zgf{g:Addr}{gd:FuncData}(F:Fun K "_law_items" "_law_items" zcH f fd)(T:ze1 mg)(cT:z8 P w K mg base 1 "_law_thing" g gd ["_law_cell"] zdn):zL P w K mg base CX0 2 f fd ["_law_cells","_law_pool_here"] (zdq K):=by
 refine F.ok vR (fun cdv A outer s H vs Q E hr h=>?_);obtain⟨cs,pl,ns,zs,rfl,hS,h63,hpl,hz0,hz1,q⟩:=h;refine⟨_,zp (zC (i:=2) vR.nd rfl (Or.inl rfl) (zP zi))
  (zp (y8 PassesOwn.never rfl (ye (pv 0)) (zF (i:=3) vR.nd rfl (Or.inl rfl))
   (zp (zC (i:=4) vR.nd rfl (Or.inl rfl) (zt zZ (pv 3) zj))
   (zp (zC (i:=5) vR.nd rfl (Or.inr rfl) (zt yf (pv 3) zj))
   (zm (zJ (zw uj (pv 4) zj (zE _))
    (zm (zW (z7 PySem.F.plainAttrs_list PySem.F.slot_list_append PySem.F.type_list_append z9 (pv 2) (ac (zM (ac zo (ac (cF cT hr (ac (pv 5) zi)) zi))) zi))))
    (zm (zJ (zw yi (pv 4) zj (zE _))
     (zm (zW (z7 PySem.F.plainAttrs_list PySem.F.slot_list_append PySem.F.type_list_append z9 (pv 2) (ac (zM (ac zo (ac (xY ["_law_rest"] ["_law_k","_law_rest"] [none,some 5] rfl ⟨rfl,rfl,rfl,rfl⟩ (xJ rfl T.range (ac (zt zZ (pv 5) zj) zi)) (z5 0) rfl rfl rfl
      (fun pins fp s H C=>⟨zF (i:=0) ndK rfl (Or.inl rfl) (.inr rfl),yA,cF cT hr (ac (zt yJ (pv 1) (zt xX (pv 0) (pv 0))) zi)⟩)) zi))) zi))))
     (zm (zJ (zw yi (pv 4) zj (zE _))
      (zp (zae (i:=6) ["_law_rest","_law_pool_here"] ["_law_k","_law_pool_here","_law_rest"] [none,some 1,some 5] vR.nd rfl (Or.inl rfl) rfl ⟨rfl,rfl,rfl,rfl⟩ (xJ rfl T.range (ac (zt zZ (pv 5) zj) zi)) (z5 0) rfl rfl rfl
       (fun pins fp s H C=>⟨zF (i:=0) ndP rfl (Or.inl rfl) (.inr rfl),yA,zK (r:=zlv K) yn (pv 1) (zt zZ (zt yJ (pv 2) (zt xX (pv 0) (zt yJ zj (zt zZ (zt yf (pv 2) zj) zj)))) (cB (r:=fun xs H Q=>∃p ys,xs=[.ref p]/\(SqL K H p ys\/SqT K H p ys)/\Q (.int ys.length) H) zO T.len PySem.boot_len (ac (pv 1) zi))) (fun _ _=>rfl)⟩))
      (zm (zW (z7 PySem.F.plainAttrs_list PySem.F.slot_list_append PySem.F.type_list_append z9 (pv 2) (ac (zM (ac zo (ac (xY ["_law_rest"] ["_law_name","_law_rest"] [none,some 5] rfl ⟨rfl,rfl,rfl,rfl⟩ (ye (pv 6)) (z5 0) rfl rfl rfl
       (fun pins fp s H C=>⟨zF (i:=0) ndB rfl (Or.inl rfl) (.inr rfl),yA,zM (ac (pv 0) (ac (cF cT hr (ac (zt yJ (zt yf (pv 1) zj) (cB yg T.len PySem.boot_len (ac (pv 0) zi))) zi)) zi))⟩)) zi))) zi)))))
      (zm (zW (z7 PySem.F.plainAttrs_list PySem.F.slot_list_append PySem.F.type_list_append z9 (pv 2) (ac (zM (ac zo (ac (zK yn (pv 1) (zt zZ (pv 5) (cB zO T.len PySem.boot_len (ac (pv 1) zi))) (fun _ _=>rfl)) (ac (cF cT hr (ac (zt yf (pv 5) zj) zi)) zi)))) zi)))))))))))))
  (zm (zB (pv 2)))),?_⟩
 refine⟨vc,fun r hrn=>?_⟩;have sr:=zk hrn (.lst []);refine⟨_,rfl,cs,rfl,⟨_,sr.seq hS⟩,yO (K:=K) (a:=cs) (xs:=ns.map V.int) (fun i σ H2=>∃v3 v4 v5 v6 xs,σ=[some (.ref cs),some (.ref pl),some (.ref r),v3,v4,v5,v6]/\zx H H2/\H2 r=some (.lst xs)/\Paired (zS K (fun b=>b≠r) H2 3) xs (((ns.take i).map (xA zs)).map yI))
  ⟨_,_,_,_,[],rfl,sr,zc,.nil⟩ (fun i σ H2 _ ⟨_,_,_,_,_,_,s2,_⟩=>s2.seq hS) ?_ ?_⟩
 ·rintro i y σ H2 hi ⟨v3,v4,v5,v6,xs,rfl,s2,g,hx⟩
  obtain⟨c,hc,rfl⟩:=zih hi;have hil:i<ns.length:=(List.getElem?_eq_some_iff.mp hc).1;have lx:xs.length<=i:=by rw[hx.length,length_map,length_map,length_take];omega
  have hpl2:=s2 _ _ hpl;have fin:∀{H3:Hp}{x:V}{v6:Option V},zx H2 H3->zS K (fun b=>b≠r) H3 3 x (yI (xA zs c))->∃v3 v4 v5 v6' xs',[some (V.ref cs),some (.ref pl),some (.ref r),some (.int c),some (.int (c % 8)),some (.int (c / 8)),v6]=[some (V.ref cs),some (.ref pl),some (.ref r),v3,v4,v5,v6']/\zx H (upd H3 r (.lst (xs++[x])))/\upd H3 r (.lst (xs++[x])) r=some (.lst xs')/\Paired (zS K (fun b=>b≠r) (upd H3 r (.lst (xs++[x]))) 3) xs' (((ns.take (i+1)).map (xA zs)).map yI):=by
   intro H3 x v6 s3 hsx;refine⟨_,_,_,_,xs++[x],rfl,zU (s2.trans s3) hrn _,zc,?_⟩;rw[xr hc,map_append,map_append];exact xu (zH (fun _ _ z=>uK (.inr ⟨_,s3 _ _ g⟩) (fun b hb _=>⟨hb,hb⟩) (z.same s3)) hx) (.cons (uK (.inr ⟨_,s3 _ _ g⟩) (fun b hb _=>⟨hb,hb⟩) hsx) .nil)
  refine⟨_,rfl,_,_,rfl,rfl,(by show(0:Int)<8;decide),?_⟩
  refine⟨_,rfl,_,_,rfl,rfl,⟨by decide,by decide⟩,?_⟩
  refine⟨_,rfl,_,_,rfl,rfl,_,rfl,?_⟩;refine jf (fun cc=>?_) (fun cc=>?_)
  ·have c1:c % 8<3:=of_decide_eq_true cc
   have e:xA zs c=.one (xq (c / 8)):=by unfold xA;rw[if_pos c1]
   refine⟨_,rfl,.inl ⟨rfl,_,zq g⟩,_,rfl,c / 8,rfl,y7,fun tp htp=>?_⟩;have st:=zk htp (.tup [.str "one",.int (xq (c / 8))]);refine⟨r,_,_,rfl,rfl,st _ _ g,yu (by omega),?_⟩
   exact fin st (by rw[e];exact .tup (zI zc) (.cons .str (.cons .int .nil)))
  have c1:¬c % 8<3:=fun z=>cc (decide_eq_true z);refine⟨_,rfl,rfl,_,rfl,?_⟩;refine jf (fun cc2=>?_) (fun cc2=>?_)
  ·have e:xA zs c=.row (zel (c / 8)):=by unfold xA;rw[if_neg c1,if_pos (of_decide_eq_true cc2)]
   have m0 : 0<=c / 8 % 5:=emod_nonneg _ (by decide)
   have m1:c / 8 % 5<5:=emod_lt_of_pos _ (by decide)
   refine⟨_,rfl,.inl ⟨rfl,_,zq g⟩,_,rfl,_,_,rfl,rfl,(by show(0:Int)<5;decide),c / 8 % 5,rfl,by omega,by omega,fun D hD=>?_⟩
   refine vG (n:=(c / 8 % 5).toNat) (fun j ys H'=>zx H2 H'/\H' D=some (.lst ys)/\ys=((List.range j).map fun (k:Nat)=>xq (c / 8+(k:Int) * (k:Int))).map V.int) ⟨zk hD _,zc,rfl⟩ ?_ ?_
   ·rintro j ys H' hj ⟨sH,hDy,ey⟩
    have e0:(0:Int)+(j:Int)=(j:Nat):=by omega
    rw[e0];refine⟨fun _=>⟨_,rfl,_,rfl,_,rfl,_,_,rfl,rfl,.inl ⟨by omega,by omega⟩,_,_,rfl,rfl,_,rfl,lcN.mk hj (yP (by omega)) hDy (by rw[ey,length_map,length_map,length_range];exact le_refl _) ⟨zU sH hD _,zc,?_⟩⟩,fun z=>absurd z (by decide)⟩
    rw[ey,List.range_succ,map_append,map_append];rfl
   rintro ys H3 ⟨s3,hDy,ey⟩;refine⟨y7,fun tp htp=>?_⟩;have st:=zk htp (.tup [.str "row",.ref D]);refine⟨r,_,_,rfl,rfl,(s3.trans st) _ _ g,yu (by omega),?_⟩
   refine fin (s3.trans st) ?_;rw[e];have hD3:=st _ _ hDy;rw[ey] at hD3;exact .tup (zI zc) (.cons .str (.cons (.lst (zu g hD).symm hD3 (vZ _)) .nil))
  refine⟨_,rfl,rfl,_,rfl,?_⟩;refine jf (fun cc3=>?_) (fun cc3=>?_)
  ·have e:xA zs c=.book (qJ zs (c / 8)):=by unfold xA;rw[if_neg c1,if_neg (fun z=>cc2 (decide_eq_true z)),if_pos (of_decide_eq_true cc3)]
   have m0 : 0<=c / 8 % 4:=emod_nonneg _ (by decide)
   have m1:c / 8 % 4<4:=emod_lt_of_pos _ (by decide)
   refine⟨_,rfl,_,_,rfl,rfl,(by show(0:Int)<4;decide),c / 8 % 4,rfl,by omega,by omega,fun D hD=>?_⟩
   refine vG (n:=(c / 8 % 4).toNat) (fun j ys H'=>zx H2 H'/\H' D=some (.lst ys)/\ys=((List.range j).map fun (k:Nat)=>jE zs (c / 8+(k:Int) * (1+c / 8 / 5 % 3))).map V.str) ⟨zk hD _,zc,rfl⟩ ?_ ?_
   ·rintro j ys H' hj ⟨sH,hDy,ey⟩
    have e0:(0:Int)+(j:Int)=(j:Nat):=by omega
    rw[e0];have lz:(0:Int)<((zs.map V.str).length:Int):=by rw[length_map];omega
    obtain⟨hat,_⟩:=zbR hz0 (c / 8+(j:Int) * (1+c / 8 / 5 % 3));refine⟨fun _=>⟨_,rfl,_,rfl,_,rfl,_,rfl,_,_,rfl,rfl,⟨by decide,by decide⟩,_,_,rfl,rfl,zp3,_,_,rfl,rfl,_,_,rfl,rfl,.inl ⟨by omega,by omega⟩,_,_,rfl,rfl,_,rfl,pl,_,rfl,.inl (zq (sH _ _ hpl2)),_,_,rfl,rfl,lz,pl,_,_,_,rfl,rfl,zq (sH _ _ hpl2),hat,
     lcN.mk hj (yP (by omega)) hDy (by rw[ey,length_map,length_map,length_range];exact le_refl _) ⟨zU sH hD _,zc,?_⟩⟩,fun z=>absurd z (by decide)⟩
    rw[ey,List.range_succ,map_append,map_append];rfl
   rintro ys H3 ⟨s3,hDy,ey⟩;have ey':ys=(wK zs (c / 8)).map V.str:=ey;have ln:(wK zs (c / 8)).length<=3:=by unfold wK;rw[length_map,length_range];omega
   have hmem:∀z∈wK zs (c / 8),z.length<=100:=fun z hz=>by
    unfold wK at hz;obtain⟨k,_,rfl⟩:=List.mem_map.mp hz;exact hz1 _ (zbR hz0 _).2
   subst ey';refine⟨_,rfl,.inl ⟨rfl,_,zq (s3 _ _ g)⟩,_,rfl,D,rfl,⟨_,zq hDy⟩,fun D2 hD2=>?_⟩;refine wF (K:=K) (xs:=(wK zs (c / 8)).map V.str) (fun j ys H'=>zx H3 H'/\H' D2=some (.lst ys)/\Paired (zS K T' H' 1) ys ((((wK zs (c / 8)).take j).map fun z=>(z,xq (c / 8 / 5+(Str.length z:Int)))).map xC)) ⟨zk hD2 _,zc,.nil⟩ (fun j ys H' h=>zq (h.1 _ _ hDy)) ?_ ?_
   ·rintro j x ys H' hj hx2 ⟨sH,hDy2,hp⟩
    rw[length_map] at hj |-;obtain⟨z,hz,rfl⟩:∃z,(wK zs (c / 8))[j]?=some z/\x=.str z:=by
     rw[getElem?_map,getElem?_eq_getElem hj] at hx2;exact⟨_,getElem?_eq_getElem hj,(Option.some.inj hx2).symm⟩
    have zl:=hmem z (mem_of_getElem? hz);have lys:ys.length=j:=by rw[hp.length,length_map,length_map,length_take];omega
    refine⟨fun _=>⟨_,rfl,_,rfl,_,_,rfl,rfl,⟨by decide,by decide⟩,_,rfl,z,rfl,yP (by omega),_,_,rfl,rfl,_,rfl,y7,fun tp htp=>?_⟩,fun z=>absurd z (by decide)⟩
    have nD:=zu hDy2 htp;refine lcN.mk hj (yP (by omega)) (by rw[zv nD];exact hDy2) (by omega) ⟨zU (zU sH (sH.free htp) _) hD2 _,zc,?_⟩
    rw[xr hz,map_append,map_append];refine xu (uz (.inr ⟨_,by rw[zv nD];exact hDy2⟩) (uz (.inl htp) hp)) (.cons (.tup (xs:=[.str z,.int (xq (c / 8 / 5+(z.length:Int)))]) (zI ?_) (.cons .str (.cons .int .nil))) .nil)
    rw[zv nD.symm,zc]
   rintro ys H4 ⟨s4,hDy2,hp⟩;rw[length_map,take_length] at hp;have hp:Paired (zS K T' H4 1) ys ((qJ zs (c / 8)).map xC):=hp;refine⟨y7,fun tp htp=>?_⟩;have st:=zk htp (.tup [.str "book",.ref D2]);refine⟨r,_,_,rfl,rfl,(s3.trans (s4.trans st)) _ _ g,yu (by omega),?_⟩
   refine fin (s3.trans (s4.trans st)) ?_;rw[e];exact .tup (zI zc) (.cons .str (.cons (.lst (zu (s3 _ _ g) hD2).symm (st _ _ hDy2) (zbO (zcR st hp))) .nil))
  ·have e:xA zs c=.named (jE zs (c / 8)) (xq (c / 8 / 3)):=by unfold xA;rw[if_neg c1,if_neg (fun z=>cc2 (decide_eq_true z)),if_neg (fun z=>cc3 (decide_eq_true z))]
   have lz:(0:Int)<((zs.map V.str).length:Int):=by rw[length_map];omega
   obtain⟨hat,_⟩:=zbR hz0 (c / 8);refine⟨_,rfl,.inl ⟨rfl,_,zq g⟩,_,rfl,_,rfl,_,rfl,pl,_,rfl,.inl (zq hpl2),_,_,rfl,rfl,lz,pl,_,_,_,rfl,rfl,zq hpl2,hat,_,rfl,_,_,rfl,rfl,⟨by decide,by decide⟩,_,rfl,zbu,fun tp htp=>?_⟩
   have st:=zk htp (.tup [.str "named",.str (jE zs (c / 8)),.int (xq (c / 8 / 3))]);refine⟨r,_,_,rfl,rfl,st _ _ g,yu (by omega),?_⟩
   exact fin st (by rw[e];exact .tup (zI zc) (.cons .str (.cons .str (.cons .int .nil))))
 ·rintro σ H2 ⟨v3,v4,v5,v6,xs,rfl,s2,g,hx⟩
  rw[length_map,take_length] at hx;exact⟨_,rfl,q r xs H2 s2 hrn g (zH (fun _ _ z=>zhs (fun _ _ _=>True.intro) z) hx)⟩
variable {CF:Addr}{c:C5}{m:MA}
end
end K92
namespace L2
open PySem PySem.Spec PyProof.Rows
section
variable {prog:Program}{w:World}{κ : Type}[DecidableEq κ] {knd:HeapKind prog w κ}{A:Around}{E:VSP}{s:Shared}
end
section
variable {X:Cx}{P:Program}{w:World}{pos:Pos}
variable {o e1 e2:Expr}{td:TE}{ta:TA}{apos cpos:Pos}
def zah:Value->Str
 | .str z _=>z
 | _=>""
theorem jd{α : Type}[DecidableEq α]:∀(zs ys:List α),zs.Nodup->(∀z∈zs,z∈ys)->zs.length<=ys.length
 | [],_,_,_=>zero_le _
 | z::zs,ys,h,hs=>by
  have hz:z∈ys:=hs z mem_cons_self;have e:(ys.erase z).length=ys.length - 1:=List.length_erase_of_mem hz;have l0 : 0<ys.length:=List.length_pos_of_mem hz;rw[List.nodup_cons] at h;have ih:=jd zs (ys.erase z) h.2 fun y hy=>(List.mem_erase_of_ne (fun e:y=z=>h.1 (by rw[<- e];exact hy))).mpr (hs y (mem_cons_of_mem _ hy))
  rw[length_cons];omega
theorem zfr{P:Program}{w:World}{h:Heap}{a:Addr}{zs:List Str}{n:Nat}(hS:h.SetOf (strKind P w) a (fun z=>decide (z∈zs)) n)(nd:zs.Nodup):zs.length<=n:=by
 obtain⟨o,es,ep,t,ho,hx,hd,he,hb,hf,hfi,hn⟩:=hS
 have:=jd zs (es.toList.map fun e=>zah e.2) nd fun z hz=>by
  obtain⟨e,hm,hk⟩:=(hb z).mp (decide_eq_true hz);refine List.mem_map.mpr ⟨e,hm,?_⟩;obtain⟨tk,e2⟩:=Value.isStrOf_shape hk;rw[e2];rfl
 rw[length_map] at this;have e3:es.toList.length=es.size:=rfl;omega
variable {pins:PnL}{σ:St}{H:Hp}{s:Shared}{ok:Addr->Prop}
def zdc(w:World):Bool:=w.params.followText "set-order"
def Gd(w:World)(es:Array (Int×Value))(t:SetTable):Prop:=(es.toList.map fun e=>zah e.2).Nodup/\(zdc w=true\/t.led=true)/\(t.plain=true->es.size=0)
def uh(P:Program)(w:World)(h:Heap)(a:Addr)(S:Str->Bool)(n:Nat):Prop:=
 ∃o es ep t,h.get? a=some o/\o.ExactSet/\o.data=.set es ep t/\ElemsOf (PySem.strKind P w) es.toList/\(∀k,S k=true ↔ ∃e∈es.toList,(PySem.strKind P w).is k e.2=true)
 /\es.size<scanBound/\t.fits es.size=true/\es.size=n/\Gd w es t
theorem zc1(t:SetTable)(es:Array (Int×Value))(h:Int)(x:Value):(layNew t es h x).2.1.led=t.led:=by
 unfold layNew;split
 ·rename_i slot wd _
  show((t.put slot).1.orStandIn _).led=t.led;unfold SetTable.orStandIn;split <;> rfl
 ·rfl
theorem zaV(t:SetTable)(es:Array (Int×Value))(k:Nat):(relayAll t es k).2.1.led=t.led:=by
 unfold relayAll;split
 ·rename_i t' order hr
  dsimp only;split
  ·unfold SetTable.relaid SetTable.laid at hr
   cases hq:SetTable.layClean (SetTable.sizeAbove k - 1) (es.map (·.1)) with
   | none=>rw[hq] at hr;cases hr
   | some ow=>rw[hq] at hr;injection hr with hr;injection hr with h1 h2;rw[<- h1]
  ·rfl
 ·rfl
theorem qc(t:SetTable)(es:Array (Int×Value))(k:Nat)(h:t.plain=false):(relayAll t es k).2.1.plain=false:=by
 unfold relayAll;split
 ·rename_i t' order hr
  dsimp only;split
  ·unfold SetTable.relaid SetTable.laid at hr
   cases hq:SetTable.layClean (SetTable.sizeAbove k - 1) (es.map (·.1)) with
   | none=>rw[hq] at hr;cases hr
   | some ow=>rw[hq] at hr;injection hr with hr;injection hr with h1 h2;rw[<- h1];exact h
  ·rfl
 ·rfl
variable {A:Around}{E:VSP}
theorem zcq{g:Bool->Sem Unit}(hg:∀(b:Bool) (s₁:Shared) (Q':Unit->Shared->Prop),Q' () s₁->wpAny (model P w) A (g b) Q' E s₁)
  {a:Addr}{o:Obj}{es:Array (Int×Value)}{ep:Nat}{t:SetTable}(ho:s.heap.get? a=some o) (hex:o.ExactSet) (hd:o.data=.set es ep t)
  {es1:Array (Int×Value)}{t2:SetTable}{S':Str->Bool}(hel1:ElemsOf (PySem.strKind P w) es1.toList) (hmem1:∀k',S' k'=true ↔ ∃e∈es1.toList,(PySem.strKind P w).is k' e.2=true)
  (hb1:es1.size<scanBound) (hf2:t2.fits es1.size=true) (hnd:(es1.toList.map fun e=>zah e.2).Nodup) (hld:zdc w=true\/t2.led=true) (hpl:t2.plain=false) {wasDummy:Bool}{R:Option Bool->Shared->Prop}
  (h:∀h',Heap.SameBut a s.heap h'->uh P w h' a S' es1.size->R (some true) { s with heap:=h' }) :
  wpAny (model P w) A (do
    storeSet a es1 t2
    if (!wasDummy&&t2.tooFull)=true then do
      g (relayAll t2 es1 (SetTable.grown es1.size)).2.2
      storeSet a (relayAll t2 es1 (SetTable.grown es1.size)).1 (relayAll t2 es1 (SetTable.grown es1.size)).2.1
      pure (some true)
     else pure (some true)) R E s:=by
 refine zwb (wpAny_storeSet_of ho hd ?_ (fits_of_scanBound hb1));obtain⟨ho1,hS1⟩:=SetOf_store (knd:=PySem.strKind P w) ho hex hd hel1 hmem1 hb1 hf2;have hsb1:=Heap.SameBut.update s.heap a (Obj.putSet es1 t2);split
 ·have hp:=relayAll_perm t2 es1 (SetTable.grown es1.size)
  have hfr:=relayAll_fits t2 es1 (SetTable.grown es1.size);have hl:=zaV t2 es1 (SetTable.grown es1.size);have hpp:=qc t2 es1 (SetTable.grown es1.size) hpl;generalize hRl:relayAll t2 es1 (SetTable.grown es1.size)=Rl at hp hfr hl hpp |-;obtain⟨es2,t3,gave2⟩:=Rl;dsimp only at hp hfr hl hpp |-;have hel2:ElemsOf (PySem.strKind P w) es2.toList:=hel1.perm hp;have hmem2:∀k',S' k'=true ↔ ∃e∈es2.toList,(PySem.strKind P w).is k' e.2=true:=fun k'=>(hmem1 k').trans ⟨fun⟨e,he,q⟩=>⟨e,hp.mem_iff.mpr he,q⟩,fun⟨e,he,q⟩=>⟨e,hp.mem_iff.mp he,q⟩⟩;have hsz:es2.size=es1.size:=by rw[<- Array.length_toList,hp.length_eq,Array.length_toList]
  have hb2:es2.size<scanBound:=by rw[hsz];exact hb1
  refine zwb (hg _ _ _ ?_);refine zwb (wpAny_storeSet_of ho1 rfl ?_ (fits_of_scanBound hb2));obtain⟨hg2,_⟩:=SetOf_store (knd:=PySem.strKind P w) ho1 hex rfl hel2 hmem2 hb2 hfr;exact zwp (h _ (hsb1.trans (Heap.SameBut.update _ a _)) ⟨_,es2,_,t3,hg2,hex,rfl,hel2,hmem2,hb2,hfr,hsz,(hp.map _).nodup_iff.mpr hnd,by rw[hl];exact hld,fun e=>by rw[hpp] at e;cases e⟩)
 ·exact zwp (h _ hsb1 ⟨_,es1,_,t2,ho1,hex,rfl,hel1,hmem1,hb1,hf2,rfl,hnd,hld,fun e=>by rw[hpl] at e;cases e⟩)
theorem zhk{a:Addr}{S:Str->Bool}{n:Nat}{z:Str}{tk:Tok}{Q:Bool->Shared->Prop}(hS:uh P w s.heap a S n)
  (hroom:n+1<scanBound)
  (h:∀h',Heap.SameBut a s.heap h'->uh P w h' a (fun k'=>S k'||decide (k'=z)) (if S z then n else n+1)->Q (!S z) { s with heap:=h' }) :
  wpAny (model P w) A (setAddHashed a (.str z tk) ((PySem.strKind P w).hash z)) Q E s:=by
 have hkey:(PySem.strKind P w).is z (.str z tk)=true:=strKind_is _ _ _ _;have hsc:(Value.str z tk).scannable=true:=rfl;obtain⟨o,es,ep,t,ho,hex,hd,hel,hmem,hb,hf,hn,hnd,hld,hpl⟩:=hS;have hb1:es.size+1<scanBound:=by rw[hn];exact hroom
 unfold setAddHashed setAddHashedIn;refine wpAny_holding (zwb (wpAny_setState_of ho hd hf ?_));dsimp only;rw[byScan_of hsc hb hel];simp only[↓reduceIte];unfold setAddByScan;refine zwb ?_;refine zwb (wpAny_rule ?_);refine zwb (wpAny_setScan_of hkey ho hd hf hel ?_);cases hr:List.findIdx? (fun e=>(PySem.strKind P w).is z e.2) es.toList with
 | some j=>
  dsimp only;obtain⟨hj,hpj,_⟩:=List.findIdx?_eq_some_iff_getElem.mp hr;have hSk:S z=true:=(hmem z).mpr ⟨es.toList[j],getElem_mem hj,hpj⟩;refine zwp (zwp ?_);have e:s={ s with heap:=s.heap }:=by cases s;rfl
  have:=h s.heap (Heap.SameBut.refl a s.heap) ⟨o,es,ep,t,ho,hex,hd,hel,fun k'=>by
   rw[Bool.or_eq_true,decide_eq_true_eq,<- hmem k'];exact⟨fun hk=>hk.elim id (fun e=>e ▸ hSk),.inl⟩,hb,hf,by rw[hSk];exact hn,hnd,hld,hpl⟩
  rw[hSk] at this;rw[e];exact this
 | none=>
  dsimp only;have hSk:S z=false:=by
   cases hk:S z with
   | false=>rfl
   | true=>obtain⟨e,he,hp⟩:=(hmem z).mp hk;have:=List.findIdx?_eq_none_iff.mp hr e he;rw[hp] at this;exact Bool.noConfusion this
  have hgw:∀(b:Bool) {s₁:Shared}{Q':Unit->Shared->Prop},Q' () s₁->wpAny (model P w) A (match b with|true=>rule "set.scan.the-table-gave-way"|false=>pure ()) Q' E s₁:=
   fun b s₁ Q' hq=>by cases b <;> first|exact zwp hq|exact wpAny_rule hq
  have hperm:=layNew_perm t es ((PySem.strKind P w).hash z) (.str z tk);have hfits:=layNew_fits t es ((PySem.strKind P w).hash z) (.str z tk);have hled:=zc1 t es ((PySem.strKind P w).hash z) (.str z tk);generalize hL:layNew t es ((PySem.strKind P w).hash z) (.str z tk)=L at hperm hfits hled |-;obtain⟨es1,t1,wasDummy,gave⟩:=L;dsimp only at hperm hfits hled |-;rw[Array.toList_push] at hperm;have hel1:ElemsOf (PySem.strKind P w) es1.toList:=(hel.push hkey hsc).perm hperm;have hmem1:∀k',(S k'||decide (k'=z))=true ↔ ∃e∈es1.toList,(PySem.strKind P w).is k' e.2=true:=mem_push_iff hkey hmem hperm
  have hb1':es1.size<scanBound:=by rw[<- Array.length_toList,hperm.length_eq,length_append,Array.length_toList];simpa using hb1
  have hnd1:(es1.toList.map fun e=>zah e.2).Nodup:=by
   refine(hperm.map _).nodup_iff.mpr ?_;rw[map_append,List.nodup_append];refine⟨hnd,List.nodup_cons.mpr ⟨not_mem_nil,nodup_nil⟩,fun x hx y hy e=>?_⟩;obtain⟨e1,he1,rfl⟩:=List.mem_map.mp hx;have hy:y=z:=by simpa [zah] using hy
   obtain⟨⟨k1,hk1,_⟩,_⟩:=hel e1 he1;obtain⟨tk1,e3⟩:=Value.isStrOf_shape hk1;have h2:(PySem.strKind P w).is z e1.2=true:=by
    rw[e3] at e |-
    have:k1=z:=e.trans hy
    rw[this];exact strKind_is _ _ _ _
   have h3:=List.findIdx?_eq_none_iff.mp hr e1 he1;rw[h2] at h3;cases h3
  refine zwb (hgw _ ?_);have hsz1:es1.size=n+1:=by rw[<- Array.length_toList,hperm.length_eq,length_append,Array.length_toList,hn];rfl
  have hend:∀h',Heap.SameBut a s.heap h'->uh P w h' a (fun k'=>S k'||decide (k'=z)) es1.size->Q true { s with heap:=h' }:=by
   intro h' hsb hS';have:=h h' hsb;rw[hSk] at this;rw[hsz1] at hS';exact this hS'
  split
  ·refine zwb ?_
   rw[hashByValue_scannable 8 hsc];refine zwp ?_;refine zcq ?_ ho hex hd hel1 hmem1 hb1' ?_ hnd1 ?_ ?_ ?_
   ·intro b s₁ Q' hq;cases b <;> first|exact zwp hq|exact wpAny_rule hq
   ·split
    ·exact hfits
    ·exact SetTable.fits_plain_off hfits
   ·split <;> (rw[show(zdc w=true\/_)=_ from rfl];exact hld.imp id fun e=>by simpa [hled] using e)
   ·rw[if_neg (show ¬(plainKind (Value.str z tk)=true) from zft)]
   ·intro h' hsb hS';dsimp only;exact zwp (hend h' hsb hS')
  ·rename_i hpf
   refine zwb (zwp ?_);simp only[↓reduceIte];refine zcq ?_ ho hex hd hel1 hmem1 hb1' hfits hnd1 ?_ ?_ ?_
   ·intro b s₁ Q' hq;cases b <;> first|exact zwp hq|exact wpAny_rule hq
   ·rw[hled];exact hld
   ·simpa using hpf
   ·intro h' hsb hS';dsimp only;exact zwp (hend h' hsb hS')
variable {R:Result->Shared->Prop}{I:Addr}{fp wr:List Addr}{G:Array GenState->Array GenState->Prop}{n:Nat}{Pr:Nat->Value->Prop}{Sg:Nat->Shared->Prop}
theorem jm(W:WalksS P w A.in1 I fp wr G n Pr Sg)(a:Addr)(ha:a∉fp)(val:Nat->Str)(hv:∀i v,Pr i v->∃t,v=.str (val i) t)(hb:n+1<scanBound):
  ∀(k i:Nat) (s:Shared) (T:Str->Bool) (c:Nat),n - i=k->i<=n->Sg i s->c<=i->uh P w s.heap a T c->
   (∀s' c',Moved (a::wr) G s s'->c'<=n->uh P w s'.heap a (seen val T i k) c'->R (.ok (.ret .none)) s')->
   codeAny (model P w) A (.builtin "set.update.loop" ⟨[.ref a,.ref I],[]⟩) R s
 | 0,i,s,T,c,hk,hi,hg,hc,hT,hR=>by
  have hw:a∉wr:=fun z=>ha (W.sub _ z);have ei:i=n:=by omega
  subst ei;refine codeAny_builtin PyProof.Rows.F.entry_set_update_loop ?_;rw[Around.under_plainId PyProof.Rows.F.plain_set_update_loop _];show wpAny _ A.in1 (pyNext (.ref I) >>= _) _ _ _;refine zwb (W.done s _ _ hg fun s' hm=>?_);show wpAny _ A.in1 (ret Value.none) _ _ _;refine zwp (hR s' c (hm.mono fun b z=>mem_cons_of_mem _ z) hc ?_);obtain⟨ob,es,ep,t,h1,h2⟩:=hT;exact⟨ob,es,ep,t,hm.heap a _ hw h1,h2⟩
 | k+1,i,s,T,c,hk,hi,hg,hc,hT,hR=>by
  have hw:a∉wr:=fun z=>ha (W.sub _ z);have hlt:i<n:=by omega
  refine codeAny_builtin PyProof.Rows.F.entry_set_update_loop ?_;rw[Around.under_plainId PyProof.Rows.F.plain_set_update_loop _];show wpAny _ A.in1 (pyNext (.ref I) >>= _) _ _ _;refine zwb (W.item i s _ _ hlt hg fun v s' hP hg' hm=>?_);obtain⟨t,rfl⟩:=hv i v hP;have hT':uh P w s'.heap a T c:=by
   obtain⟨ob,es,ep,tb,h1,h2⟩:=hT;exact⟨ob,es,ep,tb,hm.heap a _ hw h1,h2⟩
  show wpAny _ A.in1 (holding [Value.str (val i) t] (setAdd a (.str (val i) t)) >>= _) _ _ s';refine zwb (wpAny_holding ?_);unfold setAdd;refine wpAny_holding ?_;refine zwb ((PySem.strKind P w).pyHash (k:=val i) (strKind_is _ _ _ _) ?_);refine zhk (s:={ s' with toks:=s'.toks+1 }) hT' (by omega) fun h' hsb h3=>?_
  refine zwp ⟨plainId_quiet PyProof.Rows.F.plain_set_update_loop _,jm W a ha val hv hb k (i+1) _ _ _ (by omega) hlt (W.frame _ s' _ _ hg' (le_succ _) fun b hb' o e=>?_) (by split <;> omega) h3 fun s2 c2 hm2 hc2 h4=>?_⟩
  ·have:b≠a:=fun z=>ha (z ▸ hb')
   rw[hsb.2 b this];exact e
  ·refine hR s2 c2 (Moved.trans W.gtrans ((hm.mono fun b z=>mem_cons_of_mem _ z).then_heap (le_succ _) fun b o hb' e=>?_) hm2) hc2 h4
   have:b≠a:=fun z=>hb' (z ▸ mem_cons_self)
   rw[hsb.2 b this];exact e
theorem qS{P:Program}{w:World}{A:Around}{E:VSP}{s:Shared}(a:Value){Q₁:VSP}
  (h:Q₁ (.ref s.heap.objs.size) { s with heap:=s.heap.push (jD (!zdc w)) }) :
  codeAny (model P w) A (.call (.builtin "set.__new__") ⟨[.type "set",a],[]⟩) (wants Q₁ E) s:=by
 refine codeAny_of_tree ?_;show wpAny _ A.in1 (do checkBuiltinCall "set.__new__" ⟨[.type "set",a],[]⟩;again (.builtin "set.__new__" ⟨[.type "set",a],[]⟩)) _ _ s
 refine zwb (wpAny_of_eq (PySem.F.newCall_set_1 a) (zwp ⟨plainId_quiet PySem.F.plain_set_new _,codeAny_builtin PySem.F.entry_set_new ?_⟩));rw[Around.under_plainId PySem.F.plain_set_new _];unfold Builtin.«set.__new__» Builtin.Frozenset.newClass;have hsub:=PySem.sub_set_self;obtain⟨hp,g,d,tk,os⟩:=s;dsimp only
 wp_walk
 refine wpAny_askSetting (zwp ?_);dsimp only;simp only[newObj];refine zwb (wpAny_alloc (zwp ?_));exact zwp h
end
set_option maxHeartbeats 8000000 in
theorem zck{P:Program}{w:World}{A:Around}{E:VSP}{s:Shared}{l:Addr}{items:Array Value}{zs:List Str}{Q:VSP}
  (hh:A.handled=none) (hl:s.heap.IsList l items) (hv:∀(i:Nat) (v:Value),items[i]?=some v->∃t,v=.str (zs.getD i "") t) (hb:items.size+1<scanBound)
  (h:∀(h':Heap) (tk c:Nat),uh P w h' s.heap.objs.size (seen (fun i=>zs.getD i "") (fun _=>false) 0 items.size) c->(∀b o,b<s.heap.objs.size->s.heap.get? b=some o->h'.get? b=some o)->Q (.ref s.heap.objs.size) { s with heap:=h',toks:=tk }) :
  wpAny (model P w) A (call (.type "set") [.ref l]) Q E s:=by
 obtain⟨mc,mt,mro⟩:=PySem.F.called_set.mro;have q1:=PySem.F.called_set.made;have q2:=PySem.F.called_set.sub;have q3:=PySem.F.called_set.notType;have q4:=PySem.F.called_set.canCreate;have q5:=PySem.F.typeCall_set_1 (.ref l);refine wpAny_call (codeAny_of_tree ?_);show wpAny _ _ (callAny (.type "set") _) _ _ _;refine zwp ⟨Code.quiet_builtin _ (by decide +kernel),codeAny_builtin PySem.F.entry_type_call ?_⟩;rw[Around.under_plain (weight_type_call_type "set" [.ref l] []) rfl]
 repeat (any_goals first|assumption|wp_step)
 refine codeAny_mono (qS (.ref l) (E:=E) (Q₁:=fun obj s₁=>∃led:Bool,(zdc w=true\/led=true)/\obj=.ref s.heap.objs.size/\s₁={ s with heap:=s.heap.push (jD led) }) ⟨!zdc w,by cases zdc w <;> simp,rfl,rfl⟩) fun r s₁ hr=>?_
 rcases r with e|(_|_|_|obj)
 ·exact hr
 ·exact hr.elim
 ·exact hr.elim
 ·exact hr.elim
 ·obtain⟨led,hled,rfl,rfl⟩:=hr
  have hS:(s.heap.push (jD led)).get? s.heap.objs.size=some (jD led):=zgs _ rfl;have hT:Shared.TypeIs { s with heap:=s.heap.push (jD led) } (.ref s.heap.objs.size) "set":=⟨_,hS,rfl⟩
  have q6:=PySem.F.called_set.init.lookup;have q7:=PySem.F.called_set.init.bind (.ref s.heap.objs.size)
  repeat (any_goals first|assumption|wp_step)
  refine codeAny_mono (codeAny_call_builtin (R:=wants (fun r s₂=>r=.none/\∃h' tk c,s₂={ s with heap:=h',toks:=tk }/\uh P w h' s.heap.objs.size (seen (fun i=>zs.getD i "") (fun _=>false) 0 items.size) c/\∀b o,b<s.heap.objs.size->s.heap.get? b=some o->h'.get? b=some o) E) PySem.F.called_set.init.plain PySem.F.entry_set_init (check_set_init_1 hT ?_)) fun r₂ s₂ hr₂=>?_
  ·obtain⟨ol,hol,hcl,nl,hdl⟩:=id hl
   obtain⟨ocls,odict,odata,oslots⟩:=ol;simp only at hcl hdl;subst hcl hdl;have hol':(s.heap.push (jD led)).get? l=_:=zgp (jD led) hol;have t1:=PySem.F.sub_list_set;have t2:=PySem.F.sub_list_frozenset;have t3:(Value.type "list"==Value.type "dict")=false:=by decide
   have hl1:(s.heap.push (jD led)).IsList l items:=⟨_,hol',rfl,nl,rfl⟩;have hlS:l<s.heap.objs.size:=Heap.lt_size hol;unfold Builtin.«set.__init__» noKeywords Builtin.Frozenset.updateFrom;generalize hq:pyIter=pit
   wp_walk
   subst hq;refine wpAny_pyIter_list hl1 (zwb (wpAny_runValue ?_));have hz:(s.heap.push (jD led)).objs.size=s.heap.objs.size+1:=Heap.size_push ..;have n1:l≠(s.heap.push (jD led)).objs.size:=by rw[hz];exact ne_of_lt (Nat.lt_succ_of_lt hlS)
   have n2:∀b:Addr,b<s.heap.objs.size->b∉[s.heap.objs.size,(s.heap.push (jD led)).objs.size]:=fun b hb' z=>by
    rw[hz] at z;rcases List.mem_cons.mp z with e|e
    ·exact ne_of_lt hb' e
    ·exact ne_of_lt (Nat.lt_succ_of_lt hb') (List.mem_singleton.mp e)
   have n3:s.heap.objs.size∉[(s.heap.push (jD led)).objs.size,l]:=fun z=>by
    rw[hz] at z;rcases List.mem_cons.mp z with e|e
    ·exact ne_of_lt (lt_succ_self _) e
    ·exact Nat.ne_of_gt hlS (List.mem_singleton.mp e)
   refine jm ((Walks.list (by simp [hh]) _ l n1 items).toS) s.heap.objs.size n3 (fun i=>zs.getD i "") hv hb items.size 0 _ (fun _=>false) 0 (by omega) (zero_le _) ⟨⟨_,zgs _ rfl,rfl,rfl⟩,hl1.push _⟩ (le_refl _) ?_ ?_
   ·exact⟨_,#[],0,_,zgp _ hS,⟨rfl,rfl,rfl⟩,rfl,fun e he=>by simp at he,fun k=>by simp,by unfold scanBound;decide,by rfl,rfl,by simp,hled,fun _=>rfl⟩
   ·rintro⟨h',g',d',tk',os'⟩ c' hm hc' hS'
    have e1:g'=s.gens:=hm.gens;have e2:d'=s.drawn:=hm.drawn;have e3:os'=s.os:=hm.os;subst e1 e2 e3;show wpAny _ _ _ _ _ _;refine zwp ?_;show wpAny _ _ (ret Value.none) _ _ _;refine zwp ⟨rfl,h',tk',c',rfl,hS',fun b o hb' e=>hm.heap b o (n2 b hb') (zgp _ (zgp _ e))⟩
  ·rcases r₂ with e|(_|_|_|ob2)
   ·exact hr₂
   ·exact hr₂.elim
   ·exact hr₂.elim
   ·exact hr₂.elim
   ·obtain⟨rfl,h',tk,c',rfl,hS',hk'⟩:=hr₂
    repeat (any_goals first|assumption|wp_step)
    exact h _ _ _ hS' hk'
namespace FS
end FS
section
variable {P:Program}{w:World}{A:Around}{E:VSP}{s:Shared}
end
end L2
namespace L2
open PySem PySem.Spec PyProof.Rows
section
variable {P:Program}{w:World}{A:Around}{E:VSP}{s:Shared}
variable {X:Cx}
theorem zeC:typeLookup (.type "list_reverseiterator") "__len__"=pure none:=by rw[typeLookup_type,builtinLookup_eq_fast];kernel_rfl
theorem zgy:typeLookup (.type "list_reverseiterator") "__length_hint__"=pure (some (.builtin "list_reverseiterator.__length_hint__")):=by rw[typeLookup_type,builtinLookup_eq_fast];kernel_rfl
variable {prog:Program}
theorem zc8{R:Result->Shared->Prop}{I l S:Addr}{items:Array Value}(hh:A.handled=none)(hit:s.heap.IsRevIter I l ((items.size:Int) - 1))(hl:s.heap.IsList l items)(hlI:l≠I)(hn:items.size<=sizeLine)(hSI:S≠I)(hSl:S≠l)(res:Value)(c₀:Nat)(hS:s.heap.get? S=some { cls:=.type "list",data:=.seq #[] c₀ })
  (hR:∀h' tk acc' c',(∀b o,b≠S->b≠I->s.heap.get? b=some o->h'.get? b=some o)->h'.get? S=some { cls:=.type "list",dict:=none,data:=.seq acc' c',slots:=#[] }->
   ItemsOf (fun i v=>items[items.size - 1 - i]?=some v) acc' items.size->R (.ok (.ret res)) { s with heap:=h',toks:=tk }) :
  wpAny (model prog w) A.in1 (Builtin.List.listExtendWith (.ref S) (.ref I) res)
   (fun fin s'=>match fin with|.done f=>R (.ok f) s'|.again c'=>c'.quiet=true/\codeAny (model prog w) A c' R s') (fun e s'=>R (.error e) s') s:=by
 have W:=(Walks.listRev (prog:=prog) (w:=w) (A:=A.in1) hh I l hlI items).toS;have hT:s.TypeIs (.ref I) "list_reverseiterator":=hit.typeIs;have hSf:S∉[I,l]:=fun hm=>by
  rcases List.mem_cons.mp hm with e|hm
  ·exact hSI e
  ·exact hSl (List.mem_singleton.mp hm)
 have h1:Builtin.List.listSameRef (.ref S) (.ref I)=false:=by simp [Builtin.List.listSameRef,hSI]
 have hst:(0:Nat)<=items.size/\s.heap.IsRevIter I l ((items.size:Int) - 1 - ((0:Nat):Int))/\s.heap.IsList l items:=⟨zero_le _,by simpa using hit,hl⟩
 unfold Builtin.List.listExtendWith;refine zwb (wpAny_typeOf hT ?_);rw[if_neg (by rw[h1];decide)]
 refine zwb (wpAny_pyIter_revIter hit ?_);refine zwb (wpAny_holding ?_);unfold Builtin.List.listLengthHint;refine zwb (wpAny_specialOf hT zeC ?_);show wpAny _ A.in1 (specialOf (Value.ref I) (Str.ofString "__length_hint__") >>= _) _ _ _;refine zwb (wpAny_specialOf hT zgy ?_);generalize hid:("list_reverseiterator.__length_hint__" : String)=id0
 wp_delta
 rw[show splitId id0=some ("list_reverseiterator","__length_hint__") from by subst hid;decide +kernel]
 subst hid;refine zwb (wpAny_isInstance (b:=true) hT (by rw[isSubtype_type];kernel_rfl) ?_)
 refine zwp ?_;rw[if_neg (by decide)]
 refine zwp ⟨plainId_quiet F.plain_extend_loop _,codeAny_extend_loopS W hn S hSf res items.size 0 _ #[] c₀ rfl (zero_le _) hst hS (ItemsOf.nil _) fun s' acc' c' hm hS' hacc=>?_⟩;rw[Moved.eq_with hm];refine hR s'.heap s'.toks acc' c' (fun b o hb hbI e=>hm.heap b o (fun hmem=>?_) e) hS' hacc;rcases List.mem_cons.mp hmem with e'|hmem
 ·exact hb e'
 ·exact hbI (List.mem_singleton.mp hmem)
theorem qT{Q:VSP}{I l:Addr}{items:Array Value}(hh:A.handled=none)(hit:s.heap.IsRevIter I l ((items.size:Int) - 1))(hl:s.heap.IsList l items)(hlI:l≠I)(hn:items.size<=sizeLine)
  (hQ:∀h' tk acc' c',(∀b o,b≠I->s.heap.get? b=some o->h'.get? b=some o)->
   h'.get? s.heap.objs.size=some { cls:=.type "list",dict:=none,data:=.seq acc' c',slots:=#[] }->ItemsOf (fun i v=>items[items.size - 1 - i]?=some v) acc' items.size->Q (.ref s.heap.objs.size) { s with heap:=h',toks:=tk }) :
  wpAny (model prog w) A (call (.type "list") [.ref I]) Q E s:=by
 have hI:I<s.heap.objs.size:=by obtain⟨o,e,_⟩:=hit;exact Heap.lt_size e
 have hL:l<s.heap.objs.size:=by obtain⟨_,e,_⟩:=hl;exact Heap.lt_size e
 refine callType_codes (Q₁:=fun obj s₁=>obj=.ref s.heap.objs.size/\s₁={ s with heap:=s.heap.push { cls:=.type "list",data:=.seq #[] } }) F.called_list (F.typeCall_list_1 _) F.entry_list_init
  (code_list_new _ ⟨rfl,rfl⟩) fun obj s₁ h₁=>?_
 obtain⟨rfl,rfl⟩:=h₁;have hS:(s.heap.push { cls:=.type "list",data:=.seq #[] }).get? s.heap.objs.size=some { cls:=.type "list",data:=.seq #[] }:=zgs _ rfl;refine⟨⟨_,hS,rfl⟩,F.args_list_init_2 _ _,?_⟩;have hIS:I≠s.heap.objs.size:=ne_of_lt hI;have hLS:l≠s.heap.objs.size:=ne_of_lt hL;have hbS:∀b o,s.heap.get? b=some o->b≠s.heap.objs.size:=fun b o e=>ne_of_lt (Heap.lt_size e);generalize hS0:s.heap.objs.size=S at hS hIS hLS hbS hQ |-;have hit1:(s.heap.push { cls:=.type "list",data:=.seq #[] }).IsRevIter I l ((items.size:Int) - 1):=hit.at fun o e=>zgp _ e;have hl1:=hl.push { cls:=.type "list",data:=.seq #[] };have old:∀b o,s.heap.get? b=some o->(s.heap.push { cls:=.type "list",data:=.seq #[] }).get? b=some o:=fun b o e=>zgp _ e;generalize s.heap.push { cls:=.type "list",data:=.seq #[] }=hp1 at hS hit1 hl1 old |-;show wpAny _ _ (do let old <- Builtin.List.listItems (.ref S);Builtin.List.listUpdate (.ref S) (fun _=>#[]);letGo old.toList.reverse;Builtin.List.listExtendWith (.ref S) (.ref I) .none) _ _ _
 refine zwb ?_;unfold Builtin.List.listItems;refine zwb (wpAny_seqItems hS rfl (zwp ?_));show wpAny _ _ (updateSeq S (fun _=>#[]) >>= fun _=>letGo (#[]:Array Value).toList.reverse >>= fun _=>Builtin.List.listExtendWith (.ref S) (.ref I) .none) _ _ _;refine zwb (wpAny_updateSeq hS rfl ?_);have hS₂:=Heap.get?_update_self (Obj.mapSeq (fun _=>(#[]:Array Value))) hS rfl;have oth:∀b o,b≠S->hp1.get? b=some o->(hp1.update S (Obj.mapSeq (fun _=>(#[]:Array Value)))).get? b=some o:=
  fun b o hb e=>(Heap.get?_update_other _ _ (Ne.symm hb)).trans e
 refine zwb (wpAny_letGo ?_);refine zc8 (A:=A.in1) hh (hit1.at fun o e=>oth I o hIS e) (hl1.at fun o e=>oth l o hLS e) hlI hn (Ne.symm hIS) (Ne.symm hLS) .none _ hS₂ fun h' tk acc' c' hk hS' hacc=>?_;exact⟨rfl,hQ h' tk acc' c' (fun b o hb e=>hk b o (hbS b o e) hb (oth b o (hbS b o e) (old b o e))) hS' hacc⟩
def tLR(K:Frag)(ta:TA):TE:=fun σ H Q=>ta σ H fun vs H1=>∃(q:Addr) (ys:List V),vs=[.ref q]/\SqL K H1 q ys/\ys.length<=1000/\∀l,H1 l=none->Q (.ref l) (upd H1 l (.lst ys.reverse))
theorem zcP{a:Expr}{ta:TA}{p p2 pos pos2:Pos}(hc:X.calm=true)(hg:Gl X "list")(hm:X.mg "list"=none)(hg2:Gl X "reversed")(hm2:X.mg "reversed"=none)(ha:PA X [a] ta)(h1:xB a=false:=by rfl):
  PE X (.Call (.Name "list" p) [.Call (.Name "reversed" p2) [a] [] pos2] [] pos) (tLR X.K ta):=by
 refine⟨?_⟩;intro pins s σ H Q I h;refine Call_ (vk I hg hm PyProof.Rows.boot_list (PyProof.Rows.callWith_type1 ?_ (yk rfl) rfl));rw[yk (show xB (.Call (.Name "reversed" p2) [a] [] pos2)=false from rfl)];show wpAny _ _ (spliced ((false,eval (.Call (.Name "reversed" p2) [a] [] pos2) X.env)::backTo pos (starEach [] X.env))) _ _ s;refine Calls.spliced_cons ?_;refine Call_ (vk I hg2 hm2 zgX (PyProof.Rows.callWith_type1 (thn (ha pos2 pins s σ H _ I h) fun us s1 ⟨vs,H1,I1,r1,q,ys,e,hS,hn,k⟩=>?_) (yk h1) rfl));subst e;cases r1 with
 | cons r rr=>
  cases rr;cases r;obtain⟨its,rv,hp,hz⟩:=I1.list hS;have hlen:its.length=ys.length:=rv.length.symm;have hq:q<s1.heap.objs.size:=by obtain⟨_,e,_⟩:=hp.isList;exact Heap.lt_size e
  refine call_reversed_list hp.isList (Calls.spliced_nil ?_);have hsz:its.toArray.size=its.length:=size_toArray;have hqn:q≠s1.heap.objs.size:=ne_of_lt hq;have hit:(s1.heap.push (revObj q ((its.toArray.size:Int) - 1))).IsRevIter s1.heap.objs.size q ((its.toArray.size:Int) - 1):=⟨_,zgs _ rfl,rfl,rfl⟩;have hl1:=hp.isList.push (revObj q ((its.toArray.size:Int) - 1));have old:∀b o,s1.heap.get? b=some o->(s1.heap.push (revObj q ((its.toArray.size:Int) - 1))).get? b=some o:=fun b o e=>zgp _ e;have hs:(s1.heap.push (revObj q ((its.toArray.size:Int) - 1))).objs.size=s1.heap.objs.size+1:=Heap.size_push _ _;generalize s1.heap.push (revObj q ((its.toArray.size:Int) - 1))=hp1 at hit hl1 old hs |-;refine qT (s:={ s1 with heap:=hp1 }) (I1.ok.hd hc) hit hl1 hqn (by rw[hsz,hlen];exact le_trans hn (by decide)) fun h' tk acc c' hk he hacc=>?_
  have hrv:acc.toList=its.reverse:=by
   refine List.ext_getElem? fun i=>?_;have hal:acc.toList.length=its.length:=by rw[Array.length_toList,hacc.1,hsz]
   by_cases hi:i<its.length
   ·have hia:i<acc.toList.length:=by omega
    rw[getElem?_eq_getElem hia,List.getElem?_reverse hi];have h2:=hacc.2 i acc.toList[i] (by rw[<- Array.getElem?_toList];exact getElem?_eq_getElem hia)
    have h3:its[its.length - 1 - i]?=some acc.toList[i]:=by
     rw[hsz] at h2;simpa using h2
    exact h3.symm
   ·rw[List.getElem?_eq_none (by omega),List.getElem?_eq_none (by rw[List.length_reverse];omega)]
  refine⟨.ref hp1.objs.size,_,I1.laid (t':=tk) (o:=.lst ys.reverse) (fun b o e=>hk b o (ne_of_lt (Heap.lt_size e)) (old b o e)) (by rw[hs];exact le_succ _) ⟨?_,acc.toList,c',by rw[hrv];exact rv.rev,by simpa using he⟩,rfl,k _ (I1.hok.fresh (by rw[hs];exact le_succ _))⟩
  rw[List.length_reverse];exact le_trans hn (by decide)
variable {l I S:Addr}{vs:List Value}{kid:String}
end
end L2
namespace K92
open PySem L2 PyProof.Rows
section
variable {G:Nat->List Str->Prop}
end
end K92
namespace L2
open PySem PyProof.Rows
def zha(X:Cx)(ss:List Stmt):TS:=fun D σ H=>∃t,PSs X ss t/\t D σ H
theorem zdB{X:Cx}{ss:List Stmt}:PSs X ss (zha X ss):=⟨fun pins s σ H D I ⟨_,p,h⟩=>p pins s σ H D I h⟩
theorem zQ{X:Cx}{st:Stmt}{rest:List Stmt}{t:TS}{D:L2.wO}{σ : L2.St}{H:Hp}(p:PS X st t)(h:jA t (zha X rest) D σ H):zha X (st::rest) D σ H:=⟨_,zp p zdB,h⟩
end L2
namespace L2
open PySem PySem.Spec PyProof.Rows
section
variable {P:Program}{w:World}{K:Frag}{mg:Str->Option Value}{base h:Heap}{x q p p2 p3 p4 p5:Str}{st:Stmt}{f C T:Addr}{fd:FuncData}{sp:Sp}{k n:Nat}
structure TB(P:Program)(w:World)(K:Frag)(mg:Str->Option Value)(base:Heap):Prop where
 mgo:∀{x:Str}{v:Value},nsIn K mainGlobals x=some (some v)->mg x=some v
structure GD(K:Frag)(x:Str)(st:Stmt)(f:Addr)(fd:FuncData):Prop where
 a:nsIn K mainGlobals x=some (some (.ref f))
 F:Fun K x x st f fd
structure MD(K:Frag)(C:Addr)(x q:Str)(st:Stmt)(f:Addr)(fd:FuncData):Prop where
 m:vw K C x f
 F:Fun K x q st f fd
structure DD(K:Frag)(C:Addr)(x q:Str)(st:Stmt)(f:Addr)(fd:FuncData)(ds:List Value):Prop where
 m:vw K C x f
 F:jH K x q st f fd ds
structure CD(K:Frag)(x:Str)(C:Addr):Prop where
 a:nsIn K mainGlobals x=some (some (.ref C))
 c:Cls K C
 ms:makesIn K C=true
 kc:keepIn K (.ref C)=true
theorem znh{oc:Value}{od an:Option Addr}{osl:Array (Option Value)}{kV doc pm cdv ct:Value}(a:nsIn K mainGlobals x=some (some (.ref f)))(l:K.lookup f=some ⟨oc,od,.func (fnOf x x (yr st) (yd st) (zr st) .none kV doc pm an cdv ct),osl⟩)
  (c:codeIn K cdv x=true) (k:keepIn K (.ref f)=true):GD K x st f (fnOf x x (yr st) (yd st) (zr st) .none kV doc pm an cdv ct):=⟨a,zgF l c k⟩
theorem zng{oc:Value}{od an:Option Addr}{osl:Array (Option Value)}{kV doc pm cdv ct:Value}(a:findIn K (.ref C) x=some (some (.ref f)))(i:isFn K (.ref f)=true)(l:K.lookup f=some ⟨oc,od,.func (fnOf x q (yr st) (yd st) (zr st) .none kV doc pm an cdv ct),osl⟩)
  (c:codeIn K cdv q=true) (k:keepIn K (.ref f)=true):MD K C x q st f (fnOf x q (yr st) (yd st) (zr st) .none kV doc pm an cdv ct):=⟨⟨a,i,k⟩,zgF l c k⟩
theorem zni{oc oT:Value}{od an dT:Option Addr}{osl sT:Array (Option Value)}{kV doc pm cdv ct d:Value}(a:findIn K (.ref C) x=some (some (.ref f)))(i:isFn K (.ref f)=true)(l:K.lookup f=some ⟨oc,od,.func (fnOf x q (yr st) (yd st) (zr st) (.ref T) kV doc pm an cdv ct),osl⟩)
  (c:codeIn K cdv q=true) (k:keepIn K (.ref f)=true) (t:K.lookup T=some ⟨oT,dT,.seq #[d] n,sT⟩):DD K C x q st f (fnOf x q (yr st) (yd st) (zr st) (.ref T) kV doc pm an cdv ct) [d]:=⟨⟨a,i,k⟩,zil (items:=[d]) l c k t rfl⟩
theorem znj(a:nsIn K mainGlobals x=some (some (.ref C)))(pg:plainGet K C Str.empty=true)(hd:hasDictIn K C=true)(po:plainOver K C=true)(sa:findIn K (.ref C) "__setattr__"=some (some (.builtin "object.__setattr__")))(mk:makesIn K C=true)(kc:keepIn K (.ref C)=true):CD K x C:=⟨a,⟨pg,hd,po,sa⟩,mk,kc⟩
theorem Fun.b1(F:Fun K x q st f fd)(h:∀(kV doc pm:Value) (an:Option Addr) (cdv ct u:Value),bindArgs (fnOf x q (yr st) (yd st) (zr st) .none kV doc pm an cdv ct) ⟨[u],[]⟩=pure [(p,u)]:=by intros;rfl):yt K fd [p] []:=
 F.binds fun _ _ _ _ _ _ us hl=>match us,hl with|[_],_=>h _ _ _ _ _ _ _
theorem Fun.b2(F:Fun K x q st f fd)(h:∀(kV doc pm:Value) (an:Option Addr) (cdv ct u u2:Value),bindArgs (fnOf x q (yr st) (yd st) (zr st) .none kV doc pm an cdv ct) ⟨[u,u2],[]⟩=pure [(p,u),(p2,u2)]:=by intros;rfl):yt K fd [p,p2] []:=
 F.binds fun _ _ _ _ _ _ us hl=>match us,hl with|[_,_],_=>h _ _ _ _ _ _ _ _
theorem Fun.b3(F:Fun K x q st f fd)(h:∀(kV doc pm:Value) (an:Option Addr) (cdv ct u u2 u3:Value),bindArgs (fnOf x q (yr st) (yd st) (zr st) .none kV doc pm an cdv ct) ⟨[u,u2,u3],[]⟩=pure [(p,u),(p2,u2),(p3,u3)]:=by intros;rfl):yt K fd [p,p2,p3] []:=
 F.binds fun _ _ _ _ _ _ us hl=>match us,hl with|[_,_,_],_=>h _ _ _ _ _ _ _ _ _
theorem Fun.b4(F:Fun K x q st f fd)(h:∀(kV doc pm:Value) (an:Option Addr) (cdv ct u u2 u3 u4:Value),bindArgs (fnOf x q (yr st) (yd st) (zr st) .none kV doc pm an cdv ct) ⟨[u,u2,u3,u4],[]⟩=pure [(p,u),(p2,u2),(p3,u3),(p4,u4)]:=by intros;rfl):yt K fd [p,p2,p3,p4] []:=
 F.binds fun _ _ _ _ _ _ us hl=>match us,hl with|[_,_,_,_],_=>h _ _ _ _ _ _ _ _ _ _
theorem GD.c1(g:GD K x st f fd)(B:TB P w K mg base)(ok:zL P w K mg base CX0 k f fd [p] sp)(h:∀(kV doc pm:Value) (an:Option Addr) (cdv ct u:Value),bindArgs (fnOf x x (yr st) (yd st) (zr st) .none kV doc pm an cdv ct) ⟨[u],[]⟩=pure [(p,u)]:=by intros;rfl):z8 P w K mg base k x f fd [p] sp:=⟨ok,B.mgo g.a,g.F.kp,g.F.b1 h⟩
theorem GD.c2(g:GD K x st f fd)(B:TB P w K mg base)(ok:zL P w K mg base CX0 k f fd [p,p2] sp)(h:∀(kV doc pm:Value) (an:Option Addr) (cdv ct u u2:Value),bindArgs (fnOf x x (yr st) (yd st) (zr st) .none kV doc pm an cdv ct) ⟨[u,u2],[]⟩=pure [(p,u),(p2,u2)]:=by intros;rfl):z8 P w K mg base k x f fd [p,p2] sp:=⟨ok,B.mgo g.a,g.F.kp,g.F.b2 h⟩
theorem GD.c3(g:GD K x st f fd)(B:TB P w K mg base)(ok:zL P w K mg base CX0 k f fd [p,p2,p3] sp)(h:∀(kV doc pm:Value) (an:Option Addr) (cdv ct u u2 u3:Value),bindArgs (fnOf x x (yr st) (yd st) (zr st) .none kV doc pm an cdv ct) ⟨[u,u2,u3],[]⟩=pure [(p,u),(p2,u2),(p3,u3)]:=by intros;rfl):z8 P w K mg base k x f fd [p,p2,p3] sp:=⟨ok,B.mgo g.a,g.F.kp,g.F.b3 h⟩
theorem GD.law(g:GD K x st f fd)(h:∀(kV doc pm:Value) (an:Option Addr) (cdv ct u:Value),bindArgs (fnOf x x (yr st) (yd st) (zr st) .none kV doc pm an cdv ct) ⟨[u],[]⟩=pure [(p,u)]:=by intros;rfl):∀(s:Shared) (v:Value),BindsTo s fd ⟨[v],[]⟩ [(p,v)]:=by
 obtain⟨oc,od,kV,doc,pm,an,cdv,ct,osl,rfl,lk,hcd⟩:=g.F.ex;exact fun s v=>.of_eq (h kV doc pm an cdv ct v)
theorem DD.b0{d:Value}(D:DD K C x q st f fd [d])(h:∀(T:Addr) (kV doc pm:Value) (an:Option Addr) (cdv ct u u2 u3:Value),∃k:Option (Array Value)->Sem (List (Str×Value)),bindArgs (fnOf x q (yr st) (yd st) (zr st) (.ref T) kV doc pm an cdv ct) ⟨[u,u2,u3],[]⟩=seqItems? (.ref T) >>= k/\k (some [d].toArray)=pure [(p,u),(p2,u2),(p3,u3)]:=by exact fun _ _ _ _ _ _ _ _ _ _=>⟨_,rfl,rfl⟩):yt K fd [p,p2,p3] []:=
 fun _ us KX hl=>match us,hl with|[_,_,_],_=>D.F.bindsTo (fun _ _ _ _ _ _ _=>h _ _ _ _ _ _ _ _ _ _) KX
end
end L2
namespace K92
open PySem L2 PyProof.Rows
section
variable {P:Program}{w:World}{K:Frag}{mg:Str->Option Value}{base:Heap}{f CF:Addr}{fd:FuncData}{c:C5}{m:MA}
def zg7(K:Frag)(H:Hp)(a:Addr)(c:List yU):Prop:=∃xs,SqL K H a xs/\Paired (zS K T' H 3) xs (c.map yI)
end
end K92
namespace L2
open PySem PySem.Spec PyProof.Rows
def zme(P:Program)(w:World)(a:Addr)(S:Str->Bool)(n:Nat)(h:Heap):Prop:=uh P w h a S n
abbrev zdr(P:Program)(w:World)(a:Addr)(S:Str->Bool)(n:Nat):HO:=.ext (zme P w a S n)
theorem zfq{P:Program}{w:World}{H:Hp}{h:Heap}{a:Addr}{S:Str->Bool}{n:Nat}(e:uh P w h a S n):yB P w H h a (zdr P w a S n):=
 ⟨e,let ⟨o,_,_,_,h1,_⟩:=e;⟨o,h1⟩,fun g1 g2 q k=>let ⟨o,es,ep,t,h1,c⟩:=q;⟨o,es,ep,t,k o h1,c⟩⟩
theorem zbv{P:Program}{w:World}{h:Heap}{a:Addr}{zs:List Str}{n:Nat}(hS:uh P w h a (fun z=>decide (z∈zs)) n):n<=zs.length:=by
 obtain⟨o,es,ep,t,ho,hex,hd,hel,hmem,hb,hf,hn,hnd,_⟩:=hS
 have:=jd (es.toList.map fun e=>zah e.2) zs hnd fun z hz=>by
  obtain⟨e,he,e1⟩:=List.mem_map.mp hz;obtain⟨⟨k,hk,_⟩,_⟩:=hel e he
  have:=(hmem k).mpr ⟨e,he,hk⟩
  obtain⟨tk,e2⟩:=Value.isStrOf_shape hk;rw[e2] at e1;have e1:k=z:=e1;rw[<- e1];exact of_decide_eq_true this
 rw[length_map,Array.length_toList] at this;omega
section
variable {X:Cx}
theorem zeX(hc:X.calm=true):xp X (.type "set") (fun xs H Q=>∃(p:Addr) (zs:List Str),xs=[.ref p]/\SqL X.K H p (zs.map V.str)/\zs.length<=900/\∀(l:Addr) (n:Nat),H l=none->Q (.ref l) (upd H l (zdr X.prog X.w l (fun z=>decide (z∈zs)) n))):=by
 intro pins s σ H xs us Q I r h;obtain⟨p,zs,rfl,hS,lz,q⟩:=h;obtain⟨u,rfl,ru⟩:=wP r;cases ru;obtain⟨its,rv,hp,hz⟩:=I.list hS;have hl:its.length=zs.length:=by rw[<- rv.length,length_map]
 have hb:its.toArray.size+1<scanBound:=by
  rw[size_toArray,hl];have : 1000<scanBound:=by unfold scanBound;decide
  omega
 refine zck (I.ok.hd hc) hp.isList (fun i v e=>rv.strs_at i v (by simpa using e)) hb fun h' tk c hS' hk=>?_
 have hsz:its.toArray.size=zs.length:=by rw[size_toArray,hl]
 rw[hsz] at hS';have eS:seen (fun i=>zs.getD i "") (fun _=>false) 0 zs.length=fun z=>decide (z∈zs):=funext (zfs zs);rw[eS] at hS';refine⟨.ref s.heap.objs.size,_,I.laid (t':=tk) (fun b ob e=>hk b ob (Heap.lt_size e) e) (le_refl _) (zfq hS'),rfl,q _ c (I.hok.fresh (le_refl _))⟩
theorem uh.setOf{P:Program}{w:World}{h:Heap}{a:Addr}{S:Str->Bool}{n:Nat}(hS:uh P w h a S n):h.SetOf (PySem.strKind P w) a S n:=by
 obtain⟨o,es,ep,t,h1,h2,h3,h4,h5,h6,h7,h8,_⟩:=hS;exact⟨o,es,ep,t,h1,h2,h3,h4,h5,h6,h7,h8⟩
theorem zkS{zs:List Str}(h:¬zs.Nodup):∃z∈zs,z∈zs.erase z:=by
 induction zs with
 | nil=>exact absurd nodup_nil h
 | cons x xs ih=>
  by_cases hx:x∈xs
  ·exact⟨x,mem_cons_self,by rw[List.erase_cons_head];exact hx⟩
  ·obtain⟨z,h1,h2⟩:=ih fun c=>h (List.nodup_cons.mpr ⟨hx,c⟩)
   refine⟨z,mem_cons_of_mem _ h1,?_⟩
   have:x≠z:=fun e=>hx (by rw[e];exact h1)
   rw[List.erase_cons_tail (by simpa using this)]
   exact mem_cons_of_mem _ h2
theorem zfp{P:Program}{w:World}{h:Heap}{a:Addr}{zs:List Str}{n:Nat}(hS:uh P w h a (fun z=>decide (z∈zs)) n)(hd:¬zs.Nodup):n<zs.length:=by
 obtain⟨z,h1,h2⟩:=zkS hd;have e:(fun y=>decide (y∈zs))=fun y=>decide (y∈zs.erase z):=funext fun y=>by
  refine decide_eq_decide.mpr ⟨fun hy=>?_,fun hy=>List.mem_of_mem_erase hy⟩;by_cases c:y=z
  ·rw[c];exact h2
  ·exact(List.mem_erase_of_ne c).mpr hy
 rw[e] at hS
 have:=zbv hS
 rw[List.length_erase_of_mem h1] at this
 have:=List.length_pos_of_mem h1
 omega
end
end L2
namespace K92
open PySem L2 PyProof.Rows
section
variable {P:Program}{w:World}{K:Frag}{mg:Str->Option Value}{base:Heap}{f CF:Addr}{fd:FuncData}{c:C5}{m:MA}
def zfh(K:Frag):Sp:=fun vs H Q _=>∃(a:Addr) (ns:List Int) (k:Nat),vs=[.ref a,.int k]/\SqL K H a (ns.map V.int)/\Q (.int (ns.getD k 0)) H
theorem zhX(F:Fun K "_law_nth" "_law_nth" zjQ f fd)(T:ze1 mg):zL P w K mg base CX0 1 f fd ["_law_script","_law_k"] (zfh K):=by
 refine F.ok zli (fun cdv A outer s H vs Q E hr h=>?_);obtain⟨a,ns,k,rfl,hS,q⟩:=h;refine⟨_,zm (zB (xQ (zw uj (pv 1) (cB zO T.len PySem.boot_len (ac (pv 0) zi)) (zE _)) (zK yn (pv 0) (pv 1) (fun _ _=>rfl)) zj)),?_⟩;refine⟨_,rfl,_,rfl,a,_,rfl,.inl hS,_,_,rfl,rfl,_,rfl,?_⟩;rw[length_map];refine jf (fun c=>?_) (fun c=>?_)
 ·have c':(k:Int)<(ns.length:Int):=of_decide_eq_true c
  have hk:k<ns.length:=by omega
  rw[getD_eq_getElem?_getD,getElem?_eq_getElem hk] at q;refine⟨_,rfl,_,rfl,a,_,(k:Int),.int ns[k],rfl,rfl,hS,ue (by rw[getElem?_map,getElem?_eq_getElem hk];rfl),q⟩
 ·have c':¬(k:Int)<(ns.length:Int):=fun h=>c (decide_eq_true h)
  rw[getD_eq_getElem?_getD,List.getElem?_eq_none (by omega)] at q
  exact q
def qG(ns:List Int)(a b:Nat):List Int:=(ns.drop (min a ns.length)).take (min b ns.length - min a ns.length)
theorem zji(ns:List Int)(a b:Nat):ji (ns.map V.int) (some (a:Int)) (some (b:Int))=(qG ns a b).map V.int/\(qG ns a b).length<=b - a:=by
 unfold qG;refine⟨?_,?_⟩
 ·unfold ji
  rw[HT.zml,HT.zml,length_map,map_take,map_drop]
 ·rw[length_take,length_drop]
  omega
theorem zmV:([Str.ofString "_law_k",Str.ofString "_law_script"]:List Str).Nodup:=by decide +kernel
theorem PAt.upd{c:C5}{H:Hp}{v D:Addr}{r:Rw}{ys:List V}{o:HO}(h:PAt c H v r)(hD:H D=some (.lst ys)):PAt c (upd H D o) v r:=by
 obtain⟨dx,h⟩:=h;refine⟨dx,?_⟩;rw[zv (fun e=>by rw[e,hD] at h;cases h)]
 exact h
theorem zh6{zs:List Str}(h:∀z∈zs,zV z=true):∀z∈zs,z.length<=100:=fun z hz=>by
 have:=(yS.mp (h z hz)).2.1
 omega
def xj(p:Str×Int):Str:=p.1++"="++xn p.2
def xD:yU->Str
 | .one t=>xn t
 | .row ts=>"["++Txt.join " " (ts.map xn)++"]"
 | .named n t=>xj (n,t)
 | .book ps=>"{"++Txt.join " " (ps.map xj)++"}"
def qI(c:List yU):Str:=Txt.join ", " (c.map xD)
def zaF(t:Int):Prop:=t.natAbs<10 ^ 60
def zfZ(p:Str×Int):Prop:=zV p.1=true/\zaF p.2
def zb3(it:yU):Prop:=(∀t∈itT it,zaF t)/\(∀p∈itP it,zfZ p)/\(itT it).length<=30/\(itP it).length<=30
theorem jP{t:Int}(h:zaF t): 1<=(xn t).length/\(xn t).length<=61:=by
 have n:=zgm t h;have a:=n.l1;have b:=n.l60;rw[zN];rcases n.txt with ⟨_,e⟩|⟨_,e⟩ <;> rw[e]
 ·exact⟨a,by omega⟩
 ·simp only[length_cons];exact⟨by omega,by omega⟩
theorem jO{t:Int}(h:zaF t):t.natAbs.log2<1920:=by
 have:t.natAbs<2 ^ 1920:=Nat.lt_trans h (by decide +kernel)
 by_cases h0:t.natAbs=0
 ·rw[h0];decide +kernel
 ·exact(Nat.log2_lt h0).mpr this
theorem vE{p:Str×Int}(h:zfZ p): 1<=(xj p).length/\(xj p).length<=70:=by
 have n:=jP h.2;have m:=(yS.mp h.1).2.1;unfold xj;rw[zG,zG,show("=" : Str).length=1 from rfl];omega
theorem xE{xs:List Str}{B:Nat}(h:∀x∈xs,x.length<=B):(xs.map (·.length)).sum<=xs.length * B:=by
 induction xs with
 | nil=>simp
 | cons x r ih=>
  have:=h x mem_cons_self
  have:=ih fun y hy=>h y (mem_cons_of_mem _ hy)
  simp only[map_cons,sum_cons,length_cons,succ_mul];omega
theorem uE{sep:Str}{xs:List Str}{B:Nat}(h:∀x∈xs,x.length<=B):(Txt.join sep xs).length<=xs.length * B+xs.length * sep.length:=by
 have:=PySem.StrLaws.join_length_le sep xs
 rw[show Txt.join sep xs=Str.join sep xs from PySem.StrLaws.glued_eq_join sep xs]
 have:=xE h
 omega
theorem zdy{ts:List Int}(h:∀t∈ts,zaF t)(hl:ts.length<=30):(Txt.join " " (ts.map xn)).length<=2000:=by
 have:=uE (sep:=" ") (xs:=ts.map xn) (B:=61) (fun x hx=>by obtain⟨t,ht,rfl⟩:=List.mem_map.mp hx;exact(jP (h t ht)).2)
 rw[length_map,show(" " : Str).length=1 from rfl] at this;omega
theorem zcm{ps:List (Str×Int)}(h:∀p∈ps,zfZ p)(hl:ps.length<=30):(Txt.join " " (ps.map xj)).length<=2200:=by
 have:=uE (sep:=" ") (xs:=ps.map xj) (B:=70) (fun x hx=>by obtain⟨t,ht,rfl⟩:=List.mem_map.mp hx;exact(vE (h t ht)).2)
 rw[length_map,show(" " : Str).length=1 from rfl] at this;omega
theorem zb1{it:yU}(h:zb3 it): 1<=(xD it).length/\(xD it).length<=2300:=by
 obtain⟨h1,h2,h3,h4⟩:=h;cases it with
 | one t=>have:=jP (h1 t mem_cons_self);exact⟨this.1,by show(xn t).length<=2300;omega⟩
 | row ts=>
  have:=zdy (ts:=ts) h1 h3
  rw[show xD (.row ts)="["++Txt.join " " (ts.map xn)++"]" from rfl,zG,zG,show("[" : Str).length=1 from rfl,show("]" : Str).length=1 from rfl];omega
 | named n t=>have:=vE (h2 (n,t) mem_cons_self);exact⟨this.1,by show(xj (n,t)).length<=2300;omega⟩
 | book ps=>
  have:=zcm (ps:=ps) h2 h4
  rw[show xD (.book ps)="{"++Txt.join " " (ps.map xj)++"}" from rfl,zG,zG,show("{" : Str).length=1 from rfl,show("}" : Str).length=1 from rfl];omega
theorem jQ{α : Type}{K:Frag}{a:Addr}{xs:List V}{caps:List (Option Nat)}{g:TG}{tt:TT}{te:TE}{σ : L2.St}{H1:Hp}{Q:VK}{D:Addr}(ts:List α)(R:V->α->Prop)(tx : α->V)(hD:H1 D=none)(hn:ts.length<=500)
  (hS:SqL K H1 a xs) (hp:Paired R xs ts)
  (hs:∀x t H' (C:VK) (S:Hp->Prop),zx H1 H'->R x t->t∈ts->(∀H4,zx H' H4->C (tx t) H4)->g x (xk caps σ) H' fun σ2 H2=>tt σ2 H2 fun ok H3=>(ok=true->te σ2 H3 C)/\(ok=false->S H3))
  (hd:∀H',zx H1 H'->H' D=some (.lst (ts.map tx))->Q (.ref D) H'):LCr (Itl K a) caps g tt te σ H1 Q D:=by
 have lx:xs.length=ts.length:=hp.length;refine wF (K:=K) (xs:=xs) (fun i ys H'=>ys=(ts.take i).map tx/\zx H1 H'/\H' D=some (.lst ys)) ⟨rfl,zk hD _,zc⟩ (fun i ys H' ⟨_,sH,_⟩=>sH.seq hS) ?_ ?_
 ·rintro i x ys H' hi hx ⟨rfl,sH,hDy⟩
  obtain⟨t,ht,r⟩:=Paired.get hp hx;refine hs x t H' _ _ sH r (mem_of_getElem? ht) fun H4 s4=>?_;refine lcN.mk hi (yP (by omega)) (s4 _ _ hDy) (by rw[length_map,length_take];omega) ⟨?_,zU (sH.trans s4) hD _,zc⟩
  rw[xr ht,map_append];rfl
 ·rintro ys H' ⟨rfl,sH,hDy⟩
  rw[lx,take_length] at hDy;exact hd H' sH hDy
theorem vD{α β : Type}{R : β->α->Prop}{f : α->β}:∀{ts:List α},(∀t,R (f t) t)->Paired R (ts.map f) ts
 | [],_=>.nil
 | t::ts,h=>.cons (h t) (vD h)
theorem zgl{ts:List Int}(h:∀t∈ts,zaF t)(hl:ts.length<=30):((ts.map xn).map (·.length)).sum+(ts.map xn).length<=1048576:=by
 have:=xE (xs:=ts.map xn) (B:=61) (fun x hx=>by obtain⟨t,ht,rfl⟩:=List.mem_map.mp hx;exact(jP (h t ht)).2)
 rw[length_map] at this |-;omega
theorem zhF{ts:List (Str×Int)}(h:∀t∈ts,zfZ t)(hl:ts.length<=30):((ts.map xj).map (·.length)).sum+(ts.map xj).length<=1048576:=by
 have:=xE (xs:=ts.map xj) (B:=70) (fun x hx=>by obtain⟨t,ht,rfl⟩:=List.mem_map.mp hx;exact(vE (h t ht)).2)
 rw[length_map] at this |-;omega
theorem zie{ts:List yU}(h:∀t∈ts,zb3 t)(hl:ts.length<=30):((ts.map xD).map (·.length)).sum+(ts.map xD).length<=1048576:=by
 have:=xE (xs:=ts.map xD) (B:=2300) (fun x hx=>by obtain⟨t,ht,rfl⟩:=List.mem_map.mp hx;exact(zb1 (h t ht)).2)
 rw[length_map] at this |-;omega
theorem vj{α β γ : Type}{R : α->γ->Prop}{f : β->γ}:∀{xs:List α}{ys:List β},Paired R xs (ys.map f)->Paired (fun x y=>R x (f y)) xs ys
 | _,[],h=>by cases h;exact .nil
 | _,y::ys,h=>by cases h with|cons a b=>exact .cons a (vj b)
theorem zes{K:Frag}{H:Hp}{xs:List V}{ps:List (Str×Int)}(h:Paired (zS K T' H 1) xs (ps.map xC)):Paired (fun x p=>∃b,x=.ref b/\SqT K H b [.str p.1,.int p.2]) xs ps:=
 zH (fun x p z=>by
  obtain⟨b,ws,rfl,hS,r⟩:=xP z;cases r with
  | cons h1 r=>cases r with
   | cons h2 r=>cases r;rw[wR h1,uL h2] at hS;exact⟨b,rfl,hS⟩) (vj h)
def ziQ(K:Frag):Sp:=fun vs H Q _=>∃(x:V) (it:yU),vs=[x]/\zS K T' H 3 x (yI it)/\zb3 it/\∀H',zx H H'->Q (.str (xD it)) H'
def ziR(K:Frag):Sp:=fun vs H Q _=>∃(a:Addr) (c:List yU),vs=[.ref a]/\zg7 K H a c/\(∀it∈c,zb3 it)/\c.length<=30/\∀H',zx H H'->Q (.str (qI c)) H'
structure zm5(mg:Str->Option Value):Prop where
 str:mg "str"=none
theorem zhp:zD ["_law_item"] ["_law_item"] (zr zcI):=fsc
theorem zlK:([Str.ofString "_law_thing_here"]:List Str).Nodup:=by decide +kernel
theorem zjd:([Str.ofString "_law_name",Str.ofString "_law_thing_here"]:List Str).Nodup:=by decide +kernel
theorem zmL:¬(V.str "row"=V.str "named"):=by decide +kernel
theorem zgg(F:Fun K "_law_item_text" "_law_item_text" zcI f fd)(T:zm5 mg):zL P w K mg base CX0 1 f fd ["_law_item"] (ziQ K):=by
 refine F.ok zhp (fun cdv A outer s H vs Q E hr h=>?_);obtain⟨x,it,rfl,hx,hi,q⟩:=h;obtain⟨h1,h2,h3,h4⟩:=hi;refine⟨_,zp (zJ (zw yi (zK ya (pv 0) zj (fun _ _=>rfl)) zo (zE _)) (zm (zB (cTy ud T.str PyProof.Rows.boot_str (ac (zK ya (pv 0) zj (fun _ _=>rfl)) zi)))) zz)
  (zp (zJ (zw yi (zK ya (pv 0) zj (fun _ _=>rfl)) zo (zE _)) (zm (zB (zt zA (zt zA (zK ya (pv 0) zj (fun _ _=>rfl)) zo) (cTy ud T.str PyProof.Rows.boot_str (ac (zK ya (pv 0) zj (fun _ _=>rfl)) zi))))) zz)
  (zp (zJ (zw yi (zK ya (pv 0) zj (fun _ _=>rfl)) zo (zE _)) (zm (zB (zt zA (zt zA zo (z7 PySem.F.plainAttrs_str PySem.F.slot_str_join PySem.F.type_str_join yX zo (ac (xY [] ["_law_thing_here"] [none] rfl ⟨rfl,rfl,rfl,rfl⟩ (ye (zK ya (pv 0) zj (fun _ _=>rfl))) (z5 0) rfl rfl rfl
   (fun pins fp s H C=>⟨zF (i:=0) zlK rfl (Or.inl rfl) (.inr rfl),yA,cTy ud T.str PyProof.Rows.boot_str (ac (pv 0) zi)⟩)) zi))) zo))) zz)
  (zm (zB (zt zA (zt zA zo (z7 PySem.F.plainAttrs_str PySem.F.slot_str_join PySem.F.type_str_join yX zo (ac (xY [] ["_law_name","_law_thing_here"] [none,none] rfl ⟨rfl,rfl,rfl,rfl⟩ (ye (zK ya (pv 0) zj (fun _ _=>rfl))) (jg (K:=K) (n:=2) 0 1) rfl rfl rfl
   (fun pins fp s H C=>⟨wJ rfl (yo (zF (i:=0) zjd rfl (Or.inl rfl) (.inr rfl)) (yo (zF (i:=1) zjd rfl (Or.inl rfl) (.inr rfl)) xL)),yA,zt zA (zt zA (pv 0) zo) (cTy ud T.str PyProof.Rows.boot_str (ac (pv 1) zi))⟩)) zi))) zo))))),?_⟩
 cases it with
 | one t=>
  obtain⟨b,rfl,hb⟩:=vI hx;refine⟨_,rfl,b,_,_,.str "one",rfl,rfl,hb,rfl,rfl,_,rfl,?_⟩;refine dT rfl ?_;exact⟨_,rfl,b,_,_,.int t,rfl,rfl,hb,rfl,t,rfl,jO (h1 t mem_cons_self),q H (zx.refl _)⟩
 | named n t=>
  obtain⟨b,rfl,hb⟩:=wu hx;have hp:=h2 (n,t) mem_cons_self;have nl:=vE hp;rw[show xj (n,t)=n++"="++xn t from rfl,zG,zG,show("=" : Str).length=1 from rfl] at nl;refine⟨_,rfl,b,_,_,.str "named",rfl,rfl,hb,rfl,rfl,_,rfl,?_⟩;refine dF ne2 ?_;refine⟨_,rfl,b,_,_,.str "named",rfl,rfl,hb,rfl,rfl,_,rfl,?_⟩;refine dT rfl ?_;refine⟨_,rfl,b,_,_,.str n,rfl,rfl,hb,rfl,_,_,rfl,rfl,by rw[show("=" : Str).length=1 from rfl,sizeLine_eq];omega,_,rfl,b,_,_,.int t,rfl,rfl,hb,rfl,t,rfl,jO hp.2,_,_,rfl,rfl,?_,q H (zx.refl _)⟩
  rw[zG,show("=" : Str).length=1 from rfl,sizeLine_eq]
  have:(Str.ofString (toString t)).length<=70:=by have:=nl.2;show(xn t).length<=70;omega
  omega
 | row ts=>
  obtain⟨b,l,rfl,hb,_,hl⟩:=vH hx;have rl:=zdy (ts:=ts) h1 h3;refine⟨_,rfl,b,_,_,.str "row",rfl,rfl,hb,rfl,rfl,_,rfl,?_⟩;refine dF ne1 ?_;refine⟨_,rfl,b,_,_,.str "row",rfl,rfl,hb,rfl,rfl,_,rfl,?_⟩;refine dF zmL ?_;refine⟨_,rfl,b,_,_,.str "row",rfl,rfl,hb,rfl,rfl,_,rfl,?_⟩;refine dT rfl ?_;refine⟨rfl,_,rfl,b,_,_,.ref l,rfl,rfl,hb,rfl,l,rfl,⟨_,zq hl⟩,fun D hD=>?_⟩;refine jQ ts (fun x t=>x=.int t) (fun t=>.str (xn t)) hD (by have:ts.length<=30:=h3;omega) (zq hl) (vD fun _=>rfl) ?_ ?_
  ·rintro x t H' C S sH rfl hm hC
   exact⟨fun _=>⟨_,rfl,t,rfl,jO (h1 t hm),hC H' (zx.refl _)⟩,fun z=>absurd z (by decide)⟩
  intro H' sH hDy;rw[show ts.map (fun t=>V.str (xn t))=(ts.map xn).map V.str by rw[map_map];rfl] at hDy
  refine⟨" ",D,ts.map xn,rfl,rfl,hDy,by decide,zgl (ts:=ts) h1 h3,?_⟩
  exact⟨_,_,rfl,rfl,by rw[show("[" : Str).length=1 from rfl,sizeLine_eq];omega,_,_,rfl,rfl,by rw[zG,show("[" : Str).length=1 from rfl,show("]" : Str).length=1 from rfl,sizeLine_eq];omega,q H' sH⟩
 | book ps=>
  obtain⟨b,l,ys,rfl,hb,_,hl,hy⟩:=wX hx;have rl:=zcm (ps:=ps) h2 h4;refine⟨_,rfl,b,_,_,.str "book",rfl,rfl,hb,rfl,rfl,_,rfl,?_⟩;refine dF ne3 ?_;refine⟨_,rfl,b,_,_,.str "book",rfl,rfl,hb,rfl,rfl,_,rfl,?_⟩;refine dF ne6 ?_;refine⟨_,rfl,b,_,_,.str "book",rfl,rfl,hb,rfl,rfl,_,rfl,?_⟩;refine dF ne5 ?_;refine⟨rfl,_,rfl,b,_,_,.ref l,rfl,rfl,hb,rfl,l,rfl,⟨_,zq hl⟩,fun D hD=>?_⟩;refine jQ ps (fun x p=>∃b,x=.ref b/\SqT K H b [.str p.1,.int p.2]) (fun p=>.str (xj p)) hD (by have:ps.length<=30:=h4;omega) (zq hl) (zes hy) ?_ ?_
  ·rintro x p H' C S sH ⟨b,rfl,hb⟩ hm hC
   have hp:=h2 p hm;have nl:=vE hp;rw[show xj p=p.1++"="++xn p.2 from rfl,zG,zG,show("=" : Str).length=1 from rfl] at nl;refine⟨b,_,rfl,zx.sqT sH hb,rfl,_,_,rfl,_,_,rfl,rfl,fun _=>?_,fun z=>absurd z (by decide)⟩
   refine⟨_,rfl,_,_,rfl,rfl,by rw[show("=" : Str).length=1 from rfl,sizeLine_eq];omega,_,rfl,p.2,rfl,jO hp.2,_,_,rfl,rfl,?_,hC H' (zx.refl _)⟩
   rw[zG,show("=" : Str).length=1 from rfl,sizeLine_eq]
   have:(Str.ofString (toString p.2)).length<=70:=by have:=nl.2;show(xn p.2).length<=70;omega
   omega
  intro H' sH hDy;rw[show ps.map (fun t=>V.str (xj t))=(ps.map xj).map V.str by rw[map_map];rfl] at hDy
  refine⟨" ",D,ps.map xj,rfl,rfl,hDy,by decide,zhF (ts:=ps) h2 h4,?_⟩
  exact⟨_,_,rfl,rfl,by rw[show("{" : Str).length=1 from rfl,sizeLine_eq];omega,_,_,rfl,rfl,by rw[zG,show("{" : Str).length=1 from rfl,show("}" : Str).length=1 from rfl,sizeLine_eq];omega,q H' sH⟩
theorem zhr:zD ["_law_items_here"] ["_law_items_here"] (zr zcM):=fsc
theorem zlO:([Str.ofString "_law_item"]:List Str).Nodup:=by decide +kernel
theorem zgj{f1:Addr}{e1:FuncData}(F:Fun K "_law_call_text" "_law_call_text" zcM f fd)(c1:z8 P w K mg base 1 "_law_item_text" f1 e1 ["_law_item"] (ziQ K)):zL P w K mg base CX0 2 f fd ["_law_items_here"] (ziR K):=by
 refine F.ok zhr (fun cdv A outer s H vs Q E hr h=>?_);obtain⟨a,c,rfl,⟨xs,hS,hx⟩,hi,hl,q⟩:=h;have hr1:yh 1 _:=hr.mono (by decide)
 refine⟨_,zm (zB (z7 PySem.F.plainAttrs_str PySem.F.slot_str_join PySem.F.type_str_join yX zo (ac (xY [] ["_law_item"] [none] rfl ⟨rfl,rfl,rfl,rfl⟩ (ye (pv 0)) (z5 0) rfl rfl rfl
   (fun pins fp s H C=>⟨zF (i:=0) zlO rfl (Or.inl rfl) (.inr rfl),yA,cF c1 hr1 (ac (pv 0) zi)⟩)) zi))),?_⟩
 refine⟨rfl,_,rfl,a,rfl,⟨_,hS⟩,fun D hD=>?_⟩;refine jQ c (fun x it=>zS K T' H 3 x (yI it)) (fun it=>.str (xD it)) hD (by omega) hS (vj hx) ?_ ?_
 ·rintro x it H' C S sH hx' hm hC
  exact⟨fun _=>⟨_,rfl,x,it,rfl,hx'.same sH,hi it hm,hC⟩,fun z=>absurd z (by decide)⟩
 intro H' sH hDy;rw[show c.map (fun t=>V.str (xD t))=(c.map xD).map V.str by rw[map_map];rfl] at hDy
 exact⟨", ",D,c.map xD,rfl,rfl,hDy,by decide,zie hi hl,q H' sH⟩
def yT(k:Nat):Str:=match k with
 | 0=>"!"|1=>""|2=>".."|3=>":"|_=>"::"
def tk(k:Nat):Bool:=k==0||k==1||k==3
def wrS(r:Rw):Str:=r.z++yT r.k
def wU(r:Rw):Str:=if (tk r.k&&r.b)=true then wrS r++"?" else wrS r
def jj(z:Str):Str:="-"++z
def zdW(rows:List Rw)(bars:List Str):Str:=Txt.join ", " (rows.map wU++bars.map jj)
def zeP:List (Key×V):=[(.inr "seat",.str "!"),(.inr "both",.str ""),(.inr "tail",.str ".."),(.inr "tag",.str ":"),(.inr "bag",.str "::")]
theorem ziw:∀k:Nat,k<5->some (V.str (yT k))=jz (yK [] zeP) (.inr (kw k)):=by decide +kernel
theorem zbc:∀k:Nat,(yT k).length<=2:=by
 intro k;unfold yT;split <;> decide
theorem ze3{r:Rw}(h:r.ok): 1<=(wrS r).length/\(wrS r).length<=10:=by
 have a:=yS.mp h.2;have b:=zbc r.k;unfold wrS;rw[zG];omega
theorem zdH{r:Rw}(h:r.ok): 1<=(wU r).length/\(wU r).length<=11:=by
 have a:=ze3 h;unfold wU;split
 ·rw[zG,show("?" : Str).length=1 from rfl];omega
 ·omega
theorem zd6{z:Str}(h:zV z=true): 1<=(jj z).length/\(jj z).length<=9:=by
 have a:=yS.mp h;unfold jj;rw[zG,show("-" : Str).length=1 from rfl];omega
theorem zgG{rows:List Rw}{bars:List Str}(h:∀r∈rows,r.ok)(hb:∀z∈bars,zV z=true)(l1:rows.length<=500)(l2:bars.length<=500):((rows.map wU++bars.map jj).map (·.length)).sum+(rows.map wU++bars.map jj).length<=1048576:=by
 have:=xE (xs:=rows.map wU++bars.map jj) (B:=11) (fun x hx=>by
  rcases List.mem_append.mp hx with hx|hx
  ·obtain⟨r,hr,rfl⟩:=List.mem_map.mp hx;exact(zdH (h r hr)).2
  ·obtain⟨z,hz,rfl⟩:=List.mem_map.mp hx;have:=(zd6 (hb z hz)).2;omega)
 simp only[length_append,length_map] at this |-;omega
def zi4:Sp:=fun vs H Q _=>∃(a b:Addr) (us:List Addr) (rows:List Rw) (bars:List Str),vs=[.ref a,.ref b]/\H a=some (.lst (us.map V.ref))/\Paired (TAt H) us rows/\(∀r∈rows,r.ok)/\rows.length<=500/\H b=some (.lst (bars.map V.str))/\(∀z∈bars,zV z=true)/\bars.length<=500/\∀H',zx H H'->Q (.str (zdW rows bars)) H'
variable {EA:Addr}
theorem rv0:∀{r:Rw},r.k<5->atI (rv r) 0=some (.str (kw r.k)):=by
 rintro⟨k,z,b⟩ h;rcases lt5 h with rfl|rfl|rfl|rfl|rfl <;> rfl
theorem rv1:∀{r:Rw},r.k<5->atI (rv r) 1=some (.str r.z):=by
 rintro⟨k,z,b⟩ h;rcases lt5 h with rfl|rfl|rfl|rfl|rfl <;> rfl
theorem rv2:∀{r:Rw},r.k<5->tk r.k=true->atI (rv r) 2=some (.bl r.b):=by
 rintro⟨k,z,b⟩ h t;rcases lt5 h with rfl|rfl|rfl|rfl|rfl <;> first|rfl|cases t
theorem zj9:∀{r:Rw},r.k<5->((rv r).length:Int)=if tk r.k=true then 3 else 2:=by
 rintro⟨k,z,b⟩ h;rcases lt5 h with rfl|rfl|rfl|rfl|rfl <;> rfl
theorem zcn(bars:List Str):Paired (fun x z=>x=V.str z) (bars.map V.str) bars:=vD fun _=>rfl
theorem uJ:zD ["_law_specs_here","_law_shut","_law_texts","_law_one","_law_text"] ["_law_specs_here","_law_shut"] (zr zcK):=fsc
theorem zlN:([Str.ofString "_law_name"]:List Str).Nodup:=by decide +kernel
theorem zgi(F:Fun K "_law_form_text" "_law_form_text" zcK f fd)(hlen:mg "len"=none):zL P w K mg base CX0 1 f fd ["_law_specs_here","_law_shut"] zi4:=by
 refine F.ok uJ (fun cdv A outer s H vs Q E hr h=>?_);obtain⟨a,b,us,rows,bars,rfl,ha,hu,hok,l1,hb,hbn,l2,q⟩:=h;have hu1:=zdU hr;refine⟨_,zp (zC (i:=2) uJ.nd rfl (Or.inl rfl) (zP zi))
  (zp (y8 PassesOwn.never rfl (ye (pv 0)) (zF (i:=3) uJ.nd rfl (Or.inl rfl))
   (zp (zC (i:=4) uJ.nd rfl (Or.inl rfl) (zt zA (zK ya (pv 3) zj (fun _ _=>rfl)) (wD hu1 (jK (yC zo zo (yC zo zo (yC zo zo (yC zo zo (yC zo zo jJ))))) rfl rfl (by simp) (by decide)) (zK ya (pv 3) zj (fun _ _=>rfl)) (fun _ _=>rfl))))
   (zp (zJ (yv (yW (zw yi (cB zO hlen PySem.boot_len (ac (pv 3) zi)) zj (zE _)) (yD (yx (zK ya (pv 3) zj (fun _ _=>rfl)))))) (zm (zC (i:=4) uJ.nd rfl (Or.inl rfl) (zt zA (pv 4) zo))) zz)
   (zm (zW (z7 PySem.F.plainAttrs_list PySem.F.slot_list_append PySem.F.type_list_append z9 (pv 2) (ac (pv 4) zi)))))))
  (zm (zB (z7 PySem.F.plainAttrs_str PySem.F.slot_str_join PySem.F.type_str_join yX zo (ac (zt wp (pv 2)
   (xY [] ["_law_name"] [none] rfl ⟨rfl,rfl,rfl,rfl⟩ (ye (pv 1)) (z5 0) rfl rfl rfl
    (fun pins fp s H C=>⟨zF (i:=0) zlN rfl (Or.inl rfl) (.inr rfl),yA,zt zA zo (pv 0)⟩))) zi))))),?_⟩
 refine⟨vc,fun l hl=>?_⟩;have s0:=zk hl (.lst []);have lu:us.length=rows.length:=hu.length;refine⟨_,rfl,a,rfl,⟨_,zq (s0 _ _ ha)⟩,yO (K:=K) (a:=a) (xs:=us.map V.ref) (fun i σ H2=>∃v3 v4,σ=[some (.ref a),some (.ref b),some (.ref l),v3,v4]/\zx H H2/\H2 l=some (.lst (((rows.take i).map wU).map V.str)))
  ⟨_,_,rfl,s0,zc⟩ (fun i σ H2 _ ⟨_,_,_,s2,_⟩=>zq (s2 _ _ ha)) ?_ ?_⟩
 ·rintro i y σ H2 hi ⟨v3,v4,rfl,s2,g⟩
  obtain⟨u,hu',rfl⟩:=wC hi;obtain⟨r,hr',tr⟩:=xy hu hu';have rok:=hok r (mem_of_getElem? hr');have hil:i<rows.length:=(List.getElem?_eq_some_iff.mp hr').1;have wl:=ze3 rok;have el:=zbc r.k;have zl:=(yS.mp rok.2).2.1;have tr2:=s2 _ _ tr;refine⟨_,rfl,u,_,_,.str r.z,rfl,rfl,zI tr2,rv1 rok.1,?_⟩;intro d hd;refine⟨zc,zeP,rfl,(by show 5<=15;decide),?_⟩
  have t1:zx H2 (upd (upd H2 d (.dK [])) d (.dK (yK [] zeP))):=by rw[xZ];exact zk hd _
  have e1':upd (upd H2 d (.dK [])) d (.dK (yK [] zeP)) d=some (.dK (yK [] zeP)):=zc;generalize upd (upd H2 d (.dK [])) d (.dK (yK [] zeP))=H3 at t1 e1' |-;refine⟨_,rfl,u,_,0,.str (kw r.k),rfl,rfl,zI (t1 _ _ tr2),rv0 rok.1,d,.str (yT r.k),rfl,.inl ⟨_,.inr (kw r.k),.inl e1',rfl,ziw r.k rok.1⟩,_,_,rfl,rfl,by rw[sizeLine_eq];omega,?_⟩
  dsimp only[yc];have tr3:=t1 _ _ tr2;have g3:=t1 _ _ g;refine⟨_,rfl,u,rv r,rfl,.inr (zI tr3),rfl,_,rfl,?_⟩;have dl:decide (V.int ((rv r).length:Nat)=V.int 3)=tk r.k:=by
   have:=zj9 rok.1
   cases e:tk r.k
   ·rw[e,if_neg (by decide)] at this
    exact decide_eq_false fun z=>by injection z with z;omega
   ·rw[e,if_pos rfl] at this
    exact decide_eq_true (by rw[this])
  have fin:∀z':Str,z'=wU r->zx H (upd H3 l (.lst (((rows.take i).map wU).map V.str++[V.str z'])))/\upd H3 l (.lst (((rows.take i).map wU).map V.str++[V.str z'])) l=some (.lst (((rows.take (i+1)).map wU).map V.str)):=fun z' e=>by
   refine⟨zU (s2.trans t1) hl _,?_⟩;rw[zc,xr hr',map_append,map_append,e];rfl
  have ll:(((rows.take i).map wU).map V.str).length<sizeLine:=by simp only[length_map,length_take];rw[sizeLine_eq];omega
  have ep:wU r=if (tk r.k&&r.b)=true then wrS r++"?" else wrS r:=rfl
  dsimp only;cases e:tk r.k
  ·rw[e] at dl ep
   refine vt dl ?_;refine yb ?_
   have:=fin _ ep.symm
   refine⟨_,rfl,.inl ⟨rfl,_,zq g3⟩,_,rfl,l,_,_,rfl,rfl,g3,ll,_,_,rfl,this⟩
  ·rw[e] at dl ep
   refine wY dl ?_;refine⟨_,rfl,u,_,_,.bl r.b,rfl,rfl,zI tr3,rv2 rok.1 e,_,rfl,?_⟩;cases e2:r.b
   ·rw[e2] at ep
    refine yb ?_
    have:=fin _ ep.symm
    refine⟨_,rfl,.inl ⟨rfl,_,zq g3⟩,_,rfl,l,_,_,rfl,rfl,g3,ll,_,_,rfl,this⟩
   ·rw[e2] at ep
    refine yp ?_
    have:=fin _ ep.symm
    refine⟨_,rfl,_,_,rfl,rfl,by have:(r.z++yT r.k).length<=10:=wl.2;rw[show("?" : Str).length=1 from rfl,sizeLine_eq];omega,?_⟩
    refine⟨_,rfl,.inl ⟨rfl,_,zq g3⟩,_,rfl,l,_,_,rfl,rfl,g3,ll,_,_,rfl,this⟩
 ·rintro σ H2 ⟨v3,v4,rfl,s2,g⟩
  rw[length_map,lu,take_length] at g;have l1':((rows.map wU).map V.str).length<=500:=by simp only[length_map];omega
  refine⟨rfl,_,rfl,_,rfl,b,rfl,⟨_,zq (s2 _ _ hb)⟩,fun D2 hD'=>?_⟩;refine jQ bars (fun x z=>x=V.str z) (fun z=>.str (jj z)) hD' (by omega) (zq (s2 _ _ hb)) (zcn bars) ?_ ?_
  ·rintro x z H' C S sH rfl hm hC
   have:=(yS.mp (hbn z hm)).2.1
   exact⟨fun _=>⟨_,rfl,_,_,rfl,rfl,by rw[show("-" : Str).length=1 from rfl,sizeLine_eq];omega,hC H' (zx.refl _)⟩,fun z=>absurd z (by decide)⟩
  intro H4 s4 hD4;refine⟨l,D2,_,_,rfl,rfl,s4 _ _ g,hD4,by simp only[length_map];rw[sizeLine_eq];omega,fun r hrn=>?_⟩
  refine⟨", ",r,rows.map wU++bars.map jj,rfl,rfl,?_,by decide,zgG hok hbn l1 l2,q _ ((s2.trans s4).trans (zk hrn _))⟩
  rw[zc,map_append,map_map,map_map];rfl
theorem w9{z y:Str}{c:Nat}(hy:sg y=[c]):Txt.startswith z y=decide ((sg z).head?=some c):=by
 have l1:y.length=1:=by rw[zN,hy];rfl
 unfold Txt.startswith;rw[PySem.StrLaws.subAt_eq,l1,zN,show z.cps.toList=sg z from rfl,show y.cps.toList=[c] from hy];cases e:sg z with
 | nil=>rfl
 | cons d r=>
  rw[drop_zero,List.head?_cons];show(decide (0+1<=(d::r).length)&&[d]==[c])=_;rw[decide_eq_true (by simp),Bool.true_and]
  by_cases h:d=c
  ·subst h;simp
  ·rw[decide_eq_false (by simpa using h)]
   simpa using h
theorem zgM{z y:Str}{c d:Nat}{r:List Nat}(hy:sg y=[c])(hz:sg z=r++[d]):Txt.endswith z y=decide (d=c):=by
 have l1:y.length=1:=by rw[zN,hy];rfl
 unfold Txt.endswith;rw[PySem.StrLaws.subAt_eq,l1,zN,hz,show z.cps.toList=sg z from rfl,hz,show y.cps.toList=[c] from hy];rw[show(r++[d]).length - 1=r.length by simp,drop_left]
 show(decide (0+1<=(r++[d]).length)&&[d]==[c])=_;rw[decide_eq_true (by simp),Bool.true_and]
 by_cases h:d=c
 ·subst h;simp
 ·rw[decide_eq_false h]
  simpa using h
theorem j0{z:Str}{r s:List Nat}(hz:sg z=r++s):sg (Txt.slice z (some (r.length:Nat)) none)=s:=by
 have hl:z.length=r.length+s.length:=by rw[zN,hz];simp
 rw[slice_from_eq (x:=z) (i:=(r.length:Nat)) (b:=z.length) (by omega) (by omega) rfl]
 show((z.cps.toList.drop ((r.length:Nat):Int).toNat).take ((z.length:Int) - (r.length:Nat)).toNat)=s;rw[show z.cps.toList=sg z from rfl,hz,show((z.length:Int) - (r.length:Nat)).toNat=s.length by omega]
 show((r++s).drop r.length).take s.length=s;rw[drop_left,take_length]
def zb8:Str:="0123456789"
theorem at0(d:Nat)(r:List Nat):atI (d::r) 0=some d:=ue (j:=0) rfl
structure zl9(mg:Str->Option Value):Prop where
 len:mg "len"=none
 all:mg "all"=none
 int:mg "int"=none
 mf:∃t,mg "MOST_FIGURES"=some (.int 60 t)
 fg:∃t,mg "FIGURES"=some (.str zb8 t)
theorem zcW{t:Int}(h:zaF t):∀c∈sg (xn t),c=45\/(48<=c/\c<=57):=by
 have N:=zgm t h;intro c hc;rcases N.txt with ⟨_,e⟩|⟨_,e⟩
 ·rw[e] at hc;exact .inr (N.dig c hc)
 ·rw[e] at hc
  rcases List.mem_cons.mp hc with rfl|hc
  ·exact .inl rfl
  ·exact .inr (N.dig c hc)
theorem zdN{z:Str}(h:zV z=true):∀c∈sg z,97<=c/\c<=122:=(yS.mp h).2.2
theorem zdI{p:Str×Int}(h:zfZ p):∀c∈sg (xj p),c=45\/(48<=c/\c<=57)\/c=61\/(97<=c/\c<=122):=by
 intro c hc;unfold xj at hc;rw[xG,xG] at hc;rcases List.mem_append.mp hc with hc|hc
 ·rcases List.mem_append.mp hc with hc|hc
  ·exact .inr (.inr (.inr (zdN h.1 c hc)))
  ·have:c∈[61]:=hc
   simp at this;exact .inr (.inr (.inl this))
 ·rcases zcW h.2 c hc with h|h
  ·exact .inl h
  ·exact .inr (.inl h)
def zmf(K:Frag)(H0 H:Hp)(x:V)(it:yU):Prop:=zS K (fun b=>H0 b=none) H 3 x (yI it)
theorem zkb(ts:List Int):sg (xD (.row ts))=91::(sg (Txt.join " " (ts.map xn))++[93]):=by
 show sg ("["++Txt.join " " (ts.map xn)++"]")=_;rw[xG,xG];rfl
theorem ziA(ts:List (Str×Int)):sg (xD (.book ts))=123::(sg (Txt.join " " (ts.map xj))++[125]):=by
 show sg ("{"++Txt.join " " (ts.map xj)++"}")=_;rw[xG,xG];rfl
theorem zjh(z:Str):(!(PySem.Builtin.Str.occurrences z ("=" : Str) 0 z.length 1).isEmpty)=decide (61∈sg z):=by
 have:=empty_one z 61
 rw[show("=" : Str)=⟨#[61]⟩ from rfl,this,Bool.not_not]
theorem uy{K:Frag}{ok:Addr->Prop}{H:Hp}{n:Nat}:∀{xs:List V}{ps:List (Str×Int)},Paired (fun v (p:Str×Int)=>∃b,v=.ref b/\H b=some (.tup [.str p.1,.int p.2])) xs ps->Paired (zS K ok H (n+1)) xs (ps.map xC)
 | _,_,.nil=>.nil
 | _,_,.cons ⟨b,e,h⟩ t=>.cons (by rw[e];exact .tup (zI h) (.cons .str (.cons .int .nil))) (uy t)
theorem uA{α β γ : Type}{R : α->γ->Prop}{f : β->γ}:∀{xs:List α}{ys:List β},Paired (fun x y=>R x (f y)) xs ys->Paired R xs (ys.map f)
 | _,_,.nil=>.nil
 | _,_,.cons a b=>.cons a (uA b)
theorem zlI:([Str.ofString "word"]:List Str).Nodup:=by decide +kernel
theorem zif{it:yU}(h:zb3 it): 44∉sg (xD it):=by
 have jn:∀ws:List Str,(∀w∈ws,44∉sg w)->44∉sg (Txt.join " " ws):=by
  intro ws hw;rw[jI];induction ws with
  | nil=>simp [jL]
  | cons a r ih=>
   have ha:=hw a mem_cons_self
   have:=ih fun w hw'=>hw w (mem_cons_of_mem _ hw')
   cases r with
   | nil=>exact ha
   | cons b r=>
    simp only[map_cons,jL] at this |-;intro hm;rcases List.mem_append.mp hm with hm|hm
    ·rcases List.mem_append.mp hm with hm|hm
     ·exact ha hm
     ·have : 44∈[32]:=hm
      simp at this
    ·exact this hm
 obtain⟨h1,h2,h3,h4⟩:=h;cases it with
 | one t=>exact fun h=>by have:=zcW (h1 t mem_cons_self) _ h;omega
 | named n t=>exact fun h=>by have:=zdI (h2 (n,t) mem_cons_self) _ h;omega
 | row ts=>
  rw[zkb]
  have:=jn (ts.map xn) (fun w hw=>by obtain⟨t,ht,rfl⟩:=List.mem_map.mp hw;exact fun h=>by have:=zcW (h1 t ht) _ h;omega)
  intro hm;rcases List.mem_cons.mp hm with hm|hm
  ·omega
  ·rcases List.mem_append.mp hm with hm|hm
   ·exact this hm
   ·simp at hm
 | book ps=>
  rw[ziA]
  have:=jn (ps.map xj) (fun w hw=>by obtain⟨t,ht,rfl⟩:=List.mem_map.mp hw;exact fun h=>by have:=zdI (h2 t ht) _ h;omega)
  intro hm;rcases List.mem_cons.mp hm with hm|hm
  ·omega
  ·rcases List.mem_append.mp hm with hm|hm
   ·exact this hm
   ·simp at hm
theorem zmU:([Str.ofString "piece"]:List Str).Nodup:=by decide +kernel
structure zmb(mg:Str->Option Value):Prop where
 len:mg "len"=none
 mi:∃t,mg "MOST_ITEMS"=some (.int 30 t)
 mn:∃t,mg "MOST_IN_AN_ITEM"=some (.int 30 t)
 mo:∃t,mg "MOST_OF_A_KIND"=some (.int 60 t)
def rbL:List V:=[.str "row",.str "book"]
theorem zb2{K:Frag}{ok:Addr->Prop}{H:Hp}{xs:List V}{c:List yU}{i:Nat}{x:V}(h:Paired (zS K ok H 3) xs (c.map yI))(hx:xs[i]?=some x):∃it,c[i]?=some it/\zS K ok H 3 x (yI it):=by
 obtain⟨d,hd,hy⟩:=Paired.get h hx;rw[getElem?_map] at hd;cases e:c[i]? with
 | none=>rw[e] at hd;cases hd
 | some it=>rw[e] at hd;exact⟨it,rfl,(Option.some.inj hd) ▸ hy⟩
def sgn:Str:="!.:"
def lfL:List V:=[.str "tail",.str "bag"]
theorem zkR:∀k:Nat,∀c∈sg (yT k),c∈sg sgn:=by
 intro k;unfold yT;split <;> decide +kernel
theorem zlW:∀k:Nat,k<5->inV (.str (kw k)) lfL=!tk k:=by decide +kernel
theorem zfM:∀{r:Rw},r.k<5->tk r.k=false->rv r=[.str (kw r.k),.str r.z]:=by
 rintro⟨k,z,b⟩ h t;rcases lt5 h with rfl|rfl|rfl|rfl|rfl <;> first|rfl|cases t
theorem zbB:∀{r:Rw},r.k<5->tk r.k=true->rv r=[.str (kw r.k),.str r.z,.bl r.b]:=by
 rintro⟨k,z,b⟩ h t;rcases lt5 h with rfl|rfl|rfl|rfl|rfl <;> first|rfl|cases t
variable {SA LA CE:Addr}
theorem zdj(c:Int):zaF (xq c):=by
 have eN:(10:Int) ^ (60:Int).toNat=((10 ^ 60:Nat):Int):=by decide +kernel
 have big : 100<=10 ^ 60:=by decide +kernel
 unfold zaF xq;rw[eN];generalize (10 ^ 60:Nat)=N at *;split
 ·omega
 ·have h1:=emod_nonneg (c / 2) (show(2 * (N:Int) - 1)≠0 by omega)
  have h2:=emod_lt_of_pos (c / 2) (show(0:Int)<2 * (N:Int) - 1 by omega)
  omega
theorem zjc{zs:List Str}(h : 0<zs.length)(hz:∀z∈zs,zV z=true)(x:Int):zV (jE zs x)=true:=hz _ (zbR h x).2
theorem zig{zs:List Str}(h : 0<zs.length)(hz:∀z∈zs,zV z=true)(c:Int):zb3 (xA zs c)/\(itT (xA zs c)).length<=4/\(itP (xA zs c)).length<=3:=by
 have h5:(c / 8 % 5).toNat<=4:=by omega
 have h4:(c / 8 % 4).toNat<=3:=by omega
 unfold xA;split
 ·refine⟨⟨fun t ht=>?_,fun p hp=>(by cases hp),by show 1<=30;decide,by show 0<=30;decide⟩,by show 1<=4;decide,by show 0<=3;decide⟩
  rw[List.mem_singleton.mp ht];exact zdj _
 split
 ·have lr:(zel (c / 8)).length<=4:=by unfold zel;rw[length_map,length_range];exact h5
  refine⟨⟨fun t ht=>?_,fun p hp=>(by cases hp),?_,by show 0<=30;decide⟩,lr,by show 0<=3;decide⟩
  ·obtain⟨k,_,rfl⟩:=List.mem_map.mp (show t∈zel (c / 8) from ht);exact zdj _
  ·show(zel (c / 8)).length<=30;omega
 split
 ·have lr:(qJ zs (c / 8)).length<=3:=by unfold qJ wK;rw[length_map,length_map,length_range];exact h4
  refine⟨⟨fun t ht=>(by cases ht),fun p hp=>?_,by show 0<=30;decide,?_⟩,by show 0<=4;decide,lr⟩
  ·obtain⟨z,hz',rfl⟩:=List.mem_map.mp (show p∈qJ zs (c / 8) from hp)
   obtain⟨k,_,rfl⟩:=List.mem_map.mp hz';exact⟨zjc h hz _,zdj _⟩
  ·show(qJ zs (c / 8)).length<=30;omega
 ·refine⟨⟨fun t ht=>(by cases ht),fun p hp=>?_,by show 0<=30;decide,by show 1<=30;decide⟩,by show 0<=4;decide,by show 1<=3;decide⟩
  rw[List.mem_singleton.mp hp];exact⟨zjc h hz _,zdj _⟩
theorem zas{xs:List V}{n:Nat}:ji xs none (some (n:Int))=xs.take n:=by
 unfold ji;rw[HT.zml,HT.zlo,drop_zero,Nat.sub_zero];by_cases h:n<=xs.length
 ·rw[min_eq_left h]
 ·rw[min_eq_right (by omega),take_of_length_le (le_refl _),take_of_length_le (by omega)]
def zhw(r:Rw):Dt:=match r.k with
 | 0=>.tup [.str "seat",.str r.z,.bl r.b]|1=>.tup [.str "both",.str r.z,.bl r.b]|2=>.tup [.str "tail",.str r.z]|3=>.tup [.str "tag",.str r.z,.bl r.b]|_=>.tup [.str "bag",.str r.z]
theorem zfO{K:Frag}{ok:Addr->Prop}{H:Hp}{u:Addr}{r:Rw}{n:Nat}(h:TAt H u r):zS K ok H (n+1) (.ref u) (zhw r):=by
 obtain⟨k,z,b⟩:=r;unfold TAt at h;have s:=zI (K:=K) h
 match k with
 | 0=>exact .tup s (.cons .str (.cons .str (.cons .bl .nil)))
 | 1=>exact .tup s (.cons .str (.cons .str (.cons .bl .nil)))
 | 2=>exact .tup s (.cons .str (.cons .str .nil))
 | 3=>exact .tup s (.cons .str (.cons .str (.cons .bl .nil)))
 | _+4=>exact .tup s (.cons .str (.cons .str .nil))
theorem zad{K:Frag}{ok:Addr->Prop}{H:Hp}{n:Nat}:∀{us:List Addr}{rows:List Rw},Paired (TAt H) us rows->Paired (zS K ok H (n+1)) (us.map V.ref) (rows.map zhw)
 | _,_,.nil=>.nil
 | _,_,.cons h t=>.cons (zfO h) (zad t)
theorem q0{K:Frag}{ok:Addr->Prop}{H:Hp}{n:Nat}:∀(zs:List Str),Paired (zS K ok H n) (zs.map V.str) (zs.map Dt.str)
 | []=>.nil
 | z::zs=>.cons .str (q0 zs)
theorem zam{K:Frag}{H:Hp}{t l1 l2:Addr}{us:List Addr}{rows:List Rw}{bars:List Str}(ht:H t=some (.tup [.ref l1,.ref l2]))(h1:H l1=some (.lst (us.map V.ref)))(hu:Paired (TAt H) us rows)(h2:H l2=some (.lst (bars.map V.str))):
  zS K T' H 3 (.ref t) (.tup [.lst (rows.map zhw),.lst (bars.map Dt.str)]):=.tup (zI ht) (.cons (.lst trivial h1 (zad hu)) (.cons (.lst trivial h2 (q0 _)) .nil))
end
end K92
namespace L2
open PySem PySem.Spec PyProof.Rows
def FlW(B:Heap)(l:List Env)(e:Addr)(cls a0 fl:Value)(h:Heap):Prop:=B.StaysIn h/\B.get? e=none/\h.FunFrames B l/\h.TracedAtW B e cls a0 fl
structure zmh(P:Program)(w:World)(outer:List Env)(H:Hp)(s:Shared)(cls:Value)(H':Hp)(ea:Addr)(s':Shared):Prop where
 os:s'.os=s.os
 bare:AllBare s'.gens
 un:Un (frs outer) [] H H' s.heap s'.heap
 hok:HOk P w H' s'.heap
 nt:H' ea=none
 fly:∃B a0 fl,FlW B outer ea cls a0 fl s'.heap/\(∀b u,H' b=some u->∃o,B.get? b=some o)/\(∀b o,s.heap.get? b=some o->H b=none->b∉frs outer->B.get? b=some o)/\
  ∀b o,s.heap.get? b=some o->b∉frs outer->∃o',B.get? b=some o'
abbrev CXa(P:Program)(w:World):CXT:=fun outer H s E e s'=>∃ea cls H',e=.ref ea/\zmh P w outer H s cls H' ea s'/\E cls none H'
section
variable {M:Model}{A:Around}{E:VSP}{s:Shared}
theorem zeF{B:Heap}{env:Env}{outer:List Env}{L e:Addr}{cls a0 fl:Value}{Q:Unit->Shared->Prop}(fr:A.frames=some (env::outer))(hL:env.frame=some L)(F:FlW B (env::outer) e cls a0 fl s.heap)
  (q:∀h',Heap.FlyingW B outer e cls a0 h'->s.heap.UpToSlots h'->Q () { s with heap:=h' }):wpAny M A (leaving env (.ref e)) Q E s:=by
 by_cases hz:fl=rawInt L
 ·subst hz
  unfold leaving;refine zwb (wpAny_noteFrame_againW hL F.2.2.2 ?_);refine wpAny_landsW (F:Heap.HeldW B (env::outer) e cls a0 L s.heap) fun h' k up=>q h' ⟨k.1,k.2.1,k.2.2.1.2.2,k.2.2.2⟩ up
 ·obtain⟨f1,f2,f3,oe,vs,T,oT,ts,he,⟨hc,h0⟩,hd,h1,hnT,hTe,hT,hdT,h3⟩:=F
  subst hc;unfold leaving noteFrame;simp only[hL];refine zwb (zwb (wpAny_field he hd h1 ?_));rw[if_pos (show(Value.ref T != Value.none)=true by simp)]
  refine zwb (wpAny_field hT hdT h3 ?_);rw[if_neg (show ¬((fl==rawInt L)=true) by rw[beq_iff_eq];exact hz)]
  refine zwb (wpAny_setField hT hdT (Array.getElem?_eq_some_iff.mp h3).1 ?_);have oth:∀b,b≠T->(s.heap.update T (Obj.mapFields (·.setIfInBounds 3 Value.none))).get? b=s.heap.get? b:=fun b nb=>Heap.get?_update_other _ _ (Ne.symm nb);have ne:∀b o,s.heap.get? b=some o->(∀vs,o.data≠.fields vs)->b≠T:=fun b o hb hf z=>by
   rw[z,hT] at hb;cases hb;exact hf ts hdT
  refine wpAny_newEntryW fr (f3.of_keeps fun b o hb hf=>⟨o,(oth b (ne b o hb hf)).trans hb,rfl⟩) hL ((oth e (Ne.symm hTe)).trans he)
   (fun b o hb=>(oth b fun z=>by rw[z,hnT] at hb;cases hb).trans (f1 b o hb)) f2 hd (Array.getElem?_eq_some_iff.mp h1).1 h0 fun h' ⟨x1,x2,x3,x4⟩=>?_
  exact q h' ⟨x1,f2,x2.2.2,x3⟩ fun b o hb hf=>x4 b o ((oth b (ne b o hb hf)).trans hb) hf
variable {X:Cx}{pins:PnL}{σ:St}{H H':Hp}{s':Shared}{ea:Addr}{cls:Value}
theorem zin(I:Inv X pins σ H s)(hstk:X.stack=X.env::X.outer)(hfl:X.env.frame=some X.env.locals)(hex:X.ex=[])(F:zmh X.prog X.w X.stack H s cls H' ea s'):
  wpAny M X.A (leaving X.env (.ref ea)) (fun _ s''=>Fly X.prog X.w X.outer X.H₀ X.s₀ cls H' ea s'') E s':=by
 have fr:=wZ hstk hfl;have fr0:=I.ok.frames;rw[hstk] at fr0;obtain⟨B,a0,fg,fl,tr,old,olds⟩:=F.fly;have neL:∀b o,X.s₀.heap.get? b=some o->b≠X.env.locals:=fun b o e=>ne_of_lt (lt_of_lt_of_le (Heap.lt_size e) I.ok.above);have noEx:∀b:Addr,b∉X.ex:=fun b=>by rw[hex];simp
 have nst:∀b o,X.s₀.heap.get? b=some o->b∉frs X.outer->b∉frs X.stack:=fun b o e hb=>by
  rw[fr];exact fun z=>(List.mem_cons.mp z).elim (neL b o e) hb
 have fl':=fl;rw[hstk] at fl';refine zeF fr0 hfl fl' fun h2 x1 x2=>?_;have oldB:∀b o,X.s₀.heap.get? b=some o->X.H₀ b=none->b∉frs X.outer->B.get? b=some o:=fun b o e n hb=>
  old b o (I.base.keep b o e n hb (noEx b)) (I.base.free b o e n (noEx b)) (nst b o e hb)
 refine⟨F.os.trans I.os,F.bare,⟨fun b o e n hb _=>x1.1 b o (oldB b o e n hb),fun b o e n hb _=>?_,fun b o e n _=>?_,fun b o e _=>?_,fun b xs e=>F.un.tups b xs (I.base.tups b xs e),fun b o u e=>F.un.frzs b o u (I.base.frzs b o u e),fun b ps e=>?_⟩,F.hok.sameAt fun b u o e q=>?_,F.nt,⟨B,a0,x1,tr,oldB,fun b o e hb=>?_⟩⟩
 ·obtain⟨sl,e1⟩:=I.base.slot b o e n hb (noEx b)
  obtain⟨sl1,e2⟩:=F.un.any e1 (I.base.free b o e n (noEx b)) (by simp)
  have hd:∀vs,o.data≠.fields vs:=by
   obtain⟨_,o',ho',hd⟩:=I.funs.mem hb;rw[e1] at ho';cases ho';exact hd
  obtain⟨sl2,e3⟩:=x2 b _ e2 hd;exact⟨sl2,e3⟩
 ·obtain⟨o',e1⟩:=I.base.there b o e (noEx b)
  exact F.un.free b o' e1 (I.base.free b o e n (noEx b)) (by simp)
 ·obtain⟨o1,e1⟩:=I.base.there b o e (noEx b)
  obtain⟨o2,e2⟩:=F.un.there b o1 e1 (by simp)
  by_cases hb:b∈frs X.stack
  ·obtain⟨_,o',ho',hd⟩:=fl.2.2.1.mem hb
   obtain⟨sl2,e3⟩:=x2 b o' ho' hd;exact⟨_,e3⟩
  ·obtain⟨o3,e3⟩:=olds b o1 e1 hb
   exact⟨o3,x1.1 b o3 e3⟩
 ·obtain⟨m1,e1⟩:=I.base.tbls b ps e
  obtain⟨m2,e2⟩:=F.un.tbls b _ e1;exact⟨m1++m2,by rw[e2,Array.append_assoc]⟩
 ·obtain⟨o3,e3⟩:=tr b u e
  have e4:=fl.1 b o3 e3;rw[q] at e4;cases e4;exact x1.1 b o e3
 ·obtain⟨o1,e1⟩:=I.base.there b o e (noEx b)
  exact olds b o1 e1 (nst b o e hb)
end
section
variable {P:Program}{w:World}{K:Frag}{mg:Str->Option Value}{base:Heap}{N:List Str}{qual:Str}{scope:Scope}{f:Addr}{cd:Value}{A:Around}{outer:List Env}{s:Shared}{H:Hp}{E E':XK}
theorem zdG(hE:∀c d H,E' c d H->E c d H):yE (CXa P w) (w5 (CXe P w) P w K mg base N qual scope f cd A outer s H E) E':=fun pins σ H1 s1 e s' I q=>by
 obtain⟨ea,cls,H',rfl,F,q⟩:=q;refine wpAny_mono (zin I rfl rfl rfl F) (fun _ s2 F2=>?_) fun _ _ z=>z;exact⟨ea,cls,H',rfl,F2,hE _ _ _ q⟩
end
section
variable {X:Cx}{pins:PnL}{σ:St}{s:Shared}{sc:Scope}{fr Nc:List Str}{caps:List (Option Nat)}{elt tg iter:Expr}{ifs:List Expr}{g:TG}{tt:TT}{te:TE}{ow:List Nat}{pos pos2:Pos}{E:VSP}{EK:XK}
theorem zcg{H2 H':Hp}{C:Addr}{fp:List Addr}{xe:VSP}{pl:PnL}{σ':St}{s' s2:Shared}{e acc:Value}{use:Option (Value->Sem Unit)}{Q:VSP}(hstk:X.stack=X.env::X.outer)(hfl:X.env.frame=some X.env.locals)
  (I2:Inv X pins σ H2 s) (f2:∀b∈fp,wN X pins H2 b) (J:Inv ((zX X pins sc fr Nc fp s H2 C).wish xe) pl σ' H' s') (hp:yE (CXa X.prog X.w) X EK) (q:CXe X.prog X.w X.stack H' s' EK e s2) :
  notedBy (model X.prog X.w) X.A (compEnvC sc (clB X.env fr) C X.env) (fun x s3=>compPost (model X.prog X.w) X.A X.xe use Q acc C (.error x) s3) e s2:=by
 have J:=J.unwish;obtain⟨ea,cls,H3,rfl,F,q⟩:=q;obtain⟨B,a0,fl,tr,old,olds⟩:=F.fly;have fr0:=I2.ok.frames;rw[hstk] at fr0;have hC:s.heap.objs.size<=C:=J.ok.above;have hCS:C∉frs X.stack:=fun hb=>by
  obtain⟨_,o,ho,_⟩:=I2.stack.mem hb;exact absurd (lt_of_lt_of_le (Heap.lt_size ho) hC) (lt_irrefl _)
 obtain⟨m,⟨oC,es,ep,hoC,hdC,rC⟩,_⟩:=J.loc;have hCH:H' C=none:=J.free;have hBC:B.get? C=some oC:=old C oC hoC hCH hCS;have fl':=fl;rw[hstk] at fl';show wpAny _ X.A (noteFrame (.ref ea) X.env) _ _ s2;refine wpAny_noteFrame_onW fr0 fl'.2.2.1 hfl fl'.2.2.2 fl'.1 fl'.2.1 fun h4 ⟨x1,x2,x3,x4⟩=>?_;refine⟨m,⟨oC,es,ep,x1 C oC hBC,hdC,rC⟩,fun h5 sb cenv _=>?_⟩;obtain⟨oe,vs,T,oT,ts,he,hcl,hd,h1,hnT,hTe,hT,hdT,h3⟩:=x3;have neE:ea≠C:=fun z=>by have:=fl.2.1;rw[z,hBC] at this;cases this
 have neT:T≠C:=fun z=>by rw[z,hBC] at hnT;cases hnT
 have he5:=(sb.2 ea neE).trans he;have hT5:=(sb.2 T neT).trans hT;have l3:=(Array.getElem?_eq_some_iff.mp h3).1;unfold PySem.passOn;refine zwb (wpAny_field he5 hd h1 ?_);rw[if_neg (show ¬((Value.ref T==Value.none)=true) by simp)]
 unfold setFlight;refine zwb (zwb (wpAny_field he5 hd h1 ?_));rw[if_pos (show(Value.ref T != Value.none)=true by simp)]
 refine wpAny_setField hT5 hdT l3 (wpAny_throw ?_);have oth:∀b,b≠T->(h5.update T (Obj.mapFields (·.setIfInBounds 3 (cenv.frame.elim Value.none fun f=>rawInt f)))).get? b=h5.get? b:=fun b nb=>Heap.get?_update_other _ _ (Ne.symm nb);have hTn:=Heap.get?_update_self (Obj.mapFields (·.setIfInBounds 3 (cenv.frame.elim Value.none fun f=>rawInt f))) hT5 (Obj.isFreed_of_fields (Obj.data_mapFields hdT _));generalize h5.update T (Obj.mapFields (·.setIfInBounds 3 (cenv.frame.elim Value.none fun f=>rawInt f)))=h6 at oth hTn |-;have hid:Heap.SameBut C s'.heap (hideAll s'.heap [C]):=⟨PySem.W.hideAll_size _ _,fun b nb=>Heap.hide_ne _ nb⟩;have I8:=uc (t2:=s'.toks) I2 J (wg I2 f2 J) hid;have hidN:∀{b:Addr}{o:Obj},(hideAll s'.heap [C]).get? b=some o->b≠C/\s'.heap.get? b=some o:=fun {b o} e=>by
  refine⟨fun z=>?_,of_hideAll _ e⟩;rw[z,hideAll_none [C] mem_cons_self] at e;cases e
 have inB:∀b o,b≠C->B.get? b=some o->(hideAll B [C]).get? b=some o:=fun b o nb e=>hideAll_get _ e (by simpa using nb)
 have st6:∀b o,b≠C->B.get? b=some o->h6.get? b=some o:=fun b o nb e=>by
  rw[oth b (fun z=>by rw[z,hnT] at e;cases e),sb.2 b nb]
  exact x1 b o e
 have nd:∀b o,h4.get? b=some o->(∀vs,o.data≠.fields vs)->b≠T:=fun b o hb hf z=>by rw[z,hT] at hb;cases hb;exact hf _ hdT
 have up:∀b o,b≠C->s2.heap.get? b=some o->(∀vs,o.data≠.fields vs)->∃sl,h6.get? b=some { o with slots:=sl }:=fun b o nb e hf=>by
  obtain⟨sl,e4⟩:=x4 b o e hf;exact⟨sl,by rw[oth b (nd b _ e4 hf),sb.2 b nb];exact e4⟩
 refine hp pins σ H' _ (.ref ea) _ I8 ⟨ea,cls,H3,rfl,⟨F.os,F.bare,⟨fun b o e n hb _=>?_,fun b o e n hb _=>?_,fun b o e n _=>F.un.free b o (hidN e).2 n (by simp),fun b o e _=>?_,F.un.tups,F.un.frzs,F.un.tbls⟩,F.hok.sameAt fun b u o e q'=>?_,F.nt,?_⟩,q⟩
 ·exact st6 b o (hidN e).1 (old b o (hidN e).2 n hb)
 ·obtain⟨sl,e1⟩:=F.un.slot b o (hidN e).2 n hb (by simp)
  obtain⟨_,o',ho',hdd⟩:=fl.2.2.1.mem hb;rw[e1] at ho';cases ho';obtain⟨sl2,e2⟩:=up b _ (hidN e).1 e1 hdd;exact⟨sl2,e2⟩
 ·by_cases hb:b∈frs X.stack
  ·obtain⟨_,o',ho',hdd⟩:=fl.2.2.1.mem hb
   obtain⟨sl2,e2⟩:=up b _ (hidN e).1 ho' hdd;exact⟨_,e2⟩
  ·obtain⟨o3,e3⟩:=olds b o (hidN e).2 hb
   exact⟨o3,st6 b o3 (hidN e).1 e3⟩
 ·obtain⟨o3,e3⟩:=tr b u e
  have e4:=fl.1 b o3 e3;rw[q'] at e4;cases e4;refine st6 b o (fun z=>?_) e3;rw[z,F.un.free C oC hoC hCH (by simp)] at e;cases e
 ·refine⟨hideAll B [C],a0,_,⟨fun b o e=>?_,?_,?_,oe,vs,T,_,_,(oth ea (Ne.symm hTe)).trans he5,hcl,hd,h1,?_,hTe,hTn,Obj.data_mapFields hdT _,by simp [l3];rfl⟩,fun b u e=>?_,fun b o e n hb=>?_,fun b o e hb=>?_⟩
  ·have eB:=of_hideAll [C] e
   refine st6 b o (fun z=>?_) eB;rw[z,hideAll_none [C] mem_cons_self] at e;cases e
  ·cases z:(hideAll B [C]).get? ea with
   | none=>rfl
   | some o=>have:=of_hideAll [C] z;rw[fl.2.1] at this;cases this
  ·have go:∀{l:List Env},s2.heap.FunFrames B l->h6.FunFrames (hideAll B [C]) l:=fun {l}=>by
    induction l with
    | nil=>exact fun _=>trivial
    | cons v r ih=>
     rintro⟨k,⟨L,o,k1,k2,k3,k4⟩,k5⟩;have nb:L≠C:=fun z=>by rw[z,hBC] at k2;cases k2
     obtain⟨sl,e6⟩:=up L o nb k3 k4;refine⟨k,⟨L,_,k1,?_,e6,k4⟩,ih k5⟩;cases z:(hideAll B [C]).get? L with
     | none=>rfl
     | some o=>have:=of_hideAll [C] z;rw[k2] at this;cases this
   exact go fl.2.2.1
  ·cases z:(hideAll B [C]).get? T with
   | none=>rfl
   | some o=>have:=of_hideAll [C] z;rw[hnT] at this;cases this
  ·obtain⟨o3,e3⟩:=tr b u e
   refine⟨o3,inB b o3 (fun z=>?_) e3⟩;rw[z,F.un.free C oC hoC hCH (by simp)] at e;cases e
  ·exact inB b o (hidN e).1 (old b o (hidN e).2 n hb)
  ·obtain⟨o3,e3⟩:=olds b o (hidN e).2 hb
   exact⟨o3,inB b o3 (hidN e).1 e3⟩
def zk1(X:Cx)(sc:Scope)(fr Nc:List Str)(EK:XK)(tg:Expr)(ifs:List Expr)(elt:Expr)(g:TG)(tt:TT)(te:TE):Prop:=
 ∀(pins:PnL) (fp:List Addr) (s:Shared) (H:Hp) (C:Addr) (xe:VSP),yE (CXe X.prog X.w) ((zX X pins sc fr Nc fp s H C).wish xe) EK->
  PG ((zX X pins sc fr Nc fp s H C).wish xe) tg g/\PIf ((zX X pins sc fr Nc fp s H C).wish xe) ifs tt/\PE ((zX X pins sc fr Nc fp s H C).wish xe) elt te
theorem zau{H2:Hp}{it:Addr}{fp:List Addr}{tn:Nat->Heap->Prop}{J:It}{Q:VK}{RR:Value->Addr->Result->Shared->Prop}
  (hc:X.calm=true) (B:yH X.env sc fr) (go:qK g ow) (how:(ow.all fun i=>caps[i]?==some none)=true) (hcap:wz X.N Nc caps X.env sc fr=true) (hlen:caps.length=Nc.length)
  (hb:zk1 X sc fr Nc EK tg ifs elt g tt te)
  (I2:Inv X pins σ H2 s) (T:qV X.prog X.w X.K tg J fp it tn) (st2:tn 0 s.heap) (f2:∀b∈fp,wN X pins H2 b) (h:∀D,H2 D=none->LCr J caps g tt te σ H2 Q D)
  (errf:∀(D C:Addr) (pl:PnL) (σ':St) (H':Hp) (s':Shared) (xe:VSP) (e:Value) (s'':Shared),Inv ((zX X pins sc fr Nc fp s H2 C).wish xe) pl σ' H' s'->CXe X.prog X.w X.stack H' s' EK e s''->notedBy (model X.prog X.w) X.A (compEnvC sc (clB X.env fr) C X.env) (fun x s3=>RR (.ref D) C (.error x) s3) e s'')
  (fin:∀(D C:Addr) (σ':St) (H':Hp) (s':Shared),Inv (zX X pins sc fr Nc fp s H2 C) [] σ' H' s'->Q (.ref D) H'->RR (.ref D) C (.ok .next) s') :
  wpAny (model X.prog X.w) X.A (newList []) (fun acc s₃=>wpAny (model X.prog X.w) X.A (newFunctionEnv sc X.env.globals (clB X.env fr) [] X.env.qual none .none (some X.env)) (fun cenv s₄=>
   codeAny (model X.prog X.w) X.A (.compStart (.ListComp elt [⟨tg,iter,ifs,0⟩] sc pos) 0 (.ref it) acc { cenv with scope:=relabel sc X.env }) (RR acc cenv.locals) s₄) E s₃) E s:=
 zat hc B go how hcap hlen (fun D C e s''=>notedBy (model X.prog X.w) X.A (compEnvC sc (clB X.env fr) C X.env) (fun x s3=>RR (.ref D) C (.error x) s3) e s'') (fun D C=>hb pins fp s H2 C _ fun pl σ' H' s' e s'' I q=>errf _ _ _ _ _ _ _ _ _ I q) I2 T st2 f2 h (fun _ _ _ _ z=>z) fin
theorem zf3{wi:TI}(fr Nc:List Str)(caps:List (Option Nat))(hc:X.calm=true)(B:yH X.env sc fr)(hi:PI X tg iter wi)(go:qK g ow)(how:(ow.all fun i=>caps[i]?==some none)=true)
  (hcap:wz X.N Nc caps X.env sc fr=true) (hlen:caps.length=Nc.length)
  (hstk:X.stack=X.env::X.outer) (hfl:X.env.frame=some X.env.locals) (hp:yE (CXa X.prog X.w) X EK)
  (hb:zk1 X sc fr Nc EK tg ifs elt g tt te)
  (hs:∀x,foldedSetIterable iter X.env x=pure x:=by intro _;rfl):PE X (.ListComp elt [⟨tg,iter,ifs,0⟩] sc pos) (tLC wi caps g tt te):=by
 refine⟨?_⟩;intro pins s σ H Q I h;rw[eval_ListComp];refine wpAny_comprehension_free (use:=none) rfl hs B.clos B.kind B.loc (thn (hi pins s σ H _ I h) fun v s1 h1=>thn h1 fun itv s2 h2=>?_);obtain⟨it,fp,tn,J,H2,e,I2,T,st2,f2,q⟩:=h2;subst e;refine zau (RR:=fun acc C=>compPost (model X.prog X.w) X.A X.xe none (EP X pins σ Q) acc C) hc B go how hcap hlen hb I2 T st2 f2 q (fun D C pl σ' H' s' xe e s'' J z=>zcg hstk hfl I2 f2 J hp z) ?_;intro D C σ' H' s' J' qq;obtain⟨m,hn,_⟩:=J'.loc;exact⟨m,hn,fun h' hs'=>⟨.ref D,H',uc I2 J' (wg I2 f2 J') hs',rfl,qq⟩⟩
theorem zkg{wi:TI}{i:Nat}{x:Str}{pos':Pos}(fr Nc:List Str)(caps:List (Option Nat))(hN:X.N.Nodup)(hix:X.N[i]?=some x)(hx:Loc X.env.scope x)(hc:X.calm=true)(B:yH X.env sc fr)(hi:PI X tg iter wi)(go:qK g ow)(how:(ow.all fun i=>caps[i]?==some none)=true)
  (hcap:wz X.N Nc caps X.env sc fr=true) (hlen:caps.length=Nc.length)
  (hstk:X.stack=X.env::X.outer) (hfl:X.env.frame=some X.env.locals) (hp:yE (CXa X.prog X.w) X EK)
  (hb:zk1 X sc fr Nc EK tg ifs elt g tt te)
  (hsw:swapsWith (.ListComp elt [⟨tg,iter,ifs,0⟩] sc pos) (some (.Name x pos')) pos2.line X.env=pure true:=by rfl)
  (hs:∀x,foldedSetIterable iter X.env x=pure x:=by intro _;rfl) (hf:X.fn x=true\/X.env.scope.names.lookup x=some .local:=by first|exact .inl rfl|exact .inr rfl|assumption) :
  PS X (.Assign [.Name x pos'] (.ListComp elt [⟨tg,iter,ifs,0⟩] sc pos) pos2) (zef (tLC wi caps g tt te) (yc i)):=by
 refine⟨?_⟩;intro pins s σ H D0 I h;rw[exec_Assign_Name_used _ _ _ _ hsw];refine zwb (wpAny_standAt (zwb ?_));show wpAny _ X.A (do let _ <- comprehension (.ListComp elt [⟨tg,iter,ifs,0⟩] sc pos) sc X.env _ (newList []) false (eval iter X.env) (some (assign (.Name x pos') X.env))) _ _ s
 refine zwb (wpAny_mono (wpAny_comprehension_free (use:=some (assign (.Name x pos') X.env)) (Q:=fun _ s'=>SP X pins D0 .next s') rfl hs B.clos B.kind B.loc
  (thn (hi pins s σ H _ I h) fun v s1 h1=>thn h1 fun itv s2 h2=>?_)) (fun _ s' hq=>zwp (zwp hq)) fun _ _ e=>e)
 obtain⟨it,fp,tn,J,H2,e,I2,T,st2,f2,q⟩:=h2;subst e;refine zau (Q:=fun v H1=>yc i v σ H1 D0.nx) (RR:=fun acc C=>compPost (model X.prog X.w) X.A X.xe (some (assign (.Name x pos') X.env)) (fun _ s'=>SP X pins D0 .next s') acc C) hc B go how hcap hlen hb I2 T st2 f2 q (fun D C pl σ' H' s' xe e s'' J z=>zcg hstk hfl I2 f2 J hp z) ?_;intro D C σ' H' s' J' qq;have I':=wg I2 f2 J';obtain⟨m,hn,_⟩:=J'.loc;have hC:s2.heap.objs.size<=C:=J'.ok.above;show wpAny _ X.A (assign (.Name x pos') X.env (.ref D)) _ _ s';refine wpAny_assign_Name (u6 (v:=.ref D) I' hN hix hx rfl (fun s'' I'' ⟨a,sb,ha⟩=>?_) hf);have haC:C≠a:=by
  rintro rfl;rcases ha with z|z
  ·have:=I2.lt
   rw[<- z] at this;exact absurd (lt_of_lt_of_le this hC) (lt_irrefl _)
  ·obtain⟨v,hv⟩:=I2.cell x C z
   exact absurd (lt_of_lt_of_le hv.lt hC) (lt_irrefl _)
 have hCH:H' C=none:=J'.free;refine⟨m,hn.sameBut sb haC,fun h' hs'=>⟨_,H',?_,qq⟩⟩;refine I''.turned (it:=C) (t':=s''.toks) (fun b o hb e=>(hs'.2 b hb).trans e) hCH ?_ (.inr (le_trans I2.sz hC)) (fun x c h z=>?_) fun p hp z=>?_
 ·intro z
  have:=I2.lt
  rw[<- z] at this;exact absurd (lt_of_lt_of_le this hC) (lt_irrefl _)
 ·obtain⟨v,hv⟩:=I2.cell x c h
  have:=hv.lt
  rw[z] at this;exact absurd (lt_of_lt_of_le this hC) (lt_irrefl _)
 ·have:=I2.pin_lt hp
  rw[z] at this;exact absurd (lt_of_lt_of_le this hC) (lt_irrefl _)
end
end L2
namespace L2
open PySem PySem.Spec PyProof.Rows PySem.Builtin
def zgA(K:Frag)(C' D:Addr)(ta:TA)(EK:XK)(rest:HK):HK:=fun C od t ea _ σ H'=>
 (exmOne K (.ref C) (.ref C')=some true/\ta σ (upd H' ea (ziv ea C od t)) fun vs H1=>vs.length<=sizeLine/\H1 ea=some (ziv ea C od t)/\EK (.ref D) none H1)\/(exmOne K (.ref C) (.ref C')=some false/\rest C od t ea { nx:=fun _ _=>False,rt:=fun _ _=>False } σ H')
section
variable {X:Cx}{pins:PnL}{σ:St}{H:Hp}{s:Shared}{ea eb C D t tu:Addr}{od:Option Addr}{EK:XK}{vs:Array Value}
theorem zeM{h1:Heap}{oe:Obj}{a0:Value}{M:Model}{A:Around}{E:VSP}(hA:A.frames=X.A.frames)(I:Inv X pins σ H s)(hstk:X.stack=X.env::X.outer)(hfl:X.env.frame=some X.env.locals)(hX:yE (CXa X.prog X.w) X EK)(kp:∀b o,s.heap.get? b=some o->h1.get? b=some o)(hn:s.heap.get? eb=none)
  (he:h1.get? eb=some oe) (hd:oe.data=.fields vs) (hv0:vs[0]?=some a0) (hv1:vs[1]?=some .none) (hc:oe.cls=.ref D) (q:EK (.ref D) none H):wpAny M A (noteFrame (.ref eb) X.env) (fun _ s'=>cameBackBy M X.A X.env X.xe (.ref eb) s') E { s with heap:=h1 }:=by
 have fl:s.heap.FunFrames (hideAll s.heap (frs X.stack)) (X.env::X.outer):=by
  have:=I.stack
  rw[hstk] at this;refine funFrames_hide this fun env he b hb=>?_;rw[hstk];exact List.mem_filterMap.mpr ⟨env,he,hb⟩
 have fr0:=I.ok.frames;rw[hstk,<- hA] at fr0;have inB:∀b o,s.heap.get? b=some o->b∉frs X.stack->(hideAll s.heap (frs X.stack)).get? b=some o:=fun b o e n=>hideAll_get _ e n;have trB:∀b u,H b=some u->b∉frs X.stack:=fun b u e n=>by rw[I.stkFree b n] at e;cases e
 have nB:(hideAll s.heap (frs X.stack)).get? eb=none:=by
  cases z:(hideAll s.heap (frs X.stack)).get? eb with
  | none=>rfl
  | some o=>have:=of_hideAll _ z;rw[hn] at this;cases this
 unfold noteFrame;simp only[hfl];refine zwb (wpAny_field he hd hv1 ?_);rw[if_neg (by decide)]
 refine wpAny_entryW (s:={ s with heap:=h1 }) (base:=hideAll s.heap (frs X.stack)) (outer:=X.outer) fr0 (fl.of_keeps fun b o hb _=>⟨o,kp b o hb,rfl⟩) hfl he (fun b o hb=>kp b o (of_hideAll _ hb)) nB hd (Array.getElem?_eq_some_iff.mp hv1).1 hv0 fun h2 ⟨x1,x2,x3,x4⟩=>?_
 rw[hc] at x3;obtain⟨oe',vs',T,oT,ts,he',hcl,hd',h1',hnT,hTe,hT,hdT,h3⟩:=x3;have l3:=(Array.getElem?_eq_some_iff.mp h3).1;show wpAny M X.A (do
  if (<- field (.ref eb) 1)==.none then unsupported "frame.own-activation:exception-without-traceback"
  setFlight (.ref eb) X.env.frame) _ _ _
 refine zwb (wpAny_field he' hd' h1' ?_);rw[if_neg (show ¬((Value.ref T==Value.none)=true) by simp)]
 unfold setFlight;refine zwb (wpAny_field he' hd' h1' ?_);rw[if_pos (show(Value.ref T != Value.none)=true by simp)]
 refine wpAny_setField hT hdT l3 ?_;have oth:∀b,b≠T->(h2.update T (Obj.mapFields (·.setIfInBounds 3 (X.env.frame.elim Value.none fun f=>rawInt f)))).get? b=h2.get? b:=fun b nb=>Heap.get?_update_other _ _ (Ne.symm nb);have hTn:=Heap.get?_update_self (Obj.mapFields (·.setIfInBounds 3 (X.env.frame.elim Value.none fun f=>rawInt f))) hT (Obj.isFreed_of_fields (Obj.data_mapFields hdT _));generalize h2.update T (Obj.mapFields (·.setIfInBounds 3 (X.env.frame.elim Value.none fun f=>rawInt f)))=h4 at oth hTn |-;have y1:(hideAll s.heap (frs X.stack)).StaysIn h4:=fun b o e=>by
  rw[oth b (fun z=>by rw[z,hnT] at e;cases e)]
  exact x1 b o e
 have nd:∀b o,h2.get? b=some o->(∀vs,o.data≠.fields vs)->b≠T:=fun b o hb hf z=>by rw[z,hT] at hb;cases hb;exact hf _ hdT
 have y4:∀b o,h1.get? b=some o->(∀vs,o.data≠.fields vs)->∃sl,h4.get? b=some { o with slots:=sl }:=fun b o e hf=>by
  obtain⟨sl,e4⟩:=x4 b o e hf;exact⟨sl,by rw[oth b (nd b _ e4 hf)];exact e4⟩
 have stay:∀b o,s.heap.get? b=some o->b∉frs X.stack->h4.get? b=some o:=fun b o e n=>y1 b o (inB b o e n);have y2:h4.FunFrames (hideAll s.heap (frs X.stack)) X.stack:=by
  have z:=x2;rw[<- hstk] at z;exact z.of_keeps fun b o hb hf=>⟨o,(oth b (nd b o hb hf)).trans hb,rfl⟩
 refine hX pins σ H s (.ref eb) _ I ⟨eb,.ref D,H,rfl,⟨rfl,I.bare,⟨fun b o e n hb _=>stay b o e hb,fun b o e n hb _=>?_,fun b o e n _=>n,fun b o e _=>?_,fun b xs e=>e,fun b u v e=>e,fun b ps e=>⟨#[],by simpa using e⟩⟩,I.hok.sameAt fun b u o e z=>stay b o z (trB b u e),?_,?_⟩,q⟩
 ·obtain⟨_,o',ho',hdd⟩:=I.stack.mem hb
  rw[e] at ho';cases ho';exact y4 b o (kp b o e) hdd
 ·by_cases hb:b∈frs X.stack
  ·obtain⟨_,o',ho',hdd⟩:=I.stack.mem hb
   obtain⟨sl,e2⟩:=y4 b o' (kp b o' ho') hdd;exact⟨_,e2⟩
  ·exact⟨o,stay b o e hb⟩
 ·cases z:H eb with
  | none=>rfl
  | some u=>obtain⟨o,e⟩:=I.hok.rec z;rw[hn] at e;cases e
 ·refine⟨_,a0,_,⟨y1,nB,y2,oe',vs',T,_,_,(oth eb (Ne.symm hTe)).trans he',hcl,hd',h1',hnT,hTe,hTn,Obj.data_mapFields hdT _,by simp [l3];rfl⟩,fun b u e=>?_,fun b o e _ hb=>inB b o e hb,fun b o e hb=>⟨o,inB b o e hb⟩⟩
  obtain⟨o,e1⟩:=I.hok.rec e;exact⟨o,inB b o e1 (trB b u e)⟩
variable {hs:List ExceptHandler}{th:HK}{c x:Str}{C':Addr}{ta:TA}{np hpos np2 cpos rpos:Pos}{e:Expr}{es:List Expr}{B Bn newId nid initId inN:String}{bm bmN:List Value}
theorem zf0(hstk:X.stack=X.env::X.outer)(hfl:X.env.frame=some X.env.locals)(hX:yE (CXa X.prog X.w) X EK)(hg:Gl X c)(hm:X.mg c=some (.ref C'))
  (O:OwnCls x C bm newId X.mg X.base) (ex:xc X.K C) (xm:zea X.K C=true) (kp:keepIn X.K (.ref C)=true) (Fn:ExcBaseFacts Bn newId inN bmN) (hBn:bm.contains (.type Bn)=true) (FB:ExcBaseFacts B nid initId bm) (ha:∀ea,PA (X.suite ea) (e::es) ta)
  (hd:(c==("__debug__" : Str))=false:=by decide) (hgx:Gl X x:=by rfl) (hdb:(x==("__debug__" : Str))=false:=by decide)
  (hst:starEach (e::es) X.env=(false,eval e X.env)::starEach es X.env:=by rfl) (hpl:(backTo cpos (starEach es X.env)).any (·.1)=false:=by rfl) :
  PH X [.ExceptHandler (some (.Name c np)) none [.Raise (some (.Call (.Name x np2) (e::es) [] cpos)) none rpos] hpos] (zgA X.K C' C ta EK fun _ _ _ _ _ _ _=>False):=by
 refine⟨fun pins σ H1 s1 H' ea C0 od t s5 D I1 F5 h=>?_⟩;obtain⟨BB,fl,tr,old,olds⟩:=F5.fly;have I5:Inv X pins σ H' s5:=I1.call' F5.os F5.un F5.hok F5.bare fun b z=>nomatch z;have LT:Looks (model X.prog X.w) s5.heap (typeOf (.ref ea)) (.ref C0):=by
  obtain⟨tb,oT,ts',he,_⟩:=fl.2.2.2;exact(PySem.W.Looks.ld he).andThen .now
 refine wpAny_handleBy_cons (codeAny_handlers_test (yY (I5.suite ea) hg hm ?_ hd)) (by intro z;cases z)
 rcases h with ⟨hx,h⟩|⟨hx,h⟩
 ·refine(PySem.W.exm_one (M:=model X.prog X.w) (h:=s5.heap) I5.kIn LT hx) _ _ _ _ (fun _ _ z=>z) ?_
  refine codeAny_handlers_suite (zlT fl fun h6 fl6 up6=>?_);have F6:=F5.move fl tr old olds fl6 up6;have I6:=F6.track I1 fl6 old;refine wpAny_execs_cons ?_;rw[arm_exec_Raise];refine zwb (wpAny_standAt ?_);unfold raiseStmt;show wpAny _ _ (do
   let xv <- (do
    let v <- eval (.Call (.Name x np2) (e::es) [] cpos) X.env
    standAt rpos
    pure v)
   _) _ _ _
  obtain⟨tl,N,nm,q,bs,hdct,sn,sub,ab,col,dd,k0,k1,k2,k3,k5,mN,hC,hN,hni,T⟩:=O.obj;refine zwb (zwb (wpAny_Call_Name_kw (yY (I6.suite ea) hgx O.bound ?_ hdb)));refine callWith_K (h₀:=X.base) I6.ok.mod.kin kp (wpAny_mono ((ha ea) cpos pins _ σ _ _ (I6.suite ea) h) (fun us s7 ⟨vs,H7,I7,r,hl,hea,hq⟩=>⟨I7.kIn,?_⟩) fun _ _ z=>z.elim) hst hpl;have I7:Inv X pins σ H7 s7:=xV I1.ok I7;obtain⟨hh,g,d,tk,os⟩:=s7;refine wpAny_call_exc_subU Fn hBn FB (T.keeps I7.bk) (I7.bk _ _ hC) (hN.keeps I7.bk) hni (fun h' eb hm'=>?_) (by rw[nil_append,<- r.length];exact hl)
  obtain⟨hn,tu,I8⟩:=I7.madeP hm';have ho:=jS I8 zc;have hxa:∃tb,hh.get? ea=some (zbb C0 od t tb):=(I7.hok ea _ hea).1;obtain⟨tb,hxa⟩:=hxa;have hneE:eb≠ea:=fun z=>by have:=hm'.new;rw[z] at this;rw[show hh.get? ea=none from this] at hxa;cases hxa
  have hxa':h'.get? ea=some (zbb C0 od t tb):=hm'.keeps _ _ hxa;refine zwb (wpAny_standAt (zwp ?_));have XO:=zaE I8.kIn xm;obtain⟨nm',q',N',bs',bm',sn',sub',ab',col',dd',k0',k1',k2',k3',k5',hC',b1,b2,b3,b4⟩:=XO.ob;have LT:Looks (model X.prog X.w) h' (typeOf (.ref eb)) (.ref C):=(PySem.W.Looks.ld ho).andThen .now;have LTC:Looks (model X.prog X.w) h' (typeOf (.ref C)) (.type "type"):=(PySem.W.Looks.ld hC').andThen .now;have LB:=PySem.W.looks_mroIn (M:=model X.prog X.w) I8.kIn ex.be;have LIs:Looks (model X.prog X.w) h' (isType (.ref eb)) false:=(PySem.W.Looks.ld ho).andThen .now;dsimp only;refine zwb (zwp (zwb (wpAny_holding ?_)));unfold excFromValue isExcClass;refine zwb (zwb (LIs.at ?_));rw[if_neg zft];refine zwp ?_;rw[if_neg zft];unfold isInstance;refine zwb (zwb (LT.at (LB.at ?_)));rw[if_pos rfl];refine zwp ?_;dsimp only;refine zwb (LIs.at ?_);rw[if_neg zft];unfold raisedInstance;refine zwb (zwb (LT.at (zwb (LTC.at ?_))));rw[if_pos (by decide)]
  refine zwp (zwb ?_);unfold setFlight;refine zwb (wpAny_field (x:=Value.none) ho rfl rfl ?_);rw[if_neg (show ¬(Value.none != Value.none)=true by decide)]
  refine zwp ?_;unfold raiseNew;refine zwb (wpAny_handled ?_);rw[show(X.A.mark (some (Value.ref ea))).handled=some (Value.ref ea) from rfl];dsimp only;rw[if_pos (show(Value.ref ea != Value.ref eb)=true by rw[bne_iff_ne];intro z;exact hneE (Value.ref.inj z).symm)]
  refine zwb (wpAny_holding (wpAny_runValue (codeAny_builtin (b:=Builtin.«proto.unchain») rfl ?_)));unfold Builtin.«proto.unchain»;dsimp only;refine zwb (wpAny_field (x:=Value.none) hxa' rfl rfl ?_);rw[if_pos (show(Value.none==Value.none)=true by decide)]
  refine zwp ?_;dsimp only;unfold updateField;refine zwb (zwb (wpAny_load ho ?_));dsimp only;rw[if_pos (show 2<(#[Value.ref tu,Value.none,Value.none,Value.none,Value.bool false,Value.none]:Array Value).size from Nat.le_of_ble_eq_true rfl)];refine wpAny_update ho ?_;refine wpAny_throw ?_;have z1:∀b,b≠eb->(h'.update eb (Obj.mapFields fun x=>x.setIfInBounds 2 (.ref ea))).get? b=h'.get? b:=fun b hb'=>Heap.get?_update_ne _ _ _ _ hb';have z2:(h'.update eb (Obj.mapFields fun x=>x.setIfInBounds 2 (.ref ea))).get? eb=some { cls:=.ref C,data:=.fields #[.ref tu,.none,.ref ea,.none,.bool false,.none] }:=Heap.get?_update_self _ ho rfl;generalize h'.update eb (Obj.mapFields fun x=>x.setIfInBounds 2 (.ref ea))=h9 at z1 z2 |-;refine zeM (s:=⟨hh,g,d,tk,os⟩) (h1:=h9) rfl I7 hstk hfl hX (fun b o e=>?_) hm'.new z2 rfl rfl rfl rfl hq;rw[z1 b (fun z=>by rw[z] at e;rw[show hh.get? eb=none from hm'.new] at e;cases e)]
  exact hm'.keeps b o e
 ·exact h.elim
end
end L2
namespace K92
open PySem L2 PyProof.Rows
def wq:Nat->Nat->List Rw->Option Nat
 | _,_,[]=>none
 | l,i,r::rs=>if uX l (grp r.k)=true then some i else wq (grp r.k) (i+1) rs
def uU:List Str->List Str->Option Str
 | _,[]=>none
 | ss,z::zs=>if z∈ss then some z else uU (ss++[z]) zs
def txs(xs:List V):List Str:=xs.filterMap fun x=>match x with|.str z=>some z|_=>none
inductive Rz where
 | many|order (k:Nat)|name|twice (z:Str)|done
def x9(rows:List Rw)(xs:List V):Rz:=
 if 24<rows.length\/60<xs.length then .many else match wq 0 0 rows with
  | some k=>.order k
  | none=>if xs.all nmV=true then (match uU [] (nms rows++txs xs) with|some z=>.twice z|none=>.done) else .name
theorem zdh:∀{xs:List V},xs.all nmV=true->xs=(txs xs).map V.str/\∀z∈txs xs,zV z=true
 | [],_=>⟨rfl,fun z hz=>by cases hz⟩
 | x::xs,h=>by
  rw[all_cons,Bool.and_eq_true] at h;obtain⟨h1,h2⟩:=h;obtain⟨i1,i2⟩:=zdh h2;cases x with
  | str z=>
   have e:txs (.str z::xs)=z::txs xs:=rfl;refine⟨?_,fun y hy=>?_⟩
   ·rw[e,map_cons,<- i1]
   ·rw[e] at hy
    rcases List.mem_cons.mp hy with rfl|hy
    ·exact h1
    ·exact i2 y hy
  | _=>exact absurd (show false=true from h1) zft
def zhe(K:Frag)(nm:Str):Sp:=fun vs H Q _=>∃(x C t:Addr) (v:V),vs=[.ref x,v]/\H x=some (vL x C none t)/\zdd K C/\yZ K C nm/\∀dx,H dx=none->Q .non (upd (upd H x (vL x C (some dx) t)) dx (.xd [(nm,v)]))
section
variable {P:Program}{w:World}{K:Frag}{mg:Str->Option Value}{base:Heap}{f G sg:Addr}{fd:FuncData}{c:C5}{m:MA}
theorem zjA:zD ["self","at"] ["self","at"] (zr zfy):=fsc
theorem zfu:zD ["self","name"] ["self","name"] (zr zaQ):=fsc
theorem zhP(F:Fun K "__init__" "BadOrder.__init__" zfy f fd):zL P w K mg base CX0 1 f fd ["self","at"] (zhe K "at"):=by
 refine F.ok zjA (fun cdv A outer s H vs Q E hr h=>?_);obtain⟨x,C,t,v,rfl,hx,m,n,q⟩:=h;refine⟨_,zm (zdC (pv 0) (pv 1) rfl),?_⟩;exact⟨_,rfl,_,rfl,x,C,t,rfl,hx,m,n,q⟩
theorem zeu(F:Fun K "__init__" "Twice.__init__" zaQ f fd):zL P w K mg base CX0 1 f fd ["self","name"] (zhe K "name"):=by
 refine F.ok zfu (fun cdv A outer s H vs Q E hr h=>?_);obtain⟨x,C,t,v,rfl,hx,m,n,q⟩:=h;refine⟨_,zm (zdC (pv 0) (pv 1) rfl),?_⟩;exact⟨_,rfl,_,rfl,x,C,t,rfl,hx,m,n,q⟩
theorem uw{H H2:Hp}{x:Addr}{o:HO}(s:zx H H2)(hx:H2 x=none):zx H (drop (upd H2 x o) x):=fun b u e=>by
 have nx:b≠x:=zu (s _ _ e) hx;rw[wa nx,zv nx];exact s _ _ e
theorem qa{H H2:Hp}{x d:Addr}{o o' o'':HO}(s:zx H H2)(hx:H2 x=none)(hd:upd H2 x o d=none):zx H (drop (upd (upd (upd H2 x o) x o') d o'') x):=fun b u e=>by
 have nx:b≠x:=zu (s _ _ e) hx;have e2:upd H2 x o b=some u:=by rw[zv nx];exact s _ _ e
 rw[wa nx,zv (zu e2 hd),zv nx];exact e2
structure jl(K:Frag)(mg:Str->Option Value)(base:Heap)(x:Str)(C:Addr):Prop where
 own:OwnCls x C [.type "ValueError",.type "Exception",.type "BaseException",.type "object"] "ValueError.__new__" mg base
 kp:keepIn K (.ref C)=true
 ex:xc K C
 xm:zea K C=true
structure ziG(P:Program)(w:World)(K:Frag)(mg:Str->Option Value)(base:Heap)(x:Str)(C g:Addr)(gd:FuncData)(a nm:Str):Prop where
 call:zd8 K C g
 set:zdd K C
 no:yZ K C nm
 ex:xc K C
 gl:mg x=some (.ref C)
 ok:zL P w K mg base CX0 1 g gd ["self",a] (zhe K nm)
 bd:yt K gd ["self",a] []
theorem zb9{H2:Hp}{x d:Addr}{o o' o'':HO}(hd:upd H2 x o d=none):drop (upd (upd (upd H2 x o) x o') d o'') x d=some o'':=by
 have:d≠x:=fun z=>by rw[z,zc] at hd;cases hd
 rw[wa this,zc]
def zaL(K:Frag)(TM:Addr):Sp:=fun vs H Q E=>∃(a b:Addr) (xs ys:List V),vs=[.ref a,.ref b]/\SqL K H a xs/\SqL K H b ys/\(xs.length<=24->ys.length<=60->Q .non H)/\(24<xs.length\/60<ys.length->∀od H',zx H H'->E (.ref TM) od H')
theorem zge{TM:Addr}(F:Fun K "refuse_too_many" "refuse_too_many" zcE f fd)(T:zde w K mg G sg)(pc:jl K mg base "TooMany" TM):zL P w K mg base (CXs P w) 1 f fd ["parameters","bars"] (zaL K TM):=by
 refine F.okS zhn (fun vs H Q E h=>?_) (fun cdv A outer s H vs Q E hr h=>?_)
 ·obtain⟨a,b,xs,ys,rfl,_⟩:=h
  rfl
 obtain⟨a,b,xs,ys,rfl,ha,hb,q1,q2⟩:=h;obtain⟨t1,m1⟩:=T.mp;obtain⟨t2,m2⟩:=T.mb;refine⟨_,zp (zJ (zw vq (cB zO T.len PySem.boot_len (ac (pv 0) zi)) (z6 (v:=.int 24) rfl m1 ⟨_,rfl⟩) (zE _)) (zm (wT wn rfl (qi pc.own pc.kp PySem.F.excBase_ValueError (by decide) PySem.F.excBase_ValueError (ac zo zi)))) zz)
  (zm (zJ (zw vq (cB zO T.len PySem.boot_len (ac (pv 1) zi)) (z6 (v:=.int 60) rfl m2 ⟨_,rfl⟩) (zE _)) (zm (wT wn rfl (qi pc.own pc.kp PySem.F.excBase_ValueError (by decide) PySem.F.excBase_ValueError (ac zo zi)))) zz)),?_⟩
 refine⟨_,rfl,a,_,rfl,.inl ha,_,_,rfl,rfl,_,rfl,?_⟩;by_cases l1:xs.length<=24
 ·refine dF (by show ¬(24:Int)<(xs.length:Int);omega) ?_
  refine⟨_,rfl,b,_,rfl,.inl hb,_,_,rfl,rfl,_,rfl,?_⟩;by_cases l2:ys.length<=60
  ·exact dF (by show ¬(60:Int)<(ys.length:Int);omega) (q1 l1 l2)
  ·refine dT (by show(60:Int)<(ys.length:Int);omega) ?_
   exact⟨by show 1<=sizeLine;decide,fun x tu hx=>⟨x,TM,none,tu,rfl,zc,pc.ex,pc.xm,hx,q2 (by omega) _ _ (uw (zx.refl _) hx)⟩⟩
 ·refine dT (by show(24:Int)<(xs.length:Int);omega) ?_
  exact⟨by show 1<=sizeLine;decide,fun x tu hx=>⟨x,TM,none,tu,rfl,zc,pc.ex,pc.xm,hx,q2 (by omega) _ _ (uw (zx.refl _) hx)⟩⟩
def zcw(c:C5)(BO:Addr):Sp:=fun vs H Q E=>∃(a:Addr) (ps:List Addr) (rows:List Rw),vs=[.ref a]/\H a=some (.lst (ps.map V.ref))/\Paired (PAt c H) ps rows/\(∀r∈rows,r.ok)/\(wq 0 0 rows=none->∀H',zx H H'->Q .non H')/\(∀k,wq 0 0 rows=some k->∀d H',zx H H'->H' d=some (.xd [("at",.int (k:Nat))])->E (.ref BO) (some d) H')
theorem zey{BO g:Addr}{gd:FuncData}(F:Fun K "refuse_bad_order" "refuse_bad_order" zaS f fd)(T:zde w K mg G sg)(PP:Pcs K m c)(X':ziG P w K mg base "BadOrder" BO g gd "at" "at"):zL P w K mg base (CXs P w) 3 f fd ["parameters"] (zcw c BO):=by
 refine F.okS wQ (fun vs H Q E h=>?_) (fun cdv A outer s H vs Q E hr h=>?_)
 ·obtain⟨a,ps,rows,rfl,_⟩:=h
  rfl
 obtain⟨a,ps,rows,rfl,ha,hp,hok,q1,q2⟩:=h;refine⟨_,zp (zC (i:=1) wQ.nd rfl (Or.inl rfl) zj)
  (zm (y8 PassesOwn.leaving rfl (zaZ rfl T.en (ac (pv 0) zi)) (wJ rfl (yo (zF (i:=2) wQ.nd rfl (Or.inl rfl)) (yo (zF (i:=3) wQ.nd rfl (Or.inl rfl)) xL)))
   (zp (zC (i:=4) wQ.nd rfl (Or.inl rfl) (zhK T.gt T.mgr (xi (pv 3) rfl)))
   (zp (zJ (yv (xw (zw uj (pv 4) (pv 1) (zE _)) (yV (yv (yW (zw yi (pv 4) (pv 1) (zE _)) (yD (zw yF (pv 4) (z6 (v:=.ref sg) rfl T.ms rfl) (by with_unfolding_all rfl)))))))) (zm (wT wn rfl (zbL X'.call X'.ok hr rfl X'.gl X'.bd xx (ac (pv 2) zi)))) zz)
   (zm (zC (i:=1) wQ.nd rfl (Or.inl rfl) (pv 4))))))),?_⟩
 show jA _ _ _ _ _;refine⟨_,rfl,a,rfl,⟨_,zq ha⟩,zb4 (K:=K) (a:=a) (xs:=ps.map V.ref) (fun i σ H'=>∃(l:Nat) (v2 v3 v4:Option V),σ=[some (.ref a),some (.int (l:Nat)),v2,v3,v4]/\zx H H'/\wq l i (rows.drop i)=wq 0 0 rows)
  ⟨0,_,_,_,rfl,zx.refl _,rfl⟩ (fun i σ H' _ ⟨_,_,_,_,_,sH,_⟩=>zq (sH _ _ ha)) ?_ ?_⟩
 ·rintro i x p σ H' hx ⟨l,v2,v3,v4,rfl,sH,hl⟩ hpn
  obtain⟨pa,hpa,rfl⟩:=wC hx;obtain⟨r,hr',dx,hdx⟩:=xy hp hpa;have rok:=hok r (mem_of_getElem? hr');have C:=PP r.k rok.1;rw[uV hr'] at hl;have hl':(if uX l (grp r.k)=true then some i else wq (grp r.k) (i+1) (rows.drop (i+1)))=wq 0 0 rows:=hl
  have sp:=zk hpn (.tup [.int (i:Nat),.ref pa]);have s2:=sH.trans sp;refine⟨p,_,rfl,zI zc,rfl,_,_,rfl,_,_,rfl,rfl,?_⟩;refine⟨_,rfl,pa,_,dx,_,_,rfl,sp _ _ (sH _ _ hdx),C.cl,C.nW,xz,kw r.k,.int (grp r.k),rfl,zii r.k rok.1,?_⟩;show jA _ _ _ _ (upd H' p (.tup [.int (i:Nat),.ref pa]));generalize upd H' p (.tup [.int (i:Nat),.ref pa])=H2 at sp s2 |-;have fin:uX l (grp r.k)=false->∃(l':Nat) (v2 v3 v4:Option V),([some (.ref a),some (.int (grp r.k:Nat)),some (.int (i:Nat)),some (.ref pa),some (.int (grp r.k:Nat))]:L2.St)=[some (.ref a),some (.int (l':Nat)),v2,v3,v4]/\zx H H2/\wq l' (i+1) (rows.drop (i+1))=wq 0 0 rows:=fun hb=>by
   rw[hb,if_neg zft] at hl';exact⟨grp r.k,_,_,_,rfl,s2,hl'⟩
  have bad:uX l (grp r.k)=true->∀Dn:wO,zdk K H E (ze8 BO (zhe K "at") E0 (xM (uf 2) jB)) Dn [some (.ref a),some (.int (l:Nat)),some (.int (i:Nat)),some (.ref pa),some (.int (grp r.k:Nat))] H2:=fun hb Dn=>by
   rw[hb,if_pos rfl] at hl';refine⟨_,rfl,by show 1<=sizeLine;decide,fun x tu hxn htn hne=>?_⟩
   refine⟨x,BO,tu,_,rfl,zc,X'.set,X'.no,fun d hd=>⟨rfl,x,BO,some d,tu,rfl,?_,X'.ex,X'.call.ob,s2.free hxn,q2 i hl'.symm _ _ (qa s2 hxn hd) (zb9 hd)⟩⟩
   ·have:x≠d:=fun z=>by rw[<- z,zc] at hd;cases hd
    rw[zv this,zc]
  unfold uX at fin bad;refine⟨_,rfl,_,rfl,_,_,rfl,rfl,_,rfl,?_⟩;by_cases h1:grp r.k<l
  ·refine dT (by omega) ?_
   refine yp ?_;exact bad (by rw[decide_eq_true h1];rfl) _
  ·refine dF (by omega) ?_
   rw[decide_eq_false h1,Bool.false_or] at fin bad;refine⟨_,rfl,_,rfl,rfl,_,rfl,?_⟩;by_cases e:grp r.k=l
   ·rw[beq_iff_eq.mpr e,Bool.true_and] at fin bad
    refine dT (by rw[e]) ?_
    refine⟨_,rfl,sg,_,rfl,.inr (T.hs _),rfl,(by decide),_,rfl,?_⟩
    have hin:inV (.int (grp r.k:Nat)) [.int 1,.int 3]=(grp r.k==1||grp r.k==3):=by
     have:∀g:Nat,g<4->inV (.int (g:Nat)) [.int 1,.int 3]=(g==1||g==3):=by decide +kernel
     exact this _ (zgB r.k)
    rw[show(if false=true then !inV (V.int ((grp r.k:Nat):Int)) [V.int 1,V.int 3] else inV (V.int ((grp r.k:Nat):Int)) [V.int 1,V.int 3])=(grp r.k==1||grp r.k==3) from hin]
    cases hb:(grp r.k==1||grp r.k==3) with
    | true=>
     refine yp ?_;exact bad hb _
    | false=>
     refine yb ?_;exact⟨_,rfl,fin hb⟩
   ·have:(grp r.k==l)=false:=beq_eq_false_iff_ne.mpr e
    rw[this,Bool.false_and] at fin;refine dF (fun z=>e (by have:=V.int.inj z;omega)) ?_
    exact yb ⟨_,rfl,fin rfl⟩
 ·rintro σ H' ⟨l,v2,v3,v4,rfl,sH,hl⟩
  rw[drop_eq_nil_of_le (by rw[length_map,hp.length];exact le_refl _)] at hl
  exact q1 hl.symm _ sH
def zfe(K:Frag)(N:Addr):Sp:=fun vs H Q E=>∃(b:Addr) (xs:List V),vs=[.ref b]/\H b=some (.lst xs)/\(∀x∈xs,OkV K H x)/\(xs.all nmV=true->∀H',zx H H'->Q .non H')/\(xs.all nmV=false->∀od H',zx H H'->E (.ref N) od H')
theorem zex{N g:Addr}{gd:FuncData}(F:Fun K "refuse_bars_without_name" "refuse_bars_without_name" zcF f fd)(pc:jl K mg base "NoName" N)(cI:z8 P w K mg base 1 "is_name" g gd ["thing"] (zfm K)):zL P w K mg base (CXs P w) 2 f fd ["bars"] (zfe K N):=by
 refine F.okS zdu (fun vs H Q E h=>?_) (fun cdv A outer s H vs Q E hr h=>?_)
 ·obtain⟨b,xs,rfl,_⟩:=h
  rfl
 obtain⟨b,xs,rfl,hb,hv,q1,q2⟩:=h;refine⟨_,zm (y8 PassesOwn.leaving rfl (ye (pv 0)) (zF (i:=1) zdu.nd rfl (Or.inl rfl)) (zm (zJ (xI (yx (cF cI hr (ac (pv 1) zi)))) (zm (wT wn rfl (qi pc.own pc.kp PySem.F.excBase_ValueError (by decide) PySem.F.excBase_ValueError (ac zo zi)))) zz))),?_⟩
 refine⟨_,rfl,b,rfl,⟨_,zq hb⟩,yO (K:=K) (a:=b) (xs:=xs) (fun i σ H'=>∃v1,σ=[some (.ref b),v1]/\zx H H'/\(xs.take i).all nmV=true) ⟨_,rfl,zx.refl _,by rw[List.take_zero];rfl⟩ (fun i σ H' _ ⟨_,_,sH,_⟩=>zq (sH _ _ hb)) ?_ ?_⟩
 ·rintro i x σ H' hx ⟨v1,rfl,sH,hn⟩
  have hi:i<xs.length:=(List.getElem?_eq_some_iff.mp hx).1;have ez:xs[i]=x:=(List.getElem?_eq_some_iff.mp hx).2;have hm:=mem_of_getElem? hx;refine⟨_,rfl,_,rfl,(hv x hm).same sH,fun H2 s2=>⟨_,rfl,?_⟩⟩;cases e:nmV x with
  | true=>
   refine yb ?_;refine⟨_,rfl,sH.trans s2,?_⟩;rw[take_succ_eq_append_getElem hi,ez,List.all_append,hn,all_cons,e];rfl
  | false=>
   refine yp ?_;have nf:xs.all nmV=false:=by
    cases h:xs.all nmV with
    | false=>rfl
    | true=>
     rw[List.all_eq_true.mp h x hm] at e;cases e
   exact⟨by show 1<=sizeLine;decide,fun x tu hx=>⟨x,N,none,tu,rfl,zc,pc.ex,pc.xm,(sH.trans s2).free hx,q2 nf _ _ (uw (sH.trans s2) hx)⟩⟩
 ·rintro σ H' ⟨v1,rfl,sH,hn⟩
  rw[take_length] at hn;exact q1 hn _ sH
def zfc(c:C5)(TW:Addr):Sp:=fun vs H Q E=>∃(a b:Addr) (ps:List Addr) (rows:List Rw) (bars:List Str),vs=[.ref a,.ref b]/\H a=some (.lst (ps.map V.ref))/\Paired (PAt c H) ps rows/\(∀r∈rows,r.ok)/\rows.length<=500/\H b=some (.lst (bars.map V.str))/\bars.length<=400/\(uU [] (nms rows++bars)=none->∀H',zx H H'->Q .non H')/\(∀z,uU [] (nms rows++bars)=some z->∀d H',zx H H'->H' d=some (.xd [("name",.str z)])->E (.ref TW) (some d) H')
theorem zev{TW g:Addr}{gd ge:FuncData}(F:Fun K "refuse_twice" "refuse_twice" zaR f fd)(T:zde w K mg G sg)(PP:Pcs K m c)(GB:zL P w K mg base CX0 1 m.fB gd ["self"] (qN K m bnL))(bB:yt K gd ["self"] [])(X':ziG P w K mg base "Twice" TW g ge "name" "name"):zL P w K mg base (CXs P w) 3 f fd ["parameters","bars"] (zfc c TW):=by
 refine F.okS j3 (fun vs H Q E h=>?_) (fun cdv A outer s H vs Q E hr h=>?_)
 ·obtain⟨a,b,ps,rows,bars,rfl,_⟩:=h
  rfl
 obtain⟨a,b,ps,rows,bars,rfl,ha,hp,hok,l1,hb,l2,q1,q2⟩:=h;have hr1:yh 1 _:=hr.mono (by decide)
 have hC:∀C,Cs5 c C->Cls K C/\vw K C "by_name" m.fB:=fun C ⟨k,hk,e⟩=>by rw[e];exact⟨(PP k hk).cl,(PP k hk).mB⟩
 refine⟨_,zp (zC (i:=2) j3.nd rfl (Or.inl rfl) (zcQ zeY rfl T.set (by decide +kernel:bootBuiltins "set"=some (.type "set"))))
  (zm (y8 PassesOwn.leaving rfl (ye (zt wp (xY [] ["parameter"] [none] rfl ⟨rfl,rfl,rfl,rfl⟩ (ye (pv 0)) (z5 0) rfl rfl rfl
    (fun pins fp s H C=>⟨zF (i:=0) zkG rfl (Or.inl rfl) (.inr rfl),vT (yx (uM (pv 0) hC GB hr1 bB xx)),zdD (K:=K) rfl (pv 0) rfl⟩)) (cTy wb T.lst PyProof.Rows.boot_list (ac (pv 1) zi)))) (zF (i:=3) j3.nd rfl (Or.inl rfl))
   (zp (zJ (zw zcT (pv 3) (pv 2) (by with_unfolding_all rfl)) (zm (wT wn rfl (zbL X'.call X'.ok hr rfl X'.gl X'.bd xx (ac (pv 3) zi)))) zz)
   (zm (zW (zhH (pv 2) (pv 3) ⟨rfl,rfl,rfl,rfl⟩)))))),?_⟩
 refine⟨rfl,fun se hse=>?_⟩;have s1:zx H (upd H se (jC P w se (fun _=>false) 0)):=zk hse _;have g1:upd H se (jC P w se (fun _=>false) 0) se=some (jC P w se (fun _=>false) 0):=zc;show jA _ _ _ _ (upd H se (jC P w se (fun _=>false) 0));generalize upd H se (jC P w se (fun _=>false) 0)=H1 at s1 g1 |-;have ha1:=s1 _ _ ha;have hp1:=vU s1 hp;refine⟨_,rfl,a,rfl,⟨_,zq ha1⟩,fun D hD=>?_⟩;refine wF (K:=K) (xs:=ps.map V.ref) (fun i ys H'=>zx H1 H'/\H' D=some (.lst ys)/\ys=(nms (rows.take i)).map V.str) ⟨zk hD _,zc,rfl⟩ (fun i ys H' h=>zq (h.1 _ _ ha1)) ?_ ?_
 ·rintro i x ys H' hlt hx ⟨sH,hDy,ey⟩
  obtain⟨pa,hpa,rfl⟩:=wC hx;obtain⟨r,hr',dx,hdx⟩:=xy hp1 hpa;have rok:=hok r (mem_of_getElem? hr');have C:=PP r.k rok.1;have nl:ys.length<=i:=by
   rw[ey,length_map];unfold nms;rw[length_map];refine le_trans (length_filter_le _ _) ?_;rw[length_take];omega
  have hd2:=sH _ _ hdx;refine⟨_,rfl,pa,_,dx,_,rfl,⟨r.k,rok.1,rfl⟩,hd2,zbK (by decide +kernel) (by decide +kernel) (by decide +kernel),pa,dx,_,_,_,_,rfl,C,hd2,_,rfl,?_⟩
  rw[zdT r.k rok.1];have tk:=zdM hr';refine⟨fun e=>?_,fun e=>?_⟩
  ·rw[e,if_pos rfl] at tk
   refine⟨_,rfl,pa,_,dx,_,_,rfl,hd2,C.cl,C.nN,vi,?_⟩;refine lcN.mk hlt (yP (by rw[length_map,hp.length];omega)) hDy nl ⟨fun b u e=>?_,zc,?_⟩
   ·rw[zv (zu e hD)]
    exact sH b u e
   ·rw[ey,tk,map_append]
    rfl
  ·rw[e,if_neg zft,append_nil] at tk
   exact lcS.mk hlt ⟨sH,hDy,by rw[ey,tk]⟩
 rintro ys H2 ⟨s2,hDy,ey⟩;have ey:ys=(nms rows).map V.str:=by
  rw[ey,length_map,hp.length,take_length]
 subst ey;have hb2:=s2 _ _ (s1 _ _ hb);refine⟨_,rfl,b,_,rfl,.inl (zq hb2),fun l hl=>?_⟩;have s3:=zk hl (.lst (bars.map V.str));have g3:upd H2 l (.lst (bars.map V.str)) l=some (.lst (bars.map V.str)):=zc;generalize upd H2 l (.lst (bars.map V.str))=H3 at s3 g3 |-;have ln:(nms rows).length<=500:=by
  unfold nms;rw[length_map];exact le_trans (length_filter_le _ _) l1
 refine⟨D,l,_,_,rfl,rfl,s3 _ _ hDy,g3,yP (by rw[length_map,length_map];omega),fun l4 hl4=>?_⟩
 rw[<- map_append];have s4:=zk hl4 (.lst ((nms rows++bars).map V.str));have g4:upd H3 l4 (.lst ((nms rows++bars).map V.str)) l4=some (.lst ((nms rows++bars).map V.str)):=zc;have nse:l4≠se:=fun z=>by
  rw[z] at hl4;rw[s3 _ _ (s2 _ _ g1)] at hl4;cases hl4
 generalize upd H3 l4 (.lst ((nms rows++bars).map V.str))=H4 at s4 g4 |-;have sA:zx H1 H4:=s2.trans (s3.trans s4);have gse:=sA _ _ g1;refine⟨l4,rfl,⟨_,zq g4⟩,yO (K:=K) (a:=l4) (xs:=(nms rows++bars).map V.str) (fun i σ H'=>∃(S:Str->Bool) (n:Nat) (v3:Option V),σ=[some (.ref a),some (.ref b),some (.ref se),v3]/\H' se=some (jC P w se S n)/\(∀z,S z=decide (z∈(nms rows++bars).take i))/\n<=i/\(∀b' u,H4 b'=some u->b'≠se->H' b'=some u)/\uU ((nms rows++bars).take i) ((nms rows++bars).drop i)=uU [] (nms rows++bars))
  ⟨_,0,_,rfl,gse,fun z=>by simp,le_refl _,fun b' u e _=>e,rfl⟩ (fun i σ H' _ ⟨_,_,_,_,_,_,_,k,_⟩=>zq (k _ _ g4 nse)) ?_ ?_⟩
 ·rintro i x σ H' hx ⟨S,n,v3,rfl,hS,hSz,hn,k,nd⟩
  obtain⟨z,hz,rfl⟩:=strs_at hx;have hi:i<(nms rows++bars).length:=(List.getElem?_eq_some_iff.mp hz).1;have ez:(nms rows++bars)[i]=z:=by rw[getElem?_eq_getElem hi] at hz;exact Option.some.inj hz
  have sHH:zx H H':=fun b' u e=>k b' u (sA _ _ (s1 _ _ e)) fun z=>by rw[z,hse] at e;cases e
  have tk:(nms rows++bars).take (i+1)=(nms rows++bars).take i++[z]:=by rw[take_succ_eq_append_getElem hi,ez]
  refine⟨_,rfl,_,rfl,se,S,n,z,rfl,rfl,hS,_,rfl,?_⟩;have dr:(nms rows++bars).drop i=z::(nms rows++bars).drop (i+1):=by rw[List.drop_eq_getElem_cons hi,ez]
  rw[dr] at nd;have nd':(if z∈(nms rows++bars).take i then some z else uU ((nms rows++bars).take i++[z]) ((nms rows++bars).drop (i+1)))=uU [] (nms rows++bars):=nd
  cases nz:S z with
  | true=>
   refine yp ?_;rw[hSz,decide_eq_true_eq] at nz;rw[if_pos nz] at nd';refine⟨_,rfl,by show 1<=sizeLine;decide,fun x tu hxn htn hne=>?_⟩
   refine⟨x,TW,tu,_,rfl,zc,X'.set,X'.no,fun d hd=>⟨rfl,x,TW,some d,tu,rfl,?_,X'.ex,X'.call.ob,sHH.free hxn,q2 z nd'.symm _ _ (qa sHH hxn hd) (zb9 hd)⟩⟩
   ·have:x≠d:=fun z=>by rw[<- z,zc] at hd;cases hd
    rw[zv this,zc]
  | false=>
   refine yb ?_;refine⟨_,rfl,se,S,n,rfl,hS,_,rfl,S,n,z,rfl,hS,?_,?_⟩
   ·rw[length_append] at hi
    show n+1<4096;omega
   ·refine⟨_,_,_,rfl,zc,fun y=>?_,?_,fun b' u e ne=>?_,?_⟩
    ·rw[hSz y,tk]
     simp [List.mem_append]
    ·rw[nz]
     show n+1<=i+1;omega
    ·rw[zv ne]
     exact k b' u e ne
    ·rw[tk]
     rw[hSz,decide_eq_false_iff_not] at nz;rw[if_neg nz] at nd';exact nd'
 ·rintro σ H' ⟨S,n,v3,rfl,hS,hSz,hn,k,nd⟩
  rw[length_map,drop_length] at nd;refine q1 nd.symm _ fun b' u e=>k b' u (sA _ _ (s1 _ _ e)) fun z=>?_;rw[z,hse] at e;cases e
variable {CF TM BO N TW:Addr}
theorem zgO{rows:List Rw}{xs:List V}(h : 24<rows.length\/60<xs.length):x9 rows xs=.many:=by unfold x9;rw[if_pos h]
theorem zeR{rows:List Rw}{xs:List V}{k:Nat}(h:¬(24<rows.length\/60<xs.length))(e:wq 0 0 rows=some k):x9 rows xs=.order k:=by unfold x9;rw[if_neg h,e]
theorem zgN{rows:List Rw}{xs:List V}(h:¬(24<rows.length\/60<xs.length))(e:wq 0 0 rows=none)(n:xs.all nmV=false):x9 rows xs=.name:=by unfold x9;rw[if_neg h,e];show(if xs.all nmV=true then _ else _)=_;rw[n,if_neg zft]
theorem zeQ{rows:List Rw}{xs:List V}{z:Str}(h:¬(24<rows.length\/60<xs.length))(e:wq 0 0 rows=none)(n:xs.all nmV=true)(d:uU [] (nms rows++txs xs)=some z):x9 rows xs=.twice z:=by
 unfold x9;rw[if_neg h,e];show(if xs.all nmV=true then _ else _)=_;rw[n,if_pos rfl,d]
theorem zgP{rows:List Rw}{xs:List V}(h:¬(24<rows.length\/60<xs.length))(e:wq 0 0 rows=none)(n:xs.all nmV=true)(d:uU [] (nms rows++txs xs)=none):x9 rows xs=.done:=by
 unfold x9;rw[if_neg h,e];show(if xs.all nmV=true then _ else _)=_;rw[n,if_pos rfl,d]
def zmi(c:C5)(CF TM BO N TW:Addr)(H:Hp)(p:Addr)(rows:List Rw)(xs:List V)(q:Hp->Prop)(E:XK):Rz->Prop
 | .many=>∀od H',zx H H'->E (.ref TM) od H'
 | .order k=>∀d H',zx H H'->H' d=some (.xd [("at",.int (k:Nat))])->E (.ref BO) (some d) H'
 | .name=>∀od H',zx H H'->E (.ref N) od H'
 | .twice z=>∀d H',zx H H'->H' d=some (.xd [("name",.str z)])->E (.ref TW) (some d) H'
 | .done=>∀bars H',xs=bars.map V.str->SX p H H'->zcr c CF H H' p rows bars->q H'
def zfo(K:Frag)(c:C5)(CF TM BO N TW:Addr):Sp:=fun vs H Q E=>∃(p a b dx:Addr) (ps:List Addr) (rows:List Rw) (xs:List V),vs=[.ref p,.ref a,.ref b]/\H p=some (.ins CF dx [])/\H a=some (.lst (ps.map V.ref))/\Paired (PAt c H) ps rows/\(∀r∈rows,r.ok)/\rows.length<=400/\H b=some (.lst xs)/\xs.length<=400/\(∀x∈xs,OkV K H x)/\zmi c CF TM BO N TW H p rows xs (Q .non) E (x9 rows xs)
theorem zeA{ds:List Value}{g1 g2 g3 g4 g5:Addr}{e1 e2 e3 e4 e5:FuncData}(F:jH K "__init__" "Form.__init__" zcL f fd ds)(FK:FC K CF)(mK:vw K CF "keep" g5)
  (cM:wc P w K mg base 1 "refuse_too_many" g1 e1 ["parameters","bars"] (zaL K TM)) (cO:wc P w K mg base 3 "refuse_bad_order" g2 e2 ["parameters"] (zcw c BO)) (cB':wc P w K mg base 2 "refuse_bars_without_name" g3 e3 ["bars"] (zfe K N)) (cT:wc P w K mg base 3 "refuse_twice" g4 e4 ["parameters","bars"] (zfc c TW))
  (GK:zL P w K mg base CX0 2 g5 e5 ["self","parameters","bars"] (zfl c CF)) (bK:yt K e5 ["self","parameters","bars"] []) :
  zL P w K mg base (CXs P w) 4 f fd ["self","parameters","bars"] (zfo K c CF TM BO N TW):=by
 refine F.okS zdx (fun vs H Q E h=>?_) (fun cdv A outer s H vs Q E hr h=>?_)
 ·obtain⟨p,a,b,dx,ps,rows,xs,rfl,_⟩:=h
  rfl
 obtain⟨p,a,b,dx,ps,rows,xs,rfl,hf,ha,hp,hok,lr,hb,lb,hS,due⟩:=h;have hr1:yh 1 _:=hr.mono (by decide)
 have hr2:yh 2 _:=hr.mono (by decide)
 refine⟨_,zp (zC (i:=3) zdx.nd rfl (Or.inl rfl) (xQ (wI (vC (pv 2))) (zP zi) (pv 2)))
  (zp (zW (cS cM (zdF fun _ _ _ z=>z) hr1 (ac (pv 1) (ac (pv 3) zi))))
  (zp (zW (cS cO (zdF fun _ _ _ z=>z) hr (ac (pv 1) zi)))
  (zp (zW (cS cB' (zdF fun _ _ _ z=>z) hr2 (ac (pv 3) zi)))
  (zp (zW (cS cT (zdF fun _ _ _ z=>z) hr (ac (pv 1) (ac (pv 3) zi))))
  (zm (zW (zhI (pv 0) FK.cl mK GK hr2 bK .nil xx (ac (pv 1) (ac (pv 3) zi))))))))),?_⟩
 refine⟨_,rfl,_,rfl,dF (by intro z;cases z) ⟨_,rfl,?_⟩⟩
 have lp:(ps.map V.ref).length=rows.length:=by rw[length_map,hp.length]
 refine⟨_,rfl,_,rfl,a,b,_,_,rfl,zq ha,zq hb,fun h1 h1'=>?_,fun h1=>?_⟩;rotate_left 1
 ·rw[lp] at h1
  rw[zgO h1] at due;exact due
 rw[lp] at h1;have hn:¬(24<rows.length\/60<xs.length):=by omega
 refine⟨_,rfl,a,ps,rows,rfl,ha,hp,hok,fun h2 H2 s2=>?_,fun k h2=>?_⟩;rotate_left 1
 ·rw[zeR hn h2] at due
  exact due
 refine⟨_,rfl,b,xs,rfl,s2 _ _ hb,(fun x hx=>(hS x hx).same s2),fun h3 H3 s3=>?_,fun h3 od3 H3 s3=>?_⟩;rotate_left 1
 ·rw[zgN hn h2 h3] at due
  exact due _ _ (s2.trans s3)
 have s23:=s2.trans s3;obtain⟨ex,_⟩:=zdh h3;have hb2:H b=some (.lst ((txs xs).map V.str)):=by rw[<- ex];exact hb
 have ll:(txs xs).length=xs.length:=by
  have:=congrArg List.length ex
  rw[length_map] at this;exact this.symm
 refine⟨_,rfl,_,rfl,a,b,ps,rows,txs xs,rfl,s23 _ _ ha,vU s23 hp,hok,by omega,s23 _ _ hb2,by omega,fun h4 H4 s4=>?_,fun z h4 d4 H4 s4 e4=>?_⟩
 rotate_left 1
 ·rw[zeQ hn h2 h3 h4] at due
  exact due _ _ (s23.trans s4) e4
 rw[zgP hn h2 h3 h4] at due;have s14:=s23.trans s4;refine⟨_,rfl,p,dx,_,rfl,s14 _ _ hf,rfl,_,rfl,_,rfl,p,a,b,dx,[],ps,rows,txs xs,rfl,s14 _ _ hf,⟨by decide,fun _ _=>rfl⟩,s14 _ _ ha,vU s14 hp,hok,by omega,s14 _ _ hb2,fun H5 x5 F5 L5=>?_⟩
 exact due _ _ ex (fun b' u e n=>x5 b' u (s14 _ _ e) n) (F5.of s14)
end
end K92
namespace L2
open PySem PySem.Spec PyProof.Rows
def zmC:R2:=fun x y H Q=>∃(a b:Addr) (xs:List V),x=.ref a/\y=.ref b/\H a=some (.lst xs)/\H b=some (.lst [])/\Q (.bl (!decide (xs=[]))) H
theorem zf9{X:Cx}(hu:X.A.units<cLine):OpR X (compareOp .NotEq) zmC:=by
 intro pins s σ H x y v u Q I rx ry h;obtain⟨a,b,xs,rfl,rfl,ha,hb,q⟩:=h;cases rx;cases ry;obtain⟨ia,va,pa,_⟩:=I.list (zq ha);obtain⟨ib,vb,pb,_⟩:=I.list (zq hb);cases vb;by_cases e:xs=[]
 ·subst e
  cases va;rw[decide_eq_true rfl] at q;have t2:=SeqAt.RcNeAt.lists (A:=X.A) (s:=s) (e:=fun _=>true) pa.isList pb.isList rfl hu (fun j h1 h2=>absurd h1 (by simp))
  rw[vN] at t2;exact t2 X.prog X.w X.xe _ ⟨.bl false,H,I,rfl,q⟩
 ·rw[decide_eq_false e] at q
  have l1:=va.length
  have:ia.length≠0:=fun z=>e (List.eq_nil_of_length_eq_zero (by omega))
  exact SeqAt.RcNeAt.lists_lengths pa.isList pb.isList (by simp;exact fun z=>this (by rw[z];rfl)) hu X.prog X.w X.xe _ ⟨.bl true,H,I,rfl,q⟩
def zmB(n:Bool):R2:=fun x y H Q=>∃(a c:Addr) (xs:List V),x=.ref a/\y=.ref c/\H a=some (.lst xs)/\H c=some (.lst [])/\Q (.bl (n != xs.isEmpty)) H
theorem zgb{X:Cx}(hu:X.A.units+64<cLine):OpR X (compareOp .Eq) (zmB false):=by
 intro pins s σ H x y v u Q I rx ry h;obtain⟨a,c,xs,rfl,rfl,ha,hc,q⟩:=h;cases xs with
 | nil=>exact zcU hu pins s σ H _ _ v u Q I rx ry ⟨a,c,0,.lst [],fun _=>True,fun _=>True,rfl,rfl,by decide,zS.lst True.intro ha .nil,zS.lst True.intro hc .nil,q⟩
 | cons z zs=>exact ql (by omega) pins s σ H _ _ v u Q I rx ry ⟨a,c,_,_,rfl,rfl,ha,hc,by simp,q⟩
end L2
namespace K92
open PySem L2 PyProof.Rows
def wv(c:Nat):Bool:=decide (48<=c)&&decide (c<=57)
def xo(z:Str):List Nat:=if (sg z).head?=some 45 then (sg z).tail else sg z
def uP(z:Str):Prop:=1<=(xo z).length/\(xo z).length<=60/\(xo z).all wv=true/\¬((xo z).head?=some 48/\z≠"0")
instance (z:Str):Decidable (uP z):=by unfold uP;exact inferInstance
def rdN(z:Str):Option Int:=if uP z then PySem.intText? z else none
theorem zb7(c:Nat):(!(PySem.Builtin.Str.occurrences zb8 ⟨#[c]⟩ 0 zb8.length 1).isEmpty)=wv c:=by
 rw[empty_one zb8 c,Bool.not_not];by_cases h:c<128
 ·have:∀c:Nat,c<128->decide (c∈zb8.cps.toList)=wv c:=by decide +kernel
  exact this c h
 ·have:∀x∈zb8.cps.toList,x<128:=by decide +kernel
  rw[decide_eq_false fun z=>h (this c z)];unfold wv;rw[decide_eq_false (show ¬c<=57 by omega),Bool.and_false]
theorem zh2{z:Str}(h1 : 1<=(xo z).length)(h2:(xo z).length<=60)(h3:(xo z).all wv=true):z.length<=61/\∃n,PySem.intText? z=some n:=by
 have dg:PySem.NumText.AllDigits (xo z):=fun c hc=>by
  have:=List.all_eq_true.mp h3 c hc
  unfold wv at this;simpa using this
 have hn:xo z≠[]:=fun e=>by rw[e] at h1;exact absurd h1 (by decide)
 rw[zN];by_cases hh:(sg z).head?=some 45
 ·have ef:xo z=(sg z).tail:=by unfold xo;rw[if_pos hh]
  have es:sg z=45::xo z:=by
   rw[ef];cases e:sg z with
   | nil=>rw[e] at hh;cases hh
   | cons a r=>rw[e] at hh;simp at hh;rw[hh];rfl
  refine⟨by rw[es];simp;omega,_,PySem.intText_neg (x:=z) es dg hn ?_⟩
  rw[zN,es];simp;omega
 ·have ef:xo z=sg z:=by unfold xo;rw[if_neg hh]
  rw[ef] at dg hn h2;exact⟨by omega,_,PySem.intText_digits (x:=z) dg hn (by rw[zN];omega)⟩
theorem zbG{z:Str}(h:uP z):∃n,rdN z=some n/\PySem.intText? z=some n/\z.length<=61:=by
 obtain⟨l,n,e⟩:=zh2 h.1 h.2.1 h.2.2.1;exact⟨n,by unfold rdN;rw[if_pos h,e],e,l⟩
theorem qd{z:Str}(h:¬uP z):rdN z=none:=by unfold rdN;rw[if_neg h]
theorem zeG{caps:List (Option Nat)}{g:TG}{tt:TT}{te:TE}{σ : L2.St}{H1:Hp}{Q:VK}{D:Addr}(p:Nat->Bool)(z:Str)(hz:z.length<=1000)(hD:H1 D=none)
  (hs:∀c H' (C:VK) (S:Hp->Prop),c∈sg z->C (.bl (p c)) H'->g (.str ⟨#[c]⟩) (xk caps σ) H' fun σ2 H2=>tt σ2 H2 fun ok H3=>(ok=true->te σ2 H3 C)/\(ok=false->S H3))
  (hd:∀H',zx H1 H'->H' D=some (.lst (((sg z).map p).map V.bl))->Q (.ref D) H'):LCr (Its z) caps g tt te σ H1 Q D:=by
 refine⟨fun i m ys H'=>i<=z.cps.size/\m=z.cps.size - i/\ys=(((sg z).take i).map p).map V.bl/\H'=upd H1 D (.lst ys),⟨_,zero_le _,rfl,rfl,rfl⟩,?_⟩;rintro i m ys H' ⟨hi,rfl,rfl,rfl⟩;by_cases he:i=z.cps.size
 ·subst he
  refine .inl ⟨le_refl _,?_⟩;refine hd _ (zk hD _) ?_;rw[zc,take_of_length_le (by simp [sg])]
 ·refine .inr ⟨by show i<z.cps.size;omega,?_⟩
  rintro x H' ⟨rfl,c,hc,rfl⟩;have hc':(sg z)[i]?=some c:=by simpa [sg] using hc
  refine hs c _ _ _ (mem_of_getElem? hc') ?_;refine⟨zc,?_,z.cps.size - (i+1),by omega,by omega,rfl,?_,?_⟩
  ·rw[length_map,length_map,length_take]
   have:z.cps.size<=1000:=hz
   exact yu (by omega)
  ·rw[take_add_one,hc',map_append,map_append]
   rfl
  ·rw[xZ]
theorem zag{caps:List (Option Nat)}{g:TG}{tt:TT}{te:TE}{σ : L2.St}{H1:Hp}{Q:VK}{D:Addr}(p:Nat->Bool)(z:Str)(hz:z.length<=1000)(hD:H1 D=none)
  (hs:∀c H' (C:VK) (S:Hp->Prop),c∈sg z->(p c=true->C (.str ⟨#[c]⟩) H')->(p c=false->S H')->g (.str ⟨#[c]⟩) (xk caps σ) H' fun σ2 H2=>tt σ2 H2 fun ok H3=>(ok=true->te σ2 H3 C)/\(ok=false->S H3))
  (hd:∀H',zx H1 H'->H' D=some (.lst (((sg z).filter p).map fun c=>V.str ⟨#[c]⟩))->Q (.ref D) H'):LCr (Its z) caps g tt te σ H1 Q D:=by
 refine⟨fun i m ys H'=>i<=z.cps.size/\m=z.cps.size - i/\ys=(((sg z).take i).filter p).map (fun c=>V.str ⟨#[c]⟩)/\H'=upd H1 D (.lst ys),⟨_,zero_le _,rfl,rfl,rfl⟩,?_⟩;rintro i m ys H' ⟨hi,rfl,rfl,rfl⟩;by_cases he:i=z.cps.size
 ·subst he
  refine .inl ⟨le_refl _,?_⟩;refine hd _ (zk hD _) ?_;rw[zc,take_of_length_le (by simp [sg])]
 ·refine .inr ⟨by show i<z.cps.size;omega,?_⟩
  rintro x H' ⟨rfl,c,hc,rfl⟩;have hc':(sg z)[i]?=some c:=by simpa [sg] using hc
  have hz':z.cps.size<=1000:=hz;refine hs c _ _ _ (mem_of_getElem? hc') (fun e=>?_) fun e=>?_
  ·refine⟨zc,?_,z.cps.size - (i+1),by omega,by omega,rfl,?_,?_⟩
   ·rw[length_map]
    have:=length_filter_le p ((sg z).take i)
    rw[length_take] at this;exact yu (by omega)
   ·rw[take_add_one,hc',filter_append]
    show _=((((sg z).take i).filter p)++[c].filter p).map _;rw[List.filter_cons_of_pos e,map_append];rfl
   ·rw[xZ]
  ·refine⟨z.cps.size - (i+1),by omega,by omega,rfl,?_,?_⟩
   ·rw[take_add_one,hc',filter_append]
    show _=((((sg z).take i).filter p)++[c].filter p).map _;rw[List.filter_cons_of_neg (by rw[e];decide),List.filter_nil,append_nil]
   ·rfl
theorem ui{P:Program}{w:World}{K:Frag}{mg:Str->Option Value}{base:Heap}{N:List Str}{qual:Str}{scope:Scope}{f NT:Addr}{cd:Value}{A:Around}{outer:List Env}{s:Shared}{H:Hp}{E:XK}{z:Str}{j:Nat}{p np cpos pos:Pos}(pc:jl K mg base "NoText" NT)
  (hg:Gl (w5 (CXe P w) P w K mg base N qual scope f cd A outer s H E) "NoText":=by rfl) :
  PS (w5 (CXe P w) P w K mg base N qual scope f cd A outer s H E) (.Raise (some (.Call (.Name "NoText" np) [.Constant (.str z) j p] [] cpos)) none pos) (fun _ _ H1=>E (.ref NT) none H1):=
 ⟨fun pins s1 σ H1 D I h=>(zfY zen pc.own PySem.F.excBase_ValueError (by decide) PySem.F.excBase_ValueError rfl (ac zo zi) hg).run pins s1 σ H1 D I ⟨by show 1<=sizeLine;decide,h⟩⟩
def zhf(NT:Addr):Sp:=fun vs H Q E=>∃z:Str,vs=[.str z]/\z.length<=100000/\(∀n H',rdN z=some n->zx H H'->Q (.int n) H')/\(rdN z=none->∀H',zx H H'->E (.ref NT) none H')
def zdp:Sp:=fun vs H Q _=>∃z:Str,vs=[.str z]/\z.length<=100000/\∀H',zx H H'->Q (.bl (zV z)) H'
def zlH:Option Int->V
 | none=>.non
 | some i=>.int i
def zfj:Sp:=fun vs H Q _=>∃z:Str,vs=[.str z]/\z.length<=100000/\∀H',zx H H'->Q (zlH (rdN z)) H'
theorem zdi{z:Str}(h:(sg z).head?=some 45):sg z=45::xo z:=by
 unfold xo;rw[if_pos h];cases e:sg z with
 | nil=>rw[e] at h;cases h
 | cons a r=>rw[e] at h;simp at h;rw[h];rfl
theorem zmt{z:Str}:z="0" ↔ sg z=[48]:=⟨fun e=>by rw[e];rfl,fun e=>xF e⟩
section
variable {P:Program}{w:World}{K:Frag}{mg:Str->Option Value}{base:Heap}{f NT:Addr}{fd:FuncData}
theorem zfv:zD ["text","figures"] ["text"] (zr zjJ):=fsc
theorem zlC(F:Fun K "read_number" "read_number" zjJ f fd)(T:zl9 mg)(pc:jl K mg base "NoText" NT):zL P w K mg base (CXe P w) 1 f fd ["text"] (zhf NT):=by
 refine F.okE zfv (fun vs H Q E h=>?_) (fun cdv A outer s H vs Q E hr h=>?_)
 ·obtain⟨t,rfl,_⟩:=h
  rfl
 obtain⟨z,rfl,lz,q,qn⟩:=h;obtain⟨t1,mf⟩:=T.mf;obtain⟨t2,fg⟩:=T.fg;refine⟨_,zp (zC (i:=1) zfv.nd rfl (Or.inl rfl) (xQ (yx (z7 PySem.F.plainAttrs_str PySem.F.slot_str_startswith PySem.F.type_str_startswith vX (pv 0) (ac zo zi))) (zR yy (pv 0) (zT zj) ym) (pv 0)))
  (zp (zJ (yv (xw (xI (zbJ zdL zdL zj (cB yg T.len PySem.boot_len (ac (pv 1) zi)) (z6 (v:=.int 60) rfl mf ⟨_,rfl⟩)))
    (yV (xI (yx (cB (zaw rfl) T.all boot_all (ac (xY [] ["sign"] [none] rfl ⟨rfl,rfl,rfl,rfl⟩ (zaY (pv 1)) (z5 0) rfl rfl rfl
   (fun pins fp s H C=>⟨zF (i:=0) nd1 rfl (Or.inl rfl) (.inr rfl),yA,xf vV (pv 0) (z6 (v:=.str zb8) rfl fg ⟨_,rfl⟩) (by with_unfolding_all rfl)⟩)) zi))))))) (zm (ui pc)) zz)
  (zp (zJ (yv (yW (zw yi (zK wt (pv 1) zj (fun _ _=>rfl)) zo (zE _)) (yD (zw zdK (pv 0) zo (zE _))))) (zm (ui pc)) zz)
  (zm (zB (cTy zav T.int PyProof.Rows.boot_int (ac (pv 0) zi)))))),?_⟩
 have hs:=w9 (z:=z) (y:="-") (c:=45) rfl;have bad:¬uP z->∀H',zx H H'->E (.ref NT) none H':=fun h=>qn (qd h);refine yQ (fun σ' H'=>∃fz:Str,σ'=[some (.str z),some (.str fz)]/\sg fz=xo z/\H'=H) ?_ ?_
 ·rintro σ' H' ⟨fz,rfl,ef,rfl⟩
  have lf:fz.length=(xo z).length:=by rw[zN,ef]
  have lf2:fz.length<=z.length:=by
   rw[lf,zN];unfold xo;split
   ·rw[List.length_tail];omega
   ·exact le_refl _
  refine⟨_,rfl,fz,rfl,by rw[sizeLine_eq];omega,_,_,rfl,rfl,_,rfl,?_⟩
  by_cases l1:(1:Int)<=(fz.length:Int)
  rotate_left
  ·refine dF l1 ?_
   refine⟨_,rfl,?_⟩;refine yp ?_;exact bad (fun h=>l1 (by have:=h.1;omega)) _ (zx.refl _)
  refine dT l1 ?_;refine⟨_,_,rfl,rfl,_,rfl,?_⟩;by_cases l2:(fz.length:Int)<=60
  rotate_left
  ·rw[decide_eq_false l2]
   refine yp ?_;exact bad (fun h=>l2 (by have:=h.2.1;omega)) _ (zx.refl _)
  rw[decide_eq_true l2];refine yb ?_;refine⟨_,rfl,fz,rfl,fun D hD=>?_⟩;refine zeG wv fz (by omega) hD ?_ ?_
  ·intro c H' C S hc hC
   refine⟨fun _=>⟨_,rfl,_,_,rfl,rfl,?_⟩,fun e=>Bool.noConfusion e⟩;rw[zb7];exact hC
  intro H2 s2 hD2;refine⟨D,(sg fz).map wv,rfl,zq hD2,_,rfl,?_⟩;rw[show((sg fz).map wv).all id=(xo z).all wv by rw[all_map,ef];rfl]
  cases l3:(xo z).all wv with
  | false=>
   refine yp ?_;exact bad (fun h=>by rw[h.2.2.1] at l3;cases l3) _ s2
  | true=>
   refine yb ?_;obtain⟨d,r,ed⟩:∃d r,xo z=d::r:=by
    cases e:xo z with
    | nil=>rw[e] at lf;rw[lf] at l1;exact absurd l1 (by decide)
    | cons d r=>exact⟨d,r,rfl⟩
   have hD':(V.str ⟨#[d]⟩=V.str (Str.ofString "0")) ↔ d=48:=by
    constructor
    ·intro e
     injection e with e
     have:=congrArg sg e
     have:[d]=[48]:=this
     injection this
    ·intro e;rw[e];rfl
   have good:uP z->∀H3,H3=H2->∃y,y=H3/\uf 0 [some (V.str z),some (V.str fz)] H3 (fun x H4=>∃(z':Str) (n:Int),[x]=[.str z']/\PySem.intText? z'=some n/\z'.length<=640/\Q (.int n) H4):=by
    rintro h H3 rfl;obtain⟨n,e1,e2,e3⟩:=zbG h;exact⟨_,rfl,_,rfl,z,n,rfl,e2,by omega,q n _ e1 s2⟩
   refine⟨_,rfl,fz,0,d,rfl,rfl,by rw[sizeLine_eq];omega,by rw[show fz.cps.toList=sg fz from rfl,ef,ed];exact at0 d r,rfl,_,rfl,?_⟩
   by_cases hd:d=48
   ·refine dT (hD'.mpr hd) ?_
    refine⟨_,rfl,rfl,_,rfl,?_⟩;by_cases hz:z="0"
    ·rw[show decide (V.str z=V.str (Str.ofString "0"))=true from decide_eq_true (by rw[hz])]
     refine yb ?_;exact(good ⟨by omega,by omega,l3,fun h=>h.2 hz⟩ _ rfl).elim fun _ h=>h.2
    ·rw[show decide (V.str z=V.str (Str.ofString "0"))=false from decide_eq_false fun e=>hz (V.str.inj e)]
     refine yp ?_;exact bad (fun h=>h.2.2.2 ⟨by rw[ed,hd];rfl,hz⟩) _ s2
   ·refine dF (fun e=>hd (hD'.mp e)) ?_
    exact(good ⟨by omega,by omega,l3,fun h=>hd (by rw[ed] at h;simpa using h.1)⟩ _ rfl).elim fun _ h=>h.2
 ·intro key
  refine⟨_,rfl,rfl,z,"-",rfl,rfl,_,rfl,?_⟩;by_cases h:(sg z).head?=some 45
  ·refine wY (by rw[hs];exact decide_eq_true h) ?_
   refine⟨_,rfl,_,rfl,z,rfl,by rw[sizeLine_eq];omega,key _ _ ⟨_,rfl,?_,rfl⟩⟩
   exact j0 (r:=[45]) (zdi h)
  ·refine vt (by rw[hs];exact decide_eq_false h) ?_
   exact⟨_,rfl,key _ _ ⟨z,rfl,by unfold xo;rw[if_neg h],rfl⟩⟩
end
end K92
namespace L2
open PySem PySem.Spec PyProof.Rows
def xU(o:Option Int)(d n:Nat):Nat:=match o with
 | none=>d
 | some i=>(max 0 (min (if i<0 then i+n else i) (n:Int))).toNat
theorem zch(o:Option Int){d n:Nat}(h:d<=n):xU o d n<=n:=by
 cases o with
 | none=>exact h
 | some i=>show(max 0 (min (if i<0 then i+n else i) (n:Int))).toNat<=n;omega
theorem vP(x:Str)(l u:Option Int):sg (Txt.slice x l u)=((sg x).drop (xU l 0 x.length)).take (xU u x.length x.length - xU l 0 x.length):=by
 have ha:=zch l (zero_le x.length);have hb:=zch u (le_refl x.length);have e:PySem.Builtin.Str.strSliceIndices l u 1 x.length=PySem.Builtin.Str.strSliceIndices (some ((xU l 0 x.length:Nat):Int)) (some ((xU u x.length x.length:Nat):Int)) 1 x.length:=by
  have k1:∀(o:Option Int) (d:Nat),d<=x.length->(match o with
    | none=>(d:Int)
    | some i=>max 0 (min (if i<0 then i+(x.length:Int) else i) (x.length:Int)))=((xU o d x.length:Nat):Int):=fun o d hd=>by
   cases o with
   | none=>rfl
   | some i=>show max 0 (min (if i<0 then i+(x.length:Int) else i) (x.length:Int))=(((max 0 (min (if i<0 then i+x.length else i) (x.length:Int))).toNat:Nat):Int);omega
  unfold PySem.Builtin.Str.strSliceIndices;dsimp only;rw[if_pos (show(1:Int)>0 by decide),if_pos (show(1:Int)>0 by decide)]
  rw[if_neg (show ¬((xU l 0 x.length:Nat):Int)<0 by omega),if_neg (show ¬((xU u x.length x.length:Nat):Int)<0 by omega)]
  rw[show max 0 (min ((xU l 0 x.length:Nat):Int) (x.length:Int))=((xU l 0 x.length:Nat):Int) by omega,show max 0 (min ((xU u x.length x.length:Nat):Int) (x.length:Int))=((xU u x.length x.length:Nat):Int) by omega]
  rw[<- k1 l 0 (zero_le _),<- k1 u x.length (le_refl _)];cases l <;> cases u <;> rfl
 have e2:Txt.slice x l u=Txt.slice x (some ((xU l 0 x.length:Nat):Int)) (some ((xU u x.length x.length:Nat):Int)):=by
  show PySem.StrLaws.sliceText x l u=PySem.StrLaws.sliceText x _ _;unfold PySem.StrLaws.sliceText;rw[e]
 rw[e2];generalize xU l 0 x.length=a at *;generalize xU u x.length x.length=b at *;show sg (PySem.StrLaws.sliceText x _ _)=_;by_cases hab:a<=b
 ·rw[PySem.StrLaws.sliceText_nat x hab hb]
 ·rw[show b - a=0 by omega,List.take_zero]
  have e3:PySem.Builtin.Str.strSliceIndices (some (a:Int)) (some (b:Int)) 1 x.length=[]:=by
   unfold PySem.Builtin.Str.strSliceIndices;dsimp only;rw[if_pos (show(1:Int)>0 by decide),if_pos (show(1:Int)>0 by decide),if_neg (show ¬(a:Int)<0 by omega),if_neg (show ¬(b:Int)<0 by omega)]
   rw[show max 0 (min (a:Int) (x.length:Int))=(a:Int) by omega,show max 0 (min (b:Int) (x.length:Int))=(b:Int) by omega]
   unfold sliceRange;simp;omega
  unfold PySem.StrLaws.sliceText;rw[e3];split
  ·rename_i h
   have:x.length=0:=by simp at h;omega
   rw[zN] at this;exact List.eq_nil_of_length_eq_zero this
  ·rfl
theorem ut(z:Str)(k:Nat):sg (Txt.slice z none (some (k:Int)))=(sg z).take k:=by
 rw[vP,zN];show((sg z).drop 0).take ((max 0 (min (if (k:Int)<0 then (k:Int)+(sg z).length else (k:Int)) ((sg z).length:Int))).toNat - 0)=_
 rw[if_neg (by omega),drop_zero,show(max 0 (min (k:Int) ((sg z).length:Int))).toNat - 0=min k (sg z).length by omega]
 by_cases h:k<=(sg z).length
 ·rw[min_eq_left h]
 ·rw[min_eq_right (by omega),take_length,take_of_length_le (by omega)]
theorem uu(z:Str)(k:Nat):sg (Txt.slice z (some (k:Int)) none)=(sg z).drop k:=by
 rw[vP,zN];show((sg z).drop (max 0 (min (if (k:Int)<0 then (k:Int)+(sg z).length else (k:Int)) ((sg z).length:Int))).toNat).take ((sg z).length - (max 0 (min (if (k:Int)<0 then (k:Int)+(sg z).length else (k:Int)) ((sg z).length:Int))).toNat)=_
 rw[if_neg (by omega),show(max 0 (min (k:Int) ((sg z).length:Int))).toNat=min k (sg z).length by omega]
 by_cases h:k<=(sg z).length
 ·rw[min_eq_left h]
  exact take_of_length_le (by simp)
 ·rw[min_eq_right (by omega),drop_length,drop_eq_nil_of_le (by omega),take_nil]
theorem qO(z:Str):sg (Txt.slice z (some (-1)) none)=(sg z).drop ((sg z).length - 1):=by
 rw[vP,zN];show((sg z).drop (max 0 (min (if (-1:Int)<0 then (-1:Int)+(sg z).length else (-1:Int)) ((sg z).length:Int))).toNat).take ((sg z).length - (max 0 (min (if (-1:Int)<0 then (-1:Int)+(sg z).length else (-1:Int)) ((sg z).length:Int))).toNat)=_
 rw[if_pos (by decide),show(max 0 (min (-1+((sg z).length:Int)) ((sg z).length:Int))).toNat=(sg z).length - 1 by omega]
 exact take_of_length_le (by simp)
theorem slice_le(z:Str)(l u:Option Int):(Txt.slice z l u).length<=z.length:=by
 rw[zN,vP,zN];simp only[length_take,length_drop];omega
theorem zct(z:Str)(i j:Nat):(PySem.Builtin.Str.strSub z i j).length<=z.length:=by
 rw[zN,show sg (PySem.Builtin.Str.strSub z i j)=_ from PySem.StrLaws.strSub_toList z i j,zN,show z.cps.toList=sg z from rfl];simp only[length_take,length_drop];omega
theorem zgx(sep:List Nat):∀ps:List (List Nat),(ps.length - 1) * sep.length<=(jL sep ps).length
 | []=>by simp
 | [_]=>by simp
 | p::q::r=>by
  have:=zgx sep (q::r)
  simp only[jL,length_append,length_cons,Nat.add_sub_cancel] at this |-;rw[succ_mul];omega
structure ziJ(z y:Str):Prop where
 line:(PySem.Builtin.Str.partsBetween z (PySem.Builtin.Str.occurrences z y 0 z.length (z.length+1)) y.length).length<=z.length+2
 each:∀w∈Txt.split z y,w.length<=z.length
 back:Txt.join y (Txt.split z y)=z
 pos : 1<=(Txt.split z y).length
 many:((Txt.split z y).length - 1) * y.length<=z.length
theorem xO(z y:Str):ziJ z y:=by
 have ol:=PySem.StrLaws.occ_length_le z y 0 z.length (z.length+1);have pl:(PySem.Builtin.Str.partsBetween z (PySem.Builtin.Str.occurrences z y 0 z.length (z.length+1)) y.length).length=(PySem.Builtin.Str.occurrences z y 0 z.length (z.length+1)).length+1:=by
  unfold PySem.Builtin.Str.partsBetween;simp
 have cs:Txt.split z y=[z]\/Txt.split z y=PySem.Builtin.Str.partsBetween z (PySem.Builtin.Str.occurrences z y 0 z.length (z.length+1)) y.length:=by
  unfold Txt.split;split
  ·exact .inl rfl
  ·split
   ·exact .inl rfl
   ·exact .inr rfl
 have bk:Txt.join y (Txt.split z y)=z:=by
  rcases cs with e|e
  ·rw[e];rfl
  ·rw[e];exact PySem.StrLaws.glued_between_self z y _
 refine⟨by omega,fun w hw=>?_,bk,?_,?_⟩
 ·rcases cs with e|e
  ·rw[e] at hw
   have:w=z:=by simpa using hw
   rw[this];exact le_refl _
  ·rw[e] at hw
   unfold PySem.Builtin.Str.partsBetween at hw;obtain⟨q,_,rfl⟩:=List.mem_map.mp hw;exact zct z _ _
 ·rcases cs with e|e
  ·rw[e];exact le_refl _
  ·rw[e,pl];omega
 ·have:=zgx (sg y) ((Txt.split z y).map sg)
  rw[<- jI,bk,length_map,<- zN,<- zN] at this;exact this
theorem zbN(z y:Str):(Txt.partition z y).1.length<=z.length/\(Txt.partition z y).2.2.length<=z.length:=by
 unfold Txt.partition;split
 ·exact⟨zct _ _ _,zct _ _ _⟩
 ·exact⟨le_refl _,by show(Str.empty).length<=_;exact zero_le _⟩
theorem zeq{z y:Str}{c d:Nat}(hy:sg y=[d])(h:(sg z).head?=some c)(hc:c≠d):(sg (Txt.partition z y).1).head?=some c:=by
 have l1:y.length=1:=by rw[zN,hy];rfl
 unfold Txt.partition;rcases PySem.StrLaws.occ_head z y 1 (le_refl _) with ⟨e,_⟩|⟨i,r,e,⟨ha,hb⟩,_⟩
 ·rw[e];exact h
 ·rw[e]
  show(sg (PySem.Builtin.Str.strSub z 0 i)).head?=_;rw[show sg (PySem.Builtin.Str.strSub z 0 i)=_ from PySem.StrLaws.strSub_toList z 0 i];cases i with
  | zero=>
   rw[PySem.StrLaws.subAt_eq,beq_iff_eq,show z.cps.toList=sg z from rfl,show y.cps.toList=[d] from hy,l1,drop_zero] at hb;cases e2:sg z with
   | nil=>rw[e2] at h;cases h
   | cons a t=>rw[e2] at h hb;simp at h hb;omega
  | succ i=>
   rw[show z.cps.toList=sg z from rfl,drop_zero];cases e2:sg z with
   | nil=>rw[e2] at h;cases h
   | cons a t=>rw[e2] at h;exact h
end L2
namespace K92
open PySem L2 PyProof.Rows
theorem jo{z y:Str}{c:Nat}(hy:sg y=[c]):(V.str (Txt.slice z none (some 1))=V.str y) ↔ (sg z).head?=some c:=by
 constructor
 ·intro e
  injection e with e
  have e:=congrArg sg e;rw[show sg (Txt.slice z none (some 1))=_ from ut z 1,hy] at e;cases h:sg z with
  | nil=>rw[h] at e;cases e
  | cons a r=>rw[h] at e;simp at e;rw[e];rfl
 ·intro h
  congr 1
  refine xF ?_;rw[show sg (Txt.slice z none (some 1))=_ from ut z 1,hy];cases e:sg z with
  | nil=>rw[e] at h;cases h
  | cons a r=>rw[e] at h;simp at h;rw[h];rfl
theorem zb6{p:Nat->Bool}{l:List Nat}:((l.filter fun c=>!p c).map fun c=>V.str ⟨#[c]⟩).isEmpty=l.all p:=by
 rw[List.isEmpty_map];induction l with
 | nil=>rfl
 | cons a r ih=>
  rw[all_cons];cases e:p a with
  | true=>rw[List.filter_cons_of_neg (by simp [e]),ih,Bool.true_and]
  | false=>rw[List.filter_cons_of_pos (by simp [e])];rfl
theorem zio{p:Nat->Bool}{l:List Nat}:(!decide (((l.filter fun c=>!p c).map fun c=>V.str ⟨#[c]⟩)=[]))=!l.all p:=by
 rw[<- zb6];cases (l.filter fun c=>!p c).map fun c=>V.str ⟨#[c]⟩ <;> rfl
theorem zgr{z:Str}:zV z=(decide (1<=z.length)&&(decide (z.length<=8)&&(sg z).all low)):=by
 unfold zV;rw[Bool.and_assoc]
structure ziH(mg:Str->Option Value):Prop where
 len:mg "len"=none
 int:mg "int"=none
def rdP(z:Str):Option (Str×Int):=if zV (Txt.partition z "=").1=true then (rdN (Txt.partition z "=").2.2).map fun n=>((Txt.partition z "=").1,n) else none
def zjw(NT:Addr):Sp:=fun vs H Q E=>∃z:Str,vs=[.str z]/\z.length<=100000/\(∀p,rdP z=some p->∀(r:Addr) (H':Hp),zx H H'->H r=none->H' r=some (.tup [.str p.1,.int p.2])->Q (.ref r) H')/\(rdP z=none->∀H',zx H H'->E (.ref NT) none H')
def ziY:Sp:=fun vs H Q _=>∃z:Str,vs=[.str z]/\z.length<=100000/\(∀p,rdP z=some p->∀(r:Addr) (H':Hp),zx H H'->H r=none->H' r=some (.tup [.str p.1,.int p.2])->Q (.ref r) H')/\(rdP z=none->∀H',zx H H'->Q .non H')
theorem zaW(z:Str):rdP z=if zV (Txt.partition z "=").1=true then (rdN (Txt.partition z "=").2.2).map fun n=>((Txt.partition z "=").1,n) else none:=rfl
section
variable {P:Program}{w:World}{K:Frag}{mg:Str->Option Value}{base:Heap}{f NT:Addr}{fd:FuncData}
theorem zi9:zD ["_law_text","_law_letters"] ["_law_text"] (zr zj6):=fsc
theorem zmS:([Str.ofString "_law_sign_here",Str.ofString "_law_letters"]:List Str).Nodup:=by decide +kernel
theorem zmT:([Str.ofString "_law_sign_here"]:List Str).Nodup:=by decide +kernel
theorem zkD(F:Fun K "_law_is_name" "_law_is_name" zj6 f fd)(T:ziH mg):zL P w K mg base CX0 1 f fd ["_law_text"] zdp:=by
 refine F.ok zi9 (fun cdv A outer s H vs Q E hr h=>?_);obtain⟨z,rfl,lz,q⟩:=h;have hU:=hr.units;refine⟨_,zp (zC (i:=1) zi9.nd rfl (Or.inr rfl) zo)
  (zm (zB (qj (xf uj zj (cB yg T.len PySem.boot_len (ac (pv 0) zi)) (zE _)) (qj (xf uj (cB yg T.len PySem.boot_len (ac (pv 0) zi)) zj (zE _))
   (za1 (xf (zgb hU) (xY ["_law_letters"] ["_law_sign_here","_law_letters"] [none,some 1] rfl ⟨rfl,rfl,rfl,rfl⟩ (zaY (pv 0)) (z5 0) rfl rfl rfl
   (fun pins fp s H C=>⟨zF (i:=0) zmS rfl (Or.inl rfl) (.inr rfl),vT (zw uO (pv 0) (pv 1) (by with_unfolding_all rfl)),pv 0⟩)) (zP zi) (zE _))))))),?_⟩
 rw[zgr] at q;refine⟨_,rfl,z,rfl,by rw[sizeLine_eq];omega,_,_,rfl,rfl,_,rfl,?_⟩
 by_cases h1 : 1<=z.length
 rotate_left
 ·rw[decide_eq_false h1,Bool.false_and] at q
  exact dF (show ¬(0:Int)<(z.length:Int) by omega) (q _ (zx.refl _))
 rw[decide_eq_true h1,Bool.true_and] at q;refine dT (show(0:Int)<(z.length:Int) by omega) ?_
 refine⟨_,rfl,z,rfl,by rw[sizeLine_eq];omega,_,_,rfl,rfl,_,rfl,?_⟩
 by_cases h2:z.length<=8
 rotate_left
 ·rw[decide_eq_false h2,Bool.false_and] at q
  exact dF (show ¬(z.length:Int)<9 by omega) (q _ (zx.refl _))
 rw[decide_eq_true h2,Bool.true_and] at q;refine dT (show(z.length:Int)<9 by omega) ?_
 refine⟨_,rfl,z,rfl,fun D hD=>?_⟩;refine zag (fun c=>!low c) z (by omega) hD ?_ ?_
 ·intro c H' C S hc hC hS
  refine⟨_,rfl,_,rfl,_,_,rfl,rfl,_,rfl,?_⟩;rw[show(!(!(Builtin.Str.occurrences (Str.ofString "abcdefghijklmnopqrstuvwxyz") ⟨#[c]⟩ 0 (Str.ofString "abcdefghijklmnopqrstuvwxyz").length 1).isEmpty))=!low c from congrArg (!·) (qt c)];exact⟨fun e=>⟨_,rfl,hC e⟩,hS⟩
 intro H2 s2 hD2;refine⟨vc,fun l hl=>?_⟩;have s3:=zk hl (.lst []);refine⟨D,l,_,rfl,rfl,s3 _ _ hD2,zc,?_⟩;rw[zb6,Bool.false_bne];exact q _ (s2.trans s3)
theorem zfw:zD ["_law_text","_law_figures"] ["_law_text"] (zr zjZ):=fsc
theorem zkv(F:Fun K "_law_read_number" "_law_read_number" zjZ f fd)(T:ziH mg):zL P w K mg base CX0 1 f fd ["_law_text"] zfj:=by
 refine F.ok zfw (fun cdv A outer s H vs Q E hr h=>?_);obtain⟨z,rfl,lz,q⟩:=h;have hU:=hr.units;have hU0:=hr.units0;have bad:¬uP z->∀H',zx H H'->Q .non H':=fun h H' s=>by
  have:=q H' s
  rw[qd h] at this;exact this
 refine⟨_,zp (zC (i:=1) zfw.nd rfl (Or.inl rfl) (pv 0))
  (zp (zJ (zw yi (zR yy (pv 0) ym (zT zj)) zo (zE _)) (zm (zC (i:=1) zfw.nd rfl (Or.inl rfl) (zR yy (pv 0) (zT zj) ym))) zz)
  (zp (zJ (yv (xw (zw yi (pv 1) zo (zE _)) (xw (zw vq (cB yg T.len PySem.boot_len (ac (pv 1) zi)) zj (zE _)) (yV (zw (zf9 hU0) (xY [] ["_law_sign_here"] [none] rfl ⟨rfl,rfl,rfl,rfl⟩ (zaY (pv 1)) (z5 0) rfl rfl rfl
   (fun pins fp s H C=>⟨zF (i:=0) zmT rfl (Or.inl rfl) (.inr rfl),vT (zw uO (pv 0) zo (by with_unfolding_all rfl)),pv 0⟩)) (zP zi) (zE _)))))) (zm (zB y9)) zz)
  (zp (zJ (yv (yW (zw yi (zK wt (pv 1) zj (fun _ _=>rfl)) zo (zE _)) (yD (yv (xw (zw vq (cB yg T.len PySem.boot_len (ac (pv 1) zi)) zj (zE _)) (yV (zw zdK (pv 1) (pv 0) (zE _)))))))) (zm (zB y9)) zz)
  (zm (zB (cTy zav T.int PyProof.Rows.boot_int (ac (pv 0) zi))))))),?_⟩
 refine⟨_,rfl,?_⟩;dsimp only[yc];refine yQ (fun σ' H'=>∃fz:Str,σ'=[some (.str z),some (.str fz)]/\sg fz=xo z/\H'=H) ?_ ?_
 ·rintro σ' H' ⟨fz,rfl,ef,rfl⟩
  have lf:fz.length=(xo z).length:=by rw[zN,ef]
  have lf2:fz.length<=z.length:=by
   rw[lf,zN];unfold xo;split
   ·rw[List.length_tail];omega
   ·exact le_refl _
  refine⟨_,rfl,rfl,_,rfl,?_⟩;by_cases l1:fz=Str.ofString ""
  ·refine dT (by rw[l1]) ?_
   refine yp ?_;exact bad (fun h=>by have:=h.1;rw[<- lf,l1] at this;exact absurd this (by decide)) _ (zx.refl _)
  refine dF (fun e=>l1 (V.str.inj e)) ?_;have l1' : 1<=fz.length:=by
   rw[zN];cases e:sg fz with
   | nil=>exact absurd (xF (a:=fz) (b:=Str.ofString "") e) l1
   | cons a r=>simp
  refine⟨_,rfl,fz,rfl,by rw[sizeLine_eq];omega,_,_,rfl,rfl,_,rfl,?_⟩
  by_cases l2:fz.length<=60
  rotate_left
  ·refine dT (show(fz.length:Int)>60 by omega) ?_
   refine yp ?_;exact bad (fun h=>l2 (by have:=h.2.1;omega)) _ (zx.refl _)
  refine dF (show ¬(fz.length:Int)>60 by omega) ?_
  refine⟨_,rfl,fz,rfl,fun D hD=>?_⟩;refine zag (fun c=>!wv c) fz (by omega) hD ?_ ?_
  ·intro c H' C S hc hC hS
   refine⟨_,rfl,_,_,rfl,rfl,_,rfl,?_⟩;rw[show(!(!(Builtin.Str.occurrences (Str.ofString "0123456789") ⟨#[c]⟩ 0 (Str.ofString "0123456789").length 1).isEmpty))=!wv c from congrArg (!·) (zb7 c)];exact⟨fun e=>⟨_,rfl,hC e⟩,hS⟩
  intro H2 s2 hD2;refine⟨vc,fun l hl=>?_⟩;have s3:=zk hl (.lst []);have s23:=s2.trans s3;refine⟨D,l,_,rfl,rfl,s3 _ _ hD2,zc,_,rfl,?_⟩;rw[zio,ef];generalize upd H2 l (.lst [])=H3 at s23 |-;cases l3:(xo z).all wv with
  | false=>
   refine yp ?_;exact bad (fun h=>by rw[h.2.2.1] at l3;cases l3) _ s23
  | true=>
   refine yb ?_;obtain⟨d,r,ed⟩:∃d r,xo z=d::r:=by
    cases e:xo z with
    | nil=>rw[e] at lf;rw[lf] at l1';exact absurd l1' (by decide)
    | cons d r=>exact⟨d,r,rfl⟩
   have hD':(V.str ⟨#[d]⟩=V.str (Str.ofString "0")) ↔ d=48:=by
    constructor
    ·intro e
     injection e with e
     have:=congrArg sg e
     have:[d]=[48]:=this
     injection this
    ·intro e;rw[e];rfl
   have good:uP z->uf 0 [some (V.str z),some (V.str fz)] H3 (fun x H4=>∃(z':Str) (n:Int),[x]=[.str z']/\PySem.intText? z'=some n/\z'.length<=640/\Q (.int n) H4):=by
    intro h;obtain⟨n,e1,e2,e3⟩:=zbG h
    have:=q H3 s23
    rw[e1] at this;exact⟨_,rfl,z,n,rfl,e2,by omega,this⟩
   refine⟨_,rfl,fz,0,d,rfl,rfl,by rw[sizeLine_eq];omega,by rw[show fz.cps.toList=sg fz from rfl,ef,ed];exact at0 d r,rfl,_,rfl,?_⟩
   by_cases hd:d=48
   ·refine dT (hD'.mpr hd) ?_
    refine⟨_,rfl,fz,rfl,by rw[sizeLine_eq];omega,_,_,rfl,rfl,_,rfl,?_⟩
    have h48:(xo z).head?=some 48:=by rw[ed,hd];rfl
    by_cases l4:fz.length>1
    ·refine dT (show(fz.length:Int)>1 by omega) ?_
     refine yp ?_;refine bad (fun h=>h.2.2.2 ⟨h48,fun e=>?_⟩) _ s23;rw[lf,e] at l4;exact absurd l4 (by decide)
    refine dF (show ¬(fz.length:Int)>1 by omega) ?_
    have e0:fz="0":=zmt.mpr (by
     rw[ef,ed];rw[lf,ed] at l4;simp at l4;rw[l4,hd])
    refine⟨_,rfl,_,rfl,rfl,_,rfl,?_⟩;by_cases hz:fz=z
    ·rw[show decide (V.str fz=V.str z)=true from decide_eq_true (by rw[hz])]
     refine yb ?_;exact good ⟨by omega,by omega,l3,fun h=>h.2 (hz ▸ e0)⟩
    ·rw[show decide (V.str fz=V.str z)=false from decide_eq_false fun e=>hz (V.str.inj e)]
     refine yp ?_;exact bad (fun h=>h.2.2.2 ⟨h48,fun e=>hz (by rw[e0,e])⟩) _ s23
   ·refine dF (fun e=>hd (hD'.mp e)) ?_
    refine yb ?_;exact good ⟨by omega,by omega,l3,fun h=>hd (by rw[ed] at h;simpa using h.1)⟩
 ·intro key
  refine⟨_,rfl,_,rfl,z,rfl,by rw[sizeLine_eq];omega,rfl,_,rfl,?_⟩
  by_cases h:(sg z).head?=some 45
  ·refine dT ((jo rfl).mpr h) ?_
   refine⟨_,rfl,_,rfl,z,rfl,by rw[sizeLine_eq];omega,key _ _ ⟨_,rfl,?_,rfl⟩⟩
   exact j0 (r:=[45]) (zdi h)
  ·refine dF (fun e=>h ((jo rfl).mp e)) ?_
   exact key _ _ ⟨z,rfl,by unfold xo;rw[if_neg h],rfl⟩
theorem zcO{z:Str}(h:zV (Txt.partition z "=").1=false):rdP z=none:=by rw[zaW,h,if_neg zft]
theorem zbE{z:Str}{n:Int}(h:zV (Txt.partition z "=").1=true)(e:rdN (Txt.partition z "=").2.2=some n):rdP z=some ((Txt.partition z "=").1,n):=by rw[zaW,if_pos h,e];rfl
theorem zbF{z:Str}(h:zV (Txt.partition z "=").1=true)(e:rdN (Txt.partition z "=").2.2=none):rdP z=none:=by rw[zaW,if_pos h,e];rfl
def zbe(z y:Str):List Str:=if z="" then [] else Txt.split z y
def vy(z:Str):List Str:=zbe (Txt.slice z (some 1) (some (-1))) " "
def pcs(z:Str):List Str:=zbe z ", "
def ziP:Sp:=fun vs H Q _=>∃(z:Str),vs=[.str z]/\z.length<=100000/\∀(l:Addr) (H':Hp),zx H H'->H l=none->H' l=some (.lst ((vy z).map V.str))->Q (.ref l) H'
def jt(K:Frag)(H:Hp)(x:V):Prop:=∃t,wA K H x t/\kitOne K t (.type "str")=some false
def zaJ(K:Frag)(NT:Addr):Sp:=fun vs H Q E=>∃(x:V),vs=[x]/\((∃z,x=.str z/\z.length<=100000/\∀(l:Addr) (H':Hp),zx H H'->H l=none->H' l=some (.lst ((pcs z).map V.str))->Q (.ref l) H')\/(jt K H x/\E (.ref NT) none H))
def zfk:Sp:=fun vs H Q _=>∃(z:Str),vs=[.str z]/\z.length<=100000/\∀(l:Addr) (H':Hp),zx H H'->H l=none->H' l=some (.lst ((pcs z).map V.str))->Q (.ref l) H'
theorem zdY{z:Str}(h:z≠""): 1<=z.length:=by
 rw[zN];cases e:sg z with
 | nil=>exact absurd (xF (a:=z) (b:="") e) h
 | cons a r=>simp
theorem zaP:zD ["text","name","sign","number"] ["text"] (zr zfC):=fsc
theorem zlB{f1 f2:Addr}{e1 e2:FuncData}(F:Fun K "read_pair" "read_pair" zfC f fd)(pc:jl K mg base "NoText" NT)(c1:z8 P w K mg base 1 "is_name" f1 e1 ["thing"] (zfm K))(c2:yw P w K mg base 1 "read_number" f2 e2 ["text"] (zhf NT)):zL P w K mg base (CXe P w) 2 f fd ["text"] (zjw NT):=by
 refine F.okE zaP (fun vs H Q E h=>?_) (fun cdv A outer s H vs Q E hr h=>?_)
 ·obtain⟨p,rfl,_⟩:=h
  rfl
 obtain⟨z,rfl,lz,q,qn⟩:=h;have hr1:yh 1 _:=hr.mono (by decide)
 obtain⟨la,lb⟩:=zbN z "=";refine⟨_,zp (zaX (z7 PySem.F.plainAttrs_str PySem.F.slot_str_partition PySem.F.type_str_partition zdO (pv 0) (ac zo zi)) (wJ rfl (yo (zF (i:=1) zaP.nd rfl (Or.inl rfl)) (yo (zF (i:=2) zaP.nd rfl (Or.inl rfl)) (yo (zF (i:=3) zaP.nd rfl (Or.inl rfl)) xL)))))
  (zp (zJ (xI (yx (cF c1 hr1 (ac (pv 1) zi)))) (zm (ui pc)) zz)
  (zm (zB (zM (ac (pv 1) (ac (cE c2 (jr fun _ _ _ z=>z) hr1 (ac (pv 3) zi)) zi)))))),?_⟩
 refine⟨_,rfl,rfl,z,"=",rfl,rfl,rfl,by rw[sizeLine_eq];omega,fun r hrn=>?_⟩
 have s1:=zk hrn (.tup [.str (Txt.partition z "=").1,.str (Txt.partition z "=").2.1,.str (Txt.partition z "=").2.2]);refine⟨r,_,rfl,zI zc,rfl,_,_,rfl,_,_,rfl,_,_,rfl,rfl,?_⟩;refine⟨_,rfl,_,rfl,.inl ⟨_,rfl,(by show _<=100000;omega)⟩,fun H2 s2=>⟨_,rfl,?_⟩⟩
 have s12:=s1.trans s2;cases en:zV (Txt.partition z "=").1 with
 | false=>
  rw[show nmV (.str (Txt.partition z "=").1)=false from en];refine yp ?_;exact qn (zcO en) _ s12
 | true=>
  rw[show nmV (.str (Txt.partition z "=").1)=true from en];refine yb ?_;refine⟨_,rfl,_,rfl,_,rfl,by omega,fun n H3 e s3=>?_,fun e H3 s3=>qn (zbF en e) _ (s12.trans s3)⟩
  refine⟨y7,fun r2 hr2=>?_⟩;have s03:=s12.trans s3;exact q _ (zbE en e) r2 _ (s03.trans (zk hr2 _)) (s03.free hr2) zc
theorem zdv:zD ["_law_text","_law_name","_law_sign_here","_law_number"] ["_law_text"] (zr zjY):=fsc
theorem zku{f1 f2:Addr}{e1 e2:FuncData}(F:Fun K "_law_read_pair" "_law_read_pair" zjY f fd)(c1:z8 P w K mg base 1 "_law_is_name" f1 e1 ["_law_text"] zdp)(c2:z8 P w K mg base 1 "_law_read_number" f2 e2 ["_law_text"] zfj):zL P w K mg base CX0 2 f fd ["_law_text"] ziY:=by
 refine F.ok zdv (fun cdv A outer s H vs Q E hr h=>?_);obtain⟨z,rfl,lz,q,qn⟩:=h;have hr1:yh 1 _:=hr.mono (by decide)
 obtain⟨la,lb⟩:=zbN z "=";refine⟨_,zp (zaX (z7 PySem.F.plainAttrs_str PySem.F.slot_str_partition PySem.F.type_str_partition zdO (pv 0) (ac zo zi)) (wJ rfl (yo (zF (i:=1) zdv.nd rfl (Or.inl rfl)) (yo (zF (i:=2) zdv.nd rfl (Or.inl rfl)) (yo (zF (i:=3) zdv.nd rfl (Or.inl rfl)) xL)))))
  (zp (zJ (yv (xw (xI (yx (cF c1 hr1 (ac (pv 1) zi)))) (yV (wI (vC (cF c2 hr1 (ac (pv 3) zi))))))) (zm (zB y9)) zz)
  (zm (zB (zM (ac (pv 1) (ac (cF c2 hr1 (ac (pv 3) zi)) zi)))))),?_⟩
 refine⟨_,rfl,rfl,z,"=",rfl,rfl,rfl,by rw[sizeLine_eq];omega,fun r hrn=>?_⟩
 have s1:=zk hrn (.tup [.str (Txt.partition z "=").1,.str (Txt.partition z "=").2.1,.str (Txt.partition z "=").2.2]);refine⟨r,_,rfl,zI zc,rfl,_,_,rfl,_,_,rfl,_,_,rfl,rfl,?_⟩;refine⟨_,rfl,_,rfl,by omega,fun H2 s2=>⟨_,rfl,?_⟩⟩
 have s12:=s1.trans s2;cases en:zV (Txt.partition z "=").1 with
 | false=>
  refine yp ?_;exact qn (zcO en) _ s12
 | true=>
  refine yb ?_;refine⟨_,rfl,_,rfl,by omega,fun H3 s3=>?_⟩
  cases e:rdN (Txt.partition z "=").2.2 with
  | none=>
   refine⟨_,rfl,?_⟩;refine yp ?_;exact qn (zbF en e) _ (s12.trans s3)
  | some n=>
   refine⟨_,rfl,?_⟩;refine yb ?_;refine⟨_,rfl,_,rfl,_,rfl,by omega,fun H4 s4=>?_⟩
   refine⟨y7,fun r2 hr2=>?_⟩;have s04:=s12.trans (s3.trans s4);rw[e];exact q _ (zbE en e) r2 _ (s04.trans (zk hr2 _)) (s04.free hr2) zc
theorem zi5:zD ["text","inner"] ["text"] (zr sWW):=fsc
theorem zkj(F:Fun K "words_within" "words_within" sWW f fd):zL P w K mg base CX0 1 f fd ["text"] ziP:=by
 refine F.ok zi5 (fun cdv A outer s H vs Q E hr h=>?_);obtain⟨z,rfl,lz,q⟩:=h;refine⟨_,zp (zC (i:=1) zi5.nd rfl (Or.inl rfl) (zR yy (pv 0) (zT zj) (zT (qh ur zj))))
  (zm (zB (xQ (qg (pv 1) (fun _=>rfl)) (z7 PySem.F.plainAttrs_str PySem.F.slot_str_split PySem.F.type_str_split wW (pv 1) (ac zo zi)) (zP zi)))),?_⟩
 refine⟨_,rfl,_,rfl,_,rfl,_,rfl,z,rfl,by rw[sizeLine_eq];omega,?_⟩
 dsimp only[yc];have li:=slice_le z (some 1) (some (-1));unfold vy zbe at q;rw[show Txt.slice z (some 1) (some (-1))=Txt.slice z (some 1) (some (-1)) from rfl];show zee _ _ ([some (V.str z),some (V.str (Txt.slice z (some 1) (some (-1))))]) _;generalize Txt.slice z (some 1) (some (-1))=i at li q |-;refine⟨_,rfl,_,⟨by rw[sizeLine_eq];omega,rfl⟩,?_⟩
 by_cases e:i=""
 ·subst e
  refine yb ?_;exact⟨vc,fun l hl=>q l _ (zk hl _) hl zc⟩
 ·rw[if_neg e] at q
  have:=zdY e
  have so:=xO i " ";refine wY (by simp;omega) ?_
  refine⟨_,rfl,rfl,i," ",rfl,rfl,rfl,by rw[sizeLine_eq];omega,by have:=so.line;rw[sizeLine_eq];omega,fun l hl=>?_⟩
  exact q l _ (zk hl _) hl zc
theorem zjE:zD ["text"] ["text"] (zr zjP):=fsc
theorem zhU(F:Fun K "pieces" "pieces" zjP f fd)(T:ziI K mg)(pc:jl K mg base "NoText" NT):zL P w K mg base (CXe P w) 1 f fd ["text"] (zaJ K NT):=by
 refine F.okE zjE (fun vs H Q E h=>?_) (fun cdv A outer s H vs Q E hr h=>?_)
 ·obtain⟨x,rfl,_⟩:=h
  rfl
 obtain⟨x,rfl,h⟩:=h;refine⟨_,zp (zJ (xI (yx (cB jw T.isi boot_isinstance (ac (pv 0) (ac (za3 (v:=.ty "str") rfl T.str PyProof.Rows.boot_str rfl) zi))))) (zm (ui pc)) zz)
  (zm (zB (xQ (qg (pv 0) (fun _=>rfl)) (z7 PySem.F.plainAttrs_str PySem.F.slot_str_split PySem.F.type_str_split wW (pv 0) (ac zo zi)) (zP zi)))),?_⟩
 rcases h with ⟨z,rfl,lz,q⟩|⟨⟨t,ty,k⟩,q⟩
 ·refine⟨_,rfl,_,_,_,_,rfl,.str _,T.kStr,_,rfl,?_⟩
  refine yb ?_;refine⟨_,rfl,_,⟨by rw[sizeLine_eq];omega,rfl⟩,?_⟩
  unfold pcs zbe at q;by_cases e:z=""
  ·subst e
   refine yb ?_;exact⟨vc,fun l hl=>q l _ (zk hl _) hl zc⟩
  ·rw[if_neg e] at q
   have:=zdY e
   have so:=xO z ", ";refine wY (by simp;omega) ?_
   refine⟨_,rfl,rfl,z,", ",rfl,rfl,rfl,by rw[sizeLine_eq];omega,by have:=so.line;rw[sizeLine_eq];omega,fun l hl=>?_⟩
   exact q l _ (zk hl _) hl zc
 ·refine⟨_,rfl,_,_,_,_,rfl,ty,k,_,rfl,?_⟩
  exact yp q
theorem zlk:zD ["_law_text"] ["_law_text"] (zr zj0):=fsc
theorem zkx(F:Fun K "_law_parts" "_law_parts" zj0 f fd):zL P w K mg base CX0 1 f fd ["_law_text"] zfk:=by
 refine F.ok zlk (fun cdv A outer s H vs Q E hr h=>?_);obtain⟨z,rfl,lz,q⟩:=h;refine⟨_,zp (zJ (zw yi (pv 0) zo (zE _)) (zm (zB (zP zi))) zz)
  (zm (zB (z7 PySem.F.plainAttrs_str PySem.F.slot_str_split PySem.F.type_str_split wW (pv 0) (ac zo zi)))),?_⟩
 refine⟨_,rfl,rfl,_,rfl,?_⟩;unfold pcs zbe at q;by_cases e:z=""
 ·subst e
  refine dT rfl ?_;exact⟨vc,fun l hl=>q l _ (zk hl _) hl zc⟩
 ·rw[if_neg e] at q
  have so:=xO z ", ";refine dF (fun h=>e (V.str.inj h)) ?_;refine⟨_,rfl,rfl,z,", ",rfl,rfl,rfl,by rw[sizeLine_eq];omega,by have:=so.line;rw[sizeLine_eq];omega,fun l hl=>?_⟩
  exact q l _ (zk hl _) hl zc
end
end K92
namespace L2
open PySem PySem.Spec PyProof.Rows
section
variable {X:Cx}{pins:PnL}{σ:St}{H:Hp}{s:Shared}
def zg6(K:Frag)(H:Hp)(y:V):Prop:=vK y=true\/∃a ys,y=.ref a/\SqT K H a ys
def zmF(K:Frag):R2:=fun x y H Q=>∃p xs,x=.non/\y=.ref p/\SqL K H p xs/\(∀y∈xs,zg6 K H y)/\Q (.bl (inV .non xs)) H
theorem zdQ{A:Around}(hu:A.units<cLine)(I:Inv X pins σ H s):∀{xs:List V}{us:List Value},zY xs us->(∀y∈xs,zg6 X.K H y)->(∀u∈us,SeqAt.EqAt A s u .none (eqU .non u))/\us.any (eqU .non)=xs.any fun y=>eqV y .non
 | _,_,.nil,_=>⟨fun u hu=>(by cases hu),rfl⟩
 | y::xs,u::us,.cons r t,f=>by
  obtain⟨i1,i2⟩:=zdQ hu I t fun y hy=>f y (mem_cons_of_mem _ hy);have key:SeqAt.EqAt A s u .none (eqU .non u)/\eqU .non u=eqV y .non:=by
   rcases f y mem_cons_self with fl|⟨a,ys,rfl,ha⟩
   ·rw[zc9 r fl]
    exact⟨zgK r (x:=.non) rfl fl rfl,rfl⟩
   ·cases r
    obtain⟨its,r',pl,_⟩:=I.tuple ha;exact⟨.tuple_none pl hu,rfl⟩
  refine⟨fun u' h'=>?_,?_⟩
  ·rcases List.mem_cons.mp h' with rfl|h'
   ·exact key.1
   ·exact i1 u' h'
  ·rw[any_cons,any_cons,key.2,i2]
theorem zga(hu:X.A.units+64<cLine):OpR X (compareOp .In) (zmF X.K):=by
 intro pins s σ H x y v u Q I rx ry h;obtain⟨p,xs,rfl,rfl,hp,hs,q⟩:=h;cases ry;cases rx;obtain⟨its,r,pl,hz⟩:=I.list hp;have hu2:X.A.in1.units<cLine:=by show X.A.units+1<cLine;omega
 obtain⟨k1,k2⟩:=zdQ hu2 I r hs;refine SeqAt.in_listAt (eqU .non) pl.isList (fun w hw=>k1 w (by simpa using hw)) ⟨.bl _,H,I,rfl,?_⟩
 rw[show its.toArray.any (eqU .non)=its.any (eqU .non) by simp,k2]
 exact q
end
end L2
namespace K92
open PySem L2 PyProof.Rows
def xa{α β : Type}(f : α->Option β):List α->Option (List β)
 | []=>some []
 | a::r=>match f a with
  | none=>none
  | some b=>(xa f r).map (b::·)
theorem zaB{α β : Type}{f : α->Option β}{a : α}:∀{l:List α},xa f (l++[a])=match xa f l with|none=>none|some bs=>(f a).map fun b=>bs++[b]
 | []=>by
  show(match f a with|none=>none|some b=>(xa f []).map (b::·))=_
  cases f a <;> rfl
 | x::r=>by
  show(match f x with|none=>none|some b=>(xa f (r++[a])).map (b::·))=match (match f x with|none=>none|some b=>(xa f r).map (b::·)) with|none=>none|some bs=>(f a).map fun b=>bs++[b]
  cases f x with
  | none=>rfl
  | some b=>
   rw[zaB (l:=r)];show Option.map (b::·) (match xa f r with|none=>none|some bs=>(f a).map fun b=>bs++[b])=match Option.map (b::·) (xa f r) with|none=>none|some bs=>(f a).map fun b=>bs++[b]
   cases xa f r with
   | none=>rfl
   | some bs=>show Option.map (b::·) ((f a).map fun b=>bs++[b])=(f a).map fun b'=>(b::bs)++[b'];cases f a <;> rfl
theorem zaC{α β : Type}{f : α->Option β}{a : α}(h:f a=none):∀{l:List α},a∈l->xa f l=none
 | x::r,hm=>by
  show(match f x with|none=>none|some b=>(xa f r).map (b::·))=none
  rcases List.mem_cons.mp hm with rfl|hm
  ·rw[h]
  ·rw[zaC h hm];cases f x <;> rfl
theorem zcp{α β : Type}{f : α->Option β}:∀{l:List α}{bs:List β},xa f l=some bs->bs.length=l.length
 | [],bs,h=>by cases h;rfl
 | x::r,bs,h=>by
  have h:(match f x with|none=>none|some b=>(xa f r).map (b::·))=some bs:=h
  cases e:f x with
  | none=>rw[e] at h;cases h
  | some b=>
   rw[e] at h;cases e2:xa f r with
   | none=>rw[e2] at h;cases h
   | some cs=>rw[e2] at h;cases h;simp [zcp e2]
theorem zc0{β : Type}{K:Frag}{a:Addr}{caps:List (Option Nat)}{g:TG}{tt:TT}{te:TE}{σ : L2.St}{H1:Hp}{Q:VK}{D:Addr}(ws:List Str)(f:Str->Option β)(Out:Hp->V->β->Prop)(Xn:Hp->Prop)
  (st1:∀{H H' v t},zx H H'->Out H v t->Out H' v t) (st2:∀{H v t ys ys'},H D=some (.lst ys)->Out H v t->Out (upd H D (.lst ys')) v t) (hD:H1 D=none) (hn:ws.length<=200000)
  (hS:SqL K H1 a (ws.map V.str))
  (hs:∀w H' (C:VK) (S:Hp->Prop),zx H1 H'->w∈ws->H' D≠none->(∀b v H4,f w=some b->zx H' H4->Out H4 v b->C v H4)->(f w=none->∀H4,zx H' H4->Xn H4)->g (.str w) (xk caps σ) H' fun σ2 H2=>tt σ2 H2 fun ok H3=>(ok=true->te σ2 H3 C)/\(ok=false->S H3))
  (hx:xa f ws=none->∀H',zx H1 H'->Xn H')
  (hd:∀bs vs H',xa f ws=some bs->zx H1 H'->H' D=some (.lst vs)->Paired (Out H') vs bs->Q (.ref D) H'):LCr (Itl K a) caps g tt te σ H1 Q D:=by
 refine wF (K:=K) (xs:=ws.map V.str) (fun i ys H'=>∃bs,xa f (ws.take i)=some bs/\Paired (Out H') ys bs/\zx H1 H'/\H' D=some (.lst ys)) ⟨[],rfl,.nil,zk hD _,zc⟩ (fun i ys H' ⟨_,_,_,sH,_⟩=>sH.seq hS) ?_ ?_
 ·rintro i x ys H' hi hx' ⟨bs,eb,hy,sH,hDy⟩
  rw[getElem?_map] at hx';cases ew:ws[i]? with
  | none=>rw[ew] at hx';cases hx'
  | some w=>
   rw[ew] at hx';cases hx';have hm:=mem_of_getElem? ew;refine hs w H' _ _ sH hm (by rw[hDy];intro z;cases z) (fun b v H4 e s4 ho=>?_) fun e H4 s4=>hx (zaC e hm) H4 (sH.trans s4)
   rw[length_map] at hi |-;refine lcN.mk hi (by rw[sizeLine_eq];omega) (s4 _ _ hDy) (by rw[hy.length,zcp eb,length_take];omega) ⟨bs++[b],?_,?_,zU (sH.trans s4) hD _,zc⟩
   ·rw[xr ew,zaB,eb]
    show(f w).map _=_;rw[e];rfl
   ·exact xu (zH (fun _ _ z=>st2 (s4 _ _ hDy) (st1 s4 z)) hy) (.cons (st2 (s4 _ _ hDy) ho) .nil)
 ·rintro ys H' ⟨bs,eb,hy,sH,hDy⟩
  rw[length_map,take_length] at eb;exact hd bs ys H' eb sH hDy hy
def brk(z:Str)(a b:Nat):Bool:=decide ((sg z).head?=some a)&&decide ((sg z).getLast?=some b)
def rdI(z:Str):Option yU:=
 if brk z 91 93=true then (xa rdN (vy z)).map .row
 else if brk z 123 125=true then (xa rdP (vy z)).map .book
 else if 61∈sg z then (rdP z).map fun p=>.named p.1 p.2
 else (rdN z).map .one
theorem qE{z y:Str}{c:Nat}(hy:sg y=[c]):Txt.endswith z y=decide ((sg z).getLast?=some c):=by
 by_cases h:sg z=[]
 ·have hz:z="":=xF h
  have l1:y.length=1:=by rw[zN,hy];rfl
  rw[h];unfold Txt.endswith;rw[show decide (0+y.length<=z.length)=false by rw[l1,zN,h];rfl,Bool.false_and]
  rfl
 ·obtain⟨r,d,e⟩:∃r d,sg z=r++[d]:=⟨_,_,(List.dropLast_concat_getLast h).symm⟩
  rw[zgM hy e,e];simp
theorem zd3{z y:Str}(hy : 1<=y.length)(h:z.length<=100000):(zbe z y).length<=100001/\∀w∈zbe z y,w.length<=100000:=by
 unfold zbe;split
 ·exact⟨by simp,fun w hw=>by cases hw⟩
 ·have so:=xO z y
  refine⟨?_,fun w hw=>le_trans (so.each w hw) h⟩
  have:=so.many
  have:((Txt.split z y).length - 1) * 1<=((Txt.split z y).length - 1) * y.length:=Nat.mul_le_mul_left _ hy
  omega
theorem zbl{z:Str}(h:z.length<=100000):(vy z).length<=100001/\∀w∈vy z,w.length<=100000:=zd3 (by decide) (le_trans (slice_le _ _ _) h)
theorem jM{z:Str}(h:z.length<=100000):(pcs z).length<=100001/\∀w∈pcs z,w.length<=100000:=zd3 (by decide) h
def zjx(K:Frag)(NT:Addr):Sp:=fun vs H Q E=>∃z:Str,vs=[.str z]/\z.length<=100000/\(∀it,rdI z=some it->∀(x:V) (H':Hp),zx H H'->zmf K H H' x it->Q x H')/\(rdI z=none->∀H',zx H H'->E (.ref NT) none H')
section
variable {P:Program}{w:World}{K:Frag}{mg:Str->Option Value}{base:Heap}{f NT:Addr}{fd:FuncData}
theorem zcy:zD ["text","name","thing"] ["text"] (zr zjK):=fsc
theorem zlE{f1 f2 f3:Addr}{e1 e2 e3:FuncData}(F:Fun K "read_item" "read_item" zjK f fd)(c1:z8 P w K mg base 1 "words_within" f1 e1 ["text"] ziP)(c2:yw P w K mg base 1 "read_number" f2 e2 ["text"] (zhf NT))(c3:yw P w K mg base 2 "read_pair" f3 e3 ["text"] (zjw NT)):
  zL P w K mg base (CXe P w) 3 f fd ["text"] (zjx K NT):=by
 refine F.okE zcy (fun vs H Q E h=>?_) (fun cdv A outer s H vs Q E hr h=>?_)
 ·obtain⟨it,rfl,_⟩:=h
  rfl
 obtain⟨z,rfl,lz,q,qn⟩:=h;have hr1:yh 1 _:=hr.mono (by decide)
 have hr2:yh 2 _:=hr.mono (by decide)
 obtain⟨wl,ww⟩:=zbl lz;refine⟨_,zp (zJ (yv (yW (yx (z7 PySem.F.plainAttrs_str PySem.F.slot_str_startswith PySem.F.type_str_startswith vX (pv 0) (ac zo zi))) (yD (yx (z7 PySem.F.plainAttrs_str PySem.F.slot_str_endswith PySem.F.type_str_endswith za5 (pv 0) (ac zo zi))))))
   (zm (zB (zM (ac zo (ac (zf3 (EK:=E) [] ["word"] [none] rfl ⟨rfl,rfl,rfl,rfl⟩ (ye (cF c1 hr1 (ac (pv 0) zi))) (z5 0) rfl rfl rfl rfl rfl (zdG fun _ _ _ z=>z)
    (fun pins fp s H C xe hp=>⟨zF (i:=0) zlI rfl (Or.inl rfl) (.inr rfl),yA,cE c2 hp hr1 (ac (pv 0) zi)⟩)) zi))))) zz)
  (zp (zJ (yv (yW (yx (z7 PySem.F.plainAttrs_str PySem.F.slot_str_startswith PySem.F.type_str_startswith vX (pv 0) (ac zo zi))) (yD (yx (z7 PySem.F.plainAttrs_str PySem.F.slot_str_endswith PySem.F.type_str_endswith za5 (pv 0) (ac zo zi))))))
   (zm (zB (zM (ac zo (ac (zf3 (EK:=E) [] ["word"] [none] rfl ⟨rfl,rfl,rfl,rfl⟩ (ye (cF c1 hr1 (ac (pv 0) zi))) (z5 0) rfl rfl rfl rfl rfl (zdG fun _ _ _ z=>z)
    (fun pins fp s H C xe hp=>⟨zF (i:=0) zlI rfl (Or.inl rfl) (.inr rfl),yA,cE c3 hp hr2 (ac (pv 0) zi)⟩)) zi))))) zz)
  (zp (zJ (zw vV zo (pv 0) (by with_unfolding_all rfl)) (zp (zaX (cE c3 (jr fun _ _ _ z=>z) hr2 (ac (pv 0) zi)) (wJ rfl (yo (zF (i:=1) zcy.nd rfl (Or.inl rfl)) (yo (zF (i:=2) zcy.nd rfl (Or.inl rfl)) xL))))
   (zm (zB (zM (ac zo (ac (pv 1) (ac (pv 2) zi))))))) zz)
  (zm (zB (zM (ac zo (ac (cE c2 (jr fun _ _ _ z=>z) hr1 (ac (pv 0) zi)) zi))))))),?_⟩
 refine yQ (fun σ' H'=>σ'=[some (.str z),none,none]/\H=H'/\brk z 91 93=false) ?_ (fun key=>?_);rotate_left
 ·refine⟨_,rfl,rfl,z,_,rfl,rfl,_,rfl,?_⟩
  rw[w9 (c:=91) rfl];by_cases h1:(sg z).head?=some 91
  rotate_left
  ·refine vt (decide_eq_false h1) (yb ?_)
   exact key _ _ ⟨rfl,rfl,by unfold brk;rw[decide_eq_false h1,Bool.false_and]⟩
  refine wY (decide_eq_true h1) ?_;refine⟨_,rfl,rfl,z,_,rfl,rfl,_,rfl,?_⟩;rw[qE (c:=93) rfl];by_cases h2:(sg z).getLast?=some 93
  rotate_left
  ·refine vt (decide_eq_false h2) ?_
   exact key _ _ ⟨rfl,rfl,by unfold brk;rw[decide_eq_false h2,Bool.and_false]⟩
  refine wY (decide_eq_true h2) ?_;have eI:rdI z=(xa rdN (vy z)).map .row:=by unfold rdI brk;rw[decide_eq_true h1,decide_eq_true h2];rfl
  rw[eI] at q qn;refine⟨_,rfl,z,rfl,lz,fun l H2 s2 hl0 hl=>?_⟩;refine⟨l,rfl,⟨_,zq hl⟩,fun D hD=>?_⟩;refine zc0 (vy z) rdN (fun _ v n=>v=.int n) (fun H'=>E (.ref NT) none H') (fun _ e=>e) (fun _ e=>e) hD (by omega) (zq hl) ?_ (fun e H' s'=>qn (by rw[e];rfl) H' (s2.trans s')) ?_
  ·intro w H' C S sH hw _ hC hn
   exact⟨fun _=>⟨_,rfl,w,rfl,ww w hw,fun n H4 e s4=>hC n _ H4 e s4 rfl,hn⟩,fun z=>absurd z (by decide)⟩
  intro ns vs H3 e s3 hD3 hv;obtain rfl:vs=ns.map V.int:=by
   clear e hD3;induction hv with
   | nil=>rfl
   | cons a _ ih=>rw[a,ih];rfl
  refine⟨y7,fun r hrn=>?_⟩;exact q (.row ns) (by rw[e];rfl) _ _ ((s2.trans s3).trans (zk hrn _)) (.tup (zI zc) (.cons .str (.cons (.lst (s2.free hD) ((zk hrn _) _ _ hD3) (vZ _)) .nil)))
 rintro σ' H' ⟨rfl,rfl,b1⟩;refine yQ (fun σ' H'=>σ'=[some (.str z),none,none]/\H=H'/\brk z 123 125=false) ?_ (fun key=>?_);rotate_left
 ·refine⟨_,rfl,rfl,z,_,rfl,rfl,_,rfl,?_⟩
  rw[w9 (c:=123) rfl];by_cases h1:(sg z).head?=some 123
  rotate_left
  ·refine vt (decide_eq_false h1) (yb ?_)
   exact key _ _ ⟨rfl,rfl,by unfold brk;rw[decide_eq_false h1,Bool.false_and]⟩
  refine wY (decide_eq_true h1) ?_;refine⟨_,rfl,rfl,z,_,rfl,rfl,_,rfl,?_⟩;rw[qE (c:=125) rfl];by_cases h2:(sg z).getLast?=some 125
  rotate_left
  ·refine vt (decide_eq_false h2) ?_
   exact key _ _ ⟨rfl,rfl,by unfold brk;rw[decide_eq_false h2,Bool.and_false]⟩
  refine wY (decide_eq_true h2) ?_;have eI:rdI z=(xa rdP (vy z)).map .book:=by
   unfold rdI;rw[b1,if_neg zft];unfold brk;rw[decide_eq_true h1,decide_eq_true h2];rfl
  rw[eI] at q qn;refine⟨_,rfl,z,rfl,lz,fun l H2 s2 hl0 hl=>?_⟩;refine⟨l,rfl,⟨_,zq hl⟩,fun D hD=>?_⟩;refine zc0 (vy z) rdP (fun H v (p:Str×Int)=>∃b,v=.ref b/\H b=some (.tup [.str p.1,.int p.2])) (fun H'=>E (.ref NT) none H') (fun s ⟨b,e,h⟩=>⟨b,e,s _ _ h⟩)
   (fun hl ⟨b,e,h⟩=>⟨b,e,by rw[zv (fun z=>by rw[z,hl] at h;cases h)];exact h⟩) hD (by omega) (zq hl) ?_ (fun e H' s'=>qn (by rw[e];rfl) H' (s2.trans s')) ?_
  ·intro w H' C S sH hw _ hC hn
   exact⟨fun _=>⟨_,rfl,w,rfl,ww w hw,fun p e r H4 s4 _ hr4=>hC p _ H4 e s4 ⟨r,rfl,hr4⟩,hn⟩,fun z=>absurd z (by decide)⟩
  intro ps vs H3 e s3 hD3 hvs;refine⟨y7,fun r hrn=>?_⟩;refine q (.book ps) (by rw[e];rfl) _ _ ((s2.trans s3).trans (zk hrn _)) (.tup (zI zc) (.cons .str (.cons (.lst (s2.free hD) ((zk hrn _) _ _ hD3) ?_) .nil)))
  exact uy (zH (fun _ _ ⟨b,e,h⟩=>⟨b,e,(zk hrn _) _ _ h⟩) hvs)
 rintro σ' H' ⟨rfl,rfl,b2⟩;have eI:rdI z=if 61∈sg z then (rdP z).map fun p=>.named p.1 p.2 else (rdN z).map .one:=by unfold rdI;rw[b1,if_neg zft,b2,if_neg zft]
 rw[eI] at q qn;refine⟨_,rfl,_,_,rfl,rfl,_,rfl,?_⟩;rw[zjh z];by_cases h : 61∈sg z
 ·rw[if_pos h] at q qn
  refine wY (decide_eq_true h) ?_;refine⟨_,rfl,z,rfl,lz,fun p e r H2 s2 hrn hr2'=>?_,fun e H2 s2=>qn (by rw[e];rfl) _ s2⟩
  refine⟨r,_,rfl,zI hr2',rfl,_,_,rfl,_,_,rfl,rfl,?_⟩;refine⟨_,rfl,_,rfl,zbu,fun r2 hr2n=>?_⟩;exact q (.named p.1 p.2) (by rw[e];rfl) _ _ (s2.trans (zk hr2n _)) (.tup (zI zc) (.cons .str (.cons .str (.cons .int .nil))))
 ·rw[if_neg h] at q qn
  refine vt (decide_eq_false h) ?_;refine⟨_,rfl,z,rfl,lz,fun n H2 e s2=>⟨y7,fun r hrn=>?_⟩,fun e H2 s2=>qn (by rw[e];rfl) _ s2⟩
  exact q (.one n) (by rw[e];rfl) _ _ (s2.trans (zk hrn _)) (.tup (zI zc) (.cons .str (.cons .int .nil)))
def x8:yU->Nat
 | .row ts=>ts.length
 | .book ps=>ps.length
 | _=>1
def ja(z:Str):Option yU:=(rdI z).bind fun it=>if x8 it<=30 then some it else none
theorem zd7{z:Str}{c:Nat}(h:(sg z).head?=some c)(h1:c≠45)(h2:wv c=false):rdN z=none:=by
 refine qd fun n=>?_;have ef:xo z=sg z:=by unfold xo;rw[if_neg (by rw[h];simpa using h1)]
 have:=List.all_eq_true.mp n.2.2.1 c (by rw[ef];exact List.mem_of_mem_head? h)
 rw[h2] at this;cases this
theorem zco{z:Str}{c:Nat}(h:(sg z).head?=some c)(h1:c≠61)(h2:low c=false):rdP z=none:=by
 refine zcO ?_
 have:=zeq (y:="=") (d:=61) rfl h h1
 cases e:zV (Txt.partition z "=").1 with
 | false=>rfl
 | true=>
  have:=zdN e c (List.mem_of_mem_head? this)
  unfold low at h2;rw[decide_eq_true this.1,decide_eq_true this.2] at h2;cases h2
theorem vM{z:Str}{a b:Nat}(h:(sg z).head?≠some a):brk z a b=false:=by unfold brk;rw[decide_eq_false h,Bool.false_and]
theorem uW{z:Str}{a b:Nat}(h:(sg z).getLast?≠some b):brk z a b=false:=by unfold brk;rw[decide_eq_false h,Bool.and_false]
theorem zd5{z:Str}{a b:Nat}(h:(sg z).head?=some a)(h2:(sg z).getLast?=some b):brk z a b=true:=by unfold brk;rw[decide_eq_true h,decide_eq_true h2];rfl
theorem zhy{z:Str}(h:(sg z).head?=some 91)(h2:(sg z).getLast?=some 93):rdI z=(xa rdN (vy z)).map .row:=by unfold rdI;rw[zd5 h h2,if_pos rfl]
theorem zfT{z:Str}(h:(sg z).head?=some 123)(h2:(sg z).getLast?=some 125):rdI z=(xa rdP (vy z)).map .book:=by unfold rdI;rw[vM (by rw[h];decide),if_neg zft,zd5 h h2,if_pos rfl]
theorem qe{z:Str}{c:Nat}(h:(sg z).head?=some c)(hc:c=91\/c=123)(h2:brk z 91 93=false)(h3:brk z 123 125=false):rdI z=none:=by
 unfold rdI;rw[h2,if_neg zft,h3,if_neg zft];rcases hc with rfl|rfl
 ·rw[zco h (by decide) (by decide),zd7 h (by decide) (by decide)];split <;> rfl
 ·rw[zco h (by decide) (by decide),zd7 h (by decide) (by decide)];split <;> rfl
theorem zem{z:Str}(h:(sg z).head?≠some 91)(h2:(sg z).head?≠some 123):rdI z=if 61∈sg z then (rdP z).map fun p=>.named p.1 p.2 else (rdN z).map .one:=by unfold rdI;rw[vM h,if_neg zft,vM h2,if_neg zft]
def ziZ(K:Frag):Sp:=fun vs H Q _=>∃z:Str,vs=[.str z]/\z.length<=100000/\(∀it,ja z=some it->∀(x:V) (H':Hp),zx H H'->zmf K H H' x it->Q x H')/\(ja z=none->∀H',zx H H'->Q .non H')
theorem qu{β : Type}{K:Frag}{a:Addr}{caps:List (Option Nat)}{g:TG}{tt:TT}{te:TE}{σ : L2.St}{H1:Hp}{Q:VK}{D:Addr}(ws:List Str)(f:Str->Option β)(Out:Hp->V->β->Prop)
  (st1:∀{H H' v t},zx H H'->Out H v t->Out H' v t) (st2:∀{H v t ys ys'},H D=some (.lst ys)->Out H v t->Out (upd H D (.lst ys')) v t) (hD:H1 D=none) (hn:ws.length<=200000)
  (hS:SqL K H1 a (ws.map V.str))
  (hs:∀w H' (C:VK) (S:Hp->Prop),zx H1 H'->w∈ws->H' D≠none->(∀b v H4,f w=some b->zx H' H4->Out H4 v b->C v H4)->(f w=none->∀H4,zx H' H4->C .non H4)->g (.str w) (xk caps σ) H' fun σ2 H2=>tt σ2 H2 fun ok H3=>(ok=true->te σ2 H3 C)/\(ok=false->S H3))
  (hd:∀vs H',zx H1 H'->H' D=some (.lst vs)->Paired (fun v w=>(f w=none/\v=.non)\/∃b,f w=some b/\Out H' v b) vs ws->Q (.ref D) H'):LCr (Itl K a) caps g tt te σ H1 Q D:=by
 refine wF (K:=K) (xs:=ws.map V.str) (fun i ys H'=>Paired (fun v w=>(f w=none/\v=.non)\/∃b,f w=some b/\Out H' v b) ys (ws.take i)/\zx H1 H'/\H' D=some (.lst ys)) ⟨.nil,zk hD _,zc⟩ (fun i ys H' ⟨_,sH,_⟩=>sH.seq hS) ?_ ?_
 ·rintro i x ys H' hi hx' ⟨hy,sH,hDy⟩
  rw[getElem?_map] at hx';cases ew:ws[i]? with
  | none=>rw[ew] at hx';cases hx'
  | some w=>
   rw[ew] at hx';cases hx';rw[length_map] at hi;have mv:∀{H4:Hp}{v:V},zx H' H4->(∀ys':List V,(f w=none/\v=.non)\/∃b,f w=some b/\Out (upd H4 D (.lst ys')) v b)->lcN (ws.map V.str).length i D (fun i ys H'=>Paired (fun v w=>(f w=none/\v=.non)\/∃b,f w=some b/\Out H' v b) ys (ws.take i)/\zx H1 H'/\H' D=some (.lst ys)) ys v H4:=fun {H4 v} s4 ho=>by
    refine lcN.mk (by rw[length_map];exact hi) (by rw[length_map,sizeLine_eq];omega) (s4 _ _ hDy) (by rw[hy.length,length_take];omega) ⟨?_,zU (sH.trans s4) hD _,zc⟩
    rw[xr ew];refine xu (zH (fun _ _ z=>?_) hy) (.cons (ho _) .nil);rcases z with z|⟨b,e,z⟩
    ·exact .inl z
    ·exact .inr ⟨b,e,st2 (s4 _ _ hDy) (st1 s4 z)⟩
   exact hs w H' _ _ sH (mem_of_getElem? ew) (by rw[hDy];intro z;cases z) (fun b v H4 e s4 ho=>mv s4 fun _=>.inr ⟨b,e,st2 (s4 _ _ hDy) ho⟩) fun e H4 s4=>mv s4 fun _=>.inl ⟨e,rfl⟩
 ·rintro ys H' ⟨hy,sH,hDy⟩
  rw[length_map,take_length] at hy;exact hd ys H' sH hDy hy
theorem vY{β : Type}{f:Str->Option β}{Out:V->β->Prop}(hno:∀{v b},Out v b->v≠.non):∀{vs:List V}{ws:List Str},Paired (fun v w=>(f w=none/\v=.non)\/∃b,f w=some b/\Out v b) vs ws->
  (inV .non vs=true/\xa f ws=none)\/∃bs,inV .non vs=false/\xa f ws=some bs/\Paired Out vs bs
 | _,_,.nil=>.inr ⟨[],rfl,rfl,.nil⟩
 | v::vs,w::ws,.cons h t=>by
  have ih:=vY hno t;have ea:xa f (w::ws)=match f w with|none=>none|some b=>(xa f ws).map (b::·):=rfl
  have ev:inV .non (v::vs)=(eqV v .non||inV .non vs):=rfl
  rcases h with ⟨e,rfl⟩|⟨b,e,o⟩
  ·exact .inl ⟨rfl,by rw[ea,e]⟩
  ·have hv:eqV v .non=false:=by
    have:=hno o
    cases v <;> first|rfl|exact absurd rfl this
   rw[ev,hv,Bool.false_or,ea,e];rcases ih with ⟨i1,i2⟩|⟨bs,i1,i2,i3⟩
   ·exact .inl ⟨i1,by rw[i2];rfl⟩
   ·exact .inr ⟨b::bs,i1,by rw[i2];rfl,.cons o i3⟩
def brL:List (Key×V):=[(.inr "[",.str "]"),(.inr "{",.str "}")]
theorem jU{z:Str}{c:Nat}(h:(sg z).head?=some c):atI z.cps.toList 0=some c:=by
 show atI (sg z) 0=_;cases e:sg z with
 | nil=>rw[e] at h;cases h
 | cons a r=>rw[e] at h;simp at h;rw[h];exact at0 c r
theorem ziD{z:Str}{d:Nat}(h:(sg z).getLast?=some d):atI z.cps.toList (-1)=some d:=by
 show atI (sg z) (-1)=_;cases e:sg z with
 | nil=>rw[e] at h;cases h
 | cons a r=>
  rw[e] at h;have hn:(a::r)≠[]:=cons_ne_nil _ _;rw[List.getLast?_eq_some_getLast hn] at h
  have:=zgZ (a::r).dropLast ((a::r).getLast hn)
  rw[List.dropLast_concat_getLast hn] at this;rw[this,h]
theorem zh9{z:Str}{c:Nat}(h:(sg z).head?=some c):∃d,(sg z).getLast?=some d:=by
 cases e:sg z with
 | nil=>rw[e] at h;cases h
 | cons a r=>exact⟨_,List.getLast?_eq_some_getLast (cons_ne_nil _ _)⟩
theorem xR{c d:Nat}:(V.str ⟨#[c]⟩=V.str ⟨#[d]⟩) ↔ c=d:=by
 constructor
 ·intro e
  injection e with e
  have:=congrArg sg e
  have:[c]=[d]:=this
  injection this
 ·intro e;rw[e]
theorem wf{z:Str}(h:rdI z=none):ja z=none:=by unfold ja;rw[h];rfl
theorem u9{z:Str}{it:yU}(h:rdI z=some it)(hl:x8 it<=30):ja z=some it:=by unfold ja;rw[h];show(if x8 it<=30 then some it else none)=_;rw[if_pos hl]
theorem zfU{z:Str}{it:yU}(h:rdI z=some it)(hl:¬x8 it<=30):ja z=none:=by unfold ja;rw[h];show(if x8 it<=30 then some it else none)=_;rw[if_neg hl]
theorem zeg{z:Str}:vy z=if Txt.slice z (some 1) (some (-1))="" then [] else Txt.split (Txt.slice z (some 1) (some (-1))) " ":=rfl
theorem zal:∀{vs:List V}{ns:List Int},Paired (fun v n=>v=.int n) vs ns->vs=ns.map V.int
 | _,_,.nil=>rfl
 | _,_,.cons a t=>by rw[a,zal t];rfl
theorem uR{β : Type}{f:Str->Option β}{K:Frag}{H:Hp}{Out:V->β->Prop}(ho:∀v b,Out v b->zg6 K H v):∀{vs:List V}{ws:List Str},Paired (fun v w=>(f w=none/\v=.non)\/∃b,f w=some b/\Out v b) vs ws->∀y∈vs,zg6 K H y
 | _,_,.nil,y,hy=>by cases hy
 | _,_,.cons a t,y,hy=>by
  rcases List.mem_cons.mp hy with rfl|hy
  ·rcases a with ⟨_,rfl⟩|⟨b,_,o⟩
   ·exact .inl rfl
   ·exact ho _ _ o
  ·exact uR ho t y hy
theorem j9:zD ["_law_part","_law_texts","_law_inner","_law_pair","_law_number"] ["_law_part"] (zr zfG):=fsc
theorem zlM:([Str.ofString "_law_one"]:List Str).Nodup:=by decide +kernel
theorem zkw{f1 f2:Addr}{e1 e2:FuncData}(F:Fun K "_law_read_item" "_law_read_item" zfG f fd)(T:ziH mg)(c1:z8 P w K mg base 1 "_law_read_number" f1 e1 ["_law_text"] zfj)(c2:z8 P w K mg base 2 "_law_read_pair" f2 e2 ["_law_text"] ziY):
  zL P w K mg base CX0 3 f fd ["_law_part"] (ziZ K):=by
 refine F.ok j9 (fun cdv A outer s H vs Q E hr h=>?_);obtain⟨z,rfl,lz,q,qn⟩:=h;have hr1:yh 1 _:=hr.mono (by decide)
 have hr2:yh 2 _:=hr.mono (by decide)
 have hU:=hr.units;have hu1:=zdU hr;obtain⟨wl,ww⟩:=zbl lz;refine⟨_,zp (zJ (yv (xw (zw yi (zR yy (pv 0) ym (zT zj)) zo (zE _)) (yV (zw yi (zR yy (pv 0) ym (zT zj)) zo (zE _))))) zdB zz)
  (zp (zJ (zw vV zo (pv 0) (by with_unfolding_all rfl)) (zp (zC (i:=3) j9.nd rfl (Or.inl rfl) (cF c2 hr2 (ac (pv 0) zi))) (zm (zB (xQ (wI (vC (pv 3))) y9 (zM (ac zo (ac (zK ya (pv 3) zj (fun _ _=>rfl)) (ac (zK ya (pv 3) zj (fun _ _=>rfl)) zi)))))))) zz)
  (zp (zC (i:=4) j9.nd rfl (Or.inl rfl) (cF c1 hr1 (ac (pv 0) zi)))
  (zm (zB (xQ (wI (vC (pv 4))) y9 (zM (ac zo (ac (pv 4) zi)))))))),?_⟩
 have inner:∀(D0:wO) (c:Nat),D0.rt=Q->(sg z).head?=some c->c=91\/c=123->zha (w5 CX0 P w K mg base ["_law_part","_law_texts","_law_inner","_law_pair","_law_number"] "_law_read_item" (zr zfG) f cdv A outer s H E).nox
   (match (yd zfG).getD 0 (.Pass ⟨0,0,0,0⟩) with|.If _ b _ _=>b|_=>[]) D0 [some (.str z),none,none,none,none] H:=by
  intro D0 c hD0 hh hc;refine zQ (zC (i:=1) j9.nd rfl (Or.inl rfl) (zP zi)) ?_;refine⟨vc,fun l0 hl0=>?_⟩;dsimp only[yc];refine zQ (zJ (zw zdK (zR yy (pv 0) (zT zj) (zT (qh ur zj))) zo (zE _)) (zm (zC (i:=1) j9.nd rfl (Or.inl rfl) (z7 PySem.F.plainAttrs_str PySem.F.slot_str_split PySem.F.type_str_split wW (zR yy (pv 0) (zT zj) (zT (qh ur zj))) (ac zo zi)))) zz) ?_;have s0:=zk hl0 (.lst []);refine yQ (fun σ' H'=>∃lt,σ'=[some (.str z),some (.ref lt),none,none,none]/\zx H H'/\H' lt=some (.lst ((vy z).map V.str))) ?_ (fun key=>?_);rotate_left
  ·have li:=slice_le z (some 1) (some (-1))
   rw[zeg] at key;refine⟨_,rfl,_,rfl,_,rfl,_,rfl,z,rfl,by rw[sizeLine_eq];omega,rfl,_,rfl,?_⟩
   by_cases e:Txt.slice z (some 1) (some (-1))=""
   ·rw[if_pos e] at key
    rw[show decide (V.str (Txt.slice z (some 1) (some (-1)))=V.str (Str.ofString ""))=true from decide_eq_true (by rw[e])]
    refine yb ?_;exact key _ _ ⟨l0,rfl,s0,zc⟩
   ·rw[if_neg e] at key
    rw[show decide (V.str (Txt.slice z (some 1) (some (-1)))=V.str (Str.ofString ""))=false from decide_eq_false fun h=>e (V.str.inj h)];refine yp ?_;have so:=xO (Txt.slice z (some 1) (some (-1))) " ";refine⟨_,rfl,_,rfl,_,rfl,_,rfl,z,rfl,by rw[sizeLine_eq];omega,rfl,_," ",rfl,rfl,rfl,by rw[sizeLine_eq];omega,by have:=so.line;rw[sizeLine_eq];omega,fun l hl=>?_⟩
    exact key _ _ ⟨l,rfl,s0.trans (zk hl _),zc⟩
  clear s0 hl0 l0;rintro σ' H1 ⟨lt,rfl,s1,hlt⟩;refine zQ (zJ (yv (xw (zw uj (cB yg T.len PySem.boot_len (ac (pv 0) zi)) zj (zE _)) (yV (zw zdK (zK wt (pv 0) (qh ur zj) (fun _ _=>rfl)) (wD hu1 (jK (yC zo zo (yC zo zo jJ)) rfl rfl (by simp) (by decide)) (zK wt (pv 0) zj (fun _ _=>rfl)) (fun _ _=>rfl)) (zE _))))) (zm (zB y9)) zz) ?_
  obtain⟨d,hd⟩:=zh9 hh;refine yQ (fun σ' H'=>σ'=[some (.str z),some (.ref lt),none,none,none]/\zx H H'/\H' lt=some (.lst ((vy z).map V.str))/\((c=91/\d=93)\/(c=123/\d=125))) ?_ (fun key=>?_);rotate_left
  ·refine⟨_,rfl,z,rfl,by rw[sizeLine_eq];omega,_,_,rfl,rfl,_,rfl,?_⟩
   by_cases l2:z.length<2
   ·refine dT (show(z.length:Int)<2 by omega) ?_
    refine yp ?_;have ez:sg z=[c]:=by
     rw[zN] at l2;cases e:sg z with
     | nil=>rw[e] at hh;cases hh
     | cons a r=>
      rw[e] at hh l2;simp at hh;rw[hh,show r=[] from List.eq_nil_of_length_eq_zero (by simp only[length_cons] at l2;omega)]
    rw[ez] at hd;have hdc:c=d:=by simpa using hd
    have:rdI z=none:=qe hh hc (uW (by rw[ez];simp;omega)) (uW (by rw[ez];simp;omega))
    rw[hD0];exact qn (wf this) _ s1
   refine dF (show ¬(z.length:Int)<2 by omega) ?_
   refine⟨_,rfl,_,rfl,z,-1,d,rfl,rfl,by rw[sizeLine_eq];omega,ziD hd,?_⟩
   intro dd hdd;refine⟨zc,brL,rfl,(by show 2<=15;decide),?_⟩
   have t1:zx H1 (upd (upd H1 dd (.dK [])) dd (.dK (yK [] brL))):=by rw[xZ];exact zk hdd _
   have e1':upd (upd H1 dd (.dK [])) dd (.dK (yK [] brL)) dd=some (.dK (yK [] brL)):=zc;generalize upd (upd H1 dd (.dK [])) dd (.dK (yK [] brL))=H2 at t1 e1' |-;have s2:=s1.trans t1;rcases hc with rfl|rfl
   ·refine⟨_,rfl,z,0,91,rfl,rfl,by rw[sizeLine_eq];omega,jU hh,dd,.str "]",rfl,.inl ⟨_,.inr "[",.inl e1',rfl,rfl⟩,rfl,_,rfl,?_⟩
    by_cases h:d=93
    ·rw[show decide (V.str ⟨#[d]⟩=V.str (Str.ofString "]"))=true from decide_eq_true (xR.mpr h)]
     refine yb ?_;exact key _ _ ⟨rfl,s2,t1 _ _ hlt,.inl ⟨rfl,h⟩⟩
    ·rw[show decide (V.str ⟨#[d]⟩=V.str (Str.ofString "]"))=false from decide_eq_false fun e=>h (xR.mp e)]
     refine yp ?_;rw[hD0];exact qn (wf (qe hh (.inl rfl) (uW (by rw[hd];simpa using h)) (vM (by rw[hh];decide)))) _ s2
   ·refine⟨_,rfl,z,0,123,rfl,rfl,by rw[sizeLine_eq];omega,jU hh,dd,.str "}",rfl,.inl ⟨_,.inr "{",.inl e1',rfl,rfl⟩,rfl,_,rfl,?_⟩
    by_cases h:d=125
    ·rw[show decide (V.str ⟨#[d]⟩=V.str (Str.ofString "}"))=true from decide_eq_true (xR.mpr h)]
     refine yb ?_;exact key _ _ ⟨rfl,s2,t1 _ _ hlt,.inr ⟨rfl,h⟩⟩
    ·rw[show decide (V.str ⟨#[d]⟩=V.str (Str.ofString "}"))=false from decide_eq_false fun e=>h (xR.mp e)]
     refine yp ?_;rw[hD0];exact qn (wf (qe hh (.inr rfl) (vM (by rw[hh];decide)) (uW (by rw[hd];simpa using h)))) _ s2
  clear s1 hlt;rintro σ' H1 ⟨rfl,s1,hlt,hcd⟩;refine zQ (zJ (zw yi (zK wt (pv 0) zj (fun _ _=>rfl)) zo (zE _))
   (zm (zae (i:=2) [] ["_law_one"] [none] j9.nd rfl (Or.inl rfl) rfl ⟨rfl,rfl,rfl,rfl⟩ (ye (pv 1)) (z5 0) rfl rfl rfl (fun pins fp s H C=>⟨zF (i:=0) zlM rfl (Or.inl rfl) (.inr rfl),yA,cF c1 hr1 (ac (pv 0) zi)⟩)))
   (zm (zae (i:=2) [] ["_law_one"] [none] j9.nd rfl (Or.inl rfl) rfl ⟨rfl,rfl,rfl,rfl⟩ (ye (pv 1)) (z5 0) rfl rfl rfl (fun pins fp s H C=>⟨zF (i:=0) zlM rfl (Or.inl rfl) (.inr rfl),yA,cF c2 hr2 (ac (pv 0) zi)⟩)))) ?_
  refine yQ (fun σ' H'=>∃(D:Addr) (vs:List V) (oi:Option yU),σ'=[some (.str z),some (.ref lt),some (.ref D),none,none]/\zx H H'/\H D=none/\H' D=some (.lst vs)/\(∀y∈vs,zg6 K H' y)/\rdI z=oi/\((inV .non vs=true/\oi=none)\/∃it,oi=some it/\inV .non vs=false/\x8 it=vs.length/\((c=91/\∃ts,it=.row ts/\vs=ts.map V.int)\/(c=123/\∃ps,it=.book ps/\Paired (fun v (p:Str×Int)=>∃b,v=.ref b/\H' b=some (.tup [.str p.1,.int p.2])) vs ps)))) ?_ (fun key=>?_);rotate_left
  ·refine⟨_,rfl,z,0,c,rfl,rfl,by rw[sizeLine_eq];omega,jU hh,rfl,_,rfl,?_⟩
   rcases hcd with ⟨rfl,rfl⟩|⟨rfl,rfl⟩
   ·refine dT (xR.mpr rfl) ?_
    refine⟨_,rfl,lt,rfl,⟨_,zq hlt⟩,fun D hD=>?_⟩;refine qu (vy z) rdN (fun _ v n=>v=.int n) (fun _ e=>e) (fun _ e=>e) hD (by omega) (zq hlt) ?_ ?_
    ·intro w H' C S sH hw _ hC hn
     refine⟨fun _=>⟨_,rfl,w,rfl,ww w hw,fun H4 s4=>?_⟩,fun z=>absurd z (by decide)⟩
     cases e:rdN w with
     | none=>exact hn e H4 s4
     | some n=>exact hC n _ H4 e s4 rfl
    intro vs H2 s2 hD2 hvs;have fl:=uR (K:=K) (H:=H2) (Out:=fun v n=>v=.int n) (fun v b e=>by rw[e];exact .inl rfl) hvs
    refine key _ _ ⟨D,vs,_,rfl,s1.trans s2,s1.free hD,hD2,fl,rfl,?_⟩;rw[zhy hh hd];rcases vY (Out:=fun v n=>v=.int n) (fun {v b} e h=>by rw[e] at h;cases h) hvs with ⟨a1,a2⟩|⟨ns,a1,a2,a3⟩
    ·exact .inl ⟨a1,by rw[a2];rfl⟩
    ·exact .inr ⟨.row ns,by rw[a2];rfl,a1,(a3.length).symm,.inl ⟨rfl,ns,rfl,zal a3⟩⟩
   ·refine dF (fun e=>absurd (xR.mp e) (by decide)) ?_
    refine⟨_,rfl,lt,rfl,⟨_,zq hlt⟩,fun D hD=>?_⟩;refine qu (vy z) rdP (fun H v (p:Str×Int)=>∃b,v=.ref b/\H b=some (.tup [.str p.1,.int p.2])) (fun s ⟨b,e,h⟩=>⟨b,e,s _ _ h⟩)
     (fun hl ⟨b,e,h⟩=>⟨b,e,by rw[zv (fun z=>by rw[z,hl] at h;cases h)];exact h⟩) hD (by omega) (zq hlt) ?_ ?_
    ·intro w H' C S sH hw _ hC hn
     exact⟨fun _=>⟨_,rfl,w,rfl,ww w hw,fun p e r H4 s4 _ hr4=>hC p _ H4 e s4 ⟨r,rfl,hr4⟩,hn⟩,fun z=>absurd z (by decide)⟩
    intro vs H2 s2 hD2 hvs;have fl:=uR (K:=K) (H:=H2) (Out:=fun v (p:Str×Int)=>∃b,v=.ref b/\H2 b=some (.tup [.str p.1,.int p.2])) (fun v p ⟨b,e,h⟩=>.inr ⟨b,_,e,zI h⟩) hvs;refine key _ _ ⟨D,vs,_,rfl,s1.trans s2,s1.free hD,hD2,fl,rfl,?_⟩;rw[zfT hh hd];rcases vY (Out:=fun v (p:Str×Int)=>∃b,v=.ref b/\H2 b=some (.tup [.str p.1,.int p.2])) (fun {v b} ⟨_,e,_⟩ h=>by rw[e] at h;cases h) hvs with ⟨a1,a2⟩|⟨ps,a1,a2,a3⟩
    ·exact .inl ⟨a1,by rw[a2];rfl⟩
    ·exact .inr ⟨.book ps,by rw[a2];rfl,a1,(a3.length).symm,.inr ⟨rfl,ps,rfl,a3⟩⟩
  clear s1 hlt;rintro σ' H2 ⟨D,vs,oi,rfl,s2,hDn,hD,fl,eI,hoi⟩;refine zQ (zJ (yv (xw (zw (zga hU) y9 (pv 2) (by with_unfolding_all rfl)) (yV (zw vq (cB zO T.len PySem.boot_len (ac (pv 2) zi)) zj (zE _))))) (zm (zB y9)) zz) ?_
  refine⟨_,rfl,D,vs,rfl,rfl,zq hD,fl,_,rfl,?_⟩;rcases hoi with ⟨h1,h2⟩|⟨it,h2,h1,hsz,hit⟩
  ·refine wY h1 (yp ?_)
   rw[hD0];exact qn (wf (by rw[eI,h2])) _ s2
  refine vt h1 ?_;refine⟨_,rfl,D,_,rfl,.inl (zq hD),_,_,rfl,rfl,_,rfl,?_⟩;by_cases l30:vs.length<=30
  rotate_left
  ·refine dT (show(vs.length:Int)>30 by omega) ?_
   rw[hD0];exact qn (zfU (by rw[eI,h2]) (by omega)) _ s2
  refine dF (show ¬(vs.length:Int)>30 by omega) ?_
  refine⟨_,zm (zB (zM (ac (zK yn (zP (ac zo (ac zo zi))) (cTy ze0 T.int PyProof.Rows.boot_int (ac (xf yi (zK wt (pv 0) zj (fun _ _=>rfl)) zo (zE _)) zi)) (fun _ _=>rfl)) (ac (pv 2) zi)))),?_⟩;refine⟨y7,fun lw hlw=>⟨_,rfl,z,0,c,rfl,rfl,by rw[sizeLine_eq];omega,jU hh,rfl,.inr ⟨_,rfl,?_⟩⟩⟩
  have s3:=zk hlw (.lst [.str "row",.str "book"]);have g3:upd H2 lw (.lst [.str "row",.str "book"]) lw=some (.lst [.str "row",.str "book"]):=zc;have hD3:=s3 _ _ hD;generalize upd H2 lw (.lst [.str "row",.str "book"])=H3 at s3 g3 hD3 |-;have hF:=u9 (by rw[eI,h2]) (show x8 it<=30 by omega)
  rcases hit with ⟨rfl,ts,rfl,rfl⟩|⟨rfl,ps,rfl,hps⟩
  ·refine⟨lw,_,_,.str "row",rfl,rfl,zq g3,by rw[show decide (V.str ⟨#[91]⟩=V.str (Str.ofString "{"))=false from decide_eq_false fun e=>absurd (xR.mp e) (by decide)];rfl,_,rfl,y7,fun r hrn=>?_⟩
   have s4:=zk hrn (.tup [.str "row",.ref D]);rw[hD0];exact q _ hF _ _ (s2.trans (s3.trans s4)) (.tup (zI zc) (.cons .str (.cons (.lst hDn (s4 _ _ hD3) (vZ _)) .nil)))
  ·refine⟨lw,_,_,.str "book",rfl,rfl,zq g3,by rw[show decide (V.str ⟨#[123]⟩=V.str (Str.ofString "{"))=true from decide_eq_true (xR.mpr rfl)];rfl,_,rfl,y7,fun r hrn=>?_⟩
   have s4:=zk hrn (.tup [.str "book",.ref D]);rw[hD0];refine q _ hF _ _ (s2.trans (s3.trans s4)) (.tup (zI zc) (.cons .str (.cons (.lst hDn (s4 _ _ hD3) (uy (zH (fun _ _ ⟨b,e,h⟩=>⟨b,e,(s3.trans s4) _ _ h⟩) hps))) .nil)))
 refine yQ (fun σ' H'=>σ'=[some (.str z),none,none,none,none]/\H=H'/\(sg z).head?≠some 91/\(sg z).head?≠some 123) ?_ (fun key=>?_);rotate_left
 ·refine⟨_,rfl,_,rfl,z,rfl,by rw[sizeLine_eq];omega,rfl,_,rfl,?_⟩
  by_cases h1:(sg z).head?=some 91
  ·refine dT ((jo rfl).mpr h1) (yp ?_)
   exact inner _ 91 rfl h1 (.inl rfl)
  refine dF (fun e=>h1 ((jo rfl).mp e)) ?_;refine⟨_,rfl,_,rfl,z,rfl,by rw[sizeLine_eq];omega,rfl,_,rfl,?_⟩
  by_cases h2:(sg z).head?=some 123
  ·refine dT ((jo rfl).mpr h2) ?_
   exact inner _ 123 rfl h2 (.inr rfl)
  refine dF (fun e=>h2 ((jo rfl).mp e)) ?_;exact key _ _ ⟨rfl,rfl,h1,h2⟩
 clear inner;rintro σ' H' ⟨rfl,rfl,h1,h2⟩;have eI:=zem h1 h2;refine⟨_,rfl,_,_,rfl,rfl,_,rfl,?_⟩;rw[zjh z];by_cases h : 61∈sg z
 ·rw[if_pos h] at eI
  refine wY (decide_eq_true h) ?_;refine⟨_,rfl,z,rfl,lz,fun p e r H2 s2 hrn hr2'=>?_,fun e H2 s2=>?_⟩
  ·rw[e] at eI
   refine⟨_,rfl,_,rfl,?_⟩;refine yb ?_;refine⟨_,rfl,r,_,_,.str p.1,rfl,rfl,zI hr2',rfl,_,rfl,r,_,_,.int p.2,rfl,rfl,zI hr2',rfl,zbu,fun r2 hr2n=>?_⟩;exact q _ (u9 eI (by show 1<=30;decide)) _ _ (s2.trans (zk hr2n _)) (.tup (zI zc) (.cons .str (.cons .str (.cons .int .nil))))
  ·rw[e] at eI
   refine⟨_,rfl,_,rfl,?_⟩;refine yp ?_;exact qn (wf eI) _ s2
 ·rw[if_neg h] at eI
  refine vt (decide_eq_false h) ?_;refine⟨_,rfl,z,rfl,lz,fun H2 s2=>?_⟩;cases e:rdN z with
  | none=>
   rw[e] at eI;refine⟨_,rfl,_,rfl,?_⟩;refine yp ?_;exact qn (wf eI) _ s2
  | some n=>
   rw[e] at eI;refine⟨_,rfl,_,rfl,?_⟩;refine yb ?_;refine⟨_,rfl,y7,fun r hrn=>?_⟩;exact q _ (u9 eI (by show 1<=30;decide)) _ _ (s2.trans (zk hrn _)) (.tup (zI zc) (.cons .str (.cons .int .nil)))
def okC(c:List yU):Prop:=c.length<=30/\(∀it∈c,x8 it<=30)/\(yL c).length<=60/\(yM c).length<=60
instance (c:List yU):Decidable (okC c):=by unfold okC;exact inferInstance
def rdC(z:Str):Option (List yU):=(xa rdI (pcs z)).bind fun c=>if okC c then some c else none
theorem zdR:∀{c:List yU},(∀it∈c,x8 it<=30)->(yL c).length<=c.length * 30/\(yM c).length<=c.length * 30
 | [],_=>⟨le_refl _,le_refl _⟩
 | it::c,h=>by
  obtain⟨i1,i2⟩:=zdR fun x hx=>h x (mem_cons_of_mem _ hx);have h0:=h it mem_cons_self;have e1:(yL (it::c)).length=(itT it).length+(yL c).length:=by unfold yL;simp
  have e2:(yM (it::c)).length=(itP it).length+(yM c).length:=by unfold yM;simp
  have e3:(itT it).length<=30/\(itP it).length<=30:=by
   cases it with
   | one t=>exact⟨by show 1<=30;decide,zero_le _⟩
   | row ts=>exact⟨h0,zero_le _⟩
   | named n t=>exact⟨zero_le _,by show 1<=30;decide⟩
   | book ps=>exact⟨zero_le _,h0⟩
  rw[e1,e2,length_cons,succ_mul];omega
def zfd(K:Frag)(NT:Addr):Sp:=fun vs H Q E=>∃(a:Addr) (c:List yU),vs=[.ref a]/\zg7 K H a c/\(okC c->∀H',zx H H'->Q .non H')/\(¬okC c->∀H',zx H H'->E (.ref NT) none H')
def zjz(K:Frag)(NT:Addr):Sp:=fun vs H Q E=>∃x:V,vs=[x]/\((∃z:Str,x=.str z/\z.length<=100000/\(∀c,rdC z=some c->∀(a:Addr) (xs:List V) (H':Hp),zx H H'->H a=none->H' a=some (.lst xs)->Paired (zS K T' H' 3) xs (c.map yI)->Q (.ref a) H')/\(rdC z=none->∀H',zx H H'->E (.ref NT) none H'))\/(jt K H x/\∀H',zx H H'->E (.ref NT) none H'))
theorem zdt:zD ["call","item","things","pairs"] ["call"] (zr zjN):=fsc
theorem zkl{f1:Addr}{e1:FuncData}(F:Fun K "refuse_too_great" "refuse_too_great" zjN f fd)(T:zmb mg)(pc:jl K mg base "NoText" NT)(c1:z8 P w K mg base 1 "laid" f1 e1 ["call"] (zfi K)):zL P w K mg base (CXe P w) 2 f fd ["call"] (zfd K NT):=by
 refine F.okE zdt (fun vs H Q E h=>?_) (fun cdv A outer s H vs Q E hr h=>?_)
 ·obtain⟨a,c,rfl,_⟩:=h
  rfl
 obtain⟨a,c,rfl,⟨xs,hS,hx⟩,q,qn⟩:=h;have hr1:yh 1 _:=hr.mono (by decide)
 obtain⟨t1,mi⟩:=T.mi;obtain⟨t2,mn⟩:=T.mn;obtain⟨t3,mk⟩:=T.mo;have lx:xs.length=c.length:=by rw[hx.length,length_map]
 refine⟨_,zp (zJ (zw vq (cB zO T.len PySem.boot_len (ac (pv 0) zi)) (z6 (v:=.int 30) rfl mi ⟨_,rfl⟩) (zE _)) (zm (ui pc)) zz)
  (zp (y8 PassesOwn.leaving rfl (ye (pv 0)) (zF (i:=1) zdt.nd rfl (Or.inl rfl))
   (zm (zJ (yv (yW (zw yF (zK ya (pv 1) zj (fun _ _=>rfl)) (zM (ac zo (ac zo zi))) (by with_unfolding_all rfl))
    (yD (zw vq (cB zO T.len PySem.boot_len (ac (zK ya (pv 1) zj (fun _ _=>rfl)) zi)) (z6 (v:=.int 30) rfl mn ⟨_,rfl⟩) (zE _))))) (zm (ui pc)) zz)))
  (zp (zaX (cF c1 hr1 (ac (pv 0) zi)) (wJ rfl (yo (zF (i:=2) zdt.nd rfl (Or.inl rfl)) (yo (zF (i:=3) zdt.nd rfl (Or.inl rfl)) xL))))
  (zm (zJ (yv (xw (zw vq (cB zO T.len PySem.boot_len (ac (pv 2) zi)) (z6 (v:=.int 60) rfl mk ⟨_,rfl⟩) (zE _)) (yV (zw vq (cB zO T.len PySem.boot_len (ac (pv 3) zi)) (z6 (v:=.int 60) rfl mk ⟨_,rfl⟩) (zE _))))) (zm (ui pc)) zz)))),?_⟩
 refine⟨_,rfl,a,xs,rfl,.inl hS,_,_,rfl,rfl,_,rfl,?_⟩;by_cases hl:c.length<=30
 rotate_left
 ·refine dT (show((xs.length:Int)>30) by omega) ?_
  exact qn (fun h=>hl h.1) _ (zx.refl _)
 refine dF (show ¬((xs.length:Int)>30) by omega) ?_
 refine⟨_,rfl,a,rfl,⟨_,hS⟩,yO (K:=K) (a:=a) (xs:=xs) (fun i σ H2=>∃v1 v2 v3,σ=[some (.ref a),v1,v2,v3]/\zx H H2/\∀it∈c.take i,x8 it<=30)
  ⟨_,_,_,rfl,zx.refl _,fun it h=>by simp at h⟩ (fun i σ H2 _ ⟨_,_,_,_,s2,_⟩=>s2.seq hS) ?_ ?_⟩
 ·rintro i y σ H2 hy ⟨v1,v2,v3,rfl,s2,hb⟩
  obtain⟨it,hit,hsy⟩:=zb2 hx hy;have hsy:=hsy.same s2;have nx:∀H3,zx H H3->x8 it<=30->∃v1 v2 v3,[some (V.ref a),some y,v2,v3]=[some (V.ref a),v1,v2,v3]/\zx H H3/\∀it∈c.take (i+1),x8 it<=30:=fun H3 s3 hz=>⟨_,v2,v3,rfl,s3,fun x hx=>by
   rw[xr hit] at hx;rcases List.mem_append.mp hx with hx|hx
   ·exact hb x hx
   ·have:x=it:=by simpa using hx
    rw[this];exact hz⟩
  have bad:¬x8 it<=30->∀H3,zx H H3->E (.ref NT) none H3:=fun hz=>qn fun h=>hz (h.2.1 it (mem_of_getElem? hit));cases it with
  | one t=>
   obtain⟨b,rfl,hb'⟩:=vI hsy;refine⟨_,rfl,b,_,_,.str "one",rfl,rfl,hb',rfl,y7,fun r hrn=>⟨r,rbL,rfl,.inr (zI zc),rfl,(by decide),_,rfl,?_⟩⟩
   refine vt (by decide +kernel) (yb ?_)
   obtain⟨u1,u2,u3,e1,e2,e3⟩:=nx _ (s2.trans (zk hrn _)) (by show 1<=30;decide)
   exact⟨_,_,_,rfl,e2,e3⟩
  | named n t=>
   obtain⟨b,rfl,hb'⟩:=wu hsy;refine⟨_,rfl,b,_,_,.str "named",rfl,rfl,hb',rfl,y7,fun r hrn=>⟨r,rbL,rfl,.inr (zI zc),rfl,(by decide),_,rfl,?_⟩⟩
   refine vt (by decide +kernel) (yb ?_)
   obtain⟨u1,u2,u3,e1,e2,e3⟩:=nx _ (s2.trans (zk hrn _)) (by show 1<=30;decide)
   exact⟨_,_,_,rfl,e2,e3⟩
  | row ts=>
   obtain⟨b,l,rfl,hb',_,hl'⟩:=vH hsy;refine⟨_,rfl,b,_,_,.str "row",rfl,rfl,hb',rfl,y7,fun r hrn=>⟨r,rbL,rfl,.inr (zI zc),rfl,(by decide),_,rfl,?_⟩⟩
   refine wY (by decide +kernel) ?_
   have s3:=zk hrn (.tup rbL);refine⟨_,rfl,b,_,_,.ref l,rfl,rfl,zx.sqT s3 hb',rfl,l,_,rfl,.inl (zq (s3 _ _ hl')),_,_,rfl,rfl,_,rfl,?_⟩;by_cases hz:ts.length<=30
   ·refine dF (show ¬(((ts.map V.int).length:Int)>30) by rw[length_map];omega) ?_
    obtain⟨u1,u2,u3,e1,e2,e3⟩:=nx _ (s2.trans s3) hz;exact⟨_,_,_,rfl,e2,e3⟩
   ·refine dT (show(((ts.map V.int).length:Int)>30) by rw[length_map];omega) ?_
    exact bad hz _ (s2.trans s3)
  | book ps=>
   obtain⟨b,l,ys,rfl,hb',_,hl',hys⟩:=wX hsy;have ly:ys.length=ps.length:=by rw[hys.length,length_map]
   refine⟨_,rfl,b,_,_,.str "book",rfl,rfl,hb',rfl,y7,fun r hrn=>⟨r,rbL,rfl,.inr (zI zc),rfl,(by decide),_,rfl,?_⟩⟩
   refine wY (by decide +kernel) ?_
   have s3:=zk hrn (.tup rbL);refine⟨_,rfl,b,_,_,.ref l,rfl,rfl,zx.sqT s3 hb',rfl,l,_,rfl,.inl (zq (s3 _ _ hl')),_,_,rfl,rfl,_,rfl,?_⟩;by_cases hz:ps.length<=30
   ·refine dF (show ¬((ys.length:Int)>30) by omega) ?_
    obtain⟨u1,u2,u3,e1,e2,e3⟩:=nx _ (s2.trans s3) hz;exact⟨_,_,_,rfl,e2,e3⟩
   ·refine dT (show((ys.length:Int)>30) by omega) ?_
    exact bad hz _ (s2.trans s3)
 ·rintro σ H2 ⟨v1,v2,v3,rfl,s2,hb⟩
  rw[take_of_length_le (by omega)] at hb
  obtain⟨b1,b2⟩:=zdR hb;refine⟨_,rfl,a,c,xs,rfl,s2.seq hS,zH (fun _ _ z=>z.same s2) hx,by omega,by omega,fun p H3 s3 ⟨l1,l2,ys,n1,n2,n12,np,hp,hl1,hl2,hys⟩=>?_⟩
  have ly:ys.length=(yM c).length:=by rw[hys.length,length_map]
  refine⟨p,_,rfl,zI hp,rfl,_,_,rfl,_,_,rfl,rfl,?_⟩;refine⟨_,rfl,l1,_,rfl,.inl (zq hl1),_,_,rfl,rfl,_,rfl,?_⟩;by_cases k1:(yL c).length<=60
  rotate_left
  ·refine dT (show((((yL c).map V.int).length:Int)>60) by rw[length_map];omega) ?_
   refine yp ?_;exact qn (fun h=>k1 h.2.2.1) _ (s2.trans s3)
  refine dF (show ¬((((yL c).map V.int).length:Int)>60) by rw[length_map];omega) ?_
  refine⟨_,rfl,l2,_,rfl,.inl (zq hl2),_,_,rfl,rfl,_,rfl,?_⟩;by_cases k2:(yM c).length<=60
  rotate_left
  ·refine dT (show((ys.length:Int)>60) by omega) ?_
   exact qn (fun h=>k2 h.2.2.2) _ (s2.trans s3)
  refine dF (show ¬((ys.length:Int)>60) by omega) ?_
  exact q ⟨hl,hb,k1,k2⟩ _ (s2.trans s3)
theorem zi6:zD ["text","call"] ["text"] (zr zjM):=fsc
theorem zlG{f1 f2 f3:Addr}{e1 e2 e3:FuncData}(F:Fun K "read_call" "read_call" zjM f fd)(c1:yw P w K mg base 1 "pieces" f1 e1 ["text"] (zaJ K NT))(c2:yw P w K mg base 3 "read_item" f2 e2 ["text"] (zjx K NT))(c3:yw P w K mg base 2 "refuse_too_great" f3 e3 ["call"] (zfd K NT)):
  zL P w K mg base (CXe P w) 4 f fd ["text"] (zjz K NT):=by
 refine F.okE zi6 (fun vs H Q E h=>?_) (fun cdv A outer s H vs Q E hr h=>?_)
 ·obtain⟨x,rfl,_⟩:=h
  rfl
 obtain⟨x,rfl,h⟩:=h;have hr1:yh 1 _:=hr.mono (by decide)
 have hr2:yh 2 _:=hr.mono (by decide)
 have hr3:yh 3 _:=hr.mono (by decide)
 refine⟨_,zp (zkg (EK:=E) (i:=1) [] ["piece"] [none] zi6.nd rfl (Or.inl rfl) rfl ⟨rfl,rfl,rfl,rfl⟩ (ye (cE c1 (jr fun _ _ _ z=>z) hr1 (ac (pv 0) zi))) (z5 0) rfl rfl rfl rfl rfl (zdG fun _ _ _ z=>z)
    (fun pins fp s H C xe hp=>⟨zF (i:=0) zmU rfl (Or.inl rfl) (.inr rfl),yA,cE c2 hp hr3 (ac (pv 0) zi)⟩))
  (zp (zW (cE c3 (jr fun _ _ _ z=>z) hr2 (ac (pv 1) zi)))
  (zm (zB (pv 1)))),?_⟩
 rcases h with ⟨z,rfl,lz,q,qn⟩|⟨nt,qn⟩
 rotate_left
 ·exact⟨_,rfl,_,rfl,.inr ⟨nt,qn _ (zx.refl _)⟩⟩
 obtain⟨pl,pw⟩:=jM lz;refine⟨_,rfl,_,rfl,.inl ⟨z,rfl,lz,fun l H1 s1 hl0 hl1=>?_⟩⟩;refine⟨l,rfl,⟨_,zq hl1⟩,fun D hD=>?_⟩;have nD:H D=none:=s1.free hD;refine zc0 (pcs z) rdI (fun H2 v it=>zS K (fun b=>H b=none/\b≠D) H2 3 v (yI it)) (fun H'=>E (.ref NT) none H') (fun s h=>h.same s)
  (fun hl h=>uK (.inr ⟨_,hl⟩) (fun b hb _=>⟨hb,hb.2⟩) h) hD (by omega) (zq hl1) ?_ (fun e H' s'=>qn (by unfold rdC;rw[e];rfl) _ (s1.trans s')) ?_
 ·intro w H' C S sH hw hnD hC hn
  refine⟨fun _=>⟨_,rfl,w,rfl,pw w hw,fun it e v H4 s4 hv=>hC it v H4 e s4 ?_,hn⟩,fun z=>absurd z (by decide)⟩
  exact hv.frame (fun _ _ z=>z) fun b _ hb z=>⟨⟨(s1.trans sH).free hb,fun e=>hnD (e ▸ hb)⟩,z⟩
 intro c vs H2 ec s2 hD2 hvs;have hvs':Paired (zS K T' H2 3) vs (c.map yI):=zH (fun _ _ z=>z.frame (fun _ _ z=>z) fun b _ hb z=>⟨trivial,z⟩) (uA hvs);have er:rdC z=if okC c then some c else none:=by unfold rdC;rw[ec];rfl
 refine⟨_,rfl,D,c,rfl,⟨vs,zq hD2,hvs'⟩,fun ok H3 s3=>?_,fun ok H3 s3=>?_⟩
 ·rw[if_pos ok] at er
  exact⟨_,rfl,q c er D vs H3 (s1.trans (s2.trans s3)) nD (s3 _ _ hD2) (zH (fun _ _ z=>z.same s3) hvs')⟩
 ·rw[if_neg ok] at er
  exact qn er _ (s1.trans (s2.trans s3))
theorem zaD{α β : Type}{f : α->Option β}{a : α}{l:List α}:xa f (a::l)=match f a with|none=>none|some b=>(xa f l).map (b::·):=rfl
theorem uH:∀ws:List Str,xa ja ws=(xa rdI ws).bind fun c=>if ∀it∈c,x8 it<=30 then some c else none
 | []=>by
  show some []=if ∀it∈([]:List yU),x8 it<=30 then some [] else none
  rw[if_pos (fun it h=>by cases h)]
 | z::ws=>by
  rw[zaD,zaD,uH ws];unfold ja;cases rdI z with
  | none=>rfl
  | some it=>
   rw[show(some it).bind (fun it=>if x8 it<=30 then some it else none)=if x8 it<=30 then some it else none from rfl]
   cases xa rdI ws with
   | none=>by_cases h:x8 it<=30 <;> simp [h]
   | some c=>
    simp only[Option.bind_some,Option.map_some];by_cases h:x8 it<=30
    ·rw[if_pos h]
     by_cases h2:∀it∈c,x8 it<=30
     ·rw[if_pos h2,if_pos (fun x hx=>by rcases List.mem_cons.mp hx with rfl|hx;exact h;exact h2 x hx)];rfl
     ·rw[if_neg h2,if_neg (fun h3=>h2 fun x hx=>h3 x (mem_cons_of_mem _ hx))];rfl
    ·rw[if_neg h]
     show none=_;rw[if_neg (fun h3=>h (h3 it mem_cons_self))]
theorem zfW{z:Str}(h:xa ja (pcs z)=none):rdC z=none:=by
 rw[uH] at h;unfold rdC;cases e:xa rdI (pcs z) with
 | none=>rfl
 | some c=>
  rw[e] at h;have h:(if ∀it∈c,x8 it<=30 then some c else none)=none:=h
  show(if okC c then some c else none)=none
  by_cases h2:∀it∈c,x8 it<=30
  ·rw[if_pos h2] at h;cases h
  ·rw[if_neg fun ok=>h2 ok.2.1]
theorem zfV{z:Str}{c:List yU}(h:xa ja (pcs z)=some c):rdC z=if c.length<=30/\(yL c).length<=60/\(yM c).length<=60 then some c else none:=by
 rw[uH] at h;unfold rdC;cases e:xa rdI (pcs z) with
 | none=>rw[e] at h;cases h
 | some c'=>
  rw[e] at h;have h:(if ∀it∈c',x8 it<=30 then some c' else none)=some c:=h
  show(if okC c' then some c' else none)=_
  by_cases h2:∀it∈c',x8 it<=30
  ·rw[if_pos h2] at h
   cases h;by_cases h3:c.length<=30/\(yL c).length<=60/\(yM c).length<=60
   ·rw[if_pos h3,if_pos ⟨h3.1,h2,h3.2⟩]
   ·rw[if_neg h3,if_neg fun ok=>h3 ⟨ok.1,ok.2.2⟩]
  ·rw[if_neg h2] at h;cases h
theorem zdS{K:Frag}{ok:Addr->Prop}{H:Hp}{x:V}{it:yU}(h:zS K ok H 3 x (yI it)):∃a ys,x=.ref a/\SqT K H a ys:=by
 cases it with
 | one t=>obtain⟨b,rfl,hb⟩:=vI h;exact⟨b,_,rfl,hb⟩
 | named n t=>obtain⟨b,rfl,hb⟩:=wu h;exact⟨b,_,rfl,hb⟩
 | row ts=>obtain⟨b,l,rfl,hb,_⟩:=vH h;exact⟨b,_,rfl,hb⟩
 | book ps=>obtain⟨b,l,ys,rfl,hb,_⟩:=wX h;exact⟨b,_,rfl,hb⟩
def szL(a b c d:Int):List (Key×V):=[(.inr "one",.int a),(.inr "row",.int b),(.inr "named",.int c),(.inr "book",.int d)]
def zi3(K:Frag):Sp:=fun vs H Q _=>∃z:Str,vs=[.str z]/\z.length<=100000/\(∀c,rdC z=some c->∀(a:Addr) (xs:List V) (H':Hp),zx H H'->H a=none->H' a=some (.lst xs)->Paired (zS K T' H' 3) xs (c.map yI)->Q (.ref a) H')/\(rdC z=none->∀H',zx H H'->Q .non H')
theorem jq:zD ["_law_text","_law_items_here","_law_sizes","_law_item","_law_size","_law_places","_law_names"] ["_law_text"] (zr zj5):=fsc
theorem zlL:([Str.ofString "_law_part"]:List Str).Nodup:=by decide +kernel
theorem zkC{f1 f2:Addr}{e1 e2:FuncData}(F:Fun K "_law_judged_call" "_law_judged_call" zj5 f fd)(hlen:mg "len"=none)(c1:z8 P w K mg base 1 "_law_parts" f1 e1 ["_law_text"] zfk)(c2:z8 P w K mg base 3 "_law_read_item" f2 e2 ["_law_part"] (ziZ K)):
  zL P w K mg base CX0 4 f fd ["_law_text"] (zi3 K):=by
 refine F.ok jq (fun cdv A outer s H vs Q E hr h=>?_);obtain⟨z,rfl,lz,q,qn⟩:=h;have hr1:yh 1 _:=hr.mono (by decide)
 have hr3:yh 3 _:=hr.mono (by decide)
 have hU:=hr.units;have hu1:=zdU hr;obtain⟨pl,pw⟩:=jM lz;refine zQ (zae (i:=1) [] ["_law_part"] [none] jq.nd rfl (Or.inl rfl) rfl ⟨rfl,rfl,rfl,rfl⟩ (ye (cF c1 hr1 (ac (pv 0) zi))) (z5 0) rfl rfl rfl (fun pins fp s H C=>⟨zF (i:=0) zlL rfl (Or.inl rfl) (.inr rfl),yA,cF c2 hr3 (ac (pv 0) zi)⟩)) ?_;refine⟨_,rfl,z,rfl,lz,fun l H1 s1 hl0 hl1=>?_⟩;refine⟨l,rfl,⟨_,zq hl1⟩,fun D hD=>?_⟩;have nD:H D=none:=s1.free hD;refine qu (pcs z) ja (fun H2 v it=>zS K (fun b=>H b=none/\b≠D) H2 3 v (yI it)) (fun s h=>h.same s)
  (fun hl h=>uK (.inr ⟨_,hl⟩) (fun b hb _=>⟨hb,hb.2⟩) h) hD (by omega) (zq hl1) ?_ ?_
 ·intro w H' C S sH hw hnD hC hn
  refine⟨fun _=>⟨_,rfl,w,rfl,pw w hw,fun it e v H4 s4 hv=>hC it v H4 e s4 ?_,hn⟩,fun z=>absurd z (by decide)⟩
  exact hv.frame (fun _ _ z=>z) fun b _ hb z=>⟨⟨(s1.trans sH).free hb,fun e=>hnD (e ▸ hb)⟩,z⟩
 intro vs H2 s2 hD2 hvs;have s12:=s1.trans s2;have fl:=uR (K:=K) (H:=H2) (Out:=fun v it=>zS K (fun b=>H b=none/\b≠D) H2 3 v (yI it)) (fun v it h=>.inr (zdS h)) hvs;dsimp only[yc];refine zQ (zJ (yv (xw (zw (zga hU) y9 (pv 1) (by with_unfolding_all rfl)) (yV (zw vq (cB zO hlen PySem.boot_len (ac (pv 1) zi)) zj (zE _))))) (zm (zB y9)) zz) ?_
 refine⟨_,rfl,D,vs,rfl,rfl,zq hD2,fl,_,rfl,?_⟩;rcases vY (Out:=fun v it=>zS K (fun b=>H b=none/\b≠D) H2 3 v (yI it)) (fun {v it} h e=>by obtain⟨a,ys,e2,_⟩:=zdS h;rw[e] at e2;cases e2) hvs with ⟨a1,a2⟩|⟨c,a1,a2,a3⟩
 ·refine wY a1 (yp ?_)
  exact qn (zfW a2) _ s12
 refine vt a1 ?_;have er:=zfV a2;have lv:vs.length=c.length:=a3.length;have hvs':Paired (zS K T' H2 3) vs (c.map yI):=zH (fun _ _ z=>z.frame (fun _ _ z=>z) fun b _ hb z=>⟨trivial,z⟩) (uA a3);refine⟨_,rfl,D,_,rfl,.inl (zq hD2),_,_,rfl,rfl,_,rfl,?_⟩;by_cases l30:c.length<=30
 rotate_left
 ·refine dT (show(vs.length:Int)>30 by omega) ?_
  exact qn (by rw[er,if_neg fun h=>l30 h.1]) _ s12
 refine dF (show ¬(vs.length:Int)>30 by omega) ?_
 refine zQ (zC (i:=2) jq.nd rfl (Or.inl rfl) (jK (yC zo zj (yC zo zj (yC zo zj (yC zo zj jJ)))) rfl rfl (by simp) (by decide))) ?_
 intro d hd;refine⟨zc,szL 0 0 0 0,rfl,(by show 4<=15;decide),?_⟩
 have t1:zx H2 (upd (upd H2 d (.dK [])) d (.dK (yK [] (szL 0 0 0 0)))):=by rw[xZ];exact zk hd _
 have e1':upd (upd H2 d (.dK [])) d (.dK (yK [] (szL 0 0 0 0))) d=some (.dK (szL 0 0 0 0)):=zc;dsimp only[yc];generalize upd (upd H2 d (.dK [])) d (.dK (yK [] (szL 0 0 0 0)))=H3 at t1 e1' |-;refine zQ (y8 PassesOwn.never rfl (ye (pv 1)) (zF (i:=3) jq.nd rfl (Or.inl rfl))
  (zp (zC (i:=4) jq.nd rfl (Or.inl rfl) zj)
  (zp (zJ (zw yF (zK ya (pv 3) zj (fun _ _=>rfl)) (zM (ac zo (ac zo zi))) (by with_unfolding_all rfl)) (zm (zC (i:=4) jq.nd rfl (Or.inl rfl) (cB zO hlen PySem.boot_len (ac (zK ya (pv 3) zj (fun _ _=>rfl)) zi)))) zz)
  (zm (zhD hu1 (pv 2) (zK ya (pv 3) zj (fun _ _=>rfl)) (zt yJ (wD hu1 (pv 2) (zK ya (pv 3) zj (fun _ _=>rfl)) (fun _ _=>rfl)) (pv 4)) rfl))))) ?_
 refine⟨_,rfl,D,rfl,⟨_,zq (t1 _ _ hD2)⟩,yO (K:=K) (a:=D) (xs:=vs) (fun i σ H4=>∃v3 v4,σ=[some (.str z),some (.ref D),some (.ref d),v3,v4,none,none]/\zx H2 H4/\∃a b e g:Int,H4 d=some (.dK (szL a b e g))/\a+b=(yL (c.take i)).length/\e+g=(yM (c.take i)).length)
  ⟨_,_,rfl,t1,0,0,0,0,e1',rfl,rfl⟩ (fun i σ H4 _ ⟨_,_,_,s4,_⟩=>zq (s4 _ _ hD2)) ?_ ?_⟩
 ·rintro i y σ H4 hy ⟨v3,v4,rfl,s4,a,b,e,g,hd4,ab,eg⟩
  obtain⟨it,hit,hsy⟩:=zb2 hvs' hy;have hsy:=hsy.same s4;have eT:=qv c i it hit;have eP:=qw c i it hit;have put:∀{H5:Hp}{kvs:List (Key×V)},zx H2 H5->(∀kvs',kvs'=kvs->zx H2 (upd H5 d (.dK kvs'))):=fun {H5 kvs} s5 kvs' _=>zU s5 hd _;cases it with
  | one t=>
   obtain⟨p,rfl,hb⟩:=vI hsy;refine⟨_,rfl,p,_,_,.str "one",rfl,rfl,hb,rfl,y7,fun r hrn=>⟨r,rbL,rfl,.inr (zI zc),rfl,(by decide),_,rfl,?_⟩⟩
   have s5:=zk hrn (.tup rbL);have hb5:=zx.sqT s5 hb;have hd5:=s5 _ _ hd4;refine vt (by decide +kernel) ?_
   refine⟨_,rfl,_,rfl,p,_,_,.str "one",rfl,rfl,hb5,rfl,d,.int a,rfl,.inl ⟨_,.inr "one",.inl hd5,rfl,rfl⟩,_,rfl,_,_,rfl,rfl,_,rfl,_,rfl,p,_,_,.str "one",rfl,rfl,hb5,rfl,d,_,rfl,.inl ⟨_,.inr "one",hd5,rfl,by show 4<sizeLine;decide,rfl⟩,?_⟩
   exact⟨_,_,rfl,zU (s4.trans s5) hd _,a+1,b,e,g,zc,by rw[eT,length_append];show a+1+b=((yL (c.take i)).length+1:Nat);omega,by rw[eP,length_append];show e+g=((yM (c.take i)).length+0:Nat);omega⟩
  | named n t=>
   obtain⟨p,rfl,hb⟩:=wu hsy;refine⟨_,rfl,p,_,_,.str "named",rfl,rfl,hb,rfl,y7,fun r hrn=>⟨r,rbL,rfl,.inr (zI zc),rfl,(by decide),_,rfl,?_⟩⟩
   have s5:=zk hrn (.tup rbL);have hb5:=zx.sqT s5 hb;have hd5:=s5 _ _ hd4;refine vt (by decide +kernel) ?_
   refine⟨_,rfl,_,rfl,p,_,_,.str "named",rfl,rfl,hb5,rfl,d,.int e,rfl,.inl ⟨_,.inr "named",.inl hd5,rfl,rfl⟩,_,rfl,_,_,rfl,rfl,_,rfl,_,rfl,p,_,_,.str "named",rfl,rfl,hb5,rfl,d,_,rfl,.inl ⟨_,.inr "named",hd5,rfl,by show 4<sizeLine;decide,rfl⟩,?_⟩
   exact⟨_,_,rfl,zU (s4.trans s5) hd _,a,b,e+1,g,zc,by rw[eT,length_append];show a+b=((yL (c.take i)).length+0:Nat);omega,by rw[eP,length_append];show e+1+g=((yM (c.take i)).length+1:Nat);omega⟩
  | row ts=>
   obtain⟨p,l',rfl,hb,_,hl'⟩:=vH hsy;refine⟨_,rfl,p,_,_,.str "row",rfl,rfl,hb,rfl,y7,fun r hrn=>⟨r,rbL,rfl,.inr (zI zc),rfl,(by decide),_,rfl,?_⟩⟩
   have s5:=zk hrn (.tup rbL);have hb5:=zx.sqT s5 hb;have hd5:=s5 _ _ hd4;refine wY (by decide +kernel) ?_
   refine⟨_,rfl,p,_,_,.ref l',rfl,rfl,hb5,rfl,l',_,rfl,.inl (zq (s5 _ _ hl')),?_⟩;refine⟨_,rfl,_,rfl,p,_,_,.str "row",rfl,rfl,hb5,rfl,d,.int b,rfl,.inl ⟨_,.inr "row",.inl hd5,rfl,rfl⟩,_,rfl,_,_,rfl,rfl,_,rfl,_,rfl,p,_,_,.str "row",rfl,rfl,hb5,rfl,d,_,rfl,.inl ⟨_,.inr "row",hd5,rfl,by show 4<sizeLine;decide,rfl⟩,?_⟩
   refine⟨_,_,rfl,zU (s4.trans s5) hd _,a,b+((ts.map V.int).length:Nat),e,g,zc,?_,by rw[eP,length_append];show e+g=((yM (c.take i)).length+0:Nat);omega⟩
   rw[eT,length_append,length_map];show a+(b+(ts.length:Nat))=((yL (c.take i)).length+ts.length:Nat);omega
  | book ps=>
   obtain⟨p,l',ys,rfl,hb,_,hl',hys⟩:=wX hsy;have ly:ys.length=ps.length:=by rw[hys.length,length_map]
   refine⟨_,rfl,p,_,_,.str "book",rfl,rfl,hb,rfl,y7,fun r hrn=>⟨r,rbL,rfl,.inr (zI zc),rfl,(by decide),_,rfl,?_⟩⟩
   have s5:=zk hrn (.tup rbL);have hb5:=zx.sqT s5 hb;have hd5:=s5 _ _ hd4;refine wY (by decide +kernel) ?_
   refine⟨_,rfl,p,_,_,.ref l',rfl,rfl,hb5,rfl,l',_,rfl,.inl (zq (s5 _ _ hl')),?_⟩;refine⟨_,rfl,_,rfl,p,_,_,.str "book",rfl,rfl,hb5,rfl,d,.int g,rfl,.inl ⟨_,.inr "book",.inl hd5,rfl,rfl⟩,_,rfl,_,_,rfl,rfl,_,rfl,_,rfl,p,_,_,.str "book",rfl,rfl,hb5,rfl,d,_,rfl,.inl ⟨_,.inr "book",hd5,rfl,by show 4<sizeLine;decide,rfl⟩,?_⟩
   refine⟨_,_,rfl,zU (s4.trans s5) hd _,a,b,e,g+(ys.length:Nat),zc,by rw[eT,length_append];show a+b=((yL (c.take i)).length+0:Nat);omega,?_⟩
   rw[eP,length_append,ly];show e+(g+(ps.length:Nat))=((yM (c.take i)).length+ps.length:Nat);omega
 rintro σ H4 ⟨v3,v4,rfl,s4,a,b,e,g,hd4,ab,eg⟩;rw[take_of_length_le (by omega)] at ab eg
 refine⟨_,zp (zC (i:=5) jq.nd rfl (Or.inl rfl) (zt yJ (wD hu1 (pv 2) zo (fun _ _=>rfl)) (wD hu1 (pv 2) zo (fun _ _=>rfl))))
  (zp (zC (i:=6) jq.nd rfl (Or.inl rfl) (zt yJ (wD hu1 (pv 2) zo (fun _ _=>rfl)) (wD hu1 (pv 2) zo (fun _ _=>rfl))))
  (zp (zJ (yv (xw (zw vq (pv 5) zj (zE _)) (yV (zw vq (pv 6) zj (zE _))))) (zm (zB y9)) zz)
  (zm (zB (pv 1))))),?_⟩
 refine⟨_,rfl,d,.int a,rfl,.inl ⟨_,.inr "one",.inl hd4,rfl,rfl⟩,_,rfl,d,.int b,rfl,.inl ⟨_,.inr "row",.inl hd4,rfl,rfl⟩,_,_,rfl,rfl,?_⟩;refine⟨_,rfl,d,.int e,rfl,.inl ⟨_,.inr "named",.inl hd4,rfl,rfl⟩,_,rfl,d,.int g,rfl,.inl ⟨_,.inr "book",.inl hd4,rfl,rfl⟩,_,_,rfl,rfl,?_⟩;refine⟨_,rfl,_,_,rfl,rfl,_,rfl,?_⟩;by_cases k1:(yL c).length<=60
 rotate_left
 ·refine dT (show a+b>60 by omega) (yp ?_)
  exact qn (by rw[er,if_neg fun h=>k1 h.2.1]) _ (s12.trans s4)
 refine dF (show ¬a+b>60 by omega) ?_
 refine⟨_,rfl,_,_,rfl,rfl,_,rfl,?_⟩;by_cases k2:(yM c).length<=60
 rotate_left
 ·refine dT (show e+g>60 by omega) ?_
  exact qn (by rw[er,if_neg fun h=>k2 h.2.2]) _ (s12.trans s4)
 refine dF (show ¬e+g>60 by omega) ?_
 exact⟨_,rfl,q c (by rw[er,if_pos ⟨l30,k1,k2⟩]) D vs H4 (s12.trans s4) nD (s4 _ _ hD2) (zH (fun _ _ z=>z.same s4) hvs')⟩
end
end K92
namespace L2
open PySem PySem.Spec PyProof.Rows
structure zg2(w:World)(K:Frag)(a:Addr)(f:Str->Option V):Prop where
 obj:∃es n,K.lookup a=some ⟨.type "dict",none,.dict es n,#[]⟩/\KeysLit w.params es.toList/\∀x,(f x=none/\PySem.findBy Value.isStrOf es x=none)\/∃v u,f x=some v/\PySem.findBy Value.isStrOf es x=some u/\yj v u
section
variable {X:Cx}
theorem zf4{e:Expr}{d:Str}{p apos cpos:Pos}{a:Addr}{f:Str->Option V}{te:TE}(T:zg2 X.w X.K a f)(hm:X.mg d=some (.ref a))(hsy:(a==sysModules)=false)(he:PE X e te)(m:M1 X (.Name d p) "get" apos e cpos)(hg:Gl X d:=by rfl)(hdb:(d==("__debug__" : Str))=false:=by decide):
  PE X (.Call (.Attribute (.Name d p) "get" apos) [e] [] cpos) (fun σ H Q=>te σ H fun y H1=>∃x,y=.str x/\Q ((f x).getD .non) H1):=by
 refine⟨?_⟩;intro pins s σ H Q I h;obtain⟨es,n,hl,hk,hv⟩:=T.obj;have hmap:=mapOf_K (prog:=X.prog) (w:=X.w) I.kIn hl hk;refine wpAny_Call_method m.base m.few m.line PySem.F.plainAttrs_dict PySem.F.slot_dict_get PySem.F.type_dict_get (yY I hg hm ?_ hdb);refine⟨hmap.typeIs,fun b eb=>⟨_,I.kIn _ _ (by cases eb;exact hl),rfl⟩,?_⟩
 rw[m.trees];refine Calls.callWith_builtin rfl (Calls.evalArgs_plain (Calls.spliced_cons (thn (he pins s σ H _ I h) fun iv s2 ⟨y,H2,I2,ry,x,ey,q2⟩=>Calls.spliced_nil ?_)));subst ey;obtain⟨t,rfl⟩:=ry;have hmap2:=mapOf_K (prog:=X.prog) (w:=X.w) I2.kIn hl hk;refine call_meetsIn PySem.F.slot_dict_get hmap2.typeIs PySem.F.entry_dict_get (PySem.F.args_dict_get_2 _ _) (meets_dict_get (strKind X.prog X.w) a (strKind_is X.prog X.w x t) hsy) ⟨_,hmap2,?_⟩;refine⟨(f x).getD .non,H2,I2.tok _,?_,q2⟩;rcases hv x with ⟨e1,e2⟩|⟨v,u,e1,e2,ru⟩
 ·rw[show PySem.findBy Value.isStrOf es x=none from e2,e1]
  rfl
 ·rw[show PySem.findBy Value.isStrOf es x=some u from e2,e1]
  exact ru
theorem zib{w:World}{K:Frag}{a:Addr}{n:Nat}{x0 x1 x2 x3 x4 y0 y1 y2 y3 y4:Str}{t0 t1 t2 t3 t4 u0 u1 u2 u3 u4:Tok}{h0 h1 h2 h3 h4:Int}
  (hl:K.lookup a=some ⟨.type "dict",none,.dict #[⟨h0,.str x0 t0,.str y0 u0⟩,⟨h1,.str x1 t1,.str y1 u1⟩,⟨h2,.str x2 t2,.str y2 u2⟩,⟨h3,.str x3 t3,.str y3 u3⟩,⟨h4,.str x4 t4,.str y4 u4⟩] n,#[]⟩)
  (hk:KeysLit w.params [⟨h0,.str x0 t0,.str y0 u0⟩,⟨h1,.str x1 t1,.str y1 u1⟩,⟨h2,.str x2 t2,.str y2 u2⟩,⟨h3,.str x3 t3,.str y3 u3⟩,⟨h4,.str x4 t4,.str y4 u4⟩]) :
  zg2 w K a fun x=>([(x0,V.str y0),(x1,.str y1),(x2,.str y2),(x3,.str y3),(x4,.str y4)]:List (Str×V)).lookup x:=by
 refine⟨_,n,hl,hk,fun x=>?_⟩;have e:∀(a b:Str),Value.isStrOf a (.str b 0)=(b==a):=fun _ _=>rfl;have go:∀(l:List (Int×Str×Tok×Str×Tok)),((l.map fun q=>(q.2.1,V.str q.2.2.2.1)).lookup x=none/\PySem.findBy Value.isStrOf (l.map fun q=>(⟨q.1,.str q.2.1 q.2.2.1,.str q.2.2.2.1 q.2.2.2.2⟩:DictEntry)).toArray x=none)\/∃v u,(l.map fun q=>(q.2.1,V.str q.2.2.2.1)).lookup x=some v/\PySem.findBy Value.isStrOf (l.map fun q=>(⟨q.1,.str q.2.1 q.2.2.1,.str q.2.2.2.1 q.2.2.2.2⟩:DictEntry)).toArray x=some u/\yj v u:=by
  intro l;induction l with
  | nil=>exact .inl ⟨rfl,rfl⟩
  | cons q r ih=>
   unfold PySem.findBy at ih |-;simp only[List.find?_toArray,map_cons,lookup_cons,find?_cons] at ih |-;by_cases hx:x=q.2.1
   ·subst hx
    have:Value.isStrOf q.2.1 (.str q.2.1 q.2.2.1)=true:=by show(q.2.1==q.2.1)=true;simp
    rw[this];simp only[beq_self_eq_true];exact .inr ⟨_,_,rfl,rfl,⟨_,rfl⟩⟩
   ·have h1:Value.isStrOf x (.str q.2.1 q.2.2.1)=false:=by show(q.2.1==x)=false;rw[beq_eq_false_iff_ne];exact fun z=>hx z.symm
    rw[h1,beq_eq_false_iff_ne.mpr hx];exact ih
 exact go [(h0,x0,t0,y0,u0),(h1,x1,t1,y1,u1),(h2,x2,t2,y2,u2),(h3,x3,t3,y3,u3),(h4,x4,t4,y4,u4)]
theorem zj8{X:Cx}{pins:PnL}{σ : St}{e:Expr}{te:TE}{pos:Pos}(he:PE1 X pins σ e te):PS1 X pins σ (.Return (some e) pos) (zee te):=
 ⟨fun s H D I h=>wpAny_Return_some (thn (he.run s H _ I h) fun v s1 ⟨x,H1,I1,r1,q1⟩=>⟨x,σ,H1,I1,r1,q1⟩)⟩
theorem zcN(x y:Str):∃k,k<=(sg x).length/\sg (Txt.rstripChars x y)=(sg x).take k:=by
 obtain⟨_,h0,_,_⟩:=hi_facts y.cps.contains x 0 (zero_le _);unfold Txt.rstripChars;rw[stripBy_eq];show ∃k,k<=(sg x).length/\sg (PySem.Builtin.Str.strSub x 0 (stripHi y.cps.contains true x 0))=(sg x).take k;refine⟨stripHi y.cps.contains true x 0,by rw[<- zN];exact h0,?_⟩
 rw[show sg (PySem.Builtin.Str.strSub x 0 (stripHi y.cps.contains true x 0))=_ from PySem.StrLaws.strSub_toList _ _ _];rfl
end
end L2
namespace K92
open PySem L2 PyProof.Rows
def kOf(e:Str):Option Nat:=([(("!" : Str),0),("",1),("..",2),(":",3),("::",4)]:List (Str×Nat)).lookup e
def rst(h:Str):Str:=Txt.rstripChars h sgn
def uT(h:Str):Str:=Txt.slice h (some ((rst h).length:Int)) none
def uQ(k:Nat)(n:Str)(fb:Bool):Option Rw:=if tk k=true then some ⟨k,n,fb⟩ else if fb=true then none else some ⟨k,n,true⟩
def vB(h:Str)(fb:Bool):Option Rw:=if zV (rst h)=true then (kOf (uT h)).bind fun k=>uQ k (rst h) fb else none
theorem qy{e:Str}{k:Nat}(h:kOf e=some k):k<5/\e=yT k:=by
 unfold kOf at h;by_cases e0:e="!"
 ·subst e0;cases h;exact⟨by decide,rfl⟩
 rw[lookup_cons,beq_eq_false_iff_ne.mpr e0] at h;by_cases e1:e=""
 ·subst e1;cases h;exact⟨by decide,rfl⟩
 rw[lookup_cons,beq_eq_false_iff_ne.mpr e1] at h;by_cases e2:e=".."
 ·subst e2;cases h;exact⟨by decide,rfl⟩
 rw[lookup_cons,beq_eq_false_iff_ne.mpr e2] at h;by_cases e3:e=":"
 ·subst e3;cases h;exact⟨by decide,rfl⟩
 rw[lookup_cons,beq_eq_false_iff_ne.mpr e3] at h;by_cases e4:e="::"
 ·subst e4;cases h;exact⟨by decide,rfl⟩
 rw[lookup_cons,beq_eq_false_iff_ne.mpr e4] at h;cases h
theorem zic:∀k:Nat,k<5->kOf (yT k)=some k:=by decide +kernel
theorem zmu(e:Str):([(("!" : Str),V.str "seat"),("",.str "both"),("..",.str "tail"),(":",.str "tag"),("::",.str "bag")]:List (Str×V)).lookup e=(kOf e).map fun k=>V.str (kw k):=by
 unfold kOf;by_cases e0:e="!"
 ·subst e0;rfl
 by_cases e1:e=""
 ·subst e1;rfl
 by_cases e2:e=".."
 ·subst e2;rfl
 by_cases e3:e=":"
 ·subst e3;rfl
 by_cases e4:e="::"
 ·subst e4;rfl
 simp only[lookup_cons,beq_eq_false_iff_ne.mpr e0,beq_eq_false_iff_ne.mpr e1,beq_eq_false_iff_ne.mpr e2,beq_eq_false_iff_ne.mpr e3,beq_eq_false_iff_ne.mpr e4];rfl
theorem zaU(h:Str):sg h=sg (rst h)++sg (uT h):=by
 obtain⟨k,hk,e⟩:=zcN h sgn;have e:sg (rst h)=(sg h).take k:=e;have l:(rst h).length=k:=by rw[zN,e,length_take];omega
 have e2:sg (uT h)=(sg h).drop k:=by
  unfold uT;rw[l];exact uu h k
 rw[e,e2,take_append_drop]
theorem zka{n:Str}(hn:zV n=true)(k:Nat):rst (n++yT k)=n/\uT (n++yT k)=yT k:=by
 have er:rst (n++yT k)=n:=zek (b:=yT k) rfl (fun c hc h=>by
  have:=zdN hn c hc
  have h':c∈[33,46,58]:=h;simp at h'
  omega) (zkR k)
 refine⟨er,xF ?_⟩
 have:=zaU (n++yT k)
 rw[er,xG] at this;exact(List.append_cancel_left this).symm
theorem zfR{n:Str}{k:Nat}{fb:Bool}(hn:zV n=true)(hk:k<5):vB (n++yT k) fb=uQ k n fb:=by
 obtain⟨e1,e2⟩:=zka hn k;unfold vB;rw[e1,e2,if_pos hn,zic k hk];rfl
theorem zfS{h:Str}{fb:Bool}(hx:∀n k,zV n=true->k<5->h≠n++yT k):vB h fb=none:=by
 unfold vB;cases e:zV (rst h) with
 | false=>rfl
 | true=>
  rw[if_pos rfl];cases e2:kOf (uT h) with
  | none=>rfl
  | some k=>
   obtain⟨k5,ek⟩:=qy e2;refine absurd (xF ?_) (hx (rst h) k e k5);rw[xG,<- ek];exact zaU h
theorem zdP{k:Nat}{n:Str}{fb:Bool}{r:Rw}(hk:k<5)(hn:zV n=true)(h:uQ k n fb=some r):r.ok/\r.k=k/\r.z=n:=by
 unfold uQ at h;split at h
 ·cases h;exact⟨⟨hk,hn⟩,rfl,rfl⟩
 ·split at h
  ·cases h
  ·cases h;exact⟨⟨hk,hn⟩,rfl,rfl⟩
theorem zbD{h:Str}{fb:Bool}{r:Rw}(e:vB h fb=some r):r.ok:=by
 unfold vB at e;cases en:zV (rst h) with
 | false=>rw[en] at e;cases e
 | true=>
  rw[en,if_pos rfl] at e;cases e2:kOf (uT h) with
  | none=>rw[e2] at e;cases e
  | some k=>rw[e2] at e;exact(zdP (qy e2).1 en e).1
structure zjn(w:World)(K:Frag)(mg:Str->Option Value)(SA LA:Addr):Prop where
 len:mg "len"=none
 sg_:∃t,mg "SIGNS_OF_ENDS"=some (.str sgn t)
 ms:mg "SORTS"=some (.ref SA)
 st:zg2 w K SA fun x=>([(("!" : Str),V.str "seat"),("",.str "both"),("..",.str "tail"),(":",.str "tag"),("::",.str "bag")]:List (Str×V)).lookup x
 sy:(SA==sysModules)=false
 ml:mg "OF_ALL_LEFT_OVER"=some (.ref LA)
 hl:∀H,SqT K H LA lfL
def zaK(c:C5)(NT:Addr):Sp:=fun vs H Q E=>∃(h:Str) (fb:Bool),vs=[.str h,.bl fb]/\h.length<=100000/\(∀r,vB h fb=some r->∀(o:Addr) (H':Hp),zx H H'->PAt c H' o r->Q (.ref o) H')/\(vB h fb=none->∀H',zx H H'->E (.ref NT) none H')
structure zmj(K:Frag)(TM BO N TW CE:Addr):Prop where
 t:exmOne K (.ref TM) (.ref CE)=some true
 b:exmOne K (.ref BO) (.ref CE)=some true
 n:exmOne K (.ref N) (.ref CE)=some true
 w:exmOne K (.ref TW) (.ref CE)=some true
def zfn(c:C5)(CF NT:Addr):Sp:=fun vs H Q E=>∃(a b:Addr) (ps:List Addr) (rows:List Rw) (bars:List Str),vs=[.ref a,.ref b]/\H a=some (.lst (ps.map V.ref))/\Paired (PAt c H) ps rows/\(∀r∈rows,r.ok)/\rows.length<=400/\H b=some (.lst (bars.map V.str))/\bars.length<=400/\(∀z∈bars,z.length<=100000)/\
 (x9 rows (bars.map V.str)=.done->∀(x:Addr) (H':Hp),zx H H'->zg3 c CF H' x rows bars->Q (.ref x) H')/\(x9 rows (bars.map V.str)≠.done->∀H',zx H H'->E (.ref NT) none H')
section
variable {P:Program}{w:World}{K:Frag}{mg:Str->Option Value}{base:Heap}{f SA LA CE CF NT TM BO N TW:Addr}{fd:FuncData}{c:C5}
theorem zcz:zD ["text","free","name","word"] ["text","free"] (zr zjI):=fsc
theorem zhV{f1 f2:Addr}{e1 e2:FuncData}(F:Fun K "read_parameter" "read_parameter" zjI f fd)(T:zjn w K mg SA LA)(pc:jl K mg base "NoText" NT)(c1:z8 P w K mg base 1 "is_name" f1 e1 ["thing"] (zfm K))(c2:z8 P w K mg base 5 "parameter_of" f2 e2 ["told"] (zfg K c)):
  zL P w K mg base (CXe P w) 6 f fd ["text","free"] (zaK c NT):=by
 refine F.okE zcz (fun vs H Q E h=>?_) (fun cdv A outer s H vs Q E hr h=>?_)
 ·obtain⟨r,fb,rfl,_⟩:=h
  rfl
 obtain⟨h,fb,rfl,lh,q,qn⟩:=h;have hr1:yh 1 _:=hr.mono (by decide)
 have hr5:yh 5 _:=hr.mono (by decide)
 obtain⟨t1,sg1⟩:=T.sg_;refine⟨_,zp (zC (i:=2) zcz.nd rfl (Or.inl rfl) (z7 PySem.F.plainAttrs_str PySem.F.slot_str_rstrip PySem.F.type_str_rstrip zcX (pv 0) (ac (z6 (v:=.str sgn) rfl sg1 ⟨_,rfl⟩) zi)))
  (zp (zC (i:=3) zcz.nd rfl (Or.inl rfl) (zf4 T.st T.ms T.sy (zR yy (pv 0) (zT (cB yg T.len PySem.boot_len (ac (pv 2) zi))) ym) ⟨rfl,rfl,rfl,rfl⟩))
  (zp (zJ (yv (xw (wI (vC (pv 3))) (yV (xI (yx (cF c1 hr1 (ac (pv 2) zi))))))) (zm (ui pc)) zz)
  (zp (zJ (zw xl (pv 3) (z6 (v:=.ref LA) rfl T.ml rfl) (by with_unfolding_all rfl)) (zm (zB (cF c2 hr5 (ac (zM (ac (pv 3) (ac (pv 2) (ac (pv 1) zi)))) zi)))) zz)
  (zp (zJ (yx (pv 1)) (zm (ui pc)) zz)
  (zm (zB (cF c2 hr5 (ac (zM (ac (pv 3) (ac (pv 2) zi))) zi)))))))),?_⟩
 have ln:(rst h).length<=h.length:=by
  have:=congrArg List.length (zaU h)
  rw[length_append,<- zN,<- zN] at this;omega
 refine⟨_,rfl,rfl,h,sgn,rfl,rfl,by rw[sizeLine_eq];omega,?_⟩
 refine⟨_,rfl,_,rfl,rst h,rfl,by rw[sizeLine_eq];omega,_,rfl,h,rfl,by rw[sizeLine_eq];omega,uT h,rfl,?_⟩
 rw[zmu];unfold vB at q qn;dsimp only[yc];cases ek:kOf (uT h) with
 | none=>
  refine⟨_,rfl,_,rfl,?_⟩;refine yp (yp ?_);exact qn (by rw[ek];split <;> rfl) _ (zx.refl _)
 | some k=>
  obtain⟨k5,ee⟩:=qy ek;rw[show((Option.map (fun k=>V.str (kw k)) (some k)).getD V.non)=V.str (kw k) from rfl];refine⟨_,rfl,_,rfl,?_⟩;refine yb ?_;refine⟨_,rfl,_,rfl,.inl ⟨rst h,rfl,(by show _<=100000;omega)⟩,fun H1 s1=>⟨_,rfl,?_⟩⟩
  cases en:zV (rst h) with
  | false=>
   rw[show nmV (.str (Txt.rstripChars h sgn))=false from en];refine yp ?_;exact qn (by rw[en];rfl) _ s1
  | true=>
   rw[show nmV (.str (Txt.rstripChars h sgn))=true from en];refine yb ?_;rw[en,if_pos rfl,ek] at q qn;have q:∀r,uQ k (rst h) fb=some r->∀(o:Addr) (H':Hp),zx H H'->PAt c H' o r->Q (.ref o) H':=q;have qn:uQ k (rst h) fb=none->∀H',zx H H'->E (.ref NT) none H':=qn;refine⟨_,rfl,LA,lfL,rfl,.inr (T.hl H1),rfl,by decide,_,rfl,?_⟩
   rw[show(if true=true then !inV (V.str (kw k)) lfL else inV (V.str (kw k)) lfL)=tk k by rw[if_pos rfl,zlW k k5,Bool.not_not]]
   have fin:∀(r:Rw) (u:Addr) (H2:Hp),uQ k (rst h) fb=some r->zx H1 H2->H2 u=some (.tup (rv r))->zfg K c [.ref u] H2 Q E0:=fun r u H2 e s2 hu=>by
    obtain⟨rok,rk,rz⟩:=zdP k5 en e;exact⟨u,r.k,.str r.z,r.b,rfl,rok.1,hu,.inl ⟨r.z,rfl,zgt rok.2⟩,rok.2,fun o dx H3 s3 ho=>q r e o H3 (s1.trans (s2.trans s3)) ⟨dx,ho⟩⟩
   cases et:tk k
   ·refine yb ?_
    refine⟨_,rfl,_,rfl,?_⟩;cases fb with
    | true=>
     refine yp ?_;exact qn (by unfold uQ;rw[et];rfl) _ s1
    | false=>
     refine yb ?_;refine⟨_,rfl,_,rfl,y7,fun u hu=>fin ⟨k,rst h,true⟩ u _ (by unfold uQ;rw[et];rfl) (zk hu _) ?_⟩
     rw[zc,zfM (r:=⟨k,rst h,true⟩) k5 et];rfl
   ·refine yp ?_
    refine⟨_,rfl,_,rfl,_,rfl,zbu,fun u hu=>fin ⟨k,rst h,fb⟩ u _ (by unfold uQ;rw[et];rfl) (zk hu _) ?_⟩
    rw[zc,zbB (r:=⟨k,rst h,fb⟩) k5 et];rfl
theorem zlm:zD ["parameters","bars"] ["parameters","bars"] (zr sFO):=fsc
theorem zkE{gF:Addr}{eF:FuncData}(F:Fun K "form_of" "form_of" sFO f fd)(pc:jl K mg base "NoText" NT)(hce:mg "CallError"=some (.ref CE))(X':zmj K TM BO N TW CE)(mCF:mg "Form"=some (.ref CF))(MF:Mk K CF gF)(GF:zL P w K mg base (CXs P w) 4 gF eF ["self","parameters","bars"] (zfo K c CF TM BO N TW))(bF:yt K eF ["self","parameters","bars"] []):
  zL P w K mg base (CXe P w) 6 f fd ["parameters","bars"] (zfn c CF NT):=by
 refine F.okE zlm (fun vs H Q E h=>?_) (fun cdv A outer s H vs Q E hr h=>?_)
 ·obtain⟨a,b,ps,rows,bars,rfl,_⟩:=h
  rfl
 obtain⟨a,b,ps,rows,bars,rfl,ha,hp,hok,l1,hb,l2,lb,q,qn⟩:=h;refine⟨_,zm (zhC rfl rfl (zf0 rfl rfl (zdG fun _ _ _ z=>z) rfl hce pc.own pc.ex pc.xm pc.kp PySem.F.excBase_ValueError (by decide) PySem.F.excBase_ValueError (fun ea=>ac zo zi))
  (fun pins σ xe E hp=>zj8 (zhM MF GF hr rfl mCF bF .nil hp (ac (pv 0) (ac (pv 1) zi))))),?_⟩
 refine⟨_,rfl,_,rfl,fun x dx hx hdx hne=>?_⟩;have smk:zx H (upd (upd H dx (.own x)) x (.ins CF dx [])):=xt hx hdx;have hx1:upd (upd H dx (.own x)) x (.ins CF dx []) x=some (.ins CF dx []):=zc;generalize upd (upd H dx (.own x)) x (.ins CF dx [])=H1 at smk hx1 |-;refine⟨x,a,b,dx,ps,rows,bars.map V.str,rfl,hx1,smk _ _ ha,vU smk hp,hok,l1,smk _ _ hb,by rw[length_map];exact l2,fun y hy=>?_,?_⟩
 ·obtain⟨z,hz,rfl⟩:=List.mem_map.mp hy
  exact .inl ⟨z,rfl,lb z hz⟩
 generalize ez:x9 rows (bars.map V.str)=z at q qn |-;have rs:∀(C:Addr) (od:Option Addr) (H2:Hp),z≠.done->exmOne K (.ref C) (.ref CE)=some true->zx H1 H2->∃C',(Value.ref C:Value)=.ref C'/\∀t ea,H2 ea=none->zgA K CE NT (xM (tC (.str "there is no such form")) jB) E (fun _ _ _ _ _ _ _=>False) C' od t ea { nx:=fun _ H'=>Q .non H',rt:=Q } [some (.ref a),some (.ref b)] H2:=fun C od H2 hz ex s2=>
  ⟨C,rfl,fun t ea hea=>.inl ⟨ex,by show 1<=sizeLine;decide,zc,qn hz _ (smk.trans (s2.trans (zk hea _)))⟩⟩
 cases z with
 | many=>exact fun od H2 s2=>rs TM od H2 (by intro e;cases e) X'.t s2
 | order k=>exact fun d H2 s2 _=>rs BO (some d) H2 (by intro e;cases e) X'.b s2
 | name=>exact fun od H2 s2=>rs N od H2 (by intro e;cases e) X'.n s2
 | twice z=>exact fun d H2 s2 _=>rs TW (some d) H2 (by intro e;cases e) X'.w s2
 | done=>
  intro bars' H2 exs sx F2;obtain rfl:bars=bars':=List.map_inj_right (fun _ _ e=>V.str.inj e) |>.mp exs
  have s2:zx H H2:=fun b' u e=>sx b' u (smk _ _ e) (zu e hx);refine⟨rfl,q rfl x H2 s2 ⟨?_,by omega,by omega,hok⟩⟩
  exact let ⟨dx,fs,lr,lb,ld,ps,h1,h2,h3,h4,h5,h6,_,_⟩:=F2;⟨dx,fs,lr,lb,ld,ps,h1,h2,h3,h4,h5,h6⟩
def wx:Rz->Bool
 | .done=>true
 | _=>false
theorem uF{z:Rz}:wx z=true ↔ z=.done:=by cases z <;> simp [wx]
def xS(w:Str):Bool:=decide ((sg w).getLast?=some 63)
def vm(w:Str):Str:=if xS w=true then Txt.slice w none (some (-1)) else w
def u8(w:Str):Option Rw:=vB (vm w) (xS w)
def vf:List Str->List Rw->List Str->Option (List Rw×List Str)
 | [],rows,bars=>some (rows,bars)
 | w::ws,rows,bars=>if (sg w).head?=some 45 then vf ws rows (bars++[Txt.slice w (some 1) none]) else if bars≠[] then none else match u8 w with
  | none=>none
  | some r=>vf ws (rows++[r]) bars
theorem qf{w:Str}{ws:List Str}{rows:List Rw}{bars:List Str}(h:(sg w).head?=some 45):vf (w::ws) rows bars=vf ws rows (bars++[Txt.slice w (some 1) none]):=by show(if _ then _ else _)=_;rw[if_pos h]
theorem vS{w:Str}{ws:List Str}{rows:List Rw}{bars:List Str}(h:(sg w).head?≠some 45)(hb:bars≠[]):vf (w::ws) rows bars=none:=by show(if _ then _ else _)=_;rw[if_neg h,if_pos hb]
theorem zdz{w:Str}{ws:List Str}{rows:List Rw}(h:(sg w).head?≠some 45)(hb:u8 w=none):vf (w::ws) rows []=none:=by show(if _ then _ else _)=_;rw[if_neg h,if_neg (fun z=>z rfl),hb]
theorem zbI{w:Str}{ws:List Str}{rows:List Rw}{r:Rw}(h:(sg w).head?≠some 45)(hb:u8 w=some r):vf (w::ws) rows []=vf ws (rows++[r]) []:=by show(if _ then _ else _)=_;rw[if_neg h,if_neg (fun z=>z rfl),hb]
def rdF(z:Str):Option (List Rw×List Str):=(vf (pcs z) [] []).bind fun p=>if wx (x9 p.1 (p.2.map V.str))=true then some p else none
theorem zdV(w:Str):(vm w).length<=w.length:=by
 unfold vm;split
 ·exact slice_le _ _ _
 ·exact le_refl _
def zjy(K:Frag)(c:C5)(CF NT:Addr):Sp:=fun vs H Q E=>∃x:V,vs=[x]/\((∃z:Str,x=.str z/\z.length<=100000/\(pcs z).length<=400/\(∀p,rdF z=some p->∀(o:Addr) (H':Hp),zx H H'->zg3 c CF H' o p.1 p.2->Q (.ref o) H')/\(rdF z=none->∀H',zx H H'->E (.ref NT) none H'))\/(jt K H x/\∀H',zx H H'->E (.ref NT) none H'))
theorem zby:zD ["text","parameters","bars","piece","free"] ["text"] (zr zjL):=fsc
theorem zlF{f1 f2 f3:Addr}{e1 e2 e3:FuncData}(F:Fun K "read_form" "read_form" zjL f fd)(pc:jl K mg base "NoText" NT)(c1:yw P w K mg base 1 "pieces" f1 e1 ["text"] (zaJ K NT))(c2:yw P w K mg base 6 "read_parameter" f2 e2 ["text","free"] (zaK c NT))(c3:yw P w K mg base 6 "form_of" f3 e3 ["parameters","bars"] (zfn c CF NT)):
  zL P w K mg base (CXe P w) 7 f fd ["text"] (zjy K c CF NT):=by
 refine F.okE zby (fun vs H Q E h=>?_) (fun cdv A outer s H vs Q E hr h=>?_)
 ·obtain⟨x,rfl,_⟩:=h
  rfl
 obtain⟨x,rfl,h⟩:=h;have hr1:yh 1 _:=hr.mono (by decide)
 have hr6:yh 6 _:=hr.mono (by decide)
 refine⟨_,zp (zC (i:=1) zby.nd rfl (Or.inl rfl) (zP zi)) (zp (zC (i:=2) zby.nd rfl (Or.inl rfl) (zP zi))
  (zp (y8 PassesOwn.leaving rfl (ye (cE c1 (jr fun _ _ _ z=>z) hr1 (ac (pv 0) zi))) (zF (i:=3) zby.nd rfl (Or.inl rfl))
   (zm (zJ (yx (z7 PySem.F.plainAttrs_str PySem.F.slot_str_startswith PySem.F.type_str_startswith vX (pv 3) (ac zo zi)))
    (zm (zW (z7 PySem.F.plainAttrs_list PySem.F.slot_list_append PySem.F.type_list_append z9 (pv 2) (ac (zR yy (pv 3) (zT zj) ym) zi))))
    (zm (zJ (qg (pv 2) (fun _=>rfl)) (zm (ui pc))
     (zp (zC (i:=4) zby.nd rfl (Or.inl rfl) (z7 PySem.F.plainAttrs_str PySem.F.slot_str_endswith PySem.F.type_str_endswith za5 (pv 3) (ac zo zi)))
     (zm (zW (z7 PySem.F.plainAttrs_list PySem.F.slot_list_append PySem.F.type_list_append z9 (pv 1) (ac (cE c2 (jr fun _ _ _ z=>z) hr6 (ac (xQ (yx (pv 4)) (zR yy (pv 3) ym (zT (qh ur zj))) (pv 3)) (ac (pv 4) zi))) zi))))))))))
  (zm (zB (cE c3 (jr fun _ _ _ z=>z) hr6 (ac (pv 1) (ac (pv 2) zi))))))),?_⟩
 refine⟨vc,fun l1 h1=>?_⟩;refine⟨vc,fun l2 h2=>?_⟩;have n12:l1≠l2:=zu zc h2;have f2:H l2=none:=(zk h1 _).free h2;have s0:zx H (upd (upd H l1 (.lst [])) l2 (.lst [])):=(zk h1 _).trans (zk h2 _);have g1:upd (upd H l1 (.lst [])) l2 (.lst []) l1=some (.lst []):=by rw[zv n12,zc]
 have g2:upd (upd H l1 (.lst [])) l2 (.lst []) l2=some (.lst []):=zc;show jA _ _ _ _ (upd (upd H l1 (.lst [])) l2 (.lst []));generalize upd (upd H l1 (.lst [])) l2 (.lst [])=H0 at s0 g1 g2 |-;rcases h with ⟨z,rfl,lz,l400,q,qn⟩|⟨⟨t,ty,kk⟩,qn⟩
 rotate_left
 ·exact⟨_,rfl,_,rfl,.inr ⟨⟨t,u5 s0 ty,kk⟩,qn _ s0⟩⟩
 obtain⟨_,pw⟩:=jM lz;refine⟨_,rfl,_,rfl,.inl ⟨z,rfl,lz,fun l H1 s1 hl0 hl=>?_⟩⟩;have nl1:l1≠l:=fun e=>by rw[e,hl0] at g1;cases g1
 have nl2:l2≠l:=fun e=>by rw[e,hl0] at g2;cases g2
 have s01:=s0.trans s1;refine⟨l,rfl,⟨_,zq hl⟩,yO (K:=K) (a:=l) (xs:=(pcs z).map V.str) (fun i σ H2=>∃v3 v4 ps rows bars,σ=[some (.str z),some (.ref l1),some (.ref l2),v3,v4]/\zx H H2/\H2 l=some (.lst ((pcs z).map V.str))/\H2 l1=some (.lst (ps.map V.ref))/\Paired (PAt c H2) ps rows/\H2 l2=some (.lst (bars.map V.str))/\vf ((pcs z).drop i) rows bars=vf (pcs z) [] []/\(∀r∈rows,r.ok)/\rows.length<=i/\bars.length<=i/\∀y∈bars,y.length<=100000)
  ⟨_,_,[],[],[],rfl,s01,hl,s1 _ _ g1,.nil,s1 _ _ g2,rfl,(fun _ h=>by cases h),le_refl _,le_refl _,(fun _ h=>by cases h)⟩ (fun i σ H2 _ ⟨_,_,_,_,_,_,_,h,_⟩=>zq h) ?_ ?_⟩
 ·rintro i y σ H2 hi ⟨v3,v4,ps,rows,bars,rfl,s2,e0,e1,hp,e2,er,hok,lr,lb,hb⟩
  rw[getElem?_map] at hi;cases ew:(pcs z)[i]? with
  | none=>rw[ew] at hi;cases hi
  | some wd=>
   rw[ew] at hi;obtain rfl:V.str wd=y:=by simpa using hi
   have hil:i<(pcs z).length:=(List.getElem?_eq_some_iff.mp ew).1;have lw:=pw wd (mem_of_getElem? ew);rw[uV ew] at er;refine⟨_,rfl,rfl,wd,_,rfl,rfl,_,rfl,?_⟩;rw[w9 (c:=45) rfl];by_cases hd:(sg wd).head?=some 45
   ·refine wY (decide_eq_true hd) ?_
    rw[qf hd] at er;refine⟨_,rfl,.inl ⟨rfl,_,zq e2⟩,_,rfl,_,rfl,wd,rfl,by rw[sizeLine_eq];omega,?_⟩
    refine⟨l2,_,_,rfl,rfl,e2,by rw[length_map,sizeLine_eq];omega,_,_,ps,rows,bars++[Txt.slice wd (some 1) none],rfl,zU s2 f2 _,by rw[zv nl2.symm];exact e0,by rw[zv n12];exact e1,zH (fun _ _ z=>PAt.upd z e2) hp,by rw[zc,map_append];rfl,er,hok,by omega,by rw[length_append];show _+1<=_;omega,fun y hy=>?_⟩
    rcases List.mem_append.mp hy with hy|hy
    ·exact hb y hy
    ·have:y=Txt.slice wd (some 1) none:=by simpa using hy
     rw[this];exact le_trans (slice_le _ _ _) lw
   refine vt (decide_eq_false hd) ?_;cases bars with
   | cons b0 br=>
    refine⟨_,rfl,true,.inl ⟨_,zq e2,rfl⟩,?_⟩;refine yp ?_;rw[vS hd (cons_ne_nil _ _)] at er;exact qn (by unfold rdF;rw[<- er];rfl) _ s2
   | nil=>
    refine⟨_,rfl,false,.inl ⟨_,zq e2,rfl⟩,?_⟩;refine yb ?_;refine⟨_,rfl,rfl,wd,_,rfl,rfl,?_⟩;rw[qE (c:=63) rfl];dsimp only[yc];refine⟨_,rfl,.inl ⟨rfl,_,zq e1⟩,?_⟩;have lh:=zdV wd;have cal:zaK c NT [.str (vm wd),.bl (xS wd)] H2 (fun v H3=>∃(a:Addr) (xs:List V) (x:V),V.ref l1=.ref a/\[v]=[x]/\H3 a=some (.lst xs)/\xs.length<sizeLine/\∃v3 v4 ps rows bars,[some (V.str z),some (.ref l1),some (.ref l2),some (V.str wd),some (.bl (xS wd))]=[some (.str z),some (.ref l1),some (.ref l2),v3,v4]/\zx H (upd H3 a (.lst (xs++[x])))/\upd H3 a (.lst (xs++[x])) l=some (.lst ((pcs z).map V.str))/\upd H3 a (.lst (xs++[x])) l1=some (.lst (ps.map V.ref))/\Paired (PAt c (upd H3 a (.lst (xs++[x])))) ps rows/\upd H3 a (.lst (xs++[x])) l2=some (.lst (bars.map V.str))/\vf ((pcs z).drop (i+1)) rows bars=vf (pcs z) [] []/\(∀r∈rows,r.ok)/\rows.length<=i+1/\bars.length<=i+1/\∀y∈bars,y.length<=100000) E:=by
     refine⟨vm wd,xS wd,rfl,by omega,fun r e o H3 s3 ho=>?_,fun e H3 s3=>?_⟩
     ·rw[zbI hd e] at er
      refine⟨l1,_,_,rfl,rfl,s3 _ _ e1,by rw[length_map,hp.length,sizeLine_eq];omega,_,_,ps++[o],rows++[r],[],rfl,zU (s2.trans s3) h1 _,by rw[zv nl1.symm];exact s3 _ _ e0,by rw[zc,map_append];rfl,?_,by rw[zv n12.symm];exact s3 _ _ e2,er,fun x hx=>?_,by rw[length_append];show _+1<=_;omega,by simp,hb⟩
      ·exact Paired.snoc (zH (fun _ _ z=>PAt.upd (z.same s3) (s3 _ _ e1)) hp) (PAt.upd ho (s3 _ _ e1))
      ·rcases List.mem_append.mp hx with hx|hx
       ·exact hok x hx
       ·have:x=r:=by simpa using hx
        rw[this];exact zbD e
     ·rw[zdz hd e] at er
      exact qn (by unfold rdF;rw[<- er];rfl) _ (s2.trans s3)
    unfold vm at cal;unfold xS at cal;by_cases hl:(sg wd).getLast?=some 63
    ·rw[decide_eq_true hl,if_pos rfl] at cal
     rw[decide_eq_true hl];refine⟨_,rfl,_,rfl,?_⟩;refine yp ?_;exact⟨_,rfl,_,rfl,_,rfl,wd,rfl,by rw[sizeLine_eq];omega,_,rfl,cal⟩
    ·rw[decide_eq_false hl,if_neg zft] at cal
     rw[decide_eq_false hl];refine⟨_,rfl,_,rfl,?_⟩;refine yb ?_;exact⟨_,rfl,_,rfl,cal⟩
 ·rintro σ H2 ⟨v3,v4,ps,rows,bars,rfl,s2,e0,e1,hp,e2,er,hok,lr,lb,hb⟩
  rw[length_map] at lr lb;rw[length_map,drop_length] at er;have eF:rdF z=if wx (x9 rows (bars.map V.str))=true then some (rows,bars) else none:=by unfold rdF;rw[<- er];rfl
  refine⟨_,rfl,_,rfl,l1,l2,ps,rows,bars,rfl,e1,hp,hok,by omega,e2,by omega,hb,fun d x H3 s3 hF=>?_,fun d H3 s3=>?_⟩
  ·rw[if_pos (uF.mpr d)] at eF
   exact q _ eF x H3 (s2.trans s3) hF
  ·rw[if_neg (fun z=>d (uF.mp z))] at eF
   exact qn eF _ (s2.trans s3)
def ks:List Nat:=[4,2,3,0,1]
theorem zl4{a b:List Nat}{i j:Nat}{k k':Nat}(hk:ks[i]?=some k)(hk':ks[j]?=some k')(hij:i<j)(hb:∀c∈b,97<=c/\c<=122)(e:a++sg (yT k)=b++sg (yT k')):False:=by
 have e0:sg (yT 0)=[33]:=rfl;have e1:sg (yT 1)=[]:=rfl;have e2:sg (yT 2)=[46,46]:=rfl;have e3:sg (yT 3)=[58]:=rfl;have e4:sg (yT 4)=[58,58]:=rfl;have r:=congrArg List.reverse e;rw[List.reverse_append,List.reverse_append] at r;have hb':∀c∈b.reverse,97<=c/\c<=122:=fun c hc=>hb c (List.mem_reverse.mp hc);generalize b.reverse=br at r hb';generalize a.reverse=ar at r;have hd:∀(x:Nat) (l:List Nat),x<97->x::l≠br:=fun x l hx e=>by have:=hb' x (by rw[<- e];exact mem_cons_self);omega
 have hj:j<5:=(List.getElem?_eq_some_iff.mp hk').1;rcases (show(i=0/\j=1)\/(i=0/\j=2)\/(i=0/\j=3)\/(i=0/\j=4)\/(i=1/\j=2)\/(i=1/\j=3)\/(i=1/\j=4)\/(i=2/\j=3)\/(i=2/\j=4)\/(i=3/\j=4) by omega) with ⟨rfl,rfl⟩|⟨rfl,rfl⟩|⟨rfl,rfl⟩|⟨rfl,rfl⟩|⟨rfl,rfl⟩|⟨rfl,rfl⟩|⟨rfl,rfl⟩|⟨rfl,rfl⟩|⟨rfl,rfl⟩|⟨rfl,rfl⟩ <;> cases hk <;> cases hk'
 ·rw[e4,e2] at r;simp at r
 ·rw[e4,e3] at r;simp at r;exact hd 58 _ (by decide) r
 ·rw[e4,e0] at r;simp at r
 ·rw[e4,e1] at r;simp at r;exact hd 58 _ (by decide) r
 ·rw[e2,e3] at r;simp at r
 ·rw[e2,e0] at r;simp at r
 ·rw[e2,e1] at r;simp at r;exact hd 46 _ (by decide) r
 ·rw[e3,e0] at r;simp at r
 ·rw[e3,e1] at r;simp at r;exact hd 58 _ (by decide) r
 ·rw[e0,e1] at r;simp at r;exact hd 33 _ (by decide) r
theorem uC{H:Hp}{p:Addr}(h:H p=none)(o:HO):zx H (upd H p o)/\upd H p o p=some o:=⟨zk h o,zc⟩
theorem zlU:∀k:Nat,k<5->∃j,j<5/\ks[j]?=some k:=by decide +kernel
theorem zjg{i k:Nat}(h:ks[i]?=some k):k<5:=by
 have hi:i<5:=(List.getElem?_eq_some_iff.mp h).1
 have:∀i:Nat,i<5->∀k,ks[i]?=some k->k<5:=by decide +kernel
 exact this i hi k h
theorem zer{h n:Str}{i k:Nat}{fb:Bool}(hk:ks[i]?=some k)(no:∀j k',j<i->ks[j]?=some k'->∀n':Str,sg h≠sg n'++sg (yT k'))(e:sg h=sg n++sg (yT k)):vB h fb=if zV n=true then uQ k n fb else none:=by
 have k5:=zjg hk;cases en:zV n with
 | true=>
  have:h=n++yT k:=xF (by rw[xG];exact e)
  rw[this,if_pos rfl];exact zfR en k5
 | false=>
  rw[if_neg zft];refine zfS fun n' k' hn' hk' eh=>?_;have eh:sg h=sg n'++sg (yT k'):=by rw[eh,xG]
  obtain⟨j,j5,ej⟩:=zlU k' hk';rcases Nat.lt_trichotomy j i with hj|hj|hj
  ·exact no j k' hj ej n' eh
  ·subst hj
   rw[hk] at ej;cases ej
   have:n=n':=xF (List.append_cancel_right (e.symm.trans eh))
   rw[this,hn'] at en;cases en
  ·exact zl4 hk ej hj (zdN hn') (e.symm.trans eh)
def ziX:Sp:=fun vs H Q _=>∃w:Str,vs=[.str w]/\w.length<=100000/\(∀r,u8 w=some r->∀(u:Addr) (H':Hp),zx H H'->H u=none->TAt H' u r->Q (.ref u) H')/\(u8 w=none->∀H',zx H H'->Q .non H')
theorem zlS{z y:Str}{c:Nat}(hy:sg y=[c]):(V.str (Txt.slice z (some (-1)) none)=V.str y) ↔ (sg z).getLast?=some c:=by
 have key:sg (Txt.slice z (some (-1)) none)=[c] ↔ (sg z).getLast?=some c:=by
  rw[qO];by_cases h:sg z=[]
  ·rw[h];simp
  ·obtain⟨r,d,e⟩:∃r d,sg z=r++[d]:=⟨_,_,(List.dropLast_concat_getLast h).symm⟩
   rw[e];simp
 constructor
 ·intro e
  injection e with e
  exact key.mp (by rw[e];exact hy)
 ·intro h
  congr 1
  exact xF (by rw[key.mpr h,hy])
theorem zjf:∀k:Nat,k<5->inV (.str (kw k)) [.str "bag",.str "tail"]=!tk k:=by decide +kernel
theorem j8:zD ["_law_part","_law_loose","_law_head","_law_word","_law_sign_here","_law_size"] ["_law_part"] (zr zjX):=fsc
theorem zkt{f1:Addr}{e1:FuncData}(F:Fun K "_law_read_spec" "_law_read_spec" zjX f fd)(hlen:mg "len"=none)(c1:z8 P w K mg base 1 "_law_is_name" f1 e1 ["_law_text"] zdp):zL P w K mg base CX0 2 f fd ["_law_part"] ziX:=by
 refine F.ok j8 (fun cdv A outer s H vs Q E hr h=>?_);obtain⟨z,rfl,lz,q,qn⟩:=h;have hr1:yh 1 _:=hr.mono (by decide)
 refine zQ (zC (i:=1) j8.nd rfl (Or.inl rfl) (xf yi (zR yy (pv 0) (zT (qh ur zj)) ym) zo (zE _))) ?_;refine⟨_,rfl,_,rfl,_,rfl,z,rfl,by rw[sizeLine_eq];omega,rfl,?_⟩
 dsimp only[yc];rw[show decide (V.str (Txt.slice z (some (-1)) none)=V.str (Str.ofString "?"))=xS z from decide_eq_decide.mpr (zlS rfl)];refine zQ (zC (i:=2) j8.nd rfl (Or.inl rfl) (pv 0)) ?_;refine⟨_,rfl,?_⟩;dsimp only[yc];refine zQ (zJ (yx (pv 1)) (zm (zC (i:=2) j8.nd rfl (Or.inl rfl) (zR yy (pv 0) ym (zT (qh ur zj))))) zz) ?_;refine yQ (fun σ' H'=>σ'=[some (.str z),some (.bl (xS z)),some (.str (vm z)),none,none,none]/\H=H') ?_ (fun key=>?_);rotate_left
 ·unfold vm at key
  refine⟨_,rfl,_,rfl,?_⟩;cases e:xS z with
  | true=>
   rw[e,if_pos rfl] at key;refine yp ?_;exact⟨_,rfl,_,rfl,_,rfl,z,rfl,by rw[sizeLine_eq];omega,key _ _ ⟨rfl,rfl⟩⟩
  | false=>
   rw[e,if_neg zft] at key;refine yb ?_;exact key _ _ ⟨rfl,rfl⟩
 rintro σ' H' ⟨rfl,rfl⟩;have lh:=zdV z;unfold u8 at q qn;generalize vm z=h at *;generalize xS z=fb at *;refine zQ (y8 PassesOwn.never rfl (ye (zP (ac (zM (ac zo (ac zo zi))) (ac (zM (ac zo (ac zo zi))) (ac (zM (ac zo (ac zo zi))) (ac (zM (ac zo (ac zo zi))) (ac (zM (ac zo (ac zo zi))) zi)))))))
  (wJ rfl (yo (zF (i:=3) j8.nd rfl (Or.inl rfl)) (yo (zF (i:=4) j8.nd rfl (Or.inl rfl)) xL)))
  (zp (zC (i:=5) j8.nd rfl (Or.inl rfl) (zt uB (cB yg hlen PySem.boot_len (ac (pv 2) zi)) (cB yg hlen PySem.boot_len (ac (pv 4) zi))))
  (zm (zJ (yv (yW (zw zlz (pv 5) zj (zE _)) (yD (zw yi (zR yy (pv 2) (zT (pv 5)) ym) (pv 4) (zE _)))))
   (zp (zJ (yv (xw (xI (yx (cF c1 hr1 (ac (zR yy (pv 2) ym (zT (pv 5))) zi)))) (yV (yv (yW (yx (pv 1)) (yD (zw yF (pv 3) (zM (ac zo (ac zo zi))) (by with_unfolding_all rfl)))))))) (zm (zB y9)) zz)
   (zp (zJ (zw yF (pv 3) (zM (ac zo (ac zo zi))) (by with_unfolding_all rfl)) (zm (zB (zM (ac (pv 3) (ac (zR yy (pv 2) ym (zT (pv 5))) zi))))) zz)
   (zm (zB (zM (ac (pv 3) (ac (zR yy (pv 2) ym (zT (pv 5))) (ac (pv 1) zi)))))))) zz)))) ?_
 have two : 2<=sizeLine:=by decide
 refine⟨two,fun t0 ht0=>⟨two,fun t1 ht1=>⟨two,fun t2 ht2=>⟨two,fun t3 ht3=>⟨two,fun t4 ht4=>⟨by show 5<=sizeLine;decide,fun l hl=>?_⟩⟩⟩⟩⟩⟩
 obtain⟨a0,b0⟩:=uC ht0 (.tup [.str "bag",.str "::"]);obtain⟨a1,b1⟩:=uC ht1 (.tup [.str "tail",.str ".."]);obtain⟨a2,b2⟩:=uC ht2 (.tup [.str "tag",.str ":"]);obtain⟨a3,b3⟩:=uC ht3 (.tup [.str "seat",.str "!"]);obtain⟨a4,b4⟩:=uC ht4 (.tup [.str "both",.str ""]);obtain⟨a5,bl⟩:=uC hl (.lst [.ref t0,.ref t1,.ref t2,.ref t3,.ref t4]);have b4:=a5 _ _ b4;have b3:=(a4.trans a5) _ _ b3;have b2:=(a3.trans (a4.trans a5)) _ _ b2;have b1:=(a2.trans (a3.trans (a4.trans a5))) _ _ b1;have b0:=(a1.trans (a2.trans (a3.trans (a4.trans a5)))) _ _ b0;have sA:=a0.trans (a1.trans (a2.trans (a3.trans (a4.trans a5))));clear a0 a1 a2 a3 a4 a5;generalize upd _ l (.lst [.ref t0,.ref t1,.ref t2,.ref t3,.ref t4])=HA at b0 b1 b2 b3 b4 sA bl |-;clear ht0 ht1 ht2 ht3 ht4 hl;have at_:∀(i:Nat) (y:V),([.ref t0,.ref t1,.ref t2,.ref t3,.ref t4]:List V)[i]?=some y->∃k u,ks[i]?=some k/\y=.ref u/\HA u=some (.tup [.str (kw k),.str (yT k)]):=fun i y hy=>by
  match i,hy with
  | 0,hy=>cases hy;exact⟨4,t0,rfl,rfl,b0⟩
  | 1,hy=>cases hy;exact⟨2,t1,rfl,rfl,b1⟩
  | 2,hy=>cases hy;exact⟨3,t2,rfl,rfl,b2⟩
  | 3,hy=>cases hy;exact⟨0,t3,rfl,rfl,b3⟩
  | 4,hy=>cases hy;exact⟨1,t4,rfl,rfl,b4⟩
  | i+5,hy=>cases hy
 refine⟨l,rfl,⟨_,zq bl⟩,yO (K:=K) (a:=l) (xs:=[.ref t0,.ref t1,.ref t2,.ref t3,.ref t4]) (fun i σ H2=>∃v3 v4 v5,σ=[some (.str z),some (.bl fb),some (.str h),v3,v4,v5]/\zx HA H2/\∀j k',j<i->ks[j]?=some k'->∀n':Str,sg h≠sg n'++sg (yT k'))
  ⟨_,_,_,rfl,zx.refl _,fun j k' hj=>absurd hj (Nat.not_lt_zero j)⟩ (fun i σ H2 _ ⟨_,_,_,_,s2,_⟩=>zq (s2 _ _ bl)) ?_ ?_⟩
 rotate_left
 ·rintro σ H2 ⟨v3,v4,v5,rfl,s2,no⟩
  exact absurd (show sg h=sg h++sg (yT 1) by show sg h=sg h++[];rw[append_nil]) (no 4 1 (show 4<5 by decide) rfl h)
 rintro i y σ H2 hy ⟨v3,v4,v5,rfl,s2,no⟩;obtain⟨k,u,hk,rfl,hu⟩:=at_ i y hy;have k5:=zjg hk;have hu2:=s2 _ _ hu;have s02:=sA.trans s2;have el:=zbc k;refine⟨u,_,rfl,zI hu2,rfl,_,_,rfl,_,_,rfl,rfl,?_⟩;refine⟨_,rfl,h,rfl,by rw[sizeLine_eq];omega,_,rfl,yT k,rfl,by rw[sizeLine_eq];omega,_,_,rfl,rfl,?_⟩
 refine⟨_,rfl,_,_,rfl,rfl,_,rfl,?_⟩;have nx:(∀n':Str,sg h≠sg n'++sg (yT k))->∀j k',j<i+1->ks[j]?=some k'->∀n':Str,sg h≠sg n'++sg (yT k'):=fun hno j k' hj ej n'=>by
  by_cases e:j=i
  ·subst e;rw[hk] at ej;cases ej;exact hno n'
  ·exact no j k' (by omega) ej n'
 by_cases hs:(h.length:Int) - ((yT k).length:Int)>=0
 rotate_left
 ·refine dF hs (yb ?_)
  refine⟨_,_,_,rfl,s2,nx fun n' e=>hs ?_⟩
  have:=congrArg List.length e
  rw[length_append,<- zN,<- zN,<- zN] at this;omega
 refine dT hs ?_;obtain⟨m,hm⟩:∃m:Nat,(h.length:Int) - ((yT k).length:Int)=(m:Int):=⟨_,(toNat_of_nonneg hs).symm⟩;rw[hm];have lm:m+(yT k).length=h.length:=by omega
 refine⟨_,rfl,_,rfl,_,rfl,h,rfl,by rw[sizeLine_eq];omega,_,rfl,rfl,_,rfl,?_⟩
 by_cases he:V.str (Txt.slice h (some (m:Int)) none)=V.str (yT k)
 rotate_left
 ·refine dF he ?_
  refine⟨_,_,_,rfl,s2,nx fun n' e=>he ?_⟩
  congr 1
  refine xF ?_;rw[uu,e]
  have:(sg n').length=m:=by
   have:=congrArg List.length e
   rw[length_append,<- zN,<- zN,<- zN] at this;rw[<- zN];omega
  rw[<- this,drop_left]
 refine dT he ?_;have es:sg h=sg (Txt.slice h none (some (m:Int)))++sg (yT k):=by
  rw[ut,<- V.str.inj he,uu,take_append_drop]
 have eP:=zer (fb:=fb) hk no es;have ln:=slice_le h none (some (m:Int));rw[eP] at q qn;refine⟨_,rfl,_,rfl,_,rfl,h,rfl,by rw[sizeLine_eq];omega,_,rfl,by omega,fun H3 s3=>⟨_,rfl,?_⟩⟩
 have s03:=s02.trans s3;have last:∀H4,zx H H4->(fb=true->tk k=true)->zV (Txt.slice h none (some (m:Int)))=true->zfa (ze5 (tOp (rIn K false) (uf 3) (zed (xM (tC (.str "bag")) (xM (tC (.str "tail")) jB))))) (zee (zed (xM (uf 3) (xM (tSl zkd (uf 2) zaH (ze6 (uf 5))) jB)))) ziN { nx:=zee (zed (xM (uf 3) (xM (tSl zkd (uf 2) zaH (ze6 (uf 5))) (xM (uf 1) jB)))) { nx:=fun _ _=>False,rt:=Q },rt:=Q } [some (.str z),some (.bl fb),some (.str h),some (.str (kw k)),some (.str (yT k)),some (.int m)] H4:=by
  intro H4 s4 hf hn;rw[hn,if_pos rfl] at q;refine⟨_,rfl,two,fun r hrn=>⟨r,[.str "bag",.str "tail"],rfl,.inr (zI zc),rfl,by decide,_,rfl,?_⟩⟩
  have s5:=s4.trans (zk hrn (.tup [.str "bag",.str "tail"]));rw[show(if false=true then !inV (V.str (kw k)) [V.str (Str.ofString "bag"),V.str (Str.ofString "tail")] else inV (V.str (kw k)) [V.str (Str.ofString "bag"),V.str (Str.ofString "tail")])=!tk k from zjf k k5]
  generalize upd H4 r (.tup [.str "bag",.str "tail"])=H5 at s5 |-;cases et:tk k with
  | false=>
   refine yp ?_;have efb:fb=false:=by
    cases e:fb with
    | false=>rfl
    | true=>rw[hf e] at et;cases et
   subst efb;refine⟨_,rfl,_,rfl,_,rfl,_,rfl,h,rfl,by rw[sizeLine_eq];omega,two,fun u hu=>?_⟩
   refine q ⟨k,Txt.slice h none (some (m:Int)),true⟩ (by unfold uQ;rw[et];rfl) u _ (s5.trans (zk hu _)) (s5.free hu) ?_
   unfold TAt;rw[zc,zfM (r:=⟨k,Txt.slice h none (some (m:Int)),true⟩) k5 et]
  | true=>
   refine yb ?_;refine⟨_,rfl,_,rfl,_,rfl,_,rfl,h,rfl,by rw[sizeLine_eq];omega,_,rfl,by show 3<=sizeLine;decide,fun u hu=>?_⟩
   refine q ⟨k,Txt.slice h none (some (m:Int)),fb⟩ (by unfold uQ;rw[et];rfl) u _ (s5.trans (zk hu _)) (s5.free hu) ?_
   unfold TAt;rw[zc,zbB (r:=⟨k,Txt.slice h none (some (m:Int)),fb⟩) k5 et]
 cases en:zV (Txt.slice h none (some (m:Int))) with
 | false=>
  refine yp ?_;exact qn (by rw[en];rfl) _ s03
 | true=>
  rw[en,if_pos rfl] at qn;refine yb ?_;refine⟨_,rfl,_,rfl,?_⟩;cases fb with
  | false=>
   refine yb (yb ?_);exact last H3 s03 (fun e=>by cases e) en
  | true=>
   refine yp ?_;refine⟨_,rfl,two,fun r hrn=>⟨r,[.str "bag",.str "tail"],rfl,.inr (zI zc),rfl,by decide,_,rfl,?_⟩⟩
   have s5:=s03.trans (zk hrn (.tup [.str "bag",.str "tail"]));rw[show(if false=true then !inV (V.str (kw k)) [V.str (Str.ofString "bag"),V.str (Str.ofString "tail")] else inV (V.str (kw k)) [V.str (Str.ofString "bag"),V.str (Str.ofString "tail")])=!tk k from zjf k k5]
   cases et:tk k with
   | false=>
    refine yp ?_;exact qn (by unfold uQ;rw[et];rfl) _ s5
   | true=>
    refine yb ?_;exact last _ s5 (fun _=>et) en
end
end K92
namespace L2
open PySem PySem.Spec PyProof.Rows
theorem zeZ{X:Cx}:xp X (.builtin "len") (fun xs H Q=>∃(a:Addr) (zs:List Str) (n:Nat),xs=[.ref a]/\H a=some (zdr X.prog X.w a (fun z=>decide (z∈zs)) n)/\((n=zs.length ↔ zs.Nodup)->Q (.int n) H)):=by
 intro pins s σ H xs us Q I r h;obtain⟨a,zs,n,rfl,e,q⟩:=h;obtain⟨u,rfl,ru⟩:=wP r;cases ru;have hS:uh X.prog X.w s.heap a (fun z=>decide (z∈zs)) n:=(I.hok a _ e).1;have hq:n=zs.length ↔ zs.Nodup:=by
  have h1:=zbv hS;by_cases c:zs.Nodup
  ·have:=zfr hS.setOf c
   exact⟨fun _=>c,fun _=>by omega⟩
  ·have:=zfp hS c
   exact⟨fun e=>by omega,fun z=>absurd z c⟩
 obtain⟨o,es,ep,t,ho,hx,hd,_,_,hb,hf,hn⟩:=hS.setOf;have h63:(es.size:Int)<2 ^ 63:=by
  have:scanBound<2 ^ 63:=by unfold scanBound;decide
  omega
 refine call_len_set ho hx hd hf h63 ?_;exact⟨.int es.size,H,I.tok _,⟨_,rfl⟩,by rw[hn];exact q hq⟩
end L2
namespace K92
open PySem L2 PyProof.Rows
theorem qF:∀{l ss:List Str},uU ss l=none ↔ l.Nodup/\∀z∈l,z∉ss
 | [],ss=>⟨fun _=>⟨nodup_nil,fun z h=>(by cases h)⟩,fun _=>rfl⟩
 | z::l,ss=>by
  have e:uU ss (z::l)=if z∈ss then some z else uU (ss++[z]) l:=rfl
  rw[e];by_cases h:z∈ss
  ·rw[if_pos h]
   exact⟨fun x=>(by cases x),fun x=>absurd h (x.2 z mem_cons_self)⟩
  ·rw[if_neg h,qF (l:=l),List.nodup_cons]
   constructor
   ·rintro⟨h1,h2⟩
    refine⟨⟨fun hz=>h2 z hz (mem_append_right _ mem_cons_self),h1⟩,fun x hx=>?_⟩;rcases List.mem_cons.mp hx with rfl|hx
    ·exact h
    ·exact fun hs=>h2 x hx (mem_append_left _ hs)
   ·rintro⟨⟨h1,h2⟩,h3⟩
    refine⟨h2,fun x hx hs=>?_⟩;rcases List.mem_append.mp hs with hs|hs
    ·exact h3 x (mem_cons_of_mem _ hx) hs
    ·have:x=z:=by simpa using hs
     exact h1 (this ▸ hx)
theorem zdg:∀bars:List Str,txs (bars.map V.str)=bars
 | []=>rfl
 | z::r=>by
  show z::txs (r.map V.str)=_;rw[zdg r]
theorem zg0:∀bars:List Str,(bars.map V.str).all nmV=bars.all zV
 | []=>rfl
 | z::r=>by rw[map_cons,all_cons,all_cons,zg0 r];rfl
theorem zbd{rows:List Rw}{bars:List Str}:wx (x9 rows (bars.map V.str))=true ↔ rows.length<=24/\bars.length<=60/\wq 0 0 rows=none/\bars.all zV=true/\(nms rows++bars).Nodup:=by
 rw[uF];unfold x9;rw[length_map,zg0,zdg];by_cases h1 : 24<rows.length\/60<bars.length
 ·rw[if_pos h1]
  exact⟨fun e=>(by cases e),fun h=>by have:=h.1;have:=h.2.1;omega⟩
 rw[if_neg h1];cases e2:wq 0 0 rows with
 | some k=>exact⟨fun e=>(by cases e),fun h=>by have:=h.2.2.1;cases this⟩
 | none=>
  cases e3:bars.all zV with
  | false=>exact⟨fun e=>(by cases e),fun h=>by have:=h.2.2.2.1;cases this⟩
  | true=>
   dsimp only;rw[if_pos rfl];cases e4:uU [] (nms rows++bars) with
   | some z=>
    refine⟨fun e=>(by cases e),fun h=>?_⟩
    rw[qF.mpr ⟨h.2.2.2.2,fun _ _ z=>by cases z⟩] at e4
    cases e4
   | none=>exact⟨fun _=>⟨by omega,by omega,rfl,rfl,(qF.mp e4).1⟩,fun _=>rfl⟩
def gL:List (Key×V):=[(.inr "seat",.int 0),(.inr "both",.int 0),(.inr "tail",.int 1),(.inr "tag",.int 2),(.inr "bag",.int 3)]
theorem zl2:∀k:Nat,k<5->some (V.int (grp k))=jz (yK [] gL) (.inr (kw k)):=by decide +kernel
theorem zm0:∀g:Nat,g<4->inV (.int (g:Nat)) [.int 1,.int 3]=(g==1||g==3):=by decide +kernel
def ziT:Sp:=fun vs H Q _=>∃(a b:Addr) (us:List Addr) (rows:List Rw) (bars:List Str),vs=[.ref a,.ref b]/\H a=some (.lst (us.map V.ref))/\Paired (TAt H) us rows/\(∀r∈rows,r.ok)/\rows.length<=400/\H b=some (.lst (bars.map V.str))/\bars.all zV=true/\bars.length<=400/\∀H',zx H H'->Q (.bl (wx (x9 rows (bars.map V.str)))) H'
section
variable {P:Program}{w:World}{K:Frag}{mg:Str->Option Value}{base:Heap}{f CF NT:Addr}{fd:FuncData}{c:C5}
theorem j6:zD ["_law_specs_here","_law_shut","_law_last","_law_seen","_law_one","_law_here"] ["_law_specs_here","_law_shut"] (zr zjT):=fsc
theorem zkp(F:Fun K "_law_stands" "_law_stands" zjT f fd)(hlen:mg "len"=none)(hset:mg "set"=none):zL P w K mg base CX0 1 f fd ["_law_specs_here","_law_shut"] ziT:=by
 refine F.ok j6 (fun cdv A outer s H vs Q E hr h=>?_);obtain⟨a,b,us,rows,bars,rfl,ha,hu,hok,l1,hb,hbn,l2,q⟩:=h;have hu1:=zdU hr;have no:¬(rows.length<=24/\bars.length<=60/\wq 0 0 rows=none/\bars.all zV=true/\(nms rows++bars).Nodup)->∀H',zx H H'->Q (.bl false) H':=fun h H' s=>by
  have:=q H' s
  rw[show wx (x9 rows (bars.map V.str))=false by cases e:wx (x9 rows (bars.map V.str)) with|false=>rfl|true=>exact absurd (zbd.mp e) h] at this
  exact this
 have yes:(rows.length<=24/\bars.length<=60/\wq 0 0 rows=none/\bars.all zV=true/\(nms rows++bars).Nodup)->∀H',zx H H'->Q (.bl true) H':=fun h H' s=>by
  have:=q H' s
  rw[zbd.mpr h] at this;exact this
 refine⟨_,zp (zC (i:=2) j6.nd rfl (Or.inl rfl) zj)
  (zp (zC (i:=3) j6.nd rfl (Or.inl rfl) (zP zi))
  (zp (y8 PassesOwn.never rfl (ye (pv 0)) (zF (i:=4) j6.nd rfl (Or.inl rfl))
   (zp (zC (i:=5) j6.nd rfl (Or.inl rfl) (wD hu1 (jK (yC zo zj (yC zo zj (yC zo zj (yC zo zj (yC zo zj jJ))))) rfl rfl (by simp) (by decide)) (zK ya (pv 4) zj (fun _ _=>rfl)) (fun _ _=>rfl)))
   (zp (zJ (yv (xw (zw uj (pv 5) (pv 2) (zE _)) (yV (yv (yW (zw yi (pv 5) (pv 2) (zE _)) (yD (zw yF (pv 5) (zM (ac zj (ac zj zi))) (by with_unfolding_all rfl)))))))) (zm (zB wE)) zz)
   (zp (zC (i:=2) j6.nd rfl (Or.inl rfl) (pv 5))
   (zm (zJ (zw yF (zK ya (pv 4) zj (fun _ _=>rfl)) (zM (ac zo (ac zo zi))) (by with_unfolding_all rfl)) (zm (zW (z7 PySem.F.plainAttrs_list PySem.F.slot_list_append PySem.F.type_list_append z9 (pv 3) (ac (zK ya (pv 4) zj (fun _ _=>rfl)) zi)))) zz))))))
  (zp (zC (i:=3) j6.nd rfl (Or.inl rfl) (zt wp (pv 3) (pv 1)))
  (zm (zB (qj (xf yi (cB zeZ hlen PySem.boot_len (ac (cTy (zeX rfl) hset PyProof.Rows.boot_set (ac (pv 3) zi)) zi)) (cB zO hlen PySem.boot_len (ac (pv 3) zi)) (zE _)) (qj (xf uj (cB zO hlen PySem.boot_len (ac (pv 0) zi)) zj (zE _)) (za1 (xf uj (cB zO hlen PySem.boot_len (ac (pv 1) zi)) zj (zE _)))))))))),?_⟩
 refine⟨vc,fun ls hls=>?_⟩;obtain⟨s0,g0⟩:=uC hls (.lst []);dsimp only[yc];generalize upd H ls (.lst [])=H0 at s0 g0 |-;refine⟨_,rfl,a,rfl,⟨_,zq (s0 _ _ ha)⟩,yO (K:=K) (a:=a) (xs:=us.map V.ref) (fun i σ H2=>∃(l:Nat) (v4 v5:Option V),σ=[some (.ref a),some (.ref b),some (.int (l:Nat)),some (.ref ls),v4,v5]/\zx H H2/\H2 ls=some (.lst ((nms (rows.take i)).map V.str))/\wq l i (rows.drop i)=wq 0 0 rows)
  ⟨0,_,_,rfl,s0,g0,rfl⟩ (fun i σ H2 _ ⟨_,_,_,_,s2,_⟩=>zq (s2 _ _ ha)) ?_ ?_⟩
 ·rintro i y σ H2 hy ⟨l,v4,v5,rfl,s2,e2,hl⟩
  obtain⟨u,hu',rfl⟩:=wC hy;obtain⟨r,hr',tr⟩:=xy hu hu';have rok:=hok r (mem_of_getElem? hr');have g4:=zgB r.k;have tkn:=zdM hr';have lns:(nms (rows.take i)).length<=400:=by
   unfold nms;rw[length_map];exact le_trans (length_filter_le _ _) (by rw[length_take];omega)
  rw[uV hr'] at hl;have hl':(if uX l (grp r.k)=true then some i else wq (grp r.k) (i+1) (rows.drop (i+1)))=wq 0 0 rows:=hl
  have tr2:=s2 _ _ tr;intro d hd;refine⟨zc,gL,rfl,(by show 5<=15;decide),?_⟩
  have t1:zx H2 (upd (upd H2 d (.dK [])) d (.dK (yK [] gL))):=by rw[xZ];exact zk hd _
  have e1':upd (upd H2 d (.dK [])) d (.dK (yK [] gL)) d=some (.dK (yK [] gL)):=zc;generalize upd (upd H2 d (.dK [])) d (.dK (yK [] gL))=H3 at t1 e1' |-;have s3:=s2.trans t1;have tr3:=t1 _ _ tr2;have e3:=t1 _ _ e2;refine⟨_,rfl,u,_,0,.str (kw r.k),rfl,rfl,zI tr3,rv0 rok.1,d,.int (grp r.k),rfl,.inl ⟨_,.inr (kw r.k),.inl e1',rfl,zl2 r.k rok.1⟩,?_⟩;dsimp only[yc];refine yQ (fun σ' H'=>σ'=[some (.ref a),some (.ref b),some (.int (l:Nat)),some (.ref ls),some (.ref u),some (.int (grp r.k:Nat))]/\zx H3 H'/\uX l (grp r.k)=false) ?_ (fun key=>?_);rotate_left
  ·have bad:uX l (grp r.k)=true->∀H',zx H3 H'->Q (.bl false) H':=fun hb H' s'=>no (fun h=>by
    rw[hb,if_pos rfl,h.2.2.1] at hl';cases hl') _ (s3.trans s')
   unfold uX at key bad;refine⟨_,rfl,_,rfl,_,_,rfl,rfl,_,rfl,?_⟩;by_cases h1:grp r.k<l
   ·refine dT (by omega) (yp ?_)
    exact bad (by rw[decide_eq_true h1];rfl) _ (zx.refl _)
   refine dF (by omega) ?_
   rw[decide_eq_false h1,Bool.false_or] at key bad;refine⟨_,rfl,_,rfl,rfl,_,rfl,?_⟩;by_cases e:grp r.k=l
   ·rw[beq_iff_eq.mpr e,Bool.true_and] at key bad
    refine dT (by rw[e]) ?_
    refine⟨_,rfl,y7,fun rr hrn=>⟨rr,[.int 1,.int 3],rfl,.inr (zI zc),rfl,by decide,_,rfl,?_⟩⟩
    rw[show(if false=true then !inV (V.int ((grp r.k:Nat):Int)) [V.int 1,V.int 3] else inV (V.int ((grp r.k:Nat):Int)) [V.int 1,V.int 3])=(grp r.k==1||grp r.k==3) from zm0 _ g4]
    cases hb:(grp r.k==1||grp r.k==3) with
    | true=>
     refine yp ?_;exact bad hb _ (zk hrn _)
    | false=>
     refine yb ?_;exact key _ _ ⟨rfl,zk hrn _,hb⟩
   ·have:(grp r.k==l)=false:=beq_eq_false_iff_ne.mpr e
    rw[this,Bool.false_and] at key;refine dF (fun z=>e (by have:=V.int.inj z;omega)) (yb ?_)
    exact key _ _ ⟨rfl,zx.refl _,rfl⟩
  rintro σ' H4 ⟨rfl,s4,hb4⟩;rw[hb4,if_neg zft] at hl';refine⟨_,rfl,?_⟩;dsimp only[yc];have tr4:=s4 _ _ tr3;have e4:=s4 _ _ e3;refine⟨_,rfl,u,_,0,.str (kw r.k),rfl,rfl,zI tr4,rv0 rok.1,y7,fun rr hrn=>⟨rr,bnL,rfl,.inr (zI zc),rfl,by decide,_,rfl,?_⟩⟩
  have s5:=zk hrn (.tup bnL);have tr5:=s5 _ _ tr4;have e5:=s5 _ _ e4;have s05:=s3.trans (s4.trans s5);rw[show(if false=true then !inV (V.str (kw r.k)) bnL else inV (V.str (kw r.k)) bnL)=ug r.k from zdT r.k rok.1]
  generalize hH5:upd H4 rr (.tup [.str "both",.str "tag"])=H5 at *;have hH5':upd H4 rr (.tup bnL)=H5:=hH5;rw[hH5'] at s5 tr5 e5 s05;cases en:ug r.k with
  | true=>
   rw[en,if_pos rfl] at tkn;refine yp ?_;refine⟨_,rfl,.inl ⟨rfl,_,zq e5⟩,_,rfl,u,_,1,.str r.z,rfl,rfl,zI tr5,rv1 rok.1,ls,_,_,rfl,rfl,e5,by rw[length_map,sizeLine_eq];omega,?_⟩
   exact⟨_,_,_,rfl,zU s05 hls _,by rw[zc,tkn,map_append];rfl,hl'⟩
  | false=>
   rw[en,if_neg zft,append_nil] at tkn;refine yb ?_;exact⟨_,_,_,rfl,s05,by rw[tkn];exact e5,hl'⟩
 rintro σ H2 ⟨l,v4,v5,rfl,s2,e2,hl⟩;have lu:us.length=rows.length:=hu.length;rw[length_map,lu,drop_length] at hl;rw[length_map,lu,take_length] at e2;have hm:wq 0 0 rows=none:=hl.symm;have lns:(nms rows).length<=400:=by
  unfold nms;rw[length_map];exact le_trans (length_filter_le _ _) l1
 have hb2:=s2 _ _ hb;refine⟨_,rfl,_,rfl,ls,b,_,_,rfl,rfl,e2,hb2,(by simp only[length_map];rw[sizeLine_eq];omega),fun lc hlc=>?_⟩
 rw[<- map_append];obtain⟨s3,g3⟩:=uC hlc (.lst ((nms rows++bars).map V.str));dsimp only[yc];generalize upd H2 lc (.lst ((nms rows++bars).map V.str))=H3 at s3 g3 |-;refine⟨_,rfl,lc,nms rows++bars,rfl,zq g3,by rw[length_append];omega,fun l4 n4 hl4=>?_⟩
 have s4:=zk hl4 (zdr P w l4 (fun z=>decide (z∈nms rows++bars)) n4);refine⟨l4,nms rows++bars,n4,rfl,zc,fun hn=>?_⟩;have s24:=s2.trans (s3.trans s4);refine⟨_,rfl,lc,_,rfl,.inl (zq (s4 _ _ g3)),rfl,_,rfl,?_⟩;rw[length_map];by_cases hnd:(nms rows++bars).Nodup
 rotate_left
 ·refine dF (fun z=>hnd (hn.mp (by have:=V.int.inj z;omega))) ?_
  exact no (fun h=>hnd h.2.2.2.2) _ s24
 refine dT (by rw[hn.mpr hnd]) ?_
 refine⟨_,rfl,a,_,rfl,.inl (zq (s24 _ _ ha)),_,_,rfl,rfl,_,rfl,?_⟩;rw[length_map,lu];by_cases k1:rows.length<=24
 rotate_left
 ·refine dF (show ¬((rows.length:Int)<25) by omega) ?_
  exact no (fun h=>k1 h.1) _ s24
 refine dT (show((rows.length:Int)<25) by omega) ?_
 refine⟨_,rfl,b,_,rfl,.inl (zq (s24 _ _ hb)),_,_,rfl,rfl,?_⟩;rw[length_map];by_cases k2:bars.length<=60
 rotate_left
 ·rw[decide_eq_false (show ¬((bars.length:Int)<61) by omega)]
  exact no (fun h=>k2 h.2.1) _ s24
 rw[decide_eq_true (show((bars.length:Int)<61) by omega)]
 exact yes ⟨k1,k2,hm,hbn,hnd⟩ _ s24
theorem zbH:∀{ws:List Str}{rows:List Rw}{bars:List Str}{p:List Rw×List Str},vf ws rows bars=some p->∀z∈bars,z∈p.2
 | [],rows,bars,p,h,z,hz=>by cases h;exact hz
 | w::ws,rows,bars,p,h,z,hz=>by
  by_cases h1:(sg w).head?=some 45
  ·rw[qf h1] at h
   exact zbH h z (mem_append_left _ hz)
  ·by_cases h2:bars=[]
   ·rw[h2] at hz;cases hz
   ·rw[vS h1 h2] at h;cases h
theorem zhz{z:Str}{i:Nat}{rows:List Rw}{bars:List Str}{y:Str}(er:vf ((pcs z).drop i) rows bars=vf (pcs z) [] [])(hy:y∈bars)(hn:zV y=false):rdF z=none:=by
 unfold rdF;rw[<- er];cases e:vf ((pcs z).drop i) rows bars with
 | none=>rfl
 | some p=>
  show(if wx (x9 p.1 (p.2.map V.str))=true then some p else none)=none
  rw[if_neg];intro d
  have:=(zbd.mp d).2.2.2.1
  rw[List.all_eq_true.mp this y (zbH e y hy)] at hn;cases hn
def zi2(K:Frag):Sp:=fun vs H Q _=>∃z:Str,vs=[.str z]/\z.length<=100000/\(pcs z).length<=400/\(∀p,rdF z=some p->∀(t l1 l2:Addr) (us:List Addr) (H':Hp),zx H H'->H' t=some (.tup [.ref l1,.ref l2])->H' l1=some (.lst (us.map V.ref))->Paired (TAt H') us p.1->H' l2=some (.lst (p.2.map V.str))->Q (.ref t) H')/\(rdF z=none->∀H',zx H H'->Q .non H')
theorem vO{H:Hp}{u l:Addr}{r:Rw}{xs ys:List V}(h:TAt H u r)(hl:H l=some (.lst xs)):TAt (upd H l (.lst ys)) u r:=by
 unfold TAt at h |-;rw[zv (fun z=>by rw[z,hl] at h;cases h)]
 exact h
theorem zbz:zD ["_law_text","_law_specs_here","_law_shut","_law_part","_law_one"] ["_law_text"] (zr zj4):=fsc
theorem zkB{f1 f2 f3 f4:Addr}{e1 e2 e3 e4:FuncData}(F:Fun K "_law_judged_form" "_law_judged_form" zj4 f fd)(c1:z8 P w K mg base 1 "_law_parts" f1 e1 ["_law_text"] zfk)(c2:z8 P w K mg base 1 "_law_is_name" f2 e2 ["_law_text"] zdp)(c3:z8 P w K mg base 2 "_law_read_spec" f3 e3 ["_law_part"] ziX)(c4:z8 P w K mg base 1 "_law_stands" f4 e4 ["_law_specs_here","_law_shut"] ziT):
  zL P w K mg base CX0 3 f fd ["_law_text"] (zi2 K):=by
 refine F.ok zbz (fun cdv A outer s H vs Q E hr h=>?_);obtain⟨z,rfl,lz,l400,q,qn⟩:=h;have hr1:yh 1 _:=hr.mono (by decide)
 have hr2:yh 2 _:=hr.mono (by decide)
 have hU0:=hr.units0;obtain⟨_,pw⟩:=jM lz;refine⟨_,zp (zC (i:=1) zbz.nd rfl (Or.inl rfl) (zP zi)) (zp (zC (i:=2) zbz.nd rfl (Or.inl rfl) (zP zi))
  (zp (y8 PassesOwn.never rfl (ye (cF c1 hr1 (ac (pv 0) zi))) (zF (i:=3) zbz.nd rfl (Or.inl rfl))
   (zm (zJ (zw yi (zR yy (pv 3) ym (zT zj)) zo (zE _))
    (zp (zJ (xI (yx (cF c2 hr1 (ac (zR yy (pv 3) (zT zj) ym) zi)))) (zm (zB y9)) zz)
     (zm (zW (z7 PySem.F.plainAttrs_list PySem.F.slot_list_append PySem.F.type_list_append z9 (pv 2) (ac (zR yy (pv 3) (zT zj) ym) zi)))))
    (zp (zC (i:=4) zbz.nd rfl (Or.inl rfl) (cF c3 hr2 (ac (pv 3) zi)))
    (zp (zJ (yv (xw (wI (vC (pv 4))) (yV (zw (zf9 hU0) (pv 2) (zP zi) (zE _))))) (zm (zB y9)) zz)
    (zm (zW (z7 PySem.F.plainAttrs_list PySem.F.slot_list_append PySem.F.type_list_append z9 (pv 1) (ac (pv 4) zi)))))))))
  (zp (zJ (xI (yx (cF c4 hr1 (ac (pv 1) (ac (pv 2) zi))))) (zm (zB y9)) zz)
  (zm (zB (zM (ac (pv 1) (ac (pv 2) zi)))))))),?_⟩
 refine⟨vc,fun l1 h1=>?_⟩;refine⟨vc,fun l2 h2=>?_⟩;have n12:l1≠l2:=zu zc h2;have f2:H l2=none:=(zk h1 _).free h2;have s0:zx H (upd (upd H l1 (.lst [])) l2 (.lst [])):=(zk h1 _).trans (zk h2 _);have g1:upd (upd H l1 (.lst [])) l2 (.lst []) l1=some (.lst []):=by rw[zv n12,zc]
 have g2:upd (upd H l1 (.lst [])) l2 (.lst []) l2=some (.lst []):=zc;show jA _ _ _ _ (upd (upd H l1 (.lst [])) l2 (.lst []));generalize upd (upd H l1 (.lst [])) l2 (.lst [])=H0 at s0 g1 g2 |-;refine⟨_,rfl,z,rfl,lz,fun l H1 s1 hl0 hl=>?_⟩;have nl1:l1≠l:=fun e=>by rw[e,hl0] at g1;cases g1
 have nl2:l2≠l:=fun e=>by rw[e,hl0] at g2;cases g2
 have s01:=s0.trans s1;refine⟨l,rfl,⟨_,zq hl⟩,yO (K:=K) (a:=l) (xs:=(pcs z).map V.str) (fun i σ H2=>∃v3 v4 us rows bars,σ=[some (.str z),some (.ref l1),some (.ref l2),v3,v4]/\zx H H2/\H2 l=some (.lst ((pcs z).map V.str))/\H2 l1=some (.lst (us.map V.ref))/\Paired (TAt H2) us rows/\H2 l2=some (.lst (bars.map V.str))/\vf ((pcs z).drop i) rows bars=vf (pcs z) [] []/\(∀r∈rows,r.ok)/\rows.length<=i/\bars.length<=i/\bars.all zV=true)
  ⟨_,_,[],[],[],rfl,s01,hl,s1 _ _ g1,.nil,s1 _ _ g2,rfl,(fun _ h=>by cases h),le_refl _,le_refl _,rfl⟩ (fun i σ H2 _ ⟨_,_,_,_,_,_,_,h,_⟩=>zq h) ?_ ?_⟩
 ·rintro i y σ H2 hi ⟨v3,v4,us,rows,bars,rfl,s2,e0,e1,hp,e2,er,hok,lr,lb,hb⟩
  rw[getElem?_map] at hi;cases ew:(pcs z)[i]? with
  | none=>rw[ew] at hi;cases hi
  | some wd=>
   rw[ew] at hi;obtain rfl:V.str wd=y:=by simpa using hi
   have hil:i<(pcs z).length:=(List.getElem?_eq_some_iff.mp ew).1;have lw:=pw wd (mem_of_getElem? ew);rw[uV ew] at er;have ls:=slice_le wd (some 1) none;refine⟨_,rfl,_,rfl,wd,rfl,by rw[sizeLine_eq];omega,rfl,_,rfl,?_⟩
   by_cases hd:(sg wd).head?=some 45
   ·refine dT ((jo rfl).mpr hd) ?_
    rw[qf hd] at er;refine⟨_,rfl,_,rfl,wd,rfl,by rw[sizeLine_eq];omega,_,rfl,by omega,fun H3 s3=>⟨_,rfl,?_⟩⟩
    have e2':=s3 _ _ e2;cases en:zV (Txt.slice wd (some 1) none) with
    | false=>
     refine yp ?_;exact qn (zhz er (mem_append_right _ mem_cons_self) en) _ (s2.trans s3)
    | true=>
     refine yb ?_;refine⟨_,rfl,.inl ⟨rfl,_,zq e2'⟩,_,rfl,_,rfl,wd,rfl,by rw[sizeLine_eq];omega,?_⟩
     refine⟨l2,_,_,rfl,rfl,e2',by rw[length_map,sizeLine_eq];omega,_,_,us,rows,bars++[Txt.slice wd (some 1) none],rfl,zU (s2.trans s3) f2 _,by rw[zv nl2.symm];exact s3 _ _ e0,by rw[zv n12];exact s3 _ _ e1,zH (fun _ _ z=>vO (s3 _ _ z) e2') hp,by rw[zc,map_append];rfl,er,hok,by omega,by rw[length_append];show _+1<=_;omega,?_⟩
     rw[List.all_append,hb,Bool.true_and];show(zV _&&true)=true;rw[en];rfl
   refine dF (fun e=>hd ((jo rfl).mp e)) ?_;refine⟨_,rfl,wd,rfl,lw,fun r e u H3 s3 hun hu=>?_,fun e H3 s3=>?_⟩;rotate_left
   ·refine⟨_,rfl,_,rfl,?_⟩
    refine yp (yp ?_);refine qn ?_ _ (s2.trans s3);unfold rdF;rw[<- er];cases bars with
    | nil=>rw[zdz hd e];rfl
    | cons b0 br=>rw[vS hd (cons_ne_nil _ _)];rfl
   refine⟨_,rfl,_,rfl,?_⟩;refine yb ?_;refine⟨_,rfl,vc,fun lx hlx=>?_⟩;obtain⟨s4,g4⟩:=uC hlx (.lst []);have s34:=s3.trans s4;refine⟨l2,lx,_,rfl,rfl,s34 _ _ e2,g4,_,rfl,?_⟩;cases bars with
   | cons b0 br=>
    rw[vS hd (cons_ne_nil _ _)] at er;refine yp ?_;exact qn (by unfold rdF;rw[<- er];rfl) _ (s2.trans s34)
   | nil=>
    refine yb ?_;rw[zbI hd e] at er;have e1':=s34 _ _ e1;refine⟨_,rfl,.inl ⟨rfl,_,zq e1'⟩,_,rfl,l1,_,_,rfl,rfl,e1',by rw[length_map,hp.length,sizeLine_eq];omega,_,_,us++[u],rows++[r],[],rfl,zU (s2.trans s34) h1 _,by rw[zv nl1.symm];exact s34 _ _ e0,by rw[zc,map_append];rfl,?_,by rw[zv n12.symm];exact s34 _ _ e2,er,fun x hx=>?_,by rw[length_append];show _+1<=_;omega,by simp,rfl⟩
    ·exact Paired.snoc (zH (fun _ _ z=>vO (s34 _ _ z) e1') hp) (vO (s4 _ _ hu) e1')
    ·rcases List.mem_append.mp hx with hx|hx
     ·exact hok x hx
     ·have:x=r:=by simpa using hx
      rw[this];exact zbD e
 ·rintro σ H2 ⟨v3,v4,us,rows,bars,rfl,s2,e0,e1,hp,e2,er,hok,lr,lb,hb⟩
  rw[length_map] at lr lb;rw[length_map,drop_length] at er;have eF:rdF z=if wx (x9 rows (bars.map V.str))=true then some (rows,bars) else none:=by unfold rdF;rw[<- er];rfl
  refine⟨_,rfl,_,rfl,l1,l2,us,rows,bars,rfl,e1,hp,hok,by omega,e2,hb,by omega,fun H3 s3=>⟨_,rfl,?_⟩⟩
  cases ed:wx (x9 rows (bars.map V.str)) with
  | false=>
   rw[ed,if_neg zft] at eF;refine yp ?_;exact qn eF _ (s2.trans s3)
  | true=>
   rw[ed,if_pos rfl] at eF;refine yb ?_;refine⟨_,rfl,_,rfl,y7,fun t ht=>?_⟩;have s4:=zk ht (.tup [.ref l1,.ref l2]);have s34:=s3.trans s4;exact q _ eF t l1 l2 us _ (s2.trans s34) zc (s34 _ _ e1) (y6 s34 hp) (s34 _ _ e2)
end
end K92
namespace L2
open PySem PySem.Spec PyProof.Rows
section
variable {X:Cx}
end
end L2
namespace K92
open PySem L2 PyProof.Rows
theorem zgw(sep:List Nat):∀ps:List (List Nat),ps≠[]->(jL sep ps).length+sep.length=(ps.map fun p=>p.length+sep.length).sum
 | [],h=>absurd rfl h
 | [p],_=>by simp [jL]
 | p::q::r,_=>by
  have:=zgw sep (q::r) (cons_ne_nil _ _)
  simp only[jL,map_cons,sum_cons,length_append] at this |-;omega
theorem qA{y:Str}{ws:List Str}(h:ws≠[]):(Txt.join y ws).length+y.length=(ws.map fun w=>w.length+y.length).sum:=by
 have:=zgw (sg y) (ws.map sg) (by simpa using h)
 rw[<- jI,<- zN,<- zN,map_map] at this;rw[this];refine congrArg List.sum (List.map_congr_left fun w _=>?_);show(sg w).length+y.length=_;rw[<- zN]
theorem zaI{k:Nat}(hk : 1<=k):∀ws:List Str,(ws.map (·.length)).sum+ws.length<=(ws.map fun w=>w.length+k).sum
 | []=>le_refl _
 | w::r=>by
  have:=zaI hk r
  simp only[map_cons,sum_cons,length_cons];omega
theorem zdl{k:Nat}(a b:List Str):((a++b).map fun w=>w.length+k).sum=(a.map fun w=>w.length+k).sum+(b.map fun w=>w.length+k).sum:=by rw[map_append,sum_append]
theorem zbp{k s:Nat}(ws:List Str):(ws.map fun w=>w.length+k).sum=((ws.take s).map fun w=>w.length+k).sum+((ws.drop s).map fun w=>w.length+k).sum:=by rw[<- zdl,take_append_drop]
theorem zhc{k:Nat}(ws:List Str):(ws.reverse.map fun w=>w.length+k).sum=(ws.map fun w=>w.length+k).sum:=by
 rw[List.map_reverse,List.sum_reverse]
def ziV:Sp:=fun vs H Q _=>∃c:Int,vs=[.int c]/\∀z:Str,z.length=1->Q (.str z) H
def ziU:Sp:=fun vs H Q _=>∃(z:Str) (c o:Int),vs=[.str z,.int c,.int o]/\z.length<=30000/\(Txt.split z ", ").length<=900/\∀(y:Str) (H':Hp),zx H H'->y.length<=2 * z.length+20->Q (.str y) H'
theorem zcc{xs:List V}{n:Nat}:ji xs (some (n:Int)) none=xs.drop n:=by
 unfold ji;rw[HT.zml,HT.zlo];by_cases h:n<=xs.length
 ·rw[min_eq_left h]
  exact take_of_length_le (by simp)
 ·rw[min_eq_right (by omega),drop_length,drop_eq_nil_of_le (by omega),take_nil]
section
variable {P:Program}{w:World}{K:Frag}{mg:Str->Option Value}{base:Heap}{f:Addr}{fd:FuncData}
theorem zlj:zD ["_law_cell"] ["_law_cell"] (zr zjV):=fsc
theorem zkr(F:Fun K "_law_sign" "_law_sign" zjV f fd):zL P w K mg base CX0 1 f fd ["_law_cell"] ziV:=by
 refine F.ok zlj (fun cdv A outer s H vs Q E hr h=>?_);obtain⟨c,rfl,q⟩:=h;refine⟨_,zm (zB (zK wt zo (zt zZ (pv 0) zj) (fun _ _=>rfl))),?_⟩;have m0 : 0<=c % 24:=emod_nonneg _ (by decide)
 have m1:c % 24<24:=emod_lt_of_pos _ (by decide)
 refine⟨_,rfl,_,_,rfl,rfl,(by show(0:Int)<24;decide),?_⟩
 obtain⟨x,_,e,_⟩:=uY (xs:=(Str.ofString ", -=?!.:[]{}ab0129_@*+A\t").cps.toList) m0 (by show c % 24<(24:Nat);omega)
 exact⟨_,_,x,rfl,rfl,by decide,e,q _ rfl⟩
theorem j7:zD ["_law_text","_law_cell","_law_other_here","_law_at","_law_way","_law_sign_here","_law_parts_here","_law_spot"] ["_law_text","_law_cell","_law_other_here"] (zr zjU):=fsc
theorem zlP:([Str.ofString "_law_k",Str.ofString "_law_cell",Str.ofString "_law_other_here"]:List Str).Nodup:=by decide +kernel
structure zl8(mg:Str->Option Value):Prop where
 len:mg "len"=none
 lst:mg "list"=none
 rev:mg "reversed"=none
 range:mg "range"=none
theorem zkq{f1:Addr}{e1:FuncData}(F:Fun K "_law_spoiled" "_law_spoiled" zjU f fd)(T:zl8 mg)(c1:z8 P w K mg base 1 "_law_sign" f1 e1 ["_law_cell"] ziV):zL P w K mg base CX0 2 f fd ["_law_text","_law_cell","_law_other_here"] ziU:=by
 refine F.ok j7 (fun cdv A outer s H vs Q E hr h=>?_);obtain⟨z,cc,o,rfl,lz,lsp,q⟩:=h;have hr1:yh 1 _:=hr.mono (by decide)
 have b0 : 0<=o % ((z.length:Int)+1):=emod_nonneg _ (by omega)
 have b1:o % ((z.length:Int)+1)<(z.length:Int)+1:=emod_lt_of_pos _ (by omega)
 refine zQ (zC (i:=3) j7.nd rfl (Or.inl rfl) (zt zZ (pv 2) (zt yJ (cB yg T.len PySem.boot_len (ac (pv 0) zi)) zj))) ?_;refine⟨_,rfl,_,rfl,z,rfl,by rw[sizeLine_eq];omega,_,_,rfl,rfl,_,_,rfl,rfl,(by show(0:Int)<(z.length:Int)+1;omega),?_⟩
 dsimp only[yc];generalize o % ((z.length:Int)+1)=a at b0 b1 |-;refine zQ (zC (i:=4) j7.nd rfl (Or.inl rfl) (zt zZ (pv 1) zj)) ?_;refine⟨_,rfl,_,_,rfl,rfl,(by show(0:Int)<8;decide),?_⟩
 dsimp only[yc];generalize cc % 8=wy;refine zQ (zC (i:=5) j7.nd rfl (Or.inl rfl) (cF c1 hr1 (ac (zt yf (pv 1) zj) zi))) ?_;refine⟨_,rfl,_,_,rfl,rfl,⟨by decide,by decide⟩,_,rfl,fun sn hsn=>?_⟩
 dsimp only[yc];have sl1:=slice_le z none (some a);have sl2:=slice_le z (some a) none;have sl3:=slice_le z (some (a+1)) none;have so:=xO z ", ";have hne:Txt.split z ", "≠[]:=fun e=>by have:=so.pos;rw[e] at this;exact absurd this (by decide)
 have js:z.length+2=((Txt.split z ", ").map fun w=>w.length+2).sum:=by
  have:=qA (y:=", ") hne
  rw[so.back] at this;exact this
 refine zQ (zJ (zw yi (pv 4) zj (zE _)) (zm (zB (zt zA (zt zA (zR yy (pv 0) ym (zT (pv 3))) (pv 5)) (zR yy (pv 0) (zT (pv 3)) ym)))) zz) ?_;refine⟨_,rfl,rfl,_,rfl,?_⟩;by_cases h1:V.int wy=V.int 1
 ·refine dT h1 ?_
  refine⟨_,rfl,_,rfl,_,rfl,z,rfl,by rw[sizeLine_eq];omega,_,rfl,_,_,rfl,rfl,by rw[sizeLine_eq];omega,_,rfl,_,rfl,_,rfl,z,rfl,by rw[sizeLine_eq];omega,_,_,rfl,rfl,by rw[zG,sizeLine_eq];omega,?_⟩
  exact q _ _ (zx.refl _) (by rw[zG,zG];omega)
 refine dF h1 ?_;refine zQ (zJ (zw yi (pv 4) zj (zE _)) (zm (zB (zt zA (zR yy (pv 0) ym (zT (pv 3))) (zR yy (pv 0) (zT (zt yJ (pv 3) zj)) ym)))) zz) ?_;refine⟨_,rfl,rfl,_,rfl,?_⟩;by_cases h2:V.int wy=V.int 2
 ·refine dT h2 ?_
  refine⟨_,rfl,_,rfl,_,rfl,z,rfl,by rw[sizeLine_eq];omega,_,rfl,_,rfl,_,_,rfl,rfl,_,rfl,z,rfl,by rw[sizeLine_eq];omega,_,_,rfl,rfl,by rw[sizeLine_eq];omega,?_⟩
  exact q _ _ (zx.refl _) (by rw[zG];omega)
 refine dF h2 ?_;refine zQ (zJ (zw yi (pv 4) zj (zE _)) (zm (zB (zt zA (zt zA (zR yy (pv 0) ym (zT (pv 3))) (pv 5)) (zR yy (pv 0) (zT (zt yJ (pv 3) zj)) ym)))) zz) ?_;refine⟨_,rfl,rfl,_,rfl,?_⟩;by_cases h3:V.int wy=V.int 3
 ·refine dT h3 ?_
  refine⟨_,rfl,_,rfl,_,rfl,z,rfl,by rw[sizeLine_eq];omega,_,rfl,_,_,rfl,rfl,by rw[sizeLine_eq];omega,_,rfl,_,rfl,_,_,rfl,rfl,_,rfl,z,rfl,by rw[sizeLine_eq];omega,_,_,rfl,rfl,by rw[zG,sizeLine_eq];omega,?_⟩
  exact q _ _ (zx.refl _) (by rw[zG,zG];omega)
 refine dF h3 ?_;refine zQ (zJ (zw yi (pv 4) zj (zE _)) (zp (zC (i:=6) j7.nd rfl (Or.inl rfl) (z7 PySem.F.plainAttrs_str PySem.F.slot_str_split PySem.F.type_str_split wW (pv 0) (ac zo zi)))
  (zp (zC (i:=7) j7.nd rfl (Or.inl rfl) (zt zZ (pv 2) (cB zO T.len PySem.boot_len (ac (pv 6) zi))))
  (zm (zB (z7 PySem.F.plainAttrs_str PySem.F.slot_str_join PySem.F.type_str_join yX zo (ac (zt wp (zR vQ (pv 6) ym (zT (zt yJ (pv 7) zj))) (zR vQ (pv 6) (zT (pv 7)) ym)) zi)))))) zz) ?_
 refine⟨_,rfl,rfl,_,rfl,?_⟩;by_cases h4:V.int wy=V.int 4
 ·refine dT h4 ?_
  refine⟨_,rfl,rfl,z,", ",rfl,rfl,rfl,by rw[sizeLine_eq];omega,by have:=so.line;rw[sizeLine_eq];omega,fun l hl=>?_⟩
  obtain⟨s1,g1⟩:=uC hl (.lst ((Txt.split z ", ").map V.str));dsimp only[yc];generalize upd H l (.lst ((Txt.split z ", ").map V.str))=H1 at s1 g1 |-;have pos:=so.pos;generalize Txt.split z ", "=ws at *;refine⟨_,rfl,_,rfl,l,_,rfl,.inl (zq g1),_,_,rfl,rfl,(by show(0:Int)<((ws.map V.str).length:Int);rw[length_map];omega),?_⟩
  dsimp only[yc];rw[length_map];have m0 : 0<=o % (ws.length:Int):=emod_nonneg _ (by omega)
  have m1:o % (ws.length:Int)<(ws.length:Int):=emod_lt_of_pos _ (by omega)
  obtain⟨sp,hsp⟩:∃sp:Nat,o % (ws.length:Int)=(sp:Int):=⟨_,(toNat_of_nonneg m0).symm⟩;rw[hsp] at m1 |-;have hspl:sp<ws.length:=by omega
  refine⟨rfl,_,rfl,_,rfl,_,_,rfl,rfl,_,rfl,l,_,rfl,zq g1,fun l2 hl2=>?_⟩;rw[show((sp:Int)+1)=((sp+1:Nat):Int) from rfl,zas];obtain⟨s2,g2⟩:=uC hl2 (.lst ((ws.map V.str).take (sp+1)));generalize upd H1 l2 (.lst ((ws.map V.str).take (sp+1)))=H2 at s2 g2 |-;refine⟨_,rfl,_,rfl,_,rfl,l,_,rfl,zq (s2 _ _ g1),fun l3 hl3=>?_⟩;rw[zcc];obtain⟨s3,g3⟩:=uC hl3 (.lst ((ws.map V.str).drop sp));generalize upd H2 l3 (.lst ((ws.map V.str).drop sp))=H3 at s3 g3 |-;refine⟨l2,l3,_,_,rfl,rfl,s3 _ _ g2,g3,by simp only[length_take,length_drop,length_map];rw[sizeLine_eq];omega,fun l4 hl4=>?_⟩
  rw[<- map_take,<- map_drop,<- map_append];have s4:=zk hl4 (.lst ((ws.take (sp+1)++ws.drop sp).map V.str));have e1:=zbp (k:=2) (s:=sp+1) ws;have e2:=zbp (k:=2) (s:=sp) ws;have e3:=zdl (k:=2) (ws.take (sp+1)) (ws.drop sp);have e4:=zaI (k:=2) (by decide) (ws.take (sp+1)++ws.drop sp)
  refine⟨", ",l4,ws.take (sp+1)++ws.drop sp,rfl,rfl,zc,by decide,by omega,?_⟩
  refine q _ _ (s1.trans (s2.trans (s3.trans s4))) ?_
  have:=qA (y:=", ") (ws:=ws.take (sp+1)++ws.drop sp) (fun e=>by
   have:=congrArg List.length e
   simp at this
   omega)
  rw[show(", " : Str).length=2 from rfl] at this;omega
 refine dF h4 ?_;refine zQ (zJ (zw yi (pv 4) zj (zE _)) (zp (zC (i:=6) j7.nd rfl (Or.inl rfl) (z7 PySem.F.plainAttrs_str PySem.F.slot_str_split PySem.F.type_str_split wW (pv 0) (ac zo zi)))
  (zm (zB (z7 PySem.F.plainAttrs_str PySem.F.slot_str_join PySem.F.type_str_join yX zo (ac (zcP rfl rfl T.lst rfl T.rev (ac (pv 6) zi)) zi))))) zz) ?_
 refine⟨_,rfl,rfl,_,rfl,?_⟩;by_cases h5:V.int wy=V.int 5
 ·refine dT h5 ?_
  refine⟨_,rfl,rfl,z,", ",rfl,rfl,rfl,by rw[sizeLine_eq];omega,by have:=so.line;rw[sizeLine_eq];omega,fun l hl=>?_⟩
  obtain⟨s1,g1⟩:=uC hl (.lst ((Txt.split z ", ").map V.str));dsimp only[yc];generalize upd H l (.lst ((Txt.split z ", ").map V.str))=H1 at s1 g1 |-;generalize Txt.split z ", "=ws at *;refine⟨rfl,_,rfl,l,_,rfl,zq g1,by rw[length_map];omega,fun l2 hl2=>?_⟩
  rw[<- List.map_reverse];have s2:=zk hl2 (.lst (ws.reverse.map V.str));have e3:=zhc (k:=2) ws;have e4:=zaI (k:=2) (by decide) ws.reverse
  refine⟨", ",l2,ws.reverse,rfl,rfl,zc,by decide,by omega,?_⟩
  refine q _ _ (s1.trans s2) ?_
  have:=qA (y:=", ") (ws:=ws.reverse) (by simpa using hne)
  rw[show(", " : Str).length=2 from rfl] at this;omega
 refine dF h5 ?_;refine zQ (zJ (zw yi (pv 4) zj (zE _)) (zm (zB (zt zA (pv 0) (zK yn (zP (ac zo (ac zo (ac zo (ac zo (ac zo (ac zo (ac zo zi)))))))) (zt zZ (zt yf (pv 1) zj) zj) (fun _ _=>rfl))))) zz) ?_;refine⟨_,rfl,rfl,_,rfl,?_⟩;by_cases h6:V.int wy=V.int 6
 ·refine dT h6 ?_
  have m0 : 0<=cc / 8 % 7:=emod_nonneg _ (by decide)
  have m1:cc / 8 % 7<7:=emod_lt_of_pos _ (by decide)
  refine⟨_,rfl,zmv,fun l hl=>⟨_,rfl,_,_,rfl,rfl,⟨by decide,by decide⟩,_,_,rfl,rfl,(by show(0:Int)<7;decide),?_⟩⟩
  obtain⟨x,hx,e,_⟩:=uY (xs:=[V.str "",.str ", ",.str " ",.str ", 01",.str ", -0",.str ", a:",.str ", z=1_0"]) m0 (by show cc / 8 % 7<(7:Nat);omega)
  obtain⟨t,rfl,ht⟩:∃t:Str,x=.str t/\t.length<=7:=by
   have:∀x∈[V.str "",.str ", ",.str " ",.str ", 01",.str ", -0",.str ", a:",.str ", z=1_0"],∃t:Str,x=.str t/\t.length<=7:=by
    intro x hx;simp only[mem_cons,not_mem_nil,or_false] at hx;rcases hx with rfl|rfl|rfl|rfl|rfl|rfl|rfl <;> exact⟨_,rfl,by decide⟩
   exact this x hx
  refine⟨l,_,_,.str t,rfl,rfl,zq zc,e,z,t,rfl,rfl,by rw[sizeLine_eq];omega,?_⟩
  exact q _ _ (zk hl _) (by rw[zG];omega)
 refine dF h6 ?_;refine zQ (zJ (zw yi (pv 4) zj (zE _)) (zm (zB (z7 PySem.F.plainAttrs_str PySem.F.slot_str_join PySem.F.type_str_join yX zo (ac (xY ["_law_other_here","_law_cell"] ["_law_k","_law_cell","_law_other_here"] [none,some 1,some 2] rfl ⟨rfl,rfl,rfl,rfl⟩ (xJ rfl T.range (ac (zt zZ (pv 2) zj) zi)) (z5 0) rfl rfl rfl
  (fun pins fp s H C=>⟨zF (i:=0) zlP rfl (Or.inl rfl) (.inr rfl),yA,cF c1 hr1 (ac (zt yJ (zt yJ (zt yf (pv 1) zj) (zt xX (pv 2) (zt yJ (pv 0) zj))) (zt xX (zt xX zj (pv 0)) (pv 0))) zi)⟩)) zi)))) zz) ?_
 refine⟨_,rfl,rfl,_,rfl,?_⟩;by_cases h7:V.int wy=V.int 7
 ·refine dT h7 ?_
  have m0 : 0<=o % 9:=emod_nonneg _ (by decide)
  have m1:o % 9<9:=emod_lt_of_pos _ (by decide)
  obtain⟨n,hn⟩:∃n:Nat,o % 9=(n:Int):=⟨_,(toNat_of_nonneg m0).symm⟩;refine⟨rfl,_,rfl,_,_,rfl,rfl,zp9,o % 9,rfl,by omega,by omega,fun D hD=>?_⟩
  rw[hn,show((n:Int)).toNat=n from rfl];refine vG (n:=n) (fun j ys H'=>zx H H'/\H' D=some (.lst ys)/\∃zs:List Str,ys=zs.map V.str/\zs.length=j/\∀x∈zs,x.length=1) ⟨zk hD _,zc,[],rfl,rfl,fun _ h=>by cases h⟩ ?_ ?_
  ·rintro j ys H' hj ⟨sH,hDy,zs,rfl,lj,hz⟩
   have e0:(0:Int)+(j:Int)=(j:Nat):=by omega
   rw[e0];refine⟨fun _=>⟨_,rfl,_,_,rfl,rfl,⟨by decide,by decide⟩,_,rfl,_,rfl,_,_,rfl,rfl,_,_,rfl,rfl,.inr ⟨by omega,by omega⟩,_,_,rfl,rfl,_,rfl,_,_,rfl,rfl,.inl ⟨by decide,by decide⟩,_,rfl,_,_,rfl,rfl,.inr ⟨by omega,by omega⟩,_,_,rfl,rfl,_,rfl,fun x hx=>?_⟩,fun z=>absurd z (by decide)⟩
   refine lcN.mk hj (yP (by omega)) hDy (by rw[length_map];omega) ⟨zU sH hD _,zc,zs++[x],by rw[map_append];rfl,by rw[length_append,lj];rfl,fun y hy=>?_⟩
   rcases List.mem_append.mp hy with hy|hy
   ·exact hz y hy
   ·have:y=x:=by simpa using hy
    rw[this];exact hx
  rintro ys H1 ⟨s1,hDy,zs,rfl,lj,hz⟩;have e5:=xE (xs:=zs) (B:=1) (fun x hx=>by rw[hz x hx];exact le_refl _)
  refine⟨"",D,zs,rfl,rfl,hDy,by decide,by omega,?_⟩
  refine q _ _ s1 ?_
  have:=uE (sep:="") (xs:=zs) (B:=1) (fun x hx=>by rw[hz x hx];exact le_refl _)
  rw[show("" : Str).length=0 from rfl] at this;omega
 refine dF h7 ?_;refine⟨_,zm (zB (pv 0)),?_⟩;exact⟨_,rfl,q _ _ (zx.refl _) (by omega)⟩
end
end K92
namespace L2
open PySem PySem.Spec PyProof.Rows
theorem zbC{a:Array Nat}:∀(n:Nat) (b:Array Nat),((List.replicate n a).foldl (fun x y=>x++y) b).size=b.size+n * a.size
 | 0,b=>by simp
 | n+1,b=>by
  rw[replicate_succ,List.foldl_cons,zbC n,Array.size_append,succ_mul];omega
theorem zhN{X:Cx}:OpR X (binaryOp .Mult) (fun x y H Q=>∃(z:Str) (n:Nat),x=.str z/\y=.int n/\2<=n/\n<=1000/\z.length=1/\∀t:Str,t.length=n->Q (.str t) H):=by
 intro pins s σ H x y v u Q I rx ry h;obtain⟨z,n,rfl,rfl,n2,n3,hz,q⟩:=h;obtain⟨t,rfl⟩:=rx;obtain⟨t',rfl⟩:=ry;have hc:((n:Int)==1||z.length==0)=false:=by
  rw[hz]
  have:((n:Int)==1)=false:=beq_eq_false_iff_ne.mpr (by omega)
  rw[this];rfl
 have sz:(({ cps:=List.foldl (fun x1 x2=>x1++x2) #[] (List.replicate (Int.toNat (n:Int)) z.cps) }:Str)).length=n:=by
  show(List.foldl (fun x1 x2=>x1++x2) #[] (List.replicate n z.cps)).size=n;rw[zbC]
  have:z.cps.size=1:=hz
  rw[this];simp
 refine P.mul_str ?_ (fun _ _=>?_) (fun _ _=>?_) ?_
 ·rw[decide_eq_false (show ¬(n:Int) < -(2 ^ 63:Int) by omega),decide_eq_false (show ¬(n:Int)>=2 ^ 63 by omega)];rfl
 ·have hb:(1000:Int)<=(2 ^ 63 - 1) / (n:Int):=by
   rw[Int.le_ediv_iff_mul_le (by omega)]
   omega
  rw[hz];omega
 ·unfold PySem.Builtin.Str.tooLong
  rw[hz,show Int.toNat (n:Int)=n from rfl];exact decide_eq_false (by rw[sizeLine_eq];omega)
 ·rw[if_neg (show ¬(n:Int)<1 by omega),if_neg (by rw[hc];exact zft)]
  exact⟨by rw[sz,sizeLine_eq];omega,.str _,H,I.tok _,⟨_,rfl⟩,q _ sz⟩
theorem zhx(n:Nat)(z:Str):(List.replicate n [V.str z]).flatten=(List.replicate n z).map V.str:=by
 induction n with
 | zero=>rfl
 | succ n ih=>rw[replicate_succ,flatten_cons,ih,replicate_succ];rfl
end L2
namespace K92
open PySem L2 PyProof.Rows
theorem qz(sep z:Str)(n:Nat):(Txt.join sep (List.replicate n z)).length<=n * (z.length+sep.length):=by
 have:=uE (sep:=sep) (xs:=List.replicate n z) (B:=z.length) (fun x hx=>by rw[eq_of_mem_replicate hx];exact le_refl _)
 rw[length_replicate] at this;rw[Nat.mul_add];exact this
theorem jZ(z:Str)(n:Nat):((List.replicate n z).map (·.length)).sum+(List.replicate n z).length<=n * (z.length+1):=by
 have:=xE (xs:=List.replicate n z) (B:=z.length) (fun x hx=>by rw[eq_of_mem_replicate hx];exact le_refl _)
 rw[length_replicate] at this |-;rw[Nat.mul_add];omega
theorem wm{H1:Hp}{l:Addr}{z:Str}{k:Nat}{i:Int}{R:VK}(hl:H1 l=none)(hi:i=(k:Int))(hk:k<=100)(hR:∀p H2,zx H1 H2->H2 p=some (.lst ((List.replicate k z).map V.str))->R (.ref p) H2):zlt (.ref l) (.int i) (upd H1 l (.lst [.str z])) R:=by
 subst hi;refine⟨l,k,[.str z],rfl,rfl,zc,by omega,by omega,by show 1 * k<=sizeLine;rw[sizeLine_eq];omega,fun p hp=>?_⟩
 rw[show((k:Int)).toNat=k from rfl,zhx];exact hR p _ ((zk hl _).trans (zk hp _)) zc
def zi0:Sp:=fun vs H Q _=>∃(c:Int) (n:Str),vs=[.int c,.str n]/\n.length<=8/\∀(y:Str) (H':Hp),zx H H'->y.length<=3000->Q (.str y) H'
section
variable {P:Program}{w:World}{K:Frag}{mg:Str->Option Value}{base:Heap}{f:Addr}{fd:FuncData}
theorem zdw:zD ["_law_cell","_law_name","_law_many","_law_way","_law_number"] ["_law_cell","_law_name"] (zr zj2):=fsc
theorem qm{xs:List Str}{i:Int}{B:Nat}(h0 : 0<=i)(h1:i<xs.length)(hb:∀x∈xs,x.length<=B):∃z:Str,atI (xs.map V.str) i=some (.str z)/\z∈xs/\z.length<=B:=by
 obtain⟨x,hx,e,_⟩:=uY (xs:=xs.map V.str) h0 (by rw[length_map];exact h1)
 obtain⟨z,hz,rfl⟩:=List.mem_map.mp hx;exact⟨z,e,hz,hb z hz⟩
theorem zkz(F:Fun K "_law_long" "_law_long" zj2 f fd):zL P w K mg base CX0 1 f fd ["_law_cell","_law_name"] zi0:=by
 refine F.ok zdw (fun cdv A outer s H vs Q E hr h=>?_);obtain⟨cc,n,rfl,ln,q⟩:=h;refine zQ (zC (i:=2) zdw.nd rfl (Or.inl rfl) (zt yJ zj (zt zZ (zt yf (pv 0) zj) zj))) ?_;have a0 : 0<=cc / 9 % 2:=emod_nonneg _ (by decide)
 have a1:cc / 9 % 2<2:=emod_lt_of_pos _ (by decide)
 refine⟨_,rfl,_,_,rfl,rfl,⟨by decide,by decide⟩,_,_,rfl,rfl,zp2,_,_,rfl,rfl,?_⟩
 dsimp only[yc];obtain⟨m,hm⟩:∃m:Nat,30+cc / 9 % 2=(m:Int):=⟨(30+cc / 9 % 2).toNat,by omega⟩
 have m1 : 30<=m/\m<=31:=by omega
 rw[hm];clear hm a0 a1;refine zQ (zC (i:=3) zdw.nd rfl (Or.inl rfl) (zt zZ (zt yf (pv 0) zj) zj)) ?_;refine⟨_,rfl,_,_,rfl,rfl,⟨by decide,by decide⟩,_,_,rfl,rfl,(by show(0:Int)<6;decide),?_⟩
 dsimp only[yc];generalize cc / 18 % 6=wy;have l7:("7" : Str).length=1:=rfl;have l5:("5" : Str).length=1:=rfl;have lc:(", " : Str).length=2:=rfl;have lb:(" " : Str).length=1:=rfl;have e1:("[" : Str).length=1:=rfl;have e2:("]" : Str).length=1:=rfl;have e3:("{" : Str).length=1:=rfl;have e4:("}" : Str).length=1:=rfl;have e5:("=7" : Str).length=2:=rfl;have e6:("=5" : Str).length=2:=rfl;have o1 : 1<=sizeLine:=by decide
 refine zQ (zJ (zw yi (pv 3) zj (zE _)) (zm (zB (z7 PySem.F.plainAttrs_str PySem.F.slot_str_join PySem.F.type_str_join yX zo (ac (zt wo (zP (ac zo zi)) (pv 2)) zi)))) zz) ?_;refine⟨_,rfl,rfl,_,rfl,?_⟩;by_cases h0:V.int wy=V.int 0
 ·refine dT h0 ⟨rfl,o1,fun l hl=>⟨_,rfl,wm hl rfl (by omega) fun p H2 s2 hp=>?_⟩⟩
  have:=jZ "7" m
  have j:=qz ", " "7" m;rw[l7] at this j;rw[lc] at j;exact⟨", ",p,_,rfl,rfl,hp,by decide,by omega,q _ _ s2 (by omega)⟩
 refine dF h0 ?_;refine zQ (zJ (zw yi (pv 3) zj (zE _)) (zm (zB (zt zA (zt zA zo (z7 PySem.F.plainAttrs_str PySem.F.slot_str_join PySem.F.type_str_join yX zo (ac (zt wo (zP (ac zo zi)) (pv 2)) zi))) zo))) zz) ?_;refine⟨_,rfl,rfl,_,rfl,?_⟩;by_cases h1:V.int wy=V.int 1
 ·refine dT h1 ⟨rfl,o1,fun l hl=>⟨_,rfl,wm hl rfl (by omega) fun p H2 s2 hp=>?_⟩⟩
  have:=jZ "7" m
  have j:=qz " " "7" m;rw[l7] at this j;rw[lb] at j;exact⟨" ",p,_,rfl,rfl,hp,by decide,by omega,_,_,rfl,rfl,by rw[e1,sizeLine_eq];omega,_,_,rfl,rfl,by rw[zG,e1,e2,sizeLine_eq];omega,q _ _ s2 (by rw[zG,zG,e1,e2];omega)⟩
 refine dF h1 ?_;refine zQ (zJ (zw yi (pv 3) zj (zE _)) (zm (zB (z7 PySem.F.plainAttrs_str PySem.F.slot_str_join PySem.F.type_str_join yX zo (ac (zt wp (zt wo (zP (ac (zt zA (zt zA zo (z7 PySem.F.plainAttrs_str PySem.F.slot_str_join PySem.F.type_str_join yX zo (ac (zt wo (zP (ac zo zi)) zj) zi))) zo) zi)) zj) (zt wo (zP (ac zo zi)) (zt uB (pv 2) zj))) zi)))) zz) ?_;refine⟨_,rfl,rfl,_,rfl,?_⟩;by_cases h2:V.int wy=V.int 2
 ·refine dT h2 ⟨rfl,rfl,o1,fun l hl=>?_⟩
  dsimp only[tC];refine wm (i:=20) (k:=20) hl rfl (by decide) fun p H2 s2 hp=>?_
  have t1:=jZ "7" 20;have j1:=qz " " "7" 20;rw[l7] at t1 j1;rw[lb] at j1;refine⟨" ",p,_,rfl,rfl,hp,by decide,by omega,_,_,rfl,rfl,by rw[e1,sizeLine_eq];omega,_,_,rfl,rfl,by rw[zG,e1,e2,sizeLine_eq];omega,o1,fun l2 hl2=>?_⟩
  refine wm (i:=3) (k:=3) hl2 rfl (by decide) fun p2 H3 s3 hp2=>?_
  have lz:("["++Txt.join " " (List.replicate 20 "7")++"]" : Str).length<=42:=by rw[zG,zG,e1,e2];omega
  generalize ("["++Txt.join " " (List.replicate 20 "7")++"]" : Str)=z1 at *;refine⟨o1,fun l3 hl3=>⟨_,rfl,_,_,rfl,rfl,wm (k:=m - 30) hl3 (by omega) (by omega) fun p3 H4 s4 hp3=>?_⟩⟩
  refine⟨p2,p3,_,_,rfl,rfl,s4 _ _ hp2,hp3,by simp only[length_map,length_replicate];rw[sizeLine_eq];omega,fun p4 hp4=>?_⟩
  rw[<- map_append];have ex:∀x∈List.replicate 3 z1++List.replicate (m - 30) ("5" : Str),x.length<=42:=fun x hx=>by
   rcases List.mem_append.mp hx with hx|hx
   ·rw[eq_of_mem_replicate hx];exact lz
   ·rw[eq_of_mem_replicate hx,l5];decide
  have t2:=xE ex;have j2:=uE (sep:=", ") ex;simp only[length_append,length_replicate,lc] at t2 j2;refine⟨", ",p4,_,rfl,rfl,zc,by decide,by simp only[length_append,length_replicate];omega,q _ _ (s2.trans (s3.trans (s4.trans (zk hp4 _)))) (by omega)⟩
 refine dF h2 ?_;refine zQ (zJ (zw yi (pv 3) zj (zE _)) (zm (zB (z7 PySem.F.plainAttrs_str PySem.F.slot_str_join PySem.F.type_str_join yX zo (ac (zt wp (zt wo (zP (ac (zt zA (zt zA zo (z7 PySem.F.plainAttrs_str PySem.F.slot_str_join PySem.F.type_str_join yX zo (ac (zt wo (zP (ac (zt zA (pv 1) zo) zi)) zj) zi))) zo) zi)) zj) (zt wo (zP (ac (zt zA (pv 1) zo) zi)) (zt uB (pv 2) zj))) zi)))) zz) ?_;refine⟨_,rfl,rfl,_,rfl,?_⟩;have ln7:(n++"=7" : Str).length<=10:=by rw[zG,e5];omega
 have ln5:(n++"=5" : Str).length<=10:=by rw[zG,e6];omega
 by_cases h3:V.int wy=V.int 3
 ·refine dT h3 ⟨rfl,rfl,_,rfl,n,"=7",rfl,rfl,by rw[e5,sizeLine_eq];omega,o1,fun l hl=>?_⟩
  dsimp only[tC];refine wm (i:=30) (k:=30) hl rfl (by decide) fun p H2 s2 hp=>?_
  have t1:=jZ (n++"=7") 30;have j1:=qz " " (n++"=7") 30;rw[lb] at j1;refine⟨" ",p,_,rfl,rfl,hp,by decide,by omega,_,_,rfl,rfl,by rw[e3,sizeLine_eq];omega,_,_,rfl,rfl,by rw[zG,e3,e4,sizeLine_eq];omega,o1,fun l2 hl2=>?_⟩
  refine wm (i:=2) (k:=2) hl2 rfl (by decide) fun p2 H3 s3 hp2=>?_
  have lz:("{"++Txt.join " " (List.replicate 30 (n++"=7"))++"}" : Str).length<=340:=by rw[zG,zG,e3,e4];omega
  generalize ("{"++Txt.join " " (List.replicate 30 (n++"=7"))++"}" : Str)=z1 at *;refine⟨_,rfl,n,"=5",rfl,rfl,by rw[e6,sizeLine_eq];omega,o1,fun l3 hl3=>⟨_,rfl,_,_,rfl,rfl,?_⟩⟩
  refine wm (k:=m - 30) hl3 (by omega) (by omega) fun p3 H4 s4 hp3=>?_
  refine⟨p2,p3,_,_,rfl,rfl,s4 _ _ hp2,hp3,by simp only[length_map,length_replicate];rw[sizeLine_eq];omega,fun p4 hp4=>?_⟩
  rw[<- map_append];have ex:∀x∈List.replicate 2 z1++List.replicate (m - 30) (n++"=5"),x.length<=340:=fun x hx=>by
   rcases List.mem_append.mp hx with hx|hx
   ·rw[eq_of_mem_replicate hx];exact lz
   ·rw[eq_of_mem_replicate hx];omega
  have t2:=xE ex;have j2:=uE (sep:=", ") ex;simp only[length_append,length_replicate,lc] at t2 j2;refine⟨", ",p4,_,rfl,rfl,zc,by decide,by simp only[length_append,length_replicate];omega,q _ _ (s2.trans (s3.trans (s4.trans (zk hp4 _)))) (by omega)⟩
 refine dF h3 ?_;refine zQ (zJ (zw yi (pv 3) zj (zE _)) (zm (zB (zt zA (zt zA zo (z7 PySem.F.plainAttrs_str PySem.F.slot_str_join PySem.F.type_str_join yX zo (ac (zt wo (zP (ac (zt zA (pv 1) zo) zi)) (pv 2)) zi))) zo))) zz) ?_;refine⟨_,rfl,rfl,_,rfl,?_⟩;by_cases h4:V.int wy=V.int 4
 ·refine dT h4 ⟨rfl,_,rfl,n,"=7",rfl,rfl,by rw[e5,sizeLine_eq];omega,o1,fun l hl=>⟨_,rfl,?_⟩⟩
  refine wm (k:=m) hl rfl (by omega) fun p H2 s2 hp=>?_
  have t1:=jZ (n++"=7") m;have j1:=qz " " (n++"=7") m;rw[lb] at j1;have k1:m * ((n++"=7").length+1)<=31 * 11:=Nat.mul_le_mul (by omega) (by omega)
  exact⟨" ",p,_,rfl,rfl,hp,by decide,by omega,_,_,rfl,rfl,by rw[e3,sizeLine_eq];omega,_,_,rfl,rfl,by rw[zG,e3,e4,sizeLine_eq];omega,q _ _ s2 (by rw[zG,zG,e3,e4];omega)⟩
 refine dF h4 ?_;refine zQ (zC (i:=4) zdw.nd rfl (Or.inl rfl) (zt zA (zt zA (zK yn (zP (ac zo (ac zo zi))) (zt zZ (zt yf (pv 0) zj) zj) (fun _ _=>rfl)) (zK yn (zP (ac zo (ac zo zi))) (zt zZ (zt yf (pv 0) zj) zj) (fun _ _=>rfl))) (zt zhN (zK yn (zP (ac zo (ac zo zi))) (zt zZ (zt yf (pv 0) zj) zj) (fun _ _=>rfl)) (zt yJ (pv 2) zj)))) ?_;have two : 2<=sizeLine:=by decide
 have md:∀(k:Int),0<=k % 2/\k % 2<(2:Nat):=fun k=>⟨emod_nonneg _ (by decide),by have:=emod_lt_of_pos k (show(0:Int)<2 by decide);omega⟩
 refine⟨two,fun a1 ha1=>⟨_,rfl,_,_,rfl,rfl,⟨by decide,by decide⟩,_,_,rfl,rfl,zp2,?_⟩⟩
 obtain⟨y1,k1,_,b1⟩:=qm (xs:=["","-"]) (B:=1) (md (cc / 108)).1 (md (cc / 108)).2 (by decide)
 refine⟨a1,_,_,.str y1,rfl,rfl,zq zc,k1,two,fun a2 ha2=>⟨_,rfl,_,_,rfl,rfl,⟨by decide,by decide⟩,_,_,rfl,rfl,zp2,?_⟩⟩
 obtain⟨y2,k2,_,b2⟩:=qm (xs:=["9","1"]) (B:=1) (md (cc / 216)).1 (md (cc / 216)).2 (by decide)
 refine⟨a2,_,_,.str y2,rfl,rfl,zq zc,k2,y1,y2,rfl,rfl,by rw[sizeLine_eq];omega,two,fun a3 ha3=>⟨_,rfl,_,_,rfl,rfl,⟨by decide,by decide⟩,_,_,rfl,rfl,zp2,?_⟩⟩
 obtain⟨y3,k3,m3,b3⟩:=qm (xs:=["9","0"]) (B:=1) (md (cc / 216)).1 (md (cc / 216)).2 (by decide)
 have b3':y3.length=1:=by
  simp only[mem_cons,not_mem_nil,or_false] at m3;rcases m3 with rfl|rfl <;> rfl
 refine⟨a3,_,_,.str y3,rfl,rfl,zq zc,k3,_,rfl,_,_,rfl,rfl,y3,m+29,rfl,rfl,by omega,by omega,b3',fun y4 b4=>?_⟩
 have l12:(y1++y2:Str).length<=2:=by rw[zG];omega
 refine⟨_,_,rfl,rfl,by rw[sizeLine_eq];omega,?_⟩
 have lN:(y1++y2++y4:Str).length<=70:=by rw[zG];omega
 have sA:=(zk ha1 (.lst [.str "",.str "-"])).trans ((zk ha2 (.lst [.str "9",.str "1"])).trans (zk ha3 (.lst [.str "9",.str "0"])));dsimp only[yc];generalize (y1++y2++y4:Str)=N at lN |-;generalize upd (upd (upd H a1 (.lst [.str "",.str "-"])) a2 (.lst [.str "9",.str "1"])) a3 (.lst [.str "9",.str "0"])=HA at sA |-;refine⟨_,zm (zB (zK yn (zP (ac (zt zA zo (pv 4)) (ac (zt zA (zt zA zo (pv 4)) zo) (ac (zt zA (zt zA (pv 1) zo) (pv 4)) (ac (zt zA (zt zA (zt zA (zt zA zo (pv 1)) zo) (pv 4)) zo) zi))))) (zt zZ (zt yf (pv 0) zj) zj) (fun _ _=>rfl))),?_⟩;have g1:("5, " : Str).length=3:=rfl;have g2:("[1 " : Str).length=3:=rfl;have g3:("=" : Str).length=1:=rfl;refine⟨_,rfl,_,_,rfl,rfl,by rw[g1,sizeLine_eq];omega,_,rfl,_,_,rfl,rfl,by rw[g2,sizeLine_eq];omega,_,_,rfl,rfl,by rw[zG,g2,e2,sizeLine_eq];omega,_,rfl,_,_,rfl,rfl,by rw[g3,sizeLine_eq];omega,_,rfl,_,_,rfl,rfl,by rw[zG,g3,sizeLine_eq];omega,_,rfl,_,_,rfl,rfl,by rw[e3,sizeLine_eq];omega,_,_,rfl,rfl,by rw[zG,e3,g3,sizeLine_eq];omega,_,rfl,_,_,rfl,rfl,by rw[zG,zG,e3,g3,sizeLine_eq];omega,_,_,rfl,rfl,by rw[zG,zG,zG,e3,e4,g3,sizeLine_eq];omega,by show 4<=sizeLine;decide,fun l hl=>?_⟩
 have d0 : 0<=cc / 432 % 4:=emod_nonneg _ (by decide)
 have d1:cc / 432 % 4<(4:Nat):=by have:=emod_lt_of_pos (cc / 432) (show(0:Int)<4 by decide);omega
 obtain⟨y,ky,_,hy⟩:=qm (xs:=["5, "++N,"[1 "++N++"]",n++"="++N,"{"++n++"="++N++"}"]) (B:=200) d0 d1 (by
  intro x hx;simp only[mem_cons,not_mem_nil,or_false] at hx;rcases hx with rfl|rfl|rfl|rfl <;> simp only[zG,g1,g2,g3,e2,e3,e4] <;> omega)
 refine⟨_,rfl,_,_,rfl,rfl,⟨by decide,by decide⟩,_,_,rfl,rfl,(by show(0:Int)<4;decide),l,_,_,.str y,rfl,rfl,zq zc,ky,?_⟩
 exact q _ _ (sA.trans (zk hl _)) (by omega)
end
end K92
namespace L2
open PySem PySem.Spec PyProof.Rows PySem.Builtin
section
variable {prog:Program}{w:World}{A:Around}{E:VSP}{s:Shared}
theorem qp{it:Addr}{x left step:Int}{Q:VSP}(hi:IsRangeIter s.heap it x left step)(hl : 0<left)
  (q:∀h',IsRangeIter h' it (x+step) (left - 1) step->Heap.SameBut it s.heap h'->Q (.int x s.toks) { s with heap:=h',toks:=s.toks+1 }):wpAny (model prog w) A (SmallTypes.nextOf (.ref it)) Q E s:=by
 have ty:s.TypeIs (.ref it) "range_iterator":=⟨_,hi,rfl⟩;unfold SmallTypes.nextOf;refine zwb (wpAny_callSpecial?_slot (name:=Str.ofString "__next__") ty F.slot_range_iterator_next (call_meets F.slot_range_iterator_next ty F.entry_range_iterator_next (F.args_range_iterator_next_1 _) (AutoRange.range_iterator___next___range_iterator_1 it x left step (by omega)) ⟨hi,?_⟩))
 exact zwp (q _ (Heap.get?_update_self _ (Heap.get?_update_self _ hi rfl) rfl) ((Heap.SameBut.update ..).trans (Heap.SameBut.update ..)))
theorem zeD{it:Addr}{x left step:Int}{Q:VSP}(hA:A.handled=none)(hi:IsRangeIter s.heap it x left step)(hl:left<=0)
  (q:∀h' e,Heap.ExtBut it s.heap h'->(∃o,h'.get? e=some o/\o.cls=.type "StopIteration")->E (.ref e) { s with heap:=h' }):wpAny (model prog w) A (SmallTypes.nextOf (.ref it)) Q E s:=by
 have ty:s.TypeIs (.ref it) "range_iterator":=⟨_,hi,rfl⟩;unfold SmallTypes.nextOf;refine zwb (wpAny_callSpecial?_slot (name:=Str.ofString "__next__") ty F.slot_range_iterator_next (wpAny_call_entry F.slot_range_iterator_next ty F.entry_range_iterator_next ?_ (F.args_range_iterator_next_1 _)));unfold Builtin.«range_iterator.__next__»;rw[show slotArgs "__next__" 0 { pos:=[Value.ref it] }=pure (.ref it,[]) from rfl];refine zwb (zwp ?_);dsimp only;refine zwb (wpAny_field (x:=rawInt x) hi rfl rfl ?_);unfold rawInt;dsimp only;refine zwb (wpAny_field (x:=rawInt left) hi rfl rfl ?_);unfold rawInt;dsimp only;refine zwb (wpAny_field (x:=rawInt step) hi rfl rfl ?_);unfold rawInt;dsimp only;rw[if_pos hl];refine zwb (wpAny_rule (zwb ?_));unfold SmallTypes.stopIteration newExc;refine zwb (zwb (wpAny_newTuple ?_ vc));unfold firstArgMember;dsimp only;refine zwb (zwb (zwp (zwp ?_)));have fm:(if (Manifest.find? "StopIteration").elim false (fun t=>t.mro.contains "StopIteration"||t.mro.contains "SystemExit")=true then ([]:List Value).headD Value.none else Value.none)=Value.none:=by split <;> rfl
 rw[fm];refine wpAny_newObj_type ?_ (by show 6<=sizeLine+2;decide)
 dsimp only;unfold raiseNew;refine zwb (wpAny_handled_none (show A.in1.handled=none from hA) (wpAny_throw ?_));exact q _ _ (((Heap.ExtBut.refl it s.heap).push _).push _) ⟨_,zgs _ rfl,rfl⟩
theorem zg8{z ti to i1 i2 l2:Addr}{x left step:Int}{k2:Nat}{ys:Array Value}{y a b:Value}{Q:VSP}(D:ZipApart z ti to i1 i2 l2 l2)(hz:IsZip s.heap z ti to .none)(hti:IsPair s.heap ti (.ref i1) (.ref i2))(hto:IsPair s.heap to a b)
  (h1:IsRangeIter s.heap i1 x left step) (hl : 0<left) (h2:s.heap.IsListIter i2 l2 k2) (g2:s.heap.IsList l2 ys) (hy:ys[k2]?=some y)
  (q:∀h',IsZip h' z ti to (rawInt s.heap.objs.size)->(∃u v,IsPair h' to u v)->IsRangeIter h' i1 (x+step) (left - 1) step->h'.IsListIter i2 l2 (k2+1)->IsPair h' s.heap.objs.size (.int x s.toks) y->
   (∀c o,c≠z->c≠to->c≠i1->c≠i2->s.heap.get? c=some o->h'.get? c=some o)->Q (.ref s.heap.objs.size) { s with heap:=h',toks:=s.toks+1 }) :
  wpAny (model prog w) A (Builtin.«zip.__next__» ⟨[.ref z],[]⟩) (fun fin s'=>∃v,fin=.done (.ret v)/\Q v s') E s:=by
 show wpAny (model prog w) A (field (.ref z) 2 >>= _) _ E s;refine zwb (wpAny_field (x:=.bool false) hz rfl rfl ?_);show wpAny (model prog w) A (field (.ref z) 3 >>= _) _ E s;refine zwb (wpAny_field (x:=.ref ti) hz rfl rfl (zwb (wpAny_seqItems hti rfl ?_)));show wpAny (model prog w) A (SmallTypes.ownedTupleIsFree (.ref z) >>= _) _ E s;refine zwb ?_;unfold SmallTypes.ownedTupleIsFree;refine zwb (wpAny_field (x:=.none) hz rfl rfl (zwp ?_));simp only[if_true];refine zwb (wpAny_rule (zwb (wpAny_field (x:=.ref to) hz rfl rfl (zwb (wpAny_setField_rec hz (by simp) fun ha za sa=>?_)))))
 have za:IsZip ha z ti to .ellipsis:=za;refine zwb ?_;simp only[List.zipIdx_cons,List.zipIdx_nil,forIn_cons,List.forIn_nil];refine zwb (zwb (wpAny_onRaise ?_));show wpAny _ _ (SmallTypes.nextOf (.ref i1) >>= _) _ _ _;refine zwb (qp (s:={ s with heap:=ha }) ((sa.2 i1 D.i1z).trans h1) hl fun hb r1 sb=>zwp ?_)
 have tob:IsPair hb to a b:=(sb.2 to D.TOi1).trans ((sa.2 to D.TOz).trans hto);refine zwb (wpAny_seqItems tob rfl (zwb (wpAny_updateSeq_pair tob fun hc toc sc=>?_)));have toc:IsPair hc to (.int x s.toks) b:=toc;refine zwb (wpAny_letGo (zwp ?_));refine zwb (zwb (wpAny_onRaise ?_));show wpAny _ _ (SmallTypes.nextOf (.ref i2) >>= _) _ _ _;refine zwb (wpAny_nextOf_list_item (((h2.extBut sa.extBut D.i2z).extBut sb.extBut D.i12.symm).extBut sc.extBut D.TOi2.symm) (((g2.extBut sa.extBut D.l2z).extBut sb.extBut D.l2i1).extBut sc.extBut D.l2TO) hy fun hd r2 sd=>zwp ?_);have tod:IsPair hd to (.int x s.toks) b:=(sd.2 to D.TOi2).trans toc;refine zwb (wpAny_seqItems tod rfl (zwb (wpAny_updateSeq_pair tod fun he toe se=>?_)));have toe:IsPair he to (.int x s.toks) y:=toe;refine zwb (wpAny_letGo (zwp (zwp ?_)));refine zwb (wpAny_seqItems toe rfl (zwb (wpAny_newTuple ?_)));have esz:he.objs.size=s.heap.objs.size:=by rw[se.1,sd.1,sc.1,sb.1,sa.1]
 have ze:IsZip he z ti to .ellipsis:=(se.2 z D.TOz.symm).trans ((sd.2 z D.i2z.symm).trans ((sc.2 z D.TOz.symm).trans ((sb.2 z D.i1z.symm).trans za)));have ke:∀c o,c≠z->c≠to->c≠i1->c≠i2->s.heap.get? c=some o->he.get? c=some o:=fun c o c1 c2 c3 c4 e=>
  (se.2 c c2).trans ((sd.2 c c4).trans ((sc.2 c c2).trans ((sb.2 c c3).trans ((sa.2 c c1).trans e))))
 have r1e:IsRangeIter he i1 (x+step) (left - 1) step:=(se.2 i1 D.TOi1.symm).trans ((sd.2 i1 D.i12).trans ((sc.2 i1 D.TOi1.symm).trans r1));have r2e:he.IsListIter i2 l2 (k2+1):=r2.extBut se.extBut D.TOi2.symm;have lz:z<he.objs.size:=Heap.lt_size ze;show wpAny _ _ (SmallTypes.ownedTupleHandOut (.ref z) (.ref he.objs.size) >>= _) _ _ _;refine zwb ?_;unfold SmallTypes.ownedTupleHandOut;have zf:IsZip (he.push { cls:=.type "tuple",data:=.seq #[.int x s.toks,y] }) z ti to .ellipsis:=zgp _ ze;refine zwb (wpAny_setField_rec zf (by simp) fun hg zg sg'=>?_)
 have zg:IsZip hg z ti to (rawInt he.objs.size):=zg;refine wpAny_setField_rec zg (by simp) fun hh zh sh=>?_
 have zh:IsZip hh z ti to (rawInt he.objs.size):=zh;have up:∀c o,c≠z->he.get? c=some o->hh.get? c=some o:=fun c o c1 e=>(sh.2 c c1).trans ((sg'.2 c c1).trans (zgp _ e));have tp:IsPair hh he.objs.size (.int x s.toks) y:=(sh.2 _ (Nat.ne_of_gt lz)).trans ((sg'.2 _ (Nat.ne_of_gt lz)).trans (zgs _ rfl));rw[esz] at zh tp;refine zwp ⟨_,rfl,?_⟩;show Q (.ref he.objs.size) _;rw[esz];exact q hh zh ⟨_,_,up _ _ D.TOz toe⟩ (up _ _ D.i1z r1e) (r2e.at fun o e=>up _ o D.i2z e) tp fun c o c1 c2 c3 c4 e=>up c o c1 (ke c o c1 c2 c3 c4 e)
theorem zjp{z ti to i1 i2 l2:Addr}{x left step:Int}{k2:Nat}{ys:Array Value}{a b:Value}{Q:Fin->Shared->Prop}(hA:A.handled=none)(D:ZipApart z ti to i1 i2 l2 l2)(hz:IsZip s.heap z ti to .none)(hti:IsPair s.heap ti (.ref i1) (.ref i2))(hto:IsPair s.heap to a b)
  (h1:IsRangeIter s.heap i1 x left step) (h2:s.heap.IsListIter i2 l2 k2) (g2:s.heap.IsList l2 ys) (hy:left<=0\/ys[k2]?=none)
  (q:∀h' e tk,(∀c o,c≠z->c≠to->c≠i1->c≠i2->s.heap.get? c=some o->h'.get? c=some o)->(∃o,h'.get? e=some o/\o.cls=.type "StopIteration")->E (.ref e) { s with heap:=h',toks:=tk }) :
  wpAny (model prog w) A (Builtin.«zip.__next__» ⟨[.ref z],[]⟩) Q E s:=by
 show wpAny (model prog w) A (field (.ref z) 2 >>= _) Q E s;refine zwb (wpAny_field (x:=.bool false) hz rfl rfl ?_);show wpAny (model prog w) A (field (.ref z) 3 >>= _) Q E s;refine zwb (wpAny_field (x:=.ref ti) hz rfl rfl (zwb (wpAny_seqItems hti rfl ?_)));show wpAny (model prog w) A (SmallTypes.ownedTupleIsFree (.ref z) >>= _) Q E s;refine zwb ?_;unfold SmallTypes.ownedTupleIsFree;refine zwb (wpAny_field (x:=.none) hz rfl rfl (zwp ?_));simp only[if_true];refine zwb (wpAny_rule (zwb (wpAny_field (x:=.ref to) hz rfl rfl (zwb (wpAny_setField_rec hz (by simp) fun ha za sa=>?_)))))
 have za:IsZip ha z ti to .ellipsis:=za;refine zwb ?_;simp only[List.zipIdx_cons,List.zipIdx_nil,forIn_cons,List.forIn_nil];refine zwb (zwb (wpAny_onRaise ?_));show wpAny _ _ (SmallTypes.nextOf (.ref i1) >>= _) _ _ _;by_cases hl:left<=0
 ·refine zwb (zeD (s:={ s with heap:=ha }) hA ((sa.2 i1 D.i1z).trans h1) hl fun hb e sb ⟨oe,ho,hc⟩=>?_)
  have zb:IsZip hb z ti to .ellipsis:=sb _ _ D.i1z.symm za;have nz:e≠z:=fun v=>by subst v;rw[zb] at ho;cases ho;simp at hc
  refine wpAny_setField_rec zb (by simp) fun hc' _ sc=>?_
  exact q hc' e s.toks (fun c o c1 _ c3 _ v=>(sc.2 c c1).trans (sb c o c3 ((sa.2 c c1).trans v))) ⟨oe,(sc.2 e nz).trans ho,hc⟩
 ·have hy:ys[k2]?=none:=hy.resolve_left hl
  refine zwb (qp (s:={ s with heap:=ha }) ((sa.2 i1 D.i1z).trans h1) (by omega) fun hb r1 sb=>zwp ?_)
  have tob:IsPair hb to a b:=(sb.2 to D.TOi1).trans ((sa.2 to D.TOz).trans hto);refine zwb (wpAny_seqItems tob rfl (zwb (wpAny_updateSeq_pair tob fun hc toc sc=>?_)));refine zwb (wpAny_letGo (zwp ?_));refine zwb (zwb (wpAny_onRaise ?_));show wpAny _ _ (SmallTypes.nextOf (.ref i2) >>= _) _ _ _;refine zwb (wpAny_nextOf_list_end hA (((h2.extBut sa.extBut D.i2z).extBut sb.extBut D.i12.symm).extBut sc.extBut D.TOi2.symm) (((g2.extBut sa.extBut D.l2z).extBut sb.extBut D.l2i1).extBut sc.extBut D.l2TO) hy fun hd e sd ⟨oe,ho,hcl⟩=>?_);have zd:IsZip hd z ti to .ellipsis:=sd _ _ D.i2z.symm ((sc.2 z D.TOz.symm).trans ((sb.2 z D.i1z.symm).trans za));have nz:e≠z:=fun v=>by subst v;rw[zd] at ho;cases ho;simp at hcl
  refine wpAny_setField_rec zd (by simp) fun he _ se=>?_
  exact q he e _ (fun c o c1 c2 c3 c4 v=>(se.2 c c1).trans (sd c o c4 ((sc.2 c c2).trans ((sb.2 c c3).trans ((sa.2 c c1).trans v))))) ⟨oe,(se.2 e nz).trans ho,hcl⟩
abbrev zq1(h:Heap)(n:Int):Heap:=h.push { cls:=.type "range_iterator",data:=.fields #[rawInt 0,rawInt (Builtin.Range.rangeSize 0 n 1),rawInt 1] }
abbrev zq2(h:Heap)(n:Int)(l:Addr):Heap:=(zq1 h n).push { cls:=.type "list_iterator",data:=.fields #[.ref l,.int 0 0] }
abbrev zq3(h:Heap)(n:Int)(l:Addr):Heap:=(zq2 h n l).push { cls:=.type "tuple",data:=.seq #[.ref h.objs.size,.ref (zq1 h n).objs.size] }
abbrev zq4(h:Heap)(n:Int)(l:Addr):Heap:=(zq3 h n l).push { cls:=.type "tuple",data:=.seq #[.none,.none] }
abbrev zq5(h:Heap)(n:Int)(l:Addr):Heap:=(zq4 h n l).push { cls:=.type "zip",data:=.fields #[.none,.bool false,.bool false,.ref (zq2 h n l).objs.size,.ref (zq3 h n l).objs.size] }
theorem zgu(r l:Addr)(n:Int)(t u v:Tok)(ys:Array Value)(hs:Builtin.Range.small 0 n 1=true):
  Meets (Builtin.«zip.__new__» ⟨[.type "zip",.ref r,.ref l],[]⟩) (fun _ R s=>IsRange s.heap r 0 n 1 t u v/\s.heap.IsList l ys/\R (.ok (.ret (.ref (zq4 s.heap n l).objs.size))) { s with heap:=zq5 s.heap n l }):=
 .of_wp fun prog w A R s h=>by
  obtain⟨hp,g,d,tk,os⟩:=s;obtain⟨h1,h2,h⟩:=h;have hsub:=sub_zip;have k1:IsRange (Shared.heap ⟨hp,g,d,tk,os⟩) r 0 n 1 t u v:=h1;have k2:Heap.IsList (Shared.heap ⟨zq1 hp n,g,d,tk,os⟩) l ys:=Heap.IsList.push h2 _
  wp_walk using wpAny_pyIter_range k1 hs,wpAny_pyIter_list k2
  exact⟨_,rfl,h⟩
theorem ziy{r l:Addr}{n:Int}{t u v:Tok}{ys:Array Value}{Q:VSP}(hs:Builtin.Range.small 0 n 1=true)(h1:IsRange s.heap r 0 n 1 t u v)(h2:s.heap.IsList l ys)
  (q:∀h',IsZip h' (s.heap.objs.size+4) (s.heap.objs.size+2) (s.heap.objs.size+3) .none->IsPair h' (s.heap.objs.size+2) (.ref s.heap.objs.size) (.ref (s.heap.objs.size+1))->
   IsPair h' (s.heap.objs.size+3) .none .none->IsRangeIter h' s.heap.objs.size 0 (Builtin.Range.rangeSize 0 n 1) 1->h'.IsListIter (s.heap.objs.size+1) l 0->(∀c o,s.heap.get? c=some o->h'.get? c=some o)->Q (.ref (s.heap.objs.size+4)) { s with heap:=h' }) :
  wpAny (model prog w) A (call (.type "zip") [.ref r,.ref l]) Q E s:=by
 refine callType_new F.called_zip (by decide) (F.typeCall_zip_2 _ _) (F.newCall_zip_2 _ _) (fun obj=>F.args_object_init_3 obj _ _) F.entry_zip_new (zgu r l n t u v ys hs) ⟨h1,h2,?_⟩
 have z1:(zq1 s.heap n).objs.size=s.heap.objs.size+1:=Heap.size_push ..;have z2:(zq2 s.heap n l).objs.size=s.heap.objs.size+2:=by rw[Heap.size_push,z1]
 have z3:(zq3 s.heap n l).objs.size=s.heap.objs.size+3:=by rw[Heap.size_push,z2]
 have z4:(zq4 s.heap n l).objs.size=s.heap.objs.size+4:=by rw[Heap.size_push,z3]
 have g5:(zq5 s.heap n l).get? (zq4 s.heap n l).objs.size=some _:=zgs _ rfl;have g4:(zq5 s.heap n l).get? (zq3 s.heap n l).objs.size=some _:=zgp _ (zgs _ rfl);have g3:(zq5 s.heap n l).get? (zq2 s.heap n l).objs.size=some _:=zgp _ (zgp _ (zgs _ rfl));have g2:(zq5 s.heap n l).get? (zq1 s.heap n).objs.size=some _:=zgp _ (zgp _ (zgp _ (zgs _ rfl)));have g1:(zq5 s.heap n l).get? s.heap.objs.size=some _:=zgp _ (zgp _ (zgp _ (zgp _ (zgs _ rfl))));show _/\_;rw[z2,z3,z4] at g5;rw[z1,z2] at g3;rw[z3] at g4;rw[z1] at g2;rw[z4];exact⟨⟨_,g5,rfl⟩,q _ g5 g3 g4 g1 ⟨_,g2,rfl,rfl⟩ fun c o e=>zgp _ (zgp _ (zgp _ (zgp _ (zgp _ e))))⟩
theorem zh5{z ti to i1 i2 l2:Addr}{x left step:Int}{k2:Nat}{ys:Array Value}{y a b:Value}{Q:Option Value->Shared->Prop}(D:ZipApart z ti to i1 i2 l2 l2)(hz:IsZip s.heap z ti to .none)(hti:IsPair s.heap ti (.ref i1) (.ref i2))(hto:IsPair s.heap to a b)
  (h1:IsRangeIter s.heap i1 x left step) (hl : 0<left) (h2:s.heap.IsListIter i2 l2 k2) (g2:s.heap.IsList l2 ys) (hy:ys[k2]?=some y)
  (q:∀h',IsZip h' z ti to (rawInt s.heap.objs.size)->(∃u v,IsPair h' to u v)->IsRangeIter h' i1 (x+step) (left - 1) step->h'.IsListIter i2 l2 (k2+1)->IsPair h' s.heap.objs.size (.int x s.toks) y->
   (∀c o,c≠z->c≠to->c≠i1->c≠i2->s.heap.get? c=some o->h'.get? c=some o)->Q (some (.ref s.heap.objs.size)) { s with heap:=h',toks:=s.toks+1 }):wpAny (model prog w) A (pyNext (.ref z)) Q E s:=by
 have ty:s.TypeIs (.ref z) "zip":=⟨_,hz,rfl⟩;unfold pyNext;exact zwb (wpAny_attempt (wpAny_callSpecial?_slot (name:=Str.ofString "__next__") ty F.slot_zip_next (wpAny_call_entry F.slot_zip_next ty F.entry_zip_next (zg8 D hz hti hto h1 hl h2 g2 hy fun h' x1 x2 x3 x4 x5 x6=>zwp (q h' x1 x2 x3 x4 x5 x6)) (F.args_zip_next_1 _))))
theorem zhd{z ti to i1 i2 l2:Addr}{x left step:Int}{k2:Nat}{ys:Array Value}{a b:Value}{Q:Option Value->Shared->Prop}(hA:A.handled=none)(D:ZipApart z ti to i1 i2 l2 l2)(hz:IsZip s.heap z ti to .none)(hti:IsPair s.heap ti (.ref i1) (.ref i2))(hto:IsPair s.heap to a b)
  (h1:IsRangeIter s.heap i1 x left step) (h2:s.heap.IsListIter i2 l2 k2) (g2:s.heap.IsList l2 ys) (hy:left<=0\/ys[k2]?=none)
  (q:∀h' tk,(∀c o,c≠z->c≠to->c≠i1->c≠i2->s.heap.get? c=some o->h'.get? c=some o)->Q none { s with heap:=h',toks:=tk }):wpAny (model prog w) A (pyNext (.ref z)) Q E s:=by
 have ty:s.TypeIs (.ref z) "zip":=⟨_,hz,rfl⟩;unfold pyNext;refine zwb (wpAny_attempt (wpAny_callSpecial?_slot (name:=Str.ofString "__next__") ty F.slot_zip_next (wpAny_call_entry F.slot_zip_next ty F.entry_zip_next (zjp hA D hz hti hto h1 h2 g2 hy fun h' e tk hk ⟨o,ho,hc⟩=>?_) (F.args_zip_next_1 _))));exact zwb (wpAny_isInstance (T:="StopIteration") (b:=true) ⟨o,ho,hc⟩ isSubtype_stop (zwp (q _ _ hk)))
def Izr(K:Frag)(n:Nat)(b:Addr):It:=
 ⟨fun i H=>i<n/\∃ys y,SqL K H b ys/\ys[i]?=some y,
  fun i H v H'=>∃(p:Addr) (y:V),v=.ref p/\H p=none/\(∀ys,SqL K H b ys->ys[i]?=some y)/\H'=upd H p (.tup [.int (i:Nat),y]),
  fun i H=>∃ys,SqL K H b ys/\(n<=i\/ys.length<=i)⟩
theorem zhb{P:Program}{w:World}{K:Frag}{elts:List Expr}{x1 n:Nat}{tpos:Pos}(b z ti to i1 i2:Addr)(D:ZipApart z ti to i1 i2 b b):
  qV P w K (.Tuple elts x1 tpos) (Izr K n b) [z,ti,to,i1,i2] z (fun i h=>IsZip h z ti to .none/\IsPair h ti (.ref i1) (.ref i2)/\(∃u v,IsPair h to u v)/\IsRangeIter h i1 (i:Nat) ((n:Int) - (i:Nat)) 1/\h.IsListIter i2 b i) where
 mem:=by simp
 obj:=fun i h st c hc=>by
  obtain⟨hz,hTI,⟨u,v,hTO⟩,ho1,⟨o2,ho2,_,d2⟩⟩:=st;have hc':c=z\/c=ti\/c=to\/c=i1\/c=i2:=by simpa using hc
  rcases hc' with rfl|rfl|rfl|rfl|rfl
  ·exact⟨_,hz,fun v q=>by cases q⟩
  ·exact⟨_,hTI,fun v q=>by cases q⟩
  ·exact⟨_,hTO,fun v q=>by cases q⟩
  ·exact⟨_,ho1,fun v q=>by cases q⟩
  ·exact⟨o2,ho2,fun v q=>by rw[d2] at q;cases q⟩
 keep:=fun i h h' st k=>by
  obtain⟨hz,hTI,⟨u,v,hTO⟩,ho1,⟨o2,ho2,d2⟩⟩:=st;exact⟨k z (by simp) _ hz,k ti (by simp) _ hTI,⟨u,v,k to (by simp) _ hTO⟩,k i1 (by simp) _ ho1,⟨o2,k i2 (by simp) _ ho2,d2⟩⟩
 item:=by
  intro X hP hw hK hc i pins s σ H E I hf st hg;subst hP hw hK;obtain⟨hz,hTI,⟨u0,v0,hTO⟩,h1,h2⟩:=st;obtain⟨hin,ys,y,hS',hy⟩:=hg;obtain⟨its',rv',hp',hz2⟩:=I.list hS';obtain⟨u',hu',ru'⟩:=rv'.get hy;refine zh5 D hz hTI hTO h1 (by omega) h2 hp'.isList (y:=u') (by simpa using hu') fun h' hz' ⟨uo,vo,hTO'⟩ h1' h2' htup hk=>?_
  have I0:Inv X pins σ H { s with heap:=h',toks:=s.toks+1 }:=I.turnedL (ch:=[z,to,i1,i2]) (fun c hc'=>hf c (by
    have hc':c=z\/c=to\/c=i1\/c=i2:=by simpa using hc'
    rcases hc' with rfl|rfl|rfl|rfl <;> simp)) (fun c o hc' e=>hk c o (fun q=>hc' (by simp [q])) (fun q=>hc' (by simp [q])) (fun q=>hc' (by simp [q])) (fun q=>hc' (by simp [q])) e)
  have hfr:H s.heap.objs.size=none:=I.hok.fresh (le_refl _);have I1:Inv X pins σ (upd H s.heap.objs.size (.tup [.int (i:Nat),y])) { s with heap:=h',toks:=s.toks+1 }:=by
   have hok:HOk X.prog X.w (upd H s.heap.objs.size (.tup [.int (i:Nat),y])) h':=fun b o q=>by
    by_cases hb:b=s.heap.objs.size
    ·subst hb
     rw[zc] at q;cases q;exact⟨by show 2<=sizeLine;decide,[.int (i:Nat) s.toks,u'],.cons ⟨_,rfl⟩ (.cons ru' .nil),⟨_,htup,rfl,_,rfl⟩⟩
    ·rw[zv hb] at q
     exact(I0.hok b o q).stay (fun _ _ _ z=>z) (fun c z=>by rw[zv (zu z hfr)];exact z) fun c xs' z=>by rw[zv (zu z hfr)];exact z
   refine I0.step (s:={ s with heap:=h',toks:=s.toks+1 }) (g':=s.gens) (d':=s.drawn) (h':=h') (t':=s.toks+1) (ch:=[s.heap.objs.size]) (fun b hb=>?_) (fun b o _ _ _ e1 _=>e1) (fun b o _ _ _ e1 _=>⟨o.slots,e1⟩) (fun b o hb e1 n=>by rw[zv (fun z=>hb (by simp [z]))];exact n)
    (fun b o _ e1=>⟨o,e1⟩) (fun b xs' e1=>by rw[zv (zu e1 hfr)];exact e1) (fun b o' u' e1=>by rw[zv (zu e1 hfr)];exact e1) (fun b ps e1=>⟨#[],by rw[zv (zu e1 hfr),e1];simp⟩) (fun m hm=>hm) hok I0.bare
   have e':b=s.heap.objs.size:=by simpa using hb
   subst e';refine⟨.inr I.sz,fun z=>?_,fun y c h z=>?_,fun p hp' z=>?_⟩
   ·have:=I.lt;rw[<- z] at this;exact absurd this (lt_irrefl _)
   ·obtain⟨v',hv⟩:=I.cell y c h
    have:=hv.lt;rw[z] at this;exact absurd this (lt_irrefl _)
   ·have:=I.pin_lt hp';rw[z] at this;exact absurd this (lt_irrefl _)
  refine⟨_,rfl,wpAny_letOwnedTupleGo_zip hz' fun h3 hz3 hs3=>?_⟩;have lt:∀c∈[z,ti,to,i1,i2],s.heap.objs.size≠c:=fun c hc' e=>by
   have hc':c=z\/c=ti\/c=to\/c=i1\/c=i2:=by simpa using hc'
   have:∃o,s.heap.get? c=some o:=by
    obtain⟨o2,ho2,_⟩:=h2;rcases hc' with rfl|rfl|rfl|rfl|rfl
    ·exact⟨_,hz⟩
    ·exact⟨_,hTI⟩
    ·exact⟨_,hTO⟩
    ·exact⟨_,h1⟩
    ·exact⟨_,ho2⟩
   obtain⟨o,ho⟩:=this
   have:=Heap.lt_size ho
   rw[<- e] at this;exact absurd this (lt_irrefl _)
  obtain⟨f0,f1,f2,f3,f4,f5⟩:=hf z (by simp)
  have I2:Inv X pins σ (upd H s.heap.objs.size (.tup [.int (i:Nat),y])) { s with heap:=h3,toks:=s.toks+1 }:=
   I1.turned (s:={ s with heap:=h',toks:=s.toks+1 }) (t':=s.toks+1) (it:=z) (fun b o hb q=>(hs3.2 b hb).trans q) (by rw[zv (lt z (by simp)).symm];exact f0) f1 f3 f4 f5
  refine⟨.ref s.heap.objs.size,_,I2,rfl,⟨_,y,rfl,hfr,fun ys' h'=>?_,rfl⟩,⟨hz3,(hs3.2 ti D.TIz).trans (hk ti _ D.TIz D.TITO D.TIi1 D.TIi2 hTI),⟨_,_,(hs3.2 to D.TOz).trans hTO'⟩,?_,?_⟩,fun b hb=>?_⟩
  ·rw[I.list_inj h' hS'];exact hy
  ·have e1:((i:Nat):Int)+1=((i+1:Nat):Int):=by omega
   have e2:(n:Int) - (i:Nat) - 1=(n:Int) - ((i+1:Nat):Int):=by omega
   rw[e1,e2] at h1';exact(hs3.2 i1 D.i1z).trans h1'
  ·obtain⟨o,ho,r⟩:=h2'
   exact⟨o,(hs3.2 i2 D.i2z).trans ho,r⟩
  ·rw[zv (lt b hb).symm];exact(hf b hb).1
 done:=by
  intro X hP hw hK hc i pins s σ H E I hf st hg;subst hP hw hK;obtain⟨hz,hTI,⟨u0,v0,hTO⟩,h1,h2⟩:=st;obtain⟨ys,hS',hle⟩:=hg;obtain⟨its',rv',hp',hz2⟩:=I.list hS';refine zhd (I.ok.hd hc) D hz hTI hTO h1 h2 hp'.isList ?_ fun h' tk hk=>⟨rfl,?_⟩
  ·rcases hle with h|h
   ·exact .inl (by omega)
   ·exact .inr (by simp [<- rv'.length,h])
  ·exact I.turnedL (t':=tk) (ch:=[z,to,i1,i2]) (fun c hc'=>hf c (by
    have hc':c=z\/c=to\/c=i1\/c=i2:=by simpa using hc'
    rcases hc' with rfl|rfl|rfl|rfl <;> simp)) (fun c o hc' e=>hk c o (fun q=>hc' (by simp [q])) (fun q=>hc' (by simp [q])) (fun q=>hc' (by simp [q])) (fun q=>hc' (by simp [q])) e)
 self:=fun A i s Q E st h=>wpAny_pyIter_zip st.1 h
variable {X:Cx}{elts:List Expr}{x1:Nat}{tpos:Pos}
def iZr(K:Frag)(ta:TA):TI:=fun σ H R=>ta σ H fun vs H1=>∃(a b:Addr) (n:Nat),vs=[.ref a,.ref b]/\H1 a=some (.rng 0 (n:Nat))/\n<=900/\(∃ys,SqL K H1 b ys)/\R (Izr K n b) H1
theorem zlw{l l':Expr}{ta:TA}{p pos:Pos}(hg:Gl X "zip")(hm:X.mg "zip"=none)(ha:PA X [l,l'] ta)(hl:xB l=false:=by rfl)(hl':xB l'=false:=by rfl):PI X (.Tuple elts x1 tpos) (.Call (.Name "zip" p) [l,l'] [] pos) (iZr X.K ta):=by
 refine⟨?_⟩;intro pins s σ H R I h;have e2:starEach [l'] X.env=[(false,eval l' X.env)]:=yk hl';refine Call_ (vk I hg hm PyProof.Rows.boot_zip (PyProof.Rows.callWith_type1 (thn (ha pos pins s σ H _ I h) fun us s1 ⟨vs,H1,I1,r1,q1⟩=>?_) (yk hl) (by rw[e2];rfl)))
 obtain⟨a,b,n,e,ha',hn,⟨ys,hS'⟩,q⟩:=q1;subst e;obtain⟨u,u',rfl,ru,ru'⟩:=zbn r1;cases ru;cases ru';obtain⟨its',rv',hp',hz'⟩:=I1.list hS';obtain⟨t,u,v,hr⟩:=I1.hok a _ ha';have lb:b<s1.heap.objs.size:=by
  obtain⟨o,ho,_⟩:=hp'.isList;exact Heap.lt_size ho
 have hsz:Builtin.Range.rangeSize 0 (n:Int) 1=(n:Int):=by
  unfold Builtin.Range.rangeSize;rw[if_pos (by decide)]
  split <;> omega
 refine ziy (n:=(n:Int)) (small_one (by omega) (by omega) (by omega) (by omega)) hr hp'.isList fun h' hzz hTI hTO h1 h2 hk=>?_
 rw[hsz] at h1;refine wpAny_pyIter_zip hzz ?_;have hfr:∀b,s1.heap.objs.size<=b->H1 b=none:=fun b hb=>I1.hok.fresh hb;have I2:Inv X pins σ H1 { s1 with heap:=h' }:=I1.kept (t':=s1.toks) hk
 refine⟨s1.heap.objs.size+4,[s1.heap.objs.size+4,s1.heap.objs.size+2,s1.heap.objs.size+3,s1.heap.objs.size,s1.heap.objs.size+1],_,_,H1,rfl,I2,zhb (n:=n) b _ _ _ _ _ (zipApart_new lb lb),⟨hzz,hTI,⟨_,_,hTO⟩,?_,h2⟩,fun c hc=>?_,q⟩
 ·rw[show(n:Int) - ((0:Nat):Int)=(n:Int) by omega]
  exact h1
 have hc':s1.heap.objs.size<=c:=by
  have hc':c=s1.heap.objs.size+4\/c=s1.heap.objs.size+2\/c=s1.heap.objs.size+3\/c=s1.heap.objs.size\/c=s1.heap.objs.size+1:=by simpa using hc
  rcases hc' with rfl|rfl|rfl|rfl|rfl
  ·exact le_add_right _ _
  ·exact le_add_right _ _
  ·exact le_add_right _ _
  ·exact le_refl _
  ·exact le_add_right _ _
 exact I1.fpOk hc' (hfr _ hc')
theorem zlR{K:Frag}{n:Nat}{b:Addr}{ys:List V}{caps:List (Option Nat)}{g:TG}{tt:TT}{te:TE}{σ : St}{H1:Hp}{Q:VK}{D:Addr}(Pv:Nat->List V->Hp->Prop)(h0:Pv 0 [] (upd H1 D (.lst [])))(hS:∀i zs H,Pv i zs H->SqL K H b ys)
  (hs:∀i y p zs H,i<min n ys.length->ys[i]?=some y->H p=none->Pv i zs H->g (.ref p) (xk caps σ) (upd H p (.tup [.int (i:Nat),y])) fun σ2 H2=>tt σ2 H2 fun ok H3=>(ok=true->te σ2 H3 (lcN (min n ys.length) i D Pv zs))/\(ok=false->lcS (min n ys.length) i Pv zs H3))
  (hd:∀zs H,Pv (min n ys.length) zs H->Q (.ref D) H):LCr (Izr K n b) caps g tt te σ H1 Q D:=by
 refine⟨fun i m zs H=>m=min n ys.length - i/\i<=min n ys.length/\Pv i zs H,⟨_,rfl,zero_le _,h0⟩,?_⟩;rintro i m zs H ⟨rfl,hi,p⟩;have q:=hS i zs H p;by_cases hlt:i<min n ys.length
 ·have h1:i<n:=by omega
  have h2:i<ys.length:=by omega
  refine .inr ⟨⟨h1,ys,ys[i],q,getElem?_eq_getElem h2⟩,fun x H' y=>?_⟩;obtain⟨pp,y,rfl,hp,y1,rfl⟩:=y;exact hs i y pp zs H hlt (y1 ys q) hp p
 ·have e:i=min n ys.length:=by omega
  subst e;exact .inl ⟨⟨ys,q,by omega⟩,hd zs H p⟩
end
end L2
namespace K92
open PySem L2 PyProof.Rows
def zi1:Sp:=fun vs H Q _=>∃c:Int,vs=[.int c]/\∀(y:Str) (H':Hp),zx H H'->y.length<=600->Q (.str y) H'
structure zma(mg:Str->Option Value):Prop where
 zip:mg "zip"=none
 range:mg "range"=none
theorem zkH{i:Int}(h0 : 0<=i)(h1:i<26):∃c:Nat,atI (Str.ofString "abcdefghijklmnopqrstuvwxyz").cps.toList i=some c:=by
 obtain⟨x,_,e,_⟩:=uY (xs:=(Str.ofString "abcdefghijklmnopqrstuvwxyz").cps.toList) h0 (by show i<(26:Nat);omega)
 exact⟨x,e⟩
section
variable {P:Program}{w:World}{K:Frag}{mg:Str->Option Value}{base:Heap}{f:Addr}{fd:FuncData}
theorem zab:zD ["_law_cell","_law_letters","_law_many","_law_signs","_law_parts_here","_law_bars_here"] ["_law_cell"] (zr zj3):=fsc
theorem zje:([Str.ofString "_law_k",Str.ofString "_law_sign_here",Str.ofString "_law_letters"]:List Str).Nodup:=by decide +kernel
theorem zmW:([Str.ofString "_law_k",Str.ofString "_law_letters"]:List Str).Nodup:=by decide +kernel
theorem zkA(F:Fun K "_law_long_form" "_law_long_form" zj3 f fd)(T:zma mg):zL P w K mg base CX0 1 f fd ["_law_cell"] zi1:=by
 refine F.ok zab (fun cdv A outer s H vs Q E hr h=>?_);obtain⟨cc,rfl,q⟩:=h;refine zQ (zC (i:=1) zab.nd rfl (Or.inr rfl) zo) ?_;refine zQ (zC (i:=2) zab.nd rfl (Or.inl rfl) (zt yJ zj (zt zZ (zt yf (pv 0) zj) zj))) ?_;have a0 : 0<=cc / 9 % 2:=emod_nonneg _ (by decide)
 have a1:cc / 9 % 2<2:=emod_lt_of_pos _ (by decide)
 refine⟨_,rfl,_,_,rfl,rfl,⟨by decide,by decide⟩,_,_,rfl,rfl,zp2,_,_,rfl,rfl,?_⟩
 dsimp only[yc];obtain⟨m,hm⟩:∃m:Nat,24+cc / 9 % 2=(m:Int):=⟨(24+cc / 9 % 2).toNat,by omega⟩
 have m1:m<=25:=by omega
 rw[hm];clear hm a0 a1;have three : 3<=sizeLine:=by decide
 have o1 : 1<=sizeLine:=by decide
 have d0 : 0<=cc / 18 % 3:=emod_nonneg _ (by decide)
 have d1:cc / 18 % 3<(3:Nat):=by have:=emod_lt_of_pos (cc / 18) (show(0:Int)<3 by decide);omega
 have n0 : 0<=cc / 54 % 25:=emod_nonneg _ (by decide)
 have n1:cc / 54 % 25<25:=emod_lt_of_pos _ (by decide)
 obtain⟨k,hk⟩:∃k:Nat,cc / 18 % 3=(k:Int):=⟨_,(toNat_of_nonneg d0).symm⟩;obtain⟨j,hj⟩:∃j:Nat,cc / 54 % 25=(j:Int):=⟨_,(toNat_of_nonneg n0).symm⟩;refine zQ (zC (i:=3) zab.nd rfl (Or.inl rfl) (zt wp (zt wo (zP (ac (zK yn (zP (ac zo (ac zo (ac zo zi)))) (zt zZ (zt yf (pv 0) zj) zj) (fun _ _=>rfl)) zi)) (zt zZ (zt yf (pv 0) zj) zj)) (zt wo (zR vQ (zR vQ (zP (ac zo (ac zo (ac zo zi)))) (zT (zt zZ (zt yf (pv 0) zj) zj)) ym) ym (zT zj)) zj))) ?_;refine⟨three,fun l0 hl0=>⟨_,rfl,_,_,rfl,rfl,⟨by decide,by decide⟩,_,_,rfl,rfl,zp3,?_⟩⟩
 obtain⟨y1,k1,_,b1⟩:=qm (xs:=["!","",":"]) (B:=1) d0 d1 (by decide)
 refine⟨l0,_,_,.str y1,rfl,rfl,zq zc,k1,o1,fun l1 hl1=>⟨_,rfl,_,_,rfl,rfl,⟨by decide,by decide⟩,_,_,rfl,rfl,(by show(0:Int)<25;decide),?_⟩⟩
 have s0:=zk hl0 (.lst [.str "!",.str "",.str ":"]);refine wm (k:=j) hl1 hj (by omega) fun p1 H1 s1 hp1=>?_
 have s01:=s0.trans s1;refine⟨three,fun l2 hl2=>⟨_,rfl,_,_,rfl,rfl,⟨by decide,by decide⟩,_,_,rfl,rfl,zp3,_,rfl,l2,_,rfl,zq zc,fun l3 hl3=>?_⟩⟩
 have s2:=zk hl2 (.lst [.str "",.str ":",.str ":"]);rw[hk,zcc];obtain⟨s3,g3⟩:=uC hl3 (.lst ([V.str "",.str ":",.str ":"].drop k));generalize upd _ l3 (.lst ([V.str "",.str ":",.str ":"].drop k))=H3 at s3 g3 |-;refine⟨_,rfl,l3,_,rfl,zq g3,fun l4 hl4=>?_⟩;rw[show ji ([V.str "",.str ":",.str ":"].drop k) none (some 1)=([V.str "",.str ":",.str ":"].drop k).take 1 from zas (n:=1)];obtain⟨y2,hy2,b2⟩:∃y2:Str,([V.str "",.str ":",.str ":"].drop k).take 1=[.str y2]/\y2.length<=1:=by
  have:k=0\/k=1\/k=2:=by omega
  rcases this with rfl|rfl|rfl
  ·exact⟨"",rfl,by decide⟩
  ·exact⟨":",rfl,by decide⟩
  ·exact⟨":",rfl,by decide⟩
 rw[hy2];dsimp only[tC];refine wm (i:=25) (k:=25) hl4 rfl (by decide) fun p2 H5 s5 hp2=>?_
 have s25:=s2.trans (s3.trans s5);have hp1:=s25 _ _ hp1;refine⟨p1,p2,_,_,rfl,rfl,hp1,hp2,by simp only[length_map,length_replicate];rw[sizeLine_eq];omega,fun p3 hp3=>?_⟩
 rw[<- map_append];have hsg:∀x∈List.replicate j y1++List.replicate 25 y2,x.length<=1:=fun x hx=>by
  rcases List.mem_append.mp hx with hx|hx
  ·rw[eq_of_mem_replicate hx];exact b1
  ·rw[eq_of_mem_replicate hx];exact b2
 have lsg:(List.replicate j y1++List.replicate 25 y2).length<=50:=by rw[length_append,length_replicate,length_replicate];omega
 generalize List.replicate j y1++List.replicate 25 y2=sgs at hsg lsg |-;obtain⟨s6,g6⟩:=uC hp3 (.lst (sgs.map V.str));dsimp only[yc];have s06:=s01.trans (s25.trans s6);generalize upd H5 p3 (.lst (sgs.map V.str))=H6 at s6 g6 s06 |-;clear s6 hp1 hp2 s25 s5 s3 s2 s01 s1 s0 hp3 g3;refine zQ (zae (i:=4) ["_law_letters"] ["_law_k","_law_sign_here","_law_letters"] [none,none,some 1] zab.nd rfl (Or.inl rfl) rfl ⟨rfl,rfl,rfl,rfl⟩ (zlw rfl T.zip (ac (cTy zgV T.range PyProof.Rows.boot_range (ac (pv 2) zi)) (ac (pv 3) zi))) (jg (K:=K) (n:=2) 0 1) rfl rfl rfl
  (fun pins fp s H C=>⟨wJ rfl (yo (zF (i:=0) zje rfl (Or.inl rfl) (.inr rfl)) (yo (zF (i:=1) zje rfl (Or.inl rfl) (.inr rfl)) xL)),yA,zt zA (zt zA (zK wt (pv 2) (pv 0) (fun _ _=>rfl)) zo) (pv 1)⟩)) ?_
 refine⟨_,rfl,m,rfl,fun rg hrg=>⟨_,rfl,rg,p3,m,rfl,zc,by omega,⟨_,zq ((zk hrg _) _ _ g6)⟩,fun D hD=>?_⟩⟩
 have s7:=zk hrg (.rng 0 (m:Nat));have g7:=s7 _ _ g6;generalize upd H6 rg (.rng 0 (m:Nat))=H7 at s7 g7 hD |-;refine zlR (K:=K) (n:=m) (b:=p3) (ys:=sgs.map V.str) (fun i zs H'=>zx H7 H'/\H' D=some (.lst zs)/\∃ws:List Str,zs=ws.map V.str/\ws.length=i/\∀x∈ws,x.length<=3) ⟨zk hD _,zc,[],rfl,rfl,fun _ h=>by cases h⟩ (fun i zs H' ⟨sH,_⟩=>zq (sH _ _ g7)) ?_ ?_
 ·rintro i y p zs H' hi hy hp ⟨sH,hDz,ws,rfl,lw,hw⟩
  rw[getElem?_map] at hy;cases ey:sgs[i]? with
  | none=>rw[ey] at hy;cases hy
  | some sgn'=>
   rw[ey] at hy;cases hy;have l1:=hsg sgn' (mem_of_getElem? ey);have sP:=zk hp (.tup [.int (i:Nat),.str sgn']);refine⟨p,_,rfl,zI zc,rfl,_,_,rfl,_,_,rfl,rfl,fun _=>?_,fun z=>absurd z (by decide)⟩
   obtain⟨c0,e0⟩:=zkH (i:=(i:Int)) (by omega) (by omega)
   refine⟨_,rfl,_,rfl,_,_,c0,rfl,rfl,by decide,e0,_,_,rfl,rfl,(by show 1+1<=sizeLine;decide),_,rfl,_,_,rfl,rfl,?_,?_⟩
   ·rw[zG,show(⟨#[c0]⟩:Str).length=1 from rfl,show("q" : Str).length=1 from rfl,sizeLine_eq];omega
   refine lcN.mk hi (by rw[length_map,sizeLine_eq];omega) (sP _ _ hDz) (by rw[length_map];omega) ⟨zU (sH.trans sP) hD _,zc,ws++[(⟨#[c0]⟩:Str)++"q"++sgn'],by rw[map_append];rfl,by rw[length_append,lw];rfl,fun x hx=>?_⟩
   rcases List.mem_append.mp hx with hx|hx
   ·exact hw x hx
   ·have:x=(⟨#[c0]⟩:Str)++"q"++sgn':=by simpa using hx
    rw[this,zG,zG,show(⟨#[c0]⟩:Str).length=1 from rfl,show("q" : Str).length=1 from rfl];omega
 rintro zs H8 ⟨s8,hD8,ws,rfl,lw,hw⟩;have lw:ws.length<=25:=by omega
 have s08:=s06.trans (s7.trans s8);dsimp only[yc];refine zQ (zC (i:=5) zab.nd rfl (Or.inl rfl) (zK yn (zP (ac zj (ac zj (ac zj zi)))) (zt zZ (zt yf (pv 0) zj) zj) (fun _ _=>rfl))) ?_;have v0 : 0<=cc / 1350 % 3:=emod_nonneg _ (by decide)
 have v1:cc / 1350 % 3<3:=emod_lt_of_pos _ (by decide)
 obtain⟨nb,hnb,lnb⟩:∃nb:Nat,atI [V.int 0,.int 60,.int 61] (cc / 1350 % 3)=some (.int (nb:Nat))/\nb<=61:=by
  have:cc / 1350 % 3=0\/cc / 1350 % 3=1\/cc / 1350 % 3=2:=by omega
  rcases this with h|h|h
  ·exact⟨0,by rw[h];rfl,by decide⟩
  ·exact⟨60,by rw[h];rfl,by decide⟩
  ·exact⟨61,by rw[h];rfl,by decide⟩
 refine⟨three,fun l9 hl9=>⟨_,rfl,_,_,rfl,rfl,⟨by decide,by decide⟩,_,_,rfl,rfl,zp3,l9,_,_,.int (nb:Nat),rfl,rfl,zq zc,hnb,?_⟩⟩
 have s9:=zk hl9 (.lst [.int 0,.int 60,.int 61]);have hD9:=s9 _ _ hD8;dsimp only[yc];generalize upd H8 l9 (.lst [.int 0,.int 60,.int 61])=H9 at s9 hD9 |-;have s09:=s08.trans s9;refine⟨_,zm (zB (z7 PySem.F.plainAttrs_str PySem.F.slot_str_join PySem.F.type_str_join yX zo (ac (zt wp (pv 4) (xY ["_law_letters"] ["_law_k","_law_letters"] [none,some 1] rfl ⟨rfl,rfl,rfl,rfl⟩ (xJ rfl T.range (ac (pv 5) zi)) (z5 0) rfl rfl rfl
  (fun pins fp s H C=>⟨zF (i:=0) zmW rfl (Or.inl rfl) (.inr rfl),yA,zt zA (zt zA (zt zA zo (zK wt (pv 1) (zt yf (pv 0) zj) (fun _ _=>rfl))) zo) (zK wt (pv 1) (zt zZ (pv 0) zj) (fun _ _=>rfl))⟩))) zi))),?_⟩
 refine⟨rfl,_,rfl,_,rfl,(nb:Int),rfl,by omega,by omega,fun D2 hD2=>?_⟩
 rw[show((nb:Int)).toNat=nb from rfl];refine vG (n:=nb) (fun i zs H'=>zx H9 H'/\H' D2=some (.lst zs)/\∃us:List Str,zs=us.map V.str/\us.length=i/\∀x∈us,x.length<=4) ⟨zk hD2 _,zc,[],rfl,rfl,fun _ h=>by cases h⟩ ?_ ?_
 ·rintro i zs H' hi ⟨sH,hDz,us,rfl,lu,hu⟩
  have e0:(0:Int)+(i:Int)=(i:Nat):=by omega
  rw[e0];obtain⟨c0,k0⟩:=zkH (i:=(i:Int) / 26) (Int.ediv_nonneg (by omega) (by decide)) (by omega)
  obtain⟨c1,k1'⟩:=zkH (i:=(i:Int) % 26) (emod_nonneg _ (by decide)) (emod_lt_of_pos _ (by decide))
  have x0:(⟨#[c0]⟩:Str).length=1:=rfl;have x1:(⟨#[c1]⟩:Str).length=1:=rfl;have x2:("-" : Str).length=1:=rfl;have x3:("z" : Str).length=1:=rfl;refine⟨fun _=>⟨_,rfl,_,rfl,_,_,rfl,rfl,⟨by decide,by decide⟩,_,_,c0,rfl,rfl,by decide,k0,_,_,rfl,rfl,(by show 1+1<=sizeLine;decide),_,_,rfl,rfl,by rw[zG,x0,x2,x3];decide,_,rfl,_,rfl,_,_,rfl,rfl,(by show(0:Int)<26;decide),_,_,c1,rfl,rfl,by decide,k1',_,_,rfl,rfl,by rw[zG,zG,x0,x1,x2,x3];decide,?_⟩,fun z=>absurd z (by decide)⟩
  refine lcN.mk hi (yP (by omega)) hDz (by rw[length_map];omega) ⟨zU sH hD2 _,zc,us++["-"++(⟨#[c0]⟩:Str)++"z"++(⟨#[c1]⟩:Str)],by rw[map_append];rfl,by rw[length_append,lu];rfl,fun x hx=>?_⟩
  rcases List.mem_append.mp hx with hx|hx
  ·exact hu x hx
  ·have:x="-"++(⟨#[c0]⟩:Str)++"z"++(⟨#[c1]⟩:Str):=by simpa using hx
   rw[this,zG,zG,zG,x0,x1,x2,x3];exact le_refl _
 rintro zs H10 ⟨s10,hD10,us,rfl,lu,hu⟩;refine⟨D,D2,_,_,rfl,rfl,s10 _ _ hD9,hD10,by simp only[length_map];rw[sizeLine_eq];omega,fun p9 hp9=>?_⟩
 rw[<- map_append];have t1:=xE hw;have t2:=xE hu;have t3:=PySem.StrLaws.join_length_le ", " (ws++us);rw[show Str.join ", " (ws++us)=Txt.join ", " (ws++us) from (PySem.StrLaws.glued_eq_join ", " (ws++us)).symm,map_append,sum_append,length_append,show(", " : Str).length=2 from rfl] at t3;refine⟨", ",p9,ws++us,rfl,rfl,zc,by decide,by rw[map_append,sum_append,length_append];omega,q _ _ (s09.trans (s10.trans (zk hp9 _))) (by omega)⟩
end
end K92
namespace L2
open PySem PySem.Spec PyProof.Rows
section
variable {X:Cx}{pins:PnL}{σ:St}
theorem zfL{st:Stmt}{t:TS}{s:Shared}{H:Hp}{D:wO}(h:PS1 X pins σ st t)(I:Inv X pins σ H s)(q:t D σ H):wpAny (model X.prog X.w) X.A (execs [st] X.env) (SP X pins D) X.xe s:=by
 refine wpAny_execs_cons (thn (h.run s H D I q) fun f s1 q1=>?_);cases f with
 | next=>exact wpAny_execs_nil q1
 | ret v=>exact q1
 | brk=>exact q1
 | cont=>exact q1
theorem zls{c:Expr}{a b:Stmt}{tc:TT}{t u:TS}{pos:Pos}(hc:PT X c tc)(ha:PS1 X pins σ a t)(hb:PS1 X pins σ b u):PS1 X pins σ (.If c [a] [b] pos) (zfa tc t u):=by
 refine⟨fun s H D I h=>?_⟩;refine wpAny_If (thn (hc pins s σ H _ I h) fun d s1 ⟨H1,I1,q1⟩=>?_);cases d with
 | true=>exact zfL ha I1 q1
 | false=>exact zfL hb I1 q1
variable {CX:CXT}{o:Expr}{ta:TE}{m:Str}{C f:Addr}{fd:FuncData}{k:Nat}{ps:List Str}{sp:Sp}{dvs:List V}{ds:List Value}{E:XK}{apos pos:Pos}
theorem zf7{pl:Sem Bool}(he:PE1 X pins σ o ta)(c:Cls X.K C)(hm:vw X.K C m f)(F:zL X.prog X.w X.K X.mg X.base CX k f fd ps sp)(hr:yh k X.A)(hb:yt X.K fd ps ds)(hd:zY dvs ds)(hx:yE CX X E)
  (ht:eval (.Call (.Attribute o m apos) [] [] pos) X.env=(do
   let ov <- eval o X.env
   standAt apos.atName
   let (f,first) <- holding [ov] (getMethod ov m pl)
   callWith pos f first (backTo pos (starEach [] X.env)) (backToKw pos (keywordEach [] X.env))):=by rfl) :
  PE1 X pins σ (.Call (.Attribute o m apos) [] [] pos) (ze7 C m sp dvs E ta jB):=by
 refine⟨fun s H Q I h=>?_⟩;refine methodCall_KW (pl:=pl) (thn (he.run s H _ I h) fun u s1 ⟨x,H1,I1,rx,a,dx,fs,ex,ea,l,q⟩=>?_) ht;subst ex;obtain rfl:u=Value.ref a:=rx;refine vn I1 ea c hm l ?_;exact callWith_K0 (first:=[.ref a]) I1.kIn hm.kp (u7 (us:=[.ref a]) (vs:=[.ref a]) F hr hb hd hx I1 (.cons rfl .nil) q)
end
end L2
namespace K92
open PySem L2 PyProof.Rows
structure zkV(K:Frag)(mg:Str->Option Value)(NT CE:Addr)(c1 c2 c3 c4 c5 c6 c7 c8 c9 c10 c11 d1 d2 d3 d4:Addr):Prop where
 isi:mg "isinstance"=none
 ve:mg "ValueError"=none
 nt:mg "NoText"=some (.ref NT)
 ce:mg "CallError"=some (.ref CE)
 m1:mg "Again"=some (.ref c1)
 m2:mg "BadOrder"=some (.ref c2)
 m3:mg "Barred"=some (.ref c3)
 m4:mg "Doubled"=some (.ref c4)
 m5:mg "Lacking"=some (.ref c5)
 m6:mg "Misfit"=some (.ref c6)
 m7:mg "NoChange"=some (.ref c7)
 m8:mg "NoDefault"=some (.ref c8)
 m9:mg "NoName"=some (.ref c9)
 m10:mg "NoRow"=some (.ref c10)
 m11:mg "Over"=some (.ref c11)
 n1:mg "Strange"=some (.ref d1)
 n2:mg "TooMany"=some (.ref d2)
 n3:mg "Twice"=some (.ref d3)
 n4:mg "Unknown"=some (.ref d4)
 ex:xc K NT
 k1:kitAny K (.ref NT) [.ref c1,.ref c2,.ref c3,.ref c4,.ref c5,.ref c6,.ref c7,.ref c8,.ref c9,.ref c10,.ref c11]=some false
 k2:kitAny K (.ref NT) [.ref d1,.ref d2,.ref d3,.ref d4]=some false
 k3:kitOne K (.ref NT) (.type "ValueError")=some true
 k4:kitOne K (.ref NT) (.ref NT)=some true
 k5:exmOne K (.ref NT) (.ref CE)=some true
def zdo(C:Addr):Sp:=fun vs H Q _=>∃ea:Addr,vs=[.ref ea]/\H ea=some (jh ea (.ref C))/\∀H',zx H H'->Q (.bl false) H'
def uS(p:List Rw×List Str):Dt:=.tup [.lst (p.1.map zhw),.lst (p.2.map Dt.str)]
def zfP:V->Option Dt
 | .str z=>(rdF z).map uS
 | _=>none
def zfQ:V->Option Dt
 | .str z=>(rdC z).map fun c=>.lst (c.map yI)
 | _=>none
def vJ:Option Dt->Dt
 | none=>.tup [.str "refused",.bl true]
 | some d=>.tup [.str "told",d]
def ziW(K:Frag):Sp:=fun vs H Q _=>∃(b:Int) (x:V) (o:Option Dt) (n:Nat),vs=[.int b,x]/\((b=0/\o=zfP x/\n=4)\/(b=1/\o=zfQ x/\n=5))/\((∃z,x=.str z/\z.length<=100000/\(b=0->(pcs z).length<=400))\/((∀z,x≠.str z)/\jt K H x))/\∀(t:Addr) (H':Hp),zx H H'->zS K T' H' n (.ref t) (vJ o)->Q (.ref t) H'
theorem jt.same{K:Frag}{H H':Hp}{x:V}(h:jt K H x)(s:zx H H'):jt K H' x:=h.imp fun _ z=>⟨u5 s z.1,z.2⟩
section
variable {P:Program}{w:World}{K:Frag}{mg:Str->Option Value}{base:Heap}{f NT CE CF c1 c2 c3 c4 c5 c6 c7 c8 c9 c10 c11 d1 d2 d3 d4:Addr}{fd:FuncData}{c:C5}
theorem zll:zD ["_law_e"] ["_law_e"] (zr zj1):=fsc
theorem zky(F:Fun K "_law_other" "_law_other" zj1 f fd)(U:zkV K mg NT CE c1 c2 c3 c4 c5 c6 c7 c8 c9 c10 c11 d1 d2 d3 d4):zg5 P w K mg base 1 f fd ["_law_e"] (zdo NT):=by
 refine F.okM zll (fun vs H Q E h=>?_) (fun cdv A outer s H vs Q hr h=>?_)
 ·obtain⟨ea,rfl,_⟩:=h
  rfl
 obtain⟨ea,rfl,he,q⟩:=h;refine⟨_,zp (zJ (yx (cB uq U.isi boot_isinstance (ac (pv 0) (ac (zM (ac (z6 (v:=.ref c1) rfl U.m1 rfl) (ac (z6 (v:=.ref c2) rfl U.m2 rfl) (ac (z6 (v:=.ref c3) rfl U.m3 rfl) (ac (z6 (v:=.ref c4) rfl U.m4 rfl) (ac (z6 (v:=.ref c5) rfl U.m5 rfl) (ac (z6 (v:=.ref c6) rfl U.m6 rfl)
   (ac (z6 (v:=.ref c7) rfl U.m7 rfl) (ac (z6 (v:=.ref c8) rfl U.m8 rfl) (ac (z6 (v:=.ref c9) rfl U.m9 rfl) (ac (z6 (v:=.ref c10) rfl U.m10 rfl) (ac (z6 (v:=.ref c11) rfl U.m11 rfl) zi)))))))))))) zi)))) (zm (zB wE)) zz)
  (zm (zB (zlx (cB uq U.isi boot_isinstance (ac (pv 0) (ac (zM (ac (z6 (v:=.ref d1) rfl U.n1 rfl) (ac (z6 (v:=.ref d2) rfl U.n2 rfl) (ac (z6 (v:=.ref d3) rfl U.n3 rfl) (ac (z6 (v:=.ref d4) rfl U.n4 rfl) zi))))) zi)))
   (za1 (zf1 (cB qU U.isi boot_isinstance (ac (pv 0) (ac (za3 (v:=.ty "ValueError") rfl U.ve (by decide +kernel:bootBuiltins "ValueError"=some (.type "ValueError")) rfl) zi)))))))),?_⟩
 refine⟨_,rfl,zlf,fun tp htp=>?_⟩;have s1:=zk htp (.tup [.ref c1,.ref c2,.ref c3,.ref c4,.ref c5,.ref c6,.ref c7,.ref c8,.ref c9,.ref c10,.ref c11]);refine⟨ea,NT,tp,[c1,c2,c3,c4,c5,c6,c7,c8,c9,c10,c11],false,rfl,s1 _ _ he,U.ex,zc,U.k1,_,rfl,?_⟩;refine yb ?_;have he1:=s1 _ _ he;refine⟨_,rfl,zmx,fun tp2 htp2=>?_⟩;have s2:=zk htp2 (.tup [.ref d1,.ref d2,.ref d3,.ref d4]);refine⟨ea,NT,tp2,[d1,d2,d3,d4],false,rfl,s2 _ _ he1,U.ex,zc,U.k2,_,rfl,?_⟩;refine yb ?_;exact⟨_,rfl,ea,NT,_,true,rfl,s2 _ _ he1,U.ex,U.k3,_,rfl,q _ (s1.trans s2)⟩
theorem zaa:zD ["_law_which","_law_text","_law_found","_law_e"] ["_law_which","_law_text"] (zr zjW):=fsc
theorem zks{g1 g2 g3 gT:Addr}{e1 e2 e3 eT:FuncData}(F:Fun K "_law_read" "_law_read" zjW f fd)(U:zkV K mg NT CE c1 c2 c3 c4 c5 c6 c7 c8 c9 c10 c11 d1 d2 d3 d4)(FK:FC K CF)
  (cF':yw P w K mg base 7 "read_form" g1 e1 ["text"] (zjy K c CF NT)) (cC:yw P w K mg base 4 "read_call" g2 e2 ["text"] (zjz K NT)) (cO:zbk P w K mg base 1 "_law_other" g3 e3 ["_law_e"] (zdo NT))
  (mT:vw K CF "told" gT) (GT:zL P w K mg base CX0 3 gT eT ["self"] (zaN c CF)) (bT:yt K eT ["self"] []):zL P w K mg base CX0 8 f fd ["_law_which","_law_text"] (ziW K):=by
 refine F.ok zaa (fun cdv A outer s H vs Q E hr h=>?_);obtain⟨b,x,o,n,rfl,hb,hx,q⟩:=h;have hr3:yh 3 _:=hr.mono (by decide)
 have hr4:yh 4 _:=hr.mono (by decide)
 have hrM:w6 1 _:=(hr.mono (by decide : 1<=7)).m
 refine⟨_,zp (zC (i:=2) zaa.nd rfl (Or.inl rfl) y9)
  (zp (zkf (i:=3) (C:=CE) (ok:=fun cls=>cls=.ref NT) rfl rfl zaa.nd rfl rfl rfl U.ce (fun cls e=>by rw[e];exact U.k5)
   (fun pins σ xe E hp=>zls (zw yi (pv 0) zj (zE _))
    (zfK (i:=2) zaa.nd rfl (Or.inl rfl) (zf6 (jV (PE.one zo) (jV (zf7 (zdJ cF' hp hr (ac (pv 1) zi)) FK.cl mT GT hr3 bT .nil xx) (PA.one zi)))))
    (zfK (i:=2) zaa.nd rfl (Or.inl rfl) (zf6 (jV (PE.one zo) (jV (zdJ cC hp hr4 (ac (pv 1) zi)) (PA.one zi))))))
   (fun ea=>zm (zC (i:=2) zaa.nd rfl (Or.inl rfl) (zM (ac zo (ac (qj (cB (r:=fun xs H Q=>∃(ea D C:Addr) (b:Bool),xs=[.ref ea,.ref C]/\H ea=some (jh ea (.ref D))/\xc K D/\kitOne K (.ref D) (.ref C)=some b/\Q (.bl b) H) zbg U.isi boot_isinstance (ac (pv 3) (ac (z6 (v:=.ref NT) rfl U.nt rfl) zi))) (za1 (zf1 (cM cO (hrM.mark _) (ac (pv 3) zi))))) zi))))))
  (zm (zB (pv 2)))),?_⟩
 have two : 2<=sizeLine:=by decide
 have ref:o=none->n=4\/n=5->∀H1,zx H H1->(Value.ref NT=Value.ref NT)/\∀ea,H1 ea=none->zef (zed (xM (tC (.str "refused")) (xM (ziO (tCB (fun xs H Q=>∃(ea D C:Addr) (b:Bool),xs=[.ref ea,.ref C]/\H ea=some (jh ea (.ref D))/\xc K D/\kitOne K (.ref D) (.ref C)=some b/\Q (.bl b) H) (xM (uf 3) (xM (tC (.ref NT)) jB))) (ziM (jp (zdo NT) [] E0 (xM (uf 3) jB)))) jB))) (yc 2) (zdX { nx:=zee (uf 2) { nx:=fun _ H'=>Q .non H',rt:=Q },rt:=Q } 3) [some (.int b),some x,some .non,some (.ref ea)] (upd H1 ea (jh ea (.ref NT))):=by
  intro ho hn H1 s1;refine⟨rfl,fun ea hea=>?_⟩;have s2:=zk hea (jh ea (.ref NT));refine⟨_,rfl,ea,NT,NT,true,rfl,zc,U.ex,U.k4,_,rfl,?_⟩;refine yp ?_;refine⟨_,rfl,ea,rfl,zc,fun H2 s3=>?_⟩;refine⟨_,rfl,?_⟩;refine⟨two,fun p hp0=>?_⟩;have s4:=zk hp0 (.tup [.str "refused",.bl true]);refine⟨_,rfl,q p _ (s1.trans (s2.trans (s3.trans s4))) ?_⟩;rw[ho];rcases hn with rfl|rfl
  ·exact .tup (zI zc) (.cons .str (.cons .bl .nil))
  ·exact .tup (zI zc) (.cons .str (.cons .bl .nil))
 refine⟨_,rfl,rfl,_,rfl,?_⟩;rcases hb with ⟨rfl,ho,rfl⟩|⟨rfl,ho,rfl⟩
 ·refine dT rfl ?_
  refine⟨_,rfl,x,rfl,?_⟩;rcases hx with ⟨z,rfl,lz,lp⟩|⟨nx,nt⟩
  ·refine .inl ⟨z,rfl,lz,lp rfl,fun p e f0 H1 s1 hF=>?_,fun e H1 s1=>ref (by rw[ho];show(rdF z).map uS=none;rw[e];rfl) (.inl rfl) H1 s1⟩
   obtain⟨dx2,fs2,lr2,lb2,ld2,ps2,k1,k2,k3,k4,k5,k6⟩:=hF.at_;have l5:=hF.lr;refine⟨f0,dx2,fs2,rfl,k1,k2.no _ (by decide +kernel),f0,p.1,p.2,rfl,hF.ok,by omega,hF.at_,fun tt l1 l2 us2 H2 s2 _ _ _ ht h1' hu2 h2'=>?_⟩
   refine⟨two,fun t0 ht0=>?_⟩;have s3:=zk ht0 (.tup [.str "told",.ref tt]);refine⟨_,rfl,q t0 _ (s1.trans (s2.trans s3)) ?_⟩;rw[ho,show zfP (.str z)=some (uS p) by show(rdF z).map uS=_;rw[e];rfl]
   exact .tup (zI zc) (.cons .str (.cons (zam (s3 _ _ ht) (s3 _ _ h1') (y6 s3 hu2) (s3 _ _ h2')) .nil))
  ·refine .inr ⟨nt,fun H1 s1=>ref (by rw[ho];cases x <;> first|rfl|exact absurd rfl (nx _)) (.inl rfl) H1 s1⟩
 ·refine dF (by intro z;cases z) ?_
  refine⟨_,rfl,x,rfl,?_⟩;rcases hx with ⟨z,rfl,lz,lp⟩|⟨nx,nt⟩
  ·refine .inl ⟨z,rfl,lz,fun cc e a xs H1 s1 _ ha hxs=>?_,fun e H1 s1=>ref (by rw[ho];show(rdC z).map _=none;rw[e];rfl) (.inr rfl) H1 s1⟩
   refine⟨two,fun t0 ht0=>?_⟩;have s3:=zk ht0 (.tup [.str "told",.ref a]);refine⟨_,rfl,q t0 _ (s1.trans s3) ?_⟩;rw[ho,show zfQ (.str z)=some (.lst (cc.map yI)) by show(rdC z).map _=_;rw[e];rfl]
   exact .tup (zI zc) (.cons .str (.cons (.lst trivial (s3 _ _ ha) (zH (fun _ _ z=>z.same s3) hxs)) .nil))
  ·refine .inr ⟨nt,fun H1 s1=>ref (by rw[ho];cases x <;> first|rfl|exact absurd rfl (nx _)) (.inr rfl) H1 s1⟩
theorem za8{tc:TT}{t u:TS}{D:wO}{σ : L2.St}{H:Hp}(R:Hp->Prop)(h2:∀H,R H->u D σ H)(h1:(∀H,R H->u D σ H)->zfa tc t u D σ H):zfa tc t u D σ H:=h1 h2
def LsW(H:Hp)(l:Addr)(n:Nat):Prop:=∃(us:List Addr) (rows:List Rw),H l=some (.lst (us.map V.ref))/\Paired (TAt H) us rows/\(∀r∈rows,r.ok)/\us.length=n
theorem LsW.same{H H':Hp}{l:Addr}{n:Nat}(h:LsW H l n)(s:zx H H'):LsW H' l n:=let ⟨us,rows,h1,h2,h3⟩:=h;⟨us,rows,s _ _ h1,y6 s h2,h3⟩
structure FW(H H':Hp)(lg ll:Addr)(g:Nat->Addr)(i m:Nat):Prop where
 sm:zx H H'
 gg:H' lg=some (.lst [.ref (g 0),.ref (g 1),.ref (g 2),.ref (g 3)])
 ls:∃n:Nat->Nat,(∀j,j<4->LsW H' (g j) (n j))/\n 0+n 1+n 2+n 3<=i
 lw:∃L:List Str,H' ll=some (.lst (L.map V.str))/\L.length<=m
 ne:∀j k,j<4->k<4->j≠k->g j≠g k
 nl:∀j,j<4->g j≠lg/\g j≠ll/\H (g j)=none
 nn:ll≠lg
 n0:H ll=none
variable {H H' H'':Hp}{lg ll u:Addr}{g:Nat->Addr}{i m j:Nat}{r:Rw}{xs:List V}{z:Str}{L:List Str}
theorem FW.same(h:FW H H' lg ll g i m)(s:zx H' H''):FW H H'' lg ll g i m:=⟨h.sm.trans s,s _ _ h.gg,let ⟨n,a,b⟩:=h.ls;⟨n,fun j hj=>(a j hj).same s,b⟩,let ⟨L,a,b⟩:=h.lw;⟨L,s _ _ a,b⟩,h.ne,h.nl,h.nn,h.n0⟩
theorem jY{l:Addr}{ys zs:List V}{us:List Addr}{rows:List Rw}(hl:H l=some (.lst ys))(h:Paired (TAt H) us rows):Paired (TAt (upd H l (.lst zs))) us rows:=zH (fun _ _ z=>vO z hl) h
theorem FW.add(h:FW H H' lg ll g i m)(hj:j<4)(e:H' (g j)=some (.lst xs))(hu:TAt H' u r)(hr:r.ok):FW H (upd H' (g j) (.lst (xs++[.ref u]))) lg ll g (i+1) m:=by
 obtain⟨a1,a2,a3⟩:=h.nl j hj;obtain⟨n,b,c⟩:=h.ls;refine⟨zU h.sm a3 _,by rw[zv a1.symm];exact h.gg,⟨fun k=>if k=j then n j+1 else n k,fun k hk=>?_,?_⟩,let ⟨L,d,f⟩:=h.lw;⟨L,by rw[zv a2.symm];exact d,f⟩,h.ne,h.nl,h.nn,h.n0⟩
 ·obtain⟨us,rows,d1,d2,d3,d4⟩:=b k hk
  by_cases hkj:k=j
  ·subst hkj
   rw[d1] at e;cases e;refine⟨us++[u],rows++[r],by rw[zc,map_append];rfl,Paired.snoc (jY d1 d2) (vO hu d1),fun x hx=>?_,by show(us++[u]).length=if k=k then n k+1 else n k;rw[length_append,d4,if_pos rfl];rfl⟩
   rcases List.mem_append.mp hx with hx|hx
   ·exact d3 x hx
   ·rw[List.mem_singleton.mp hx];exact hr
  ·exact⟨us,rows,by rw[zv (h.ne k j hk hj hkj)];exact d1,jY e d2,d3,by show us.length=if k=j then n j+1 else n k;rw[if_neg hkj];exact d4⟩
 ·have:j=0\/j=1\/j=2\/j=3:=by omega
  rcases this with rfl|rfl|rfl|rfl <;> simp <;> omega
theorem FW.addL(h:FW H H' lg ll g i m)(e:H' ll=some (.lst (L.map V.str)))(hm:L.length<=m):FW H (upd H' ll (.lst (L.map V.str++[.str z]))) lg ll g i (m+1):=
 ⟨zU h.sm h.n0 _,by rw[zv h.nn.symm];exact h.gg,let ⟨n,a,b⟩:=h.ls;⟨n,fun j hj=>let ⟨us,rows,d1,d2,d3⟩:=a j hj;⟨us,rows,by rw[zv (h.nl j hj).2.1];exact d1,jY e d2,d3⟩,b⟩,⟨L++[z],by rw[zc,map_append];rfl,by rw[length_append];exact Nat.succ_le_succ hm⟩,h.ne,h.nl,h.nn,h.n0⟩
theorem FW.mono(h:FW H H' lg ll g i m){i' m':Nat}(hi:i<=i')(hm:m<=m'):FW H H' lg ll g i' m':=⟨h.sm,h.gg,let ⟨n,a,b⟩:=h.ls;⟨n,a,le_trans b hi⟩,let ⟨L,a,b⟩:=h.lw;⟨L,a,le_trans b hm⟩,h.ne,h.nl,h.nn,h.n0⟩
theorem FW.at(h:FW H H' lg ll g i m)(hj:j<4):∃us:List Addr,∃rows:List Rw,H' (g j)=some (.lst (us.map V.ref))/\Paired (TAt H') us rows/\us.length<=i:=by
 obtain⟨n,a,b⟩:=h.ls;obtain⟨us,rows,c1,c2,c3,c4⟩:=a j hj;refine⟨us,rows,c1,c2,?_⟩
 have:j=0\/j=1\/j=2\/j=3:=by omega
 rcases this with rfl|rfl|rfl|rfl <;> omega
def zbs(K:Frag):Sp:=fun vs H Q _=>∃(a pa:Addr) (cs:List Int) (zs:List Str),vs=[.ref a,.ref pa]/\SqL K H a (cs.map V.int)/\cs.length<=20/\H pa=some (.lst (zs.map V.str))/\0<zs.length/\(∀z∈zs,zV z=true)/\
 ∀(la:Addr) (us:List Addr) (rows:List Rw) (H':Hp),zx H H'->H' la=some (.lst (us.map V.ref))->Paired (TAt H') us rows->(∀r∈rows,r.ok)->rows.length<=24->Q (.ref la) H'
theorem wj:zD ["_law_cells","_law_pool_here","_law_groups","_law_seen","_law_cell","_law_kind","_law_name","_law_loose"] ["_law_cells","_law_pool_here"] (zr zcD):=fsc
theorem zew(F:Fun K "_law_specs" "_law_specs" zcD f fd)(T:ze1 mg):zL P w K mg base CX0 1 f fd ["_law_cells","_law_pool_here"] (zbs K):=by
 refine F.ok wj (fun cdv A outer s H vs Q E hr h=>?_);obtain⟨a,pa,cs,zs,rfl,hS,l20,hpa,z0,hzn,q⟩:=h;have hU:=hr.units;have hU0:=hr.units0;have z4:∀n,n<=4->n<=sizeLine:=fun n h=>yP (by omega)
 refine⟨_,zp (zC (i:=2) wj.nd rfl (Or.inl rfl) (zP (ac (zP zi) (ac (zP zi) (ac (zP zi) (ac (zP zi) zi))))))
  (zp (zC (i:=3) wj.nd rfl (Or.inl rfl) (zP zi))
  (zp (y8 PassesOwn.never rfl (ye (pv 0)) (zF (i:=4) wj.nd rfl (Or.inl rfl))
   (zp (zC (i:=5) wj.nd rfl (Or.inl rfl) (zt zZ (pv 4) zj))
   (zp (zC (i:=6) wj.nd rfl (Or.inl rfl) (zK yn (pv 1) (zt zZ (zt yf (pv 4) zj) (cB zO T.len PySem.boot_len (ac (pv 1) zi))) (fun _ _=>rfl)))
   (zp (zC (i:=7) wj.nd rfl (Or.inl rfl) (xf yi (zt zZ (zt yf (pv 4) zj) zj) zj (zE _)))
   (zm (zJ (zw uj (pv 5) zj (zE _)) (zm (zW (z7 PySem.F.plainAttrs_list PySem.F.slot_list_append PySem.F.type_list_append z9 (zK yn (pv 2) zj (fun _ _=>rfl)) (ac (zM (ac zo (ac (pv 6) (ac (pv 7) zi)))) zi))))
    (zm (zJ (yv (yW (zw yi (pv 5) zj (zE _)) (yD (zw (OpR.or (zcU hU) (ql hU0)) (zK yn (pv 2) zj (fun _ _=>rfl)) (zP zi) (zE _))))) (zm (zW (z7 PySem.F.plainAttrs_list PySem.F.slot_list_append PySem.F.type_list_append z9 (zK yn (pv 2) zj (fun _ _=>rfl)) (ac (zM (ac zo (ac (pv 6) zi))) zi))))
     (zm (zJ (yv (yW (zw yi (pv 5) zj (zE _)) (yD (zw (OpR.or (zcU hU) (ql hU0)) (zK yn (pv 2) zj (fun _ _=>rfl)) (zP zi) (zE _))))) (zm (zW (z7 PySem.F.plainAttrs_list PySem.F.slot_list_append PySem.F.type_list_append z9 (zK yn (pv 2) zj (fun _ _=>rfl)) (ac (zM (ac zo (ac (pv 6) zi))) zi))))
      (zm (zJ (yv (yW (zw yF (pv 5) (zM (ac zj (ac zj (ac zj zi)))) (by with_unfolding_all rfl)) (yD (zw xl (pv 6) (pv 3) (by with_unfolding_all rfl))))) (zp (zW (z7 PySem.F.plainAttrs_list PySem.F.slot_list_append PySem.F.type_list_append z9 (zK yn (pv 2) zj (fun _ _=>rfl)) (ac (zM (ac zo (ac (pv 6) (ac (pv 7) zi)))) zi))) (zm (zW (z7 PySem.F.plainAttrs_list PySem.F.slot_list_append PySem.F.type_list_append z9 (pv 3) (ac (pv 6) zi)))))
       (zm (zJ (yv (yW (zw yF (pv 5) (zM (ac zj (ac zj zi))) (by with_unfolding_all rfl)) (yD (zw xl (pv 6) (pv 3) (by with_unfolding_all rfl))))) (zp (zW (z7 PySem.F.plainAttrs_list PySem.F.slot_list_append PySem.F.type_list_append z9 (zK yn (pv 2) zj (fun _ _=>rfl)) (ac (zM (ac zo (ac (pv 6) (ac (pv 7) zi)))) zi))) (zm (zW (z7 PySem.F.plainAttrs_list PySem.F.slot_list_append PySem.F.type_list_append z9 (pv 3) (ac (pv 6) zi))))) zz))))))))))))))
  (zm (zB (zt wp (zt wp (zt wp (zK yn (pv 2) zj (fun _ _=>rfl)) (zK yn (pv 2) zj (fun _ _=>rfl))) (zK yn (pv 2) zj (fun _ _=>rfl))) (zK yn (pv 2) zj (fun _ _=>rfl))))))),?_⟩
 refine⟨z4 0 (by decide),fun g0 h0=>?_⟩
 have s0:=zk h0 (.lst []);have e0:upd H g0 (.lst []) g0=some (.lst []):=zc;generalize upd H g0 (.lst [])=H0 at s0 e0 |-;refine⟨z4 0 (by decide),fun g1 h1=>?_⟩
 have s1:=zk h1 (.lst []);have e1:upd H0 g1 (.lst []) g1=some (.lst []):=zc;generalize upd H0 g1 (.lst [])=H1 at s1 e1 |-;refine⟨z4 0 (by decide),fun g2 h2=>?_⟩
 have s2:=zk h2 (.lst []);have e2:upd H1 g2 (.lst []) g2=some (.lst []):=zc;generalize upd H1 g2 (.lst [])=H2 at s2 e2 |-;refine⟨z4 0 (by decide),fun g3 h3=>?_⟩
 have s3:=zk h3 (.lst []);have e3:upd H2 g3 (.lst []) g3=some (.lst []):=zc;generalize upd H2 g3 (.lst [])=H3 at s3 e3 |-;refine⟨z4 4 (by decide),fun lg h4=>?_⟩
 have s4:=zk h4 (.lst [.ref g0,.ref g1,.ref g2,.ref g3]);have e4:upd H3 lg (.lst [.ref g0,.ref g1,.ref g2,.ref g3]) lg=some (.lst [.ref g0,.ref g1,.ref g2,.ref g3]):=zc;dsimp only[yc];generalize upd H3 lg (.lst [.ref g0,.ref g1,.ref g2,.ref g3])=H4 at s4 e4 |-;refine⟨z4 0 (by decide),fun ll h5=>?_⟩
 have s5:=zk h5 (.lst []);have e5:upd H4 ll (.lst []) ll=some (.lst []):=zc;dsimp only[yc];generalize upd H4 ll (.lst [])=H5 at s5 e5 |-;obtain⟨g,rfl,rfl,rfl,rfl⟩:∃g:Nat->Addr,g 0=g0/\g 1=g1/\g 2=g2/\g 3=g3:=⟨fun j=>match j with|0=>g0|1=>g1|2=>g2|_=>g3,rfl,rfl,rfl,rfl⟩
 have a0:=s3 _ _ (s2 _ _ (s1 _ _ e0));have a1:=s3 _ _ (s2 _ _ e1);have a2:=s3 _ _ e2;have I0:FW H H5 lg ll g 0 0:=by
  have s02:=s0.trans (s1.trans s2);have four:∀{p:Nat->Prop},p 0->p 1->p 2->p 3->∀j,j<4->p j:=fun {p} a b c d j hj=>match j,hj with|0,_=>a|1,_=>b|2,_=>c|3,_=>d
  have n01:=zu e0 h1;have n02:=zu (s1 _ _ e0) h2;have n12:=zu e1 h2;have n03:=zu (s2 _ _ (s1 _ _ e0)) h3;have n13:=zu (s2 _ _ e1) h3;have n23:=zu e2 h3;refine⟨s02.trans (s3.trans (s4.trans s5)),s5 _ _ e4,⟨fun _=>0,four ?_ ?_ ?_ ?_,le_refl _⟩,⟨[],e5,le_refl _⟩,fun j k hj hk=>?_,four ⟨zu a0 h4,zu (s4 _ _ a0) h5,h0⟩ ⟨zu a1 h4,zu (s4 _ _ a1) h5,s0.free h1⟩ ⟨zu a2 h4,zu (s4 _ _ a2) h5,(s0.trans s1).free h2⟩ ⟨zu e3 h4,zu (s4 _ _ e3) h5,s02.free h3⟩,(zu e4 h5).symm,(s02.trans (s3.trans s4)).free h5⟩
  ·exact⟨[],[],s5 _ _ (s4 _ _ a0),.nil,(fun _ h=>nomatch h),rfl⟩
  ·exact⟨[],[],s5 _ _ (s4 _ _ a1),.nil,(fun _ h=>nomatch h),rfl⟩
  ·exact⟨[],[],s5 _ _ (s4 _ _ a2),.nil,(fun _ h=>nomatch h),rfl⟩
  ·exact⟨[],[],s5 _ _ (s4 _ _ e3),.nil,(fun _ h=>nomatch h),rfl⟩
  ·revert k
   refine four (p:=fun j=>∀k,k<4->j≠k->g j≠g k) ?_ ?_ ?_ ?_ j hj <;> refine four ?_ ?_ ?_ ?_ <;> intro n <;> first|exact absurd rfl n|assumption|(apply Ne.symm;assumption)
 clear a0 a1 a2 e0 e1 e2 e3 e4 e5 s0 s1 s2 s3 s4 s5 h0 h1 h2 h3 h4 h5;refine⟨_,rfl,a,rfl,⟨_,I0.sm.seq hS⟩,yO (K:=K) (a:=a) (xs:=cs.map V.int) (fun i σ H'=>∃(v4 v5 v6 v7:Option V),σ=[some (.ref a),some (.ref pa),some (.ref lg),some (.ref ll),v4,v5,v6,v7]/\FW H H' lg ll g i i)
  ⟨_,_,_,_,rfl,I0⟩ (fun i σ H' _ ⟨_,_,_,_,_,h⟩=>h.sm.seq hS) ?_ ?_⟩
 ·rintro i x σ H6 hx ⟨v4,v5,v6,v7,rfl,I6⟩
  obtain⟨n,hn,rfl⟩:∃n,cs[i]?=some n/\x=.int n:=by
   rw[getElem?_map] at hx;cases e:cs[i]? with
   | none=>rw[e] at hx;cases hx
   | some n=>rw[e] at hx;cases hx;exact⟨n,rfl,rfl⟩
  have hi:i<cs.length:=(List.getElem?_eq_some_iff.mp hn).1;obtain⟨hz1,hz2⟩:=zbR z0 (n / 9);have hz:=hzn _ hz2;have hpa6:=I6.sm _ _ hpa;refine⟨_,rfl,_,_,rfl,rfl,zp9,?_⟩;refine⟨_,rfl,_,rfl,_,_,rfl,rfl,⟨by decide,by decide⟩,_,rfl,pa,_,rfl,.inl (zq hpa6),_,_,rfl,rfl,(by rw[length_map];omega),pa,_,_,.str (jE zs (n / 9)),rfl,rfl,zq hpa6,hz1,?_⟩
  generalize jE zs (n / 9)=z at hz |-;refine⟨_,rfl,_,_,rfl,rfl,⟨by decide,by decide⟩,_,_,rfl,rfl,zp2,rfl,?_⟩
  dsimp only[yc];generalize decide (V.int (n / 108 % 2)=V.int 1)=fb;generalize n % 9=k;clear hz1 hz2 hn hpa6;have fin:∀{H':Hp},FW H H' lg ll g (i+1) (i+1)->∃(v4 v5 v6 v7:Option V),([some (.ref a),some (.ref pa),some (.ref lg),some (.ref ll),some (.int n),some (.int k),some (.str z),some (.bl fb)]:L2.St)=[some (.ref a),some (.ref pa),some (.ref lg),some (.ref ll),v4,v5,v6,v7]/\FW H H' lg ll g (i+1) (i+1):=fun I=>⟨_,_,_,_,rfl,I⟩;have rk:∀k,k<5->Rw.ok ⟨k,z,fb⟩:=fun k h=>⟨h,hz⟩;have l1:∀{us:List Addr},us.length<=i->(us.map V.ref).length<sizeLine:=fun h=>yu (by rw[length_map];omega)
  have row:∀{H7:Hp}(j:Nat) (r:Rw) (Q:Hp->Prop),FW H H7 lg ll g i i->j<4->r.ok->(∀H8,FW H H8 lg ll g (i+1) i->Q H8)->∃us:List Addr,H7 (g j)=some (.lst (us.map V.ref))/\us.length<=i/\∀u,H7 u=none->upd H7 u (.tup (rv r)) (g j)=some (.lst (us.map V.ref))/\Q (upd (upd H7 u (.tup (rv r))) (g j) (.lst (us.map V.ref++[.ref u]))):=by
   intro H7 j r Q I hj hr hQ;obtain⟨us,rows,w1,w2,w3⟩:=I.at hj;refine⟨us,w1,w3,fun u hu=>?_⟩;have s7:=zk hu (.tup (rv r));exact⟨s7 _ _ w1,hQ _ ((I.same s7).add hj (s7 _ _ w1) zc hr)⟩
  refine za8 (fun H'=>FW H H' lg ll g i i) ?_ (fun key=>?_);rotate_left
  ·refine⟨_,rfl,_,_,rfl,rfl,_,rfl,?_⟩
   refine jf (fun _=>?_) (fun _=>key _ I6);obtain⟨us,w1,w3,nx⟩:=row 0 ⟨0,z,fb⟩ _ I6 (by decide) (rk 0 (by decide)) (fun H8 I8=>fin (I8.mono (le_refl _) (le_succ _)))
   exact⟨_,rfl,lg,_,0,.ref (g 0),rfl,rfl,zq I6.gg,rfl,.inl ⟨rfl,_,zq w1⟩,_,rfl,_,rfl,z4 3 (by decide),fun u hu=>⟨g 0,_,_,rfl,rfl,(nx u hu).1,l1 w3,(nx u hu).2⟩⟩
  clear I6 H6;intro H6 I6;refine za8 (fun H'=>FW H H' lg ll g i i) ?_ (fun key=>?_);rotate_left
  ·refine⟨_,rfl,rfl,_,rfl,?_⟩
   refine jf (fun _=>?_) (fun _=>yb (key _ I6));obtain⟨us,rows,w1,w2,w3⟩:=I6.at (j:=1) (by decide)
   refine⟨_,rfl,lg,_,1,.ref (g 1),rfl,rfl,zq I6.gg,rfl,z4 0 (by decide),fun l0 hl0=>?_⟩
   have s7:=zk hl0 (.lst []);have e7:upd H6 l0 (.lst []) l0=some (.lst []):=zc;have I7:=I6.same s7;have w1:=s7 _ _ w1;generalize upd H6 l0 (.lst [])=H7 at s7 e7 I7 w1 |-;cases us with
   | cons u us=>exact .inr ⟨g 1,l0,_,_,rfl,rfl,w1,e7,(by simp),_,rfl,yb (key _ I7)⟩
   | nil=>
    refine .inl ⟨g 1,l0,0,.lst [],fun _=>True,fun _=>True,rfl,rfl,by decide,zS.lst True.intro w1 .nil,zS.lst True.intro e7 .nil,_,rfl,?_⟩
    refine yp ?_;obtain⟨us,w1,w3,nx⟩:=row 1 ⟨2,z,fb⟩ _ I7 (by decide) (rk 2 (by decide)) (fun H8 I8=>fin (I8.mono (le_refl _) (le_succ _)))
    exact⟨_,rfl,lg,_,1,.ref (g 1),rfl,rfl,zq I7.gg,rfl,.inl ⟨rfl,_,zq w1⟩,_,rfl,z4 2 (by decide),fun u hu=>⟨g 1,_,_,rfl,rfl,(nx u hu).1,l1 w3,(nx u hu).2⟩⟩
  clear I6 H6;intro H6 I6;refine za8 (fun H'=>FW H H' lg ll g i i) ?_ (fun key=>?_);rotate_left
  ·refine⟨_,rfl,rfl,_,rfl,?_⟩
   refine jf (fun _=>?_) (fun _=>yb (key _ I6));obtain⟨us,rows,w1,w2,w3⟩:=I6.at (j:=3) (by decide)
   refine⟨_,rfl,lg,_,3,.ref (g 3),rfl,rfl,zq I6.gg,rfl,z4 0 (by decide),fun l0 hl0=>?_⟩
   have s7:=zk hl0 (.lst []);have e7:upd H6 l0 (.lst []) l0=some (.lst []):=zc;have I7:=I6.same s7;have w1:=s7 _ _ w1;generalize upd H6 l0 (.lst [])=H7 at s7 e7 I7 w1 |-;cases us with
   | cons u us=>exact .inr ⟨g 3,l0,_,_,rfl,rfl,w1,e7,(by simp),_,rfl,yb (key _ I7)⟩
   | nil=>
    refine .inl ⟨g 3,l0,0,.lst [],fun _=>True,fun _=>True,rfl,rfl,by decide,zS.lst True.intro w1 .nil,zS.lst True.intro e7 .nil,_,rfl,?_⟩
    refine yp ?_;obtain⟨us,w1,w3,nx⟩:=row 3 ⟨4,z,fb⟩ _ I7 (by decide) (rk 4 (by decide)) (fun H8 I8=>fin (I8.mono (le_refl _) (le_succ _)))
    exact⟨_,rfl,lg,_,3,.ref (g 3),rfl,rfl,zq I7.gg,rfl,.inl ⟨rfl,_,zq w1⟩,_,rfl,z4 2 (by decide),fun u hu=>⟨g 3,_,_,rfl,rfl,(nx u hu).1,l1 w3,(nx u hu).2⟩⟩
  clear I6 H6;intro H6 I6;refine za8 (fun H'=>FW H H' lg ll g i i) ?_ (fun key=>?_);rotate_left
  ·refine⟨_,rfl,z4 3 (by decide),fun t0 ht0=>?_⟩
   have s7:=zk ht0 (.tup [.int 2,.int 3,.int 4]);have I7:=I6.same s7;refine⟨t0,_,rfl,.inr (zI zc),rfl,rfl,_,rfl,?_⟩;generalize upd H6 t0 (.tup [.int 2,.int 3,.int 4])=H7 at s7 I7 |-;refine jf (fun _=>?_) (fun _=>yb (key _ I7));obtain⟨L,hL,lL⟩:=I7.lw;refine⟨_,rfl,_,rfl,ll,_,rfl,.inl (zq hL),rfl,w4,_,rfl,?_⟩;refine jf (fun _=>?_) (fun _=>key _ I7);obtain⟨us,w1,w3,nx⟩:=row 0 ⟨1,z,fb⟩ _ I7 (by decide) (rk 1 (by decide)) (fun H8 I8=>I8)
   refine⟨_,rfl,lg,_,0,.ref (g 0),rfl,rfl,zq I7.gg,rfl,.inl ⟨rfl,_,zq w1⟩,_,rfl,_,rfl,z4 3 (by decide),fun u hu=>⟨g 0,_,_,rfl,rfl,(nx u hu).1,l1 w3,?_⟩⟩
   have J:=(nx u hu).2;obtain⟨L,hL,lL⟩:=J.lw;exact⟨_,rfl,.inl ⟨rfl,_,zq hL⟩,_,rfl,ll,_,_,rfl,rfl,hL,yu (by rw[length_map];omega),fin (J.addL hL lL)⟩
  clear I6 H6;intro H6 I6;refine⟨_,rfl,z4 2 (by decide),fun t0 ht0=>?_⟩
  have s7:=zk ht0 (.tup [.int 6,.int 7]);have I7:=I6.same s7;have I9:=I7.mono (le_succ i) (le_succ i);refine⟨t0,_,rfl,.inr (zI zc),rfl,rfl,_,rfl,?_⟩;generalize upd H6 t0 (.tup [.int 6,.int 7])=H7 at s7 I7 I9 |-;refine jf (fun _=>?_) (fun _=>yb (fin I9));obtain⟨L,hL,lL⟩:=I7.lw;refine⟨_,rfl,_,rfl,ll,_,rfl,.inl (zq hL),rfl,w4,_,rfl,?_⟩;refine jf (fun _=>?_) (fun _=>fin I9);obtain⟨us,w1,w3,nx⟩:=row 2 ⟨3,z,fb⟩ _ I7 (by decide) (rk 3 (by decide)) (fun H8 I8=>I8)
  refine⟨_,rfl,lg,_,2,.ref (g 2),rfl,rfl,zq I7.gg,rfl,.inl ⟨rfl,_,zq w1⟩,_,rfl,_,rfl,z4 3 (by decide),fun u hu=>⟨g 2,_,_,rfl,rfl,(nx u hu).1,l1 w3,?_⟩⟩
  have J:=(nx u hu).2;obtain⟨L,hL,lL⟩:=J.lw;exact⟨_,rfl,.inl ⟨rfl,_,zq hL⟩,_,rfl,ll,_,_,rfl,rfl,hL,yu (by rw[length_map];omega),fin (J.addL hL lL)⟩
 ·rintro σ H6 ⟨v4,v5,v6,v7,rfl,I6⟩
  rw[length_map] at I6;obtain⟨n,hl,hn⟩:=I6.ls;obtain⟨u0,r0,a0,b0,o0,c0⟩:=hl 0 (by decide)
  obtain⟨u1,r1,a1,b1,o1,c1⟩:=hl 1 (by decide)
  obtain⟨u2,r2,a2,b2,o2,c2⟩:=hl 2 (by decide)
  obtain⟨u3,r3,a3,b3,o3,c3⟩:=hl 3 (by decide)
  refine⟨_,rfl,lg,_,0,.ref (g 0),rfl,rfl,zq I6.gg,rfl,_,rfl,lg,_,1,.ref (g 1),rfl,rfl,zq I6.gg,rfl,g 0,g 1,_,_,rfl,rfl,a0,a1,yP (by rw[length_map,length_map];omega),fun p1 hp1=>?_⟩
  have t1:=zk hp1 (.lst (u0.map V.ref++u1.map V.ref));have f1:upd H6 p1 (.lst (u0.map V.ref++u1.map V.ref)) p1=some (.lst (u0.map V.ref++u1.map V.ref)):=zc;generalize upd H6 p1 (.lst (u0.map V.ref++u1.map V.ref))=H7 at t1 f1 |-;refine⟨_,rfl,lg,_,2,.ref (g 2),rfl,rfl,zq (t1 _ _ I6.gg),rfl,p1,g 2,_,_,rfl,rfl,f1,t1 _ _ a2,yP (by rw[length_append,length_map,length_map,length_map];omega),fun p2 hp2=>?_⟩
  have t2:=zk hp2 (.lst (u0.map V.ref++u1.map V.ref++u2.map V.ref));have f2:upd H7 p2 (.lst (u0.map V.ref++u1.map V.ref++u2.map V.ref)) p2=some (.lst (u0.map V.ref++u1.map V.ref++u2.map V.ref)):=zc;generalize upd H7 p2 (.lst (u0.map V.ref++u1.map V.ref++u2.map V.ref))=H8 at t2 f2 |-;have t12:=t1.trans t2;refine⟨_,rfl,lg,_,3,.ref (g 3),rfl,rfl,zq (t12 _ _ I6.gg),rfl,p2,g 3,_,_,rfl,rfl,f2,t12 _ _ a3,yP (by simp only[length_append,length_map];omega),fun p3 hp3=>?_⟩
  have t13:=t12.trans (zk hp3 (.lst (u0.map V.ref++u1.map V.ref++u2.map V.ref++u3.map V.ref)));have ap:∀{H:Hp}{a c:List Addr}{b d:List Rw},Paired (TAt H) a b->Paired (TAt H) c d->Paired (TAt H) (a++c) (b++d):=by
   intro H a c b d h1 h2;induction h1 with
   | nil=>exact h2
   | cons r t ih=>exact .cons r ih
  have d0:=b0.length;have d1:=b1.length;have d2:=b2.length;have d3:=b3.length;refine q p3 (u0++u1++u2++u3) (r0++r1++r2++r3) _ (I6.sm.trans t13) (by rw[zc];simp only[map_append]) (ap (ap (ap (y6 t13 b0) (y6 t13 b1)) (y6 t13 b2)) (y6 t13 b3)) (fun r hr=>?_) (by simp only[length_append];omega)
  simp only[List.mem_append] at hr;rcases hr with ((h|h)|h)|h
  ·exact o0 r h
  ·exact o1 r h
  ·exact o2 r h
  ·exact o3 r h
def zbt(K:Frag):Sp:=fun vs H Q _=>∃(a pa la:Addr) (cs:List Int) (zs:List Str) (us:List Addr) (rows:List Rw),vs=[.ref a,.ref pa,.ref la]/\SqL K H a (cs.map V.int)/\cs.length<=20/\H pa=some (.lst (zs.map V.str))/\0<zs.length/\(∀z∈zs,zV z=true)/\H la=some (.lst (us.map V.ref))/\Paired (TAt H) us rows/\(∀r∈rows,r.ok)/\rows.length<=24/\
 ∀(l:Addr) (bars:List Str) (H':Hp),zx H H'->H' l=some (.lst (bars.map V.str))->(∀z∈bars,zV z=true)->bars.length<=cs.length->Q (.ref l) H'
theorem zez(F:Fun K "_law_bars" "_law_bars" zfJ f fd)(T:ze1 mg):zL P w K mg base CX0 1 f fd ["_law_cells","_law_pool_here","_law_specs_here"] (zbt K):=by
 refine F.ok uI (fun cdv A outer s H vs Q E hr h=>?_);obtain⟨a,pa,la,cs,zs,us,rows,rfl,hS,l20,hpa,z0,hzn,hla,hu,Vok,l24,q⟩:=h;refine⟨_,zp (zae (i:=3) [] ["_law_one"] [none] uI.nd rfl (Or.inl rfl) rfl ⟨rfl,rfl,rfl,rfl⟩ (ye (pv 2)) (z5 0) rfl rfl rfl
   (fun pins fp s H C=>⟨zF (i:=0) zlJ rfl (Or.inl rfl) (.inr rfl),vT (zw (r:=rIn K false) yF (zK (r:=zke K) ya (pv 0) zj (fun _ _=>rfl)) (zM (ac zo (ac zo zi))) (by with_unfolding_all rfl)),zK (r:=zke K) ya (pv 0) zj (fun _ _=>rfl)⟩))
  (zp (zC (i:=4) uI.nd rfl (Or.inl rfl) (zP zi))
  (zp (y8 PassesOwn.never rfl (ye (pv 0)) (zF (i:=5) uI.nd rfl (Or.inl rfl))
   (zp (zC (i:=6) uI.nd rfl (Or.inl rfl) (zK yn (pv 1) (zt zZ (pv 5) (cB zO T.len PySem.boot_len (ac (pv 1) zi))) (fun _ _=>rfl)))
   (zm (zJ (yv (yW (zw xl (pv 6) (pv 3) (by with_unfolding_all rfl)) (yD (zw xl (pv 6) (pv 4) (by with_unfolding_all rfl))))) (zm (zW (z7 PySem.F.plainAttrs_list PySem.F.slot_list_append PySem.F.type_list_append z9 (pv 4) (ac (pv 6) zi)))) zz))))
  (zm (zB (pv 4))))),?_⟩
 refine⟨_,rfl,la,rfl,⟨_,zq hla⟩,fun D hD=>?_⟩;refine zkI (K:=K) TAt (fun r=>ug r.k) (fun _ r=>.str r.z) hD hla hu (by omega) (fun i u r H' N S hu' hr' tr sH n1 s1=>?_) (fun H1 s1 hD1=>?_)
 ·have rk:=Vok r (mem_of_getElem? hr')
  have tu:=sH _ _ tr;refine⟨_,rfl,u,_,0,_,rfl,rfl,zI tu,zhu rk,y7,fun l hl=>?_⟩;have s2:=zk hl (.tup [.str "both",.str "tag"]);refine⟨l,_,rfl,.inr (zI zc),rfl,rfl,_,rfl,?_⟩;rw[if_neg zft,zkP rk.1];exact⟨fun e=>⟨_,rfl,u,_,1,_,rfl,rfl,zI (s2 _ _ tu),zht rk,n1 _ s2 e⟩,fun e=>s1 _ s2 e⟩
 rw[zh3 hu] at hD1;refine⟨vc,fun fo hfo=>?_⟩;have s2:=zk hfo (.lst []);have g2:upd H1 fo (.lst []) fo=some (.lst []):=zc;dsimp only[yc];generalize upd H1 fo (.lst [])=H2 at s2 g2 |-;have s12:=s1.trans s2;have nD:=s2 _ _ hD1;have nfo:H fo=none:=s1.free hfo;have neD:D≠fo:=zu hD1 hfo;have lz:((zs.map V.str).length:Int)=(zs.length:Int):=by rw[length_map]
 refine⟨_,rfl,a,rfl,⟨_,s12.seq hS⟩,yO (K:=K) (a:=a) (xs:=cs.map V.int) (fun i σ H'=>∃(bars:List Str) (v5 v6:Option V),σ=[some (.ref a),some (.ref pa),some (.ref la),some (.ref D),some (.ref fo),v5,v6]/\zx H H'/\H' D=some (.lst ((nms rows).map V.str))/\H' fo=some (.lst (bars.map V.str))/\(∀z∈bars,zV z=true)/\bars.length<=i)
  ⟨[],_,_,rfl,s12,nD,g2,(fun _ h=>nomatch h),le_refl _⟩ (fun i σ H' _ ⟨_,_,_,_,sH,_⟩=>sH.seq hS) ?_ ?_⟩
 ·rintro i x σ H3 hx ⟨bars,v5,v6,rfl,s3,eD,eF,nm,ln⟩
  obtain⟨n,hn,rfl⟩:∃n,cs[i]?=some n/\x=.int n:=by
   rw[getElem?_map] at hx;cases e:cs[i]? with
   | none=>rw[e] at hx;cases hx
   | some n=>rw[e] at hx;cases hx;exact⟨n,rfl,rfl⟩
  have hi:i<cs.length:=(List.getElem?_eq_some_iff.mp hn).1;have d0 : 0<=n % (zs.length:Int):=emod_nonneg _ (by omega)
  have d1:n % (zs.length:Int)<(zs.length:Int):=emod_lt_of_pos _ (by omega)
  obtain⟨j,hj⟩:=Int.eq_ofNat_of_zero_le d0;have hjl:j<zs.length:=by omega
  have hpa3:=s3 _ _ hpa;refine⟨_,rfl,_,rfl,_,rfl,pa,_,rfl,.inl (zq hpa3),_,_,rfl,rfl,(by rw[lz];omega),pa,_,_,.str zs[j],rfl,rfl,zq hpa3,(by rw[lz,hj];exact ue (by rw[getElem?_map,getElem?_eq_getElem hjl];rfl)),?_⟩
  have hz:=hzn _ (getElem_mem hjl);generalize zs[j]=z at hz |-;refine⟨_,rfl,_,rfl,D,_,rfl,.inl (zq eD),rfl,w4,_,rfl,?_⟩;by_cases hk:z∈nms rows
  ·refine vt (by rw[if_pos rfl,uG,decide_eq_true hk];rfl) ?_
   refine yb ?_;exact⟨bars,_,_,rfl,s3,eD,eF,nm,Nat.le_succ_of_le ln⟩
  refine wY (by rw[if_pos rfl,uG,decide_eq_false hk];rfl) ?_
  refine⟨_,rfl,_,rfl,fo,_,rfl,.inl (zq eF),rfl,w4,_,rfl,?_⟩;by_cases hb:z∈bars
  ·refine vt (by rw[if_pos rfl,uG,decide_eq_true hb];rfl) ?_
   exact⟨bars,_,_,rfl,s3,eD,eF,nm,Nat.le_succ_of_le ln⟩
  refine wY (by rw[if_pos rfl,uG,decide_eq_false hb];rfl) ?_
  refine⟨_,rfl,.inl ⟨rfl,_,zq eF⟩,_,rfl,fo,_,_,rfl,rfl,eF,yu (by rw[length_map];omega),?_⟩
  refine⟨bars++[z],_,_,rfl,fun b u e=>by rw[zv (zu e nfo)];exact s3 _ _ e,by rw[zv neD];exact eD,by rw[zc,map_append];rfl,fun y hy=>?_,by rw[length_append];exact Nat.succ_le_succ ln⟩
  rcases List.mem_append.mp hy with hy|hy
  ·exact nm y hy
  ·rw[List.mem_singleton.mp hy];exact hz
 ·rintro σ H3 ⟨bars,v5,v6,rfl,s3,eD,eF,nm,ln⟩
  rw[length_map] at ln;exact⟨_,rfl,q fo bars H3 s3 eF nm ln⟩
theorem zgH{rows:List Rw}{bars:List Str}(hok:∀r∈rows,r.ok)(l24:rows.length<=24)(hbn:∀z∈bars,zV z=true)(hb:bars.length<=6):(zdW rows bars).length<=378:=by
 have a:=xE (xs:=rows.map wU) (B:=11) (fun x hx=>by obtain⟨r,hr,rfl⟩:=List.mem_map.mp hx;exact(zdH (hok r hr)).2)
 have b:=xE (xs:=bars.map jj) (B:=9) (fun x hx=>by obtain⟨z,hz,rfl⟩:=List.mem_map.mp hx;exact(zd6 (hbn z hz)).2)
 have c:=PySem.StrLaws.join_length_le ", " (rows.map wU++bars.map jj);unfold zdW;rw[show Txt.join ", " (rows.map wU++bars.map jj)=Str.join ", " (rows.map wU++bars.map jj) from PySem.StrLaws.glued_eq_join ", " _];rw[show(", " : Str).length=2 from rfl] at c;simp only[map_append,sum_append,length_append] at c;rw[length_map] at a b;rw[length_map,length_map] at c;exact le_trans c (by omega)
theorem zki{z:Str}{n:Nat}(h:z.length<=n):(pcs z).length<=n / 2+1:=by
 unfold pcs zbe;split
 ·exact zero_le _
 ·have:=(xO z ", ").many
  rw[show(", " : Str).length=2 from rfl] at this;omega
theorem zbr{z:Str}{n:Nat}(h:z.length<=n):(Txt.split z ", ").length<=n / 2+1:=by
 have:=(xO z ", ").many
 rw[show(", " : Str).length=2 from rfl] at this;omega
theorem zcl{c:List yU}(h:∀it∈c,zb3 it)(hl:c.length<=10):(qI c).length<=23100/\(Txt.split (qI c) ", ").length<=900:=by
 have a:=uE (sep:=", ") (xs:=c.map xD) (B:=2300) (fun x hx=>by obtain⟨r,hr,rfl⟩:=List.mem_map.mp hx;exact(zb1 (h r hr)).2)
 rw[length_map,show(", " : Str).length=2 from rfl] at a;refine⟨by unfold qI;omega,?_⟩
 cases c with
 | nil=>exact le_trans (zbr (z:=qI []) (n:=0) (le_refl _)) (by decide)
 | cons i r=>
  rw[(zcu (s:=qI (i::r)) (sub:=", ") (c0:=44) (rest:=[32]) (ys:=(i::r).map xD) rfl (by simp) rfl (fun x hx=>by obtain⟨t,ht,rfl⟩:=List.mem_map.mp hx;exact zif (h t ht)) (cons_ne_nil _ _)).2,length_map]
  omega
theorem v8{K:Frag}{H:Hp}{t:Addr}{n:Nat}(h:H t=some (.tup [.str "refused",.bl true])):zS K T' H (n+1) (.ref t) (vJ none):=.tup (zI h) (.cons .str (.cons .bl .nil))
def zaM(K:Frag):Sp:=fun vs H Q _=>∃(a:Addr) (ns:List Int),vs=[.ref a]/\SqL K H a (ns.map V.int)/\ns.length<=63/\(∀m∈ns,Builtin.Int.intBits m<=1048576)/\∀H',Q (.bl true) H'
theorem wB:zD ["_law_script","_law_pool_here","_law_specs_here","_law_shut","_law_spoil","_law_text","_law_due","_law_found","_law_line","_law_thing_here"] ["_law_script"] (zr zjS):=fsc
theorem zko{f1 f2 f3 f4 f5 f6 f7 f8 f9 f10 f11 f12 f13:Addr}{e1 e2 e3 e4 e5 e6 e7 e8 e9 e10 e11 e12 e13:FuncData}(F:Fun K "law" "law" zjS f fd)(hrange:mg "range"=none)(U:ziI K mg)
  (cN:z8 P w K mg base 1 "_law_nth" f1 e1 ["_law_script","_law_k"] (zfh K)) (cPo:z8 P w K mg base 2 "_law_pool" f2 e2 ["_law_cell"] (zff K)) (cSp:z8 P w K mg base 1 "_law_specs" f3 e3 ["_law_cells","_law_pool_here"] (zbs K)) (cB':z8 P w K mg base 1 "_law_bars" f4 e4 ["_law_cells","_law_pool_here","_law_specs_here"] (zbt K))
  (cI:z8 P w K mg base 2 "_law_items" f5 e5 ["_law_cells","_law_pool_here"] (zdq K)) (cFT:z8 P w K mg base 1 "_law_form_text" f6 e6 ["_law_specs_here","_law_shut"] zi4) (cCT:z8 P w K mg base 2 "_law_call_text" f7 e7 ["_law_items_here"] (ziR K))
  (cX:z8 P w K mg base 2 "_law_spoiled" f8 e8 ["_law_text","_law_cell","_law_other_here"] ziU) (cLF:z8 P w K mg base 1 "_law_long_form" f9 e9 ["_law_cell"] zi1) (cLo:z8 P w K mg base 1 "_law_long" f10 e10 ["_law_cell","_law_name"] zi0)
  (cJF:z8 P w K mg base 3 "_law_judged_form" f11 e11 ["_law_text"] (zi2 K)) (cJC:z8 P w K mg base 4 "_law_judged_call" f12 e12 ["_law_text"] (zi3 K)) (cR:z8 P w K mg base 8 "_law_read" f13 e13 ["_law_which","_law_text"] (ziW K)):zL P w K mg base CX0 9 f fd ["_law_script"] (zaM K):=by
 refine F.ok wB (fun cdv A outer s H vs Q E hr h=>?_);obtain⟨sa,ns,rfl,hS,h63,hbit,q⟩:=h;have hr1:yh 1 _:=hr.mono (by decide)
 have hr2:yh 2 _:=hr.mono (by decide)
 have hr3:yh 3 _:=hr.mono (by decide)
 have hr4:yh 4 _:=hr.mono (by decide)
 have hU:=hr.units;have two : 2<=sizeLine:=by decide
 refine zQ (zC (i:=1) wB.nd rfl (Or.inl rfl) (cF cPo hr2 (ac (cF cN hr1 (ac (pv 0) (ac zj zi))) zi))) ?_;refine⟨_,rfl,sa,ns,0,rfl,hS,_,rfl,fun pa zs H2 s2 np hpa zn zb z0 z30=>?_⟩;dsimp only[yc];refine zQ (zC (i:=2) wB.nd rfl (Or.inl rfl) (cF cSp hr1 (ac (zR vQ (pv 0) (zT zj) (zT zj)) (ac (pv 1) zi)))) ?_;refine⟨_,rfl,_,rfl,_,rfl,sa,_,rfl,s2.seq hS,fun ca hca=>?_⟩;obtain⟨ec,lc⟩:=zji ns 3 23;rw[show ji (ns.map V.int) (some 3) (some 23)=(qG ns 3 23).map V.int from ec];have s3:=zk hca (.lst ((qG ns 3 23).map V.int));refine⟨_,rfl,ca,pa,_,zs,rfl,zq zc,by omega,s3 _ _ hpa,z0,zb,fun la us rows H4 s4 hla hu vok l24=>?_⟩
 have s04:=s2.trans (s3.trans s4);have hpa:=(s3.trans s4) _ _ hpa;clear s3 hca;dsimp only[yc];refine zQ (zC (i:=3) wB.nd rfl (Or.inl rfl) (cF cB' hr1 (ac (xY ["_law_script"] ["_law_k","_law_script"] [none,some 0] rfl ⟨rfl,rfl,rfl,rfl⟩ (xJ rfl hrange (ac (zt zZ (cF cN hr1 (ac (pv 0) (ac zj zi))) zj) zi)) (z5 0) rfl rfl rfl
  (fun pins fp s H C=>⟨zF (i:=0) zmV rfl (Or.inl rfl) (.inr rfl),yA,zt yf (cF cN hr1 (ac (pv 1) (ac (pv 0) zi))) zj⟩)) (ac (pv 1) (ac (pv 2) zi))))) ?_
 have m5:=emod_lt_of_pos (ns.getD 1 0) (show(0:Int)<7 by decide)
 have m70:=emod_nonneg (ns.getD 1 0) (show(7:Int)≠0 by decide)
 refine⟨_,rfl,sa,ns,1,rfl,s04.seq hS,_,_,rfl,rfl,(by show(0:Int)<7;decide),ns.getD 1 0 % 7,rfl,by omega,by omega,fun D hD=>?_⟩
 obtain⟨nn,hnn⟩:∃nn:Nat,(ns.getD 1 0 % 7).toNat=nn:=⟨_,rfl⟩;rw[hnn];have hn5:nn<=6:=by omega
 refine vG (n:=nn) (fun j ys H'=>zx H4 H'/\H' D=some (.lst ys)/\∃cs:List Int,ys=cs.map V.int/\cs.length=j) ⟨zk hD _,zc,[],rfl,rfl⟩ ?_ ?_
 ·rintro j ys H' hj ⟨sH,hDy,cs,ey,el⟩
  rw[Int.zero_add];refine⟨fun _=>⟨_,rfl,_,rfl,sa,ns,j,rfl,(s04.trans sH).seq hS,_,_,rfl,rfl,⟨by decide,by decide⟩,lcN.mk hj (yP (by omega)) hDy (by rw[ey,length_map];omega) ⟨zU sH hD _,zc,cs++[_],by rw[ey,map_append];rfl,by rw[length_append,el];rfl⟩⟩,fun z=>absurd z (by decide)⟩
 rintro ys H5 ⟨s5,hD5,cs,ey,el⟩;rw[ey] at hD5;refine⟨_,rfl,_,rfl,D,pa,la,cs,zs,us,rows,rfl,zq hD5,by omega,s5 _ _ hpa,z0,zb,s5 _ _ hla,y6 s5 hu,vok,l24,fun lb bars H6 s6 hlb hbn lbar=>?_⟩
 have s46:=s5.trans s6;have s06:=s04.trans s46;have hpa:=s46 _ _ hpa;have hla:=s46 _ _ hla;have hu:=y6 s46 hu;have fl:=zgH vok l24 hbn (by omega)
 have zl:=zh6 zb;clear s5 hD5 ey hD s46 s04 s4;dsimp only[yc];refine zQ (zC (i:=4) wB.nd rfl (Or.inl rfl) (cF cN hr1 (ac (pv 0) (ac zj zi)))) ?_;refine⟨_,rfl,sa,ns,2,rfl,s06.seq hS,?_⟩;dsimp only[yc];generalize ns.getD 2 0=sp;refine zQ (zC (i:=5) wB.nd rfl (Or.inl rfl) (cF cX hr2 (ac (cF cFT hr1 (ac (pv 2) (ac (pv 3) zi))) (ac (pv 4) (ac (zt yf (cF cN hr1 (ac (pv 0) (ac zj zi))) zj) zi))))) ?_;refine⟨_,rfl,_,rfl,la,lb,us,rows,bars,rfl,hla,hu,vok,by omega,hlb,hbn,by omega,fun H7 s7=>?_⟩
 refine⟨_,rfl,_,rfl,sa,ns,1,rfl,(s06.trans s7).seq hS,_,_,rfl,rfl,⟨by decide,by decide⟩,zdW rows bars,sp,_,rfl,by omega,le_trans (zbr fl) (by decide),fun y0 H8 s8 ly0=>?_⟩
 have s68:=s7.trans s8;clear s7 s8;dsimp only[yc];refine zQ (zJ (zw yi (zt zZ (pv 4) zj) zj (zE _)) (zm (zC (i:=5) wB.nd rfl (Or.inl rfl) (cF cLF hr1 (ac (pv 4) zi)))) zz) ?_;refine yQ (fun σ' H'=>∃y:Str,σ'=[some (.ref sa),some (.ref pa),some (.ref la),some (.ref lb),some (.int sp),some (.str y),none,none,none,none]/\zx H6 H'/\y.length<=780) ?_ (fun key=>?_);rotate_left
 ·refine⟨_,rfl,_,_,rfl,rfl,zp9,rfl,_,rfl,?_⟩
  by_cases h5:V.int (sp % 9)=V.int 5
  rotate_left
  ·refine dF h5 ?_
   exact key _ _ ⟨y0,rfl,s68,by omega⟩
  refine dT h5 ?_;exact⟨_,rfl,sp,rfl,fun y H9 s9 ly=>key _ _ ⟨y,rfl,s68.trans s9,by omega⟩⟩
 clear s68 ly0 y0 H8 H7;rintro σ H8 ⟨y,rfl,s68,ly⟩;have lp:(pcs y).length<=400:=le_trans (zki ly) (by decide)
 refine zQ (zC (i:=6) wB.nd rfl (Or.inl rfl) (cF cJF hr3 (ac (pv 5) zi))) ?_;refine yQ (fun σ' H'=>∃v:V,σ'=[some (.ref sa),some (.ref pa),some (.ref la),some (.ref lb),some (.int sp),some (.str y),some v,none,none,none]/\zx H8 H'/\((rdF y=none/\v=.non)\/(∃p t,rdF y=some p/\v=.ref t/\zS K T' H' 3 (.ref t) (uS p)))) ?_ (fun key=>?_);rotate_left
 ·refine⟨_,rfl,y,rfl,by omega,lp,fun p e t l1 l2 us' H9 s9 ht h1 hu' h2=>?_,fun e H9 s9=>?_⟩
  ·exact key _ _ ⟨_,rfl,s9,.inr ⟨p,t,e,rfl,zam ht h1 hu' h2⟩⟩
  ·exact key _ _ ⟨_,rfl,s9,.inl ⟨e,rfl⟩⟩
 rintro σ H9 ⟨v,rfl,s9,hv⟩;refine zQ (zC (i:=7) wB.nd rfl (Or.inl rfl) (cF cR hr (ac zj (ac (pv 5) zi)))) ?_;refine⟨_,rfl,0,.str y,_,4,rfl,.inl ⟨rfl,rfl,rfl⟩,.inl ⟨y,rfl,by omega,fun _=>lp⟩,fun t H10 s10 ht=>?_⟩
 dsimp only[yc];refine zQ (zJ (yv (xw (yv (yW (wI (vC (pv 6))) (yD (zw (jc hU) (pv 7) (zM (ac zo (ac wE zi))) (zE _))))) (yV (yv (yW (wI (zdE (pv 6))) (yD (zw (jc hU) (pv 7) (zM (ac zo (ac (pv 6) zi))) (zE _)))))))) (zm (zB wE)) zz) ?_;refine yQ (fun σ' H'=>∃v v':V,σ'=[some (.ref sa),some (.ref pa),some (.ref la),some (.ref lb),some (.int sp),some (.str y),some v,some v',none,none]/\zx H10 H') ?_ (fun key=>?_);rotate_left
 ·rcases hv with ⟨e,rfl⟩|⟨p,t',e,rfl,hp⟩
  ·refine⟨_,rfl,_,rfl,?_⟩
   refine yp ?_;refine⟨_,rfl,two,fun tp htp=>?_⟩;have sn:=zk htp (.tup [.str "refused",.bl true]);have eo:zfP (.str y)=none:=by show(rdF y).map uS=none;rw[e];rfl
   rw[eo] at ht;refine⟨t,tp,3,vJ none,T',T',rfl,rfl,by decide,ht.same sn,v8 zc,_,rfl,?_⟩
   refine yb ?_;refine⟨_,rfl,_,rfl,?_⟩;refine yb ?_;refine yb ?_;exact key _ _ ⟨_,_,rfl,sn⟩
  ·refine⟨_,rfl,_,rfl,?_⟩
   refine yb ?_;refine yb ?_;refine⟨_,rfl,_,rfl,?_⟩;refine yp ?_;refine⟨_,rfl,_,rfl,two,fun tp htp=>?_⟩;have sn:=zk htp (.tup [.str "told",.ref t']);have eo:zfP (.str y)=some (uS p):=by show(rdF y).map uS=_;rw[e];rfl
   rw[eo] at ht;refine⟨t,tp,3,vJ (some (uS p)),T',T',rfl,rfl,by decide,ht.same sn,.tup (zI zc) (.cons .str (.cons ((hp.same s10).same sn) .nil)),_,rfl,?_⟩
   refine yb ?_;exact key _ _ ⟨_,_,rfl,sn⟩
 clear hv ht;rintro σ H11 ⟨v1,v2,rfl,s11⟩;have s611:=s68.trans (s9.trans (s10.trans s11));clear s68 s9 s10 s11 H8 H9 H10;have s011:=s06.trans s611;have hpa:=s611 _ _ hpa;refine zQ (zC (i:=8) wB.nd rfl (Or.inl rfl) (cF cX hr2 (ac (cF cCT hr2 (ac (cF cI hr2 (ac (zR vQ (pv 0) (zT zj) (zT zj)) (ac (pv 1) zi))) zi)) (ac (zt yf (pv 4) zj) (ac (zt yf (cF cN hr1 (ac (pv 0) (ac zj zi))) zj) zi))))) ?_;refine⟨_,rfl,_,rfl,_,rfl,sa,_,rfl,s011.seq hS,fun ca hca=>?_⟩;obtain⟨ec,lc⟩:=zji ns 23 33;rw[show ji (ns.map V.int) (some 23) (some 33)=(qG ns 23 33).map V.int from ec];have s7:=zk hca (.lst ((qG ns 23 33).map V.int));refine⟨_,rfl,ca,pa,qG ns 23 33,zs,rfl,zq zc,by omega,s7 _ _ hpa,z0,zl,fun li xs H12 s12 nr hli hx=>?_⟩
 have iok:∀it∈(qG ns 23 33).map (xA zs),zb3 it:=fun it hit=>by obtain⟨c,_,rfl⟩:=List.mem_map.mp hit;exact(zig z0 zb c).1
 have il:((qG ns 23 33).map (xA zs)).length<=10:=by rw[length_map];omega
 generalize (qG ns 23 33).map (xA zs)=cc at *;obtain⟨cl1,cl2⟩:=zcl iok il;refine⟨li,cc,rfl,⟨xs,zq hli,hx⟩,iok,by omega,fun H13 s13=>?_⟩
 have s113:=s7.trans (s12.trans s13);refine⟨_,rfl,_,_,rfl,rfl,⟨by decide,by decide⟩,_,rfl,sa,ns,0,rfl,(s011.trans s113).seq hS,_,_,rfl,rfl,⟨by decide,by decide⟩,qI cc,_,_,rfl,by omega,cl2,fun y0 H14 s14 ly0=>?_⟩
 have s114:=s113.trans s14;clear s7 s12 s13 s113 s14 nr hli hx hca;dsimp only[yc];refine zQ (zJ (zw yi (zt zZ (pv 4) zj) zj (zE _)) (zm (zC (i:=8) wB.nd rfl (Or.inl rfl) (cF cLo hr1 (ac (pv 4) (ac (zK yn (pv 1) zj (fun _ _=>rfl)) zi))))) zz) ?_;refine yQ (fun σ' H'=>∃y1:Str,σ'=[some (.ref sa),some (.ref pa),some (.ref la),some (.ref lb),some (.int sp),some (.str y),some v1,some v2,some (.str y1),none]/\zx H11 H'/\y1.length<=100000) ?_ (fun key=>?_);rotate_left
 ·refine⟨_,rfl,_,_,rfl,rfl,zp9,rfl,_,rfl,?_⟩
  by_cases h5:V.int (sp % 9)=V.int 4
  rotate_left
  ·refine dF h5 ?_
   exact key _ _ ⟨y0,rfl,s114,by omega⟩
  refine dT h5 ?_;refine⟨_,rfl,_,rfl,pa,_,0,.str (zs[0]'z0),rfl,rfl,zq (s114 _ _ hpa),ue (j:=0) (by rw[getElem?_map,getElem?_eq_getElem z0];rfl),sp,zs[0]'z0,rfl,?_,fun y1 H15 s15 ly=>key _ _ ⟨y1,rfl,s114.trans s15,by omega⟩⟩
  have:=yS.mp (zb _ (getElem_mem z0))
  omega
 rintro σ H15 ⟨y1,rfl,s15,ly1⟩;refine zQ (zC (i:=6) wB.nd rfl (Or.inl rfl) (cF cJC hr4 (ac (pv 8) zi))) ?_;refine yQ (fun σ' H'=>∃v:V,σ'=[some (.ref sa),some (.ref pa),some (.ref la),some (.ref lb),some (.int sp),some (.str y),some v,some v2,some (.str y1),none]/\((rdC y1=none/\v=.non)\/(∃c t,rdC y1=some c/\v=.ref t/\zS K T' H' 4 (.ref t) (.lst (c.map yI))))) ?_ (fun key=>?_);rotate_left
 ·refine⟨_,rfl,y1,rfl,ly1,fun c e a xs H' s' na ha hx=>?_,fun e H' s'=>?_⟩
  ·exact key _ _ ⟨_,rfl,.inr ⟨c,a,e,rfl,.lst trivial ha hx⟩⟩
  ·exact key _ _ ⟨_,rfl,.inl ⟨e,rfl⟩⟩
 rintro σ H16 ⟨v,rfl,hv⟩;refine zQ (zC (i:=7) wB.nd rfl (Or.inl rfl) (cF cR hr (ac zj (ac (pv 8) zi)))) ?_;refine⟨_,rfl,1,.str y1,_,5,rfl,.inr ⟨rfl,rfl,rfl⟩,.inl ⟨y1,rfl,by omega,fun z=>absurd z (by decide)⟩,fun t H17 s17 ht=>?_⟩
 dsimp only[yc];refine zQ (zJ (yv (xw (yv (yW (wI (vC (pv 6))) (yD (zw (jc hU) (pv 7) (zM (ac zo (ac wE zi))) (zE _))))) (yV (yv (yW (wI (zdE (pv 6))) (yD (zw (jc hU) (pv 7) (zM (ac zo (ac (pv 6) zi))) (zE _)))))))) (zm (zB wE)) zz) ?_;refine yQ (fun σ' H'=>∃v v':V,σ'=[some (.ref sa),some (.ref pa),some (.ref la),some (.ref lb),some (.int sp),some (.str y),some v,some v',some (.str y1),none]) ?_ (fun key=>?_);rotate_left
 ·rcases hv with ⟨e,rfl⟩|⟨p,t',e,rfl,hp⟩
  ·refine⟨_,rfl,_,rfl,?_⟩
   refine yp ?_;refine⟨_,rfl,two,fun tp htp=>?_⟩;have sn:=zk htp (.tup [.str "refused",.bl true]);have eo:zfQ (.str y1)=none:=by show(rdC y1).map _=none;rw[e];rfl
   rw[eo] at ht;refine⟨t,tp,4,vJ none,T',T',rfl,rfl,by decide,ht.same sn,v8 zc,_,rfl,?_⟩
   refine yb ?_;refine⟨_,rfl,_,rfl,?_⟩;refine yb ?_;refine yb ?_;exact key _ _ ⟨_,_,rfl⟩
  ·refine⟨_,rfl,_,rfl,?_⟩
   refine yb ?_;refine yb ?_;refine⟨_,rfl,_,rfl,?_⟩;refine yp ?_;refine⟨_,rfl,_,rfl,two,fun tp htp=>?_⟩;have sn:=zk htp (.tup [.str "told",.ref t']);have eo:zfQ (.str y1)=some (.lst (p.map yI)):=by show(rdC y1).map _=_;rw[e];rfl
   rw[eo] at ht;refine⟨t,tp,4,vJ (some (.lst (p.map yI))),T',T',rfl,rfl,by decide,ht.same sn,.tup (zI zc) (.cons .str (.cons ((hp.same s17).same sn) .nil)),_,rfl,?_⟩
   refine yb ?_;exact key _ _ ⟨_,_,rfl⟩
 clear hv ht;rintro σ H18 ⟨v3,v4,rfl⟩;refine⟨_,zp (y8 PassesOwn.never rfl (ye (zP (ac y9 (ac zj (ac wE (ac (zP (ac zo zi)) (ac (zM (ac zo zi)) zi))))))) (zF (i:=9) wB.nd rfl (Or.inl rfl))
  (zm (zJ (yv (xw (zw (jc hU) (cF cR hr (ac zj (ac (pv 9) zi))) (zM (ac zo (ac wE zi))) (zE _)) (yV (zw (jc hU) (cF cR hr (ac zj (ac (pv 9) zi))) (zM (ac zo (ac wE zi))) (zE _))))) (zm (zB wE)) zz)))
  (zm (zB wE)),?_⟩
 refine⟨zhg,fun l1 hl1=>?_⟩;have s1:=zk hl1 (.lst [.str "a"]);have g1:upd H18 l1 (.lst [.str "a"]) l1=some (.lst [.str "a"]):=zc;generalize upd H18 l1 (.lst [.str "a"])=H19 at s1 g1 |-;refine⟨zhg,fun l2 hl2=>?_⟩;have s2':=zk hl2 (.tup [.str "a"]);have g2:upd H19 l2 (.tup [.str "a"]) l2=some (.tup [.str "a"]):=zc;have g1:=s2' _ _ g1;generalize upd H19 l2 (.tup [.str "a"])=H20 at s2' g1 g2 |-;refine⟨zmw,fun l3 hl3=>?_⟩;have s3':=zk hl3 (.lst [.non,.int 7,.bl true,.ref l1,.ref l2]);have g3:upd H20 l3 (.lst [.non,.int 7,.bl true,.ref l1,.ref l2]) l3=some (.lst [.non,.int 7,.bl true,.ref l1,.ref l2]):=zc;have g1:=s3' _ _ g1;have g2:=s3' _ _ g2;generalize upd H20 l3 (.lst [.non,.int 7,.bl true,.ref l1,.ref l2])=H21 at g1 g2 g3 |-;have nt:∀x∈([.non,.int 7,.bl true,.ref l1,.ref l2]:List V),(∀z,x≠.str z)/\jt K H21 x:=by
  intro x hx;simp only[mem_cons,not_mem_nil,or_false] at hx;rcases hx with rfl|rfl|rfl|rfl|rfl
  ·exact⟨(fun z e=>by cases e),_,wA.non,U.kNon⟩
  ·exact⟨(fun z e=>by cases e),_,wA.int 7,U.kInt⟩
  ·exact⟨(fun z e=>by cases e),_,wA.bl true,U.kBl⟩
  ·exact⟨(fun z e=>by cases e),_,wA.lst g1,U.kLst⟩
  ·exact⟨(fun z e=>by cases e),_,wA.tup g2,U.kTup⟩
 refine⟨l3,rfl,⟨_,zq g3⟩,yO (K:=K) (a:=l3) (xs:=[.non,.int 7,.bl true,.ref l1,.ref l2]) (fun i σ H2=>∃v9,σ=[some (.ref sa),some (.ref pa),some (.ref la),some (.ref lb),some (.int sp),some (.str y),some v3,some v4,some (.str y1),v9]/\zx H21 H2)
  ⟨_,rfl,fun _ _ z=>z⟩ (fun i σ H2 _ ⟨_,_,s⟩=>zq (s _ _ g3)) ?_ ?_⟩
 ·rintro i x σ H2 hx ⟨v9,rfl,s2⟩
  obtain⟨nx,ntx⟩:=nt x (mem_of_getElem? hx);have en:zfP x=none/\zfQ x=none:=by cases x <;> first|exact⟨rfl,rfl⟩|exact absurd rfl (nx _)
  refine⟨_,rfl,0,x,_,4,rfl,.inl ⟨rfl,rfl,rfl⟩,.inr ⟨nx,ntx.same s2⟩,fun t H3 s3 ht=>?_⟩;rw[en.1] at ht;refine⟨two,fun tp htp=>?_⟩;have sn:=zk htp (.tup [.str "refused",.bl true]);refine⟨t,tp,3,vJ none,T',T',rfl,rfl,by decide,ht.same sn,v8 zc,_,rfl,?_⟩
  refine yb ?_;refine⟨_,rfl,1,x,_,5,rfl,.inr ⟨rfl,rfl,rfl⟩,.inr ⟨nx,ntx.same (s2.trans (s3.trans sn))⟩,fun t H4 s4 ht=>?_⟩;rw[en.2] at ht;refine⟨two,fun tp2 htp2=>?_⟩;have sn2:=zk htp2 (.tup [.str "refused",.bl true]);refine⟨t,tp2,4,vJ none,T',T',rfl,rfl,by decide,ht.same sn2,v8 zc,_,rfl,?_⟩
  refine yb ?_;exact⟨_,rfl,s2.trans (s3.trans (sn.trans (s4.trans sn2)))⟩
 rintro σ H22 ⟨v9,rfl,s22⟩;exact q H22
end
end K92
namespace PySem.W.Fast
def tw6561656602214664726:=()
def tw6956794180319089045:=()
def tw3442735731977623032:=()
def tw13816425862126502583:=()
def tw7011542435869846618:=()
def tw4775641043083081887:=()
def tw14330275849436118011:=()
def tw3561891174569691297:=()
def tw1981551187687447479:=()
def tw3926550288048599628:=()
def tw3597325435503340531:=()
def tw4547930949612710862:=()
def tw7655486427742287082:=()
def tw16148995883696829265:=()
def tw15751830088371139162:=()
def tw14133096455964500239:=()
def tw14198977188726971990:=()
def tw703679649983921746:=()
def tw16342601985281305562:=()
def tw18051444099447492133:=()
def tw16383323529076185638:=()
def tw12333233326100917560:=()
def tw13386701372784761585:=()
def tw135952151556834365:=()
def tw10182076323400876372:=()
def tw3994274886398504949:=()
def tw17856823439478230228:=()
def tw1349693010707379833:=()
def tw4985583371347937052:=()
def tw9331186342986571666:=()
def tw9578671597016182451:=()
def tw3102577841061016881:=()
def tw9535837569360696035:=()
def tw13824469269784209613:=()
def tw11579101853408877227:=()
def tw5471431294925814821:=()
def tw2163825959703624977:=()
def tw5187279367597540297:=()
def tw17120242604730387322:=()
def tw12865785448069044816:=()
def tw15885376964254463015:=()
def tw17929934151746300728:=()
def tw5418491680207859309:=()
def tw13145083418805041803:=()
def tw4762813781184804257:=()
def tw12107083157391248119:=()
def tw10151592733792891739:=()
def tw13369812585029979916:=()
def tw7329837799844120631:=()
def tw13158589890304620903:=()
def tw8760061914675173444:=()
def tw12342037980765054324:=()
def tw3978625183649418476:=()
def tw12407313110469030649:=()
def tw3349735280637815022:=()
def tw12737922558368034400:=()
def tw7981006911740071600:=()
def tw16919412856337355580:=()
def tw5417972293914194947:=()
def tw4478124179982299292:=()
def tw17378746845310857915:=()
def tw9455516192235206978:=()
def tw265217830461708308:=()
def tw6309299308213594514:=()
def tw12039477387057937866:=()
def tw10443155974914102746:=()
def tw8240638706961715840:=()
def tw16558385606192177937:=()
def tw8900934081266128130:=()
def tw10945883142501177685:=()
def tw13532816477582124106:=()
def tw7692875603124811139:=()
def tw16882036377846230864:=()
def tw13407342252724449418:=()
def tw6955559644597994864:=()
def tw10824666950400643368:=()
def tw4853638284175875110:=()
def tw12364657103228716792:=()
def tw6272144705589235350:=()
def tw11584051590496966496:=()
def tw3978375958551365691:=()
def tw11957315554668782736:=()
def tw14826694906672834628:=()
def tw17319978227501387478:=()
def tw13233094010142744913:=()
def tw9410733409514306097:=()
def tw5192833705113372005:=()
def tw8700102670682989445:=()
def tw339392678240422120:=()
def tw1712952308135488663:=()
def tw14614726734813629308:=()
def tw3529439866806593251:=()
def tw3002274118948710193:=()
def tw4229629871215848375:=()
def tw9065089708390919528:=()
def tw2395076584046548092:=()
def tw8084964205846167742:=()
def tw16103297254267514858:=()
def tw2455105430244022761:=()
def tw4291094142116874525:=()
def tw12763712707484487500:=()
def tw13083495286890665417:=()
def tw9348968715464064705:=()
def tw11866218676369476376:=()
def tw1006257302698049927:=()
def tw17802862632020050481:=()
def tw8957964606275318210:=()
def tw9425180272414320964:=()
def tw16363967538032952416:=()
def tw8267066369791495698:=()
def tw7189564088886131576:=()
def tw4457533542543110408:=()
def tw2328577827251556879:=()
def tw6980807896855018998:=()
def tw18012243466966589951:=()
def tw2579683535783891248:=()
def tw7332889541539610503:=()
def tw12304399815325166969:=()
def tw9294288198529306873:=()
def tw9027647200711816789:=()
def tw1300173797067725930:=()
def tw14763655012715526515:=()
def tw13273923509210180888:=()
def tw7793051011586332935:=()
def tw155028829191627808:=()
def tw13023758256448760945:=()
def tw14158054671778843190:=()
def tw14822224113799762377:=()
def tw7926120567340675903:=()
def tw7257826651243839222:=()
def tw2499734756633089399:=()
def tw5239771127690493312:=()
def tw878044076758973236:=()
def tw15883082588569187303:=()
def tw6273617743376852215:=()
def tw10770638356510467632:=()
def tw2896096421363829547:=()
def tw9986580714263442874:=()
def tw8832812896248229750:=()
def tw9970714352454989365:=()
def tw7064208192378221318:=()
def tw8246726551779877978:=()
def tw4248681198267009128:=()
def tw7358703414848293766:=()
def tw12880813669600670855:=()
def tw9382771297309615370:=()
def tw13472180513912569863:=()
def tw2695498171658329275:=()
def tw14507502923013073182:=()
def tw7481292833041729430:=()
def tw11769463014145622312:=()
def tw6089854045437004016:=()
def tw15162778574743744229:=()
def tw6514765472448076413:=()
def tw5238454036834282286:=()
def tw5412572766352717153:=()
def tw195943115775899430:=()
def tw9148892048487780272:=()
def tw15399734906302609160:=()
def tw363272879431509916:=()
def tw16715604777346300138:=()
def tw285345557518776158:=()
def tw611305851810945631:=()
def tw6297819987425653111:=()
def tw18170367691659974558:=()
def tw1509612716223844113:=()
def tw12453541215856194125:=()
end PySem.W.Fast
namespace K92
open PySem L2 PyProof.Rows
theorem zia{w:World}{K:Frag}{Gr:Addr}{es:Array DictEntry}{n:Nat}{t0 t1 t2 t3 t4:Tok}(hl:K.lookup Gr=some ⟨.type "dict",none,.dict es n,#[]⟩)(hk:KeysLit w.params es.toList)(h0:nsIn K Gr "seat"=some (some (.int 0 t0)))(h1:nsIn K Gr "both"=some (some (.int 0 t1)))(h2:nsIn K Gr "tail"=some (some (.int 1 t2)))
  (h3:nsIn K Gr "tag"=some (some (.int 2 t3))) (h4:nsIn K Gr "bag"=some (some (.int 3 t4))):zkY w K Gr zij:=by
 refine⟨⟨es,n,hl,hk⟩,fun x v h=>?_⟩;unfold zij at h;by_cases e0:x="seat"
 ·subst e0;rw[lookup_cons_self] at h;cases h;exact⟨_,h0,_,rfl⟩
 rw[lookup_cons,beq_eq_false_iff_ne.mpr e0] at h;by_cases e1:x="both"
 ·subst e1;rw[lookup_cons_self] at h;cases h;exact⟨_,h1,_,rfl⟩
 rw[lookup_cons,beq_eq_false_iff_ne.mpr e1] at h;by_cases e2:x="tail"
 ·subst e2;rw[lookup_cons_self] at h;cases h;exact⟨_,h2,_,rfl⟩
 rw[lookup_cons,beq_eq_false_iff_ne.mpr e2] at h;by_cases e3:x="tag"
 ·subst e3;rw[lookup_cons_self] at h;cases h;exact⟨_,h3,_,rfl⟩
 rw[lookup_cons,beq_eq_false_iff_ne.mpr e3] at h;by_cases e4:x="bag"
 ·subst e4;rw[lookup_cons_self] at h;cases h;exact⟨_,h4,_,rfl⟩
 rw[lookup_cons,beq_eq_false_iff_ne.mpr e4] at h;cases h
theorem zcS{K:Frag}{h:Heap}{mg:Str->Option Value}{x:Str}{C:Addr}{bm:List Value}{nid:String}(X:K.In h)(G:h.Ns mainGlobals mg)(e:nsIn K mainGlobals x=some (some (.ref C)))(q:excIn K C bm nid=true):OwnCls x C bm nid mg h:=by
 have b:mg x=some (.ref C):=mg_of X G e;refine⟨b,?_⟩;simp only[excIn] at q;split at q
 case h_2=>cases q
 rename_i dd cd sl ho;obtain⟨nm,bs,mro,ns,qn,hd,sn,sub,ab,col,del⟩:=cd;obtain⟨l⟩:=sl;dsimp only at q;split at q
 case h_2=>cases q
 rename_i C' m k0 k1 k2 k3 n k5;simp only[Bool.and_eq_true,beq_iff_eq,Bool.not_eq_true'] at q;obtain⟨⟨⟨⟨⟨rfl,rfl⟩,rfl⟩,ht⟩,hok⟩,hni⟩:=q;exact⟨m,ns,nm,qn,bs,hd,sn,sub,ab,col,dd,k0,k1,k2,k3,k5,_,X _ _ ho,.of_isNs (PySem.W.isNs_of_in X hok),PySem.W.nsMap_none_of_in X hok hni,PySem.W.tail_of_in X ht⟩
theorem zm2{l:PySem.W.OpenLaw}{w:World}{K:Frag}{h:Heap}{mg:Str->Option Value}{fa XN XT XM XB XW CE O0 O1 O2 O3 O4 O5 O6 O7 O8 O9 O10 D C0 C1 C2 C3 C4 FM f1 f2 f3 f4 f5 f6 f7 f8 f9 f10 f11 f12 f13 f14 f15 f16 f17 f18 f19 f20 f21 f22 f23 f24 f25 f26 f27 f28 f29 f30 f31 f32 f33 f34 f35 f36 f37 f38 f39 f40 f41 f42 f43 f44 f45 f46 f47 f48 f49 f50 f51 f52 f53 f54 f55 f56 f57 f58 f59 f60:Addr}{e1 e2 e3 e4 e5 e6 e7 e8 e9 e10 e11 e12 e13 e14 e15 e16 e17 e18 e19 e20 e21 e22 e23 e24 e25 e26 e27 e28 e29 e30 e31 e32 e33 e34 e35 e36 e37 e38 e39 e40 e41 e42 e43 e44 e45 e46 e47 e48 e49 e50 e51 e52 e53 e54 e55 e56 e57 e58 e59 e60:FuncData}{tP tB tO sg Gr LA So:Addr}{tL tN tMP tMB ktP0 ktP1 ktB0 ktB1 ktO0 ktO1 ktO2 ksg0 ksg1 kG0 kG1 kG2 kG3 kG4 tSg tFg tMF tMI tMA tMK kLA0 kLA1 tS0 uS0 tS1 uS1 tS2 uS2 tS3 uS3 tS4 uS4:Tok}{odtP odtB odtO odsg odLA:Option Addr}{ntP ntB ntO nsg nG nLA nSo:Nat}{sltP sltB sltO slsg slLA:Array (Option Value)}{esG:Array DictEntry}{hS0 hS1 hS2 hS3 hS4:Int}(X:K.In h)(G:h.Ns mainGlobals mg)(hfa:mg "law"=some (.ref fa))
  (yXN:nsIn K mainGlobals "NoText"=some (some (.ref XN)))
  (yXT:nsIn K mainGlobals "TooMany"=some (some (.ref XT)))
  (yXM:nsIn K mainGlobals "NoName"=some (some (.ref XM)))
  (yXB:nsIn K mainGlobals "BadOrder"=some (some (.ref XB)))
  (yXW:nsIn K mainGlobals "Twice"=some (some (.ref XW)))
  (yCE:nsIn K mainGlobals "CallError"=some (some (.ref CE)))
  (yO0:nsIn K mainGlobals "Again"=some (some (.ref O0)))
  (yO1:nsIn K mainGlobals "Barred"=some (some (.ref O1)))
  (yO2:nsIn K mainGlobals "Doubled"=some (some (.ref O2)))
  (yO3:nsIn K mainGlobals "Lacking"=some (some (.ref O3)))
  (yO4:nsIn K mainGlobals "Misfit"=some (some (.ref O4)))
  (yO5:nsIn K mainGlobals "NoChange"=some (some (.ref O5)))
  (yO6:nsIn K mainGlobals "NoDefault"=some (some (.ref O6)))
  (yO7:nsIn K mainGlobals "NoRow"=some (some (.ref O7)))
  (yO8:nsIn K mainGlobals "Over"=some (some (.ref O8)))
  (yO9:nsIn K mainGlobals "Strange"=some (some (.ref O9)))
  (yO10:nsIn K mainGlobals "Unknown"=some (some (.ref O10)))
  (cD:CD K "Parameter" D)
  (cC0:CD K "Seat" C0)
  (nC0:findIn K (.ref C0) "word"=some none/\findIn K (.ref C0) "name"=some none/\findIn K (.ref C0) "may_lack"=some none)
  (cC1:CD K "Both" C1)
  (nC1:findIn K (.ref C1) "word"=some none/\findIn K (.ref C1) "name"=some none/\findIn K (.ref C1) "may_lack"=some none)
  (cC2:CD K "Tail" C2)
  (nC2:findIn K (.ref C2) "word"=some none/\findIn K (.ref C2) "name"=some none/\findIn K (.ref C2) "may_lack"=some none)
  (cC3:CD K "Tag" C3)
  (nC3:findIn K (.ref C3) "word"=some none/\findIn K (.ref C3) "name"=some none/\findIn K (.ref C3) "may_lack"=some none)
  (cC4:CD K "Bag" C4)
  (nC4:findIn K (.ref C4) "word"=some none/\findIn K (.ref C4) "name"=some none/\findIn K (.ref C4) "may_lack"=some none)
  (cFM:CD K "Form" FM)
  (nFM:findIn K (.ref FM) "row"=some none/\findIn K (.ref FM) "bar_names"=some none/\findIn K (.ref FM) "place_count"=some none/\findIn K (.ref FM) "tail_number"=some none/\findIn K (.ref FM) "bag_number"=some none/\findIn K (.ref FM) "doors"=some none)
  (g1:GD K "is_name" sIs f1 e1)
  (g2:MD K D "__init__" "Parameter.__init__" zcG f2 e2)
  (g3:MD K D "free" "Parameter.free" zlp f3 e3)
  (g4:MD K D "by_place" "Parameter.by_place" qb f4 e4)
  (g5:MD K D "by_name" "Parameter.by_name" zaT f5 e5)
  (g6:MD K D "takes_one" "Parameter.takes_one" zcC f6 e6)
  (g7:MD K D "told" "Parameter.told" zfz f7 e7)
  (g8:DD K C0 "__init__" "Seat.__init__" zfB f8 e8 [Value.bool false])
  (g9:DD K C1 "__init__" "Both.__init__" zfI f9 e9 [Value.bool false])
  (g10:MD K C2 "__init__" "Tail.__init__" zfA f10 e10)
  (g11:DD K C3 "__init__" "Tag.__init__" zjH f11 e11 [Value.bool false])
  (g12:MD K C4 "__init__" "Bag.__init__" zj7 f12 e12)
  (g13:DD K FM "__init__" "Form.__init__" zcL f13 e13 [Value.none])
  (g14:MD K FM "keep" "Form.keep" zfH f14 e14)
  (g15:MD K FM "told" "Form.told" zcJ f15 e15)
  (g16:GD K "parameter_of" zjO f16 e16)
  (g17:GD K "refuse_too_many" zcE f17 e17)
  (g18:GD K "refuse_bad_order" zaS f18 e18)
  (g19:GD K "refuse_bars_without_name" zcF f19 e19)
  (g20:GD K "refuse_twice" zaR f20 e20)
  (g21:GD K "number_of_word" zfE f21 e21)
  (g22:MD K XB "__init__" "BadOrder.__init__" zfy f22 e22)
  (g23:MD K XW "__init__" "Twice.__init__" zaQ f23 e23)
  (g24:GD K "laid" zfF f24 e24)
  (g25:GD K "read_form" zjL f25 e25)
  (g26:GD K "pieces" zjP f26 e26)
  (g27:GD K "read_parameter" zjI f27 e27)
  (g28:GD K "form_of" sFO f28 e28)
  (g29:GD K "read_call" zjM f29 e29)
  (g30:GD K "read_item" zjK f30 e30)
  (g31:GD K "words_within" sWW f31 e31)
  (g32:GD K "read_pair" zfC f32 e32)
  (g33:GD K "read_number" zjJ f33 e33)
  (g34:GD K "refuse_too_great" zjN f34 e34)
  (g35:GD K "_law_nth" zjQ f35 e35)
  (g36:GD K "_law_mix" zjR f36 e36)
  (g37:GD K "_law_pool" zfD f37 e37)
  (g38:GD K "_law_specs" zcD f38 e38)
  (g39:GD K "_law_bars" zfJ f39 e39)
  (g40:GD K "_law_thing" zcB f40 e40)
  (g41:GD K "_law_items" zcH f41 e41)
  (g42:GD K "_law_form_text" zcK f42 e42)
  (g43:GD K "_law_item_text" zcI f43 e43)
  (g44:GD K "_law_call_text" zcM f44 e44)
  (g45:GD K "_law_is_name" zj6 f45 e45)
  (g46:GD K "_law_read_number" zjZ f46 e46)
  (g47:GD K "_law_read_pair" zjY f47 e47)
  (g48:GD K "_law_read_item" zfG f48 e48)
  (g49:GD K "_law_parts" zj0 f49 e49)
  (g50:GD K "_law_judged_call" zj5 f50 e50)
  (g51:GD K "_law_read_spec" zjX f51 e51)
  (g52:GD K "_law_stands" zjT f52 e52)
  (g53:GD K "_law_judged_form" zj4 f53 e53)
  (g54:GD K "_law_sign" zjV f54 e54)
  (g55:GD K "_law_spoiled" zjU f55 e55)
  (g56:GD K "_law_other" zj1 f56 e56)
  (g57:GD K "_law_read" zjW f57 e57)
  (g58:GD K "_law_long" zj2 f58 e58)
  (g59:GD K "_law_long_form" zj3 f59 e59)
  (g60:GD K "law" zjS f60 e60)
  (zisinstance:nsIn K mainGlobals "isinstance"=some none)
  (zstr:nsIn K mainGlobals "str"=some none)
  (zbool:nsIn K mainGlobals "bool"=some none)
  (zlen:nsIn K mainGlobals "len"=some none)
  (zall:nsIn K mainGlobals "all"=some none)
  (zrange:nsIn K mainGlobals "range"=some none)
  (zlist:nsIn K mainGlobals "list"=some none)
  (zenumerate:nsIn K mainGlobals "enumerate"=some none)
  (zset:nsIn K mainGlobals "set"=some none)
  (zint:nsIn K mainGlobals "int"=some none)
  (ztuple:nsIn K mainGlobals "tuple"=some none)
  (zzip:nsIn K mainGlobals "zip"=some none)
  (zmax:nsIn K mainGlobals "max"=some none)
  (zreversed:nsIn K mainGlobals "reversed"=some none)
  (zValueError:nsIn K mainGlobals "ValueError"=some none)
  (gL:nsIn K mainGlobals "LETTERS"=some (some (.str letters tL)))
  (gN:nsIn K mainGlobals "LONGEST"=some (some (.int 8 tN)))
  (gMP:nsIn K mainGlobals "MOST_PARAMETERS"=some (some (.int 24 tMP)))
  (gMB:nsIn K mainGlobals "MOST_BARS"=some (some (.int 60 tMB)))
  (ytP:nsIn K mainGlobals "BY_PLACE"=some (some (.ref tP)))
  (utP:K.lookup tP=some ⟨.type "tuple",odtP,.seq #[.str "seat" ktP0,.str "both" ktP1] ntP,sltP⟩)
  (ytB:nsIn K mainGlobals "BY_NAME"=some (some (.ref tB)))
  (utB:K.lookup tB=some ⟨.type "tuple",odtB,.seq #[.str "both" ktB0,.str "tag" ktB1] ntB,sltB⟩)
  (ytO:nsIn K mainGlobals "OF_ONE_THING"=some (some (.ref tO)))
  (utO:K.lookup tO=some ⟨.type "tuple",odtO,.seq #[.str "seat" ktO0,.str "both" ktO1,.str "tag" ktO2] ntO,sltO⟩)
  (ysg:nsIn K mainGlobals "SINGLE_GROUPS"=some (some (.ref sg)))
  (usg:K.lookup sg=some ⟨.type "tuple",odsg,.seq #[.int 1 ksg0,.int 3 ksg1] nsg,slsg⟩)
  (yGr:nsIn K mainGlobals "GROUPS"=some (some (.ref Gr)))
  (lGr:K.lookup Gr=some ⟨.type "dict",none,.dict esG nG,#[]⟩)
  (kGr:KeysLit w.params esG.toList)
  (eG0:nsIn K Gr "seat"=some (some (.int 0 kG0)))
  (eG1:nsIn K Gr "both"=some (some (.int 0 kG1)))
  (eG2:nsIn K Gr "tail"=some (some (.int 1 kG2)))
  (eG3:nsIn K Gr "tag"=some (some (.int 2 kG3)))
  (eG4:nsIn K Gr "bag"=some (some (.int 3 kG4)))
  (dga:qM K D "__init__" f2)
  (h0:findIn K (.ref C0) "free"=some (some (.ref f3))/\findIn K (.ref C0) "by_place"=some (some (.ref f4))/\findIn K (.ref C0) "by_name"=some (some (.ref f5))/\findIn K (.ref C0) "takes_one"=some (some (.ref f6))/\findIn K (.ref C0) "told"=some (some (.ref f7)))
  (h1:findIn K (.ref C1) "free"=some (some (.ref f3))/\findIn K (.ref C1) "by_place"=some (some (.ref f4))/\findIn K (.ref C1) "by_name"=some (some (.ref f5))/\findIn K (.ref C1) "takes_one"=some (some (.ref f6))/\findIn K (.ref C1) "told"=some (some (.ref f7)))
  (h2:findIn K (.ref C2) "free"=some (some (.ref f3))/\findIn K (.ref C2) "by_place"=some (some (.ref f4))/\findIn K (.ref C2) "by_name"=some (some (.ref f5))/\findIn K (.ref C2) "takes_one"=some (some (.ref f6))/\findIn K (.ref C2) "told"=some (some (.ref f7)))
  (h3:findIn K (.ref C3) "free"=some (some (.ref f3))/\findIn K (.ref C3) "by_place"=some (some (.ref f4))/\findIn K (.ref C3) "by_name"=some (some (.ref f5))/\findIn K (.ref C3) "takes_one"=some (some (.ref f6))/\findIn K (.ref C3) "told"=some (some (.ref f7)))
  (h4:findIn K (.ref C4) "free"=some (some (.ref f3))/\findIn K (.ref C4) "by_place"=some (some (.ref f4))/\findIn K (.ref C4) "by_name"=some (some (.ref f5))/\findIn K (.ref C4) "takes_one"=some (some (.ref f6))/\findIn K (.ref C4) "told"=some (some (.ref f7)))
  (gSg:nsIn K mainGlobals "SIGNS_OF_ENDS"=some (some (.str sgn tSg)))
  (gFg:nsIn K mainGlobals "FIGURES"=some (some (.str zb8 tFg)))
  (gMF:nsIn K mainGlobals "MOST_FIGURES"=some (some (.int 60 tMF)))
  (gMI:nsIn K mainGlobals "MOST_ITEMS"=some (some (.int 30 tMI)))
  (gMA:nsIn K mainGlobals "MOST_IN_AN_ITEM"=some (some (.int 30 tMA)))
  (gMK:nsIn K mainGlobals "MOST_OF_A_KIND"=some (some (.int 60 tMK)))
  (yLA:nsIn K mainGlobals "OF_ALL_LEFT_OVER"=some (some (.ref LA)))
  (uLA:K.lookup LA=some ⟨.type "tuple",odLA,.seq #[.str "tail" kLA0,.str "bag" kLA1] nLA,slLA⟩)
  (ySo:nsIn K mainGlobals "SORTS"=some (some (.ref So)))
  (lSo:K.lookup So=some ⟨.type "dict",none,.dict #[⟨hS0,.str "!" tS0,.str "seat" uS0⟩,⟨hS1,.str "" tS1,.str "both" uS1⟩,⟨hS2,.str ".." tS2,.str "tail" uS2⟩,⟨hS3,.str ":" tS3,.str "tag" uS3⟩,⟨hS4,.str "::" tS4,.str "bag" uS4⟩] nSo,#[]⟩)
  (kSo:KeysLit w.params (#[⟨hS0,.str "!" tS0,.str "seat" uS0⟩,⟨hS1,.str "" tS1,.str "both" uS1⟩,⟨hS2,.str ".." tS2,.str "tail" uS2⟩,⟨hS3,.str ":" tS3,.str "tag" uS3⟩,⟨hS4,.str "::" tS4,.str "bag" uS4⟩]:Array DictEntry).toList)
  (sySo:(So==sysModules)=false)
  (xg:specialIn K (.builtin "object.__class__") "__get__"=some (some (.builtin "getset_descriptor.__get__"))/\PySem.W.takesIn K (.builtin "object.__class__")=some true)
  (ecXN:(clsIn K XN).isSome=true/\L2.zea K XN=true)
  (eaXN:findIn K (.ref XN) "__getattribute__"=some (some (.builtin "BaseException.__getattribute__"))/\findIn K (.ref XN) "__getattr__"=some none/\findIn K (.ref XN) "__class__"=some (some (.builtin "object.__class__"))/\mroIn K XN (.type "BaseException")=some true/\mroIn K XN (.type "object")=some true/\keepIn K (.ref XN)=true)
  (xoXN:excIn K XN [.type "ValueError",.type "Exception",.type "BaseException",.type "object"] "ValueError.__new__"=true)
  (emXN:exmOne K (.ref XN) (.ref CE)=some true)
  (ecXT:(clsIn K XT).isSome=true/\L2.zea K XT=true)
  (eaXT:findIn K (.ref XT) "__getattribute__"=some (some (.builtin "BaseException.__getattribute__"))/\findIn K (.ref XT) "__getattr__"=some none/\findIn K (.ref XT) "__class__"=some (some (.builtin "object.__class__"))/\mroIn K XT (.type "BaseException")=some true/\mroIn K XT (.type "object")=some true/\keepIn K (.ref XT)=true)
  (xoXT:excIn K XT [.type "ValueError",.type "Exception",.type "BaseException",.type "object"] "ValueError.__new__"=true)
  (emXT:exmOne K (.ref XT) (.ref CE)=some true)
  (ecXM:(clsIn K XM).isSome=true/\L2.zea K XM=true)
  (eaXM:findIn K (.ref XM) "__getattribute__"=some (some (.builtin "BaseException.__getattribute__"))/\findIn K (.ref XM) "__getattr__"=some none/\findIn K (.ref XM) "__class__"=some (some (.builtin "object.__class__"))/\mroIn K XM (.type "BaseException")=some true/\mroIn K XM (.type "object")=some true/\keepIn K (.ref XM)=true)
  (xoXM:excIn K XM [.type "ValueError",.type "Exception",.type "BaseException",.type "object"] "ValueError.__new__"=true)
  (emXM:exmOne K (.ref XM) (.ref CE)=some true)
  (ecXB:(clsIn K XB).isSome=true/\L2.zea K XB=true/\L2.zk2 K XB=true)
  (eaXB:findIn K (.ref XB) "__getattribute__"=some (some (.builtin "BaseException.__getattribute__"))/\findIn K (.ref XB) "__getattr__"=some none/\findIn K (.ref XB) "__class__"=some (some (.builtin "object.__class__"))/\mroIn K XB (.type "BaseException")=some true/\mroIn K XB (.type "object")=some true/\keepIn K (.ref XB)=true/\specialIn K (.ref XB) "__call__"=some (some (.builtin "type.__call__"))/\PySem.W.instIn K (.ref XB) (.type "type")=some true/\findIn K (.ref XB) "__setattr__"=some (some (.builtin "object.__setattr__"))/\findIn K (.ref XB) "at"=some none)
  (emXB:exmOne K (.ref XB) (.ref CE)=some true)
  (ecXW:(clsIn K XW).isSome=true/\L2.zea K XW=true/\L2.zk2 K XW=true)
  (eaXW:findIn K (.ref XW) "__getattribute__"=some (some (.builtin "BaseException.__getattribute__"))/\findIn K (.ref XW) "__getattr__"=some none/\findIn K (.ref XW) "__class__"=some (some (.builtin "object.__class__"))/\mroIn K XW (.type "BaseException")=some true/\mroIn K XW (.type "object")=some true/\keepIn K (.ref XW)=true/\specialIn K (.ref XW) "__call__"=some (some (.builtin "type.__call__"))/\PySem.W.instIn K (.ref XW) (.type "type")=some true/\findIn K (.ref XW) "__setattr__"=some (some (.builtin "object.__setattr__"))/\findIn K (.ref XW) "name"=some none)
  (emXW:exmOne K (.ref XW) (.ref CE)=some true)
  (kit:kitAny K (.ref XN) [.ref O0,.ref XB,.ref O1,.ref O2,.ref O3,.ref O4,.ref O5,.ref O6,.ref XM,.ref O7,.ref O8]=some false/\kitAny K (.ref XN) [.ref O9,.ref XT,.ref XW,.ref O10]=some false/\kitOne K (.ref XN) (.type "ValueError")=some true/\kitOne K (.ref XN) (.ref XN)=some true)
  : ∃fd:FuncData,(∀(s:Shared) (v:Value),BindsTo s fd ⟨[v],[]⟩ [("_law_script",v)])/\∀base:Heap,K.In base->base.Ns mainGlobals mg->zL l.prog w K mg base CX0 9 fa fd ["_law_script"] (zaM K):=by
 have e:=hfa.symm.trans (mg_of X G g60.a);cases e;have no:∀{x:Str},nsIn K mainGlobals x=some none->mg x=none:=fun z=>PySem.W.mg_none_of X G z;have T:ziI K mg:=⟨no zisinstance,no zstr,no zbool,no zlen,no zall,no zrange,⟨tL,mg_of X G gL⟩,⟨tN,mg_of X G gN⟩,jF K,zc3 K,zbZ K,zbX K,za6 K,zbY K,zc2 K,za7 K⟩;have Wd:Wds K mg tP tB tO:=⟨mg_of X G ytP,mg_of X G ytB,mg_of X G ytO,fun H=>.inr ⟨_,_,_,utP,rfl,rfl,y7,.cons ⟨_,rfl⟩ (.cons ⟨_,rfl⟩ (.nil))⟩,fun H=>.inr ⟨_,_,_,utB,rfl,rfl,y7,.cons ⟨_,rfl⟩ (.cons ⟨_,rfl⟩ (.nil))⟩,fun H=>.inr ⟨_,_,_,utO,rfl,rfl,zbu,.cons ⟨_,rfl⟩ (.cons ⟨_,rfl⟩ (.cons ⟨_,rfl⟩ (.nil)))⟩⟩;have TF:zde w K mg Gr sg:=⟨no zlen,no zenumerate,no zlist,no zset,⟨tMP,mg_of X G gMP⟩,⟨tMB,mg_of X G gMB⟩,mg_of X G yGr,zia lGr kGr eG0 eG1 eG2 eG3 eG4,mg_of X G ysg,fun H=>.inr ⟨_,_,_,usg,rfl,rfl,y7,.cons ⟨_,rfl⟩ (.cons ⟨_,rfl⟩ .nil)⟩⟩;have pc0:PC K ⟨f3,f4,f5,f6,f7⟩ C0:=⟨cC0.c,nC0.1,nC0.2.1,nC0.2.2,⟨h0.1,g3.m.fn,g3.F.kp⟩,⟨h0.2.1,g4.m.fn,g4.F.kp⟩,⟨h0.2.2.1,g5.m.fn,g5.F.kp⟩,⟨h0.2.2.2.1,g6.m.fn,g6.F.kp⟩,⟨h0.2.2.2.2,g7.m.fn,g7.F.kp⟩⟩;have pc1:PC K ⟨f3,f4,f5,f6,f7⟩ C1:=⟨cC1.c,nC1.1,nC1.2.1,nC1.2.2,⟨h1.1,g3.m.fn,g3.F.kp⟩,⟨h1.2.1,g4.m.fn,g4.F.kp⟩,⟨h1.2.2.1,g5.m.fn,g5.F.kp⟩,⟨h1.2.2.2.1,g6.m.fn,g6.F.kp⟩,⟨h1.2.2.2.2,g7.m.fn,g7.F.kp⟩⟩;have pc2:PC K ⟨f3,f4,f5,f6,f7⟩ C2:=⟨cC2.c,nC2.1,nC2.2.1,nC2.2.2,⟨h2.1,g3.m.fn,g3.F.kp⟩,⟨h2.2.1,g4.m.fn,g4.F.kp⟩,⟨h2.2.2.1,g5.m.fn,g5.F.kp⟩,⟨h2.2.2.2.1,g6.m.fn,g6.F.kp⟩,⟨h2.2.2.2.2,g7.m.fn,g7.F.kp⟩⟩;have pc3:PC K ⟨f3,f4,f5,f6,f7⟩ C3:=⟨cC3.c,nC3.1,nC3.2.1,nC3.2.2,⟨h3.1,g3.m.fn,g3.F.kp⟩,⟨h3.2.1,g4.m.fn,g4.F.kp⟩,⟨h3.2.2.1,g5.m.fn,g5.F.kp⟩,⟨h3.2.2.2.1,g6.m.fn,g6.F.kp⟩,⟨h3.2.2.2.2,g7.m.fn,g7.F.kp⟩⟩;have pc4:PC K ⟨f3,f4,f5,f6,f7⟩ C4:=⟨cC4.c,nC4.1,nC4.2.1,nC4.2.2,⟨h4.1,g3.m.fn,g3.F.kp⟩,⟨h4.2.1,g4.m.fn,g4.F.kp⟩,⟨h4.2.2.1,g5.m.fn,g5.F.kp⟩,⟨h4.2.2.2.1,g6.m.fn,g6.F.kp⟩,⟨h4.2.2.2.2,g7.m.fn,g7.F.kp⟩⟩;have PP:Pcs K ⟨f3,f4,f5,f6,f7⟩ ⟨C0,C1,C2,C3,C4⟩:=fun k hk=>by
  rcases lt5 hk with rfl|rfl|rfl|rfl|rfl
  ·exact pc0
  ·exact pc1
  ·exact pc2
  ·exact pc3
  ·exact pc4
 have FK:FC K FM:=⟨cFM.c,nFM.1,nFM.2.1,nFM.2.2.1,nFM.2.2.2.1,nFM.2.2.2.2.1,nFM.2.2.2.2.2⟩;have UL:ze1 mg:=⟨no zisinstance,no zint,no zlen,no zrange,no zlist,no zzip,no zmax⟩;have UR:zjn w K mg So LA:=⟨no zlen,⟨tSg,mg_of X G gSg⟩,mg_of X G ySo,zib lSo kSo,sySo,mg_of X G yLA,fun H=>.inr ⟨_,_,_,uLA,rfl,rfl,y7,.cons ⟨_,rfl⟩ (.cons ⟨_,rfl⟩ (.nil))⟩⟩;have UN:zl9 mg:=⟨no zlen,no zall,no zint,⟨tMF,mg_of X G gMF⟩,⟨tFg,mg_of X G gFg⟩⟩;have UG:zmb mg:=⟨no zlen,⟨tMI,mg_of X G gMI⟩,⟨tMA,mg_of X G gMA⟩,⟨tMK,mg_of X G gMK⟩⟩;have UK:ziH mg:=⟨no zlen,no zint⟩;have exXN:xc K XN:=⟨ecXN.1,eaXN.1,eaXN.2.1,eaXN.2.2.1,xg.1,xg.2,eaXN.2.2.2.1,eaXN.2.2.2.2.1⟩;have exXT:xc K XT:=⟨ecXT.1,eaXT.1,eaXT.2.1,eaXT.2.2.1,xg.1,xg.2,eaXT.2.2.2.1,eaXT.2.2.2.2.1⟩;have exXM:xc K XM:=⟨ecXM.1,eaXM.1,eaXM.2.1,eaXM.2.2.1,xg.1,xg.2,eaXM.2.2.2.1,eaXM.2.2.2.2.1⟩;have exXB:xc K XB:=⟨ecXB.1,eaXB.1,eaXB.2.1,eaXB.2.2.1,xg.1,xg.2,eaXB.2.2.2.1,eaXB.2.2.2.2.1⟩;have exXW:xc K XW:=⟨ecXW.1,eaXW.1,eaXW.2.1,eaXW.2.2.1,xg.1,xg.2,eaXW.2.2.2.1,eaXW.2.2.2.2.1⟩;have UX:zkV K mg XN CE O0 XB O1 O2 O3 O4 O5 O6 XM O7 O8 O9 XT XW O10:=⟨no zisinstance,no zValueError,mg_of X G yXN,mg_of X G yCE,mg_of X G yO0,mg_of X G yXB,mg_of X G yO1,mg_of X G yO2,mg_of X G yO3,mg_of X G yO4,mg_of X G yO5,mg_of X G yO6,mg_of X G yXM,mg_of X G yO7,mg_of X G yO8,mg_of X G yO9,mg_of X G yXT,mg_of X G yXW,mg_of X G yO10,exXN,kit.1,kit.2.1,kit.2.2.1,kit.2.2.2,emXN⟩;refine⟨_,g60.law,fun base KB GB=>?_⟩;have B:TB l.prog w K mg base:=⟨fun e=>mg_of X G e⟩;have cI:=g1.c1 B (zlD g1.F T);have GP:zL l.prog w K mg base CX0 2 f2 _ ["self","word","name","may_lack"] (spP K ⟨f3,f4,f5,f6,f7⟩):=zgd g2.F cI;have mD:=mg_of X G cD.a;have UC:zjo l.prog w K mg base ⟨C0,C1,C2,C3,C4⟩ f8 f9 f10 f11 f12 _ _ _ _ _:=⟨⟨⟨cC0.ms,g8.m.at_,g8.m.fn,cC0.kc⟩,zhS g8.F pc0 dga mD GP g2.F.b4,mg_of X G cC0.a,g8.b0⟩,⟨⟨cC1.ms,g9.m.at_,g9.m.fn,cC1.kc⟩,zh0 g9.F pc1 dga mD GP g2.F.b4,mg_of X G cC1.a,g9.b0⟩,⟨⟨cC2.ms,g10.m.at_,g10.m.fn,cC2.kc⟩,zhR g10.F pc2 dga mD GP g2.F.b4,mg_of X G cC2.a,g10.F.b2⟩,⟨⟨cC3.ms,g11.m.at_,g11.m.fn,cC3.kc⟩,zkk g11.F pc3 dga mD GP g2.F.b4,mg_of X G cC3.a,g11.b0⟩,⟨⟨cC4.ms,g12.m.at_,g12.m.fn,cC4.kc⟩,zkF g12.F pc4 dga mD GP g2.F.b4,mg_of X G cC4.a,g12.F.b2⟩⟩;have pXN:jl K mg base "NoText" XN:=⟨zcS KB GB yXN xoXN,eaXN.2.2.2.2.2,exXN,ecXN.2⟩;have pXT:jl K mg base "TooMany" XT:=⟨zcS KB GB yXT xoXT,eaXT.2.2.2.2.2,exXT,ecXT.2⟩;have pXM:jl K mg base "NoName" XM:=⟨zcS KB GB yXM xoXM,eaXM.2.2.2.2.2,exXM,ecXM.2⟩;have xXB:ziG l.prog w K mg base "BadOrder" XB f22 _ "at" "at":=⟨⟨ecXB.2.1,g22.m.at_,g22.m.fn,eaXB.2.2.2.2.2.2.1,eaXB.2.2.2.2.2.2.2.1,eaXB.2.2.2.2.2.1⟩,⟨ecXB.2.2,eaXB.2.2.2.2.2.2.2.2.1,eaXB.2.2.2.2.1⟩,eaXB.2.2.2.2.2.2.2.2.2,exXB,mg_of X G yXB,zhP g22.F,g22.F.b2⟩;have xXW:ziG l.prog w K mg base "Twice" XW f23 _ "name" "name":=⟨⟨ecXW.2.1,g23.m.at_,g23.m.fn,eaXW.2.2.2.2.2.2.1,eaXW.2.2.2.2.2.2.2.1,eaXW.2.2.2.2.2.1⟩,⟨ecXW.2.2,eaXW.2.2.2.2.2.2.2.2.1,eaXW.2.2.2.2.1⟩,eaXW.2.2.2.2.2.2.2.2.2,exXW,mg_of X G yXW,zeu g23.F,g23.F.b2⟩;have GQ:zL l.prog w K mg base CX0 1 f4 _ ["self"] (qN K ⟨f3,f4,f5,f6,f7⟩ bpL):=zbP g4.F Wd;have GN:zL l.prog w K mg base CX0 1 f5 _ ["self"] (qN K ⟨f3,f4,f5,f6,f7⟩ bnL):=zcV g5.F Wd;have cM1:wc l.prog w K mg base 1 "refuse_too_many" f17 _ ["parameters","bars"] (zaL K XT):=⟨zge g17.F TF pXT,B.mgo g17.a,g17.F.kp,g17.F.b2⟩;have cM2:wc l.prog w K mg base 3 "refuse_bad_order" f18 _ ["parameters"] (zcw ⟨C0,C1,C2,C3,C4⟩ XB):=⟨zey g18.F TF PP xXB,B.mgo g18.a,g18.F.kp,g18.F.b1⟩;have cM3:wc l.prog w K mg base 2 "refuse_bars_without_name" f19 _ ["bars"] (zfe K XM):=⟨zex g19.F pXM cI,B.mgo g19.a,g19.F.kp,g19.F.b1⟩;have cM4:wc l.prog w K mg base 3 "refuse_twice" f20 _ ["parameters","bars"] (zfc ⟨C0,C1,C2,C3,C4⟩ XW):=⟨zev g20.F TF PP GN g5.F.b1 xXW,B.mgo g20.a,g20.F.kp,g20.F.b2⟩;have cW:=g21.c2 B (zhW g21.F TF PP);have GK:=zhZ g14.F TF PP FK cW GQ g4.F.b1 GN g5.F.b1;have GI:zL l.prog w K mg base (CXs l.prog w) 4 f13 _ ["self","parameters","bars"] (zfo K ⟨C0,C1,C2,C3,C4⟩ FM XT XB XM XW):=zeA g13.F FK g14.m cM1 cM2 cM3 cM4 GK (g14.F.b3);have GTk:zL l.prog w K mg base CX0 1 f6 _ ["self"] (qN K ⟨f3,f4,f5,f6,f7⟩ otL):=za4 g6.F Wd;have GO:zL l.prog w K mg base CX0 2 f7 _ ["self"] (zcv K ⟨f3,f4,f5,f6,f7⟩):=zhQ g7.F GTk g6.F.b1;have GFT:zL l.prog w K mg base CX0 3 f15 _ ["self"] (zaN ⟨C0,C1,C2,C3,C4⟩ FM):=zgh g15.F TF FK PP GO g7.F.b1;have EF:zmj K XT XB XM XW CE:=⟨emXT,emXB,emXM,emXW⟩;have cL:=g24.c1 B (zhY g24.F);have cPf:=g16.c1 B (zkm g16.F UC);have cWW:=g31.c1 B (zkj g31.F);have cNZ:yw l.prog w K mg base 1 "read_number" f33 _ ["text"] (zhf XN):=⟨zlC g33.F UN pXN,B.mgo g33.a,g33.F.kp,g33.F.b1⟩;have cPZ:yw l.prog w K mg base 2 "read_pair" f32 _ ["text"] (zjw XN):=⟨zlB g32.F pXN cI cNZ,B.mgo g32.a,g32.F.kp,g32.F.b1⟩;have cPc:yw l.prog w K mg base 1 "pieces" f26 _ ["text"] (zaJ K XN):=⟨zhU g26.F T pXN,B.mgo g26.a,g26.F.kp,g26.F.b1⟩;have cIZ:yw l.prog w K mg base 3 "read_item" f30 _ ["text"] (zjx K XN):=⟨zlE g30.F cWW cNZ cPZ,B.mgo g30.a,g30.F.kp,g30.F.b1⟩;have cRG:yw l.prog w K mg base 2 "refuse_too_great" f34 _ ["call"] (zfd K XN):=⟨zkl g34.F UG pXN cL,B.mgo g34.a,g34.F.kp,g34.F.b1⟩;have cCZ:yw l.prog w K mg base 4 "read_call" f29 _ ["text"] (zjz K XN):=⟨zlG g29.F cPc cIZ cRG,B.mgo g29.a,g29.F.kp,g29.F.b1⟩;have cPar:yw l.prog w K mg base 6 "read_parameter" f27 _ ["text","free"] (zaK ⟨C0,C1,C2,C3,C4⟩ XN):=⟨zhV g27.F UR pXN cI cPf,B.mgo g27.a,g27.F.kp,g27.F.b2⟩;have cFO:yw l.prog w K mg base 6 "form_of" f28 _ ["parameters","bars"] (zfn ⟨C0,C1,C2,C3,C4⟩ FM XN):=⟨zkE g28.F pXN (mg_of X G yCE) EF (mg_of X G cFM.a) ⟨cFM.ms,g13.m.at_,g13.m.fn,cFM.kc⟩ GI g13.b0,B.mgo g28.a,g28.F.kp,g28.F.b2⟩;have cFZ:yw l.prog w K mg base 7 "read_form" f25 _ ["text"] (zjy K ⟨C0,C1,C2,C3,C4⟩ FM XN):=⟨zlF g25.F pXN cPc cPar cFO,B.mgo g25.a,g25.F.kp,g25.F.b1⟩;have cOt:zbk l.prog w K mg base 1 "_law_other" f56 _ ["_law_e"] (zdo XN):=⟨zky g56.F UX,B.mgo g56.a,g56.F.kp,g56.F.b1⟩;have cN:=g35.c2 B (zhX g35.F UL);have cMx:=g36.c2 B (zkn g36.F);have cPo:=g37.c1 B (zhT g37.F UL cMx);have cSp:=g38.c2 B (zew g38.F UL);have cBa:=g39.c3 B (zez g39.F UL);have cTh:=g40.c1 B (zgc g40.F);have cIt:=g41.c2 B (zgf g41.F UL cTh);have cFT:=g42.c2 B (zgi g42.F (no zlen));have cIT:=g43.c1 B (zgg g43.F ⟨no zstr⟩);have cCT:=g44.c1 B (zgj g44.F cIT);have cLI:=g45.c1 B (zkD g45.F UK);have cLN:=g46.c1 B (zkv g46.F UK);have cLP:=g47.c1 B (zku g47.F cLI cLN);have cLRI:=g48.c1 B (zkw g48.F UK cLN cLP);have cPa:=g49.c1 B (zkx g49.F);have cJC:=g50.c1 B (zkC g50.F (no zlen) cPa cLRI);have cRS:=g51.c1 B (zkt g51.F (no zlen) cLI);have cSt:=g52.c2 B (zkp g52.F (no zlen) (no zset));have cJF:=g53.c1 B (zkB g53.F cPa cLI cRS cSt);have cSi:=g54.c1 B (zkr g54.F);have cX:=g55.c3 B (zkq g55.F ⟨no zlen,no zlist,no zreversed,no zrange⟩ cSi);have cR:=g57.c2 B (zks g57.F UX FK cFZ cCZ cOt g15.m GFT (g15.F.b1));have cLo:=g58.c2 B (zkz g58.F);have cLF:=g59.c1 B (zkA g59.F ⟨no zzip,no zrange⟩);exact zko g60.F (no zrange) T cN cPo cSp cBa cIt cFT cCT cX cLF cLo cJF cJC cR
theorem znk{l:PySem.W.OpenLaw}{q:Program}{xS:List Str}{XP:(Str->Option Value)->Heap->Prop}{YP:World->Heap->Prop}{d:DefRec}{K:Params->Frag}(hn:l.most=some 63)(hdf:d.params.defaults=[])
  (hY:∀(w:World) (h:Heap),YP w h->(K w.params).In h)
  (F:∀(w:World) (mg:Str->Option Value) (fa:Addr) (h:Heap),(K w.params).In h->h.Ns mainGlobals mg->mg d.name=some (.ref fa)->
   ∃fd:FuncData,(∀(s:Shared) (u:Value),BindsTo s fd ⟨[u],[]⟩ [("_law_script",u)])/\∀base:Heap,(K w.params).In base->base.Ns mainGlobals mg->zL l.prog w (K w.params) mg base CX0 9 fa fd ["_law_script"] (zaM (K w.params))) :
  PySem.W.WalkO q xS XP YP l.row.toRowW d [] (fun f vs=>PySem.call f vs):=
 L2.zk4 (n:=63) (k:=9) (x:="_law_script") (CX:=fun _=>CX0) (sp:=fun w=>zaM (K w.params)) hn (by decide) hdf ⟨rfl,by decide,by decide⟩ hY F (fun _ _ a ns hl hb _ hS=>⟨a,ns,rfl,hS,hl,hb,fun _=>rfl⟩) fun _ _ _ _ _ z=>z
end K92
open PySem PySem.W PyProof.Rows
set_option maxRecDepth 100000 in
set_option maxHeartbeats 0 in
theorem PySem.Challenge.cw_callbinds_k92_refused_texts_holds : PySem.Challenge.rw_callbinds_k92_refused_texts.Holds := by
 w_on; o_law; k_head; (case hw => w_witness2)
 k_fill
 refine K92.znk (l := PySem.Challenge.rw_callbinds_k92_refused_texts) rfl rfl (fun w h Y => PySem.W.kIn_of Y) ?F
 case F =>
  intro w mg fa h KX G hmg
  refine' K92.zm2 KX G hmg ?yXN ?yXT ?yXM ?yXB ?yXW ?yCE ?yO0 ?yO1 ?yO2 ?yO3 ?yO4 ?yO5 ?yO6 ?yO7 ?yO8 ?yO9 ?yO10 ?cD ?cC0 ?nC0 ?cC1 ?nC1 ?cC2 ?nC2 ?cC3 ?nC3 ?cC4 ?nC4 ?cFM ?nFM ?g1 ?g2 ?g3 ?g4 ?g5 ?g6 ?g7 ?g8 ?g9 ?g10 ?g11 ?g12 ?g13 ?g14 ?g15 ?g16 ?g17 ?g18 ?g19 ?g20 ?g21 ?g22 ?g23 ?g24 ?g25 ?g26 ?g27 ?g28 ?g29 ?g30 ?g31 ?g32 ?g33 ?g34 ?g35 ?g36 ?g37 ?g38 ?g39 ?g40 ?g41 ?g42 ?g43 ?g44 ?g45 ?g46 ?g47 ?g48 ?g49 ?g50 ?g51 ?g52 ?g53 ?g54 ?g55 ?g56 ?g57 ?g58 ?g59 ?g60 ?zisinstance ?zstr ?zbool ?zlen ?zall ?zrange ?zlist ?zenumerate ?zset ?zint ?ztuple ?zzip ?zmax ?zreversed ?zValueError ?gL ?gN ?gMP ?gMB ?ytP ?utP ?ytB ?utB ?ytO ?utO ?ysg ?usg ?yGr ?lGr ?kGr ?eG0 ?eG1 ?eG2 ?eG3 ?eG4 ?dga ?h0 ?h1 ?h2 ?h3 ?h4 ?gSg ?gFg ?gMF ?gMI ?gMA ?gMK ?yLA ?uLA ?ySo ?lSo ?kSo ?sySo ?xg ?ecXN ?eaXN ?xoXN ?emXN ?ecXT ?eaXT ?xoXT ?emXT ?ecXM ?eaXM ?xoXM ?emXM ?ecXB ?eaXB ?emXB ?ecXW ?eaXW ?emXW ?kit
  (case yXN | yXT | yXM | yXB | yXW | yCE | yO0 | yO1 | yO2 | yO3 | yO4 | yO5 | yO6 | yO7 | yO8 | yO9 | yO10 => k_is)
  (case cD | cC0 => apply L2.znj <;> k_is)
  (case nC0 => exact ⟨by k_is, by k_is, by k_is⟩)
  (case cC1 => apply L2.znj <;> k_is)
  (case nC1 => exact ⟨by k_is, by k_is, by k_is⟩)
  (case cC2 => apply L2.znj <;> k_is)
  (case nC2 => exact ⟨by k_is, by k_is, by k_is⟩)
  (case cC3 => apply L2.znj <;> k_is)
  (case nC3 => exact ⟨by k_is, by k_is, by k_is⟩)
  (case cC4 => apply L2.znj <;> k_is)
  (case nC4 => exact ⟨by k_is, by k_is, by k_is⟩)
  (case cFM => apply L2.znj <;> k_is)
  (case nFM => exact ⟨by k_is, by k_is, by k_is, by k_is, by k_is, by k_is⟩)
  (case g1 => apply L2.znh <;> k_is)
  (case g2 | g3 | g4 | g5 | g6 | g7 => apply L2.zng <;> k_is)
  (case g8 | g9 => apply L2.zni <;> k_is)
  (case g10 => apply L2.zng <;> k_is)
  (case g11 => apply L2.zni <;> k_is)
  (case g12 => apply L2.zng <;> k_is)
  (case g13 => apply L2.zni <;> k_is)
  (case g14 | g15 => apply L2.zng <;> k_is)
  (case g16 | g17 | g18 | g19 | g20 | g21 => apply L2.znh <;> k_is)
  (case g22 | g23 => apply L2.zng <;> k_is)
  (case g24 | g25 | g26 | g27 | g28 | g29 | g30 | g31 | g32 | g33 | g34 | g35 | g36 | g37 | g38 | g39 | g40 | g41 | g42 | g43 | g44 | g45 | g46 | g47 | g48 | g49 | g50 | g51 | g52 | g53 | g54 | g55 | g56 | g57 | g58 | g59 | g60 => apply L2.znh <;> k_is)
  (case zisinstance | zstr | zbool | zlen | zall | zrange | zlist | zenumerate | zset | zint | ztuple | zzip | zmax | zreversed | zValueError | gL | gN | gMP | gMB | ytP | utP | ytB | utB | ytO | utO | ysg | usg | yGr | lGr => k_is)
  (case kGr => k_keys)
  (case eG0 | eG1 | eG2 | eG3 | eG4 => k_is)
  (case dga => exact ⟨by k_is, by k_is, by k_is, by k_is⟩)
  (case h0 | h1 | h2 | h3 | h4 => exact ⟨by k_is, by k_is, by k_is, by k_is, by k_is⟩)
  (case gSg | gFg | gMF | gMI | gMA | gMK | yLA | uLA | ySo | lSo => k_is)
  (case kSo => k_keys)
  (case sySo => rfl)
  (case xg => exact ⟨by k_is, by k_is⟩)
  (case ecXN => exact ⟨by first | kernel_rfl | exact rfl, by first | kernel_rfl | exact rfl⟩)
  (case eaXN => exact ⟨by k_is, by k_is, by k_is, by k_is, by k_is, by k_is⟩)
  (case xoXN => k_exc)
  (case emXN => kts_exm)
  (case ecXT => exact ⟨by first | kernel_rfl | exact rfl, by first | kernel_rfl | exact rfl⟩)
  (case eaXT => exact ⟨by k_is, by k_is, by k_is, by k_is, by k_is, by k_is⟩)
  (case xoXT => k_exc)
  (case emXT => kts_exm)
  (case ecXM => exact ⟨by first | kernel_rfl | exact rfl, by first | kernel_rfl | exact rfl⟩)
  (case eaXM => exact ⟨by k_is, by k_is, by k_is, by k_is, by k_is, by k_is⟩)
  (case xoXM => k_exc)
  (case emXM => kts_exm)
  (case ecXB => exact ⟨by first | kernel_rfl | exact rfl, by first | kernel_rfl | exact rfl, by first | kernel_rfl | exact rfl⟩)
  (case eaXB => exact ⟨by k_is, by k_is, by k_is, by k_is, by k_is, by k_is, by k_is, by k_is, by k_is, by k_is⟩)
  (case emXB => kts_exm)
  (case ecXW => exact ⟨by first | kernel_rfl | exact rfl, by first | kernel_rfl | exact rfl, by first | kernel_rfl | exact rfl⟩)
  (case eaXW => exact ⟨by k_is, by k_is, by k_is, by k_is, by k_is, by k_is, by k_is, by k_is, by k_is, by k_is⟩)
  (case emXW => kts_exm)
  (case kit => exact ⟨by kit_is, by kit_is, by kit_is, by kit_is⟩)
#print axioms PySem.Challenge.cw_callbinds_k92_refused_texts_holds
