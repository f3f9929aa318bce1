import PyProof.Rows.All
import Wide.All
import OpenK.AllK
import Wide.FinOn
import Lean
import PyProof.EqAt
import PyProof.EqKinds
import PyProof.TupleCall
import KE.KItemsList
import KE.KPairComp
import KE.KDictOf
import PyProof.AttrMissHeap
import KE.LcSums
import PyProof.StrLawsRepr
import KE.RegKTryMore
import PySem.Challenge.RW_signalwise_k45_net_signs
open List (Nodup Pairwise all_cons all_eq_true any_cons any_eq_true any_map append_assoc append_nil ext_getElem filter filterMap_append filterMap_cons filterMap_cons_none filter_append filter_cons filter_cons_of_neg filter_cons_of_pos find?_cons getD_eq_getElem?_getD getElem?_append_left getElem?_append_right getElem?_eq_getElem getElem?_eq_none getElem?_map getElem?_of_mem getElem?_range getElem?_replicate getElem?_set_ne getElem?_set_self getElem_mem length length_append length_cons length_drop length_eq_zero_iff length_filter_le length_map length_nil length_pos_of_mem length_range length_replicate length_set length_singleton length_take lookup_cons map_append map_cons map_id map_map map_nil map_set map_take mem_append mem_append_left mem_append_right mem_cons mem_cons_of_mem mem_cons_self mem_filter mem_map mem_map_of_mem mem_nil_iff mem_of_getElem? mem_range mem_singleton nil_append nodup_append nodup_cons nodup_nil not_mem_nil of_mem_zip pairwise_cons pairwise_singleton range_succ set_cons_succ set_cons_zero size_toArray take_add_one take_length take_of_length_le take_succ)
open Nat (add_assoc add_le_add add_le_add_left le_add_left le_add_right le_max_left le_max_right le_of_eq le_of_lt le_of_succ_le_succ le_refl le_succ le_total le_trans lt_irrefl lt_of_le_of_lt lt_of_lt_of_le lt_or_ge lt_succ_of_lt lt_succ_self lt_trans max_le mod_lt ne_of_gt ne_of_lt not_le_of_gt not_lt not_lt_zero succ_le_succ zero_add zero_le)
open PySem.W (KdxIt Looks callWith_K cellsFrom_some codeIn emptyDict findIn fnOf handedIn hasDictIn instObj isFn kIn_of keepIn kia_one kitOne kitx_dict kitx_list kitx_tuple lookIn makesIn methodCall_KW methodObj mg_none_of mg_of mroIn nsIn plainGet plainGet_of plainOver takerIn typeIn)
theorem Z{z:Sort _}{a:z}:a=a:=rfl
set_option autoImplicit true
set_option relaxedAutoImplicit true
noncomputable section
set_option Elab.async false
set_option linter.all false
set_option maxRecDepth 100000
set_option maxHeartbeats 64000000
local macro_rules|`(tactic|trivial)=>`(tactic|decide +kernel)
abbrev FA:=PySem.W.Frag
variable{P prog:PySem.Program}{w:PySem.World}{K:FA}{mg:PySem.Str->Option PySem.Value}{base h h':PySem.Heap}{A:PySem.Around}{pos apos:PySem.Pos}{pins:List (PySem.Addr×PySem.Obj)}{f C a:PySem.Addr}{fd:PySem.FuncData}{ps:List PySem.Str}{us:List PySem.Value}{st:PySem.Stmt}{x:PySem.Str}{k n:Nat}{u:PySem.Value}{e:PySem.Expr}{es:List PySem.Expr}{E:PySem.Value->PySem.Shared->Prop}
theorem qc:false≠true:=Bool.false_ne_true
namespace L2
open PySem PySem.Spec PyProof.Rows
def rY:=@wpAny_bind
def rZ:=@wpAny_pure
def uA:=@List.getElem?_eq_getElem
def uB:=@List.length_map
def uC:=@List.length_append
def uD:=@List.length_singleton
def uF:=@List.mem_cons_self
def uG:=@List.mem_cons_of_mem
def uH:=@List.getElem?_map
def uI:=@decide_eq_true
def uJ:=@decide_eq_false
def uK:=@of_decide_eq_true
def uM:=@List.size_toArray
def uN:=@List.map_append
def uO:=@List.mem_of_getElem?
def uP:=@List.mem_append_right
def uQ:=@List.take_of_length_le
def uS:=@List.length_replicate
def uT:=@List.getElem?_append_left
def uU:=@List.getElem?_append_right
def uV:=@List.length_cons
def uW:=@List.mem_append
def uX:=@List.take_succ
def uY:=@Nat.le_trans
def uZ:=@Nat.le_refl
def vA:=@Nat.lt_of_lt_of_le
def vB:=@Nat.lt_of_le_of_lt
def vC:=@Nat.ne_of_lt
def vD:=@List.mem_singleton
def vE:=@List.length_take
def vF:=@List.length_range
def vG:=@List.not_mem_nil
def vH:=@List.append_nil
def vI:=@List.getElem_mem
def vJ:=@List.mem_cons
def vK:=@List.length_set
def vM:=@List.filter_append
def vN:=@List.getElem?_set_ne
def vP:=@List.getElem?_set_self
def vQ:=@List.pairwise_cons
def vR:=@List.nodup_cons
def vS:=@List.map_cons
def vT:=@List.mem_map
def vU:=@List.lookup_cons
def vV:=@wpAny_mono
def vW:=@wpAny_holding
def vX:=@List.mem_append_left
def vY:=@Nat.zero_le
def vZ:=@wpAny_call_entry
def zA:=@wpAny_setField_rec
theorem mS{z:Type _}{a b:z}(h:a∈[b]):a=b:=vD.mp h
theorem zN0:0<=sizeLine:=by decide
theorem zN1:1<=sizeLine:=by decide
theorem zN2:2<=sizeLine:=by decide
theorem zN3:3<=sizeLine:=by decide
theorem zN4:4<=sizeLine:=by decide
abbrev Key:=Sum Int Str
def Ma:Key->Value->Bool
 |.inl k,v=>Value.isInt k v
 |.inr x,v=>Value.isStrOf x v
def Agw(w:World):Key->Int
 |.inl k=>hashInt k
 |.inr x=>hashStr w x
theorem Cp:∀{k:Key}{v:Value},Ma k v=true->(∃i t,k=Sum.inl i/\v=Value.int i t)\/(∃x t,k=Sum.inr x/\v=Value.str x t)
 |.inl i,v,h=>by
  obtain⟨t,e⟩:=Value.isInt_shape (k:=i) (v:=v) h;exact .inl ⟨i,t,Z,e⟩
 |.inr x,v,h=>by
  obtain⟨t,e⟩:=Value.isStrOf_shape (x:=x) (v:=v) h;exact .inr ⟨x,t,Z,e⟩
theorem AbN(i:Int)(t:Tok):Ma (.inl i) (.int i t)=true:=by simp[Ma,Value.isInt]
theorem Aae(x:Str)(t:Tok):Ma (.inr x) (.str x t)=true:=by simp[Ma,Value.isStrOf]
theorem AfZ(a b:Int):decide ((Sum.inl a:Key)=Sum.inl b)=(a==b):=by
 by_cases e:a=b
 ·subst e;simp
 ·have h:¬(Sum.inl a:Key)=Sum.inl b:=λq=>e (Sum.inl.inj q)
  rw[uJ h];exact(beq_eq_false_iff_ne.mpr e).symm
theorem AeY(a b:Str):decide ((Sum.inr a:Key)=Sum.inr b)=decide (a=b):=by
 by_cases e:a=b
 ·subst e;simp
 ·have h:¬(Sum.inr a:Key)=Sum.inr b:=λq=>e (Sum.inr.inj q)
  rw[uJ h,uJ e]
theorem Aen(a:Int)(b:Str):decide ((Sum.inl a:Key)=Sum.inr b)=false:=uJ (λq=>nomatch q)
theorem AfI(a:Str)(b:Int):decide ((Sum.inr a:Key)=Sum.inl b)=false:=uJ (λq=>nomatch q)
def mixKind(prog:Program)(w:World):PySem.KeyKind prog w Key where
 is:=Ma
 hash:=Agw w
 inj:=λv a b ha hb=>by
  rcases Cp ha with⟨i,t,rfl,rfl⟩|⟨x,t,rfl,rfl⟩
  ·rcases Cp hb with⟨j,u,rfl,e⟩|⟨y,u,rfl,e⟩
   ·injection e with e1 _;rw[e1]
   ·exact nomatch e
  ·rcases Cp hb with⟨j,u,rfl,e⟩|⟨y,u,rfl,e⟩
   ·exact nomatch e
   ·injection e with e1 _;rw[e1]
 byValue:=λk v h=>by
  rcases Cp h with⟨i,t,rfl,rfl⟩|⟨x,t,rfl,rfl⟩<;>rfl
 pyHash:=λhv h=>by
  rcases Cp hv with⟨i,t,rfl,rfl⟩|⟨x,t,rfl,rfl⟩
  ·exact wpAny_pyHash_int h
  ·exact wpAny_pyHash_str h
 eqBool:=λhu hv h=>by
  rcases Cp hu with⟨i,t,rfl,rfl⟩|⟨x,t,rfl,rfl⟩
  ·rcases Cp hv with⟨j,u,rfl,rfl⟩|⟨y,u,rfl,rfl⟩
   ·rw[AfZ]at h;exact wpAny_eqBool_int h
   ·rw[Aen]at h;exact SeqAt.EqAt.int_str i t y u _ _ _ _ h
  ·rcases Cp hv with⟨j,u,rfl,rfl⟩|⟨y,u,rfl,rfl⟩
   ·rw[AfI]at h;exact SeqAt.EqAt.str_int x t j u _ _ _ _ h
   ·rw[AeY]at h;exact wpAny_eqBool_str h
 «strs»:=λk x t v h=>by
  rcases Cp h with⟨i,u,rfl,e⟩|⟨y,u,rfl,e⟩
  ·exact nomatch e
  ·injection e with e1 _
   subst e1;cases v<;>rfl
theorem AaF(prog:Program)(w:World)(k:Key)(v:Value):(mixKind prog w).is k v=Ma k v:=rfl
theorem Wq(prog:Program)(w:World)(i:Int)(t:Tok):(mixKind prog w).is (.inl i) (.int i t)=true:=AbN i t
theorem Wm(prog:Program)(w:World)(x:Str)(t:Tok):(mixKind prog w).is (.inr x) (.str x t)=true:=Aae x t
inductive V where
 |non|bl (b:Bool)|int (i:Int)|str (x:Str)|byt (b:Array UInt8)|flt (b:UInt64)|ref (a:Addr)|ty (n:String)
 deriving DecidableEq
def A7:V->Value->Prop
 |.non,u=>u=Value.none
 |.bl b,u=>u=Value.bool b
 |.int i,u=>∃t,u=Value.int i t
 |.str x,u=>∃t,u=Value.str x t
 |.byt b,u=>∃t,u=Value.bytes b t
 |.flt b,u=>∃t,u=Value.float b t
 |.ref a,u=>u=Value.ref a
 |.ty n,u=>u=Value.type n
abbrev A8:List V->List Value->Prop:=Paired A7
theorem A8.length{xs:List V}(r:A8 xs us):xs.length=us.length:=Paired.length r
theorem A8.get:∀{xs:List V}{us:List Value}{i:Nat}{x:V},A8 xs us->xs[i]?=some x->∃u,us[i]?=some u/\A7 x u
 |_,_,_,_,.nil,e=>by simp at e
 |_,_,0,_,.cons r _,e=>by simp at e;subst e;exact⟨_,rfl,r⟩
 |_,_,i+1,x,.cons _ t,e=>by
  obtain⟨u,h1,h2⟩:=A8.get (i:=i) (x:=x) t (by simpa using e);exact⟨u,by simpa using h1,h2⟩
theorem A8.set{x:V}(r:A7 x u):∀{xs:List V}{us:List Value}(i:Nat),A8 xs us->A8 (xs.set i x) (us.set i u)
 |_,_,_,.nil=>.nil
 |_,_,0,.cons _ t=>.cons r t
 |_,_,i+1,.cons q t=>.cons q (A8.set r i t)
theorem A8.append:∀{xs ys:List V}{us ws:List Value},A8 xs us->A8 ys ws->A8 (xs++ys) (us++ws)
 |_,_,_,_,.nil,s=>s
 |_,_,_,_,.cons r t,s=>.cons r (A8.append t s)
theorem A8.take:∀{xs:List V}{us:List Value}(n:Nat),A8 xs us->A8 (xs.take n) (us.take n)
 |_,_,0,_=>.nil
 |_,_,_+1,.nil=>.nil
 |_,_,n+1,.cons r t=>.cons r (A8.take n t)
theorem A8.drop:∀{xs:List V}{us:List Value}(n:Nat),A8 xs us->A8 (xs.drop n) (us.drop n)
 |_,_,0,r=>r
 |_,_,_+1,.nil=>.nil
 |_,_,n+1,.cons _ t=>A8.drop n t
def Gn:Option V->Option Value->Prop
 |some v,some u=>A7 v u
 |none,none=>True
 |_,_=>False
def KV{κ:Type}:List (κ×V)->List (κ×Value)->Prop:=Paired λ(p:κ×V)(q:κ×Value)=>p.1=q.1/\A7 p.2 q.2
def kV:Key->V
 |.inl i=>.int i
 |.inr x=>.str x
inductive HO where
 |lst (xs:List V)
 |tup (xs:List V)
 |dK (kvs:List (Key×V))|dT (kvs:List (List Key×V))
 |set (S:Int->Bool) (n:Nat)
 |ins (C dx:Addr) (fs:List (Str×V))
 |own (x:Addr)
 |xd (fs:List (Str×V))
 |met (f x:Addr)
 |rng (lo hi:Int)
 |frz (o:Obj) (u:HO)
 |tbl (ps:Array Value)
 |ext (φ:Heap->Prop)
abbrev Hp:=Addr->Option HO
def upd(H:Hp)(a:Addr)(o:HO):Hp:=λb=>if b=a then some o else H b
theorem qa{H:Hp}{o:HO}:upd H a o a=some o:=by unfold upd;rw[if_pos rfl]
theorem upd_ne{H:Hp}{b:Addr}{o:HO}(h:b≠a):upd H a o b=H b:=by unfold upd;rw[if_neg h]
theorem Bw{H:Hp}{b:Addr}{o u:HO}(h:H a=some o)(h':H b=some u)(d:o≠u):a≠b:=by
 intro e;subst e;rw[h]at h';exact d (Option.some.inj h')
theorem ne_of_none{H:Hp}{b:Addr}{o:HO}(h:H a=some o)(h':H b=none):a≠b:=by
 intro e;subst e;rw[h]at h';cases h'
section
variable(P:Program)(w:World)
def B1(H:Hp)(h:Heap)(a:Addr):HO->Prop
 |.lst xs=>xs.length<=sizeLine/\∃(its:List Value)(n:Nat),A8 xs its/\h.get? a=some {cls:=.type "list",data:=.seq its.toArray n}
 |.tup xs=>xs.length<=sizeLine/\∃its:List Value,A8 xs its/\IsTup h a its.toArray
 |.dK kvs=>kvs.length<=sizeLine/\(a==sysModules)=false/\∃vs,KV kvs vs/\h.DictOf (mixKind P w) a vs
 |.dT kvs=>kvs.length<=sizeLine/\(a==sysModules)=false/\∃xs:List (List Key×Addr×Value),
   Paired (λ(p:List Key×V)(q:List Key×Addr×Value)=>p.1=q.1/\H q.2.1=some (.tup (p.1.map kV))/\A7 p.2 q.2.2) kvs xs /\
   ∃o es ep,h.get? a=some o/\o.ExactDict/\o.data=.dict es ep/\es.toList=xs.map (entryOfKey (tupleKind (mixKind P w)))/\(xs.map (·.1)).Nodup
 |.set S n=>h.SetOf (intKind P w) a S n
 |.ins C dx fs=>H dx=some (.own a)/\fs.length<=1000/\dx≠a/\h.get? a=some (instObj C dx) /\
   ∃mA,h.Ns1 dx mA/\(∀f,Gn (fs.lookup f) (mA f))/\PySem.Within mA (fs.map (·.1))
 |.own _=>∃o,h.get? a=some o
 |.xd fs=>∃mA,h.Ns1 a mA/\∀f,Gn (fs.lookup f) (mA f)
 |.rng lo hi=>∃t u v,h.get? a=some {cls:=.type "range",data:=.fields #[.int lo t,.int hi u,.int 1 v]}
 |.frz o u=>h.get? a=some o/\B1 H h a u
 |.tbl ps=>h.get? a=some {cls:=.none,data:=.fields ps}
 |.met f x=>h.get? a=some (methodObj (.ref f) (.ref x))
 |.ext φ=>φ h/\(∃o,h.get? a=some o)/\∀h1 h2:Heap,φ h1->(∀o,h1.get? a=some o->h2.get? a=some o)->φ h2
def HOk(H:Hp)(h:Heap):Prop:=∀a o,H a=some o->B1 P w H h a o
end
section
variable{H H':Hp}{o:HO}
theorem B1.lt(x:B1 P w H h a o):a<h.objs.size:=by
 cases o with
 |lst xs=>obtain⟨_,_,_,_,e⟩:=x;exact Heap.lt_size e
 |tup xs=>obtain⟨_,_,_,p⟩:=x;exact p.lt
 |dK kvs=>obtain⟨_,_,_,_,o,_,_,e,_⟩:=x;exact Heap.lt_size e
 |dT kvs=>obtain⟨_,_,_,_,o,_,_,e,_⟩:=x;exact Heap.lt_size e
 |set S n=>obtain⟨o,_,_,_,e,_⟩:=x;exact Heap.lt_size e
 |ins C dx fs=>obtain⟨_,_,_,e,_⟩:=x;exact Heap.lt_size e
 |own y=>obtain⟨_,e⟩:=x;exact Heap.lt_size e
 |xd fs=>obtain⟨_,⟨_,_,_,e,_⟩,_⟩:=x;exact Heap.lt_size e
 |rng lo hi=>obtain⟨_,_,_,e⟩:=x;exact Heap.lt_size e
 |frz ob u=>obtain⟨e,_⟩:=x;exact Heap.lt_size e
 |tbl ps=>exact Heap.lt_size (show h.get? a=some _ from x)
 |met f y=>exact Heap.lt_size (show h.get? a=some _ from x)
 |ext φ=>obtain⟨_,⟨_,e⟩,_⟩:=x;exact Heap.lt_size e
theorem Paired.mapP{α z:Type}{F G:α->z->Prop}:∀{l₁:List α}{l₂:List z},Paired F l₁ l₂->(∀a b,F a b->G a b)->Paired G l₁ l₂
 |_,_,.nil,_=>.nil
 |_,_,.cons r t,f=>.cons (f _ _ r) (Paired.mapP t f)
theorem B1.stay(x:B1 P w H h a o)(k:∀b u,(b=a\/H b=some (.own a))->h.get? b=some u->h'.get? b=some u)
  (ho:∀b,H b=some (.own a)->H' b=some (.own a)) (ht:∀b xs,H b=some (.tup xs)->H' b=some (.tup xs)):B1 P w H' h' a o:=by
 induction o with
 |lst xs=>obtain⟨z,a1,n,r,e⟩:=x;exact⟨z,a1,n,r,k _ _ (.inl rfl) e⟩
 |tup xs=>obtain⟨z,a1,r,ob,e,c⟩:=x;exact⟨z,a1,r,ob,k _ _ (.inl rfl) e,c⟩
 |dK kvs=>obtain⟨z,y,vs,r,ob,es,ep,e,c⟩:=x;exact⟨z,y,vs,r,ob,es,ep,k _ _ (.inl rfl) e,c⟩
 |dT kvs=>
  obtain⟨z,y,xs,r,ob,es,ep,e,c⟩:=x;exact⟨z,y,xs,Paired.mapP r λp q z=>⟨z.1,ht _ _ z.2.1,z.2.2⟩,ob,es,ep,k _ _ (.inl rfl) e,c⟩
 |set S n=>obtain⟨ob,es,ep,t,e,c⟩:=x;exact⟨ob,es,ep,t,k _ _ (.inl rfl) e,c⟩
 |ins C dx fs=>
  obtain⟨d,z,ne,e,mA,⟨od,es,ep,e2,c⟩,r⟩:=x;exact⟨ho _ d,z,ne,k _ _ (.inl rfl) e,mA,⟨od,es,ep,k _ _ (.inr d) e2,c⟩,r⟩
 |own y=>obtain⟨ob,e⟩:=x;exact⟨ob,k _ _ (.inl rfl) e⟩
 |xd fs=>obtain⟨mA,⟨od,es,ep,e,c⟩,r⟩:=x;exact⟨mA,⟨od,es,ep,k _ _ (.inl rfl) e,c⟩,r⟩
 |rng lo hi=>obtain⟨t,u,v,e⟩:=x;exact⟨t,u,v,k _ _ (.inl rfl) e⟩
 |frz ob u ih=>obtain⟨e,q⟩:=x;exact⟨k _ _ (.inl rfl) e,ih q⟩
 |tbl ps=>
  have e:h.get? a=some {cls:=.none,data:=.fields ps}:=x;show h'.get? a=some {cls:=.none,data:=.fields ps};exact k a _ (.inl rfl) e
 |met f y=>
  have e:h.get? a=some (methodObj (.ref f) (.ref y)):=x;show h'.get? a=some (methodObj (.ref f) (.ref y));exact k a _ (.inl rfl) e
 |ext φ=>obtain⟨p,⟨o,e⟩,st⟩:=x;exact⟨st _ _ p λo q=>k _ _ (.inl rfl) q,⟨o,k _ _ (.inl rfl) e⟩,st⟩
theorem HOk.lt(x:HOk P w H h)(e:H a=some o):a<h.objs.size:=(x a o e).lt
theorem HOk.fresh(x:HOk P w H h)(e:h.objs.size<=a):H a=none:=by
 cases q:H a with
 |none=>rfl
 |some u=>exact absurd (vA (x.lt q) e) (lt_irrefl _)
theorem HOk.kept(x:HOk P w H h)(k:∀b u,h.get? b=some u->h'.get? b=some u):HOk P w H h':=λa o e=>
 (x a o e).stay (λb u _ q=>k b u q) (λ_ q=>q) λ_ _ q=>q
theorem HOk.laid(x:HOk P w H h)(k:∀b u,h.get? b=some u->h'.get? b=some u)(hp:h.objs.size<=a)(new:B1 P w (upd H a o) h' a o):HOk P w (upd H a o) h':=λb u e=>by
 have hn:=x.fresh hp
 by_cases z:b=a
 ·subst z;rw[qa]at e;cases e;exact new
 ·rw[upd_ne z]at e
  exact(x b u e).stay (λc v _ q=>k c v q) (λc q=>by rw[upd_ne (ne_of_none q hn)];exact q) λc xs q=>by rw[upd_ne (ne_of_none q hn)];exact q
end
def Rd(H:Hp)(a:Addr)(u:HO):Prop:=H a=some u\/∃o,H a=some (.frz o u)
theorem Rd.ok{H:Hp}{u:HO}(r:Rd H a u)(x:HOk P w H h):B1 P w H h a u:=by
 rcases r with r|⟨o,r⟩
 ·exact x a u r
 ·obtain⟨_,q⟩:=x a _ r
  exact q
def Mut:Option HO->Prop
 |some (.lst _)=>True
 |some (.dK _)=>True
 |some (.dT _)=>True
 |some (.set _ _)=>True
 |some (.ins _ _ _)=>True
 |some (.ext _)=>True
 |_=>False
section
variable{H:Hp}{x e:Addr}{o':HO}
theorem HOk.write(ok:HOk P w H h)(mu:Mut (H x))(he:e=x\/H e=some (.own x))(k:∀b u,b≠e->h.get? b=some u->h'.get? b=some u)(a4:∃u,h'.get? e=some u)
  (new:B1 P w (upd H x o') h' x o'):HOk P w (upd H x o') h':=λb u q=>by
 have a2:∀c y,H c=some (.own y)->c≠x:=λc y r z=>by subst z;rw[r]at mu;exact mu
 have a3:∀c xs,H c=some (.tup xs)->c≠x:=λc xs r z=>by subst z;rw[r]at mu;exact mu
 by_cases hb:b=x
 ·subst hb;rw[qa]at q;cases q;exact new
 ·rw[upd_ne hb]at q
  by_cases a1:b=e
  ·have q':H b=some (.own x):=by
    rcases he with z|z
    ·exact absurd (a1.trans z) hb
    ·rw[a1];exact z
   rw[q]at q';cases q';obtain⟨v,hv⟩:=a4;exact⟨v,by rw[a1];exact hv⟩
  ·refine(ok b u q).stay (λc v hc r=>k c v ?_ r) (λc r=>by rw[upd_ne (a2 c b r)];exact r) λc xs r=>by rw[upd_ne (a3 c xs r)];exact r
   rcases hc with rfl|hc
   ·exact a1
   ·rintro rfl
    rcases he with z|z
    ·exact a2 c b hc z
    ·rw[hc]at z;cases z;exact hb rfl
end
structure Un(fs ex:List Addr)(H H':Hp)(h h':Heap):Prop where
 keep:∀b o,h.get? b=some o->H b=none->b∉fs->b∉ex->h'.get? b=some o
 slot:∀b o,h.get? b=some o->H b=none->b∈fs->b∉ex->∃sl,h'.get? b=some {o with slots:=sl}
 free:∀b o,h.get? b=some o->H b=none->b∉ex->H' b=none
 there:∀b o,h.get? b=some o->b∉ex->∃o',h'.get? b=some o'
 tups:∀b xs,H b=some (.tup xs)->H' b=some (.tup xs)
 frzs:∀b o u,H b=some (.frz o u)->H' b=some (.frz o u)
 tbls:∀b ps,H b=some (.tbl ps)->∃more,H' b=some (.tbl (ps++more))
section
variable{fs fs' ex ex':List Addr}{H H1 H2:Hp}{h1 h2:Heap}{x e:Addr}{o:HO}
theorem Un.any(u:Un fs ex H H1 h h1){b:Addr}{ob:Obj}(q:h.get? b=some ob)(n:H b=none)(hx:b∉ex):∃sl,h1.get? b=some {ob with slots:=sl}:=by
 by_cases z:b∈fs
 ·exact u.slot b ob q n z hx
 ·exact⟨ob.slots,u.keep b ob q n z hx⟩
theorem Un.kept(k:∀b u,h.get? b=some u->h'.get? b=some u):Un fs ex H H h h':=
 ⟨λb ob q _ _ _=>k b ob q,λb ob q _ _ _=>⟨ob.slots,k b ob q⟩,λ_ _ _ n _=>n,λb ob q _=>⟨ob,k b ob q⟩,λ_ _ q=>q,λ_ _ _ q=>q,λ_ ps q=>⟨#[],by rw[q];simp⟩⟩
theorem Un.refl:Un fs ex H H h h:=Un.kept λ_ _ q=>q
theorem Un.laid(k:∀b u,h.get? b=some u->h'.get? b=some u)(hp:h.objs.size<=a)(hn:H a=none):Un fs ex H (upd H a o) h h' where
 keep:=λb u q _ _ _=>k b u q
 slot:=λb u q _ _ _=>⟨u.slots,k b u q⟩
 free:=λb u q n _=>by rw[upd_ne (vC (vA (Heap.lt_size q) hp))];exact n
 there:=λb u q _=>⟨u,k b u q⟩
 tups:=λb xs q=>by rw[upd_ne (ne_of_none q hn)];exact q
 frzs:=λb u xs q=>by rw[upd_ne (ne_of_none q hn)];exact q
 tbls:=λb ps q=>⟨#[],by rw[upd_ne (ne_of_none q hn),q];simp⟩
theorem Un.write(mu:Mut (H x))(he:e=x\/H e=some (.own x))(k:∀b u,b≠e->h.get? b=some u->h'.get? b=some u)(a2:∃u,h'.get? e=some u):Un fs ex H (upd H x o) h h':=by
 have hx:∀b,H b=none->b≠x:=λb n z=>by subst z;rw[n]at mu;exact mu
 have hb:∀b,H b=none->b≠e:=λb n z=>by
  subst z;rcases he with r|r
  ·exact hx b n r
  ·rw[n]at r;cases r
 have hm:∀b u,H b=some u->¬Mut (some u)->b≠x:=λb u q nm z=>by subst z;rw[q]at mu;exact nm mu
 refine⟨λb u q n _ _=>k b u (hb b n) q,λb u q n _ _=>⟨u.slots,k b u (hb b n) q⟩,λb u q n _=>by rw[upd_ne (hx b n)];exact n,λb u q _=>?_,
  λb xs q=>by rw[upd_ne (hm b _ q λz=>z)];exact q,λb u xs q=>by rw[upd_ne (hm b _ q λz=>z)];exact q,λb ps q=>⟨#[],by rw[upd_ne (hm b _ q λz=>z),q];simp⟩⟩
 by_cases a1:b=e
 ·subst a1;exact a2
 ·exact⟨u,k b u a1 q⟩
end
def trk(h:Heap)(H:Hp):List Addr:=(List.range h.objs.size).filter λa=>(H a).isSome
def Lz(h:Heap)(H:Hp):Heap:=PySem.W.hideAll h (trk h H)
theorem Aba(h:Heap)(H:Hp):(Lz h H).objs.size=h.objs.size:=PySem.W.hideAll_size _ _
theorem Ack{H:Hp}{b:Addr}{o:Obj}(e:h.get? b=some o)(n:H b=none):(Lz h H).get? b=some o:=
 PySem.W.hideAll_get _ e λhm=>by
  have q:(H b).isSome=true:=(mem_filter.mp hm).2;rw[n]at q;simp at q
theorem AdU{H:Hp}{b:Addr}{o:Obj}(e:(Lz h H).get? b=some o):h.get? b=some o/\H b=none:=by
 have e':h.get? b=some o:=PySem.W.of_hideAll (trk h H) e;refine⟨e',?_⟩;cases q:H b with
 |none=>rfl
 |some x=>
  have hm:b∈trk h H:=mem_filter.mpr ⟨mem_range.mpr (Heap.lt_size e'),by simp[q]⟩;have z:(Lz h H).get? b=none:=PySem.W.hideAll_none (trk h H) hm;rw[z]at e;cases e
def Adb(g h:Heap)(L:Addr):List (Addr×Obj):=(List.range h.objs.size).filterMap λa=>if a=L\/(g.get? a).isSome=true then none else(h.get? a).map λo=>(a,o)
def rest(g h:Heap)(L d:Addr):List (Addr×Obj):=(Adb g h L).filter λp=>decide (p.1≠d)
structure Mod(K:FA)(mg:Str->Option Value)(base:Heap):Prop where
 kin:K.In base
 glob:base.Ns mainGlobals mg
 blt:∃mb,base.Ns builtinsNs mb/\∀x:Str,x≠ "__name__" -> mb x=bootBuiltins x
 nolimit:base.NoLimit
structure Cx where
 prog:Program
 w:World
 K:FA
 mg:Str->Option Value
 base:Heap
 A:Around
 N:List Str
 s₀:Shared
 H₀:Hp
 env:Env
 outer:List Env
 stack:List Env
 ex:List Addr
 fn:Str->Bool
 calm:Bool
 pn:List (Addr×Obj)
 xe:Value->Shared->Prop
def frs(l:List Env):List Addr:=l.filterMap (·.frame)
abbrev Cx.fs(X:Cx):List Addr:=frs X.outer
def Vis(sc:Scope)(x:Str):Prop:=sc.names.lookup x=some .local\/sc.names.lookup x=some .cell\/sc.names.lookup x=some .free
def Loc(sc:Scope)(x:Str):Prop:=sc.names.lookup x=some .local\/sc.names.lookup x=some .cell
def Aeo(env:Env)(h:Heap)(m:Str->Option Value)(x:Str)(u:Value):Prop:=
 (env.kindOf x=some .local/\m x=some u)\/((env.kindOf x=some .cell\/env.kindOf x=some .free)/\∃c,env.cells.lookup x=some c/\h.IsCell c (some u))
structure Cx.Ok(X:Cx):Prop where
 mod:Mod X.K X.mg X.base
 kind:X.env.scope.kind=.function
 glob:X.env.globals=mainGlobals
 blt:X.env.builtins=builtinsNs
 above:X.s₀.heap.objs.size<=X.env.locals
 inj:∀x y c,X.env.cells.lookup x=some c->X.env.cells.lookup y=some c->x=y
 has:∀x,(X.env.kindOf x=some .cell\/X.env.kindOf x=some .free)->∃c,X.env.cells.lookup x=some c
 cab:∀x c,X.fn x=true->X.env.cells.lookup x=some c->X.s₀.heap.objs.size<=c
 hd:X.calm=true->X.A.handled=none
 frames:X.A.frames=some X.stack
 stk:X.stack=X.outer\/(X.stack=X.env::X.outer/\X.env.frame=some X.env.locals)
 exf:∀b∈X.ex,b≠X.env.locals/\∀x c,X.env.cells.lookup x=some c->c≠b
 bs:∀b o,X.base.get? b=some o->X.s₀.heap.get? b=some o/\X.H₀ b=none
 bsz:X.base.objs.size<=X.s₀.heap.objs.size
 noex:∀b o,X.base.get? b=some o->b∉X.ex
 exfs:∀b∈X.ex,b∉X.fs
 funs:X.s₀.heap.FunFrames X.base X.outer
 frf:∀b∈X.fs,X.H₀ b=none
structure Inv(X:Cx)(pins:List (Addr×Obj))(σ:List (Option V))(H:Hp)(s:Shared):Prop where
 ok:X.Ok
 os:s.os=X.s₀.os
 bare:AllBare s.gens
 base:Un X.fs X.ex X.H₀ H X.s₀.heap s.heap
 loc:∃m,s.heap.Ns X.env.locals m/\∀(i:Nat)(x:Str)(v:V),X.N[i]?=some x->σ[i]?=some (some v)->Vis X.env.scope x->∃u,A7 v u/\Aeo X.env s.heap m x u
 cell:∀x c,X.env.cells.lookup x=some c->∃v,s.heap.IsCell c v
 free:H X.env.locals=none
 freeC:∀x c,X.env.cells.lookup x=some c->H c=none
 pin:∀p∈X.pn++pins,s.heap.get? p.1=some p.2/\H p.1=none/\p.1≠X.env.locals/\p.1∉X.fs/\∀v,p.2.data≠.cell v
 hok:HOk X.prog X.w H s.heap
 len:σ.length=X.N.length
section
variable{X:Cx}{σ:List (Option V)}{H H':Hp}{s:Shared}
theorem Cx.Ok.nofr(ok:X.Ok){b:Addr}{o:Obj}(e:X.base.get? b=some o):b∉X.fs:=λz=>by
 have:=(ok.funs.mem z).1;rw[e]at this;cases this
theorem Inv.bs(I:Inv X pins σ H s):∀b o,X.base.get? b=some o->s.heap.get? b=some o/\H b=none:=λb o e=>
 ⟨I.base.keep b o (I.ok.bs b o e).1 (I.ok.bs b o e).2 (I.ok.nofr e) (I.ok.noex b o e),I.base.free b o (I.ok.bs b o e).1 (I.ok.bs b o e).2 (I.ok.noex b o e)⟩
theorem Inv.bk(I:Inv X pins σ H s):∀b o,X.base.get? b=some o->s.heap.get? b=some o:=λb o e=>(I.bs b o e).1
theorem Inv.mod(I:Inv X pins σ H s):Mod X.K X.mg X.base:=I.ok.mod
theorem Inv.kIn(I:Inv X pins σ H s):X.K.In s.heap:=I.ok.mod.kin.keeps I.bk
theorem Inv.lt(I:Inv X pins σ H s):X.env.locals<s.heap.objs.size:=let ⟨_,hn,_⟩:=I.loc;hn.lt
theorem Inv.sz(I:Inv X pins σ H s):X.s₀.heap.objs.size<=s.heap.objs.size:=uY I.ok.above (le_of_lt I.lt)
theorem Inv.nofs(I:Inv X pins σ H s)(h:s.heap.objs.size<=a):a∉X.fs:=λz=>by
 obtain⟨_,o,ho,_⟩:=I.ok.funs.mem z;exact absurd (vA (Heap.lt_size ho) (uY I.sz h)) (lt_irrefl _)
theorem Inv.cne(I:Inv X pins σ H s):∀x c,X.env.cells.lookup x=some c->c≠X.env.locals:=λx c e z=>by
 obtain⟨v,o,ho,hd⟩:=I.cell x c e;obtain⟨m,⟨o',es,ep,a2,a1,_⟩,_⟩:=I.loc;rw[z,a2]at ho;cases ho;rw[a1]at hd;cases hd
theorem Inv.funs(I:Inv X pins σ H s):s.heap.FunFrames X.base X.outer:=by
 have all:∀(l:List Env),(∀b∈frs l,b∈X.fs)->X.s₀.heap.FunFrames X.base l->s.heap.FunFrames X.base l:=by
  intro l
  induction l with
  |nil=>intro _ _;trivial
  |cons env r ih=>
   intro hs hl;obtain⟨hk,⟨L,o,hf,hn,ho,hd⟩,hr⟩:=hl;have hL:L∈X.fs:=hs L (by unfold frs;rw[filterMap_cons,hf];exact uF);obtain⟨sl,e⟩:=I.base.slot L o ho (I.ok.frf L hL) hL λz=>I.ok.exfs L z hL
   exact⟨hk,⟨L,_,hf,hn,e,hd⟩,ih (λb hb=>hs b (by unfold frs;rw[filterMap_cons,hf];exact uG _ hb)) hr⟩
 exact all X.outer (λ_ hb=>hb) I.ok.funs
theorem Inv.stack(I:Inv X pins σ H s):s.heap.FunFrames X.base X.stack:=by
 rcases I.ok.stk with e|⟨e,z⟩
 ·rw[e];exact I.funs
 ·rw[e]
  obtain⟨m,hn,_⟩:=I.loc;refine .cons (by rw[I.ok.kind];decide) z hn ?_ I.funs;exact Heap.get?_none_of_le (uY I.ok.bsz I.ok.above)
theorem Inv.stkSub(I:Inv X pins σ H s):∀b∈frs X.stack,b∈X.env.locals::X.fs:=λb z=>by
 rcases I.ok.stk with e|⟨e,hf⟩
 ·rw[e]at z;exact uG _ z
 ·rw[e]at z
  unfold frs at z;rw[filterMap_cons,hf]at z;exact z
theorem Inv.stkFree(I:Inv X pins σ H s):∀b∈frs X.stack,H b=none:=λb hb=>by
 rcases vJ.mp (I.stkSub b hb) with e|hb
 ·rw[e];exact I.free
 ·obtain⟨_,o,ho,_⟩:=I.ok.funs.mem hb
  exact I.base.free b o ho (I.ok.frf b hb) λz=>I.ok.exfs b z hb
theorem Inv.step{g':Array GenState}{t':Nat}{d':Drawn}{ch:List Addr}(I:Inv X pins σ H s)
  (a1:∀b∈ch,(b∈X.ex\/X.s₀.heap.objs.size<=b)/\b≠X.env.locals/\(∀x c,X.env.cells.lookup x=some c->c≠b)/\∀p∈X.pn++pins,p.1≠b)
  (keep:∀b o,b≠X.env.locals->b∉X.fs->b∉ch->s.heap.get? b=some o->H b=none->h'.get? b=some o)
  (slot:∀b o,b≠X.env.locals->b∈X.fs->b∉ch->s.heap.get? b=some o->H b=none->∃sl,h'.get? b=some {o with slots:=sl}) (free:∀b o,b∉ch->s.heap.get? b=some o->H b=none->H' b=none)
  (there:∀b o,b∉ch->s.heap.get? b=some o->∃o',h'.get? b=some o')
  (tups:∀b xs,H b=some (.tup xs)->H' b=some (.tup xs)) (frzs:∀b o u,H b=some (.frz o u)->H' b=some (.frz o u)) (tbls:∀b ps,H b=some (.tbl ps)->∃more,H' b=some (.tbl (ps++more)))
  (ns:∀m,s.heap.Ns X.env.locals m->h'.Ns X.env.locals m) (hok:HOk X.prog X.w H' h') (hg:AllBare g') :
  Inv X pins σ H' {s with heap:=h',gens:=g',drawn:=d',toks:=t' }:=by
 have a5:∀b o,X.s₀.heap.get? b=some o->b≠X.env.locals:=λb o e=>vC (vA (Heap.lt_size e) I.ok.above)
 have a4:∀b o,X.s₀.heap.get? b=some o->b∉X.ex->b∉ch:=λb o e hx hb=>by
  rcases(a1 b hb).1 with z|z
  ·exact hx z
  ·exact absurd (vA (Heap.lt_size e) z) (lt_irrefl _)
 have a3:∀x c,X.env.cells.lookup x=some c->∀v,s.heap.IsCell c v->h'.IsCell c v:=λx c e v ⟨o,ho,hd⟩=>by
  have a2:c∉ch:=λz=>(a1 c z).2.2.1 x c e rfl
  by_cases hc:c∈X.fs
  ·obtain⟨sl,q⟩:=slot c o (I.cne x c e) hc a2 ho (I.freeC x c e)
   exact⟨_,q,hd⟩
  ·exact⟨o,keep c o (I.cne x c e) hc a2 ho (I.freeC x c e),hd⟩
 refine⟨I.ok,I.os,hg,⟨λb o e n hb hx=>?_,λb o e n hb hx=>?_,λb o e n hx=>?_,λb o e hx=>?_,λb xs e=>tups b xs (I.base.tups b xs e),λb o xs e=>frzs b o xs (I.base.frzs b o xs e),λb ps e=>?_⟩,?_,λx c e=>?_,?_,λx c e=>?_,λp hp=>?_,hok,I.len⟩
 ·exact keep b o (a5 b o e) hb (a4 b o e hx) (I.base.keep b o e n hb hx) (I.base.free b o e n hx)
 ·obtain⟨sl,e1⟩:=I.base.slot b o e n hb hx
  obtain⟨a6,e2⟩:=slot b _ (a5 b o e) hb (a4 b o e hx) e1 (I.base.free b o e n hx);exact⟨a6,e2⟩
 ·obtain⟨o',e1⟩:=I.base.there b o e hx
  exact free b o' (a4 b o e hx) e1 (I.base.free b o e n hx)
 ·obtain⟨o',e1⟩:=I.base.there b o e hx
  exact there b o' (a4 b o e hx) e1
 ·obtain⟨m1,e1⟩:=I.base.tbls b ps e
  obtain⟨m2,e2⟩:=tbls b _ e1;exact⟨m1++m2,by rw[e2,Array.append_assoc]⟩
 ·obtain⟨m,hn,hl⟩:=I.loc
  refine⟨m,ns m hn,λi x v e1 e2 e3=>?_⟩;obtain⟨u,r,l⟩:=hl i x v e1 e2 e3;refine⟨u,r,?_⟩;rcases l with l|⟨k,c,e,z⟩
  ·exact .inl l
  ·exact .inr ⟨k,c,e,a3 x c e _ z⟩
 ·obtain⟨v,z⟩:=I.cell x c e
  exact⟨v,a3 x c e v z⟩
 ·obtain⟨m,⟨o,_,_,ho,_⟩,_⟩:=I.loc
  exact free _ o (λz=>(a1 _ z).2.1 rfl) ho I.free
 ·obtain⟨v,o,ho,hd⟩:=I.cell x c e
  exact free c o (λz=>(a1 c z).2.2.1 x c e rfl) ho (I.freeC x c e)
 ·obtain⟨e,n,ne,nf,d⟩:=I.pin p hp
  have a2:p.1∉ch:=λz=>(a1 p.1 z).2.2.2 p hp rfl
  exact⟨keep p.1 p.2 ne nf a2 e n,free p.1 p.2 a2 e n,ne,nf,d⟩
theorem Inv.un{t':Nat}(I:Inv X pins σ H s)(u:Un X.fs [] H H' s.heap h')(hok:HOk X.prog X.w H' h'):Inv X pins σ H' {s with heap:=h',toks:=t' }:=by
 obtain⟨m,⟨o,es,ep,ho,r⟩,_⟩:=id I.loc;obtain⟨sl,hL⟩:=u.any ho I.free (by simp)
 exact I.step (g':=s.gens) (d':=s.drawn) (ch:=[]) (λ_ z=>nomatch z) (λb o _ hb _ e n=>u.keep b o e n hb (by simp)) (λb o _ hb _ e n=>u.slot b o e n hb (by simp)) (λb o _ e n=>u.free b o e n (by simp)) (λb o _ e=>u.there b o e (by simp)) u.tups u.frzs u.tbls (λm' hm=>by
  obtain⟨o',a2,a3,a1,r'⟩:=hm;rw[ho]at a1;cases a1;exact⟨_,a2,a3,hL,r'⟩) hok I.bare
theorem Inv.call{g':Array GenState}{t':Nat}{d':Drawn}{ch:List Addr}(I:Inv X pins σ H s)(u:Un (frs X.stack) ch H H' s.heap h')(hok:HOk X.prog X.w H' h')(hg:AllBare g')
  (a1:∀b∈ch,(b∈X.ex\/X.s₀.heap.objs.size<=b)/\b≠X.env.locals/\(∀x c,X.env.cells.lookup x=some c->c≠b)/\∀p∈X.pn++pins,p.1≠b) :
  Inv X pins σ H' {s with heap:=h',gens:=g',drawn:=d',toks:=t' }:=by
 obtain⟨m,⟨o,es,ep,ho,r⟩,_⟩:=id I.loc;obtain⟨sl,hL⟩:=u.any ho I.free λz=>(a1 _ z).2.1 rfl
 exact I.step (ch:=ch) a1 (λb o hL hb hc e n=>u.keep b o e n (λz=>(vJ.mp (I.stkSub b z)).elim hL hb) hc) (λb o _ _ hc e n=>u.any e n hc) (λb o hc e n=>u.free b o e n hc) (λb o hc e=>u.there b o e hc) u.tups u.frzs u.tbls (λm' hm=>by
  obtain⟨o',a3,a4,a2,r'⟩:=hm;rw[ho]at a2;cases a2;exact⟨_,a3,a4,hL,r'⟩) hok hg
theorem Inv.turned{t':Nat}{it:Addr}(I:Inv X pins σ H s)(k:∀b o,b≠it->s.heap.get? b=some o->h'.get? b=some o)(hn:H it=none)(hL:it≠X.env.locals)
  (h1:it∈X.ex\/X.s₀.heap.objs.size<=it) (h2:∀x c,X.env.cells.lookup x=some c->c≠it) (h3:∀p∈X.pn++pins,p.1≠it):Inv X pins σ H {s with heap:=h',toks:=t' }:=by
 have a1:∀b u,H b=some u->b≠it:=λb u e z=>by rw[z,hn]at e;cases e
 refine I.step (g':=s.gens) (d':=s.drawn) (ch:=[it]) (λb hb=>?_) (λb o _ _ hc e _=>k b o (λz=>hc (by simp[z])) e) (λb o _ _ hc e _=>⟨o.slots,k b o (λz=>hc (by simp[z])) e⟩) (λ_ _ _ _ n=>n)
  (λb o hc e=>⟨o,k b o (λz=>hc (by simp[z])) e⟩) (λ_ _ e=>e) (λ_ _ _ e=>e) (λb ps e=>⟨#[],by rw[e];simp⟩) (λm hm=>?_) (λb u e=>?_) I.bare
 ·have e:b=it:=by simpa using hb
  subst e;exact⟨h1,hL,h2,h3⟩
 ·obtain⟨o,es,ep,ho,r⟩:=hm
  exact⟨o,es,ep,k _ o (Ne.symm hL) ho,r⟩
 ·refine(I.hok b u e).stay (λc v hc q=>k c v ?_ q) (λ_ q=>q) λ_ _ q=>q
  rcases hc with z|z
  ·rw[z];exact a1 b u e
  ·exact a1 c _ z
theorem Inv.tok(I:Inv X pins σ H s)(t:Nat):Inv X pins σ H {s with toks:=t}:=I.un (h':=s.heap) (t':=t) Un.refl I.hok
theorem Inv.kept{t':Nat}(I:Inv X pins σ H s)(k:∀b u,s.heap.get? b=some u->h'.get? b=some u):Inv X pins σ H {s with heap:=h',toks:=t' }:=I.un (Un.kept k) (I.hok.kept k)
theorem Inv.laid{o:HO}{t':Nat}(I:Inv X pins σ H s)(k:∀b u,s.heap.get? b=some u->h'.get? b=some u)(hp:s.heap.objs.size<=a)(new:B1 X.prog X.w (upd H a o) h' a o) :
  Inv X pins σ (upd H a o) {s with heap:=h',toks:=t' }:=I.un (Un.laid k hp (I.hok.fresh hp)) (I.hok.laid k hp new)
theorem Inv.write{x e:Addr}{o:HO}{t':Nat}(I:Inv X pins σ H s)(mu:Mut (H x))(he:e=x\/H e=some (.own x))(k:∀b u,b≠e->s.heap.get? b=some u->h'.get? b=some u)(z:∃u,h'.get? e=some u)
  (new:B1 X.prog X.w (upd H x o) h' x o):Inv X pins σ (upd H x o) {s with heap:=h',toks:=t' }:=I.un (Un.write mu he k z) (I.hok.write mu he k z new)
theorem Inv.weak{z:List (Option V)}(I:Inv X pins σ H s)(hl:z.length=σ.length)(w:∀(i:Nat)v,z[i]?=some (some v)->σ[i]?=some (some v)):Inv X pins z H s:=
 ⟨I.ok,I.os,I.bare,I.base,let ⟨m,hn,hl'⟩:=I.loc;⟨m,hn,λi x v e1 e2 e3=>hl' i x v e1 (w i v e2) e3⟩,I.cell,I.free,I.freeC,I.pin,I.hok,hl.trans I.len⟩
theorem Inv.pins_of{a1:List (Addr×Obj)}(I:Inv X pins σ H s)(h:∀p∈a1,s.heap.get? p.1=some p.2/\H p.1=none/\p.1≠X.env.locals/\p.1∉X.fs/\∀v,p.2.data≠.cell v):Inv X a1 σ H s:=
 ⟨I.ok,I.os,I.bare,I.base,I.loc,I.cell,I.free,I.freeC,λp hp=>(uW.mp hp).elim (λz=>I.pin p (vX _ z)) (h p),I.hok,I.len⟩
theorem Tc{N:List Str}(z:N.Nodup){i j:Nat}(a:N[i]?=some x)(b:N[j]?=some x):i=j:=by
 obtain⟨h1,e1⟩:=List.getElem?_eq_some_iff.mp a;obtain⟨h2,e2⟩:=List.getElem?_eq_some_iff.mp b;exact(List.getElem_inj z).mp (e1.trans e2.symm)
theorem Aa4{M:Model}{i:Nat}{v:V}{Q:Unit->Shared->Prop}(I:Inv X pins σ H s)(hN:X.N.Nodup)(hi:X.N[i]?=some x)(hx:Loc X.env.scope x)(r:A7 v u)
  (h:∀s',Inv X pins (σ.set i (some v)) H s'->(∃a,Heap.SameBut a s.heap s'.heap/\(a=X.env.locals\/X.env.cells.lookup x=some a))->Q () s') (hf:X.fn x=true\/X.env.scope.names.lookup x=some .local:=by first|exact .inl rfl|exact .inr rfl|assumption):wpAny M A (storeName X.env x u) Q E s:=by
 obtain⟨m,hn,hl⟩:=id I.loc;have a8:(X.env.scope.kind==.class || (X.env.scope.kind==.module&&X.env.locals != X.env.globals))=false:=by rw[I.ok.kind];rfl
 have a3:i<σ.length:=by rw[I.len];exact(List.getElem?_eq_some_iff.mp hi).1
 have cne:=I.cne
 have a1:∀{a:Addr}{h':Heap},(∃o,s.heap.get? a=some o/\H a=none)->Heap.SameBut a s.heap h'->HOk X.prog X.w H h':=λ{a h'}ha hs b ob e=>by
  obtain⟨_,_,a2⟩:=ha;refine(I.hok b ob e).stay (λc w' hc q=>(hs.2 c ?_).trans q) (λ_ q=>q) λ_ _ q=>q
  rintro rfl;rcases hc with rfl|hc
  ·rw[a2]at e;cases e
  ·rw[a2]at hc;cases hc
 rcases hx with hk|hk
 ·refine wpAny_storeName_local hk hn (λh' b2 hs=>?_) a8
  obtain⟨oL,_,_,b1,_⟩:=id hn;refine h _ ⟨I.ok,I.os,I.bare,⟨λb o e n hb hx=>?_,λb o e n hb hx=>?_,I.base.free,λb o e hx=>?_,I.base.tups,I.base.frzs,I.base.tbls⟩,⟨_,b2,λj y v' e1 e2 e3=>?_⟩,λy c e=>?_,I.free,I.freeC,λp hp=>?_,a1 ⟨oL,b1,I.free⟩ hs,by simpa using I.len⟩ ⟨_,hs,.inl rfl⟩
  ·exact(hs.2 b (vC (vA (Heap.lt_size e) I.ok.above))).trans (I.base.keep b o e n hb hx)
  ·obtain⟨sl,e1⟩:=I.base.slot b o e n hb hx
   exact⟨sl,(hs.2 b (vC (vA (Heap.lt_size e) I.ok.above))).trans e1⟩
  ·obtain⟨o',e1⟩:=I.base.there b o e hx
   exact⟨o',(hs.2 b (vC (vA (Heap.lt_size e) I.ok.above))).trans e1⟩
  ·by_cases hj:j=i
   ·subst hj
    rw[hi]at e1;cases e1;rw[vP a3]at e2;cases e2
    exact⟨u,r,.inl ⟨hk,by simp⟩⟩
   ·rw[vN (Ne.symm hj)]at e2
    obtain⟨u',r',q⟩:=hl j y v' e1 e2 e3;refine⟨u',r',?_⟩;rcases q with⟨k,e⟩|⟨k,c,e,z⟩
    ·refine .inl ⟨k,?_⟩
     have:y≠x:=λe=>hj (Tc hN e1 (e▸hi))
     simp[this,e]
    ·exact .inr ⟨k,c,e,z.sameBut hs (cne y c e)⟩
  ·obtain⟨w',z⟩:=I.cell y c e
   exact⟨w',z.sameBut hs (cne y c e)⟩
  ·obtain⟨e,n,ne,nf,d⟩:=I.pin p hp
   exact⟨(hs.2 p.1 ne).trans e,n,ne,nf,d⟩
 ·have a4:X.fn x=true:=by
   rcases hf with z|z
   ·exact z
   ·rw[z]at hk;cases hk
  obtain⟨c,hc⟩:=I.ok.has x (.inl hk);obtain⟨w',z⟩:=I.cell x c hc;refine wpAny_storeName_cell I.ok.kind hk hc z (λh' a5 hs=>?_);obtain⟨oc,a7,a9⟩:=id z;refine h {s with heap:=h' } ⟨I.ok,I.os,I.bare,⟨λb o e n hb hx=>?_,λb o e n hb hx=>?_,I.base.free,λb o e hx=>?_,I.base.tups,I.base.frzs,I.base.tbls⟩,⟨m,hn.sameBut hs (Ne.symm (cne x c hc)),λj y v' e1 e2 e3=>?_⟩,λy c' e=>?_,I.free,I.freeC,λp hp=>?_,a1 ⟨oc,a7,I.freeC x c hc⟩ hs,by simpa using I.len⟩ ⟨c,hs,.inr hc⟩
  ·exact(hs.2 b (vC (vA (Heap.lt_size e) (I.ok.cab x c a4 hc)))).trans (I.base.keep b o e n hb hx)
  ·obtain⟨sl,e1⟩:=I.base.slot b o e n hb hx
   exact⟨sl,(hs.2 b (vC (vA (Heap.lt_size e) (I.ok.cab x c a4 hc)))).trans e1⟩
  ·obtain⟨o',e1⟩:=I.base.there b o e hx
   exact⟨o',(hs.2 b (vC (vA (Heap.lt_size e) (I.ok.cab x c a4 hc)))).trans e1⟩
  ·by_cases hj:j=i
   ·subst hj
    rw[hi]at e1;cases e1;rw[vP a3]at e2;cases e2
    exact⟨u,r,.inr ⟨.inl hk,c,hc,a5⟩⟩
   ·rw[vN (Ne.symm hj)]at e2
    obtain⟨u',r',q⟩:=hl j y v' e1 e2 e3;refine⟨u',r',?_⟩;rcases q with q|⟨k,c',e,z'⟩
    ·exact .inl q
    ·refine .inr ⟨k,c',e,z'.sameBut hs ?_⟩
     rintro rfl;exact hj (Tc hN e1 (I.ok.inj _ _ _ e hc▸hi))
  ·by_cases a6:c'=c
   ·subst a6;exact⟨_,a5⟩
   ·obtain⟨w2,z2⟩:=I.cell y c' e
    exact⟨w2,z2.sameBut hs a6⟩
  ·obtain⟨e,n,ne,nf,d⟩:=I.pin p hp
   refine⟨(hs.2 p.1 ?_).trans e,n,ne,nf,d⟩;intro q;rw[q,a7]at e;have q':oc=p.2:=Option.some.inj e;exact d w' (by rw[<-q'];exact a9)
theorem Ov{M:Model}{i:Nat}{v:V}{Q:Unit->Shared->Prop}(I:Inv X pins σ H s)(hN:X.N.Nodup)(hi:X.N[i]?=some x)(hx:Loc X.env.scope x)(r:A7 v u)
  (h:∀s',Inv X pins (σ.set i (some v)) H s'->Q () s') (hf:X.fn x=true\/X.env.scope.names.lookup x=some .local:=by first|exact .inl rfl|exact .inr rfl|assumption):wpAny M A (storeName X.env x u) Q E s:=
 Aa4 I hN hi hx r (λs' z _=>h s' z) hf
theorem Inv.call'{s':Shared}{ch:List Addr}(I:Inv X pins σ H s)(ho:s'.os=s.os)(u:Un (frs X.stack) ch H H' s.heap s'.heap)(hok:HOk X.prog X.w H' s'.heap)(hg:AllBare s'.gens)
  (z:∀b∈ch,(b∈X.ex\/X.s₀.heap.objs.size<=b)/\b≠X.env.locals/\(∀x c,X.env.cells.lookup x=some c->c≠b)/\∀p∈X.pn++pins,p.1≠b):Inv X pins σ H' s':=by
 obtain⟨h',g',d',t',o'⟩:=s';have e:o'=s.os:=ho;subst e;exact I.call (g':=g') (t':=t') (d':=d') u hok hg z
end
abbrev XK:=Value->Option Addr->Hp->Prop
abbrev St:=List (Option V)
abbrev VK:=V->Hp->Prop
abbrev TE:=St->Hp->VK->Prop
abbrev TT:=St->Hp->(Bool->Hp->Prop)->Prop
abbrev TA:=St->Hp->(List V->Hp->Prop)->Prop
structure Jn where
 nx:St->Hp->Prop
 rt:VK
 bk:St->Hp->Prop:=λ_ _=>False
 ct:St->Hp->Prop:=λ_ _=>False
abbrev TS:=Jn->St->Hp->Prop
def EP(X:Cx)(pins:List (Addr×Obj))(σ:St)(Q:VK)(u:Value)(s':Shared):Prop:=∃v H',Inv X pins σ H' s'/\A7 v u/\Q v H'
def TP(X:Cx)(pins:List (Addr×Obj))(σ:St)(Q:Bool->Hp->Prop)(b:Bool)(s':Shared):Prop:=∃H',Inv X pins σ H' s'/\Q b H'
def AP(X:Cx)(pins:List (Addr×Obj))(σ:St)(Q:List V->Hp->Prop)(us:List Value)(s':Shared):Prop:=∃vs H',Inv X pins σ H' s'/\A8 vs us/\Q vs H'
def SP(X:Cx)(pins:List (Addr×Obj))(D:Jn)(f:Flow)(s':Shared):Prop:=
 match f with
 |.next=>∃σ' H',Inv X pins σ' H' s'/\D.nx σ' H'
 |.brk=>∃σ' H',Inv X pins σ' H' s'/\D.bk σ' H'
 |.cont=>∃σ' H',Inv X pins σ' H' s'/\D.ct σ' H'
 |.ret u=>∃v σ' H',Inv X pins σ' H' s'/\A7 v u/\D.rt v H'
def PE(X:Cx)(e:Expr)(t:TE):Prop:=
 ∀(pins:List (Addr×Obj))(s:Shared)(σ:St)(H:Hp)(Q:VK),Inv X pins σ H s->t σ H Q->wpAny (model X.prog X.w) X.A (eval e X.env) (EP X pins σ Q) X.xe s
def PT(X:Cx)(e:Expr)(t:TT):Prop:=
 ∀(pins:List (Addr×Obj))(s:Shared)(σ:St)(H:Hp)(Q:Bool->Hp->Prop),Inv X pins σ H s->t σ H Q->wpAny (model X.prog X.w) X.A (isTrue e X.env (eval e X.env)) (TP X pins σ Q) X.xe s
def PW(X:Cx)(e:Expr)(t:TT):Prop:=
 ∀(whole:Sem Value)(pins:List (Addr×Obj))(s:Shared)(σ:St)(H:Hp)(Q:Bool->Hp->Prop),Inv X pins σ H s->t σ H Q->wpAny (model X.prog X.w) X.A (isTrue e X.env whole) (TP X pins σ Q) X.xe s
theorem PW.pt{X:Cx}{t:TT}(h:PW X e t):PT X e t:=h _
def PA(X:Cx)(es:List Expr)(t:TA):Prop:=
 ∀(pos:Pos)(pins:List (Addr×Obj))(s:Shared)(σ:St)(H:Hp)(Q:List V->Hp->Prop),Inv X pins σ H s->t σ H Q->wpAny (model X.prog X.w) X.A (spliced (backTo pos (starEach es X.env))) (AP X pins σ Q) X.xe s
def PS(X:Cx)(st:Stmt)(t:TS):Prop:=
 ∀(pins:List (Addr×Obj))(s:Shared)(σ:St)(H:Hp)(D:Jn),Inv X pins σ H s->t D σ H->wpAny (model X.prog X.w) X.A (exec st X.env) (SP X pins D) X.xe s
def PSs(X:Cx)(st:List Stmt)(t:TS):Prop:=
 ∀(pins:List (Addr×Obj))(s:Shared)(σ:St)(H:Hp)(D:Jn),Inv X pins σ H s->t D σ H->wpAny (model X.prog X.w) X.A (execs st X.env) (SP X pins D) X.xe s
theorem thn{α:Type}{t:Sem α}{Q z:α->Shared->Prop}{M:Model}{s:Shared}(h:wpAny M A t Q E s)(hQ:∀a s,Q a s->z a s):wpAny M A t z E s:=vV h hQ λ_ _ x=>x
end L2
variable{H H' H2:L2.Hp}{σ:L2.St}{X:L2.Cx}{te ta tb:L2.TE}{xs:List L2.V}{Q:L2.VK}
namespace L2
open PySem PySem.Spec PyProof.Rows
section
abbrev A5(i:Nat):TE:=λσ H Q=>match σ[i]? with
 |some (some v)=>Q v H
 |_=>False
theorem Vp{i:Nat}(h:A5 i σ H Q):∃v,σ[i]?=some (some v)/\Q v H:=by
 unfold A5 at h;split at h
 ·exact⟨_,by assumption,h⟩
 ·exact h.elim
theorem Jc{i:Nat}{z:VK}(h:∀v H,Q v H->z v H)(q:A5 i σ H Q):A5 i σ H z:=by
 obtain⟨v,e,q⟩:=Vp q;unfold A5;rw[e];exact h _ _ q
def tC(v:V):TE:=λ_ H Q=>Q v H
theorem AfM{i:Nat}(hN:X.N[i]?=some x)(hv:Vis X.env.scope x)(hd:(x==("__debug__": Str))=false:=by decide)(a2:(x==("__classdict__": Str))=false:=by decide):PE X (.Name x pos) (A5 i):=by
 intro pins s σ H Q I h;obtain⟨v,e,h⟩:=Vp h;obtain⟨m,hn,hl⟩:=I.loc;obtain⟨u,r,l⟩:=hl i x v hN e hv;have a1:EP X pins σ Q u s:=⟨v,H,I,r,h⟩;rcases l with⟨hk,hm⟩|⟨hk,c,hc,z⟩
 ·exact wpAny_Name (wpAny_loadName_local I.ok.kind hk hn hm a1) hd
 ·rcases hk with hk|hk
  ·exact wpAny_Name (wpAny_loadName_cell I.ok.kind hk hc z a1) hd
  ·exact wpAny_Name (wpAny_loadName_free I.ok.kind hk hc z a1 a2) hd
theorem Af{i j pos}:PE X (.Constant (.int i) j pos) (tC (.int i)):=λ_ _ _ H _ I h=>wpAny_Constant_int ⟨.int i,H,I.tok _,⟨_,Z⟩,h⟩
theorem Dr{b j pos}:PE X (.Constant (.bool b) j pos) (tC (.bl b)):=λ_ _ _ H _ I h=>Constant_bool ⟨.bl b,H,I,Z,h⟩
theorem B5{j pos}:PE X (.Constant .none j pos) (tC .non):=λ_ _ _ H _ I h=>Constant_none ⟨.non,H,I,Z,h⟩
theorem Ap{x j pos}:PE X (.Constant (.str x) j pos) (tC (.str x)):=λ_ _ _ H _ I h=>Calls.Constant_str ⟨.str x,H,I.tok _,⟨_,Z⟩,h⟩
def Gl(X:Cx)(x:Str):Prop:=X.env.kindOf x=some .globalImplicit
theorem Qx{s:Shared}{Q:Value->Shared->Prop}(I:Inv X pins σ H s)(hg:Gl X x)(hm:X.mg x=some u)(h:Q u s)
  (hd:(x==("__debug__": Str))=false:=by decide):wpAny (model X.prog X.w) X.A (eval (.Name x pos) X.env) Q E s:=
 Calls.Name_function_global I.ok.kind hg (Calls.loadGlobal_global (by rw[I.ok.glob];exact I.mod.glob.keeps I.bk) hm h) hd
theorem Hl{s:Shared}{Q:Value->Shared->Prop}(I:Inv X pins σ H s)(hg:Gl X x)(hm:X.mg x=none)(hv:bootBuiltins x=some u)(h:Q u s)
  (hn:x≠ "__name__":=by decide) (hd:(x==("__debug__": Str))=false:=by decide):wpAny (model X.prog X.w) X.A (eval (.Name x pos) X.env) Q E s:=by
 obtain⟨mb,h1,h2⟩:=I.mod.blt;exact Calls.Name_function_global I.ok.kind hg (Calls.loadGlobal_builtin (by rw[I.ok.glob];exact I.mod.glob.keeps I.bk) hm (by rw[I.ok.blt];exact h1.keeps I.bk) ((h2 x hn).trans hv) h) hd
theorem Bl{v:V}(hg:Gl X x)(hm:X.mg x=some u)(r:A7 v u)(hd:(x==("__debug__": Str))=false:=by decide):PE X (.Name x pos) (tC v):=
 λ_ _ _ H _ I h=>Qx I hg hm ⟨v,H,I,r,h⟩ hd
theorem Xc{v:V}(hg:Gl X x)(hm:X.mg x=none)(hv:bootBuiltins x=some u)(r:A7 v u)(hn:x≠ "__name__":=by decide)(hd:(x==("__debug__": Str))=false:=by decide):PE X (.Name x pos) (tC v):=
 λ_ _ _ H _ I h=>Hl I hg hm hv ⟨v,H,I,r,h⟩ hn hd
variable{a b:Expr}
def PC(X:Cx)(op:CmpOp)(a b:Expr)(t:TE):Prop:=
 ∀(pins:List (Addr×Obj))(s:Shared)(σ:St)(H:Hp)(Q:VK),Inv X pins σ H s->t σ H Q ->
  wpAny (model X.prog X.w) X.A (eval a X.env) (λv s₁=>wpAny (model X.prog X.w) X.A (eval b X.env) (λu s₂=>wpAny (model X.prog X.w) X.A (compareOp op v u) (EP X pins σ Q) X.xe s₂) X.xe s₁) X.xe s
abbrev isB(Q:Bool->Hp->Prop)(x:V)(H:Hp):Prop:=match x with
 |.bl c=>Q c H
 |_=>False
theorem Q6{x:V}{Q:Bool->Hp->Prop}(h:isB Q x H):∃c,x=.bl c/\Q c H:=by
 cases x<;>first|exact⟨_,Z,h⟩|exact h.elim
theorem O9{x:V}{Q z:Bool->Hp->Prop}(h:∀c H,Q c H->z c H)(q:isB Q x H):isB z x H:=by
 cases x<;>first|exact h _ _ q|exact q.elim
def tB(t:TE):TT:=λσ H Q=>t σ H (isB Q)
theorem Aad{op:CmpOp}{t:TE}(h:PC X op a b t)(h1:behindInMarks op b=false:=by first|exact nobehind _ (by decide) (by decide)|rfl):PT X (.Compare a [op] [b] pos) (tB t):=by
 intro pins s σ H Q I hw;refine wpAny_isTrue_Compare1 (thn (h pins s σ H _ I hw) λv s1 h1=>thn h1 λu s2 h2=>thn h2 λc s3 ⟨x,H1,I1,r1,z⟩=>?_) h1;obtain⟨d,rfl,q⟩:=Q6 z;cases r1
 exact wpAny_truthy_bool ⟨H1,I1,q⟩
theorem Mw{t:TE}(h:PE X e t)(he:∀z,isTrue e X.env z=(do let v <-z;standAt e.pos;holding [v] (truthy v)):=by intro _;rfl):PT X e (tB t):=by
 intro pins s σ H Q I hw;refine isTrue_plain (thn (h pins s σ H _ I hw) λv s1 ⟨x,H1,I1,r1,q1⟩=>?_) (he _);obtain⟨d,rfl,q⟩:=Q6 q1;cases r1
 exact wpAny_truthy_bool ⟨H1,I1,q⟩
variable{tA tB':TT}{rest:List Expr}
def Ag6(t u:TT):TT:=λσ H Q=>t σ H λc H1=>if c=true then u σ H1 Q else Q false H1
def tOr(t u:TT):TT:=λσ H Q=>t σ H λc H1=>if c=true then Q true H1 else u σ H1 Q
def AhA(t:TT):TT:=λσ H Q=>t σ H λc H1=>Q (!c) H1
theorem Ny(ha:PT X a tA):PW X (.BoolOp .And [a] pos) tA:=by
 intro z pins s σ H Q I h;refine isTrue_and (thn (ha pins s σ H Q I h) λc s1 e=>?_);cases c with
 |true=>exact isTrue_and_nil e
 |false=>exact e
theorem Fg(ha:PT X a tA):PW X (.BoolOp .Or [a] pos) tA:=by
 intro z pins s σ H Q I h;refine isTrue_or (thn (ha pins s σ H Q I h) λc s1 e=>?_);cases c with
 |false=>exact isTrue_or_nil e
 |true=>exact e
theorem Mm(ha:PT X a tA)(hb:PW X (.BoolOp .And (b::rest) pos) tB'):PW X (.BoolOp .And (a::b::rest) pos) (Ag6 tA tB'):=by
 intro wh pins s σ H Q I h;refine isTrue_and (thn (ha pins s σ H _ I h) λc s1 ⟨H1,I1,z⟩=>?_);cases c with
 |true=>exact hb wh pins s1 σ H1 Q I1 z
 |false=>exact⟨H1,I1,z⟩
theorem Gc(ha:PT X a tA)(hb:PW X (.BoolOp .Or (b::rest) pos) tB'):PW X (.BoolOp .Or (a::b::rest) pos) (tOr tA tB'):=by
 intro wh pins s σ H Q I h;refine isTrue_or (thn (ha pins s σ H _ I h) λc s1 ⟨H1,I1,z⟩=>?_);cases c with
 |true=>exact⟨H1,I1,z⟩
 |false=>exact hb wh pins s1 σ H1 Q I1 z
theorem Aff(ha:PT X a tA):PT X (.UnaryOp .Not a pos) (AhA tA):=by
 intro pins s σ H Q I h;exact isTrue_not (ha pins s σ H (λc H1=>Q (!c) H1) I h)
def Af9(ta tb:TE):TE:=λσ H Q=>ta σ H λx H1=>∃c,x=.bl c/\if c=true then tb σ H1 Q else Q (.bl false) H1
def Ag1(ta tb:TE):TE:=λσ H Q=>ta σ H λx H1=>∃c,x=.bl c/\if c=true then Q (.bl true) H1 else tb σ H1 Q
theorem Wd{op}{t:TE}(h:PE X a t):PE X (.BoolOp op [a] pos) t:=λpins s σ H Q I z=>BoolOp_one (h pins s σ H Q I z)
theorem Abn(ha:PE X a ta)(hb:PE X (.BoolOp .And (b::rest) pos) tb):PE X (.BoolOp .And (a::b::rest) pos) (Af9 ta tb):=by
 intro pins s σ H Q I h;refine BoolOp_and (thn (ha pins s σ H _ I h) λv s1 ⟨x,H1,I1,r1,z⟩=>?_);obtain⟨c,rfl,z⟩:=z;cases r1
 refine wpAny_truthy_bool ?_;cases c with
 |true=>exact hb pins s1 σ H1 Q I1 z
 |false=>exact⟨.bl false,H1,I1,rfl,z⟩
theorem Agi(ha:PE X a ta)(hb:PE X (.BoolOp .Or (b::rest) pos) tb):PE X (.BoolOp .Or (a::b::rest) pos) (Ag1 ta tb):=by
 intro pins s σ H Q I h;refine BoolOp_or (thn (ha pins s σ H _ I h) λv s1 ⟨x,H1,I1,r1,z⟩=>?_);obtain⟨c,rfl,z⟩:=z;cases r1
 refine wpAny_truthy_bool ?_;cases c with
 |false=>exact hb pins s1 σ H1 Q I1 z
 |true=>exact⟨.bl true,H1,I1,rfl,z⟩
def tIf(t:TT)(ta tb:TE):TE:=λσ H Q=>t σ H λc H1=>if c=true then ta σ H1 Q else tb σ H1 Q
theorem Br{c:Expr}(hc:PT X c tA)(ha:PE X a ta)(hb:PE X b tb):PE X (.IfExp c a b pos) (tIf tA ta tb):=by
 intro pins s σ H Q I h;refine wpAny_IfExp (thn (hc pins s σ H _ I h) λd s1 ⟨H1,I1,z⟩=>?_);cases d with
 |true=>exact ha pins s1 σ H1 Q I1 z
 |false=>exact hb pins s1 σ H1 Q I1 z
end
def SqL(K:FA)(H:Hp)(a:Addr)(xs:List V):Prop:=
 Rd H a (.lst xs) \/
  ∃(o:Obj)(its:Array Value)(n:Nat),K.lookup a=some o/\o.cls=.type "list" /\ o.dict=none/\o.data=.seq its n/\its.size<=sizeLine/\A8 xs its.toList
def SqT(K:FA)(H:Hp)(a:Addr)(xs:List V):Prop:=
 Rd H a (.tup xs) \/
  ∃(o:Obj)(its:Array Value)(n:Nat),K.lookup a=some o/\o.cls=.type "tuple" /\ o.data=.seq its n/\its.size<=sizeLine/\A8 xs its.toList
def AhW:Value->Option V
 |.none=>some .non
 |.bool b=>some (.bl b)
 |.int i _=>some (.int i)
 |.str x _=>some (.str x)
 |.bytes b _=>some (.byt b)
 |.float b _=>some (.flt b)
 |.ref a=>some (.ref a)
 |.type n=>some (.ty n)
 |_=>none
theorem A7.abs{x:V}(r:A7 x u):AhW u=some x:=by
 cases x with
 |non=>cases r;rfl
 |bl _=>cases r;rfl
 |int _=>obtain⟨t,rfl⟩:=r;rfl
 |str _=>obtain⟨t,rfl⟩:=r;rfl
 |byt _=>obtain⟨t,rfl⟩:=r;rfl
 |flt _=>obtain⟨t,rfl⟩:=r;rfl
 |ref _=>cases r;rfl
 |ty _=>cases r;rfl
theorem A7.inj{x y:V}(r:A7 x u)(q:A7 y u):x=y:=Option.some.inj (r.abs.symm.trans q.abs)
theorem A8.inj:∀{xs ys:List V}{us:List Value},A8 xs us->A8 ys us->xs=ys
 |_,_,_,.nil,.nil=>rfl
 |_,_,_,.cons r t,.cons r' t'=>by rw[r.inj r',A8.inj t t']
section
variable{s:Shared}{ys:List V}
theorem SqL.of(h:H a=some (.lst xs)):SqL K H a xs:=.inl (.inl h)
theorem SqT.of(h:H a=some (.tup xs)):SqT K H a xs:=.inl (.inl h)
theorem Inv.list(I:Inv X pins σ H s)(h:SqL X.K H a xs):∃a1:List Value,A8 xs a1/\PlainL s.heap a a1.toArray/\xs.length<=sizeLine:=by
 rcases h with h|⟨o,a1,n,hk,hc,hd,hs,hz,r⟩
 ·obtain⟨z,a1,n,r,e⟩:=h.ok I.hok
  exact⟨a1,r,⟨_,n,e,Z,Z,Z⟩,z⟩
 ·refine⟨a1.toList,r,⟨o,n,I.kIn a o hk,hc,hd,by simpa using hs⟩,?_⟩
  have e:=r.length;simp only[Array.length_toList]at e;omega
theorem Inv.tuple(I:Inv X pins σ H s)(h:SqT X.K H a xs):∃a1:List Value,A8 xs a1/\IsTup s.heap a a1.toArray/\xs.length<=sizeLine:=by
 rcases h with h|⟨o,a1,n,hk,hc,hs,hz,r⟩
 ·obtain⟨z,a1,r,p⟩:=h.ok I.hok
  exact⟨a1,r,p,z⟩
 ·refine⟨a1.toList,r,⟨o,I.kIn a o hk,hc,n,by simpa using hs⟩,?_⟩
  have e:=r.length;simp only[Array.length_toList]at e;omega
theorem Inv.list_inj(I:Inv X pins σ H s)(h:SqL X.K H a xs)(h':SqL X.K H a ys):xs=ys:=by
 obtain⟨z,r,⟨o,n,e,_,_,d⟩,_⟩:=I.list h;obtain⟨its',r',⟨o',n',e',_,_,d'⟩,_⟩:=I.list h';rw[e]at e';cases e';rw[d]at d';injection d' with d1 _;have:z=its':=by simpa using congrArg Array.toList d1
 subst this;exact r.inj r'
theorem Inv.tuple_inj(I:Inv X pins σ H s)(h:SqT X.K H a xs)(h':SqT X.K H a ys):xs=ys:=by
 obtain⟨z,r,⟨o,e,_,n,d⟩,_⟩:=I.tuple h;obtain⟨its',r',⟨o',e',_,n',d'⟩,_⟩:=I.tuple h';rw[e]at e';cases e';rw[d]at d';injection d' with d1 _;have:z=its':=by simpa using congrArg Array.toList d1
 subst this;exact r.inj r'
end
abbrev Cx.wish(X:Cx)(E:Value->Shared->Prop):Cx:={X with xe:=E}
abbrev Cx.nox(X:Cx):Cx:=X.wish λ_ _=>False
theorem Cx.Ok.wish(ok:X.Ok)(E:Value->Shared->Prop):(X.wish E).Ok:=
 ⟨ok.mod,ok.kind,ok.glob,ok.blt,ok.above,ok.inj,ok.has,ok.cab,ok.hd,ok.frames,ok.stk,ok.exf,ok.bs,ok.bsz,ok.noex,ok.exfs,ok.funs,ok.frf⟩
theorem Cx.Ok.unwish(ok:(X.wish E).Ok):X.Ok:=
 ⟨ok.mod,ok.kind,ok.glob,ok.blt,ok.above,ok.inj,ok.has,ok.cab,ok.hd,ok.frames,ok.stk,ok.exf,ok.bs,ok.bsz,ok.noex,ok.exfs,ok.funs,ok.frf⟩
section
variable{s:Shared}
theorem Inv.wish(I:Inv X pins σ H s)(E:Value->Shared->Prop):Inv (X.wish E) pins σ H s:=⟨I.ok.wish E,I.os,I.bare,I.base,I.loc,I.cell,I.free,I.freeC,I.pin,I.hok,I.len⟩
theorem Inv.unwish(I:Inv (X.wish E) pins σ H s):Inv X pins σ H s:=⟨I.ok.unwish,I.os,I.bare,I.base,I.loc,I.cell,I.free,I.freeC,I.pin,I.hok,I.len⟩
theorem SP.unwish{D:Jn}{f:Flow}{s':Shared}(h:SP (X.wish E) pins D f s'):SP X pins D f s':=by
 cases f with
 |next=>obtain⟨z,H',I,q⟩:=h;exact⟨z,H',I.unwish,q⟩
 |brk=>obtain⟨z,H',I,q⟩:=h;exact⟨z,H',I.unwish,q⟩
 |cont=>obtain⟨z,H',I,q⟩:=h;exact⟨z,H',I.unwish,q⟩
 |ret u=>obtain⟨v,z,H',I,r,q⟩:=h;exact⟨v,z,H',I.unwish,r,q⟩
theorem PSs.nox{st:List Stmt}{t:TS}(h:PSs X.nox st t):PSs X st t:=λpins s σ H D I hw=>
 vV (h pins s σ H D (I.wish _) hw) (λ_ _ q=>q.unwish) λ_ _ z=>False.elim z
end
section
variable{rest:List Stmt}{t u:TS}
def tNext:TS:=λD σ H=>D.nx σ H
def tSeq(t u:TS):TS:=λD σ H=>t {D with nx:=u D} σ H
theorem A0:PSs X [] tNext:=λ_ _ σ H _ I h=>wpAny_execs_nil ⟨σ,H,I,h⟩
theorem Ad(h1:PS X st t)(h2:PSs X rest u):PSs X (st::rest) (tSeq t u):=by
 intro pins s σ H D I h;refine wpAny_execs_cons (thn (h1 pins s σ H {D with nx:=u D} I h) λf s1 q=>?_);cases f with
 |next=>
  obtain⟨z,H',I',q⟩:=q;exact h2 pins s1 z H' D I' q
 |ret v=>exact q
 |brk=>exact q
 |cont=>exact q
theorem Ah(h1:PS X st t):PSs X [st] t:=by
 intro pins s σ H D I h;refine wpAny_execs_cons (thn (h1 pins s σ H D I h) λf s1 q=>?_);cases f with
 |next=>exact wpAny_execs_nil q
 |ret v=>exact q
 |brk=>exact q
 |cont=>exact q
theorem Inv.quiet{s:Shared}(I:Inv X pins σ H s):interactive X.env=false:=by simp[interactive,I.ok.kind]
def AgG(te:TE):TS:=λD σ H=>te σ H λ_ H1=>D.nx σ H1
theorem Be(he:PE X e te)(hs:swapsWith e none pos.line X.env=pure false:=by rfl):PS X (.Expr e pos) (AgG te):=by
 intro pins s σ H D I h;exact wpAny_Expr_any (thn (he pins s σ H _ I h) λv s1 ⟨x,H1,I1,r1,z⟩=>⟨σ,H1,I1,z⟩) I.quiet hs
def Zk(te:TE):TS:=λD σ H=>te σ H D.rt
theorem Ao(he:PE X e te):PS X (.Return (some e) pos) (Zk te):=by
 intro pins s σ H D I h;exact wpAny_Return_some (thn (he pins s σ H _ I h) λv s1 ⟨x,H1,I1,r1,z⟩=>⟨x,σ,H1,I1,r1,z⟩)
def Af1:TS:=λD _ H=>D.rt .non H
theorem W4:PS X (.Return none pos) Af1:=λ_ _ σ H _ I h=>wpAny_Return_none ⟨.non,σ,H,I,Z,h⟩
def tIfS(c:TT)(t u:TS):TS:=λD σ H=>c σ H λb H1=>if b=true then t D σ H1 else u D σ H1
theorem A9{c:Expr}{a b:List Stmt}{tc:TT}(hc:PT X c tc)(ha:PSs X a t)(hb:PSs X b u):PS X (.If c a b pos) (tIfS tc t u):=by
 intro pins s σ H D I h;refine wpAny_If (thn (hc pins s σ H _ I h) λd s1 ⟨H1,I1,z⟩=>?_);cases d with
 |true=>exact ha pins s1 σ H1 D I1 z
 |false=>exact hb pins s1 σ H1 D I1 z
end
abbrev TG:=V->St->Hp->(St->Hp->Prop)->Prop
abbrev TGs:=List V->St->Hp->(St->Hp->Prop)->Prop
def PG(X:Cx)(target:Expr)(t:TG):Prop:=
 ∀(pins:List (Addr×Obj))(s:Shared)(σ:St)(H:Hp)(v:V)(u:Value)(Q:St->Hp->Prop),Inv X pins σ H s->A7 v u->t v σ H Q ->
  wpAny (model X.prog X.w) X.A (assign target X.env u) (λ_ s'=>∃σ' H',Inv X pins σ' H' s'/\Q σ' H') X.xe s
def PGs(X:Cx)(ts:List Expr)(t:TGs):Prop:=
 ∀(pins:List (Addr×Obj))(s:Shared)(σ:St)(H:Hp)(vs:List V)(us:List Value)(Q:St->Hp->Prop),Inv X pins σ H s->A8 vs us->t vs σ H Q ->
  wpAny (model X.prog X.w) X.A (assignInOrder ((assignEach ts X.env).map (·.2)) us) (λ_ s'=>∃σ' H',Inv X pins σ' H' s'/\Q σ' H') X.xe s
abbrev Aca:=V->V->V->Hp->(Hp->Prop)->Prop
def Aeh(X:Cx)(t:Aca):Prop:=
 ∀(pins:List (Addr×Obj))(s:Shared)(σ:St)(H:Hp)(o i v:V)(ov iv u:Value)(Q:Hp->Prop),Inv X pins σ H s->A7 o ov->A7 i iv->A7 v u->t o i v H Q ->
  wpAny (model X.prog X.w) X.A (setItem ov iv u) (λ_ s'=>∃H',Inv X pins σ H' s'/\Q H') X.xe s
def Bq(i:Nat):TG:=λv σ H Q=>Q (σ.set i (some v)) H
theorem Az{i:Nat}(hN:X.N.Nodup)(hi:X.N[i]?=some x)(hx:Loc X.env.scope x)(hf:X.fn x=true\/X.env.scope.names.lookup x=some .local:=by first|exact .inl rfl|exact .inr rfl|assumption):PG X (.Name x pos) (Bq i):=by
 intro pins s σ H v u Q I r h;exact wpAny_assign_Name (Ov I hN hi hx r (λs' z=>⟨_,H,z,h⟩) hf)
def Acl:TGs:=λvs σ H Q=>vs=[]/\Q σ H
def Pk(t:TG)(u:TGs):TGs:=λvs σ H Q=>∃v r,vs=v::r/\t v σ H λσ' H'=>u r σ' H' Q
theorem Em:PGs X [] Acl:=by
 intro pins s σ H vs us Q I r h;obtain⟨e,h⟩:=h;subst e;cases r
 exact assignInOrder_nil ⟨σ,H,I,h⟩
theorem Bn{t:TG}{u:TGs}(h1:PG X e t)(h2:PGs X es u)
  (hs:(assignEach (e::es) X.env).map (·.2)=assign e X.env::(assignEach es X.env).map (·.2):=by rfl):PGs X (e::es) (Pk t u):=by
 intro pins s σ H vs us Q I r h;obtain⟨v,vr,e1,h⟩:=h;subst e1;cases r with
 |cons r rr=>
  rw[hs];refine assignInOrder_cons (thn (h1 pins s σ H _ _ _ I r h) λ_ s1 ⟨z,H1,I1,q1⟩=>?_);exact h2 pins s1 z H1 _ _ Q I1 rr q1
inductive AbD(K:FA)(n:Nat)(v:V)(H:Hp)(R:List V->Prop):Prop
 |mk(a:Addr)(xs:List V)(_:v=.ref a)(_:SqT K H a xs)(_:xs.length=n)(_:R xs)
def Abz(K:FA)(n:Nat)(t:TGs):TG:=λv σ H Q=>AbD K n v H λxs=>t xs σ H Q
theorem Ff{t:TGs}(hc:X.calm=true)(h:PGs X es t)
  (hn:(assignEach es X.env).length=n:=by rfl) (a1:(assignEach es X.env).findIdx? (·.1)=none:=by rfl):PG X (.Tuple es k pos) (Abz X.K n t):=by
 intro pins s σ H v u Q I r z;obtain⟨a,xs,e1,hq,hl,z⟩:=z;subst e1;cases r
 obtain⟨a2,rv,ht,hz⟩:=I.tuple hq;refine assign_Tuple_tuple (I.ok.hd hc) ht (by simp[hn,<-hl,rv.length]) a1 λh' hx=>?_
 have I1:Inv X pins σ H {s with heap:=h' }:=I.kept (t':=s.toks) λb o e=>hx b o (vC (Heap.lt_size e)) e
 exact h pins _ σ H xs _ Q I1 (by simpa using rv) z
def Ag7(to ti:TE)(t:Aca):TG:=λv σ H Q=>to σ H λo H1=>ti σ H1 λi H2=>t o i v H2 λH3=>Q σ H3
theorem Ul{o i:Expr}{to ti:TE}{t:Aca}(ho:PE X o to)(hi:PE X i ti)(hs:Aeh X t)
  (ha:∀v,assign (.Subscript o i pos) X.env v=(do
   let z <-holding [v] (eval o X.env)
   let iv <-holding [v,z] (eval i X.env)
   standAt pos
   holding [v,z,iv] (setItem z iv v)
   release [v,z,iv] []):=by intro _;rfl):PG X (.Subscript o i pos) (Ag7 to ti t):=by
 intro pins s σ H v u Q I r h;rw[ha];refine rY (vW (thn (ho pins s σ H _ I h) λz s1 ⟨x,H1,I1,r1,q1⟩=>?_));refine rY (vW (thn (hi pins s1 σ H1 _ I1 q1) λiv s2 ⟨y,H2,I2,r2,q2⟩=>?_));refine rY (wpAny_standAt (rY (vW (thn (hs pins s2 σ H2 x y v z iv u _ I2 r1 r2 r q2) λ_ s3 ⟨H3,I3,q3⟩=>?_))));exact wpAny_release ⟨σ,H3,I3,q3⟩
def Ue(te:TE)(g:TG):TS:=λD σ H=>te σ H λx H1=>g x σ H1 D.nx
theorem Fw{tg:Expr}{g:TG}(z:PE X e te)(hg:PG X tg g)(hs:swapsWithSole [tg] e pos.line X.env=pure false:=by rfl)(hw:swappedStores [tg] e X.env=pure none:=by rfl)
  (h1:(assignEach [tg] X.env).map (·.2)=[assign tg X.env]:=by rfl):PS X (.Assign [tg] e pos) (Ue te g):=by
 intro pins s σ H D I h;refine wpAny_Assign_stores (thn (z pins s σ H _ I h) λv s1 ⟨x,H1,I1,r1,q1⟩=>?_) hs hw;rw[h1];exact thn (hg pins s1 σ H1 x v _ I1 r1 q1) λ_ s2 q=>q
theorem Ar{i:Nat}{pos':Pos}(hN:X.N.Nodup)(hi:X.N[i]?=some x)(hx:Loc X.env.scope x)(z:PE X e te)(hs:swapsWith e (some (.Name x pos')) pos.line X.env=pure false:=by rfl)(hf:X.fn x=true\/X.env.scope.names.lookup x=some .local:=by first|exact .inl rfl|exact .inr rfl|assumption) :
  PS X (.Assign [.Name x pos'] e pos) (Ue te (Bq i)):=by
 intro pins s σ H D I h;refine wpAny_Assign_Name (thn (z pins s σ H _ I h) λv s1 ⟨y,H1,I1,r1,q1⟩=>?_) hs;exact Ov I1 hN hi hx r1 (λs2 I2=>⟨_,H1,I2,q1⟩) hf
def Aaj(c:TT)(tb:TS):TS:=λD σ H=>∃W:Nat->St->Hp->Prop,(∃m,W m σ H)/\∀m σ H,W m σ H ->
 c σ H λb H1=>if b=true then ∃N:St->Hp->Prop,(∀σ' H',N σ' H'->∃m',m'<m/\W m' σ' H')/\tb {D with nx:=N,ct:=N,bk:=D.nx} σ H1 else D.nx σ H1
theorem L7{c:Expr}{a2:List Stmt}{tc:TT}{tb:TS}(hp:PassesOwn (model X.prog X.w) X.A X.env X.xe)(hc:PT X c tc)(hb:PSs X a2 tb):PS X (.While c a2 [] pos) (Aaj tc tb):=by
 intro pins s σ H D I h;obtain⟨W,⟨m0,w0⟩,a4⟩:=h;refine wpAny_While (codeAny_whileLoop (λn s'=>∃a3 H',Inv X pins a3 H' s'/\W n a3 H') ?_ m0 ⟨σ,H,I,w0⟩);rintro n s1 ⟨a1,H1,I1,w1⟩;refine wpAny_passesOwn hp (thn (hc pins s1 a1 H1 _ I1 (a4 n a1 H1 w1)) λb s2 ⟨H2,I2,q2⟩=>?_);cases b with
 |true=>
  obtain⟨N,hN,q2⟩:=q2;rw[if_pos rfl];refine wpAny_passesOwn hp (thn (hb pins s2 a1 H2 _ I2 q2) λf s3 q3=>?_);cases f with
  |next=>
   obtain⟨z,H3,I3,n3⟩:=q3;obtain⟨m',hm,w3⟩:=hN z H3 n3;exact⟨m',hm,z,H3,I3,w3⟩
  |cont=>
   obtain⟨z,H3,I3,n3⟩:=q3;obtain⟨m',hm,w3⟩:=hN z H3 n3;exact⟨m',hm,z,H3,I3,w3⟩
  |brk=>exact q3
  |ret v=>exact q3
 |false=>
  rw[if_neg qc];exact wpAny_execs_nil ⟨a1,H2,I2,q2⟩
structure It where
 go:Nat->Hp->Prop
 yld:Nat->Hp->V->Hp->Prop
 stop:Nat->Hp->Prop
def J5(X:Cx)(pins:List (Addr×Obj))(H:Hp)(b:Addr):Prop:=
 H b=none/\b≠X.env.locals/\b∉X.fs/\(b∈X.ex\/X.s₀.heap.objs.size<=b)/\(∀x c,X.env.cells.lookup x=some c->c≠b)/\∀p∈X.pn++pins,p.1≠b
theorem Inv.fpOk{s:Shared}{b:Addr}(I:Inv X pins σ H s)(hb:s.heap.objs.size<=b)(hn:H' b=none):J5 X pins H' b:=by
 refine⟨hn,ne_of_gt (vA I.lt hb),I.nofs hb,.inr (uY I.sz hb),λx c e z=>?_,λp hp z=>?_⟩
 ·obtain⟨v,q⟩:=I.cell x c e
  exact absurd (vA q.lt (by rw[z];exact hb)) (lt_irrefl _)
 ·exact absurd (vA (Heap.lt_size (I.pin p hp).1) (by rw[z];exact hb)) (lt_irrefl _)
structure Ng(P:Program)(w:World)(K:FA)(tg:Expr)(J:It)(fp:List Addr)(it:Addr)(tn:Nat->Heap->Prop):Prop where
 mem:it∈fp
 obj:∀i h,tn i h->∀b∈fp,∃o,h.get? b=some o/\∀v,o.data≠.cell v
 keep:∀i h h',tn i h->(∀b∈fp,∀o,h.get? b=some o->h'.get? b=some o)->tn i h'
 item:∀(X:Cx),X.prog=P->X.w=w->X.K=K->X.calm=true->∀(i:Nat)(pins:List (Addr×Obj))(s:Shared)(σ:St)(H:Hp)(E:Value->Shared->Prop),Inv X pins σ H s->(∀b∈fp,J5 X pins H b)->tn i s.heap->J.go i H ->
  wpAny (model P w) X.A (pyNext (.ref it)) (λr s1=>∃u,r=some u /\
   wpAny (model P w) X.A (letOwnedTupleGo tg (.ref it) u) (λ_ s2=>∃x H',Inv X pins σ H' s2/\A7 x u/\J.yld i H x H'/\tn (i+1) s2.heap/\∀b∈fp,H' b=none) E s1) E s
 done:∀(X:Cx),X.prog=P->X.w=w->X.K=K->X.calm=true->∀(i:Nat)(pins:List (Addr×Obj))(s:Shared)(σ:St)(H:Hp)(E:Value->Shared->Prop),Inv X pins σ H s->(∀b∈fp,J5 X pins H b)->tn i s.heap->J.stop i H ->
  wpAny (model P w) X.A (pyNext (.ref it)) (λr s1=>r=none/\Inv X pins σ H s1) E s
 self:∀(A:Around)(i:Nat)(s:Shared)(Q:Value->Shared->Prop)(E:Value->Shared->Prop),tn i s.heap->Q (.ref it) s->wpAny (model P w) A (pyIter (.ref it)) Q E s
abbrev TI:=St->Hp->(It->Hp->Prop)->Prop
def PIE(X:Cx)(pins:List (Addr×Obj))(σ:St)(tg:Expr)(R:It->Hp->Prop)(itv:Value)(s2:Shared):Prop:=
 ∃(it:Addr)(fp:List Addr)(tn:Nat->Heap->Prop)(J:It)(H':Hp),itv=.ref it/\Inv X pins σ H' s2/\Ng X.prog X.w X.K tg J fp it tn/\tn 0 s2.heap/\(∀b∈fp,J5 X pins H' b)/\R J H'
def PI(X:Cx)(tg iter:Expr)(wi:TI):Prop:=
 ∀(pins:List (Addr×Obj))(s:Shared)(σ:St)(H:Hp)(R:It->Hp->Prop),Inv X pins σ H s->wi σ H R ->
  wpAny (model X.prog X.w) X.A (eval iter X.env) (λv s1=>wpAny (model X.prog X.w) X.A (pyIter v) (PIE X pins σ tg R) X.xe s1) X.xe s
theorem S4{M:Model}{s:Shared}{tg:Expr}{it:Addr}{o:Obj}{n:String}{vs:Array Value}{Q:Unit->Shared->Prop}(ho:s.heap.get? it=some o)(hc:o.cls=.type n)(hd:o.data=.fields vs)
  (hn:["enumerate","zip","dict_itemiterator","dict_reverseitemiterator","odict_iterator","itertools.zip_longest","itertools.pairwise"].contains n=false) (z:Q () s):wpAny M A (letOwnedTupleGo tg (.ref it) u) Q E s:=by
 unfold letOwnedTupleGo
 cases tg<;>first
  |exact rZ z
  | (cases u<;>first
    |exact rZ z
    | (refine rY (wpAny_load ho ?_)
       rw[hc,hd];show wpAny M A (if (["enumerate","zip","dict_itemiterator","dict_reverseitemiterator","odict_iterator","itertools.zip_longest","itertools.pairwise"].contains n&&vs[0]? == some (rawInt _))=true then _ else _) Q E s;rw[if_neg (by intro h;rw[hn,Bool.false_and]at h;cases h)];exact rZ z))
def Itl(K:FA)(a:Addr):It:=
 ⟨λi H=>∃xs x,SqL K H a xs/\xs[i]?=some x,λi H x H'=>H'=H/\∀xs,SqL K H a xs->xs[i]?=some x,λi H=>∃xs,SqL K H a xs/\xs.length<=i⟩
def Itt(K:FA)(a:Addr):It:=
 ⟨λi H=>∃xs x,SqT K H a xs/\xs[i]?=some x,λi H x H'=>H'=H/\∀xs,SqT K H a xs->xs[i]?=some x,λi H=>∃xs,SqT K H a xs/\xs.length<=i⟩
def Itr(lo:Int)(n:Nat):It:=⟨λi _=>i<n,λi H x H'=>H'=H/\x=.int (lo+i),λi _=>n<=i⟩
theorem AaP{tg:Expr}(a it:Addr):Ng P w K tg (Itl K a) [it] it (λi h=>h.IsListIter it a i) where
 mem:=by simp
 obj:=λi h st b hb=>by
  have e:b=it:=by simpa using hb
  subst e;obtain⟨o,e,c,d⟩:=st;exact⟨o,e,λv z=>by rw[d]at z;cases z⟩
 keep:=λi h h' st k=>st.at λo e=>k it (by simp) o e
 item:=by
  intro X hP hw hK hc i pins s σ H E I hf st hg;subst hP hw hK;obtain⟨xs,x,hq,hx⟩:=hg;obtain⟨a2,rv,p,hz⟩:=I.list hq;obtain⟨u,hu,ru⟩:=rv.get hx;obtain⟨f0,f1,f2,f3,f4,f5⟩:=hf it (by simp);refine wpAny_pyNext_list_item st p.isList (x:=u) (by simpa using hu) λh' a1 sb=>?_
  have I1:Inv X pins σ H {s with heap:=h' }:=I.turned (t':=s.toks) (λb o hb e=>(sb.2 b hb).trans e) f0 f1 f3 f4 f5;obtain⟨o,e,c,d⟩:=id a1;exact⟨u,Z,S4 (s:={s with heap:=h' }) e c d (by decide) ⟨x,H,I1,ru,⟨rfl,λys hy=>by rw[I.list_inj hy hq];exact hx⟩,a1,λb hb=>(hf b hb).1⟩⟩
 done:=by
  intro X hP hw hK hc i pins s σ H E I hf st hg;subst hP hw hK;obtain⟨xs,hq,hx⟩:=hg;obtain⟨a2,rv,p,hz⟩:=I.list hq;obtain⟨f0,f1,f2,f3,f4,f5⟩:=hf it (by simp);have hl:=rv.length;exact wpAny_pyNext_list_end (I.ok.hd hc) st p.isList (by simp;omega) λh' eb=>⟨Z,I.turned (t':=s.toks) (λb o hb e=>eb b o hb e) f0 f1 f3 f4 f5⟩
 self:=λ_ _ _ _ _ st h=>wpAny_pyIter_listiter st h
theorem Z1{tg:Expr}(a it:Addr):Ng P w K tg (Itt K a) [it] it (λi h=>h.IsTupleIter it a i) where
 mem:=by simp
 obj:=λi h st b hb=>by
  have e:b=it:=by simpa using hb
  subst e;obtain⟨o,e,c,d⟩:=st;exact⟨o,e,λv z=>by rw[d]at z;cases z⟩
 keep:=λi h h' st k=>st.at λo e=>k it (by simp) o e
 item:=by
  intro X hP hw hK hc i pins s σ H E I hf st hg;subst hP hw hK;obtain⟨xs,x,hq,hx⟩:=hg;obtain⟨a1,rv,p,hz⟩:=I.tuple hq;obtain⟨u,hu,ru⟩:=rv.get hx;obtain⟨f0,f1,f2,f3,f4,f5⟩:=hf it (by simp);refine wpAny_pyNext_tuple_item st (show s.heap.IsTuple a a1.toArray from p) (x:=u) (by simpa using hu) λh' a2 sb=>?_
  have I1:Inv X pins σ H {s with heap:=h' }:=I.turned (t':=s.toks) (λb o hb e=>(sb.2 b hb).trans e) f0 f1 f3 f4 f5;obtain⟨o,e,c,d⟩:=id a2;exact⟨u,Z,S4 (s:={s with heap:=h' }) e c d (by decide) ⟨x,H,I1,ru,⟨rfl,λys hy=>by rw[I.tuple_inj hy hq];exact hx⟩,a2,λb hb=>(hf b hb).1⟩⟩
 done:=by
  intro X hP hw hK hc i pins s σ H E I hf st hg;subst hP hw hK;obtain⟨xs,hq,hx⟩:=hg;obtain⟨a1,rv,p,hz⟩:=I.tuple hq;obtain⟨f0,f1,f2,f3,f4,f5⟩:=hf it (by simp);have hl:=rv.length;exact wpAny_pyNext_tuple_end (I.ok.hd hc) st (show s.heap.IsTuple a a1.toArray from p) (by simp;omega) λh' eb=>⟨Z,I.turned (t':=s.toks) (λb o hb e=>eb b o hb e) f0 f1 f3 f4 f5⟩
 self:=λ_ _ _ _ _ st h=>wpAny_pyIter_tupleiter st h
theorem Z3{tg:Expr}(it:Addr)(lo:Int)(n:Nat):Ng P w K tg (Itr lo n) [it] it (λi h=>IsRangeIter h it (lo+(i:Nat)*1) ((n:Int)-(i:Nat)) 1) where
 mem:=by simp
 obj:=λi h st b hb=>by
  have e:b=it:=by simpa using hb
  subst e
  exact⟨_,st,λv z=>by
   have z':Data.fields _=Data.cell v:=z;cases z'⟩
 keep:=λi h h' st k=>k it (by simp) _ st
 item:=by
  intro X hP hw hK hc i pins s σ H E I hf st hg;subst hP hw hK;obtain⟨f0,f1,f2,f3,f4,f5⟩:=hf it (by simp);have W:=Walks.range (prog:=X.prog) (w:=X.w) (I.ok.hd hc) it lo 1 n;refine W.item i s _ _ hg st λv h' tk hv a1 kk=>?_
  obtain⟨t,rfl⟩:=hv;have I1:Inv X pins σ H {s with heap:=h',toks:=tk}:=I.turned (λb o hb e=>kk b o (by simpa using hb) e) f0 f1 f3 f4 f5;refine⟨_,Z,S4 (s:={s with heap:=h',toks:=tk}) (n:="range_iterator") a1 rfl rfl (by decide) ⟨.int (lo+i),H,I1,⟨t,?_⟩,⟨rfl,rfl⟩,a1,λb hb=>(hf b hb).1⟩⟩;rw[Int.mul_one]
 done:=by
  intro X hP hw hK hc i pins s σ H E I hf st hg;subst hP hw hK;obtain⟨f0,f1,f2,f3,f4,f5⟩:=hf it (by simp);exact wpAny_pyNext_range_end (I.ok.hd hc) st (by have:n<=i:=hg;omega) λh' eb=>⟨Z,I.turned (t':=s.toks) (λb o hb e=>eb b o hb e) f0 f1 f3 f4 f5⟩
 self:=λ_ _ _ _ _ st h=>wpAny_pyIter_rangeiter st h
section
variable{tg:Expr}
def AgL(K:FA)(tl:TE):TI:=λσ H R=>tl σ H λx H1=>∃a,x=.ref a/\(∃xs,SqL K H1 a xs)/\R (Itl K a) H1
def AhS(K:FA)(tl:TE):TI:=λσ H R=>tl σ H λx H1=>∃a,x=.ref a/\(∃xs,SqT K H1 a xs)/\R (Itt K a) H1
theorem B6{l:Expr}{tl:TE}(hl:PE X l tl):PI X tg l (AgL X.K tl):=by
 intro pins s σ H R I h;refine thn (hl pins s σ H _ I h) λv s1 ⟨x,H1,z,r1,q1⟩=>?_
 obtain⟨a,e,⟨xs,hq⟩,q⟩:=q1;subst e;cases r1
 obtain⟨a1,rv,p,hz⟩:=z.list hq;refine wpAny_pyIter_list p.isList ?_;refine⟨s1.heap.objs.size,[s1.heap.objs.size],_,_,H1,Z,z.kept (t':=s1.toks) λb o e=>Heap.get?_push_of_some _ e,AaP a _,⟨_,Heap.get?_push_size _ rfl,rfl,rfl⟩,λb hb=>?_,q⟩;have e:b=s1.heap.objs.size:=by simpa using hb
 subst e;exact z.fpOk (uZ _) (z.hok.fresh (uZ _))
theorem Le{l:Expr}{tl:TE}(hl:PE X l tl):PI X tg l (AhS X.K tl):=by
 intro pins s σ H R I h;refine thn (hl pins s σ H _ I h) λv s1 ⟨x,H1,z,r1,q1⟩=>?_
 obtain⟨a,e,⟨xs,hq⟩,q⟩:=q1;subst e;cases r1
 obtain⟨a1,rv,p,hz⟩:=z.tuple hq;refine wpAny_pyIter_tuple (show s1.heap.IsTuple a a1.toArray from p) ?_;refine⟨s1.heap.objs.size,[s1.heap.objs.size],_,_,H1,Z,z.kept (t':=s1.toks) λb o e=>Heap.get?_push_of_some _ e,Z1 a _,⟨_,Heap.get?_push_size _ rfl,rfl,rfl⟩,λb hb=>?_,q⟩;have e:b=s1.heap.objs.size:=by simpa using hb
 subst e;exact z.fpOk (uZ _) (z.hok.fresh (uZ _))
theorem Acf{s:Shared}{R:It->Hp->Prop}{lo hi:Int}{t u v:Tok}{tk:Nat}(I:Inv X pins σ H s)(h1:-(2^62)<=lo)(h2:lo<2^62)(h3:-(2^62)<=hi)(h4:hi<2^62)
  (q:R (Itr lo (hi-lo).toNat) H):wpAny (model X.prog X.w) X.A (pyIter (.ref s.heap.objs.size)) (PIE X pins σ tg R) E {s with heap:=s.heap.push {cls:=.type "range",data:=.fields #[.int lo t,.int hi u,.int 1 v]},toks:=tk}:=by
 refine wpAny_pyIter_range (IsRange.new ..) (small_one h1 h2 h3 h4) ?_;have z:Inv X pins σ H {s with heap:=s.heap.push {cls:=.type "range",data:=.fields #[.int lo t,.int hi u,.int 1 v]},toks:=tk}:=I.kept λb o e=>Heap.get?_push_of_some _ e
 refine⟨(s.heap.push {cls:=.type "range",data:=.fields #[.int lo t,.int hi u,.int 1 v]}).objs.size,[(s.heap.push {cls:=.type "range",data:=.fields #[.int lo t,.int hi u,.int 1 v]}).objs.size],_,_,H,rfl,
  z.kept (t':=tk) λb o e=>Heap.get?_push_of_some _ e,Z3 _ lo (hi-lo).toNat,?_,λb hb=>?_,q⟩
 ·have e1:lo+((0:Nat):Int)*1=lo:=by simp
  have e2:(((hi-lo).toNat:Nat):Int)-((0:Nat):Int)=Builtin.Range.rangeSize lo hi 1:=by rw[rangeSize_one];split<;>omega
  show IsRangeIter _ _ (lo+((0:Nat):Int)*1) ((((hi-lo).toNat:Nat):Int)-((0:Nat):Int)) 1
  rw[e1,e2];exact Heap.get?_push_size _ rfl
 ·have e:b=(s.heap.push {cls:=.type "range",data:=.fields #[.int lo t,.int hi u,.int 1 v]}).objs.size:=by simpa using hb
  subst e;exact z.fpOk (uZ _) (z.hok.fresh (uZ _))
def AgB(ta:TA):TI:=λσ H R=>ta σ H λvs H1=>∃j:Int,vs=[.int j]/\-(2^62)<=j/\j<2^62/\R (Itr 0 j.toNat) H1
theorem Fy{a:Expr}{ta:TA}{p:Pos}(hg:Gl X "range")(hm:X.mg "range"= none)(ha:PA X [a] ta)(hs:starEach [a] X.env=[(false,eval a X.env)]:=by rfl):PI X tg (.Call (.Name "range" p) [a] [] pos) (AgB ta):=by
 intro pins s σ H R I h;refine Call_ (Hl I hg hm boot_range (PyProof.Rows.callWith_type1 (thn (ha pos pins s σ H _ I h) λus s1 ⟨vs,H1,I1,r1,z⟩=>?_) hs rfl));obtain⟨j,e,z,q2,q⟩:=z;subst e;cases r1 with
 |cons r rr=>
  cases rr
  obtain⟨t,rfl⟩:=r;exact call_range_1 (Acf I1 (by omega) (by omega) z q2 (by simpa using q))
def Agt(wi:TI)(g:TG)(tb:TS):TS:=λD σ H=>wi σ H λJ H1=>∃W:Nat->Nat->St->Hp->Prop,(∃m,W 0 m σ H1)/\∀i m σ H,W i m σ H ->
 (J.stop i H/\D.nx σ H)\/(J.go i H/\∃N:St->Hp->Prop,(∀σ' H',N σ' H'->∃m',m'<m/\W (i+1) m' σ' H')/\∀x H',J.yld i H x H'->g x σ H' λσ2 H2=>tb {D with nx:=N,ct:=N,bk:=D.nx} σ2 H2)
def Hb(fp:List Addr)(h:Heap):List (Addr×Obj):=fp.filterMap λb=>(h.get? b).map λo=>(b,o)
theorem Jz{fp:List Addr}{b:Addr}{o:Obj}(z:b∈fp)(e:h.get? b=some o):(b,o)∈Hb fp h:=List.mem_filterMap.mpr ⟨b,z,by rw[e];rfl⟩
theorem R0{fp:List Addr}{p:Addr×Obj}(hp:p∈Hb fp h):p.1∈fp/\h.get? p.1=some p.2:=by
 obtain⟨b,z,e⟩:=List.mem_filterMap.mp hp;cases q:h.get? b with
 |none=>rw[q]at e;cases e
 |some o=>
  rw[q]at e;have e':(b,o)=p:=Option.some.inj e;subst e';exact⟨z,q⟩
theorem Inv.pinned{s:Shared}{fp:List Addr}(I:Inv X pins σ H s)(hf:∀b∈fp,J5 X pins H b)(ho:∀b∈fp,∃o,s.heap.get? b=some o/\∀v,o.data≠.cell v):Inv X (pins++Hb fp s.heap) σ H s:=
 I.pins_of λp hp=>(uW.mp hp).elim (λz=>I.pin p (uP _ z)) λz=>by
  obtain⟨hb,e⟩:=R0 z;obtain⟨f0,f1,f2,_⟩:=hf p.1 hb;obtain⟨o,e',d⟩:=ho p.1 hb;rw[e]at e';cases e';exact⟨e,f0,f1,f2,d⟩
theorem Inv.unpinned{pl:List (Addr×Obj)}{s:Shared}(I:Inv X (pins++pl) σ H s):Inv X pins σ H s:=I.pins_of λp hp=>I.pin p (uP _ (vX _ hp))
theorem Fa{iter:Expr}{a4:List Stmt}{wi:TI}{g:TG}{tb:TS}(hp:PassesOwn (model X.prog X.w) X.A X.env X.xe)(hc:X.calm=true)(hi:PI X tg iter wi)(hg:PG X tg g)(hb:PSs X a4 tb)
  (hs:∀x,foldedSetIterable iter X.env x=pure x:=by intro _;rfl):PS X (.For tg iter a4 [] pos) (Agt wi g tb):=by
 intro pins s σ H D I h;refine wpAny_For (thn (hi pins s σ H _ I h) λv s1 h1=>thn h1 λb4 s2 h2=>?_) hs;obtain⟨it,fp,tn,J,H2,e,I2,T,b3,f2,W,⟨m0,w0⟩,a8⟩:=h2;subst e;have a3:∀{H':Hp},(∀b∈fp,H' b=none)->∀b∈fp,J5 X pins H' b:=λhn b hb=>⟨hn b hb,(f2 b hb).2⟩
 refine codeAny_forLoop_any (λn s'=>∃i a1 H',Inv X pins a1 H' s'/\tn i s'.heap/\(∀b∈fp,H' b=none)/\W i n a1 H') ?_ m0 ⟨0,σ,H2,I2,b3,λb hb=>(f2 b hb).1,w0⟩;rintro n s3 ⟨i,a2,H3,I3,a6,a7,w3⟩;rcases a8 i n a2 H3 w3 with⟨stop,qn⟩|⟨go,N,hN,step⟩
 ·refine wpAny_passesOwn hp (thn (T.done X rfl rfl rfl hc i pins s3 a2 H3 X.xe I3 (a3 a7) a6 stop) λr s4 ⟨hr,I4⟩=>?_)
  subst hr;exact wpAny_execs_nil ⟨a2,H3,I4,qn⟩
 ·refine wpAny_passesOwn hp (thn (T.item X rfl rfl rfl hc i pins s3 a2 H3 X.xe I3 (a3 a7) a6 go) λr s4 ⟨u,hr,h4⟩=>?_)
  subst hr;refine wpAny_passesOwn hp (thn h4 λ_ s5 ⟨x,H5,I5,r5,y5,a5,b2⟩=>?_);have b1:=I5.pinned (a3 b2) (T.obj _ _ a5);refine wpAny_passesOwn hp (thn (hg _ s5 a2 H5 x u _ b1 r5 (step x H5 y5)) λ_ s6 ⟨a9,H6,I6,q6⟩=>?_);refine wpAny_passesOwn hp (thn (hb _ s6 a9 H6 _ I6 q6) λf s7 q7=>?_)
  have again:∀{z:St}{H7:Hp},Inv X (pins++Hb fp s5.heap) z H7 s7->N z H7->∃m,m<n/\∃i a1 H',Inv X pins a1 H' s7/\tn i s7.heap/\(∀b∈fp,H' b=none)/\W i m a1 H':=λ{z H7}I7 n7=>by
   obtain⟨m',hm,w7⟩:=hN z H7 n7;refine⟨m',hm,i+1,z,H7,I7.unpinned,T.keep _ _ _ a5 λb hb o e=>(I7.pin (b,o) (uP _ (uP _ (Jz hb e)))).1,λb hb=>?_,w7⟩;obtain⟨o,e,d⟩:=T.obj _ _ a5 b hb;exact(I7.pin (b,o) (uP _ (uP _ (Jz hb e)))).2.1
  cases f with
  |next=>obtain⟨z,H7,I7,n7⟩:=q7;exact again I7 n7
  |cont=>obtain⟨z,H7,I7,n7⟩:=q7;exact again I7 n7
  |brk=>obtain⟨z,H7,I7,q7⟩:=q7;exact⟨z,H7,I7.unpinned,q7⟩
  |ret v=>obtain⟨x7,z,H7,I7,r7,q7⟩:=q7;exact⟨x7,z,H7,I7.unpinned,r7,q7⟩
end
theorem F0{g:TG}{tb:TS}{D:Jn}(z:Nat->St->Hp->Prop)(h0:z 0 σ H)(hl:∀i σ H,i<=xs.length->z i σ H->SqL K H a xs)
  (hs:∀i x σ H,xs[i]?=some x->z i σ H->g x σ H λa2 H2=>tb {D with nx:=z (i+1),ct:=z (i+1),bk:=D.nx} a2 H2) (hd:∀σ H,z xs.length σ H->D.nx σ H) :
  ∃W:Nat->Nat->St->Hp->Prop,(∃m,W 0 m σ H)/\∀i m σ H,W i m σ H ->
   ((Itl K a).stop i H/\D.nx σ H)\/((Itl K a).go i H/\∃N:St->Hp->Prop,(∀a1 H',N a1 H'->∃m',m'<m/\W (i+1) m' a1 H')/\∀x H',(Itl K a).yld i H x H'->g x σ H' λa2 H2=>tb {D with nx:=N,ct:=N,bk:=D.nx} a2 H2):=by
 refine⟨λi m σ H=>m=xs.length-i/\i<=xs.length/\z i σ H,⟨xs.length,by simp,vY _,h0⟩,?_⟩;rintro i m σ H ⟨rfl,hi,p⟩;have q:=hl i σ H hi p
 by_cases a3:i<xs.length
 ·refine .inr ⟨⟨xs,xs[i],q,by simp[a3]⟩,z (i+1),λa1 H' p'=>⟨xs.length-(i+1),by omega,rfl,a3,p'⟩,λx H' y=>?_⟩
  obtain⟨e,y⟩:=y;subst e;exact hs i x σ _ (y xs q) p
 ·have e:i=xs.length:=by omega
  subst e;exact .inl ⟨⟨xs,q,uZ _⟩,hd σ H p⟩
theorem Qm{g:TG}{tb:TS}{D:Jn}(z:Nat->St->Hp->Prop)(h0:z 0 σ H)(hl:∀i σ H,i<=xs.length->z i σ H->SqT K H a xs)
  (hs:∀i x σ H,xs[i]?=some x->z i σ H->g x σ H λa2 H2=>tb {D with nx:=z (i+1),ct:=z (i+1),bk:=D.nx} a2 H2) (hd:∀σ H,z xs.length σ H->D.nx σ H) :
  ∃W:Nat->Nat->St->Hp->Prop,(∃m,W 0 m σ H)/\∀i m σ H,W i m σ H ->
   ((Itt K a).stop i H/\D.nx σ H)\/((Itt K a).go i H/\∃N:St->Hp->Prop,(∀a1 H',N a1 H'->∃m',m'<m/\W (i+1) m' a1 H')/\∀x H',(Itt K a).yld i H x H'->g x σ H' λa2 H2=>tb {D with nx:=N,ct:=N,bk:=D.nx} a2 H2):=by
 refine⟨λi m σ H=>m=xs.length-i/\i<=xs.length/\z i σ H,⟨xs.length,by simp,vY _,h0⟩,?_⟩;rintro i m σ H ⟨rfl,hi,p⟩;have q:=hl i σ H hi p
 by_cases a3:i<xs.length
 ·refine .inr ⟨⟨xs,xs[i],q,by simp[a3]⟩,z (i+1),λa1 H' p'=>⟨xs.length-(i+1),by omega,rfl,a3,p'⟩,λx H' y=>?_⟩
  obtain⟨e,y⟩:=y;subst e;exact hs i x σ _ (y xs q) p
 ·have e:i=xs.length:=by omega
  subst e;exact .inl ⟨⟨xs,q,uZ _⟩,hd σ H p⟩
theorem AaO{lo:Int}{g:TG}{tb:TS}{D:Jn}(z:Nat->St->Hp->Prop)(h0:z 0 σ H)
  (hs:∀i σ H,i<n->z i σ H->g (.int (lo+i)) σ H λa3 H2=>tb {D with nx:=z (i+1),ct:=z (i+1),bk:=D.nx} a3 H2) (hd:∀σ H,z n σ H->D.nx σ H) :
  ∃W:Nat->Nat->St->Hp->Prop,(∃m,W 0 m σ H)/\∀i m σ H,W i m σ H ->
   ((Itr lo n).stop i H/\D.nx σ H)\/((Itr lo n).go i H/\∃N:St->Hp->Prop,(∀a2 H',N a2 H'->∃m',m'<m/\W (i+1) m' a2 H')/\∀x H',(Itr lo n).yld i H x H'->g x σ H' λa3 H2=>tb {D with nx:=N,ct:=N,bk:=D.nx} a3 H2):=by
 refine⟨λi m σ H=>m=n-i/\i<=n/\z i σ H,⟨n,by simp,vY _,h0⟩,?_⟩;rintro i m σ H ⟨rfl,hi,p⟩
 by_cases a1:i<n
 ·refine .inr ⟨a1,z (i+1),λa2 H' p'=>⟨n-(i+1),by omega,rfl,a1,p'⟩,λx H' y=>?_⟩
  obtain⟨e,y⟩:=y;subst e y;exact hs i σ _ a1 p
 ·have e:i=n:=by omega
  subst e;exact .inl ⟨uZ _,hd σ H p⟩
theorem O5{c:TT}{tb:TS}{D:Jn}(Pv:St->Hp->Prop)(μ:St->Hp->Nat)(h0:Pv σ H)
  (hs:∀σ H,Pv σ H->c σ H λb H1=>if b=true then tb {D with nx:=λz H'=>Pv z H'/\μ z H'<μ σ H,ct:=λz H'=>Pv z H'/\μ z H'<μ σ H,bk:=D.nx} σ H1 else D.nx σ H1)
  (mono:∀σ H Q Q',(∀b H1,Q b H1->Q' b H1)->c σ H Q->c σ H Q'):Aaj c tb D σ H:=by
 refine⟨λm σ H=>m=μ σ H/\Pv σ H,⟨_,Z,h0⟩,?_⟩;rintro m σ H ⟨rfl,p⟩;refine mono σ H _ _ (λb H1 q=>?_) (hs σ H p);cases b with
 |true=>exact⟨_,λz H' ⟨p',l⟩=>⟨_,l,rfl,p'⟩,q⟩
 |false=>exact q
abbrev R2:=V->V->Hp->VK->Prop
def OpR(X:Cx)(f:Value->Value->Sem Value)(r:R2):Prop:=
 ∀(pins:List (Addr×Obj))(s:Shared)(σ:St)(H:Hp)(x y:V)(v u:Value)(Q:VK),Inv X pins σ H s->A7 x v->A7 y u->r x y H Q ->
  wpAny (model X.prog X.w) X.A (f v u) (EP X pins σ Q) X.xe s
def UnR(X:Cx)(f:Value->Sem Value)(r:V->Hp->VK->Prop):Prop:=
 ∀(pins:List (Addr×Obj))(s:Shared)(σ:St)(H:Hp)(x:V)(v:Value)(Q:VK),Inv X pins σ H s->A7 x v->r x H Q ->
  wpAny (model X.prog X.w) X.A (f v) (EP X pins σ Q) X.xe s
def Ge(X:Cx)(f:Value)(r:List V->Hp->VK->Prop):Prop:=
 ∀(pins:List (Addr×Obj))(s:Shared)(σ:St)(H:Hp)(xs:List V)(us:List Value)(Q:VK),Inv X pins σ H s->A8 xs us->r xs H Q ->
  wpAny (model X.prog X.w) X.A (call f us) (EP X pins σ Q) X.xe s
def Ag2(X:Cx)(r:V->Hp->(Bool->Hp->Prop)->Prop):Prop:=
 ∀(pins:List (Addr×Obj))(s:Shared)(σ:St)(H:Hp)(x:V)(v:Value)(Q:Bool->Hp->Prop),Inv X pins σ H s->A7 x v->r x H Q ->
  wpAny (model X.prog X.w) X.A (truthy v) (TP X pins σ Q) X.xe s
def tOp(r:R2)(ta tb:TE):TE:=λσ H Q=>ta σ H λx H1=>tb σ H1 λy H2=>r x y H2 Q
def tUn(r:V->Hp->VK->Prop)(ta:TE):TE:=λσ H Q=>ta σ H λx H1=>r x H1 Q
inductive Aef(C:Int->Int->Prop)(g:Int->Int->V)(x y:V)(H:Hp)(Q:VK):Prop
 |mk(i)(j)(_:x=.int i)(_:y=.int j)(_:C i j)(_:Q (g i j) H)
def rI(C:Int->Int->Prop)(g:Int->Int->V):R2:=λx y H Q=>Aef C g x y H Q
inductive AdD(g:Int->Int->V)(x y:V)(H:Hp)(Q:VK):Prop
 |mk(i)(j)(_:x=.int i)(_:y=.int j)(_:Q (g i j) H)
def rI0(g:Int->Int->V):R2:=λx y H Q=>AdD g x y H Q
def rU(g:Int->V):V->Hp->VK->Prop:=λx H Q=>∃i,x=.int i/\Q (g i) H
section
variable{a b c:Expr}{tc:TE}
theorem AcD(ha:PE X a ta)(hb:PE X b tb){s:Shared}{R:V->V->Hp->Prop}(I:Inv X pins σ H s)
  (h:ta σ H λx H1=>tb σ H1 λy H2=>R x y H2) {Q:Value->Shared->Prop} {f:Value->Value->Sem Value}
  (hf:∀v u s2 x y H2,Inv X pins σ H2 s2->A7 x v->A7 y u->R x y H2->wpAny (model X.prog X.w) X.A (f v u) Q X.xe s2) :
  wpAny (model X.prog X.w) X.A (eval a X.env) (λv z=>wpAny (model X.prog X.w) X.A (eval b X.env) (λu a1=>wpAny (model X.prog X.w) X.A (f v u) Q X.xe a1) X.xe z) X.xe s:=by
 refine thn (ha pins s σ H _ I h) λv s1 ⟨x,H1,I1,r1,q1⟩=>?_
 refine thn (hb pins s1 σ H1 _ I1 q1) λu s2 ⟨y,H2,I2,r2,q2⟩=>?_
 exact hf v u s2 x y H2 I2 r1 r2 q2
theorem A3{op:Operator}{r:R2}(ho:OpR X (binaryOp op) r)(ha:PE X a ta)(hb:PE X b tb):PE X (.BinOp a op b pos) (tOp r ta tb):=by
 intro pins s σ H Q I h;exact wpAny_BinOp (AcD ha hb I h λv u s2 x y H2 I2 z ry q=>ho pins s2 σ H2 x y v u Q I2 z ry q)
theorem Nt{op:UnaryOp}{r:V->Hp->VK->Prop}(ho:UnR X (unaryOp op) r)(ha:PE X a ta):PE X (.UnaryOp op a pos) (tUn r ta):=by
 intro pins s σ H Q I h;exact UnaryOp_ (thn (ha pins s σ H _ I h) λv s1 ⟨x,H1,I1,r1,z⟩=>ho pins s1 σ H1 x v Q I1 r1 z)
theorem opI{f:Value->Value->Sem Value}{C:Int->Int->Prop}{g:Int->Int->Int}
  (z:∀(i j:Int)(t u:Tok)(s:Shared)(Q:Value->Shared->Prop)(E:Value->Shared->Prop),C i j->Q (.int (g i j) s.toks) {s with toks:=s.toks+1}->wpAny (model X.prog X.w) X.A (f (.int i t) (.int j u)) Q E s) :
  OpR X f (rI C λi j=>.int (g i j)):=by
 intro pins s σ H x y v u Q I rx ry h;obtain⟨i,j,rfl,rfl,hc,q⟩:=h;obtain⟨t,rfl⟩:=rx;obtain⟨t',rfl⟩:=ry;exact z i j t t' s _ _ hc ⟨.int (g i j),H,I.tok _,⟨_,Z⟩,q⟩
theorem Aec{f:Value->Value->Sem Value}{g:Int->Int->Int}
  (z:∀(i j:Int)(t u:Tok)(s:Shared)(Q:Value->Shared->Prop)(E:Value->Shared->Prop),Q (.int (g i j) s.toks) {s with toks:=s.toks+1}->wpAny (model X.prog X.w) X.A (f (.int i t) (.int j u)) Q E s) :
  OpR X f (rI0 λi j=>.int (g i j)):=by
 intro pins s σ H x y v u Q I rx ry h;obtain⟨i,j,rfl,rfl,q⟩:=h;obtain⟨t,rfl⟩:=rx;obtain⟨t',rfl⟩:=ry;exact z i j t t' s _ _ ⟨.int (g i j),H,I.tok _,⟨_,Z⟩,q⟩
theorem AaJ{f:Value->Value->Sem Value}{g:Int->Int->Bool}
  (z:∀(i j:Int)(t u:Tok)(s:Shared)(Q:Value->Shared->Prop)(E:Value->Shared->Prop),Q (.bool (g i j)) s->wpAny (model X.prog X.w) X.A (f (.int i t) (.int j u)) Q E s) :
  OpR X f (rI0 λi j=>.bl (g i j)):=by
 intro pins s σ H x y v u Q I rx ry h;obtain⟨i,j,rfl,rfl,q⟩:=h;obtain⟨t,rfl⟩:=rx;obtain⟨t',rfl⟩:=ry;exact z i j t t' s _ _ ⟨.bl (g i j),H,I,Z,q⟩
def Wa(i j:Int):Prop:=0<j/\j<1073741824
def Ac5(i j:Int):Prop:=0<=j/\j<=1000000/\i.natAbs<2^64
def Ac6(i j:Int):Prop:=(-(2^64)<i/\i<2^64)\/(-(2^64)<j/\j<2^64)
theorem Ac6.ok{i j:Int}(h:Ac6 i j):IntMulOk i j:=by
 rcases h with⟨h1,h2⟩|⟨h1,h2⟩
 ·exact .of_left (intBits_le_64 h1 h2)
 ·exact .of_right (intBits_le_64 h1 h2)
theorem Jd:OpR X (binaryOp .Add) (rI0 λi j=>.int (i+j)):=Aec λ_ _ _ _ _ _ _ q=>add_int q
theorem Vy:OpR X (binaryOp .Sub) (rI0 λi j=>.int (i-j)):=Aec λ_ _ _ _ _ _ _ q=>sub_int q
theorem Abe:OpR X (binaryOp .Mult) (rI Ac6 λi j=>.int (i*j)):=opI λ_ _ _ _ _ _ _ hc q=>mul_int q hc.ok
theorem De:OpR X (binaryOp .FloorDiv) (rI Wa λi j=>.int (i/j)):=opI λi j _ _ _ _ _ hc q=>by
 have h1:(0:Int)<j:=hc.1;have h2:j<1073741824:=hc.2;exact floordiv_int (by omega) (by rw[Int.fdiv_eq_ediv_of_nonneg i (by omega)];exact q) (.inl (PyProof.noPylong_small (by omega)))
theorem Cq:OpR X (binaryOp .Mod) (rI (λ_ j=>0<j) λi j=>.int (i%j)):=opI λi j _ _ _ _ _ hc q=>by
 have h1:(0:Int)<j:=hc;exact mod_int' (by omega) (by rw[Int.fmod_eq_emod_of_nonneg i (by omega)];exact q)
theorem Abt:OpR X (binaryOp .LShift) (rI Ac5 λi j=>.int (i*2^j.toNat)):=opI λ_ _ _ _ _ _ _ hc q=>lshift_int_small hc.1 hc.2.1 hc.2.2 q
theorem unI{f:Value->Sem Value}{g:Int->Int}
  (z:∀(i:Int)(t:Tok)(s:Shared)(Q:Value->Shared->Prop)(E:Value->Shared->Prop),Q (.int (g i) s.toks) {s with toks:=s.toks+1}->wpAny (model X.prog X.w) X.A (f (.int i t)) Q E s) :
  UnR X f (rU λi=>.int (g i)):=by
 intro pins s σ H x v Q I rx h;obtain⟨i,rfl,q⟩:=h;obtain⟨t,rfl⟩:=rx;exact z i t s _ _ ⟨.int (g i),H,I.tok _,⟨_,Z⟩,q⟩
theorem La:UnR X (unaryOp .USub) (rU λi=>.int (-i)):=unI λ_ _ _ _ _ q=>neg_int q
end
def Ach:V->V->Bool
 |.non,.non=>true|.non,.int _=>true|.int _,.non=>true|.non,.bl _=>true|.bl _,.non=>true|.non,.str _=>true|.str _,.non=>true
 |.int _,.int _=>true|.bl _,.bl _=>true|.str _,.str _=>true|.byt _,.byt _=>true
 |.int _,.str _=>true|.str _,.int _=>true|.bl _,.str _=>true|.str _,.bl _=>true
 |_,_=>false
def rEq:R2:=λx y H Q=>Ach x y=true/\Q (.bl (decide (x=y))) H
def rNe:R2:=λx y H Q=>Ach x y=true/\Q (.bl (!decide (x=y))) H
theorem Xh{i j:Int}:decide (V.int i=V.int j)=(i==j):=by
 rw[Bool.eq_iff_iff];simp
theorem AbS{i j:Bool}:decide (V.bl i=V.bl j)=(i==j):=by
 rw[Bool.eq_iff_iff];simp
theorem Xj{i j:Str}:decide (V.str i=V.str j)=(i==j):=by
 rw[Bool.eq_iff_iff];simp
theorem Yb{i j:Array UInt8}:decide (V.byt i=V.byt j)=(i.toList==j.toList):=by
 rw[Bool.eq_iff_iff];cases i
 cases j
 simp
section
variable{a b c:Expr}{tc:TE}
theorem Bo{s:Shared}{k z:Bool}(I:Inv X pins σ H s)(q:Q (.bl k) H)(e:k=z):EP X pins σ Q (.bool z) s:=by
 subst e;exact⟨.bl k,H,I,Z,q⟩
theorem A1:OpR X (compareOp .Eq) rEq:=by
 intro pins s σ H x y v u Q I rx z h;obtain⟨hs,q⟩:=h;cases x with
 |non=>
  cases rx
  cases y with
  |non=>cases z;exact PySem.EqNone.eq_none_none (Bo I q (by simp))
  |bl j=>cases z;exact PySem.EqNone.eq_none_bool (Bo I q (by simp))
  |int j=>obtain⟨t',rfl⟩:=z;exact PySem.EqNone.eq_none_int (Bo I q (by simp))
  |str j=>obtain⟨t',rfl⟩:=z;exact PySem.EqNone.eq_none_str (Bo I q (by simp))
  |_=>exact absurd (show false=true from hs) qc
 |bl i=>
  cases rx
  cases y with
  |non=>cases z;exact PySem.EqNone.eq_bool_none (Bo I q (by simp))
  |bl j=>cases z;exact eq_bool (Bo I q AbS)
  |str j=>obtain⟨t',rfl⟩:=z;exact PySem.EqMixed.eq_bool_str (Bo I q (by simp))
  |_=>exact absurd (show false=true from hs) qc
 |int i=>
  obtain⟨t,rfl⟩:=rx;cases y with
  |non=>cases z;exact PySem.EqNone.eq_int_none (Bo I q (by simp))
  |int j=>obtain⟨t',rfl⟩:=z;exact eq_int (Bo I q Xh)
  |str j=>obtain⟨t',rfl⟩:=z;exact PySem.EqMixed.eq_int_str (Bo I q (by simp))
  |_=>exact absurd (show false=true from hs) qc
 |str i=>
  obtain⟨t,rfl⟩:=rx;cases y with
  |non=>cases z;exact PySem.EqNone.eq_str_none (Bo I q (by simp))
  |bl j=>cases z;exact PySem.EqMixed.eq_str_bool (Bo I q (by simp))
  |int j=>obtain⟨t',rfl⟩:=z;exact PySem.EqMixed.eq_str_int (Bo I q (by simp))
  |str j=>obtain⟨t',rfl⟩:=z;exact eq_str (Bo I q Xj)
  |_=>exact absurd (show false=true from hs) qc
 |byt i=>
  obtain⟨t,rfl⟩:=rx;cases y with
  |byt j=>obtain⟨t',rfl⟩:=z;exact PySem.W.eq_bytes (Bo I q Yb)
  |_=>exact absurd (show false=true from hs) qc
 |_=>cases y<;>exact absurd (show false=true from hs) qc
theorem AaC:OpR X (compareOp .NotEq) rNe:=by
 intro pins s σ H x y v u Q I rx z h;obtain⟨hs,q⟩:=h;cases x with
 |non=>
  cases rx
  cases y with
  |non=>cases z;exact PySem.EqNone.ne_none_none (Bo I q (by simp))
  |bl j=>cases z;exact PySem.EqNone.ne_none_bool (Bo I q (by simp))
  |int j=>obtain⟨t',rfl⟩:=z;exact PySem.EqNone.ne_none_int (Bo I q (by simp))
  |str j=>obtain⟨t',rfl⟩:=z;exact PySem.EqNone.ne_none_str (Bo I q (by simp))
  |_=>exact absurd (show false=true from hs) qc
 |bl i=>
  cases rx
  cases y with
  |non=>cases z;exact PySem.EqNone.ne_bool_none (Bo I q (by simp))
  |bl j=>cases z;exact ne_bool (Bo I q (congrArg not AbS))
  |str j=>obtain⟨t',rfl⟩:=z;exact PySem.EqMixed.ne_bool_str (Bo I q (by simp))
  |_=>exact absurd (show false=true from hs) qc
 |int i=>
  obtain⟨t,rfl⟩:=rx;cases y with
  |non=>cases z;exact PySem.EqNone.ne_int_none (Bo I q (by simp))
  |int j=>obtain⟨t',rfl⟩:=z;exact ne_int (Bo I q (congrArg not Xh))
  |str j=>obtain⟨t',rfl⟩:=z;exact PySem.EqMixed.ne_int_str (Bo I q (by simp))
  |_=>exact absurd (show false=true from hs) qc
 |str i=>
  obtain⟨t,rfl⟩:=rx;cases y with
  |non=>cases z;exact PySem.EqNone.ne_str_none (Bo I q (by simp))
  |bl j=>cases z;exact PySem.EqMixed.ne_str_bool (Bo I q (by simp))
  |int j=>obtain⟨t',rfl⟩:=z;exact PySem.EqMixed.ne_str_int (Bo I q (by simp))
  |str j=>obtain⟨t',rfl⟩:=z;exact ne_str (Bo I q (congrArg not Xj))
  |_=>exact absurd (show false=true from hs) qc
 |byt i=>
  obtain⟨t,rfl⟩:=rx;cases y with
  |byt j=>obtain⟨t',rfl⟩:=z;exact PySem.W.ne_bytes (Bo I q (congrArg not Yb))
  |_=>exact absurd (show false=true from hs) qc
 |_=>cases y<;>exact absurd (show false=true from hs) qc
theorem Pu:OpR X (compareOp .Lt) (rI0 λi j=>.bl (decide (i<j))):=AaJ λ_ _ _ _ _ _ _ q=>lt_int q
theorem AgA:OpR X (compareOp .LtE) (rI0 λi j=>.bl (decide (i<=j))):=AaJ λ_ _ _ _ _ _ _ q=>le_int q
theorem AdK:OpR X (compareOp .Gt) (rI0 λi j=>.bl (decide (j<i))):=AaJ λ_ _ _ _ _ _ _ q=>gt_int q
theorem Af2:OpR X (compareOp .GtE) (rI0 λi j=>.bl (decide (j<=i))):=AaJ λ_ _ _ _ _ _ _ q=>ge_int q
theorem Lk:OpR X (compareOp .Is) (λx y H Q=>y=.non/\Q (.bl (decide (x=.non))) H):=by
 intro pins s σ H x y v u Q I z ry h;obtain⟨rfl,q⟩:=h;cases ry
 refine is_none_gen (Bo I q ?_)
 cases x<;>first
  | (cases z;rfl)
  | (obtain⟨t,rfl⟩:=z;rfl)
theorem Qz:OpR X (compareOp .IsNot) (λx y H Q=>y=.non/\Q (.bl (!decide (x=.non))) H):=by
 intro pins s σ H x y v u Q I z ry h;obtain⟨rfl,q⟩:=h;cases ry
 refine isnot_none_gen (Bo I q ?_)
 cases x<;>first
  | (cases z;rfl)
  | (obtain⟨t,rfl⟩:=z;rfl)
theorem Aq(b:Expr){op:CmpOp}(h:op≠.In:=by decide)(h2:op≠.NotIn:=by decide):behindInMarks op b=false:=by
 have e1:(op==CmpOp.In)=false:=by cases op<;>first|rfl|exact absurd rfl h
 have e2:(op==CmpOp.NotIn)=false:=by cases op<;>first|rfl|exact absurd rfl h2
 cases b<;>simp[behindInMarks,e1,e2]
theorem Ga{op:CmpOp}{r:R2}(ho:OpR X (compareOp op) r)(ha:PE X a ta)(hb:PE X b tb)(hm:behindInMarks op b=false):PE X (.Compare a [op] [b] pos) (tOp r ta tb):=by
 intro pins s σ H Q I h;exact wpAny_Compare1 (AcD ha hb I h λv u s2 x y H2 I2 z ry q=>ho pins s2 σ H2 x y v u Q I2 z ry q) hm
def Fo(t:TE):TT:=λσ H Q=>t σ H (isB Q)
theorem An{op:CmpOp}{r:R2}(ho:OpR X (compareOp op) r)(ha:PE X a ta)(hb:PE X b tb)(hm:behindInMarks op b=false):PT X (.Compare a [op] [b] pos) (Fo (tOp r ta tb)):=by
 intro pins s σ H Q I h
 refine wpAny_isTrue_Compare1 (thn (ha pins s σ H _ I h) λv s1 ⟨x,H1,I1,r1,q1⟩=>thn (hb pins s1 σ H1 _ I1 q1) λu s2 ⟨y,H2,I2,r2,q2⟩=>
  thn (ho pins s2 σ H2 x y v u _ I2 r1 r2 q2) λc s3 ⟨z,H3,I3,r3,q3⟩=>?_) hm
 obtain⟨k,e,q3⟩:=Q6 q3;subst e;cases r3
 exact wpAny_truthy_bool ⟨H3,I3,q3⟩
def Zf(K:FA)(x:V)(H:Hp)(k:Bool):Prop:=
 match x with
 |.non=>k=false
 |.bl b=>k=b
 |.int i=>k=(i != 0)
 |.str y=>y.length<=sizeLine/\k=((y.length:Int) != 0)
 |.byt y=>y.size<=sizeLine/\k=((y.size:Int) != 0)
 |.ref p=>(∃xs,SqL K H p xs/\k = !xs.isEmpty)\/(∃xs,SqT K H p xs/\k = !xs.isEmpty)\/∃kvs,H p=some (.dK kvs)/\k = !kvs.isEmpty
 |_=>False
theorem Z6{κ:Type}{kvs:List (κ×V)}{vs:List (κ×Value)}(r:KV kvs vs):(!vs.isEmpty) = !kvs.isEmpty:=by
 cases r<;>rfl
theorem Qf{z:List Value}(r:A8 xs z):(!z.toArray.isEmpty) = !xs.isEmpty:=by
 cases r<;>simp
theorem K8:(sizeLine:Nat)<2^63:=by rw[sizeLine_eq];decide
theorem AfV:Ag2 X (λx H Q=>∃k,Zf X.K x H k/\Q k H):=by
 intro pins s σ H x v Q I rx h;obtain⟨k,e,q⟩:=h;have hl:=K8;have hs:sizeLine=16777216:=sizeLine_eq;cases x with
 |non=>
  cases rx
  have z:k=false:=e;subst z;exact truthy_none ⟨H,I,q⟩
 |bl b=>
  cases rx
  have z:k=b:=e;subst z;exact wpAny_truthy_bool ⟨H,I,q⟩
 |int i=>
  obtain⟨t,rfl⟩:=rx;have z:k=(i != 0):=e;subst z;exact PySem.P.truthy_int ⟨H,I,q⟩
 |str y=>
  obtain⟨t,rfl⟩:=rx;obtain⟨hy,z⟩:y.length<=sizeLine/\k=((y.length:Int) != 0):=e;subst z;exact PySem.P.truthy_str (by omega) ⟨H,I.tok _,q⟩
 |byt y=>
  obtain⟨t,rfl⟩:=rx;obtain⟨hy,z⟩:y.size<=sizeLine/\k=((y.size:Int) != 0):=e;subst z;exact PySem.W.truthy_bytes (by omega) ⟨H,I.tok _,q⟩
 |ref p=>
  cases rx
  have z:(∃xs,SqL X.K H p xs/\k = !xs.isEmpty)\/(∃xs,SqT X.K H p xs/\k = !xs.isEmpty)\/∃kvs,H p=some (.dK kvs)/\k = !kvs.isEmpty:=e;rcases z with⟨xs,hx,z⟩|⟨xs,hx,z⟩|⟨kvs,hx,z⟩
  ·subst z
   obtain⟨a2,r,pl,hz⟩:=I.list hx;have a1:=r.length;exact wpAny_truthy_list pl.isList (by simp only[uM];omega) ⟨H,I.tok _,by rw[Qf r];exact q⟩
  ·subst z
   obtain⟨a2,r,pl,hz⟩:=I.tuple hx;have a1:=r.length;exact truthy_tuple pl (by simp only[uM];omega) ⟨H,I.tok _,by rw[Qf r];exact q⟩
  ·subst z
   obtain⟨hz,hS,vs,r,m⟩:kvs.length<=sizeLine/\(p==sysModules)=false/\∃vs,KV kvs vs/\s.heap.DictOf (mixKind X.prog X.w) p vs:=I.hok p _ hx;have a1:kvs.length=vs.length:=Paired.length r;exact wpAny_truthy_dict hS m (by omega) ⟨H,I.tok _,by rw[Z6 r];exact q⟩
 |_=>exact(show False from e).elim
theorem Ex(ha:PE X a ta)(he:∀z,isTrue a X.env z=(do let v <-z;standAt a.pos;holding [v] (truthy v))) :
  PT X a (λσ H Q=>ta σ H λx H'=>∃k,Zf X.K x H' k/\Q k H'):=by
 intro pins s σ H Q I h;exact isTrue_plain (thn (ha pins s σ H _ I h) λv s1 ⟨x,H1,I1,r1,q1⟩=>AfV pins s1 σ H1 x v Q I1 r1 q1) (he _)
theorem Pg{x:V}(r:A8 [x] us):∃u,us=[u]/\A7 x u:=by
 cases r with
 |cons r1 r2=>cases r2;exact⟨_,rfl,r1⟩
theorem Agd{x y:V}(r:A8 [x,y] us):∃u z,us=[u,z]/\A7 x u/\A7 y z:=by
 cases r with
 |cons r1 r2=>
  cases r2 with
  |cons r3 r4=>cases r4;exact⟨_,_,rfl,r1,r3⟩
theorem Mo(hc:X.calm=true):Ge X (.builtin "max") (λxs H Q=>∃i j,xs=[.int i,.int j]/\Q (.int (if j>i then j else i)) H):=by
 intro pins s σ H xs us Q I r h;obtain⟨i,j,rfl,q⟩:=h;obtain⟨u,w',rfl,⟨t,rfl⟩,⟨t',rfl⟩⟩:=Agd r;refine max_two_ints (I.ok.hd hc) λh' tk k=>⟨_,H,I.kept k,?_,q⟩
 by_cases z:j>i
 ·rw[if_pos z,if_pos z];exact⟨_,Z⟩
 ·rw[if_neg z,if_neg z];exact⟨_,Z⟩
theorem AaV:Ge X (.type "int") (λxs H Q=>(∃i,xs=[.int i]/\Q (.int i) H)\/∃k,xs=[.bl k]/\Q (.int (if k then 1 else 0)) H):=by
 intro pins s σ H xs us Q I r h;rcases h with⟨i,rfl,q⟩|⟨k,rfl,q⟩
 ·obtain⟨u,rfl,t,rfl⟩:=Pg r
  exact call_int_int ⟨.int i,H,I,⟨_,Z⟩,q⟩
 ·obtain⟨u,rfl,r1⟩:=Pg r
  cases r1
  exact call_int_bool ⟨.int (if k then 1 else 0),H,I.tok _,⟨_,Z⟩,q⟩
end
structure O8(h:Heap)(x dx C:Addr)(mA:Str->Option Value):Prop where
 obj:h.get? x=some (instObj C dx)
 ns:h.Ns1 dx mA
 ne:dx≠x
theorem AbX{dx:Addr}{mA:Str->Option Value}(n:h.Ns1 dx mA):∃od,h.get? dx=some od/\∀name,lookIn name od=some (mA name):=by
 obtain⟨o,es,ep,ho,hd,hk,_,hm⟩:=n;refine⟨o,ho,λname=>?_⟩;have e:=hm name;unfold nsFind findBy at e;rw[<-Array.find?_toList]at e;unfold lookIn;rw[hd];dsimp only;split
 ·rename_i y q
  rw[q]at e;exact congrArg some e
 ·rename_i q
  rw[q]at e
  have a:es.toList.any (·.refKey)=false:=by
   rw[List.any_eq_false];intro y hy;obtain⟨z,t,a1⟩:=hk y (Array.mem_toList_iff.mp hy);simp[DictEntry.refKey,a1]
  have a':¬es.toList.any (·.refKey)=true:=by rw[a];exact qc
  rw[if_neg a'];exact congrArg some e
theorem O8.look{x dx:Addr}{mA:Str->Option Value}(I:O8 h x dx C mA):∃od,PySem.W.InstAt h x (instObj C dx) C (some od)/\∀name,lookIn name od=some (mA name):=
 let ⟨od,ho,hl⟩:=AbX I.ns
 ⟨od,⟨I.obj,Z,Z,ho⟩,hl⟩
section
variable{s:Shared}{x dx:Addr}{mA:Str->Option Value}{name:Str}{v:Value}
theorem Ade{z:Bool}{Q:Value->Shared->Prop}(X:K.In s.heap)(I:O8 s.heap x dx C mA)(hg:plainGet K C name=true)(hh:hasDictIn K C=true)
  (ha:findIn K (.ref C) name=some none) (hv:mA name=some v) (a1:handedIn v=true) (h:Q v {s with toks:=s.toks+1}) :
  wpAny (model prog w) A (getAttr (.ref x) name z) Q E s:=by
 obtain⟨od,J,hl⟩:=I.look;exact PySem.W.get_value X J (plainGet_of hg).1 (PySem.W.findObj_own hh ha rfl (by rw[hl,hv])) a1 h
theorem Ab9{pl:Sem Bool}{Q:Value×List Value->Shared->Prop}(X:K.In s.heap)(I:O8 s.heap x dx C mA)(hg:plainGet K C name=true)
  (hf:findIn K (.ref C) name=some (some (.ref f))) (z:isFn K (.ref f)=true) (hv:mA name=none) (h:Q (.ref f,[.ref x]) s) :
  wpAny (model prog w) A (getMethod (.ref x) name pl) Q E s:=by
 obtain⟨od,J,hl⟩:=I.look;exact PySem.W.method_fn X J (plainGet_of hg).1 (plainGet_of hg).2 hf (beq_iff_eq.mp z) (by show(lookIn name od).map (·.isSome)=some false;rw[hl,hv];rfl) h
theorem Adx{ns:List Str}{Q:Unit->Shared->Prop}(X:K.In s.heap)(I:O8 s.heap x dx C mA)
  (hs:findIn K (.ref C) "__setattr__"= some (some (.builtin "object.__setattr__"))) (hp:plainOver K C=true) (ht:takerIn K C name=some none) (hh:hasDictIn K C=true)
  (hw:PySem.Within mA ns) (hsz:ns.length<=sizeLine)
  (h:∀h',O8 h' x dx C (λy=>if y=name then some v else mA y)->Heap.SameBut dx s.heap h'->Q () {s with heap:=h',toks:=s.toks+2}) :
  wpAny (model prog w) A (setAttr (.ref x) name v) Q E s:=by
 obtain⟨od,J,hl⟩:=I.look;refine PySem.W.set_plain X J hs (PySem.W.osa_open (s:={s with toks:=s.toks+1}) (r:=none) X J hp ht λb=>?_);obtain⟨cd,hc,a4⟩:=PySem.W.any_some hh;have hx:s.heap.get? x=some ⟨.ref C,some dx,.plain,#[]⟩:=I.obj;refine rY (rZ (rY (rY (wpAny_loadPart hx (rY (Looks.here (s:={s with toks:=s.toks+1}) (PySem.W.looks_clsIn X hc) ?_))))));rw[a4];refine rZ (a:=some dx) (rY (rZ (rY ?_)));refine wpAny_nsSet1 (s:={s with toks:=s.toks+1}) I.ns λh' a1 z=>?_
 obtain⟨oD,a6,a7,a2,a3,a5⟩:=a1.count (PySem.Within.cons name v hw);refine rY (wpAny_lookBehind a2 (by rw[a3];exact pastItsLine_dict (uY a5 (by rw[uV];omega))) ?_);exact rZ (h _ ⟨(z.2 _ (Ne.symm I.ne)).trans I.obj,a1,I.ne⟩ z)
theorem AcO{R:Result->Shared->Prop}{vs:List Value}{kw:List (Str×Value)}(X:K.In s.heap)(hm:makesIn K C=true)
  (hi:findIn K (.ref C) "__init__"= some (some (.ref f))) (z:typeIn K (.ref f)=some (.type "function"))
  (h:codeAny (model prog w) (A.under (.builtin "type.__call__" ⟨.ref C::vs,kw⟩)) (.call (.ref f) ⟨.ref (s.heap.objs.size+1)::vs,kw⟩) (PySem.W.InitBack (s.heap.objs.size+1) R)
   {s with heap:=(s.heap.push emptyDict).push (instObj C s.heap.objs.size)}) :
  codeAny (model prog w) A (.call (.ref C) ⟨vs,kw⟩) R s:=by
 obtain⟨hh,g,d,t,os⟩:=s;exact PySem.W.make_core (PySem.W.makes_of X hm) (PySem.W.looks_findIn X hi) (λself=>PySem.W.bind_fn X self z) (.inl rfl) h
end
def Dv(f:Str)(v:V):List (Str×V)->List (Str×V)
 |[]=>[(f,v)]
 | (g,x)::r=>if g=f then(g,v)::r else(g,x)::Dv f v r
theorem Oc(f g:Str)(v:V):∀fs:List (Str×V),(Dv f v fs).lookup g=if g=f then some v else fs.lookup g
 |[]=>by
  show List.lookup g [(f,v)]=_
  by_cases h:g=f
  ·have z:(g==f)=true:=beq_iff_eq.mpr h
   simp only[List.lookup,z,if_pos h]
  ·have z:(g==f)=false:=beq_eq_false_iff_ne.mpr h
   simp only[List.lookup,z,if_neg h]
 | (k,x)::r=>by
  have ih:=Oc f g v r;rw[show Dv f v ((k,x)::r)=(if k=f then(k,v)::r else(k,x)::Dv f v r) from rfl]
  by_cases hk:k=f
  ·rw[if_pos hk]
   by_cases h:g=k
   ·have z:(g==k)=true:=beq_iff_eq.mpr h
    simp only[List.lookup,z,if_pos (h.trans hk)]
   ·have z:(g==k)=false:=beq_eq_false_iff_ne.mpr h
    simp only[List.lookup,z,if_neg (λe:g=f=>h (e.trans hk.symm))]
  ·rw[if_neg hk]
   by_cases h:g=k
   ·have z:(g==k)=true:=beq_iff_eq.mpr h
    simp only[List.lookup,z,if_neg (λe:g=f=>hk (h.symm.trans e))]
   ·have z:(g==k)=false:=beq_eq_false_iff_ne.mpr h
    simp only[List.lookup,z];exact ih
theorem M7(f:Str)(v:V):∀fs:List (Str×V),f∈(Dv f v fs).map (·.1)/\∀g,g∈fs.map (·.1)->g∈(Dv f v fs).map (·.1)
 |[]=>⟨by simp[Dv],λg h=>by simp at h⟩
 | (k,x)::r=>by
  obtain⟨i1,i2⟩:=M7 f v r;rw[show Dv f v ((k,x)::r)=(if k=f then(k,v)::r else(k,x)::Dv f v r) from rfl]
  by_cases hk:k=f
  ·rw[if_pos hk]
   subst hk;exact⟨by simp,λg h=>by simpa using h⟩
  ·rw[if_neg hk]
   refine⟨?_,λg h=>?_⟩
   ·rw[vS]
    exact uG _ i1
   ·rw[vS]at h ⊢
    rcases vJ.mp h with e|e
    ·exact vJ.mpr (.inl e)
    ·exact uG _ (i2 g e)
theorem Og(f:Str)(v:V):∀fs:List (Str×V),(Dv f v fs).length<=fs.length+1
 |[]=>by simp[Dv]
 | (k,x)::r=>by
  have z:=Og f v r;rw[show Dv f v ((k,x)::r)=(if k=f then(k,v)::r else(k,x)::Dv f v r) from rfl]
  by_cases hk:k=f
  ·rw[if_pos hk,uV,uV];omega
  ·rw[if_neg hk,uV,uV];omega
theorem Gn.some_of{v:V}{o:Option Value}(r:Gn (some v) o):∃u,o=some u/\A7 v u:=by
 cases o with
 |none=>exact(show False from r).elim
 |some u=>exact⟨u,rfl,r⟩
theorem Gn.none_of{o:Option Value}(r:Gn none o):o=none:=by
 cases o with
 |none=>rfl
 |some u=>exact(show False from r).elim
theorem Aaw{v:V}(r:A7 v u):handedIn u=true:=by
 cases v with
 |non=>cases (show u=Value.none from r);rfl
 |bl b=>cases (show u=Value.bool b from r);rfl
 |int i=>obtain⟨t,e⟩:=(show ∃t,u=Value.int i t from r);cases e;rfl
 |str x=>obtain⟨t,e⟩:=(show ∃t,u=Value.str x t from r);cases e;rfl
 |byt b=>obtain⟨t,e⟩:=(show ∃t,u=Value.bytes b t from r);cases e;rfl
 |flt b=>obtain⟨t,e⟩:=(show ∃t,u=Value.float b t from r);cases e;rfl
 |ref a=>cases (show u=Value.ref a from r);rfl
 |ty n=>cases (show u=Value.type n from r);rfl
section
variable{dx:Addr}{fs fs':List (Str×V)}
theorem Np(hok:HOk P w H h)(e:H a=some (.ins C dx fs)):∃mA,O8 h a dx C mA/\(∀f,Gn (fs.lookup f) (mA f))/\PySem.Within mA (fs.map (·.1))/\fs.length<=1000/\H dx=some (.own a):=by
 obtain⟨d,z,ne,ob,mA,n,r,q⟩:=(show B1 P w H h a (.ins C dx fs) from hok a _ e);exact⟨mA,⟨ob,n,ne⟩,r,q,z,d⟩
end
structure Cls(K:FA)(C:Addr):Prop where
 pg:plainGet K C Str.empty=true
 hd:hasDictIn K C=true
 po:plainOver K C=true
 sa:findIn K (.ref C) "__setattr__"= some (some (.builtin "object.__setattr__"))
theorem Cls.get(c:Cls K C)(f:Str):plainGet K C f=true:=c.pg
def D3(K:FA)(C:Addr)(f:Str):Prop:=findIn K (.ref C) f=some none
theorem D3.taker{f:Str}(n:D3 K C f):takerIn K C f=some none:=by
 unfold takerIn;rw[show findIn K (.ref C) f=some none from n];rfl
structure Jp(K:FA)(C:Addr)(m:Str)(f:Addr):Prop where
 at_:findIn K (.ref C) m=some (some (.ref f))
 fn:isFn K (.ref f)=true
 kp:keepIn K (.ref f)=true
section
variable{s:Shared}{dx:Addr}{fs:List (Str×V)}{f:Str}{v:V}
theorem Zb{b:Bool}{Q:Value->Shared->Prop}(I:Inv X pins σ H s)(e:H a=some (.ins C dx fs))(c:Cls X.K C)(n:D3 X.K C f)(l:fs.lookup f=some v)
  (h:∀u s',Inv X pins σ H s'->A7 v u->Q u s'):wpAny (model X.prog X.w) A (getAttr (.ref a) f b) Q E s:=by
 obtain⟨mA,O,r,_,_,_⟩:=Np I.hok e;obtain⟨u,hu,z⟩:=Gn.some_of (v:=v) (o:=mA f) (by rw[<-l];exact r f);exact Ade I.kIn O (c.get f) c.hd n hu (Aaw z) (h u _ (I.tok _) z)
theorem Qh{m:Str}{g:Addr}{pl:Sem Bool}{Q:Value×List Value->Shared->Prop}(I:Inv X pins σ H s)(e:H a=some (.ins C dx fs))(c:Cls X.K C)(k:Jp X.K C m g)(l:fs.lookup m=none)
  (h:Q (.ref g,[.ref a]) s):wpAny (model X.prog X.w) A (getMethod (.ref a) m pl) Q E s:=by
 obtain⟨mA,O,r,_,_,_⟩:=Np I.hok e;have hn:mA m=none:=Gn.none_of (by rw[<-l];exact r m);exact Ab9 I.kIn O (c.get m) k.at_ k.fn hn h
theorem Zo{y:V}{Q:Unit->Shared->Prop}(I:Inv X pins σ H s)(e:H a=some (.ins C dx fs))(c:Cls X.K C)(n:D3 X.K C f)(hl:fs.length<1000)(ry:A7 y u)
  (h:∀s',Inv X pins σ (upd H a (.ins C dx (Dv f y fs))) s'->Q () s'):wpAny (model X.prog X.w) A (setAttr (.ref a) f u) Q E s:=by
 obtain⟨mA,O,r,wi,_,ho⟩:=Np I.hok e;have hz:(fs.map (·.1)).length<=sizeLine:=by rw[uB,sizeLine_eq];omega
 refine Adx I.kIn O c.sa c.po n.taker c.hd wi hz λh' O' sb=>h _ ?_
 have hd:∃o,h'.get? dx=some o:=let ⟨o,_,_,e',_⟩:=O'.ns;⟨o,e'⟩
 refine I.write (x:=a) (e:=dx) (by rw[e];exact True.intro) (.inr ho) (λb q hb z=>(sb.2 b hb).trans z) hd ?_;refine⟨by rw[upd_ne O.ne];exact ho,?_,O.ne,O'.obj,_,O'.ns,λg=>?_,λg hg=>?_⟩
 ·have:=Og f y fs;omega
 ·show Gn ((Dv f y fs).lookup g) (if g=f then some u else mA g)
  rw[Oc]
  by_cases q:g=f
  ·rw[if_pos q,if_pos q];exact ry
  ·rw[if_neg q,if_neg q];exact r g
 ·by_cases q:g=f
  ·rw[q];exact(M7 f y fs).1
  ·refine(M7 f y fs).2 g (wi g λz=>hg ?_)
   show(if g=f then some u else mA g)=none
   rw[if_neg q];exact z
theorem Inv.made(I:Inv X pins σ H s):Inv X pins σ (upd (upd H s.heap.objs.size (.own (s.heap.objs.size+1))) (s.heap.objs.size+1) (.ins C s.heap.objs.size []))
  {s with heap:=(s.heap.push emptyDict).push (instObj C s.heap.objs.size)}:=by
 have e1:(s.heap.push emptyDict).get? s.heap.objs.size=some emptyDict:=Heap.get?_push_size s.heap rfl
 have e2:((s.heap.push emptyDict).push (instObj C s.heap.objs.size)).get? (s.heap.objs.size+1)=some (instObj C s.heap.objs.size):=by
  have:=Heap.get?_push_size (s.heap.push emptyDict) (o:=instObj C s.heap.objs.size) rfl
  rwa[Heap.size_push]at this
 have e3:(s.heap.push emptyDict).Ns s.heap.objs.size (λ_=>none):=⟨emptyDict,#[],_,e1,Z,(λe he=>absurd he (by simp)),λ_=>rfl⟩;have I1:=I.laid (a:=s.heap.objs.size) (o:=.own (s.heap.objs.size+1)) (h':=s.heap.push emptyDict) (t':=s.toks) (λb u q=>Heap.get?_push_of_some _ q) (uZ _) ⟨_,e1⟩;refine I1.laid (a:=s.heap.objs.size+1) (o:=.ins C s.heap.objs.size []) (t':=s.toks) (λb u q=>Heap.get?_push_of_some _ q) (le_of_eq (Heap.size_push _ _)) ?_;have ne:s.heap.objs.size≠s.heap.objs.size+1:=vC (lt_succ_self _);refine⟨by rw[upd_ne ne,qa],vY _,ne,e2,λ_=>none,(Heap.Ns1.of_empty e3).at λo q=>Heap.get?_push_of_some _ q,λ_=>True.intro,λy z=>absurd rfl z⟩
theorem AeE{env:Env}{f:Str}{s:Shared}{Q:Value->Shared->Prop}(hb:attributeBase e f env (eval e env)=eval e env)
  (h:wpAny (model prog w) A (eval e env) (λo z=>wpAny (model prog w) A (getAttr o f true) Q E z) E s):wpAny (model prog w) A (eval (.Attribute e f pos) env) Q E s:=
 Attribute_any_ h (by rw[arm_eval_Attribute,hb])
end
inductive Aac(K:FA)(f:Str)(Q:VK):VK
 |mk{a C dx:Addr}{fs:List (Str×V)}{v:V}{H1:Hp}(_:H1 a=some (.ins C dx fs))(_:Cls K C)(_:D3 K C f)(_:fs.lookup f=some v)(_:Q v H1):Aac K f Q (.ref a) H1
def AfF(K:FA)(ta:TE)(f:Str):TE:=λσ H Q=>ta σ H (Aac K f Q)
inductive Abo(K:FA)(f:Str)(y:V)(R:Hp->Prop):VK
 |mk{a C dx:Addr}{fs:List (Str×V)}{H2:Hp}(_:H2 a=some (.ins C dx fs))(_:Cls K C)(_:D3 K C f)(_:fs.length<1000)(_:R (upd H2 a (.ins C dx (Dv f y fs)))):Abo K f y R (.ref a) H2
def AhX(K:FA)(ta tv:TE)(f:Str):TS:=λD σ H=>tv σ H λy H1=>ta σ H1 (Abo K f y (D.nx σ))
section
variable{o value:Expr}{f:Str}{pos' tpos:Pos}{tv:TE}
theorem Aw(he:PE X e ta)(hb:attributeBase e f X.env (eval e X.env)=eval e X.env):PE X (.Attribute e f pos) (AfF X.K ta f):=by
 intro pins s σ H Q I h;refine AeE hb (thn (he pins s σ H _ I h) λu s1 ⟨x,H1,I1,rx,qq⟩=>?_);obtain @⟨a,C,dx,fs,v,_,ea,c,n,l,q⟩:=qq;obtain rfl:u=Value.ref a:=rx;exact Zb I1 ea c n l λu' s2 I2 z=>⟨v,H1,I2,z,q⟩
theorem Cc(ha:PE X o ta)(hv:PE X value tv)(hs:swapsWith value (some (.Attribute o f pos')) pos.line X.env=pure false):PS X (.Assign [.Attribute o f pos'] value pos) (AhX X.K ta tv f):=by
 intro pins s σ H D I h;refine plainObj_wpAny_Assign_Attribute (thn (hv pins s σ H _ I h) λu s1 ⟨y,H1,I1,ry,q⟩=>thn (ha pins s1 σ H1 _ I1 q) λov s2 ⟨x,H2,I2,rx,z⟩=>?_) hs;obtain @⟨a,C,dx,fs,_,ea,c,n,l,q2⟩:=z;obtain rfl:ov=Value.ref a:=rx;exact Zo I2 ea c n l ry λs3 I3=>⟨σ,_,I3,q2⟩
end
section
variable{s:Shared}{Q:Value->Shared->Prop}{c:Value}{b:Bool}
inductive Hu(K:FA)(H:Hp):V->Value->Prop where
 |non:Hu K H .non (.type "NoneType")
 |bl (x:Bool):Hu K H (.bl x) (.type "bool")
 |int (i:Int):Hu K H (.int i) (.type "int")
 |str (x:Str):Hu K H (.str x) (.type "str")
 |flt (x:UInt64):Hu K H (.flt x) (.type "float")
 |lst {a:Addr} {xs:List V} (e:H a=some (.lst xs)):Hu K H (.ref a) (.type "list")
 |frz {a:Addr} {o:Obj} {xs:List V} (e:H a=some (.frz o (.lst xs))):Hu K H (.ref a) (.type "list")
 |tup {a:Addr} {xs:List V} (e:H a=some (.tup xs)):Hu K H (.ref a) (.type "tuple")
 |dK {a:Addr} {kvs:List (Key×V)} (e:H a=some (.dK kvs)):Hu K H (.ref a) (.type "dict")
 |dT {a:Addr} {kvs:List (List Key×V)} (e:H a=some (.dT kvs)):Hu K H (.ref a) (.type "dict")
 |ins {a C dx:Addr} {fs:List (Str×V)} (e:H a=some (.ins C dx fs)) (cl:Cls K C) (ha:findIn K (.ref C) "__class__"= some (some (.builtin "object.__class__")))
   (hn:PySem.W.specialIn K (.builtin "object.__class__") "__get__"= some (some (.builtin "getset_descriptor.__get__"))) (htk:PySem.W.takesIn K (.builtin "object.__class__")=some true)
   (hm:mroIn K C (.type "object")=some true):Hu K H (.ref a) (.ref C)
theorem Aan{x:V}{t:Value}(I:Inv X pins σ H s)(rx:A7 x u)(ty:Hu X.K H x t)(e:kitOne X.K t c=some b)(h:∀tk,Q (.bool b) {s with toks:=tk}) :
  wpAny (model X.prog X.w) A (call (.builtin "isinstance") [u,c]) Q E s:=by
 cases ty with
 |non=>cases (show u=Value.none from rx);exact kia_one PySem.W.kitx_none I.kIn True.intro e (λz=>nomatch z) h
 |bl y=>cases (show u=Value.bool y from rx);exact kia_one PySem.W.kitx_bool I.kIn True.intro e (λz=>nomatch z) h
 |int i=>obtain⟨t,q⟩:=(show ∃t,u=Value.int i t from rx);cases q;exact kia_one PySem.W.kitx_int I.kIn True.intro e (λz=>nomatch z) h
 |str y=>obtain⟨t,q⟩:=(show ∃t,u=Value.str y t from rx);cases q;exact kia_one PySem.W.kitx_str I.kIn True.intro e (λz=>nomatch z) h
 |flt y=>obtain⟨t,q⟩:=(show ∃t,u=Value.float y t from rx);cases q;exact kia_one PySem.W.kitx_float I.kIn True.intro e (λz=>nomatch z) h
 |@lst a xs ea=>
  cases (show u=Value.ref a from rx)
  obtain⟨_,_,n,_,h1⟩:=(show B1 X.prog X.w H s.heap a (.lst xs) from I.hok a _ ea);exact kia_one kitx_list I.kIn ⟨_,h1,Z⟩ e (λz=>nomatch z) h
 |@frz a ob xs ea=>
  cases (show u=Value.ref a from rx)
  obtain⟨_,_,_,n,_,h1⟩:=(show B1 X.prog X.w H s.heap a (.frz ob (.lst xs)) from I.hok a _ ea);exact kia_one kitx_list I.kIn ⟨_,h1,Z⟩ e (λz=>nomatch z) h
 |@tup a xs ea=>
  cases (show u=Value.ref a from rx)
  obtain⟨_,_,_,p⟩:=(show B1 X.prog X.w H s.heap a (.tup xs) from I.hok a _ ea);obtain⟨o,h1,h2,_⟩:=p;exact kia_one kitx_tuple I.kIn ⟨o,h1,h2⟩ e (λz=>nomatch z) h
 |@dK a kvs ea=>
  cases (show u=Value.ref a from rx)
  obtain⟨_,_,vs,_,p⟩:=(show B1 X.prog X.w H s.heap a (.dK kvs) from I.hok a _ ea);obtain⟨o,es,ep,h1,h2,_⟩:=p;exact kia_one kitx_dict I.kIn ⟨o,h1,h2.1⟩ e (λz=>nomatch z) h
 |@dT a kvs ea=>
  cases (show u=Value.ref a from rx)
  obtain⟨_,_,xs,_,o,es,ep,h1,h2,_⟩:=(show B1 X.prog X.w H s.heap a (.dT kvs) from I.hok a _ ea);exact kia_one kitx_dict I.kIn ⟨o,h1,h2.1⟩ e (λz=>nomatch z) h
 |@ins a C dx fs ea cl ha hn htk hm=>
  cases (show u=Value.ref a from rx)
  obtain⟨mA,O,_⟩:=Np I.hok ea;obtain⟨od,J,_⟩:=O.look;exact kia_one (PySem.W.kitx_own (cl.get _) cl.hd ha hn htk hm) I.kIn J e (λz=>nomatch z) h
end
structure Ct(k:Nat)(A:Around):Prop where
 hd:A.handled=none
 dp:A.depth+3*k+5<recursionLimit
 un:A.units+16*k+200<cLine
theorem Ct.mono{j:Nat}(r:Ct k A)(h:j<=k):Ct j A:=⟨r.hd,by have:=r.dp;omega,by have:=r.un;omega⟩
theorem Ct.deeper(r:Ct (k+1) A)(env:Env):Ct k (A.deeper env):=
 ⟨r.hd,by have:=r.dp;show A.depth+1+3*k+5<_;omega,by have:=r.un;show A.units+3+16*k+200<_;omega⟩
theorem Zv{kw:List (Str×Value)}:(A.under (.builtin "type.__call__" ⟨.ref C::us,kw⟩)).depth=A.depth+1:=by
 first|rfl|simp[Around.under,Code.weight,Code.isCreation,Code.isGuard,Code.isCaller,Code.frames,Code.isFrame,guardIds]
theorem Ze{kw:List (Str×Value)}:(A.under (.builtin "type.__call__" ⟨.ref C::us,kw⟩)).units=A.units+1:=by
 first|rfl|simp[Around.under,Code.cUnits,Code.frames,Code.isFrame]
theorem Ct.make(r:Ct (k+1) A)(C:Addr)(us:List Value)(kw:List (Str×Value)):Ct k (A.under (.builtin "type.__call__" ⟨.ref C::us,kw⟩)):=
 ⟨r.hd,by have:=r.dp;rw[Zv];omega,by have:=r.un;rw[Ze];omega⟩
theorem Ct.depth(r:Ct k A):A.depth<recursionLimit:=by have:=r.dp;omega
theorem Ct.units(r:Ct k A):A.units+64<cLine:=by have:=r.un;omega
def Dj:TA:=λ_ H Q=>Q [] H
def Bx(ta:TE)(tr:TA):TA:=λσ H Q=>ta σ H λx H1=>tr σ H1 λxs H2=>Q (x::xs) H2
section
variable{t:TA}
theorem Ab:PA X [] Dj:=λ_ _ _ _ H Q I h=>Calls.spliced_nil ⟨[],H,I,.nil,h⟩
theorem Aa(ha:PE X e te)(hr:PA X es t)(hs:starEach (e::es) X.env=(false,eval e X.env)::starEach es X.env:=by rfl):PA X (e::es) (Bx te t):=by
 intro pos pins s σ H Q I h;rw[hs];show wpAny _ _ (spliced ((false,eval e X.env)::backTo pos (starEach es X.env))) _ _ s;refine Calls.spliced_cons (thn (ha pins s σ H _ I h) λu s1 ⟨x,H1,I1,r1,q1⟩=>?_);exact thn (hr pos pins s1 σ H1 _ I1 q1) λus s2 ⟨xs,H2,I2,r2,z⟩=>⟨x::xs,H2,I2,.cons r1 r2,z⟩
def Lu(t:TA):TE:=λσ H Q=>t σ H λxs H1=>xs.length<=sizeLine/\∀p,H1 p=none->Q (.ref p) (upd H1 p (.tup xs))
def AaG(t:TA):TE:=λσ H Q=>t σ H λxs H1=>xs.length<=sizeLine/\∀p,H1 p=none->Q (.ref p) (upd H1 p (.lst xs))
theorem Ay{x1}(h:PA X es t):PE X (.Tuple es x1 pos) (Lu t):=by
 intro pins s σ H Q I hq;refine wpAny_Tuple_spliced (thn (h pos pins s σ H _ I hq) λus s1 ⟨xs,H1,I1,r,z,q⟩=>⟨by rw[<-r.length];exact z,?_⟩);have hf:H1 s1.heap.objs.size=none:=I1.hok.fresh (uZ _);refine⟨.ref s1.heap.objs.size,upd H1 s1.heap.objs.size (.tup xs),I1.laid (t':=s1.toks) (λb u e=>Heap.get?_push_of_some _ e) (uZ _) ?_,Z,q _ hf⟩;exact⟨z,us,r,⟨_,Heap.get?_push_size _ rfl,Z,_,Z⟩⟩
theorem Av(h:PA X es t):PE X (.List es pos) (AaG t):=by
 intro pins s σ H Q I hq;refine wpAny_List_spliced (thn (h pos pins s σ H _ I hq) λus s1 ⟨xs,H1,I1,r,z,q⟩=>⟨by rw[<-r.length];exact z,?_⟩);have hf:H1 s1.heap.objs.size=none:=I1.hok.fresh (uZ _);refine⟨.ref s1.heap.objs.size,upd H1 s1.heap.objs.size (.lst xs),I1.laid (t':=s1.toks) (λb u e=>Heap.get?_push_of_some _ e) (uZ _) ?_,Z,q _ hf⟩;exact⟨z,us,0,r,Heap.get?_push_size _ rfl⟩
end
abbrev Sp:=List V->Hp->VK->XK->Prop
abbrev CXT:=List Env->Hp->Shared->XK->Value->Shared->Prop
structure Oj(P:Program)(w:World)(K:FA)(mg:Str->Option Value)(base:Heap)(A:Around)(outer:List Env)(s:Shared)(H:Hp):Prop where
 frames:A.frames=some outer
 mod:Mod K mg base
 bs:∀b o,base.get? b=some o->s.heap.get? b=some o/\H b=none
 bsz:base.objs.size<=s.heap.objs.size
 funs:s.heap.FunFrames base outer
 frf:∀b∈frs outer,H b=none
 hok:HOk P w H s.heap
 bare:AllBare s.gens
def CE(outer:List Env)(P:Program)(w:World)(H:Hp)(s:Shared)(Q:VK)(u:Value)(s':Shared):Prop:=
 ∃v H',s'.os=s.os/\AllBare s'.gens/\Un (frs outer) [] H H' s.heap s'.heap/\HOk P w H' s'.heap/\A7 v u/\Q v H'
def CR(CX:CXT)(outer:List Env)(P:Program)(w:World)(H:Hp)(s:Shared)(Q:VK)(E:XK)(r:Result)(s':Shared):Prop:=
 match r with
 |.ok (.ret u)=>CE outer P w H s Q u s'
 |.ok _=>False
 |.error e=>CX outer H s E e s'
structure Ca(P:Program)(w:World)(K:FA)(mg:Str->Option Value)(base:Heap)(CX:CXT)(k:Nat)(f:Addr)(fd:FuncData)(ps:List Str)(sp:Sp):Prop where
 len:∀vs H Q E,sp vs H Q E->vs.length=ps.length
 run:∀(A:Around)(outer:List Env)(s:Shared)(H:Hp)(args:Args)(us:List Value)(vs:List V)(Q:VK)(E:XK),Ct k A->Oj P w K mg base A outer s H->BindsTo s fd args (ps.zip us)->A8 vs us->sp vs H Q E ->
  codeAny (model P w) A (.call (.ref f) args) (CR CX outer P w H s Q E) s
theorem Ca.mono{CX:CXT}{j:Nat}{sp:Sp}(F:Ca P w K mg base CX j f fd ps sp)(h:j<=k) :
  Ca P w K mg base CX k f fd ps sp:=⟨F.len,λA outer s H args us vs Q E hr=>F.run A outer s H args us vs Q E (hr.mono h)⟩
theorem Ca.imp{CX:CXT}{sp z:Sp}(F:Ca P w K mg base CX k f fd ps sp)
  (h:∀vs H Q E,z vs H Q E->sp vs H Q E):Ca P w K mg base CX k f fd ps z:=
 ⟨λvs H Q E q=>F.len vs H Q E (h _ _ _ _ q),λA outer s H args us vs Q E hr he hb hv hs=>F.run A outer s H args us vs Q E hr he hb hv (h _ _ _ _ hs)⟩
theorem Oj.make{outer:List Env}{s:Shared}(e:Oj P w K mg base A outer s H)(C:Addr)(us:List Value)(kw:List (Str×Value)) :
  Oj P w K mg base (A.under (.builtin "type.__call__" ⟨.ref C::us,kw⟩)) outer s H:=⟨by first|exact e.frames|(simpa [Around.under,Code.envs,Code.isFrame,pushEnvs] using e.frames),e.mod,e.bs,e.bsz,e.funs,e.frf,e.hok,e.bare⟩
section
variable{s s':Shared}
theorem Inv.env0(I:Inv X pins σ H s):Oj X.prog X.w X.K X.mg X.base X.A X.stack s H:=
 ⟨I.ok.frames,I.ok.mod,I.bs,uY I.ok.bsz I.sz,I.stack,I.stkFree,I.hok,I.bare⟩
theorem Inv.after(I:Inv X pins σ H s)(h:CE X.stack X.prog X.w H s Q u s'):EP X pins σ Q u s':=by
 obtain⟨v,H',os,bare,un,hok,r,q⟩:=h;obtain⟨hh,g,d,t,a1⟩:=s';obtain rfl:a1=s.os:=os;exact⟨v,H',I.call (h':=hh) (g':=g) (d':=d) (t':=t) (ch:=[]) un hok bare (λb z=>absurd z (by simp)),r,q⟩
end
def Ip(sp:Sp)(dvs:List V)(E:XK)(t:TA):TE:=λσ H Q=>t σ H λvs H1=>sp (vs++dvs) H1 Q E
inductive Y5(C:Addr)(m:Str)(R:VK):VK
 |mk{a dx:Addr}{fs:List (Str×V)}{H1:Hp}(_:H1 a=some (.ins C dx fs))(_:fs.lookup m=none)(_:R (.ref a) H1):Y5 C m R (.ref a) H1
def Pp(C:Addr)(m:Str)(sp:Sp)(dvs:List V)(E:XK)(ta:TE)(t:TA):TE:=λσ H Q=>ta σ H (Y5 C m λx H1=>t σ H1 λvs H2=>sp (x::(vs++dvs)) H2 Q E)
def Agk(C:Addr)(sp:Sp)(dvs:List V)(E:XK)(t:TA):TE:=λσ H Q=>t σ H λvs H1=>∀x dx,H1 x=none->H1 dx=none->dx≠x ->
 sp (.ref x::(vs++dvs)) (upd (upd H1 dx (.own x)) x (.ins C dx [])) (λv H2=>v=.non/\Q (.ref x) H2) E
def Dh(K:FA)(fd:FuncData)(ps:List Str)(ds:List Value):Prop:=
 ∀(s:Shared)(us:List Value),K.In s.heap->(us++ds).length=ps.length->BindsTo s fd ⟨us,[]⟩ (ps.zip (us++ds))
theorem Dh.all(h:∀us:List Value,us.length=ps.length->bindArgs fd ⟨us,[]⟩=pure (ps.zip us)):Dh K fd ps []:=λs us _ hl=>by
 rw[vH]at hl ⊢;exact .of_eq (h us hl)
def Gq(CX:CXT)(X:Cx)(E:XK):Prop:=∀(pins:List (Addr×Obj))(σ:St)(H:Hp)(s:Shared)(e:Value)(s':Shared),Inv X pins σ H s->CX X.stack H s E e s'->X.xe e s'
section
variable{CX:CXT}{sp:Sp}{dvs:List V}{ds:List Value}{E:XK}{m:Str}{p:Pos}{o:Expr}{t:TA}
theorem Te{s:Shared}{vs:List V}(F:Ca X.prog X.w X.K X.mg X.base CX k f fd ps sp)(hr:Ct k X.A)(hb:Dh X.K fd ps ds)(hd:A8 dvs ds)(hx:Gq CX X E)
  (I:Inv X pins σ H s) (r:A8 vs us) (h:sp (vs++dvs) H Q E):wpAny (model X.prog X.w) X.A (call (.ref f) us) (EP X pins σ Q) X.xe s:=by
 have r2:A8 (vs++dvs) (us++ds):=r.append hd;have hl:(us++ds).length=ps.length:=by rw[<-r2.length];exact F.len _ _ _ _ h
 refine wpAny_call (codeAny_mono (F.run X.A X.stack s H ⟨us,[]⟩ (us++ds) (vs++dvs) Q E hr I.env0 (hb s us I.kIn hl) r2 h) λr s' z=>?_);cases r with
 |error e=>exact hx pins σ H s e s' I z
 |ok fl=>
  cases fl with
  |ret u=>exact I.after z
  |next=>exact False.elim z
  |brk=>exact False.elim z
  |cont=>exact False.elim z
theorem Adj(F:Ca X.prog X.w X.K X.mg X.base CX k f fd ps sp)(hr:Ct k X.A)(hg:Gl X x)(hm:X.mg x=some (.ref f))(hk:keepIn X.K (.ref f)=true)(hb:Dh X.K fd ps ds)(hd:A8 dvs ds)(hx:Gq CX X E)
  (ha:PA X (e::es) t) (z:(x==("__debug__": Str))=false:=by decide) (he:starEach (e::es) X.env=(false,eval e X.env)::starEach es X.env:=by rfl) (a1:(backTo pos (starEach es X.env)).any (·.1)=false:=by rfl) :
  PE X (.Call (.Name x p) (e::es) [] pos) (Ip sp dvs E t):=by
 intro pins s σ H Q I h;refine wpAny_Call_Name_kw (Qx I hg hm ?_ z);refine callWith_K (h₀:=X.base) I.ok.mod.kin hk (thn (ha pos pins s σ H _ I h) λus s1 ⟨vs,H1,I1,r,q⟩=>⟨I1.kIn,?_⟩) he a1;exact Te F hr hb hd hx I1 r q
theorem Ads{pl:Sem Bool}(he:PE X o ta)(c:Cls X.K C)(hm:Jp X.K C m f)(F:Ca X.prog X.w X.K X.mg X.base CX k f fd ps sp)(hr:Ct k X.A)(hb:Dh X.K fd ps ds)(hd:A8 dvs ds)(hx:Gq CX X E)(ha:PA X (e::es) t)
  (a1:starEach (e::es) X.env=(false,eval e X.env)::starEach es X.env:=by rfl) (z:(backTo pos (starEach es X.env)).any (·.1)=false:=by rfl)
  (ht:eval (.Call (.Attribute o m apos) (e::es) [] pos) X.env=(do
   let ov <-eval o X.env
   standAt apos.atName
   let (f,first) <-holding [ov] (getMethod ov m pl)
   callWith pos f first (backTo pos (starEach (e::es) X.env)) (backToKw pos (keywordEach [] X.env))):=by rfl) :
  PE X (.Call (.Attribute o m apos) (e::es) [] pos) (Pp C m sp dvs E ta t):=by
 intro pins s σ H Q I h;refine methodCall_KW (pl:=pl) (thn (he pins s σ H _ I h) λu s1 ⟨x,H1,I1,rx,qq⟩=>?_) ht;obtain @⟨a,dx,fs,_,ea,l,q⟩:=qq;obtain rfl:u=Value.ref a:=rx;refine Qh I1 ea c hm l ?_;refine callWith_K (first:=[.ref a]) (h₀:=X.base) I.ok.mod.kin hm.kp (thn (ha pos pins s1 σ H1 _ I1 q) λus s2 ⟨vs,H2,I2,r,q2⟩=>⟨I2.kIn,?_⟩) a1 z;exact Te (us:=.ref a::us) (vs:=.ref a::vs) F hr hb hd hx I2 (.cons rfl r) q2
theorem Ab7{pl:Sem Bool}(he:PE X o ta)(c:Cls X.K C)(hm:Jp X.K C m f)(F:Ca X.prog X.w X.K X.mg X.base CX k f fd ps sp)(hr:Ct k X.A)(hb:Dh X.K fd ps ds)(hd:A8 dvs ds)(hx:Gq CX X E)
  (ht:eval (.Call (.Attribute o m apos) [] [] pos) X.env=(do
   let ov <-eval o X.env
   standAt apos.atName
   let (f,first) <-holding [ov] (getMethod ov m pl)
   callWith pos f first (backTo pos (starEach [] X.env)) (backToKw pos (keywordEach [] X.env))):=by rfl) :
  PE X (.Call (.Attribute o m apos) [] [] pos) (Pp C m sp dvs E ta Dj):=by
 intro pins s σ H Q I h;refine methodCall_KW (pl:=pl) (thn (he pins s σ H _ I h) λu s1 ⟨x,H1,z,rx,qq⟩=>?_) ht;obtain @⟨a,dx,fs,_,ea,l,q⟩:=qq;obtain rfl:u=Value.ref a:=rx;refine Qh z ea c hm l ?_;exact PySem.W.callWith_K0 (first:=[.ref a]) z.kIn hm.kp (Te (us:=[.ref a]) (vs:=[.ref a]) F hr hb hd hx z (.cons rfl .nil) q)
structure Mk(K:FA)(C f:Addr):Prop where
 makes:makesIn K C=true
 init:findIn K (.ref C) "__init__"= some (some (.ref f))
 fn:isFn K (.ref f)=true
 kp:keepIn K (.ref C)=true
theorem Acn{s:Shared}{vs:List V}(M:Mk X.K C f)(F:Ca X.prog X.w X.K X.mg X.base CX k f fd ps sp)(hr:Ct (k+1) X.A)(hb:Dh X.K fd ps ds)(hd:A8 dvs ds)
  (hx:Gq CX X E) (I:Inv X pins σ H s) (r:A8 vs us)
  (h:∀x dx,H x=none->H dx=none->dx≠x->sp (.ref x::(vs++dvs)) (upd (upd H dx (.own x)) x (.ins C dx [])) (λv H2=>v=.non/\Q (.ref x) H2) E) :
  wpAny (model X.prog X.w) X.A (call (.ref C) us) (EP X pins σ Q) X.xe s:=by
 have hq:=h (s.heap.objs.size+1) s.heap.objs.size (I.hok.fresh (le_succ _)) (I.hok.fresh (uZ _)) (vC (lt_succ_self _));have I2:=Inv.made (C:=C) I;have r2:A8 (V.ref (s.heap.objs.size+1)::(vs++dvs)) (Value.ref (s.heap.objs.size+1)::(us++ds)):=.cons rfl (r.append hd)
 have hl:(Value.ref (s.heap.objs.size+1)::us++ds).length=ps.length:=by
  have e:=r2.length;rw[F.len _ _ _ _ hq]at e;exact e.symm
 refine wpAny_call (AcO (f:=f) I.kIn M.makes M.init (beq_iff_eq.mp M.fn) (codeAny_mono (F.run _ X.stack _ _ ⟨Value.ref (s.heap.objs.size+1)::us,[]⟩ (Value.ref (s.heap.objs.size+1)::(us++ds)) _ _ E (hr.make C us [])
  (I2.env0.make C us []) (hb _ (Value.ref (s.heap.objs.size+1)::us) I2.kIn hl) r2 hq) λr s' z=>?_))
 cases r with
 |error e=>exact hx pins σ _ _ e s' I2 z
 |ok fl=>
  cases fl with
  |ret u=>
   obtain⟨v,H',I3,rv,ev,q3⟩:=I2.after z;subst ev;exact⟨rv,⟨V.ref (s.heap.objs.size+1),H',I3,Z,q3⟩⟩
  |next=>exact False.elim z
  |brk=>exact False.elim z
  |cont=>exact False.elim z
theorem Xa(M:Mk X.K C f)(F:Ca X.prog X.w X.K X.mg X.base CX k f fd ps sp)(hr:Ct (k+1) X.A)(hg:Gl X x)(hm:X.mg x=some (.ref C))(hb:Dh X.K fd ps ds)(hd:A8 dvs ds)(hx:Gq CX X E)
  (ha:PA X (e::es) t) (z:(x==("__debug__": Str))=false:=by decide) (he:starEach (e::es) X.env=(false,eval e X.env)::starEach es X.env:=by rfl) (a1:(backTo pos (starEach es X.env)).any (·.1)=false:=by rfl) :
  PE X (.Call (.Name x p) (e::es) [] pos) (Agk C sp dvs E t):=by
 intro pins s σ H Q I h;refine wpAny_Call_Name_kw (Qx I hg hm ?_ z);refine callWith_K (h₀:=X.base) I.ok.mod.kin M.kp (thn (ha pos pins s σ H _ I h) λus s1 ⟨vs,H1,I1,r,q⟩=>⟨I1.kIn,?_⟩) he a1;exact Acn M F hr hb hd hx I1 r q
end
def PK(X:Cx)(kws:List Keyword)(t:TA):Prop:=
 ∀(pos:Pos)(pins:List (Addr×Obj))(s:Shared)(σ:St)(H:Hp)(Q:List V->Hp->Prop),Inv X pins σ H s->t σ H Q->wpAny (model X.prog X.w) X.A (evalAll ((backToKw pos (keywordEach kws X.env)).map (·.2))) (AP X pins σ Q) X.xe s
section
variable{CX:CXT}{ks:List Str}{sp:Sp}{E:XK}{m:Str}{p kpos:Pos}{o:Expr}{kws:List Keyword}{t tk:TA}{nm:Option Str}
theorem Ae3:PK X [] Dj:=λ_ _ _ _ H Q I h=>wpAny_evalAll_nil ⟨[],H,I,.nil,h⟩
theorem Adh(ha:PE X e te)(hr:PK X kws t):PK X (⟨nm,e,kpos⟩::kws) (Bx te t):=by
 intro pos pins s σ H Q I h;show wpAny _ _ (evalAll ((do let v <-eval e X.env;standAt pos;pure v)::(backToKw pos (keywordEach kws X.env)).map (·.2))) _ _ s;refine wpAny_evalAll_cons (rY (thn (ha pins s σ H _ I h) λu s1 ⟨x,H1,I1,r1,q1⟩=>rY (wpAny_standAt (rZ ?_))));exact thn (hr pos pins s1 σ H1 _ I1 q1) λus s2 ⟨xs,H2,I2,r2,z⟩=>⟨x::xs,H2,I2,.cons r1 r2,z⟩
variable{g:List Value->List Value->List Value}{gV:List V->List V->List V}
end
structure As(N P:List Str)(sc:Scope):Prop where
 kind:sc.kind=.function
 co:sc.isCoroutine=false
 gen:sc.isGenerator=false
 nd:N.Nodup
 pre:N.take P.length=P
 par:∀x∈P,sc.names.lookup x=some .local\/sc.names.lookup x=some .cell
 nofree:∀y∈sc.names,y.2≠.free
def fsB(N P:List Str)(sc:Scope):Bool:=decide (sc.kind=.function) && !sc.isCoroutine && !sc.isGenerator&&decide N.Nodup&&decide (N.take P.length=P)&&P.all (λx=>decide (sc.names.lookup x=some .local) || decide (sc.names.lookup x=some .cell))&&sc.names.all (λy=>decide (y.2≠.free))
theorem A6{N P:List Str}{sc:Scope}(h:fsB N P sc=true):As N P sc:=by
 unfold fsB at h;simp only[Bool.and_eq_true,Bool.or_eq_true,decide_eq_true_eq,Bool.not_eq_true',all_eq_true]at h;obtain⟨⟨⟨⟨⟨⟨a,b⟩,c⟩,d⟩,e⟩,f⟩,g⟩:=h;exact⟨a,b,c,d,e,f,g⟩
theorem Rx{z:Str->Option NameKind} :∀{binds:List (Str×Value)}{m:Str->Option Value},(∀v,(x,v)∉binds)->bindL z binds m x=m x
 |[],_,_=>rfl
 | (n,v)::r,m,h=>by
  unfold bindL;rw[Rx λw hw=>h w (uG _ hw)];split
  ·have:x≠n:=by rintro rfl;exact h v uF
   simp[this]
  ·rfl
theorem R5{z:Str->Option NameKind} :∀{binds:List (Str×Value)}{m:Str->Option Value},(∀v,(x,v)∉binds)->bindC z binds m x=m x
 |[],_,_=>rfl
 | (n,v)::r,m,h=>by
  unfold bindC;rw[R5 λw hw=>h w (uG _ hw)];split
  ·rfl
  ·have:x≠n:=by rintro rfl;exact h v uF
   simp[this]
theorem Sk{z:Str->Option NameKind}{v:Value}:∀{P:List Str}{vs:List Value}{i:Nat}{m:Str->Option Value},P.Nodup->P[i]?=some x->vs[i]?=some v->z x=some .local ->
  bindL z (P.zip vs) m x=some v
 |[],_,_,_,_,h,_,_=>by simp at h
 |_::_,[],_,_,_,_,h,_=>by simp at h
 |p::P,w::vs,0,m,nd,h1,h2,hk=>by
  simp at h1 h2;subst h1;subst h2;show bindL z ((p,w)::P.zip vs) m p=_;unfold bindL;rw[Rx λv hv=>(vR.mp nd).1 (of_mem_zip hv).1,if_pos hk];simp
 |p::P,w::vs,i+1,m,nd,h1,h2,hk=>by
  show bindL z ((p,w)::P.zip vs) m x=_
  unfold bindL;exact Sk (i:=i) (vR.mp nd).2 (by simpa using h1) (by simpa using h2) hk
theorem Sh{z:Str->Option NameKind}{v:Value}:∀{P:List Str}{vs:List Value}{i:Nat}{m:Str->Option Value},P.Nodup->P[i]?=some x->vs[i]?=some v->z x≠some .local ->
  bindC z (P.zip vs) m x=some v
 |[],_,_,_,_,h,_,_=>by simp at h
 |_::_,[],_,_,_,_,h,_=>by simp at h
 |p::P,w::vs,0,m,nd,h1,h2,hk=>by
  simp at h1 h2;subst h1;subst h2;show bindC z ((p,w)::P.zip vs) m p=_;unfold bindC;rw[R5 λv hv=>(vR.mp nd).1 (of_mem_zip hv).1,if_neg hk];simp
 |p::P,w::vs,i+1,m,nd,h1,h2,hk=>by
  show bindC z ((p,w)::P.zip vs) m x=_
  unfold bindC;exact Sh (i:=i) (vR.mp nd).2 (by simpa using h1) (by simpa using h2) hk
def start(N:List Str)(vs:List V):St:=vs.map some++List.replicate (N.length-vs.length) none
def Nf(CX:CXT)(P:Program)(w:World)(K:FA)(mg:Str->Option Value)(base:Heap)(N:List Str)(qual:Str)(scope:Scope)(f:Addr)(cd:Value)(A:Around)(outer:List Env)(s:Shared)(H:Hp)(E:XK):Cx where
 prog:=P
 w:=w
 K:=K
 mg:=mg
 base:=base
 A:=A.deeper (envOfC qual scope s.heap.objs.size f cd)
 N:=N
 s₀:=s
 H₀:=H
 env:=envOfC qual scope s.heap.objs.size f cd
 outer:=outer
 stack:=envOfC qual scope s.heap.objs.size f cd::outer
 ex:=[]
 calm:=true
 fn:=λ_=>true
 pn:=[]
 xe:=λe s'=>wpAny (model P w) (A.deeper (envOfC qual scope s.heap.objs.size f cd)) (leaving (envOfC qual scope s.heap.objs.size f cd) e) (λ_ s''=>CX outer H s E e s'') (λe' s''=>CX outer H s E e' s'') s'
theorem U0{sc:Scope}(h:sc.names.lookup x=some .cell):∃c,(cellsFrom n sc.names []).lookup x=some c:=by
 have q:=cellsFrom_some sc.names n [] (.inl h);exact Option.isSome_iff_exists.mp q
theorem Aa2{CX:CXT}{N:List Str}{qual:Str}{scope:Scope}{cd:Value}{outer:List Env}{s s1:Shared}{E:XK}{vs:List V}
  (S:As N ps scope) (hd:A.handled=none) (e0:Oj P w K mg base A outer s H) (hl:vs.length=ps.length) (r:A8 vs us)
  (x:InCallC s s.heap.objs.size (bindL (envOfC qual scope s.heap.objs.size f cd).kindOf (ps.zip us) λ_=>none) (cellsFrom (s.heap.objs.size+1) scope.names []) (bindC (envOfC qual scope s.heap.objs.size f cd).kindOf (ps.zip us) λ_=>none) s1) :
  Inv (Nf CX P w K mg base N qual scope f cd A outer s H E) [] (start N vs) H s1:=by
 have a3:ps.length<=N.length:=by have:=congrArg length S.pre;rw[vE]at this;omega
 obtain⟨h1,tk,rfl,hk⟩:=x.done;have a1:∀b:Addr,b∉(Nf CX P w K mg base N qual scope f cd A outer s H E).ex:=λb z=>absurd (show b∈([]:List Addr) from z) (by simp)
 refine⟨⟨e0.mod,S.kind,Z,Z,uZ _,λy z c h1 h2=>?_,λy hy=>?_,λy c _ h=>?_,λ_=>hd,Around.frames_deeper e0.frames,.inr ⟨rfl,rfl⟩,λb z=>absurd z (a1 b),e0.bs,e0.bsz,λb _ _=>a1 b,λb z=>absurd z (a1 b),e0.funs,e0.frf⟩,
  rfl,e0.bare,Un.kept hk,⟨_,x.toInCall.ns,λi y v h1 h2 h3=>?_⟩,λy c h=>⟨_,x.cell y c h⟩,e0.hok.fresh (uZ _),λy c h=>?_,λp hp=>absurd (show p∈([]:List (Addr×Obj)) from hp) (by simp),e0.hok.kept hk,?_⟩
 ·exact name_of_addr x.apart (PySem.mem_of_lookup h1) (PySem.mem_of_lookup h2)
 ·have hy:scope.names.lookup y=some .cell\/scope.names.lookup y=some .free:=hy
  rcases hy with hy|hy
  ·exact U0 hy
  ·exact absurd rfl (S.nofree _ (PySem.mem_of_lookup hy))
 ·exact le_of_lt (x.above y c (PySem.mem_of_lookup h))
 ·have hi:i<vs.length:=by
   unfold start at h2
   by_cases hi:i<vs.length
   ·exact hi
   ·rw[uU (by simpa using hi)]at h2
    rw[getElem?_replicate]at h2;split at h2<;>cases h2
  have ha:vs[i]?=some v:=by
   unfold start at h2;rw[uT (by simpa using hi),uH]at h2;cases e:vs[i]? with
   |none=>rw[e]at h2;cases h2
   |some a=>rw[e]at h2;cases h2;rfl
  obtain⟨u,hu,rv⟩:=r.get ha
  have hp:ps[i]?=some y:=by
   rw[<-S.pre,List.getElem?_take_of_lt (by omega)];exact h1
  have a2:ps.Nodup:=by rw[<-S.pre];exact S.nd.sublist (List.take_sublist _ _)
  refine⟨u,rv,?_⟩;rcases S.par y (uO hp) with k|k
  ·exact .inl ⟨k,Sk a2 hp hu k⟩
  ·obtain⟨c,e⟩:=U0 (n:=s.heap.objs.size+1) k
   refine .inr ⟨.inl k,c,e,?_⟩;have q:=x.cell y c e;rw[Sh a2 hp hu (by show scope.names.lookup y≠_;rw[k];decide)]at q;exact q
 ·exact e0.hok.fresh (le_of_lt (x.above y c (PySem.mem_of_lookup h)))
 ·unfold start
  show _=N.length
  rw[uC,uB,uS];omega
theorem Af6{CX:CXT}{name qual:Str}{z:Arguments}{a1:List Stmt}{scope:Scope}{dV kV doc pm cdv ct oc:Value}{an od:Option Addr}
  {osl:Array (Option Value)} {N:List Str} {sp:Sp} (lk:K.lookup f=some ⟨oc,od,.func (fnOf name qual z a1 scope dV kV doc pm an cdv ct),osl⟩) (a7:codeIn K cdv qual=true) (S:As N ps scope)
  (len:∀vs H Q E,sp vs H Q E->vs.length=ps.length)
  (a4:∀(A:Around)(outer:List Env)(s:Shared)(H:Hp)(vs:List V)(Q:VK)(E:XK),Ct k (A.deeper (envOfC qual scope s.heap.objs.size f cdv))->sp vs H Q E ->
   ∃t,PSs (Nf CX P w K mg base N qual scope f cdv A outer s H E) a1 t/\t {nx:=λ_ H'=>Q .non H',rt:=Q} (start N vs) H) :
  Ca P w K mg base CX (k+1) f (fnOf name qual z a1 scope dV kV doc pm an cdv ct) ps sp:=by
 refine⟨len,λA outer s H args us vs Q E hr e0 hb r a5=>?_⟩;have hl:=len _ _ _ _ a5;have KX:K.In s.heap:=e0.mod.kin.keeps λb o e=>(e0.bs b o e).1
 have a8:s.heap.NoLimit:=e0.mod.nolimit.keeps λb o e=>(e0.bs b o e).1
 have a3:∀y∈ps.zip us,scope.names.lookup y.1=some .local\/(scope.names.lookup y.1=some .cell/\((cellsFrom (s.heap.objs.size+1) scope.names []).lookup y.1).isSome=true):=λ⟨n,v⟩ hy=>by
  rcases S.par n (of_mem_zip hy).1 with q|q
  ·exact .inl q
  ·exact .inr ⟨q,cellsFrom_some _ _ _ (.inl q)⟩
 refine codeAny_call_function hr.depth (KX _ _ lk) rfl S.co S.gen rfl (PySem.W.codeRec_of KX a7) (hb _ _ _ _ ?_);refine wpAny_newFunctionEnv_cells S.kind a3 λenv he s1 x=>?_
 subst he;refine⟨a8.keeps x.toInCall.keep,codeAny_func ?_⟩;obtain⟨t,ht,hq⟩:=a4 A outer s H vs Q E (hr.deeper _) a5;have I:Inv (Nf CX P w K mg base N qual scope f cdv A outer s H E) [] (start N vs) H s1:=Aa2 S hr.hd e0 hl r x;refine vV (ht [] s1 (start N vs) H _ I hq) (λfl s' hs=>?_) λe s' hs=>hs
 have a6:∀{a2:St}{H':Hp}{v:V}{u:Value},Inv (Nf CX P w K mg base N qual scope f cdv A outer s H E) [] a2 H' s'->A7 v u->Q v H'->CE outer P w H s Q u s':=
  λ{a2 H' v u}J rv q=>⟨v,H',J.os,J.bare,J.base,J.hok,rv,q⟩
 cases fl with
 |ret u=>
  obtain⟨v,a2,H',J,rv,q⟩:=hs;exact a6 J rv q
 |next=>
  obtain⟨a2,H',J,q⟩:=hs;exact a6 (v:=V.non) (u:=Value.none) J rfl q
 |brk=>
  obtain⟨_,_,_,q⟩:=hs;exact False.elim q
 |cont=>
  obtain⟨_,_,_,q⟩:=hs;exact False.elim q
end L2
variable{sp:L2.Sp}
namespace L2
open PySem PySem.Spec PyProof.Rows
section
variable{p:Pos}{t:TA}{id T:String}{r:List V->Hp->VK->Prop}
def tCB(r:List V->Hp->VK->Prop)(t:TA):TE:=λσ H Q=>t σ H λvs H1=>r vs H1 Q
theorem Bu(hc:Ge X (.builtin id) r)(hg:Gl X x)(hm:X.mg x=none)(hv:bootBuiltins x=some (.builtin id))(ha:PA X (e::es) t)(hn:x≠ "__name__":=by decide)(z:(x==("__debug__": Str))=false:=by decide)
  (he:starEach (e::es) X.env=(false,eval e X.env)::starEach es X.env:=by rfl) (a1:(backTo pos (starEach es X.env)).any (·.1)=false:=by rfl):PE X (.Call (.Name x p) (e::es) [] pos) (tCB r t):=by
 intro pins s σ H Q I h;refine wpAny_Call_Name_kw (Hl I hg hm hv ?_ hn z);exact PyProof.Rows.callWith_builtin1 (thn (ha pos pins s σ H _ I h) λus s1 ⟨vs,H1,I1,r1,q1⟩=>hc pins s1 σ H1 vs us Q I1 r1 q1) he a1
theorem Di(hc:Ge X (.type T) r)(hg:Gl X x)(hm:X.mg x=none)(hv:bootBuiltins x=some (.type T))(ha:PA X (e::es) t)(hn:x≠ "__name__":=by decide)(z:(x==("__debug__": Str))=false:=by decide)
  (he:starEach (e::es) X.env=(false,eval e X.env)::starEach es X.env:=by rfl) (a1:(backTo pos (starEach es X.env)).any (·.1)=false:=by rfl):PE X (.Call (.Name x p) (e::es) [] pos) (tCB r t):=by
 intro pins s σ H Q I h;refine wpAny_Call_Name_kw (Hl I hg hm hv ?_ hn z);exact PyProof.Rows.callWith_type1 (thn (ha pos pins s σ H _ I h) λus s1 ⟨vs,H1,I1,r1,q1⟩=>hc pins s1 σ H1 vs us Q I1 r1 q1) he a1
end
end L2
namespace HT
open PySem PyProof.Rows
section
open PySem.SeqAt
open PySem.AutoSeq1 (wpAny_loadPart')
open PySem.MeetsSeq PySem.MeetsSeq2 PySem.MeetsSeq3
end
section
variable{s:Shared}
theorem Ahf{t b:Addr}{vs ws:List Value}{Q:Value->Shared->Prop}(ht:IsTup s.heap t vs.toArray)(hb:IsTup s.heap b ws.toArray)(hv:vs≠[])
  (h1:ws=[]->Q (.ref t) s) (h2:ws≠[]->Q (.ref s.heap.objs.size) {s with heap:=s.heap.push {cls:=.type "tuple",data:=.seq (vs++ws).toArray} })
  (hsz:vs.length+ws.length<=sizeLine):wpAny (model prog w) A (binaryOp .Add (.ref t) (.ref b)) Q E s:=by
 obtain⟨⟨cls,dd,data,sl⟩,ho,hc,n,hd⟩:=id ht;obtain⟨⟨a6,a4,a5,a2⟩,z,a3,n2,a1⟩:=id hb;simp only at hc hd a3 a1;subst hc hd a3 a1;have e:vs.toArray++ws.toArray=(vs++ws).toArray:=by simp
 by_cases hw:ws=[]
 ·exact concat_meets ⟨_,ho,Z⟩ ⟨_,z,Z⟩ noFill_tuple_add seq_tuple_add PySem.F.slot_tuple_add PySem.F.entry_tuple_add (PySem.F.args_tuple_add_2 _ _)
   (tuple_addW1 t b vs.toArray ws.toArray n n2 dd a4 sl a2 (by simpa using hv) (by simp[hw])) ⟨ho,z,h1 hw⟩
 ·refine concat_meets ⟨_,ho,Z⟩ ⟨_,z,Z⟩ noFill_tuple_add seq_tuple_add PySem.F.slot_tuple_add PySem.F.entry_tuple_add (PySem.F.args_tuple_add_2 _ _)
   (tuple_addW2 t b vs.toArray ws.toArray n n2 dd a4 sl a2 (by simpa using hv) (by simpa using hw) (by rw[size_toArray,size_toArray];exact hsz)) ⟨ho,z,?_⟩
  rw[e];exact h2 hw
def sIx(n d:Nat):Option Int->Nat
 |none=>d
 |some v=>if v<0 then(v+(n:Int)).toNat else min v.toNat n
theorem AhE(n d:Nat):sIx n d none=d:=rfl
theorem Ahk(n d k:Nat):sIx n d (some (k:Int))=min k n:=by
 show(if (k:Int)<0 then((k:Int)+(n:Int)).toNat else min (k:Int).toNat n)=min k n
 rw[if_neg (by omega),Int.toNat_natCast]
theorem AeW(n d:Nat)(hd:d<=n)(o:Option Int):sIx n d o<=n:=by
 cases o with
 |none=>exact hd
 |some v=>
  show(if v<0 then(v+(n:Int)).toNat else min v.toNat n)<=n
  by_cases hv:v<0
  ·rw[if_pos hv];omega
  ·rw[if_neg hv];exact Nat.min_le_right _ _
theorem Y3(v:Int)(n d:Nat):(if v<0 then max (v+(n:Int)) 0 else min v (n:Int))=((sIx n d (some v):Nat):Int):=by
 show(if v<0 then max (v+(n:Int)) 0 else min v (n:Int))=(((if v<0 then(v+(n:Int)).toNat else min v.toNat n):Nat):Int)
 by_cases hv:v<0
 ·simp only[if_pos hv];omega
 ·simp only[if_neg hv];omega
theorem Zg(lo hi:Option Int)(n:Nat):Builtin.Slice.sliceAdjust lo hi 1 (n:Int)=(((sIx n 0 lo:Nat):Int),((sIx n n hi:Nat):Int)):=by
 have h1:¬((1:Int)<0):=by omega
 unfold Builtin.Slice.sliceAdjust;simp only[h1,if_false];refine Prod.ext ?_ ?_
 ·cases lo with
  |none=>rfl
  |some v=>exact Y3 v n 0
 ·cases hi with
  |none=>rfl
  |some v=>exact Y3 v n n
theorem Z0(i j:Nat):Builtin.Slice.slicePlaces (i:Int) (j:Int) 1=j-i:=by
 unfold Builtin.Slice.slicePlaces;have h1:(1:Int)>0:=by omega
 simp only[h1,if_true,Int.ediv_one];split<;>omega
theorem Px{v:Value}{o:Option Int}{Q:Option Int->Shared->Prop}(p:IsPart v o)(h:Q o s):wpAny (model prog w) A (Builtin.Slice.slicePartIndex v) Q E s:=by
 cases p with
 |none=>exact slicePart_none h
 |int i t=>exact slicePart_int h
theorem Pd{sl:Addr}{vl vu:Value}{lo hi:Option Int}{Q:Int×Int×Nat->Shared->Prop}(hs:s.heap.IsSliceOf sl vl vu .none)(pl:IsPart vl lo)(pu:IsPart vu hi)
  (h:Q (((sIx n 0 lo:Nat):Int),1,sIx n n hi-sIx n 0 lo) s):wpAny (model prog w) A (Builtin.Slice.sliceApplied (.ref sl) (pure (n:Int))) Q E s:=by
 obtain⟨os,z,a2,a1⟩:=id hs;unfold Builtin.Slice.sliceApplied Builtin.Slice.sliceFields;refine wpAny_bind (wpAny_bind (wpAny_field z a1 (x:=vl) rfl (wpAny_bind (wpAny_field z a1 (x:=vu) rfl (wpAny_bind (wpAny_field z a1 (x:=.none) rfl (wpAny_pure ?_)))))));refine wpAny_bind (slicePart_none ?_);show wpAny _ _ (if ((1:Int)==0)=true then _ else _) _ _ s;rw[if_neg (by decide)];refine wpAny_bind (Px pl (wpAny_bind (Px pu (wpAny_bind (wpAny_pure ?_)))));show wpAny _ _ (match Builtin.Slice.sliceAdjust lo hi 1 (n:Int) with|(lo,hi)=>pure (lo,(1:Int),Builtin.Slice.slicePlaces lo hi 1)) _ _ s;rw[Zg lo hi n];show wpAny _ _ (pure (((sIx n 0 lo:Nat):Int),(1:Int),Builtin.Slice.slicePlaces ((sIx n 0 lo:Nat):Int) ((sIx n n hi:Nat):Int) 1)) _ _ s;rw[Z0];exact wpAny_pure h
theorem AcE(xs:Array Value)(i k:Nat):((List.range k).filterMap λ(m:Nat)=>xs[((i:Int)+(m:Int)*1).toNat]?).toArray=((xs.toList.drop i).take k).toArray:=by
 have e:(λ(m:Nat)=>xs[((i:Int)+(m:Int)*1).toNat]?)=λm=>xs[i+m]?:=by
  funext m
  have:((i:Int)+(m:Int)*1).toNat=i+m:=by omega
  rw[this]
 rw[e];have:=pick_run xs i k;rw[List.filterMap_map]at this;have e2:((λx=>xs[x]?) ∘ λx=>i+x)=λm=>xs[i+m]?:=rfl
 rw[e2]at this;rw[this]
theorem Aby{t sl:Addr}{z:Array Value}{vl vu:Value}{lo hi:Option Int}{Q:Value->Shared->Prop}(ht:IsTup s.heap t z)(hs:s.heap.IsSliceOf sl vl vu .none)(pl:IsPart vl lo)(pu:IsPart vu hi)
  (hw:¬(sIx z.size 0 lo=0/\sIx z.size z.size hi=z.size))
  (h:Q (.ref s.heap.objs.size) {s with heap:=s.heap.push {cls:=.type "tuple",data:=.seq ((z.toList.drop (sIx z.size 0 lo)).take (sIx z.size z.size hi-sIx z.size 0 lo)).toArray} })
  (hsz:z.size<=sizeLine):wpAny (model prog w) A (getItem (.ref t) (.ref sl)) Q E s:=by
 have a1:sizeOk (.seq ((z.toList.drop (sIx z.size 0 lo)).take (sIx z.size z.size hi-sIx z.size 0 lo)).toArray):=by
  show((z.toList.drop (sIx z.size 0 lo)).take (sIx z.size z.size hi-sIx z.size 0 lo)).toArray.size<=sizeLine
  rw[size_toArray,length_take,length_drop,Array.length_toList];omega
 have hj:sIx z.size z.size hi<=z.size:=AeW _ _ (le_refl _) hi;obtain⟨os,a3,a2,a6⟩:=id hs;have a4:s.TypeIs (.ref sl) "slice":=⟨os,a3,a2⟩;unfold getItem
 try with_reducible refine wpAny_holding ?_
 first|refine wpAny_bind (wpAny_pure ?_)|skip
 refine wpAny_bind (wpAny_sequenceKey ht.typeIs (by decide) ?_)
 refine wpAny_bind (wpAny_callSpecial?_slot (name:=Str.ofString "__getitem__") ht.typeIs PyProof.Rows.slot_tuple_getitem
  (wpAny_call_entry PyProof.Rows.slot_tuple_getitem ht.typeIs entry_tuple_getitem ?_ (args_tuple_getitem _ _)))
 show wpAny _ _ (Builtin.Tuple.tupleItemsOf (.ref t)>>=_) _ _ s
 refine wpAny_bind (tupleItemsOf_ ht ?_);refine wpAny_bind (wpAny_typeOf a4 ?_);rw[if_pos (by decide)];refine wpAny_bind (Pd hs pl pu ?_)
 have a5:¬((((sIx z.size 0 lo:Nat):Int)==0&&(1:Int)==1&&(sIx z.size z.size hi-sIx z.size 0 lo)==z.size)=true):=by
  intro q;rw[Bool.and_eq_true,Bool.and_eq_true]at q;have q1:((sIx z.size 0 lo:Nat):Int)=0:=eq_of_beq q.1.1;have q2:sIx z.size z.size hi-sIx z.size 0 lo=z.size:=eq_of_beq q.2;exact hw ⟨by omega,by omega⟩
 show wpAny _ _ (if (((sIx z.size 0 lo:Nat):Int)==0&&(1:Int)==1&&(sIx z.size z.size hi-sIx z.size 0 lo)==z.size)=true then _ else _) _ _ s
 rw[if_neg a5,AcE]
 first
  |exact wpAny_bind (m:=Builtin.Tuple.tupleExact _) (wpAny_newObj_type (wpAny_pure ⟨_,rfl,wpAny_pure h⟩) a1)
  |exact wpAny_bind (m:=Builtin.Tuple.tupleExact _) (wpAny_newObj_type (wpAny_bind (wpAny_pure (wpAny_pure ⟨_,rfl,wpAny_pure h⟩))) a1)
  |exact wpAny_bind (wpAny_bind (m:=Builtin.Tuple.tupleExact _) (wpAny_newObj_type (wpAny_pure (wpAny_pure ⟨_,rfl,wpAny_pure h⟩)) a1))
  |exact wpAny_bind (wpAny_bind (m:=Builtin.Tuple.tupleExact _) (wpAny_newObj_type (wpAny_pure ⟨_,rfl,wpAny_pure h⟩) a1))
end
end HT
namespace L2
open PySem PySem.Spec PyProof.Rows
abbrev TO:=St->Hp->(Option Int->Hp->Prop)->Prop
def PO(X:Cx)(e:Option Expr)(t:TO):Prop:=
 ∀(pins:List (Addr×Obj))(s:Shared)(σ:St)(H:Hp)(Q:Option Int->Hp->Prop),Inv X pins σ H s->t σ H Q ->
  wpAny (model X.prog X.w) X.A (evalPart e X.env) (λu s'=>∃o H',Inv X pins σ H' s'/\IsPart u o/\Q o H') X.xe s
def Adk:TO:=λ_ H Q=>Q none H
def AgW(t:TE):TO:=λσ H Q=>t σ H λx H1=>∃i,x=.int i/\Q (some i) H1
theorem Lr{ns:List Int}:∀{us:List Value},A8 (ns.map V.int) us->IntsAre us ns:=by
 induction ns with
 |nil=>intro us r;rw[map_nil]at r;cases r;exact .nil
 |cons n ns z=>
  intro us r;rw[vS]at r;cases r with
  |cons r1 r2=>
   obtain⟨t,e⟩:=r1;subst e;exact .cons n t (z r2)
section
variable{lo hi:Option Expr}{tl th:TO}{p2:Pos}
theorem Xs:PO X none Adk:=by
 intro pins s σ H Q I h;rw[evalPart_none];exact rZ ⟨none,H,I,.none,h⟩
theorem Nm(h:PE X e te):PO X (some e) (AgW te):=by
 intro pins s σ H Q I hw;rw[evalPart_some];refine thn (h pins s σ H _ I hw) λu s1 ⟨x,H1,I1,r1,z⟩=>?_
 obtain⟨i,rfl,q⟩:=z;obtain⟨t,rfl⟩:=r1;exact⟨some i,H1,I1,.int i t,q⟩
def SlR(X:Cx)(r:V->Option Int->Option Int->Hp->VK->Prop):Prop:=
 ∀(pins:List (Addr×Obj))(s:Shared)(σ:St)(H:Hp)(x:V)(v vl vu:Value)(lo hi:Option Int)(sl:Addr)(Q:VK),Inv X pins σ H s->A7 x v->s.heap.IsSliceOf sl vl vu .none->IsPart vl lo->IsPart vu hi->r x lo hi H Q ->
  ∃T id,typeLookup (.type T) "__getitem__"= pure (some (.builtin id))/\s.TypeIs v T/\wpAny (model X.prog X.w) X.A (getItem v (.ref sl)) (EP X pins σ Q) X.xe s
def tSl(r:V->Option Int->Option Int->Hp->VK->Prop)(te:TE)(tl th:TO):TE:=λσ H Q=>te σ H λx H1=>tl σ H1 λl H2=>th σ H2 λu H3=>r x l u H3 Q
theorem Oo{r:V->Option Int->Option Int->Hp->VK->Prop}(hr:SlR X r)(he:PE X e te)(hl:PO X lo tl)(hu:PO X hi th):PE X (.Subscript e (.Slice lo hi none p2) pos) (tSl r te tl th):=by
 intro pins s σ H Q I h;refine Subscript_ (thn (he pins s σ H _ I h) λv s1 ⟨x,H1,I1,r1,q1⟩=>?_);refine wpAny_Slice (thn (hl pins s1 σ H1 _ I1 q1) λvl s2 ⟨l,H2,I2,pl,q2⟩=>thn (hu pins s2 σ H2 _ I2 q2) λvu z ⟨u,H3,I3,pu,q3⟩=>?_);rw[evalPart_none];refine rZ ?_;have I4:Inv X pins σ H3 {z with heap:=z.heap.push {cls:=.type "slice",data:=.fields #[vl,vu,.none]} }:=I3.kept (t':=z.toks) λb ob q=>Heap.get?_push_of_some _ q
 obtain⟨T,id,hT,ht,hg⟩:=hr pins {z with heap:=z.heap.push {cls:=.type "slice",data:=.fields #[vl,vu,.none]} } σ H3 x v vl vu l u z.heap.objs.size Q I4 r1 (Heap.IsSliceOf.new ..) pl pu q3;show wpAny (model X.prog X.w) X.A (subscriptTail e (.Slice lo hi none p2) v (.ref z.heap.objs.size)) (EP X pins σ Q) X.xe {z with heap:=z.heap.push {cls:=.type "slice",data:=.fields #[vl,vu,.none]} };exact tail_any (ops:=[.ref z.heap.objs.size,v]) ht hT hg (by with_unfolding_all rfl)
def G2(xs:List V)(lo hi:Option Int):List V:=(xs.drop (HT.sIx xs.length 0 lo)).take (HT.sIx xs.length xs.length hi-HT.sIx xs.length 0 lo)
theorem Od(xs:List V)(lo hi:Option Int):(G2 xs lo hi).length<=xs.length:=by
 unfold G2;rw[vE,length_drop];omega
def AhM(K:FA):V->Option Int->Option Int->Hp->VK->Prop:=λx lo hi H Q=>∃a xs,x=.ref a/\SqT K H a xs /\
 ¬(HT.sIx xs.length 0 lo=0/\HT.sIx xs.length xs.length hi=xs.length)/\∀p,H p=none->Q (.ref p) (upd H p (.tup (G2 xs lo hi)))
theorem Aek:SlR X (AhM X.K):=by
 intro pins s σ H x v vl vu lo hi sl Q I rx hs pl pu h;obtain⟨a,xs,rfl,hx,hw,q⟩:=h;cases rx
 obtain⟨a1,r,ht,hz⟩:=I.tuple hx;have z:a1.toArray.size=xs.length:=by rw[uM];exact r.length.symm
 refine⟨"tuple",_,PyProof.Rows.slot_tuple_getitem.lookup,ht.typeIs,?_⟩;refine HT.Aby ht hs pl pu (by rw[z];exact hw) ?_ (by rw[z];exact hz);rw[z];refine⟨.ref s.heap.objs.size,_,I.laid (t':=s.toks) (o:=.tup (G2 xs lo hi)) (λb ob q=>Heap.get?_push_of_some _ q) (uZ _) ?_,Z,q _ (I.hok.fresh (uZ _))⟩;exact⟨uY (Od xs lo hi) hz,_,(r.drop (HT.sIx xs.length 0 lo)).take (HT.sIx xs.length xs.length hi-HT.sIx xs.length 0 lo),IsTup.new _ _⟩
def Af8(K:FA):R2:=λx y H Q=>∃a b xs ys,x=.ref a/\y=.ref b/\SqT K H a xs/\SqT K H b ys/\xs≠[]/\xs.length+ys.length<=sizeLine /\
 (ys=[]->Q (.ref a) H)/\(ys≠[]->∀p,H p=none->Q (.ref p) (upd H p (.tup (xs++ys))))
theorem A8.nil_iff(r:A8 xs us):us=[]↔xs=[]:=by
 cases r with
 |nil=>simp
 |cons _ _=>simp
theorem Adi:OpR X (binaryOp .Add) (Af8 X.K):=by
 intro pins s σ H x y v u Q I rx ry h;obtain⟨a,b,xs,ys,rfl,rfl,ha,hb,hx,hz,q1,q2⟩:=h;cases rx
 cases ry
 obtain⟨a2,r1,p1,_⟩:=I.tuple ha;obtain⟨a1,r2,p2,_⟩:=I.tuple hb;refine HT.Ahf p1 p2 (λz=>hx (r1.nil_iff.mp z)) (λz=>⟨.ref a,H,I,Z,q1 (r2.nil_iff.mp z)⟩) (λz=>?_) (by rw[<-r1.length,<-r2.length];exact hz);refine⟨.ref s.heap.objs.size,_,I.laid (t':=s.toks) (o:=.tup (xs++ys)) (λb ob q=>Heap.get?_push_of_some _ q) (uZ _) ?_,Z,q2 (λw=>z (r2.nil_iff.mpr w)) _ (I.hok.fresh (uZ _))⟩;exact⟨by rw[uC];exact hz,_,r1.append r2,IsTup.new _ _⟩
end
def ixN(n:Nat)(i:Int):Option Nat:=if 0<=i then(if i<n then some i.toNat else none) else if -(n:Int)<=i then some (i+n).toNat else none
def atI{α:Type}(xs:List α)(i:Int):Option α:=(ixN xs.length i).bind λj=>xs[j]?
theorem Yw{i:Int}{j:Nat}(h:ixN n i=some j):seqIndex? i n=some j/\j<n/\-(n:Int)<=i/\i<n:=by
 unfold ixN at h
 by_cases h0:0<=i
 ·rw[if_pos h0]at h
  by_cases h1:i<n
  ·rw[if_pos h1]at h
   have e:i.toNat=j:=Option.some.inj h;exact⟨by rw[seqIndex_of h0 h1,e],by omega,by omega,h1⟩
  ·rw[if_neg h1]at h;cases h
 ·rw[if_neg h0]at h
  by_cases h1:-(n:Int)<=i
  ·rw[if_pos h1]at h
   have e:(i+n).toNat=j:=Option.some.inj h;exact⟨by rw[seqIndex_neg (by omega) h1,e],by omega,h1,by omega⟩
  ·rw[if_neg h1]at h;cases h
theorem Yq{z:Type}{xs:List z}{i:Int}{v:z}(h:atI xs i=some v):∃j,seqIndex? i xs.length=some j/\xs[j]?=some v/\j<xs.length/\-(xs.length:Int)<=i/\i<xs.length:=by
 unfold atI at h;cases e:ixN xs.length i with
 |none=>rw[e]at h;cases h
 |some j=>
  rw[e]at h;obtain⟨h1,h2,h3,h4⟩:=Yw e;exact⟨j,h1,h,h2,h3,h4⟩
theorem Ac{z:Type}{xs:List z}{j:Nat}{v:z}(h:xs[j]?=some v):atI xs (j:Int)=some v:=by
 have hj:j<xs.length:=(List.getElem?_eq_some_iff.mp h).1
 have e:ixN xs.length (j:Int)=some j:=by
  unfold ixN;rw[if_pos (by omega),if_pos (by omega)];simp
 unfold atI;rw[e];exact h
def AeK(b:Expr):Prop:=∀o i,subscripted b false o i=operate [o,i] (getItem o i)
def IxR(X:Cx)(r:R2):Prop:=
 ∀(value slice:Expr)(pins:List (Addr×Obj))(s:Shared)(σ:St)(H:Hp)(x y:V)(v u:Value)(Q:VK),Inv X pins σ H s->A7 x v->A7 y u->r x y H Q ->
  subscripted slice false v u=operate [v,u] (getItem v u)->wpAny (model X.prog X.w) X.A (subscriptTail value slice v u) (EP X pins σ Q) X.xe s
def MtR(X:Cx)(id:String)(r:V->List V->Hp->VK->Prop):Prop:=
 ∀(pins:List (Addr×Obj))(s:Shared)(σ:St)(H:Hp)(x:V)(xs:List V)(v:Value)(us:List Value)(Q:VK),Inv X pins σ H s->A7 x v->A8 xs us->r x xs H Q ->
  wpAny (model X.prog X.w) X.A (call (.builtin id) (v::us)) (EP X pins σ Q) X.xe s
section
variable{a b:Expr}
theorem Aj{r:R2}(hr:IxR X r)(ha:PE X a ta)(hb:PE X b tb)(hs:AeK b):PE X (.Subscript a b pos) (tOp r ta tb):=by
 intro pins s σ H Q I h;exact Subscript_ (AcD ha hb I h λv u s2 x y H2 I2 z ry q=>hr a b pins s2 σ H2 x y v u Q I2 z ry q (hs _ _))
inductive AbM(K:FA)(H:Hp)(Q:VK):V->V->Prop
 |mk{p xs i v}(_:SqL K H p xs)(_:atI xs i=some v)(_:Q v H):AbM K H Q (.ref p) (.int i)
def Y9(K:FA):R2:=λx y H Q=>AbM K H Q x y
inductive Aat(K:FA)(H:Hp)(Q:VK):V->V->Prop
 |mk{p xs i v}(_:SqT K H p xs)(_:atI xs i=some v)(_:Q v H):Aat K H Q (.ref p) (.int i)
def Fc(K:FA):R2:=λx y H Q=>Aat K H Q x y
theorem Bs:IxR X (Y9 X.K):=by
 intro value a4 pins s σ H x y v u Q I rx ry h hs;obtain @⟨p,xs,i,z,hq,he,q⟩:=h;cases rx
 obtain⟨t,rfl⟩:=ry;obtain⟨a3,r,pl,hz⟩:=I.list hq;obtain⟨j,h1,h2,h3,h4,h5⟩:=Yq he;obtain⟨w,ew,a2⟩:=r.get h2;have hl:=r.length;have hn:=K8;have a1:EP X pins σ Q w s:=⟨z,H,I,a2,q⟩
 by_cases h0:0<=i
 ·have hj:i.toNat=j:=by
   rw[seqIndex_of h0 h5]at h1;exact Option.some.inj h1
  exact item_listR pl.isList h0 (by omega) (by rw[hj];simpa using ew) a1 hs
 ·have hj:(i+(a3.toArray.size:Int)).toNat=j:=by
   rw[seqIndex_neg (by omega) h4]at h1;rw[uM,<-hl];exact Option.some.inj h1
  exact subscriptTail_builtinR (x:=w) pl.isList.typeIs slot_list_getitem.lookup
   (wpAny_getItem_list_neg (Q:=λr s'=>r=w/\EP X pins σ Q r s') pl.isList (by omega) (by rw[uM]<;>omega) (by omega) (by rw[hj];simpa using ew) ⟨Z,a1⟩) hs
theorem Ag:IxR X (Fc X.K):=by
 intro value a3 pins s σ H x y v u Q I rx ry h hs;obtain @⟨p,xs,i,z,hq,he,q⟩:=h;cases rx
 obtain⟨t,rfl⟩:=ry;obtain⟨a4,r,pl,hz⟩:=I.tuple hq;obtain⟨j,h1,h2,h3,h4,h5⟩:=Yq he;obtain⟨w,ew,a1⟩:=r.get h2;have hl:=r.length;have hn:=K8;have a2:EP X pins σ Q w s:=⟨z,H,I,a1,q⟩
 exact subscriptTail_builtinR (x:=w) pl.typeIs slot_tuple_getitem.lookup
  (getItem_tuple (j:=j) (Q:=λr s'=>r=w/\EP X pins σ Q r s') pl (by omega) (by omega) (by rw[uM,<-hl];exact h1) (by simpa using ew) ⟨Z,a2⟩) hs
theorem Z9(z:List Value)(n j:Nat)(u:Value):Obj.mapSeq (·.setIfInBounds j u) {cls:=.type "list",data:=.seq z.toArray n} = {cls:=.type "list",data:=.seq (z.set j u).toArray n}:=by
 simp[Obj.mapSeq]
theorem Inv.lst{pins:List (Addr×Obj)}{σ:St}{H:Hp}{s:Shared}{p:Addr}{xs:List V}(I:Inv X pins σ H s)(h:H p=some (.lst xs)) :
  ∃(a1:List Value)(n:Nat),A8 xs a1/\s.heap.get? p=some {cls:=.type "list",data:=.seq a1.toArray n}/\xs.length<=sizeLine:=by
 obtain⟨z,a1,n,r,e⟩:=I.hok p _ h;exact⟨a1,n,r,e,z⟩
theorem Inv.lstUpd{s:Shared}{p:Addr}{ys:List V}{z its':List Value}{n':Nat}{f:Obj->Obj}(I:Inv X pins σ H s)(h:H p=some (.lst xs))
  (ho:s.heap.get? p=some {cls:=.type "list",data:=.seq z.toArray n}) (hf:f {cls:=.type "list",data:=.seq z.toArray n} = {cls:=.type "list",data:=.seq its'.toArray n' }) (r:A8 ys its') (hz:ys.length<=sizeLine) (t:Nat) :
  Inv X pins σ (upd H p (.lst ys)) {s with heap:=s.heap.update p f,toks:=t}:=by
 have e:(s.heap.update p f).get? p=some {cls:=.type "list",data:=.seq its'.toArray n' }:=by
  rw[Heap.get?_update_self f ho (by rw[hf]<;>rfl),hf]
 refine I.write (x:=p) (e:=p) (by rw[h];trivial) (.inl rfl) (λb u hb q=>(Heap.get?_update_other _ _ (Ne.symm hb)).trans q) ⟨_,e⟩ ?_;exact⟨hz,its',n',r,e⟩
inductive Xf(o i v:V)(H:Hp)(Q:Hp->Prop):Prop
 |mk(p:Addr)(xs:List V)(k:Int)(j:Nat)(_:o=.ref p)(_:i=.int k)(_:H p=some (.lst xs))(_:ixN xs.length k=some j)(_:Q (upd H p (.lst (xs.set j v))))
def Agh:V->V->V->Hp->(Hp->Prop)->Prop:=λo i v H Q=>Xf o i v H Q
theorem O1:Aeh X Agh:=by
 intro pins s σ H o i v ov iv u Q I ro ri rv h;obtain⟨p,xs,k,j,rfl,rfl,hp,hj,q⟩:=h;cases ro
 obtain⟨t,rfl⟩:=ri;obtain⟨z,n,r,ho,hz⟩:=I.lst hp;obtain⟨h1,h2,h3,h4⟩:=Yw hj;have hl:=r.length;have hn:=K8
 have I':Inv X pins σ (upd H p (.lst (xs.set j v))) {s with heap:=s.heap.update p (Obj.mapSeq (·.setIfInBounds j u))}:=
  I.lstUpd hp ho (Z9 z n j u) (r.set rv j) (by rw[vK];exact hz) s.toks
 by_cases h0:0<=k
 ·have hk:k.toNat=j:=by
   rw[seqIndex_of h0 h4]at h1;exact Option.some.inj h1
  exact PySem.W.ki_setAt ho h0 (by omega) (by rw[uM,<-hl];exact h4) (by rw[hk];exact⟨_,I',q⟩)
 ·have hk:(k+(z.toArray.size:Int)).toNat=j:=by
   rw[seqIndex_neg (by omega) h3]at h1;rw[uM,<-hl];exact Option.some.inj h1
  exact PySem.W.ki_setBack ho (by omega) (by rw[uM,<-hl];exact h3) (by omega) (by rw[hk];exact⟨_,I',q⟩)
theorem Ut(lo hi:Option Int)(n:Nat):(sliceBounds lo hi none n).1=((HT.sIx n 0 lo:Nat):Int)/\(sliceBounds lo hi none n).2.1=((HT.sIx n n hi:Nat):Int)/\(sliceBounds lo hi none n).2.2=1:=by
 refine⟨?_,?_,Z⟩
 ·cases lo with
  |none=>simp[sliceBounds,HT.sIx]
  |some i=>
   simp only[sliceBounds,HT.sIx,Option.getD_none,show(1:Int)>0 by decide,if_true]
   by_cases h:i<0
   ·simp only[h,if_true]<;>omega
   ·simp only[h,if_false]<;>omega
 ·cases hi with
  |none=>simp[sliceBounds,HT.sIx]
  |some i=>
   simp only[sliceBounds,HT.sIx,Option.getD_none,show(1:Int)>0 by decide,if_true]
   by_cases h:i<0
   ·simp only[h,if_true]<;>omega
   ·simp only[h,if_false]<;>omega
theorem Sw(z:List Value)(lo hi:Option Int):slicePick z.toArray lo hi none=((z.drop (HT.sIx z.length 0 lo)).take (HT.sIx z.length z.length hi-HT.sIx z.length 0 lo)).toArray:=by
 obtain⟨h1,h2,h3⟩:=Ut lo hi z.toArray.size;unfold slicePick;rw[h1,h2,h3];simp only[sliceRange_one,pick_run,uM]<;>rfl
def Ahc(K:FA):V->Option Int->Option Int->Hp->VK->Prop:=λx lo hi H Q=>∃a xs,x=.ref a/\SqL K H a xs/\∀p,H p=none->Q (.ref p) (upd H p (.lst (G2 xs lo hi)))
theorem Xp:SlR X (Ahc X.K):=by
 intro pins s σ H x v vl vu lo hi sl Q I rx hs pl pu h;obtain⟨a,xs,rfl,hx,q⟩:=h;cases rx
 obtain⟨a1,r,ht,hz⟩:=I.list hx;have z:=r.length;refine⟨"list",_,slot_list_getitem.lookup,ht.isList.typeIs,?_⟩;refine wpAny_getItem_list_slice ht.isList hs pl pu .none (by simp) ?_ (by rw[uM]<;>omega);rw[Sw,<-z];refine⟨.ref s.heap.objs.size,_,I.laid (t':=s.toks) (o:=.lst (G2 xs lo hi)) (λb ob q=>Heap.get?_push_of_some _ q) (uZ _) ?_,Z,q _ (I.hok.fresh (uZ _))⟩;exact⟨uY (Od xs lo hi) hz,_,0,(r.drop (HT.sIx xs.length 0 lo)).take (HT.sIx xs.length xs.length hi-HT.sIx xs.length 0 lo),Heap.get?_push_size _ rfl⟩
def Fp:V->Bool
 |.non=>true
 |.bl _=>true
 |.int _=>true
 |.str _=>true
 |_=>false
def eqV:V->V->Bool
 |.non,.non=>true
 |.bl a,.bl b=>a==b
 |.bl a,.int b=>(if a then 1 else 0)==b
 |.int a,.bl b=>a==(if b then 1 else 0)
 |.int a,.int b=>a==b
 |.str a,.str b=>a==b
 |_,_=>false
theorem AaT{s:Shared}{y x:V}{v:Value}(ry:A7 y u)(z:A7 x v)(fy:Fp y=true)(fx:Fp x=true):SeqAt.EqAt A s u v (eqV y x):=by
 cases y with
 |non=>
  cases ry
  cases x with
  |non=>cases z;exact SeqAt.EqAt.same _
  |bl b=>cases z;exact SeqAt.EqAt.none_bool b
  |int b=>obtain⟨t,rfl⟩:=z;exact SeqAt.EqAt.none_int b t
  |str b=>obtain⟨t,rfl⟩:=z;exact SeqAt.EqAt.none_str b t
  |_=>exact absurd (show false=true from fx) qc
 |bl a=>
  cases ry
  cases x with
  |non=>cases z;exact SeqAt.EqAt.bool_none a
  |bl b=>cases z;exact SeqAt.EqAt.bool_bool a b
  |int b=>obtain⟨t,rfl⟩:=z;exact SeqAt.EqAt.bool_int a b t
  |str b=>obtain⟨t,rfl⟩:=z;exact SeqAt.EqAt.bool_str a b t
  |_=>exact absurd (show false=true from fx) qc
 |int a=>
  obtain⟨t',rfl⟩:=ry;cases x with
  |non=>cases z;exact SeqAt.EqAt.int_none a t'
  |bl b=>cases z;exact SeqAt.EqAt.int_bool a t' b
  |int b=>obtain⟨t,rfl⟩:=z;exact SeqAt.EqAt.int_int a t' b t
  |str b=>obtain⟨t,rfl⟩:=z;exact SeqAt.EqAt.int_str a t' b t
  |_=>exact absurd (show false=true from fx) qc
 |str a=>
  obtain⟨t',rfl⟩:=ry;cases x with
  |non=>cases z;exact SeqAt.EqAt.str_none a t'
  |bl b=>cases z;exact SeqAt.EqAt.str_bool a t' b
  |int b=>obtain⟨t,rfl⟩:=z;exact SeqAt.EqAt.str_int a t' b t
  |str b=>obtain⟨t,rfl⟩:=z;exact SeqAt.EqAt.str_str a t' b t
  |_=>exact absurd (show false=true from fx) qc
 |_=>exact absurd (show false=true from fy) qc
def eqU(x:V)(u:Value):Bool:=match u with
 |.none=>eqV .non x
 |.bool b=>eqV (.bl b) x
 |.int i _=>eqV (.int i) x
 |.str z _=>eqV (.str z) x
 |_=>false
theorem T8{x y:V}(r:A7 y u)(f:Fp y=true):eqU x u=eqV y x:=by
 cases y with
 |non=>cases r;rfl
 |bl b=>cases r;rfl
 |int i=>obtain⟨t,rfl⟩:=r;rfl
 |str z=>obtain⟨t,rfl⟩:=r;rfl
 |_=>exact absurd (show false=true from f) qc
theorem K4{x:V}:∀{xs:List V}{us:List Value},A8 xs us->xs.all Fp=true->us.any (eqU x)=xs.any λy=>eqV y x
 |_,_,.nil,_=>rfl
 |y::xs,u::us,.cons r t,f=>by
  rw[all_cons,Bool.and_eq_true]at f;rw[any_cons,any_cons,T8 r f.1,K4 t f.2]
theorem Hy{s:Shared}{x:V}{v:Value}(rx:A7 x v)(z:Fp x=true):∀{xs:List V}{us:List Value},A8 xs us->xs.all Fp=true->∀u∈us,SeqAt.EqAt A s u v (eqU x u)
 |_,_,.nil,_=>λu hu=>by cases hu
 |y::xs,u::us,.cons r t,f=>λu' hu=>by
  rw[all_cons,Bool.and_eq_true]at f;rcases vJ.mp hu with rfl|hu
  ·rw[T8 r f.1];exact AaT r rx f.1 z
  ·exact Hy rx z t f.2 u' hu
def inV(x:V)(xs:List V):Bool:=xs.any λy=>eqV y x
inductive AdL(K:FA)(neg:Bool)(x y:V)(H:Hp)(Q:VK):Prop
 |mk(p)(xs:_)(_:y=.ref p)(_:(SqL K H p xs\/SqT K H p xs))(_:Fp x=true)(_:xs.all Fp=true)(_:Q (.bl (if neg then !inV x xs else inV x xs)) H)
def rIn(K:FA)(neg:Bool):R2:=λx y H Q=>AdL K neg x y H Q
theorem B3:OpR X (compareOp .In) (rIn X.K false):=by
 intro pins s σ H x y v u Q I rx ry h;obtain⟨p,xs,rfl,hq,fx,fs,q⟩:=h;cases ry
 rcases hq with hq|hq
 ·obtain⟨z,r,pl,hz⟩:=I.list hq
  refine SeqAt.in_listAt (eqU x) pl.isList (λw hw=>Hy rx fx r fs w (by simpa using hw)) ⟨.bl _,H,I,Z,?_⟩;rw[show z.toArray.any (eqU x)=z.any (eqU x) by simp,K4 r fs];exact q
 ·obtain⟨z,r,pl,hz⟩:=I.tuple hq
  refine SeqAt.in_tupleAt (eqU x) pl (λw hw=>Hy rx fx r fs w (by simpa using hw)) ⟨.bl _,H,I,Z,?_⟩;rw[show z.toArray.any (eqU x)=z.any (eqU x) by simp,K4 r fs];exact q
theorem Uw:OpR X (compareOp .NotIn) (rIn X.K true):=by
 intro pins s σ H x y v u Q I rx ry h;obtain⟨p,xs,rfl,hq,fx,fs,q⟩:=h;cases ry
 rcases hq with hq|hq
 ·obtain⟨z,r,pl,hz⟩:=I.list hq
  refine SeqAt.notIn_listAt (eqU x) pl.isList (λw hw=>Hy rx fx r fs w (by simpa using hw)) ⟨.bl _,H,I,Z,?_⟩;rw[show z.toArray.any (eqU x)=z.any (eqU x) by simp,K4 r fs];exact q
 ·obtain⟨z,r,pl,hz⟩:=I.tuple hq
  refine SeqAt.notIn_tupleAt (eqU x) pl (λw hw=>Hy rx fx r fs w (by simpa using hw)) ⟨.bl _,H,I,Z,?_⟩;rw[show z.toArray.any (eqU x)=z.any (eqU x) by simp,K4 r fs];exact q
theorem Uk:Ge X (.builtin "len") (λxs H Q=>∃p ys,xs=[.ref p]/\(SqL X.K H p ys\/SqT X.K H p ys)/\Q (.int ys.length) H):=by
 intro pins s σ H xs us Q I r h;obtain⟨p,ys,rfl,hq,q⟩:=h;obtain⟨u,rfl,rx⟩:=Pg r;cases rx
 have hn:=K8;rcases hq with hq|hq
 ·obtain⟨a1,r',pl,hz⟩:=I.list hq
  have z:=r'.length;exact Calls.call_len_list pl.isList (by simp only[uM]<;>omega) ⟨.int ys.length,H,I.tok _,⟨s.toks+1,by rw[uM,z]⟩,q⟩
 ·obtain⟨a1,r',pl,hz⟩:=I.tuple hq
  have z:=r'.length;exact len_tuple pl (by simp only[uM]<;>omega) ⟨.int ys.length,H,I.tok _,⟨s.toks+1,by rw[uM,z]⟩,q⟩
theorem M5:Ge X (.type "list") (λxs H Q=>∃p ys,xs=[.ref p]/\(SqL X.K H p ys\/SqT X.K H p ys)/\∀l,H l=none->Q (.ref l) (upd H l (.lst ys))):=by
 intro pins s σ H xs us Q I r h;obtain⟨p,ys,rfl,hq,q⟩:=h;obtain⟨u,rfl,rx⟩:=Pg r;cases rx
 have a1:∀(z:List Value),A8 ys z->ys.length<=sizeLine->∀(h':Heap)(c':Nat),(∀b o',s.heap.get? b=some o'->h'.get? b=some o') ->
   h'.get? s.heap.objs.size=some {cls:=.type "list",dict:=none,data:=.seq z.toArray c',slots:=#[]}->EP X pins σ Q (.ref s.heap.objs.size) {s with heap:=h' }:=λz r' hz h' c' kp e=>
  ⟨.ref s.heap.objs.size,_,I.laid (t':=s.toks) kp (uZ _) (show B1 X.prog X.w _ h' _ (.lst ys) from⟨hz,z,c',r',e⟩),Z,q _ (I.hok.fresh (uZ _))⟩
 rcases hq with hq|hq
 ·obtain⟨z,r',pl,hz⟩:=I.list hq
  have a2:=r'.length;obtain⟨o,ho,hc,n,hd⟩:=pl.isList;exact call_list_seq p (.inl rfl) ho hc hd (λh' c' kp e=>a1 z r' hz h' c' kp e) (by simp only[uM]<;>omega)
 ·obtain⟨z,r',pl,hz⟩:=I.tuple hq
  have a2:=r'.length;obtain⟨o,ho,hc,n,hd⟩:=pl;exact call_list_seq p (.inr rfl) ho hc hd (λh' c' kp e=>a1 z r' hz h' c' kp e) (by simp only[uM]<;>omega)
theorem Gy:Ge X (.type "tuple") (λxs H Q=>∃p ys,xs=[.ref p]/\((SqL X.K H p ys/\∀l,H l=none->Q (.ref l) (upd H l (.tup ys)))\/(SqT X.K H p ys/\Q (.ref p) H))):=by
 intro pins s σ H xs us Q I r h;obtain⟨p,ys,rfl,h⟩:=h;obtain⟨u,rfl,rx⟩:=Pg r;cases rx
 rcases h with⟨hq,q⟩|⟨hq,q⟩
 ·obtain⟨z,r',pl,hz⟩:=I.list hq
  have a1:=r'.length;refine call_tuple_list pl.isList (λh' kp=>?_) (by simp only[uM]<;>omega);have I1:Inv X pins σ H {s with heap:=h' }:=I.kept (t':=s.toks) kp
  have I2:Inv X pins σ (upd H h'.objs.size (.tup ys)) {s with heap:=h'.push {cls:=.type "tuple",data:=.seq z.toArray} }:=
   I1.laid (t':=s.toks) (λb o e=>Heap.get?_push_of_some _ e) (uZ _) (show B1 X.prog X.w _ _ _ (.tup ys) from⟨hz,z,r',IsTup.new _ _⟩)
  exact⟨.ref h'.objs.size,_,I2,Z,q _ (I1.hok.fresh (uZ _))⟩
 ·obtain⟨z,r',pl,hz⟩:=I.tuple hq
  exact call_tuple_same pl ⟨.ref p,H,I,Z,q⟩
def tyV(K:FA)(T:String)(x:V)(H:Hp):Prop:=match x with
 |.str _=>T ="str"
 |.int _=>T ="int"
 |.ref p=>(T ="list" /\ ∃xs,SqL K H p xs)\/(T ="tuple" /\ ∃o,K.lookup p=some o/\o.cls=.type "tuple" /\ o.dict=none) \/
   (T ="dict" /\ ((∃kvs,H p=some (.dK kvs))\/∃kvs,H p=some (.dT kvs)))\/(T ="set" /\ ∃S n,H p=some (.set S n))
 |_=>False
theorem Abg{s:Shared}{T:String}{x:V}{v:Value}(I:Inv X pins σ H s)(r:A7 x v)(ty:tyV X.K T x H) :
  s.TypeIs v T/\∀a,v=.ref a->∃ob,s.heap.get? a=some ob/\ob.dict=none:=by
 cases x with
 |str z=>
  obtain⟨t,rfl⟩:=r;cases (show T ="str" from ty)
  exact⟨typeIs_str s z t,λ_ e=>nomatch e⟩
 |int i=>
  obtain⟨t,rfl⟩:=r;cases (show T ="int" from ty)
  exact⟨typeIs_int s i t,λ_ e=>nomatch e⟩
 |ref p=>
  cases r
  rcases ty with⟨rfl,xs,hq⟩|⟨rfl,o,hk,hc,hd⟩|⟨rfl,hk⟩|⟨rfl,S,n,hk⟩
  ·obtain⟨a1,_,pl,_⟩:=I.list hq
   refine⟨pl.isList.typeIs,λa e=>?_⟩;cases e
   obtain⟨o,n,e,c,hd,_⟩:=pl;exact⟨o,e,hd⟩
  ·refine⟨⟨o,I.kIn p o hk,hc⟩,λa e=>?_⟩
   cases e
   exact⟨o,I.kIn _ o hk,hd⟩
  ·have z:∃o,s.heap.get? p=some o/\o.ExactDict:=by
    rcases hk with⟨kvs,hk⟩|⟨kvs,hk⟩
    ·obtain⟨_,_,_,_,o,_,_,e,ex,_⟩:=I.hok p _ hk
     exact⟨o,e,ex⟩
    ·obtain⟨_,_,_,_,o,_,_,e,ex,_⟩:=I.hok p _ hk
     exact⟨o,e,ex⟩
   obtain⟨o,e,ex⟩:=z;refine⟨⟨o,e,ex.1⟩,λa e2=>?_⟩;cases e2
   exact⟨o,e,ex.2.1⟩
  ·obtain⟨o,_,_,_,e,ex,_⟩:=I.hok p _ hk
   refine⟨⟨o,e,ex.1⟩,λa e2=>?_⟩;cases e2
   exact⟨o,e,ex.2.1⟩
 |_=>exact False.elim ty
def AhH(K:FA)(T:String)(r:V->List V->Hp->VK->Prop)(to:TE):TE:=λσ H Q=>to σ H λx H1=>tyV K T x H1/\r x [] H1 Q
def tBM(K:FA)(T:String)(r:V->List V->Hp->VK->Prop)(to:TE)(t:TA):TE:=λσ H Q=>to σ H λx H1=>tyV K T x H1/\t σ H1 λxs H2=>r x xs H2 Q
variable{o:Expr}{to:TE}{t:TA}{name:Str}{cpos:Pos}{T id:String}{r:V->List V->Hp->VK->Prop}
theorem Nj(pa:PlainAttrs T)(slot:Slot T name id)(a2:typeOf (.builtin id)=pure (.type "method_descriptor"))(hm:MtR X id r)(ho:PE X o to)
  (a1:attributeBase o name X.env (eval o X.env)=eval o X.env:=by rfl) (z:(apos.endLine==cpos.line)=true:=by rfl):PE X (.Call (.Attribute o name apos) [] [] cpos) (AhH X.K T r to):=by
 intro pins s σ H Q I h;refine wpAny_Call_method0_late a1 z (thn (ho pins s σ H _ I h) λv s1 ⟨x,H1,I1,r1,ty,q1⟩=>?_);obtain⟨h1,h2⟩:=Abg I1 r1 ty;exact⟨T,id,pa,slot,a2,h1,h2,Calls.callWith_builtin rfl (PySem.evalArgs_none (hm pins s1 σ H1 x [] v [] Q I1 r1 .nil q1))⟩
theorem Fq(pa:PlainAttrs T)(slot:Slot T name id)(a4:typeOf (.builtin id)=pure (.type "method_descriptor"))(hm:MtR X id r)(ho:PE X o to)(ha:PA X (e::es) t)
  (a2:attributeBase o name X.env (eval o X.env)=eval o X.env:=by rfl)
  (a3:((backTo cpos (starEach (e::es) X.env)).all (λx=>!x.1)&&(backToKw cpos (keywordEach [] X.env)).all (λx=>x.1.isSome)
   && decide ((e::es).length+([]:List Keyword).length+(if ([]:List Keyword).isEmpty then 0 else 1)<30))=true:=by rfl)
  (a1:(apos.endLine==cpos.line)=true:=by rfl) (hs:starEach (e::es) X.env=(false,eval e X.env)::starEach es X.env:=by rfl) (z:(backTo cpos (starEach es X.env)).any (·.1)=false:=by rfl) :
  PE X (.Call (.Attribute o name apos) (e::es) [] cpos) (tBM X.K T r to t):=by
 intro pins s σ H Q I h;refine wpAny_Call_method_late a2 a3 a1 rfl (thn (ho pins s σ H _ I h) λv s1 ⟨x,H1,I1,r1,ty,q1⟩=>?_);obtain⟨h1,h2⟩:=Abg I1 r1 ty;refine⟨T,id,pa,slot,a4,h1,h2,?_⟩;have hA:=ha cpos pins s1 σ H1 _ I1 q1;rw[hs]at hA ⊢;refine Calls.callWith_builtin (by show(false || (backTo cpos (starEach es X.env)).any (·.1))=false;rw[z]<;>rfl) (Calls.evalArgs_plain ?_);exact thn hA λus s2 ⟨vs,H2,I2,r2,q2⟩=>hm pins s2 σ H2 x vs v us Q I2 r1 r2 q2
end
def MtM(X:Cx)(id:String)(r:V->List V->Hp->VK->Prop):Prop:=
 ∀(pins:List (Addr×Obj))(s:Shared)(σ:St)(H:Hp)(x:V)(xs:List V)(v:Value)(us:List Value)(Q:VK),Inv X pins σ H s->A7 x v->A8 xs us->r x xs H Q ->
  wpAny (model X.prog X.w) X.A (call (.builtin id) (v::us)) (EP X pins σ Q) X.xe s
theorem A8.one:∀{x:V}{us:List Value},A8 [x] us->∃u,us=[u]/\A7 x u
 |_,_,.cons r .nil=>⟨_,rfl,r⟩
theorem A8.two:∀{x y:V}{us:List Value},A8 [x,y] us->∃u v,us=[u,v]/\A7 x u/\A7 y v
 |_,_,_,.cons r (.cons q .nil)=>⟨_,_,rfl,r,q⟩
theorem A8.zero:∀{us:List Value},A8 [] us->us=[]
 |_,.nil=>rfl
theorem A8.dropLast(h:A8 xs us):A8 xs.dropLast us.dropLast:=by
 induction h with
 |nil=>exact .nil
 |cons r t z=>
  cases t with
  |nil=>exact .nil
  |cons q t'=>exact .cons r z
theorem Zj{α:Type}(l:List α):l.eraseIdx (l.length-1)=l.dropLast:=by
 induction l with
 |nil=>rfl
 |cons a r z=>
  cases r with
  |nil=>rfl
  |cons b r=>
   have e:(a::b::r).length-1=((b::r).length-1)+1:=by
    have h1:(a::b::r).length=r.length+2:=rfl;have h2:(b::r).length=r.length+1:=rfl;omega
   rw[e,List.eraseIdx_cons_succ,z]
   all_goals rfl
section
variable{s:Shared}{l b:Addr}{ys zs:List V}
theorem Inv.lset{z its':List Value}{f:Array Value->Array Value}{t':Nat}(I:Inv X pins σ H s)(hH:H l=some (.lst xs))
  (e:s.heap.get? l=some {cls:=.type "list",data:=.seq z.toArray n}) (hf:f z.toArray=its'.toArray) (hv:A8 ys its') (hz:ys.length<=sizeLine) :
  Inv X pins σ (upd H l (.lst ys)) {s with heap:=s.heap.update l (Obj.mapSeq f),toks:=t' }:=by
 have q:=PySem.IsL.update e f;rw[hf]at q;refine I.write (x:=l) (e:=l) (by rw[hH];exact trivial) (.inl rfl) (λb' u hb hu=>(Heap.get?_update_other s.heap (Obj.mapSeq f) (Ne.symm hb)).trans hu) ⟨_,q⟩ ?_;exact⟨hz,its',_,hv,q⟩
theorem Inv.lnew{z:List Value}{t':Nat}(I:Inv X pins σ H s)(hv:A8 ys z)(hz:ys.length<=sizeLine) :
  Inv X pins σ (upd H s.heap.objs.size (.lst ys)) {s with heap:=s.heap.push {cls:=.type "list",data:=.seq z.toArray},toks:=t' }:=
 I.laid (λ_ _ q=>Heap.get?_push_of_some _ q) (uZ _) ⟨hz,z,0,hv,Heap.get?_push_size _ rfl⟩
theorem Inv.fresh(I:Inv X pins σ H s):H s.heap.objs.size=none:=I.hok.fresh (uZ _)
theorem Inv.lstM(I:Inv X pins σ H s)(hH:H l=some (.lst xs)):xs.length<=sizeLine/\∃(a1:List Value)(n:Nat),A8 xs a1/\xs.length=a1.length/\s.heap.get? l=some {cls:=.type "list",data:=.seq a1.toArray n}:=by
 obtain⟨z,a1,n,r,e⟩:=I.hok l _ hH;exact⟨z,a1,n,r,r.length,e⟩
theorem Ab5(h:n<=sizeLine):Builtin.List.listTooLong n=false:=by
 unfold Builtin.List.listTooLong;exact uJ (by omega)
end
inductive Rr(x:V)(vs:List V)(H:Hp)(Q:VK):Prop
 |mk(l:Addr)(xs:List V)(y:V)(_:x=.ref l)(_:vs=[y])(_:H l=some (.lst xs))(_:xs.length<sizeLine)(_:Q .non (upd H l (.lst (xs++[y]))))
def AeO:V->List V->Hp->VK->Prop:=λx vs H Q=>Rr x vs H Q
theorem Cz:MtM X "list.append" AeO:=by
 intro pins s σ H x vs v us Q I rx rv h;obtain⟨l,xs,y,rfl,rfl,hH,hz,q⟩:=h;cases rx
 obtain⟨u,rfl,ru⟩:=rv.one;obtain⟨z,a1,n,r,hl,e⟩:=I.lstM hH;refine call_meets F.slot_list_append ⟨_,e,Z⟩ F.entry_list_append (F.args_list_append_2 _ _) (PySem.list_append l a1.toArray n u (by rw[uM];omega)) ⟨e,?_⟩;refine⟨.non,_,I.lset (its':=a1++[u]) hH e (by simp) (r.append (.cons ru .nil)) ?_,Z,q⟩;rw[uC,uD];omega
def Ad9:V->List V->Hp->VK->Prop:=λx vs H Q=>∃l b xs zs,x=.ref l/\vs=[.ref b]/\H l=some (.lst xs)/\H b=some (.lst zs)/\xs.length+zs.length<=sizeLine/\Q .non (upd H l (.lst (xs++zs)))
theorem Aao:MtM X "list.extend" Ad9:=by
 intro pins s σ H x vs v us Q I rx rv h;obtain⟨l,b,xs,zs,rfl,rfl,hH,hB,hz,q⟩:=h;cases rx
 obtain⟨u,rfl,ru⟩:=rv.one;cases ru
 obtain⟨z,a2,n,r,hl,e⟩:=I.lstM hH;obtain⟨z2,a1,n2,r2,a4,e2⟩:=I.lstM hB;have hsz:a2.toArray.size+a1.toArray.size<=sizeLine:=by rw[uM,uM];omega
 have a3:¬(!a2.toArray.isEmpty&&Builtin.List.listTooLong (a2.toArray.size+a1.toArray.size))=true:=by
  rw[Ab5 hsz,Bool.and_false];exact qc
 refine call_meets F.slot_list_extend ⟨_,e,Z⟩ F.entry_list_extend (F.args_list_extend_2 _ _)
  (AutoSeq1.list_extend_list_list_0 l a2.toArray n b a1.toArray n2 a3 (by rw[uM];omega) (by omega)) ⟨e,e2,?_⟩
 refine⟨.non,_,I.lset (its':=a2++a1) hH e (by simp) (r.append r2) ?_,Z,q⟩;rw[uC];omega
def Aha:V->List V->Hp->VK->Prop:=λx vs H Q=>∃l xs y,x=.ref l/\vs=[]/\H l=some (.lst xs)/\xs[xs.length-1]?=some y/\Q y (upd H l (.lst xs.dropLast))
theorem Mp:MtM X "list.pop" Aha:=by
 intro pins s σ H x vs v us Q I rx rv h;obtain⟨l,xs,y,rfl,rfl,hH,hy,q⟩:=h;cases rx
 have a2:=rv.zero;subst a2;obtain⟨z,a1,n,r,hl,e⟩:=I.lstM hH;obtain⟨u,hu,ru⟩:=r.get hy
 have a3:a1.toArray[a1.toArray.size-1]?=some u:=by
  show a1.toArray[a1.length-1]?=some u
  rw[<-Array.getElem?_toList,<-hl];exact hu
 refine call_meets F.slot_list_pop ⟨_,e,Z⟩ F.entry_list_pop (F.args_list_pop_1 _) (MeetsSeq.list_pop_last l a1.toArray n u a3 (by rw[uM];omega)) ⟨e,?_⟩;refine⟨y,_,I.lset (its':=a1.dropLast) hH e ?_ r.dropLast ?_,ru,q⟩
 ·show a1.toArray.eraseIdxIfInBounds (a1.toArray.size-1)=a1.dropLast.toArray
  rw[uM,List.eraseIdxIfInBounds_toArray,Zj]
 ·rw[List.length_dropLast]
  omega
inductive Abh  (x y:V) (H:Hp) (Q:VK):Prop
 |mk(l)(b)(xs:_)(zs)(_:x=.ref l)(_:y=.ref b)(_:H l=some (.lst xs))(_:H b=some (.lst zs))(_:xs.length+zs.length<=sizeLine)(_:∀p,H p=none->Q (.ref p) (upd H p (.lst (xs++zs)))):Abh  x y H Q
def Zx:R2:=λx y H Q=>Abh  x y H Q
theorem Cf:OpR X (binaryOp .Add) Zx:=by
 intro pins s σ H x y v u Q I rx ry h;obtain⟨l,b,xs,zs,rfl,rfl,hH,hB,hz,q⟩:=h;cases rx
 cases ry
 obtain⟨z,a2,n,r,hl,e⟩:=I.lstM hH;obtain⟨z2,a1,n2,r2,a3,e2⟩:=I.lstM hB;refine PySem.P.add_list e e2 ?_ (by rw[uM,uM];omega);have ea:a2.toArray++a1.toArray=(a2++a1).toArray:=by simp
 rw[ea];exact⟨.ref _,_,I.lnew (t':=s.toks) (r.append r2) (by rw[uC];omega),Z,q _ I.fresh⟩
section
variable{s:Shared}
end
end L2
namespace Att
open PySem PySem.W PySem.Calls PyProof.Rows
theorem Qb{P:Params} :∀(ns:List Int)(vs:List Value),WellAll P h vs (ns.map WData.int)->IntsAre vs ns:=by
 intro ns
 induction ns with
 |nil=>
  intro vs w;rw[map_nil]at w;cases w
  exact .nil
 |cons n ns z=>
  intro vs w;rw[map_cons]at w;cases w with
  |cons a b=>
   cases a
   exact .cons _ _ (z _ b)
theorem Aa5{l:OpenLaw}(hn:l.most=some n){P:Params}{args:List WData}{a1:List Value}
  (z:l.row.toRowW.claim.pre args=true) (a5:WellAll P h a1 args) :
  ∃a vs ns,a1=[Value.ref a]/\args=[WData.list (ns.map WData.int)]/\h.get? a=some {cls:=.type "list",data:=.seq vs.toArray}/\IntsAre vs ns/\ns.length<=n:=by
 have a4:WShape.hasAll [] args [.list .int]=true:=(pre_splitW z).1;have hc:l.pre.holds [] {args:=args}=true:=(pre_splitW z).2;obtain⟨d,r,rfl,h1,h2⟩:=hasAllW_cons a4;obtain rfl:=hasAllW_nil h2;obtain⟨xs,rfl,h3⟩:=hasW_list h1;obtain⟨ns,rfl⟩:=items_int h3
 have a2:ns.length<=n:=by
  unfold OpenLaw.pre at hc
  have h4:(WTm.not (.lt (.lit (.int (n:Int))) (.len (.arg 0)))).holds [] {args:=[.list (ns.map .int)]}=true:=by
   have h4:=(holds_andW hc).1;rw[hn]at h4;exact h4
  have h5:=condW_of h4 (w_not (w_lt w_lit (w_len_list (w_arg rfl))));rw[length_map]at h5;refine Nat.le_of_not_lt λq=>?_
  have q':(n:Int)<((ns.length:Nat):Int):=by omega
  first
   | (rw[decide_eq_true q']at h5;exact absurd h5 (by decide))
   | (simp at h5;omega)
 cases a5 with
 |cons w1 w2=>
  cases w2
  cases w1 with
  |list ho a3=>exact⟨_,_,ns,rfl,rfl,ho,Qb ns _ a3,a2⟩
theorem Aa6(l:OpenLaw)(args:List WData):l.row.toRowW.claim.post args (.bool true) args=true:=
 postW_of (r:=l.row.toRowW) (X:=(true==true))
  (show WShape.has [] (.bool true) .bool=true by first|rfl|decide|simp[WShape.has,WShape.arms,WShape.armsAll])
  (show(WTm.eq .res (.lit (.bool true))).value [] {args:=args,res:=some (.bool true),after:=args}=some (.bool (true==true)) from w_eq_bool (w_res rfl) w_lit) rfl
theorem Afr{l:OpenLaw}{q:Program}{a1:List Str}{XP:(Str->Option Value)->Heap->Prop}{YP:World->Heap->Prop}{d:DefRec}
  (hn:l.most=some n) (a7:d.params.defaults=[])
  (call:∀(w:World)(s₀ z:Shared)(mg mb:Str->Option Value)(fa:Addr)(o:Obj)(pm cd doc:Value)(a:Addr)(vs:List Value)(ns:List Int),
   Ground q a1 [] XP w s₀ mg mb z.heap->YP w z.heap ->
   z.heap.get? fa=some o->o.data=.func (docDef d.name d.params d.body d.scope pm cd doc)->z.heap.CodeRec cd d.name->mg d.name=some (.ref fa) ->
   z.heap.get? a=some {cls:=.type "list",data:=.seq vs.toArray}->IntsAre vs ns->ns.length<=n->z.gens = #[] ->
   codeAny (model l.prog w) callerA (.call (.ref fa) ⟨[.ref a],[]⟩) (λr s'=>r=.ok (.ret (.bool true))/\OldK z.heap s'.heap/\s'.os=z.os/\AllBare s'.gens) z) :
  WalkO q a1 XP YP l.row.toRowW d [] (λf vs=>PySem.call f vs):=by
 intro w s₀ z mg mb G Y fa o pm cd doc dV kV ho hd a6 hD a9 hg args b2 as a5 b1 b4 a8 b3;obtain rfl:dV=.none:=Dflts.none hD a7;obtain rfl:kV=.none:=Dflts.noKw hD;obtain⟨a,vs,ns,rfl,rfl,a4,a2,a3⟩:=Aa5 hn a5 a8;refine enter_call (codeAny_mono (call w s₀ z mg mb fa o pm cd doc a vs ns G Y ho (fd_plain hd) a6 a9 a4 a2 a3 hg) λr s' hq=>?_);obtain⟨rfl,h2,h3,h4⟩:=hq;exact⟨.inl ⟨.bool true,.bool true,[],Z,λ_=>rfl,.bool true,Aa6 l _,λ_=>⟨Pairwise.nil,λ_ hm=>(nomatch hm)⟩⟩,h2,h3,h4⟩
section
variable{s:Shared}{K:Frag}
def Ahq(h:Heap)(L d:Addr):List (Addr×Obj):=(List.range h.objs.size).filterMap λa=>if a=L\/a=d then none else(h.get? a).map λo=>(a,o)
end
end Att
namespace L2
open PySem PySem.Spec PyProof.Rows
theorem Kj:∀{vs:List Value}{ns:List Int},IntsAre vs ns->A8 (ns.map V.int) vs
 |_,_,.nil=>.nil
 |_,_,.cons n t h=>.cons ⟨t,rfl⟩ (Kj h)
def Acy(H:Hp):Prop:=∀b,H b=none\/∃o xs,H b=some (.frz o (.lst xs))
theorem Aco{mb:Str->Option Value}{CX:CXT}{fa:Addr}{a1:Shared}{vs:List Value}{ns:List Int}
  (KX:K.In a1.heap) (a7:a1.heap.Ns mainGlobals mg) (hb:a1.heap.Ns builtinsNs mb) (b3:∀x:Str,x≠ "__name__" -> mb x=bootBuiltins x) (b1:a1.heap.NoLimit) (hg:a1.gens = #[])
  (ha:a1.heap.get? a=some {cls:=.type "list",data:=.seq vs.toArray}) (hi:IntsAre vs ns) (hl:ns.length<=sizeLine) (hr:Ct k callerA)
  (F:∀base:Heap,K.In base->base.Ns mainGlobals mg->Ca P w K mg base CX k fa fd [x] sp) (a5:∀(s:Shared)(u:Value),BindsTo s fd ⟨[u],[]⟩ [(x,u)])
  (b4:∀H:Hp,Acy H->SqL K H a (ns.map V.int)->sp [.ref a] H (λv _=>v=.bl true) λ_ _ _=>False)
  (b2:∀H e s',CX [] H a1 (λ_ _ _=>False) e s'->False) :
  codeAny (model P w) callerA (.call (.ref fa) ⟨[.ref a],[]⟩) (λr s'=>r=.ok (.ret (.bool true))/\OldK a1.heap s'.heap/\s'.os=a1.os/\AllBare s'.gens) a1:=by
 have rv:=Kj hi;have a9:=hi.length
 have a4:∀H:Hp,Acy H->SqL K H a (ns.map V.int)->HOk P w H a1.heap->(∀b,H b≠none->b=a)->(H a≠none->K.lookup a=none) ->
   codeAny (model P w) callerA (.call (.ref fa) ⟨[.ref a],[]⟩) (λr s'=>r=.ok (.ret (.bool true))/\OldK a1.heap s'.heap/\s'.os=a1.os/\AllBare s'.gens) a1:=by
  intro H hO hS hok hA hK;have a2:∀{b:Addr}{o:Obj},a1.heap.get? b=some o->H b=none->(Lz a1.heap H).get? b=some o:=λe n=>Ack e n
  have b5:∀{b:Addr}{o:Obj}{es:Array DictEntry}{ep:Nat},a1.heap.get? b=some o->o.data=.dict es ep->H b=none:=λ{b o es ep}e d=>by
   cases q:H b with
   |none=>rfl
   |some u=>
    have e':b=a:=hA b (by rw[q];simp);subst e';rw[ha]at e;cases e;have d':Data.seq vs.toArray _=Data.dict es ep:=d;cases d'
  have a3:∀{b:Addr}{m:Str->Option Value},a1.heap.Ns b m->(Lz a1.heap H).Ns b m:=λ{b m} ⟨o,es,ep,e,d,r⟩=>⟨o,es,ep,a2 e (b5 e d),d,r⟩
  have a6:K.In (Lz a1.heap H):=λb o e=>a2 (KX b o e) (by
   cases q:H b with
   |none=>rfl
   |some u=>
    have e':b=a:=hA b (by rw[q];simp);subst e';rw[hK (by rw[q];simp)]at e;cases e)
  have hM:Mod K mg (Lz a1.heap H):=⟨a6,a3 a7,⟨mb,a3 hb,b3⟩,let ⟨mc,h1,h2⟩:=b1;⟨mc,a3 h1,h2⟩⟩;have e0:Oj P w K mg (Lz a1.heap H) callerA [] a1 H:=⟨Z,hM,λb o e=>AdU e,le_of_eq (Aba _ _),trivial,λb hb=>absurd (show b∈([]:List Addr) from hb) (by simp),hok,.of_eq hg⟩;refine codeAny_mono ((F _ a6 (a3 a7)).run callerA [] a1 H ⟨[.ref a],[]⟩ [.ref a] [.ref a] _ _ hr e0 (a5 a1 (.ref a)) (.cons rfl .nil) (b4 H hO hS)) λr s' h=>?_
  cases r with
  |error e=>exact(b2 H e s' h).elim
  |ok fl=>
   cases fl with
   |next=>exact False.elim h
   |brk=>exact False.elim h
   |cont=>exact False.elim h
   |ret u=>
    obtain⟨v,H',os,bare,un,a8,r',q⟩:=h;have q':v=.bl true:=q;subst q';obtain rfl:u=Value.bool true:=r';refine⟨Z,OldK.of_keep λb o e=>?_,os,bare⟩;cases q:H b with
    |none=>exact un.keep b o e q (by intro z;exact absurd (show b∈([]:List Addr) from z) (by simp)) (by simp)
    |some u=>
     rcases hO b with z|⟨ob,xs,z⟩
     ·rw[q]at z;cases z
     ·have z2:=un.frzs b ob _ z
      obtain⟨e1,_⟩:=hok b _ z;obtain⟨e2,_⟩:=a8 b _ z2;rw[e]at e1;cases e1;exact e2
 cases hk:K.lookup a with
 |some o=>
  have e:=KX a o hk;rw[ha]at e;cases e
  refine a4 (λ_=>none) (λ_=>.inl rfl) (.inr ⟨_,vs.toArray,_,hk,Z,Z,Z,by rw[uM,a9];exact hl,by simpa using rv⟩) (λb u z=>by have z':(none:Option HO)=some u:=z;cases z') (λb z=>absurd rfl z) λz=>absurd rfl z
 |none=>
  refine a4 (λb=>if b=a then some (.frz {cls:=.type "list",data:=.seq vs.toArray} (.lst (ns.map V.int))) else none) (λb=>?_) (.inl (.inr ⟨{cls:=.type "list",data:=.seq vs.toArray},if_pos rfl⟩)) (λb u z=>?_) (λb z=>?_) λ_=>hk
  ·by_cases hb:b=a
   ·exact .inr ⟨_,_,if_pos hb⟩
   ·exact .inl (if_neg hb)
  ·by_cases hb:b=a
   ·have z':=(if_pos hb).symm.trans z
    cases z'
    subst hb;exact⟨ha,by rw[uB];exact hl,vs,_,rv,ha⟩
   ·have z':=(if_neg hb).symm.trans z
    cases z'
  ·by_cases hb:b=a
   ·exact hb
   ·exact absurd (if_neg hb) z
abbrev KOf{K:FA}{h:Heap}(_:K.In h):FA:=K
theorem Ahg{l:PySem.W.OpenLaw}{q:Program}{a2:List Str}{XP:(Str->Option Value)->Heap->Prop}{YP:World->Heap->Prop}{d:DefRec}{K:Params->FA}{CX:World->CXT}{sp:World->Sp} 
  (hn:l.most=some n) (a9:n<=sizeLine) (a7:d.params.defaults=[]) (hr:Ct k callerA)
  (hY:∀(w:World)(h:Heap),YP w h->(K w.params).In h)
  (F:∀(w:World)(mg:Str->Option Value)(fa:Addr)(h:Heap),(K w.params).In h->h.Ns mainGlobals mg->mg d.name=some (.ref fa) ->
   ∃fd:FuncData,(∀(s:Shared)(u:Value),BindsTo s fd ⟨[u],[]⟩ [(x,u)]) /\
    ∀base:Heap,(K w.params).In base->base.Ns mainGlobals mg->Ca l.prog w (K w.params) mg base (CX w) k fa fd [x] (sp w))
  (a6:∀(w:World)(H:Hp)(a:Addr)(ns:List Int),ns.length<=n->Acy H->SqL (K w.params) H a (ns.map V.int)->sp w [.ref a] H (λv _=>v=.bl true) λ_ _ _=>False)
  (a5:∀(w:World)(H:Hp)(s:Shared)(e:Value)(s':Shared),CX w [] H s (λ_ _ _=>False) e s'->False) :
  PySem.W.WalkO q a2 XP YP l.row.toRowW d [] (λf vs=>PySem.call f vs):=by
 refine Att.Afr hn a7 λw s₀ a4 mg mb fa o pm cd doc a vs ns G Y ho hd b1 a8 a3 a1 z hg=>?_
 have KX:=hY w _ Y;obtain⟨fd,hb,hF⟩:=F w mg fa _ KX G.T.g a8;exact Aco KX G.T.g G.T.b G.T.builtins G.T.nolimit hg a3 a1 (uY z a9) hr hF hb (λH hO hS=>a6 w H a ns z hO hS) λH e s'=>a5 w H a4 e s'
def Fk(s:Stmt)(j:Nat):Stmt:=match s with
 |.ClassDef _ _ _ body _ _ _ _ _ _ _=>body.getD j (.Pass ⟨0,0,0,0⟩)
 |_=>.Pass ⟨0,0,0,0⟩
def Cb(s:Stmt):Arguments:=match s with
 |.FunctionDef _ a _ _ _ _ _ _ _ _=>a
 |_=>{posonlyargs:=[],args:=[],vararg:=none,kwonlyargs:=[],kw_defaults:=[],kwarg:=none,defaults:=[]}
def B0(s:Stmt):List Stmt:=match s with
 |.FunctionDef _ _ b _ _ _ _ _ _ _=>b
 |_=>[]
def Ak(s:Stmt):Scope:=match s with
 |.FunctionDef _ _ _ _ _ _ sc _ _ _=>sc
 |_=>{kind:=.function,names:=[],isGenerator:=false,isCoroutine:=false}
abbrev CX0:CXT:=λ_ _ _ _ _ _=>False
abbrev E0:XK:=λ_ _ _=>False
theorem Al:Gq CX0 X E0:=λ_ _ _ _ _ _ _ h=>h.elim
structure Fun(K:FA)(x qual:Str)(st:Stmt)(f:Addr)(fd:FuncData):Prop where
 ex:∃(oc:Value)(od:Option Addr)(kV doc pm:Value)(an:Option Addr)(cdv ct:Value)(osl:Array (Option Value)),
  fd=fnOf x qual (Cb st) (B0 st) (Ak st) .none kV doc pm an cdv ct/\K.lookup f=some ⟨oc,od,.func fd,osl⟩/\codeIn K cdv qual=true
 kp:keepIn K (.ref f)=true
theorem Fun.ok{qual:Str}{N:List Str}(F:Fun K x qual st f fd)(S:As N ps (Ak st))(len:∀vs H Q E,sp vs H Q E->vs.length=ps.length)
  (z:∀(cdv:Value)(A:Around)(outer:List Env)(s:Shared)(H:Hp)(vs:List V)(Q:VK)(E:XK),Ct k (A.deeper (envOfC qual (Ak st) s.heap.objs.size f cdv))->sp vs H Q E ->
   ∃t,PSs (Nf CX0 P w K mg base N qual (Ak st) f cdv A outer s H E).nox (B0 st) t/\t {nx:=λ_ H'=>Q .non H',rt:=Q} (start N vs) H):Ca P w K mg base CX0 (k+1) f fd ps sp:=by
 obtain⟨oc,od,kV,doc,pm,an,cdv,ct,osl,rfl,lk,a1⟩:=F.ex;refine Af6 lk a1 S len λA outer s H vs Q E hr a2=>?_
 obtain⟨t,h,q⟩:=z cdv A outer s H vs Q E hr a2;exact⟨t,h.nox,q⟩
theorem Fun.binds{qual:Str}(F:Fun K x qual st f fd)
  (h:∀(kV doc pm:Value)(an:Option Addr)(cdv ct:Value)(us:List Value),us.length=ps.length->bindArgs (fnOf x qual (Cb st) (B0 st) (Ak st) .none kV doc pm an cdv ct) ⟨us,[]⟩=pure (ps.zip us)):Dh K fd ps []:=by
 obtain⟨oc,od,kV,doc,pm,an,cdv,ct,osl,rfl,lk,z⟩:=F.ex;exact .all (h kV doc pm an cdv ct)
theorem B7{qual:Str}{oc:Value}{od an:Option Addr}{osl:Array (Option Value)}{kV doc pm cdv ct:Value}(l:K.lookup f=some ⟨oc,od,.func (fnOf x qual (Cb st) (B0 st) (Ak st) .none kV doc pm an cdv ct),osl⟩)
  (c:codeIn K cdv qual=true) (k:keepIn K (.ref f)=true):Fun K x qual st f (fnOf x qual (Cb st) (B0 st) (Ak st) .none kV doc pm an cdv ct):=⟨⟨oc,od,kV,doc,pm,an,cdv,ct,osl,Z,l,c⟩,k⟩
theorem G6(h:n<=1000):n<sizeLine:=vB h (by decide)
theorem pv(i:Nat)(hN:X.N[i]?=some x:=by rfl)(hv:Vis X.env.scope x:=by first|exact Or.inl rfl|exact Or.inr (Or.inl rfl)|exact Or.inr (Or.inr rfl))(hd:(x==("__debug__": Str))=false:=by decide)
  (z:(x==("__classdict__": Str))=false:=by decide):PE X (.Name x pos) (A5 i):=AfM hN hv hd z
theorem Ez{A B:Prop}(h:B):if false=true then A else B:=by
 rw[if_neg qc];exact h
theorem C8{A B:Prop}(h:A):if true=true then A else B:=by
 rw[if_pos rfl];exact h
theorem A2{c A B:Prop} [Decidable c] (h1:c->A) (h2:¬c->B):if c then A else B:=by
 by_cases h:c
 ·rw[if_pos h]
  exact h1 h
 ·rw[if_neg h]
  exact h2 h
def Same(H H':Hp):Prop:=∀b o,H b=some o->H' b=some o
theorem Same.refl(H:Hp):Same H H:=λ_ _ h=>h
theorem Same.trans{H1:Hp}(a:Same H H1)(b:Same H1 H2):Same H H2:=λc o h=>b c o (a c o h)
theorem Same.free(e:Same H H'){l:Addr}(h:H' l=Option.none):H l=Option.none:=by
 cases q:H l with
 |none=>rfl
 |some o=>
  rw[e l o q]at h;cases h
theorem Same.seq(e:Same H H')(h:SqL K H a xs):SqL K H' a xs:=by
 rcases h with(h|⟨o,h⟩)|h
 ·exact .inl (.inl (e _ _ h))
 ·exact .inl (.inr ⟨o,e _ _ h⟩)
 ·exact .inr h
theorem AaW{R:Result->Shared->Prop}{XE:Value->Shared->Prop}(I:Nat->Shared->Prop)
  (a9:∀n s,I n s->wpAny (model prog w) A (pyNext it) (λr a2=>match r with
   |none=>R (.ok .next) a2
   |some v=>wpAny (model prog w) A (letOwnedTupleGo z it v) (λ_ s₀=>wpAny (model prog w) A (assign z env v) (λ_ a7=>
     wpAny (model prog w) A (forIn ifs true λc r=>if r=true then do let ok <-isTrue c env (eval c env);pure (ForInStep.yield ok) else pure (ForInStep.yield r)) (λok a1=>
      if ok=true then wpAny (model prog w) A (eval elt env) (λx a6=>
       wpAny (model prog w) A (call (.builtin "list.append") [a8,x]) (λ_ a5=>∃m,m<n/\I m a5) XE a6) XE a1
      else ∃m,m<n/\I m a1) XE a7) XE s₀) XE a2) XE s)
  (hx:∀e s,XE e s->notedBy (model prog w) A env (λe s=>R (.error e) s) e s)
  (n:Nat) (h:I n s) :
  codeAny (model prog w) A (.compLoop (.ListComp elt [⟨z,iter,ifs,0⟩] scope pos) 0 it a8 env) R s:=by
 refine codeAny_loop rfl I (λn s hI=>?_) n h;show wpAny _ A ((compTurn (.ListComp elt [⟨z,iter,ifs,0⟩] scope pos) 0 it a8 env).onRaise (λx=>do noteFrame x env;theTreesLotGoes x)) _ _ s;refine wpAny_noted ?_;rw[compTurn_list];refine rY (wpAny_standAt (rY (vV (a9 n s hI) (λr a2 a3=>?_) hx)));cases r with
 |none=>exact rZ a3
 |some v=>
  refine rY (vV a3 (λ_ s₀ h₀=>?_) hx);refine rY (vV h₀ (λ_ a7 b2=>rY (vV b2 (λok a1 a4=>?_) hx)) hx);cases ok with
  |false=>exact rZ ⟨rfl,a4⟩
  |true=>
   exact rY (rY (vV a4 (λx a6 b1=>rY (vV b1 (λ_ a5 b3=>rZ (rZ ⟨Z,b3⟩)) hx)) hx))
theorem P9(hf:∀y∈scope.names,y.2=.free->∃c,env.cells.lookup y.1=some c) :
  ∃cl,closureFor scope env=pure cl/\(∀x c,cl.lookup x=some c->env.cells.lookup x=some c)/\∀x,(x,NameKind.free)∈scope.names->∃c,cl.lookup x=some c:=by
 have go:∀(l:List (Str×NameKind))(a1:List (Str×Addr)),(∀y∈l,y.2=.free->∃c,env.cells.lookup y.1=some c)->(∀x c,a1.lookup x=some c->env.cells.lookup x=some c) ->
   ∃cl:List (Str×Addr),(forIn l a1 (λx(r:List (Str×Addr))=>match x with|(name,kind)=>if (kind==NameKind.free)=true then do let a <-cellOf env name;pure (ForInStep.yield ((name,a)::r)) else pure (ForInStep.yield r)):Sem (List (Str×Addr)))=pure cl /\
    (∀x c,cl.lookup x=some c->env.cells.lookup x=some c)/\(∀x,(x,NameKind.free)∈l->∃c,cl.lookup x=some c)/\∀x c,a1.lookup x=some c->∃c',cl.lookup x=some c':=by
  intro l
  induction l with
  |nil=>intro a1 _ ha;exact⟨a1,rfl,ha,λx h=>absurd h (by simp),λx c h=>⟨c,h⟩⟩
  |cons y r ih=>
   intro a1 hl ha;obtain⟨name,kind⟩:=y
   by_cases hk:kind=.free
   ·subst hk
    obtain⟨c,hc⟩:=hl (name,.free) uF rfl
    have a2:∀x c',((name,c)::a1).lookup x=some c'->env.cells.lookup x=some c':=λx c' h=>by
     rw[vU]at h;cases e:x==name with
     |true=>rw[e]at h;cases h;rw[eq_of_beq e];exact hc
     |false=>rw[e]at h;exact ha x c' h
    obtain⟨cl,e,h1,h2,h3⟩:=ih ((name,c)::a1) (λy hy=>hl y (uG _ hy)) a2;refine⟨cl,?_,h1,λx hx=>?_,λx c' h=>?_⟩
    ·rw[List.forIn_cons,<-e]
     have ec:cellOf env name=pure c:=by unfold cellOf;rw[hc]
     show(if (NameKind.free==NameKind.free)=true then _ else _)>>=_=_
     rw[if_pos (by rfl),ec];rfl
    ·rcases vJ.mp hx with z|z
     ·cases z
      exact h3 name c (by rw[vU];simp)
     ·exact h2 x z
    ·cases e:x==name with
     |true=>exact h3 x c (by rw[vU,e])
     |false=>exact h3 x c' (by rw[vU,e];exact h)
   ·have hb:(kind==NameKind.free)=false:=by simpa using hk
    obtain⟨cl,e,h1,h2,h3⟩:=ih a1 (λy hy=>hl y (uG _ hy)) ha;refine⟨cl,?_,h1,λx hx=>?_,h3⟩
    ·rw[List.forIn_cons,<-e]
     show(if (kind==NameKind.free)=true then _ else _)>>=_=_
     rw[if_neg (by rw[hb];decide)];rfl
    ·rcases vJ.mp hx with z|z
     ·cases z;exact absurd rfl hk
     ·exact h2 x z
 obtain⟨cl,e,h1,h2,_⟩:=go scope.names [] hf (λx c h=>by simp at h);refine⟨cl,?_,h1,h2⟩;unfold closureFor;show(forIn scope.names [] _>>=λcs=>pure cs)=_;refine Eq.trans (congrArg (λt=>t>>=λcs=>pure cs) e) ?_;rfl
theorem Hw{env:Env}:∀{names:List (Str×NameKind)}{x:Str}{z:NameKind},
  (names.map λ(n,k)=>if (k==NameKind.free&&env.scope.kind==.function&&env.kindOf n==some .cell) then(n,NameKind.cell) else(n,k)).lookup x=some z ->
  ∃k,names.lookup x=some k/\(z=k\/(k=.free/\z=.cell))
 |[],_,_,h=>by simp at h
 | (n,k)::r,x,z,h=>by
  have ih:=@Hw env r x z;have h:List.lookup x ((if (k==NameKind.free&&env.scope.kind==.function&&env.kindOf n==some .cell)=true then(n,NameKind.cell) else(n,k))::r.map λ(n,k)=>if (k==NameKind.free&&env.scope.kind==.function&&env.kindOf n==some .cell) then(n,NameKind.cell) else(n,k))=some z:=h
  by_cases hc:(k==NameKind.free&&env.scope.kind==.function&&env.kindOf n==some .cell)=true
  ·rw[if_pos hc,vU]at h
   rw[vU];cases e:x==n with
   |true=>
    rw[e]at h;cases h
    refine⟨k,Z,.inr ⟨?_,Z⟩⟩;simp only[Bool.and_eq_true,beq_iff_eq]at hc;exact hc.1.1
   |false=>rw[e]at h;exact ih h
  ·rw[if_neg hc,vU]at h
   rw[vU];cases e:x==n with
   |true=>rw[e]at h;cases h;exact⟨k,rfl,.inl rfl⟩
   |false=>rw[e]at h;exact ih h
def E7(X:Cx)(s2:Shared)(H2:Hp)(fp:List Addr)(N:List Str)(scope:Scope)(cl:List (Str×Addr))(C:Addr):Cx where
 prog:=X.prog
 w:=X.w
 K:=X.K
 mg:=X.mg
 base:=X.base
 A:=X.A
 N:=N
 s₀:=s2
 H₀:=H2
 env:=compEnvC scope cl C X.env
 outer:=X.stack
 stack:=X.stack
 ex:=fp
 fn:=λ_=>false
 calm:=X.calm
 pn:=[]
 xe:=λ_ _=>False
def Ph(k:Nat)(g:TG):Prop:=∀x σ H Q,g x σ H Q->g x σ H λσ2 H2=>(∀i,k<=i->σ2[i]?=σ[i]?)/\Q σ2 H2
theorem Bg(h:i<k):Ph k (Bq i):=λx σ H Q q=>⟨λj z=>by rw[vN (by omega)],q⟩
theorem Zy{i j:Nat}(hi:i<k)(hj:j<k):Ph k (Abz K n (Pk (Bq i) (Pk (Bq j) Acl))):=by
 rintro x σ H Q ⟨a,xs,e1,hq,hl,v,r,e2,v',r',e3,z,q⟩;exact⟨a,xs,e1,hq,hl,v,r,e2,v',r',e3,z,λl hl=>by rw[vN (by omega),vN (by omega)],q⟩
def Wg(X:Cx)(ifs:List Expr)(t:TT):Prop:=
 ∀(pins:List (Addr×Obj))(s:Shared)(σ:St)(H:Hp)(Q:Bool->Hp->Prop),Inv X pins σ H s->t σ H Q ->
  wpAny (model X.prog X.w) X.A (forIn ifs true λc r=>if r=true then do let ok <-isTrue c X.env (eval c X.env);pure (ForInStep.yield ok) else pure (ForInStep.yield r)) (TP X pins σ Q) X.xe s
def Dy:TT:=λ_ H Q=>Q true H
theorem Ep:Wg X [] Dy:=λpins s σ H Q I h=>wpAny_tests_nil ⟨H,I,h⟩
theorem Dk{t:TT}(h:PT X c t):Wg X [c] t:=λpins s σ H Q I q=>wpAny_tests_one (h pins s σ H Q I q)
def Lj(k:Nat)(js:List Nat)(σ:St):St:=List.replicate k none++js.map λj=>(σ[j]?).join
def AdO(k:Nat)(js:List Nat)(wi:TI)(g:TG)(tc:TT)(te:TE):TE:=λσ H Q=>wi σ H λJ H1=>∃W:Nat->Nat->List V->Hp->Prop,(∃m,W 0 m [] H1)/\∀i m ys H,W i m ys H ->
 (J.stop i H/\∀D,H D=none->Q (.ref D) (upd H D (.lst ys))) \/
 (J.go i H/\ys.length<sizeLine/\∀x H',J.yld i H x H'->g x (Lj k js σ) H' λσ2 H2=>tc σ2 H2 λb H3=>if b=true then te σ2 H3 λy H4=>∃m',m'<m/\W (i+1) m' (ys++[y]) H4 else ∃m',m'<m/\W (i+1) m' ys H3)
theorem Un.later{H1:Hp}(u:Un fs ex H H1 h h1)(ok:HOk P w H h)(ag:∀b,b<h.objs.size->H2 b=H1 b)(k:∀b o,b<h.objs.size->h1.get? b=some o->h2.get? b=some o):Un fs ex H H2 h h2 where
 keep:=λb o e n hb z=>k b o (Heap.lt_size e) (u.keep b o e n hb z)
 slot:=λb o e n hb z=>let ⟨sl,q⟩:=u.slot b o e n hb z;⟨sl,k b _ (Heap.lt_size e) q⟩
 free:=λb o e n z=>by rw[ag b (Heap.lt_size e)];exact u.free b o e n z
 there:=λb o e z=>let ⟨o',q⟩:=u.there b o e z;⟨o',k b _ (Heap.lt_size e) q⟩
 tups:=λb xs e=>by rw[ag b (ok.lt e)];exact u.tups b xs e
 frzs:=λb o x e=>by rw[ag b (ok.lt e)];exact u.frzs b o x e
 tbls:=λb ps e=>by rw[ag b (ok.lt e)];exact u.tbls b ps e
section
variable{elt tg iter:Expr}{ifs:List Expr}{scope:Scope}{wi:TI}{g:TG}{tc:TT}
structure M6(X:Cx)(scope:Scope)(own:List Str)(fr:List (Str×Nat)):Prop where
 kind:scope.kind=.function
 cell:∀y∈scope.names,y.2≠.cell
 loc:∀y∈scope.names,y.2=.local->scope.names.lookup y.1=some .local
 free:∀y∈scope.names,y.2=.free->X.env.kindOf y.1=some .cell
 fr:∀p∈fr,scope.names.lookup p.1=some .free/\X.N[p.2]?=some p.1
def Xm(sc scope:Scope)(N:List Str)(fr:List (Str×Nat)):Bool:=
 (decide (scope.kind=.function)&&scope.names.all (λy=>decide (y.2≠.cell))&&scope.names.all (λy=>decide (y.2=.local->scope.names.lookup y.1=some .local)) &&
  scope.names.all (λy=>decide (y.2=.free->sc.names.lookup y.1=some .cell))&&fr.all λp=>decide (scope.names.lookup p.1=some .free)&&decide (N[p.2]?=some p.1))
theorem Bz(sc:Scope)(N:List Str)(h:Xm sc scope N fr=true)(hs:X.env.scope=sc:=by rfl)(z:X.N=N:=by rfl):M6 X scope own fr:=by
 subst hs z;unfold Xm at h;simp only[Bool.and_eq_true,all_eq_true,decide_eq_true_eq]at h;obtain⟨⟨⟨⟨h1,h2⟩,h3⟩,h4⟩,h5⟩:=h;exact⟨h1,h2,h3,h4,h5⟩
theorem Rg{tn:Nat->Heap->Prop}{E:Value->Shared->Prop}
  {W:Nat->Nat->List V->Hp->Prop} {RR:Value->Addr->Result->Shared->Prop} {Fin:Addr->List V->Hp->Prop} (XE:Addr->Value->Shared->Prop)
  (hc:X.calm=true) (S:M6 X scope own fr) (a6:∀x c,cl.lookup x=some c->X.env.cells.lookup x=some c) (e8:∀x,(x,NameKind.free)∈scope.names->∃c,cl.lookup x=some c)
  (hg:∀C,PG ((E7 X s2 H2 fp (own++fr.map (·.1)) scope cl C).wish (XE C)) tg g) (hk:Ph own.length g)
  (hi:∀C,Wg ((E7 X s2 H2 fp (own++fr.map (·.1)) scope cl C).wish (XE C)) ifs tc) (he:∀C,PE ((E7 X s2 H2 fp (own++fr.map (·.1)) scope cl C).wish (XE C)) elt te)
  (I2:Inv X pins σ H2 s2) (T:Ng X.prog X.w X.K tg J fp it tn) (c9:tn 0 s2.heap) (f2:∀b∈fp,J5 X pins H2 b) (w0:W 0 m0 [] H2)
  (f4:∀i m ys H,W i m ys H ->
   (J.stop i H/\∀D,H D=none->Fin D ys H) \/
   (J.go i H/\ys.length<sizeLine/\∀x H',J.yld i H x H'->g x (Lj own.length (fr.map (·.2)) σ) H' λf3 H2=>tc f3 H2 λb H3=>if b=true then te f3 H3 λy H4=>∃m',m'<m/\W (i+1) m' (ys++[y]) H4 else ∃m',m'<m/\W (i+1) m' ys H3))
  (h7:∀D C oC mC s4 H4 ys,Fin D ys H4->Inv X (pins++[(C,oC)]) σ (upd H4 D (.lst ys)) s4->s4.heap.Ns C mC->J5 X pins (upd H4 D (.lst ys)) C->RR (.ref D) C (.ok .next) s4)
  (hx:∀D C e s,s2.heap.objs.size<=C->XE C e s->notedBy (model X.prog X.w) X.A (compEnvC scope cl C X.env) (λe s=>RR (.ref D) C (.error e) s) e s) :
  wpAny (model X.prog X.w) X.A (newList []) (λd9 a7=>wpAny (model X.prog X.w) X.A (newFunctionEnv scope X.env.globals cl [] X.env.qual none .none (some X.env)) (λc3 g1=>
   codeAny (model X.prog X.w) X.A (.compStart (.ListComp elt [⟨tg,iter,ifs,0⟩] scope pos) 0 (.ref it) d9 {c3 with scope:=relabel scope X.env}) (RR d9 c3.locals) g1) E a7) E s2:=by
 refine wpAny_newObj_type (wpAny_newFunctionEnv S.cell (by intro y hy;simp at hy) (λa9 a5 a2=>?_) S.kind);dsimp only at a5 a2 ⊢;generalize c7:s2.heap.push {cls:=.type "list",dict:=none,data:=.seq ([]:List Value).toArray}=Hh at a5 a2 ⊢;have hC:Hh.objs.size=s2.heap.objs.size+1:=by rw[<-c7,Heap.size_push]
 have b3:s2.heap.objs.size≠Hh.objs.size:=by rw[hC];exact vC (lt_succ_self _)
 have a3:s2.heap.objs.size<=Hh.objs.size:=by rw[hC];exact le_succ _
 have b2:∀b o,s2.heap.get? b=some o->a9.get? b=some o:=λb o e=>a2.extBut b o (vC (vA (Heap.lt_size e) a3)) (Heap.get?_push_of_some _ (c7▸Heap.get?_push_of_some _ e))
 have g0:a9.get? s2.heap.objs.size=some (LCg.lst []):=a2.extBut _ _ b3 (Heap.get?_push_of_some _ (c7▸Heap.get?_push_size _ rfl))
 let Y:Cx:=(E7 X s2 H2 fp (own++fr.map (·.1)) scope cl Hh.objs.size).wish (XE Hh.objs.size)
 let D:=s2.heap.objs.size
 let σY:St:=Lj own.length (fr.map (·.2)) σ
 have b6:∀b∈fp,b<s2.heap.objs.size:=λb hb=>let ⟨o,e,_⟩:=T.obj 0 _ c9 b hb;Heap.lt_size e
 have e7:∀b,s2.heap.objs.size<=b->b∉Y.fs:=λb hb z=>by
  rcases vJ.mp (I2.stkSub b z) with e|e
  ·rw[e]at hb;exact absurd I2.lt (not_lt.mpr hb)
  ·exact I2.nofs hb e
 have h8:∀x,(Y.env.kindOf x=some .cell\/Y.env.kindOf x=some .free)->scope.names.lookup x=some .free:=λx hx=>by
  have q:∃k',(relabel scope X.env).names.lookup x=some k'/\(k'=.cell\/k'=.free):=by
   rcases hx with z|z
   ·exact⟨_,z,.inl rfl⟩
   ·exact⟨_,z,.inr rfl⟩
  obtain⟨k',e,g7⟩:=q;obtain⟨k,e',h'⟩:=Hw e;have nc:k≠.cell:=S.cell (x,k) (PySem.mem_of_lookup e');rcases h' with z|⟨z,_⟩
  ·subst z
   rcases g7 with z|z
   ·exact absurd z nc
   ·rw[z]at e';exact e'
  ·rw[z]at e';exact e'
 have e9:Y.Ok:=by
  refine⟨I2.ok.mod,S.kind,I2.ok.glob,I2.ok.blt,a3,λx y c h1 h2=>I2.ok.inj x y c (a6 x c h1) (a6 y c h2),λx hx=>e8 x (PySem.mem_of_lookup (h8 x hx)),(λx c z _=>nomatch z),I2.ok.hd,I2.ok.frames,.inl rfl,λb hb=>⟨?_,λx c e=>(f2 b hb).2.2.2.2.1 x c (a6 x c e)⟩,
   λb o e=>I2.bs b o e,uY I2.ok.bsz I2.sz,λb o e hb=>?_,λb hb z=>?_,I2.stack,I2.stkFree⟩
  ·exact vC (vA (b6 b hb) a3)
  ·rcases(f2 b hb).2.2.2.1 with z|z
   ·exact I2.ok.noex b o e z
   ·exact absurd (vA (Heap.lt_size e) (uY I2.ok.bsz z)) (lt_irrefl _)
  ·rcases vJ.mp (I2.stkSub b z) with e|e
   ·exact(f2 b hb).2.1 e
   ·exact(f2 b hb).2.2.1 e
 have c6:σY.length=Y.N.length:=by
  show(Lj own.length (fr.map (·.2)) σ).length=(own++fr.map (·.1)).length
  unfold Lj;rw[uC,uC,uS,uB,uB,uB]
 have d4:∀(h:Heap)(m:Str->Option Value),(∀c v,(∃x,X.env.cells.lookup x=some c)->s2.heap.IsCell c v->h.IsCell c v)->∀(i:Nat)(x:Str)(v:V),Y.N[i]?=some x->σY[i]?=some (some v)->Vis Y.env.scope x->∃u,A7 v u/\Aeo Y.env h m x u:=by
  intro h m b9 i x v hN a1 hv;have hN:(own++fr.map (·.1))[i]?=some x:=hN;have a1:(List.replicate own.length none++(fr.map (·.2)).map λj=>(σ[j]?).join)[i]?=some (some v):=a1
  by_cases b7:i<own.length
  ·rw[uT (by simpa using b7),getElem?_replicate,if_pos b7]at a1
   cases a1
  ·rw[uU (by simpa using b7)]at a1
   rw[uU (by simpa using b7)]at hN;rw[uS]at a1;rw[uH]at hN;rw[uH,uH]at a1;cases ep:fr[i-own.length]? with
   |none=>rw[ep]at hN;cases hN
   |some p=>
    rw[ep]at hN a1;cases hN
    have a1:(σ[p.2]?).join=some v:=Option.some.inj a1;obtain⟨a8,g8⟩:=S.fr p (uO ep);have e0:X.env.kindOf p.1=some .cell:=S.free (p.1,.free) (PySem.mem_of_lookup a8) rfl;obtain⟨m',i6,h6⟩:=I2.loc
    have f5:σ[p.2]?=some (some v):=by
     cases e:σ[p.2]? with
     |none=>rw[e]at a1;cases a1
     |some o=>rw[e]at a1;cases o with
      |none=>cases a1
      |some v'=>cases a1;rfl
    obtain⟨u,r,l⟩:=h6 p.2 p.1 v g8 f5 (.inr (.inl e0));refine⟨u,r,?_⟩;rcases l with⟨l,_⟩|⟨_,c,e4,d6⟩
    ·rw[e0]at l;cases l
    ·obtain⟨c',f0⟩:=e8 p.1 (PySem.mem_of_lookup a8)
     have e2:=a6 _ _ f0;rw[e4]at e2;cases e2
     refine .inr ⟨?_,c,f0,b9 c _ ⟨_,e4⟩ d6⟩;rcases hv with z|z|z
     ·obtain⟨k,e1,e3⟩:=Hw z
      rw[a8]at e1;cases e1
      rcases e3 with e3|⟨_,e3⟩
      ·exact .inr (by cases e3)
      ·exact .inr (by cases e3)
     ·exact .inl z
     ·exact .inr z
 have IY:Inv Y [(D,LCg.lst [])] σY H2 {s2 with heap:=a9,toks:=s2.toks+([]:List (Str×Value)).length}:=by
  refine⟨e9,Z,I2.bare,Un.kept b2,⟨_,a5,d4 _ _ λc v _ ⟨o,e,d⟩=>⟨o,b2 c o e,d⟩⟩,λx c e=>?_,I2.hok.fresh a3,λx c e=>I2.freeC x c (a6 x c e),λp hp=>?_,I2.hok.kept b2,c6⟩
  ·obtain⟨v,o,e1,d⟩:=I2.cell x c (a6 x c e)
   exact⟨v,o,b2 c o e1,d⟩
  ·have hp:p∈[(D,LCg.lst [])]:=by simpa [Y,E7] using hp
   rw[mS hp];exact⟨g0,I2.hok.fresh (uZ _),b3,e7 _ (uZ _),λv z=>nomatch z⟩
 have b4:∀{us:List Value}{H':Hp},(∀b∈fp,H' b=none)->∀b∈fp,J5 Y [(D,LCg.lst us)] H' b:=λ{us H'}hn b hb=>by
  refine⟨hn b hb,vC (vA (b6 b hb) a3),λz=>?_,.inl hb,λx c e=>(f2 b hb).2.2.2.2.1 x c (a6 x c e),λp hp=>?_⟩
  ·exact e9.exfs b hb z
  ·have hp:p∈[(D,LCg.lst us)]:=by simpa [Y,E7] using hp
   rw[mS hp];exact λz=>absurd (b6 b hb) (by rw[<-z];exact lt_irrefl _)
 have c4:∀a7:Shared,a7 = {s2 with heap:=a9,toks:=s2.toks+([]:List (Str×Value)).length} ->
   codeAny (model X.prog X.w) X.A (.compLoop (.ListComp elt [⟨tg,iter,ifs,0⟩] scope pos) 0 (.ref it) (.ref s2.heap.objs.size) (compEnvC scope cl Hh.objs.size X.env))
    (RR (.ref s2.heap.objs.size) Hh.objs.size) a7:=by
  rintro a7 rfl
  refine AaW (λn s'=>∃i ys us H',Inv Y [(D,LCg.lst us)] σY H' s'/\A8 ys us/\ys.length<=sizeLine/\tn i s'.heap/\(∀b∈fp,H' b=none)/\W i n ys H') ?_ (λe s=>hx _ _ e s a3) m0
   ⟨0,[],[],H2,IY,.nil,vY _,T.keep _ _ _ c9 λb _ o e=>b2 b o e,λb hb=>(f2 b hb).1,w0⟩
  rintro n s3 ⟨i,ys,us,H3,I3,rv,hsz,d8,e6,w3⟩;rcases f4 i n ys H3 w3 with⟨stop,qn⟩|⟨go,i5,step⟩
  ·refine thn (T.done Y rfl rfl rfl hc i _ s3 σY H3 _ I3 (b4 e6) d8 stop) λr s4 ⟨hr,I4⟩=>?_
   subst hr;have a4:=I4.pin (D,LCg.lst us) (uP _ (vD.mpr rfl));obtain⟨mC,f1,_⟩:=I4.loc;obtain⟨oC,i4,h9,g5,g4,i0⟩:=id f1;have d3:H3 D=none:=a4.2.1;have ag:∀b,b<s2.heap.objs.size->(upd H3 D (.lst ys)) b=H3 b:=λb hb=>upd_ne (vC hb)
   have f7:HOk X.prog X.w (upd H3 D (.lst ys)) s4.heap:=λa o e=>by
    by_cases ha:a=D
    ·subst ha
     rw[qa]at e;cases e
     exact⟨hsz,us,_,rv,a4.1⟩
    ·rw[upd_ne ha]at e
     refine(I4.hok a o e).stay (λ_ _ _ q=>q) (λb q=>?_) (λb xs q=>?_)
     ·rw[upd_ne (ne_of_none q d3)];exact q
     ·rw[upd_ne (ne_of_none q d3)];exact q
   have IX:Inv X pins σ (upd H3 D (.lst ys)) s4:=I2.call' (ch:=fp) I4.os (I4.base.later I2.hok ag λb o _ e=>e) f7 I4.bare λb hb=>⟨(f2 b hb).2.2.2.1,(f2 b hb).2.1,(f2 b hb).2.2.2.2.1,(f2 b hb).2.2.2.2.2⟩
   have e5:(upd H3 D (.lst ys)) Hh.objs.size=none:=by rw[upd_ne (Ne.symm b3)];exact I4.free
   have fC:J5 X pins (upd H3 D (.lst ys)) Hh.objs.size:=I2.fpOk a3 e5;refine h7 D Hh.objs.size oC mC s4 H3 ys (qn D d3) (IX.pins_of λp hp=>?_) f1 fC;rcases uW.mp hp with z|z
   ·exact IX.pin p (uP _ z)
   ·rw[mS z]
    exact⟨g5,e5,fC.2.1,fC.2.2.1,λv z=>by rw[g4]at z;cases z⟩
  ·refine thn (T.item Y rfl rfl rfl hc i _ s3 σY H3 _ I3 (b4 e6) d8 go) λr s4 ⟨u,hr,h4⟩=>?_
   subst hr;refine thn h4 λ_ s5 ⟨x,H5,I5,r5,y5,c8,g9⟩=>?_
   have g6:=I5.pinned (b4 g9) (T.obj _ _ c8);refine thn (hg _ _ s5 σY H5 x u _ g6 r5 (hk _ _ _ _ (step x H5 y5))) λ_ s6 ⟨b1,H6,I6,f6,q6⟩=>?_
   refine thn (hi _ _ s6 b1 H6 _ I6 q6) λb s7 ⟨H7,I7,q7⟩=>?_
   have c5:∀{s8:Shared}{H8:Hp}{d2:List Value},Inv Y ([(D,LCg.lst d2)]++Hb fp s5.heap) b1 H8 s8->Inv Y [(D,LCg.lst d2)] σY H8 s8/\tn (i+1) s8.heap/\∀b∈fp,H8 b=none:=λ{s8 H8 d2}I8=>by
    refine⟨I8.unpinned.weak (c6.trans I8.len.symm) λj v hj=>?_,T.keep _ _ _ c8 λb hb o e=>(I8.pin (b,o) (uP _ (uP _ (Jz hb e)))).1,λb hb=>?_⟩
    ·have h5:own.length<=j:=by
      rcases lt_or_ge j own.length with z|z
      ·have hj:(List.replicate own.length none++(fr.map (·.2)).map λj=>(σ[j]?).join)[j]?=some (some v):=hj
       rw[uT (by simpa using z),getElem?_replicate,if_pos z]at hj;cases hj
      ·exact z
     rw[f6 j h5];exact hj
    ·obtain⟨o,e,d⟩:=T.obj _ _ c8 b hb
     exact(I8.pin (b,o) (uP _ (uP _ (Jz hb e)))).2.1
   cases b with
   |false=>
    rw[if_neg qc]at q7 ⊢;obtain⟨m',hm,w7⟩:=q7;obtain⟨I8,t8,f8⟩:=c5 I7;exact⟨m',hm,i+1,ys,us,H7,I8,rv,hsz,t8,f8,w7⟩
   |true=>
    rw[if_pos rfl]at q7 ⊢;refine thn (he _ _ s7 b1 H7 _ I7 q7) λvy s8 ⟨y,H8,I8,ry,m',hm,w8⟩=>?_
    have a4:=I8.pin (D,LCg.lst us) (uP _ (vX _ (vD.mpr rfl)));refine append_at (hsz:=by rw[uM,<-rv.length];exact hsz) a4.1 λb5 d5 d7=>?_
    have b8:b5.get? D=some (LCg.lst (us++[vy])):=d7.trans (congrArg some (LCg.lst_snoc us vy));have Ia:Inv Y (Hb fp s5.heap) b1 H8 s8:=I8.pins_of λp hp=>I8.pin p (uP _ (uP _ hp))
    have Ib:Inv Y (Hb fp s5.heap) b1 H8 {s8 with heap:=b5}:=Ia.turned (it:=D) (t':=s8.toks) (λb o hb e=>d5.extBut b o hb e) a4.2.1 b3 (.inr (uZ _))
     (λx c e z=>by
      obtain⟨v,q⟩:=I2.cell x c (a6 x c e);exact absurd q.lt (by rw[z];exact lt_irrefl _))
     (λp hp=>by
      have hp:p∈Hb fp s5.heap:=by simpa [Y,E7] using hp
      exact λz=>absurd (b6 p.1 (R0 hp).1) (by rw[z];exact lt_irrefl _))
    have Ic:Inv Y ([(D,LCg.lst (us++[vy]))]++Hb fp s5.heap) b1 H8 {s8 with heap:=b5}:=Ib.pins_of λp hp=>by
     rcases uW.mp hp with z|z
     ·rw[mS z]
      exact⟨b8,a4.2.1,b3,e7 _ (uZ _),λv z=>nomatch z⟩
     ·exact Ib.pin p (uP _ z)
    obtain⟨I9,t9,f9⟩:=c5 Ic;exact⟨m',hm,i+1,ys++[y],us++[vy],H8,I9,rv.append (.cons ry .nil),by rw[uC,uD];omega,t9,f9,w8⟩
 exact codeAny_compStart_list (c4 _ rfl) (T.self X.A 0 _ _ _ (T.keep _ _ _ c9 λb _ o e=>b2 b o e) (c4 _ rfl))
theorem Qc(S:M6 X scope own fr)(I:Inv X pins σ H s):∀y∈scope.names,y.2=.free->∃c,X.env.cells.lookup y.1=some c:=
 λy z e=>I.ok.has y.1 (.inl (S.free y z e))
theorem Dc(own:List Str)(fr:List (Str×Nat))(hc:X.calm=true)(S:M6 X scope own fr)(a6:PI X tg iter wi)
  (hg:∀s2 H2 fp cl C,PG (E7 X s2 H2 fp (own++fr.map (·.1)) scope cl C) tg g) (hk:Ph own.length g)
  (hi:∀s2 H2 fp cl C,Wg (E7 X s2 H2 fp (own++fr.map (·.1)) scope cl C) ifs tc) (he:∀s2 H2 fp cl C,PE (E7 X s2 H2 fp (own++fr.map (·.1)) scope cl C) elt te)
  (hs:∀x,foldedSetIterable iter X.env x=pure x:=by intro _;rfl) :
  PE X (.ListComp elt [⟨tg,iter,ifs,0⟩] scope pos) (AdO own.length (fr.map (·.2)) wi g tc te):=by
 intro pins s σ H Q I h;obtain⟨cl,a1,a9,a5⟩:=P9 (Qc S I);rw[eval_ListComp];refine wpAny_comprehension_free (use:=none) rfl hs a1 S.kind S.loc (thn (a6 pins s σ H _ I h) λv s1 h1=>thn h1 λb1 s2 h2=>?_);obtain⟨it,fp,tn,J,H2,e,I2,T,a7,f2,W,⟨m0,w0⟩,a2⟩:=h2;subst e;refine Rg (RR:=λa3 C=>compPost (model X.prog X.w) X.A X.xe none (EP X pins σ Q) a3 C) (Fin:=λD ys H=>Q (.ref D) (upd H D (.lst ys))) (λ_ _ _=>False) hc S a9 a5 (λC=>hg _ _ _ _ C) hk (λC=>hi _ _ _ _ C) (λC=>he _ _ _ _ C) I2 T a7 f2 w0 a2 ?_ (λ_ _ _ _ _ z=>z.elim);intro D C oC mC s4 H4 ys a8 IC hn fC;refine⟨mC,hn,λh' a4=>⟨.ref D,_,?_,Z,a8⟩⟩;exact IC.unpinned.turned (t':=s4.toks) (λb o hb e=>a4.extBut b o hb e) fC.1 fC.2.1 fC.2.2.2.1 fC.2.2.2.2.1 fC.2.2.2.2.2
def AcY(j k:Nat)(js:List Nat)(wi:TI)(g:TG)(tc:TT)(te:TE):TS:=λD σ H=>AdO k js wi g tc te σ H λv H'=>D.nx (σ.set j (some v)) H'
theorem Cs(own:List Str)(fr:List (Str×Nat))(hN:X.N.Nodup)(hj:X.N[j]?=some y)(hy:Loc X.env.scope y)(hc:X.calm=true)(S:M6 X scope own fr)(a9:PI X tg iter wi)
  (hg:∀s2 H2 fp cl C,PG (E7 X s2 H2 fp (own++fr.map (·.1)) scope cl C) tg g) (hk:Ph own.length g)
  (hi:∀s2 H2 fp cl C,Wg (E7 X s2 H2 fp (own++fr.map (·.1)) scope cl C) ifs tc) (he:∀s2 H2 fp cl C,PE (E7 X s2 H2 fp (own++fr.map (·.1)) scope cl C) elt te)
  (a5:swapsWith (.ListComp elt [⟨tg,iter,ifs,0⟩] scope pos) (some (.Name y py)) a1.line X.env=pure true:=by rfl)
  (hs:∀x,foldedSetIterable iter X.env x=pure x:=by intro _;rfl)
  (hf:X.fn y=true\/X.env.scope.names.lookup y=some .local:=by first|exact .inl rfl|exact .inr rfl|assumption) :
  PS X (.Assign [.Name y py] (.ListComp elt [⟨tg,iter,ifs,0⟩] scope pos) a1) (AcY j own.length (fr.map (·.2)) wi g tc te):=by
 intro pins s σ H Dn I h;obtain⟨cl,a2,b2,a8⟩:=P9 (Qc S I);rw[exec_Assign_Name_used _ _ _ _ a5];refine rY (wpAny_standAt (rY ?_));show wpAny _ X.A (do let _ <-comprehension (.ListComp elt [⟨tg,iter,ifs,0⟩] scope pos) scope X.env _ (newList []) false (eval iter X.env) (some (assign (.Name y py) X.env))) _ _ s
 refine rY (vV (wpAny_comprehension_free (use:=some (assign (.Name y py) X.env)) (Q:=λ_ s'=>SP X pins Dn .next s') rfl hs a2 S.kind S.loc
  (thn (a9 pins s σ H _ I h) λv s1 h1=>thn h1 λb4 s2 h2=>?_)) (λ_ s' hq=>rZ (rZ hq)) λ_ _ e=>e)
 obtain⟨it,fp,tn,J,H2,e,I2,T,b1,f2,W,⟨m0,w0⟩,a3⟩:=h2;subst e;refine Rg (RR:=λa4 C=>compPost (model X.prog X.w) X.A X.xe (some (assign (.Name y py) X.env)) (λ_ s'=>SP X pins Dn .next s') a4 C) (Fin:=λD ys H=>Dn.nx (σ.set j (some (.ref D))) (upd H D (.lst ys))) (λ_ _ _=>False) hc S b2 a8 (λC=>hg _ _ _ _ C) hk (λC=>hi _ _ _ _ C) (λC=>he _ _ _ _ C) I2 T b1 f2 w0 a3 ?_ (λ_ _ _ _ _ z=>z.elim);intro D C oC mC s4 H4 ys a7 IC hn fC;show wpAny _ X.A (assign (.Name y py) X.env (.ref D)) _ _ _;refine wpAny_assign_Name (Ov (v:=.ref D) IC hN hj hy rfl (λs5 I5=>?_) hf);have pC:=I5.pin (C,oC) (uP _ (uP _ (vD.mpr rfl)));have a6:=IC.pin (C,oC) (uP _ (uP _ (vD.mpr rfl)));refine⟨mC,hn.at' λo e=>?_,λh' b3=>⟨_,_,?_,a7⟩⟩
 ·have e':=a6.1
  rw[e]at e';cases e'
  exact pC.1
 ·exact I5.unpinned.turned (t':=s5.toks) (λb o hb e=>b3.extBut b o hb e) fC.1 fC.2.1 fC.2.2.2.1 fC.2.2.2.2.1 fC.2.2.2.2.2
end
theorem AeJ{J:It}{g:TG}{tc:TT}{a4:St}{F:Addr->List V->Hp->Prop}(Pv:Nat->List V->Hp->Prop)(h0:Pv 0 [] H)(hz:xs.length<=sizeLine)
  (a5:∀i ys H,i<xs.length->Pv i ys H->J.go i H) (a6:∀ys H,Pv xs.length ys H->J.stop xs.length H)
  (hy:∀i ys H x H',Pv i ys H->J.yld i H x H'->H'=H/\xs[i]?=some x)
  (hs:∀i x ys H,xs[i]?=some x->Pv i ys H->g x a4 H λz H2=>tc z H2 λb H3=>if b=true then te z H3 λy H4=>Pv (i+1) (ys++[y]) H4 else Pv (i+1) ys H3)
  (mono:∀x σ H Q Q',(∀z H2,Q z H2->Q' z H2)->g x σ H Q->g x σ H Q')
  (a3:∀σ H Q Q',(∀b H1,Q b H1->Q' b H1)->tc σ H Q->tc σ H Q') (a2:∀σ H Q Q',(∀v H1,Q v H1->Q' v H1)->te σ H Q->te σ H Q')
  (hd:∀ys H,Pv xs.length ys H->∀D,H D=none->F D ys H) :
  ∃W:Nat->Nat->List V->Hp->Prop,(∃m,W 0 m [] H)/\∀i m ys H,W i m ys H ->
   (J.stop i H/\∀D,H D=none->F D ys H) \/
   (J.go i H/\ys.length<sizeLine/\∀x H',J.yld i H x H'->g x a4 H' λz H2=>tc z H2 λb H3=>if b=true then te z H3 λy H4=>∃m',m'<m/\W (i+1) m' (ys++[y]) H4 else ∃m',m'<m/\W (i+1) m' ys H3):=by
 refine⟨λi m ys H=>m=xs.length-i/\i<=xs.length/\ys.length<=i/\Pv i ys H,⟨xs.length,by simp,vY _,uZ _,h0⟩,?_⟩;rintro i m ys H ⟨rfl,hi,a7,p⟩
 by_cases a1:i<xs.length
 ·refine .inr ⟨a5 i ys H a1 p,by omega,λx H' y=>?_⟩
  obtain⟨e,hx⟩:=hy i ys H x H' p y;subst e;refine mono _ _ _ _ _ (λz H2 q=>a3 _ _ _ _ (λb H3 q2=>?_) q) (hs i x ys _ hx p);cases b with
  |true=>
   rw[if_pos rfl]at q2 ⊢;exact a2 _ _ _ _ (λv H4 q4=>⟨xs.length-(i+1),by omega,Z,a1,by rw[uC,uD];omega,q4⟩) q2
  |false=>
   rw[if_neg qc]at q2 ⊢;exact⟨xs.length-(i+1),by omega,Z,a1,by omega,q2⟩
 ·have e:i=xs.length:=by omega
  subst e;exact .inl ⟨a6 ys H p,hd ys H p⟩
section
variable{s:Shared}
theorem Inv.turnedL{a1:List Addr}{t':Nat}(I:Inv X pins σ H s)(hf:∀b∈a1,J5 X pins H b)(k:∀b o,b∉a1->s.heap.get? b=some o->h'.get? b=some o)
  (ag:∀b,b<s.heap.objs.size->H' b=H b) (hok:HOk X.prog X.w H' h'):Inv X pins σ H' {s with heap:=h',toks:=t' }:=by
 refine I.step (g':=s.gens) (d':=s.drawn) (ch:=a1) (λb hb=>⟨(hf b hb).2.2.2.1,(hf b hb).2.1,(hf b hb).2.2.2.2.1,(hf b hb).2.2.2.2.2⟩) (λb o _ _ hc e _=>k b o hc e) (λb o _ _ hc e _=>⟨o.slots,k b o hc e⟩)
  (λb o _ e n=>by rw[ag b (Heap.lt_size e)];exact n) (λb o hc e=>⟨o,k b o hc e⟩) (λb xs e=>by rw[ag b (I.hok.lt e)];exact e) (λb o u e=>by rw[ag b (I.hok.lt e)];exact e)
  (λb ps e=>⟨#[],by rw[ag b (I.hok.lt e),e];simp⟩) (λm hm=>?_) hok I.bare
 obtain⟨o,es,ep,ho,r⟩:=hm;exact⟨o,es,ep,k _ o (λz=>(hf _ z).2.1 rfl) ho,r⟩
theorem HOk.turned{a1:List Addr}(ok:HOk X.prog X.w H s.heap)(hf:∀b∈a1,H b=none)(k:∀b o,b∉a1->s.heap.get? b=some o->h'.get? b=some o):HOk X.prog X.w H h':=λb u e=>by
 refine(ok b u e).stay (λc v hc q=>k c v (λz=>?_) q) (λ_ q=>q) λ_ _ q=>q
 rcases hc with y|y
 ·rw[<-y,hf c z]at e;cases e
 ·rw[hf c z]at y;cases y
theorem HOk.turnedNew{z:List Addr}(ok:HOk X.prog X.w H s.heap)(hf:∀b∈z,H b=none)(k:∀b o,b∉z->s.heap.get? b=some o->h'.get? b=some o)(hT:s.heap.objs.size<=T)
  (new:B1 X.prog X.w (upd H T o) h' T o):HOk X.prog X.w (upd H T o) h':=λb u e=>by
 by_cases hb:b=T
 ·subst hb
  rw[qa]at e;cases e
  exact new
 ·rw[upd_ne hb]at e
  have hn:=ok.fresh hT;refine(HOk.turned (s:=s) ok hf k b u e).stay (λ_ _ _ q=>q) (λc q=>?_) λc xs q=>?_
  ·rw[upd_ne (ne_of_none q hn)];exact q
  ·rw[upd_ne (ne_of_none q hn)];exact q
end
def Ite(K:FA)(l:Addr):It:=
 ⟨λi H=>∃xs x,SqL K H l xs/\xs[i]?=some x,
  λi H v H'=>∃T x,v=.ref T/\H T=none/\H'=upd H T (.tup [.int i,x])/\∀xs,SqL K H l xs->xs[i]?=some x,
  λi H=>∃xs,SqL K H l xs/\xs.length<=i⟩
theorem Aar{elts:List Expr}{x1}{tp:Pos}{e it l:Addr}(a9:e≠it) :
  Ng P w K (.Tuple elts x1 tp) (Ite K l) [e,it] e (λi h=>(∃a2,IsEnum h e it i a2)/\h.IsListIter it l i) where
 mem:=by simp
 obj:=λi h ⟨⟨a2,h1⟩,h4⟩ c hc=>by
  simp only[vJ,mem_nil_iff,or_false]at hc;rcases hc with rfl|rfl
  ·exact⟨_,h1,λv z=>nomatch z⟩
  ·obtain⟨o,e,c,d⟩:=h4
   exact⟨o,e,λv z=>by rw[d]at z;cases z⟩
 keep:=λi h h' ⟨⟨a2,h1⟩,h4⟩ k=>⟨⟨a2,k _ (by simp) _ h1⟩,h4.at λo e=>k _ (by simp) o e⟩
 item:=by
  intro X hP hw hK hc i pins s σ H E I hf st hg;subst hP hw hK;obtain⟨⟨a2,h1⟩,h4⟩:=st;obtain⟨xs,x,q1,e1⟩:=hg;obtain⟨b3,a8,p1,b5⟩:=I.list q1;obtain⟨u,hu,ru⟩:=a8.get e1;refine wpAny_pyNext_enum_item h1 h4 p1.isList (x:=u) (by simpa using hu) a9 λh' a1 a3 a5 a6 a7=>?_
  refine⟨_,Z,wpAny_letOwnedTupleGo_enum (s:={s with heap:=h',toks:=s.toks+1}) a1 λa4 b1 b2=>?_⟩;have b2:Heap.SameBut e h' a4:=b2;have zl:e<s.heap.objs.size:=Heap.lt_size h1;have Tz:s.heap.objs.size≠e:=ne_of_gt zl
  have k:∀b o,b∉[e,it]->s.heap.get? b=some o->a4.get? b=some o:=λb o hb q=>by
   simp only[vJ,mem_nil_iff,or_false,not_or]at hb;exact b2.extBut b o hb.1 (a7 b o hb.1 hb.2 q)
  have pT:a4.get? s.heap.objs.size=some {cls:=.type "tuple",data:=.seq #[.int i s.toks,u]}:=b2.extBut _ _ Tz a5;have hn:H s.heap.objs.size=none:=I.hok.fresh (uZ _)
  have b4:∀b∈[e,it],s.heap.objs.size≠b:=λb hb=>by
   simp only[vJ,mem_nil_iff,or_false]at hb;rcases hb with rfl|rfl
   ·exact Tz
   ·obtain⟨o,q,_⟩:=h4;exact ne_of_gt (Heap.lt_size q)
  have hok:HOk X.prog X.w (upd H s.heap.objs.size (.tup [.int i,x])) a4:=HOk.turnedNew (s:=s) I.hok (λb hb=>(hf b hb).1) k (uZ _) ⟨zN2,[.int i s.toks,u],.cons ⟨_,Z⟩ (.cons ru .nil),_,pT,Z,_,Z⟩;have I1:Inv X pins σ (upd H s.heap.objs.size (.tup [.int i,x])) {s with heap:=a4,toks:=s.toks+1}:=I.turnedL (t':=s.toks+1) hf k (λb hb=>upd_ne (vC hb)) hok;refine⟨.ref s.heap.objs.size,_,I1,Z,⟨_,x,Z,hn,Z,λzs hz=>by rw[I.list_inj hz q1];exact e1⟩,?_,λb hb=>by rw[upd_ne (Ne.symm (b4 b hb))];exact(hf b hb).1⟩;exact⟨⟨_,b1⟩,a3.extBut b2.extBut a9.symm⟩
 done:=by
  intro X hP hw hK hc i pins s σ H E I hf st hg;subst hP hw hK;obtain⟨⟨a2,h1⟩,h4⟩:=st;obtain⟨xs,q1,hx⟩:=hg;obtain⟨b3,a8,p1,b5⟩:=I.list q1;have l1:=a8.length;refine wpAny_pyNext_enum_end (I.ok.hd hc) h1 h4 p1.isList (by simp;omega) λh' a7=>?_
  have k:∀b o,b∉[e,it]->s.heap.get? b=some o->h'.get? b=some o:=λb o hb q=>by
   simp only[vJ,mem_nil_iff,or_false,not_or]at hb;exact a7 b o hb.2 q
  exact⟨Z,I.turnedL (t':=s.toks) hf k (λ_ _=>rfl) (HOk.turned (s:=s) I.hok (λb hb=>(hf b hb).1) k)⟩
 self:=λ_ _ _ _ _ st h=>by
  obtain⟨⟨a2,h1⟩,_⟩:=st;refine wpAny_pyIter_slot (T:="enumerate") ⟨_,h1,Z⟩ F.slot_enumerate_iter (vZ F.slot_enumerate_iter ⟨_,h1,Z⟩ F.entry_enumerate_iter ?_ (F.args_enumerate_iter_1 _));show wpAny _ _ (ret (.ref _)) _ _ _;exact rZ ⟨_,Z,"enumerate",_,⟨_,h1,Z⟩,F.slot_enumerate_next.lookup,h⟩
def Agg(K:FA)(ta:TA):TI:=λσ H R=>ta σ H λvs H1=>∃l,vs=[.ref l]/\(∃xs,SqL K H1 l xs)/\R (Ite K l) H1
theorem W9{elts:List Expr}{x1}{tp:Pos}{a:Expr}{ta:TA}{p:Pos}(hg:Gl X "enumerate")(hm:X.mg "enumerate"= none)(ha:PA X [a] ta)(hs:starEach [a] X.env=[(false,eval a X.env)]:=by rfl) :
  PI X (.Tuple elts x1 tp) (.Call (.Name "enumerate" p) [a] [] pos) (Agg X.K ta):=by
 intro pins s σ H R I h;refine Call_ (Hl I hg hm boot_enumerate (PyProof.Rows.callWith_type1 (thn (ha pos pins s σ H _ I h) λus s1 ⟨vs,H1,I1,r1,q1⟩=>?_) hs rfl));obtain⟨l,e,⟨xs,hx⟩,q⟩:=q1;subst e;obtain⟨u,rfl,ru⟩:=r1.one;cases ru
 obtain⟨a2,a5,p1,a3⟩:=I1.list hx;refine call_enumerate_list p1.isList λh' a1 a4 a6 a7=>?_
 have I2:Inv X pins σ H1 {s1 with heap:=h' }:=I1.kept (t':=s1.toks) a7;have T:=Aar (P:=X.prog) (w:=X.w) (K:=X.K) (elts:=elts) (x1:=x1) (tp:=tp) (e:=s1.heap.objs.size+1) (it:=s1.heap.objs.size) (l:=l) (ne_of_gt (lt_succ_self _));refine T.self X.A 0 {s1 with heap:=h' } _ _ ⟨⟨_,a1⟩,a4⟩ ?_;refine⟨_,_,_,_,H1,Z,I2,T,⟨⟨_,a1⟩,a4⟩,λb z=>?_,q⟩
 have z:s1.heap.objs.size<=b:=by
  simp only[vJ,mem_nil_iff,or_false]at z;rcases z with rfl|rfl
  ·exact le_add_right _ 1
  ·exact uZ _
 exact I1.fpOk z (I1.hok.fresh z)
theorem AcZ{l:Addr}{g:TG}{tb:TS}{D:Jn}(z:Nat->St->Hp->Prop)(h0:z 0 σ H)(hl:∀i σ H,i<=xs.length->z i σ H->SqL K H l xs)
  (hs:∀i x T σ H,xs[i]?=some x->z i σ H->H T=none->g (.ref T) σ (upd H T (.tup [.int i,x])) λa2 H2=>tb {D with nx:=z (i+1),ct:=z (i+1),bk:=D.nx} a2 H2) (hd:∀σ H,z xs.length σ H->D.nx σ H) :
  ∃W:Nat->Nat->St->Hp->Prop,(∃m,W 0 m σ H)/\∀i m σ H,W i m σ H ->
   ((Ite K l).stop i H/\D.nx σ H)\/((Ite K l).go i H/\∃N:St->Hp->Prop,(∀a1 H',N a1 H'->∃m',m'<m/\W (i+1) m' a1 H')/\∀x H',(Ite K l).yld i H x H'->g x σ H' λa2 H2=>tb {D with nx:=N,ct:=N,bk:=D.nx} a2 H2):=by
 refine⟨λi m σ H=>m=xs.length-i/\i<=xs.length/\z i σ H,⟨xs.length,by simp,vY _,h0⟩,?_⟩;rintro i m σ H ⟨rfl,hi,p⟩;have q1:=hl i σ H hi p
 by_cases a3:i<xs.length
 ·refine .inr ⟨⟨xs,xs[i],q1,by simp[a3]⟩,z (i+1),λa1 H' p'=>⟨xs.length-(i+1),by omega,rfl,a3,p'⟩,λx H' y=>?_⟩
  obtain⟨T,a,rfl,hT,rfl,y1⟩:=y;exact hs i a T σ H (y1 xs q1) p hT
 ·have e:i=xs.length:=by omega
  subst e;exact .inl ⟨⟨xs,q1,uZ _⟩,hd σ H p⟩
inductive Nd where
 |s (x:Str)
 |i (n:Int)
 |t (xs:List Nd)
def Tp(H H':Hp):Prop:=∀b xs,H b=some (.tup xs)->H' b=some (.tup xs)
theorem Tp.trans{H1:Hp}(a:Tp H H1)(b:Tp H1 H2):Tp H H2:=λc xs h=>b c xs (a c xs h)
theorem Same.tp(h:Same H H'):Tp H H':=λb xs e=>h b _ e
theorem Tp.new(h:H a=none):Tp H (upd H a o):=λb xs e=>by rw[upd_ne (ne_of_none e h)];exact e
theorem Tp.lst{H:Hp}{a:Addr}{o:HO}{ys:List V}(h:H a=some (.lst ys)):Tp H (upd H a o):=λb xs e=>by rw[upd_ne (Bw e h (by intro z;cases z))];exact e
theorem Ae(h:H p=none)(o:HO):Same H (upd H p o):=λb u q=>by rw[upd_ne (ne_of_none q h)];exact q
theorem Same.young{H1:Hp}(g:Same H H1)(h:H p=none)(o:HO):Same H (upd H1 p o):=λb u q=>by rw[upd_ne (ne_of_none q h)];exact g b u q
def isT:Nd->Bool
 |.t _=>true
 |_=>false
mutual
def pre:Nd->List Nd
 |.t xs=>.t xs::D9 xs
 |.s _=>[]
 |.i _=>[]
def D9:List Nd->List Nd
 |[]=>[]
 |x::r=>D9 r++pre x
end
mutual
def Ey:Nd->Bool
 |.t xs=>decide (xs.length<=8)&&Bd xs
 |.s _=>true
 |.i _=>true
def Bd:List Nd->Bool
 |[]=>true
 |x::r=>Ey x&&Bd r
end
def cnt(n:Nd):Nat:=(pre n).length
theorem Dt(xs:List Nd):pre (.t xs)=.t xs::D9 xs:=by rw[pre]
theorem Ei(x:Str):pre (.s x)=[]:=by rw[pre]
theorem Gf(x:Int):pre (.i x)=[]:=by rw[pre]
theorem B8:D9 []=[]:=by rw[D9]
theorem A4(x:Nd)(r:List Nd):D9 (x::r)=D9 r++pre x:=by rw[D9]
theorem K1:∀(a b:List Nd),D9 (a++b)=D9 b++D9 a
 |[],b=>by rw[B8];simp
 |x::a,b=>by
  show D9 (x::(a++b))=_
  rw[A4,A4,K1 a b,append_assoc]
theorem Ad7{n:Nd}(h:isT n=false):pre n=[]:=by
 cases n with
 |s x=>exact Ei x
 |i x=>exact Gf x
 |t xs=>cases h
def inner(xs:List Nd):List Nd:=xs.filter isT
theorem Qg:∀xs:List Nd,D9 (inner xs)=D9 xs
 |[]=>rfl
 |x::r=>by
  unfold inner;rw[filter_cons,A4];have z:=Qg r;unfold inner at z;cases e:isT x with
  |true=>rw[if_pos rfl,A4,z]
  |false=>rw[if_neg qc,z,Ad7 e,vH]
theorem Hm{xs:List Nd}(h1:xs.length<=8)(h2:Bd xs=true):Ey (.t xs)=true:=by rw[Ey];simp[h1,h2]
theorem Uq{xs:List Nd}(h:Ey (.t xs)=true):xs.length<=8:=by
 rw[Ey,Bool.and_eq_true]at h;exact uK h.1
theorem Ad0{xs:List Nd}(h:Ey (.t xs)=true):Bd xs=true:=by
 rw[Ey,Bool.and_eq_true]at h;exact h.2
theorem Rv:Bd []=true:=by rw[Bd]
theorem Ju{x:Nd}(h1:Ey x=true)(h2:Bd r=true):Bd (x::r)=true:=by rw[Bd];simp[h1,h2]
theorem Nl:∀{a b:List Nd},Bd a=true->Bd b=true->Bd (a++b)=true
 |[],b,_,h=>h
 |x::a,b,h,h'=>by
  rw[Bd,Bool.and_eq_true]at h;exact Ju h.1 (Nl h.2 h')
theorem Mb:∀{a b:List Nd},Bd (a++b)=true->Bd a=true/\Bd b=true
 |[],b,h=>⟨Rv,h⟩
 |x::a,b,h=>by
  have h:Bd (x::(a++b))=true:=h;rw[Bd,Bool.and_eq_true]at h;exact⟨Ju h.1 (Mb h.2).1,(Mb h.2).2⟩
theorem Ac2{x:Nd}(h:Bd [x]=true):Ey x=true:=by
 rw[Bd,Bool.and_eq_true]at h;exact h.1
theorem Ky:∀{xs:List Nd},Bd xs=true->Bd (inner xs)=true
 |[],h=>h
 |x::r,h=>by
  rw[Bd,Bool.and_eq_true]at h;unfold inner;rw[filter_cons];split
  ·exact Ju h.1 (Ky h.2)
  ·exact Ky h.2
theorem AdW{xs:List Nd}:∀x∈inner xs,isT x=true:=λx h=>(mem_filter.mp h).2
theorem Co(h:n<=1000):n<=sizeLine:=le_of_lt (G6 h)
theorem E1{α:Type}{xs:List α}{v:α}(h:xs[xs.length-1]?=some v):atI xs (-1)=some v:=by
 have hl:0<xs.length:=by
  rcases Nat.eq_zero_or_pos xs.length with z|z
  ·rw[length_eq_zero_iff.mp z]at h;simp at h
  ·exact z
 unfold atI ixN;rw[if_neg (by omega),if_pos (by omega)];show xs[((-1:Int)+xs.length).toNat]?=some v;rw[show((-1:Int)+(xs.length:Int)).toNat=xs.length-1 by omega];exact h
theorem Ij{z:Type}{xs:List z}{v:z}(h1:2<=xs.length)(h:xs[xs.length-2]?=some v):atI xs (-2)=some v:=by
 unfold atI ixN;rw[if_neg (by omega),if_pos (by omega)];show xs[((-2:Int)+xs.length).toNat]?=some v;rw[show((-2:Int)+(xs.length:Int)).toNat=xs.length-2 by omega];exact h
theorem Jm{a:HO}(h:H p=none)(h2:(upd H p a) q=none):Same H (upd (upd H p a) q b)/\(upd (upd H p a) q b) p=some a/\(upd (upd H p a) q b) q=some b:=
 ⟨(Ae h a).trans (Ae h2 b),Ae h2 b _ _ qa,qa⟩
theorem Aex{a:HO}(h:H p=none)(h2:(upd H p a) q=none)(h3:(upd (upd H p a) q b) r=none) :
  Same H (upd (upd (upd H p a) q b) r c)/\(upd (upd (upd H p a) q b) r c) p=some a/\(upd (upd (upd H p a) q b) r c) q=some b/\(upd (upd (upd H p a) q b) r c) r=some c:=
 ⟨((Ae h a).trans (Ae h2 b)).trans (Ae h3 c),Ae h3 c _ _ (Ae h2 b _ _ qa),Ae h3 c _ _ qa,qa⟩
def Ax(K:FA)(mg:Str->Option Value)(x:Str)(ps:List Str)(st:Stmt):Prop:=∃f fd,Fun K x x st f fd/\mg x=some (.ref f)/\Dh K fd ps []
def Ai(P:Program)(w:World)(K:FA)(mg:Str->Option Value)(base:Heap)(k:Nat)(x:Str)(ps:List Str)(sp:Sp):Prop:=
 ∃f fd,Ca P w K mg base CX0 k f fd ps sp/\Dh K fd ps []/\keepIn K (.ref f)=true/\mg x=some (.ref f)
theorem Ai.mono(C:Ai P w K mg base j x ps sp)(h:j<=k):Ai P w K mg base k x ps sp:=by
 obtain⟨f,fd,F,b,kp,m⟩:=C;exact⟨f,fd,F.mono h,b,kp,m⟩
theorem Ai.imp{z:Sp}(C:Ai P w K mg base k x ps sp)(h:∀vs H Q E,z vs H Q E->sp vs H Q E):Ai P w K mg base k x ps z:=by
 obtain⟨f,fd,F,b,kp,m⟩:=C;exact⟨f,fd,F.imp h,b,kp,m⟩
theorem Ax.ok{N:List Str}(F:Ax K mg x ps st)(S:As N ps (Ak st))(len:∀vs H Q E,sp vs H Q E->vs.length=ps.length)
  (z:∀(f:Addr)(cdv:Value)(A:Around)(outer:List Env)(s:Shared)(H:Hp)(vs:List V)(Q:VK)(E:XK),Ct k (A.deeper (envOfC x (Ak st) s.heap.objs.size f cdv))->sp vs H Q E ->
   ∃t,PSs (Nf CX0 P w K mg base N x (Ak st) f cdv A outer s H E).nox (B0 st) t/\t {nx:=λ_ H'=>Q .non H',rt:=Q} (start N vs) H):Ai P w K mg base (k+1) x ps sp:=by
 obtain⟨f,fd,F,m,b⟩:=F;exact⟨f,fd,F.ok S len (z f),b,F.kp,m⟩
theorem Ax.zero(F:Ax K mg x ps st)(no:∀vs H Q E,¬sp vs H Q E):Ai P w K mg base 0 x ps sp:=by
 obtain⟨f,fd,F,m,b⟩:=F;exact⟨f,fd,⟨λvs H Q E h=>absurd h (no vs H Q E),λA outer s H args us vs Q E _ _ _ _ h=>absurd h (no vs H Q E)⟩,b,F.kp,m⟩
section
variable{p:Pos}{t:TA}{j:Nat}{E:XK}
theorem Am(C:Ai X.prog X.w X.K X.mg X.base j x ps sp)(hr:Ct k X.A)(hg:Gl X x)(hx:Gq CX0 X E)(ha:PA X (e::es) t)(hj:j<=k:=by first|decide|omega)
  (z:(x==("__debug__": Str))=false:=by decide) (he:starEach (e::es) X.env=(false,eval e X.env)::starEach es X.env:=by rfl) (a1:(backTo pos (starEach es X.env)).any (·.1)=false:=by rfl) :
  PE X (.Call (.Name x p) (e::es) [] pos) (Ip sp [] E t):=by
 obtain⟨f,fd,F,b,kp,m⟩:=C;exact Adj (F.mono hj) hr hg m kp b .nil hx ha z he a1
end
def Ag0(K:FA):List V->Hp->VK->Prop:=λxs H Q=>∃p ys,xs=[.ref p]/\(SqL K H p ys\/SqT K H p ys)/\Q (.int ys.length) H
theorem Cm:Ge X (.builtin "len") (Ag0 X.K):=Uk
def Agj:List V->Hp->VK->Prop:=λxs H Q=>(∃i,xs=[.int i]/\Q (.int i) H)\/∃k,xs=[.bl k]/\Q (.int (if k then 1 else 0)) H
theorem Mr:Ge X (.type "int") Agj:=AaV
theorem Oe:Ge X (.builtin "sorted") (λxs H Q=>∃p ns,xs=[.ref p]/\SqL X.K H p ((ns:List Int).map V.int)/\ns.length<64 /\
  ∀r(ms:List Int),H r=none->ms.Perm ns->ms.Pairwise (·<=·)->Q (.ref r) (upd H r (.lst (ms.map V.int)))):=by
 intro pins s σ H xs us Q I r h;obtain⟨p,ns,rfl,hS,hl,q⟩:=h;obtain⟨u,rfl,ru⟩:=r.one;cases ru
 obtain⟨a5,rv,pl,hz⟩:=I.list hS;have hI:=Lr rv;have el:=rv.length;rw[uB]at el;refine sorted_ints pl.isList hI (by omega) λz a4 a1 a2 a3=>?_
 obtain⟨e,he⟩:=sortedAll_at s.heap a5 z;have a6:=a2.length_eq;have hn:=I.hok.fresh (le_succ _);refine⟨.ref (s.heap.objs.size+1),_,I.laid (t':=s.toks) (o:=.lst (a4.map V.int)) (λb o e=>sortedAll_old e) (le_succ _) ?_,Z,q _ a4 hn a2 a3⟩;refine⟨by rw[uB];exact Co (by omega),z.toList,e,Kj a1,?_⟩;rw[he]
theorem Ee{n:Int}{ns:List Int}:inV (.int n) (ns.map V.int)=decide (n∈ns):=by
 unfold inV;rw[any_map]
 by_cases e:n∈ns
 ·rw[uI e,any_eq_true]
  exact⟨n,e,by show(n==n)=true;simp⟩
 ·rw[uJ e]
  refine Bool.eq_false_iff.mpr λz=>e ?_
  rw[any_eq_true]at z;obtain⟨m,hm,h⟩:=z;have:(m==n)=true:=h;rw[<-eq_of_beq this];exact hm
theorem B9(ns:List Int):(ns.map V.int).all Fp=true:=by
 rw[all_eq_true];intro x z;obtain⟨n,_,rfl⟩:=vT.mp z;rfl
abbrev L9(J:It)(g:TG)(tc:TT)(te:TE)(σY:St)(F:Addr->List V->Hp->Prop)(H:Hp):Prop:=
 ∃W:Nat->Nat->List V->Hp->Prop,(∃m,W 0 m [] H)/\∀i m ys H,W i m ys H ->
   (J.stop i H/\∀D,H D=none->F D ys H) \/
   (J.go i H/\ys.length<sizeLine/\∀x H',J.yld i H x H'->g x σY H' λσ2 H2=>tc σ2 H2 λb H3=>if b=true then te σ2 H3 λy H4=>∃m',m'<m/\W (i+1) m' (ys++[y]) H4 else ∃m',m'<m/\W (i+1) m' ys H3)
theorem Hz{g:TG}{tc:TT}{F:Addr->List V->Hp->Prop}(Pv:Nat->List V->Hp->Prop)(h0:Pv 0 [] H)(hz:k<=sizeLine)
  (a5:∀i ys H,i<k->Pv i ys H->J.go i H) (a6:∀ys H,Pv k ys H->J.stop k H)
  (hs:∀i x ys H H'(N:List V->Hp->Prop),i<k->Pv i ys H->J.yld i H x H'->ys.length<=i->(∀z H',z.length<=i+1->Pv (i+1) z H'->N z H')->g x a3 H' λa4 H2=>tc a4 H2 λb H3=>if b=true then te a4 H3 λy H4=>N (ys++[y]) H4 else N ys H3)
  (hd:∀ys H,ys.length<=k->Pv k ys H->∀D,H D=none->F D ys H):L9 J g tc te a3 F H:=by
 refine⟨λi m ys H=>m=k-i/\i<=k/\ys.length<=i/\Pv i ys H,⟨k,by simp,vY _,uZ _,h0⟩,?_⟩;rintro i m ys H ⟨rfl,hi,a2,p⟩
 by_cases a1:i<k
 ·refine .inr ⟨a5 i ys H a1 p,by omega,λx H' y=>?_⟩
  exact hs i x ys H H' (λz H4=>∃m',m'<k-i/\m'=k-(i+1)/\i+1<=k/\z.length<=i+1/\Pv (i+1) z H4) a1 p y a2 λz H4 l q=>⟨k-(i+1),by omega,Z,a1,l,q⟩
 ·have e:i=k:=by omega
  subst e;exact .inl ⟨a6 ys H p,hd ys H a2 p⟩
theorem Cn{g:TG}{tc:TT}{a1:St}{F:Addr->List V->Hp->Prop}(Pv:Nat->List V->Hp->Prop)(h0:Pv 0 [] H)(hz:xs.length<=sizeLine)(hl:∀i ys H,Pv i ys H->SqL K H a xs)
  (hs:∀i x ys H(N:List V->Hp->Prop),xs[i]?=some x->Pv i ys H->(∀z H',z.length<=i+1->Pv (i+1) z H'->N z H')->ys.length<=i->g x a1 H λa2 H2=>tc a2 H2 λb H3=>if b=true then te a2 H3 λy H4=>N (ys++[y]) H4 else N ys H3)
  (hd:∀ys H,ys.length<=xs.length->Pv xs.length ys H->∀D,H D=none->F D ys H):L9 (Itl K a) g tc te a1 F H:=
 Hz Pv h0 hz (λi ys H hi p=>⟨xs,xs[i],hl i ys H p,by simp[hi]⟩) (λys H p=>⟨xs,hl _ ys H p,uZ _⟩)
  (λi x ys H H' N hi p ⟨e,y⟩ a3 k=>by subst e;exact hs i x ys _ N (y xs (hl i ys _ p)) p k a3) hd
theorem Vu{g:TG}{tc:TT}{a1:St}{F:Addr->List V->Hp->Prop}(Pv:Nat->List V->Hp->Prop)(h0:Pv 0 [] H)(hz:xs.length<=sizeLine)(hl:∀i ys H,Pv i ys H->SqT K H a xs)
  (hs:∀i x ys H(N:List V->Hp->Prop),xs[i]?=some x->Pv i ys H->(∀z H',z.length<=i+1->Pv (i+1) z H'->N z H')->ys.length<=i->g x a1 H λa2 H2=>tc a2 H2 λb H3=>if b=true then te a2 H3 λy H4=>N (ys++[y]) H4 else N ys H3)
  (hd:∀ys H,ys.length<=xs.length->Pv xs.length ys H->∀D,H D=none->F D ys H):L9 (Itt K a) g tc te a1 F H:=
 Hz Pv h0 hz (λi ys H hi p=>⟨xs,xs[i],hl i ys H p,by simp[hi]⟩) (λys H p=>⟨xs,hl _ ys H p,uZ _⟩)
  (λi x ys H H' N hi p ⟨e,y⟩ a3 k=>by subst e;exact hs i x ys _ N (y xs (hl i ys _ p)) p k a3) hd
theorem F9{lo:Int}{g:TG}{tc:TT}{F:Addr->List V->Hp->Prop}(Pv:Nat->List V->Hp->Prop)(h0:Pv 0 [] H)(hz:n<=sizeLine)
  (hs:∀i ys H(N:List V->Hp->Prop),i<n->Pv i ys H->(∀z H',z.length<=i+1->Pv (i+1) z H'->N z H')->ys.length<=i->g (.int (lo+i)) a1 H λa2 H2=>tc a2 H2 λb H3=>if b=true then te a2 H3 λy H4=>N (ys++[y]) H4 else N ys H3)
  (hd:∀ys H,ys.length<=n->Pv n ys H->∀D,H D=none->F D ys H):L9 (Itr lo n) g tc te a1 F H:=
 Hz Pv h0 hz (λi ys H hi p=>hi) (λys H p=>uZ _)
  (λi x ys H H' N hi p ⟨e,y⟩ a3 k=>by subst e y;exact hs i ys _ N hi p k a3) hd
theorem AaS{g:TG}{tc:TT}{a2:St}{F:Addr->List V->Hp->Prop}(Pv:Nat->List V->Hp->Prop)(h0:Pv 0 [] H)(hz:xs.length<=sizeLine)(hl:∀i ys H,Pv i ys H->SqL K H a xs)
  (hs:∀i x T ys H(N:List V->Hp->Prop),xs[i]?=some x->Pv i ys H->H T=none->(∀a1 H',a1.length<=i+1->Pv (i+1) a1 H'->N a1 H')->ys.length<=i->g (.ref T) a2 (upd H T (.tup [.int i,x])) λa3 H2=>tc a3 H2 λb H3=>if b=true then te a3 H3 λy H4=>N (ys++[y]) H4 else N ys H3)
  (hd:∀ys H,ys.length<=xs.length->Pv xs.length ys H->∀D,H D=none->F D ys H):L9 (Ite K a) g tc te a2 F H:=
 Hz Pv h0 hz (λi ys H hi p=>⟨xs,xs[i],hl i ys H p,by simp[hi]⟩) (λys H p=>⟨xs,hl _ ys H p,uZ _⟩)
  (λi x ys H H' N hi p ⟨T,z,e1,hT,e2,y⟩ a4 k=>by subst e1 e2;exact hs i z T ys _ N (y xs (hl i ys _ p)) p hT k a4) hd
section
variable{κ:Type} [DecidableEq κ]
def J7(kvs:List (κ×V))(k:κ):Option V:=(kvs.find? λkv=>decide (kv.1=k)).map (·.2)
def Fd(kvs:List (κ×V))(k:κ)(v:V):List (κ×V):=
 if (kvs.any λkv=>decide (kv.1=k))=true then kvs.map (λkv=>if kv.1=k then(kv.1,v) else kv) else kvs++[(k,v)]
theorem Lx{p:κ×V}{r:List (κ×V)}{k:κ}(e:p.1=k):J7 (p::r) k=some p.2:=by simp[J7,find?_cons,e]
theorem L0{p:κ×V}{r:List (κ×V)}{k:κ}(e:¬p.1=k):J7 (p::r) k=J7 r k:=by simp[J7,find?_cons,e]
theorem Vo(k:κ):∀kvs:List (κ×V),(kvs.any λz=>decide (z.1=k))=(J7 kvs k).isSome
 |[]=>rfl
 |p::r=>by
  rw[any_cons]
  by_cases e:p.1=k
  ·simp only[Lx e,uI e,Bool.true_or,Option.isSome_some]
  ·rw[L0 e,uJ e,Bool.false_or];exact Vo k r
theorem K0(kvs:List (κ×V))(k:κ)(v:V):(Fd kvs k v).length<=kvs.length+1:=by
 unfold Fd;split
 ·rw[uB];omega
 ·rw[uC,uV,length_nil];omega
theorem Gn.isSome_eq{u:Option Value}(r:Gn o u):o.isSome=u.isSome:=by
 cases o with
 |none=>cases u with
  |none=>rfl
  |some _=>exact(show False from r).elim
 |some _=>cases u with
  |none=>exact(show False from r).elim
  |some _=>rfl
theorem KV.val(r:KV kvs vs)(k:κ):Gn (J7 kvs k) (valueAt vs k):=by
 unfold KV at r
 induction r with
 |nil=>exact True.intro
 |@cons p q ps qs h t ih=>
  obtain⟨h1,h2⟩:=h
  by_cases e:p.1=k
  ·have e':q.1=k:=h1.symm.trans e
   have b:valueAt (q::qs) k=some q.2:=by simp[valueAt,find?_cons,e']
   rw[Lx e,b];exact h2
  ·have e':¬q.1=k:=λz=>e (h1.trans z)
   have b:valueAt (q::qs) k=valueAt qs k:=by simp[valueAt,find?_cons,e']
   rw[L0 e,b];exact ih
theorem KV.any(r:KV kvs vs)(k:κ):(kvs.any λz=>decide (z.1=k))=vs.any λz=>decide (z.1=k):=by
 unfold KV at r
 induction r with
 |nil=>rfl
 |cons h t ih=>rw[any_cons,any_cons,ih,h.1]
theorem KV.repl(r:KV kvs vs)(k:κ)(ry:A7 y u) :
  KV (kvs.map λkv=>if kv.1=k then(kv.1,y) else kv) (vs.map λkv=>if kv.1=k then(kv.1,u) else kv):=by
 unfold KV at r ⊢
 induction r with
 |nil=>exact .nil
 |@cons p q ps qs h t ih=>
  rw[vS,vS];refine .cons ?_ ih;obtain⟨h1,h2⟩:=h
  by_cases e:p.1=k
  ·rw[if_pos e,if_pos (h1.symm.trans e)];exact⟨h1,ry⟩
  ·rw[if_neg e,if_neg (λz=>e (h1.trans z))];exact⟨h1,h2⟩
theorem KV.put(r:KV kvs vs)(k:κ)(z:A7 y u):KV (Fd kvs k y) (stored vs k u):=by
 unfold Fd stored;rw[r.any k]
 by_cases e:(vs.any λkv=>decide (kv.1=k))=true
 ·rw[if_pos e,if_pos e];exact r.repl k z
 ·rw[if_neg e,if_neg e];exact Paired.snoc r ⟨Z,z⟩
theorem KV.length(r:KV kvs vs):kvs.length=vs.length:=Paired.length r
end
theorem Pj{k:Key}(r:A7 (kV k) u):(mixKind P w).is k u=true:=by
 cases k with
 |inl i=>obtain⟨t,e⟩:=(show ∃t,u=Value.int i t from r);subst e;exact Wq P w i t
 |inr x=>obtain⟨t,e⟩:=(show ∃t,u=Value.str x t from r);subst e;exact Wm P w x t
theorem Sl:∀{ks:List Key}{us:List Value},A8 (ks.map kV) us->ItemsAre (mixKind P w) ks us
 |[],_,r=>by rw[map_nil]at r;cases r;exact .nil
 |k::ks,_,r=>by
  rw[vS]at r;cases r with
  |cons h t=>exact .cons (Pj h) (Sl t)
abbrev KT(H:Hp):List (List Key×V)->List (List Key×Addr×Value)->Prop:=Paired λp q=>p.1=q.1/\H q.2.1=some (.tup (p.1.map kV))/\A7 p.2 q.2.2
theorem KT.val{xs:List (List Key×Addr×Value)}(r:KT H kvs xs)(k:List Key):Gn (J7 kvs k) ((atKey xs k).map (·.2)):=by
 induction r with
 |nil=>exact True.intro
 |@cons p q ps qs h t ih=>
  obtain⟨h1,_,h2⟩:=h
  by_cases e:p.1=k
  ·have e':q.1=k:=h1.symm.trans e
   have b:atKey (q::qs) k=some q.2:=by simp[atKey,find?_cons,e']
   rw[Lx e,b];exact h2
  ·have e':¬q.1=k:=λz=>e (h1.trans z)
   have b:atKey (q::qs) k=atKey qs k:=by simp[atKey,find?_cons,e']
   rw[L0 e,b];exact ih
theorem KT.repl{xs:List (List Key×Addr×Value)}(r:KT H kvs xs)(k:List Key)(ry:A7 y u) :
  KT H (kvs.map λkv=>if kv.1=k then(kv.1,y) else kv) (xs.map (putAt k u)):=by
 induction r with
 |nil=>exact .nil
 |@cons p q ps qs h t ih=>
  rw[vS,vS];refine .cons ?_ ih;obtain⟨h1,h2,h3⟩:=h;unfold putAt
  by_cases e:p.1=k
  ·rw[if_pos e,if_pos (h1.symm.trans e)];exact⟨h1,h2,ry⟩
  ·rw[if_neg e,if_neg (λz=>e (h1.trans z))];exact⟨h1,h2,h3⟩
theorem KT.put{xs:List (List Key×Addr×Value)}(r:KT H kvs xs)(k:List Key)(hb:H b=some (.tup (k.map kV)))(z:A7 y u) :
  KT H (Fd kvs k y) (storedH xs k b u):=by
 have e:(kvs.any λkv=>decide (kv.1=k))=(atKey xs k).isSome:=by
  rw[Vo,(r.val k).isSome_eq,Option.isSome_map]
 unfold Fd storedH;rw[e]
 by_cases q:(atKey xs k).isSome=true
 ·rw[if_pos q,if_pos q];exact r.repl k z
 ·rw[if_neg q,if_neg q];exact Paired.snoc r ⟨Z,hb,z⟩
theorem KT.keeps{xs:List (List Key×Addr×Value)}(r:KT H kvs xs)(ht:∀b ys,H b=some (.tup ys)->H' b=some (.tup ys)):KT H' kvs xs:=
 Paired.mapP r λ_ _ z=>⟨z.1,ht _ _ z.2.1,z.2.2⟩
theorem AdF{u:HO}(ok:HOk P w H h)(e:Rd H a u):B1 P w H h a u:=e.ok ok
theorem Nr(ok:HOk P w H h)(e:Rd H a (.dK kvs)):kvs.length<=sizeLine/\(a==sysModules)=false/\∃vs,KV kvs vs/\h.DictOf (mixKind P w) a vs:=
 show B1 P w H h a (.dK kvs) from AdF ok e
theorem Ac7(ok:HOk P w H h)(e:H a=some (.dK kvs)):kvs.length<=sizeLine/\(a==sysModules)=false/\∃vs,KV kvs vs/\h.DictOf (mixKind P w) a vs:=Nr ok (.inl e)
theorem K5{ks:List Key}(ok:HOk P w H h)(e:H a=some (.tup (ks.map kV))):(tupleKind (mixKind P w)).is h ks a:=by
 obtain⟨_,z,r,o,h1,h2,n,h3⟩:=(show B1 P w H h a (.tup (ks.map kV)) from ok a _ e);exact⟨o,z.toArray,n,h1,h2,h3,by simpa using Sl r⟩
theorem S3(ok:HOk P w H h)(e:Rd H a (.dT kvs)):kvs.length<=sizeLine/\(a==sysModules)=false /\
  ∃xs,KT H kvs xs/\h.DictOfH (tupleKind (mixKind P w)) a xs:=by
 obtain⟨z,y,xs,r,o,es,ep,h1,h2,h3,h4,h5⟩:=(show B1 P w H h a (.dT kvs) from AdF ok e);refine⟨z,y,xs,r,o,es,ep,h1,h2,h3,h4,λx hx=>?_,h5⟩
 have all:∀{l:List (List Key×V)}{m:List (List Key×Addr×Value)},KT H l m->∀x∈m,(tupleKind (mixKind P w)).is h x.1 x.2.1:=by
  intro l m q
  induction q with
  |nil=>intro x hx;exact nomatch hx
  |@cons p q ps qs hq t ih=>
   intro x hx;rcases vJ.mp hx with e|hx
   ·subst e
    exact K5 ok (by rw[<-hq.1];exact hq.2.1)
   ·exact ih x hx
 exact all r x hx
theorem Af5(ok:HOk P w H h)(e:H a=some (.dT kvs)):kvs.length<=sizeLine/\(a==sysModules)=false /\
  ∃xs,KT H kvs xs/\h.DictOfH (tupleKind (mixKind P w)) a xs:=S3 ok (.inl e)
def M9(H:Hp)(a:Addr)(y:V)(r:Option V):Prop:=
 (∃kvs k,Rd H a (.dK kvs)/\y=kV k/\r=J7 kvs k)\/∃kvs k b,Rd H a (.dT kvs)/\y=.ref b/\H b=some (.tup (k.map kV))/\r=J7 kvs k
def Ae0(H:Hp)(a:Addr)(y v:V)(H':Hp):Prop:=
 (∃kvs k,H a=some (.dK kvs)/\y=kV k/\kvs.length<sizeLine/\H'=upd H a (.dK (Fd kvs k v))) \/
 ∃kvs k b,H a=some (.dT kvs)/\y=.ref b/\H b=some (.tup (k.map kV))/\kvs.length<sizeLine/\H'=upd H a (.dT (Fd kvs k v))
section
variable{s:Shared}{y v:V}{r:Value}{o:Option V}
theorem Inv.big(I:Inv X pins σ H s):sysModules<s.heap.objs.size:=by
 have h:=(I.mod.glob.keeps I.bk).lt;exact lt_trans (by decide) h
theorem AbR{Q:Value->Shared->Prop}(hu:A.units+1<cLine)(I:Inv X pins σ H s)(g:M9 H a y (some v))(ry:A7 y u)(h:∀w' s',Inv X pins σ H s'->A7 v w'->Q w' s') :
  wpAny (model X.prog X.w) A (getItem (.ref a) u) Q E s:=by
 rcases g with⟨kvs,k,e,ey,l⟩|⟨kvs,k,b,e,ey,eb,l⟩
 ·subst ey
  obtain⟨z,hd,vs,a2,dd⟩:=Nr I.hok e;obtain⟨w',hw,a1⟩:=Gn.some_of (v:=v) (o:=valueAt vs k) (by rw[l];exact a2.val k);exact wpAny_getItem_of (Pj ry) dd.mapOf hw (h w' _ (I.tok _) a1)
 ·subst ey
  cases (show u=Value.ref b from ry)
  obtain⟨z,hd,xs,a2,dd⟩:=S3 I.hok e;obtain⟨w',hw,a1⟩:=Gn.some_of (v:=v) (o:=(atKey xs k).map (·.2)) (by rw[l];exact a2.val k);obtain⟨p,hp,a3⟩:=Option.map_eq_some_iff.mp hw;refine wpAny_getItem_heap (tupleKind_room_in1 hu) (K5 I.hok eb) dd hp ?_;rw[a3];exact h w' _ (I.tok _) a1
theorem AhP{Q:Value->Shared->Prop}(hu:A.units+1<cLine)(I:Inv X pins σ H s)(g:M9 H a y o)(ry:A7 y u)(h:∀s',Inv X pins σ H s'->Q (.bool o.isSome) s') :
  wpAny (model X.prog X.w) A (compareOp .In u (.ref a)) Q E s:=by
 rcases g with⟨kvs,k,e,ey,l⟩|⟨kvs,k,b,e,ey,eb,l⟩
 ·subst ey
  obtain⟨z,hd,vs,a1,dd⟩:=Nr I.hok e;refine wpAny_in_of (Pj ry) hd dd.mapOf ?_;rw[<-(a1.val k).isSome_eq,<-l];exact h _ (I.tok _)
 ·subst ey
  cases (show u=Value.ref b from ry)
  obtain⟨z,hd,xs,a1,dd⟩:=S3 I.hok e;refine wpAny_in_heap (tupleKind_room_in1 hu) (K5 I.hok eb) hd dd ?_;have q:=(a1.val k).isSome_eq;rw[Option.isSome_map]at q;rw[<-q,<-l];exact h _ (I.tok _)
theorem Q8{t':Nat}(I:Inv X pins σ H s)(mu:Mut (H a))(hs:Heap.SameBut a s.heap h')(he:∃q,h'.get? a=some q)(new:B1 X.prog X.w (upd H a ob) h' a ob) :
  Inv X pins σ (upd H a ob) {s with heap:=h',toks:=t' }:=
 I.write (x:=a) (e:=a) mu (.inl rfl) (λb q hb z=>(hs.2 b hb).trans z) he new
theorem AbL(z:kvs.length<=sizeLine)(hd:(a==sysModules)=false)(a1:KV kvs vs)(dd:h'.DictOf (mixKind P w) a vs) :
  B1 P w H' h' a (.dK kvs):=⟨z,hd,vs,a1,dd⟩
theorem AaN{Q:Unit->Shared->Prop}(hu:A.units+1<cLine)(I:Inv X pins σ H s)(g:Ae0 H a y v H')(ry:A7 y u)(rv:A7 v r)(h:∀s',Inv X pins σ H' s'->Q () s') :
  wpAny (model X.prog X.w) A (setItem (.ref a) u r) Q E s:=by
 rcases g with⟨kvs,k,e,ey,l,eH⟩|⟨kvs,k,b,e,ey,eb,l,eH⟩
 ·subst ey eH
  obtain⟨z,hd,vs,a1,dd⟩:=Ac7 I.hok e;have hz:vs.length<=sizeLine:=by rw[<-a1.length];exact z
  have hl:(Fd kvs k v).length<=sizeLine:=by have:=K0 kvs k v;omega
  refine wpAny_setItem_pairs (hsz:=hz) (Pj ry) dd λh' a2 hs=>h _ ?_
  have he:∃q,h'.get? a=some q:=let ⟨q,_,_,hq,_⟩:=a2;⟨q,hq⟩
  exact Q8 I (by rw[e];exact True.intro) hs he (AbL hl hd (a1.put k rv) a2)
 ·subst ey eH
  cases (show u=Value.ref b from ry)
  obtain⟨z,hd,xs,a1,dd⟩:=Af5 I.hok e;have hz:xs.length<=sizeLine:=by rw[<-Paired.length a1];exact z
  have hl:(Fd kvs k v).length<=sizeLine:=by have:=K0 kvs k v;omega
  refine wpAny_setItem_heap (hsz:=hz) (tupleKind_room_in1 hu) (K5 I.hok eb) dd λh' a2 hs=>h _ ?_
  obtain⟨q,es,ep,hq,h2,h3,h4,_,h5⟩:=a2;refine Q8 I (by rw[e];exact True.intro) hs ⟨q,hq⟩ ⟨hl,hd,_,(a1.put k eb rv).keeps λc ys ec=>?_,q,es,ep,hq,h2,h3,h4,h5⟩;rw[upd_ne (Bw ec e (λz=>nomatch z))];exact ec
end
section
variable{s:Shared}{kvs:List (Key×V)}{k:Key}
end
def AfX(i:Expr):Prop:=∀ov iv,subscripted i false ov iv=operate [ov,iv] (getItem ov iv)
theorem Adg{env:Env}{T id:String}{Q:Value->Shared->Prop}
  (hl:typeLookup (.type T) "__getitem__"= pure (some (.builtin id))) (hs:AfX z)
  (h:wpAny (model prog w) A (eval value env) (λo a4=>wpAny (model prog w) A (eval z env) (λi a1=>a1.TypeIs o T/\wpAny (model prog w) A (getItem o i) Q E a1) E a4) E s) :
  wpAny (model prog w) A (eval (.Subscript value z pos) env) Q E s:=by
 refine Subscript_ (vV h (λo a4 a6=>vV a6 (λi a1 a2=>?_) λ_ _ x=>x) λ_ _ x=>x);obtain⟨hT,a2⟩:=a2;unfold subscriptTail;refine rY ?_;rw[getitemInPython_of_ne hT.not_modules];refine rY (wpAny_specialOf hT hl ?_)
 have a5:wpAny (model prog w) A (subscripted z false o i) (λr a3=>wpAny (model prog w) A (letTemporaryGo value o r>>=λ_=>pure r) Q E a3) E a1:=by
  rw[hs o i];exact wpAny_operating (vV a2 (λr a3 a7=>rY (wpAny_letTemporaryGo (rZ a7))) λ_ _ x=>x)
 first
  |exact rZ (rY a5)
  |exact rY (rZ (rY a5))
  |exact rY a5
theorem Wo(I:Inv X pins σ H s)(g:M9 H a y o):s.TypeIs (.ref a) "dict":=by
 rcases g with⟨kvs,k,e,_,_⟩|⟨kvs,k,b,e,_,_,_⟩
 ·obtain⟨_,_,vs,_,z⟩:=Nr I.hok e
  exact z.typeIs
 ·obtain⟨_,_,xs,_,z⟩:=S3 I.hok e
  exact z.typeIs
inductive Xd(x y:V)(H2:Hp)(Q:VK):Prop
 |mk(a:Addr)(v:V)(_:x=.ref a)(_:M9 H2 a y (some v))(_:Q v H2)
def S8(td ty:TE):TE:=λσ H Q=>td σ H λx H1=>ty σ H1 λy H2=>Xd x y H2 Q
def AfB(ty td:TE):TE:=λσ H Q=>ty σ H λy H1=>td σ H1 λx H2=>∃a o,x=.ref a/\M9 H2 a y o/\Q (.bl o.isSome) H2
def Af7(td ty tv:TE):TS:=λD σ H=>tv σ H λv H1=>td σ H1 λx H2=>ty σ H2 λy H3=>∃a H4,x=.ref a/\Ae0 H3 a y v H4/\D.nx σ H4
section
variable{o i value:Expr}{pos' tpos:Pos}{td ty tv:TE}
theorem N6(hu:X.A.units+1<cLine)(ho:PE X o td)(hi:PE X i ty)(hs:AfX i):PE X (.Subscript o i pos) (S8 td ty):=by
 intro pins s σ H Q I h;refine Adg PySem.F.slot_dict_getitem.lookup hs (thn (ho pins s σ H _ I h) λu s1 ⟨x,H1,I1,rx,q1⟩=>thn (hi pins s1 σ H1 _ I1 q1) λiv s2 ⟨y,H2,I2,ry,a,v,ex,g,q2⟩=>?_);subst ex;obtain rfl:u=Value.ref a:=rx;exact⟨Wo I2 g,AbR hu I2 g ry λw' s3 I3 z=>⟨v,H2,I3,z,q2⟩⟩
theorem Abl(hu:X.A.units+1<cLine)(hi:PE X i ty)(ho:PE X o td):PC X .In i o (AfB ty td):=by
 intro pins s σ H Q I h;refine thn (hi pins s σ H _ I h) λiv s1 ⟨y,H1,I1,ry,q1⟩=>thn (ho pins s1 σ H1 _ I1 q1) λu s2 ⟨x,H2,I2,z,a,ov,ex,g,q2⟩=>?_
 subst ex;obtain rfl:u=Value.ref a:=z;exact AhP hu I2 g ry λs3 I3=>⟨.bl ov.isSome,H2,I3,Z,q2⟩
theorem Q1(hu:X.A.units+1<cLine)(ho:PE X o td)(hi:PE X i ty)(hv:PE X value tv)(hs:swapsWith value (some (.Subscript o i pos')) pos.line X.env=pure false) :
  PS X (.Assign [.Subscript o i pos'] value pos) (Af7 td ty tv):=by
 intro pins s σ H D I h;refine wpAny_Assign_Subscript (thn (hv pins s σ H _ I h) λr s1 ⟨v,H1,I1,rv,q1⟩=>thn (ho pins s1 σ H1 _ I1 q1) λu s2 ⟨x,H2,I2,z,q2⟩=>thn (hi pins s2 σ H2 _ I2 q2) λiv s3 ⟨y,H3,I3,ry,a,H4,ex,g,q3⟩=>?_) hs;subst ex;obtain rfl:u=Value.ref a:=z;exact AaN hu I3 g ry rv λs4 I4=>⟨σ,H4,I4,q3⟩
end
theorem Tg(h:Heap)(z:sysModules<h.objs.size):B1 P w H (h.push {cls:=.type "dict",data:=.dict #[]}) h.objs.size (.dK []):=
 ⟨vY _,beq_eq_false_iff_ne.mpr (Ne.symm (vC z)),[],.nil,Heap.DictOf.new h⟩
def Aet:TE:=λ_ H Q=>∀p,H p=none->Q (.ref p) (upd H p (.dK []))
theorem Md:PE X (.Dict [] [] pos) Aet:=λpins s σ H Q I h=>
 wpAny_Dict_empty ⟨.ref s.heap.objs.size,_,I.laid (a:=s.heap.objs.size) (o:=.dK []) (t':=s.toks) (λ_ _ q=>Heap.get?_push_of_some _ q) (uZ _) (Tg s.heap I.big),Z,h _ (I.hok.fresh (uZ _))⟩
def T6:List (TE×TE)->St->Hp->(List (V×V)->Hp->Prop)->Prop
 |[],_,H,Q=>Q [] H
 | (tk,tv)::r,σ,H,Q=>tk σ H λx H1=>tv σ H1 λy H2=>T6 r σ H2 λps H3=>Q ((x,y)::ps) H3
abbrev VV:List (V×V)->List (Value×Value)->Prop:=Paired λp q=>A7 p.1 q.1/\A7 p.2 q.2
def PPs(X:Cx)(pos:Pos)(keys:List (Option Expr))(values:List Expr)(trs:List (TE×TE)):Prop:=
 ∀(pins:List (Addr×Obj))(s:Shared)(σ:St)(H:Hp)(Q:List (V×V)->Hp->Prop),Inv X pins σ H s->T6 trs σ H Q ->
  wpAny (model X.prog X.w) X.A (evalPairs (pairTrees keys values X.env pos)) (λvs s'=>∃ps H',Inv X pins σ H' s'/\VV ps vs/\Q ps H') X.xe s
theorem X7:PPs X pos [] [] []:=λpins s σ H Q I h=>pairTrees_nil_walk ⟨[],H,I,.nil,h⟩
theorem Ol{k:Expr}{tk tv:TE}(hk:PE X k tk)(hv:PE X v tv)(hr:PPs X pos ks vs z) :
  PPs X pos (some k::ks) (v::vs) ((tk,tv)::z):=λpins s σ H Q I h=>
 pairTrees_cons_walk (thn (hk pins s σ H _ I h) λu s1 ⟨x,H1,I1,rx,q1⟩=>thn (hv pins s1 σ H1 _ I1 q1) λw2 s2 ⟨y,H2,I2,ry,q2⟩=>
  thn (hr pins s2 σ H2 _ I2 q2) λws s3 ⟨ps,H3,I3,a1,q3⟩=>⟨(x,y)::ps,H3,I3,.cons ⟨rx,ry⟩ a1,q3⟩)
def Ed(kvs more:List (Key×V)):List (Key×V):=more.foldl (λacc kv=>Fd acc kv.1 kv.2) kvs
theorem KV.merge:∀{more:List (Key×V)}{rs:List (Key×Value)}{kvs:List (Key×V)}{vs:List (Key×Value)},KV more rs->KV kvs vs->KV (Ed kvs more) (merged vs rs):=by
 intro more rs kvs vs r;unfold KV at r
 induction r generalizing kvs vs with
 |nil=>intro q;exact q
 |@cons p q ps qs h t z=>
  intro r0
  have e:KV (Fd kvs p.1 p.2) (stored vs q.1 q.2):=by
   have:=r0.put p.1 h.2;rw[<-h.1];exact this
  exact z e
theorem Mi:∀(more kvs:List (Key×V)),(Ed kvs more).length<=kvs.length+more.length
 |[],kvs=>by show kvs.length<=kvs.length+0;omega
 |p::r,kvs=>by
  have h1:=Mi r (Fd kvs p.1 p.2);have h2:=K0 kvs p.1 p.2;show(Ed (Fd kvs p.1 p.2) r).length<=_;rw[uV];omega
theorem P0{P:Program}{w:World}:∀{kvs:List (Key×V)}{ws:List (Value×Value)},VV (kvs.map λz=>(kV z.1,z.2)) ws->∃rs,Carries (mixKind P w) ws rs/\KV kvs rs
 |[],_,r=>by rw[map_nil]at r;cases r;exact⟨[],True.intro,.nil⟩
 |p::kvs,_,r=>by
  rw[vS]at r;cases r with
  |@cons a b as bs h t=>
   obtain⟨rs,c,q⟩:=P0 (P:=P) (w:=w) t;obtain⟨b1,b2⟩:=b;exact⟨(p.1,b2)::rs,⟨Pj h.1,Z,c⟩,.cons ⟨Z,h.2⟩ q⟩
def AgS(trs:List (TE×TE)):TE:=λσ H Q=>∀p,H p=none->T6 trs σ (upd H p (.dK [])) λps H2=>H2 p=some (.dK [])/\∃kvs:List (Key×V),ps=kvs.map (λkv=>(kV kv.1,kv.2))/\kvs.length<=15/\Q (.ref p) (upd H2 p (.dK (Ed [] kvs)))
theorem W0(h:PPs X pos a1 a2 a4)(a5:a1.all (·.isSome)=true)(hl:a1.length=a2.length)(h0:a1≠[])
  (a6:a1.length<=15):PE X (.Dict a1 a2 pos) (AgS a4):=by
 intro pins s σ H Q I q;have hn:=I.hok.fresh (uZ s.heap.objs.size);have I1:=I.laid (a:=s.heap.objs.size) (o:=.dK []) (h':=s.heap.push {cls:=.type "dict",data:=.dict #[]}) (t':=s.toks) (λ_ _ q=>Heap.get?_push_of_some _ q) (uZ _) (Tg s.heap I.big);refine wpAny_Dict_walk (knd:=mixKind X.prog X.w) a5 hl h0 a6 (thn (h pins _ σ _ _ I1 (q _ hn)) λws s2 ⟨ps,H2,I2,a7,e,kvs,ep,lk,q2⟩=>?_);subst ep;obtain⟨rs,c,rk⟩:=P0 (P:=X.prog) (w:=X.w) a7;obtain⟨z,hd,a8,r0,dd⟩:=Ac7 I2.hok e;cases r0
 refine⟨rs,c,dd,λh' a3 hs=>⟨.ref s.heap.objs.size,_,?_,Z,q2⟩⟩
 have hz:(Ed [] kvs).length<=sizeLine:=by
  have h1:=Mi kvs [];rw[length_nil]at h1;rw[sizeLine_eq];omega
 have he:∃q,h'.get? s.heap.objs.size=some q:=let ⟨q,_,_,hq,_⟩:=a3;⟨q,hq⟩
 exact Q8 I2 (by rw[e];exact True.intro) hs he (AbL hz hd (rk.merge .nil) a3)
structure M1(X:Cx)(o:Expr)(m:Str)(apos:Pos)(e:Expr)(cpos:Pos):Prop where
 base:attributeBase o m X.env (eval o X.env)=eval o X.env
 few:((backTo cpos (starEach [e] X.env)).all (λx=>!x.1)&&(backToKw cpos (keywordEach [] X.env)).all (λx=>x.1.isSome)
  && decide (([e]:List Expr).length+([]:List Keyword).length+(if ([]:List Keyword).isEmpty then 0 else 1)<30))=true
 line:(apos.endLine==cpos.line)=true
 trees:backTo cpos (starEach [e] X.env)=[(false,eval e X.env)]
structure M2(X:Cx)(o:Expr)(m:Str)(apos:Pos)(e f:Expr)(cpos:Pos):Prop where
 base:attributeBase o m X.env (eval o X.env)=eval o X.env
 few:((backTo cpos (starEach [e,f] X.env)).all (λx=>!x.1)&&(backToKw cpos (keywordEach [] X.env)).all (λx=>x.1.isSome)
  && decide (([e,f]:List Expr).length+([]:List Keyword).length+(if ([]:List Keyword).isEmpty then 0 else 1)<30))=true
 line:(apos.endLine==cpos.line)=true
 trees:backTo cpos (starEach [e,f] X.env)=[(false,eval e X.env),(false,eval f X.env)]
section
variable{s:Shared}{y d:V}{r:Value}{o:Option V}
end
section
variable{o f:Expr}{cpos:Pos}{td ty tx:TE}
end
section
variable{s:Shared}{kvs:List (Key×V)}
end
section
variable{s:Shared}{y:V}
end
section
variable{κ:Type} [DecidableEq κ]
end
def Mz(K:FA)(a:Addr)(vs:List V):Prop:=∃(o:Obj)(its:Array Value)(n:Nat),K.lookup a=some o/\o.cls=.type "tuple" /\ o.data=.seq its n/\its.size<=sizeLine/\A8 vs its.toList
def Er(K:FA)(H:Hp)(a:Addr)(vs:List V):Prop:=H a=some (.tup vs)\/Mz K a vs
theorem Er.mono(T:Tp H H'){vs:List V}(h:Er K H a vs):Er K H' a vs:=h.elim (λz=>.inl (T a vs z)) .inr
theorem Er.sq{vs:List V}(h:Er K H a vs):SqT K H a vs:=h.elim SqT.of .inr
mutual
def PAt(K:FA)(H:Hp):Nd->V->Prop
 |.s x,v=>v=.str x
 |.i n,v=>v=.int n
 |.t xs,v=>∃a vs,v=.ref a/\Er K H a vs/\Ba K H xs vs
def Ba(K:FA)(H:Hp):List Nd->List V->Prop
 |[],vs=>vs=[]
 |x::xs,vs=>∃v r,vs=v::r/\PAt K H x v/\Ba K H xs r
end
mutual
theorem PAt.mono(T:Tp H H'):∀{n:Nd}{v:V},PAt K H n v->PAt K H' n v
 |.s x,v,h=>h
 |.i n,v,h=>h
 |.t xs,v,h=>by
  obtain⟨a,vs,e,q,r⟩:=h;exact⟨a,vs,e,q.mono T,Ba.mono T r⟩
theorem Ba.mono(T:Tp H H'):∀{xs:List Nd}{vs:List V},Ba K H xs vs->Ba K H' xs vs
 |[],vs,h=>h
 |x::xs,vs,h=>by
  obtain⟨v,r,e,q,l⟩:=h;exact⟨v,r,e,PAt.mono T q,Ba.mono T l⟩
end
theorem Ba.nil:Ba K H [] []:=by unfold Ba;rfl
theorem Ba.cons{K:FA}{H:Hp}{x:Nd}{xs:List Nd}{v:V}{r:List V}(a:PAt K H x v)(l:Ba K H xs r):Ba K H (x::xs) (v::r):=by unfold Ba;exact⟨v,r,Z,a,l⟩
theorem PAt.s:PAt K H (.s x) (.str x):=by unfold PAt;rfl
theorem PAt.i{x:Int}:PAt K H (.i x) (.int x):=by unfold PAt;rfl
theorem PAt.t{xs:List Nd}{vs:List V}(h:Er K H a vs)(l:Ba K H xs vs):PAt K H (.t xs) (.ref a):=by unfold PAt;exact⟨a,vs,Z,h,l⟩
theorem PAt.get{xs:List Nd}{v:V}(h:PAt K H (.t xs) v):∃a vs,v=.ref a/\Er K H a vs/\Ba K H xs vs:=by unfold PAt at h;exact h
theorem PAt.str{v:V}(h:PAt K H (.s x) v):v=.str x:=by unfold PAt at h;exact h
theorem PAt.int{x:Int}{v:V}(h:PAt K H (.i x) v):v=.int x:=by unfold PAt at h;exact h
theorem Ba.len:∀{xs:List Nd}{vs:List V},Ba K H xs vs->xs.length=vs.length
 |[],vs,h=>by unfold Ba at h;subst h;rfl
 |x::xs,vs,h=>by
  unfold Ba at h;obtain⟨v,r,rfl,q,l⟩:=h;simp[Ba.len l]
theorem Ba.append:∀{xs ys:List Nd}{vs ws:List V},Ba K H xs vs->Ba K H ys ws->Ba K H (xs++ys) (vs++ws)
 |[],ys,vs,ws,h,l=>by unfold Ba at h;subst h;exact l
 |x::xs,ys,vs,ws,h,l=>by
  unfold Ba at h;obtain⟨v,r,rfl,q,l'⟩:=h;exact .cons q (Ba.append l' l)
theorem Ba.at:∀{xs:List Nd}{vs:List V}{i:Nat}{v:V},Ba K H xs vs->vs[i]?=some v->∃x,xs[i]?=some x/\PAt K H x v
 |[],vs,i,v,h,e=>by unfold Ba at h;subst h;simp at e
 |x::xs,vs,i,v,h,e=>by
  unfold Ba at h;obtain⟨w,r,rfl,q,l⟩:=h;cases i with
  |zero=>simp at e;subst e;exact⟨x,rfl,q⟩
  |succ i=>
   obtain⟨y,e',z⟩:=Ba.at (i:=i) l (by simpa using e);exact⟨y,by simpa using e',z⟩
theorem Ba.split:∀{xs ys:List Nd}{vs:List V},Ba K H (xs++ys) vs->∃us ws,vs=us++ws/\Ba K H xs us/\Ba K H ys ws
 |[],ys,vs,h=>⟨[],vs,rfl,.nil,h⟩
 |x::xs,ys,vs,h=>by
  have h:=h;unfold Ba at h;obtain⟨v,r,rfl,q,l⟩:=h;obtain⟨us,ws,rfl,a,b⟩:=Ba.split l;exact⟨v::us,ws,Z,.cons q a,b⟩
theorem Ba.one{x:Nd}{vs:List V}(h:Ba K H [x] vs):∃v,vs=[v]/\PAt K H x v:=by
 unfold Ba at h;obtain⟨v,r,rfl,q,l⟩:=h;unfold Ba at l;subst l;exact⟨v,Z,q⟩
theorem Ba.two{x y:Nd}{vs:List V}(h:Ba K H [x,y] vs):∃v w,vs=[v,w]/\PAt K H x v/\PAt K H y w:=by
 unfold Ba at h;obtain⟨v,r,rfl,q,l⟩:=h;obtain⟨w,rfl,z⟩:=l.one;exact⟨v,w,Z,q,z⟩
def TyK(K:FA)(H:Hp)(x:V)(t:Value):Prop:=Hu K H x t\/∃a vs,x=.ref a/\Mz K a vs/\t=.type "tuple"
theorem AbT{n:Nd}{v:V}(h:PAt K H n v):∃t,TyK K H v t/\kitOne K t (.type "tuple")=some (isT n):=by
 cases n with
 |s x=>cases h.str;exact⟨_,.inl (.str x),rfl⟩
 |i x=>cases h.int;exact⟨_,.inl (.int x),rfl⟩
 |t xs=>
  obtain⟨a,vs,rfl,q,_⟩:=h.get;rcases q with q|q
  ·exact⟨_,.inl (.tup q),Z⟩
  ·exact⟨_,.inr ⟨a,vs,Z,q,Z⟩,Z⟩
inductive Xq(K:FA)(xs:List V)(H:Hp)(Q:VK):Prop
 |mk(x:V)(T:String)(t:Value)(b:Bool)(_:xs=[x,.ty T])(_:TyK K H x t)(_:kitOne K t (.type T)=some b)(_:Q (.bl b) H)
def Za(K:FA):List V->Hp->VK->Prop:=λxs H Q=>Xq K xs H Q
theorem Mn:Ge X (.builtin "isinstance") (Za X.K):=by
 intro pins s σ H xs us Q I r h;obtain⟨x,T,t,b,rfl,ty,e,q⟩:=h;obtain⟨u,v,rfl,ru,rv⟩:=r.two;cases rv
 rcases ty with ty|⟨a,vs,rfl,⟨o,a1,n,lk,hc,hd,hz,rr⟩,rfl⟩
 ·exact Aan I ru ty e λtk=>⟨.bl b,H,I.tok _,Z,q⟩
 ·cases ru
  exact kia_one kitx_tuple I.kIn ⟨o,I.kIn _ _ lk,hc⟩ e (λz=>nomatch z) λtk=>⟨.bl b,H,I.tok _,Z,q⟩
def AfK:V->List V->Hp->VK->Prop:=λx vs H Q=>∃l xs y j z,x=.ref l/\vs=[y]/\H l=some (.lst xs)/\Fp y=true/\xs.all Fp=true/\xs[j]?=some z/\eqV z y=true/\(∀m z',m<j->xs[m]?=some z'->eqV z' y=false)/\Q (.int (j:Nat)) H
theorem AcU:MtM X "list.index" AfK:=by
 intro pins s σ H x vs v us Q I rx rv h;obtain⟨l,xs,y,j,z,rfl,rfl,hH,fy,fx,hj,hz,a8,q⟩:=h;cases rx
 obtain⟨u,rfl,ru⟩:=rv.one;obtain⟨hl,a1,n,r,a2,e⟩:=I.lstM hH;have a4:j<a1.length:=by rw[<-a2];exact(List.getElem?_eq_some_iff.mp hj).1
 have at':∀(m:Nat)(hm:m<a1.toArray.size),∃z',xs[m]?=some z'/\eqU y a1.toArray[m]=eqV z' y:=by
  intro m hm;have a3:m<xs.length:=by rw[a2];simpa using hm
  refine⟨xs[m],uA a3,?_⟩;obtain⟨w',ew,a5⟩:=r.get (i:=m) (x:=xs[m]) (uA a3)
  have e2:a1.toArray[m]=w':=by
   have:a1[m]?=some a1.toArray[m]:=by simp
   rw[ew]at this;exact(Option.some.inj this).symm
  rw[e2];exact T8 a5 (all_eq_true.mp fx _ (vI a3))
 refine call_meets F.slot_list_index ⟨_,e,Z⟩ F.entry_list_index (F.args_list_index_2 _ _) (SeqAt.list_indexAt l a1.toArray n none #[] u (eqU y) j (by simpa using a4) ?_ ?_ ?_) ⟨e,?_,?_⟩
 ·have:=K8
  omega
 ·obtain⟨z',e1,e2⟩:=at' j (by simpa using a4)
  rw[hj]at e1;cases e1
  rw[e2];exact hz
 ·intro m hm a6
  obtain⟨z',e1,e2⟩:=at' m hm;rw[e2];exact a8 m z' a6 e1
 ·intro w' a7
  exact Hy ru fy r fx w' (by simpa using a7)
 ·exact⟨.int (j:Nat),H,I.tok _,⟨_,Z⟩,q⟩
def Bb(P:Program)(w:World)(K:FA)(mg:Str->Option Value)(base:Heap)(k:Nat)(C:Addr)(m:Str)(ps:List Str)(sp:Sp):Prop:=
 ∃f fd,Ca P w K mg base CX0 k f fd ps sp/\Dh K fd ps []/\Jp K C m f/\Cls K C
section
variable{o:Expr}{m:Str}{j:Nat}{E:XK}{t:TA}
theorem Jk(M:Bb X.prog X.w X.K X.mg X.base j C m ps sp)(hr:Ct k X.A)(hx:Gq CX0 X E)(he:PE X o ta)(hj:j<=k:=by first|decide|omega)
  (ht:eval (.Call (.Attribute o m apos) [] [] pos) X.env=(do
   let ov <-eval o X.env
   standAt apos.atName
   let (f,first) <-holding [ov] (getMethod ov m pl)
   callWith pos f first (backTo pos (starEach [] X.env)) (backToKw pos (keywordEach [] X.env))):=by rfl):PE X (.Call (.Attribute o m apos) [] [] pos) (Pp C m sp [] E ta Dj):=by
 obtain⟨f,fd,F,b,z,c⟩:=M;exact Ab7 he c z (F.mono hj) hr b .nil hx ht
end
def Kp(r:Addr)(H H':Hp):Prop:=∀b o,b≠r->H b=some o->H' b=some o
theorem Kp.trans{H1:Hp}(a:Kp r H H1)(b:Kp r H1 H2):Kp r H H2:=λc o h e=>b c o h (a c o h e)
theorem Same.kp(g:Same H H'):Kp r H H':=λb o _ e=>g b o e
theorem Kp.upd:Kp r H (L2.upd H r o):=λb u h e=>by rw[upd_ne h];exact e
theorem Same.byKp{H1:Hp}(g:Same H H1)(h:H r=none)(k:Kp r H1 H2):Same H H2:=λb o e=>k b o (ne_of_none e h) (g b o e)
theorem E2{A B:Prop}(h:¬x=y)(hB:B):if decide (V.str x=V.str y)=true then A else B:=by
 rw[uJ λz=>h (V.str.inj z),if_neg qc];exact hB
theorem Jr{A B:Prop}(z:A):if decide (V.str x=V.str x)=true then A else B:=by
 rw[uI rfl,if_pos rfl];exact z
theorem Ba.three{x y z:Nd}{vs:List V}(h:Ba K H [x,y,z] vs):∃v w u,vs=[v,w,u]/\PAt K H x v/\PAt K H y w/\PAt K H z u:=by
 unfold Ba at h;obtain⟨v,r,rfl,q,l⟩:=h;obtain⟨w,u,rfl,q',a1⟩:=l.two;exact⟨v,w,u,Z,q,q',a1⟩
theorem Ba.four{x y z z':Nd}{vs:List V}(h:Ba K H [x,y,z,z'] vs):∃v w u u',vs=[v,w,u,u']/\PAt K H x v/\PAt K H y w/\PAt K H z u/\PAt K H z' u':=by
 unfold Ba at h;obtain⟨v,r,rfl,q,l⟩:=h;obtain⟨w,u,u',rfl,q',a1,q3⟩:=l.three;exact⟨v,w,u,u',Z,q,q',a1,q3⟩
inductive EqD(K:FA)(H:Hp):Nat->V->V->Prop where
 |flat {d:Nat} {x y:V}:Fp x=true->Fp y=true->eqV x y=true->EqD K H d x y
 |same {d:Nat} {a:Addr}:EqD K H d (.ref a) (.ref a)
 |lst {d:Nat} {a b:Addr} {xs ys:List V}:SqL K H a xs->SqL K H b ys->xs.length=ys.length->(∀(i:Nat)(x y:V),xs[i]?=some x->ys[i]?=some y->EqD K H d x y)->EqD K H (d+1) (.ref a) (.ref b)
 |tup {d:Nat} {a b:Addr} {xs ys:List V}:SqT K H a xs->SqT K H b ys->xs.length=ys.length->(∀(i:Nat)(x y:V),xs[i]?=some x->ys[i]?=some y->EqD K H d x y)->EqD K H (d+1) (.ref a) (.ref b)
theorem Om(n:Nat):((List.range n).all λ_=>true)=true:=by simp
theorem O7{pins:List (Addr×Obj)}{σ:St}{H:Hp}{K:FA}{d:Nat}(r1:A8 xs us)(r2:A8 ys ws)(hl:xs.length=ys.length)
  (h:∀(i:Nat)(x y:V),xs[i]?=some x->ys[i]?=some y->∀u v,A7 x u->A7 y v->SeqAt.EqAt A s u v true) :
  ∀j(h1:j<us.toArray.size)(h2:j<ws.toArray.size),SeqAt.EqAt A s us.toArray[j] ws.toArray[j] true:=by
 intro j h1 h2;have l1:=r1.length;have l2:=r2.length;have z:j<xs.length:=by simpa [l1] using h1
 have a1:j<ys.length:=by simpa [l2] using h2
 obtain⟨u,eu,ru⟩:=r1.get (i:=j) (x:=xs[j]) (uA z);obtain⟨v,ev,rv⟩:=r2.get (i:=j) (x:=ys[j]) (uA a1)
 have e1:us.toArray[j]=u:=by
  have:us[j]?=some us.toArray[j]:=by simp
  rw[eu]at this;exact(Option.some.inj this).symm
 have e2:ws.toArray[j]=v:=by
  have:ws[j]?=some ws.toArray[j]:=by simp
  rw[ev]at this;exact(Option.some.inj this).symm
 rw[e1,e2];exact h j _ _ (uA z) (uA a1) u v ru rv
theorem AfC(I:Inv X pins σ H s):∀{d:Nat}{x y:V},EqD X.K H d x y->∀(A:Around),A.units+d<cLine->∀u v,A7 x u->A7 y v->SeqAt.EqAt A s u v true:=by
 intro d x y h
 induction h with
 |flat f1 f2 e=>
  intro A hA u v ru rv;have z:=AaT (A:=A) (s:=s) ru rv f1 f2;rw[e]at z;exact z
 |same=>
  intro A hA u v ru rv;cases ru
  cases rv
  exact SeqAt.EqAt.same _
 |@lst d a b xs ys h1 h2 hl hi ih=>
  intro A hA u v ru rv;cases ru
  cases rv
  by_cases a1:a=b
  ·subst a1;exact SeqAt.EqAt.same _
  obtain⟨us,r1,p1,z1⟩:=I.list h1;obtain⟨ws,r2,p2,z2⟩:=I.list h2;have l1:=r1.length;have l2:=r2.length;refine SeqAt.EqAt.of_refs a1 ?_;have q:=SeqAt.RcAt.lists (A:=A) (e:=λ_=>true) p1.isList p2.isList (by simp;omega) (by omega) (O7 (pins:=pins) (σ:=σ) (H:=H) (K:=X.K) (d:=d) r1 r2 hl λi x y hx hy u v ru rv=>ih i x y hx hy A.in1 (by show A.units+1+d<cLine;omega) u v ru rv);rw[Om]at q;exact q
 |@tup d a b xs ys h1 h2 hl hi ih=>
  intro A hA u v ru rv;cases ru
  cases rv
  by_cases a1:a=b
  ·subst a1;exact SeqAt.EqAt.same _
  obtain⟨us,r1,p1,z1⟩:=I.tuple h1;obtain⟨ws,r2,p2,z2⟩:=I.tuple h2;have l1:=r1.length;have l2:=r2.length;refine SeqAt.EqAt.of_refs a1 ?_;have q:=SeqAt.RcAt.tuples (A:=A) (e:=λ_=>true) (show s.heap.IsTuple a us.toArray from p1) (show s.heap.IsTuple b ws.toArray from p2) (by omega) (O7 (pins:=pins) (σ:=σ) (H:=H) (K:=X.K) (d:=d) r1 r2 hl λi x y hx hy u v ru rv=>ih i x y hx hy A.in1 (by show A.units+1+d<cLine;omega) u v ru rv);rw[Om,show(us.toArray.size==ws.toArray.size)=true by simp;omega]at q;exact q
def Go(xs:Array Nat):Prop:=xs.toList.Pairwise (· < ·)
structure E4(led:Bool)(t:SetTable):Prop where
 led:t.led=led
 dum:t.dummies = #[]
 rise:Go t.place
theorem Go.lt{xs:Array Nat}(h:Go xs)(hj:j<xs.size)(a1:i<j):xs[i]'(by omega)<xs[j]:=by
 have z:=List.pairwise_iff_getElem.mp h i j (by simp;omega) (by simpa using hj) a1
 simpa using z
theorem Acj{xs:Array Nat}(h:Go xs):∀(a1 lo hi:Nat),lo<=hi->hi<=xs.size->hi-lo<=a1->(∀i(q:i<xs.size),i<lo->xs[i]<j)->(∀i(q:i<xs.size),hi<=i->j<=xs[i]) ->
  SetTable.below.go xs j a1 lo hi<=xs.size/\(∀i(q:i<xs.size),i<SetTable.below.go xs j a1 lo hi->xs[i]<j)/\(∀i(q:i<xs.size),SetTable.below.go xs j a1 lo hi<=i->j<=xs[i]):=by
 intro a1
 induction a1 with
 |zero=>
  intro lo hi h1 h2 h3 h4 h5;have e:lo=hi:=by omega
  subst e;unfold SetTable.below.go;exact⟨h2,h4,h5⟩
 |succ a1 ih=>
  intro lo hi h1 h2 h3 h4 h5;unfold SetTable.below.go
  by_cases c:lo<hi
  ·rw[if_pos c]
   dsimp only;have hm:(lo+hi)/2<xs.size:=by omega
   have eg:xs.getD ((lo+hi)/2) j=xs[(lo+hi)/2]:=by simp[Array.getD,hm]
   by_cases d:xs.getD ((lo+hi)/2) j<j
   ·rw[if_pos d]
    rw[eg]at d;refine ih _ _ (by omega) h2 (by omega) (λi a2 hl=>?_) h5;rcases lt_or_ge i ((lo+hi)/2) with z|z
    ·exact lt_trans (h.lt hm z) d
    ·have:i=(lo+hi)/2:=by omega
     subst this;exact d
   ·rw[if_neg d]
    rw[eg]at d;refine ih _ _ (by omega) (by omega) (by omega) h4 (λi a2 hl=>?_);rcases lt_or_ge ((lo+hi)/2) i with z|z
    ·have:=h.lt a2 z;omega
    ·have:i=(lo+hi)/2:=by omega
     subst this;omega
  ·rw[if_neg c]
   have e:lo=hi:=by omega
   subst e;exact⟨h2,h4,h5⟩
theorem O4{xs:Array Nat}(h:Go xs)(j:Nat):SetTable.below xs j<=xs.size/\(∀i(hi:i<xs.size),i<SetTable.below xs j->xs[i]<j)/\(∀i(a1:i<xs.size),SetTable.below xs j<=i->j<=xs[i]):=
 Acj h xs.size 0 xs.size (vY _) (uZ _) (by omega) (λ_ _ z=>by omega) (λi hi z=>by omega)
theorem Zc{xs:Array Nat}(h:Go xs)(hi:i<xs.size):SetTable.below xs (xs[i]+1)=i+1:=by
 obtain⟨h1,h2,h3⟩:=O4 h (xs[i]+1);rcases Nat.lt_trichotomy (SetTable.below xs (xs[i]+1)) (i+1) with z|z|z
 ·have:=h3 i hi (by omega);omega
 ·exact z
 ·have a:=h2 (i+1) (by omega) (by omega)
  have b:=h.lt (i:=i) (j:=i+1) (by omega) (by omega);omega
theorem Z4{xs:Array Nat}(h:Go xs):SetTable.below xs 0=0:=by
 obtain⟨h1,h2,h3⟩:=O4 h 0;rcases Nat.eq_zero_or_pos (SetTable.below xs 0) with z|z
 ·exact z
 ·have:=h2 0 (by omega) z;omega
theorem Zp(n:Nat):Go (Array.range n):=by
 unfold Go;rw[Array.toList_range];exact List.pairwise_lt_range
theorem Acc{xs:Array Nat}(h:Go xs)(hn:xs[SetTable.below xs j]?≠some j):Go (SetTable.insertAt xs (SetTable.below xs j) j):=by
 obtain⟨h1,h2,h3⟩:=O4 h j;unfold Go;rw[SetTable.toList_insertAt,List.pairwise_append];refine⟨Pairwise.sublist (List.take_sublist _ _) h,?_,?_⟩
 ·rw[vQ]
  refine⟨λy hy=>?_,Pairwise.sublist (List.drop_sublist _ _) h⟩;obtain⟨i,hi,rfl⟩:=List.mem_iff_getElem.mp hy;rw[length_drop,Array.length_toList]at hi;rw[List.getElem_drop,Array.getElem_toList];have a:=h3 (SetTable.below xs j+i) (by omega) (by omega);rcases Nat.eq_zero_or_pos i with z|z
  ·subst z
   rcases lt_or_ge j (xs[SetTable.below xs j+0]'(by omega)) with y|y
   ·exact y
   ·exact absurd (by rw[Array.getElem?_eq_getElem (by omega)];congr 1;simp at a y ⊢;omega) hn
  ·have b:=h3 (SetTable.below xs j) (by omega) (uZ _)
   have c:=h.lt (i:=SetTable.below xs j) (j:=SetTable.below xs j+i) (by omega) (by omega);omega
 ·intro a ha b hb
  obtain⟨i,hi,rfl⟩:=List.mem_iff_getElem.mp ha;rw[vE,Array.length_toList]at hi;rw[List.getElem_take,Array.getElem_toList];have q:=h2 i (by omega) (by omega);rcases vJ.mp hb with z|z
  ·omega
  ·obtain⟨l,hl,rfl⟩:=List.mem_iff_getElem.mp z
   rw[length_drop,Array.length_toList]at hl;rw[List.getElem_drop,Array.getElem_toList];have:=h3 (SetTable.below xs j+l) (by omega) (by omega);omega
theorem Rn(j:Nat):SetTable.has #[] j=false:=by
 unfold SetTable.has;simp
theorem AcA{f:Nat->Int}{h:Int}(hd:t.dummies = #[]):∀(a1:Nat)(p:SetTable.Probe)(j:Nat)(d:Option Nat),p.dummy=none->SetTable.probe.go t f h a1 p=some (.empty j d)->d=none/\t.place[SetTable.below t.place j]?≠some j:=by
 intro a1
 induction a1 with
 |zero=>intro p j d _ e;unfold SetTable.probe.go at e;cases e
 |succ a1 ih=>
  intro p j d hp e;unfold SetTable.probe.go at e
  have hs:t.slot p.j=(if t.place[SetTable.below t.place p.j]? == some p.j then SetTable.Slot.live (SetTable.below t.place p.j) else SetTable.Slot.empty):=by
   unfold SetTable.slot;dsimp only;rw[hd,Rn];rfl
  rw[hs]at e
  have a2:(t.advance p).dummy=none:=by
   unfold SetTable.advance;split
   ·exact hp
   ·exact hp
  by_cases c:(t.place[SetTable.below t.place p.j]? == some p.j)=true
  ·rw[if_pos c]at e
   dsimp only at e;split at e
   ·cases e
   ·exact ih _ _ _ a2 e
  ·rw[if_neg c]at e
   dsimp only at e;cases e
   exact⟨hp,λz=>c (by rw[z];simp)⟩
theorem AeA{t:SetTable}{h:Int}{j:Nat}{b:Bool}(hd:t.dummies = #[])(e:t.freeSlot h=some (j,b)):t.place[SetTable.below t.place j]?≠some j:=by
 unfold SetTable.freeSlot SetTable.probe at e;split at e
 ·rename_i j' d hq
  obtain⟨rfl,z⟩:=AcA hd _ _ _ _ rfl hq;cases e
  exact z
 ·cases e
theorem E4.standIn{led:Bool}{t:SetTable}(h:E4 led t)(n:Nat):E4 led (t.standIn n):=⟨h.led,Z,Zp n⟩
theorem E4.plainOff{led:Bool}{t:SetTable}(h:E4 led t):E4 led {t with plain:=false}:=⟨h.led,h.dum,h.rise⟩
theorem E4.layNew{led:Bool}{t:SetTable}(h:E4 led t)(es:Array (Int×Value))(k:Int)(x:Value):E4 led (layNew t es k x).2.1:=by
 unfold PySem.layNew;split
 ·rename_i j b e
  dsimp only;have z:=AeA h.dum e
  have q:E4 led (t.put j).1:=by
   unfold SetTable.put;refine⟨h.led,?_,Acc h.rise z⟩;dsimp only;rw[h.dum,Rn];rfl
  unfold SetTable.orStandIn;split
  ·exact q
  ·exact q.standIn _
 ·exact h.standIn _
theorem Abs(owner:Array (Option Nat))(m:Nat):Go (((List.range m).filterMap λj=>(owner.getD j none).map (j,·)).map (·.1)).toArray:=by
 unfold Go
 have e:((List.range m).filterMap λj=>(owner.getD j none).map (j,·)).map (·.1)=(List.range m).filter λj=>(owner.getD j none).isSome:=by
  induction List.range m with
  |nil=>rfl
  |cons a l z=>
   rw[filterMap_cons,filter_cons];cases q:owner.getD a none with
   |none=>simpa [q] using z
   |some y=>simpa [q] using z
 simp only[e];exact Pairwise.sublist List.filter_sublist List.pairwise_lt_range
theorem E4.relay{led:Bool}{t:SetTable}(h:E4 led t)(es:Array (Int×Value))(n:Nat):E4 led (relayAll t es n).2.1:=by
 unfold relayAll;split
 ·rename_i t' z e
  dsimp only;split
  ·unfold SetTable.relaid SetTable.laid at e
   simp only[Option.bind_eq_bind,Option.bind_eq_some_iff]at e;obtain⟨owner,_,e2⟩:=e;cases e2
   exact⟨h.led,Z,Abs owner _⟩
  ·exact h.standIn _
 ·exact h.standIn _
theorem L3{z:Type}:∀(l:List z)(i:Nat)(h:i<l.length),(l[i]::l.eraseIdx i).Perm l
 |[],i,h=>by simp at h
 |a::l,0,h=>by simp
 |a::l,i+1,h=>by
  have hi:i<l.length:=by simpa using h
  have:=L3 l i hi;simp only[List.getElem_cons_succ,List.eraseIdx_cons_succ];exact(List.Perm.swap _ _ _).trans (this.cons a)
theorem AdQ{α:Type}(next:Nat->Nat):∀(z k:Nat)(left:List α)(a1:Array α),left.length=z->(pickOrder.go next z k left a1).toList.Perm (a1.toList++left):=by
 intro z
 induction z with
 |zero=>
  intro k left a1 hl;rw[length_eq_zero_iff.mp hl];unfold pickOrder.go;simp
 |succ z ih=>
  intro k left a1 hl;have hi:next k%left.length<left.length:=mod_lt _ (by omega);unfold pickOrder.go;rw[uA hi];dsimp only;refine(ih _ _ _ (by rw[List.length_eraseIdx_of_lt hi];omega)).trans ?_;rw[Array.toList_push,append_assoc];refine List.Perm.append_left _ ?_;exact L3 _ _ hi
theorem Mu{z:Type}(next:Nat->Nat)(xs:Array z):(pickOrder next xs).toList.Perm xs.toList:=by
 have:=AdQ next xs.size 0 xs.toList #[] (by simp);unfold pickOrder
 simpa using this
theorem AeD{M:Model}{A:Around}{E:Value->Shared->Prop}{z:Type}:∀(n:Nat)(xs:List z)(s:Shared)(Q:List z->Shared->Prop),xs.length=n ->
  (∀ys d,List.Perm ys xs->Q ys {s with drawn:=d})->wpAny M A (drawOrder n xs) Q E s:=by
 intro n
 induction n with
 |zero=>
  intro xs s Q hl h;unfold drawOrder;have e:=length_eq_zero_iff.mp hl;subst e;exact rZ (h [] s.drawn .nil)
 |succ n ih=>
  intro xs s Q hl h;cases xs with
  |nil=>cases hl
  |cons x r=>
   unfold drawOrder;refine rY (m:=choose .order (x::r).length) ?_;intro Γ p a1;show Sem.wp M Γ (.choose .order (x::r).length .pure) _ _ p s;rw[Sem.wp_choose];refine⟨by simp,?_⟩;generalize hg:M.w.draws .order (s.drawn.get .order)%(x::r).length=i;have hi:i<(x::r).length:=by rw[<-hg];exact mod_lt _ (by simp)
   have g:wpAny M A (do
     match (x::r)[i]? with
     |some y=>return y::(<-drawOrder n ((x::r).eraseIdx i))
     |none=>unsupported "internal:drawOrder") Q E {s with drawn:=s.drawn.bump .order}:=by
    rw[uA hi];dsimp only;refine rY (ih _ _ _ (by rw[List.length_eraseIdx_of_lt hi];simp at hl ⊢;omega) λys d hp=>rZ ?_);exact h _ d ((List.Perm.cons _ hp).trans (L3 _ _ hi))
   trace_state
   exact g
theorem Kz{α β:Type}{F:α->β->Prop}{l l':List α}(p:List.Perm l' l):∀{ms:List β},PySem.Paired F l ms->∃z,List.Perm z ms/\PySem.Paired F l' z:=by
 replace p:=p.symm
 induction p with
 |nil=>intro ms h;exact⟨ms,.refl _,h⟩
 |cons x _ ih=>
  intro ms h;cases h with
  |cons f t=>
   obtain⟨z,q,r⟩:=ih t;exact⟨_::z,q.cons _,.cons f r⟩
 |swap x y l=>
  intro ms h;cases h with
  |cons f t=>
   cases t with
   |cons g u=>exact⟨_,List.Perm.swap _ _ _,.cons g (.cons f u)⟩
 |trans _ _ a2 a1=>
  intro ms h;obtain⟨m1,p1,r1⟩:=a2 h;obtain⟨m2,p2,r2⟩:=a1 r1;exact⟨m2,p2.trans p1,r2⟩
theorem Kl{κ:Type} [DecidableEq κ]:∀{l l':List κ},l.Nodup->(∀x∈l,x∈l')->l.length<=l'.length
 |[],_,_,_=>vY _
 |a::t,l',n,h=>by
  have n:=vR.mp n;have ha:=h a uF;have:=Kl (l:=t) (l':=l'.erase a) n.2 λx z=>(List.mem_erase_of_ne (show x≠a from λe=>n.1 (e▸z))).mpr (h x (uG _ z))
  rw[List.length_erase_of_mem ha]at this;have hp:=length_pos_of_mem ha;rw[uV];omega
section
variable{κ:Type} [DecidableEq κ] (knd:PySem.KeyKind prog w κ)
structure Ds(h:Heap)(a:Addr)(ks:List κ)(o:Obj)(es:Array (Int×Value))(ep:Nat)(t:SetTable)(ms:List κ):Prop where
 at':h.get? a=some o
 ex:o.ExactSet
 dat:o.data=.set es ep t
 el:ElemsOf knd es.toList
 pr:PySem.Paired (λe k=>knd.is k e.2=true) es.toList ms
 nd:ms.Nodup
 mem:∀k,k∈ms↔k∈ks
 sm:es.size<scanBound
 fit:t.fits es.size=true
 tab:E4 (!w.params.followText "set-order") t
def SetT(h:Heap)(a:Addr)(ks:List κ):Prop:=∃o es ep t ms,Ds knd h a ks o es ep t ms
variable{knd}
variable{s:Shared}{ks:List κ}{k:κ}{x:Value}
theorem Ds.keep{o es ep t ms}(S:Ds knd h a ks o es ep t ms)(k:h'.get? a=some o):Ds knd h' a ks o es ep t ms:=⟨k,S.ex,S.dat,S.el,S.pr,S.nd,S.mem,S.sm,S.fit,S.tab⟩
theorem SetT.keep(S:SetT knd h a ks)(k:∀o,h.get? a=some o->h'.get? a=some o):SetT knd h' a ks:=by
 obtain⟨o,es,ep,t,ms,D⟩:=S;exact⟨o,es,ep,t,ms,D.keep (k o D.at')⟩
theorem SetT.congr(S:SetT knd h a ks)(e:∀k,k∈ks↔k∈z):SetT knd h a z:=by
 obtain⟨o,es,ep,t,ms,D⟩:=S;exact⟨o,es,ep,t,ms,⟨D.at',D.ex,D.dat,D.el,D.pr,D.nd,λk=>(D.mem k).trans (e k),D.sm,D.fit,D.tab⟩⟩
theorem Ds.size{o es ep t ms}(S:Ds knd h a ks o es ep t ms):es.size=ms.length:=by rw[<-PySem.Paired.length S.pr];simp
theorem Ds.put{o es ep t ms}(S:Ds knd h a ks o es ep t ms)(e1:ElemsOf knd z.toList)(e2:PySem.Paired (λe k=>knd.is k e.2=true) z.toList a1)(e3:a1.Nodup)
  (e4:∀k,k∈a1↔k∈a2) (e5:z.size<scanBound) (e6:t'.fits z.size=true) (e7:E4 (!w.params.followText "set-order") t') :
  ∃o',Ds knd (h.update a (Obj.putSet z t')) a a2 o' z (ep+1) t' a1:=by
 have hg:=Heap.get?_update_self (Obj.putSet z t') S.at' (by rw[putSet_of z t' S.dat];rfl);rw[putSet_of z t' S.dat]at hg;exact⟨_,hg,S.ex,Z,e1,e2,e3,e4,e5,e6,e7⟩
theorem AdH{l:List (Int×Value)}{ms:List κ}(p:PySem.Paired (λe k=>knd.is k e.2=true) l ms):k∈ms↔∃e∈l,knd.is k e.2=true:=by
 induction p with
 |nil=>simp
 |cons f _ ih=>
  rename_i e m l ms _
  rw[vJ,ih];constructor
  ·rintro(rfl|⟨z,h1,h2⟩)
   ·exact⟨e,uF,f⟩
   ·exact⟨z,uG _ h1,h2⟩
  ·rintro⟨z,h1,h2⟩
   rcases vJ.mp h1 with rfl|h1
   ·exact .inl (knd.inj _ _ _ h2 f)
   ·exact .inr ⟨z,h1,h2⟩
theorem Uy{g:Bool->Sem Unit}(hg:∀(b:Bool)(a1:Shared)(Q':Unit->Shared->Prop),Q' () a1->wpAny (model prog w) A (g b) Q' E a1){o es ep t ms}(S:Ds knd s.heap a ks o es ep t ms)
  {z:Array (Int×Value)} {t1:SetTable} {a2 a3:List κ} (e1:ElemsOf knd z.toList) (e2:PySem.Paired (λe k=>knd.is k e.2=true) z.toList a2) (e3:a2.Nodup)
  (e4:∀k,k∈a2↔k∈a3) (e5:z.size<scanBound) (e6:t1.fits z.size=true) (e7:E4 (!w.params.followText "set-order") t1) {dm:Bool} {R:Option Bool->Shared->Prop}
  (h:∀h',Heap.SameBut a s.heap h'->SetT knd h' a a3->R (some true) {s with heap:=h' }) :
  wpAny (model prog w) A (do
   storeSet a z t1
   if (!dm&&t1.tooFull)=true then do
    g (relayAll t1 z (SetTable.grown z.size)).2.2
    storeSet a (relayAll t1 z (SetTable.grown z.size)).1 (relayAll t1 z (SetTable.grown z.size)).2.1
    pure (some true)
   else pure (some true)) R E s:=by
 refine rY (wpAny_storeSet_of S.at' S.dat ?_ (fits_of_scanBound e5));obtain⟨o1,S1⟩:=S.put e1 e2 e3 e4 e5 e6 e7;have b1:=Heap.SameBut.update s.heap a (Obj.putSet z t1)
 by_cases c:(!dm&&t1.tooFull)=true
 ·rw[if_pos c]
  have p2:=relayAll_perm t1 z (SetTable.grown z.size);have f2:=relayAll_fits t1 z (SetTable.grown z.size);have q2:=e7.relay z (SetTable.grown z.size);generalize relayAll t1 z (SetTable.grown z.size)=Rl at p2 f2 q2 ⊢;obtain⟨a4,t2,gv⟩:=Rl;dsimp only at p2 f2 q2 ⊢;obtain⟨a5,pm,r2⟩:=Kz p2 e2;have hz:a4.size=z.size:=by have:=p2.length_eq;simpa using this
  refine rY (hg _ _ _ ?_);refine rY (wpAny_storeSet_of S1.at' S1.dat ?_ (fits_of_scanBound (by omega)));obtain⟨o2,S2⟩:=S1.put (e1.perm p2) r2 (pm.nodup_iff.mpr e3) (λk=>pm.mem_iff.trans (e4 k)) (by omega) f2 q2;exact rZ (h _ (b1.trans (Heap.SameBut.update _ a _)) ⟨_,_,_,_,_,S2⟩)
 ·rw[if_neg c]
  exact rZ (h _ b1 ⟨_,_,_,_,_,S1⟩)
theorem AaL{Q:Bool->Shared->Prop}(hk:knd.is k x=true)(hx:x.scannable=true)(S:SetT knd s.heap a ks)(hr:ks.length+1<scanBound)
  (h:∀b h',Heap.SameBut a s.heap h'->SetT knd h' a (ks++[k])->Q b {s with heap:=h' }):wpAny (model prog w) A (setAddHashed a x (knd.hash k)) Q E s:=by
 obtain⟨o,es,ep,t,ms,D⟩:=S;have hz:=D.size;have a7:ms.length<=ks.length:=Kl D.nd λk hk=>(D.mem k).mp hk
 unfold setAddHashed setAddHashedIn;refine vW (rY (wpAny_setState_of D.at' D.dat D.fit ?_));dsimp only;rw[byScan_of hx D.sm D.el,if_pos rfl];unfold setAddByScan;refine rY (rY (wpAny_rule (rY (wpAny_setScan_of hk D.at' D.dat D.fit D.el ?_))));cases hf:List.findIdx? (λe=>knd.is k e.2) es.toList with
 |some j=>
  dsimp only;obtain⟨hj,pj,_⟩:=List.findIdx?_eq_some_iff_getElem.mp hf;have a5:k∈ms:=(AdH D.pr).mpr ⟨_,vI hj,pj⟩;refine rZ (rZ ?_);have q:=h false s.heap (Heap.SameBut.refl a s.heap) (SetT.congr ⟨o,es,ep,t,ms,D⟩ λk'=>?_)
  ·cases s;exact q
  ·rw[uW,vD]
   exact⟨.inl,λz=>z.elim id λz=>by subst z;exact(D.mem _).mp a5⟩
 |none=>
  dsimp only
  have a4:¬k∈ms:=λz=>by
   obtain⟨e,he,q⟩:=(AdH D.pr).mp z;have:=List.findIdx?_eq_none_iff.mp hf e he;rw[q]at this;cases this
  have p1:=layNew_perm t es (knd.hash k) x;have f1:=layNew_fits t es (knd.hash k) x;have q1:=D.tab.layNew es (knd.hash k) x;generalize layNew t es (knd.hash k) x=L at p1 f1 q1 ⊢;obtain⟨a6,t1,dm,gv⟩:=L;dsimp only at p1 f1 q1 ⊢;rw[Array.toList_push]at p1;have e1:=(D.el.push hk hx).perm p1;obtain⟨a2,pm,r1⟩:=Kz p1 (D.pr.snoc (F:=λ(e:Int×Value)k=>knd.is k e.2=true) hk);have z1:a6.size=es.size+1:=by have:=p1.length_eq;simpa using this
  have e3:a2.Nodup:=pm.nodup_iff.mpr (nodup_append.mpr ⟨D.nd,by simp,λy hy z hz=>by rw[vD]at hz;subst hz;exact λe=>a4 (e▸hy)⟩);have e4:∀k',k'∈a2↔k'∈ks++[k]:=λk'=>by rw[pm.mem_iff,uW,uW,D.mem]
  have gw:∀(b:Bool)(a1:Shared)(Q':Unit->Shared->Prop),Q' () a1->wpAny (model prog w) A (match b with|true=>rule "set.scan.the-table-gave-way" |false=>pure ()) Q' E a1:=λb a1 Q' q=>by
   cases b
   ·exact rZ q
   ·exact wpAny_rule q
  refine rY (gw _ _ _ ?_);have a3:∀h',Heap.SameBut a s.heap h'->SetT knd h' a (ks++[k])->wpAny (model prog w) A (pure true) Q E {s with heap:=h' }:=λh' b S'=>rZ (h true h' b S')
  split
  ·refine rY ?_
   rw[hashByValue_scannable 8 hx];refine rZ ?_;refine Uy gw D e1 r1 e3 e4 (by omega) (by split;exact f1;exact SetTable.fits_plain_off f1) (by split;exact q1;exact q1.plainOff) ?_;intro h' b S';exact a3 h' b S'
  ·refine rY (rZ ?_)
   rw[if_pos rfl];refine Uy gw D e1 r1 e3 e4 (by omega) f1 q1 ?_;intro h' b S';exact a3 h' b S'
end
section
variable{κ:Type} [DecidableEq κ] {knd:PySem.KeyKind prog w κ}
theorem AcV{R:Result->Shared->Prop}{G:Array GenState->Array GenState->Prop}{P:Nat->Value->Prop}{St:Nat->Shared->Prop}(W:WalksS prog w A.in1 I fp wr G n P St)(S:Addr)(a4:S∉fp)
  (ks:List κ) (hn:ks.length=n) (hv:∀i v,P i v->∃k,ks[i]?=some k/\knd.is k v=true/\v.scannable=true) (hb:n+1<scanBound) :
  ∀(j i:Nat)(s:Shared),n-i=j->i<=n->St i s->SetT knd s.heap S (ks.take i)->(∀s',Moved (S::wr) G s s'->SetT knd s'.heap S ks->R (.ok (.ret .none)) s') ->
   codeAny (model prog w) A (.builtin "set.update.loop" ⟨[.ref S,.ref I],[]⟩) R s:=by
 have a3:S∉wr:=λh=>a4 (W.sub _ h)
 have a2:∀b∈wr,b∈S::wr:=λb hb=>uG _ hb
 intro j
 induction j with
 |zero=>
  intro i s hj hi st hS hR;have e:i=n:=by omega
  subst e;refine codeAny_builtin PyProof.Rows.F.entry_set_update_loop ?_;rw[Around.under_plainId PyProof.Rows.F.plain_set_update_loop _];refine rY (m:=pyNext (.ref I)) (W.done s _ _ st λs' mv=>?_);refine rZ (hR s' (mv.mono a2) ?_);rw[uQ (by omega)]at hS;exact hS.keep λo q=>mv.heap S o a3 q
 |succ j ih=>
  intro i s hj hi st hS hR;have a1:i<n:=by omega
  refine codeAny_builtin PyProof.Rows.F.entry_set_update_loop ?_;rw[Around.under_plainId PyProof.Rows.F.plain_set_update_loop _];refine rY (m:=pyNext (.ref I)) (W.item i s _ _ a1 st λv s' hP a8 mv=>?_);obtain⟨k,ek,hk,hx⟩:=hv i v hP;have a7:=hS.keep λo q=>mv.heap S o a3 q
  show wpAny _ A.in1 (holding [v] (setAdd S v)>>=_) _ _ s'
  refine rY (vW ?_);unfold setAdd;refine vW (rY (knd.pyHash (k:=k) hk ?_));refine AaL (s:={s' with toks:=s'.toks+1}) hk hx a7 (by rw[vE];omega) λb h' sb S2=>?_
  have et:ks.take (i+1)=ks.take i++[k]:=by rw[take_add_one,ek];rfl
  refine rZ ⟨plainId_quiet PyProof.Rows.F.plain_set_update_loop _,ih (i+1) _ (by omega) a1 (W.frame _ s' _ _ a8 (le_succ _) λb hb o q=>?_) (by rw[et];exact S2) λa9 a5 a6=>?_⟩
  ·exact(sb.2 b (λz:b=S=>a4 (z▸hb))).trans q
  ·refine hR a9 (Moved.trans W.gtrans ((mv.mono a2).then_heap (le_succ _) λb o hb q=>?_) a5) a6
   exact(sb.2 b (λz:b=S=>hb (by rw[z];exact uF))).trans q
variable{s:Shared}
abbrev setNew(w:World):Obj:={cls:=.type "set",dict:=none,data:=.set #[] 0 (.fresh 0 0 (!w.params.followText "set-order"))}
theorem Wu(a:Value){Q:Value->Shared->Prop}(h:Q (.ref s.heap.objs.size) {s with heap:=s.heap.push (setNew w)}) :
  codeAny (model prog w) A (.call (.builtin "set.__new__") ⟨[.type "set",a],[]⟩) (wants Q E) s:=by
 refine codeAny_of_tree ?_;refine rY (m:=checkBuiltinCall "set.__new__" ⟨[.type "set",a],[]⟩) (wpAny_of_eq (PySem.F.newCall_set_1 a) (rZ ⟨plainId_quiet PySem.F.plain_set_new _,codeAny_builtin PySem.F.entry_set_new ?_⟩));rw[Around.under_plainId PySem.F.plain_set_new _];unfold Builtin.«set.__new__» Builtin.Frozenset.newClass;have z:=sub_set_self;obtain⟨hp,g,d,tk,os⟩:=s;dsimp only
 wp_walk
 refine wpAny_askSetting (rZ ?_);dsimp only;simp only[newObj];refine rY (wpAny_alloc (rZ ?_));exact rZ h
theorem AbU(e:h.get? a=some (setNew w)):SetT knd h a []:=
 ⟨_,#[],0,_,[],e,⟨rfl,rfl,rfl⟩,Z,λe z=>by simp at z,.nil,by simp,λk=>Iff.rfl,by decide,Z,⟨Z,Z,by unfold Go;exact .nil⟩⟩
end
section
variable{κ:Type} [DecidableEq κ] {knd:PySem.KeyKind prog w κ} {s:Shared}
def K9(knd:PySem.KeyKind prog w κ)(s:Shared)(ks:List κ)(s2:Shared):Prop:=∃h' tk,s2 = {s with heap:=h',toks:=tk}/\SetT knd h' s.heap.objs.size ks/\∀b o,b<s.heap.objs.size->s.heap.get? b=some o->h'.get? b=some o
theorem Ab4(hh:A.handled=none)(hl:s.heap.IsList l z)(hn:ks.length=z.size)(hv:∀(i:Nat)(v:Value),z[i]?=some v->∃k,ks[i]?=some k/\knd.is k v=true/\v.scannable=true)(hb:z.size+1<scanBound)
  {Q:Unit->Shared->Prop} (h:∀s2,K9 knd s ks s2->Q () s2) :
  wpAny (model prog w) A (Builtin.Frozenset.updateFrom "set.__init__" s.heap.objs.size (.ref l)) Q E {s with heap:=s.heap.push (setNew w)}:=by
 obtain⟨ol,a3,a4,nl,a8⟩:=id hl;have a1:=Heap.get?_push_of_some (setNew w) a3;have ty:Shared.TypeIs {s with heap:=s.heap.push (setNew w)} (.ref l) "list":=⟨ol,a1,a4⟩;have a2:l<s.heap.objs.size:=Heap.lt_size a3;have a5:(s.heap.push (setNew w)).IsList l z:=⟨_,a1,a4,nl,a8⟩;have f1:=PySem.F.sub_list_set;have f2:=PySem.F.sub_list_frozenset;unfold Builtin.Frozenset.updateFrom;refine rY (m:=Builtin.Frozenset.isAnySet (.ref l)) ?_
 have e0:Builtin.Frozenset.isAnySet (.ref l)=(isInstance (.ref l) (.type "set")>>=λb=>if b=true then pure true else isInstance (.ref l) (.type "frozenset")):=by
  unfold Builtin.Frozenset.isAnySet orM toBool
  congr 1
  funext b
  cases b<;>rfl
 rw[e0];refine rY (wpAny_isInstance ty f1 ?_);rw[if_neg qc];refine wpAny_isInstance ty f2 ?_;rw[if_neg qc];refine rY (wpAny_typeOf ty ?_);rw[if_neg (by decide)];refine rY (wpAny_pyIter_list a5 ?_);refine rY (wpAny_runValue ?_);have b1:A.in1.handled=none:=hh;have a7:l≠(s.heap.push (setNew w)).objs.size:=by rw[Heap.size_push];exact vC (lt_succ_of_lt a2)
 have a9:s.heap.objs.size∉[(s.heap.push (setNew w)).objs.size,l]:=by
  rw[Heap.size_push];simp only[vJ,vG,or_false,not_or];exact⟨vC (lt_succ_self _),ne_of_gt a2⟩
 refine AcV (knd:=knd) ((Walks.list b1 _ l a7 z).toS) s.heap.objs.size a9 ks hn hv hb (z.size-0) 0 _ (by omega) (vY _) ⟨⟨_,Heap.get?_push_size _ rfl,Z,Z⟩,a5.push _⟩ ?_ ?_
 ·exact AbU (Heap.get?_push_of_some _ (Heap.get?_push_size _ rfl))
 ·intro s' mv S'
  refine rZ (h _ ⟨s'.heap,s'.toks,?_,S',λb o hb e=>?_⟩)
  ·obtain⟨h',g',d',b2,a6⟩:=s'
   have eg:g'=s.gens:=mv.gens;have ed:d'=s.drawn:=mv.drawn;have eo:a6=s.os:=mv.os;subst eg ed eo;rfl
  ·refine mv.heap b o ?_ (Heap.get?_push_of_some _ (Heap.get?_push_of_some _ e))
   rw[Heap.size_push];simp only[vJ,vG,or_false,not_or];exact⟨vC hb,vC (lt_succ_of_lt hb)⟩
theorem Aam{Q:Value->Shared->Prop}(hh:A.handled=none)(hl:s.heap.IsList l a1)(hn:ks.length=a1.size)(hv:∀(i:Nat)(v:Value),a1[i]?=some v->∃k,ks[i]?=some k/\knd.is k v=true/\v.scannable=true)
  (hb:a1.size+1<scanBound) (h:∀s2,K9 knd s ks s2->Q (.ref s.heap.objs.size) s2):wpAny (model prog w) A (call (.type "set") [.ref l]) Q E s:=by
 obtain⟨c,tl,hm⟩:=PySem.F.called_set.mro;have q1:=PySem.F.called_set.made;have q2:=PySem.F.called_set.sub;refine wpAny_call (codeAny_of_tree ?_);refine rZ ⟨Code.quiet_builtin _ (by trivial),codeAny_builtin PySem.F.entry_type_call ?_⟩;rw[Around.under_plain (weight_type_call_type "set" [.ref l] []) rfl];have q3:=PySem.F.called_set.notType;have q4:=PySem.F.called_set.canCreate;have q5:=PySem.F.typeCall_set_1 (.ref l)
 repeat any_goals (first|wp_step|assumption)
 refine codeAny_mono (Wu (w:=w) (.ref l) (E:=E) (Q:=λobj a4=>obj=.ref s.heap.objs.size/\a4 = {s with heap:=s.heap.push (setNew w)}) ⟨Z,Z⟩) λr a4 hr=>?_
 cases r with
 |error e=>exact hr
 |ok fl=>
  cases fl with
  |ret obj=>
   obtain⟨rfl,rfl⟩:=hr;have hS:(s.heap.push (setNew w)).get? s.heap.objs.size=some (setNew w):=Heap.get?_push_size _ rfl;have ty:Shared.TypeIs {s with heap:=s.heap.push (setNew w)} (.ref s.heap.objs.size) "set":=⟨_,hS,Z⟩;have q6:=PySem.F.called_set.init.lookup;have q7:=PySem.F.called_set.init.bind (.ref s.heap.objs.size)
   repeat any_goals (first|wp_step|assumption)
   refine codeAny_mono (codeAny_call_builtin (R:=wants (λr a3=>r=.none/\K9 knd s ks a3) E) PySem.F.called_set.init.plain PySem.F.entry_set_init (check_set_init_1 ty ?_)) λa7 a3 a2=>?_
   ·unfold Builtin.«set.__init__» noKeywords
    generalize hU:Builtin.Frozenset.updateFrom=U
    have a6:wpAny (model prog w) A.in1.in1 (U "set.__init__" s.heap.objs.size (.ref l)) (λ_ s2=>K9 knd s ks s2) (λe s'=>wants (λr a3=>r=.none/\K9 knd s ks a3) E (.error e) s') {s with heap:=s.heap.push (setNew w)}:=by
     rw[<-hU];exact Ab4 (A:=A.in1.in1) hh hl hn hv hb λs2 m=>m
    wp_walk
    refine vV a6 (λ_ s2 m=>?_) λ_ _ q=>q
    exact rZ ⟨Z,m⟩
   ·cases a7 with
    |error e=>exact a2
    |ok a5=>
     cases a5 with
     |ret r=>
      obtain⟨rfl,m⟩:=a2;have z:=h _ m
      repeat any_goals (first|wp_step|assumption)
     |_=>exact a2.elim
  |_=>exact hr.elim
end
theorem B2:Slot "set_iterator" "__next__" "set_iterator.__next__":=
 .of (owner:="set_iterator") (n:="__next__") (by rw[typeLookup_type,builtinLookup_eq_fast];kernel_rfl) (by trivial) (by trivial) (by trivial)
  (by first|exact .inl (by trivial)|exact .inr (by trivial)) (by rw[isSubtype_type];kernel_rfl)
theorem Fn:entryFor table "set_iterator.__next__"= some Builtin.«set_iterator.__next__»:=entryFor_of_tree (by kernel_rfl)
theorem Pe:Manifest.owners.lookup (String.ofList ['r','o','t','a','r','e','t','i','_','t','e','s'].reverse)=some Manifest.sig_set_iterator:=by kernel_rfl
theorem F8(a:Value):argsOk "set_iterator.__next__" ⟨[a],[]⟩:=by
 unfold argsOk;rw[signature?_of (id:="set_iterator.__next__") (n:=['_','_','t','x','e','n','_','_']) (o:=['r','o','t','a','r','e','t','i','_','t','e','s']) (by kernel_rfl) Pe]
 kernel_rfl
theorem Qy:entryFor table "set.__iter__"= some Builtin.«frozenset.__iter__» :=
 entryFor_alias (id':="frozenset.__iter__") (by kernel_rfl) rfl (by trivial) (by kernel_rfl)
abbrev itObj(first:Value)(i:Nat)(a:Addr)(n ep:Nat):Obj:={cls:=.type "set_iterator",dict:=none,data:=.fields #[first,.int i 0,.ref a,.int n 0,.int ep 0],slots:=#[]}
section
variable{s:Shared}{I:Addr}{i ep:Nat}{Q:Option Value->Shared->Prop}
theorem Vj(z:A.handled=none)(ho:s.heap.get? I=some o)(hd:o.data=.fields vs)(hm:m<vs.size){R:PySem.Fin->Shared->Prop}{E':Value->Shared->Prop}
  (h:∀x h',(⟨h',s.gens,s.drawn,s.toks,s.os⟩:Shared).TypeIs x "StopIteration" -> Heap.ExtBut I s.heap h'->E' x {s with heap:=h' }) :
  wpAny (model prog w) A (do setField (.ref I) m .none;raiseNew (<-newExc (.type "StopIteration") [])) R E' s:=by
 refine rY (wpAny_setField ho hd hm ?_);refine rY (m:=newExc (.type "StopIteration") []) ?_;simp only[newExc,newTuple];refine rY (wpAny_newObj_type ?_ (by size_fits));refine rY (m:=firstArgMember _ _) (wpAny_of_eq (a:=Value.none) (by first|rfl|(simp only[firstArgMember];rfl)) ?_);refine wpAny_newObj_type ?_ (by size_fits);simp only[raiseNew];refine rY (wpAny_handled ?_);rw[z];refine rY (rZ (wpAny_throw ?_));exact h _ _ ⟨_,Heap.get?_push_size _ rfl,Z⟩ (((Heap.SameBut.update ..).extBut.push _).push _)
theorem Vl{slot nx:Nat}{x:Value}(ho:s.heap.get? I=some (itObj (.int slot 0) i a n ep))(hz:∀(A:Around)(E:Value->Shared->Prop)(Q:Array (Int×Value)->Shared->Prop),(∀es,es.size=n->Q es s)->wpAny (model prog w) A (setEntries a) Q E s)
  (hN:∀(A:Around)(E:Value->Shared->Prop)(Q:Option (Value×Nat)->Shared->Prop),Q (some (x,nx)) s->wpAny (model prog w) A (setNext a slot i ep) Q E s)
  (hQ:∀h',h'.get? I=some (itObj (.int nx 0) (i+1) a n ep)->Heap.SameBut I s.heap h'->Q (some x) {s with heap:=h' }):wpAny (model prog w) A (pyNext (.ref I)) Q E s:=by
 have ty:s.TypeIs (.ref I) "set_iterator":=⟨_,ho,Z⟩;unfold pyNext;refine rY (wpAny_attempt (wpAny_callSpecial?_slot (name:=Str.ofString "__next__") ty B2 (vZ B2 ty Fn ?_ (F8 _))));unfold Builtin.«set_iterator.__next__»;refine rY (m:=slotArgs "__next__" 0 _) (rZ ?_);refine rY (wpAny_fieldsOf ho rfl ?_);show wpAny _ _ (setEntries a>>=_) _ _ s;refine rY (hz _ _ _ λes e=>?_);rw[if_neg (by rw[e];simp)];show wpAny _ _ (setNext a (slot:Int).toNat (i:Int).toNat (ep:Int).toNat>>=_) _ _ s;simp only[Int.toNat_natCast];refine rY (hN _ _ _ ?_);dsimp only;refine rY (zA ho (by simp) λh1 e1 z=>?_);refine rY (zA (s:={s with heap:=h1}) e1 (by simp) λh2 e2 b2=>?_);refine rZ ⟨_,Z,rZ (hQ h2 ?_ (z.trans b2))⟩;rw[e2];simp[rawInt]
theorem Vf{slot:Nat}(hh:A.handled=none)(ho:s.heap.get? I=some (itObj (.int slot 0) i a n ep))(hz:∀(A:Around)(E:Value->Shared->Prop)(Q:Array (Int×Value)->Shared->Prop),(∀es,es.size=n->Q es s)->wpAny (model prog w) A (setEntries a) Q E s)
  (hN:∀(A:Around)(E:Value->Shared->Prop)(Q:Option (Value×Nat)->Shared->Prop),Q none s->wpAny (model prog w) A (setNext a slot i ep) Q E s)
  (hQ:∀h',Heap.ExtBut I s.heap h'->Q none {s with heap:=h' }):wpAny (model prog w) A (pyNext (.ref I)) Q E s:=by
 have ty:s.TypeIs (.ref I) "set_iterator":=⟨_,ho,Z⟩;unfold pyNext;refine rY (wpAny_attempt (wpAny_callSpecial?_slot (name:=Str.ofString "__next__") ty B2 (vZ B2 ty Fn ?_ (F8 _))));unfold Builtin.«set_iterator.__next__»;refine rY (m:=slotArgs "__next__" 0 _) (rZ ?_);refine rY (wpAny_fieldsOf ho rfl ?_);show wpAny _ _ (setEntries a>>=_) _ _ s;refine rY (hz _ _ _ λes e=>?_);rw[if_neg (by rw[e];simp)];show wpAny _ _ (setNext a (slot:Int).toNat (i:Int).toNat (ep:Int).toNat>>=_) _ _ s;simp only[Int.toNat_natCast];refine rY (hN _ _ _ ?_);dsimp only;refine Vj (A:=A.in1) hh ho rfl (by simp) λx h' z b=>?_
 refine rY (wpAny_isInstance (T:="StopIteration") (b:=true) z isSubtype_stop ?_);exact rZ (hQ h' b)
theorem AcR{pl:List Nat}{q:Nat}{x:Value}{h0:Int}{z:Array (Int×Value)}{t:SetTable}(ho:s.heap.get? I=some (itObj (.ref tp) i a n ep))(a1:s.heap.get? tp=some {cls:=.type "tuple",data:=.seq (pl.map λ(p:Nat)=>rawInt p).toArray})(hz:∀(A:Around)(E:Value->Shared->Prop)(Q:Array (Int×Value)->Shared->Prop),(∀es,es.size=n->Q es s)->wpAny (model prog w) A (setEntries a) Q E s)
  (hS:∀(A:Around)(E:Value->Shared->Prop)(Q:Array (Int×Value)×Nat×SetTable->Shared->Prop),Q (z,ep,t) s->wpAny (model prog w) A (setState a) Q E s)
  (hp:pl[i]?=some q) (hx:z[q]?=some (h0,x)) (hQ:∀h',h'.get? I=some (itObj (.ref tp) (i+1) a n ep)->Heap.SameBut I s.heap h'->Q (some x) {s with heap:=h' }):wpAny (model prog w) A (pyNext (.ref I)) Q E s:=by
 have ty:s.TypeIs (.ref I) "set_iterator":=⟨_,ho,Z⟩;unfold pyNext;refine rY (wpAny_attempt (wpAny_callSpecial?_slot (name:=Str.ofString "__next__") ty B2 (vZ B2 ty Fn ?_ (F8 _))));unfold Builtin.«set_iterator.__next__»;refine rY (m:=slotArgs "__next__" 0 _) (rZ ?_);refine rY (wpAny_fieldsOf ho rfl ?_);show wpAny _ _ (setEntries a>>=_) _ _ s;refine rY (hz _ _ _ λes e=>?_);rw[if_neg (by rw[e];simp)];show wpAny _ _ (seqItems? (.ref tp)>>=_) _ _ s;refine rY (wpAny_seqItems a1 rfl ?_);dsimp only;have hq:(pl.map λ(p:Nat)=>rawInt p).toArray[(i:Int).toNat]?=some (rawInt q):=by simp[hp]
 rw[hq];show wpAny _ _ (setNextDrawn a (q:Int).toNat (ep:Int).toNat>>=_) _ _ s;simp only[Int.toNat_natCast];unfold setNextDrawn;refine rY (rY (hS _ _ _ ?_));dsimp only;rw[if_neg (by simp),hx];refine rZ ?_;refine rY (zA ho (by simp) λh1 e1 b1=>?_);refine rZ ⟨_,Z,rZ (hQ h1 ?_ b1)⟩;rw[e1];simp[rawInt]
theorem AcS{pl:List Nat}(hh:A.handled=none)(ho:s.heap.get? I=some (itObj (.ref tp) i a n ep))(z:s.heap.get? tp=some {cls:=.type "tuple",data:=.seq (pl.map λ(p:Nat)=>rawInt p).toArray})(hz:∀(A:Around)(E:Value->Shared->Prop)(Q:Array (Int×Value)->Shared->Prop),(∀es,es.size=n->Q es s)->wpAny (model prog w) A (setEntries a) Q E s)
  (hp:pl[i]?=none) (hQ:∀h',Heap.ExtBut I s.heap h'->Q none {s with heap:=h' }):wpAny (model prog w) A (pyNext (.ref I)) Q E s:=by
 have ty:s.TypeIs (.ref I) "set_iterator":=⟨_,ho,Z⟩;unfold pyNext;refine rY (wpAny_attempt (wpAny_callSpecial?_slot (name:=Str.ofString "__next__") ty B2 (vZ B2 ty Fn ?_ (F8 _))));unfold Builtin.«set_iterator.__next__»;refine rY (m:=slotArgs "__next__" 0 _) (rZ ?_);refine rY (wpAny_fieldsOf ho rfl ?_);show wpAny _ _ (setEntries a>>=_) _ _ s;refine rY (hz _ _ _ λes e=>?_);rw[if_neg (by rw[e];simp)];show wpAny _ _ (seqItems? (.ref tp)>>=_) _ _ s;refine rY (wpAny_seqItems z rfl ?_);dsimp only;have hq:(pl.map λ(p:Nat)=>rawInt p).toArray[(i:Int).toNat]?=none:=by simpa using hp
 rw[hq];dsimp only;refine rY (zA ho (by simp) λh1 e1 b1=>?_);refine Vj (s:={s with heap:=h1}) (A:=A.in1) hh e1 rfl (by simp) λx h' a1 b=>?_
 refine rY (wpAny_isInstance (T:="StopIteration") (b:=true) a1 isSubtype_stop ?_);exact rZ (hQ h' λb' o' hb e=>b b' o' hb (b1.extBut b' o' hb e))
end
theorem K6:Slot "set_iterator" "__iter__" "set_iterator.__iter__":=
 .of (owner:="set_iterator") (n:="__iter__") (by rw[typeLookup_type,builtinLookup_eq_fast];kernel_rfl) (by trivial) (by trivial) (by trivial)
  (by first|exact .inl (by trivial)|exact .inr (by trivial)) (by rw[isSubtype_type];kernel_rfl)
theorem Pn:entryFor table "set_iterator.__iter__"= some Builtin.«dict_keyiterator.__iter__» :=
 entryFor_alias (id':="dict_keyiterator.__iter__") (by kernel_rfl) rfl (by trivial) (by kernel_rfl)
theorem Qt(a:Value):argsOk "set_iterator.__iter__" ⟨[a],[]⟩:=by
 unfold argsOk;rw[signature?_of (id:="set_iterator.__iter__") (n:=['_','_','r','e','t','i','_','_']) (o:=['r','o','t','a','r','e','t','i','_','t','e','s']) (by kernel_rfl) Pe]
 kernel_rfl
section
variable{κ:Type} [DecidableEq κ] {knd:PySem.KeyKind prog w κ} {s:Shared} {I:Addr} {ks:List κ} {o:Obj} {es:Array (Int×Value)} {ep:Nat} {t:SetTable} {ms:List κ}
theorem Ms{Q:Value->Shared->Prop}(ty:s.TypeIs (.ref I) "set_iterator")(h:Q (.ref I) s):wpAny (model prog w) A (pyIter (.ref I)) Q E s:=by
 refine wpAny_pyIter_slot ty K6 (vZ K6 ty Pn ?_ (Qt _));show wpAny _ _ (ret (.ref I)) _ _ s;exact rZ ⟨_,Z,"set_iterator",_,ty,B2.lookup,h⟩
theorem Nq{Q:Bool->Shared->Prop}(h:Q (w.params.followText "set-order") s):wpAny (model prog w) A setsByText Q E s:=by
 unfold setsByText;exact rY (wpAny_askSetting (rZ h))
theorem Ds.state(D:Ds knd s.heap a ks o es ep t ms){Q:Array (Int×Value)×Nat×SetTable->Shared->Prop}(h:Q (es,ep,t) s):wpAny (model prog w) A (setState a) Q E s:=wpAny_setState_of D.at' D.dat D.fit h
theorem Ds.entries(D:Ds knd s.heap a ks o es ep t ms){Q:Array (Int×Value)->Shared->Prop}(h:Q es s):wpAny (model prog w) A (setEntries a) Q E s:=by
 unfold setEntries;exact rY (D.state (rZ h))
theorem Rj(D:Ds knd s.heap a ks o es ep t ms)(ft:w.params.followText "set-order"= true){Q:Option (Value×Nat)->Shared->Prop}(h:Q (((pickOrder (w.params.setOrder a ep) es)[given]?).map λe=>(e.2,slot)) s) :
  wpAny (model prog w) A (setNext a slot given ep) Q E s:=by
 unfold setNext;refine rY (D.state ?_);dsimp only;refine rY (Nq ?_);rw[if_pos ft,if_neg (by simp)];refine rY ?_;unfold setWalk;refine rY (D.state ?_);dsimp only;refine rY (Nq ?_);rw[if_pos ft];refine rY (wpAny_askSetting (rZ ?_));exact rZ h
theorem P7(D:Ds knd s.heap a ks o es ep t ms)(ft:w.params.followText "set-order"= false)(hd:(!t.plain&&decide (es.size>1))=false){Q:Option (Value×Nat)->Shared->Prop}
  (h:Q (match es[SetTable.below t.place slot]?,t.place[SetTable.below t.place slot]? with|some (_,x),some j=>some (x,j+1)|_,_=>none) s) :
  wpAny (model prog w) A (setNext a slot given ep) Q E s:=by
 have hl:t.led=true:=by rw[D.tab.led,ft];rfl
 unfold setNext;refine rY (D.state ?_);dsimp only;refine rY (Nq ?_);rw[if_neg (by rw[ft];exact qc)];show wpAny _ _ (if (!t.plain&&decide (es.size>1))=true then _ else _) _ _ s;rw[hd,if_neg qc];refine rY ?_;show wpAny _ _ (if (!t.led && !es.isEmpty)=true then _ else _) _ _ s;rw[hl];exact rZ (rZ h)
end
def Mt(pl:Array Nat):Nat->Nat
 |0=>0
 |i+1=>pl.getD i 0+1
theorem Po(h:Go pl)(hi:i<=pl.size):SetTable.below pl (Mt pl i)=i:=by
 cases i with
 |zero=>exact Z4 h
 |succ i=>
  have e:pl.getD i 0=pl[i]:=by simp[Array.getD,show i<pl.size by omega]
  show SetTable.below pl (pl.getD i 0+1)=i+1
  rw[e];exact Zc h (by omega)
section
variable{κ:Type} [DecidableEq κ] {knd:PySem.KeyKind prog w κ} {s:Shared} {I:Addr} {ks:List κ} {o:Obj} {es:Array (Int×Value)} {ep:Nat} {t:SetTable} {ms:List κ}
theorem J1(D:Ds knd s.heap a ks o es ep t ms):∀(A:Around)(E:Value->Shared->Prop)(Q:Array (Int×Value)->Shared->Prop),(∀z,z.size=es.size->Q z s)->wpAny (model prog w) A (setEntries a) Q E s:=λ_ _ _ q=>D.entries (q es rfl)
theorem AbV(D:Ds knd h0 a ks o es ep t ms)(ft:w.params.followText "set-order"= true)(hh:A.handled=none)(a1:a≠I) :
  Walks prog w A I [I,a] [I] es.size (λi v=>((pickOrder (w.params.setOrder a ep) es).toList.map (·.2))[i]?=some v) (λi h=>h.get? I=some (itObj (.int (0:Nat) 0) i a es.size ep)/\h.get? a=some o) where
 sub:=λb hb=>by simp at hb;simp[hb]
 frame:=λ_ _ _ st hk=>⟨hk I (by simp) _ st.1,hk a (by simp) _ st.2⟩
 item:=λi s Q E hi st hQ=>by
  have D':=D.keep st.2;have hp:=(Mu (w.params.setOrder a ep) es).length_eq;have hl:i<(pickOrder (w.params.setOrder a ep) es).size:=by simp at hp;omega
  refine Vl (x:=((pickOrder (w.params.setOrder a ep) es)[i]).2) (nx:=0) st.1 (J1 D') (λ_ _ _ q=>Rj D' ft (by rw[Array.getElem?_eq_getElem hl];exact q)) λh' e1 b1=>?_
  exact hQ _ h' s.toks (by simp[hl]) ⟨e1,(b1.2 a a1).trans st.2⟩ λb u hb e=>b1.extBut b u (λz=>hb (by simp[z])) e
 done:=λs Q E st hQ=>by
  have D':=D.keep st.2;have hp:=(Mu (w.params.setOrder a ep) es).length_eq;have hl:¬es.size<(pickOrder (w.params.setOrder a ep) es).size:=by simp at hp;omega
  refine Vf hh st.1 (J1 D') (λ_ _ _ q=>Rj D' ft (by rw[Array.getElem?_eq_none (by omega)];exact q)) λh' b1=>?_
  exact hQ h' s.toks λb u hb e=>b1 b u (λz=>hb (by simp[z])) e
 self:=λ_ s _ _ st hQ=>Ms ⟨_,st.1,Z⟩ hQ
theorem AaA(D:Ds knd h0 a ks o es ep t ms)(ft:w.params.followText "set-order"= false)(hd:(!t.plain&&decide (es.size>1))=false)(hh:A.handled=none)(a1:a≠I) :
  Walks prog w A I [I,a] [I] es.size (λi v=>(es.toList.map (·.2))[i]?=some v) (λi h=>i<=es.size/\h.get? I=some (itObj (.int (Mt t.place i) 0) i a es.size ep)/\h.get? a=some o) where
 sub:=λb hb=>by simp at hb;simp[hb]
 frame:=λ_ _ _ st hk=>⟨st.1,hk I (by simp) _ st.2.1,hk a (by simp) _ st.2.2⟩
 item:=λi s Q E hi st hQ=>by
  have D':=D.keep st.2.2;have hz:t.place.size=es.size:=by have:=D.fit;simp only[SetTable.fits,Bool.and_eq_true,beq_iff_eq]at this;exact this.1
  refine Vl (x:=es[i].2) (nx:=Mt t.place (i+1)) st.2.1 (J1 D') (λ_ _ _ q=>P7 D' ft hd (by
   rw[Po D.tab.rise (by omega),Array.getElem?_eq_getElem hi,Array.getElem?_eq_getElem (by omega)];have e:Mt t.place (i+1)=t.place[i]'(by omega)+1:=by simp[Mt,Array.getD,show i<t.place.size by omega]
   rw[e]at q;exact q)) λh' e1 b1=>?_
  exact hQ _ h' s.toks (by simp[hi]) ⟨hi,e1,(b1.2 a a1).trans st.2.2⟩ λb u hb e=>b1.extBut b u (λz=>hb (by simp[z])) e
 done:=λs Q E st hQ=>by
  have D':=D.keep st.2.2;have hz:t.place.size=es.size:=by have:=D.fit;simp only[SetTable.fits,Bool.and_eq_true,beq_iff_eq]at this;exact this.1
  refine Vf hh st.2.1 (J1 D') (λ_ _ _ q=>P7 D' ft hd (by
   rw[Po D.tab.rise (by omega),Array.getElem?_eq_none (by omega)];exact q)) λh' b1=>?_
  exact hQ h' s.toks λb u hb e=>b1 b u (λz=>hb (by simp[z])) e
 self:=λ_ s _ _ st hQ=>Ms ⟨_,st.2.1,Z⟩ hQ
abbrev Ps(pl:List Nat):Obj:={cls:=.type "tuple",data:=.seq (pl.map λ(p:Nat)=>rawInt p).toArray}
theorem Zi(D:Ds knd h0 a ks o es ep t ms)(hp:pl.Perm (List.range es.size))(hh:A.handled=none)(a1:a≠I)(a2:tp≠I) :
  Walks prog w A I [I,a,tp] [I] es.size (λi v=>(pl.map λp=>((es[p]?).map (·.2)).getD .none)[i]?=some v) (λi h=>h.get? I=some (itObj (.ref tp) i a es.size ep)/\h.get? a=some o/\h.get? tp=some (Ps pl)) where
 sub:=λb hb=>by simp at hb;simp[hb]
 frame:=λ_ _ _ st hk=>⟨hk I (by simp) _ st.1,hk a (by simp) _ st.2.1,hk tp (by simp) _ st.2.2⟩
 item:=λi s Q E hi st hQ=>by
  have D':=D.keep st.2.1;have hl:i<pl.length:=by rw[hp.length_eq,vF];exact hi
  have hm:pl[i]<es.size:=by have:=hp.mem_iff.mp (vI hl);simpa using this
  refine AcR (q:=pl[i]) (h0:=(es[pl[i]]).1) (x:=(es[pl[i]]).2) st.1 st.2.2 (J1 D') (λ_ _ _ q=>D'.state q) (uA hl) (by rw[Array.getElem?_eq_getElem hm]) λh' e1 b1=>?_
  refine hQ _ h' s.toks ?_ ⟨e1,(b1.2 a a1).trans st.2.1,(b1.2 tp a2).trans st.2.2⟩ λb u hb e=>b1.extBut b u (λz=>hb (by simp[z])) e
  rw[uH,uA hl,Option.map_some,Array.getElem?_eq_getElem hm];rfl
 done:=λs Q E st hQ=>by
  have D':=D.keep st.2.1;refine AcS hh st.1 st.2.2 (J1 D') (getElem?_eq_none (by rw[hp.length_eq,vF];exact uZ _)) λh' b1=>?_
  exact hQ h' s.toks λb u hb e=>b1 b u (λz=>hb (by simp[z])) e
 self:=λ_ s _ _ st hQ=>Ms ⟨_,st.1,Z⟩ hQ
theorem Zr{pl:List Nat}(hp:pl.Perm (List.range es.size)):(pl.map λp=>((es[p]?).map (·.2)).getD .none).Perm (es.toList.map (·.2)):=by
 refine(hp.map _).trans ?_;rw[show(List.range es.size).map (λp=>((es[p]?).map (·.2)).getD Value.none)=es.toList.map (·.2) from ?_];refine ext_getElem (by simp) λi h1 h2=>?_
 simp at h1;simp[h1]
theorem AcJ{Q:Value->Shared->Prop}(D:Ds knd s.heap a ks o es ep t ms)
  (h:∀(h':Heap)(d:Drawn)(I:Addr)(fp:List Addr)(vs:List Value)(St:Nat->Heap->Prop),(∀b u,s.heap.get? b=some u->h'.get? b=some u)->vs.Perm (es.toList.map (·.2))->s.heap.objs.size<=I->(∀b∈fp,b=a\/s.heap.objs.size<=b) ->
   (∀A':Around,A'.handled=none->Walks prog w A' I fp [I] es.size (λi v=>vs[i]?=some v) St)->St 0 h'->Q (.ref I) {s with heap:=h',drawn:=d}):wpAny (model prog w) A (pyIter (.ref a)) Q E s:=by
 have ty:s.TypeIs (.ref a) "set":=⟨o,D.at',D.ex.1⟩;have a3:=Heap.lt_size D.at';have a2:=vC a3;refine wpAny_pyIter_slot ty PySem.F.slot_set_iter (vZ PySem.F.slot_set_iter ty Qy ?_ (PySem.F.args_set_iter_1 _));unfold Builtin.«frozenset.__iter__» Builtin.Frozenset.slot0;refine rY (rY (m:=slotArgs "__iter__" 0 _) (rZ ?_));refine wpAny_of_eq (a:=a) rfl ?_;refine rY (m:=Builtin.Frozenset.sizeOf a) ?_;unfold Builtin.Frozenset.sizeOf;refine rY (D.entries (rZ ?_));refine rY (m:=setDrawn a) ?_;unfold setDrawn;refine rY (D.state ?_);dsimp only;refine rY (Nq (rZ ?_))
 have a1:∀(first:Value)(s1:Shared)(D1:Ds knd s1.heap a ks o es ep t ms)(hk:Q (.ref s1.heap.objs.size) {s1 with heap:=s1.heap.push (itObj first 0 a es.size ep)}),wpAny (model prog w) A.in1 (do
   ret (<-newFields "set_iterator" [first,rawInt 0,.ref a,rawInt es.size,rawInt (<-setEpoch a)])) (λa1 s'=>∃v,a1=.done (.ret v)/\∃T' r,s'.TypeIs v T'/\typeLookup (.type T') "__next__"= pure (some r)/\Q v s') E s1:=by
  intro first s1 D1 hk
  refine rY (wpAny_setEpoch_of D1.at' D1.dat D1.fit ?_);refine rY (wpAny_newObj_type ?_ (by size_fits));exact rZ ⟨_,Z,"set_iterator",_,⟨_,Heap.get?_push_size _ rfl,Z⟩,B2.lookup,hk⟩
 cases ft:w.params.followText "set-order" with
 |true=>
  rw[show(!true&&_)=false from rfl,if_neg qc];refine rY (rZ ?_);refine a1 _ s D ?_
  exact h _ s.drawn s.heap.objs.size _ _ _ (λb u e=>Heap.get?_push_of_some _ e) ((Mu (w.params.setOrder a ep) es).map _) (uZ _) (λb hb=>by simp at hb;rcases hb with z|z;exact .inr (le_of_eq z.symm);exact .inl z)
   (λA' hA=>AbV D ft hA a2) ⟨Heap.get?_push_size _ rfl,Heap.get?_push_of_some _ D.at'⟩
 |false=>
  cases hd:(!t.plain&&decide (es.size>1)) with
  |false=>
   show wpAny _ _ (if (!false&&(!t.plain&&decide (es.size>1)))=true then _ else _) _ _ s
   rw[hd,show(!false&&false)=false from rfl,if_neg qc];refine rY (rZ ?_);refine a1 _ s D ?_
   exact h _ s.drawn s.heap.objs.size _ _ _ (λb u e=>Heap.get?_push_of_some _ e) (.refl _) (uZ _) (λb hb=>by simp at hb;rcases hb with z|z;exact .inr (le_of_eq z.symm);exact .inl z)
    (λA' hA=>AaA D ft hd hA a2) ⟨vY _,Heap.get?_push_size _ rfl,Heap.get?_push_of_some _ D.at'⟩
  |true=>
   show wpAny _ _ (if (!false&&(!t.plain&&decide (es.size>1)))=true then _ else _) _ _ s
   rw[hd,show(!false&&true)=true from rfl,if_pos rfl];refine rY (AeD es.size (List.range es.size) s _ (by simp) λpl d hp=>?_);have a4:pl.length=es.size:=by rw[hp.length_eq,vF]
   refine rY (wpAny_newTuple ?_ (by rw[uB,a4];exact fits_of_scanBound D.sm));refine a1 _ ⟨s.heap.push (Ps pl),s.gens,d,s.toks,s.os⟩ (D.keep (Heap.get?_push_of_some _ D.at')) ?_;have hI:(s.heap.push (Ps pl)).objs.size=s.heap.objs.size+1:=Heap.size_push _ _
   refine h _ d (s.heap.push (Ps pl)).objs.size _ _ _ (λb u e=>Heap.get?_push_of_some _ (Heap.get?_push_of_some _ e)) (Zr hp) (by rw[hI];exact le_succ _) (λb hb=>?_)
    (λA' hA=>Zi (tp:=s.heap.objs.size) D hp hA (by rw[hI];exact vC (lt_succ_of_lt a3)) (by rw[hI];exact vC (lt_succ_self _))) ⟨Heap.get?_push_size _ rfl,Heap.get?_push_of_some _ (Heap.get?_push_of_some _ D.at'),Heap.get?_push_of_some _ (Heap.get?_push_size _ rfl)⟩
   simp at hb;rcases hb with z|z|z
   ·exact .inr (by rw[z];exact le_succ _)
   ·exact .inl z
   ·exact .inr (le_of_eq z.symm)
end
section
variable{κ:Type} [DecidableEq κ] {knd:PySem.KeyKind prog w κ} {s:Shared} {I:Addr} {ks:List κ} {o:Obj} {es:Array (Int×Value)} {ep:Nat} {t:SetTable} {ms:List κ}
theorem Ab6{Q:Bool->Shared->Prop}(ty:s.TypeIs (.ref a) "set")(h:Q false s):wpAny (model prog w) A (Builtin.List.listLengthHint (.ref a)) Q E s:=by
 unfold Builtin.List.listLengthHint;refine rY (wpAny_specialOf ty PySem.F.slot_set_len.lookup ?_);generalize e:("set.__len__": String)=nm
 wp_delta
 rw[show splitId nm=some ("set","__len__") from by subst e;trivial];subst e;refine rY (wpAny_isInstance (T:="set") (b:=true) ty sub_set_self ?_);refine wpAny_ite_split (λc=>absurd c (by decide)) λ_=>?_
 refine wpAny_ite_split (λ_=>?_) λc=>absurd (by trivial) c
 exact rY (wpAny_typeOf ty (rZ h))
theorem Ace(hn:vs.length=n)(h:ItemsOf (λi v=>vs[i]?=some v) z n):z.toList=vs:=by
 refine ext_getElem (by rw[Array.length_toList,h.1,hn]) λi h1 h2=>?_
 have q:vs[i]?=some (z.toList[i]):=h.2 i (z.toList[i]) (by simp at h1;simp[h1]);rw[uA h2]at q;exact(Option.some.inj q).symm
theorem Zw{R:Result->Shared->Prop}(D:Ds knd s.heap a ks o es ep t ms)(hh:A.handled=none)(S:Addr)(a4:S≠a)(res:Value)(hS:s.heap.get? S=some {cls:=.type "list",data:=.seq #[]})
  (h:∀h' tk d a1 c',(∀b u,b≠S->s.heap.get? b=some u->h'.get? b=some u)->h'.get? S=some {cls:=.type "list",dict:=none,data:=.seq a1 c',slots:=#[]}->a1.toList.Perm (es.toList.map (·.2))->R (.ok (.ret res)) {s with heap:=h',drawn:=d,toks:=tk}) :
  wpAny (model prog w) A.in1 (Builtin.List.listExtendWith (.ref S) (.ref a) res)
   (λb5 s'=>match b5 with|.done f=>R (.ok f) s'|.again c'=>c'.quiet=true/\codeAny (model prog w) A c' R s') (λe s'=>R (.error e) s') s:=by
 have ty:s.TypeIs (.ref a) "set":=⟨o,D.at',D.ex.1⟩;have b6:S<s.heap.objs.size:=Heap.lt_size hS;unfold Builtin.List.listExtendWith;refine rY (wpAny_typeOf ty ?_);have e1:Builtin.List.listSameRef (.ref S) (.ref a)=false:=by simp[Builtin.List.listSameRef,a4]
 rw[e1];rw[if_neg (by decide)];refine rY (AcJ D λh1 d I fp vs St k1 pv hI b1 W st=>?_)
 have a6:S∉fp:=λz=>by
  rcases b1 S z with q|q
  ·exact a4 q
  ·exact absurd q (Nat.not_le.mpr b6)
 have a9:vs.length=es.size:=by rw[pv.length_eq];simp
 have go:∀(h2:Heap)(c tk:Nat),St 0 h2->(∀b u,b≠S->s.heap.get? b=some u->h2.get? b=some u)->h2.get? S=some {cls:=.type "list",data:=.seq #[] c} ->
   codeAny (model prog w) A (.builtin "list.extend.loop" ⟨[.ref S,.ref I,res],[]⟩) R {s with heap:=h2,drawn:=d,toks:=tk}:=by
  intro h2 c tk b4 k2 a2;refine codeAny_extend_loopS (W A.in1 hh).toS (fits_of_scanBound D.sm) S a6 res es.size 0 _ #[] c rfl (vY _) b4 a2 (ItemsOf.nil _) λs' a1 c' mv b2 a7=>?_
  have ee:=Ace a9 a7;obtain⟨h',g',d',b7,a8⟩:=s';have eg:g'=s.gens:=mv.gens;have ed:d'=d:=mv.drawn;have eo:a8=s.os:=mv.os;subst eg ed eo;refine h h' b7 _ a1 c' (λb u hb e=>mv.heap b u (λz=>?_) (k2 b u hb e)) b2 (by rw[ee];exact pv);rcases vJ.mp z with z|z
  ·exact hb z
  ·rw[vD]at z
   exact absurd (Heap.lt_size e) (by rw[z];exact not_lt.mpr hI)
 have a3:=k1 _ _ hS;refine rY (vW (Ab6 ⟨o,k1 _ _ D.at',D.ex.1⟩ ?_));refine wpAny_ite_split (λ_=>?_) λ_=>rZ ⟨plainId_quiet PySem.F.plain_extend_loop _,go _ _ _ st (λb u _ e=>k1 b u e) a3⟩
 refine rY (wpAny_rule ?_);refine rY ?_;show wpAny _ _ (updateSeq S (·.push .none)>>=λ_=>updateSeq S (·.pop)) _ _ _;refine rY (wpAny_updateSeq a3 rfl ?_);have a2:=Heap.get?_update_self (Obj.mapSeq (·.push Value.none)) a3 rfl;refine wpAny_updateSeq (hz:=by seq_fits) a2 rfl ?_;have b3:=Heap.get?_update_self (Obj.mapSeq (·.pop)) a2 rfl
 have a5:∀b u,b≠S->h1.get? b=some u->((h1.update S (Obj.mapSeq (·.push Value.none))).update S (Obj.mapSeq (·.pop))).get? b=some u:=λb u hb e=>
  (Heap.get?_update_other _ _ (Ne.symm hb)).trans ((Heap.get?_update_other _ _ (Ne.symm hb)).trans e)
 exact rZ ⟨plainId_quiet PySem.F.plain_extend_loop _,go _ _ _ ((W A.in1 hh).frame 0 _ _ st λb hb u e=>a5 b u (λz=>a6 (z▸hb)) e) (λb u hb e=>a5 b u hb (k1 b u e)) b3⟩
theorem Wp{R:List Value->Shared->Prop}(D:Ds knd s.heap a ks o es ep t ms)(hh:A.handled=none)
  (h:∀(h':Heap)(tk:Nat)(d:Drawn)(vs:List Value),(∀b u,s.heap.get? b=some u->h'.get? b=some u)->s.heap.objs.size<=h'.objs.size->vs.Perm (es.toList.map (·.2))->R vs {s with heap:=h',drawn:=d,toks:=tk}) :
  wpAny (model prog w) A (collect (.ref a)) R E s:=by
 unfold collect;refine rY (wpAny_runValue (codeAny_builtin entry_proto_collect' ?_));rw[Around.under_plainId PySem.F.plain_proto_collect _];refine rY (m:=newList []) (wpAny_newObj_type ?_);refine rZ ⟨plainId_quiet PySem.F.plain_list_iadd _,codeAny_builtin entry_list_iadd' ?_⟩;rw[Around.under_plainId PySem.F.plain_list_iadd _];have hS:(s.heap.push {cls:=.type "list",data:=.seq ([]:List Value).toArray}).get? s.heap.objs.size=some {cls:=.type "list",data:=.seq #[]}:=Heap.get?_push_size _ rfl;show wpAny _ A.in1 (Builtin.List.listExtendWith (.ref s.heap.objs.size) (.ref a) (.ref s.heap.objs.size)) _ _ _
 have a2:=Zw (A:=A) (s:={s with heap:=s.heap.push {cls:=.type "list",data:=.seq ([]:List Value).toArray} })
  (R:=λ(q:Result)(s':Shared)=>∃h' tk d a1 c',q=.ok (.ret (.ref s.heap.objs.size))/\s' = {s with heap:=h',drawn:=d,toks:=tk}/\(∀b u,s.heap.get? b=some u->h'.get? b=some u) /\
   h'.get? s.heap.objs.size=some {cls:=.type "list",dict:=none,data:=.seq a1 c',slots:=#[]}/\a1.toList.Perm (es.toList.map (·.2)))
  (D.keep (Heap.get?_push_of_some _ D.at')) hh s.heap.objs.size (ne_of_gt (Heap.lt_size D.at')) (.ref s.heap.objs.size) hS
  (λh' tk d a1 c' k1 e1 p1=>⟨h',tk,d,a1,c',Z,Z,λb u e=>k1 b u (vC (Heap.lt_size e)) (Heap.get?_push_of_some _ e),e1,p1⟩)
 refine vV a2 (λa3 s' x=>?_) λe s' x=>?_
 ·cases a3 with
  |done f=>
   obtain⟨h',tk,d,a1,c',e,rfl,k1,e1,p1⟩:=x;cases e
   exact rY (m:=load s.heap.objs.size) (wpAny_load e1 (rZ (h h' tk d a1.toList k1 (le_of_lt (Heap.lt_size e1)) p1)))
  |again a4=>
   refine⟨x.1,codeAny_mono x.2 λq a5 y=>?_⟩;obtain⟨h',tk,d,a1,c',rfl,rfl,k1,e1,p1⟩:=y;exact rY (m:=load s.heap.objs.size) (wpAny_load e1 (rZ (h h' tk d a1.toList k1 (le_of_lt (Heap.lt_size e1)) p1)))
 ·obtain⟨_,_,_,_,_,z,_⟩:=x
  cases z
end
section
variable{s:Shared}{ks:List Int}
theorem Adw(h:PySem.Paired (λv n=>∃t,v=Value.int n t) vs ns):IntsAre vs ns:=by
 induction h with
 |nil=>exact .nil
 |cons f _ z=>
  obtain⟨t,rfl⟩:=f;exact .cons _ t z
theorem Z2{Q:Value->Shared->Prop}(S:SetT (intKind prog w) s.heap a ks)(hh:A.handled=none)(a8:ks.length<64)
  (h:∀(h':Heap)(tk:Nat)(d:Drawn)(L:Addr)(a4:Array Value)(c:Nat)(ns:List Int),(∀b u,s.heap.get? b=some u->h'.get? b=some u)->s.heap.objs.size<=L->h'.get? L=some (seqObj "list" a4 c)->IntsAre a4.toList ns->ns.Pairwise (· < ·)->(∀k,k∈ns↔k∈ks) ->
   Q (.ref L) {s with heap:=h',drawn:=d,toks:=tk}):wpAny (model prog w) A (call (.builtin "sorted") [.ref a]) Q E s:=by
 obtain⟨o,es,ep,t,ms,D⟩:=S;refine Calls.call_function_entry kind_sorted plain_sorted entry_sorted (args_sorted1 _) ?_;unfold Builtin.«sorted»;refine rY (m:=checkCount "sorted" 1 1 _) (rZ ?_);refine rY (Wp (A:=A.in1) D hh λh1 tk d vs k1 hsz pv=>?_)
 have pr:PySem.Paired (λv n=>∃t,v=Value.int n t) (es.toList.map (·.2)) ms:=by
  have:=D.pr;generalize es.toList=l at this;clear pv D
  induction this with
  |nil=>exact .nil
  |cons f _ ih=>exact .cons (Value.isInt_shape f) ih
 obtain⟨ns,pn,r1⟩:=Kz pv pr;have hI:=Adw r1
 have a6:vs.length<64:=by
  have h1:=Kl D.nd λk hk=>(D.mem k).mp hk
  have h2:=pv.length_eq;have h3:=D.size;simp at h2;omega
 refine rY (wpAny_newList ?_ (by rw[sizeLine_eq];omega));have hL:(h1.push (seqObj "list" vs.toArray 0)).get? h1.objs.size=some (seqObj "list" vs.toArray 0):=Heap.get?_push_size _ rfl;refine rY (vW (vZ slot_list_sort ⟨_,hL,Z⟩ entry_list_sort (list_sort_tree hL hI a6 λa4 a5 a1 a2 a3=>⟨_,Z,?_⟩) (args_list_sort _)));have a7:=Heap.lt_size hL;obtain⟨c,hc⟩:∃c,(sortedHeap (h1.push (seqObj "list" vs.toArray 0)) h1.objs.size vs a4).get? h1.objs.size=some (seqObj "list" a4 c):=sortedHeap_at hL;have p3:=a2.trans pn;refine rZ ⟨_,Z,h _ tk d h1.objs.size a4 c a5 (λb u e=>?_) ?_ hc a1 ?_ λk=>p3.mem_iff.trans (D.mem k)⟩
 ·have hb:=Heap.lt_size (k1 b u e)
  rw[sortedHeap_old (vC hb) (lt_trans hb a7)];exact Heap.get?_push_of_some _ (k1 b u e)
 ·exact hsz
 ·have nd:=p3.nodup_iff.mpr D.nd
  exact(Pairwise.and a3 nd).imp λ{x y}z=>by omega
end
theorem Ox:∀{a b:List Int},a.Pairwise (· < ·)->b.Pairwise (· < ·)->(∀k,k∈a↔k∈b)->a=b
 |[],[],_,_,_=>rfl
 |[],y::b,_,_,h=>by simpa using (h y).mpr uF
 |x::a,[],_,_,h=>by simpa using (h x).mp uF
 |x::a,y::b,ha,hb,h=>by
  have a1:=vQ.mp ha;have a2:=vQ.mp hb
  have e:x=y:=by
   rcases vJ.mp ((h x).mp uF) with z|z
   ·exact z
   ·rcases vJ.mp ((h y).mpr uF) with z'|z'
    ·exact z'.symm
    ·have:=a1.1 y z';have:=a2.1 x z;omega
  subst e
  congr 1
  refine Ox a1.2 a2.2 λk=>⟨λz=>?_,λz=>?_⟩
  ·rcases vJ.mp ((h k).mp (uG _ z)) with q|q
   ·have:=a1.1 k z;omega
   ·exact q
  ·rcases vJ.mp ((h k).mpr (uG _ z)) with q|q
   ·have:=a2.1 k z;omega
   ·exact q
def ins(k:Int):List Int->List Int
 |[]=>[k]
 |x::r=>if k<x then k::x::r else if k=x then x::r else x::ins k r
def nub:List Int->List Int
 |[]=>[]
 |x::r=>ins x (nub r)
theorem Qr{k:Int}:∀{l:List Int},j∈ins k l↔j=k\/j∈l
 |[]=>by simp[ins]
 |x::r=>by
  unfold ins;split
  ·simp
  ·split
   ·rename_i h;subst h;simp
   ·rw[vJ,Qr,vJ]
    constructor
    ·rintro(z|z|z)
     ·exact .inr (.inl z)
     ·exact .inl z
     ·exact .inr (.inr z)
    ·rintro(z|z|z)
     ·exact .inr (.inl z)
     ·exact .inl z
     ·exact .inr (.inr z)
theorem Td{k:Int}:∀{l:List Int},l.Pairwise (· < ·)->(ins k l).Pairwise (· < ·)
 |[],_=>by simp[ins]
 |x::r,h=>by
  have h':=vQ.mp h;unfold ins;split
  ·rename_i c
   refine vQ.mpr ⟨λy hy=>?_,h⟩;rcases vJ.mp hy with z|z
   ·omega
   ·have:=h'.1 y z;omega
  ·split
   ·exact h
   ·refine vQ.mpr ⟨λy hy=>?_,Td h'.2⟩
    rcases Qr.mp hy with z|z
    ·omega
    ·exact h'.1 y z
theorem Bc:∀{l:List Int},j∈nub l↔j∈l
 |[]=>by simp[nub]
 |x::r=>by unfold nub;rw[Qr,Bc,vJ]
theorem G3:∀(l:List Int),(nub l).Pairwise (· < ·)
 |[]=>.nil
 |x::r=>Td (G3 r)
theorem AbI(h:ms.Pairwise (· < ·))(m:∀k,k∈ms↔k∈l):ms=nub l:=Ox h (G3 l) λk=>(m k).trans Bc.symm
theorem Qo:∀(l:List Int),(nub l).length<=l.length:=λl=>Kl ((G3 l).imp λ{a b}h=>by omega) λx z=>Bc.mp z
def tSS(K:FA)(te:TE):TE:=λσ H Q=>te σ H λx H1=>∃l ns,x=.ref l/\SqL K H1 l ((ns:List Int).map V.int)/\ns.length<64/\∀r,H1 r=none->Q (.ref r) (upd H1 r (.lst ((nub ns).map V.int)))
theorem AaU:bootBuiltins "set"= some (.type "set"):=by trivial
theorem Gd(hc:X.calm=true)(hg:Gl X "sorted")(hm:X.mg "sorted"= none)(b2:Gl X "set")(a7:X.mg "set"= none)(he:PE X e te)
  (h1:starEach [e] X.env=[(false,eval e X.env)]:=by rfl) (h2:starEach [.Call (.Name "set" p2) [e] [] a2] X.env=[(false,eval (.Call (.Name "set" p2) [e] [] a2) X.env)]:=by rfl) :
  PE X (.Call (.Name "sorted" p) [.Call (.Name "set" p2) [e] [] a2] [] pos) (tSS X.K te):=by
 intro pins s σ H Q I h;refine wpAny_Call_Name_kw (Hl I hg hm boot_sorted ?_ (by decide) (by decide));refine PyProof.Rows.callWith_builtin1 ?_ h2 rfl;rw[h2];refine Calls.spliced_cons ?_;refine wpAny_Call_Name_kw (Hl I b2 a7 AaU ?_ (by decide) (by decide));refine PyProof.Rows.callWith_type1 ?_ h1 rfl;rw[h1];refine Calls.spliced_cons (thn (he pins s σ H _ I h) λu s1 ⟨x,H1,I1,r1,q1⟩=>Calls.spliced_nil ?_);obtain⟨l,ns,rfl,hS,hl,q⟩:=q1;cases r1
 obtain⟨a4,rv,pl,hz⟩:=I1.list hS;have a1:=rv.length;rw[uB]at a1;have hi:=Lr rv;have hsz:a4.toArray.size=a4.length:=by simp
 refine Aam (knd:=intKind X.prog X.w) (ks:=ns) (I1.ok.hd hc) pl.isList (by rw[hsz];exact a1) (λi v hv=>?_) (by rw[hsz];show a4.length+1<4096;omega) λs2 m=>Calls.spliced_nil ?_
 ·obtain⟨t,e⟩:=IntsAre.int_at hi i v (by simpa using hv)
  have b1:i<ns.length:=by
   rw[a1];have:=Array.getElem?_eq_some_iff.mp hv;obtain⟨z,_⟩:=this
   simpa using z
  subst e;refine⟨ns.getD i 0,?_,intKind_is _ _ _ _,Z⟩;rw[getD_eq_getElem?_getD,uA b1];rfl
 obtain⟨h',tk,rfl,S,k1⟩:=m
 have a3:s1.heap.objs.size<h'.objs.size:=by
  obtain⟨o,es,ep,t,ms,D⟩:=S;exact Heap.lt_size D.at'
 refine Z2 (s:={s1 with heap:=h',toks:=tk}) S (I1.ok.hd hc) hl λh2 a9 d L a8 c b3 k2 hL eL aI aP aM=>?_
 have a5:=I1.hok.fresh (uY (le_of_lt a3) hL);have en:=AbI aP aM;subst en;have kp:∀b u,s1.heap.get? b=some u->h2.get? b=some u:=λb u e=>k2 b u (k1 b u (Heap.lt_size e) e)
 have a6:=uY (le_of_lt a3) hL;have nl:=Qo ns
 have I2:Inv X pins σ (upd H1 L (.lst ((nub ns).map V.int))) {s1 with heap:=h2,gens:=s1.gens,drawn:=d,toks:=a9}:=
  I1.call (ch:=[]) (Un.laid kp a6 a5) (I1.hok.laid kp a6 ⟨by rw[uB];exact Co (by omega),a8.toList,c,Kj aI,by rw[eL]⟩) I1.bare (λ_ z=>nomatch z)
 exact⟨.ref L,_,I2,Z,q L a5⟩
theorem Bp{z β:Type}{F:z->β->Prop}:∀{l:List z}{m:List β}{j:Nat}{x:z},PySem.Paired F l m->l[j]?=some x->∃y,m[j]?=some y/\F x y
 |_,_,j,x,.nil,e=>by simp at e
 |_,_,0,x,.cons f t,e=>by
  simp at e;subst e;exact⟨_,Z,f⟩
 |_,_,j+1,x,.cons f t,e=>by
  obtain⟨y,e1,e2⟩:=Bp (j:=j) t (by simpa using e);exact⟨y,by simpa using e1,e2⟩
theorem Dx{α β:Type}{F:α->β->Prop}:∀{l:List α}{m:List β},l.length=m.length->(∀(j:Nat)(x:α),l[j]?=some x->∃y,m[j]?=some y/\F x y)->PySem.Paired F l m
 |[],[],_,_=>.nil
 |[],_::_,h,_=>by simp at h
 |_::_,[],h,_=>by simp at h
 |x::l,y::m,h,k=>by
  obtain⟨y',e,f⟩:=k 0 x rfl;simp at e;subst e;exact .cons f (Dx (by simpa using h) λj z hz=>by simpa using k (j+1) z (by simpa using hz))
theorem Tw{rest:List Expr}{env:Env}:starEach (.Tuple es k pos::rest) env=(false,eval (.Tuple es k pos) env)::starEach rest env:=rfl
inductive X3(K:FA)(x y:V)(H:Hp)(Q:VK):Prop
 |mk(d)(p)(q)(xs:_)(ys)(_:d<=60)(_:x=.ref p)(_:y=.ref q)(_:SqL K H p xs)(_:SqL K H q ys)(_:xs.length=ys.length)(_:(∀(i:Nat)(x y:V),xs[i]?=some x->ys[i]?=some y->EqD K H d x y))(_:Q (.bl false) H)
def AgE(K:FA):R2:=λx y H Q=>X3 K x y H Q
theorem Adu(hu:X.A.units+64<cLine):OpR X (compareOp .NotEq) (AgE X.K):=by
 intro pins s σ H x y v u Q I rx ry h;obtain⟨d,p,q,xs,ys,hd,rfl,rfl,h1,h2,hl,hi,hq⟩:=h;cases rx
 cases ry
 obtain⟨us,r1,p1,z1⟩:=I.list h1;obtain⟨ws,r2,p2,z2⟩:=I.list h2;have l1:=r1.length;have l2:=r2.length;refine SeqAt.RcNeAt.lists (e:=λ_=>true) p1.isList p2.isList (by rw[uM,uM];omega) (by omega) (O7 (pins:=pins) (σ:=σ) (H:=H) (K:=X.K) (d:=d) r1 r2 hl λi x y hx hy u v z rv=>AfC I (hi i x y hx hy) X.A.in1 (by show X.A.units+1+d<cLine;omega) u v z rv) X.prog X.w X.xe _ ?_;rw[Om];exact⟨.bl false,H,I,Z,hq⟩
theorem Sj{ns:List Int}(r:A8 (ns.map V.int) z){i:Nat}(h:z[i]?=some v):∃t,v=.int (ns.getD i 0) t:=by
 have hi:=(List.getElem?_eq_some_iff.mp h).1;have hl:=r.length;rw[uB]at hl;have hn:i<ns.length:=by omega
 obtain⟨u,hu,ru⟩:=r.get (i:=i) (x:=V.int ns[i]) (by rw[uH,uA hn];rfl);rw[h]at hu;cases hu
 obtain⟨t,e⟩:∃t,v=.int ns[i] t:=ru;exact⟨t,by rw[e,getD_eq_getElem?_getD,uA hn];rfl⟩
theorem Ry(hc:X.calm=true):Ge X (.builtin "min") (λxs H Q=>∃p ns,xs=[.ref p]/\SqL X.K H p ((ns:List Int).map V.int)/\0<ns.length/\∀M,M∈ns->(∀a∈ns,M<=a)->Q (.int M) H):=by
 intro pins s σ H xs us Q I r h;obtain⟨p,ns,rfl,hS,h0,q⟩:=h;obtain⟨u,rfl,ru⟩:=r.one;cases ru
 obtain⟨z,rv,pl,hz⟩:=I.list hS;have hh:X.A.handled=none:=I.ok.hd hc;have hl:=rv.length;rw[uB]at hl;have a2:p<s.heap.objs.size:=by obtain⟨_,e,_⟩:=pl.isList;exact Heap.lt_size e
 refine call_min_walk (wpAny_pyIter_list pl.isList ?_)
 refine⟨s.heap.objs.size,[s.heap.objs.size,p],[s.heap.objs.size],z.toArray.size,_,_,_,rfl,Walks.list (A:=X.A.in1) hh _ p (vC a2) z.toArray,
  ⟨⟨_,Heap.get?_push_size _ rfl,rfl,rfl⟩,pl.isList.push _⟩,λb hb=>?_,by rw[uM];omega,CmpOf.ints_lt (λi=>ns.getD i 0) (λi v hP=>Sj rv (by simpa using hP)),λv h' tk hP hk=>?_⟩
 ·rcases vJ.mp hb with rfl|hb
  ·exact Heap.lt_size (Heap.get?_push_size _ rfl)
  ·rcases mS hb with rfl
   obtain⟨_,e,_⟩:=pl.isList;exact Heap.lt_size (Heap.get?_push_of_some _ e)
 ·have a1:z[argBest (λi j=>decide (ns.getD i 0<ns.getD j 0)) (z.toArray.size-1)]?=some v:=by rw[<-List.getElem?_toArray];exact hP
  obtain⟨h1,h2⟩:=argBest_lt (λi=>ns.getD i 0) (z.toArray.size-1);generalize argBest (λi j=>decide (ns.getD i 0<ns.getD j 0)) (z.toArray.size-1)=b at a1 h1 h2;rw[uM]at h1 h2;obtain⟨t,rfl⟩:=Sj rv a1;have hb:b<ns.length:=by omega
  refine⟨.int _,H,I.kept (t':=tk) (LSm.kept_iter hk),⟨t,Z⟩,q _ ?_ λa ha=>?_⟩
  ·rw[getD_eq_getElem?_getD,uA hb]
   exact vI _
  ·obtain⟨j,hj,rfl⟩:=List.getElem_of_mem ha
   have:=h2 j (by omega)
   simpa [getD_eq_getElem?_getD,uA hj] using this
def Ea(K:FA)(mg:Str->Option Value)(x q:Str)(ps:List Str)(st:Stmt):Prop:=∃f fd,Fun K q q st f fd/\mg x=some (.ref f)/\Dh K fd ps []
theorem Ea.ok{q:Str}{N:List Str}(F:Ea K mg x q ps st)(S:As N ps (Ak st))(len:∀vs H Q E,sp vs H Q E->vs.length=ps.length)
  (z:∀(f:Addr)(cdv:Value)(A:Around)(outer:List Env)(s:Shared)(H:Hp)(vs:List V)(Q:VK)(E:XK),Ct k (A.deeper (envOfC q (Ak st) s.heap.objs.size f cdv))->sp vs H Q E ->
   ∃t,PSs (Nf CX0 P w K mg base N q (Ak st) f cdv A outer s H E).nox (B0 st) t/\t {nx:=λ_ H'=>Q .non H',rt:=Q} (start N vs) H):Ai P w K mg base (k+1) x ps sp:=by
 obtain⟨f,fd,F,m,b⟩:=F;exact⟨f,fd,F.ok S len (z f),b,F.kp,m⟩
theorem Ea.zero{q:Str}(F:Ea K mg x q ps st)(no:∀vs H Q E,¬sp vs H Q E):Ai P w K mg base 0 x ps sp:=by
 obtain⟨f,fd,F,m,b⟩:=F;exact⟨f,fd,⟨λvs H Q E h=>absurd h (no vs H Q E),λA outer s H args us vs Q E _ _ _ _ h=>absurd h (no vs H Q E)⟩,b,F.kp,m⟩
theorem Inv.freeze(I:Inv X pins σ H s)(h:H d=some (.dK kvs)):∃o,Inv X pins σ (upd H d (.frz o (.dK kvs))) s:=by
 have hk:=I.hok d _ h;obtain⟨z1,z2,vs,r,o,es,ep,e,rest⟩:=id hk
 have ne:∀{b:Addr}{u:HO},H b=some u->u≠.dK kvs->b≠d:=λhb hu hz=>by
  rw[hz,h]at hb;exact hu (Option.some.inj hb).symm
 have nn:∀{b:Addr},H b=none->b≠d:=λhb hz=>by rw[hz,h]at hb;cases hb
 refine⟨o,I.un (h':=s.heap) (t':=s.toks) ⟨λb ob q _ _ _=>q,λb ob q _ _ _=>⟨ob.slots,q⟩,λb ob q n _=>by rw[upd_ne (nn n)];exact n,λb ob q _=>⟨ob,q⟩,λb xs q=>by rw[upd_ne (ne q (by intro z;cases z))];exact q,λb ob u q=>by rw[upd_ne (ne q (by intro z;cases z))];exact q,λb ps q=>⟨#[],by rw[upd_ne (ne q (by intro z;cases z)),Array.append_empty];exact q⟩⟩ λb u q=>?_⟩;have stay:∀{b:Addr}{u:HO},B1 X.prog X.w H s.heap b u->B1 X.prog X.w (upd H d (.frz o (.dK kvs))) s.heap b u:=λx=>x.stay (λ_ _ _ q=>q) (λc hc=>by rw[upd_ne (ne hc (by intro z;cases z))];exact hc) λc xs hc=>by rw[upd_ne (ne hc (by intro z;cases z))];exact hc
 by_cases hb:b=d
 ·subst hb
  rw[qa]at q;cases q
  exact⟨e,stay hk⟩
 ·rw[upd_ne hb]at q
  exact stay (I.hok b u q)
def Ahb(t:TE):TE:=λσ H Q=>t σ H λv H1=>∃d kvs,v=.ref d/\H1 d=some (.dK kvs)/\∀o,Q v (upd H1 d (.frz o (.dK kvs)))
theorem Pz{t:TE}(z:PE X e t):PE X e (Ahb t):=by
 intro pins s σ H Q I h;refine thn (z pins s σ H _ I h) λu s1 ⟨v,H1,I1,r1,d,kvs,e,hd,q⟩=>?_
 obtain⟨o,I2⟩:=I1.freeze hd;exact⟨v,_,I2,r1,q o⟩
theorem S7{k:Key}(h:(mixKind P w).is k v=true):A7 (kV k) v:=by
 rw[AaF]at h;rcases Cp h with⟨i,t,rfl,rfl⟩|⟨x,t,rfl,rfl⟩
 ·exact⟨t,Z⟩
 ·exact⟨t,Z⟩
theorem Lh(hc:X.calm=true):Ge X (.type "list") (λxs H Q=>∃(a:Addr)(kvs:List (Key×V)),xs=[.ref a]/\Rd H a (.dK kvs)/\∀r,H r=none->Q (.ref r) (upd H r (.lst (kvs.map λp=>kV p.1)))):=by
 intro pins s σ H xs us Q I r h;obtain⟨a,kvs,rfl,ha,q⟩:=h;obtain⟨u,rfl,ru⟩:=r.one;cases ru
 obtain⟨z,hd,vs,a3,dd⟩:=Nr I.hok ha;obtain⟨ep,a4⟩:=dd.dictAt;have a6:=PySem.Paired.length a3;refine PySem.W.kdl_call (PySem.W.kdl_dict (knd:=mixKind X.prog X.w) (kvs:=vs) (ep:=ep) hd) (I.ok.hd hc) a4 (by omega) λh1 tk a1 c k1 e1 a2=>?_
 have a5:a1.toList.length=vs.length:=by rw[Array.length_toList];exact a2.1
 have hV:A8 (kvs.map λp=>kV p.1) a1.toList:=by
  refine Dx (by rw[uB,a5];omega) λj x e=>?_
  rw[uH]at e;cases ej:kvs[j]? with
  |none=>rw[ej]at e;cases e
  |some p=>
   rw[ej]at e;cases e
   have hj:j<a1.toList.length:=by have:=(List.getElem?_eq_some_iff.mp ej).1;omega
   refine⟨a1.toList[j],uA hj,?_⟩;obtain⟨k,x,e1,e2⟩:=a2.2 j a1.toList[j] (by rw[<-Array.getElem?_toList];exact uA hj);obtain⟨y,e4,e5,_⟩:=Bp a3 ej;rw[e1]at e4;cases e4
   show A7 (kV p.1) _
   rw[show p.1=k from e5];exact S7 e2
 exact⟨.ref s.heap.objs.size,_,I.laid (t':=tk) (o:=.lst (kvs.map λp=>kV p.1)) k1 (uZ _) ⟨by rw[uB];exact z,a1.toList,c,hV,by rw[e1]⟩,Z,q _ (I.hok.fresh (uZ _))⟩
def Itk(d:Addr)(o:Obj)(kvs:List (Key×V)):It:=
 ⟨λi H=>H d=some (.frz o (.dK kvs))/\i<kvs.length,
  λi H v H'=>H'=H/\∃p,kvs[i]?=some p/\v=kV p.1,
  λi H=>H d=some (.frz o (.dK kvs))/\kvs.length<=i⟩
theorem Ln(ok:HOk P w H h)(e:H d=some (.frz o (.dK kvs))):h.get? d=some o/\∃vs ep,KV kvs vs/\h.DictAt (mixKind P w) d vs ep/\(d==sysModules)=false/\∃es,o.data=.dict es ep:=by
 obtain⟨e1,z,sm,vs,a1,o',es,ep,e2,r⟩:=(show B1 P w H h d (.frz o (.dK kvs)) from ok d _ e);have:o'=o:=Option.some.inj (e2.symm.trans e1);subst this;exact⟨e1,vs,ep,a1,⟨o',es,e2,r⟩,sm,es,r.2.1⟩
theorem Sz{o:Obj}{es a1:Array DictEntry}{ep z:Nat}(h:o.data=.dict es ep)(h':o.data=.dict a1 z):z=ep:=by
 rw[h]at h';cases h'
 rfl
theorem AaR{tg:Expr}{it d:Addr}{o:Obj}{kvs:List (Key×V)}{ep:Nat}(a7:∃es,o.data=.dict es ep):Ng P w K tg (Itk d o kvs) [it] it (λi h=>h.IsKeyIter it d i kvs.length ep) where
 mem:=by simp
 obj:=λi h st b hb=>by
  cases mS hb
  obtain⟨ob,e,c,dt⟩:=st;exact⟨ob,e,λv z=>by rw[dt]at z;cases z⟩
 keep:=λi h h' st k=>by
  obtain⟨ob,e,c,dt⟩:=st;exact⟨ob,k _ (by simp) _ e,c,dt⟩
 item:=by
  intro X hP hw hK hc i pins s σ H E I hf st hg;subst hP hw hK;obtain⟨hd,hi⟩:=hg;obtain⟨e1,vs,a6,a1,a3,sm,b4,de⟩:=Ln I.hok hd;obtain⟨es,a5⟩:=a7;have:a6=ep:=Sz a5 de;subst this;have a4:=PySem.Paired.length a1;have a9:i<vs.length:=by omega
  obtain⟨⟨k,x⟩,hp⟩:∃p,vs[i]=p:=⟨_,rfl⟩;have hx:vs[i]?=some (k,x):=by rw[uA a9,hp]
  obtain⟨y,e4,e5,_⟩:=Bp a1 (uA hi);rw[hx]at e4;cases e4
  rw[a4]at st ⊢;refine wpAny_pyNext_dict_item st a3 hx λb2 h' a8 a2 b1=>?_
  obtain⟨oi,ei,ci,di⟩:=id a2;refine⟨b2,Z,S4 (s:={s with heap:=h' }) ei ci di (by decide) ?_⟩;have k1:∀b ob,b∉[it]->s.heap.get? b=some ob->h'.get? b=some ob:=λb ob hb q=>b1.extBut b ob (λz=>hb (by simp[z])) q
  have I1:=I.turnedL (t':=s.toks) hf k1 (λ_ _=>rfl) (HOk.turned (s:=s) I.hok (λb hb=>(hf b hb).1) k1);exact⟨kV k,H,I1,S7 a8,⟨rfl,_,uA hi,by rw[show(kvs[i]).1=k from e5]⟩,a2,λb hb=>(hf b hb).1⟩
 done:=by
  intro X hP hw hK hc i pins s σ H E I hf st hg;subst hP hw hK;obtain⟨hd,hi⟩:=hg;obtain⟨e1,vs,a6,a1,a3,sm,b4,de⟩:=Ln I.hok hd;obtain⟨es,a5⟩:=a7;have:a6=ep:=Sz a5 de;subst this;have a4:=PySem.Paired.length a1;rw[a4]at st;refine wpAny_pyNext_dict_end (I.ok.hd hc) st a3 (getElem?_eq_none (by omega)) λh' b3=>?_
  have k1:∀b ob,b∉[it]->s.heap.get? b=some ob->h'.get? b=some ob:=λb ob hb q=>b3 b ob (λz=>hb (by simp[z])) q
  exact⟨Z,I.turnedL (t':=s.toks) hf k1 (λ_ _=>rfl) (HOk.turned (s:=s) I.hok (λb hb=>(hf b hb).1) k1)⟩
 self:=λ_ _ _ _ _ st h=>wpAny_pyIter_keyiter st h
def AgT(te:TE):TI:=λσ H R=>te σ H λx H1=>∃d o kvs,x=.ref d/\H1 d=some (.frz o (.dK kvs))/\R (Itk d o kvs) H1
theorem AeL{tg l:Expr}(hl:PE X l te):PI X tg l (AgT te):=by
 intro pins s σ H R I h;refine thn (hl pins s σ H _ I h) λu s1 ⟨x,H1,z,r1,d,o,kvs,e,hd,q⟩=>?_
 subst e;cases r1
 obtain⟨e1,vs,ep,a3,a1,sm,es,de⟩:=Ln z.hok hd;have a2:=PySem.Paired.length a3;refine wpAny_pyIter_dict sm a1 ?_;have I2:Inv X pins σ H1 {s1 with heap:=s1.heap.push {cls:=.type "dict_keyiterator",data:=.fields #[.ref d,.int 0 0,.int vs.length 0,.int ep 0]} }:=z.kept (t':=s1.toks) λb ob q=>Heap.get?_push_of_some _ q
 refine⟨_,_,_,_,H1,Z,I2,AaR ⟨es,de⟩,⟨_,Heap.get?_push_size _ rfl,rfl,by rw[a2];rfl⟩,λb hb=>?_,q⟩;cases mS hb
 exact z.fpOk (uZ _) (z.hok.fresh (uZ _))
def Ls:Hp->List (Addr×Key×V)->Hp
 |H,[]=>H
 |H,p::r=>Ls (upd H p.1 (.tup [kV p.2.1,p.2.2])) r
theorem Oz:∀{l:List (Addr×Key×V)}{H:Hp}{b:Addr},b∉l.map (·.1)->Ls H l b=H b
 |[],_,_,_=>rfl
 |p::r,H,b,h=>by
  rw[vS,vJ,not_or]at h;show Ls (upd H p.1 _) r b=_;rw[Oz h.2,upd_ne h.1]
theorem Ya:∀{l:List (Addr×Key×V)}{H:Hp}{p:Addr×Key×V},(l.map (·.1)).Nodup->p∈l->Ls H l p.1=some (.tup [kV p.2.1,p.2.2])
 |q::r,H,p,nd,h=>by
  rw[vS,vR]at nd;show Ls (upd H q.1 _) r p.1=_;rcases vJ.mp h with z|z
  ·subst z
   rw[Oz nd.1,qa]
  ·exact Ya nd.2 z
inductive Ab2(H:Hp)(kvs:List (Key×V))(l:Addr)(ts:List Addr)(H':Hp):Prop
 |mk(g:∀b u,H b=some u->H' b=some u)(fl:H l=none)(el:H' l=some (.lst (ts.map V.ref)))(le:ts.length=kvs.length)(ft:∀t∈ts,H t=none/\t≠l)(nd:ts.Nodup)(et:∀(j:Nat)(t:Addr)(p:Key×V),ts[j]?=some t->kvs[j]?=some p->H' t=some (.tup [kV p.1,p.2]))
def AdV(to:TE):TE:=λσ H Q=>to σ H λx H1=>∃a kvs,x=.ref a/\Rd H1 a (.dK kvs)/\∀l ts H2,Ab2 H1 kvs l ts H2->Q (.ref l) H2
theorem Ji{to:TE}(hc:X.calm=true)(hg:Gl X "list")(hm:X.mg "list"= none)(ho:PE X o to)
  (a8:attributeBase o "items" X.env (eval o X.env)=eval o X.env:=by rfl) (a9:(ap.endLine==cp.line)=true:=by rfl)
  (h1:starEach [.Call (.Attribute o "items" ap) [] [] cp] X.env=[(false,eval (.Call (.Attribute o "items" ap) [] [] cp) X.env)]:=by rfl) :
  PE X (.Call (.Name "list" p) [.Call (.Attribute o "items" ap) [] [] cp] [] pos) (AdV to):=by
 intro pins s σ H Q I h;refine wpAny_Call_Name_kw (Hl I hg hm (show bootBuiltins "list"= some (.type "list") by trivial) ?_ (by decide) (by decide));refine PyProof.Rows.callWith_type1 ?_ h1 rfl;rw[h1];refine Calls.spliced_cons (wpAny_Call_method0_late a8 a9 (thn (ho pins s σ H _ I h) λu s1 ⟨x,H1,I1,r1,a,kvs,e,ha,q⟩=>?_));subst e;cases r1
 obtain⟨z,sm,vs,b4,dd⟩:=Nr I1.hok ha;obtain⟨ep,b3⟩:=dd.dictAt;obtain⟨od,es,b8,b7,c3⟩:=id b3;have c4:=PySem.Paired.length b4;refine⟨"dict","dict.items",PySem.F.plainAttrs_dict,PySem.F.slot_dict_items,PySem.F.type_dict_items,dd.typeIs,λb eb=>by cases eb;exact⟨od,b8,b7.2.1⟩,Calls.callWith_builtin rfl (PySem.evalArgs_none ?_)⟩;refine call_meetsIn PySem.F.slot_dict_items dd.typeIs PySem.F.entry_dict_items (PySem.F.args_dict_items_1 _) (meets_dict_items (mixKind X.prog X.w) a sm) ⟨⟨vs,dd⟩,?_⟩;refine Calls.spliced_nil ?_;have vw:(s1.heap.push {cls:=.type "dict_items",data:=.fields #[.ref a]}).IsItemsView s1.heap.objs.size a:=⟨_,Heap.get?_push_size _ rfl,Z,Z⟩;refine PySem.W.kdx_call (s:={s1 with heap:=s1.heap.push {cls:=.type "dict_items",data:=.fields #[.ref a]} }) (knd:=mixKind X.prog X.w) (kvs:=vs) (ep:=ep) (I1.ok.hd hc) vw (b3.push _) (by omega) λh' tk b1 c as k1 e1 hl hG a6=>?_
 have sz:(s1.heap.push {cls:=.type "dict_items",data:=.fields #[.ref a]}).objs.size=s1.heap.objs.size+1:=Heap.size_push _ _;have kp:∀b ob,s1.heap.get? b=some ob->h'.get? b=some ob:=λb ob e=>k1 b ob (Heap.get?_push_of_some _ e)
 have a3:∀t∈as,s1.heap.objs.size+1<t:=λt ht=>by have:=hG.above t ht;rw[<-sz];exact this
 have a5:=hG.rise.imp λh=>vC h
 have zl:as.length=kvs.length:=by omega
 have zm:(as.zip kvs).map (·.1)=as:=by rw[List.map_fst_zip (by omega)]
 have fr:∀{b:Addr},s1.heap.objs.size<=b->H1 b=none:=λhb=>I1.hok.fresh hb
 have off:∀{b:Addr}{ob:Obj},s1.heap.get? b=some ob->b≠s1.heap.objs.size+1/\b∉as:=λe=>by
  have hb:=Heap.lt_size e;exact⟨vC (lt_succ_of_lt hb),λhm=>absurd (lt_trans (lt_succ_of_lt hb) (a3 _ hm)) (lt_irrefl _)⟩
 have a1:∀{b:Addr}{ub:HO},H1 b=some ub->b≠s1.heap.objs.size+1/\b∉as:=λe=>by
  have hb:=I1.hok.lt e;exact⟨vC (lt_succ_of_lt hb),λhm=>absurd (lt_trans (lt_succ_of_lt hb) (a3 _ hm)) (lt_irrefl _)⟩
 have a2:∀{b:Addr},b≠s1.heap.objs.size+1->b∉as->(upd (Ls H1 (as.zip kvs)) (s1.heap.objs.size+1) (.lst (as.map V.ref))) b=H1 b:=λn1 n2=>by
  rw[upd_ne n1,Oz (by rw[zm];exact n2)]
 have a7:∀(j:Nat)(t:Addr)(p:Key×V),as[j]?=some t->kvs[j]?=some p->(upd (Ls H1 (as.zip kvs)) (s1.heap.objs.size+1) (.lst (as.map V.ref))) t=some (.tup [kV p.1,p.2]):=λj t p hj hp=>by
  have ht:=uO hj;have nt:=ne_of_gt (a3 t ht);rw[upd_ne nt];refine Ya (l:=as.zip kvs) (p:=(t,p)) (by rw[zm];exact a5) ?_;refine uO (i:=j) ?_;rw[List.getElem?_zip_eq_some];exact⟨hj,hp⟩
 have b9:HOk X.prog X.w (upd (Ls H1 (as.zip kvs)) (s1.heap.objs.size+1) (.lst (as.map V.ref))) h':=λb ub eb=>by
  by_cases n1:b=s1.heap.objs.size+1
  ·subst n1
   rw[qa]at eb;cases eb
   have b2:h'.get? (s1.heap.objs.size+1)=some {cls:=.type "list",dict:=none,data:=.seq b1 c,slots:=#[]}:=by rw[<-sz];exact e1
   refine⟨by rw[uB];omega,b1.toList,c,?_,by rw[b2]⟩;rw[a6];clear a6 e1 b2 hl hG a3 a5 zl zm off a1 a2 a7
   induction as with
   |nil=>exact .nil
   |cons t r ih=>exact .cons rfl ih
  ·by_cases n2:b∈as
   ·obtain⟨j,hj⟩:=getElem?_of_mem n2
    have b5:j<kvs.length:=by have:=(List.getElem?_eq_some_iff.mp hj).1;omega
    have hp:=uA b5;rw[a7 j b _ hj hp]at eb;cases eb
    obtain⟨b6,k,x,e3,e4,e5⟩:=hG.pairs j b hj;obtain⟨y,e6,e7,e8⟩:=Bp b4 hp;rw[e3]at e6;cases e6
    refine⟨by show 2<=sizeLine;decide,[b6,x],.cons (by rw[show(kvs[j]).1=k from e7];exact S7 e4) (.cons e8 .nil),_,e5,Z,_,Z⟩
   ·rw[a2 n1 n2]at eb
    exact(I1.hok b ub eb).stay (λc ob _ e=>kp c ob e) (λc a4=>by obtain⟨m1,m2⟩:=a1 a4;rw[a2 m1 m2];exact a4) λc xs a4=>by obtain⟨m1,m2⟩:=a1 a4;rw[a2 m1 m2];exact a4
 have I2:=I1.un (h':=h') (t':=tk) (H':=upd (Ls H1 (as.zip kvs)) (s1.heap.objs.size+1) (.lst (as.map V.ref))) ⟨λb ob e _ _ _=>kp b ob e,λb ob e _ _ _=>⟨ob.slots,kp b ob e⟩,λb ob e n _=>by obtain⟨m1,m2⟩:=off e;rw[a2 m1 m2];exact n,λb ob e _=>⟨ob,kp b ob e⟩,λb xs e=>by obtain⟨m1,m2⟩:=a1 e;rw[a2 m1 m2];exact e,λb ob ux e=>by obtain⟨m1,m2⟩:=a1 e;rw[a2 m1 m2];exact e,λb ps e=>⟨#[],by obtain⟨m1,m2⟩:=a1 e;rw[a2 m1 m2,Array.append_empty];exact e⟩⟩ b9;refine⟨.ref (s1.heap.objs.size+1),_,I2,by rw[sz];rfl,q _ as _ ⟨λb ub e=>by obtain⟨m1,m2⟩:=a1 e;rw[a2 m1 m2];exact e,fr (le_succ _),qa,zl,λt ht=>⟨fr (le_of_lt (Nat.lt_of_succ_lt (a3 t ht))),ne_of_gt (a3 t ht)⟩,a5,a7⟩⟩
abbrev ItO(h:Heap)(it d:Addr)(i n ep:Nat)(c0 c1 ok ov:Value):Prop:=
 h.get? it=some {cls:=.type "dict_itemiterator",dict:=none,data:=.fields #[c0,c1,.ref d,.int i 0,.int n 0,.int ep 0,ok,ov],slots:=#[]}
theorem Ag4{Q:Option Obj->Shared->Prop}(ha:s.heap.get? a=none)(h:Q none s):wpAny (model P w) A (loadIfAlive a) Q E s:=by
 have q:Q (s.heap.get? a) s:=by rw[ha];exact h
 exact λ_ _ _=>q
theorem Ab1{κ:Type} [DecidableEq κ] {knd:KeyKind P w κ} {f:Bool} {i ep:Nat} {vs:List (κ×Value)} {k:κ} {x:Value} {Q:Option Value->Shared->Prop}
  (a1:KdxIt s.heap it d i vs.length ep ok ov a f) (b3:s.heap.DictAt knd d vs ep) (hx:vs[i]?=some (k,x))
  (hQ:∀a9 h',knd.is k a9=true->(∃a3 a2 a' f',KdxIt h' it d (i+1) vs.length ep a3 a2 a' f')->h'.get? s.heap.objs.size=some {cls:=.type "tuple",data:=.seq #[a9,x]} ->
   (∀b o,b≠it->s.heap.get? b=some o->h'.get? b=some o)->Q (some (.ref s.heap.objs.size)) {s with heap:=h' }) :
  wpAny (model P w) A (pyNext (.ref it)) Q E s:=by
 obtain⟨hp,gn,dr,tk,os⟩:=s;obtain⟨od,es,b1,_,a5,_,a6,_⟩:=id b3;have ty:Shared.TypeIs ⟨hp,gn,dr,tk,os⟩ (.ref it) "dict_itemiterator":=⟨_,a1,Z⟩;have b2:es.size=vs.length:=by rw[<-a6.length];simp
 have il:i<es.size:=by rw[b2];exact(List.getElem?_eq_some_iff.mp hx).1
 obtain⟨ky,vl⟩:=a6.get? (e:=es[i]) (by simp[il]) hx;have b4:it<hp.objs.size:=Heap.lt_size a1;unfold pyNext;refine rY (wpAny_attempt (wpAny_callSpecial?_slot (name:=Str.ofString "__next__") ty PySem.F.slot_dict_itemiterator_next (vZ PySem.F.slot_dict_itemiterator_next ty PySem.F.entry_dict_itemiterator_next ?_ (PySem.F.args_dict_itemiterator_next_1 _))));refine rY (rZ (rY (rY (rY (wpAny_typeNameOfWhole_itemiter ty (rZ ?_))))));refine rY (wpAny_fieldsOf a1 rfl ?_);simp only[show Builtin.Dict_items.ownsTuple "dict_itemiterator"= true by decide,if_true];show wpAny _ _ (if (Value.ref d==Value.none)=true then _ else _) _ _ (⟨hp,gn,dr,tk,os⟩:Shared);rw[if_neg (show ¬(Value.ref d==Value.none)=true from λz=>nomatch z)];refine rY (rZ (rY (wpAny_dictEntries b1 a5 ?_)));rw[if_neg (by rw[b2];simp)];refine rY (rZ (rY (wpAny_dictEpoch b1 a5 ?_)));rw[if_neg (by simp)];refine rZ ?_;simp only[show ¬(i:Int)<0 by omega,if_false,Int.toNat_natCast,Array.getElem?_eq_getElem il];refine rY (rY (wpAny_typeNameOfWhole_itemiter ty (rZ (rY (wpAny_isOneOf_itemiter ty ?_)))));show wpAny _ _ (setField (.ref it) 3 (rawInt ((i:Int)+1))>>=_) _ _ (⟨hp,gn,dr,tk,os⟩:Shared);refine rY (zA a1 (by simp) λk1 e1 s1=>?_);have s1:Heap.SameBut it hp k1:=s1
 have e1:KdxIt k1 it d (i+1) vs.length ep ok ov a f:=by
  unfold KdxIt;rw[show((i+1:Nat):Int)=(i:Int)+1 by omega]
  simpa [rawInt] using e1
 have a7:Shared.TypeIs ⟨k1,gn,dr,tk,os⟩ (.ref it) "dict_itemiterator":=⟨_,e1,Z⟩;refine rY (vW (rY (wpAny_isOneOf_itemiter a7 (rY (wpAny_isOneOf_itemiter a7 ?_)))));show wpAny _ _ (Builtin.Dict_items.pairFromOwner (.ref it) 6 es[i].key es[i].val) _ _ (⟨k1,gn,dr,tk,os⟩:Shared);unfold Builtin.Dict_items.pairFromOwner;refine rY (wpAny_newTuple ?_);have z1:k1.objs.size=hp.objs.size:=s1.1;have e2:KdxIt (k1.push {cls:=.type "tuple",data:=.seq #[es[i].key,es[i].val]}) it d (i+1) vs.length ep ok ov a f:=Heap.get?_push_of_some _ e1;have t2:(k1.push {cls:=.type "tuple",data:=.seq #[es[i].key,es[i].val]}).get? hp.objs.size=some {cls:=.type "tuple",data:=.seq #[es[i].key,es[i].val]}:=by rw[<-z1];exact Heap.get?_push_size _ rfl
 have a8:∀b o,b≠it->hp.get? b=some o->(k1.push {cls:=.type "tuple",data:=.seq #[es[i].key,es[i].val]}).get? b=some o:=λb o hb e=>Heap.get?_push_of_some _ (s1.extBut b o hb e)
 have b5:hp.objs.size≠it:=ne_of_gt b4;rw[z1];generalize k1.push {cls:=.type "tuple",data:=.seq #[es[i].key,es[i].val]}=k2 at e2 t2 a8 ⊢
 have a4:∀k3:Heap,(∃a3 a2 a' f',KdxIt k3 it d (i+1) vs.length ep a3 a2 a' f')->Heap.SameBut it k2 k3->Q (some (.ref hp.objs.size)) ⟨k3,gn,dr,tk,os⟩:=λk3 e3 s3=>
  hQ es[i].key k3 ky e3 (by rw[<-vl];exact s3.extBut _ _ b5 t2) λb o hb e=>s3.extBut b o hb (a8 b o hb e)
 show wpAny _ _ (Builtin.Dict_items.ownedTupleIsFree (.ref it)>>=_) _ _ (⟨k2,gn,dr,tk,os⟩:Shared)
 refine rY ?_;unfold Builtin.Dict_items.ownedTupleIsFree;refine rY (wpAny_field e2 rfl (x:=rawInt a) rfl ?_);show wpAny _ _ (loadIfAlive (a:Int).toNat>>=_) _ _ (⟨k2,gn,dr,tk,os⟩:Shared);rw[Int.toNat_natCast];cases hk:k2.get? a with
 |none=>
  refine rY (Ag4 hk ?_);simp only[Option.isNone_none,if_true];refine rZ ?_;simp only[if_true];refine rY (wpAny_field e2 rfl (x:=ok) rfl (rY (wpAny_field e2 rfl (x:=ov) rfl ?_)));refine rY (zA e2 (by simp) λk3 e3 s3=>?_);refine rY (zA e3 (by simp) λk4 e4 s4=>?_);refine rY (zA e4 (by simp) λk5 e5 s5=>?_);refine rY (zA e5 (by simp) λk6 e6 s6=>?_);have s3:Heap.SameBut it k2 k3:=s3;have s4:Heap.SameBut it k3 k4:=s4;have s5:Heap.SameBut it k4 k5:=s5;have s6:Heap.SameBut it k5 k6:=s6;have e6:KdxIt k6 it d (i+1) vs.length ep es[i].key es[i].val hp.objs.size false:=e6;refine rY (wpAny_letGo (rZ (rZ ⟨_,Z,rZ (a4 k6 ⟨_,_,_,_,e6⟩ (((s3.trans s4).trans s5).trans s6))⟩)))
 |some oa=>
  refine rY (PySem.W.kdx_alive hk ?_);simp only[Option.isNone_some,Bool.false_eq_true,if_false];refine rY (wpAny_field e2 rfl (x:=.bool f) rfl ?_);cases f with
  |true=>
   rw[if_neg (show ¬(Value.bool true != Value.bool true)=true from λz=>nomatch z)];refine rZ ?_;simp only[Bool.false_eq_true,if_false];exact rZ (rZ ⟨_,Z,rZ (a4 k2 ⟨_,_,_,_,e2⟩ (Heap.SameBut.refl _ _))⟩)
  |false=>
   rw[if_pos (show(Value.bool false != Value.bool true)=true by rfl)];refine rY (zA e2 (by simp) λk3 e3 s3=>rZ ?_);have s3:Heap.SameBut it k2 k3:=s3;have e3:KdxIt k3 it d (i+1) vs.length ep ok ov a true:=e3;simp only[Bool.false_eq_true,if_false];exact rZ (rZ ⟨_,Z,rZ (a4 k3 ⟨_,_,_,_,e3⟩ s3)⟩)
def Iti(d:Addr)(o:Obj)(kvs:List (Key×V)):It:=
 ⟨λi H=>H d=some (.frz o (.dK kvs))/\i<kvs.length,
  λi H v H'=>∃T p,v=.ref T/\H T=none/\kvs[i]?=some p/\H'=upd H T (.tup [kV p.1,p.2]),
  λi H=>H d=some (.frz o (.dK kvs))/\kvs.length<=i⟩
def TnI(it d:Addr)(n ep:Nat)(i:Nat)(h:Heap):Prop:=(∃ok ov,IsItemIter h it d i n ep ok ov)\/∃ok ov a f,KdxIt h it d i n ep ok ov a f
theorem TnI.at(x:TnI it d n ep i h):∃c0 c1 ok z,ItO h it d i n ep c0 c1 ok z:=by
 rcases x with⟨ok,z,e⟩|⟨ok,z,a,f,e⟩
 ·exact⟨_,_,ok,z,e⟩
 ·exact⟨_,_,ok,z,e⟩
theorem AaH{np:Pos}{it d:Addr}{o:Obj}{kvs:List (Key×V)}{ep:Nat}(a9:∃es,o.data=.dict es ep):Ng P w K (.Name x np) (Iti d o kvs) [it] it (TnI it d kvs.length ep) where
 mem:=by simp
 obj:=λi h st b hb=>by
  cases mS hb
  obtain⟨c0,c1,ok,ov,e⟩:=st.at;exact⟨_,e,λv z=>nomatch z⟩
 keep:=λi h h' st k=>by
  rcases st with⟨ok,ov,e⟩|⟨ok,ov,a,f,e⟩
  ·exact .inl ⟨ok,ov,k _ (by simp) _ e⟩
  ·exact .inr ⟨ok,ov,a,f,k _ (by simp) _ e⟩
 item:=by
  intro X hP hw hK hc i pins s σ H E I hf st hg;subst hP hw hK;obtain⟨hd,hi⟩:=hg;obtain⟨e1,vs,a5,a7,a4,sm,b3,de⟩:=Ln I.hok hd;obtain⟨es,a8⟩:=a9;have:a5=ep:=Sz a8 de;subst this;have a3:=PySem.Paired.length a7;have b8:i<vs.length:=by omega
  obtain⟨⟨k,y⟩,hp⟩:∃p,vs[i]=p:=⟨_,rfl⟩;have hx:vs[i]?=some (k,y):=by rw[uA b8,hp]
  obtain⟨z,e4,e5,e6⟩:=Bp a7 (uA hi);rw[hx]at e4;cases e4
  have b4:it<s.heap.objs.size:=by obtain⟨_,_,_,_,e⟩:=st.at;exact Heap.lt_size e
  have go:∀(a1:Value)(h':Heap),(mixKind X.prog X.w).is k a1=true->TnI it d kvs.length a5 (i+1) h'->h'.get? s.heap.objs.size=some {cls:=.type "tuple",data:=.seq #[a1,y]}->(∀b ob,b≠it->s.heap.get? b=some ob->h'.get? b=some ob) ->
    ∃u,some (Value.ref s.heap.objs.size)=some u/\wpAny (model X.prog X.w) X.A (letOwnedTupleGo (.Name x np) (.ref it) u) (λ_ s2=>∃x H',Inv X pins σ H' s2/\A7 x u/\(Iti d o kvs).yld i H x H'/\TnI it d kvs.length a5 (i+1) s2.heap/\∀b∈[it],H' b=none) E {s with heap:=h' }:=by
   intro a1 h' a2 b6 tT kp;refine⟨_,Z,rZ ?_⟩;have k1:∀b ob,b∉[it]->s.heap.get? b=some ob->h'.get? b=some ob:=λb ob hb q=>kp b ob (λz=>hb (by simp[z])) q
   have hn:=I.hok.fresh (uZ _);have hok:HOk X.prog X.w (upd H s.heap.objs.size (.tup [kV (kvs[i]).1,(kvs[i]).2])) h':=HOk.turnedNew (s:=s) I.hok (λb hb=>(hf b hb).1) k1 (uZ _) ⟨zN2,[a1,y],.cons (by rw[show(kvs[i]).1=k from e5];exact S7 a2) (.cons e6 .nil),_,tT,Z,_,Z⟩;have I1:=I.turnedL (t':=s.toks) hf k1 (λb hb=>upd_ne (vC hb)) hok;refine⟨.ref s.heap.objs.size,_,I1,Z,⟨_,_,rfl,hn,uA hi,rfl⟩,b6,λb hb=>?_⟩;cases mS hb
   rw[upd_ne (vC b4)];exact(hf it (by simp)).1
  rcases st with⟨ok,ov,e⟩|⟨ok,ov,a,f,e⟩
  ·rw[a3]at e
   refine wpAny_pyNext_items_item e a4 hx λa1 h' a2 a6 tT _ kp=>go a1 h' a2 (.inr ⟨a1,y,_,false,by rw[a3];exact a6⟩) tT kp
  ·rw[a3]at e
   refine Ab1 e a4 hx λa1 h' a2 ⟨b5,b7,a',f',a6⟩ tT kp=>go a1 h' a2 (.inr ⟨b5,b7,a',f',by rw[a3];exact a6⟩) tT kp
 done:=by
  intro X hP hw hK hc i pins s σ H E I hf st hg;subst hP hw hK;obtain⟨hd,hi⟩:=hg;obtain⟨e1,vs,a5,a7,a4,sm,b3,de⟩:=Ln I.hok hd;obtain⟨es,a8⟩:=a9;have:a5=ep:=Sz a8 de;subst this;have a3:=PySem.Paired.length a7
  have b1:∀h',Heap.ExtBut it s.heap h'->(none:Option Value)=none/\Inv X pins σ H {s with heap:=h' }:=λh' b2=>by
   have k1:∀b ob,b∉[it]->s.heap.get? b=some ob->h'.get? b=some ob:=λb ob hb q=>b2 b ob (λz=>hb (by simp[z])) q
   exact⟨Z,I.turnedL (t':=s.toks) hf k1 (λ_ _=>rfl) (HOk.turned (s:=s) I.hok (λb hb=>(hf b hb).1) k1)⟩
  rcases st with⟨ok,ov,e⟩|⟨ok,ov,a,f,e⟩
  ·rw[a3]at e
   exact wpAny_pyNext_items_end (I.ok.hd hc) e a4 (getElem?_eq_none (by omega)) b1
  ·rw[a3]at e
   exact PySem.W.kdx_end_out (I.ok.hd hc) e a4 (getElem?_eq_none (by omega)) b1
 self:=λ_ _ _ _ _ st h=>by
  obtain⟨c0,c1,ok,ov,e⟩:=st.at;refine wpAny_pyIter_slot (T:="dict_itemiterator") ⟨_,e,Z⟩ PySem.F.slot_dict_itemiterator_iter (vZ PySem.F.slot_dict_itemiterator_iter ⟨_,e,Z⟩ PySem.W.kcp_entry ?_ (PySem.F.args_dict_itemiterator_iter_1 _));show wpAny _ _ (ret (.ref it)) _ _ _;exact rZ ⟨_,Z,"dict_itemiterator",_,⟨_,e,Z⟩,PySem.F.slot_dict_itemiterator_next.lookup,h⟩
def Aes(to:TE):TI:=λσ H R=>to σ H λx H1=>∃d o kvs,x=.ref d/\H1 d=some (.frz o (.dK kvs))/\R (Iti d o kvs) H1
theorem Ow{to:TE}(ho:PE X o to)(a2:attributeBase o "items" X.env (eval o X.env)=eval o X.env:=by rfl)(a1:(ap.endLine==cp.line)=true:=by rfl) :
  PI X (.Name x np) (.Call (.Attribute o "items" ap) [] [] cp) (Aes to):=by
 intro pins s σ H R I h;refine wpAny_Call_method0_late a2 a1 (thn (ho pins s σ H _ I h) λu s1 ⟨y,H1,I1,r1,d,ob,kvs,e,hd,q⟩=>?_);subst e;cases r1
 obtain⟨e1,vs,ep,a4,z,sm,es,de⟩:=Ln I1.hok hd;obtain⟨od,a8,a6,a5,a7⟩:=id z;have dd:=z.dictOf;have a3:=PySem.Paired.length a4;refine⟨"dict","dict.items",PySem.F.plainAttrs_dict,PySem.F.slot_dict_items,PySem.F.type_dict_items,dd.typeIs,λb eb=>by cases eb;exact⟨od,a6,a5.2.1⟩,Calls.callWith_builtin rfl (PySem.evalArgs_none ?_)⟩;refine call_meetsIn PySem.F.slot_dict_items dd.typeIs PySem.F.entry_dict_items (PySem.F.args_dict_items_1 _) (meets_dict_items (mixKind X.prog X.w) d sm) ⟨⟨vs,dd⟩,?_⟩;refine wpAny_pyIter_items (s:={s1 with heap:=s1.heap.push {cls:=.type "dict_items",data:=.fields #[.ref d]} }) (knd:=mixKind X.prog X.w) (kvs:=vs) (ep:=ep) (v:=s1.heap.objs.size) ⟨_,Heap.get?_push_size _ rfl,Z,Z⟩ (z.push _) ?_;have kp:∀b oo,s1.heap.get? b=some oo->((s1.heap.push {cls:=.type "dict_items",data:=.fields #[.ref d]}).push {cls:=.type "dict_itemiterator",data:=.fields #[.none,.bool false,.ref d,.int 0 0,.int vs.length 0,.int ep 0,.none,.none]}).get? b=some oo:=λb oo e=>Heap.get?_push_of_some _ (Heap.get?_push_of_some _ e)
 have I2:=I1.kept (t':=s1.toks) kp;have sz:(s1.heap.push {cls:=.type "dict_items",data:=.fields #[.ref d]}).objs.size=s1.heap.objs.size+1:=Heap.size_push _ _;have le:s1.heap.objs.size<=(s1.heap.push {cls:=.type "dict_items",data:=.fields #[.ref d]}).objs.size:=by rw[sz];exact le_succ _
 refine⟨_,_,_,_,H1,Z,I2,AaH ⟨es,de⟩,.inl ⟨.none,.none,?_⟩,λb hb=>?_,q⟩
 ·rw[a3];exact Heap.get?_push_size _ rfl
 ·cases mS hb
  exact I1.fpOk le (I1.hok.fresh le)
theorem Au{E:XK}{t:TA}(M:Bb X.prog X.w X.K X.mg X.base j C m ps sp)(hr:Ct k X.A)(hx:Gq CX0 X E)(he:PE X o ta)(ha:PA X (e::es) t)(hj:j<=k:=by first|decide|omega)
  (a1:starEach (e::es) X.env=(false,eval e X.env)::starEach es X.env:=by rfl) (z:(backTo pos (starEach es X.env)).any (·.1)=false:=by rfl)
  (ht:eval (.Call (.Attribute o m apos) (e::es) [] pos) X.env=(do
   let ov <-eval o X.env
   standAt apos.atName
   let (f,first) <-holding [ov] (getMethod ov m pl)
   callWith pos f first (backTo pos (starEach (e::es) X.env)) (backToKw pos (keywordEach [] X.env))):=by rfl):PE X (.Call (.Attribute o m apos) (e::es) [] pos) (Pp C m sp [] E ta t):=by
 obtain⟨f,fd,F,b,me,c⟩:=M;exact Ads he c me (F.mono hj) hr b .nil hx ha a1 z ht
section
variable{κ:Type} [DecidableEq κ] {knd:PySem.KeyKind prog w κ}
variable{s:Shared}
end
section
variable{s:Shared}
end
end L2
namespace My
open PySem L2
def top(i:Nat):Stmt:=PySem.Challenge.pw_signalwise_k45_net_signs.main.body.getD i (.Pass ⟨0,0,0,0⟩)
abbrev Eh:Stmt:=top 42
theorem E3:As ["part","there","word","first","inner"] ["part","there"] (Ak Eh):=A6 (by trivial)
abbrev Dm:Stmt:=top 44
theorem Gp:As ["part","sent"] ["part"] (Ak Dm):=A6 (by trivial)
abbrev Et:Stmt:=top 47
theorem Ml:As ["first","second"] ["first","second"] (Ak Et):=A6 (by trivial)
abbrev C9:Stmt:=top 49
theorem D8:As ["first","second","code","left"] ["first","second"] (Ak C9):=A6 (by trivial)
abbrev Cy:Stmt:=top 54
theorem Eb:As ["part","sure","known","word","first","inner"] ["part","sure","known"] (Ak Cy):=A6 (by trivial)
abbrev Dw:Stmt:=top 56
theorem E9:As ["part","sure","can","must"] ["part","sure"] (Ak Dw):=A6 (by trivial)
abbrev Dq:Stmt:=top 58
theorem Fz:As ["first","second","going_past","codes"] ["first","second"] (Ak Dq):=A6 (by trivial)
abbrev Cg:Stmt:=top 60
theorem El:As ["first","second","least","codes"] ["first","second"] (Ak Cg):=A6 (by trivial)
abbrev Ir:Stmt:=top 4
theorem We:As ["part"] ["part"] (Ak Ir):=A6 (by trivial)
abbrev Fs:Stmt:=top 5
theorem On:As ["code"] ["code"] (Ak Fs):=A6 (by trivial)
abbrev Gh:Stmt:=top 6
theorem Pw:As ["code"] ["code"] (Ak Gh):=A6 (by trivial)
abbrev Fj:Stmt:=top 8
theorem Q9:As ["part"] ["part"] (Ak Fj):=A6 (by trivial)
abbrev Hr:Stmt:=top 9
theorem Gv:As ["part","found","waiting","here"] ["part"] (Ak Hr):=A6 (by trivial)
abbrev Hs:Stmt:=top 11
theorem Wn:As ["part"] ["part"] (Ak Hs):=A6 (by trivial)
abbrev Kh:Stmt:=top 16
theorem F1:As ["program","wiring","body","sign","senders","ends","nexts"] ["program"] (Ak Kh):=A6 (by trivial)
abbrev Gu:Stmt:=top 17
theorem Hc:As ["wiring","part","whole","inner","piece"] ["wiring","part"] (Ak Gu):=A6 (by trivial)
abbrev Iv:Stmt:=top 18
theorem Wb:As ["wiring","part","whole"] ["wiring","part","whole"] (Ak Iv):=A6 (by trivial)
abbrev Iy:Stmt:=top 19
theorem Na:As ["wiring","rest","whole","begun"] ["wiring","rest","whole"] (Ak Iy):=A6 (by trivial)
abbrev Gi:Stmt:=top 20
theorem Hn:As ["wiring","rest","whole","memory","comes","coming","staying"] ["wiring","rest","whole","memory","comes"] (Ak Gi):=A6 (by trivial)
abbrev Iw:Stmt:=top 21
theorem Ka:As ["wiring","part","whole","first","second","kept","inner"] ["wiring","part","whole","first","second"] (Ak Iw):=A6 (by trivial)
abbrev Gs:Stmt:=top 22
theorem J8:As ["wiring","whole","first","second","going_on","going_past"] ["wiring","whole","first","second"] (Ak Gs):=A6 (by trivial)
abbrev Kx:Stmt:=top 23
theorem Hf:As ["wiring","sign","whole","first","second","begun","inner","asked","going_on"] ["wiring","sign","whole","first","second"] (Ak Kx):=A6 (by trivial)
abbrev Gz:Stmt:=top 24
theorem Dz:As ["wiring","whole","first","second","sides","inner","other","idle","ended"] ["wiring","whole","first","second"] (Ak Gz):=A6 (by trivial)
abbrev Dl:Stmt:=top 25
theorem Da:As ["wiring","sides","codes","code","here","needed","side"] ["wiring","sides"] (Ak Dl):=A6 (by trivial)
abbrev F3:Stmt:=top 26
theorem Sv:As ["wiring","part","whole","inner"] ["wiring","part","whole","inner"] (Ak F3):=A6 (by trivial)
abbrev F7:Stmt:=top 27
theorem Mj:As ["wiring","rest","whole","inner","memory"] ["wiring","rest","whole","inner"] (Ak F7):=A6 (by trivial)
abbrev Fr:Stmt:=top 28
theorem Df:As ["wiring","part","whole","inner","sign","skips","goes","held","code"] ["wiring","part","whole","inner"] (Ak Fr):=A6 (by trivial)
abbrev Ix:Stmt:=top 29
theorem Uz:As ["wiring","whole","code"] ["wiring","whole","code"] (Ak Ix):=A6 (by trivial)
abbrev Ft:Stmt:=top 34
theorem O3:As ["part","state"] ["part","state"] (Ak Ft):=A6 (by trivial)
abbrev Fu:Stmt:=top 35
theorem Kg:As ["program","state","found"] ["program","state"] (Ak Fu):=A6 (by trivial)
abbrev Gr:Stmt:=top 36
theorem Hg:As ["part","state","first","second","inner"] ["part","state"] (Ak Gr):=A6 (by trivial)
abbrev Gj:Stmt:=top 37
theorem P6:As ["part","first","second"] ["part","first","second"] (Ak Gj):=A6 (by trivial)
abbrev Fv:Stmt:=top 38
theorem Kd:As ["part","inner","skipped"] ["part","inner"] (Ak Fv):=A6 (by trivial)
abbrev Ta:Stmt:=top 40
theorem Aal:As ["part","state","there","ending"] ["part","state","there"] (Ak Ta):=A6 (by trivial)
abbrev Kt:Stmt:=top 41
theorem Pm:As ["program","state","there","body"] ["program","state","there"] (Ak Kt):=A6 (by trivial)
abbrev Ho:Stmt:=top 46
theorem Sy:As ["part"] ["part"] (Ak Ho):=A6 (by trivial)
abbrev J0:Stmt:=top 51
theorem Of:As ["rest","inner","left"] ["rest","inner"] (Ak J0):=A6 (by trivial)
abbrev Mg:Stmt:=top 53
theorem Sa:As ["part","state","sure","known","ending"] ["part","state","sure","known"] (Ak Mg):=A6 (by trivial)
abbrev Me:Stmt:=top 62
theorem Abu:As ["first","second"] ["first","second"] (Ak Me):=A6 (by trivial)
abbrev Ku:Stmt:=top 63
theorem Zu:As ["inner","codes"] ["inner","codes"] (Ak Ku):=A6 (by trivial)
abbrev Mf:Stmt:=top 65
theorem F2:As ["program","state","coming","body","known","told","changes"] ["program","state","coming"] (Ak Mf):=A6 (by trivial)
abbrev Kv:Stmt:=top 66
theorem Jw:As ["program","state","coming","known","changes"] ["program","state","coming"] (Ak Kv):=A6 (by trivial)
abbrev Eg:Stmt:=top 67
theorem Ob:As ["value","known"] ["value","known"] (Ak Eg):=A6 (by trivial)
abbrev Ef:Stmt:=top 68
theorem Oa:As ["program","coming"] ["program","coming"] (Ak Ef):=A6 (by trivial)
abbrev Gm:Stmt:=top 69
theorem Hi:As ["known","changes","behind","change"] ["known","changes"] (Ak Gm):=A6 (by trivial)
abbrev F6:Stmt:=top 70
theorem Do:As ["body","known","must","can","walk","waiting"] ["body","known"] (Ak F6):=A6 (by trivial)
abbrev Hq:Stmt:=top 72
theorem Sx:As ["_law_cell"] ["_law_cell"] (Ak Hq):=A6 (by trivial)
abbrev Kw:Stmt:=top 73
theorem Z8:As ["_law_script","_law_k"] ["_law_script","_law_k"] (Ak Kw):=A6 (by trivial)
abbrev Iu:Stmt:=top 74
theorem M3:As ["_law_seed","_law_signs","_law_lot"] ["_law_seed","_law_signs"] (Ak Iu):=A6 (by trivial)
abbrev Fl:Stmt:=top 75
theorem M0:As ["_law_part","_law_inner"] ["_law_part"] (Ak Fl):=A6 (by trivial)
abbrev Ht:Stmt:=top 76
theorem Fh:As ["_law_stack","_law_seed","_law_signs","_law_lot","_law_sign","_law_one","_law_other"] ["_law_stack","_law_seed","_law_signs"] (Ak Ht):=A6 (by trivial)
abbrev Iz:Stmt:=top 77
theorem E5:As ["_law_cells","_law_signs","_law_stack","_law_cell","_law_seed","_law_one","_law_other"] ["_law_cells","_law_signs"] (Ak Iz):=A6 (by trivial)
abbrev Eu:Stmt:=top 78
theorem Bm:As ["_law_part","_law_k","_law_word","_law_one","_law_other"] ["_law_part","_law_k"] (Ak Eu):=A6 (by trivial)
abbrev Gk:Stmt:=top 79
theorem Cv:As ["_law_script","_law_most","_law_seed","_law_came","_law_outs","_law_signs","_law_body_here","_law_many"] ["_law_script","_law_most"] (Ak Gk):=A6 (by trivial)
abbrev Fi:Stmt:=top 80
theorem K7:As ["_law_cell","_law_came","_law_seed"] ["_law_cell","_law_came"] (Ak Fi):=A6 (by trivial)
abbrev F5:Stmt:=top 81
theorem Gx:As ["_law_gate","_law_state","_law_coming_here","_law_known","_law_word","_law_numbers","_law_ahead"] ["_law_gate","_law_state","_law_coming_here","_law_known"] (Ak F5):=A6 (by trivial)
abbrev F4:Stmt:=top 82
theorem En:As ["_law_net","_law_state","_law_coming_here","_law_known","_law_changed","_law_number"] ["_law_net","_law_state","_law_coming_here"] (Ak F4):=A6 (by trivial)
abbrev I0:Stmt:=top 83
theorem Es:As ["_law_script","_law_program_here","_law_rests","_law_net","_law_state","_law_cell","_law_coming_here","_law_due","_law_known","_law_found","_law_there","_law_seed"] ["_law_script"] (Ak I0):=A6 (by trivial)
abbrev AeV:Stmt:=top 13
abbrev Fe:Stmt:=top 14
structure Txt(mg:Str->Option Value):Prop where
 n_enumerate:mg "enumerate"= none
 n_int:mg "int"= none
 n_isinstance:mg "isinstance"= none
 n_len:mg "len"= none
 n_list:mg "list"= none
 n_max:mg "max"= none
 n_min:mg "min"= none
 n_range:mg "range"= none
 n_set:mg "set"= none
 n_sorted:mg "sorted"= none
 n_tuple:mg "tuple"= none
theorem g2i{w:Str}{k:Int}{t:Addr}(h:PAt K H (.t [.s w,.i k]) (.ref t)):Er K H t [.str w,.int k]:=by
 obtain⟨a,vs,e,hs,z⟩:=PAt.get h;cases e
 obtain⟨x0,x1,rfl,h0,h1⟩:=z.two;cases h0.str
 cases h1.int
 exact hs
theorem g2{w:Str}{p:Nd}{t:Addr}(h:PAt K H (.t [.s w,p]) (.ref t)):∃x1,Er K H t [.str w,x1]/\PAt K H p x1:=by
 obtain⟨a,vs,e,hs,z⟩:=PAt.get h;cases e
 obtain⟨x0,x1,rfl,h0,h1⟩:=z.two;cases h0.str
 exact⟨x1,hs,h1⟩
theorem g3{w:Str}{p q:Nd}{t:Addr}(h:PAt K H (.t [.s w,p,q]) (.ref t)):∃x1 x2,Er K H t [.str w,x1,x2]/\PAt K H p x1/\PAt K H q x2:=by
 obtain⟨a,vs,e,hs,z⟩:=PAt.get h;cases e
 obtain⟨x0,x1,x2,rfl,h0,h1,h2⟩:=z.three;cases h0.str
 exact⟨x1,x2,hs,h1,h2⟩
theorem g3i{w:Str}{k:Int}{q:Nd}{t:Addr}(h:PAt K H (.t [.s w,.i k,q]) (.ref t)):∃x2,Er K H t [.str w,.int k,x2]/\PAt K H q x2:=by
 obtain⟨x1,x2,hs,h1,h2⟩:=g3 h;cases h1.int
 exact⟨x2,hs,h2⟩
theorem g4i{w:Str}{k:Int}{p q:Nd}{t:Addr}(h:PAt K H (.t [.s w,.i k,p,q]) (.ref t)):∃x2 z,Er K H t [.str w,.int k,x2,z]/\PAt K H p x2/\PAt K H q z:=by
 obtain⟨a,vs,e,hs,hx⟩:=PAt.get h;cases e
 obtain⟨x0,x1,x2,z,rfl,h0,h1,h2,h3⟩:=hx.four;cases h0.str
 cases h1.int
 exact⟨x2,z,hs,h2,h3⟩
theorem Fx{xs:List Nd}{v:V}(h:PAt K H (.t xs) v):∃a,v=.ref a:=by
 obtain⟨a,_,e,_⟩:=PAt.get h;exact⟨a,e⟩
inductive Pt where
 |nothing
 |rest (k:Int)
 |send (s:Int)
 |exit (d:Int)
 |stay (ks:List Int)
 |iff (s:Int) (p q:Pt)
 |again (k:Int) (p:Pt)
 |hold (s:Int) (p:Pt)
 |watch (s:Int) (p:Pt)
 |trap (p:Pt)
 |thn (p q:Pt)
 |bes (p q:Pt)
def Pt.nd:Pt->Nd
 |.nothing=>.t [.s "nothing"]
 |.rest k=>.t [.s "rest",.i k]
 |.send s=>.t [.s "send",.i s]
 |.exit d=>.t [.s "exit",.i d]
 |.stay ks=>.t [.s "stay",.t (ks.map Nd.i)]
 |.iff s p q=>.t [.s "if",.i s,p.nd,q.nd]
 |.again k p=>.t [.s "again",.i k,p.nd]
 |.hold s p=>.t [.s "hold",.i s,p.nd]
 |.watch s p=>.t [.s "watch",.i s,p.nd]
 |.trap p=>.t [.s "trap",p.nd]
 |.thn p q=>.t [.s "then",p.nd,q.nd]
 |.bes p q=>.t [.s "beside",p.nd,q.nd]
def Pt.hg:Pt->Nat
 |.iff _ p q=>max p.hg q.hg+1
 |.thn p q=>max p.hg q.hg+1
 |.bes p q=>max p.hg q.hg+1
 |.again _ p=>p.hg+1
 |.hold _ p=>p.hg+1
 |.watch _ p=>p.hg+1
 |.trap p=>p.hg+1
 |.nothing=>1
 |.rest _=>1
 |.send _=>1
 |.exit _=>1
 |.stay _=>1
def Pt.rc:Pt->Nat
 |.rest _=>1
 |.stay ks=>ks.length
 |.iff _ p q=>p.rc+q.rc
 |.thn p q=>p.rc+q.rc
 |.bes p q=>p.rc+q.rc
 |.again _ p=>p.rc+1
 |.hold _ p=>p.rc
 |.watch _ p=>p.rc
 |.trap p=>p.rc
 |.nothing=>0
 |.send _=>0
 |.exit _=>0
def Pt.sc:Pt->Nat
 |.send _=>1
 |.iff _ p q=>p.sc+q.sc
 |.thn p q=>p.sc+q.sc
 |.bes p q=>p.sc+q.sc
 |.again _ p=>p.sc
 |.hold _ p=>p.sc
 |.watch _ p=>p.sc
 |.trap p=>p.sc
 |.nothing=>0
 |.rest _=>0
 |.exit _=>0
 |.stay _=>0
def Pt.lc:Pt->Nat
 |.rest _=>1
 |.stay ks=>ks.length
 |.iff _ p q=>max p.lc q.lc
 |.thn p q=>max p.lc q.lc
 |.bes p q=>p.lc+q.lc
 |.again _ p=>max 1 p.lc
 |.hold _ p=>p.lc
 |.watch _ p=>p.lc
 |.trap p=>p.lc
 |.nothing=>0
 |.send _=>0
 |.exit _=>0
def lp(p:Pt)(a b:List Int×Pt):Pt:=
 match p with
 |.thn _ q=>if b.1=[] then .thn a.2 q else b.2
 |.bes _ _=>if ¬a.1=[]/\¬b.1=[] then .bes a.2 b.2 else if ¬a.1=[] then a.2 else if ¬b.1=[] then b.2 else p
 |_=>if ¬a.1=[] then a.2 else if ¬b.1=[] then b.2 else p
def lr(p:Pt)(a:List Int×Pt):Pt:=
 if a.1=[] then p else
 match p with
 |.again k _=>.again k a.2
 |.trap _=>.trap a.2
 |.hold s _=>.iff s (.stay a.1) a.2
 |.watch s _=>.iff s .nothing a.2
 |_=>p
def rem(st:List Int):Pt->List Int×Pt
 |.iff s p q=>((rem st p).1++(rem st q).1,lp (.iff s p q) (rem st p) (rem st q))
 |.thn p q=>((rem st p).1++(rem st q).1,lp (.thn p q) (rem st p) (rem st q))
 |.bes p q=>((rem st p).1++(rem st q).1,lp (.bes p q) (rem st p) (rem st q))
 |.again k p=>if k∈st then([k]++(rem st p).1,.again k p) else((rem st p).1,lr (.again k p) (rem st p))
 |.hold s p=>((rem st p).1,lr (.hold s p) (rem st p))
 |.watch s p=>((rem st p).1,lr (.watch s p) (rem st p))
 |.trap p=>((rem st p).1,lr (.trap p) (rem st p))
 |.rest k=>if k∈st then([k],.nothing) else([],.rest k)
 |.nothing=>([],.nothing)
 |.send x0=>([],(.send x0))
 |.exit x0=>([],(.exit x0))
 |.stay x0=>([],(.stay x0))
def Ch(c:Int):Int:=if c=2 then 0 else if 2<c then c-1 else c
def agC(c:Int):Int:=if c=0 then 1 else c
abbrev Dd:=Int×List Int×List Int
def S9(a b:Dd):Dd:=(b.1,a.2.1++b.2.1,b.2.2)
def Im(a b:Dd):Dd:=(if b.1>a.1 then b.1 else a.1,a.2.1++b.2.1,if (if b.1>a.1 then b.1 else a.1)=1 then a.2.2++b.2.2 else [])
def Rc(k:Int)(a:Dd):Dd:=(agC a.1,a.2.1,if a.1=0 then [k] else a.2.2)
def beg(th:List Int):Pt->Dd
 |.thn p q=>if (beg th p).1=0 then S9 (beg th p) (beg th q) else beg th p
 |.bes p q=>Im (beg th p) (beg th q)
 |.iff s p q=>if s∈th then beg th p else beg th q
 |.again k p=>Rc k (beg th p)
 |.hold _ p=>beg th p
 |.watch _ p=>beg th p
 |.trap p=>(Ch (beg th p).1,(beg th p).2.1,(beg th p).2.2)
 |.nothing=>(0,[],[])
 |.send s=>(0,[s],[])
 |.exit d=>(2+d,[],[])
 |.rest k=>(1,[],[k])
 |.stay ks=>(1,[],ks)
theorem Pt.hg_pos(p:Pt):1<=p.hg:=by cases p<;>exact le_add_left 1 _
theorem N5(st:List Int)(p:Pt):(rem st p).1.length<=p.rc:=by
 induction p with
 |nothing=>exact uZ _
 |rest k=>simp only[rem];split;exact uZ _;exact vY _
 |send s=>exact uZ _
 |exit d=>exact uZ _
 |stay ks=>exact vY _
 |iff s p q a1 z=>simp only[rem,uC];exact add_le_add a1 z
 |thn p q a1 z=>simp only[rem,uC];exact add_le_add a1 z
 |bes p q a1 z=>simp only[rem,uC];exact add_le_add a1 z
 |again k p ih=>
  simp only[rem];split
  ·rw[uC,Nat.add_comm];exact succ_le_succ ih
  ·exact uY ih (le_succ _)
 |hold s p ih=>exact ih
 |watch s p ih=>exact ih
 |trap p ih=>exact ih
theorem Pt.lc_rc(p:Pt):p.lc<=p.rc:=by
 induction p with
 |iff s p q h1 h2=>exact max_le.mpr ⟨uY h1 (le_add_right _ _),uY h2 (le_add_left _ _)⟩
 |thn p q h1 h2=>exact max_le.mpr ⟨uY h1 (le_add_right _ _),uY h2 (le_add_left _ _)⟩
 |bes p q h1 h2=>exact add_le_add h1 h2
 |again k p h=>exact max_le.mpr ⟨le_add_left _ _,uY h (le_succ _)⟩
 |hold s p h=>exact h
 |watch s p h=>exact h
 |trap p h=>exact h
 |_=>exact uZ _
theorem N7(th:List Int)(p:Pt):(beg th p).2.1.length<=p.sc/\(beg th p).2.2.length<=p.lc:=by
 induction p with
 |nothing=>exact⟨uZ _,uZ _⟩
 |rest k=>exact⟨uZ _,uZ _⟩
 |send s=>exact⟨uZ _,uZ _⟩
 |exit d=>exact⟨uZ _,uZ _⟩
 |stay ks=>exact⟨uZ _,uZ _⟩
 |iff s p q z a1=>
  simp only[beg];split
  ·exact⟨uY z.1 (le_add_right _ _),uY z.2 (le_max_left _ _)⟩
  ·exact⟨uY a1.1 (le_add_left _ _),uY a1.2 (le_max_right _ _)⟩
 |thn p q z a1=>
  simp only[beg];split
  ·simp only[S9,uC]
   exact⟨add_le_add z.1 a1.1,uY a1.2 (le_max_right _ _)⟩
  ·exact⟨uY z.1 (le_add_right _ _),uY z.2 (le_max_left _ _)⟩
 |bes p q z a1=>
  simp only[beg,Im,uC];refine⟨add_le_add z.1 a1.1,?_⟩;generalize (if (beg th q).1>(beg th p).1 then(beg th q).1 else(beg th p).1)=c;split
  ·rw[uC];exact add_le_add z.2 a1.2
  ·exact vY _
 |again k p ih=>
  simp only[beg,Rc];refine⟨ih.1,?_⟩;split
  ·exact le_max_left _ _
  ·exact uY ih.2 (le_max_right _ _)
 |hold s p ih=>exact ih
 |watch s p ih=>exact ih
 |trap p ih=>exact ih
theorem Js{f:Pt->Nat}{a:List Int×Pt}(h0:f p<=n)(ha:f a.2<=n)(z:f b.2<=n)(ht:∀q r,p=.thn q r->f (.thn a.2 r)<=n)(hs:∀q r,p=.bes q r->f (.bes a.2 b.2)<=n):f (lp p a b)<=n:=by
 unfold lp;split
 ·split
  ·exact ht _ _ rfl
  ·exact z
 ·split
  ·exact hs _ _ rfl
  ·split
   ·exact ha
   ·split
    ·exact z
    ·exact h0
 ·split
  ·exact ha
  ·split
   ·exact z
   ·exact h0
theorem To(st:List Int)(p:Pt):(rem st p).2.sc<=p.sc:=by
 induction p with
 |nothing=>exact uZ _
 |rest k=>simp only[rem];split<;>exact uZ _
 |send s=>exact uZ _
 |exit d=>exact uZ _
 |stay ks=>exact uZ _
 |iff s p q z a1=>exact Js (f:=Pt.sc) (p:=.iff s p q) (a:=rem st p) (b:=rem st q) (n:=Pt.sc (.iff s p q)) (uZ _) (uY z (le_add_right _ _)) (uY a1 (le_add_left _ _)) (λ_ _ e=>nomatch e) (λ_ _ e=>nomatch e)
 |thn p q z a1=>exact Js (f:=Pt.sc) (p:=.thn p q) (a:=rem st p) (b:=rem st q) (n:=Pt.sc (.thn p q)) (uZ _) (uY z (le_add_right _ _)) (uY a1 (le_add_left _ _)) (λ_ _ e=>by cases e;exact Nat.add_le_add_right z _) (λ_ _ e=>nomatch e)
 |bes p q z a1=>exact Js (f:=Pt.sc) (p:=.bes p q) (a:=rem st p) (b:=rem st q) (n:=Pt.sc (.bes p q)) (uZ _) (uY z (le_add_right _ _)) (uY a1 (le_add_left _ _)) (λ_ _ e=>nomatch e) (λ_ _ e=>by cases e;exact add_le_add z a1)
 |again k p ih=>
  simp only[rem];split
  ·exact uZ _
  ·unfold lr;split
   ·exact uZ _
   ·exact ih
 |hold s p ih=>simp only[rem];unfold lr;split;exact uZ _;exact uY (le_of_eq (zero_add _)) ih
 |watch s p ih=>simp only[rem];unfold lr;split;exact uZ _;exact uY (le_of_eq (zero_add _)) ih
 |trap p ih=>simp only[rem];unfold lr;split;exact uZ _;exact ih
theorem AbQ(st:List Int)(p:Pt):(rem st p).2.lc<=p.rc:=by
 induction p with
 |nothing=>exact uZ _
 |rest k=>simp only[rem];split;exact vY _;exact uZ _
 |send s=>exact uZ _
 |exit d=>exact uZ _
 |stay ks=>exact uZ _
 |iff s p q z a1=>exact Js (f:=Pt.lc) (p:=.iff s p q) (a:=rem st p) (b:=rem st q) (n:=Pt.rc (.iff s p q)) (Pt.lc_rc _) (uY z (le_add_right _ _)) (uY a1 (le_add_left _ _)) (λ_ _ e=>nomatch e) (λ_ _ e=>nomatch e)
 |thn p q z a1=>exact Js (f:=Pt.lc) (p:=.thn p q) (a:=rem st p) (b:=rem st q) (n:=Pt.rc (.thn p q)) (Pt.lc_rc _) (uY z (le_add_right _ _)) (uY a1 (le_add_left _ _)) (λ_ _ e=>by cases e;exact max_le.mpr ⟨uY z (le_add_right _ _),uY (Pt.lc_rc q) (le_add_left _ _)⟩) (λ_ _ e=>nomatch e)
 |bes p q z a1=>exact Js (f:=Pt.lc) (p:=.bes p q) (a:=rem st p) (b:=rem st q) (n:=Pt.rc (.bes p q)) (Pt.lc_rc _) (uY z (le_add_right _ _)) (uY a1 (le_add_left _ _)) (λ_ _ e=>nomatch e) (λ_ _ e=>by cases e;exact add_le_add z a1)
 |again k p ih=>
  simp only[rem];split
  ·exact Pt.lc_rc _
  ·unfold lr;split
   ·exact Pt.lc_rc _
   ·exact max_le.mpr ⟨le_add_left _ _,uY ih (le_succ _)⟩
 |hold s p ih=>simp only[rem];unfold lr;split;exact Pt.lc_rc p;exact max_le.mpr ⟨N5 st p,ih⟩
 |watch s p ih=>simp only[rem];unfold lr;split;exact Pt.lc_rc p;exact max_le.mpr ⟨vY _,ih⟩
 |trap p ih=>simp only[rem];unfold lr;split;exact Pt.lc_rc p;exact ih
theorem AbH(st:List Int)(p:Pt):(rem st p).2.hg<=p.hg:=by
 induction p with
 |nothing=>exact uZ _
 |rest k=>simp only[rem];split<;>exact uZ _
 |send s=>exact uZ _
 |exit d=>exact uZ _
 |stay ks=>exact uZ _
 |iff s p q z a1=>exact Js (f:=Pt.hg) (p:=.iff s p q) (a:=rem st p) (b:=rem st q) (n:=Pt.hg (.iff s p q)) (uZ _) (uY z (uY (le_max_left _ _) (le_succ _))) (uY a1 (uY (le_max_right _ _) (le_succ _))) (λ_ _ e=>nomatch e) (λ_ _ e=>nomatch e)
 |thn p q z a1=>exact Js (f:=Pt.hg) (p:=.thn p q) (a:=rem st p) (b:=rem st q) (n:=Pt.hg (.thn p q)) (uZ _) (uY z (uY (le_max_left _ _) (le_succ _))) (uY a1 (uY (le_max_right _ _) (le_succ _))) (λ_ _ e=>by cases e;exact succ_le_succ (max_le.mpr ⟨uY z (le_max_left _ _),le_max_right _ _⟩)) (λ_ _ e=>nomatch e)
 |bes p q z a1=>exact Js (f:=Pt.hg) (p:=.bes p q) (a:=rem st p) (b:=rem st q) (n:=Pt.hg (.bes p q)) (uZ _) (uY z (uY (le_max_left _ _) (le_succ _))) (uY a1 (uY (le_max_right _ _) (le_succ _))) (λ_ _ e=>nomatch e) (λ_ _ e=>by cases e;exact succ_le_succ (max_le.mpr ⟨uY z (le_max_left _ _),uY a1 (le_max_right _ _)⟩))
 |again k p ih=>
  simp only[rem];split
  ·exact uZ _
  ·unfold lr;split
   ·exact uZ _
   ·exact succ_le_succ ih
 |hold s p ih=>simp only[rem];unfold lr;split;exact uZ _;exact succ_le_succ (max_le.mpr ⟨Pt.hg_pos p,ih⟩)
 |watch s p ih=>simp only[rem];unfold lr;split;exact uZ _;exact succ_le_succ (max_le.mpr ⟨Pt.hg_pos p,ih⟩)
 |trap p ih=>simp only[rem];unfold lr;split;exact uZ _;exact succ_le_succ ih
def Lw(l:List Int):List Int:=l.mergeSort (λa b=>decide (a<=b))
theorem L5(l:List Int):(Lw l).Perm l:=List.mergeSort_perm l _
theorem Zm(l:List Int):(Lw l).Pairwise (·<=·):=by
 have:=List.pairwise_mergeSort (le:=λa b:Int=>decide (a<=b)) (λa b c h1 h2=>by simp at *;omega) (λa b=>by simp;omega) l;exact this.imp λ{a b}h=>by simpa using h
theorem Acm{a b:List Int}(p:a.Perm b)(ha:a.Pairwise (·<=·))(hb:b.Pairwise (·<=·)):a=b:=by
 induction a generalizing b with
 |nil=>exact p.nil_eq.symm▸rfl
 |cons x a ih=>
  cases b with
  |nil=>exact absurd p.length_eq (by simp)
  |cons y b=>
   have a1:=vQ.mp ha;have a2:=vQ.mp hb
   have e:x=y:=by
    have h1:x<=y:=by
     rcases vJ.mp (p.mem_iff.mpr (uF (a:=y) (l:=b))) with z|z
     ·omega
     ·exact a1.1 y z
    have h2:y<=x:=by
     rcases vJ.mp (p.mem_iff.mp (uF (a:=x) (l:=a))) with z|z
     ·omega
     ·exact a2.1 x z
    omega
   subst e
   congr 1
   exact ih (List.Perm.cons_inv p) a1.2 a2.2
theorem AcW(p:ms.Perm l)(h:ms.Pairwise (·<=·)):ms=Lw l:=Acm (p.trans (L5 l).symm) h (Zm l)
def pb(p:Pt):Option (List Int)->Pt
 |none=>p
 |some st=>(rem st p).2
def Ti(p:Pt)(st:Option (List Int))(th:List Int):Dd:=((beg th (pb p st)).1,nub (beg th (pb p st)).2.1,Lw (beg th (pb p st)).2.2)
theorem AgM{b:Bool}{A B:Prop}(h:b=false)(z:B):if b=true then A else B:=by rw[h,if_neg qc];exact z
theorem Aga{b:Bool}{A B:Prop}(h:b=true)(z:A):if b=true then A else B:=by rw[h,if_pos rfl];exact z
theorem Lq{l:List Int}{A B:Prop}(h1:¬l=[]->A)(h2:l=[]->B):if (!(l.map V.int).isEmpty)=true then A else B:=by
 cases l with
 |nil=>exact h2 rfl
 |cons x r=>exact h1 (by simp)
theorem Tl{i j:Int}{A B:Prop}(h1:i=j->A)(h2:¬i=j->B):if decide (V.int i=V.int j)=true then A else B:=by
 by_cases c:i=j
 ·rw[uI (congrArg V.int c),if_pos rfl];exact h1 c
 ·rw[uJ (λz=>c (V.int.inj z)),if_neg qc];exact h2 c
theorem Us{k:Int}{l:List Int}{A B:Prop}(h1:k∈l->A)(h2:¬k∈l->B):if (if false=true then !inV (V.int k) (l.map V.int) else inV (V.int k) (l.map V.int))=true then A else B:=by
 rw[if_neg qc,Ee]
 by_cases c:k∈l
 ·rw[uI c,if_pos rfl];exact h1 c
 ·rw[uJ c,if_neg qc];exact h2 c
theorem Ce{A B:Prop}(h1:x=y->A)(h2:¬x=y->B):if decide (V.str x=V.str y)=true then A else B:=by
 by_cases c:x=y
 ·subst c;exact Jr (h1 rfl)
 ·exact E2 c (h2 c)
theorem Afh{b:Bool}{A B:Prop}(h1:b=true->A)(h2:b=false->B):if b=true then A else B:=by
 cases b with
 |true=>rw[if_pos rfl];exact h1 rfl
 |false=>rw[if_neg qc];exact h2 rfl
def wdP:Pt->Str
 |.nothing=> "nothing"
 |.rest _=> "rest"
 |.send _=> "send"
 |.exit _=> "exit"
 |.stay _=> "stay"
 |.iff _ _ _=> "if"
 |.again _ _=> "again"
 |.hold _ _=> "hold"
 |.watch _ _=> "watch"
 |.trap _=> "trap"
 |.thn _ _=> "then"
 |.bes _ _=> "beside"
theorem Age(p:Pt):∃r,Pt.nd p=.t (.s (wdP p)::r):=by cases p<;>exact⟨_,Z⟩
theorem Jv(h:PAt K H (Pt.nd p) v):∃a vs,v=.ref a/\Er K H a (.str (wdP p)::vs):=by
 obtain⟨r,e⟩:=Age p;rw[e]at h;obtain⟨a,vs,rfl,hs,z⟩:=PAt.get h;unfold Ba at z;obtain⟨v,r',rfl,q,l⟩:=z;cases q.str
 exact⟨a,r',Z,hs⟩
theorem Tr(e:wdP p ="then"):∃p1 p2,p=.thn p1 p2:=by cases p<;>first|exact⟨_,_,Z⟩|(dsimp only[wdP]at e;exact absurd e (by trivial))
theorem Abj(e:wdP p ="beside"):∃p1 p2,p=.bes p1 p2:=by cases p<;>first|exact⟨_,_,Z⟩|(dsimp only[wdP]at e;exact absurd e (by trivial))
theorem Tn(e:wdP p ="if"):∃x p1 p2,p=.iff x p1 p2:=by cases p<;>first|exact⟨_,_,_,Z⟩|(dsimp only[wdP]at e;exact absurd e (by trivial))
theorem Um(e:wdP p ="again"):∃k p1,p=.again k p1:=by cases p<;>first|exact⟨_,_,Z⟩|(dsimp only[wdP]at e;exact absurd e (by trivial))
theorem Nu(e:wdP p ="hold"):∃x p1,p=.hold x p1:=by cases p<;>first|exact⟨_,_,Z⟩|(dsimp only[wdP]at e;exact absurd e (by trivial))
theorem Oy(e:wdP p ="watch"):∃x p1,p=.watch x p1:=by cases p<;>first|exact⟨_,_,Z⟩|(dsimp only[wdP]at e;exact absurd e (by trivial))
theorem Qq(e:wdP p ="trap"):∃p1,p=.trap p1:=by cases p<;>first|exact⟨_,Z⟩|(dsimp only[wdP]at e;exact absurd e (by trivial))
theorem Adf(e:wdP p ="exit"):∃k,p=.exit k:=by cases p<;>first|exact⟨_,Z⟩|(dsimp only[wdP]at e;exact absurd e (by trivial))
theorem X0(e:wdP p ="send"):∃k,p=.send k:=by cases p<;>first|exact⟨_,Z⟩|(dsimp only[wdP]at e;exact absurd e (by trivial))
theorem Ym(e:wdP p ="stay"):∃k,p=.stay k:=by cases p<;>first|exact⟨_,Z⟩|(dsimp only[wdP]at e;exact absurd e (by trivial))
theorem J2(e:wdP p ="rest"):∃k,p=.rest k:=by cases p<;>first|exact⟨_,Z⟩|(dsimp only[wdP]at e;exact absurd e (by trivial))
theorem Nn{z:Type}{l:List z}{x:z}(h:l.length<=j):(l++[x]).length<=j+1:=by rw[uC,uD];exact succ_le_succ h
theorem lt9(h:n<64):n<=900:=uY (le_of_lt h) (by decide)
theorem Tf(h:n<=k)(z:k<=1000):n<=1000:=uY h z
theorem Acz{a:Nat}(h1:a<=k)(h2:b<=l)(z:k+l<=1000):a+b<=1000:=uY (add_le_add h1 h2) z
theorem AcH{a:Nat}(h1:a<=k)(h2:b<=l)(z:k+l<64):a+b<64:=vB (add_le_add h1 h2) z
theorem AgO{s:Int}(h:0<=s/\s<n):s.toNat<n:=(Int.toNat_lt h.1).mpr h.2
theorem hgl{a:Nat}(h:max a b+1<=n+1):a<=n:=uY (le_max_left _ _) (le_of_succ_le_succ h)
theorem hgr{a:Nat}(h:max a b+1<=n+1):b<=n:=uY (le_max_right _ _) (le_of_succ_le_succ h)
theorem adl{a b:Nat}(h:a+b<=n):a<=n:=uY (le_add_right _ _) h
theorem adr{a b:Nat}(h:a+b<=n):b<=n:=uY (le_add_left _ _) h
theorem mxl{a b:Nat}(h:max a b<=n):a<=n:=uY (le_max_left _ _) h
theorem mxr{a b:Nat}(h:max a b<=n):b<=n:=uY (le_max_right _ _) h
structure Db(K:FA)(mg:Str->Option Value)(aN aP aR:Addr)(uE uR uL:Value):Prop extends Txt mg where
 m_ENDED:mg "ENDED"= some uE
 r_ENDED:A7 (.int 0) uE
 m_RESTS:mg "RESTS"= some uR
 r_RESTS:A7 (.int 1) uR
 m_LEAVES:mg "LEAVES"= some uL
 r_LEAVES:A7 (.int 2) uL
 m_NOTHING:mg "NOTHING"= some (.ref aN)
 r_NOTHING:A7 (.ref aN) (Value.ref aN)
 mN:Mz K aN [V.str "nothing"]
 m_PAIRS:mg "PAIRS"= some (.ref aP)
 r_PAIRS:A7 (.ref aP) (Value.ref aP)
 mP:Mz K aP [V.str "then",V.str "if",V.str "beside"]
 m_ROUND:mg "ROUND"= some (.ref aR)
 r_ROUND:A7 (.ref aR) (Value.ref aR)
 mR:Mz K aR [V.str "again",V.str "hold",V.str "watch",V.str "trap"]
inductive Kq(K:FA)(H:Hp)(t:Addr)(r:List Int×Pt)   : Prop
 |mk(l)(v)(_:H t=some (.tup [.ref l,v]))(_:H l=some (.lst (r.1.map V.int)))(_:PAt K H r.2.nd v):Kq K H t r
theorem Kq.mono(g:Same H H')(h:Kq K H t r):Kq K H' t r:=by
 obtain⟨l,v,h1,h2,h3⟩:=h;exact⟨l,v,g _ _ h1,g _ _ h2,h3.mono g.tp⟩
theorem Sf:∀(l:List Int),Ba K H (l.map Nd.i) (l.map V.int)
 |[]=>.nil
 |x::r=>.cons .i (Sf r)
theorem Ub:∀{l:List Int}{vs:List V},Ba K H (l.map Nd.i) vs->vs=l.map V.int
 |[],vs,h=>by unfold Ba at h;exact h
 |x::r,vs,h=>by
  have h:=h;unfold Ba at h;obtain⟨v,r',rfl,q,l⟩:=h;cases q.int
  rw[Ub l];rfl
def E8:Pt->Bool
 |.nothing=>true
 |.rest _=>true
 |.send _=>true
 |.exit _=>true
 |.stay _=>true
 |_=>false
def isPr:Pt->Bool
 |.iff _ _ _=>true
 |.thn _ _=>true
 |.bes _ _=>true
 |_=>false
def isRd:Pt->Bool
 |.again _ _=>true
 |.hold _ _=>true
 |.watch _ _=>true
 |.trap _=>true
 |_=>false
theorem Y2(n1:¬wdP p ="then")(n2:¬wdP p ="beside")(n3:¬wdP p ="if")(n4:¬wdP p ="again")(n5:¬wdP p ="hold")(z:¬wdP p ="watch")(n7:¬wdP p ="trap"):E8 p=true:=by
 cases p<;>first|rfl|exact absurd rfl n1|exact absurd rfl n2|exact absurd rfl n3|exact absurd rfl n4|exact absurd rfl n5|exact absurd rfl z|exact absurd rfl n7
theorem Af4{A B:Prop}(h1:isPr p=true->A)(h2:isPr p=false->B):if (if false=true then !inV (V.str (wdP p)) [V.str "then",V.str "if",V.str "beside"] else inV (V.str (wdP p)) [V.str "then",V.str "if",V.str "beside"])=true then A else B:=by
 rw[show(if false=true then !inV (V.str (wdP p)) [V.str "then",V.str "if",V.str "beside"] else inV (V.str (wdP p)) [V.str "then",V.str "if",V.str "beside"])=isPr p from by cases p<;>(dsimp only[wdP,isPr];trivial)];exact Afh h1 h2
theorem AgK{A B:Prop}(h1:isRd p=true->A)(h2:isRd p=false->B):if (if false=true then !inV (V.str (wdP p)) [V.str "again",V.str "hold",V.str "watch",V.str "trap"] else inV (V.str (wdP p)) [V.str "again",V.str "hold",V.str "watch",V.str "trap"])=true then A else B:=by
 rw[show(if false=true then !inV (V.str (wdP p)) [V.str "again",V.str "hold",V.str "watch",V.str "trap"] else inV (V.str (wdP p)) [V.str "again",V.str "hold",V.str "watch",V.str "trap"])=isRd p from by cases p<;>(dsimp only[wdP,isRd];trivial)];exact Afh h1 h2
inductive PrV(K:FA)(H:Hp)(p:Pt)(v:V)(n:Nat):Prop
 |mk(a:Addr)(vs:List V)(x1 x2:V)(p1 p2:Pt)(e:v=.ref a)(hs:Er K H a vs)(i1:atI vs (-2)=some x1)(i2:atI vs (-1)=some x2)(h1:PAt K H (Pt.nd p1) x1)(h2:PAt K H (Pt.nd p2) x2)(c1:p1.hg<=n)(c2:p2.hg<=n)(hc:p1.rc+p2.rc<=900)(er:∀ns,rem ns p=((rem ns p1).1++(rem ns p2).1,lp p (rem ns p1) (rem ns p2)))
theorem AfS(h:PAt K H (Pt.nd p) v)(z:isPr p=true)(hh:p.hg<=n+1)(hc:p.rc<=900):PrV K H p v n:=by
 cases p with
 |thn p1 p2=>
  obtain⟨a,vs,rfl,hs,hx⟩:=PAt.get h;obtain⟨x0,x1,x2,rfl,h0,h1,h2⟩:=hx.three;exact⟨a,_,x1,x2,p1,p2,Z,hs,Ij (by simp) rfl,E1 rfl,h1,h2,hgl hh,hgr hh,hc,λ_=>rfl⟩
 |bes p1 p2=>
  obtain⟨a,vs,rfl,hs,hx⟩:=PAt.get h;obtain⟨x0,x1,x2,rfl,h0,h1,h2⟩:=hx.three;exact⟨a,_,x1,x2,p1,p2,Z,hs,Ij (by simp) rfl,E1 rfl,h1,h2,hgl hh,hgr hh,hc,λ_=>rfl⟩
 |iff sn p1 p2=>
  obtain⟨a,vs,rfl,hs,hx⟩:=PAt.get h;obtain⟨x0,x1,x2,x3,rfl,h0,h1,h2,h3⟩:=hx.four;exact⟨a,_,x2,x3,p1,p2,Z,hs,Ij (by simp) rfl,E1 rfl,h2,h3,hgl hh,hgr hh,hc,λ_=>rfl⟩
 |_=>cases z
inductive RdV(K:FA)(H:Hp)(p:Pt)(v:V)(n:Nat):Prop
 |mk(a:Addr)(vs:List V)(x1:V)(p1:Pt)(e:v=.ref a)(hs:Er K H a (.str (wdP p)::vs))(i1:atI (.str (wdP p)::vs) (-1)=some x1)(h1:PAt K H (Pt.nd p1) x1)(c1:p1.hg<=n)(c2:p1.rc<=900)(hor:(∃k,p=.again k p1/\p1.rc+1<=900/\vs=[.int k,x1])\/(¬wdP p ="again" /\ ∀ns,rem ns p=((rem ns p1).1,lr p (rem ns p1))))
theorem AfU(h:PAt K H (Pt.nd p) v)(z:isRd p=true)(hh:p.hg<=n+1)(hc:p.rc<=900):RdV K H p v n:=by
 cases p with
 |again k p1=>
  obtain⟨a,rfl⟩:=Fx h;obtain⟨x2,hs,h2⟩:=g3i h;exact⟨a,_,x2,p1,Z,hs,E1 rfl,h2,le_of_succ_le_succ hh,Nat.le_of_succ_le hc,.inl ⟨k,Z,hc,Z⟩⟩
 |hold k p1=>
  obtain⟨a,rfl⟩:=Fx h;obtain⟨x1,x2,hs,h1,h2⟩:=g3 h;exact⟨a,_,x2,p1,Z,hs,E1 rfl,h2,le_of_succ_le_succ hh,hc,.inr ⟨by dsimp only[wdP];trivial,λ_=>rfl⟩⟩
 |watch k p1=>
  obtain⟨a,rfl⟩:=Fx h;obtain⟨x1,x2,hs,h1,h2⟩:=g3 h;exact⟨a,_,x2,p1,Z,hs,E1 rfl,h2,le_of_succ_le_succ hh,hc,.inr ⟨by dsimp only[wdP];trivial,λ_=>rfl⟩⟩
 |trap p1=>
  obtain⟨a,rfl⟩:=Fx h;obtain⟨x1,hs,h1⟩:=g2 h;exact⟨a,_,x1,p1,Z,hs,E1 rfl,h1,le_of_succ_le_succ hh,hc,.inr ⟨by dsimp only[wdP];trivial,λ_=>rfl⟩⟩
 |_=>cases z
theorem Acu(h1:isPr p=false)(h2:isRd p=false)(h3:¬wdP p ="rest")(ns:List Int):rem ns p=([],p):=by
 cases p<;>first|rfl|(cases h1;done)|(cases h2;done)|exact absurd rfl h3
def Ae9(ns:List Int):Pt->Bool
 |.again k _=>decide (k∈ns)
 |_=>false
def AaZ(ns:List Int):Pt->Bool
 |.rest k=>decide (k∈ns)
 |_=>false
theorem W5(h:¬wdP p ="again")(ns:List Int):Ae9 ns p=false:=by cases p<;>first|rfl|exact absurd rfl h
theorem R7(h:¬wdP p ="rest")(ns:List Int):AaZ ns p=false:=by cases p<;>first|rfl|exact absurd rfl h
theorem Wv{t:TT}{a u:TS}(b:Bool)(h:∀N:Bool->Hp->Prop,N b H->t σ H N)(ka:b=true->a {D with nx:=u D} σ H)(z:b=false->u D σ H):tSeq (tIfS t a tNext) u D σ H:=
 h _ (by
  cases b with
  |true=>exact C8 (ka rfl)
  |false=>exact Ez (z rfl))
theorem Act(h:E8 p=true)(th z:List Int):beg th p=beg z p:=by cases p<;>first|rfl|cases h
theorem Adp(h:E8 p=true)(n1:¬wdP p ="exit")(n2:¬wdP p ="rest")(n3:¬wdP p ="stay"):(beg [] p).1=0:=by cases p<;>first|rfl|exact absurd rfl n1|exact absurd rfl n2|exact absurd rfl n3|cases h
theorem AeC(h:E8 p=true)(n1:¬wdP p ="rest")(n2:¬wdP p ="stay"):(beg [] p).2.2=[]:=by cases p<;>first|rfl|exact absurd rfl n1|exact absurd rfl n2|cases h
theorem AeS(h:E8 p=true)(n1:¬wdP p ="send"):(beg [] p).2.1=[]:=by cases p<;>first|rfl|exact absurd rfl n1|cases h
inductive Sq(K:FA)(vs:List V)(H:Hp)(Q:VK):Prop
 |mk(v)(p)(_:vs=[v])(_:PAt K H (Pt.nd p) v)(_:E8 p=true)(_:Q (.int (beg [] p).1) H)
def J4(K:FA):Sp:=λvs H Q _=>Sq K vs H Q
inductive X9  (vs:List V) (H:Hp) (Q:VK):Prop
 |mk(c:Int)(_:vs=[.int c])(_:Q (.int (agC c)) H):X9  vs H Q
def L4:Sp:=λvs H Q _=>X9  vs H Q
inductive Y4  (vs:List V) (H:Hp) (Q:VK):Prop
 |mk(c:Int)(_:vs=[.int c])(_:Q (.int (Ch c)) H):Y4  vs H Q
def Ks:Sp:=λvs H Q _=>Y4  vs H Q
inductive Aaf(K:FA)(vs:List V)(H:Hp)(Q:VK):Prop
 |mk(v)(p)(t1)(t2)(a:_)(b)(_:vs=[v,.ref t1,.ref t2])(_:PAt K H (Pt.nd p) v)(_:isPr p=true)(_:Kq K H t1 a)(_:Kq K H t2 b)(_:∀v' H',Same H H'->PAt K H' (lp p a b).nd v'->Q v' H')
def Acd(K:FA):Sp:=λvs H Q _=>Aaf K vs H Q
inductive Aav(K:FA)(vs:List V)(H:Hp)(Q:VK):Prop
 |mk(v)(p)(t)(a:_)(_:vs=[v,.ref t])(_:PAt K H (Pt.nd p) v)(_:isRd p=true)(_:Kq K H t a)(_:∀v' H',Same H H'->PAt K H' (lr p a).nd v'->Q v' H')
def Acp(K:FA):Sp:=λvs H Q _=>Aav K vs H Q
inductive Ww(K:FA)(n:Nat)(vs:List V)(H:Hp)(Q:VK):Prop
 |mk(v)(p)(st:_)(ns)(_:vs=[v,.ref st])(_:PAt K H (Pt.nd p) v)(_:SqL K H st ((ns:List Int).map V.int))(_:p.hg<=n)(_:p.rc<=900)(_:∀t H',Same H H'->Kq K H' t (rem ns p)->Q (.ref t) H')
def N8(K:FA)(n:Nat):Sp:=λvs H Q _=>Ww K n vs H Q
def Kc(K:FA)(H:Hp):Option (List Int)->V->Prop
 |none,v=>v=.non
 |some ns,v=>∃a,v=.ref a/\SqL K H a (ns.map V.int)
inductive Wz(K:FA)(n:Nat)(vs:List V)(H:Hp)(Q:VK):Prop
 |mk(v)(p)(sv)(st:_)(_:vs=[v,sv])(_:PAt K H (Pt.nd p) v)(_:Kc K H st sv)(_:(st=none\/(p.hg<=n/\p.rc<=900)))(_:∀v' H',Same H H'->PAt K H' (pb p st).nd v'->Q v' H')
def Zz(K:FA)(n:Nat):Sp:=λvs H Q _=>Wz K n vs H Q
section
variable{aN aP aR:Addr}{uE uR uL:Value}
theorem K2(F:Ax K mg "leaf_code" ["part"] Ir)(T:Db K mg aN aP aR uE uR uL):Ai P w K mg base 1 "leaf_code" ["part"] (J4 K):=by
 refine F.ok We (λvs H Q E h=>?_) (λf cdv A outer s H vs Q E hr h=>?_)
 ·obtain⟨v,p,rfl,_⟩:=h;rfl
 obtain⟨v,p,rfl,hp,lf,q⟩:=h
 refine⟨_,(Ad (A9 (An A1 (Aj Ag (pv 0) Af (λ_ _=>rfl)) Ap (Aq _))
   (Ah (Ao (A3 Jd (Bl rfl T.m_LEAVES T.r_LEAVES) (Aj Ag (pv 0) Af (λ_ _=>rfl)))))
   A0)
  (Ad (A9 (PW.pt (Gc (An A1 (Aj Ag (pv 0) Af (λ_ _=>rfl)) Ap (Aq _)) (Fg (An A1 (Aj Ag (pv 0) Af (λ_ _=>rfl)) Ap (Aq _)))))
   (Ah (Ao (Bl rfl T.m_RESTS T.r_RESTS)))
   A0)
  (Ah (Ao (Bl rfl T.m_ENDED T.r_ENDED))))),?_⟩
 obtain⟨a,vs,rfl,hs⟩:=Jv hp;refine⟨hs.sq,Ac (j:=0) rfl,Z,Ce (λe=>?_) λn1=>⟨hs.sq,Ac (j:=0) rfl,Z,Ce (λe=>C8 ?_) λn2=>⟨hs.sq,Ac (j:=0) rfl,Z,Ce (λe=>?_) λn3=>?_⟩⟩⟩
 ·obtain⟨x,rfl⟩:=Adf e
  have hs:=g2i hp;exact⟨hs.sq,Ac (j:=1) rfl,_,_,Z,Z,q⟩
 ·obtain⟨x,rfl⟩:=J2 e
  exact q
 ·obtain⟨x,rfl⟩:=Ym e
  exact q
 ·rw[Adp lf n1 n2 n3]at q
  exact q
theorem Ur(F:Ax K mg "code_of_again" ["code"] Fs)(T:Db K mg aN aP aR uE uR uL):Ai P w K mg base 1 "code_of_again" ["code"] L4:=by
 refine F.ok On (λvs H Q E h=>?_) (λf cdv A outer s H vs Q E hr h=>?_)
 ·obtain⟨c,rfl,_⟩:=h;rfl
 obtain⟨c,rfl,q⟩:=h;refine⟨_,(Ah (Ao (Br (An A1 (pv 0) (Bl rfl T.m_ENDED T.r_ENDED) (Aq _)) (Bl rfl T.m_RESTS T.r_RESTS) (pv 0)))),?_⟩;unfold agC at q;refine⟨Z,Tl (λc=>?_) λc=>?_⟩
 ·rw[if_pos c]at q;exact q
 ·rw[if_neg c]at q;exact(q)
theorem Ts(F:Ax K mg "code_of_trap" ["code"] Gh)(T:Db K mg aN aP aR uE uR uL):Ai P w K mg base 1 "code_of_trap" ["code"] Ks:=by
 refine F.ok Pw (λvs H Q E h=>?_) (λf cdv A outer s H vs Q E hr h=>?_)
 ·obtain⟨c,rfl,_⟩:=h;rfl
 obtain⟨c,rfl,q⟩:=h
 refine⟨_,(Ad (A9 (An A1 (pv 0) (Bl rfl T.m_LEAVES T.r_LEAVES) (Aq _))
   (Ah (Ao (Bl rfl T.m_ENDED T.r_ENDED)))
   A0)
  (Ah (Ao (Br (An AdK (pv 0) (Bl rfl T.m_LEAVES T.r_LEAVES) (Aq _)) (A3 Vy (pv 0) Af) (pv 0))))),?_⟩
 unfold Ch at q;refine⟨Z,Tl (λc=>?_) λc=>?_⟩
 ·rw[if_pos c]at q;exact q
 ·rw[if_neg c]at q
  refine⟨_,_,Z,Z,A2 (λc=>?_) λc=>?_⟩
  ·rw[if_pos (uK c)]at q;exact⟨_,_,Z,Z,q⟩
  ·rw[if_neg (λz=>c (uI z))]at q;exact(q)
theorem Af0(F:Ax K mg "left_of_pair" ["part","first","second"] Gj)(T:Db K mg aN aP aR uE uR uL):Ai P w K mg base 1 "left_of_pair" ["part","first","second"] (Acd K):=by
 refine F.ok P6 (λvs H Q E h=>?_) (λf cdv A outer s H vs Q E hr h=>?_)
 ·obtain⟨v,p,t1,t2,a,b,rfl,_⟩:=h;rfl
 obtain⟨v,p,t1,t2,ra,rb,rfl,hp,pr,⟨l1,v1,a1,a2,a3⟩,⟨l2,v2,b1,b2,b3⟩,q⟩:=h
 refine⟨_,(Ad (A9 (An A1 (Aj Ag (pv 0) Af (λ_ _=>rfl)) Ap (Aq _))
   (Ah (Ao (Br (Ex (Aj Ag (pv 2) Af (λ_ _=>rfl)) (λ_=>rfl)) (Aj Ag (pv 2) Af (λ_ _=>rfl)) (Ay (Aa Ap (Aa (Aj Ag (pv 1) Af (λ_ _=>rfl)) (Aa (Aj Ag (pv 0) Af (λ_ _=>rfl)) Ab)))))))
   A0)
  (Ad (A9 (PW.pt (Mm (An A1 (Aj Ag (pv 0) Af (λ_ _=>rfl)) Ap (Aq _)) (Mm (Ex (Aj Ag (pv 1) Af (λ_ _=>rfl)) (λ_=>rfl)) (Ny (Ex (Aj Ag (pv 2) Af (λ_ _=>rfl)) (λ_=>rfl))))))
   (Ah (Ao (Ay (Aa Ap (Aa (Aj Ag (pv 1) Af (λ_ _=>rfl)) (Aa (Aj Ag (pv 2) Af (λ_ _=>rfl)) Ab))))))
   A0)
  (Ad (A9 (Ex (Aj Ag (pv 1) Af (λ_ _=>rfl)) (λ_=>rfl))
   (Ah (Ao (Aj Ag (pv 1) Af (λ_ _=>rfl))))
   A0)
  (Ah (Ao (Br (Ex (Aj Ag (pv 2) Af (λ_ _=>rfl)) (λ_=>rfl)) (Aj Ag (pv 2) Af (λ_ _=>rfl)) (pv 0))))))),?_⟩
 cases p with
 |thn p1 p2=>
  obtain⟨a,rfl⟩:=Fx hp;obtain⟨x1,x2,hs,h1,h2⟩:=g3 hp;refine⟨hs.sq,Ac (j:=0) rfl,Z,Jr ⟨SqT.of b1,Ac (j:=0) rfl,_,.inl ⟨_,SqL.of b2,Z⟩,Lq (λc=>?_) λc=>?_⟩⟩
  ·exact⟨SqT.of b1,Ac (j:=1) rfl,q _ _ (Same.refl _) (by unfold lp;dsimp only;rw[if_neg c];exact b3)⟩
  ·refine⟨SqT.of a1,Ac (j:=1) rfl,hs.sq,Ac (j:=2) rfl,zN3,λt ht=>?_⟩
   have g:=Ae ht (.tup [V.str "then",v1,x2]);exact q _ _ g (by unfold lp;dsimp only;rw[if_pos c];exact .t (.inl qa) (.cons .s (.cons (a3.mono g.tp) (.cons (h2.mono g.tp) .nil))))
 |bes p1 p2=>
  obtain⟨a,rfl⟩:=Fx hp;obtain⟨x1,x2,hs,h1,h2⟩:=g3 hp
  have a4:∀(c:ra.1=[]\/rb.1=[]),lp (.bes p1 p2) ra rb=(if ¬ra.1=[] then ra.2 else if ¬rb.1=[] then rb.2 else .bes p1 p2):=λc=>by
   unfold lp;dsimp only;rw[if_neg (λz=>c.elim z.1 z.2)]
  refine⟨hs.sq,Ac (j:=0) rfl,Z,E2 (by trivial) ⟨hs.sq,Ac (j:=0) rfl,Z,Jr ⟨SqT.of a1,Ac (j:=0) rfl,_,.inl ⟨_,SqL.of a2,Z⟩,Lq (λc1=>?_) λc1=>?_⟩⟩⟩
  ·refine⟨SqT.of b1,Ac (j:=0) rfl,_,.inl ⟨_,SqL.of b2,Z⟩,Lq (λc2=>?_) λc2=>?_⟩
   ·refine⟨SqT.of a1,Ac (j:=1) rfl,SqT.of b1,Ac (j:=1) rfl,zN3,λt ht=>?_⟩
    have g:=Ae ht (.tup [V.str "beside",v1,v2]);exact q _ _ g (by unfold lp;dsimp only;rw[if_pos ⟨c1,c2⟩];exact .t (.inl qa) (.cons .s (.cons (a3.mono g.tp) (.cons (b3.mono g.tp) .nil))))
   ·refine⟨SqT.of a1,Ac (j:=0) rfl,_,.inl ⟨_,SqL.of a2,Z⟩,Lq (λ_=>?_) λz=>absurd z c1⟩
    exact⟨SqT.of a1,Ac (j:=1) rfl,q _ _ (Same.refl _) (by rw[a4 (.inr c2),if_pos c1];exact a3)⟩
  ·refine Ez ⟨SqT.of a1,Ac (j:=0) rfl,_,.inl ⟨_,SqL.of a2,Z⟩,Lq (λz=>absurd c1 z) λ_=>⟨SqT.of b1,Ac (j:=0) rfl,_,.inl ⟨_,SqL.of b2,Z⟩,Lq (λc2=>?_) λc2=>?_⟩⟩
   ·exact⟨SqT.of b1,Ac (j:=1) rfl,q _ _ (Same.refl _) (by rw[a4 (.inl c1),if_neg (λz=>z c1),if_pos c2];exact b3)⟩
   ·exact(q _ _ (Same.refl _) (by rw[a4 (.inl c1),if_neg (λz=>z c1),if_neg (λz=>z c2)];exact hp))
 |iff s p1 p2=>
  obtain⟨a,rfl⟩:=Fx hp;obtain⟨x2,x3,hs,h2,h3⟩:=g4i hp;refine⟨hs.sq,Ac (j:=0) rfl,Z,E2 (by trivial) ⟨hs.sq,Ac (j:=0) rfl,Z,E2 (by trivial) (Ez ⟨SqT.of a1,Ac (j:=0) rfl,_,.inl ⟨_,SqL.of a2,Z⟩,Lq (λc1=>?_) λc1=>⟨SqT.of b1,Ac (j:=0) rfl,_,.inl ⟨_,SqL.of b2,Z⟩,Lq (λc2=>?_) λc2=>?_⟩⟩)⟩⟩
  ·exact⟨SqT.of a1,Ac (j:=1) rfl,q _ _ (Same.refl _) (by unfold lp;dsimp only;rw[if_pos c1];exact a3)⟩
  ·exact⟨SqT.of b1,Ac (j:=1) rfl,q _ _ (Same.refl _) (by unfold lp;dsimp only;rw[if_neg (λz=>z c1),if_pos c2];exact b3)⟩
  ·exact(q _ _ (Same.refl _) (by unfold lp;dsimp only;rw[if_neg (λz=>z c1),if_neg (λz=>z c2)];exact hp))
 |_=>cases pr
theorem Afw(F:Ax K mg "left_of_round" ["part","inner"] Fv)(T:Db K mg aN aP aR uE uR uL):Ai P w K mg base 1 "left_of_round" ["part","inner"] (Acp K):=by
 refine F.ok Kd (λvs H Q E h=>?_) (λf cdv A outer s H vs Q E hr h=>?_)
 ·obtain⟨v,p,t1,a,rfl,_⟩:=h;rfl
 obtain⟨v,p,t1,ra,rfl,hp,rd,⟨l1,v1,a1,a2,a3⟩,q⟩:=h
 refine⟨_,(Ad (A9 (Aff (Ex (Aj Ag (pv 1) Af (λ_ _=>rfl)) (λ_=>rfl)))
   (Ah (Ao (pv 0)))
   A0)
  (Ad (A9 (An A1 (Aj Ag (pv 0) Af (λ_ _=>rfl)) Ap (Aq _))
   (Ah (Ao (Ay (Aa Ap (Aa (Aj Ag (pv 0) Af (λ_ _=>rfl)) (Aa (Aj Ag (pv 1) Af (λ_ _=>rfl)) Ab))))))
   A0)
  (Ad (A9 (An A1 (Aj Ag (pv 0) Af (λ_ _=>rfl)) Ap (Aq _))
   (Ah (Ao (Ay (Aa Ap (Aa (Aj Ag (pv 1) Af (λ_ _=>rfl)) Ab)))))
   A0)
  (Ad (Ar (i:=2) Kd.nd rfl (Or.inl rfl) (Br (An A1 (Aj Ag (pv 0) Af (λ_ _=>rfl)) Ap (Aq _)) (Ay (Aa Ap (Aa (Di Gy rfl T.n_tuple (by trivial) (Aa (Aj Ag (pv 1) Af (λ_ _=>rfl)) Ab)) Ab))) (Bl rfl T.m_NOTHING T.r_NOTHING)))
  (Ah (Ao (Ay (Aa Ap (Aa (Aj Ag (pv 0) Af (λ_ _=>rfl)) (Aa (pv 2) (Aa (Aj Ag (pv 1) Af (λ_ _=>rfl)) Ab))))))))))),?_⟩
 have none:ra.1=[]->lr p ra=p:=λc=>by unfold lr;rw[if_pos c]
 have nt:∀{A B:Prop},(¬ra.1=[]->B)->(ra.1=[]->A)->if (!!(ra.1.map V.int).isEmpty)=true then A else B:=λ{A B}h1 h2=>by
  cases e:ra.1 with
  |nil=>exact h2 e
  |cons x r=>exact h1 (by rw[e];simp)
 refine⟨SqT.of a1,Ac (j:=0) rfl,_,.inl ⟨_,SqL.of a2,Z⟩,nt (λc=>?_) λc=>(q _ _ (Same.refl _) (by rw[none c];exact hp))⟩;cases p with
 |again k p1=>
  obtain⟨a,rfl⟩:=Fx hp;obtain⟨x2,hs,h2⟩:=g3i hp;refine⟨hs.sq,Ac (j:=0) rfl,Z,Jr ⟨hs.sq,Ac (j:=1) rfl,SqT.of a1,Ac (j:=1) rfl,zN3,λt z=>?_⟩⟩;have g:=Ae z (.tup [V.str "again",.int k,v1]);exact q _ _ g (by unfold lr;rw[if_neg c];exact .t (.inl qa) (.cons .s (.cons .i (.cons (a3.mono g.tp) .nil))))
 |trap p1=>
  obtain⟨a,rfl⟩:=Fx hp;obtain⟨x1,hs,h1⟩:=g2 hp;refine⟨hs.sq,Ac (j:=0) rfl,Z,E2 (by trivial) ⟨hs.sq,Ac (j:=0) rfl,Z,Jr ⟨SqT.of a1,Ac (j:=1) rfl,zN2,λt z=>?_⟩⟩⟩;have g:=Ae z (.tup [V.str "trap",v1]);exact q _ _ g (by unfold lr;rw[if_neg c];exact .t (.inl qa) (.cons .s (.cons (a3.mono g.tp) .nil)))
 |hold s p1=>
  obtain⟨a,rfl⟩:=Fx hp;obtain⟨x2,hs,h2⟩:=g3i hp;refine⟨hs.sq,Ac (j:=0) rfl,Z,E2 (by trivial) ⟨hs.sq,Ac (j:=0) rfl,Z,E2 (by trivial) ⟨hs.sq,Ac (j:=0) rfl,Z,Jr ⟨SqT.of a1,Ac (j:=0) rfl,l1,_,Z,.inl ⟨SqL.of a2,λt0 a4=>⟨zN2,λt2 a5=>?_⟩⟩⟩⟩⟩⟩;obtain⟨g0,n1,n2⟩:=Jm (b:=.tup [V.str "stay",.ref t0]) a4 a5;refine⟨(hs.mono g0.tp).sq,Ac (j:=1) rfl,SqT.of (g0 _ _ a1),Ac (j:=1) rfl,zN4,λt z=>?_⟩;have g:=Ae z (.tup [V.str "if",.int s,.ref t2,v1]);exact q _ _ (g0.trans g) (by unfold lr;rw[if_neg c];exact .t (.inl qa) (.cons .s (.cons .i (.cons (.t (.inl (g _ _ n2)) (.cons .s (.cons (.t (.inl (g _ _ n1)) (Sf _)) .nil))) (.cons (a3.mono (g0.trans g).tp) .nil)))))
 |watch s p1=>
  obtain⟨a,rfl⟩:=Fx hp;obtain⟨x2,hs,h2⟩:=g3i hp;refine⟨hs.sq,Ac (j:=0) rfl,Z,E2 (by trivial) ⟨hs.sq,Ac (j:=0) rfl,Z,E2 (by trivial) ⟨hs.sq,Ac (j:=0) rfl,Z,E2 (by trivial) ?_⟩⟩⟩;refine⟨hs.sq,Ac (j:=1) rfl,SqT.of a1,Ac (j:=1) rfl,zN4,λt z=>?_⟩;have g:=Ae z (.tup [V.str "if",.int s,.ref aN,v1]);exact q _ _ g (by unfold lr;rw[if_neg c];exact .t (.inl qa) (.cons .s (.cons .i (.cons (.t (.inr T.mN) (.cons .s .nil)) (.cons (a3.mono g.tp) .nil)))))
 |_=>cases rd
theorem Aem(F:Ax K mg "remaining" ["part","state"] Gr)(T:Db K mg aN aP aR uE uR uL)(dE:Ai P w K mg base 1 "left_of_pair" ["part","first","second"] (Acd K))(cR:Ai P w K mg base 1 "left_of_round" ["part","inner"] (Acp K))
  (aV:Ai P w K mg base (n+2) "remaining" ["part","state"] (N8 K n)):Ai P w K mg base (n+3) "remaining" ["part","state"] (N8 K (n+1)):=by
 refine F.ok Hg (λvs H Q E h=>?_) (λf cdv A outer s H vs Q E hr h=>?_)
 ·obtain⟨v,p,st,ns,rfl,_⟩:=h;rfl
 obtain⟨v,p,st,ns,rfl,hp,hS,hh,hc,q⟩:=h
 refine⟨_,(Ad (A9 (An B3 (Aj Ag (pv 0) Af (λ_ _=>rfl)) (Bl rfl T.m_PAIRS T.r_PAIRS) (by rfl))
   (Ad (Ar (i:=2) Hg.nd rfl (Or.inl rfl) (Am aV hr rfl Al (Aa (Aj Ag (pv 0) (Nt La Af) (λ_ _=>rfl)) (Aa (pv 1) Ab))))
  (Ad (Ar (i:=3) Hg.nd rfl (Or.inl rfl) (Am aV hr rfl Al (Aa (Aj Ag (pv 0) (Nt La Af) (λ_ _=>rfl)) (Aa (pv 1) Ab))))
  (Ah (Ao (Ay (Aa (A3 Cf (Aj Ag (pv 2) Af (λ_ _=>rfl)) (Aj Ag (pv 3) Af (λ_ _=>rfl))) (Aa (Am dE hr rfl Al (Aa (pv 0) (Aa (pv 2) (Aa (pv 3) Ab)))) Ab)))))))
   A0)
  (Ad (A9 (An B3 (Aj Ag (pv 0) Af (λ_ _=>rfl)) (Bl rfl T.m_ROUND T.r_ROUND) (by rfl))
   (Ad (Ar (i:=4) Hg.nd rfl (Or.inl rfl) (Am aV hr rfl Al (Aa (Aj Ag (pv 0) (Nt La Af) (λ_ _=>rfl)) (Aa (pv 1) Ab))))
  (Ad (A9 (PW.pt (Mm (An A1 (Aj Ag (pv 0) Af (λ_ _=>rfl)) Ap (Aq _)) (Ny (An B3 (Aj Ag (pv 0) Af (λ_ _=>rfl)) (pv 1) (by rfl)))))
   (Ah (Ao (Ay (Aa (A3 Cf (Av (Aa (Aj Ag (pv 0) Af (λ_ _=>rfl)) Ab)) (Aj Ag (pv 4) Af (λ_ _=>rfl))) (Aa (pv 0) Ab)))))
   A0)
  (Ah (Ao (Ay (Aa (Aj Ag (pv 4) Af (λ_ _=>rfl)) (Aa (Am cR hr rfl Al (Aa (pv 0) (Aa (pv 4) Ab))) Ab)))))))
   A0)
  (Ad (A9 (PW.pt (Mm (An A1 (Aj Ag (pv 0) Af (λ_ _=>rfl)) Ap (Aq _)) (Ny (An B3 (Aj Ag (pv 0) Af (λ_ _=>rfl)) (pv 1) (by rfl)))))
   (Ah (Ao (Ay (Aa (Av (Aa (Aj Ag (pv 0) Af (λ_ _=>rfl)) Ab)) (Aa (Bl rfl T.m_NOTHING T.r_NOTHING) Ab)))))
   A0)
  (Ah (Ao (Ay (Aa (Av Ab) (Aa (pv 0) Ab)))))))),?_⟩
 obtain⟨a,vs,rfl,hs⟩:=Jv hp;refine⟨hs.sq,Ac (j:=0) rfl,aP,_,Z,.inr (.inr T.mP),Z,Z,Af4 (λz=>?_) λz1=>⟨hs.sq,Ac (j:=0) rfl,aR,_,Z,.inr (.inr T.mR),Z,Z,AgK (λz=>?_) λz2=>?_⟩⟩
 ·obtain⟨a',a8,x1,x2,p1,p2,ev,hs,i1,i2,h1,h2,c1,c2,hc,er⟩:=AfS hp z hh hc
  cases ev
  have l1:=N5 ns p1;have l2:=N5 ns p2;rw[er]at q;refine⟨_,Z,hs.sq,i1,x1,p1,st,ns,Z,h1,hS,c1,adl hc,λt1 H1 g1 R1=>?_⟩;refine⟨_,Z,(hs.mono g1.tp).sq,i2,x2,p2,st,ns,Z,h2.mono g1.tp,g1.seq hS,c2,adr hc,λt2 H2 g2 R2=>?_⟩;have a7:=R1.mono g2;obtain⟨a5,v1,a1,a2,a3⟩:=id a7;obtain⟨b5,v2,b1,b2,b3⟩:=id R2;refine⟨SqT.of a1,Ac (j:=0) rfl,SqT.of b1,Ac (j:=0) rfl,a5,b5,_,_,Z,Z,a2,b2,by rw[uB,uB];exact Co (Tf (uY (add_le_add l1 l2) hc) (by decide)),λl hl=>?_⟩;have g3:=Ae hl (.lst (((rem ns p1).1.map V.int)++((rem ns p2).1.map V.int)));refine⟨_,p,t1,t2,_,_,Z,hp.mono ((g1.trans g2).trans g3).tp,z,a7.mono g3,R2.mono g3,λv' H4 g4 P4=>⟨zN2,λt ht=>?_⟩⟩;have g5:=Ae ht (.tup [.ref l,v']);refine q _ _ ((((g1.trans g2).trans g3).trans g4).trans g5) ⟨l,v',qa,?_,P4.mono g5.tp⟩;rw[g5 _ _ (g4 _ _ qa)];show some (HO.lst ((rem ns p1).1.map V.int++(rem ns p2).1.map V.int))=some (HO.lst (((rem ns p1).1++(rem ns p2).1).map V.int));rw[uN]
 ·obtain⟨a',a8,x1,p1,ev,hs,i1,h1,c1,c2,hor⟩:=AfU hp z hh hc
  cases ev
  have l1:=N5 ns p1;refine⟨_,Z,hs.sq,i1,x1,p1,st,ns,Z,h1,hS,c1,c2,λt1 H1 g1 R1=>?_⟩;have a6:=hs.mono g1.tp;obtain⟨a5,v1,a1,a2,a3⟩:=id R1;dsimp only[Bq];refine Wv (Ae9 ns p) (λN a4=>?_) (λc=>?_) λc=>?_
  ·rcases hor with⟨k,rfl,b4,rfl⟩|⟨na,_⟩
   ·refine⟨a6.sq,Ac (j:=0) rfl,Z,Jr ⟨a6.sq,Ac (j:=1) rfl,st,_,Z,.inl (g1.seq hS),Z,B9 ns,?_⟩⟩
    rw[if_neg qc,Ee];exact a4
   ·refine⟨a6.sq,Ac (j:=0) rfl,Z,E2 na ?_⟩
    rw[W5 na ns]at a4;exact a4
  ·rcases hor with⟨k,rfl,b4,rfl⟩|⟨na,_⟩
   ·have c:k∈ns:=uK c
    refine⟨a6.sq,Ac (j:=1) rfl,zN1,λl0 a9=>?_⟩;have g2:=Ae a9 (.lst [V.int k]);refine⟨SqT.of (g2 _ _ a1),Ac (j:=0) rfl,l0,a5,_,_,Z,Z,qa,g2 _ _ a2,by rw[uB];show 1+_<=sizeLine;exact Co (uY (add_le_add_left (uY l1 c2) 1) (by decide)),λl hl=>?_⟩;have g3:=Ae hl (.lst ([V.int k]++(rem ns p1).1.map V.int));refine⟨zN2,λt ht=>?_⟩;have g5:=Ae ht (.tup [.ref l,.ref a]);refine q _ _ (((g1.trans g2).trans g3).trans g5) ?_;rw[show rem ns (.again k p1)=([k]++(rem ns p1).1,.again k p1) from by simp only[rem];rw[if_pos c]];exact⟨l,_,qa,g5 _ _ qa,hp.mono (((g1.trans g2).trans g3).trans g5).tp⟩
   ·rw[W5 na ns]at c
    cases c
  ·have er:rem ns p=((rem ns p1).1,lr p (rem ns p1)):=by
    rcases hor with⟨k,rfl,_,_⟩|⟨_,h⟩
    ·simp only[rem];rw[if_neg (of_decide_eq_false c)]
    ·exact h ns
   rw[er]at q;refine⟨SqT.of a1,Ac (j:=0) rfl,_,p,t1,_,Z,hp.mono g1.tp,z,R1,λv' H4 g4 P4=>⟨zN2,λt ht=>?_⟩⟩;have g5:=Ae ht (.tup [.ref a5,v']);exact q _ _ ((g1.trans g4).trans g5) ⟨a5,v',qa,g5 _ _ (g4 _ _ a2),P4.mono g5.tp⟩
 ·dsimp only[tNext]
  refine Wv (AaZ ns p) (λN a4=>?_) (λc=>?_) λc=>?_
  ·by_cases z:wdP p ="rest"
   ·obtain⟨k,rfl⟩:=J2 z
    have hs:=g2i hp;refine⟨hs.sq,Ac (j:=0) rfl,Z,Jr ⟨hs.sq,Ac (j:=1) rfl,st,_,Z,.inl hS,Z,B9 ns,?_⟩⟩;rw[if_neg qc,Ee];exact a4
   ·refine⟨hs.sq,Ac (j:=0) rfl,Z,E2 z ?_⟩
    rw[R7 z ns]at a4;exact a4
  ·obtain⟨k,rfl⟩:∃k,p=.rest k:=J2 (Classical.byContradiction λz=>by rw[R7 z ns]at c;cases c)
   have c:k∈ns:=uK c;have hs:=g2i hp;refine⟨hs.sq,Ac (j:=1) rfl,zN1,λl hl=>⟨zN2,λt ht=>?_⟩⟩;obtain⟨g,n1,n2⟩:=Jm (b:=.tup [.ref l,.ref aN]) hl ht;refine q _ _ g ?_;rw[show rem ns (.rest k)=([k],.nothing) from by simp only[rem];rw[if_pos c]];exact⟨l,_,n2,n1,.t (.inr T.mN) (.cons .s .nil)⟩
  ·have er:rem ns p=([],p):=by
    by_cases z:wdP p ="rest"
    ·obtain⟨k,rfl⟩:=J2 z
     simp only[rem];rw[if_neg (of_decide_eq_false c)]
    ·exact Acu z1 z2 z ns
   rw[er]at q;refine⟨zN0,λl hl=>⟨zN2,λt ht=>?_⟩⟩;obtain⟨g,n1,n2⟩:=Jm (b:=.tup [.ref l,.ref a]) hl ht;exact q _ _ g ⟨l,_,n2,n1,hp.mono g.tp⟩
theorem Yy(F:Ax K mg "remaining" ["part","state"] Gr)(T:Db K mg aN aP aR uE uR uL)(CP:Ai P w K mg base 1 "left_of_pair" ["part","first","second"] (Acd K))(CR:Ai P w K mg base 1 "left_of_round" ["part","inner"] (Acp K)) :
  ∀n,Ai P w K mg base (n+2) "remaining" ["part","state"] (N8 K n)
 |0=>(F.zero (sp:=N8 K 0) λvs H Q E h=>by obtain⟨v,p,st,ns,_,_,_,z,_⟩:=h;exact absurd z (not_le_of_gt (Pt.hg_pos p))).mono (by decide)
 |n+1=>Aem F T CP CR (Yy F T CP CR n)
theorem Aey(F:Ax K mg "part_to_begin" ["part","state"] Ft)(T:Db K mg aN aP aR uE uR uL)(aV:Ai P w K mg base (n+2) "remaining" ["part","state"] (N8 K n)) :
  Ai P w K mg base (n+3) "part_to_begin" ["part","state"] (Zz K n):=by
 refine F.ok O3 (λvs H Q E h=>?_) (λf cdv A outer s H vs Q E hr h=>?_)
 ·obtain⟨v,p,sv,st,rfl,_⟩:=h;rfl
 obtain⟨v,p,sv,st,rfl,hp,hS,hb,q⟩:=h
 refine⟨_,(Ad (A9 (An Lk (pv 1) B5 (Aq _))
   (Ah (Ao (pv 0)))
   A0)
  (Ah (Ao (Aj Ag (Am aV hr rfl Al (Aa (pv 0) (Aa (pv 1) Ab))) Af (λ_ _=>rfl))))),?_⟩
 cases st with
 |none=>
  have e:=hS;subst e;exact⟨Z,C8 (q _ _ (Same.refl _) hp)⟩
 |some ns=>
  obtain⟨a,rfl,hS⟩:=hS;obtain⟨hh,hc⟩:=hb.resolve_left (λz=>by cases z);refine⟨Z,Ez ⟨v,p,a,ns,Z,hp,hS,hh,hc,λt H1 g1 ⟨l,v1,a1,a2,a3⟩=>?_⟩⟩;exact⟨SqT.of a1,Ac (j:=1) rfl,q _ _ g1 a3⟩
inductive Hk(H:Hp)(t:Addr)(d:Dd)   : Prop
 |mk(l1)(l2)(_:H t=some (.tup [.int d.1,.ref l1,.ref l2]))(_:H l1=some (.lst (d.2.1.map V.int)))(_:H l2=some (.lst (d.2.2.map V.int))):Hk H t d
theorem Hk.mono(g:Same H H')(h:Hk H t d):Hk H' t d:=by
 obtain⟨l1,l2,h1,h2,h3⟩:=h;exact⟨l1,l2,g _ _ h1,g _ _ h2,g _ _ h3⟩
def Lf(d:Dd):Prop:=d.2.1.length<=900/\d.2.2.length<=900
inductive Abc(K:FA)(vs:List V)(H:Hp)(Q:VK):Prop
 |mk(v)(p)(_:vs=[v])(_:PAt K H (Pt.nd p) v)(_:E8 p=true)(_:p.lc<=900)(_:∀l H',Same H H'->H' l=some (.lst ((beg [] p).2.2.map V.int))->Q (.ref l) H')
def AcK(K:FA):Sp:=λvs H Q _=>Abc K vs H Q
inductive Aag(K:FA)(vs:List V)(H:Hp)(Q:VK):Prop
 |mk(v)(p)(_:vs=[v])(_:PAt K H (Pt.nd p) v)(_:E8 p=true)(_:p.lc<=900)(_:∀t H',Same H H'->Hk H' t (beg [] p)->Q (.ref t) H')
def AcN(K:FA):Sp:=λvs H Q _=>Aag K vs H Q
inductive Vk  (vs:List V) (H:Hp) (Q:VK):Prop
 |mk(t1)(t2)(a:_)(b)(_:vs=[.ref t1,.ref t2])(_:Hk H t1 a)(_:Hk H t2 b)(_:Lf a)(_:Lf b)(_:∀t H',Same H H'->Hk H' t (S9 a b)->Q (.ref t) H'):Vk  vs H Q
def Tu:Sp:=λvs H Q _=>Vk  vs H Q
inductive T7  (vs:List V) (H:Hp) (Q:VK):Prop
 |mk(t1)(t2)(a:_)(b)(_:vs=[.ref t1,.ref t2])(_:Hk H t1 a)(_:Hk H t2 b)(_:Lf a)(_:Lf b)(_:∀t H',Same H H'->Hk H' t (Im a b)->Q (.ref t) H'):T7  vs H Q
def Tk:Sp:=λvs H Q _=>T7  vs H Q
inductive X6  (vs:List V) (H:Hp) (Q:VK):Prop
 |mk(k:Int)(t1:Addr)(a:Dd)(_:vs=[.int k,.ref t1])(_:Hk H t1 a)(_:∀t H',Same H H'->Hk H' t (Rc k a)->Q (.ref t) H'):X6  vs H Q
def AaI:Sp:=λvs H Q _=>X6  vs H Q
inductive Xz(K:FA)(n:Nat)(vs:List V)(H:Hp)(Q:VK):Prop
 |mk(v)(p)(th)(ns)(_:vs=[v,.ref th])(_:PAt K H (Pt.nd p) v)(_:SqL K H th ((ns:List Int).map V.int))(_:p.hg<=n)(_:p.sc<=900)(_:p.lc<=900)(_:∀t H',Same H H'->Hk H' t (beg ns p)->Q (.ref t) H')
def Qd(K:FA)(n:Nat):Sp:=λvs H Q _=>Xz K n vs H Q
theorem sm9(h1:p.sc<=900)(h2:p.lc<=900):Lf (beg ns p):=⟨uY (N7 ns p).1 h1,uY (N7 ns p).2 h2⟩
def Afu(H H':Hp)(t:Addr)(d:Dd):Prop:=∃l1 l2,H' t=some (.tup [.int d.1,.ref l1,.ref l2])/\H' l1=some (.lst (d.2.1.map V.int))/\H' l2=some (.lst (d.2.2.map V.int))/\H l1=none/\H l2=none/\l1≠l2
inductive Vw(K:FA)(n:Nat)(vs:List V)(H:Hp)(Q:VK):Prop
 |mk(v)(p)(sv)(st:_)(th)(ns)(_:vs=[v,sv,.ref th])(_:PAt K H (Pt.nd p) v)(_:Kc K H st sv)(_:SqL K H th ((ns:List Int).map V.int))(_:(st=none\/(p.hg<=n/\p.rc<=900)))(_:(pb p st).hg<=n)(_:(pb p st).sc<64)(_:(pb p st).lc<64)(_:∀t H',Same H H'->Afu H H' t (Ti p st ns)->Q (.ref t) H')
def AaY(K:FA)(n:Nat):Sp:=λvs H Q _=>Vw K n vs H Q
theorem Agc(F:Ax K mg "rests_left" ["part"] Ho)(T:Db K mg aN aP aR uE uR uL):Ai P w K mg base 1 "rests_left" ["part"] (AcK K):=by
 refine F.ok Sy (λvs H Q E h=>?_) (λf cdv A outer s H vs Q E hr h=>?_)
 ·obtain⟨v,p,rfl,_⟩:=h;rfl
 obtain⟨v,p,rfl,hp,lf,hc,q⟩:=h
 refine⟨_,(Ad (A9 (An A1 (Aj Ag (pv 0) Af (λ_ _=>rfl)) Ap (Aq _))
   (Ah (Ao (Av (Aa (Aj Ag (pv 0) Af (λ_ _=>rfl)) Ab))))
   A0)
  (Ah (Ao (Br (An A1 (Aj Ag (pv 0) Af (λ_ _=>rfl)) Ap (Aq _)) (Di M5 rfl T.n_list (by trivial) (Aa (Aj Ag (pv 0) Af (λ_ _=>rfl)) Ab)) (Av Ab))))),?_⟩
 obtain⟨a,vs,rfl,hs⟩:=Jv hp;refine⟨hs.sq,Ac (j:=0) rfl,Z,Ce (λe=>?_) λn1=>⟨hs.sq,Ac (j:=0) rfl,Z,Ce (λe=>?_) λn2=>?_⟩⟩
 ·obtain⟨x,rfl⟩:=J2 e
  have hs:=g2i hp;exact⟨hs.sq,Ac (j:=1) rfl,zN1,λl hl=>q _ _ (Ae hl _) qa⟩
 ·obtain⟨ks,rfl⟩:=Ym e
  obtain⟨x1,hs,h1⟩:=g2 hp;obtain⟨a2,a3,rfl,a1,z⟩:=PAt.get h1;cases Ub z
  exact⟨hs.sq,Ac (j:=1) rfl,a2,_,Z,.inr a1.sq,λl hl=>q _ _ (Ae hl _) qa⟩
 ·rw[AeC lf n1 n2]at q
  exact⟨zN0,λl hl=>q _ _ (Ae hl _) qa⟩
theorem Agl(F:Ea K mg "begun_leaf_instants" "begun_leaf" ["part"] Dm)(T:Db K mg aN aP aR uE uR uL)(bA:Ai P w K mg base 1 "leaf_code" ["part"] (J4 K))(dY:Ai P w K mg base 1 "rests_left" ["part"] (AcK K)):Ai P w K mg base 2 "begun_leaf_instants" ["part"] (AcN K):=by
 refine F.ok Gp (λvs H Q E h=>?_) (λf cdv A outer s H vs Q E hr h=>?_)
 ·obtain⟨v,p,rfl,_⟩:=h;rfl
 obtain⟨v,p,rfl,hp,lf,hc,q⟩:=h
 refine⟨_,(Ad (Ar (i:=1) Gp.nd rfl (Or.inl rfl) (Br (An A1 (Aj Ag (pv 0) Af (λ_ _=>rfl)) Ap (Aq _)) (Av (Aa (Aj Ag (pv 0) Af (λ_ _=>rfl)) Ab)) (Av Ab)))
  (Ah (Ao (Ay (Aa (Am bA hr rfl Al (Aa (pv 0) Ab)) (Aa (pv 1) (Aa (Am dY hr rfl Al (Aa (pv 0) Ab)) Ab))))))),?_⟩
 have z:∀(l1:Addr)(xs:List V)(hl:H l1=none)(e:xs=(beg [] p).2.1.map V.int),(Lu (Bx (Ip (J4 K) [] E0 (Bx (A5 0) Dj)) (Bx (A5 1) (Bx (Ip (AcK K) [] E0 (Bx (A5 0) Dj)) Dj)))) [some v,some (.ref l1)] (upd H l1 (.lst xs)) Q:=by
  intro l1 xs hl e;subst e;have g1:=Ae hl (.lst ((beg [] p).2.1.map V.int));refine⟨v,p,Z,hp.mono g1.tp,lf,v,p,Z,hp.mono g1.tp,lf,hc,λl2 H2 g2 e2=>⟨zN3,λt ht=>?_⟩⟩;have g3:=Ae ht (.tup [.int (beg [] p).1,.ref l1,.ref l2]);exact q _ _ ((g1.trans g2).trans g3) ⟨l1,l2,qa,g3 _ _ (g2 _ _ qa),g3 _ _ e2⟩
 obtain⟨a,vs,rfl,hs⟩:=Jv hp;refine⟨hs.sq,Ac (j:=0) rfl,Z,Ce (λe=>?_) λn1=>⟨zN0,λl hl=>z l [] hl (by rw[AeS lf n1];rfl)⟩⟩;obtain⟨x,rfl⟩:=X0 e;have hs:=g2i hp;exact⟨hs.sq,Ac (j:=1) rfl,zN1,λl hl=>z l _ hl rfl⟩
theorem AeI(F:Ea K mg "in_turn_instants" "in_turn" ["first","second"] Et)(T:Db K mg aN aP aR uE uR uL):Ai P w K mg base 1 "in_turn_instants" ["first","second"] Tu:=by
 refine F.ok Ml (λvs H Q E h=>?_) (λf cdv A outer s H vs Q E hr h=>?_)
 ·obtain⟨t1,t2,da,z,rfl,_⟩:=h;rfl
 obtain⟨t1,t2,da,z,rfl,⟨l1,l2,a1,a2,a3⟩,⟨m1,m2,b1,b2,b3⟩,sa,sb,q⟩:=h;refine⟨_,(Ah (Ao (Ay (Aa (Aj Ag (pv 1) Af (λ_ _=>rfl)) (Aa (A3 Cf (Aj Ag (pv 0) Af (λ_ _=>rfl)) (Aj Ag (pv 1) Af (λ_ _=>rfl))) (Aa (Aj Ag (pv 1) Af (λ_ _=>rfl)) Ab)))))),?_⟩;refine⟨SqT.of b1,Ac (j:=0) rfl,SqT.of a1,Ac (j:=1) rfl,SqT.of b1,Ac (j:=1) rfl,l1,m1,_,_,Z,Z,a2,b2,by rw[uB,uB];exact uY (add_le_add sa.1 sb.1) (by decide),λl hl=>?_⟩;have g1:=Ae hl (.lst (da.2.1.map V.int++z.2.1.map V.int));refine⟨SqT.of (g1 _ _ b1),Ac (j:=2) rfl,zN3,λt ht=>?_⟩;have g2:=Ae ht (.tup [.int z.1,.ref l,.ref m2]);refine q _ _ (g1.trans g2) ⟨l,m2,qa,?_,g2 _ _ (g1 _ _ b3)⟩;rw[g2 _ _ qa];show some (HO.lst (da.2.1.map V.int++z.2.1.map V.int))=some (HO.lst ((da.2.1++z.2.1).map V.int));rw[uN]
theorem AdR(F:Ea K mg "side_by_side_instants" "side_by_side" ["first","second"] C9)(T:Db K mg aN aP aR uE uR uL):Ai P w K mg base 1 "side_by_side_instants" ["first","second"] Tk:=by
 refine F.ok D8 (λvs H Q E h=>?_) (λf cdv A outer s H vs Q E hr h=>?_)
 ·obtain⟨t1,t2,da,z,rfl,_⟩:=h;rfl
 obtain⟨t1,t2,da,z,rfl,⟨l1,l2,a1,a2,a3⟩,⟨m1,m2,b1,b2,b3⟩,sa,sb,q⟩:=h
 refine⟨_,(Ad (Ar (i:=2) D8.nd rfl (Or.inl rfl) (Bu (Mo rfl) rfl T.n_max (by trivial) (Aa (Aj Ag (pv 0) Af (λ_ _=>rfl)) (Aa (Aj Ag (pv 1) Af (λ_ _=>rfl)) Ab))))
  (Ad (Ar (i:=3) D8.nd rfl (Or.inl rfl) (Br (An A1 (pv 2) (Bl rfl T.m_RESTS T.r_RESTS) (Aq _)) (A3 Cf (Aj Ag (pv 0) Af (λ_ _=>rfl)) (Aj Ag (pv 1) Af (λ_ _=>rfl))) (Av Ab)))
  (Ah (Ao (Ay (Aa (pv 2) (Aa (A3 Cf (Aj Ag (pv 0) Af (λ_ _=>rfl)) (Aj Ag (pv 1) Af (λ_ _=>rfl))) (Aa (pv 3) Ab)))))))),?_⟩
 refine⟨SqT.of a1,Ac (j:=0) rfl,SqT.of b1,Ac (j:=0) rfl,_,_,Z,?_⟩
 have a4:∀(l0:Addr)(xs:List Int)(hl:H l0=none)(e:xs=(Im da z).2.2),(Lu (Bx (A5 2) (Bx (tOp Zx (tOp (Fc K) (A5 0) (tC (.int 1))) (tOp (Fc K) (A5 1) (tC (.int 1)))) (Bx (A5 3) Dj)))) [some (.ref t1),some (.ref t2),some (.int (Im da z).1),some (.ref l0)] (upd H l0 (.lst (xs.map V.int))) Q:=by
  intro l0 xs hl e;subst e;have g0:=Ae hl (.lst ((Im da z).2.2.map V.int));refine⟨SqT.of (g0 _ _ a1),Ac (j:=1) rfl,SqT.of (g0 _ _ b1),Ac (j:=1) rfl,l1,m1,_,_,Z,Z,g0 _ _ a2,g0 _ _ b2,by rw[uB,uB];exact uY (add_le_add sa.1 sb.1) (by decide),λl a5=>?_⟩;have g1:=Ae a5 (.lst (da.2.1.map V.int++z.2.1.map V.int));refine⟨zN3,λt ht=>?_⟩;have g2:=Ae ht (.tup [.int (Im da z).1,.ref l,.ref l0]);refine q _ _ ((g0.trans g1).trans g2) ⟨l,l0,qa,?_,g2 _ _ (g1 _ _ qa)⟩;rw[g2 _ _ qa];show some (HO.lst (da.2.1.map V.int++z.2.1.map V.int))=some (HO.lst ((da.2.1++z.2.1).map V.int));rw[uN]
 refine⟨Z,Tl (λc=>?_) λc=>?_⟩
 ·refine⟨SqT.of a1,Ac (j:=2) rfl,SqT.of b1,Ac (j:=2) rfl,l2,m2,_,_,Z,Z,a3,b3,by rw[uB,uB];exact uY (add_le_add sa.2 sb.2) (by decide),λl hl=>?_⟩
  rw[<-uN];exact a4 l _ hl (by unfold Im;dsimp only;rw[if_pos c])
 ·exact⟨zN0,λl hl=>a4 l [] hl (by unfold Im;dsimp only;rw[if_neg c])⟩
theorem AfW(F:Ax K mg "repeated" ["rest","inner"] J0)(T:Db K mg aN aP aR uE uR uL)(aU:Ai P w K mg base 1 "code_of_again" ["code"] L4):Ai P w K mg base 2 "repeated" ["rest","inner"] AaI:=by
 refine F.ok Of (λvs H Q E h=>?_) (λf cdv A outer s H vs Q E hr h=>?_)
 ·obtain⟨k,t1,da,rfl,_⟩:=h;rfl
 obtain⟨k,t1,da,rfl,⟨l1,l2,z,a2,a3⟩,q⟩:=h
 refine⟨_,(Ad (Ar (i:=2) Of.nd rfl (Or.inl rfl) (Br (An A1 (Aj Ag (pv 1) Af (λ_ _=>rfl)) (Bl rfl T.m_ENDED T.r_ENDED) (Aq _)) (Av (Aa (pv 0) Ab)) (Aj Ag (pv 1) Af (λ_ _=>rfl))))
  (Ah (Ao (Ay (Aa (Am aU hr rfl Al (Aa (Aj Ag (pv 1) Af (λ_ _=>rfl)) Ab)) (Aa (Aj Ag (pv 1) Af (λ_ _=>rfl)) (Aa (pv 2) Ab))))))),?_⟩
 refine⟨SqT.of z,Ac (j:=0) rfl,Z,Tl (λc=>?_) λc=>?_⟩
 ·refine⟨zN1,λl hl=>?_⟩
  have g0:=Ae hl (.lst [.int k]);refine⟨SqT.of (g0 _ _ z),Ac (j:=0) rfl,_,Z,SqT.of (g0 _ _ z),Ac (j:=1) rfl,zN3,λt ht=>?_⟩;have g2:=Ae ht (.tup [.int (agC da.1),.ref l1,.ref l]);exact q _ _ (g0.trans g2) ⟨l1,l,qa,g2 _ _ (g0 _ _ a2),by rw[show(Rc k da).2.2=[k] from if_pos c];exact g2 _ _ qa⟩
 ·refine⟨SqT.of z,Ac (j:=2) rfl,?_⟩
  refine⟨SqT.of z,Ac (j:=0) rfl,_,Z,SqT.of z,Ac (j:=1) rfl,zN3,λt ht=>?_⟩;have g2:=Ae ht (.tup [.int (agC da.1),.ref l1,.ref l2]);exact q _ _ g2 ⟨l1,l2,qa,g2 _ _ a2,by rw[show(Rc k da).2.2=da.2.2 from if_neg c];exact g2 _ _ a3⟩
theorem AfQ(F:Ea K mg "begun_instants" "begun" ["part","there"] Eh)(T:Db K mg aN aP aR uE uR uL)(bX:Ai P w K mg base 2 "begun_leaf_instants" ["part"] (AcN K))(cD:Ai P w K mg base 1 "in_turn_instants" ["first","second"] Tu)(bN:Ai P w K mg base 1 "side_by_side_instants" ["first","second"] Tk)
  (gW:Ai P w K mg base 2 "repeated" ["rest","inner"] AaI) (aW:Ai P w K mg base 1 "code_of_trap" ["code"] Ks) (aD:Ai P w K mg base (n+2) "begun_instants" ["part","there"] (Qd K n)):Ai P w K mg base (n+3) "begun_instants" ["part","there"] (Qd K (n+1)):=by
 refine F.ok E3 (λvs H Q E h=>?_) (λf cdv A outer s H vs Q E hr h=>?_)
 ·obtain⟨v,p,st,ns,rfl,_⟩:=h;rfl
 obtain⟨v,p,st,ns,rfl,hp,hS,hh,a4,z,q⟩:=h
 refine⟨_,(Ad (Ar (i:=2) E3.nd rfl (Or.inl rfl) (Aj Ag (pv 0) Af (λ_ _=>rfl)))
  (Ad (A9 (An A1 (pv 2) Ap (Aq _))
   (Ad (Ar (i:=3) E3.nd rfl (Or.inl rfl) (Am aD hr rfl Al (Aa (Aj Ag (pv 0) Af (λ_ _=>rfl)) (Aa (pv 1) Ab))))
  (Ah (Ao (Br (An A1 (Aj Ag (pv 3) Af (λ_ _=>rfl)) (Bl rfl T.m_ENDED T.r_ENDED) (Aq _)) (Am cD hr rfl Al (Aa (pv 3) (Aa (Am aD hr rfl Al (Aa (Aj Ag (pv 0) Af (λ_ _=>rfl)) (Aa (pv 1) Ab))) Ab))) (pv 3)))))
   A0)
  (Ad (A9 (An A1 (pv 2) Ap (Aq _))
   (Ah (Ao (Am bN hr rfl Al (Aa (Am aD hr rfl Al (Aa (Aj Ag (pv 0) Af (λ_ _=>rfl)) (Aa (pv 1) Ab))) (Aa (Am aD hr rfl Al (Aa (Aj Ag (pv 0) Af (λ_ _=>rfl)) (Aa (pv 1) Ab))) Ab)))))
   A0)
  (Ad (A9 (An A1 (pv 2) Ap (Aq _))
   (Ah (Ao (Am aD hr rfl Al (Aa (Br (An B3 (Aj Ag (pv 0) Af (λ_ _=>rfl)) (pv 1) (by rfl)) (Aj Ag (pv 0) Af (λ_ _=>rfl)) (Aj Ag (pv 0) Af (λ_ _=>rfl))) (Aa (pv 1) Ab)))))
   A0)
  (Ad (A9 (An A1 (pv 2) Ap (Aq _))
   (Ah (Ao (Am gW hr rfl Al (Aa (Aj Ag (pv 0) Af (λ_ _=>rfl)) (Aa (Am aD hr rfl Al (Aa (Aj Ag (pv 0) Af (λ_ _=>rfl)) (Aa (pv 1) Ab))) Ab)))))
   A0)
  (Ad (A9 (PW.pt (Gc (An A1 (pv 2) Ap (Aq _)) (Fg (An A1 (pv 2) Ap (Aq _)))))
   (Ah (Ao (Am aD hr rfl Al (Aa (Aj Ag (pv 0) Af (λ_ _=>rfl)) (Aa (pv 1) Ab)))))
   A0)
  (Ad (A9 (An A1 (pv 2) Ap (Aq _))
   (Ad (Ar (i:=4) E3.nd rfl (Or.inl rfl) (Am aD hr rfl Al (Aa (Aj Ag (pv 0) Af (λ_ _=>rfl)) (Aa (pv 1) Ab))))
  (Ah (Ao (Ay (Aa (Am aW hr rfl Al (Aa (Aj Ag (pv 4) Af (λ_ _=>rfl)) Ab)) (Aa (Aj Ag (pv 4) Af (λ_ _=>rfl)) (Aa (Aj Ag (pv 4) Af (λ_ _=>rfl)) Ab)))))))
   A0)
  (Ah (Ao (Am bX hr rfl Al (Aa (pv 0) Ab))))))))))),?_⟩
 obtain⟨a,vs,rfl,hs⟩:=Jv hp;refine⟨hs.sq,Ac (j:=0) rfl,Z,Ce (λe=>?_) λn1=>⟨Z,Ce (λe=>?_) λn2=>⟨Z,Ce (λe=>?_) λn3=>⟨Z,Ce (λe=>?_) λn4=>⟨Z,Ce (λe=>C8 ?_) λn5=>⟨Z,Ce (λe=>?_) λn6=>⟨Z,Ce (λe=>?_) λn7=>?_⟩⟩⟩⟩⟩⟩⟩
 ·obtain⟨p1,p2,rfl⟩:=Tr e
  obtain⟨x1,x2,hs,h1,h2⟩:=g3 hp;refine⟨hs.sq,Ac (j:=1) rfl,x1,p1,st,ns,Z,h1,hS,hgl hh,adl a4,mxl z,λt1 H1 g1 R1=>?_⟩;obtain⟨l1,l2,a1,a2,a3⟩:=id R1;refine⟨SqT.of a1,Ac (j:=0) rfl,Z,Tl (λc=>?_) λc=>?_⟩
  ·refine⟨(hs.mono g1.tp).sq,Ac (j:=2) rfl,x2,p2,st,ns,Z,h2.mono g1.tp,g1.seq hS,hgr hh,adr a4,mxr z,λt2 H2 g2 R2=>?_⟩
   refine⟨t1,t2,_,_,Z,R1.mono g2,R2,sm9 (adl a4) (mxl z),sm9 (adr a4) (mxr z),λt H3 g3 R3=>?_⟩;exact q _ _ ((g1.trans g2).trans g3) (by rw[show beg ns (.thn p1 p2)=S9 (beg ns p1) (beg ns p2) from by simp only[beg];rw[if_pos c]];exact R3)
  ·exact(q _ _ g1 (by rw[show beg ns (.thn p1 p2)=beg ns p1 from by simp only[beg];rw[if_neg c]];exact R1))
 ·obtain⟨p1,p2,rfl⟩:=Abj e
  obtain⟨x1,x2,hs,h1,h2⟩:=g3 hp;refine⟨hs.sq,Ac (j:=1) rfl,x1,p1,st,ns,Z,h1,hS,hgl hh,adl a4,adl z,λt1 H1 g1 R1=>?_⟩;refine⟨(hs.mono g1.tp).sq,Ac (j:=2) rfl,x2,p2,st,ns,Z,h2.mono g1.tp,g1.seq hS,hgr hh,adr a4,adr z,λt2 H2 g2 R2=>?_⟩;exact⟨t1,t2,_,_,Z,R1.mono g2,R2,sm9 (adl a4) (adl z),sm9 (adr a4) (adr z),λt H3 g3 R3=>q _ _ ((g1.trans g2).trans g3) R3⟩
 ·obtain⟨sn,p1,p2,rfl⟩:=Tn e
  obtain⟨x2,x3,hs,h2,h3⟩:=g4i hp;refine⟨hs.sq,Ac (j:=1) rfl,st,_,Z,.inl hS,Z,B9 ns,Us (λc=>?_) λc=>?_⟩
  ·exact⟨hs.sq,Ac (j:=2) rfl,x2,p1,st,ns,Z,h2,hS,hgl hh,adl a4,mxl z,λt1 H1 g1 R1=>q _ _ g1 (by rw[show beg ns (.iff sn p1 p2)=beg ns p1 from by simp only[beg];rw[if_pos c]];exact R1)⟩
  ·exact⟨hs.sq,Ac (j:=3) rfl,x3,p2,st,ns,Z,h3,hS,hgr hh,adr a4,mxr z,λt1 H1 g1 R1=>q _ _ g1 (by rw[show beg ns (.iff sn p1 p2)=beg ns p2 from by simp only[beg];rw[if_neg c]];exact R1)⟩
 ·obtain⟨kn,p1,rfl⟩:=Um e
  obtain⟨x2,hs,h2⟩:=g3i hp;refine⟨hs.sq,Ac (j:=1) rfl,hs.sq,Ac (j:=2) rfl,x2,p1,st,ns,Z,h2,hS,le_of_succ_le_succ hh,a4,mxr z,λt1 H1 g1 R1=>?_⟩;exact⟨kn,t1,_,Z,R1,λt H3 g3 R3=>q _ _ (g1.trans g3) R3⟩
 ·obtain⟨sn,p1,rfl⟩:=Nu e
  obtain⟨x2,hs,h2⟩:=g3i hp;exact⟨hs.sq,Ac (j:=2) rfl,x2,p1,st,ns,Z,h2,hS,le_of_succ_le_succ hh,a4,z,λt1 H1 g1 R1=>q _ _ g1 R1⟩
 ·obtain⟨sn,p1,rfl⟩:=Oy e
  obtain⟨x2,hs,h2⟩:=g3i hp;exact⟨hs.sq,Ac (j:=2) rfl,x2,p1,st,ns,Z,h2,hS,le_of_succ_le_succ hh,a4,z,λt1 H1 g1 R1=>q _ _ g1 R1⟩
 ·obtain⟨p1,rfl⟩:=Qq e
  obtain⟨x1,hs,h1⟩:=g2 hp;refine⟨hs.sq,Ac (j:=1) rfl,x1,p1,st,ns,Z,h1,hS,le_of_succ_le_succ hh,a4,z,λt1 H1 g1 R1=>?_⟩;obtain⟨l1,l2,a1,a2,a3⟩:=id R1;refine⟨SqT.of a1,Ac (j:=0) rfl,_,Z,SqT.of a1,Ac (j:=1) rfl,SqT.of a1,Ac (j:=2) rfl,zN3,λt ht=>?_⟩;have g2:=Ae ht (.tup [.int (Ch (beg ns p1).1),.ref l1,.ref l2]);exact q _ _ (g1.trans g2) ⟨l1,l2,qa,g2 _ _ a2,g2 _ _ a3⟩
 ·have lf:=Y2 n1 n2 n3 n4 n5 n6 n7
  exact⟨_,p,Z,hp,lf,z,λt1 H1 g1 R1=>q _ _ g1 (by rw[Act lf ns []];exact R1)⟩
theorem Yp(F:Ea K mg "begun_instants" "begun" ["part","there"] Eh)(T:Db K mg aN aP aR uE uR uL)(C1:Ai P w K mg base 2 "begun_leaf_instants" ["part"] (AcN K))(C2:Ai P w K mg base 1 "in_turn_instants" ["first","second"] Tu)(z:Ai P w K mg base 1 "side_by_side_instants" ["first","second"] Tk)
  (C4:Ai P w K mg base 2 "repeated" ["rest","inner"] AaI) (C5:Ai P w K mg base 1 "code_of_trap" ["code"] Ks):∀n,Ai P w K mg base (n+2) "begun_instants" ["part","there"] (Qd K n)
 |0=>(F.zero (sp:=Qd K 0) λvs H Q E h=>by obtain⟨v,p,st,ns,_,_,_,hh,_⟩:=h;exact absurd hh (not_le_of_gt (Pt.hg_pos p))).mono (by decide)
 |n+1=>AfQ F T C1 C2 z C4 C5 (Yp F T C1 C2 z C4 C5 n)
theorem Ady(F:Ax K mg "ran" ["part","state","there"] Ta)(T:Db K mg aN aP aR uE uR uL)(bC:Ai P w K mg base (n+3) "part_to_begin" ["part","state"] (Zz K n))(aD:Ai P w K mg base (n+2) "begun_instants" ["part","there"] (Qd K n)) :
  Ai P w K mg base (n+4) "ran" ["part","state","there"] (AaY K n):=by
 refine F.ok Aal (λvs H Q E h=>?_) (λf cdv A outer s H vs Q E hr h=>?_)
 ·obtain⟨v,p,sv,st,th,ns,rfl,_⟩:=h;rfl
 obtain⟨v,p,sv,st,th,ns,rfl,hp,a6,hS,hb,k1,k2,k3,q⟩:=h
 refine⟨_,(Ad (Ar (i:=3) Aal.nd rfl (Or.inl rfl) (Am aD hr rfl Al (Aa (Am bC hr rfl Al (Aa (pv 0) (Aa (pv 1) Ab))) (Aa (pv 2) Ab))))
  (Ah (Ao (Ay (Aa (Aj Ag (pv 3) Af (λ_ _=>rfl)) (Aa (Gd rfl rfl T.n_sorted rfl T.n_set (Aj Ag (pv 3) Af (λ_ _=>rfl))) (Aa (Bu Oe rfl T.n_sorted (by trivial) (Aa (Aj Ag (pv 3) Af (λ_ _=>rfl)) Ab)) Ab))))))),?_⟩
 refine⟨v,p,sv,st,Z,hp,a6,hb,λv1 H1 g1 P1=>?_⟩;refine⟨v1,pb p st,th,ns,Z,P1,g1.seq hS,k1,lt9 k2,lt9 k3,λt H2 g2 ⟨l1,l2,a1,a2,a3⟩=>?_⟩;obtain⟨c1,c2⟩:=N7 ns (pb p st);refine⟨SqT.of a1,Ac (j:=0) rfl,SqT.of a1,Ac (j:=1) rfl,l1,_,Z,SqL.of a2,vB c1 k2,λr1 a5=>?_⟩;have g3:=Ae a5 (.lst ((nub (beg ns (pb p st)).2.1).map V.int));refine⟨SqT.of (g3 _ _ a1),Ac (j:=2) rfl,l2,_,Z,SqL.of (g3 _ _ a3),vB c2 k3,λr2 ms z pm om=>?_⟩;cases AcW pm om
 have g4:=Ae z (.lst ((Lw (beg ns (pb p st)).2.2).map V.int));refine⟨zN3,λt2 a7=>?_⟩;have g5:=Ae a7 (.tup [.int (beg ns (pb p st)).1,.ref r1,.ref r2]);have a4:=g1.trans g2;refine q _ _ (((a4.trans g3).trans g4).trans g5) ⟨r1,r2,qa,g5 _ _ (g4 _ _ qa),g5 _ _ qa,a4.free a5,(a4.trans g3).free z,ne_of_none qa z⟩
abbrev Wk:=List Int×Bool×List Int×List Int
def vO:Option Bool->V
 |none=>.non
 |some b=>.bl b
abbrev Ad5:V:=.int 0
def Bk:List Int->Int
 |[]=>0
 |[x]=>x
 |x::y::r=>if Bk (y::r)<x then Bk (y::r) else x
theorem Fb:∀{l:List Int},0<l.length->Bk l∈l/\∀a∈l,Bk l<=a
 |[x],_=>⟨vD.mpr rfl,λa ha=>by rcases mS ha with rfl;exact Int.le_refl _⟩
 |x::y::r,_=>by
  obtain⟨h1,h2⟩:=Fb (l:=y::r) (Nat.succ_pos _);unfold Bk;split
  ·next c=>exact⟨uG _ h1,λa ha=>(vJ.mp ha).elim (λe=>e▸Int.le_of_lt c) λz=>h2 a z⟩
  ·next c=>exact⟨uF,λa ha=>(vJ.mp ha).elim (λe=>e▸Int.le_refl _) λz=>Int.le_trans (Int.not_lt.mp c) (h2 a z)⟩
theorem Yn(h1:M∈l)(h2:∀a∈l,M<=a):M=Bk l:=by
 obtain⟨k1,z⟩:=Fb (length_pos_of_mem h1);exact Int.le_antisymm (h2 _ k1) (z _ h1)
def mx(a b:Int):Int:=if b>a then b else a
def Iq(a b:Wk):Wk:=(nub (a.1.filter (λc=>!decide (c=0))++b.1),b.2.1,a.2.2.1++b.2.2.1,a.2.2.2++b.2.2.2)
def Gb(a b:Wk):Wk:=((nub (a.1++b.1)).filter (λc=>decide (mx (Bk a.1) (Bk b.1)<=c)),a.2.1&&b.2.1,a.2.2.1++b.2.2.1,a.2.2.2++b.2.2.2)
def Ig(a b:Wk):Wk:=(nub (a.1++b.1),false,[],a.2.2.2++b.2.2.2)
def Mx(f:Int->Int)(a:Wk):Wk:=(nub (a.1.map f),a.2.1,a.2.2.1,a.2.2.2)
def wbeg(kn:List (Option Bool)):Bool->Pt->Wk
 |s,.thn p q=>if 0∈(wbeg kn s p).1 then Iq (wbeg kn s p) (wbeg kn (wbeg kn s p).2.1 q) else wbeg kn s p
 |s,.bes p q=>Gb (wbeg kn s p) (wbeg kn s q)
 |s,.iff x p q=>match (kn[x.toNat]?).getD none with
  |none=>Ig (wbeg kn false p) (wbeg kn false q)
  |some true=>wbeg kn s p
  |some false=>wbeg kn s q
 |s,.again _ p=>Mx agC (wbeg kn s p)
 |s,.hold _ p=>wbeg kn s p
 |s,.watch _ p=>wbeg kn s p
 |s,.trap p=>Mx Ch (wbeg kn s p)
 |s,.nothing=>([0],s,[],[])
 |s,.send x=>([0],s,if s=true then [x] else [],[x])
 |s,.exit d=>([2+d],s,[],[])
 |s,.rest _=>([1],s,[],[])
 |s,.stay _=>([1],s,[],[])
def okW(sg:Int):Pt->Prop
 |.send s=>0<=s/\s<sg
 |.exit d=>0<=d/\d<4
 |.iff s p q=>(0<=s/\s<sg)/\okW sg p/\okW sg q
 |.thn p q=>okW sg p/\okW sg q
 |.bes p q=>okW sg p/\okW sg q
 |.again _ p=>okW sg p
 |.hold s p=>(0<=s/\s<sg)/\okW sg p
 |.watch s p=>(0<=s/\s<sg)/\okW sg p
 |.trap p=>okW sg p
 |_=>True
theorem Yk(st:List Int)(h:okW sg p):okW sg (rem st p).2:=by
 induction p with
 |iff s p q z a1=>
  have:=z h.2.1;have:=a1 h.2.2;simp only[rem,lp];split
  ·assumption
  ·split
   ·assumption
   ·exact h
 |thn p q z a1=>
  have:=z h.1;have:=a1 h.2;simp only[rem,lp];split
  ·exact⟨z h.1,h.2⟩
  ·assumption
 |bes p q z a1=>
  have:=z h.1;have:=a1 h.2;simp only[rem,lp];split
  ·exact⟨z h.1,a1 h.2⟩
  ·split
   ·assumption
   ·split
    ·assumption
    ·exact h
 |again k p ih=>
  have:=ih h;simp only[rem];split
  ·exact h
  ·simp only[lr]
   split
   ·exact h
   ·exact ih h
 |hold s p ih=>
  have:=ih h.2;simp only[rem,lr];split
  ·exact h
  ·exact⟨h.1,trivial,ih h.2⟩
 |watch s p ih=>
  have:=ih h.2;simp only[rem,lr];split
  ·exact h
  ·exact⟨h.1,trivial,ih h.2⟩
 |trap p ih=>
  have:=ih h;simp only[rem,lr];split
  ·exact h
  ·exact ih h
 |rest k=>
  simp only[rem];split<;>exact trivial
 |nothing=>exact trivial
 |send s=>exact h
 |exit d=>exact h
 |stay ks=>exact trivial
theorem P5(h:okW sg p)(st:Option (List Int)):okW sg (pb p st):=by
 cases st with
 |none=>exact h
 |some l=>exact Yk l h
theorem T9:∀{l:List Int}{a b:Int},l.Pairwise (· < ·)->(∀x∈l,a<=x/\x<b)->(l.length:Int)<=max 0 (b-a)
 |[],a,b,_,_=>Int.le_max_left 0 (b-a)
 |x::r,a,b,h,k=>by
  have h':=vQ.mp h;have kx:=k x uF;have:=T9 (l:=r) (a:=x+1) (b:=b) h'.2 λy z=>⟨Int.add_one_le_of_lt (h'.1 y z),(k y (uG _ z)).2⟩
  rw[uV];omega
structure Cw(l:List Int):Prop where
 ri:l.Pairwise (· < ·)
 bd:∀c∈l,0<=c/\c<6
 ne:0<l.length
theorem Cw.len(h:Cw l):l.length<=6:=by
 have:=T9 h.ri h.bd;omega
theorem Afd(h:0<l.length):0<(nub l).length:=by
 cases l with
 |nil=>cases h
 |cons x r=>exact length_pos_of_mem (Bc.mpr (uF (a:=x) (l:=r)))
theorem Vx(h:∀c∈l,0<=c/\c<6)(n:0<l.length):Cw (nub l):=⟨G3 l,λc hc=>h c (Bc.mp hc),Afd n⟩
theorem AbC{a:List Int}(ha:Cw a)(z:Cw b):Cw (nub (a++b)):=Vx (λc hc=>(uW.mp hc).elim (λh=>ha.bd c h) λh=>z.bd c h) (by rw[uC];exact vA ha.ne (le_add_right _ _))
theorem Mq(h:0<=c/\c<6):Cw [c]:=⟨pairwise_singleton _ _,λx z=>by rcases mS z with rfl;exact h,Nat.succ_pos _⟩
theorem Aht{c:Int}(h0:0<=c)(h:c<3):c=0\/c=1\/c=2:=by
 obtain⟨n,rfl⟩:=Int.eq_ofNat_of_zero_le h0
 match n,h with
 |0,_=>exact .inl rfl
 |1,_=>exact .inr (.inl rfl)
 |2,_=>exact .inr (.inr rfl)
 |n+3,z=>exact absurd z (by omega)
theorem six{P:Int->Prop}(h0:P 0)(h1:P 1)(h2:P 2)(h3:P 3)(h4:P 4)(h5:P 5)(h:0<=c/\c<6):P c:=by
 obtain⟨n,rfl⟩:=Int.eq_ofNat_of_zero_le h.1
 match n,h.2 with
 |0,_=>exact h0
 |1,_=>exact h1
 |2,_=>exact h2
 |3,_=>exact h3
 |4,_=>exact h4
 |5,_=>exact h5
 |n+6,z=>exact absurd z (by omega)
theorem Vq(h:0<=c/\c<6):0<=agC c/\agC c<6:=six (P:=λc=>0<=agC c/\agC c<6) (by decide) (by decide) (by decide) (by decide) (by decide) (by decide) h
theorem O6(h:0<=c/\c<6):0<=Ch c/\Ch c<6:=six (P:=λc=>0<=Ch c/\Ch c<6) (by decide) (by decide) (by decide) (by decide) (by decide) (by decide) h
theorem AbO{f:Int->Int}(z:∀c,0<=c/\c<6->0<=f c/\f c<6){a:List Int}(ha:Cw a):Cw (nub (a.map f)):=Vx (λc hc=>by obtain⟨x,hx,rfl⟩:=vT.mp hc;exact z x (ha.bd x hx)) (by rw[uB];exact ha.ne)
theorem AeF{a:List Int}(ha:Cw a)(z:Cw b):Cw ((nub (a++b)).filter (λc=>decide (mx (Bk a) (Bk b)<=c))):=by
 have h:=AbC ha z;refine⟨h.ri.filter _,λc hc=>h.bd c (mem_filter.mp hc).1,?_⟩;have m1:=(Fb ha.ne).1;have m2:=(Fb z.ne).1;refine length_pos_of_mem (a:=mx (Bk a) (Bk b)) (mem_filter.mpr ⟨Bc.mpr ?_,by simp⟩);unfold mx;split
 ·exact uP _ m2
 ·exact vX _ m1
theorem Jg(kn:List (Option Bool))(h:okW sg p):∀s,Cw (wbeg kn s p).1:=by
 induction p with
 |thn p q a1 a2=>
  intro s;simp only[wbeg];split
  ·have h1:=a1 h.1 s
   have h2:=a2 h.2 (wbeg kn s p).2.1;exact Vx (λc hc=>(uW.mp hc).elim (λz=>h1.bd c (mem_filter.mp z).1) λz=>h2.bd c z) (by rw[uC];exact vA h2.ne (le_add_left _ _))
  ·exact a1 h.1 s
 |bes p q a1 a2=>intro s;exact AeF (a1 h.1 s) (a2 h.2 s)
 |iff x p q a1 a2=>
  intro s;simp only[wbeg];split
  ·exact AbC (a1 h.2.1 false) (a2 h.2.2 false)
  ·exact a1 h.2.1 s
  ·exact a2 h.2.2 s
 |again k p ih=>intro s;exact AbO (λc=>Vq) (ih h s)
 |hold x p ih=>intro s;exact ih h.2 s
 |watch x p ih=>intro s;exact ih h.2 s
 |trap p ih=>intro s;exact AbO (λc=>O6) (ih h s)
 |nothing=>intro s;exact Mq ⟨by decide,by decide⟩
 |send x=>intro s;exact Mq ⟨by decide,by decide⟩
 |exit d=>intro s;exact Mq ⟨Int.le_trans h.1 (Int.le_add_of_nonneg_left (by decide)),Int.add_lt_add_left h.2 2⟩
 |rest k=>intro s;exact Mq ⟨by decide,by decide⟩
 |stay k=>intro s;exact Mq ⟨by decide,by decide⟩
theorem Ou(kn:List (Option Bool))(p:Pt):∀s,(wbeg kn s p).2.2.1.length<=p.sc/\(wbeg kn s p).2.2.2.length<=p.sc:=by
 induction p with
 |thn p q a1 z=>
  intro s;have h1:=a1 s;have h2:=z (wbeg kn s p).2.1;simp only[wbeg,Pt.sc];split
  ·simp only[Iq,uC];exact⟨add_le_add h1.1 h2.1,add_le_add h1.2 h2.2⟩
  ·exact⟨Nat.le_add_right_of_le h1.1,Nat.le_add_right_of_le h1.2⟩
 |bes p q a1 z=>
  intro s;have h1:=a1 s;have h2:=z s;simp only[wbeg,Pt.sc,Gb,uC];exact⟨add_le_add h1.1 h2.1,add_le_add h1.2 h2.2⟩
 |iff x p q a1 z=>
  intro s;have h1:=a1 s;have h2:=z s;have h3:=a1 false;have h4:=z false;simp only[wbeg,Pt.sc];split
  ·simp only[Ig,uC,length_nil];exact⟨vY _,add_le_add h3.2 h4.2⟩
  ·exact⟨Nat.le_add_right_of_le h1.1,Nat.le_add_right_of_le h1.2⟩
  ·exact⟨Nat.le_add_left_of_le h2.1,Nat.le_add_left_of_le h2.2⟩
 |again k p ih=>intro s;exact ih s
 |hold x p ih=>intro s;exact ih s
 |watch x p ih=>intro s;exact ih s
 |trap p ih=>intro s;exact ih s
 |send x=>intro s;cases s<;>simp[wbeg,Pt.sc]
 |nothing=>intro s;exact⟨vY _,vY _⟩
 |exit x=>intro s;exact⟨vY _,vY _⟩
 |rest x=>intro s;exact⟨vY _,vY _⟩
 |stay x=>intro s;exact⟨vY _,vY _⟩
def L8(kn:List (Option Bool))(s:Bool)(p:Pt)(st:Option (List Int)):Wk:=((wbeg kn s (pb p st)).1,(wbeg kn s (pb p st)).2.1,nub (wbeg kn s (pb p st)).2.2.1,nub (wbeg kn s (pb p st)).2.2.2)
inductive Ew(H:Hp)(t:Addr)(d:Wk)   : Prop
 |mk(l1)(l2)(l3)(_:H t=some (.tup [.ref l1,.bl d.2.1,.ref l2,.ref l3]))(_:H l1=some (.lst (d.1.map V.int)))(_:H l2=some (.lst (d.2.2.1.map V.int)))(_:H l3=some (.lst (d.2.2.2.map V.int))):Ew H t d
theorem Ew.mono(h:Ew H t d)(g:Same H H'):Ew H' t d:=by
 obtain⟨l1,l2,l3,z,a2,a3,a4⟩:=h;exact⟨l1,l2,l3,g _ _ z,g _ _ a2,g _ _ a3,g _ _ a4⟩
def smW(d:Wk):Prop:=d.1.length<=20/\0<d.1.length/\d.2.2.1.length<=900/\d.2.2.2.length<=900
inductive Ri  (vs:List V) (H:Hp) (Q:VK):Prop
 |mk(t1)(t2)(a:_)(b)(_:vs=[.ref t1,.ref t2])(_:Ew H t1 a)(_:Ew H t2 b)(_:smW a)(_:smW b)(_:∀t H',Same H H'->Ew H' t (Iq a b)->Q (.ref t) H'):Ri  vs H Q
def Qs:Sp:=λvs H Q _=>Ri  vs H Q
inductive Rt  (vs:List V) (H:Hp) (Q:VK):Prop
 |mk(t1)(t2)(a:_)(b)(_:vs=[.ref t1,.ref t2])(_:Ew H t1 a)(_:Ew H t2 b)(_:smW a)(_:smW b)(_:∀t H',Same H H'->Ew H' t (Gb a b)->Q (.ref t) H'):Rt  vs H Q
def Qu:Sp:=λvs H Q _=>Rt  vs H Q
inductive Vg  (vs:List V) (H:Hp) (Q:VK):Prop
 |mk(t1)(t2)(a:_)(b)(_:vs=[.ref t1,.ref t2])(_:Ew H t1 a)(_:Ew H t2 b)(_:smW a)(_:smW b)(_:∀t H',Same H H'->Ew H' t (Ig a b)->Q (.ref t) H'):Vg  vs H Q
def Uh:Sp:=λvs H Q _=>Vg  vs H Q
inductive Vc  (vs:List V) (H:Hp) (Q:VK):Prop
 |mk(t1 c:Addr)(a:Wk)(cs:List Int)(_:vs=[.ref t1,.ref c])(_:Ew H t1 a)(_:H c=some (.lst (cs.map V.int)))(_:cs.length<=20)(_:∀t H',Same H H'->Ew H' t (nub cs,a.2.1,a.2.2.1,a.2.2.2)->Q (.ref t) H'):Vc  vs H Q
def Tv:Sp:=λvs H Q _=>Vc  vs H Q
inductive Sc(K:FA)(vs:List V)(H:Hp)(Q:VK):Prop
 |mk(v)(p)(s)(_:vs=[v,.bl s])(_:PAt K H (Pt.nd p) v)(_:E8 p=true)(_:∀t H',Same H H'->Ew H' t (wbeg [] s p)->Q (.ref t) H')
def Qn(K:FA):Sp:=λvs H Q _=>Sc K vs H Q
inductive Aa7(K:FA)(n:Nat)(vs:List V)(H:Hp)(Q:VK):Prop
 |mk(v)(p)(s)(kl)(kn)(_:vs=[v,.bl s,.ref kl])(_:PAt K H (Pt.nd p) v)(_:SqL K H kl ((kn:List (Option Bool)).map vO))(_:p.hg<=n)(_:p.sc<=900)(_:okW kn.length p)(_:∀t H',Same H H'->Ew H' t (wbeg kn s p)->Q (.ref t) H')
def Vr(K:FA)(n:Nat):Sp:=λvs H Q _=>Aa7 K n vs H Q
theorem Ha(h:okW sg p)(hs:p.sc<=900)(s:Bool):smW (wbeg kn s p):=by
 have c:=Jg kn h s;exact⟨uY c.len (by decide),c.ne,uY (Ou kn p s).1 hs,uY (Ou kn p s).2 hs⟩
theorem Jl{xs ys:List Int}(h:H l=some (.lst (xs.map V.int++ys.map V.int))):H l=some (.lst ((xs++ys).map V.int)):=by rw[h,uN]
theorem Ac1(F:Ea K mg "in_turn_walking" "in_turn" ["first","second"] Dq)(T:Db K mg aN aP aR uE uR uL):Ai P w K mg base 1 "in_turn_walking" ["first","second"] Qs:=by
 refine F.ok Fz (λvs H Q E h=>?_) (λf cdv A outer s H vs Q E hr h=>?_)
 ·obtain⟨t1,t2,da,db,rfl,_⟩:=h;rfl
 obtain⟨t1,t2,da,db,rfl,⟨l1,l2,l3,a1,a2,a3,a4⟩,⟨m1,m2,m3,b1,b2,b3,b4⟩,sa,sb,q⟩:=h
 refine⟨_,(Ad (Cs (j:=2) (g:=(Bq 0)) (tc:=(Fo (tOp rNe (A5 0) (tC Ad5)))) (te:=(A5 0)) ["code"] [] Fz.nd rfl (Or.inl rfl) rfl (Bz (Ak Dq) ["first","second","going_past","codes"] (by trivial)) (B6 (Aj Ag (pv 0) Af (λ_ _=>rfl))) (λs2 H2 fp cl C=>Az (i:=0) (show Nodup [("code": Str)] from by trivial) rfl (Or.inl rfl)) (Bg (by decide)) (λs2 H2 fp cl C=>Dk (An AaC (pv 0) (Bl rfl T.m_ENDED T.r_ENDED) (Aq _))) (λs2 H2 fp cl C=>(pv 0)))
  (Ad (Ar (i:=3) Fz.nd rfl (Or.inl rfl) (Gd rfl rfl T.n_sorted rfl T.n_set (A3 Cf (pv 2) (Aj Ag (pv 1) Af (λ_ _=>rfl)))))
  (Ah (Ao (Ay (Aa (pv 3) (Aa (Aj Ag (pv 1) Af (λ_ _=>rfl)) (Aa (A3 Cf (Aj Ag (pv 0) Af (λ_ _=>rfl)) (Aj Ag (pv 1) Af (λ_ _=>rfl))) (Aa (A3 Cf (Aj Ag (pv 0) Af (λ_ _=>rfl)) (Aj Ag (pv 1) Af (λ_ _=>rfl))) Ab))))))))),?_⟩
 refine⟨SqT.of a1,Ac (j:=0) rfl,l1,Z,⟨_,SqL.of a2⟩,Cn (K:=K) (xs:=da.1.map V.int) (λi ys H'=>H'=H/\ys=((da.1.take i).filter (λc=>!decide (c=0))).map V.int) ⟨Z,Z⟩ (by rw[uB];exact Co (Tf sa.1 (by decide))) (λi ys H' ⟨e,_⟩=>by rw[e];exact SqL.of a2) ?_ ?_⟩
 ·rintro j z ys H' N hj ⟨rfl,rfl⟩ hN a7
  rw[uH]at hj;cases ej:da.1[j]? with
  |none=>rw[ej]at hj;cases hj
  |some c=>
   rw[ej]at hj;cases hj
   have et:(da.1.take (j+1)).filter (λc=>!decide (c=0))=(da.1.take j).filter (λc=>!decide (c=0))++[c].filter (λc=>!decide (c=0)):=by
    rw[take_add_one,ej,vM];rfl
   refine⟨Z,A2 (λz=>?_) λz=>?_⟩
   ·refine(hN _ _ (Nn a7) ⟨Z,?_⟩)
    have nz:¬c=0:=λy=>by rw[y]at z;exact absurd z (by decide)
    rw[et,uN,filter_cons_of_pos (by simp[nz])];rfl
   ·refine hN _ _ (Nat.le_succ_of_le a7) ⟨Z,?_⟩
    have nz:c=0:=Classical.byContradiction λy=>z (by simp[y])
    rw[et,filter_cons_of_neg (by simp[nz])];simp
 ·rintro ys H' a7 ⟨rfl,rfl⟩ D hD
  have g0:=Ae hD (.lst (((da.1.take (da.1.map V.int).length).filter (λc=>!decide (c=0))).map V.int));have a8:(upd H' D (.lst (((da.1.take (da.1.map V.int).length).filter (λc=>!decide (c=0))).map V.int))) D=some (.lst ((da.1.filter (λc=>!decide (c=0))).map V.int)):=by rw[qa,uB,take_length]
  have fl:(da.1.filter (λc=>!decide (c=0))).length<=da.1.length:=length_filter_le _ _;have s1:=sa.1;have s2:=sb.1;have a1:=g0 _ _ a1;have a3:=g0 _ _ a3;have a4:=g0 _ _ a4;have b1:=g0 _ _ b1;have b2:=g0 _ _ b2;have b3:=g0 _ _ b3;have b4:=g0 _ _ b4;have q:∀t H2,Same (upd H' D (.lst (((da.1.take (da.1.map V.int).length).filter (λc=>!decide (c=0))).map V.int))) H2->Ew H2 t (Iq da db)->Q (.ref t) H2:=λt H2 g=>q t H2 (g0.trans g)
  generalize (upd H' D (.lst (((da.1.take (da.1.map V.int).length).filter (λc=>!decide (c=0))).map V.int)))=H1 at a8 a1 a3 a4 b1 b2 b3 b4 q;refine⟨SqT.of b1,Ac (j:=0) rfl,D,m1,_,_,Z,Z,a8,b2,by rw[uB,uB];exact Co (Acz (uY fl s1) s2 (by decide)),λp hp=>?_⟩;have g1:=Ae hp (.lst ((da.1.filter (λc=>!decide (c=0))).map V.int++db.1.map V.int));refine⟨p,_,Z,SqL.of (Jl qa),by rw[uC];exact AcH (uY fl s1) s2 (by decide),λr hr=>?_⟩;have g2:=Ae hr (.lst ((nub (da.1.filter (λc=>!decide (c=0))++db.1)).map V.int));have a5:=g1.trans g2;refine⟨SqT.of (a5 _ _ b1),Ac (j:=1) rfl,SqT.of (a5 _ _ a1),Ac (j:=2) rfl,SqT.of (a5 _ _ b1),Ac (j:=2) rfl,l2,m2,_,_,Z,Z,a5 _ _ a3,a5 _ _ b3,by rw[uB,uB];exact uY (add_le_add sa.2.2.1 sb.2.2.1) (by decide),λc hc=>?_⟩;have g3:=Ae hc (.lst (da.2.2.1.map V.int++db.2.2.1.map V.int));have a6:=a5.trans g3;refine⟨SqT.of (a6 _ _ a1),Ac (j:=3) rfl,SqT.of (a6 _ _ b1),Ac (j:=3) rfl,l3,m3,_,_,Z,Z,a6 _ _ a4,a6 _ _ b4,by rw[uB,uB];exact uY (add_le_add sa.2.2.2 sb.2.2.2) (by decide),λe he=>?_⟩;have g4:=Ae he (.lst (da.2.2.2.map V.int++db.2.2.2.map V.int));refine⟨zN4,λt ht=>?_⟩;have g5:=Ae ht (.tup [.ref r,.bl db.2.1,.ref c,.ref e]);exact q _ _ (a6.trans (g4.trans g5)) ⟨r,c,e,qa,g5 _ _ (g4 _ _ (g3 _ _ qa)),g5 _ _ (g4 _ _ (Jl qa)),g5 _ _ (Jl qa)⟩
theorem Acq(F:Ea K mg "side_by_side_walking" "side_by_side" ["first","second"] Cg)(T:Db K mg aN aP aR uE uR uL):Ai P w K mg base 1 "side_by_side_walking" ["first","second"] Qu:=by
 refine F.ok El (λvs H Q E h=>?_) (λf cdv A outer s H vs Q E hr h=>?_)
 ·obtain⟨t1,t2,da,db,rfl,_⟩:=h;rfl
 obtain⟨t1,t2,da,db,rfl,⟨l1,l2,l3,a1,a2,a3,a4⟩,⟨m1,m2,m3,b1,b2,b3,b4⟩,sa,sb,q⟩:=h
 refine⟨_,(Ad (Ar (i:=2) El.nd rfl (Or.inr rfl) (Bu (Mo rfl) rfl T.n_max (by trivial) (Aa (Bu (Ry rfl) rfl T.n_min (by trivial) (Aa (Aj Ag (pv 0) Af (λ_ _=>rfl)) Ab)) (Aa (Bu (Ry rfl) rfl T.n_min (by trivial) (Aa (Aj Ag (pv 1) Af (λ_ _=>rfl)) Ab)) Ab))))
  (Ad (Cs (j:=3) (g:=(Bq 0)) (tc:=(Fo (tOp (rI0 λi j=>.bl (decide (j<=i))) (A5 0) (A5 1)))) (te:=(A5 0)) ["code"] [("least",2)] El.nd rfl (Or.inl rfl) rfl (Bz (Ak Cg) ["first","second","least","codes"] (by trivial)) (B6 (Gd rfl rfl T.n_sorted rfl T.n_set (A3 Cf (Aj Ag (pv 0) Af (λ_ _=>rfl)) (Aj Ag (pv 1) Af (λ_ _=>rfl))))) (λs2 H2 fp cl C=>Az (i:=0) (show Nodup [("code": Str),("least": Str)] from by trivial) rfl (Or.inl rfl)) (Bg (by decide)) (λs2 H2 fp cl C=>Dk (An Af2 (pv 0) (pv 1) (Aq _))) (λs2 H2 fp cl C=>(pv 0)))
  (Ah (Ao (Ay (Aa (pv 3) (Aa (Abn (Aj Ag (pv 0) Af (λ_ _=>rfl)) (Wd (Aj Ag (pv 1) Af (λ_ _=>rfl)))) (Aa (A3 Cf (Aj Ag (pv 0) Af (λ_ _=>rfl)) (Aj Ag (pv 1) Af (λ_ _=>rfl))) (Aa (A3 Cf (Aj Ag (pv 0) Af (λ_ _=>rfl)) (Aj Ag (pv 1) Af (λ_ _=>rfl))) Ab))))))))),?_⟩
 refine⟨SqT.of a1,Ac (j:=0) rfl,l1,_,Z,SqL.of a2,sa.2.1,λM1 h1 h2=>?_⟩;refine⟨SqT.of b1,Ac (j:=0) rfl,m1,_,Z,SqL.of b2,sb.2.1,λM2 k1 k2=>?_⟩;cases Yn h1 h2
 cases Yn k1 k2
 have s1:=sa.1;have s2:=sb.1;refine⟨_,_,Z,SqT.of a1,Ac (j:=0) rfl,SqT.of b1,Ac (j:=0) rfl,l1,m1,_,_,Z,Z,a2,b2,by rw[uB,uB];exact Co (Acz s1 s2 (by decide)),λp hp=>?_⟩;have g1:=Ae hp (.lst (da.1.map V.int++db.1.map V.int));refine⟨p,da.1++db.1,Z,SqL.of (Jl qa),by rw[uC];exact AcH s1 s2 (by decide),λr hr=>?_⟩;have g2:=Ae hr (.lst ((nub (da.1++db.1)).map V.int));have a5:=g1.trans g2;have a6:=qa (H:=upd H p (.lst (da.1.map V.int++db.1.map V.int))) (a:=r) (o:=.lst ((nub (da.1++db.1)).map V.int));have a1:=a5 _ _ a1;have a3:=a5 _ _ a3;have a4:=a5 _ _ a4;have b1:=a5 _ _ b1;have b3:=a5 _ _ b3;have b4:=a5 _ _ b4;have q:∀t H2,Same (upd (upd H p (.lst (da.1.map V.int++db.1.map V.int))) r (.lst ((nub (da.1++db.1)).map V.int))) H2->Ew H2 t (Gb da db)->Q (.ref t) H2:=λt H2 g=>q t H2 (a5.trans g)
 generalize (upd (upd H p (.lst (da.1.map V.int++db.1.map V.int))) r (.lst ((nub (da.1++db.1)).map V.int)))=H1 at a6 a1 a3 a4 b1 b3 b4 q;have nl:=uY (Qo _) (by rw[uC];exact add_le_add s1 s2);refine⟨r,Z,⟨_,SqL.of a6⟩,Cn (K:=K) (xs:=(nub (da.1++db.1)).map V.int) (λi ys H'=>H'=H1/\ys=(((nub (da.1++db.1)).take i).filter (λc=>decide (mx (Bk da.1) (Bk db.1)<=c))).map V.int) ⟨Z,Z⟩ (by rw[uB];exact Co (Tf nl (by decide))) (λi ys H' ⟨e,_⟩=>by rw[e];exact SqL.of a6) ?_ ?_⟩
 ·rintro j z ys H' N hj ⟨rfl,rfl⟩ hN a7
  rw[uH]at hj;cases ej:(nub (da.1++db.1))[j]? with
  |none=>rw[ej]at hj;cases hj
  |some c=>
   rw[ej]at hj;cases hj
   have et:((nub (da.1++db.1)).take (j+1)).filter (λc=>decide (mx (Bk da.1) (Bk db.1)<=c))=((nub (da.1++db.1)).take j).filter (λc=>decide (mx (Bk da.1) (Bk db.1)<=c))++[c].filter (λc=>decide (mx (Bk da.1) (Bk db.1)<=c)):=by
    rw[take_add_one,ej,vM];rfl
   refine⟨_,_,Z,Z,A2 (λz=>?_) λz=>?_⟩
   ·refine(hN _ _ (Nn a7) ⟨Z,?_⟩)
    have f1:[c].filter (λc=>decide (mx (Bk da.1) (Bk db.1)<=c))=[c]:=by
     have:mx (Bk da.1) (Bk db.1)<=c:=uK z;simp[this]
    rw[et,f1,uN];rfl
   ·refine hN _ _ (Nat.le_succ_of_le a7) ⟨Z,?_⟩
    have f1:[c].filter (λc=>decide (mx (Bk da.1) (Bk db.1)<=c))=[]:=by
     have:¬mx (Bk da.1) (Bk db.1)<=c:=λy=>z (uI y)
     simp[this]
    rw[et,f1,vH]
 ·rintro ys H' a7 ⟨rfl,rfl⟩ D hD
  have g0:=Ae hD (.lst ((((nub (da.1++db.1)).take ((nub (da.1++db.1)).map V.int).length).filter (λc=>decide (mx (Bk da.1) (Bk db.1)<=c))).map V.int));have a8:(upd H' D (.lst ((((nub (da.1++db.1)).take ((nub (da.1++db.1)).map V.int).length).filter (λc=>decide (mx (Bk da.1) (Bk db.1)<=c))).map V.int))) D=some (.lst ((Gb da db).1.map V.int)):=by rw[qa,uB,take_length];rfl
  have a1:=g0 _ _ a1;have a3:=g0 _ _ a3;have a4:=g0 _ _ a4;have b1:=g0 _ _ b1;have b3:=g0 _ _ b3;have b4:=g0 _ _ b4;have q:=λt H2(g:Same (upd H' D (.lst ((((nub (da.1++db.1)).take ((nub (da.1++db.1)).map V.int).length).filter (λc=>decide (mx (Bk da.1) (Bk db.1)<=c))).map V.int))) H2)=>q t H2 (g0.trans g)
  generalize (upd H' D (.lst ((((nub (da.1++db.1)).take ((nub (da.1++db.1)).map V.int).length).filter (λc=>decide (mx (Bk da.1) (Bk db.1)<=c))).map V.int)))=H2 at a8 a1 a3 a4 b1 b3 b4 q;refine⟨SqT.of a1,Ac (j:=1) rfl,_,Z,?_⟩
  have rest:∀bb,bb=(da.2.1&&db.2.1)->(Bx (tOp Zx (tOp (Fc K) (A5 0) (tC (.int 2))) (tOp (Fc K) (A5 1) (tC (.int 2)))) (Bx (tOp Zx (tOp (Fc K) (A5 0) (tC (.int 3))) (tOp (Fc K) (A5 1) (tC (.int 3)))) Dj)) [some (.ref t1),some (.ref t2),some (.int (mx (Bk da.1) (Bk db.1))),some (.ref D)] H2 (λxs H1=>([V.ref D,.bl bb]++xs).length<=sizeLine/\∀p,H1 p=none->Q (.ref p) (upd H1 p (.tup ([V.ref D,.bl bb]++xs)))):=by
   intro bb eb;subst eb;refine⟨SqT.of a1,Ac (j:=2) rfl,SqT.of b1,Ac (j:=2) rfl,l2,m2,_,_,Z,Z,a3,b3,by rw[uB,uB];exact uY (add_le_add sa.2.2.1 sb.2.2.1) (by decide),λc hc=>?_⟩;have g3:=Ae hc (.lst (da.2.2.1.map V.int++db.2.2.1.map V.int));refine⟨SqT.of (g3 _ _ a1),Ac (j:=3) rfl,SqT.of (g3 _ _ b1),Ac (j:=3) rfl,l3,m3,_,_,Z,Z,g3 _ _ a4,g3 _ _ b4,by rw[uB,uB];exact uY (add_le_add sa.2.2.2 sb.2.2.2) (by decide),λe he=>?_⟩;have g4:=Ae he (.lst (da.2.2.2.map V.int++db.2.2.2.map V.int));refine⟨zN4,λt ht=>?_⟩;have g5:=Ae ht (.tup [.ref D,.bl (da.2.1&&db.2.1),.ref c,.ref e]);exact q _ _ (g3.trans (g4.trans g5)) ⟨D,c,e,qa,g5 _ _ (g4 _ _ (g3 _ _ a8)),g5 _ _ (g4 _ _ (Jl qa)),g5 _ _ (Jl qa)⟩
  cases e1:da.2.1 with
  |true=>exact C8 ⟨SqT.of b1,Ac (j:=1) rfl,rest _ (by rw[e1];rfl)⟩
  |false=>exact Ez (rest _ (by rw[e1];rfl))
theorem Ad2(F:Ax K mg "one_of" ["first","second"] Me)(T:Db K mg aN aP aR uE uR uL):Ai P w K mg base 1 "one_of" ["first","second"] Uh:=by
 refine F.ok Abu (λvs H Q E h=>?_) (λf cdv A outer s H vs Q E hr h=>?_)
 ·obtain⟨t1,t2,da,db,rfl,_⟩:=h;rfl
 obtain⟨t1,t2,da,db,rfl,⟨l1,l2,l3,a1,a2,a3,a4⟩,⟨m1,m2,m3,b1,b2,b3,b4⟩,sa,sb,q⟩:=h;refine⟨_,(Ah (Ao (Ay (Aa (Gd rfl rfl T.n_sorted rfl T.n_set (A3 Cf (Aj Ag (pv 0) Af (λ_ _=>rfl)) (Aj Ag (pv 1) Af (λ_ _=>rfl)))) (Aa Dr (Aa (Av Ab) (Aa (A3 Cf (Aj Ag (pv 0) Af (λ_ _=>rfl)) (Aj Ag (pv 1) Af (λ_ _=>rfl))) Ab))))))),?_⟩;have s1:=sa.1;have s2:=sb.1;refine⟨SqT.of a1,Ac (j:=0) rfl,SqT.of b1,Ac (j:=0) rfl,l1,m1,_,_,Z,Z,a2,b2,by rw[uB,uB];exact Co (Acz s1 s2 (by decide)),λp hp=>?_⟩;have g1:=Ae hp (.lst (da.1.map V.int++db.1.map V.int));refine⟨p,da.1++db.1,Z,SqL.of (Jl qa),by rw[uC];exact AcH s1 s2 (by decide),λr hr=>?_⟩;have g2:=Ae hr (.lst ((nub (da.1++db.1)).map V.int));refine⟨zN0,λc hc=>?_⟩;have g3:=Ae hc (.lst []);have z:=(g1.trans g2).trans g3;refine⟨SqT.of (z _ _ a1),Ac (j:=3) rfl,SqT.of (z _ _ b1),Ac (j:=3) rfl,l3,m3,_,_,Z,Z,z _ _ a4,z _ _ b4,by rw[uB,uB];exact uY (add_le_add sa.2.2.2 sb.2.2.2) (by decide),λe he=>?_⟩;have g4:=Ae he (.lst (da.2.2.2.map V.int++db.2.2.2.map V.int));refine⟨zN4,λt ht=>?_⟩;have g5:=Ae ht (.tup [.ref r,.bl false,.ref c,.ref e]);exact q _ _ (z.trans (g4.trans g5)) ⟨r,c,e,qa,g5 _ _ (g4 _ _ (g3 _ _ qa)),g5 _ _ (g4 _ _ qa),g5 _ _ (Jl qa)⟩
theorem Adr(F:Ax K mg "recoded" ["inner","codes"] Ku)(T:Db K mg aN aP aR uE uR uL):Ai P w K mg base 1 "recoded" ["inner","codes"] Tv:=by
 refine F.ok Zu (λvs H Q E h=>?_) (λf cdv A outer s H vs Q E hr h=>?_)
 ·obtain⟨t1,c,a,cs,rfl,_⟩:=h;rfl
 obtain⟨t1,c,a,cs,rfl,⟨l1,l2,l3,a1,a2,a3,a4⟩,hc,hl,q⟩:=h;refine⟨_,(Ah (Ao (Ay (Aa (Gd rfl rfl T.n_sorted rfl T.n_set (pv 1)) (Aa (Aj Ag (pv 0) Af (λ_ _=>rfl)) (Aa (Aj Ag (pv 0) Af (λ_ _=>rfl)) (Aa (Aj Ag (pv 0) Af (λ_ _=>rfl)) Ab))))))),?_⟩;refine⟨c,cs,Z,SqL.of hc,vB hl (by decide),λr hr=>?_⟩;have z:=Ae hr (.lst ((nub cs).map V.int));refine⟨SqT.of (z _ _ a1),Ac (j:=1) rfl,SqT.of (z _ _ a1),Ac (j:=2) rfl,SqT.of (z _ _ a1),Ac (j:=3) rfl,zN4,λt ht=>?_⟩;have g5:=Ae ht (.tup [.ref r,.bl a.2.1,.ref l2,.ref l3]);exact q _ _ (z.trans g5) ⟨r,l2,l3,qa,g5 _ _ qa,g5 _ _ (z _ _ a3),g5 _ _ (z _ _ a4)⟩
theorem AcT(F:Ea K mg "begun_leaf_walking" "begun_leaf" ["part","sure"] Dw)(T:Db K mg aN aP aR uE uR uL)(bA:Ai P w K mg base 1 "leaf_code" ["part"] (J4 K)):Ai P w K mg base 2 "begun_leaf_walking" ["part","sure"] (Qn K):=by
 refine F.ok E9 (λvs H Q E h=>?_) (λf cdv A outer s H vs Q E hr h=>?_)
 ·obtain⟨v,p,z,rfl,_⟩:=h;rfl
 obtain⟨v,p,z,rfl,hp,lf,q⟩:=h
 refine⟨_,(Ad (Ar (i:=2) E9.nd rfl (Or.inl rfl) (Br (An A1 (Aj Ag (pv 0) Af (λ_ _=>rfl)) Ap (Aq _)) (Av (Aa (Aj Ag (pv 0) Af (λ_ _=>rfl)) Ab)) (Av Ab)))
  (Ad (Ar (i:=3) E9.nd rfl (Or.inl rfl) (Br (Mw (pv 1)) (pv 2) (Av Ab)))
  (Ah (Ao (Ay (Aa (Av (Aa (Am bA hr rfl Al (Aa (pv 0) Ab)) Ab)) (Aa (pv 1) (Aa (pv 3) (Aa (pv 2) Ab))))))))),?_⟩
 have a1:∀(l1:Addr)(xs:List Int)(hl:H l1=none)(e1:wbeg [] z p=([(beg [] p).1],z,(if z=true then xs else []),xs)),(Ue (tIf (tB (A5 1)) (A5 2) (AaG Dj)) (Bq 3)) {nx:=Zk (Lu (Bx (AaG (Bx (Ip (J4 K) [] E0 (Bx (A5 0) Dj)) Dj)) (Bx (A5 1) (Bx (A5 3) (Bx (A5 2) Dj))))) {nx:=λ_ H'=>Q .non H',rt:=Q},rt:=Q} [some v,some (.bl z),some (.ref l1),none] (upd H l1 (.lst (xs.map V.int))):=by
  intro l1 xs hl e1;rw[e1]at q;have g1:=Ae hl (.lst (xs.map V.int));cases z with
  |true=>
   refine⟨v,p,Z,hp.mono g1.tp,lf,zN1,λc hc=>?_⟩;have g2:=Ae hc (.lst [.int (beg [] p).1]);refine⟨zN4,λt ht=>?_⟩;have g3:=Ae ht (.tup [.ref c,.bl true,.ref l1,.ref l1]);exact q _ _ (g1.trans (g2.trans g3)) ⟨c,l1,l1,qa,g3 _ _ qa,g3 _ _ (g2 _ _ qa),g3 _ _ (g2 _ _ qa)⟩
  |false=>
   refine⟨zN0,λm hm=>?_⟩;have g0:=Ae hm (.lst []);refine⟨v,p,Z,hp.mono (g1.trans g0).tp,lf,zN1,λc hc=>?_⟩;have g2:=Ae hc (.lst [.int (beg [] p).1]);refine⟨zN4,λt ht=>?_⟩;have g3:=Ae ht (.tup [.ref c,.bl false,.ref m,.ref l1]);exact q _ _ (g1.trans (g0.trans (g2.trans g3))) ⟨c,m,l1,qa,g3 _ _ qa,g3 _ _ (g2 _ _ qa),g3 _ _ (g2 _ _ (g0 _ _ qa))⟩
 cases p with
 |nothing=>
  obtain⟨a,vs,rfl,hs,hx⟩:=PAt.get hp;obtain⟨x0,rfl,h0⟩:=hx.one;cases h0.str
  exact⟨hs.sq,Ac (j:=0) rfl,Z,E2 (by trivial) ⟨zN0,λl hl=>a1 l [] hl (by cases z<;>rfl)⟩⟩
 |exit x=>
  obtain⟨a,rfl⟩:=Fx hp;have hs:=g2i hp;exact⟨hs.sq,Ac (j:=0) rfl,Z,E2 (by trivial) ⟨zN0,λl hl=>a1 l [] hl (by cases z<;>rfl)⟩⟩
 |rest x=>
  obtain⟨a,rfl⟩:=Fx hp;have hs:=g2i hp;exact⟨hs.sq,Ac (j:=0) rfl,Z,E2 (by trivial) ⟨zN0,λl hl=>a1 l [] hl (by cases z<;>rfl)⟩⟩
 |stay x=>
  obtain⟨a,rfl⟩:=Fx hp;obtain⟨x1,hs,h1⟩:=g2 hp;exact⟨hs.sq,Ac (j:=0) rfl,Z,E2 (by trivial) ⟨zN0,λl hl=>a1 l [] hl (by cases z<;>rfl)⟩⟩
 |send x=>
  obtain⟨a,rfl⟩:=Fx hp;have hs:=g2i hp;exact⟨hs.sq,Ac (j:=0) rfl,Z,Jr ⟨hs.sq,Ac (j:=1) rfl,zN1,λl hl=>a1 l [x] hl (by cases z<;>rfl)⟩⟩
 |_=>cases lf
inductive WkN(s:Addr)(H:Hp)(t:Addr)(d:Wk):Prop
 |mk(l1 l2 l3:Addr)(h0:H t=some (.tup [.ref l1,.bl d.2.1,.ref l2,.ref l3]))(h1:H l1=some (.lst (d.1.map V.int)))(h2:H l2=some (.lst (d.2.2.1.map V.int)))(h3:H l3=some (.lst (d.2.2.2.map V.int)))(n0:t≠s)(n1:l1≠s)(n2:l2≠s)(n3:l3≠s)
inductive Rw(K:FA)(n:Nat)(vs:List V)(H:Hp)(Q:VK):Prop
 |mk(v)(p)(sv)(st:_)(s)(kl)(kn)(_:vs=[v,sv,.bl s,.ref kl])(_:PAt K H (Pt.nd p) v)(_:Kc K H st sv)(_:SqL K H kl ((kn:List (Option Bool)).map vO))(_:(st=none\/(p.hg<=n/\p.rc<=900)))(_:(pb p st).hg<=n)(_:(pb p st).sc<64)(_:okW kn.length p)(_:∀(t:Addr)(H':Hp),Same H H'->Ew H' t (L8 kn s p st)->(∀(a:Addr)(xs:List Addr),H a=some (.lst (xs.map V.ref))->WkN a H' t (L8 kn s p st))->Q (.ref t) H')
def Xk(K:FA)(n:Nat):Sp:=λvs H Q _=>Rw K n vs H Q
def AhZ:Option Bool->Wk->Wk->Wk->Wk
 |none,a,_,_=>a
 |some true,_,b,_=>b
 |some false,_,_,c=>c
theorem Aau(h:E8 p=true)(kn z:List (Option Bool))(s:Bool):wbeg kn s p=wbeg z s p:=by cases p<;>first|rfl|cases h
theorem Pa{x:Int}(h:(kn[x.toNat]?).getD none=o):wbeg kn s (.iff x p q)=AhZ o (Ig (wbeg kn false p) (wbeg kn false q)) (wbeg kn s p) (wbeg kn s q):=by
 subst h;simp only[wbeg];cases (kn[x.toNat]?).getD none with
 |none=>rfl
 |some b=>cases b<;>rfl
theorem Afv(F:Ea K mg "begun_walking" "begun" ["part","sure","known"] Cy)(T:Db K mg aN aP aR uE uR uL)(bZ:Ai P w K mg base 2 "begun_leaf_walking" ["part","sure"] (Qn K))(cH:Ai P w K mg base 1 "in_turn_walking" ["first","second"] Qs)(bQ:Ai P w K mg base 1 "side_by_side_walking" ["first","second"] Qu)(iN:Ai P w K mg base 1 "one_of" ["first","second"] Uh)(dO:Ai P w K mg base 1 "recoded" ["inner","codes"] Tv)
  (aU:Ai P w K mg base 1 "code_of_again" ["code"] L4) (aW:Ai P w K mg base 1 "code_of_trap" ["code"] Ks) (aB:Ai P w K mg base (n+2) "begun_walking" ["part","sure","known"] (Vr K n)):Ai P w K mg base (n+3) "begun_walking" ["part","sure","known"] (Vr K (n+1)):=by
 refine F.ok Eb (λvs H Q E h=>?_) (λf cdv A outer s H vs Q E hr h=>?_)
 ·obtain⟨v,p,sr,kl,kn,rfl,_⟩:=h;rfl
 obtain⟨v,p,sr,kl,kn,rfl,hp,hS,hh,a5,ok,q⟩:=h
 refine⟨_,(Ad (Ar (i:=3) Eb.nd rfl (Or.inl rfl) (Aj Ag (pv 0) Af (λ_ _=>rfl)))
  (Ad (A9 (An A1 (pv 3) Ap (Aq _))
   (Ad (Ar (i:=4) Eb.nd rfl (Or.inl rfl) (Am aB hr rfl Al (Aa (Aj Ag (pv 0) Af (λ_ _=>rfl)) (Aa (pv 1) (Aa (pv 2) Ab)))))
  (Ah (Ao (Br (An B3 (Bl rfl T.m_ENDED T.r_ENDED) (Aj Ag (pv 4) Af (λ_ _=>rfl)) (by rfl)) (Am cH hr rfl Al (Aa (pv 4) (Aa (Am aB hr rfl Al (Aa (Aj Ag (pv 0) Af (λ_ _=>rfl)) (Aa (Aj Ag (pv 4) Af (λ_ _=>rfl)) (Aa (pv 2) Ab)))) Ab))) (pv 4)))))
   A0)
  (Ad (A9 (An A1 (pv 3) Ap (Aq _))
   (Ah (Ao (Am bQ hr rfl Al (Aa (Am aB hr rfl Al (Aa (Aj Ag (pv 0) Af (λ_ _=>rfl)) (Aa (pv 1) (Aa (pv 2) Ab)))) (Aa (Am aB hr rfl Al (Aa (Aj Ag (pv 0) Af (λ_ _=>rfl)) (Aa (pv 1) (Aa (pv 2) Ab)))) Ab)))))
   A0)
  (Ad (A9 (An A1 (pv 3) Ap (Aq _))
   (Ad (A9 (An Lk (Aj Bs (pv 2) (Aj Ag (pv 0) Af (λ_ _=>rfl)) (λ_ _=>rfl)) B5 (Aq _))
   (Ah (Ao (Am iN hr rfl Al (Aa (Am aB hr rfl Al (Aa (Aj Ag (pv 0) Af (λ_ _=>rfl)) (Aa Dr (Aa (pv 2) Ab)))) (Aa (Am aB hr rfl Al (Aa (Aj Ag (pv 0) Af (λ_ _=>rfl)) (Aa Dr (Aa (pv 2) Ab)))) Ab)))))
   A0)
  (Ah (Ao (Am aB hr rfl Al (Aa (Br (Mw (Aj Bs (pv 2) (Aj Ag (pv 0) Af (λ_ _=>rfl)) (λ_ _=>rfl))) (Aj Ag (pv 0) Af (λ_ _=>rfl)) (Aj Ag (pv 0) Af (λ_ _=>rfl))) (Aa (pv 1) (Aa (pv 2) Ab)))))))
   A0)
  (Ad (A9 (An A1 (pv 3) Ap (Aq _))
   (Ad (Ar (i:=5) Eb.nd rfl (Or.inl rfl) (Am aB hr rfl Al (Aa (Aj Ag (pv 0) Af (λ_ _=>rfl)) (Aa (pv 1) (Aa (pv 2) Ab)))))
  (Ah (Ao (Am dO hr rfl Al (Aa (pv 5) (Aa (Dc (g:=(Bq 0)) (tc:=Dy) (te:=(Ip L4 [] E0 (Bx (A5 0) Dj))) ["code"] [] rfl (Bz (Ak Cy) ["part","sure","known","word","first","inner"] (by trivial)) (B6 (Aj Ag (pv 5) Af (λ_ _=>rfl))) (λs2 H2 fp cl C=>Az (i:=0) (show Nodup [("code": Str)] from by trivial) rfl (Or.inl rfl)) (Bg (by decide)) (λs2 H2 fp cl C=>Ep) (λs2 H2 fp cl C=>(Am aU hr rfl Al (Aa (pv 0) Ab)))) Ab))))))
   A0)
  (Ad (A9 (PW.pt (Gc (An A1 (pv 3) Ap (Aq _)) (Fg (An A1 (pv 3) Ap (Aq _)))))
   (Ah (Ao (Am aB hr rfl Al (Aa (Aj Ag (pv 0) Af (λ_ _=>rfl)) (Aa (pv 1) (Aa (pv 2) Ab))))))
   A0)
  (Ad (A9 (An A1 (pv 3) Ap (Aq _))
   (Ad (Ar (i:=5) Eb.nd rfl (Or.inl rfl) (Am aB hr rfl Al (Aa (Aj Ag (pv 0) Af (λ_ _=>rfl)) (Aa (pv 1) (Aa (pv 2) Ab)))))
  (Ah (Ao (Am dO hr rfl Al (Aa (pv 5) (Aa (Dc (g:=(Bq 0)) (tc:=Dy) (te:=(Ip Ks [] E0 (Bx (A5 0) Dj))) ["code"] [] rfl (Bz (Ak Cy) ["part","sure","known","word","first","inner"] (by trivial)) (B6 (Aj Ag (pv 5) Af (λ_ _=>rfl))) (λs2 H2 fp cl C=>Az (i:=0) (show Nodup [("code": Str)] from by trivial) rfl (Or.inl rfl)) (Bg (by decide)) (λs2 H2 fp cl C=>Ep) (λs2 H2 fp cl C=>(Am aW hr rfl Al (Aa (pv 0) Ab)))) Ab))))))
   A0)
  (Ah (Ao (Am bZ hr rfl Al (Aa (pv 0) (Aa (pv 1) Ab)))))))))))),?_⟩
 obtain⟨a,vs,rfl,hs⟩:=Jv hp;refine⟨hs.sq,Ac (j:=0) rfl,Z,Ce (λe=>?_) λn1=>⟨Z,Ce (λe=>?_) λn2=>⟨Z,Ce (λe=>?_) λn3=>⟨Z,Ce (λe=>?_) λn4=>⟨Z,Ce (λe=>C8 ?_) λn5=>⟨Z,Ce (λe=>?_) λn6=>⟨Z,Ce (λe=>?_) λn7=>?_⟩⟩⟩⟩⟩⟩⟩
 ·obtain⟨p1,p2,rfl⟩:=Tr e
  obtain⟨x1,x2,hs,h1,h2⟩:=g3 hp;refine⟨hs.sq,Ac (j:=1) rfl,x1,p1,sr,kl,kn,Z,h1,hS,hgl hh,adl a5,ok.1,λt1 H1 g1 R1=>?_⟩;obtain⟨l1,l2,l3,a1,a2,a3,a4⟩:=id R1;refine⟨SqT.of a1,Ac (j:=0) rfl,l1,_,Z,.inl (SqL.of a2),Z,B9 _,Us (λc=>?_) λc=>?_⟩
  ·refine⟨(hs.mono g1.tp).sq,Ac (j:=2) rfl,SqT.of a1,Ac (j:=1) rfl,x2,p2,_,kl,kn,Z,h2.mono g1.tp,g1.seq hS,hgr hh,adr a5,ok.2,λt2 H2 g2 R2=>?_⟩
   refine⟨t1,t2,_,_,Z,R1.mono g2,R2,Ha ok.1 (adl a5) sr,Ha ok.2 (adr a5) _,λt H3 g3 R3=>?_⟩;exact q _ _ ((g1.trans g2).trans g3) (by rw[show wbeg kn sr (.thn p1 p2)=Iq (wbeg kn sr p1) (wbeg kn (wbeg kn sr p1).2.1 p2) from by simp only[wbeg];rw[if_pos c]];exact R3)
  ·exact(q _ _ g1 (by rw[show wbeg kn sr (.thn p1 p2)=wbeg kn sr p1 from by simp only[wbeg];rw[if_neg c]];exact R1))
 ·obtain⟨p1,p2,rfl⟩:=Abj e
  obtain⟨x1,x2,hs,h1,h2⟩:=g3 hp;refine⟨hs.sq,Ac (j:=1) rfl,x1,p1,sr,kl,kn,Z,h1,hS,hgl hh,adl a5,ok.1,λt1 H1 g1 R1=>?_⟩;refine⟨(hs.mono g1.tp).sq,Ac (j:=2) rfl,x2,p2,sr,kl,kn,Z,h2.mono g1.tp,g1.seq hS,hgr hh,adr a5,ok.2,λt2 H2 g2 R2=>?_⟩;exact⟨t1,t2,_,_,Z,R1.mono g2,R2,Ha ok.1 (adl a5) sr,Ha ok.2 (adr a5) sr,λt H3 g3 R3=>q _ _ ((g1.trans g2).trans g3) R3⟩
 ·obtain⟨sn,p1,p2,rfl⟩:=Tn e
  obtain⟨x2,x3,hs,h2,h3⟩:=g4i hp;have hb:=AgO ok.1;obtain⟨o,eo⟩:∃o,kn[sn.toNat]?=some o:=⟨_,uA hb⟩
  have ea:atI (kn.map vO) sn=some (vO o):=by
   have:=Ac (xs:=kn.map vO) (j:=sn.toNat) (v:=vO o) (by rw[uH,eo];rfl);rw[Int.toNat_of_nonneg ok.1.1]at this;exact this
  have ew:=λs=>Pa (kn:=kn) (s:=s) (x:=sn) (p:=p1) (q:=p2) (o:=o) (by rw[eo];rfl)
  refine⟨hs.sq,Ac (j:=1) rfl,hS,ea,Z,?_⟩;rw[ew]at q;cases o with
  |none=>
   refine C8 ?_;refine⟨hs.sq,Ac (j:=2) rfl,x2,p1,false,kl,kn,Z,h2,hS,hgl hh,adl a5,ok.2.1,λt1 H1 g1 R1=>?_⟩;refine⟨(hs.mono g1.tp).sq,Ac (j:=3) rfl,x3,p2,false,kl,kn,Z,h3.mono g1.tp,g1.seq hS,hgr hh,adr a5,ok.2.2,λt2 H2 g2 R2=>?_⟩;exact⟨t1,t2,_,_,Z,R1.mono g2,R2,Ha ok.2.1 (adl a5) false,Ha ok.2.2 (adr a5) false,λt H3 g3 R3=>q _ _ ((g1.trans g2).trans g3) R3⟩
  |some b=>
   refine Ez ?_;refine⟨hs.sq,Ac (j:=1) rfl,hS,ea,?_⟩;cases b with
   |true=>exact C8 ⟨hs.sq,Ac (j:=2) rfl,x2,p1,sr,kl,kn,rfl,h2,hS,hgl hh,adl a5,ok.2.1,λt1 H1 g1 R1=>q _ _ g1 R1⟩
   |false=>exact Ez ⟨hs.sq,Ac (j:=3) rfl,x3,p2,sr,kl,kn,rfl,h3,hS,hgr hh,adr a5,ok.2.2,λt1 H1 g1 R1=>q _ _ g1 R1⟩
 ·obtain⟨k,p1,rfl⟩:=Um e
  obtain⟨x2,hs,h2⟩:=g3i hp;refine⟨hs.sq,Ac (j:=2) rfl,x2,p1,sr,kl,kn,Z,h2,hS,le_of_succ_le_succ hh,a5,ok,λt1 H1 g1 R1=>?_⟩;obtain⟨l1,l2,l3,a1,a2,a3,a4⟩:=id R1;have sm:=Ha (kn:=kn) (p:=p1) ok a5 sr;refine⟨SqT.of a1,Ac (j:=0) rfl,l1,Z,⟨_,SqL.of a2⟩,Cn (K:=K) (xs:=(wbeg kn sr p1).1.map V.int) (λi ys H'=>H'=H1/\ys=(((wbeg kn sr p1).1.take i).map agC).map V.int) ⟨Z,Z⟩ (by rw[uB];exact Co (Tf sm.1 (by decide))) (λi ys H' ⟨e,_⟩=>by rw[e];exact SqL.of a2) ?_ ?_⟩
  ·rintro j z ys H' N hj ⟨rfl,rfl⟩ hN a6
   rw[uH]at hj;cases ej:(wbeg kn sr p1).1[j]? with
   |none=>rw[ej]at hj;cases hj
   |some c=>
    rw[ej]at hj;cases hj
    refine⟨c,Z,hN _ _ ?_ ⟨Z,?_⟩⟩
    ·exact Nn a6
    ·rw[take_add_one,ej,uN,uN];rfl
  ·rintro ys H' a6 ⟨rfl,rfl⟩ D hD
   have g2:=Ae hD (.lst ((((wbeg kn sr p1).1.take ((wbeg kn sr p1).1.map V.int).length).map agC).map V.int));have a7:(upd H' D (.lst ((((wbeg kn sr p1).1.take ((wbeg kn sr p1).1.map V.int).length).map agC).map V.int))) D=some (.lst (((wbeg kn sr p1).1.map agC).map V.int)):=by rw[qa,uB,take_length]
   exact⟨t1,D,_,_,Z,R1.mono g2,a7,by rw[uB];exact sm.1,λt H3 g3 R3=>q _ _ ((g1.trans g2).trans g3) R3⟩
 ·obtain⟨s0,p1,rfl⟩:=Nu e
  obtain⟨x2,hs,h2⟩:=g3i hp;exact⟨hs.sq,Ac (j:=2) rfl,x2,p1,sr,kl,kn,Z,h2,hS,le_of_succ_le_succ hh,a5,ok.2,λt1 H1 g1 R1=>q _ _ g1 R1⟩
 ·obtain⟨s0,p1,rfl⟩:=Oy e
  obtain⟨x2,hs,h2⟩:=g3i hp;exact⟨hs.sq,Ac (j:=2) rfl,x2,p1,sr,kl,kn,Z,h2,hS,le_of_succ_le_succ hh,a5,ok.2,λt1 H1 g1 R1=>q _ _ g1 R1⟩
 ·obtain⟨p1,rfl⟩:=Qq e
  obtain⟨x1,hs,h1⟩:=g2 hp;refine⟨hs.sq,Ac (j:=1) rfl,x1,p1,sr,kl,kn,Z,h1,hS,le_of_succ_le_succ hh,a5,ok,λt1 H1 g1 R1=>?_⟩;obtain⟨l1,l2,l3,a1,a2,a3,a4⟩:=id R1;have sm:=Ha (kn:=kn) (p:=p1) ok a5 sr;refine⟨SqT.of a1,Ac (j:=0) rfl,l1,Z,⟨_,SqL.of a2⟩,Cn (K:=K) (xs:=(wbeg kn sr p1).1.map V.int) (λi ys H'=>H'=H1/\ys=(((wbeg kn sr p1).1.take i).map Ch).map V.int) ⟨Z,Z⟩ (by rw[uB];exact Co (Tf sm.1 (by decide))) (λi ys H' ⟨e,_⟩=>by rw[e];exact SqL.of a2) ?_ ?_⟩
  ·rintro j z ys H' N hj ⟨rfl,rfl⟩ hN a6
   rw[uH]at hj;cases ej:(wbeg kn sr p1).1[j]? with
   |none=>rw[ej]at hj;cases hj
   |some c=>
    rw[ej]at hj;cases hj
    refine⟨c,Z,hN _ _ ?_ ⟨Z,?_⟩⟩
    ·exact Nn a6
    ·rw[take_add_one,ej,uN,uN];rfl
  ·rintro ys H' a6 ⟨rfl,rfl⟩ D hD
   have g2:=Ae hD (.lst ((((wbeg kn sr p1).1.take ((wbeg kn sr p1).1.map V.int).length).map Ch).map V.int));have a7:(upd H' D (.lst ((((wbeg kn sr p1).1.take ((wbeg kn sr p1).1.map V.int).length).map Ch).map V.int))) D=some (.lst (((wbeg kn sr p1).1.map Ch).map V.int)):=by rw[qa,uB,take_length]
   exact⟨t1,D,_,_,Z,R1.mono g2,a7,by rw[uB];exact sm.1,λt H3 g3 R3=>q _ _ ((g1.trans g2).trans g3) R3⟩
 ·have lf:=Y2 n1 n2 n3 n4 n5 n6 n7
  exact⟨_,p,sr,Z,hp,lf,λt1 H1 g1 R1=>q _ _ g1 (by rw[Aau lf kn [] sr];exact R1)⟩
theorem AbZ(F:Ea K mg "begun_walking" "begun" ["part","sure","known"] Cy)(T:Db K mg aN aP aR uE uR uL)(C1:Ai P w K mg base 2 "begun_leaf_walking" ["part","sure"] (Qn K))(C2:Ai P w K mg base 1 "in_turn_walking" ["first","second"] Qs)(z:Ai P w K mg base 1 "side_by_side_walking" ["first","second"] Qu)(C4:Ai P w K mg base 1 "one_of" ["first","second"] Uh)(C5:Ai P w K mg base 1 "recoded" ["inner","codes"] Tv)
  (C6:Ai P w K mg base 1 "code_of_again" ["code"] L4) (C7:Ai P w K mg base 1 "code_of_trap" ["code"] Ks):∀n,Ai P w K mg base (n+2) "begun_walking" ["part","sure","known"] (Vr K n)
 |0=>(F.zero (sp:=Vr K 0) λvs H Q E h=>by obtain⟨v,p,sr,kl,kn,_,_,_,hh,_⟩:=h;exact absurd hh (not_le_of_gt (Pt.hg_pos p))).mono (by decide)
 |n+1=>Afv F T C1 C2 z C4 C5 C6 C7 (AbZ F T C1 C2 z C4 C5 C6 C7 n)
theorem Acs(F:Ax K mg "walked" ["part","state","sure","known"] Mg)(T:Db K mg aN aP aR uE uR uL)(bC:Ai P w K mg base (n+3) "part_to_begin" ["part","state"] (Zz K n))(aB:Ai P w K mg base (n+2) "begun_walking" ["part","sure","known"] (Vr K n)) :
  Ai P w K mg base (n+4) "walked" ["part","state","sure","known"] (Xk K n):=by
 refine F.ok Sa (λvs H Q E h=>?_) (λf cdv A outer s H vs Q E hr h=>?_)
 ·obtain⟨v,p,sv,st,sr,kl,kn,rfl,_⟩:=h;rfl
 obtain⟨v,p,sv,st,sr,kl,kn,rfl,hp,a8,hS,hb,k1,k2,ok,q⟩:=h
 refine⟨_,(Ad (Ar (i:=4) Sa.nd rfl (Or.inl rfl) (Am aB hr rfl Al (Aa (Am bC hr rfl Al (Aa (pv 0) (Aa (pv 1) Ab))) (Aa (pv 2) (Aa (pv 3) Ab)))))
  (Ah (Ao (Ay (Aa (Aj Ag (pv 4) Af (λ_ _=>rfl)) (Aa (Aj Ag (pv 4) Af (λ_ _=>rfl)) (Aa (Gd rfl rfl T.n_sorted rfl T.n_set (Aj Ag (pv 4) Af (λ_ _=>rfl))) (Aa (Gd rfl rfl T.n_sorted rfl T.n_set (Aj Ag (pv 4) Af (λ_ _=>rfl))) Ab)))))))),?_⟩
 refine⟨v,p,sv,st,Z,hp,a8,hb,λv1 H1 g1 P1=>?_⟩;refine⟨v1,pb p st,sr,kl,kn,Z,P1,g1.seq hS,k1,lt9 k2,P5 ok st,λt H2 g2 ⟨l1,l2,l3,a1,a2,a3,a4⟩=>?_⟩;have wl:=Ou kn (pb p st) sr;refine⟨SqT.of a1,Ac (j:=0) rfl,SqT.of a1,Ac (j:=1) rfl,SqT.of a1,Ac (j:=2) rfl,l2,_,Z,SqL.of a3,vB wl.1 k2,λr1 a6=>?_⟩;have g3:=Ae a6 (.lst ((nub (wbeg kn sr (pb p st)).2.2.1).map V.int));refine⟨SqT.of (g3 _ _ a1),Ac (j:=3) rfl,l3,_,Z,SqL.of (g3 _ _ a4),vB wl.2 k2,λr2 a5=>?_⟩;have g4:=Ae a5 (.lst ((nub (wbeg kn sr (pb p st)).2.2.2).map V.int));refine⟨zN4,λt2 a7=>?_⟩;have g5:=Ae a7 (.tup [.ref l1,.bl (wbeg kn sr (pb p st)).2.1,.ref r1,.ref r2]);have gA:=(g1.trans g2).trans (g3.trans (g4.trans g5));have c1:=g5 _ _ (g4 _ _ (g3 _ _ a2));have c2:=g5 _ _ (g4 _ _ (qa (H:=H2) (a:=r1) (o:=.lst ((nub (wbeg kn sr (pb p st)).2.2.1).map V.int))));have c3:=g5 _ _ (qa (H:=(upd H2 r1 (.lst ((nub (wbeg kn sr (pb p st)).2.2.1).map V.int)))) (a:=r2) (o:=.lst ((nub (wbeg kn sr (pb p st)).2.2.2).map V.int)));have ne:=(Jg kn (P5 ok st) sr).ne;have f1:=(g1.trans g2).free a6;have f2:=((g1.trans g2).trans g3).free a5;have f3:=((g1.trans g2).trans (g3.trans g4)).free a7;refine q _ _ gA ⟨l1,r1,r2,qa,c1,c2,c3⟩ λa xs ha=>⟨l1,r1,r2,qa,c1,c2,c3,(ne_of_none ha f3).symm,λe=>?_,(ne_of_none ha f1).symm,(ne_of_none ha f2).symm⟩
 subst e;have z:=gA _ _ ha;rw[c1]at z;have z:=HO.lst.inj (Option.some.inj z);generalize (wbeg kn sr (pb p st)).1=cs at z ne;cases cs with
 |nil=>exact absurd ne (by simp)
 |cons c cs=>
  cases xs with
  |nil=>cases z
  |cons y ys=>cases z
end
def okE:Pt->Prop
 |.exit d=>0<=d
 |.stay _=>False
 |.iff _ p q=>okE p/\okE q
 |.thn p q=>okE p/\okE q
 |.bes p q=>okE p/\okE q
 |.again _ p=>okE p
 |.hold _ p=>okE p
 |.watch _ p=>okE p
 |.trap p=>okE p
 |_=>True
theorem Ll(st:List Int)(p:Pt):(rem st p).1=[]->(rem st p).2=p:=by
 induction p with
 |nothing=>intro _;rfl
 |send s=>intro _;rfl
 |exit d=>intro _;rfl
 |stay ks=>intro _;rfl
 |rest k=>
  simp only[rem];split
  ·intro h;cases h
  ·intro _;rfl
 |iff s p q a1 a2=>
  intro h;have h':=h;obtain⟨a,b⟩:=List.append_eq_nil_iff.mp h';show lp (.iff s p q) (rem st p) (rem st q)=_;unfold lp;dsimp only;rw[if_neg (λz=>z a),if_neg (λz=>z b)]
 |thn p q a1 a2=>
  intro h;have h':=h;obtain⟨a,b⟩:=List.append_eq_nil_iff.mp h';show lp (.thn p q) (rem st p) (rem st q)=_;unfold lp;dsimp only;rw[if_pos b,a1 a]
 |bes p q a1 a2=>
  intro h;have h':=h;obtain⟨a,b⟩:=List.append_eq_nil_iff.mp h';show lp (.bes p q) (rem st p) (rem st q)=_;unfold lp;dsimp only;rw[if_neg (λz=>z.1 a),if_neg (λz=>z a),if_neg (λz=>z b)]
 |again k p ih=>
  simp only[rem];split
  ·intro h;cases h
  ·intro h;unfold lr;rw[if_pos h]
 |hold s p ih=>intro h;show lr (.hold s p) (rem st p)=_;unfold lr;rw[if_pos (show(rem st p).1=[] from h)]
 |watch s p ih=>intro h;show lr (.watch s p) (rem st p)=_;unfold lr;rw[if_pos (show(rem st p).1=[] from h)]
 |trap p ih=>intro h;show lr (.trap p) (rem st p)=_;unfold lr;rw[if_pos (show(rem st p).1=[] from h)]
theorem Z7{f:Pt->Prop}{a:List Int×Pt}(h0:f p)(ha:f a.2)(z:f b.2)(ht:∀q r,p=.thn q r->f (.thn a.2 r))(hs:∀q r,p=.bes q r->f (.bes a.2 b.2)):f (lp p a b):=by
 unfold lp;split
 ·split
  ·exact ht _ _ rfl
  ·exact z
 ·split
  ·exact hs _ _ rfl
  ·split
   ·exact ha
   ·split
    ·exact z
    ·exact h0
 ·split
  ·exact ha
  ·split
   ·exact z
   ·exact h0
theorem Kk(g:Same H H'){st:Option (List Int)}(h:Kc K H st v):Kc K H' st v:=by
 cases st with
 |none=>exact h
 |some l=>
  obtain⟨a,e,z⟩:=h;exact⟨a,e,g.seq z⟩
theorem Aa9{st:Option (List Int)}(h1:p.sc<64)(h2:p.rc<64):Lf (Ti p st th):=by
 have k2:(pb p st).sc<=p.sc:=by cases st with|none=>exact uZ _|some l=>exact To l p
 have z:(pb p st).lc<=p.rc:=by cases st with|none=>exact Pt.lc_rc p|some l=>exact AbQ l p
 obtain⟨c1,c2⟩:=N7 th (pb p st);have n1:=Qo (beg th (pb p st)).2.1;have n2:=(L5 (beg th (pb p st)).2.2).length_eq;exact⟨by show(nub (beg th (pb p st)).2.1).length<=900;omega,by show(Lw (beg th (pb p st)).2.2).length<=900;omega⟩
inductive Yl(K:FA)(vs:List V)(H:Hp)(Q:VK):Prop
 |mk(a:Addr)(ns:List Int)(_:vs=[.ref a])(_:SqL K H a (ns.map V.int))(_:ns.length<=63)(_:∀H',Q (.bl true) H')
def S5(K:FA):Sp:=λvs H Q _=>Yl K vs H Q
theorem Rb(c:Int):nub [c]=[c]:=(AbI (pairwise_singleton _ _) λk=>Iff.rfl).symm
theorem Aaq(a b:Int):a<=mx a b:=by
 unfold mx;split
 ·next c=>exact Int.le_of_lt c
 ·exact Int.le_refl _
theorem Aah(a b:Int):b<=mx a b:=by
 unfold mx;split
 ·exact Int.le_refl _
 ·next c=>exact Int.not_lt.mp c
theorem AdB(a b:Int):mx a b=a\/mx a b=b:=by
 unfold mx;split
 ·exact .inr rfl
 ·exact .inl rfl
theorem AcL(a b:Int):(nub ([a]++[b])).filter (λc=>decide (mx (Bk [a]) (Bk [b])<=c))=[mx a b]:=by
 refine Ox ((G3 _).filter _) (pairwise_singleton _ _) λk=>?_
 show _∈filter (λc=>decide (mx a b<=c)) _↔_
 rw[mem_filter,Bc,vD];simp only[uW,vD,decide_eq_true_eq];constructor
 ·rintro⟨rfl|rfl,h⟩
  ·exact Int.le_antisymm (Aaq _ _) h
  ·exact Int.le_antisymm (Aah _ _) h
 ·rintro rfl
  exact⟨AdB a b,Int.le_refl _⟩
structure Gw(d:Wk):Prop where
 r1:d.1.Pairwise (· < ·)
 r2:d.2.2.1.Pairwise (· < ·)
 r3:d.2.2.2.Pairwise (· < ·)
 n1:∀x∈d.1,0<=x
 n2:∀x∈d.2.2.1,0<=x
 n3:∀x∈d.2.2.2,0<=x
 l1:d.1.length<64
 l2:d.2.2.1.length<64
 l3:d.2.2.2.length<64
theorem Ld(kn:List (Option Bool))(p:Pt):(wbeg kn false p).2.1=false/\(wbeg kn false p).2.2.1=[]:=by
 induction p with
 |thn p q z a1=>
  simp only[wbeg];split
  ·simp only[Iq]
   rw[z.1,z.2,a1.2];exact⟨a1.1,Z⟩
  ·exact z
 |bes p q z a1=>
  simp only[wbeg,Gb];rw[z.1,z.2,a1.2];exact⟨Z,Z⟩
 |iff x p q z a1=>
  simp only[wbeg];split
  ·exact⟨Z,Z⟩
  ·exact z
  ·exact a1
 |again k p ih=>exact ih
 |hold x p ih=>exact ih
 |watch x p ih=>exact ih
 |trap p ih=>exact ih
 |_=>exact⟨rfl,rfl⟩
theorem No(h:(wbeg kn s p).2.1=true):s=true:=by
 cases s with
 |true=>rfl
 |false=>rw[(Ld kn p).1]at h;cases h
theorem Ux(kn:List (Option Bool))(h:okW sg p):∀s,(wbeg kn s p).2.1=true->∃c,(wbeg kn s p).1=[c]:=by
 induction p with
 |thn p q a1 a2=>
  intro s;simp only[wbeg];split
  ·next c=>
   simp only[Iq];intro z;have z1:=No z;obtain⟨c1,e1⟩:=a1 h.1 s z1;obtain⟨c2,e2⟩:=a2 h.2 _ z;rw[e1]at c ⊢;rw[e2];have:c1=0:=(mS c).symm;subst this;exact⟨c2,by rw[show [(0:Int)].filter (λc=>!decide (c=0))=[] from rfl];exact Rb _⟩
  ·exact a1 h.1 s
 |bes p q a1 a2=>
  intro s z;simp only[wbeg,Gb,Bool.and_eq_true]at z ⊢;obtain⟨c1,e1⟩:=a1 h.1 s z.1;obtain⟨c2,e2⟩:=a2 h.2 s z.2;rw[e1,e2];exact⟨_,AcL c1 c2⟩
 |iff x p q a1 a2=>
  intro s;simp only[wbeg];split
  ·intro z;cases z
  ·exact a1 h.2.1 s
  ·exact a2 h.2.2 s
 |again k p ih=>
  intro s z;obtain⟨c,e⟩:=ih h s z;exact⟨agC c,by simp only[wbeg,Mx];rw[e];exact Rb _⟩
 |hold x p ih=>intro s z;exact ih h.2 s z
 |watch x p ih=>intro s z;exact ih h.2 s z
 |trap p ih=>
  intro s z;obtain⟨c,e⟩:=ih h s z;exact⟨Ch c,by simp only[wbeg,Mx];rw[e];exact Rb _⟩
 |_=>intro s z;exact⟨_,rfl⟩
structure LeW(a b:Wk):Prop where
 cd:∀c∈b.1,c∈a.1
 su:a.2.1=true->b.2.1=true
 mu:∀x∈a.2.2.1,x∈b.2.2.1
 ca:∀x∈b.2.2.2,x∈a.2.2.2
def leK(kn kn':List (Option Bool)):Prop:=∀(i:Nat)(b:Bool),(kn[i]?).getD none=some b->(kn'[i]?).getD none=some b
theorem Ro{a:List Int}(z:0<b.length)(h:∀c∈b,c∈a):Bk a<=Bk b:=by
 have h1:=(Fb z).1;exact(Fb (length_pos_of_mem (h _ h1))).2 _ (h _ h1)
theorem AeB(hk:leK kn a3)(h:okW sg p):∀s s',(s=true->s'=true)->LeW (wbeg kn s p) (wbeg a3 s' p):=by
 induction p with
 |thn p q a5 a4=>
  intro s s' hs;have a1:=a5 h.1 s s' hs;have a2:=a4 h.2 _ _ a1.su;simp only[wbeg]
  by_cases c':0∈(wbeg a3 s' p).1
  ·have c:=a1.cd 0 c'
   rw[if_pos c,if_pos c'];refine⟨λx hx=>?_,a2.su,λx hx=>?_,λx hx=>?_⟩
   ·have hx:=Bc.mp hx
    refine Bc.mpr (uW.mpr ((uW.mp hx).elim (λz=>.inl ?_) λz=>.inr (a2.cd x z)));have:=mem_filter.mp z;exact mem_filter.mpr ⟨a1.cd x this.1,this.2⟩
   ·exact uW.mpr ((uW.mp hx).elim (λz=>.inl (a1.mu x z)) λz=>.inr (a2.mu x z))
   ·exact uW.mpr ((uW.mp hx).elim (λz=>.inl (a1.ca x z)) λz=>.inr (a2.ca x z))
  ·rw[if_neg c']
   by_cases c:0∈(wbeg kn s p).1
   ·rw[if_pos c]
    have ns:(wbeg kn s p).2.1=false:=by
     cases e:(wbeg kn s p).2.1 with
     |false=>rfl
     |true=>
      obtain⟨c1,e1⟩:=Ux kn h.1 s e;rw[e1]at c;have:c1=0:=(mS c).symm;subst this;obtain⟨m1,_⟩:=Fb (Jg a3 h.1 s').ne;have:=a1.cd _ m1;rw[e1]at this;rw[mS this]at m1;exact absurd m1 c'
    have o:=Ld kn q;rw[ns];refine⟨λx hx=>Bc.mpr (uW.mpr (.inl (mem_filter.mpr ⟨a1.cd x hx,?_⟩))),λz=>?_,λx hx=>?_,λx hx=>uW.mpr (.inl (a1.ca x hx))⟩
    ·have:¬x=0:=λz=>c' (z▸hx)
     simp[this]
    ·have z:(wbeg kn false q).2.1=true:=z
     rw[o.1]at z;cases z
    ·refine(uW.mp hx).elim (λz=>a1.mu x z) λz=>?_
     rw[o.2]at z;cases z
   ·rw[if_neg c]
    exact a1
 |bes p q a5 a4=>
  intro s s' hs;have a1:=a5 h.1 s s' hs;have a2:=a4 h.2 s s' hs;have k1:=Ro (Jg a3 h.1 s').ne a1.cd;have k2:=Ro (Jg a3 h.2 s').ne a2.cd;simp only[wbeg];refine⟨λx hx=>?_,λz=>?_,λx hx=>?_,λx hx=>?_⟩
  ·obtain⟨h1,h2⟩:=mem_filter.mp hx
   refine mem_filter.mpr ⟨Bc.mpr (uW.mpr ((uW.mp (Bc.mp h1)).elim (λz=>.inl (a1.cd x z)) λz=>.inr (a2.cd x z))),?_⟩;have h2:mx (Bk (wbeg a3 s' p).1) (Bk (wbeg a3 s' q).1)<=x:=uK h2;refine uI ?_;unfold mx at h2 ⊢;split at h2<;>split<;>omega
  ·simp only[Gb,Bool.and_eq_true]at z ⊢
   exact⟨a1.su z.1,a2.su z.2⟩
  ·exact uW.mpr ((uW.mp hx).elim (λz=>.inl (a1.mu x z)) λz=>.inr (a2.mu x z))
  ·exact uW.mpr ((uW.mp hx).elim (λz=>.inl (a1.ca x z)) λz=>.inr (a2.ca x z))
 |iff y p q a5 a4=>
  intro s s' hs;rw[Pa rfl,Pa rfl];cases e:(kn[y.toNat]?).getD none with
  |some b=>
   rw[hk _ _ e];cases b with
   |true=>exact a5 h.2.1 s s' hs
   |false=>exact a4 h.2.2 s s' hs
  |none=>
   have f:false=true->s'=true:=λz=>nomatch z
   cases e':(a3[y.toNat]?).getD none with
   |some b=>
    cases b with
    |true=>
     have a:=a5 h.2.1 false s' f;exact⟨λc hc=>Bc.mpr (uW.mpr (.inl (a.cd c hc))),(λz=>nomatch z),(λx hx=>by cases hx),λx hx=>uW.mpr (.inl (a.ca x hx))⟩
    |false=>
     have a:=a4 h.2.2 false s' f;exact⟨λc hc=>Bc.mpr (uW.mpr (.inr (a.cd c hc))),(λz=>nomatch z),(λx hx=>by cases hx),λx hx=>uW.mpr (.inr (a.ca x hx))⟩
   |none=>
    have a1:=a5 h.2.1 false false (λz=>z);have a2:=a4 h.2.2 false false (λz=>z)
    exact⟨λc hc=>Bc.mpr (uW.mpr ((uW.mp (Bc.mp hc)).elim (λz=>.inl (a1.cd c z)) λz=>.inr (a2.cd c z))),(λz=>nomatch z),(λx hx=>by cases hx),
     λx hx=>uW.mpr ((uW.mp hx).elim (λz=>.inl (a1.ca x z)) λz=>.inr (a2.ca x z))⟩
 |again k p ih=>
  intro s s' hs;have a:=ih h s s' hs;exact⟨λc hc=>by obtain⟨x,hx,e⟩:=vT.mp (Bc.mp hc);exact Bc.mpr (vT.mpr ⟨x,a.cd x hx,e⟩),a.su,a.mu,a.ca⟩
 |hold y p ih=>intro s s' hs;exact ih h.2 s s' hs
 |watch y p ih=>intro s s' hs;exact ih h.2 s s' hs
 |trap p ih=>
  intro s s' hs;have a:=ih h s s' hs;exact⟨λc hc=>by obtain⟨x,hx,e⟩:=vT.mp (Bc.mp hc);exact Bc.mpr (vT.mpr ⟨x,a.cd x hx,e⟩),a.su,a.mu,a.ca⟩
 |send y=>
  intro s s' hs;refine⟨λc hc=>hc,hs,λx hx=>?_,λx hx=>hx⟩;cases s with
  |false=>cases hx
  |true=>rw[hs rfl];exact hx
 |nothing=>intro s s' hs;exact⟨λc hc=>hc,hs,λx hx=>hx,λx hx=>hx⟩
 |exit d=>intro s s' hs;exact⟨λc hc=>hc,hs,λx hx=>hx,λx hx=>hx⟩
 |rest d=>intro s s' hs;exact⟨λc hc=>hc,hs,λx hx=>hx,λx hx=>hx⟩
 |stay d=>intro s s' hs;exact⟨λc hc=>hc,hs,λx hx=>hx,λx hx=>hx⟩
theorem Ac4(hk:leK kn z)(h:okW sg p)(st:Option (List Int))(hs:s=true->s'=true):LeW (L8 kn s p st) (L8 z s' p st):=by
 have a:=AeB hk (P5 h st) s s' hs;exact⟨a.cd,a.su,λx hx=>Bc.mpr (a.mu x (Bc.mp hx)),λx hx=>Bc.mpr (a.ca x (Bc.mp hx))⟩
theorem Uc(kn:List (Option Bool))(p:Pt):∀s,∀x∈(wbeg kn s p).2.2.1,x∈(wbeg kn s p).2.2.2:=by
 induction p with
 |thn p q a1 a2=>
  intro s;simp only[wbeg];split
  ·intro x hx
   exact uW.mpr ((uW.mp hx).elim (λz=>.inl (a1 s x z)) λz=>.inr (a2 _ x z))
  ·exact a1 s
 |bes p q a1 a2=>
  intro s x hx;exact uW.mpr ((uW.mp hx).elim (λz=>.inl (a1 s x z)) λz=>.inr (a2 s x z))
 |iff y p q a1 a2=>
  intro s;simp only[wbeg];split
  ·intro x hx;cases hx
  ·exact a1 s
  ·exact a2 s
 |again k p ih=>intro s;exact ih s
 |hold y p ih=>intro s;exact ih s
 |watch y p ih=>intro s;exact ih s
 |trap p ih=>intro s;exact ih s
 |send y=>
  intro s x hx;cases s with
  |false=>cases hx
  |true=>exact hx
 |nothing=>intro s x hx;cases hx
 |exit d=>intro s x hx;cases hx
 |rest d=>intro s x hx;cases hx
 |stay d=>intro s x hx;cases hx
theorem AfO{kn:List (Option Bool)}{d:Nat}:∀(i:Nat)(x y:V),(kn.map vO)[i]?=some x->(kn.map vO)[i]?=some y->EqD K H d x y:=λi x y z hy=>by
 rw[z]at hy;cases hy
 rw[uH]at z;cases e:kn[i]? with
 |none=>rw[e]at z;cases z
 |some o=>
  rw[e]at z;cases z
  cases o with
  |none=>exact .flat rfl rfl rfl
  |some b=>exact .flat rfl rfl (by cases b<;>rfl)
def N3(p:Pt)(st:Option (List Int))(th:List Int):Dd:=
 match st with
 |none=>Ti p none th
 |some l=>if (rem l p).1=[] then(0,[],[]) else Ti p (some l) th
def DdF(H H':Hp)(t:Addr)(d:Dd):Prop:=∃l1 l2,H' t=some (.tup [.int d.1,.ref l1,.ref l2])/\H' l1=some (.lst (d.2.1.map V.int))/\H' l2=some (.lst (d.2.2.map V.int))/\H l1=none/\H l2=none
inductive Tq(K:FA)(n:Nat)(vs:List V)(H:Hp)(Q:VK):Prop
 |mk(v)(p)(th)(ns)(_:vs=[v,.non,.ref th])(_:PAt K H (Pt.nd p) v)(_:SqL K H th ((ns:List Int).map V.int))(_:p.hg<=n)(_:p.sc<64)(_:p.lc<64)(_:∀t H',Same H H'->DdF H H' t ((beg ns p).1,nub (beg ns p).2.1,Lw (beg ns p).2.2)->Q (.ref t) H')
def Abi(K:FA)(n:Nat):Sp:=λvs H Q _=>Tq K n vs H Q
def Jq(p:Pt):Option (List Int)->Prop
 |none=>False
 |some l=>(rem l p).1=[]
inductive Yx(K:FA)(n:Nat)(vs:List V)(H:Hp)(Q:VK):Prop
 |mk(pr)(x0)(x1)(x2)(v)(p)(sv)(st:_)(_:vs=[.ref pr,sv])(_:SqT K H pr [x0,x1,x2,v])(_:PAt K H (Pt.nd p) v)(_:Kc K H st sv)(_:p.hg<=n)(_:p.rc<=900)(_:∀v' H',Same H H'->(Jq p st/\v'=.non\/¬Jq p st/\PAt K H' (pb p st).nd v')->Q v' H')
def AaB(K:FA)(n:Nat):Sp:=λvs H Q _=>Yx K n vs H Q
inductive Tj(K:FA)(n:Nat)(vs:List V)(H:Hp)(Q:VK):Prop
 |mk(pr)(x0)(x1)(x2)(v)(p)(sv)(st:_)(th)(ns)(_:vs=[.ref pr,sv,.ref th])(_:SqT K H pr [x0,x1,x2,v])(_:PAt K H (Pt.nd p) v)(_:Kc K H st sv)(_:SqL K H th ((ns:List Int).map V.int))(_:p.hg<=n)(_:p.sc<64)(_:p.rc<64)(_:∀t H',Same H H'->DdF H H' t (N3 p st ns)->Q (.ref t) H')
def AbA(K:FA)(n:Nat):Sp:=λvs H Q _=>Tj K n vs H Q
theorem G9{st:Option (List Int)} :(Jq p st->N3 p st th=(0,[],[]))/\(¬Jq p st->N3 p st th=Ti p st th):=by
 cases st with
 |none=>exact⟨λz=>z.elim,λ_=>rfl⟩
 |some l=>exact⟨λz=>if_pos z,λz=>if_neg z⟩
section
variable{aN aP aR:Addr}{uE uR uL:Value}
theorem Ada(C:Ai P w K mg base (n+4) "ran" ["part","state","there"] (AaY K n)):Ai P w K mg base (n+4) "ran" ["part","state","there"] (Abi K n):=C.imp λvs H Q E h=>by
 obtain⟨v,p,th,ns,rfl,hp,hS,hh,z,a4,q⟩:=h;refine⟨v,p,.non,none,th,ns,Z,hp,Z,hS,.inl rfl,hh,z,a4,λt H' g R=>q t H' g ?_⟩;obtain⟨l1,l2,a1,a2,a3,f1,f2,_⟩:=R;exact⟨l1,l2,a1,a2,a3,f1,f2⟩
theorem AfJ(F:Ax K mg "body_to_begin" ["program","state"] Fu)(T:Db K mg aN aP aR uE uR uL)(aV:Ai P w K mg base (n+2) "remaining" ["part","state"] (N8 K n)) :
  Ai P w K mg base (n+3) "body_to_begin" ["program","state"] (AaB K n):=by
 refine F.ok Kg (λvs H Q E h=>?_) (λf cdv A outer s H vs Q E hr h=>?_)
 ·obtain⟨pr,x0,x1,x2,v,p,sv,st,rfl,_⟩:=h;rfl
 obtain⟨pr,x0,x1,x2,v,p,sv,st,rfl,a4,hp,hS,hh,hc,q⟩:=h
 refine⟨_,(Ad (A9 (An Lk (pv 1) B5 (Aq _))
   (Ah (Ao (Aj Ag (pv 0) Af (λ_ _=>rfl))))
   A0)
  (Ad (Ar (i:=2) Kg.nd rfl (Or.inl rfl) (Am aV hr rfl Al (Aa (Aj Ag (pv 0) Af (λ_ _=>rfl)) (Aa (pv 1) Ab))))
  (Ah (Ao (Br (Ex (Aj Ag (pv 2) Af (λ_ _=>rfl)) (λ_=>rfl)) (Aj Ag (pv 2) Af (λ_ _=>rfl)) B5))))),?_⟩
 cases st with
 |none=>
  have e:=hS;subst e;exact⟨Z,C8 ⟨a4,Ac (j:=3) rfl,q _ _ (Same.refl _) (.inr ⟨λz=>z,hp⟩)⟩⟩
 |some ns=>
  obtain⟨a,rfl,hS⟩:=hS;refine⟨Z,Ez ⟨a4,Ac (j:=3) rfl,v,p,a,ns,Z,hp,hS,hh,hc,λt H1 g1 ⟨l,v1,a1,a2,a3⟩=>?_⟩⟩;refine⟨SqT.of a1,Ac (j:=0) rfl,_,.inl ⟨_,SqL.of a2,Z⟩,Lq (λc=>?_) λc=>?_⟩
  ·exact⟨SqT.of a1,Ac (j:=1) rfl,q _ _ g1 (.inr ⟨c,a3⟩)⟩
  ·exact q _ _ g1 (.inl ⟨c,Z⟩)
theorem Adt(F:Ax K mg "instant" ["program","state","there"] Kt)(T:Db K mg aN aP aR uE uR uL)(bD:Ai P w K mg base (n+3) "body_to_begin" ["program","state"] (AaB K n))(iZ:Ai P w K mg base (n+4) "ran" ["part","state","there"] (Abi K n)) :
  Ai P w K mg base (n+5) "instant" ["program","state","there"] (AbA K n):=by
 refine F.ok Pm (λvs H Q E h=>?_) (λf cdv A outer s H vs Q E hr h=>?_)
 ·obtain⟨pr,x0,x1,x2,v,p,sv,st,th,ns,rfl,_⟩:=h;rfl
 obtain⟨pr,x0,x1,x2,v,p,sv,st,th,ns,rfl,a8,hp,a6,hS,hh,a9,b1,q⟩:=h
 refine⟨_,(Ad (Ar (i:=3) Pm.nd rfl (Or.inl rfl) (Am bD hr rfl Al (Aa (pv 0) (Aa (pv 1) Ab))))
  (Ad (A9 (An Lk (pv 3) B5 (Aq _))
   (Ah (Ao (Ay (Aa (Bl rfl T.m_ENDED T.r_ENDED) (Aa (Av Ab) (Aa (Av Ab) Ab))))))
   A0)
  (Ah (Ao (Am iZ hr rfl Al (Aa (pv 3) (Aa B5 (Aa (pv 2) Ab)))))))),?_⟩
 refine⟨pr,x0,x1,x2,v,p,sv,st,Z,a8,hp,a6,hh,by omega,λv1 H1 z hv=>?_⟩;rcases hv with⟨ov,rfl⟩|⟨ov,P1⟩
 ·refine⟨Z,C8 ⟨zN0,λy1 a4=>⟨zN0,λy2 a5=>⟨zN3,λy3 a7=>?_⟩⟩⟩⟩
  obtain⟨kx,n1,n2,n3⟩:=Aex (a:=.lst []) (b:=.lst []) (c:=.tup [.int 0,.ref y1,.ref y2]) a4 a5 a7;exact q _ _ (z.trans kx) (by rw[G9.1 ov];exact⟨y1,y2,n3,n1,n2,z.free a4,(z.trans (Ae a4 _)).free a5⟩)
 ·have k1:(pb p st).hg<=p.hg:=by cases st with|none=>exact uZ _|some l=>exact AbH l p
  have k2:(pb p st).sc<=p.sc:=by cases st with|none=>exact uZ _|some l=>exact To l p
  have k3:(pb p st).lc<=p.rc:=by cases st with|none=>exact Pt.lc_rc p|some l=>exact AbQ l p
  obtain⟨a1,e1⟩:∃a,v1=.ref a:=by
   generalize pb p st=p' at P1;cases p'<;>(obtain⟨a,vs,e,_⟩:=PAt.get P1;exact⟨a,e⟩)
  subst e1;refine⟨Z,Ez ⟨.ref a1,pb p st,th,ns,Z,P1,z.seq hS,by omega,by omega,by omega,λt H2 g2 R2=>q _ _ (z.trans g2) ?_⟩⟩;rw[G9.2 ov];obtain⟨l1,l2,a1,a2,a3,f1,f2⟩:=R2;exact⟨l1,l2,a1,a2,a3,z.free f1,z.free f2⟩
def mcB(kn:List (Option Bool)):Option Pt->List Int×List Int
 |none=>([],[])
 |some b=>((L8 kn true b none).2.2.1,(L8 kn true b none).2.2.2)
def okB(sg:Int):Option Pt->Prop
 |none=>True
 |some b=>okW sg b
theorem Aa3(hk:leK kn a1)(h:okB sg o):(∀x∈(mcB kn o).1,x∈(mcB a1 o).1)/\∀x∈(mcB a1 o).2,x∈(mcB kn o).2:=by
 cases o with
 |none=>exact⟨λx hx=>hx,λx hx=>hx⟩
 |some b=>
  have a:=Ac4 hk (p:=b) h none (s:=true) (s':=true) λz=>z
  exact⟨a.mu,a.ca⟩
def Fm(v:Option Bool)(kn:List (Option Bool)):List Int:=((List.range kn.length).filter (λi=>decide ((kn[i]?).getD none=v))).map λ(i:Nat)=>(i:Int)
theorem Aci{x:Int}:x∈Fm v kn↔(0<=x/\x<kn.length)/\(kn[x.toNat]?).getD none=v:=by
 unfold Fm;rw[vT];constructor
 ·rintro⟨i,hi,rfl⟩
  have:=mem_filter.mp hi;exact⟨⟨by omega,by have:=mem_range.mp this.1;omega⟩,by rw[Int.toNat_natCast];exact uK this.2⟩
 ·rintro⟨⟨h0,h1⟩,h2⟩
  exact⟨x.toNat,mem_filter.mpr ⟨mem_range.mpr (by omega),uI h2⟩,by omega⟩
def tak(kn:List (Option Bool))(mu ca:List Int):List Int:=(Fm none kn).filter (λs=>decide (s∈mu) || !decide (s∈ca))
theorem Ih{x:Int}:x∈tak kn mu ca↔((0<=x/\x<kn.length)/\(kn[x.toNat]?).getD none=none)/\(x∈mu\/¬x∈ca):=by
 unfold tak;rw[mem_filter,Aci];simp
def chg(kn:List (Option Bool))(mu ca:List Int):List (Int×Bool):=(tak kn mu ca).map λs=>(s,decide (s∈mu))
def behK(kn:List (Option Bool))(cs:List (Int×Bool)):List (Option Bool):=cs.foldl (λk c=>k.set c.1.toNat (some c.2)) kn
theorem Kf(cs:List (Int×Bool)):∀kn,(behK kn cs).length=kn.length:=by
 induction cs with
 |nil=>intro kn;rfl
 |cons c r z=>intro kn;show(behK (kn.set c.1.toNat (some c.2)) r).length=_;rw[z,vK]
theorem Th(f:Int->Bool)(i:Nat):∀(ss:List Int)(kn:List (Option Bool)),(∀s∈ss,0<=s/\s<kn.length)->(behK kn (ss.map λs=>(s,f s)))[i]?=if (i:Int)∈ss then some (some (f i)) else kn[i]?
 |[],kn,_=>by simp[behK]
 |s::r,kn,h=>by
  have hs:=h s uF;show(behK (kn.set s.toNat (some (f s))) (r.map λs=>(s,f s)))[i]?=_;rw[Th f i r _ (λx hx=>by rw[vK];exact h x (uG _ hx))]
  by_cases hr:(i:Int)∈r
  ·rw[if_pos hr,if_pos (uG _ hr)]
  ·rw[if_neg hr]
   by_cases e:(i:Int)=s
   ·subst e
    rw[if_pos uF,Int.toNat_natCast,vP (by omega)]
   ·rw[if_neg (λz=>(vJ.mp z).elim e hr),vN (by omega)]
theorem Ki(i:Nat):((behK kn (chg kn mu ca))[i]?).getD none=if (i:Int)∈tak kn mu ca then some (decide ((i:Int)∈mu)) else(kn[i]?).getD none:=by
 unfold chg;rw[Th (λs=>decide (s∈mu)) i _ kn (λs hs=>(Ih.mp hs).1.1)];split<;>rfl
theorem Acb:leK kn (behK kn (chg kn mu ca)):=by
 intro i b e;rw[Ki,if_neg]
 ·exact e
 ·intro z
  have:=(Ih.mp z).1.2;rw[Int.toNat_natCast,e]at this;cases this
structure SI(n:Nat)(co:List Int)(o:Option Pt)(kn:List (Option Bool)):Prop where
 len:kn.length=n
 i1:∀i:Nat,i<n->(i:Int)∈co->(kn[i]?).getD none=some true
 i2:∀i:Nat,(kn[i]?).getD none=some true->(i:Int)∈co\/(i:Int)∈(mcB kn o).1
 i3:∀i:Nat,(kn[i]?).getD none=some false->¬(i:Int)∈(mcB kn o).2
def stepK(o:Option Pt)(kn:List (Option Bool)):List (Int×Bool):=chg kn (mcB kn o).1 (mcB kn o).2
theorem SI.next(h:SI n co o kn)(ok:okB sg o):SI n co o (behK kn (stepK o kn)):=by
 have le:=Acb (kn:=kn) (mu:=(mcB kn o).1) (ca:=(mcB kn o).2);have ml:=Aa3 le ok;refine⟨by rw[Kf];exact h.len,λi hi hc=>le _ _ (h.i1 i hi hc),λi e=>?_,λi e=>?_⟩
 ·have e':=e
  unfold stepK at e';rw[Ki]at e';split at e'
  ·exact .inr (ml.1 _ (uK (Option.some.inj e')))
  ·exact(h.i2 i e').imp (λz=>z) λz=>ml.1 _ z
 ·have e':=e
  unfold stepK at e';rw[Ki]at e';split at e'
  ·next z=>
   have nm:=of_decide_eq_false (Option.some.inj e');have:=(Ih.mp z).2;exact λy=>(this.resolve_left nm) (ml.2 _ y)
  ·exact λy=>h.i3 i e' (ml.2 _ y)
def Bv(n:Nat)(co:List Int):List (Option Bool):=(List.range n).map λ(i:Nat)=>if (i:Int)∈co then some true else none
theorem Jt(n:Nat)(co:List Int)(i:Nat):((Bv n co)[i]?).getD none=if i<n/\(i:Int)∈co then some true else none:=by
 unfold Bv;rw[uH]
 by_cases h:i<n
 ·rw[getElem?_range h]
  by_cases c:(i:Int)∈co
  ·rw[if_pos ⟨h,c⟩];show(some (if (i:Int)∈co then some true else none)).getD none=_;rw[if_pos c];rfl
  ·rw[if_neg (λz=>c z.2)];show(some (if (i:Int)∈co then some true else none)).getD none=_;rw[if_neg c];rfl
 ·rw[if_neg (λz=>h z.1),getElem?_eq_none (by rw[vF];omega)];rfl
theorem SI.first(n:Nat)(co:List Int)(o:Option Pt):SI n co o (Bv n co):=by
 refine⟨by simp[Bv],λi hi hc=>?_,λi e=>?_,λi e=>?_⟩
 ·rw[Jt,if_pos ⟨hi,hc⟩]
 ·rw[Jt]at e
  split at e
  ·next z=>exact .inl z.2
  ·cases e
 ·rw[Jt]at e
  split at e<;>cases e
def rnds(o:Option Pt):Nat->List (Option Bool)->List (List (Int×Bool))
 |0,_=>[]
 |f+1,kn=>if stepK o kn=[] then [] else stepK o kn::rnds o f (behK kn (stepK o kn))
def Jo(o:Option Pt)(f:Nat)(kn:List (Option Bool)):List (Option Bool):=(rnds o f kn).foldl behK kn
theorem M8(o:Option Pt)(f:Nat)(kn:List (Option Bool)):Jo o (f+1) kn=if stepK o kn=[] then kn else Jo o f (behK kn (stepK o kn)):=by
 unfold Jo;simp only[rnds];split<;>rfl
theorem SI.set(ok:okB sg o):∀(f:Nat){kn:List (Option Bool)},SI n co o kn->SI n co o (Jo o f kn)
 |0,kn,h=>h
 |f+1,kn,h=>by
  rw[M8];split
  ·exact h
  ·exact SI.set ok f (h.next ok)
def Cu:List (Option Bool)->Nat
 |[]=>0
 |none::r=>Cu r+1
 |some _::r=>Cu r
theorem Ko:∀kn:List (Option Bool),Cu kn<=kn.length
 |[]=>uZ _
 |none::r=>by have:=Ko r;simp only[Cu,uV];omega
 |some _::r=>by have:=Ko r;simp only[Cu,uV];omega
theorem Kr(b:Bool):∀(kn:List (Option Bool))(i:Nat),Cu (kn.set i (some b))<=Cu kn/\(kn[i]?=some none->Cu (kn.set i (some b))<Cu kn)
 |[],i=>⟨uZ _,λz=>by simp at z⟩
 |none::r,0=>⟨by simp only[set_cons_zero,Cu];omega,λ_=>by simp only[set_cons_zero,Cu];omega⟩
 |some c::r,0=>⟨by simp only[set_cons_zero,Cu];omega,λz=>by simp at z⟩
 |none::r,i+1=>by
  have:=Kr b r i;refine⟨by simp only[set_cons_succ,Cu];omega,λz=>?_⟩;have:=this.2 (by simpa using z);simp only[set_cons_succ,Cu];omega
 |some c::r,i+1=>by
  have:=Kr b r i;refine⟨by simp only[set_cons_succ,Cu];omega,λz=>?_⟩;have:=this.2 (by simpa using z);simp only[set_cons_succ,Cu];omega
theorem Se:∀(cs:List (Int×Bool))(kn:List (Option Bool)),Cu (behK kn cs)<=Cu kn
 |[],kn=>uZ _
 |c::r,kn=>uY (Se r _) (Kr c.2 kn c.1.toNat).1
theorem Qe(h:¬stepK o kn=[]):Cu (behK kn (stepK o kn))<Cu kn:=by
 cases e:stepK o kn with
 |nil=>exact absurd e h
 |cons c r=>
  have hc:c∈stepK o kn:=by rw[e];exact uF
  obtain⟨s,hs,z⟩:=vT.mp hc;have m:=(Ih.mp hs).1;refine vB (Se r _) ((Kr c.2 kn c.1.toNat).2 ?_);subst z;show kn[s.toNat]?=some none;have hl:s.toNat<kn.length:=by have:=m.1;omega
  rw[uA hl];have:=m.2;rw[uA hl]at this;exact congrArg some this
def Du(p:Pt)(st:Option (List Int)):Option Pt:=
 match st with
 |none=>some p
 |some l=>if (rem l p).1=[] then none else some (rem l p).2
theorem Jx{st:Option (List Int)}:(Jq p st->Du p st=none)/\(¬Jq p st->Du p st=some (pb p st)):=by
 cases st with
 |none=>exact⟨λz=>z.elim,λ_=>rfl⟩
 |some l=>exact⟨λz=>if_pos z,λz=>if_neg z⟩
theorem Uu(h:okW sg p)(st:Option (List Int)):okB sg (Du p st):=by
 by_cases z:Jq p st
 ·rw[Jx.1 z];exact trivial
 ·rw[Jx.2 z];exact P5 h st
def chV(p:Addr×(Int×Bool)):V:=.ref p.1
def Hd(H:Hp)(a:Addr)(cs:List (Int×Bool)):Prop:=∃its:List (Addr×(Int×Bool)),H a=some (.lst (its.map chV))/\its.map Prod.snd=cs/\∀p∈its,H p.1=some (.tup [.int p.2.1,.bl p.2.2])
theorem Hd.mono(h:Hd H a cs)(g:Same H H'):Hd H' a cs:=by
 obtain⟨z,h1,h2,h3⟩:=h;exact⟨z,g _ _ h1,h2,λp hp=>g _ _ (h3 p hp)⟩
theorem Hd.off(h:Hd H a cs)(n:a≠r)(hr:H r=some (.lst xs)):Hd (upd H r (.lst ys)) a cs:=by
 obtain⟨a1,h1,h2,h3⟩:=h;refine⟨a1,by rw[upd_ne n];exact h1,h2,λp hp=>?_⟩;have:=h3 p hp;rw[upd_ne (λz=>by rw[z,hr]at this;cases this)];exact this
def rdV(p:Addr×List (Int×Bool)):V:=.ref p.1
def Agr(H:Hp)(a:Addr)(css:List (List (Int×Bool))):Prop:=∃its:List (Addr×List (Int×Bool)),H a=some (.lst (its.map rdV))/\its.map Prod.snd=css/\∀p∈its,Hd H p.1 p.2
structure Pb(K:FA)(H:Hp)(pr:Addr)(n:Nat)(p:Pt):Prop where
 pa:∃x0 x1 v,H pr=some (.tup [x0,x1,.int n,v])/\PAt K H (Pt.nd p) v
 hg:p.hg<=40
 sc:p.sc<=40
 rc:p.rc<=40
 ok:okW n p
 nb:n<=30
theorem Pb.mono(h:Pb K H pr n p)(g:Same H H'):Pb K H' pr n p:=by
 obtain⟨⟨x0,x1,v,e,a⟩,h1,h2,h3,h4,z⟩:=h;exact⟨⟨x0,x1,v,g _ _ e,a.mono g.tp⟩,h1,h2,h3,h4,z⟩
def OBd(K:FA)(H:Hp):Option Pt->V->Prop
 |none,v=>v=.non
 |some b,v=>PAt K H b.nd v/\b.hg<=40/\b.sc<64
theorem OBd.mono(h:OBd K H o v)(g:Same H H'):OBd K H' o v:=by
 cases o with
 |none=>exact h
 |some b=>exact⟨h.1.mono g.tp,h.2⟩
inductive Rm(K:FA)(n:Nat)(vs:List V)(H:Hp)(Q:VK):Prop
 |mk(v)(p)(s)(kl)(kn)(_:vs=[v,.non,.bl s,.ref kl])(_:PAt K H (Pt.nd p) v)(_:SqL K H kl ((kn:List (Option Bool)).map vO))(_:p.hg<=n)(_:p.sc<64)(_:okW kn.length p)(_:∀t H',Same H H'->Ew H' t (L8 kn s p none)->Q (.ref t) H')
def Yd(K:FA)(n:Nat):Sp:=λvs H Q _=>Rm K n vs H Q
inductive Sd(K:FA)(vs:List V)(H:Hp)(Q:VK):Prop
 |mk(pr)(co)(n:_)(p)(cs)(_:vs=[.ref pr,.ref co])(_:Pb K H pr n p)(_:SqL K H co ((cs:List Int).map V.int))(_:∀r H',Same H H'->H r=none->H' r=some (.lst ((Bv n cs).map vO))->Q (.ref r) H')
def Ra(K:FA):Sp:=λvs H Q _=>Sd K vs H Q
inductive Y1(K:FA)(vs:List V)(H:Hp)(Q:VK):Prop
 |mk(v)(kl)(kn)(_:vs=[vO v,.ref kl])(_:SqL K H kl ((kn:List (Option Bool)).map vO))(_:kn.length<=30)(_:∀r H',Same H H'->H r=none->H' r=some (.lst ((Fm v kn).map V.int))->Q (.ref r) H')
def Ac9(K:FA):Sp:=λvs H Q _=>Y1 K vs H Q
inductive Y6(K:FA)(vs:List V)(H:Hp)(Q:VK):Prop
 |mk(bv)(o)(kl)(kn)(_:vs=[bv,.ref kl])(_:OBd K H o bv)(_:SqL K H kl ((kn:List (Option Bool)).map vO))(_:kn.length<=30)(_:okB kn.length o)(_:∀r H',Same H H'->H r=none->Hd H' r (stepK o kn)->Q (.ref r) H')
def Ac8(K:FA):Sp:=λvs H Q _=>Y6 K vs H Q
inductive Xr(K:FA)(vs:List V)(H:Hp)(Q:VK):Prop
 |mk(kl)(c)(kn)(cs)(_:vs=[.ref kl,.ref c])(_:SqL K H kl ((kn:List (Option Bool)).map vO))(_:Hd H c cs)(_:(∀x∈cs,0<=x.1/\x.1<kn.length))(_:cs.length<=60)(_:kn.length<=30)(_:∀r H',Same H H'->H r=none->H' r=some (.lst ((behK kn cs).map vO))->Q (.ref r) H')
def Zt(K:FA):Sp:=λvs H Q _=>Xr K vs H Q
inductive Wx(K:FA)(vs:List V)(H:Hp)(Q:VK):Prop
 |mk(pr)(sv)(co)(n:_)(p)(st:_)(cs)(_:vs=[.ref pr,sv,.ref co])(_:Pb K H pr n p)(_:Kc K H st sv)(_:SqL K H co ((cs:List Int).map V.int))(_:∀r H',Same H H'->Agr H' r (rnds (Du p st) (n+1) (Bv n cs))->Q (.ref r) H')
def AdM(K:FA):Sp:=λvs H Q _=>Wx K vs H Q
inductive Yr(K:FA)(vs:List V)(H:Hp)(Q:VK):Prop
 |mk(pr)(sv)(co)(n:_)(p)(st:_)(cs)(_:vs=[.ref pr,sv,.ref co])(_:Pb K H pr n p)(_:Kc K H st sv)(_:SqL K H co ((cs:List Int).map V.int))(_:∀r H',Same H H'->H' r=some (.lst ((Jo (Du p st) (n+1) (Bv n cs)).map vO))->Q (.ref r) H')
def AdP(K:FA):Sp:=λvs H Q _=>Yr K vs H Q
theorem O0(v:Option Bool)(kn:List (Option Bool)):(Fm v kn).length<=kn.length:=by
 unfold Fm;rw[uB];exact uY (length_filter_le _ _) (by rw[vF];exact uZ _)
theorem Wf(o:Option Pt)(kn:List (Option Bool)):(∀x∈stepK o kn,0<=x.1/\x.1<kn.length)/\(stepK o kn).length<=kn.length:=by
 constructor
 ·intro x z
  obtain⟨s,hs,rfl⟩:=vT.mp z;exact(Ih.mp hs).1.1
 ·unfold stepK chg tak
  rw[uB];exact uY (length_filter_le _ _) (O0 _ _)
theorem Xg(o:Option Pt):∀(f:Nat)(kn:List (Option Bool)),∀cs∈rnds o f kn,(∀x∈cs,0<=x.1/\x.1<kn.length)/\cs.length<=kn.length
 |0,kn,cs,h=>by cases h
 |f+1,kn,cs,h=>by
  simp only[rnds]at h;split at h
  ·cases h
  ·rcases vJ.mp h with rfl|h
   ·exact Wf o kn
   ·have:=Xg o f _ cs h
    rw[Kf]at this;exact this
theorem Sn:∀(z:List (List (Int×Bool)))(kn:List (Option Bool)),(z.foldl behK kn).length=kn.length
 |[],kn=>rfl
 |c::r,kn=>by show(r.foldl behK (behK kn c)).length=_;rw[Sn r,Kf]
theorem Agb(a b:Option Bool):decide (vO a=vO b)=decide (a=b):=by
 cases a with
 |none=>cases b with
  |none=>rfl
  |some y=>rfl
 |some x=>cases b with
  |none=>rfl
  |some y=>cases x<;>cases y<;>rfl
theorem AdX(a b:Option Bool):Ach (vO a) (vO b)=true:=by cases a<;>cases b<;>rfl
theorem Abb(v:Option Bool)(kn:List (Option Bool))(j:Nat)(o:Option Bool)(h:kn[j]?=some o):((List.range (j+1)).filter (λi=>decide ((kn[i]?).getD none=v))).map (λ(i:Nat)=>(i:Int))=if decide (o=v)=true then((List.range j).filter (λi=>decide ((kn[i]?).getD none=v))).map (λ(i:Nat)=>(i:Int))++[(j:Int)] else((List.range j).filter (λi=>decide ((kn[i]?).getD none=v))).map (λ(i:Nat)=>(i:Int)):=by
 rw[range_succ,vM,uN]
 by_cases z:o=v
 ·rw[if_pos (uI z),filter_cons_of_pos (by rw[h];exact uI z)];rfl
 ·rw[if_neg (λy=>z (uK y)),filter_cons_of_neg (by rw[h];exact λy=>z (uK y))];simp
theorem Acg(C:Ai P w K mg base (n+4) "walked" ["part","state","sure","known"] (Xk K n)):Ai P w K mg base (n+4) "walked" ["part","state","sure","known"] (Yd K n):=C.imp λvs H Q E h=>by
 obtain⟨v,p,sr,kl,kn,rfl,hp,hS,hh,z,ok,q⟩:=h;exact⟨v,p,.non,none,sr,kl,kn,Z,hp,Z,hS,.inl rfl,hh,z,ok,λt H' g wk _=>q t H' g wk⟩
theorem Acw(F:Ax K mg "known_at_first" ["program","coming"] Ef)(T:Txt mg):Ai P w K mg base 1 "known_at_first" ["program","coming"] (Ra K):=by
 refine F.ok Oa (λvs H Q E h=>?_) (λf cdv A outer s H vs Q E hr h=>?_)
 ·obtain⟨pr,co,n,p,cs,rfl,_⟩:=h;rfl
 obtain⟨pr,co,n,p,cs,rfl,pg,hS,q⟩:=h;obtain⟨x0,x1,v,a1,_⟩:=pg.pa;have nb:=pg.nb;refine⟨_,(Ah (Ao (Dc (g:=(Bq 0)) (tc:=Dy) (te:=(tIf (Fo (tOp (rIn K false) (A5 0) (A5 1))) (tC (.bl true)) (tC .non))) ["sign"] [("coming",1)] rfl (Bz (Ak Ef) ["program","coming"] (by trivial)) (Fy rfl T.n_range (Aa (Aj Ag (pv 0) Af (λ_ _=>rfl)) Ab)) (λs2 H2 fp cl C=>Az (i:=0) (show Nodup [("sign": Str),("coming": Str)] from by trivial) rfl (Or.inl rfl)) (Bg (by decide)) (λs2 H2 fp cl C=>Ep) (λs2 H2 fp cl C=>(Br (An B3 (pv 0) (pv 1) (by rfl)) Dr B5))))),?_⟩;refine⟨SqT.of a1,Ac (j:=2) rfl,_,Z,by omega,by omega,?_⟩;dsimp only;rw[Int.toNat_natCast];refine F9 (n:=n) (λi ys H'=>H'=H/\ys=(Bv i cs).map vO) ⟨Z,Z⟩ (Co (by omega)) ?_ ?_
 ·rintro i ys H' N hi ⟨rfl,rfl⟩ hN z
  have es:Bv (i+1) cs=Bv i cs++[if (i:Int)∈cs then some true else none]:=by unfold Bv;rw[range_succ,uN];rfl
  refine⟨co,_,Z,.inl hS,Z,B9 _,Us (λc=>?_) λc=>?_⟩
  ·rw[Int.zero_add]at c
   exact hN _ _ (by rw[uC,uD];omega) ⟨Z,by rw[es,if_pos c,uN];rfl⟩
  ·rw[Int.zero_add]at c
   exact hN _ _ (by rw[uC,uD];omega) ⟨Z,by rw[es,if_neg c,uN];rfl⟩
 ·rintro ys H' z ⟨rfl,rfl⟩ D hD
  exact q D _ (Ae hD _) hD qa
theorem Ae6(F:Ax K mg "signs_that_are" ["value","known"] Eg)(T:Txt mg):Ai P w K mg base 1 "signs_that_are" ["value","known"] (Ac9 K):=by
 refine F.ok Ob (λvs H Q E h=>?_) (λf cdv A outer s H vs Q E hr h=>?_)
 ·obtain⟨v,kl,kn,rfl,_⟩:=h;rfl
 obtain⟨v,kl,kn,rfl,hS,ln,q⟩:=h;refine⟨_,(Ah (Ao (Dc (g:=(Abz K 2 (Pk (Bq 0) (Pk (Bq 1) Acl)))) (tc:=(Fo (tOp rEq (A5 1) (A5 2)))) (te:=(A5 0)) ["sign","one"] [("value",0)] rfl (Bz (Ak Eg) ["value","known"] (by trivial)) (W9 rfl T.n_enumerate (Aa (pv 1) Ab)) (λs2 H2 fp cl C=>Ff rfl (Bn (Az (i:=0) (show Nodup [("sign": Str),("one": Str),("value": Str)] from by trivial) rfl (Or.inl rfl)) (Bn (Az (i:=1) (show Nodup [("sign": Str),("one": Str),("value": Str)] from by trivial) rfl (Or.inl rfl)) Em))) (Zy (by decide) (by decide)) (λs2 H2 fp cl C=>Dk (An A1 (pv 1) (pv 2) (Aq _))) (λs2 H2 fp cl C=>(pv 0))))),?_⟩;refine⟨kl,Z,⟨_,hS⟩,?_⟩;refine AaS (K:=K) (xs:=kn.map vO) (λi ys H'=>Same H H'/\ys=(((List.range i).filter (λi=>decide ((kn[i]?).getD none=v))).map λ(i:Nat)=>(i:Int)).map V.int) ⟨Same.refl _,Z⟩ (by rw[uB];exact Co (by omega)) (λi ys H' ⟨g,_⟩=>g.seq hS) ?_ ?_
 ·rintro i x Tt ys H' Nx hi ⟨z,rfl⟩ hT hN a1
  rw[uH]at hi;cases e:kn[i]? with
  |none=>rw[e]at hi;cases hi
  |some o=>
   rw[e]at hi;cases hi
   have gT:=Ae hT (.tup [.int i,vO o]);have et:=Abb v kn i o e;refine⟨Tt,_,Z,SqT.of qa,Z,_,_,Z,_,_,Z,Z,?_⟩;refine⟨AdX o v,?_⟩;rw[Agb];refine A2 (λc=>?_) (λc=>?_)
   ·exact(hN _ _ (by rw[uC,uD];omega) ⟨z.trans gT,by rw[et,if_pos c,uN];rfl⟩)
   ·exact hN _ _ (by omega) ⟨z.trans gT,by rw[et,if_neg c]⟩
 ·rintro ys H' a1 ⟨z,rfl⟩ D hD
  refine q D _ (z.trans (Ae hD _)) (z.free hD) ?_;rw[qa,uB];rfl
theorem AfA(F:Ax K mg "known_behind" ["known","changes"] Gm)(T:Txt mg):Ai P w K mg base 1 "known_behind" ["known","changes"] (Zt K):=by
 refine F.ok Hi (λvs H Q E h=>?_) (λf cdv A outer s H vs Q E hr h=>?_)
 ·obtain⟨kl,c,kn,cs,rfl,_⟩:=h;rfl
 obtain⟨kl,c,kn,cs,rfl,hS,⟨z,hc,ec,al⟩,bd,lc,ln,q⟩:=h
 refine⟨_,(Ad (Ar (i:=2) Hi.nd rfl (Or.inl rfl) (Di M5 rfl T.n_list (by trivial) (Aa (pv 0) Ab)))
  (Ad (Fa PassesOwn.never rfl (B6 (pv 1)) (Az (i:=3) Hi.nd rfl (Or.inl rfl))
   (Ah (Fw (Aj Ag (pv 3) Af (λ_ _=>rfl)) (Ul (pv 2) (Aj Ag (pv 3) Af (λ_ _=>rfl)) O1))))
  (Ah (Ao (pv 2))))),?_⟩
 refine⟨kl,_,Z,.inl hS,λb hb=>?_⟩;have nc:=ne_of_none hc hb;refine⟨c,Z,⟨_,SqL.of (Ae hb _ _ _ hc)⟩,F0 (K:=K) (a:=c) (xs:=z.map chV) (D:={nx:=Zk (A5 2) {nx:=λx H'=>Q V.non H',rt:=Q},rt:=Q}) (λi σ H'=>∃x3:Option V,σ=[some (.ref kl),some (.ref c),some (.ref b),x3]/\Same H H'/\H' b=some (.lst ((behK kn (cs.take i)).map vO))) ⟨none,Z,Ae hb _,qa⟩ (λi σ H' _ ⟨_,_,g,_⟩=>SqL.of (g _ _ hc)) ?_ ?_⟩
 ·rintro i y σ H1 hi ⟨x3,rfl,g,hB⟩
  rw[uH]at hi;cases e:z[i]? with
  |none=>rw[e]at hi;cases hi
  |some p=>
   rw[e]at hi;cases hi
   have hp:=g _ _ (al p (uO e));have ep:cs[i]?=some p.2:=by rw[<-ec,uH,e];rfl
   have bp:=bd p.2 (uO ep);have bl:(behK kn (cs.take i)).length=kn.length:=Kf _ _;refine⟨SqT.of hp,Ac (j:=1) rfl,SqT.of hp,Ac (j:=0) rfl,b,_,_,p.2.1.toNat,Z,Z,hB,?_,?_⟩
   ·unfold ixN
    rw[if_pos bp.1,if_pos (by rw[uB,bl];exact bp.2)]
   ·refine⟨_,Z,g.young hb _,?_⟩
    rw[qa]
    congr 2
    rw[take_add_one,ep];unfold behK;rw[List.foldl_append];show _=List.map vO ((List.foldl _ kn (cs.take i)).set p.2.1.toNat (some p.2.2));rw[map_set];rfl
 ·rintro σ H1 ⟨x3,rfl,g,hB⟩
  have hl:(z.map chV).length=cs.length:=by rw[uB,<-ec,uB]
  rw[hl,take_length]at hB;exact(q b H1 g hb hB)
theorem Aev(F:Ax K mg "changes_by" ["body","known"] F6)(T:Txt mg)(iO:Ai P w K mg base 44 "walked" ["part","state","sure","known"] (Yd K 40))(cM:Ai P w K mg base 1 "signs_that_are" ["value","known"] (Ac9 K)):Ai P w K mg base 45 "changes_by" ["body","known"] (Ac8 K):=by
 refine F.ok Do (λvs H Q E h=>?_) (λf cdv A outer s H vs Q E hr h=>?_)
 ·obtain⟨bv,o,kl,kn,rfl,_⟩:=h;rfl
 obtain⟨bv,o,kl,kn,rfl,ob,hS,ln,ok,q⟩:=h
 refine⟨_,(Ad (Ar (i:=2) Do.nd rfl (Or.inr rfl) (Av Ab))
  (Ad (Ar (i:=3) Do.nd rfl (Or.inr rfl) (Av Ab))
  (Ad (A9 (An Qz (pv 0) B5 (Aq _))
   (Ad (Ar (i:=4) Do.nd rfl (Or.inl rfl) (Am iO hr rfl Al (Aa (pv 0) (Aa B5 (Aa Dr (Aa (pv 1) Ab))))))
  (Ad (Ar (i:=2) Do.nd rfl (Or.inr rfl) (Aj Ag (pv 4) Af (λ_ _=>rfl)))
  (Ah (Ar (i:=3) Do.nd rfl (Or.inr rfl) (Aj Ag (pv 4) Af (λ_ _=>rfl))))))
   A0)
  (Ad (Ar (i:=5) Do.nd rfl (Or.inl rfl) (Am cM hr rfl Al (Aa B5 (Aa (pv 1) Ab))))
  (Ah (Ao (Dc (g:=(Bq 0)) (tc:=(tOr (Fo (tOp (rIn K false) (A5 0) (A5 1))) (Fo (tOp (rIn K true) (A5 0) (A5 2))))) (te:=(Lu (Bx (A5 0) (Bx (tOp (rIn K false) (A5 0) (A5 1)) Dj)))) ["sign"] [("must",2),("can",3)] rfl (Bz (Ak F6) ["body","known","must","can","walk","waiting"] (by trivial)) (B6 (pv 5)) (λs2 H2 fp cl C=>Az (i:=0) (show Nodup [("sign": Str),("must": Str),("can": Str)] from by trivial) rfl (Or.inl rfl)) (Bg (by decide)) (λs2 H2 fp cl C=>Dk (PW.pt (Gc (An B3 (pv 0) (pv 1) (by rfl)) (Fg (An Uw (pv 0) (pv 2) (by rfl)))))) (λs2 H2 fp cl C=>(Ay (Aa (pv 0) (Aa (Ga B3 (pv 0) (pv 1) (by rfl)) Ab))))))))))),?_⟩
 refine⟨zN0,λe1 b6=>⟨zN0,λe2 b5=>?_⟩⟩;have k1:=Ae b6 (.lst []);have k2:=Ae b5 (.lst []);have g0:=k1.trans k2;have h1:=k2 _ _ (qa (H:=H) (a:=e1) (o:=.lst []));have h2:=qa (H:=upd H e1 (.lst [])) (a:=e2) (o:=.lst []);generalize (upd (upd H e1 (.lst [])) e2 (.lst []))=H0 at g0 h1 h2;cases o with
 |none=>
  have e0:=ob;subst e0;refine⟨Z,Ez ?_⟩;obtain⟨mu,ca,Hx,gx,a8,a9,eu,ea,ex⟩:∃mu ca Hx,Same H Hx/\Hx mu=some (.lst ((mcB kn none).1.map V.int))/\Hx ca=some (.lst ((mcB kn none).2.map V.int))/\mu=e1/\ca=e2/\Hx=H0:=⟨e1,e2,H0,g0,h1,h2,rfl,rfl,rfl⟩;rw[<-eu,<-ea,<-ex];generalize (none:Option Pt)=o at a8 a9 q;refine⟨none,kl,kn,Z,gx.seq hS,ln,λwl H5 g5 nw hw=>?_⟩;have gm:=g5 _ _ a8;have gc:=g5 _ _ a9;have gy:=gx.trans g5;have b4:=uY (O0 none kn) ln;refine⟨wl,Z,⟨_,SqL.of hw⟩,Cn (K:=K) (xs:=(Fm none kn).map V.int) (λi ys H'=>Same H5 H'/\∃a6:List (Addr×(Int×Bool)),ys=a6.map chV/\a6.map Prod.snd=(((Fm none kn).take i).filter (λs=>decide (s∈(mcB kn o).1) || !decide (s∈(mcB kn o).2))).map (λs=>(s,decide (s∈(mcB kn o).1)))/\∀p∈a6,H' p.1=some (.tup [.int p.2.1,.bl p.2.2])) ⟨Same.refl _,[],Z,Z,λp hp=>by cases hp⟩ (by rw[uB];exact Co (by omega)) (λi ys H' ⟨g,_⟩=>SqL.of (g _ _ hw)) ?_ ?_⟩
  ·rintro j z ys H' N hj ⟨g6,a6,rfl,ei,al⟩ hN b2
   rw[uH]at hj;cases ej:(Fm none kn)[j]? with
   |none=>rw[ej]at hj;cases hj
   |some x=>
    rw[ej]at hj;cases hj
    have et:((Fm none kn).take (j+1)).filter (λs=>decide (s∈(mcB kn o).1) || !decide (s∈(mcB kn o).2))=((Fm none kn).take j).filter (λs=>decide (s∈(mcB kn o).1) || !decide (s∈(mcB kn o).2))++[x].filter (λs=>decide (s∈(mcB kn o).1) || !decide (s∈(mcB kn o).2)):=by
     rw[take_add_one,ej,vM];rfl
    have skip:¬(decide (x∈(mcB kn o).1) || !decide (x∈(mcB kn o).2))=true->N (a6.map chV) H':=λz=>hN _ _ (by omega) ⟨g6,a6,Z,by rw[et,filter_cons_of_neg (p:=λs=>decide (s∈(mcB kn o).1) || !decide (s∈(mcB kn o).2)) z];simpa using ei,al⟩
    have take:∀(t:Addr)(b:Bool),b=decide (x∈(mcB kn o).1)->(decide (x∈(mcB kn o).1) || !decide (x∈(mcB kn o).2))=true->H' t=none->N (a6.map chV++[.ref t]) (upd H' t (.tup [.int x,.bl b])):=λt b eb z ht=>by
     have k:=Ae ht (.tup [.int x,.bl b]);refine hN _ _ (by rw[uC,uD];omega) ⟨g6.trans k,a6++[(t,(x,b))],by rw[uN];rfl,?_,λp hp=>?_⟩
     ·rw[et,filter_cons_of_pos (p:=λs=>decide (s∈(mcB kn o).1) || !decide (s∈(mcB kn o).2)) z,uN,uN,ei,eb];rfl
     ·rcases uW.mp hp with h|h
      ·exact k _ _ (al p h)
      ·rcases mS h with rfl
       exact qa
    have a7:=g6 _ _ gm;have b1:=g6 _ _ gc;refine⟨mu,_,Z,.inl (SqL.of a7),Z,B9 _,Us (λc=>?_) λc=>?_⟩
    ·refine C8 ⟨mu,_,Z,.inl (SqL.of a7),Z,B9 _,zN2,λt ht=>take t _ (by rw[if_neg qc,Ee]) (by simp[c]) ht⟩
    ·refine⟨ca,_,Z,.inl (SqL.of b1),Z,B9 _,?_⟩
     rw[if_pos rfl,Ee]
     by_cases d:x∈(mcB kn o).2
     ·rw[uI d]
      exact Ez (skip (by simp[c,d]))
     ·rw[uJ d]
      exact C8 ⟨mu,_,Z,.inl (SqL.of a7),Z,B9 _,zN2,λt ht=>take t _ (by rw[if_neg qc,Ee]) (by simp[d]) ht⟩
  ·rintro ys H' b2 ⟨g6,a6,rfl,ei,al⟩ D hD
   have k:=Ae hD (.lst (a6.map chV));rw[uB,take_length]at ei;exact q D _ ((gy.trans g6).trans k) ((gy.trans g6).free hD) ⟨a6,qa,ei,λp hp=>k _ _ (al p hp)⟩
 |some b=>
  obtain⟨b3,hb,sb⟩:=ob;obtain⟨a1,e1⟩:∃a,bv=.ref a:=by cases b<;>(obtain⟨a,vs,e,_⟩:=PAt.get b3;exact⟨a,e⟩)
  subst e1;refine⟨Z,C8 ?_⟩;refine⟨.ref a1,b,true,kl,kn,Z,b3.mono g0.tp,g0.seq hS,hb,sb,ok,λt H4 g4 ⟨l1,l2,l3,a2,a3,a4,a5⟩=>?_⟩;refine⟨SqT.of a2,Ac (j:=2) rfl,SqT.of a2,Ac (j:=3) rfl,?_⟩;obtain⟨mu,ca,Hx,gx,a8,a9,eu,ea,ex⟩:∃mu ca Hx,Same H Hx/\Hx mu=some (.lst ((mcB kn (some b)).1.map V.int))/\Hx ca=some (.lst ((mcB kn (some b)).2.map V.int))/\mu=l2/\ca=l3/\Hx=H4:=⟨l2,l3,H4,g0.trans g4,a4,a5,rfl,rfl,rfl⟩;rw[<-eu,<-ea,<-ex];generalize (some b:Option Pt)=o at a8 a9 q;refine⟨none,kl,kn,Z,gx.seq hS,ln,λwl H5 g5 nw hw=>?_⟩;have gm:=g5 _ _ a8;have gc:=g5 _ _ a9;have gy:=gx.trans g5;have b4:=uY (O0 none kn) ln;refine⟨wl,Z,⟨_,SqL.of hw⟩,Cn (K:=K) (xs:=(Fm none kn).map V.int) (λi ys H'=>Same H5 H'/\∃a6:List (Addr×(Int×Bool)),ys=a6.map chV/\a6.map Prod.snd=(((Fm none kn).take i).filter (λs=>decide (s∈(mcB kn o).1) || !decide (s∈(mcB kn o).2))).map (λs=>(s,decide (s∈(mcB kn o).1)))/\∀p∈a6,H' p.1=some (.tup [.int p.2.1,.bl p.2.2])) ⟨Same.refl _,[],Z,Z,λp hp=>by cases hp⟩ (by rw[uB];exact Co (by omega)) (λi ys H' ⟨g,_⟩=>SqL.of (g _ _ hw)) ?_ ?_⟩
  ·rintro j z ys H' N hj ⟨g6,a6,rfl,ei,al⟩ hN b2
   rw[uH]at hj;cases ej:(Fm none kn)[j]? with
   |none=>rw[ej]at hj;cases hj
   |some x=>
    rw[ej]at hj;cases hj
    have et:((Fm none kn).take (j+1)).filter (λs=>decide (s∈(mcB kn o).1) || !decide (s∈(mcB kn o).2))=((Fm none kn).take j).filter (λs=>decide (s∈(mcB kn o).1) || !decide (s∈(mcB kn o).2))++[x].filter (λs=>decide (s∈(mcB kn o).1) || !decide (s∈(mcB kn o).2)):=by
     rw[take_add_one,ej,vM];rfl
    have skip:¬(decide (x∈(mcB kn o).1) || !decide (x∈(mcB kn o).2))=true->N (a6.map chV) H':=λz=>hN _ _ (by omega) ⟨g6,a6,Z,by rw[et,filter_cons_of_neg (p:=λs=>decide (s∈(mcB kn o).1) || !decide (s∈(mcB kn o).2)) z];simpa using ei,al⟩
    have take:∀(t:Addr)(b:Bool),b=decide (x∈(mcB kn o).1)->(decide (x∈(mcB kn o).1) || !decide (x∈(mcB kn o).2))=true->H' t=none->N (a6.map chV++[.ref t]) (upd H' t (.tup [.int x,.bl b])):=λt b eb z ht=>by
     have k:=Ae ht (.tup [.int x,.bl b]);refine hN _ _ (by rw[uC,uD];omega) ⟨g6.trans k,a6++[(t,(x,b))],by rw[uN];rfl,?_,λp hp=>?_⟩
     ·rw[et,filter_cons_of_pos (p:=λs=>decide (s∈(mcB kn o).1) || !decide (s∈(mcB kn o).2)) z,uN,uN,ei,eb];rfl
     ·rcases uW.mp hp with h|h
      ·exact k _ _ (al p h)
      ·rcases mS h with rfl
       exact qa
    have a7:=g6 _ _ gm;have b1:=g6 _ _ gc;refine⟨mu,_,Z,.inl (SqL.of a7),Z,B9 _,Us (λc=>?_) λc=>?_⟩
    ·refine C8 ⟨mu,_,Z,.inl (SqL.of a7),Z,B9 _,zN2,λt ht=>take t _ (by rw[if_neg qc,Ee]) (by simp[c]) ht⟩
    ·refine⟨ca,_,Z,.inl (SqL.of b1),Z,B9 _,?_⟩
     rw[if_pos rfl,Ee]
     by_cases d:x∈(mcB kn o).2
     ·rw[uI d]
      exact Ez (skip (by simp[c,d]))
     ·rw[uJ d]
      exact C8 ⟨mu,_,Z,.inl (SqL.of a7),Z,B9 _,zN2,λt ht=>take t _ (by rw[if_neg qc,Ee]) (by simp[d]) ht⟩
  ·rintro ys H' b2 ⟨g6,a6,rfl,ei,al⟩ D hD
   have k:=Ae hD (.lst (a6.map chV));rw[uB,take_length]at ei;exact q D _ ((gy.trans g6).trans k) ((gy.trans g6).free hD) ⟨a6,qa,ei,λp hp=>k _ _ (al p hp)⟩
theorem AfH(F:Ax K mg "rounds" ["program","state","coming"] Mf)(T:Txt mg)(bD:Ai P w K mg base 43 "body_to_begin" ["program","state"] (AaB K 40))(bB:Ai P w K mg base 1 "known_at_first" ["program","coming"] (Ra K))(bG:Ai P w K mg base 1 "known_behind" ["known","changes"] (Zt K))(cE:Ai P w K mg base 45 "changes_by" ["body","known"] (Ac8 K)):Ai P w K mg base 46 "rounds" ["program","state","coming"] (AdM K):=by
 refine F.ok F2 (λvs H Q E h=>?_) (λf cdv A outer s H vs Q E hr h=>?_)
 ·obtain⟨pr,sv,co,n,p,st,cs,rfl,_⟩:=h;rfl
 obtain⟨pr,sv,co,n,p,st,cs,rfl,pg,d9,hS,q⟩:=h;obtain⟨x0,x1,v,e4,hp⟩:=pg.pa;have nb:=pg.nb;have e6:=pg.rc;have e7:=pg.sc;have e5:=pg.hg
 refine⟨_,(Ad (Ar (i:=3) F2.nd rfl (Or.inl rfl) (Am bD hr rfl Al (Aa (pv 0) (Aa (pv 1) Ab))))
  (Ad (Ar (i:=4) F2.nd rfl (Or.inl rfl) (Am bB hr rfl Al (Aa (pv 0) (Aa (pv 2) Ab))))
  (Ad (Ar (i:=5) F2.nd rfl (Or.inl rfl) (Av Ab))
  (Ad (Ar (i:=6) F2.nd rfl (Or.inl rfl) (Am cE hr rfl Al (Aa (pv 3) (Aa (pv 4) Ab))))
  (Ad (L7 PassesOwn.never (Ex (pv 6) (λ_=>rfl))
   (Ad (Be (Fq PySem.F.plainAttrs_list PySem.F.slot_list_append PySem.F.type_list_append Cz (pv 5) (Aa (pv 6) Ab)))
  (Ad (Ar (i:=4) F2.nd rfl (Or.inl rfl) (Am bG hr rfl Al (Aa (pv 4) (Aa (pv 6) Ab))))
  (Ah (Ar (i:=6) F2.nd rfl (Or.inl rfl) (Am cE hr rfl Al (Aa (pv 3) (Aa (pv 4) Ab))))))))
  (Ah (Ao (pv 5)))))))),?_⟩
 refine⟨pr,x0,x1,.int n,v,p,sv,st,Z,SqT.of e4,hp,d9,pg.hg,by omega,λbv H1 g1 hb=>?_⟩
 have ob:OBd K H1 (Du p st) bv:=by
  rcases hb with⟨ov,rfl⟩|⟨ov,P1⟩
  ·rw[Jx.1 ov];rfl
  ·rw[Jx.2 ov]
   have k1:(pb p st).hg<=p.hg:=by cases st with|none=>exact uZ _|some l=>exact AbH l p
   have k2:(pb p st).sc<=p.sc:=by cases st with|none=>exact uZ _|some l=>exact To l p
   exact⟨P1,by omega,by omega⟩
 have b7:=Uu pg.ok st;refine⟨pr,co,n,p,cs,Z,pg.mono g1,g1.seq hS,λkl H2 g2 nk hk=>?_⟩;refine⟨zN0,λr0 b2=>?_⟩;have k3:=Ae b2 (.lst []);have c7:=g2.trans k3;have c9:=g1.trans c7;have b3:=k3 _ _ hk;have b5:=ne_of_none hk b2;have b1:=qa (H:=H2) (a:=r0) (o:=.lst []);have e3:=(g1.trans g2).free b2;have a4:=ob.mono c7;generalize (upd H2 r0 (.lst []))=H3 at c9 b3 b1 a4;have l0:(Bv n cs).length=n:=by simp[Bv]
 generalize Du p st=o at a4 b7 q;refine⟨bv,o,kl,Bv n cs,Z,a4,SqL.of b3,by omega,by rw[l0];exact b7,λch H4 g4 c6 d7=>?_⟩;refine⟨λm σ H'=>∃(kl ch:Addr)(kn:List (Option Bool))(a1:List (Addr×List (Int×Bool))),σ=[some (.ref pr),some sv,some (.ref co),some bv,some (.ref kl),some (.ref r0),some (.ref ch)]/\Same H H'/\OBd K H' o bv/\H' kl=some (.lst (kn.map vO))/\kl≠r0/\kn.length=n/\Hd H' ch (stepK o kn)/\ch≠r0/\H' r0=some (.lst (a1.map rdV))/\a1.length+m=n+1/\(∀p∈a1,Hd H' p.1 p.2/\p.1≠r0)/\Cu kn<m/\a1.map Prod.snd++rnds o m kn=rnds o (n+1) (Bv n cs),⟨n+1,kl,ch,Bv n cs,[],Z,c9.trans g4,a4.mono g4,g4 _ _ b3,b5,l0,d7,(λz=>by rw[z,b1]at c6;cases c6),g4 _ _ b1,by simp,(λp hp=>by cases hp),by have:=Ko (Bv n cs);omega,Z⟩,?_⟩;rintro m σ H5 ⟨kl,ch,kn,a1,rfl,g5,b6,d8,b5,ln,a5,a6,a2,lm,al,nm,er⟩;obtain⟨b4,c1,c2,c3⟩:=id a5;refine⟨_,.inl ⟨_,SqL.of c1,Z⟩,?_⟩
 by_cases z:stepK o kn=[]
 ·have e0:b4=[]:=by rw[z]at c2;exact List.map_eq_nil_iff.mp c2
  subst e0;refine Ez ?_;obtain⟨m',rfl⟩:∃m',m=m'+1:=⟨m-1,by omega⟩;simp only[rnds]at er;rw[if_pos z,vH]at er;exact(q r0 H5 g5 ⟨a1,a2,er,λp hp=>(al p hp).1⟩)
 ·obtain⟨x,r,e0⟩:∃x r,b4=x::r:=by
   cases b4 with
   |nil=>exact absurd c2.symm z
   |cons x r=>exact⟨x,r,rfl⟩
  subst e0;refine C8 ⟨λd3 H'=>∃m',m'<m/\∃(kl ch:Addr)(kn:List (Option Bool))(a1:List (Addr×List (Int×Bool))),d3=[some (.ref pr),some sv,some (.ref co),some bv,some (.ref kl),some (.ref r0),some (.ref ch)]/\Same H H'/\OBd K H' o bv/\H' kl=some (.lst (kn.map vO))/\kl≠r0/\kn.length=n/\Hd H' ch (stepK o kn)/\ch≠r0/\H' r0=some (.lst (a1.map rdV))/\a1.length+m'=n+1/\(∀p∈a1,Hd H' p.1 p.2/\p.1≠r0)/\Cu kn<m'/\a1.map Prod.snd++rnds o m' kn=rnds o (n+1) (Bv n cs),λd3 H' h=>h,?_⟩;refine⟨.inl ⟨Z,_,SqL.of a2⟩,r0,_,_,Z,Z,a2,by rw[uB];exact G6 (by omega),?_⟩;have g6:=g5.young e3 (.lst (a1.map rdV++[.ref ch]))
  have a9:OBd K (upd H5 r0 (.lst (a1.map rdV++[.ref ch]))) o bv:=by
   cases o with
   |none=>exact b6
   |some b=>exact⟨b6.1.mono (Tp.lst a2),b6.2⟩
  have c5:(upd H5 r0 (.lst (a1.map rdV++[.ref ch]))) kl=some (.lst (kn.map vO)):=by rw[upd_ne b5];exact d8
  have a3:=a5.off (ys:=a1.map rdV++[.ref ch]) a6 a2;have b8:∀p∈a1,Hd (upd H5 r0 (.lst (a1.map rdV++[.ref ch]))) p.1 p.2/\p.1≠r0:=λp hp=>⟨(al p hp).1.off (al p hp).2 a2,(al p hp).2⟩
  have a7:=qa (H:=H5) (a:=r0) (o:=.lst (a1.map rdV++[.ref ch]));generalize (upd H5 r0 (.lst (a1.map rdV++[.ref ch])))=H6 at g6 a9 c5 a3 b8 a7;have sb:=Wf o kn;refine⟨kl,ch,kn,stepK o kn,Z,SqL.of c5,a3,sb.1,by omega,by omega,λa8 H7 g7 d2 c4=>?_⟩;have d4:a8≠r0:=λy=>by rw[y,a7]at d2;cases d2
  have bl:=Kf (stepK o kn) kn;refine⟨bv,o,a8,behK kn (stepK o kn),Z,a9.mono g7,SqL.of c4,by omega,by rw[bl,ln];exact b7,λd6 H8 g8 b9 d5=>?_⟩;have c8:=g7 _ _ a7;have nn:=Qe z;obtain⟨m',rfl⟩:∃m',m=m'+1:=⟨m-1,by omega⟩;refine⟨m',by omega,a8,d6,behK kn (stepK o kn),a1++[(ch,stepK o kn)],Z,(g6.trans g7).trans g8,(a9.mono g7).mono g8,g8 _ _ c4,d4,by omega,d5,(λy=>by rw[y,c8]at b9;cases b9),?_,by rw[uC,uD];omega,λp hp=>?_,by omega,?_⟩
  ·rw[g8 _ _ c8,uN];rfl
  ·rcases uW.mp hp with h|h
   ·exact⟨((b8 p h).1.mono g7).mono g8,(b8 p h).2⟩
   ·rcases mS h with rfl
    exact⟨(a3.mono g7).mono g8,a6⟩
  ·rw[<-er]
   simp only[rnds];rw[if_neg z,uN,append_assoc];rfl
theorem Afl(F:Ax K mg "settled" ["program","state","coming"] Kv)(T:Txt mg)(bB:Ai P w K mg base 1 "known_at_first" ["program","coming"] (Ra K))(bG:Ai P w K mg base 1 "known_behind" ["known","changes"] (Zt K))(iP:Ai P w K mg base 46 "rounds" ["program","state","coming"] (AdM K)):Ai P w K mg base 47 "settled" ["program","state","coming"] (AdP K):=by
 refine F.ok Jw (λvs H Q E h=>?_) (λf cdv A outer s H vs Q E hr h=>?_)
 ·obtain⟨pr,sv,co,n,p,st,cs,rfl,_⟩:=h;rfl
 obtain⟨pr,sv,co,n,p,st,cs,rfl,pg,a2,hS,q⟩:=h;have nb:=pg.nb
 refine⟨_,(Ad (Ar (i:=3) Jw.nd rfl (Or.inl rfl) (Am bB hr rfl Al (Aa (pv 0) (Aa (pv 2) Ab))))
  (Ad (Fa PassesOwn.never rfl (B6 (Am iP hr rfl Al (Aa (pv 0) (Aa (pv 1) (Aa (pv 2) Ab))))) (Az (i:=4) Jw.nd rfl (Or.inl rfl))
   (Ah (Ar (i:=3) Jw.nd rfl (Or.inl rfl) (Am bG hr rfl Al (Aa (pv 3) (Aa (pv 4) Ab))))))
  (Ah (Ao (pv 3))))),?_⟩
 refine⟨pr,co,n,p,cs,Z,pg,hS,λkl H1 g1 _ hk=>?_⟩;refine⟨pr,sv,co,n,p,st,cs,Z,pg.mono g1,Kk g1 a2,g1.seq hS,λr H2 g2 ⟨z,h2,e2,al⟩=>?_⟩;have l0:(Bv n cs).length=n:=by simp[Bv]
 have bd:=Xg (Du p st) (n+1) (Bv n cs);unfold Jo at q;rw[<-e2]at bd q;refine⟨r,Z,⟨_,SqL.of h2⟩,F0 (K:=K) (a:=r) (xs:=z.map rdV) (D:={nx:=Zk (A5 3) {nx:=λx H'=>Q V.non H',rt:=Q},rt:=Q}) (λi σ H'=>∃(kl:Addr)(x4:Option V),σ=[some (.ref pr),some sv,some (.ref co),some (.ref kl),x4]/\Same H2 H'/\H' kl=some (.lst ((((z.map Prod.snd).take i).foldl behK (Bv n cs)).map vO))) ⟨kl,none,Z,Same.refl _,g2 _ _ hk⟩ (λi σ H' _ ⟨_,_,_,g,_⟩=>SqL.of (g _ _ h2)) ?_ ?_⟩
 ·rintro i y σ H3 hi ⟨kl,x4,rfl,g3,a1⟩
  rw[uH]at hi;cases e:z[i]? with
  |none=>rw[e]at hi;cases hi
  |some it=>
   rw[e]at hi;cases hi
   have hm:=uO e;have b:=bd it.2 (mem_map_of_mem hm);have fl:=Sn ((z.map Prod.snd).take i) (Bv n cs);refine⟨kl,it.1,_,it.2,Z,SqL.of a1,(al it hm).mono g3,(by rw[fl];exact b.1),by omega,by omega,λa3 H4 g4 _ a4=>?_⟩;refine⟨a3,_,Z,g3.trans g4,?_⟩;rw[a4,take_add_one,uH,e,List.foldl_append];rfl
 ·rintro σ H3 ⟨kl,x4,rfl,g3,a1⟩
  rw[uB,show z.length=(z.map Prod.snd).length from(uB _).symm,take_length]at a1;exact(q kl H3 ((g1.trans g2).trans g3) a1)
end
def Pt.sz:Pt->Nat
 |.iff _ p q=>p.sz+q.sz+1
 |.again _ p=>p.sz+1
 |.hold _ p=>p.sz+1
 |.watch _ p=>p.sz+1
 |.trap p=>p.sz+1
 |.thn p q=>p.sz+q.sz+1
 |.bes p q=>p.sz+q.sz+1
 |_=>1
end My
namespace Dsk
open PySem L2 My
abbrev Gw:=Str×List Int
structure Ws where
 gs:List Gw
 sn:List (List Int)
 lv:List (Int×Int)
 op:List Int
def Ws.nx(s:Ws):Int:=(s.gs.length:Int)
def Ws.add(s:Ws)(w:Str)(ns:List Int):Ws:=⟨s.gs++[(w,ns)],s.sn,s.lv,s.op⟩
def Ws.fil(s:Ws)(n:Int)(w:Str)(ns:List Int):Ws:=⟨s.gs.set n.toNat (w,ns),s.sn,s.lv,s.op.filter λx=>decide (x≠n)⟩
def Il(l:List (Int×Int))(k v:Int):List (Int×Int):=if (l.any λp=>decide (p.1=k))=true then l.map (λp=>if p.1=k then(p.1,v) else p) else l++[(k,v)]
def Ws.lev(s:Ws)(k v:Int):Ws:=⟨s.gs,s.sn,Il s.lv k v,s.op⟩
def kvI(p:Int×Int):Key×V:=(Sum.inl p.1,V.int p.2)
theorem putI_map(l:List (Int×Int))(k v:Int):(Il l k v).map kvI=Fd (l.map kvI) (Sum.inl k) (V.int v):=by
 have e:((l.map kvI).any λkv=>decide (kv.1=(Sum.inl k:Key)))=l.any λp=>decide (p.1=k):=by
  rw[any_map]
  congr 1
  funext p
  show decide ((Sum.inl p.1:Key)=Sum.inl k)=_
  by_cases h:p.1=k
  ·rw[uI h,uI (congrArg Sum.inl h)]
  ·rw[uJ h,uJ (λz=>h (Sum.inl.inj z))]
 unfold Il Fd;rw[e];split
 ·rw[map_map,map_map]
  congr 1
  funext p
  show kvI (if p.1=k then(p.1,v) else p)=if (Sum.inl p.1:Key)=Sum.inl k then((Sum.inl p.1:Key),V.int v) else kvI p
  by_cases h:p.1=k
  ·rw[if_pos h,if_pos (congrArg Sum.inl h)];rfl
  ·rw[if_neg h,if_neg (λz=>h (Sum.inl.inj z))]
 ·rw[uN];rfl
theorem putI_new{k:Int}(h:∀p∈l,¬p.1=k):Il l k v=l++[(k,v)]:=by
 unfold Il;rw[if_neg];intro z;obtain⟨p,hp,e⟩:=any_eq_true.mp z;exact h p hp (uK e)
structure Lc where
 dx:Addr
 gl:Addr
 sl:Addr
 nl:Addr
 ld:Addr
 rs:List Addr
def Lc.S(L:Lc):List Addr:=L.gl::L.ld::L.rs
def wsF(L:Lc):List (Str×V):=[("gates",.ref L.gl),("signs",.ref L.sl),("senders",.ref L.nl),("leavers",.ref L.ld)]
def GwAt(H:Hp)(g:Gw)(v:V):Prop:=∃t u,v=.ref t/\H t=some (.tup [.str g.1,.ref u])/\H u=some (.tup (g.2.map V.int))
theorem GwAt.mono(h:GwAt H g v)(T:Tp H H'):GwAt H' g v:=by
 obtain⟨t,u,e,h1,h2⟩:=h;exact⟨t,u,e,T _ _ h1,T _ _ h2⟩
inductive Bi(C:Addr)(H:Hp)(o:Addr)(L:Lc)(n:Nat)(s:Ws):Prop
 |mk(gvs:List V)(ho:H o=some (.ins C L.dx (wsF L)))(hg:H L.gl=some (.lst gvs))(hp:PySem.Paired (GwAt H) s.gs gvs)(hs:H L.sl=some (.lst ((List.range n).map λ(i:Nat)=>V.int (i:Int))))
   (hn:H L.nl=some (.lst (L.rs.map V.ref))) (hr:PySem.Paired (λl r=>H r=some (.lst ((l:List Int).map V.int))) s.sn L.rs) (hl:H L.ld=some (.dK (s.lv.map kvI))) (nd:(L.gl::L.sl::L.nl::L.rs).Nodup):Bi C H o L n s
theorem Bi.ho{o:Addr}{L:Lc}{s:Ws}(w:Bi C H o L n s):H o=some (.ins C L.dx (wsF L)):=by obtain⟨_,h,_⟩:=w;exact h
def KpS(S:List Addr)(H H':Hp):Prop:=∀b u,b∉S->H b=some u->H' b=some u
theorem KpS.refl(S:List Addr)(H:Hp):KpS S H H:=λ_ _ _ h=>h
theorem KpS.trans{H1:Hp}(a:KpS S H H1)(b:KpS S H1 H2):KpS S H H2:=λc u h e=>b c u h (a c u h e)
theorem Same.kpS(g:Same H H'):KpS S H H':=λb u _ e=>g b u e
theorem KpS.upd{u:HO}(h:r∈S):KpS S H (L2.upd H r u):=λb v n e=>by
 have hb:b≠r:=λz=>n (by rw[z];exact h)
 rw[upd_ne hb];exact e
theorem KpS.more(k:KpS S H H')(h:∀b∈S,b∈S'):KpS S' H H':=λb u n e=>k b u (λz=>n (h b z)) e
theorem Bi.off(w:Bi C H o L n s){u:HO}(e:H b=some u)(h1:∀xs,u≠.lst xs)(h2:∀kvs,u≠.dK kvs):b∉L.S:=λz=>by
 obtain⟨gvs,ho,hg,hp,hs,hn,hr,hl,nd⟩:=w;rcases vJ.mp z with z|z
 ·rw[z,hg]at e;exact h1 _ (Option.some.inj e).symm
 ·rcases vJ.mp z with z|z
  ·rw[z,hl]at e;exact h2 _ (Option.some.inj e).symm
  ·obtain⟨j,hj⟩:=getElem?_of_mem z
   have a2:=PySem.Paired.length hr;have a1:j<s.sn.length:=by have:=(List.getElem?_eq_some_iff.mp hj).1;omega
   obtain⟨y,e1,e2⟩:=Bp hr (uA a1);rw[hj]at e1;cases e1
   rw[e2]at e;exact h1 _ (Option.some.inj e).symm
theorem Bi.tp(w:Bi C H o L n s)(k:KpS L.S H H'):Tp H H':=λb xs e=>k b _ (w.off e (λ_ z=>nomatch z) λ_ z=>nomatch z) e
theorem Bi.same(w:Bi C H o L n s)(g:Same H H'):Bi C H' o L n s:=by
 obtain⟨gvs,ho,hg,hp,hs,hn,hr,hl,nd⟩:=w;exact⟨gvs,g _ _ ho,g _ _ hg,Paired.mapP hp λ_ _ a=>a.mono g.tp,g _ _ hs,g _ _ hn,Paired.mapP hr λ_ _ a=>g _ _ a,g _ _ hl,nd⟩
theorem Bi.keep(w:Bi C H o L n s)(T:List Addr)(g:KpS T H H')(tp:Tp H H')(h:∀b∈T,b≠o/\b≠L.sl/\b≠L.nl/\b∉L.S):Bi C H' o L n s:=by
 obtain⟨gvs,ho,hg,hp,hs,hn,hr,hl,nd⟩:=w;refine⟨gvs,g _ _ (λz=>(h _ z).1 rfl) ho,g _ _ (λz=>(h _ z).2.2.2 (uF)) hg,Paired.mapP hp λ_ _ a=>a.mono tp,g _ _ (λz=>(h _ z).2.1 rfl) hs,g _ _ (λz=>(h _ z).2.2.1 rfl) hn,?_,g _ _ (λz=>(h _ z).2.2.2 (uG _ uF)) hl,nd⟩;refine Dx (PySem.Paired.length hr) λj x e=>?_
 obtain⟨y,e1,e2⟩:=Bp hr e;exact⟨y,e1,g _ _ (λz=>(h _ z).2.2.2 (uG _ (uG _ (uO e1)))) e2⟩
theorem Bi.gates{o:Addr}{L:Lc}{s:Ws}(w:Bi C H o L n s){gs:List Gw}{gvs:List V}{op:List Int}(hp:PySem.Paired (GwAt H) gs gvs):Bi C (upd H L.gl (.lst gvs)) o L n ⟨gs,s.sn,s.lv,op⟩:=by
 obtain⟨a1,ho,hg,a2,hs,hn,hr,hl,nd⟩:=w;have tp:Tp H (upd H L.gl (.lst gvs)):=Tp.lst hg;have ns:L.sl≠L.gl:=λz=>by rw[z]at nd;simp at nd
 have nn:L.nl≠L.gl:=λz=>by rw[z]at nd;simp at nd
 have nr:∀r∈L.rs,r≠L.gl:=λr hr z=>by rw[<-z]at nd;simp[hr]at nd
 refine⟨gvs,by rw[upd_ne (Bw ho hg (by intro z;cases z))];exact ho,qa,Paired.mapP hp λ_ _ a=>a.mono tp,by rw[upd_ne ns];exact hs,by rw[upd_ne nn];exact hn,?_,by rw[upd_ne (Bw hl hg (by intro z;cases z))];exact hl,nd⟩;refine Dx (PySem.Paired.length hr) λj x e=>?_
 obtain⟨y,e1,e2⟩:=Bp hr e;exact⟨y,e1,by rw[upd_ne (nr y (uO e1))];exact e2⟩
inductive Gt where
 |start
 |mem (k:Int)
 |given (s:Int)
 |nt (g:Nat)
 |all (gs:List Nat)
 |som (gs:List Nat)
abbrev Kn:=Nat->Option Bool
def or3:Option Bool->Option Bool->Option Bool
 |some true,_=>some true
 |some false,b=>b
 |none,some true=>some true
 |none,_=>none
def an3:Option Bool->Option Bool->Option Bool
 |some false,_=>some false
 |some true,b=>b
 |none,some false=>some false
 |none,_=>none
def nt3(a:Option Bool):Option Bool:=a.map not
def orL(l:List (Option Bool)):Option Bool:=l.foldr or3 (some false)
def anL(l:List (Option Bool)):Option Bool:=l.foldr an3 (some true)
def Ek(st:Option (List Int))(co:List Int)(k:Kn):Gt->Option Bool
 |.start=>some st.isNone
 |.mem n=>some (match st with|none=>false|some l=>decide (n∈l))
 |.given s=>some (decide (s∈co))
 |.nt g=>(k g).map not
 |.all gs=>anL (gs.map k)
 |.som gs=>orL (gs.map k)
def gtW(w:Str)(ns:List Int):Gt:=if w ="start" then .start else if w ="memory" then .mem (ns.headD 0) else if w ="given" then .given (ns.headD 0) else if w ="not" then .nt (ns.headD 0).toNat else if w ="all" then .all (ns.map Int.toNat) else .som (ns.map Int.toNat)
def gtOf(g:Gw):Gt:=gtW g.1 g.2
structure Vn where
 st:Option (List Int)
 co:List Int
 k:Kn
def Vn.v(ρ:Vn)(x:Int):Option Bool:=ρ.k x.toNat
def Vn.g(ρ:Vn)(g:Gw):Option Bool:=Ek ρ.st ρ.co ρ.k (gtOf g)
theorem Bj(a:Option Bool):or3 a (some false)=a:=by rcases a with _|_|_<;>rfl
theorem B4(a:Option Bool):an3 a (some true)=a:=by rcases a with _|_|_<;>rfl
theorem or3_c(a b:Option Bool):or3 a b=or3 b a:=by rcases a with _|_|_<;>rcases b with _|_|_<;>rfl
theorem AdA(a b c:Option Bool):or3 (or3 a b) c=or3 a (or3 b c):=by rcases a with _|_|_<;>rcases b with _|_|_<;>rcases c with _|_|_<;>rfl
theorem Q2(l m:List (Option Bool)):orL (l++m)=or3 (orL l) (orL m):=by
 induction l with
 |nil=>rfl
 |cons a l z=>exact(congrArg (or3 a) z).trans (AdA _ _ _).symm
theorem L6(ρ:Vn)(ns:List Int):ρ.g ("some",ns)=orL (ns.map ρ.v):=congrArg orL map_map
theorem S6(ρ:Vn)(ns:List Int):ρ.g ("all",ns)=anL (ns.map ρ.v):=congrArg anL map_map
def Sat(s:Ws)(ρ:Vn):Prop:=∀(i:Nat)g,s.gs[i]?=some g->(i:Int)∉s.op->ρ.k i=ρ.g g
def Ws.sv(s:Ws)(ρ:Vn)(i:Nat):Option Bool:=orL ((s.sn.getD i []).map ρ.v)
structure Eff where
 A:List Int
 F:Vn->Prop
 D:Vn->Nat->Option Bool
def Eff.cat(a b:Eff):Eff:=⟨a.A++b.A,λρ=>a.F ρ/\b.F ρ,λρ i=>or3 (a.D ρ i) (b.D ρ i)⟩
abbrev eC(g:List Int)(F:Vn->Prop):Eff:=⟨g,F,λ_ _=>some false⟩
abbrev eF(F:Vn->Prop):Eff:=eC [] F
abbrev eN:Eff:=eF λ_=>True
theorem Q4(s:Ws)(w:Str)(ns:List Int):(s.add w ns).gs.length=s.gs.length+1:=by unfold Ws.add;rw[uC,uD]
theorem AeT(s:Ws)(g:Int)(w:Str)(ns:List Int):(s.fil g w ns).gs.length=s.gs.length:=by unfold Ws.fil;rw[vK]
abbrev Cd:=List (Int×Int)
def FmG(n m c:Nat)(g:Gw):Prop:=(g.1 ="start" /\ g.2=[])\/(g.1 ="memory" /\ ∃k:Int,g.2=[k]/\0<=k/\k<m)\/(g.1 ="given" /\ ∃k:Int,g.2=[k]/\0<=k/\k<n)\/((g.1 ="all" \/ g.1 ="some" \/ (g.1 ="not" /\ g.2.length=1))/\∀x∈g.2,0<=x/\x<c)
theorem FmG.more(h:FmG n m c g)(hc:c<=z):FmG n m z g:=by
 rcases h with h|h|h|⟨h1,h2⟩
 ·exact .inl h
 ·exact .inr (.inl h)
 ·exact .inr (.inr (.inl h))
 ·exact .inr (.inr (.inr ⟨h1,λx hx=>by have:=h2 x hx;omega⟩))
def Rng(s:Ws)(g:Int):Prop:=0<=g/\g<s.nx
theorem Rng.up{x:Int}(h:Rng s x)(l:s.gs.length<=s'.gs.length):Rng s' x:=by unfold Rng Ws.nx at *;omega
def RL(s:Ws)(l:List Int):Prop:=∀x∈l,Rng s x
theorem RL.nil:RL s []:=λx z=>nomatch z
theorem RL.cons{s:Ws}{a:Int}{l:List Int}(h:Rng s a)(t:RL s l):RL s (a::l):=λx z=>by
 rcases vJ.mp z with e|e
 ·rw[e];exact h
 ·exact t x e
theorem RL.one{a:Int}(h:Rng s a):RL s [a]:=.cons h .nil
theorem RL.two{a:Int}(h:Rng s a)(h':Rng s b):RL s [a,b]:=.cons h (.one h')
theorem RL.up(h:RL s l)(le:s.gs.length<=s'.gs.length):RL s' l:=λx z=>(h x z).up le
def CR(s:Ws)(cs:Cd):Prop:=∀p∈cs,(0<=p.1/\p.1<=5)/\Rng s p.2
theorem CR.up(h:CR s cs)(l:s.gs.length<=s'.gs.length):CR s' cs:=λp hp=>⟨(h p hp).1,(h p hp).2.up l⟩
theorem CR.app{a:Cd}(h:CR s a)(h':CR s b):CR s (a++b):=λp hp=>(uW.mp hp).elim (h p) (h' p)
structure WO(n m:Nat)(s:Ws):Prop where
 g:∀g∈s.gs,FmG n m s.gs.length g/\g.2.length<=1000
 sn:∀r∈s.sn,RL s r
 lv:∀p∈s.lv,Rng s p.2
 op:RL s s.op
def Cap(M:Nat)(s:Ws)(d:Nat):Prop:=s.gs.length+d<=M/\s.lv.length+d<=M/\∀r∈s.sn,32*r.length+d<=M
structure Hv(C o:Addr)(L:Lc)(n m:Nat)(H:Hp)(s:Ws)(d:Nat):Prop where
 w:Bi C H o L n s
 f:WO n m s
 nl:n<=s.gs.length
 sl:s.sn.length=n
 b:Cap 1000000 s d
structure Nw(C o:Addr)(L:Lc)(n m:Nat)(S:List Addr)(H:Hp)(s:Ws)(H':Hp)(s':Ws)(d:Nat)(E:Eff):Prop where
 k:KpS S H H'
 w:Bi C H' o L n s'
 f:WO n m s'
 lo:s.gs.length<=s'.gs.length
 sl:s'.sn.length=s.sn.length
 lv:∀k∈s.lv.map (·.1),k∈s'.lv.map (·.1)
 c:∀M e,Cap M s (d+e)->Cap M s' e
 op:∀g∈s.op,g∉E.A->g∈s'.op
 ct:∀(i:Nat)g,s.gs[i]?=some g->(i:Int)∉E.A->s'.gs[i]?=some g
 sat:∀ρ,Sat s' ρ->Sat s ρ/\E.F ρ/\∀i,s'.sv ρ i=or3 (s.sv ρ i) (E.D ρ i)
section
variable{CP o dx:Addr}{L:Lc}{m d e j:Nat}{S:List Addr}{H1:Hp}{s s' s1:Ws}{x:Int}{rv cv:V}{u:HO}{E E':Eff}
theorem Hv.nw(h:Hv C o L n m H s j):Nw C o L n m S H s H s 0 eN:=⟨KpS.refl _ _,h.w,h.f,uZ _,Z,λ_ h=>h,λM e h=>by rwa[zero_add]at h,λ_ h _=>h,λ_ _ h _=>h,λρ h=>⟨h,trivial,λ_=>(Bj _).symm⟩⟩
theorem Nw.trans(U:Nw C o L n m S H s H1 s1 d E)(V:Nw C o L n m S H1 s1 H' s' e E'):Nw C o L n m S H s H' s' (d+e) (E.cat E'):=⟨U.k.trans V.k,V.w,V.f,uY U.lo V.lo,V.sl.trans U.sl,λk h=>V.lv k (U.lv k h),λM i h=>V.c M i (U.c M _ (by rwa[add_assoc]at h)),λg h z=>V.op g (U.op g h λy=>z (vX _ y)) λy=>z (uP _ y),λi g h z=>V.ct i g (U.ct i g h λy=>z (vX _ y)) λy=>z (uP _ y),λρ h=>by
 obtain⟨a,b,c⟩:=V.sat ρ h;obtain⟨a,d,e⟩:=U.sat ρ a;exact⟨a,⟨d,b⟩,λi=>by rw[c,e,AdA];rfl⟩⟩
theorem Nw.wk(U:Nw C o L n m S H s H' s' d E)(l:d<=e)(ho:RL s s.op)(hA:∀g∈E.A,g∈E'.A\/s.nx<=g)(hF:∀ρ,E.F ρ->E'.F ρ/\∀i,E.D ρ i=E'.D ρ i):Nw C o L n m S H s H' s' e E':={U with
 c:=λM i h=>U.c M i ⟨by have:=h.1;omega,by have:=h.2.1;omega,λr hr=>by have:=h.2.2 r hr;omega⟩
 op:=λg h z=>U.op g h λy=>(hA g y).elim z λw=>by have:=(ho g h).2;omega
 ct:=λi g h z=>U.ct i g h λy=>(hA _ y).elim z λw=>by have:=(List.getElem?_eq_some_iff.mp h).1;unfold Ws.nx at w;omega
 sat:=λρ h=>by
  obtain⟨a,b,c⟩:=U.sat ρ h;obtain⟨b,d⟩:=hF ρ b;exact⟨a,b,λi=>by rw[c,d]⟩}
theorem Nw.more(U:Nw C o L n m S H s H' s' d E)(h:∀b∈S,b∈z):Nw C o L n m z H s H' s' d E:={U with k:=U.k.more h}
theorem Nw.then(U:Nw C o L n m (a::L.S) H s H1 s1 d E)(V:Nw C o L n m L.S H1 s1 H' s' e E'):Nw C o L n m (a::L.S) H s H' s' (d+e) (E.cat E'):=U.trans (V.more λb h=>uG _ h)
theorem Cap.le(h:Cap M s j)(l:e<=j):Cap M s e:=⟨by have:=h.1;omega,by have:=h.2.1;omega,λr hr=>by have:=h.2.2 r hr;omega⟩
theorem Nw.hv(U:Nw C o L n m S H s H' s' d E)(h:Hv C o L n m H s j)(l:d+e<=j):Hv C o L n m H' s' e:=⟨U.w,U.f,uY h.nl U.lo,U.sl.trans h.sl,U.c _ _ (h.b.le l)⟩
theorem Nw.same(U:Nw C o L n m S H s H' s' d E)(g:Same H' H1):Nw C o L n m S H s H1 s' d E:={U with k:=U.k.trans (Same.kpS g),w:=U.w.same g}
theorem Nw.new(U:Nw C o L n m S H s H' s' d E)(h:H' a=none)(u:HO):Nw C o L n m S H s (upd H' a u) s' d E:=U.same (Ae h u)
theorem WO.of{w:Str}(h:WO n m s)(hs:s'.sn=s.sn)(hl:s'.lv=s.lv)(a1:RL s' s'.op)(lo:s.gs.length<=s'.gs.length)(hf:FmG n m s.gs.length (w,ns))(l:ns.length<=1000)(hg:∀g∈s'.gs,g∈s.gs\/g=(w,ns)):WO n m s':=by
 refine⟨λg i=>?_,λr hr x hx=>?_,λp hp=>?_,a1⟩
 ·rcases hg g i with z|z
  ·exact⟨(h.g g z).1.more lo,(h.g g z).2⟩
  ·rw[z];exact⟨hf.more lo,l⟩
 ·rw[hs]at hr;exact(h.sn r hr x hx).up lo
 ·rw[hl]at hp;exact(h.lv p hp).up lo
theorem Bi.op{l:List Int}(h:Bi C H o L n s):Bi C H o L n {s with op:=l}:=by
 obtain⟨a,b,c,d,e,f,g,i,j⟩:=h;exact⟨a,b,c,d,e,f,g,i,j⟩
theorem Y0{w:Str}(h:WO n m s)(z:Sat (s.add w ns) ρ):Sat s ρ/\ρ.v s.nx=ρ.g (w,ns):=⟨λi g e=>z i g (by
  unfold Ws.add;rw[uT (List.getElem?_eq_some_iff.mp e).1];exact e),z _ _ (by
  unfold Ws.add Ws.nx;rw[Int.toNat_natCast,uU (uZ _),Nat.sub_self];rfl) λy=>by
  have:=(h.op _ y).2;unfold Ws.nx at this;rw[Int.toNat_natCast]at this;exact absurd this (Int.lt_irrefl _)⟩
theorem Hv.add{w:Str}{ns:List Int}(h:Hv C o L n m H s 1)(k:KpS L.S H H')(W:Bi C H' o L n (s.add w ns))(hf:FmG n m s.gs.length (w,ns))(l:ns.length<=1000):Nw C o L n m L.S H s H' (s.add w ns) 1 (eF λρ=>ρ.v s.nx=ρ.g (w,ns))/\Rng (s.add w ns) s.nx:=by
 have la:=Q4 s w ns;refine⟨⟨k,W,h.f.of rfl rfl (h.f.op.up (by omega)) (by omega) hf l λg hg=>?_,by omega,Z,λ_ h=>h,λM e h=>⟨by have:=h.1;omega,by have:=h.2.1;show s.lv.length+e<=M;omega,λr hr=>by have:=h.2.2 r hr;omega⟩,λ_ h _=>h,λi g h _=>by show(s.gs++_)[i]?=_;rw[uT (List.getElem?_eq_some_iff.mp h).1];exact h,λρ z=>⟨(Y0 h.f z).1,(Y0 h.f z).2,λ_=>(Bj _).symm⟩⟩,by unfold Rng Ws.nx;omega⟩;exact(uW.mp (show g∈s.gs++[(w,ns)] from hg)).imp id vD.mp
def Ws.opn(s:Ws):Ws:={s.add "some" [] with op:=s.nx::s.op}
theorem Hv.lat(h:Hv C o L n m H s 1)(k:KpS L.S H H')(W:Bi C H' o L n (s.add "some" [])):Nw C o L n m L.S H s H' s.opn 1 eN:=by
 have la:=Q4 s "some" [];obtain⟨V,r⟩:=h.add k W (.inr (.inr (.inr ⟨.inr (.inl rfl),RL.nil⟩))) (vY _)
 exact {V with w:=W.op,f:=⟨V.f.g,V.f.sn,V.f.lv,.cons r (h.f.op.up (by show _<=(s.add "some" []).gs.length;omega))⟩,op:=λg z _=>uG _ z,sat:=λρ z=>⟨λi g e y=>z i g (by
   show(s.add "some" []).gs[i]?=_
   unfold Ws.add;rw[uT (List.getElem?_eq_some_iff.mp e).1];exact e) λw=>(vJ.mp w).elim (λw=>by have:=(List.getElem?_eq_some_iff.mp e).1;unfold Ws.nx at w;omega) y,trivial,λ_=>(Bj _).symm⟩}
theorem Hv.fil{w:Str}{ns:List Int}{g:Int}(h:Hv C o L n m H s j)(k:KpS L.S H H')(W:Bi C H' o L n (s.fil g w ns))(hg:g∈s.op)(hw:w ="all" \/ w ="some")(hx:RL s ns)(l:ns.length<=1000):Nw C o L n m L.S H s H' (s.fil g w ns) 0 (eC [g] λρ=>ρ.v g=ρ.g (w,ns)):=by
 have la:=AeT s g w ns;have g0:=h.f.op g hg;unfold Rng Ws.nx at g0;refine⟨k,W,h.f.of rfl rfl (λx hx=>(h.f.op x (mem_filter.mp hx).1).up (by omega)) (by omega) (.inr (.inr (.inr ⟨hw.elim .inl λz=>.inr (.inl z),hx⟩))) l λg' hg=>List.mem_or_eq_of_mem_set (show g'∈s.gs.set g.toNat (w,ns) from hg),by omega,Z,λ_ h=>h,λM e h=>⟨by have:=h.1;omega,by have:=h.2.1;show s.lv.length+e<=M;omega,λr hr=>by have:=h.2.2 r hr;omega⟩,λx hx z=>mem_filter.mpr ⟨hx,uI λy=>z (vD.mpr y)⟩,λi g' e z=>by show(s.gs.set g.toNat (w,ns))[i]?=_;rw[vN λw=>z (vD.mpr (by omega))];exact e,λρ z=>⟨λi g' e y=>z i g' ?_ λw=>y (mem_filter.mp w).1,z _ _ ?_ λw=>uK (mem_filter.mp w).2 (by omega),λ_=>(Bj _).symm⟩⟩
 ·show(s.gs.set g.toNat (w,ns))[i]?=_
  rw[vN (λ(w:g.toNat=i)=>y (by rw[<-w,Int.toNat_of_nonneg g0.1];exact hg))];exact e
 ·show(s.gs.set g.toNat (w,ns))[g.toNat]?=_
  rw[vP (by omega)]
end
theorem Nw.reop{o:Addr}{L:Lc}{m d:Nat}{S:List Addr}{s s':Ws}{g:Int}{w:Str}{ns:List Int}{F:Vn->Prop}(V:Nw C o L n m S H s H' s' d (eC [g] F))(e:s'=s.fil g w ns)(hg:g∈s.op)(hs:RL s s.op):Nw C o L n m S H s H' {s' with op:=s.op} d (eC [g] λ_=>True):={V with
 w:=V.w.op
 f:=⟨V.f.g,V.f.sn,V.f.lv,hs.up V.lo⟩
 op:=λ_ h _=>h
 sat:=λρ z=>⟨λi g' h y=>z i g' (V.ct i g' h λx=>y (by rw[mS x];exact hg)) y,trivial,λi=>by rw[Bj];subst e;rfl⟩}
abbrev N9:Stmt:=Fk Fe 0
abbrev Wi:Stmt:=Fk Fe 1
abbrev Rf:Stmt:=Fk Fe 2
abbrev Abx:Stmt:=Fk Fe 3
abbrev Qk:Stmt:=Fk Fe 4
abbrev Qi:Stmt:=Fk Fe 5
abbrev Su:Stmt:=Fk Fe 6
abbrev Mh:Stmt:=Fk Fe 7
abbrev Qj:Stmt:=Fk Fe 8
abbrev Y7:Stmt:=Fk AeV 0
theorem X5:As ["self","word","numbers"] ["self","word","numbers"] (Ak Wi):=A6 (by trivial)
theorem V0:As ["self"] ["self"] (Ak Rf):=A6 (by trivial)
theorem Adq:As ["self","number","word","numbers"] ["self","number","word","numbers"] (Ak Abx):=A6 (by trivial)
theorem Wj:As ["self","number"] ["self","number"] (Ak Qk):=A6 (by trivial)
theorem Wt:As ["self","numbers"] ["self","numbers"] (Ak Qi):=A6 (by trivial)
theorem Y8:As ["self","numbers"] ["self","numbers"] (Ak Su):=A6 (by trivial)
theorem Wl:As ["self"] ["self"] (Ak Qj):=A6 (by trivial)
theorem Ac3:As ["self","runs","kept","stays"] ["self","runs","kept","stays"] (Ak Y7):=A6 (by trivial)
structure Cj(K:FA)(mg:Str->Option Value)(C CP:Addr):Prop extends Txt mg where
 cl:Cls K C
 nG:D3 K C "gates"
 nS:D3 K C "signs"
 nN:D3 K C "senders"
 nL:D3 K C "leavers"
 clP:Cls K CP
 nR:D3 K CP "runs"
 nK:D3 K CP "kept"
 nT:D3 K CP "stays"
 nE:D3 K CP "rests"
 nC:D3 K CP "codes"
 m_Wired:mg "Wired"= some (.ref CP)
 m_Wiring:mg "Wiring"= some (.ref C)
 m_EN:∃t,mg "ENDED"= some (.int 0 t)
 m_RE:∃t,mg "RESTS"= some (.int 1 t)
 m_LE:∃t,mg "LEAVES"= some (.int 2 t)
def Num(C o:Addr)(L:Lc)(n m:Nat)(Q:VK)(H:Hp)(s:Ws)(F:Vn->Option Bool):Prop:=∀H' s' x,Nw C o L n m L.S H s H' s' 1 (eF λρ=>ρ.v x=F ρ)->Rng s' x->Q (.int x) H'
inductive Wc(C:Addr)(vs:List V)(H:Hp)(Q:VK):Prop
 |mk(o nl':Addr)(w:Str)(ns:List Int)(L:Lc)(n m:Nat)(s:Ws)(_:vs=[.ref o,.str w,.ref nl'])(_:Hv C o L n m H s 1)(_:H nl'=some (.lst (ns.map V.int)))(_:∀H',KpS L.S H H'->Bi C H' o L n (s.add w ns)->Q (.int s.nx) H')
def Jj(C:Addr):Sp:=λvs H Q _=>Wc C vs H Q
inductive Ru(C:Addr)(vs:List V)(H:Hp)(Q:VK):Prop
 |mk(o:Addr)(L:Lc)(n m:Nat)(s:Ws)(_:vs=[.ref o])(_:Hv C o L n m H s 1)(_:∀H',Nw C o L n m L.S H s H' s.opn 1 eN->Q (.int s.nx) H')
def Xi(C:Addr):Sp:=λvs H Q _=>Ru C vs H Q
inductive Vh(C:Addr)(vs:List V)(H:Hp)(Q:VK):Prop
 |mk(o nl':Addr)(g:Int)(w:Str)(ns:List Int)(L:Lc)(n m:Nat)(s:Ws)(_:vs=[.ref o,.int g,.str w,.ref nl'])(_:Hv C o L n m H s 0)(_:H nl'=some (.lst (ns.map V.int)))(_:g∈s.op)(_:(w ="all" \/ w ="some"))(_:RL s ns)(_:ns.length<=1000)(_:∀H' s',Nw C o L n m L.S H s H' s' 0 (eC [g] λρ=>ρ.v g=ρ.g (w,ns))->s'=s.fil g w ns->Q .non H')
def Jb(C:Addr):Sp:=λvs H Q _=>Vh C vs H Q
inductive W8(C:Addr)(vs:List V)(H:Hp)(Q:VK):Prop
 |mk(o:Addr)(g:Int)(L:Lc)(n m:Nat)(s:Ws)(_:vs=[.ref o,.int g])(_:Hv C o L n m H s 1)(_:Rng s g)(_:Num C o L n m Q H s λρ=>nt3 (ρ.v g))
def Nz(C:Addr):Sp:=λvs H Q _=>W8 C vs H Q
def Aab(C:Addr)(f:List (Option Bool)->Option Bool):Sp:=λvs H Q _=>∃(o nl':Addr)(ns:List Int)(L:Lc)(n m:Nat)(s:Ws),vs=[.ref o,.ref nl']/\Hv C o L n m H s 1/\H nl'=some (.lst (ns.map V.int))/\RL s ns/\ns.length<=1000/\Num C o L n m Q H s λρ=>f (ns.map ρ.v)
abbrev G7(C:Addr):Sp:=Aab C anL
abbrev He(C:Addr):Sp:=Aab C orL
theorem Hv.same(h:Hv C o L n m H s d)(g:Same H H'):Hv C o L n m H' s d:={h with w:=h.w.same g}
theorem Num.same{F:Vn->Option Bool}(q:Num C o L n m Q H s F)(g:Same H H'):Num C o L n m Q H' s F:=λH2 s2 x U=>q H2 s2 x {U with k:=(Same.kpS g).trans U.k}
theorem Num.add{w:Str}{F:Vn->Option Bool}(q:Num C o L n m Q H s F)(h:Hv C o L n m H s 1)(hf:FmG n m s.gs.length (w,ns))(l:ns.length<=1000)(k:KpS L.S H H')(W:Bi C H' o L n (s.add w ns))(e:∀ρ:Vn,ρ.g (w,ns)=F ρ):Q (.int s.nx) H':=by
 obtain⟨V,r⟩:=h.add k W hf l;exact q _ _ _ {V with sat:=λρ z=>⟨(V.sat ρ z).1,(V.sat ρ z).2.1.trans (e ρ),(V.sat ρ z).2.2⟩} r
theorem Ab0(h:n<=1000000):n<sizeLine:=vB h (by decide)
section
variable{CP:Addr}
seal PSs PS PE PA PT
theorem Ahj(F:Fun K "gate" "Wiring.gate" Wi f fd)(T:Cj K mg C CP):Ca P w K mg base CX0 1 f fd ["self","word","numbers"] (Jj C):=by
 refine F.ok X5 (λvs H Q E h=>?_) (λcdv A outer s0 H vs Q E hr h=>?_)
 ·obtain⟨o,nl',w,ns,L,n,m,s,rfl,_⟩:=h;rfl
 obtain⟨o,nl',w,ns,L,n,m,s,rfl,hv,a5,q⟩:=h;have W:=hv.w;have hb:=hv.b.1;obtain⟨gvs,ho,hg,hp,rest⟩:=id W;have gl:=PySem.Paired.length hp
 refine⟨_,(Ad (Be (Fq PySem.F.plainAttrs_list PySem.F.slot_list_append PySem.F.type_list_append Cz (Aw (pv 0) rfl) (Aa (Ay (Aa (pv 1) (Aa (Di Gy rfl T.n_tuple (by trivial) (Aa (pv 2) Ab)) Ab))) Ab)))
  (Ah (Ao (A3 Vy (Bu Cm rfl T.n_len PySem.boot_len (Aa (Aw (pv 0) rfl) Ab)) Af)))),?_⟩
 refine⟨ho,T.cl,T.nG,Z,.inl ⟨Z,_,SqL.of hg⟩,nl',_,Z,.inl ⟨SqL.of a5,λt2 a3=>⟨zN2,λt1 a2=>?_⟩⟩⟩;have g1:=Ae a3 (.tup (ns.map V.int));have g2:=Ae a2 (.tup [V.str w,.ref t2]);have z:=g1.trans g2;have W2:=W.same z;refine⟨L.gl,gvs,.ref t1,Z,Z,z _ _ hg,Ab0 (by omega),?_⟩
 have pn:PySem.Paired (GwAt (upd (upd H t2 (.tup (ns.map V.int))) t1 (.tup [V.str w,.ref t2]))) (s.gs++[(w,ns)]) (gvs++[.ref t1]):=by
  refine Dx (by rw[uC,uC,gl];rfl) λj x e=>?_
  rcases lt_or_ge j s.gs.length with hj|hj
  ·rw[uT hj]at e
   obtain⟨y,e1,e2⟩:=Bp hp e;exact⟨y,by rw[uT (by omega)];exact e1,e2.mono z.tp⟩
  ·rw[uU hj]at e
   have a4:j-s.gs.length=0:=by
    have:=(List.getElem?_eq_some_iff.mp e).1;rw[uD]at this;omega
   rw[a4]at e;cases e
   refine⟨.ref t1,by rw[uU (by omega),show j-gvs.length=0 by omega];rfl,t1,t2,Z,qa,g2 _ _ qa⟩
 have W3:=W2.gates (op:=s.op) pn
 have a1:(upd (upd (upd H t2 (.tup (ns.map V.int))) t1 (.tup [V.str w,.ref t2])) L.gl (.lst (gvs++[.ref t1]))) o=some (.ins C L.dx (wsF L)):=by
  have a1:=W3.ho;exact a1
 refine⟨a1,T.cl,T.nG,Z,L.gl,_,Z,.inl (SqL.of qa),_,_,Z,Z,?_⟩
 have e:(((gvs++[V.ref t1]).length:Nat):Int)-1=s.nx:=by
  unfold Ws.nx;rw[uC,uD];omega
 dsimp only;rw[e];exact q _ ((Same.kpS z).trans (KpS.upd uF)) W3
theorem AhL(F:Fun K "later" "Wiring.later" Rf f fd)(T:Cj K mg C CP)(z:Bb P w K mg base 1 C "gate" ["self","word","numbers"] (Jj C)):Ca P w K mg base CX0 2 f fd ["self"] (Xi C):=by
 refine F.ok V0 (λvs H Q E h=>?_) (λcdv A outer s0 H vs Q E hr h=>?_)
 ·obtain⟨o,L,n,m,s,rfl,_⟩:=h;rfl
 obtain⟨o,L,n,m,s,rfl,hv,q⟩:=h;have W:=hv.w;have ho:=W.ho;refine⟨_,(Ah (Ao (Au z hr Al (pv 0) (Aa Ap (Aa (Av Ab) Ab))))),?_⟩;refine⟨ho,Z,zN0,λl hl=>?_⟩;have g:=Ae hl (.lst []);exact⟨o,l,"some",[],L,n,m,s,Z,hv.same g,qa,λH' k W=>q H' (hv.lat ((Same.kpS g).trans k) W)⟩
theorem Afs(F:Fun K "opposite" "Wiring.opposite" Qk f fd)(T:Cj K mg C CP)(aL:Bb P w K mg base 1 C "gate" ["self","word","numbers"] (Jj C)):Ca P w K mg base CX0 2 f fd ["self","number"] (Nz C):=by
 refine F.ok Wj (λvs H Q E h=>?_) (λcdv A outer s0 H vs Q E hr h=>?_)
 ·obtain⟨o,g,L,n,m,s,rfl,_⟩:=h;rfl
 obtain⟨o,g,L,n,m,s,rfl,hv,hg,q⟩:=h;have W:=hv.w;have ho:=W.ho;refine⟨_,(Ah (Ao (Au aL hr Al (pv 0) (Aa Ap (Aa (Av (Aa (pv 1) Ab)) Ab))))),?_⟩;refine⟨ho,Z,zN1,λl hl=>?_⟩;have z:=Ae hl (.lst [V.int g]);exact⟨o,l,"not",[g],L,n,m,s,Z,hv.same z,qa,λH' k W=>(q.same z).add (hv.same z) (.inr (.inr (.inr ⟨.inr (.inr ⟨Z,Z⟩),RL.one hg⟩))) (by show 1<=1000;decide) k W λρ=>rfl⟩
theorem Afz(F:Fun K "every_of" "Wiring.every_of" Qi f fd)(T:Cj K mg C CP)(z:Bb P w K mg base 1 C "gate" ["self","word","numbers"] (Jj C)):Ca P w K mg base CX0 2 f fd ["self","numbers"] (G7 C):=by
 refine F.ok Wt (λvs H Q E h=>?_) (λcdv A outer s0 H vs Q E hr h=>?_)
 ·obtain⟨o,nl',ns,L,n,m,s,rfl,_⟩:=h;rfl
 obtain⟨o,nl',ns,L,n,m,s,rfl,hv,hn,rl,hl,q⟩:=h;have W:=hv.w;have ho:=W.ho;refine⟨_,(Ah (Ao (Au z hr Al (pv 0) (Aa Ap (Aa (pv 1) Ab))))),?_⟩;refine⟨ho,Z,?_⟩;exact⟨o,nl',"all",ns,L,n,m,s,Z,hv,hn,λH' k W=>q.add hv (.inr (.inr (.inr ⟨.inl rfl,rl⟩))) hl k W λρ=>S6 ρ ns⟩
theorem Agp(F:Fun K "some_of" "Wiring.some_of" Su f fd)(T:Cj K mg C CP)(aL:Bb P w K mg base 1 C "gate" ["self","word","numbers"] (Jj C)):Ca P w K mg base CX0 2 f fd ["self","numbers"] (He C):=by
 refine F.ok Y8 (λvs H Q E h=>?_) (λcdv A outer s0 H vs Q E hr h=>?_)
 ·obtain⟨o,nl',ns,L,n,m,s,rfl,_⟩:=h;rfl
 obtain⟨o,nl',ns,L,n,m,s,rfl,hv,hn,rl,hl,q⟩:=h;have W:=hv.w;have ho:=W.ho;refine⟨_,(Ah (Ao (Br (An A1 (Bu Cm rfl T.n_len PySem.boot_len (Aa (pv 1) Ab)) Af (Aq _)) (Aj Bs (pv 1) Af (λ_ _=>rfl)) (Au aL hr Al (pv 0) (Aa Ap (Aa (pv 1) Ab)))))),?_⟩;refine⟨nl',_,Z,.inl (SqL.of hn),Z,A2 (λc=>?_) λc=>?_⟩
 ·have c:ns.length=1:=by
   have:=V.int.inj (uK c);rw[uB]at this;omega
  obtain⟨x,rfl⟩:∃x,ns=[x]:=List.length_eq_one_iff.mp c;refine⟨SqL.of hn,Ac (j:=0) rfl,?_⟩;exact q H s x (hv.nw.wk (vY _) hv.f.op (λ_ z=>nomatch z) λρ _=>⟨(Bj _).symm,λ_=>rfl⟩) (rl x uF)
 ·exact⟨ho,Z,o,nl',"some",ns,L,n,m,s,Z,hv,hn,λH' k W=>q.add hv (.inr (.inr (.inr ⟨.inr (.inl rfl),rl⟩))) hl k W λρ=>L6 ρ ns⟩
theorem Ahh(F:Fun K "fill" "Wiring.fill" Abx f fd)(T:Cj K mg C CP):Ca P w K mg base CX0 1 f fd ["self","number","word","numbers"] (Jb C):=by
 refine F.ok Adq (λvs H Q E h=>?_) (λcdv A outer s0 H vs Q E hr h=>?_)
 ·obtain⟨o,nl',g,w,ns,L,n,m,s,rfl,_⟩:=h;rfl
 obtain⟨o,nl',g,w,ns,L,n,m,s,rfl,hv,a4,a1,hw,rl,hl,q⟩:=h;obtain⟨g0,g1⟩:=hv.f.op g a1;have W:=hv.w;obtain⟨gvs,ho,hg,hp,rest⟩:=id W;have gl:=PySem.Paired.length hp;refine⟨_,(Ah (Fw (Ay (Aa (pv 2) (Aa (Di Gy rfl T.n_tuple (by trivial) (Aa (pv 3) Ab)) Ab))) (Ul (Aw (pv 0) rfl) (pv 1) O1))),?_⟩;refine⟨nl',_,Z,.inl ⟨SqL.of a4,λt2 a3=>⟨zN2,λt1 a2=>?_⟩⟩⟩;have k1:=Ae a3 (.tup (ns.map V.int));have k2:=Ae a2 (.tup [V.str w,.ref t2]);have z:=k1.trans k2;have W2:=W.same z;have gn:g.toNat<gvs.length:=by unfold Ws.nx at g1;omega
 refine⟨z _ _ ho,T.cl,T.nG,Z,L.gl,gvs,g,g.toNat,Z,Z,z _ _ hg,?_,?_⟩
 ·unfold ixN;rw[if_pos g0,if_pos (by omega)]
 have pn:PySem.Paired (GwAt (upd (upd H t2 (.tup (ns.map V.int))) t1 (.tup [V.str w,.ref t2]))) (s.gs.set g.toNat (w,ns)) (gvs.set g.toNat (.ref t1)):=by
  refine Dx (by rw[vK,vK,gl]) λj x e=>?_
  by_cases hj:j=g.toNat
  ·subst hj
   rw[vP (by omega)]at e;cases e
   exact⟨.ref t1,by rw[vP gn],t1,t2,Z,qa,k2 _ _ qa⟩
  ·rw[vN (Ne.symm hj)]at e
   obtain⟨y,e1,e2⟩:=Bp hp e;exact⟨y,by rw[vN (Ne.symm hj)];exact e1,e2.mono z.tp⟩
 exact q _ _ (hv.fil ((Same.kpS z).trans (KpS.upd uF)) (W2.gates pn) a1 hw rl hl) rfl
structure Wr where
 runs:Int
 rests:Int
 codes:List (Int×Int)
def wdV(x:Int)(rv cv:V):List (Str×V):=[("runs",.int x),("kept",.int (x+1)),("stays",.int (x+2)),("rests",rv),("codes",cv)]
inductive WdAt(CP:Addr)(H:Hp)(a:Addr)(r:Wr):Prop
 |mk(dx d:Addr)(ob:Obj)(ha:H a=some (.ins CP dx (wdV r.runs (.int r.rests) (.ref d))))(hd:H d=some (.frz ob (.dK (r.codes.map kvI))))
theorem Bi.fresh(w:Bi C H' o L n s)(k:KpS L.S H H')(na:H' a=none):H a=none:=by
 cases e:H a with
 |none=>rfl
 |some u=>
  have:a∈L.S:=Classical.byContradiction λz=>by rw[k a u z e]at na;cases na
  obtain⟨a6,_,a3,_,_,_,a1,a5,_⟩:=w;rcases vJ.mp this with z|z
  ·rw[z,a3]at na;cases na
  ·rcases vJ.mp z with z|z
   ·rw[z,a5]at na;cases na
   ·obtain⟨j,hj⟩:=getElem?_of_mem z
    have a4:=PySem.Paired.length a1;have a2:=(List.getElem?_eq_some_iff.mp hj).1;obtain⟨y,e1,e2⟩:=Bp a1 (uA (show j<_ by rw[a4];exact a2));rw[hj]at e1;cases e1
    rw[e2]at na;cases na
theorem Pq(ha:H a=some (.ins CP dx fs))(k:KpS [a] H H'):Tp H H':=λb xs e=>k b _ (λz=>by rw[mS z,ha]at e;cases e) e
theorem Bi.obj(w:Bi C H o L n s)(ha:H a=some (.ins CP dx fs))(ao:a≠o)(k:KpS [a] H H'):Bi C H' o L n s:=by
 refine w.keep [a] k (Pq ha k) λb hb=>?_
 rw[mS hb];have off:=w.off ha (λ_ z=>nomatch z) λ_ z=>nomatch z
 obtain⟨gvs,ho,hg,hp,hs,hn,hr,hl,nd⟩:=w;exact⟨ao,Bw ha hs (by intro z;cases z),Bw ha hn (by intro z;cases z),off⟩
inductive R6(CP:Addr)(vs:List V)(H:Hp)(Q:VK):Prop
 |mk(a dx:Addr)(x:Int)(_:vs=[.ref a,.int x,.int (x+1),.int (x+2)])(_:H a=some (.ins CP dx []))(_:∀d H',KpS [a] H H'->H' a=some (.ins CP dx (wdV x .non (.ref d)))->Q .non H')
def Wy(CP:Addr):Sp:=λvs H Q _=>R6 CP vs H Q
def Op3(s:Ws)(x:Int):Prop:=x∈s.op/\x+1∈s.op/\x+2∈s.op
theorem Op3.kp{E:Eff}{x:Int}(h:Op3 s x)(U:Nw C o L n m S H s H' s' d E)(f:∀g∈E.A,g<x\/x+2<g):Op3 s' x:=⟨U.op _ h.1 λz=>by have:=f _ z;omega,U.op _ h.2.1 λz=>by have:=f _ z;omega,U.op _ h.2.2 λz=>by have:=f _ z;omega⟩
theorem Lm(s:Ws):s.opn.nx=s.nx+1:=by unfold Ws.nx Ws.opn;show((s.add "some" []).gs.length:Int)=_;rw[Q4];rfl
inductive W6(C CP:Addr)(vs:List V)(H:Hp)(Q:VK):Prop
 |mk(o:Addr)(L:Lc)(n m:Nat)(s:Ws)(_:vs=[.ref o])(_:Hv C o L n m H s 3)(_:∀a dx cv x H' s',Nw C o L n m L.S H s H' s' 3 eN->H a=none->H' a=some (.ins CP dx (wdV x .non cv))->Op3 s' x->s.nx<=x->Q (.ref a) H')
def AaK(C CP:Addr):Sp:=λvs H Q _=>W6 C CP vs H Q
theorem AhV(F:Fun K "__init__" "Wired.__init__" Y7 f fd)(T:Cj K mg C CP):Ca P w K mg base CX0 1 f fd ["self","runs","kept","stays"] (Wy CP):=by
 refine F.ok Ac3 (λvs H Q E h=>?_) (λcdv A outer s0 H vs Q E hr h=>?_)
 ·obtain⟨a,dx,x,rfl,_⟩:=h;rfl
 obtain⟨a,dx,x,rfl,ha,q⟩:=h
 refine⟨_,(Ad (Cc (pv 0) (pv 1) rfl)
  (Ad (Cc (pv 0) (pv 2) rfl)
  (Ad (Cc (pv 0) (pv 3) rfl)
  (Ad (Cc (pv 0) B5 rfl)
  (Ah (Cc (pv 0) Md rfl)))))),?_⟩
 refine⟨ha,T.clP,T.nR,(by show 0<1000;decide),?_⟩;refine⟨qa,T.clP,T.nK,(by show 1<1000;decide),?_⟩;refine⟨qa,T.clP,T.nT,(by show 2<1000;decide),?_⟩;refine⟨qa,T.clP,T.nE,(by show 3<1000;decide),?_⟩;refine λd hd=>?_
 have a1:a≠d:=λe=>by rw[<-e,qa]at hd;cases hd
 refine⟨(by rw[upd_ne a1];exact qa),T.clP,T.nC,(by show 4<1000;decide),?_⟩;refine q d _ ?_ qa;have z:∀(H1:Hp)(u:HO),KpS [a] H1 (upd H1 a u):=λH1 u=>KpS.upd uF
 exact((((((z _ _).trans (z _ _)).trans (z _ _)).trans (z _ _)).trans (Same.kpS (Ae hd _)))).trans (z _ _)
theorem AgU(F:Fun K "new_part" "Wiring.new_part" Qj f fd)(T:Cj K mg C CP)(a3:Mk K CP fI)(GI:Ca P w K mg base CX0 1 fI a1 ["self","runs","kept","stays"] (Wy CP))(bI:Dh K a1 ["self","runs","kept","stays"] [])(dG:Bb P w K mg base 2 C "later" ["self"] (Xi C)):Ca P w K mg base CX0 3 f fd ["self"] (AaK C CP):=by
 refine F.ok Wl (λvs H Q E h=>?_) (λcdv A outer s0 H vs Q E hr h=>?_)
 ·obtain⟨o,L,n,m,s,rfl,_⟩:=h;rfl
 obtain⟨o,L,n,m,s,rfl,hv,q⟩:=h;refine⟨_,(Ah (Ao (Xa a3 GI (hr.mono (by decide)) rfl T.m_Wired bI .nil Al (Aa (Jk dG hr Al (pv 0)) (Aa (Jk dG hr Al (pv 0)) (Aa (Jk dG hr Al (pv 0)) Ab)))))),?_⟩;have ho:=hv.w.ho;refine⟨ho,Z,o,L,n,m,s,Z,hv.nw (S:=L.S) |>.hv hv (by decide),λH1 U1=>?_⟩;have a2:=U1.w.ho;refine⟨a2,Z,o,L,n,m,_,Z,U1.hv hv (by decide),λH2 U2=>?_⟩;have V2:=U1.trans U2;have a5:=U2.w.ho;refine⟨a5,Z,o,L,n,m,_,Z,V2.hv hv (by decide),λH3 U3=>?_⟩;have V3:=V2.trans U3;refine λa dx na nd ne=>?_
 have sA:Same H3 (upd (upd H3 dx (.own a)) a (.ins CP dx [])):=λb u e=>by
  rw[upd_ne (ne_of_none e na),upd_ne (ne_of_none e nd)];exact e
 refine⟨a,dx,s.nx,by rw[Lm,Lm,Lm,Int.add_assoc];rfl,qa,λd H4 k4 e4=>⟨Z,?_⟩⟩;have fa:=V3.w.fresh V3.k na;have ao:a≠o:=λz=>by obtain⟨_,a4,_⟩:=V3.w;rw[z,a4]at na;cases na
 have V4:=V3.wk (E':=eN) (uZ _) hv.f.op (λ_ z=>nomatch z) λρ _=>⟨trivial,λ_=>rfl⟩
 refine q a dx _ _ H4 _ {V4 with k:=λb u hb e=>k4 b u (λz=>by rw[mS z,fa]at e;cases e) (sA b u (V3.k b u hb e)),w:=(V3.w.same sA).obj qa ao k4} fa e4 ⟨?_,?_,?_⟩ (Int.le_refl _)
 ·exact uG _ (uG _ uF)
 ·rw[<-Lm];exact uG _ uF
 ·rw[show s.nx+2=s.opn.opn.nx by rw[Lm,Lm,Int.add_assoc];rfl];exact uF
def Gg(ps:List (Int×Int))(c:Int):List Int:=(ps.filter λp=>decide (p.1=c)).map (·.2)
def cvl(cs:Cd)(ρ:Vn)(c:Int):Option Bool:=((cs.lookup c).map ρ.v).getD (some false)
def orC(ps:Cd)(ρ:Vn)(c:Int):Option Bool:=orL ((Gg ps c).map ρ.v)
def PrAt(H:Hp)(p:Int×Int)(v:V):Prop:=∃t,v=.ref t/\H t=some (.tup [.int p.1,.int p.2])
theorem PrAt.mono(h:PrAt H p v)(T:Tp H H'):PrAt H' p v:=by
 obtain⟨t,e,h1⟩:=h;exact⟨t,e,T _ _ h1⟩
theorem Bi.offN(w:Bi C H o L n s)(e:H b=none):b∉L.S:=λz=>by
 obtain⟨a6,_,a3,_,_,_,a1,a5,_⟩:=w;rcases vJ.mp z with z|z
 ·rw[z,a3]at e;cases e
 ·rcases vJ.mp z with z|z
  ·rw[z,a5]at e;cases e
  ·obtain⟨j,hj⟩:=getElem?_of_mem z
   have a4:=PySem.Paired.length a1;have a2:=(List.getElem?_eq_some_iff.mp hj).1;obtain⟨y,e1,e2⟩:=Bp a1 (uA (show j<_ by rw[a4];exact a2));rw[hj]at e1;cases e1
   rw[e2]at e;cases e
theorem Bi.atD(w:Bi C H o L n s)(hd:H d=some (.dK kvs))(dS:d∉L.S)(u:HO):Bi C (upd H d u) o L n s:=by
 refine w.keep [d] (KpS.upd uF) (λb xs e=>by rw[upd_ne (Bw e hd (by intro z;cases z))];exact e) λb hb=>?_
 rw[mS hb];obtain⟨gvs,ho,hg,hp,hs,hn,hr,hl,nd⟩:=w;exact⟨Bw hd ho (by intro z;cases z),Bw hd hs (by intro z;cases z),Bw hd hn (by intro z;cases z),dS⟩
def CO(s:Ws)(cs:Cd):Prop:=CR s cs/\(cs.map (·.1)).Pairwise (· < ·)
theorem Jy:∀(l:List Int)(a b:Int),a<=b->l.Pairwise (· < ·)->(∀x∈l,a<=x/\x<b)->(l.length:Int)<=b-a
 |[],a,b,h,_,_=>by simp;omega
 |x::r,a,b,h,hp,hx=>by
  have h1:=hx x uF;have h2:=vQ.mp hp;have:=Jy r (x+1) b (by omega) h2.2 λy z=>⟨by have:=h2.1 y z;omega,(hx y (uG _ z)).2⟩
  rw[uV];omega
theorem CO.len(h:CO s cs):cs.length<=6:=by
 have:=Jy (cs.map (·.1)) 0 6 (by decide) h.2 λx z=>by
  obtain⟨p,hp,rfl⟩:=vT.mp z;have:=(h.1 p hp).1;omega
 rw[uB]at this;omega
theorem KpS.drop(k:KpS (d::S) H H')(h:H d=none):KpS S H H':=λb u nb e=>k b u (λz=>(vJ.mp z).elim (ne_of_none e h) nb) e
theorem CO.up(h:CO s cs)(l:s.gs.length<=s'.gs.length):CO s' cs:=⟨h.1.up l,h.2⟩
theorem Tx{cs:List Int}{co:Cd}{i:Nat}(rise:cs.Pairwise (· < ·))(a1:i<cs.length)(ks:co.map (·.1)=cs.take i):∀p∈co,¬p.1=cs[i]:=λp hp z=>by
 have hm:p.1∈co.map (·.1):=mem_map_of_mem hp;rw[ks]at hm;obtain⟨j,hj⟩:=getElem?_of_mem hm;rw[List.getElem?_take]at hj;split at hj
 ·rename_i a2
  obtain⟨h1,h2⟩:=List.getElem?_eq_some_iff.mp hj;have:=List.pairwise_iff_getElem.mp rise j i h1 a1 a2;rw[h2,z]at this;exact absurd this (Int.lt_irrefl _)
 ·cases hj
theorem Ot(a b:Cd)(c:Int):Gg (a++b) c=Gg a c++Gg b c:=by unfold Gg;rw[vM,uN]
theorem Uv(h:p.1=c):Gg [p] c=[p.2]:=by simp[Gg,h]
theorem Yu(h:¬p.1=c):Gg [p] c=[]:=by simp[Gg,h]
theorem Lp{l:Cd}{k:Int}(h:k∈l.map (·.1)):∃v,l.lookup k=some v:=by
 induction l with
 |nil=>cases h
 |cons p r ih=>
  obtain⟨p1,p2⟩:=p;rw[vU]
  by_cases e:k=p1
  ·subst e;exact⟨p2,by rw[beq_self_eq_true]⟩
  ·have:(k==p1)=false:=by simpa using e
   rw[this];rcases vJ.mp h with z|z
   ·exact absurd z e
   ·exact ih z
theorem Jh{l:Cd}{k v:Int}(h:l.lookup k=some v):(k,v)∈l:=by
 obtain⟨a,b,rfl,_⟩:=List.lookup_eq_some_iff.mp h;exact uP _ uF
theorem Aaa{co:Cd}{ρ:Vn}{G:Int->Option Bool}{c:Int}(f:∀p∈co,ρ.v p.2=G p.1)(h:c∉co.map (·.1)->G c=some false):cvl co ρ c=G c:=by
 unfold cvl;cases e:co.lookup c with
 |some g=>exact f (c,g) (Jh e)
 |none=>exact(h λz=>by obtain⟨v,hv⟩:=Lp z;rw[hv]at e;cases e).symm
inductive Ug(C:Addr)(vs:List V)(H:Hp)(Q:VK):Prop
 |mk(o pl:Addr)(ps:Cd)(pvs:List V)(L:Lc)(n m:Nat)(s:Ws)(_:vs=[.ref o,.ref pl])(_:Hv C o L n m H s 6)(_:H pl=some (.lst pvs))(_:pl∉L.S)(_:PySem.Paired (PrAt H) ps pvs)(_:ps.length<64)(_:CR s ps)(_:∀d ob H' s' cs,Nw C o L n m L.S H s H' s' 6 (eF λρ=>∀c,cvl cs ρ c=orC ps ρ c)->H d=none->H' d=some (.frz ob (.dK (cs.map kvI)))->CO s' cs->Q (.ref d) H')
def J6(C:Addr):Sp:=λvs H Q _=>Ug C vs H Q
theorem Nh:As ["self","pairs","codes","code"] ["self","pairs"] (Ak Mh):=A6 (by trivial)
theorem Ago(F:Fun K "joined" "Wiring.joined" Mh f fd)(T:Cj K mg C CP)(aE:Bb P w K mg base 2 C "some_of" ["self","numbers"] (He C)):Ca P w K mg base CX0 3 f fd ["self","pairs"] (J6 C):=by
 refine F.ok Nh (λvs H Q E h=>?_) (λcdv A outer s0 H vs Q E hr h=>?_)
 ·obtain⟨o,pl,ps,pvs,L,n,m,s,rfl,_⟩:=h;rfl
 obtain⟨o,pl,ps,pvs,L,n,m,s,rfl,hv,a7,d5,a9,b7,b5,q⟩:=h;have hu:=vB (add_le_add_left (show 1<=64 by decide) _) hr.units;have lp:=PySem.Paired.length a9;have b9:pvs.length<=sizeLine:=by rw[<-lp];exact uY (le_of_lt b7) (by decide)
 refine⟨_,(Ad (Ar (i:=2) Nh.nd rfl (Or.inl rfl) Md)
  (Ad (Fa PassesOwn.never rfl (B6 (Gd rfl rfl T.n_sorted rfl T.n_set (Dc (g:=(Bq 0)) (tc:=Dy) (te:=(tOp (Fc K) (A5 0) (tC (.int 0)))) ["pair"] [] rfl (Bz (Ak Mh) ["self","pairs","codes","code"] (by trivial)) (B6 (pv 1)) (λs2 H2 fp cl C=>Az (i:=0) (show Nodup [("pair": Str)] from by trivial) rfl (Or.inl rfl)) (Bg (by decide)) (λs2 H2 fp cl C=>Ep) (λs2 H2 fp cl C=>(Aj Ag (pv 0) Af (λ_ _=>rfl)))))) (Az (i:=3) Nh.nd rfl (Or.inr rfl))
   (Ah (Q1 hu (pv 2) (pv 3) (Au aE hr Al (pv 0) (Aa (Dc (g:=(Bq 0)) (tc:=(Fo (tOp rEq (tOp (Fc K) (A5 0) (tC (.int 0))) (A5 1)))) (te:=(tOp (Fc K) (A5 0) (tC (.int 1)))) ["pair"] [("code",3)] rfl (Bz (Ak Mh) ["self","pairs","codes","code"] (by trivial)) (B6 (pv 1)) (λs2 H2 fp cl C=>Az (i:=0) (show Nodup [("pair": Str),("code": Str)] from by trivial) rfl (Or.inl rfl)) (Bg (by decide)) (λs2 H2 fp cl C=>Dk (An A1 (Aj Ag (pv 0) Af (λ_ _=>rfl)) (pv 1) (Aq _))) (λs2 H2 fp cl C=>(Aj Ag (pv 0) Af (λ_ _=>rfl)))) Ab)) rfl)))
  (Ah (Ao (Pz (pv 2)))))),?_⟩
 refine λd hd=>?_
 have b2:pl∉d::L.S:=λz=>(vJ.mp z).elim (ne_of_none a7 hd) d5
 have dS:=hv.w.offN hd;have U1:=(hv.nw (S:=d::L.S)).new hd (.dK []);have d4:=qa (H:=H) (a:=d) (o:=.dK []);have a6:=U1.k _ _ b2 a7;have c5:=Paired.mapP a9 λ_ _ a=>a.mono (Ae hd (.dK [])).tp
 generalize upd H d (.dK [])=H1 at *;refine⟨pl,Z,⟨_,SqL.of a6⟩,Cn (K:=K) (xs:=pvs) (λi ys H'=>H'=H1/\ys=((ps.take i).map (·.1)).map V.int) ⟨Z,Z⟩ b9 (λi ys H' hh=>by rw[hh.1];exact SqL.of a6) ?_ ?_⟩
 ·rintro i x ys H' N hi ⟨rfl,rfl⟩ hN a4
  have a1:i<ps.length:=by have:=(List.getElem?_eq_some_iff.mp hi).1;omega
  obtain⟨y,e1,t,rfl,et⟩:=Bp c5 (uA a1);rw[hi]at e1;cases e1
  refine⟨SqT.of et,Ac (j:=0) rfl,hN _ _ ?_ ⟨Z,?_⟩⟩
  ·rw[uC,uD];omega
  ·rw[uX,uA a1,uN,uN];rfl
 rintro ys H' a4 ⟨rfl,rfl⟩ D0 c4;rw[uQ (by omega)];have U2:=U1.new c4 (.lst ((ps.map (·.1)).map V.int));have b3:=(Ae c4 (.lst ((ps.map (·.1)).map V.int))) _ _ d4;refine⟨D0,ps.map (·.1),Z,SqL.of qa,by rw[uB];exact b7,λl2 a3=>?_⟩;have U3:=U2.new a3 (.lst ((nub (ps.map (·.1))).map V.int));have b8:=qa (H:=upd H' D0 (.lst ((ps.map (·.1)).map V.int))) (a:=l2) (o:=.lst ((nub (ps.map (·.1))).map V.int));have d2:=(Ae a3 (.lst ((nub (ps.map (·.1))).map V.int))) _ _ b3;have c9:=U2.w.offN a3;have d3:=(ne_of_none b3 a3).symm;generalize upd (upd H' D0 (.lst ((ps.map (·.1)).map V.int))) l2 (.lst ((nub (ps.map (·.1))).map V.int))=H3 at *;have rise:(nub (ps.map (·.1))).Pairwise (· < ·):=G3 _
 have hk:∀c∈nub (ps.map (·.1)),0<=c/\c<=5:=λc hc=>by
  obtain⟨p,hp,rfl⟩:=vT.mp (Bc.mp hc);exact(b5 p hp).1
 have c8:∀p∈ps,∀{c:Int},p.1=c->c∈nub (ps.map (·.1)):=λp hp c e=>Bc.mpr (e▸mem_map_of_mem hp)
 generalize nub (ps.map (·.1))=cs at *
 have l6:cs.length<=6:=by
  have:=Jy cs 0 6 (by decide) rise λx hx=>by have:=hk x hx;omega
  omega
 refine⟨l2,Z,⟨_,SqL.of b8⟩,F0 (K:=K) (a:=l2) (xs:=cs.map V.int) (λi σ H'=>∃x3 s' co,σ=[some (.ref o),some (.ref pl),some (.ref d),x3]/\Nw C o L n m (d::L.S) H s H' s' i (eF λρ=>∀p∈co,ρ.v p.2=orC ps ρ p.1)/\H' l2=some (.lst (cs.map V.int))/\H' d=some (.dK (co.map kvI))/\CR s' co/\co.map (·.1)=cs.take i) ⟨none,s,[],Z,U3.wk (vY _) hv.f.op (λ_ z=>nomatch z) (λρ _=>⟨λ_ z=>(nomatch z),λ_=>rfl⟩),b8,d2,λp hp=>(nomatch hp),Z⟩ (λi σ H' _ ⟨_,_,_,_,_,h,_⟩=>SqL.of h) ?_ ?_⟩
 ·rintro i x σ H4 hi ⟨x3,s4,co,rfl,U4,b6,a2,a8,ks⟩
  have a1:i<cs.length:=by have:=(List.getElem?_eq_some_iff.mp hi).1;rwa[uB]at this
  rw[uH,uA a1]at hi;cases hi
  have a5:=U4.k _ _ b2 a7;have c6:=Paired.mapP a9 λ_ _ a=>a.mono (hv.w.tp (U4.k.drop hd))
  have c7:=U4.w.ho;refine⟨c7,Z,?_⟩;refine⟨pl,Z,⟨_,SqL.of a5⟩,Cn (K:=K) (xs:=pvs) (λj ys H'=>H'=H4/\∃ns:List Int,ys=ns.map V.int/\RL s ns/\ns=Gg (ps.take j) cs[i]) ⟨Z,[],Z,.nil,Z⟩ b9 (λi ys H' hh=>by rw[hh.1];exact SqL.of a5) ?_ ?_⟩
  ·rintro j x ys H' N hj ⟨rfl,ns,rfl,rl,en⟩ hN a4
   have ex:ps.take (j+1)=ps.take j++[ps[j]'(by have:=(List.getElem?_eq_some_iff.mp hj).1;omega)]:=by rw[uX,uA];rfl
   have b1:j<ps.length:=by have:=(List.getElem?_eq_some_iff.mp hj).1;omega
   obtain⟨y,e1,t,rfl,et⟩:=Bp c6 (uA b1);rw[hj]at e1;cases e1
   refine⟨SqT.of et,Ac (j:=0) rfl,Z,A2 (λz=>?_) λz=>hN _ _ (by omega) ⟨Z,ns,Z,rl,by rw[ex,Ot,Yu λy=>z (uI (congrArg V.int y)),vH];exact en⟩⟩;refine⟨SqT.of et,Ac (j:=1) rfl,hN _ _ (by rw[uC,uD];omega) ⟨Z,ns++[(ps[j]).2],by rw[uN];rfl,λx hx=>(uW.mp hx).elim (rl x) λz=>?_,by rw[ex,Ot,Uv (V.int.inj (uK z)),en]⟩⟩;rw[mS z];exact(b5 _ (vI b1)).2
  rintro ys H' a4 ⟨rfl,ns,rfl,rl,en⟩ D1 b4;rw[uQ (by omega)]at en;rw[uB]at a4;have U5:=U4.new b4 (.lst (ns.map V.int));have g5:=Ae b4 (.lst (ns.map V.int));refine⟨o,D1,ns,L,n,m,s4,Z,U5.hv hv (by omega),qa,rl.up U4.lo,by omega,λH6 s6 y U6 hy=>?_⟩;have V6:=U5.then U6;have c3:=U6.k _ _ dS (g5 _ _ a2);have nk:=Tx rise a1 ks
  have lc:co.length=i:=by
   have:=congrArg length ks;rw[uB,vE]at this;omega
  refine⟨d,_,Z,.inl ⟨_,Sum.inl cs[i],c3,Z,?_,Z⟩,?_⟩
  ·rw[uB]
   exact vB (show _<=64 by omega) (by decide)
  refine⟨_,s6,co++[(cs[i],y)],Z,{V6.wk (E':=eF λρ=>∀p∈co++[(cs[i],y)],ρ.v p.2=orC ps ρ p.1) (uZ _) hv.f.op (λ_ z=>nomatch z) (λρ ⟨f1,f2⟩=>⟨λp hp=>?_,λ_=>rfl⟩) with k:=V6.k.trans (KpS.upd uF),w:=V6.w.atD c3 dS _},by rw[upd_ne d3];exact U6.k _ _ c9 (g5 _ _ b6),by rw[qa,<-putI_map,putI_new nk],(a8.up U6.lo).app λp hp=>?_,?_⟩
  ·rcases uW.mp hp with z|z
   ·exact f1 p z
   ·rw[mS z];exact f2.trans (by rw[en];rfl)
  ·rw[mS hp]
   exact⟨hk _ (vI a1),hy⟩
  ·rw[uN,ks,uX,uA a1]
   rfl
 ·rintro σ H4 ⟨x3,s4,co,rfl,U4,b6,a2,a8,ks⟩
  rw[uB,uQ (uZ _)]at ks;rw[uB]at U4;refine⟨d,_,Z,a2,λob=>?_⟩
  have nil:∀c,c∉cs->Gg ps c=[]:=λc z=>by
   unfold Gg;rw[List.filter_eq_nil_iff.mpr,map_nil];exact λp hp e=>z (c8 p hp (uK e))
  exact q d ob _ s4 co {U4.wk (E':=eF λρ=>∀c,cvl co ρ c=orC ps ρ c) l6 hv.f.op (λ_ z=>nomatch z) (λρ f=>⟨λc=>Aaa (G:=orC ps ρ) f λz=>by unfold orC;rw[nil c (ks▸z)];rfl,λ_=>rfl⟩) with k:=(U4.k.trans (KpS.upd uF)).drop hd,w:=U4.w.atD a2 dS _} hd qa ⟨a8,by rw[ks];exact rise⟩
theorem Bi.lev(w:Bi C H o L n s)(k v:Int):Bi C (upd H L.ld (.dK (Fd (s.lv.map kvI) (Sum.inl k) (V.int v)))) o L n (s.lev k v):=by
 obtain⟨gvs,ho,hg,hp,hs,hn,hr,hl,nd⟩:=w;have tp:Tp H (upd H L.ld (.dK (Fd (s.lv.map kvI) (Sum.inl k) (V.int v)))):=λb xs e=>by rw[upd_ne (Bw e hl (by intro z;cases z))];exact e
 refine⟨gvs,by rw[upd_ne (Bw ho hl (by intro z;cases z))];exact ho,by rw[upd_ne (Bw hg hl (by intro z;cases z))];exact hg,Paired.mapP hp λ_ _ a=>a.mono tp,by rw[upd_ne (Bw hs hl (by intro z;cases z))];exact hs,by rw[upd_ne (Bw hn hl (by intro z;cases z))];exact hn,Paired.mapP hr λ_ _ a=>by rw[upd_ne (Bw a hl (by intro z;cases z))];exact a,?_,nd⟩;rw[qa];show _=some (HO.dK ((Il s.lv k v).map kvI));rw[putI_map]
theorem Ab8{k:Int}(h:p∈Il l k v):p∈l\/p.2=v:=by
 unfold Il at h;split at h
 ·obtain⟨q,hq,e⟩:=vT.mp h
  split at e
  ·exact .inr (by rw[<-e])
  ·exact .inl (by rw[<-e];exact hq)
 ·exact(uW.mp h).imp id λz=>by rw[mS z]
theorem Vb(l:Cd)(k v:Int):k∈(Il l k v).map (·.1)/\(∀j∈l.map (·.1),j∈(Il l k v).map (·.1))/\(Il l k v).length<=l.length+1:=by
 unfold Il;split
 ·rename_i h
  obtain⟨p,hp,e⟩:=any_eq_true.mp h
  have hk:∀q∈l,q.1∈(l.map λp=>if p.1=k then(p.1,v) else p).map (·.1):=λq z=>by
   rw[map_map];refine vT.mpr ⟨q,z,?_⟩;show(if q.1=k then(q.1,v) else q).1=q.1;split<;>rfl
  refine⟨uK e▸hk p hp,λj hj=>?_,by rw[uB];exact le_succ _⟩;obtain⟨q,z,rfl⟩:=vT.mp hj;exact hk q z
 ·refine⟨?_,λj hj=>?_,by rw[uC];exact uZ _⟩
  ·rw[uN];exact uP _ (vD.mpr rfl)
  ·rw[uN];exact vX _ hj
theorem Bi.objOff{x:Int}(w:Bi C H o L n s)(ha:H a=some (.ins CP dx (wdV x rv cv))):a≠o/\a∉L.S:=by
 refine⟨?_,w.off ha (λ_ z=>nomatch z) λ_ z=>nomatch z⟩;have ho:=w.ho;refine Bw ha ho λz=>?_
 have:=(HO.ins.inj z).2.2;unfold wdV wsF at this;simp at this
theorem Bi.setA{x:Int}(w:Bi C H o L n s)(ha:H a=some (.ins CP dx (wdV x rv cv)))(u:HO):Bi C (upd H a u) o L n s:=w.obj ha (w.objOff ha).1 (KpS.upd uF)
theorem Bi.offF{u:HO}(w:Bi C H o L n s)(e:H d=some (.frz ob u)):d∉L.S:=w.off e (λ_ z=>nomatch z) λ_ z=>nomatch z
theorem Nw.lev{L:Lc}{m d:Nat}{S:List Addr}{s s':Ws}{E:Eff}{k g:Int}(U:Nw C o L n m S H s H' s' d E)(h:L.ld∈S)(hg:Rng s' g):Nw C o L n m S H s (upd H' L.ld (.dK (Fd (s'.lv.map kvI) (Sum.inl k) (V.int g)))) (s'.lev k g) (d+1) E:=
 have z:=Vb s'.lv k g
 ⟨U.k.trans (KpS.upd h),U.w.lev k g,⟨U.f.g,U.f.sn,λp hp=>(Ab8 hp).elim (U.f.lv p) λe=>by rw[e];exact hg,U.f.op⟩,U.lo,U.sl,λj hj=>z.2.1 j (U.lv j hj),λM e c=>by
  have c:=U.c M (1+e) (by rwa[add_assoc]at c);refine⟨by have:=c.1;show s'.gs.length+e<=M;omega,by have:=c.2.1;have:=z.2.2;show(Il s'.lv k g).length+e<=M;omega,λr hr=>by have:=c.2.2 r hr;omega⟩,U.op,U.ct,U.sat⟩
theorem Nw.setA{E:Eff}{x:Int}(U:Nw C o L n m (a::S) H s H' s' d E)(ha:H' a=some (.ins CP dx (wdV x rv cv)))(u:HO):Nw C o L n m (a::S) H s (upd H' a u) s' d E:={U with k:=U.k.trans (KpS.upd uF),w:=U.w.setA ha u}
theorem Nw.wk0{e:Nat}{E:Eff}{F:Vn->Prop}(U:Nw C o L n m S H s H' s' d E)(l:d<=e)(ho:RL s s.op)(hA:E.A=[])(hF:∀ρ,E.F ρ->F ρ)(hD:∀ρ i,E.D ρ i=some false):Nw C o L n m S H s H' s' e (eF F):=U.wk l ho (λg z=>by rw[hA]at z;cases z) λρ f=>⟨hF ρ f,hD ρ⟩
theorem Nw.ld{L:Lc}:L.ld∈L.S:=uG _ uF
inductive Ud(C CP:Addr)(vs:List V)(H:Hp)(Q:VK):Prop
 |mk(o a dx:Addr)(k mem comes x:Int)(rv cv:V)(L:Lc)(n m:Nat)(s:Ws)(_:vs=[.ref o,.int k,.ref a,.int mem,.int comes])(_:Hv C o L n m H s 4)(_:H a=some (.ins CP dx (wdV x rv cv)))(_:(Rng s (x+1)/\Rng s (x+2)/\Rng s mem/\Rng s comes))(_:∀H' s',Nw C o L n m L.S H s H' s' 4 eN->k∈s'.lv.map (·.1)->Q .non H')
def Ty(C CP:Addr):Sp:=λvs H Q _=>Ud C CP vs H Q
inductive AaX(C CP:Addr)(vs:List V)(H:Hp)(Q:VK):Prop
 |mk(o a:Addr)(c:Int)(r:Wr)(L:Lc)(n m:Nat)(s:Ws)(_:vs=[.ref o,.ref a,.int c])(_:Hv C o L n m H s 1)(_:WdAt CP H a r)(_:CR s r.codes)(_:Num C o L n m Q H s λρ=>cvl r.codes ρ c)
def Va(C CP:Addr):Sp:=λvs H Q _=>AaX C CP vs H Q
theorem Oq(l:List (Int×Int))(c:Int):J7 (l.map kvI) (Sum.inl c)=(l.lookup c).map V.int:=by
 induction l with
 |nil=>rfl
 |cons p r ih=>
  rw[vS]
  by_cases h:p.1=c
  ·rw[Lx (show(kvI p).1=Sum.inl c by rw[<-h];rfl)]
   obtain⟨p1,p2⟩:=p;cases h
   rw[List.lookup_cons_self];rfl
  ·rw[L0 (show ¬(kvI p).1=Sum.inl c from λz=>h (Sum.inl.inj z)),ih]
   obtain⟨p1,p2⟩:=p;have:(c==p1)=false:=by simpa using λz=>h z.symm
   rw[vU,this]
theorem Ni{l:Cd}{k v:Int}(h:l.lookup k=some v):∃p∈l,p.2=v:=by
 induction l with
 |nil=>cases h
 |cons p r ih=>
  obtain⟨p1,p2⟩:=p;rw[vU]at h;split at h
  ·cases h;exact⟨_,uF,Z⟩
  ·obtain⟨q,z,e⟩:=ih h;exact⟨q,uG _ z,e⟩
theorem AgC(F:Ax K mg "wire_leaving" ["wiring","rest","whole","memory","comes"] Gi)(T:Cj K mg C CP)(aA:Bb P w K mg base 2 C "every_of" ["self","numbers"] (G7 C))(aE:Bb P w K mg base 2 C "some_of" ["self","numbers"] (He C)):Ai P w K mg base 3 "wire_leaving" ["wiring","rest","whole","memory","comes"] (Ty C CP):=by
 refine F.ok Hn (λvs H Q E h=>?_) (λf cdv A outer s0 H vs Q E hr h=>?_)
 ·obtain⟨o,a,dx,k,mem,comes,x,rv,cv,L,n,m,s,rfl,_⟩:=h;rfl
 obtain⟨o,a,dx,k,mem,comes,x,rv,cv,L,n,m,s,rfl,hv,ha,⟨hy,hz,hm,hc⟩,q⟩:=h;have hu:=vB (add_le_add_left (show 1<=64 by decide) _) hr.units;have aS:=(hv.w.objOff ha).2
 refine⟨_,(Ad (Ar (i:=5) Hn.nd rfl (Or.inl rfl) (Au aA hr Al (pv 0) (Aa (Av (Aa (pv 4) (Aa (Aw (pv 2) rfl) Ab))) Ab)))
  (Ad (Ar (i:=6) Hn.nd rfl (Or.inl rfl) (Au aA hr Al (pv 0) (Aa (Av (Aa (pv 3) (Aa (Aw (pv 2) rfl) Ab))) Ab)))
  (Ah (Q1 hu (Aw (pv 0) rfl) (pv 1) (Au aE hr Al (pv 0) (Aa (Av (Aa (pv 5) (Aa (pv 6) Ab))) Ab)) rfl)))),?_⟩
 have ho:=hv.w.ho;refine⟨ho,Z,ha,T.clP,T.nK,Z,zN2,λl1 h1=>?_⟩;have z:=(hv.nw (S:=L.S)).new h1 (.lst [V.int comes,.int (x+1)]);refine⟨o,l1,[comes,x+1],L,n,m,s,Z,z.hv hv (by decide),qa,.two hc hy,(by show 2<=1000;decide),λH1 s1 i1 V1 r1=>?_⟩;have z:=z.trans V1;have a1:=V1.w.ho;refine⟨a1,Z,z.k _ _ aS ha,T.clP,T.nT,Z,zN2,λl2 h2=>?_⟩;have U2:=z.new h2 (.lst [V.int mem,.int (x+2)]);refine⟨o,l2,[mem,x+2],L,n,m,s1,Z,U2.hv hv (by decide),qa,.two (hm.up z.lo) (hz.up z.lo),(by show 2<=1000;decide),λH2 s2 i2 V2 r2=>?_⟩;have U2:=U2.trans V2;have a3:=V2.w.ho;refine⟨a3,Z,zN2,λl3 h3=>?_⟩;have U3:=U2.new h3 (.lst [V.int i1,.int i2]);refine⟨o,l3,[i1,i2],L,n,m,s2,Z,U3.hv hv (by decide),qa,.two (r1.up V2.lo) r2,(by show 2<=1000;decide),λH3 s3 i3 V3 r3=>?_⟩;have U3:=U3.trans V3;obtain⟨a5,a2,a8,a9,a6,a7,b1,a4,b2⟩:=id V3.w;refine⟨a2,T.cl,T.nL,Z,L.ld,_,Z,.inl ⟨_,Sum.inl k,a4,Z,?_,Z⟩,q _ _ ((U3.lev Nw.ld r3).wk0 (uZ _) hv.f.op rfl (λ_ _=>trivial) λ_ _=>rfl) (Vb _ _ _).1⟩;rw[uB];exact vB (show s3.lv.length<=1000000 by have:=(U3.hv (e:=1) hv (by decide)).b.2.1;omega) (by decide)
theorem Afq(F:Ax K mg "code_gate" ["wiring","whole","code"] Ix)(T:Cj K mg C CP)(aE:Bb P w K mg base 2 C "some_of" ["self","numbers"] (He C)):Ai P w K mg base 3 "code_gate" ["wiring","whole","code"] (Va C CP):=by
 refine F.ok Uz (λvs H Q E h=>?_) (λf cdv A outer s0 H vs Q E hr h=>?_)
 ·obtain⟨o,a,c,r,L,n,m,s,rfl,_⟩:=h;rfl
 obtain⟨o,a,c,r,L,n,m,s,rfl,hv,D,cr,q⟩:=h;have hu:=vB (add_le_add_left (show 1<=64 by decide) _) hr.units;obtain⟨dx,d,ob,ha,hd⟩:=D;have ho:=hv.w.ho;refine⟨_,(Ah (Ao (Br (Aad (Abl hu (pv 2) (Aw (pv 1) rfl)) (by rfl)) (N6 hu (Aw (pv 1) rfl) (pv 2) (λ_ _=>rfl)) (Au aE hr Al (pv 0) (Aa (Av Ab) Ab))))),?_⟩;have z:M9 H d (.int c) ((r.codes.lookup c).map V.int):=.inl ⟨_,Sum.inl c,.inr ⟨ob,hd⟩,Z,(Oq _ _).symm⟩;refine⟨ha,T.clP,T.nC,Z,d,_,Z,z,?_⟩;cases e:r.codes.lookup c with
 |some g=>
  rw[e]at z;obtain⟨p,hp,ep⟩:=Ni e;exact C8 ⟨ha,T.clP,T.nC,Z,d,.int g,Z,z,q H s g (hv.nw.wk0 (vY _) hv.f.op rfl (λρ _=>by unfold cvl;rw[e];rfl) λ_ _=>rfl) (ep▸(cr p hp).2)⟩
 |none=>
  refine Ez ⟨ho,Z,zN0,λl hl=>?_⟩;have g1:=Ae hl (.lst []);exact⟨o,l,[],L,n,m,s,Z,hv.same g1,qa,.nil,vY _,(funext λρ=>by unfold cvl;rw[e];rfl:(λρ=>cvl r.codes ρ c)=λρ=>orL (List.map ρ.v []))▸q.same g1⟩
theorem Cj.gE(T:Cj K mg C CP):∃u,mg "ENDED"= some u/\A7 (.int 0) u:=by
 obtain⟨t,h⟩:=T.m_EN;exact⟨_,h,t,rfl⟩
theorem Cj.gR(T:Cj K mg C CP):∃u,mg "RESTS"= some u/\A7 (.int 1) u:=by
 obtain⟨t,h⟩:=T.m_RE;exact⟨_,h,t,rfl⟩
theorem upd2{x:HO}(h:H a=some x)(z:a≠p):upd (upd H p u1) p u2 a=some x:=by rw[upd_ne z,upd_ne z];exact h
theorem Bi.frz2(w:Bi C H o L n s)(hd:H d=some (.dK kvs))(z:d∉L.S)(u:HO)(ob:Obj):Bi C (upd (upd H d u) d (.frz ob u)) o L n s:=by
 have e:upd (upd H d u) d (.frz ob u)=upd H d (.frz ob u):=by
  funext b
  by_cases h:b=d
  ·rw[h,qa,qa]
  ·rw[upd_ne h,upd_ne h,upd_ne h]
 rw[e];exact w.atD hd z _
theorem Bi.senR{o:Addr}{L:Lc}{s:Ws}(w:Bi C H o L n s){i:Nat}{r:Addr}{a4:List Int}(hi:L.rs[i]?=some r)(hw:s.sn[i]?=some a4)(g:Int):Bi C (upd H r (.lst (a4.map V.int++[V.int g]))) o L n ⟨s.gs,s.sn.set i (a4++[g]),s.lv,s.op⟩:=by
 obtain⟨gvs,ho,hg,hp,hs,hn,hr,hl,nd⟩:=w;obtain⟨r',e1,e2⟩:=Bp hr hw;rw[hi]at e1;cases e1
 have tp:Tp H (upd H r (.lst (a4.map V.int++[V.int g]))):=Tp.lst e2;have hm:=uO hi;have n3:=(vR.mp nd);have n4:=(vR.mp n3.2);have n5:=(vR.mp n4.2);have a1:L.gl≠r:=λz=>n3.1 (by rw[z];exact uG _ (uG _ hm))
 have a2:L.sl≠r:=λz=>n4.1 (by rw[z];exact uG _ hm)
 have a3:L.nl≠r:=λz=>n5.1 (by rw[z];exact hm)
 refine⟨gvs,by rw[upd_ne (Bw ho e2 (by intro z;cases z))];exact ho,by rw[upd_ne a1];exact hg,Paired.mapP hp λ_ _ a=>a.mono tp,by rw[upd_ne a2];exact hs,by rw[upd_ne a3];exact hn,?_,by rw[upd_ne (Bw hl e2 (by intro z;cases z))];exact hl,nd⟩;refine Dx (by rw[vK];exact PySem.Paired.length hr) λj x e=>?_
 have hj:j<s.sn.length:=by have:=(List.getElem?_eq_some_iff.mp e).1;rwa[vK]at this
 rw[List.getElem?_set]at e
 by_cases a5:i=j
 ·subst a5
  rw[if_pos rfl,if_pos hj]at e;cases e
  exact⟨r,hi,by rw[qa,uN];rfl⟩
 ·rw[if_neg a5]at e
  obtain⟨y,f1,f2⟩:=Bp hr e;refine⟨y,f1,?_⟩;rw[upd_ne]
  ·exact f2
  ·intro z
   rw[z]at f1;have h1:=(List.getElem?_eq_some_iff.mp hi);have h2:=(List.getElem?_eq_some_iff.mp f1);exact a5 ((List.getElem_inj n5.2).mp (h1.2.trans h2.2.symm))
def Fil(C CP o a:Addr)(L:Lc)(n m:Nat)(Q:VK)(H:Hp)(s:Ws)(x:Int)(d:Nat)(ks:List Int)(E:Int->Cd->Eff):Prop:=∀H' s' r cs,Nw C o L n m (a::L.S) H s H' s' d (E r cs)->WdAt CP H' a ⟨x,r,cs⟩->Rng s' r->CO s' cs->(∀k∈ks,k∈s'.lv.map (·.1))->Q .non H'
def R3(s:Ws)(x:Int):Prop:=Rng s x/\Rng s (x+1)/\Rng s (x+2)
theorem R3.up{x:Int}(h:R3 s x)(l:s.gs.length<=s'.gs.length):R3 s' x:=⟨h.1.up l,h.2.1.up l,h.2.2.up l⟩
def Vn.m(ρ:Vn)(k:Int):Bool:=match ρ.st with|none=>false|some l=>decide (k∈l)
def one(i:Int)(v:Option Bool)(c:Int):Option Bool:=if c=i then v else some false
def Qv(ρ:Vn)(k:Int)(r:Option Bool)(c:Int):Option Bool:=or3 (one 0 (an3 r (some (ρ.m k))) c) (one 1 (an3 r (some !(ρ.m k))) c)
theorem AdS{A:Prop}{R:Hp->Prop}(z:Hp->Prop)(a1:∀H1,z H1->R H1)(h1:b=true->(∀H1,z H1->R H1)->A)(h2:b=false->z H):if b=true then A else R H:=by
 cases b with
 |false=>exact a1 H (h2 rfl)
 |true=>exact h1 rfl a1
theorem AfY{s:Ws}{i:Nat}{z:List Int}(hw:s.sn[i]?=some z)(g:Int)(ρ:Vn)(j:Nat):Ws.sv ⟨s.gs,s.sn.set i (z++[g]),s.lv,s.op⟩ ρ j=or3 (s.sv ρ j) (one (i:Int) (ρ.v g) (j:Int)):=by
 unfold Ws.sv one;rw[getD_eq_getElem?_getD,getD_eq_getElem?_getD]
 by_cases h:j=i
 ·subst h
  show orL (((s.sn.set j (z++[g]))[j]?.getD []).map ρ.v)=_
  rw[vP (List.getElem?_eq_some_iff.mp hw).1,hw,if_pos rfl];show orL ((z++[g]).map ρ.v)=_;rw[uN,Q2];exact congrArg _ (Bj _)
 ·show orL (((s.sn.set i (z++[g]))[j]?.getD []).map ρ.v)=_
  rw[vN (Ne.symm h),if_neg (by omega),Bj]
theorem Nw.sen{L:Lc}{m d:Nat}{S:List Addr}{s s':Ws}{F:Vn->Prop}(U:Nw C o L n m S H s H' s' d (eF F)){i:Nat}{a1:List Int}(hS:r∈S)(hi:L.rs[i]?=some r)(hw:s'.sn[i]?=some a1){g:Int}(hg:Rng s' g):Nw C o L n m S H s (upd H' r (.lst (a1.map V.int++[V.int g]))) ⟨s'.gs,s'.sn.set i (a1++[g]),s'.lv,s'.op⟩ (d+32) ⟨[],F,λρ j=>one (i:Int) (ρ.v g) (j:Int)⟩:=by
 have mr:=uO hw;have hm:∀q∈s'.sn.set i (a1++[g]),q∈s'.sn\/q=a1++[g]:=λq hq=>List.mem_or_eq_of_mem_set hq
 refine⟨U.k.trans (KpS.upd hS),U.w.senR hi hw g,⟨U.f.g,λq hq x hx=>?_,U.f.lv,U.f.op⟩,U.lo,by rw[<-U.sl];exact vK,U.lv,λM e c=>?_,U.op,U.ct,λρ h=>?_⟩
 ·rcases hm q hq with z|z
  ·exact U.f.sn q z x hx
  ·rw[z]at hx
   rcases uW.mp hx with z|z
   ·exact U.f.sn a1 mr x z
   ·rw[mS z];exact hg
 ·have c:=U.c M (32+e) (by rwa[add_assoc]at c)
  refine⟨by have:=c.1;show s'.gs.length+e<=M;omega,by have:=c.2.1;show s'.lv.length+e<=M;omega,λq hq=>?_⟩;rcases hm q hq with z|z
  ·have:=c.2.2 q z;omega
  ·have:=c.2.2 a1 mr;rw[z,uC,uD];omega
 ·obtain⟨a,b,c⟩:=U.sat ρ h
  exact⟨a,b,λj=>by rw[AfY hw,c,Bj]⟩
theorem KpS.nil(k:KpS S H H')(h:H' p=none)(hs:p∉S):H p=none:=by
 cases e:H p with
 |none=>rfl
 |some u=>rw[k p u hs e]at h;cases h
theorem Nw.frz{C o p:Addr}{L:Lc}{n m d:Nat}{S:List Addr}{H H':Hp}{s s':Ws}{E:Eff}{kvs:List (Key×V)}(U:Nw C o L n m S H s H' s' d E)(hp:H' p=some (.dK kvs))(z:p∉L.S)(h0:H p=none)(u:HO)(ob:Obj):Nw C o L n m S H s (upd (upd H' p u) p (.frz ob u)) s' d E:={U with k:=λb _ nb e=>upd2 (U.k b _ nb e) (ne_of_none e h0),w:=U.w.frz2 hp z u ob}
theorem Ae8{k:Int}(f4:ρ.v i4=an3 r (some (ρ.m k)))(f3:ρ.v i3=an3 r (some !(ρ.m k)))(c:Int):cvl [(0,i4),(1,i3)] ρ c=Qv ρ k r c:=by
 unfold cvl Qv one
 by_cases h:c=0
 ·subst h;simp[f4,Bj]
 ·by_cases z:c=1
  ·subst z;simp[f3,or3,List.lookup]
  ·have h0:(c==0)=false:=by simpa using h
   have h1:(c==1)=false:=by simpa using z
   simp[h,z,or3,List.lookup,h0,h1]
def AhR(k x r:Int)(cs:Cd)(ρ:Vn):Prop:=ρ.v r=some (ρ.m k)/\∀c,cvl cs ρ c=Qv ρ k (ρ.v x) c
inductive Sr(C CP:Addr)(vs:List V)(H:Hp)(Q:VK):Prop
 |mk(o a dx:Addr)(k x:Int)(rv cv:V)(L:Lc)(n m:Nat)(s:Ws)(_:vs=[.ref o,.int k,.ref a])(_:Hv C o L n m H s 8)(_:H a=some (.ins CP dx (wdV x rv cv)))(_:R3 s x)(_:(0<=k/\k<m))(_:Fil C CP o a L n m Q H s x 8 [k] (λr cs=>eF (AhR k x r cs)))
def Xx(C CP:Addr):Sp:=λvs H Q _=>Sr C CP vs H Q
theorem Ag9(F:Ax K mg "wire_rest" ["wiring","rest","whole"] Iy)(T:Cj K mg C CP)(aL:Bb P w K mg base 1 C "gate" ["self","word","numbers"] (Jj C))(aH:Bb P w K mg base 2 C "opposite" ["self","number"] (Nz C))(aA:Bb P w K mg base 2 C "every_of" ["self","numbers"] (G7 C))(bH:Ai P w K mg base 3 "wire_leaving" ["wiring","rest","whole","memory","comes"] (Ty C CP)):Ai P w K mg base 4 "wire_rest" ["wiring","rest","whole"] (Xx C CP):=by
 refine F.ok Na (λvs H Q E h=>?_) (λf cdv A outer s0 H vs Q E hr h=>?_)
 ·obtain⟨o,a,dx,k,x,rv,cv,L,n,m,s,rfl,_⟩:=h;rfl
 obtain⟨o,a,dx,k,x,rv,cv,L,n,m,s,rfl,hv,ha,r3,hk,q⟩:=h;obtain⟨uE,hE,rE⟩:=T.gE;obtain⟨uR,hR,rR⟩:=T.gR;obtain⟨ao,aS⟩:=hv.w.objOff ha
 refine⟨_,(Ad (Cc (pv 2) (Au aL hr Al (pv 0) (Aa Ap (Aa (Av (Aa (pv 1) Ab)) Ab))) rfl)
  (Ad (Ar (i:=3) Na.nd rfl (Or.inl rfl) (Au aA hr Al (pv 0) (Aa (Av (Aa (Aw (pv 2) rfl) (Aa (Au aH hr Al (pv 0) (Aa (Aw (pv 2) rfl) Ab)) Ab))) Ab)))
  (Ad (Cc (pv 2) (Pz (W0 (Ol (Bl rfl hE rE) (Au aA hr Al (pv 0) (Aa (Av (Aa (Aw (pv 2) rfl) (Aa (Aw (pv 2) rfl) Ab))) Ab)) (Ol (Bl rfl hR rR) (pv 3) X7)) rfl rfl (by simp) (by decide))) rfl)
  (Ah (Be (Am bH hr rfl Al (Aa (pv 0) (Aa (pv 1) (Aa (pv 2) (Aa (Aw (pv 2) rfl) (Aa (pv 3) Ab))))))))))),?_⟩
 have ho:=hv.w.ho;refine⟨ho,Z,zN1,λl1 h1=>?_⟩;have U1:=(hv.nw (S:=a::L.S)).new h1 (.lst [V.int k]);have a6:Hv C o L n m _ s 1:=U1.hv hv (by decide);refine⟨o,l1,"memory",[k],L,n,m,s,Z,a6,qa,λH1 a9 W1=>?_⟩;obtain⟨V1,r1⟩:=a6.add a9 W1 (.inr (.inl ⟨rfl,k,rfl,hk⟩)) (by show 1<=1000;decide);generalize s.nx=i1 at V1 r1;generalize s.add "memory" [k]=s1 at V1 r1;have a8:=V1.k _ _ aS ((Ae h1 (.lst [V.int k])) _ _ ha);refine⟨a8,T.clP,T.nE,(by show 5<1000;decide),?_⟩;have U1:=(U1.then V1).setA a8 (.ins CP dx (wdV x (.int i1) cv));have a1:=qa (H:=H1) (a:=a) (o:=.ins CP dx (wdV x (.int i1) cv));have e1:=U1.lo;generalize hH:upd H1 a (.ins CP dx (wdV x (.int i1) cv))=G1 at U1 a1;have b4:upd H1 a (.ins CP dx (Dv "rests" (V.int i1) (wdV x rv cv)))=G1:=hH;rw[b4];have a4:=U1.w.ho;refine⟨a4,Z,a1,T.clP,T.nR,Z,a4,Z,a1,T.clP,T.nE,Z,?_⟩;refine⟨o,_,L,n,m,_,Z,U1.hv hv (by decide),r1,λH2 s2 i2 V2 r2=>⟨zN2,λl3 h3=>?_⟩⟩;have U2:=(U1.then V2).new h3 (.lst [V.int x,.int i2]);have b2:=(Ae h3 (.lst [V.int x,.int i2])) _ _ (V2.k _ _ aS a1);refine⟨o,l3,[x,i2],L,n,m,_,Z,U2.hv hv (by decide),qa,.two (r3.1.up U2.lo) r2,(by show 2<=1000;decide),λH3 s3 i3 V3 j3=>?_⟩;have U3:=U2.then V3;have a2:=V3.k _ _ aS b2;refine λp hp=>?_
 have pS:=U3.w.offN hp;have gp:=Ae hp (.dK []);have U4:=U3.new hp (.dK []);have b3:=U4.w.ho;refine⟨b3,Z,gp _ _ a2,T.clP,T.nR,Z,gp _ _ a2,T.clP,T.nE,Z,zN2,λl4 h4=>?_⟩;have g4:=Ae h4 (.lst [V.int x,.int i1]);have U4:=U4.new h4 (.lst [V.int x,.int i1]);refine⟨o,l4,[x,i1],L,n,m,_,Z,U4.hv hv (by decide),qa,.two (r3.1.up U4.lo) (r1.up (uY V2.lo V3.lo)),(by show 2<=1000;decide),λH4 s4 i4 V4 j4=>?_⟩;have U4:=U4.then V4;have a5:=V4.k _ _ aS (g4 _ _ (gp _ _ a2));have a3:H4 p=some (.dK []):=V4.k _ _ pS (g4 _ _ qa);refine⟨a3,[(Sum.inl 0,_),(Sum.inl 1,_)],Z,(by show 2<=15;decide),p,_,Z,qa,λob=>?_⟩;have ap:a≠p:=Bw a5 a3 (by intro z;cases z);have U5:=U4.frz a3 pS (U3.k.nil hp λz=>(vJ.mp z).elim (Ne.symm ap) pS) (.dK (Ed [] [(Sum.inl 0,V.int i4),(Sum.inl 1,V.int i3)])) ob;have a7:=upd2 (u1:=.dK (Ed [] [(Sum.inl 0,V.int i4),(Sum.inl 1,V.int i3)])) (u2:=.frz ob (.dK (Ed [] [(Sum.inl 0,V.int i4),(Sum.inl 1,V.int i3)]))) a5 ap;have b1:upd (upd H4 p (.dK (Ed [] [(Sum.inl 0,V.int i4),(Sum.inl 1,V.int i3)]))) p (.frz ob (.dK (Ed [] [(Sum.inl 0,V.int i4),(Sum.inl 1,V.int i3)]))) p=_:=qa;generalize upd (upd H4 p (.dK (Ed [] [(Sum.inl 0,V.int i4),(Sum.inl 1,V.int i3)]))) p (.frz ob (.dK (Ed [] [(Sum.inl 0,V.int i4),(Sum.inl 1,V.int i3)])))=H5 at *;refine⟨a7,T.clP,T.nC,(by show 5<1000;decide),?_⟩;have U6:=U5.setA a7 (.ins CP dx (wdV x (.int i1) (.ref p)));have l3:=uY V2.lo V3.lo;refine⟨qa,T.clP,T.nE,Z,o,a,dx,k,_,_,x,_,_,L,n,m,_,Z,U6.hv hv (by decide),qa,⟨r3.2.1.up U6.lo,r3.2.2.up U6.lo,r1.up (uY l3 V4.lo),j3.up V4.lo⟩,λH6 s6 V6 lk=>?_⟩;refine q H6 s6 i1 [(0,i4),(1,i3)] ((U6.then V6).wk0 (uZ _) hv.f.op rfl (λρ ⟨⟨⟨⟨⟨_,f1⟩,f2⟩,f3⟩,f4⟩,_⟩=>⟨f1,λc=>?_⟩) λ_ _=>rfl) ⟨dx,p,ob,V6.k _ _ aS qa,V6.k p _ pS (by rw[upd_ne (Ne.symm ap)];exact b1)⟩ (r1.up (uY (uY l3 V4.lo) V6.lo)) ⟨λc hc=>?_,(by show([0,1]:List Int).Pairwise (· < ·);decide)⟩ (λj hj=>by rw[mS hj];exact lk)
 ·have f1:ρ.v i1=some (ρ.m k):=f1
  have f2:ρ.v i2=nt3 (ρ.v i1):=f2;have f3:ρ.v i3=an3 (ρ.v x) (an3 (ρ.v i2) (some true)):=f3;have f4:ρ.v i4=an3 (ρ.v x) (an3 (ρ.v i1) (some true)):=f4;rw[B4]at f3 f4;rw[f2,f1]at f3;rw[f1]at f4;exact Ae8 f4 f3 c
 rcases vJ.mp hc with z|z
 ·rw[z];exact⟨(by show(0:Int)<=0/\(0:Int)<=5;decide),j4.up V6.lo⟩
 ·rw[mS z];exact⟨(by show(0:Int)<=1/\(1:Int)<=5;decide),j3.up (uY V4.lo V6.lo)⟩
def okN(n:Nat):Pt->Prop
 |.nothing=>True
 |.rest _=>True
 |.send i=>0<=i/\i<n
 |.exit d=>0<=d/\d<4
 |.stay _=>False
 |.iff i p q=>(0<=i/\i<n)/\okN n p/\okN n q
 |.again _ p=>okN n p
 |.hold i p=>(0<=i/\i<n)/\okN n p
 |.watch i p=>(0<=i/\i<n)/\okN n p
 |.trap p=>okN n p
 |.thn p q=>okN n p/\okN n q
 |.bes p q=>okN n p/\okN n q
def rsP:Pt->List Int
 |.rest k=>[k]
 |.again k p=>k::rsP p
 |.iff _ p q=>rsP q++rsP p
 |.thn p q=>rsP q++rsP p
 |.bes p q=>rsP q++rsP p
 |.hold _ p=>rsP p
 |.watch _ p=>rsP p
 |.trap p=>rsP p
 |_=>[]
theorem AgX(h:okN n p)(lf:E8 p=true):0<=(beg [] p).1/\(beg [] p).1<=5:=by
 cases p with
 |exit d=>obtain⟨h1,h2⟩:=h;show 0<=2+d/\2+d<=5;omega
 |stay _=>cases h
 |nothing=>exact(by show(0:Int)<=0/\(0:Int)<=5;decide)
 |send _=>exact(by show(0:Int)<=0/\(0:Int)<=5;decide)
 |rest _=>exact(by show(0:Int)<=1/\(1:Int)<=5;decide)
 |_=>cases lf
def rsB(ρ:Vn):Pt->Bool
 |.rest k=>ρ.m k
 |.again k p=>ρ.m k || rsB ρ p
 |.iff _ p q=>rsB ρ p || rsB ρ q
 |.thn p q=>rsB ρ p || rsB ρ q
 |.bes p q=>rsB ρ p || rsB ρ q
 |.hold _ p=>rsB ρ p
 |.watch _ p=>rsB ρ p
 |.trap p=>rsB ρ p
 |_=>false
def Bf(P:Int->Bool)(A:Int->Option Bool):Option Bool:=orL (((List.range 6).filter λ(i:Nat)=>P (i:Int)).map λ(i:Nat)=>A (i:Int))
def isC(c i:Int):Bool:=decide (i=c)
def gtC(A B:Int->Option Bool)(c:Int):Option Bool:=an3 (or3 (A c) (B c)) (an3 (Bf (λi=>decide (i<=c)) A) (Bf (λi=>decide (i<=c)) B))
abbrev Sm:=(Int->Option Bool)×(Nat->Option Bool)
def sem(ρ:Vn):Pt->Option Bool->Sm
 |.rest k,r=>(Qv ρ k r,λ_=>some false)
 |.send s,r=>(one 0 r,λi=>one s r i)
 |.exit d,r=>(one (2+d) r,λ_=>some false)
 |.thn p q,r=>
  let b:=some (rsB ρ q)
  let x:=sem ρ p (an3 r (nt3 b))
  let y:=sem ρ q (or3 (an3 r b) (x.1 0))
  (λc=>or3 (Bf (λi=>!decide (i=0)&&isC c i) x.1) (Bf (isC c) y.1),λi=>or3 (x.2 i) (y.2 i))
 |.iff s p q,r=>
  let a:=some (rsB ρ p)
  let b:=some (rsB ρ q)
  let g:=an3 r (nt3 (or3 a b))
  let x:=sem ρ p (or3 (an3 r a) (an3 g (ρ.v s)))
  let y:=sem ρ q (or3 (an3 r b) (an3 g (nt3 (ρ.v s))))
  (λc=>or3 (Bf (isC c) x.1) (Bf (isC c) y.1),λi=>or3 (x.2 i) (y.2 i))
 |.bes p q,r=>
  let a:=some (rsB ρ p)
  let b:=some (rsB ρ q)
  let i1:=an3 b (nt3 a)
  let i2:=an3 a (nt3 b)
  let x:=sem ρ p (an3 r (nt3 i1))
  let y:=sem ρ q (an3 r (nt3 i2))
  (gtC (λc=>or3 (Bf (isC c) x.1) (one 0 (an3 r i1) c)) (λc=>or3 (Bf (isC c) y.1) (one 0 (an3 r i2) c)),λi=>or3 (x.2 i) (y.2 i))
 |.again _ p,r=>(λc=>Bf (λi=>isC c (agC i)) (sem ρ p r).1,(sem ρ p r).2)
 |.trap p,r=>(λc=>Bf (λi=>isC c (Ch i)) (sem ρ p r).1,(sem ρ p r).2)
 |.hold s p,r=>
  let a:=some (rsB ρ p)
  let x:=sem ρ p (an3 r (or3 (nt3 a) (nt3 (ρ.v s))))
  (λc=>or3 (Bf (isC c) x.1) (one 1 (an3 r (an3 a (ρ.v s))) c),x.2)
 |.watch s p,r=>
  let a:=some (rsB ρ p)
  let x:=sem ρ p (an3 r (or3 (nt3 a) (nt3 (ρ.v s))))
  (λc=>or3 (Bf (isC c) x.1) (one 0 (an3 r (an3 a (ρ.v s))) c),x.2)
 |_,r=>(one 0 r,λ_=>some false)
def fPt(p:Pt)(x r:Int)(cs:Cd)(ρ:Vn):Prop:=ρ.v r=some (rsB ρ p)/\∀c,cvl cs ρ c=(sem ρ p (ρ.v x)).1 c
def eP(p:Pt)(x r:Int)(cs:Cd):Eff:=⟨[],fPt p x r cs,λρ i=>(sem ρ p (ρ.v x)).2 i⟩
theorem AdT(k x:Int)(ρ:Vn)(c:Int):cvl [(k,x)] ρ c=one k (ρ.v x) c:=by
 unfold cvl one
 by_cases h:c=k
 ·subst h;simp
 ·have h0:(c==k)=false:=by simpa using h
  simp[h,List.lookup,h0]
theorem Aa8(h:E8 p=true)(n1:¬wdP p ="rest")(n:Nat)(ok:okN n p)(ρ:Vn)(r:Option Bool):(sem ρ p r).1=one (beg [] p).1 r/\rsB ρ p=false:=by
 cases p<;>first|exact⟨Z,Z⟩|exact absurd rfl n1|(cases h;done)|(cases ok;done)
theorem Afm{p:Pt}(lf:E8 p=true)(n2:¬wdP p ="send")(ρ:Vn)(r:Option Bool)(i:Nat):some false=(sem ρ p r).2 i:=by cases p<;>first|rfl|exact absurd rfl n2|cases lf
theorem Ae1{p:Pt}(lf:E8 p=true)(n1:¬wdP p ="rest"):rsP p=[]:=by cases p<;>first|rfl|exact absurd rfl n1|cases lf
inductive Rk(K:FA)(C CP:Addr)(vs:List V)(H:Hp)(Q:VK):Prop
 |mk(o a dx:Addr)(v:V)(p:Pt)(x:Int)(rv cv:V)(L:Lc)(n m:Nat)(s:Ws)(_:vs=[.ref o,v,.ref a])(_:Hv C o L n m H s 40)(_:PAt K H p.nd v)(_:E8 p=true)(_:okN n p)(_:(∀k∈rsP p,0<=k/\k<m))(_:H a=some (.ins CP dx (wdV x rv cv)))(_:R3 s x)(_:Fil C CP o a L n m Q H s x 40 (rsP p) (eP p x))
def Q7(K:FA)(C CP:Addr):Sp:=λvs H Q _=>Rk K C CP vs H Q
theorem Agx(F:Ax K mg "wire_leaf" ["wiring","part","whole"] Iv)(T:Cj K mg C CP)(aE:Bb P w K mg base 2 C "some_of" ["self","numbers"] (He C))(bA:Ai P w K mg base 1 "leaf_code" ["part"] (J4 K))(fD:Ai P w K mg base 4 "wire_rest" ["wiring","rest","whole"] (Xx C CP)):Ai P w K mg base 5 "wire_leaf" ["wiring","part","whole"] (Q7 K C CP):=by
 refine F.ok Wb (λvs H Q E h=>?_) (λf cdv A outer s0 H vs Q E hr h=>?_)
 ·obtain⟨o,a,dx,v,p,x,rv,cv,L,n,m,s,rfl,_⟩:=h;rfl
 obtain⟨o,a,dx,v,p,x,rv,cv,L,n,m,s,rfl,hv,hp,lf,ok,rk,ha,r3,q⟩:=h
 refine⟨_,(Ad (A9 (An A1 (Aj Ag (pv 1) Af (λ_ _=>rfl)) Ap (Aq _))
   (Ad (Be (Am fD hr rfl Al (Aa (pv 0) (Aa (Aj Ag (pv 1) Af (λ_ _=>rfl)) (Aa (pv 2) Ab)))))
  (Ah (W4)))
   A0)
  (Ad (A9 (An A1 (Aj Ag (pv 1) Af (λ_ _=>rfl)) Ap (Aq _))
   (Ah (Be (Fq PySem.F.plainAttrs_list PySem.F.slot_list_append PySem.F.type_list_append Cz (Aj Bs (Aw (pv 0) rfl) (Aj Ag (pv 1) Af (λ_ _=>rfl)) (λ_ _=>rfl)) (Aa (Aw (pv 2) rfl) Ab))))
   A0)
  (Ad (Cc (pv 2) (Au aE hr Al (pv 0) (Aa (Av Ab) Ab)) rfl)
  (Ah (Cc (pv 2) (Pz (W0 (Ol (Am bA hr rfl Al (Aa (pv 1) Ab)) (Aw (pv 2) rfl) X7) rfl rfl (by simp) (by decide))) rfl))))),?_⟩
 obtain⟨t,vs,rfl,hs⟩:=Jv hp;obtain⟨ao,aS⟩:=hv.w.objOff ha;refine⟨hs.sq,Ac (j:=0) rfl,Z,Ce (λe=>?_) λn1=>⟨hs.sq,Ac (j:=0) rfl,Z,AdS (λH1=>∃s1,Nw C o L n m (a::L.S) H s H1 s1 32 ⟨[],λ_=>True,λρ i=>(sem ρ p (ρ.v x)).2 i⟩/\H1 a=some (.ins CP dx (wdV x rv cv))/\PAt K H1 p.nd (.ref t)) ?_ (λe a6=>?_) λnb=>⟨s,hv.nw.wk (vY _) hv.f.op (λ_ z=>nomatch z) (λρ _=>⟨trivial,λi=>?_⟩),ha,hp⟩⟩⟩;rotate_left 3
 ·have n2:¬wdP p ="send":=λz=>by rw[z]at nb;exact absurd nb (by trivial)
  exact Afm lf n2 _ _ _
 ·obtain⟨k,rfl⟩:=J2 e
  have hs:=g2i hp;exact⟨hs.sq,Ac (j:=1) rfl,o,a,dx,k,x,rv,cv,L,n,m,s,Z,⟨hv.w,hv.f,hv.nl,hv.sl,hv.b.le (by decide)⟩,ha,r3,rk k uF,λH' s' r cs U=>q H' s' r cs (U.wk (by decide) hv.f.op (λ_ z=>nomatch z) λρ f=>⟨f,λ_=>rfl⟩)⟩
 ·rintro H1 ⟨s1,U1,b1,b4⟩
  have a8:=Ae1 lf n1;have a5:=U1.w.ho;refine⟨a5,Z,zN0,λl1 h1=>?_⟩;have U2:=U1.new h1 (.lst []);refine⟨o,l1,[],L,n,m,_,Z,U2.hv hv (by decide),qa,.nil,vY _,λH2 s2 i V2 hi=>?_⟩;have U2:=U2.then V2;have a2:=V2.k _ _ aS ((Ae h1 (.lst [])) _ _ b1);have a9:=(b4.mono (Ae h1 (.lst [])).tp).mono ((U1.w.same (Ae h1 (.lst []))).tp V2.k);refine⟨a2,T.clP,T.nE,(by show 5<1000;decide),?_⟩;have U3:=U2.setA a2 (.ins CP dx (wdV x (.int i) cv));have a4:=a9.mono (Pq a2 (KpS.upd (u:=.ins CP dx (wdV x (.int i) cv)) uF));have a1:=qa (H:=H2) (a:=a) (o:=.ins CP dx (wdV x (.int i) cv));generalize hH:upd H2 a (.ins CP dx (wdV x (.int i) cv))=H3 at U3 a4 a1;have b2:upd H2 a (.ins CP dx (Dv "rests" (V.int i) (wdV x rv cv)))=H3:=hH;rw[b2];refine λd hd=>?_
  have dS:=U3.w.offN hd;have gp:=Ae hd (.dK []);have U4:=U3.new hd (.dK []);have ad:a≠d:=ne_of_none a1 hd;refine⟨_,p,Z,a4.mono gp.tp,lf,gp _ _ a1,T.clP,T.nR,Z,qa,[(Sum.inl (beg [] p).1,V.int x)],Z,(by show 1<=15;decide),d,_,Z,qa,λob=>?_⟩;have U5:=U4.frz qa dS (U3.k.nil hd λz=>(vJ.mp z).elim (Ne.symm ad) dS) (.dK (Ed [] [(Sum.inl (beg [] p).1,V.int x)])) ob;have a3:=upd2 (u1:=.dK (Ed [] [(Sum.inl (beg [] p).1,V.int x)])) (u2:=.frz ob (.dK (Ed [] [(Sum.inl (beg [] p).1,V.int x)]))) (gp _ _ a1) ad;refine⟨a3,T.clP,T.nC,(by show 5<1000;decide),?_⟩;refine q _ s2 i [((beg [] p).1,x)] ((U5.setA a3 _).wk (by decide) hv.f.op (λ_ z=>nomatch z) λρ ⟨_,f⟩=>⟨⟨f.trans (congrArg some (Aa8 lf n1 n ok ρ (ρ.v x)).2.symm),λc=>by rw[(Aa8 lf n1 n ok ρ (ρ.v x)).1];exact AdT _ _ _ _⟩,λi=>Bj _⟩) ⟨dx,d,ob,qa,by rw[upd_ne (Ne.symm ad)];exact qa⟩ hi ⟨λc hc=>?_,pairwise_singleton _ _⟩ (by rw[a8];intro k hk;cases hk);rw[mS hc];exact⟨AgX ok lf,r3.1.up U2.lo⟩
 ·obtain⟨i,rfl⟩:=X0 (V.str.inj (uK e))
  have a7:=hp;have hs:=g2i hp;obtain⟨gvs,ho,hg,b5,b6,hn,b3,hl,nd⟩:=id hv.w;obtain⟨i0,i1⟩:=ok;obtain⟨j,rfl⟩:∃j:Nat,i=(j:Int):=⟨i.toNat,(Int.toNat_of_nonneg i0).symm⟩;have hj:j<s.sn.length:=by rw[hv.sl];omega
  obtain⟨r,f1,f2⟩:=Bp b3 (uA hj);refine⟨ho,T.cl,T.nN,Z,hs.sq,Ac (j:=1) rfl,SqL.of hn,Ac (v:=V.ref r) (by rw[uH,f1];rfl),.inl ⟨Z,_,SqL.of f2⟩,ha,T.clP,T.nR,Z,r,_,.int x,Z,Z,f2,?_,?_⟩
  ·rw[uB]
   exact Ab0 (by have:=hv.b.2.2 _ (vI hj);omega)
  exact a6 _ ⟨_,((hv.nw (S:=a::L.S)).sen (uG _ (uG _ (uG _ (uO f1)))) f1 (uA hj) r3.1),by rw[upd_ne (Bw ha f2 (by intro z;cases z))];exact ha,a7.mono (Tp.lst f2)⟩
theorem M4(l:List (Option Bool)):orL l=if some true∈l then some true else if none∈l then none else some false:=by
 induction l with
 |nil=>rfl
 |cons a l ih=>
  show or3 a (orL l)=_
  rw[ih];rcases a with _|_|_<;>by_cases h:some true∈l<;>by_cases z:none∈l<;>simp[or3,h,z]
theorem AeH(h:∀v,v≠some false->(v∈l↔v∈m)):orL l=orL m:=by
 rw[M4,M4];simp only[h (some true) (by simp),h none (by simp)]
theorem Vt:∀{cs:Cd},(cs.map (·.1)).Pairwise (· < ·)->p∈cs->q∈cs->p.1=q.1->p=q
 |a::l,h,hp,hq,e=>by
  rw[vS,vQ]at h;rcases vJ.mp hp with z|hp<;>rcases vJ.mp hq with w|hq
  ·rw[z,w]
  ·have:=h.1 _ (mem_map_of_mem hq);rw[<-e,z]at this;exact absurd this (Int.lt_irrefl _)
  ·have:=h.1 _ (mem_map_of_mem hp);rw[e,w]at this;exact absurd this (Int.lt_irrefl _)
  ·exact Vt h.2 hp hq e
theorem X4(h:CO s cs)(hp:p∈cs):cs.lookup p.1=some p.2:=by
 obtain⟨v,hv⟩:=Lp (mem_map_of_mem (f:=(·.1)) hp);rw[hv,<-Vt h.2 (Jh hv) hp rfl]
theorem Yv(h:CO s cs)(P:Int->Bool)(ρ:Vn):orL (((cs.filter λp=>P p.1).map (·.2)).map ρ.v)=Bf P (cvl cs ρ):=by
 refine AeH λv nv=>?_
 constructor
 ·intro hv
  obtain⟨g,hg,rfl⟩:=vT.mp hv;obtain⟨p,hp,rfl⟩:=vT.mp hg;obtain⟨hp,z⟩:=mem_filter.mp hp;have b:=(h.1 p hp).1;have en:=Int.toNat_of_nonneg b.1;refine vT.mpr ⟨p.1.toNat,mem_filter.mpr ⟨mem_range.mpr (by omega),?_⟩,?_⟩
  ·rw[en];exact z
  ·unfold cvl;rw[en,X4 h hp];rfl
 ·intro hv
  obtain⟨i,hi,rfl⟩:=vT.mp hv;obtain⟨_,z⟩:=mem_filter.mp hi;unfold cvl at nv ⊢;cases l:cs.lookup (i:Int) with
  |none=>rw[l]at nv;exact absurd rfl nv
  |some g=>exact vT.mpr ⟨g,vT.mpr ⟨(i,g),mem_filter.mpr ⟨Jh l,z⟩,rfl⟩,rfl⟩
theorem N1{ps:Cd}(h:CO s cs)(P:Int->Bool)(f:Int->Int)(e:ps=(cs.filter λp=>P p.1).map λp=>(f p.1,p.2))(ρ:Vn)(c:Int):orC ps ρ c=Bf (λi=>P i&&isC c (f i)) (cvl cs ρ):=by
 rw[<-Yv h];unfold orC Gg;rw[e,List.filter_map,List.filter_filter,map_map,map_map,map_map];show orL (List.map (λp=>ρ.v p.2) (filter (λp:Int×Int=>decide (f p.1=c)&&P p.1) cs))=_;rw[show(λp:Int×Int=>decide (f p.1=c)&&P p.1)=λp=>P p.1&&isC c (f p.1) from funext λp=>Bool.and_comm _ _];rfl
theorem Mv(h:CO s cs)(ρ:Vn)(c:Int):orC cs ρ c=Bf (isC c) (cvl cs ρ):=(N1 h (λ_=>true) id (by rw[List.filter_eq_self.mpr λ_ _=>rfl];exact(map_id _).symm) ρ c).trans rfl
theorem N0(a b:Cd)(ρ:Vn)(c:Int):orC (a++b) ρ c=or3 (orC a ρ c) (orC b ρ c):=by unfold orC;rw[Ot,uN,Q2]
theorem Xn(k g:Int)(ρ:Vn)(c:Int):orC [(k,g)] ρ c=one k (ρ.v g) c:=by
 unfold one;split
 ·next h=>unfold orC;rw[Uv h.symm];exact Bj _
 ·next h=>unfold orC;rw[Yu (Ne.symm h)];rfl
def Pr2(s:Ws)(x y:Int):Prop:=Op3 s x/\Op3 s y/\x+3<=y
theorem Pr2.kp{E:Eff}{x:Int}(h:Pr2 s x y)(U:Nw C o L n m S H s H' s' d E)(e:E.A=[]):Pr2 s' x y:=⟨h.1.kp U λg z=>by rw[e]at z;(cases z),h.2.1.kp U λg z=>by rw[e]at z;(cases z),h.2.2⟩
theorem AbG{l:List Int}{g:Int}(z:g∈(l++[])++[]):g∈l:=by rwa[vH,vH]at z
theorem AeZ{l:List Int}{g r:Int}(z:g∈((l++[])++[])++[r]):g∈l++[r]:=by rwa[vH,vH]at z
theorem rng_up{f:Nat->Int}{i:Nat}{g r:Int}(e:f i=r)(z:g∈(List.range i).map f++[r]):g∈(List.range (i+1)).map f:=by rw[range_succ,uN,<-e]at *;exact z
theorem AaD{g a b c:Int}(z:g∈[b,a,c]):g∈[a,b,c]:=by simp at z ⊢;omega
theorem Ly{g:TG}{tc:TT}{F:Addr->List V->Hp->Prop}(Pv:Nat->List V->Hp->Prop)(h0:Pv 0 [] H)(hz:kvs.length<=sizeLine)(hl:∀i ys H,Pv i ys H->H d=some (.frz o (.dK kvs)))
  (hs:∀i p T ys H(N:List V->Hp->Prop),kvs[i]?=some p->Pv i ys H->H T=none->(∀a1 H',a1.length<=i+1->Pv (i+1) a1 H'->N a1 H')->ys.length<=i->g (.ref T) a2 (upd H T (.tup [kV p.1,p.2])) λa3 H2=>tc a3 H2 λb H3=>if b=true then te a3 H3 λy H4=>N (ys++[y]) H4 else N ys H3)
  (hd:∀ys H,ys.length<=kvs.length->Pv kvs.length ys H->∀D,H D=none->F D ys H):L9 (Iti d o kvs) g tc te a2 F H:=
 Hz Pv h0 hz (λi ys H hi p=>⟨hl i ys H p,hi⟩) (λys H p=>⟨hl _ ys H p,uZ _⟩)
  (λi x ys H H' N hi p ⟨T,z,e1,hT,y,e2⟩ a4 k=>by subst e1 e2;exact hs i z T ys _ N y p hT k a4) hd
theorem WdAt.kp(D:WdAt CP H a r)(W:Bi C H o L n s)(k:KpS L.S H H'):WdAt CP H' a r:=by
 obtain⟨dx,d,ob,ha,hd⟩:=D;exact⟨dx,d,ob,k _ _ (W.objOff ha).2 ha,k _ _ (W.offF hd) hd⟩
theorem WdAt.same(D:WdAt CP H a r)(g:Same H H'):WdAt CP H' a r:=by
 obtain⟨dx,d,ob,ha,hd⟩:=D;exact⟨dx,d,ob,g _ _ ha,g _ _ hd⟩
theorem Nk(h:Ab2 H (codes.map kvI) l ts H'):PySem.Paired (PrAt H') codes (ts.map V.ref):=by
 obtain⟨g,fl,el,le,ft,nd,et⟩:=h;refine Dx (by rw[uB,le,uB]) λj x e=>?_
 have z:j<ts.length:=by rw[le,uB];exact(List.getElem?_eq_some_iff.mp e).1
 exact⟨.ref ts[j],by rw[uH,uA z];rfl,ts[j],Z,et j ts[j] (kvI x) (uA z) (by rw[uH,e];rfl)⟩
theorem Dg{α β:Type}{F:α->β->Prop}{l1 l2:List α}{m1 m2:List β}(h1:PySem.Paired F l1 m1)(h2:PySem.Paired F l2 m2):PySem.Paired F (l1++l2) (m1++m2):=by
 have e1:=PySem.Paired.length h1;have e2:=PySem.Paired.length h2;refine Dx (by rw[uC,uC,e1,e2]) λj x e=>?_
 rcases lt_or_ge j l1.length with hj|hj
 ·rw[uT hj]at e
  obtain⟨y,z,f2⟩:=Bp h1 e;exact⟨y,by rw[uT (by omega)];exact z,f2⟩
 ·rw[uU hj]at e
  obtain⟨y,z,f2⟩:=Bp h2 e;exact⟨y,by rw[uU (by omega),<-e1];exact z,f2⟩
def WI(s:Ws)(r:Wr):Prop:=R3 s r.runs/\Rng s r.rests/\CO s r.codes
theorem WI.up(h:WI s r)(l:s.gs.length<=s'.gs.length):WI s' r:=⟨h.1.up l,h.2.1.up l,h.2.2.up l⟩
def fQ(r q:Int)(F:Vn->Prop)(ρ:Vn):Prop:=r=q/\F ρ
def Zl(x:Int)(r1 r2:Wr)(cs:Cd)(ρ:Vn):Prop:=ρ.v r1.runs=an3 (ρ.v x) (nt3 (ρ.v r2.rests))/\ρ.v r2.runs=or3 (an3 (ρ.v x) (ρ.v r2.rests)) (cvl r1.codes ρ 0)/\∀c,cvl cs ρ c=or3 (Bf (λi=>!decide (i=0)&&isC c i) (cvl r1.codes ρ)) (Bf (isC c) (cvl r2.codes ρ))
inductive R9(C CP:Addr)(vs:List V)(H:Hp)(Q:VK):Prop
 |mk(o a dx f g:Addr)(x rr:Int)(cv:V)(r1 r2:Wr)(L:Lc)(n m:Nat)(s:Ws)(_:vs=[.ref o,.ref a,.ref f,.ref g])(_:Hv C o L n m H s 16)(_:H a=some (.ins CP dx (wdV x (.int rr) cv)))(_:WdAt CP H f r1)(_:WdAt CP H g r2)(_:R3 s x)(_:Rng s rr)(_:WI s r1)(_:WI s r2)(_:Pr2 s r1.runs r2.runs)(_:Fil C CP o a L n m Q H s x 16 [] (λr cs=>eC [r1.runs,r2.runs] (fQ r rr (Zl x r1 r2 cs))))
def Yo(C CP:Addr):Sp:=λvs H Q _=>R9 C CP vs H Q
theorem Fil.cod{x:Int}{G:Int->Cd->Eff}(q:Fil C CP o a L n m Q H s x j [] G)(U:Nw C o L n m (a::L.S) H s H' s' j (G r cs))(ha:H' a=some (.ins CP dx (wdV x (.int r) cv)))(hd:H' d=some (.frz ob (.dK (cs.map kvI))))(hr:Rng s' r)(hc:CO s' cs):Q .non (upd H' a (.ins CP dx (wdV x (.int r) (.ref d)))):=by
 have ad:=Bw ha hd (by intro z;cases z);exact q _ s' r cs (U.setA ha _) ⟨dx,d,ob,qa,by rw[upd_ne (Ne.symm ad)];exact hd⟩ hr hc λ_ h=>nomatch h
theorem Agy(F:Ax K mg "wire_then" ["wiring","whole","first","second"] Gs)(T:Cj K mg C CP)(aG:Bb P w K mg base 1 C "fill" ["self","number","word","numbers"] (Jb C))(aH:Bb P w K mg base 2 C "opposite" ["self","number"] (Nz C))(aA:Bb P w K mg base 2 C "every_of" ["self","numbers"] (G7 C))(aQ:Bb P w K mg base 3 C "joined" ["self","pairs"] (J6 C))(aO:Ai P w K mg base 3 "code_gate" ["wiring","whole","code"] (Va C CP)):Ai P w K mg base 4 "wire_then" ["wiring","whole","first","second"] (Yo C CP):=by
 refine F.ok J8 (λvs H Q E h=>?_) (λfn cdv A outer s0 H vs Q E hr h=>?_)
 ·obtain⟨o,a,dx,f,g,x,rr,cv,r1,r2,L,n,m,s,rfl,_⟩:=h;rfl
 obtain⟨o,a,dx,f,g,x,rr,cv,r1,r2,L,n,m,s,rfl,hv,ha,D1,D2,r3,b3,b1,b2,pr,q⟩:=h;obtain⟨uE,hE,rE⟩:=T.gE;have W:=hv.w;have aS:=(W.objOff ha).2
 refine⟨_,(Ad (Ar (i:=4) J8.nd rfl (Or.inl rfl) (Au aA hr Al (pv 0) (Aa (Av (Aa (Aw (pv 1) rfl) (Aa (Aw (pv 3) rfl) Ab))) Ab)))
  (Ad (Be (Au aG hr Al (pv 0) (Aa (Aw (pv 2) rfl) (Aa Ap (Aa (Av (Aa (Aw (pv 1) rfl) (Aa (Au aH hr Al (pv 0) (Aa (Aw (pv 3) rfl) Ab)) Ab))) Ab)))))
  (Ad (Be (Au aG hr Al (pv 0) (Aa (Aw (pv 3) rfl) (Aa Ap (Aa (Av (Aa (pv 4) (Aa (Am aO hr rfl Al (Aa (pv 0) (Aa (pv 2) (Aa (Bl rfl hE rE) Ab)))) Ab))) Ab)))))
  (Ad (Cs (j:=5) (g:=(Bq 0)) (tc:=(Fo (tOp rNe (tOp (Fc K) (A5 0) (tC (.int 0))) (tC (.int 0))))) (te:=(A5 0)) ["pair"] [] J8.nd rfl (Or.inl rfl) rfl (Bz (Ak Gs) ["wiring","whole","first","second","going_on","going_past"] (by trivial)) (Ow (Aw (pv 2) rfl)) (λs2 H2 fp cl C=>Az (i:=0) (show Nodup [("pair": Str)] from by trivial) rfl (Or.inl rfl)) (Bg (by decide)) (λs2 H2 fp cl C=>Dk (An AaC (Aj Ag (pv 0) Af (λ_ _=>rfl)) (Bl rfl hE rE) (Aq _))) (λs2 H2 fp cl C=>(pv 0)))
  (Ah (Cc (pv 1) (Au aQ hr Al (pv 0) (Aa (A3 Cf (pv 5) (Ji rfl rfl T.n_list (Aw (pv 3) rfl))) Ab)) rfl)))))),?_⟩
 have ho:=W.ho;obtain⟨fx,d1,o1,hf,a9⟩:=id D1;obtain⟨gx,d2,o2,hg,a4⟩:=id D2;have fS:=(W.objOff hf).2;have gS:=(W.objOff hg).2;refine⟨ho,Z,ha,T.clP,T.nR,Z,hg,T.clP,T.nE,Z,zN2,λl1 h1=>?_⟩;have U1:=(hv.nw (S:=L.S)).new h1 (.lst [V.int x,.int r2.rests]);refine⟨o,l1,[x,r2.rests],L,n,m,s,Z,U1.hv hv (by decide),qa,.two r3.1 b2.2.1,(by show 2<=1000;decide),λH1 s1 i1 V1 j1=>?_⟩;have U1:=U1.trans V1;have a2:=V1.w.ho;refine⟨a2,Z,U1.k _ _ fS hf,T.clP,T.nR,Z,U1.k _ _ aS ha,T.clP,T.nR,Z,a2,Z,U1.k _ _ gS hg,T.clP,T.nE,Z,?_⟩;refine⟨o,_,L,n,m,_,Z,U1.hv hv (by decide),b2.2.1.up U1.lo,λH2 s2 i2 V2 j2=>⟨zN2,λl2 h2=>?_⟩⟩;have U2:=(U1.trans V2).new h2 (.lst [V.int x,.int i2]);refine⟨o,l2,r1.runs,"all",[x,i2],L,n,m,_,Z,U2.hv hv (by decide),qa,U2.op _ pr.1.1 (λz=>nomatch z),.inl rfl,.two (r3.1.up U2.lo) j2,(by show 2<=1000;decide),λH3 s3 V3 _=>?_⟩;have U3:=U2.trans V3;have b5:=V3.w.ho;refine⟨b5,Z,U3.k _ _ gS hg,T.clP,T.nR,Z,o,f,0,r1,L,n,m,_,Z,U3.hv hv (by decide),D1.kp W U3.k,(b1.up U3.lo).2.2.1,λH4 s4 i4 V4 j4=>⟨zN2,λl4 h4=>?_⟩⟩;have U4:=(U3.trans V4).new h4 (.lst [V.int i1,.int i4]);refine⟨o,l4,r2.runs,"some",[i1,i4],L,n,m,_,Z,U4.hv hv (by decide),qa,U4.op _ pr.2.1.1 (λz=>by have:=mS z;have:=pr.2.2;omega),.inr rfl,.two (j1.up (uY (uY V2.lo V3.lo) V4.lo)) j4,(by show 2<=1000;decide),λH5 s5 V5 _=>?_⟩;have U5:=U4.trans V5;have a3:=U5.k _ _ (W.offF a9) a9;have c1:=b1.2.2.len;have c2:=b2.2.2.len;refine⟨U5.k _ _ fS hf,T.clP,T.nC,Z,d1,o1,_,Z,a3,Ly (λi ys H'=>Same H5 H'/\∃ps,PySem.Paired (PrAt H') ps ys/\CR s ps/\ps=(r1.codes.take i).filter λp=>!decide (p.1=0)) ⟨Same.refl _,[],.nil,λ_ h=>(nomatch h),Z⟩ (by rw[uB];exact uY c1 (by decide)) (λi ys H' hh=>hh.1 _ _ a3) ?_ ?_⟩
 ·rintro i p t ys H' N hi ⟨gg,ps,hy,cr,ep⟩ ht hN a8
  have a1:i<r1.codes.length:=by have:=(List.getElem?_eq_some_iff.mp hi).1;rwa[uB]at this
  rw[uH,uA a1]at hi;cases hi
  have tk:r1.codes.take (i+1)=r1.codes.take i++[r1.codes[i]]:=by rw[uX,uA a1];rfl
  have gt:=Ae ht (.tup [V.int (r1.codes[i]).1,V.int (r1.codes[i]).2]);have a7:=Paired.mapP hy λ_ _ a=>a.mono gt.tp
  refine⟨SqT.of qa,Ac (j:=0) rfl,Z,A2 (λz1=>(hN _ _ (by rw[uC,uD];omega) ⟨gg.trans gt,ps++[r1.codes[i]],Dg a7 (.cons ⟨t,Z,qa⟩ .nil),cr.app (λp hp=>?_),by rw[tk,vM,ep];congr 1;simp[show ¬(r1.codes[i]).1=0 from λe=>(by simpa using z1:¬kV (kvI r1.codes[i]).1=V.int 0) (congrArg V.int e)]⟩)) λz1=>hN _ _ (by omega) ⟨gg.trans gt,ps,a7,cr,by rw[tk,vM,ep];simp[show(r1.codes[i]).1=0 from V.int.inj (by simpa using z1:kV (kvI r1.codes[i]).1=V.int 0)]⟩⟩;rw[mS hp];exact b1.2.2.1 _ (vI a1)
 rintro ys H6 a8 ⟨g6,ps,hy,cr,ep⟩ D6 a5;rw[uB]at a8;rw[uB,take_length]at ep;have gD:=Ae a5 (.lst ys);have U7:=(U5.same g6).new a5 (.lst ys);have b4:=U7.w.ho;refine⟨b4,Z,U7.k _ _ gS hg,T.clP,T.nC,Z,d2,_,Z,.inr ⟨o2,U7.k _ _ (W.offF a4) a4⟩,λl8 ts H8 q8=>?_⟩;have p8:=Nk q8;obtain⟨g8,fl,el,le,_⟩:=q8;have g8:=g8;have lp:=PySem.Paired.length hy;rw[uB]at le;refine⟨D6,l8,ys,_,Z,Z,g8 _ _ qa,el,by rw[uB];exact uY (by omega:ys.length+ts.length<=64) (by decide),λl9 h9=>?_⟩;have U9:=(U7.same g8).new h9 (.lst (ys++ts.map V.ref));refine⟨o,l9,_,_,L,n,m,_,Z,U9.hv hv (by decide),qa,(U7.same g8).w.offN h9,Paired.mapP (Dg (Paired.mapP hy λ_ _ a=>a.mono (gD.trans g8).tp) p8) λ_ _ a=>a.mono (Ae h9 (.lst (ys++ts.map V.ref))).tp,by rw[uC];omega,(cr.up U9.lo).app (b2.2.2.1.up U9.lo),λd ob HA sA cs VA dA eA cA=>?_⟩;have UA:=U9.trans VA;have a6:=UA.k _ _ aS ha;refine⟨a6,T.clP,T.nC,(by show 5<1000;decide),q.cod ((UA.more λb h=>uG _ h).wk (by decide) hv.f.op (λg z=>.inl (by exact z)) λρ ⟨⟨⟨⟨⟨⟨_,f1⟩,f2⟩,f3⟩,f4⟩,f5⟩,f6⟩=>⟨⟨rfl,?_,?_,λc=>?_⟩,λi=>rfl⟩) a6 eA (b3.up UA.lo) cA⟩
 ·exact f3.trans ((S6 ρ _).trans (by show an3 _ (an3 (ρ.v i2) (some true))=_;rw[B4,show ρ.v i2=_ from f2]))
 ·exact f5.trans ((L6 ρ _).trans (by show or3 (ρ.v i1) (or3 (ρ.v i4) (some false))=_;rw[Bj,show ρ.v i1=an3 _ (an3 _ (some true)) from f1,B4,show ρ.v i4=_ from f4]))
 ·exact(f6 c).trans (by rw[N0,Mv b2.2.2,N1 b1.2.2 (λi=>!decide (i=0)) id (by rw[ep];simp) ρ c];rfl)
def fIf(x sg rr:Int)(r1 r2:Wr)(cs:Cd)(ρ:Vn):Prop:=ρ.v r1.runs=or3 (an3 (ρ.v x) (ρ.v r1.rests)) (an3 (an3 (ρ.v x) (nt3 (ρ.v rr))) (ρ.v sg))/\ρ.v r2.runs=or3 (an3 (ρ.v x) (ρ.v r2.rests)) (an3 (an3 (ρ.v x) (nt3 (ρ.v rr))) (nt3 (ρ.v sg)))/\∀c,cvl cs ρ c=or3 (Bf (isC c) (cvl r1.codes ρ)) (Bf (isC c) (cvl r2.codes ρ))
def eIf(x bg:Int)(rB:Nat->Wr)(qB:Nat->Int)(i:Nat):Eff:=eC ((List.range i).map λj=>(rB j).runs) λρ=>∀j,j<i->ρ.v (rB j).runs=or3 (an3 (ρ.v x) (ρ.v (rB j).rests)) (an3 (ρ.v bg) (ρ.v (qB j)))
inductive Xl(C CP:Addr)(vs:List V)(H:Hp)(Q:VK):Prop
 |mk(o a dx f g:Addr)(x rr sg:Int)(cv:V)(r1 r2:Wr)(L:Lc)(n m:Nat)(s:Ws)(_:vs=[.ref o,.int sg,.ref a,.ref f,.ref g])(_:Hv C o L n m H s 16)(_:H a=some (.ins CP dx (wdV x (.int rr) cv)))(_:WdAt CP H f r1)(_:WdAt CP H g r2)(_:R3 s x)(_:Rng s rr)(_:Rng s sg)(_:WI s r1)(_:WI s r2)(_:Pr2 s r1.runs r2.runs)(_:Fil C CP o a L n m Q H s x 16 [] (λr cs=>eC [r1.runs,r2.runs] (fQ r rr (fIf x sg rr r1 r2 cs))))
def AdI(C CP:Addr):Sp:=λvs H Q _=>Xl C CP vs H Q
theorem Ahn(F:Ax K mg "wire_if" ["wiring","sign","whole","first","second"] Kx)(T:Cj K mg C CP)(aG:Bb P w K mg base 1 C "fill" ["self","number","word","numbers"] (Jb C))(aH:Bb P w K mg base 2 C "opposite" ["self","number"] (Nz C))(aA:Bb P w K mg base 2 C "every_of" ["self","numbers"] (G7 C))(aQ:Bb P w K mg base 3 C "joined" ["self","pairs"] (J6 C)):Ai P w K mg base 4 "wire_if" ["wiring","sign","whole","first","second"] (AdI C CP):=by
 refine F.ok Hf (λvs H Q E h=>?_) (λfn cdv A outer s0 H vs Q E hr h=>?_)
 ·obtain⟨o,a,dx,f,g,x,rr,sg,cv,r1,r2,L,n,m,s,rfl,_⟩:=h;rfl
 obtain⟨o,a,dx,f,g,x,rr,sg,cv,r1,r2,L,n,m,s,rfl,hv,ha,D1,D2,r3,a8,b4,b1,b2,pr,q⟩:=h;have W:=hv.w;have aS:=(W.objOff ha).2
 refine⟨_,(Ad (Ar (i:=5) Hf.nd rfl (Or.inl rfl) (Au aA hr Al (pv 0) (Aa (Av (Aa (Aw (pv 2) rfl) (Aa (Au aH hr Al (pv 0) (Aa (Aw (pv 2) rfl) Ab)) Ab))) Ab)))
  (Ad (Fa PassesOwn.never rfl (Le (Ay (Aa (Ay (Aa (pv 3) (Aa (pv 1) Ab))) (Aa (Ay (Aa (pv 4) (Aa (Au aH hr Al (pv 0) (Aa (pv 1) Ab)) Ab))) Ab)))) (Ff rfl (Bn (Az (i:=6) Hf.nd rfl (Or.inl rfl)) (Bn (Az (i:=7) Hf.nd rfl (Or.inl rfl)) Em)))
   (Ad (Ar (i:=8) Hf.nd rfl (Or.inl rfl) (Au aA hr Al (pv 0) (Aa (Av (Aa (Aw (pv 2) rfl) (Aa (Aw (pv 6) rfl) Ab))) Ab)))
  (Ah (Be (Au aG hr Al (pv 0) (Aa (Aw (pv 6) rfl) (Aa Ap (Aa (Av (Aa (pv 8) (Aa (Au aA hr Al (pv 0) (Aa (Av (Aa (pv 5) (Aa (pv 7) Ab))) Ab)) Ab))) Ab))))))))
  (Ah (Cc (pv 2) (Au aQ hr Al (pv 0) (Aa (A3 Cf (Ji rfl rfl T.n_list (Aw (pv 3) rfl)) (Ji rfl rfl T.n_list (Aw (pv 4) rfl))) Ab)) rfl)))),?_⟩
 have ho:=W.ho;obtain⟨fx,d1,o1,hf,b8⟩:=id D1;obtain⟨gx,d2,o2,hg,a4⟩:=id D2;have fS:=(W.objOff hf).2;have gS:=(W.objOff hg).2;refine⟨ho,Z,ha,T.clP,T.nR,Z,ho,Z,ha,T.clP,T.nE,Z,?_⟩;refine⟨o,_,L,n,m,_,Z,hv.nw (S:=L.S) |>.hv hv (by decide),a8,λH1 s1 i1 U1 j1=>⟨zN2,λl1 h1=>?_⟩⟩;have U1:=U1.new h1 (.lst [V.int x,.int i1]);refine⟨o,l1,[x,i1],L,n,m,_,Z,U1.hv hv (by decide),qa,.two (r3.1.up U1.lo) j1,(by show 2<=1000;decide),λH2 s2 bg V2 jb=>?_⟩;refine⟨zN2,λt1 c8=>?_⟩;have U2:=(U1.trans V2).new c8 (.tup [V.ref f,.int sg]);have d3:=U2.w.ho;refine⟨d3,Z,o,_,L,n,m,_,Z,U2.hv hv (by decide),b4.up U2.lo,λH3 s3 i3 V3 j3=>⟨zN2,λt2 a3=>⟨zN2,λt3 b6=>?_⟩⟩⟩;have c5:=Ae a3 (.tup [V.ref g,.int i3]);have b7:=Ae b6 (.tup [V.ref t1,V.ref t2]);have U4:=((U2.trans V3).new a3 (.tup [V.ref g,.int i3])).new b6 (.tup [V.ref t1,V.ref t2]);have c3:=(c5.trans b7) _ _ (U2.w.tp V3.k _ _ qa);have c7:=b7 _ _ (qa (H:=H3) (a:=t2) (o:=.tup [V.ref g,.int i3]));have a6:=qa (H:=upd H3 t2 (.tup [V.ref g,.int i3])) (a:=t3) (o:=.tup [V.ref t1,V.ref t2]);generalize upd (upd H3 t2 (.tup [V.ref g,.int i3])) t3 (.tup [V.ref t1,V.ref t2])=H4 at *;have a1:Hv C o L n m H4 s3 13:=U4.hv hv (by decide);have b3:=pr.kp U4 rfl;obtain⟨rB,e0,e1⟩:∃rB:Nat->Wr,rB 0=r1/\rB 1=r2:=⟨λj=>if j=0 then r1 else r2,rfl,rfl⟩;obtain⟨qB,y0,y1⟩:∃qB:Nat->Int,qB 0=sg/\qB 1=i3:=⟨λj=>if j=0 then sg else i3,rfl,rfl⟩;refine⟨t3,Z,⟨_,SqT.of a6⟩,Qm (K:=K) (a:=t3) (xs:=[V.ref t1,V.ref t2]) (λi σ H'=>∃x6 x7 x8 s',σ=[some (.ref o),some (.int sg),some (.ref a),some (.ref f),some (.ref g),some (.int bg),x6,x7,x8]/\Nw C o L n m L.S H4 s3 H' s' (2*i) (eIf x bg rB qB i)) ⟨none,none,none,s3,Z,a1.nw.wk0 (uZ _) a1.f.op rfl (λρ _ j z=>absurd z (not_lt_zero j)) λ_ _=>rfl⟩ ?_ ?_ ?_⟩
 ·rintro i σ H' _ ⟨_,_,_,_,_,U⟩
  exact SqT.of (a1.w.tp U.k _ _ a6)
 ·rintro i v σ H' hi ⟨x6,x7,x8,s5,rfl,U5⟩
  have d4:i<2:=(List.getElem?_eq_some_iff.mp hi).1
  obtain⟨b,bx,db,t,rfl,e2,b5,a5,rg,hq,c6,c9⟩:∃(b bx db t:Addr),v=.ref t/\H4 t=some (.tup [V.ref b,.int (qB i)])/\H4 b=some (.ins CP bx (wdV (rB i).runs (.int (rB i).rests) (.ref db)))/\b∉L.S/\WI s3 (rB i)/\Rng s3 (qB i)/\(rB i).runs∈s3.op/\(rB i).runs∉(List.range i).map λj=>(rB j).runs:=by
   match i,hi with
   |0,hi=>cases hi;rw[e0,y0];exact⟨f,fx,d1,t1,rfl,c3,U4.k _ _ fS hf,fS,b1.up U4.lo,b4.up U4.lo,b3.1.1,λz=>nomatch z⟩
   |1,hi=>cases hi;rw[e1,y1];exact⟨g,gx,d2,t2,rfl,c7,U4.k _ _ gS hg,gS,b2.up U4.lo,j3,b3.2.1.1,λz=>by have:=pr.2.2;simp[e0]at z;omega⟩
   | (j+2),hi=>cases hi
  generalize er:rB i=rb at *;generalize eq:qB i=qb at *;have a2:=U5.w.ho;have rg:=rg.up U5.lo;refine⟨t,_,Z,SqT.of (a1.w.tp U5.k _ _ e2),Z,_,_,Z,_,_,Z,Z,a2,Z,U5.k _ _ aS (U4.k _ _ aS ha),T.clP,T.nR,Z,U5.k _ _ a5 b5,T.clP,T.nE,Z,zN2,λl6 h6=>?_⟩;have U6:=U5.new h6 (.lst [V.int x,.int rb.rests]);refine⟨o,l6,[x,rb.rests],L,n,m,_,Z,U6.hv a1 (by omega),qa,.two (r3.1.up (uY U4.lo U5.lo)) rg.2.1,(by show 2<=1000;decide),λH6 s6 i6 V6 j6=>?_⟩;have U6:=U6.trans V6;have a9:=V6.w.ho;refine⟨a9,Z,U6.k _ _ a5 b5,T.clP,T.nR,Z,a9,Z,zN2,λl7 h7=>?_⟩;have U7:=U6.new h7 (.lst [V.int bg,.int qb]);refine⟨o,l7,[bg,qb],L,n,m,_,Z,U7.hv a1 (by omega),qa,.two (jb.up (uY V3.lo U7.lo)) (hq.up U7.lo),(by show 2<=1000;decide),λH8 s8 i8 V8 j8=>⟨zN2,λl8 h8=>?_⟩⟩;have U8:=(U7.trans V8).new h8 (.lst [V.int i6,.int i8]);refine⟨o,l8,rb.runs,"some",[i6,i8],L,n,m,_,Z,U8.hv a1 (by omega),qa,U8.op _ c6 (λz=>c9 (AbG z)),.inr rfl,.two (j6.up V8.lo) j8,(by show 2<=1000;decide),λH9 s9 V9 _=>⟨_,_,_,s9,Z,(U8.trans V9).wk (by omega) a1.f.op (λg z=>.inl (by exact rng_up (congrArg Wr.runs er) (AeZ z))) λρ ⟨⟨⟨fi,f6⟩,f8⟩,f9⟩=>⟨λj hj=>?_,λ_=>rfl⟩⟩⟩;rcases lt_or_ge j i with z|z
  ·exact fi j z
  ·have:j=i:=by omega
   subst this;rw[er,eq];exact f9.trans ((L6 ρ _).trans (by show or3 (ρ.v i6) (or3 (ρ.v i8) (some false))=_;rw[Bj,show ρ.v i6=an3 _ (an3 _ (some true)) from f6,show ρ.v i8=an3 _ (an3 _ (some true)) from f8,B4,B4]))
 ·rintro σ H5 ⟨x6,x7,x8,s5,rfl,U5⟩
  have U5:=U4.trans (show Nw C o L n m L.S H4 s3 H5 s5 4 (eIf x bg rB qB 2) from U5);have c1:=b1.2.2.len;have c2:=b2.2.2.len;have a2:=U5.w.ho;refine⟨a2,Z,U5.k _ _ fS hf,T.clP,T.nC,Z,d1,_,Z,.inr ⟨o1,U5.k _ _ (W.offF b8) b8⟩,λl6 us H6 q6=>?_⟩;have p6:=Nk q6;obtain⟨g6,d5,b9,c4,_⟩:=q6;have g6:Same _ H6:=g6;have U6:=U5.same g6;refine⟨U6.k _ _ gS hg,T.clP,T.nC,Z,d2,_,Z,.inr ⟨o2,U6.k _ _ (W.offF a4) a4⟩,λl8 ts H8 q8=>?_⟩;have p8:=Nk q8;obtain⟨g8,fl,el,le,_⟩:=q8;have g8:Same _ H8:=g8;rw[uB]at le c4;refine⟨l6,l8,_,_,Z,Z,g8 _ _ b9,el,by rw[uB,uB];exact uY (by omega:us.length+ts.length<=64) (by decide),λl9 h9=>?_⟩;have U9:=(U6.same g8).new h9 (.lst (us.map V.ref++ts.map V.ref));refine⟨o,l9,_,_,L,n,m,_,Z,U9.hv hv (by decide),qa,(U6.same g8).w.offN h9,Paired.mapP (Dg (Paired.mapP p6 λ_ _ a=>a.mono g8.tp) p8) λ_ _ a=>a.mono (Ae h9 (.lst (us.map V.ref++ts.map V.ref))).tp,by rw[uC];omega,(b1.2.2.1.up U9.lo).app (b2.2.2.1.up U9.lo),λd ob HA sA cs VA dA eA cA=>?_⟩;have UA:=U9.trans VA;have a7:=UA.k _ _ aS ha;refine⟨a7,T.clP,T.nC,(by show 5<1000;decide),q.cod ((UA.more λb h=>uG _ h).wk (by decide) hv.f.op (λg z=>.inl (by show g∈[r1.runs,r2.runs];rw[<-e0,<-e1];exact z)) λρ ⟨⟨⟨⟨f1,f2⟩,f3⟩,f4⟩,f6⟩=>⟨⟨rfl,?_,?_,λc=>(f6 c).trans (by rw[N0,Mv b1.2.2,Mv b2.2.2])⟩,λi=>rfl⟩) a7 eA (a8.up UA.lo) cA⟩
  ·have:=f4 0 (by decide)
   rwa[e0,y0,show ρ.v bg=an3 _ (an3 _ (some true)) from f2,B4,show ρ.v i1=_ from f1]at this
  ·have:=f4 1 (by decide)
   rwa[e1,y1,show ρ.v bg=an3 _ (an3 _ (some true)) from f2,B4,show ρ.v i1=_ from f1,show ρ.v i3=_ from f3]at this
theorem AbK{g:TG}{tc:TT}{F:Addr->List V->Hp->Prop}(Pv:Nat->List V->Hp->Prop)(h0:Pv 0 [] H)(hz:kvs.length<=sizeLine)(hl:∀i ys H,Pv i ys H->H d=some (.frz o (.dK kvs)))
  (hs:∀i p ys H(N:List V->Hp->Prop),kvs[i]?=some p->Pv i ys H->(∀a1 H',a1.length<=i+1->Pv (i+1) a1 H'->N a1 H')->ys.length<=i->g (kV p.1) a2 H λa3 H2=>tc a3 H2 λb H3=>if b=true then te a3 H3 λy H4=>N (ys++[y]) H4 else N ys H3)
  (hd:∀ys H,ys.length<=kvs.length->Pv kvs.length ys H->∀D,H D=none->F D ys H):L9 (Itk d o kvs) g tc te a2 F H:=
 Hz Pv h0 hz (λi ys H hi p=>⟨hl i ys H p,hi⟩) (λys H p=>⟨hl _ ys H p,uZ _⟩)
  (λi x ys H H' N hi p ⟨e,z,y,e1⟩ a4 k=>by subst e e1;exact hs i z ys _ N y p k a4) hd
theorem Bi.offN4(w:Bi C H o L n s)(e:H b=none):b≠o/\b≠L.sl/\b≠L.nl/\b∉L.S:=by
 have off:=w.offN e;obtain⟨gvs,ho,hg,hp,hs,hn,hr,hl,nd⟩:=w;exact⟨λz=>(by rw[z,ho]at e;cases e),λz=>(by rw[z,hs]at e;cases e),λz=>(by rw[z,hn]at e;cases e),off⟩
theorem Yj(l:Cd):((l.map kvI).map λp=>kV p.1)=(l.map (·.1)).map V.int:=by rw[map_map,map_map];rfl
theorem Ye{l:Cd}(h:H d=some (.frz ob (.dK (l.map kvI))))(c:Int):M9 H d (.int c) ((l.lookup c).map V.int):=.inl ⟨_,Sum.inl c,.inr ⟨ob,h⟩,Z,(Oq _ _).symm⟩
theorem Nw.own{E:Eff}(U:Nw C o L n m S H s H' s' d E)(h0:H l=none)(hl:H' l=some (.lst xs))(off:l≠o/\l≠L.sl/\l≠L.nl/\l∉L.S)(u:HO):Nw C o L n m S H s (upd H' l u) s' d E:={U with k:=λb v nb e=>(by rw[upd_ne (ne_of_none e h0)];exact U.k b v nb e),w:=U.w.keep [l] (KpS.upd uF) (Tp.lst hl) λb z=>by rw[mS z];exact off}
theorem Nw.ownD{E:Eff}(U:Nw C o L n m S H s H' s' d E)(h0:H l=none)(hl:H' l=some (.dK kvs))(off:l∉L.S)(u:HO):Nw C o L n m S H s (upd H' l u) s' d E:={U with k:=λb v nb e=>(by rw[upd_ne (ne_of_none e h0)];exact U.k b v nb e),w:=U.w.atD hl off u}
theorem Wh{k:Int}(h:CR s l)(e:l.lookup k=some v):Rng s v:=by
 obtain⟨p,hp,rfl⟩:=Ni e;exact(h p hp).2
theorem RL.snoc{a:Int}(h:RL s l)(ha:Rng s a):RL s (l++[a]):=λx hx=>(uW.mp hx).elim (h x) λz=>by rw[mS z];exact ha
def Lv(cB:Nat->Cd)(c:Int)(j:Nat):List Int:=(List.range j).filterMap λi=>(cB i).lookup c
theorem AbB{z:Nat->Cd}(e0:z 0=c0)(e1:z 1=c1)(ρ:Vn)(c:Int):orL ((Lv z c 2).map ρ.v)=or3 (cvl c0 ρ c) (cvl c1 ρ c):=by
 have e:Lv z c 2=(c0.lookup c).toList++(c1.lookup c).toList:=by
  show List.filterMap _ [0,1]=_
  rw[filterMap_cons,filterMap_cons,e0,e1];cases c0.lookup c<;>cases c1.lookup c<;>rfl
 rw[e];unfold cvl;cases c0.lookup c<;>cases c1.lookup c<;>first|rfl|exact Bj _|exact congrArg _ (Bj _)
abbrev leQ(c i:Int):Bool:=decide (i<=c)
theorem Afx(h0:c0.lookup c=none)(h1:c1.lookup c=none):gtC (cvl c0 ρ) (cvl c1 ρ) c=some false:=by
 unfold gtC cvl;rw[h0,h1];rfl
inductive Aas(C:Addr)(vs:List V)(H:Hp)(Q:VK):Prop
 |mk(o sl d0 d1:Addr)(ob0 ob1:Obj)(c0 c1:Cd)(L:Lc)(n m:Nat)(s:Ws)(_:vs=[.ref o,.ref sl])(_:Hv C o L n m H s 24)(_:H sl=some (.lst [.ref d0,.ref d1]))(_:sl∉L.S)(_:H d0=some (.frz ob0 (.dK (c0.map kvI))))(_:H d1=some (.frz ob1 (.dK (c1.map kvI))))(_:CO s c0)(_:CO s c1)(_:∀d ob H' s' cs,Nw C o L n m L.S H s H' s' 24 (eF λρ=>∀c,cvl cs ρ c=gtC (cvl c0 ρ) (cvl c1 ρ) c)->H' d=some (.frz ob (.dK (cs.map kvI)))->CO s' cs->Q (.ref d) H')
def AfP(C:Addr):Sp:=λvs H Q _=>Aas C vs H Q
theorem Aft(F:Ax K mg "greater_codes" ["wiring","sides"] Dl)(T:Cj K mg C CP)(aA:Bb P w K mg base 2 C "every_of" ["self","numbers"] (G7 C))(aE:Bb P w K mg base 2 C "some_of" ["self","numbers"] (He C)):Ai P w K mg base 3 "greater_codes" ["wiring","sides"] (AfP C):=by
 refine F.ok Da (λvs H Q E h=>?_) (λfn cdv A outer s0 H vs Q E hr h=>?_)
 ·obtain⟨o,sl,d0,d1,ob0,ob1,c0,c1,L,n,m,s,rfl,_⟩:=h;rfl
 obtain⟨o,sl,d0,d1,ob0,ob1,c0,c1,L,n,m,s,rfl,hv,a2,a7,h0,h1,k0,k1,q⟩:=h;have hu:=vB (add_le_add_left (show 1<=64 by decide) _) hr.units;have W:=hv.w;have z0:=k0.len;have z1:=k1.len
 refine⟨_,(Ad (Ar (i:=2) Da.nd rfl (Or.inl rfl) Md)
  (Ad (Fa PassesOwn.never rfl (B6 (Gd rfl rfl T.n_sorted rfl T.n_set (A3 Cf (Di (Lh rfl) rfl T.n_list (by trivial) (Aa (Aj Bs (pv 1) Af (λ_ _=>rfl)) Ab)) (Di (Lh rfl) rfl T.n_list (by trivial) (Aa (Aj Bs (pv 1) Af (λ_ _=>rfl)) Ab))))) (Az (i:=3) Da.nd rfl (Or.inr rfl))
   (Ad (Cs (j:=4) (g:=(Bq 0)) (tc:=(tB (AfB (A5 1) (A5 0)))) (te:=(S8 (A5 0) (A5 1))) ["side"] [("code",3)] Da.nd rfl (Or.inl rfl) rfl (Bz (Ak Dl) ["wiring","sides","codes","code","here","needed","side"] (by trivial)) (B6 (pv 1)) (λs2 H2 fp cl C=>Az (i:=0) (show Nodup [("side": Str),("code": Str)] from by trivial) rfl (Or.inl rfl)) (Bg (by decide)) (λs2 H2 fp cl C=>Dk (Aad (Abl hu (pv 1) (pv 0)) (by rfl))) (λs2 H2 fp cl C=>(N6 hu (pv 0) (pv 1) (λ_ _=>rfl))))
  (Ad (Ar (i:=5) Da.nd rfl (Or.inl rfl) (Av (Aa (Au aE hr Al (pv 0) (Aa (pv 4) Ab)) Ab)))
  (Ad (Fa PassesOwn.never rfl (B6 (pv 1)) (Az (i:=6) Da.nd rfl (Or.inr rfl))
   (Ah (Be (Fq PySem.F.plainAttrs_list PySem.F.slot_list_append PySem.F.type_list_append Cz (pv 5) (Aa (Au aE hr Al (pv 0) (Aa (Dc (g:=(Bq 0)) (tc:=(Fo (tOp (rI0 λi j=>.bl (decide (i<=j))) (A5 0) (A5 2)))) (te:=(S8 (A5 1) (A5 0))) ["least"] [("side",6),("code",3)] rfl (Bz (Ak Dl) ["wiring","sides","codes","code","here","needed","side"] (by trivial)) (AeL (pv 6)) (λs2 H2 fp cl C=>Az (i:=0) (show Nodup [("least": Str),("side": Str),("code": Str)] from by trivial) rfl (Or.inl rfl)) (Bg (by decide)) (λs2 H2 fp cl C=>Dk (An AgA (pv 0) (pv 2) (Aq _))) (λs2 H2 fp cl C=>(N6 hu (pv 1) (pv 0) (λ_ _=>rfl)))) Ab)) Ab)))))
  (Ah (Q1 hu (pv 2) (pv 3) (Au aA hr Al (pv 0) (Aa (pv 5) Ab)) rfl))))))
  (Ah (Ao (Pz (pv 2)))))),?_⟩
 refine λd hd=>?_
 have dS:=W.offN hd;have U1:=(hv.nw (S:=L.S)).new hd (.dK []);have g1:=Ae hd (.dK []);have d8:=qa (H:=H) (a:=d) (o:=.dK []);refine⟨SqL.of (g1 _ _ a2),Ac (j:=0) rfl,d0,_,Z,.inr ⟨ob0,g1 _ _ h0⟩,λr1 e9=>?_⟩;rw[Yj];have g2:=Ae e9 (.lst ((c0.map (·.1)).map V.int));have c6:=g1.trans g2;refine⟨SqL.of (c6 _ _ a2),Ac (j:=1) rfl,d1,_,Z,.inr ⟨ob1,c6 _ _ h1⟩,λr2 e5=>?_⟩;rw[Yj];have g3:=Ae e5 (.lst ((c1.map (·.1)).map V.int));refine⟨r1,r2,_,_,Z,Z,g3 _ _ qa,qa,?_,λr3 f3=>?_⟩
 ·rw[uB,uB,uB,uB]
  exact uY (by omega:_<=64) (by decide)
 rw[<-uN];have g4:=Ae f3 (.lst ((c0.map (·.1)++c1.map (·.1)).map V.int));refine⟨r3,c0.map (·.1)++c1.map (·.1),Z,SqL.of qa,by rw[uC,uB,uB];omega,λl2 b7=>?_⟩;have g5:=Ae b7 (.lst ((nub (c0.map (·.1)++c1.map (·.1))).map V.int));have U3:=U1.same (((g2.trans g3).trans g4).trans g5);have b8:=qa (H:=upd (upd (upd (upd H d (.dK [])) r1 (.lst ((c0.map (·.1)).map V.int))) r2 (.lst ((c1.map (·.1)).map V.int))) r3 (.lst ((c0.map (·.1)++c1.map (·.1)).map V.int))) (a:=l2) (o:=.lst ((nub (c0.map (·.1)++c1.map (·.1))).map V.int));have d3:=(((g2.trans g3).trans g4).trans g5) _ _ d8;have b3:=(U1.same ((g2.trans g3).trans g4)).w.offN b7;have f2:l2≠d:=(ne_of_none (((g2.trans g3).trans g4) _ _ d8) b7).symm;generalize upd (upd (upd (upd (upd H d (.dK [])) r1 (.lst ((c0.map (·.1)).map V.int))) r2 (.lst ((c1.map (·.1)).map V.int))) r3 (.lst ((c0.map (·.1)++c1.map (·.1)).map V.int))) l2 (.lst ((nub (c0.map (·.1)++c1.map (·.1))).map V.int))=H3 at U3 b8 d3;have rise:(nub (c0.map (·.1)++c1.map (·.1))).Pairwise (· < ·):=G3 _
 have hk:∀c∈nub (c0.map (·.1)++c1.map (·.1)),0<=c/\c<=5:=λc hc=>by
  rcases uW.mp (Bc.mp hc) with z|z
  ·obtain⟨p,hp,rfl⟩:=vT.mp z
   exact(k0.1 p hp).1
  ·obtain⟨p,hp,rfl⟩:=vT.mp z
   exact(k1.1 p hp).1
 have d9:∀c,c∉nub (c0.map (·.1)++c1.map (·.1))->c0.lookup c=none/\c1.lookup c=none:=λc z=>by
  refine⟨?_,?_⟩
  ·cases e:c0.lookup c with
   |none=>rfl
   |some g=>exact absurd (Bc.mpr (vX _ (mem_map_of_mem (f:=(·.1)) (Jh e)))) z
  ·cases e:c1.lookup c with
   |none=>rfl
   |some g=>exact absurd (Bc.mpr (uP _ (mem_map_of_mem (f:=(·.1)) (Jh e)))) z
 generalize nub (c0.map (·.1)++c1.map (·.1))=cs at *
 have l6:cs.length<=6:=by
  have:=Jy cs 0 6 (by decide) rise λx hx=>by have:=hk x hx;omega
  omega
 obtain⟨cB,e0,e1⟩:∃cB:Nat->Cd,cB 0=c0/\cB 1=c1:=⟨λj=>if j=0 then c0 else c1,rfl,rfl⟩
 have c5:∀(j:Nat)(v:V),[V.ref d0,V.ref d1][j]?=some v->∃(e:Addr)(a5:Obj),v=.ref e/\H e=some (.frz a5 (.dK ((cB j).map kvI)))/\CO s (cB j):=by
  intro j v hv
  match j,hv with
  |0,hv=>cases hv;rw[e0];exact⟨d0,ob0,rfl,h0,k0⟩
  |1,hv=>cases hv;rw[e1];exact⟨d1,ob1,rfl,h1,k1⟩
  | (m+2),hv=>cases hv
 refine⟨l2,Z,⟨_,SqL.of b8⟩,F0 (K:=K) (a:=l2) (xs:=cs.map V.int) (λi σ H'=>∃x3 x4 x5 x6 s' co,σ=[some (.ref o),some (.ref sl),some (.ref d),x3,x4,x5,x6]/\Nw C o L n m L.S H s H' s' (4*i) (eF λρ=>∀p∈co,ρ.v p.2=gtC (cvl c0 ρ) (cvl c1 ρ) p.1)/\H' l2=some (.lst (cs.map V.int))/\H' d=some (.dK (co.map kvI))/\CR s' co/\co.map (·.1)=cs.take i) ⟨none,none,none,none,s,[],Z,U3.wk0 (vY _) hv.f.op rfl (λρ _ _ z=>nomatch z) (λ_ _=>rfl),b8,d3,(λ_ h=>nomatch h),Z⟩ (λi σ H' _ ⟨_,_,_,_,_,_,_,_,h,_⟩=>SqL.of h) ?_ ?_⟩
 ·rintro i x σ H4 hi ⟨x3,x4,x5,x6,s4,co,rfl,U4,c9,a4,b1,ks⟩
  have a6:i<cs.length:=by have:=(List.getElem?_eq_some_iff.mp hi).1;rwa[uB]at this
  rw[uH,uA a6]at hi;cases hi
  have nk:=Tx rise a6 ks;have f0:=hk _ (vI a6)
  have lc:co.length=i:=by
   have:=congrArg length ks;rw[uB,vE]at this;omega
  have f1:cs.take (i+1)=cs.take i++[cs[i]]:=by rw[uX,uA a6];rfl
  generalize cs[i]=c at *;refine⟨sl,Z,⟨_,SqL.of (U4.k _ _ a7 a2)⟩,Cn (K:=K) (xs:=[V.ref d0,V.ref d1]) (λj ys H'=>H'=H4/\∃ns:List Int,ys=ns.map V.int/\RL s ns/\ns=Lv cB c j) ⟨Z,[],Z,.nil,Z⟩ zN2 (λi ys H' hh=>by rw[hh.1];exact SqL.of (U4.k _ _ a7 a2)) ?_ ?_⟩
  ·rintro j x ys H' N hj ⟨rfl,ns,rfl,rl,en⟩ hN a1
   obtain⟨e,a5,rfl,he,ke⟩:=c5 j x hj;have eh:Lv cB c (j+1)=Lv cB c j++((cB j).lookup c).toList:=by unfold Lv;rw[range_succ,filterMap_append];show _++List.filterMap _ [j]=_;rw[filterMap_cons];cases (cB j).lookup c<;>rfl
   generalize cB j=ce at *;have dg:=Ye (U4.k _ _ (W.offF he) he) c;refine⟨e,_,Z,dg,?_⟩;cases hl:ce.lookup c with
   |none=>exact AgM rfl (hN _ _ (by omega) ⟨rfl,ns,rfl,rl,by rw[eh,hl,en];exact(vH _).symm⟩)
   |some v=>
    rw[hl]at dg;exact Aga rfl ⟨e,.int v,Z,dg,hN _ _ (by rw[uC,uD];omega) ⟨Z,ns++[v],by rw[uN];rfl,rl.snoc (Wh ke.1 hl),by rw[eh,hl,en];rfl⟩⟩
  rintro ys H' a1 ⟨rfl,ns,rfl,rl,en⟩ D1 c7;have en:ns=Lv cB c 2:=en;rw[uB]at a1;have a1:ns.length<=2:=a1;have g5:=Ae c7 (.lst (ns.map V.int));have U5:=U4.new c7 (.lst (ns.map V.int));have e6:=U5.w.ho;refine⟨e6,Z,o,D1,ns,L,n,m,_,Z,U5.hv hv (by omega),qa,rl.up U5.lo,by omega,λH6 s6 y6 V6 e3=>⟨zN1,λl7 h7=>?_⟩⟩;have U6:=U5.trans V6;have d4:=V6.k _ _ dS (g5 _ _ a4);have d2:=V6.k _ _ b3 (g5 _ _ c9);have c3:=U6.w.offN4 h7;have e4:=U6.k.nil h7 c3.2.2.2;have g7:=Ae h7 (.lst [V.int y6]);have d7:d≠l7:=ne_of_none d4 h7;have e7:l2≠l7:=ne_of_none d2 h7;have U7:=U6.new h7 (.lst [V.int y6]);refine⟨sl,Z,⟨_,SqL.of (U7.k _ _ a7 a2)⟩,F0 (K:=K) (a:=sl) (xs:=[V.ref d0,V.ref d1]) (λj σ H'=>∃x6 s' ns,σ=[some (.ref o),some (.ref sl),some (.ref d),some (.int c),some (.ref D1),some (.ref l7),x6]/\Nw C o L n m L.S H s H' s' (4*i+1+j) (eF λρ=>(∀p∈co,ρ.v p.2=gtC (cvl c0 ρ) (cvl c1 ρ) p.1)/\ns.map ρ.v=or3 (cvl c0 ρ c) (cvl c1 ρ c)::(List.range j).map λt=>Bf (leQ c) (cvl (cB t) ρ))/\H' l2=some (.lst (cs.map V.int))/\H' d=some (.dK (co.map kvI))/\H' l7=some (.lst (ns.map V.int))/\RL s' ns/\ns.length=j+1/\CR s' co) ⟨_,s6,[y6],Z,U7.wk0 (uZ _) hv.f.op rfl (λρ ⟨f,f6⟩=>⟨f,congrArg (· :: []) (f6.trans (by rw[en];exact AbB e0 e1 ρ c))⟩) (λ_ _=>rfl),g7 _ _ d2,g7 _ _ d4,qa,.one e3,Z,b1.up V6.lo⟩ (λi σ H' _ ⟨_,_,_,_,U,_⟩=>SqL.of (U.k _ _ a7 a2)) ?_ ?_⟩
  ·rintro j v σ H8 hj ⟨e8,s8,ns,rfl,U8,b5,b9,a8,b2,a3,a9⟩
   have f5:j<2:=(List.getElem?_eq_some_iff.mp hj).1;obtain⟨e,a5,rfl,he,ke⟩:=c5 j v hj;have er:∀ρ:Vn,((List.range (j+1)).map λt=>Bf (leQ c) (cvl (cB t) ρ))=((List.range j).map λt=>Bf (leQ c) (cvl (cB t) ρ))++[Bf (leQ c) (cvl (cB j) ρ)]:=λρ=>by rw[range_succ,uN];rfl
   generalize cB j=ce at *;have c4:=U8.k _ _ (W.offF he) he;have f4:=ke.len;have b6:=U8.w.ho;refine⟨.inl ⟨Z,_,SqL.of a8⟩,b6,Z,e,a5,_,Z,c4,AbK (λj ys H'=>H'=H8/\∃ns:List Int,ys=ns.map V.int/\RL s ns/\ns=((ce.take j).filter λp=>leQ c p.1).map (·.2)) ⟨Z,[],Z,.nil,Z⟩ (by rw[uB];exact uY f4 (by decide)) (λi ys H' hh=>by rw[hh.1];exact c4) ?_ ?_⟩
   ·rintro t p ys H' N ht ⟨rfl,ms,rfl,rl,em⟩ hN a1
    have b4:t<ce.length:=by have:=(List.getElem?_eq_some_iff.mp ht).1;rwa[uB]at this
    rw[uH,uA b4]at ht;cases ht
    have hv:=X4 ke (vI b4);have tk:ce.take (t+1)=ce.take t++[ce[t]]:=by rw[uX,uA b4];rfl
    have dg:=Ye c4 (ce[t]).1;rw[hv]at dg;exact⟨_,_,Z,Z,A2 (λz1=>⟨e,.int (ce[t]).2,Z,dg,hN _ _ (by rw[uC,uD];omega) ⟨Z,ms++[(ce[t]).2],by rw[uN];rfl,rl.snoc (Wh ke.1 hv),by rw[tk,vM,uN,em,filter_cons_of_pos (by exact z1)];rfl⟩⟩) λz1=>hN _ _ (by omega) ⟨Z,ms,Z,rl,by rw[tk,vM,uN,em,filter_cons_of_neg (by exact z1)];exact(vH _).symm⟩⟩
   rintro ys H' a1 ⟨rfl,ms,rfl,rl,em⟩ D2 d5;rw[uB,uB]at a1;rw[uB,take_length]at em;have g9:=Ae d5 (.lst (ms.map V.int));have U9:=U8.new d5 (.lst (ms.map V.int));refine⟨o,D2,ms,L,n,m,_,Z,U9.hv hv (by omega),qa,rl.up U9.lo,by omega,λHA sA yA VA jA=>?_⟩;have UA:=U9.trans VA;have c8:=VA.k _ _ c3.2.2.2 (g9 _ _ a8);exact⟨l7,_,_,Z,Z,c8,by rw[uB,a3];exact vB (by omega:_<=64) (by decide),_,sA,ns++[yA],Z,(UA.wk0 (uZ _) hv.f.op rfl (λρ ⟨⟨f,g⟩,fA⟩=>⟨f,by rw[uN,g,er,show [yA].map ρ.v=[orL (ms.map ρ.v)] from congrArg (· :: []) fA,em,Yv ke];rfl⟩) (λ_ _=>rfl)).own e4 c8 c3 _,by rw[upd_ne e7];exact VA.k _ _ b3 (g9 _ _ b5),by rw[upd_ne d7];exact VA.k _ _ dS (g9 _ _ b9),by rw[qa,uN];rfl,(b2.up VA.lo).snoc jA,by rw[uC,a3];rfl,a9.up VA.lo⟩
  ·rintro σ H8 ⟨e8,s8,ns,rfl,U8,b5,b9,a8,b2,a3,a9⟩
   have U8:Nw C o L n m L.S H s H8 s8 (4*i+3) _:=U8;have a3:ns.length=3:=a3;have b6:=U8.w.ho;refine⟨b6,Z,o,l7,ns,L,n,m,_,Z,U8.hv hv (by omega),a8,b2,by omega,λH9 s9 y9 V9 j9=>?_⟩;have U9:=U8.trans V9;have d6:=V9.k _ _ dS b9;refine⟨d,_,Z,.inl ⟨_,Sum.inl c,d6,Z,?_,Z⟩,?_⟩
   ·rw[uB]
    exact vB (by omega:_<=64) (by decide)
   refine⟨_,_,_,_,s9,co++[(c,y9)],Z,(U9.wk0 (F:=λρ=>∀p∈co++[(c,y9)],ρ.v p.2=gtC (cvl c0 ρ) (cvl c1 ρ) p.1) (uZ _) hv.f.op rfl (λρ ⟨⟨f,g⟩,f9⟩ p hp=>?_) (λ_ _=>rfl)).ownD hd d6 dS _,by rw[upd_ne f2];exact V9.k _ _ b3 b5,by rw[qa,<-putI_map,putI_new nk],(a9.up V9.lo).app λp hp=>?_,by rw[uN,ks,f1];rfl⟩
   ·rcases uW.mp hp with z|z
    ·exact f p z
    ·rw[mS z]
     refine f9.trans ?_;show anL (ns.map ρ.v)=_;rw[g];show an3 _ (an3 (Bf (leQ c) (cvl (cB 0) ρ)) (an3 (Bf (leQ c) (cvl (cB 1) ρ)) (some true)))=_;rw[B4,e0,e1];rfl
   ·rw[mS hp]
    exact⟨f0,j9⟩
 ·rintro σ H4 ⟨x3,x4,x5,x6,s4,co,rfl,U4,c9,a4,b1,ks⟩
  rw[uB,uQ (uZ _)]at ks;rw[uB]at U4;exact⟨d,_,Z,a4,λob=>q d ob _ s4 co ((U4.wk0 (F:=λρ=>∀c,cvl co ρ c=gtC (cvl c0 ρ) (cvl c1 ρ) c) (by omega) hv.f.op rfl (λρ f c=>Aaa f λz=>Afx (d9 c (ks▸z)).1 (d9 c (ks▸z)).2) (λ_ _=>rfl)).ownD hd a4 dS _) qa ⟨b1,by rw[ks];exact rise⟩⟩
def AhD(H:Hp)(c:Cd)(v:V):Prop:=∃d ob,v=.ref d/\H d=some (.frz ob (.dK (c.map kvI)))
theorem Nw.drop{E:Eff}(U:Nw C o L n m (l::S) H s H' s' d E)(h:H l=none):Nw C o L n m S H s H' s' d E:={U with k:=U.k.drop h}
def idl(r e:Wr)(ρ:Vn):Option Bool:=an3 (ρ.v e.rests) (nt3 (ρ.v r.rests))
def sdC(x:Int)(r e:Wr)(ρ:Vn)(c:Int):Option Bool:=or3 (Bf (isC c) (cvl r.codes ρ)) (one 0 (an3 (ρ.v x) (idl r e ρ)) c)
def Vs(x:Int)(r1 r2:Wr)(cs:Cd)(ρ:Vn):Prop:=ρ.v r1.runs=an3 (ρ.v x) (nt3 (idl r1 r2 ρ))/\ρ.v r2.runs=an3 (ρ.v x) (nt3 (idl r2 r1 ρ))/\∀c,cvl cs ρ c=gtC (sdC x r1 r2 ρ) (sdC x r2 r1 ρ) c
def eBes(x:Int)(rB rE:Nat->Wr)(cds:List Cd)(i:Nat):Eff:=eC ((List.range i).map λj=>(rB j).runs) λρ=>∀j,j<i->ρ.v (rB j).runs=an3 (ρ.v x) (nt3 (idl (rB j) (rE j) ρ))/\∀c,cvl (cds.getD j []) ρ c=sdC x (rB j) (rE j) ρ c
inductive Vz(C CP:Addr)(vs:List V)(H:Hp)(Q:VK):Prop
 |mk(o a dx f g:Addr)(x rr:Int)(cv:V)(r1 r2:Wr)(L:Lc)(n m:Nat)(s:Ws)(_:vs=[.ref o,.ref a,.ref f,.ref g])(_:Hv C o L n m H s 44)(_:H a=some (.ins CP dx (wdV x (.int rr) cv)))(_:WdAt CP H f r1)(_:WdAt CP H g r2)(_:R3 s x)(_:Rng s rr)(_:WI s r1)(_:WI s r2)(_:Pr2 s r1.runs r2.runs)(_:Fil C CP o a L n m Q H s x 44 [] (λr cs=>eC [r1.runs,r2.runs] (fQ r rr (Vs x r1 r2 cs))))
def Aa0(C CP:Addr):Sp:=λvs H Q _=>Vz C CP vs H Q
theorem Ahi(F:Ax K mg "wire_beside" ["wiring","whole","first","second"] Gz)(T:Cj K mg C CP)(aG:Bb P w K mg base 1 C "fill" ["self","number","word","numbers"] (Jb C))(aH:Bb P w K mg base 2 C "opposite" ["self","number"] (Nz C))(aA:Bb P w K mg base 2 C "every_of" ["self","numbers"] (G7 C))(aQ:Bb P w K mg base 3 C "joined" ["self","pairs"] (J6 C))(cS:Ai P w K mg base 3 "greater_codes" ["wiring","sides"] (AfP C)):Ai P w K mg base 4 "wire_beside" ["wiring","whole","first","second"] (Aa0 C CP):=by
 refine F.ok Dz (λvs H Q E h=>?_) (λfn cdv A outer s0 H vs Q E hr h=>?_)
 ·obtain⟨o,a,dx,f,g,x,rr,cv,r1,r2,L,n,m,s,rfl,_⟩:=h;rfl
 obtain⟨o,a,dx,f,g,x,rr,cv,r1,r2,L,n,m,s,rfl,hv,ha,D1,D2,r3,e5,b1,b2,pr,q⟩:=h;obtain⟨uE,hE,rE⟩:=T.gE;have W:=hv.w;have aS:=(W.objOff ha).2
 refine⟨_,(Ad (Ar (i:=4) Dz.nd rfl (Or.inl rfl) (Av Ab))
  (Ad (Fa PassesOwn.never rfl (Le (Ay (Aa (Ay (Aa (pv 2) (Aa (pv 3) Ab))) (Aa (Ay (Aa (pv 3) (Aa (pv 2) Ab))) Ab)))) (Ff rfl (Bn (Az (i:=5) Dz.nd rfl (Or.inl rfl)) (Bn (Az (i:=6) Dz.nd rfl (Or.inl rfl)) Em)))
   (Ad (Ar (i:=7) Dz.nd rfl (Or.inl rfl) (Au aA hr Al (pv 0) (Aa (Av (Aa (Aw (pv 6) rfl) (Aa (Au aH hr Al (pv 0) (Aa (Aw (pv 5) rfl) Ab)) Ab))) Ab)))
  (Ad (Be (Au aG hr Al (pv 0) (Aa (Aw (pv 5) rfl) (Aa Ap (Aa (Av (Aa (Aw (pv 1) rfl) (Aa (Au aH hr Al (pv 0) (Aa (pv 7) Ab)) Ab))) Ab)))))
  (Ad (Ar (i:=8) Dz.nd rfl (Or.inl rfl) (Ay (Aa (Bl rfl hE rE) (Aa (Au aA hr Al (pv 0) (Aa (Av (Aa (Aw (pv 1) rfl) (Aa (pv 7) Ab))) Ab)) Ab))))
  (Ah (Be (Fq PySem.F.plainAttrs_list PySem.F.slot_list_append PySem.F.type_list_append Cz (pv 4) (Aa (Au aQ hr Al (pv 0) (Aa (A3 Cf (Ji rfl rfl T.n_list (Aw (pv 5) rfl)) (Av (Aa (pv 8) Ab))) Ab)) Ab))))))))
  (Ah (Cc (pv 1) (Am cS hr rfl Al (Aa (pv 0) (Aa (pv 4) Ab))) rfl)))),?_⟩
 obtain⟨fx,d1,o1,hf,g1⟩:=id D1;obtain⟨gx,d2,o2,hg,d8⟩:=id D2;refine⟨zN0,λls b3=>?_⟩;have gl:=Ae b3 (.lst []);have c8:=W.offN4 b3;have b5:=c8.2.2.2;refine⟨zN2,λt1 f5=>⟨zN2,λt2 d7=>⟨zN2,λt3 f9=>?_⟩⟩⟩;have d3:=Ae f5 (.tup [V.ref f,.ref g]);have b4:=Ae d7 (.tup [V.ref g,.ref f]);have a9:=Ae f9 (.tup [V.ref t1,V.ref t2]);have U4:=(hv.nw (S:=ls::L.S)).same (((gl.trans d3).trans b4).trans a9);have d6:=(b4.trans a9) _ _ (qa (H:=upd H ls (.lst [])) (a:=t1) (o:=.tup [V.ref f,.ref g]));have e6:=a9 _ _ (qa (H:=upd (upd H ls (.lst [])) t1 (.tup [V.ref f,.ref g])) (a:=t2) (o:=.tup [V.ref g,.ref f]));have b9:=qa (H:=upd (upd (upd H ls (.lst [])) t1 (.tup [V.ref f,.ref g])) t2 (.tup [V.ref g,.ref f])) (a:=t3) (o:=.tup [V.ref t1,V.ref t2]);have c4:=((d3.trans b4).trans a9) _ _ (qa (H:=H) (a:=ls) (o:=.lst []));generalize upd (upd (upd (upd H ls (.lst [])) t1 (.tup [V.ref f,.ref g])) t2 (.tup [V.ref g,.ref f])) t3 (.tup [V.ref t1,V.ref t2])=H4 at *
 have c3:∀{H':Hp},KpS (ls::L.S) H4 H'->Tp H4 H':=λk b xs e=>k b _ (λz=>by
  rcases vJ.mp z with z|z
  ·rw[z,c4]at e;cases e
  ·exact U4.w.off e (λ_ z=>nomatch z) (λ_ z=>nomatch z) z) e
 obtain⟨rB,w0,w1⟩:∃rB:Nat->Wr,rB 0=r1/\rB 1=r2:=⟨λj=>if j=0 then r1 else r2,rfl,rfl⟩;obtain⟨rE,y0,y1⟩:∃rE:Nat->Wr,rE 0=r2/\rE 1=r1:=⟨λj=>if j=0 then r2 else r1,rfl,rfl⟩;refine⟨t3,Z,⟨_,SqT.of b9⟩,Qm (K:=K) (a:=t3) (xs:=[V.ref t1,V.ref t2]) (λi σ H'=>∃x5 x6 x7 x8 s' a3 a1,σ=[some (.ref o),some (.ref a),some (.ref f),some (.ref g),some (.ref ls),x5,x6,x7,x8]/\Nw C o L n m (ls::L.S) H4 s H' s' (10*i) (eBes x rB rE a1 i)/\H' ls=some (.lst a3)/\PySem.Paired (AhD H') a1 a3/\(∀c∈a1,CO s' c)/\a1.length=i) ⟨none,none,none,none,s,[],[],Z,(U4.hv (e:=0) hv (by decide)).nw.wk0 (uZ _) hv.f.op rfl (λρ _ j z=>absurd z (not_lt_zero j)) (λ_ _=>rfl),c4,.nil,(λ_ h=>nomatch h),Z⟩ ?_ ?_ ?_⟩
 ·rintro i σ H' _ ⟨_,_,_,_,_,_,_,_,U,_⟩
  exact SqT.of (c3 U.k _ _ b9)
 ·rintro i v σ H5 hi ⟨x5,x6,x7,x8,s5,a3,a1,rfl,V5,a5,a6,a8,lc⟩
  have e3:i<2:=(List.getElem?_eq_some_iff.mp hi).1
  obtain⟨b,bx,db,e,ex,de,ob,t,rfl,e2,a7,c9,c6,wb,we,e4,g4⟩:∃(b bx db e ex de:Addr)(ob:Obj)(t:Addr),v=.ref t/\H4 t=some (.tup [V.ref b,.ref e])/\H b=some (.ins CP bx (wdV (rB i).runs (.int (rB i).rests) (.ref db)))/\H db=some (.frz ob (.dK ((rB i).codes.map kvI)))/\H e=some (.ins CP ex (wdV (rE i).runs (.int (rE i).rests) (.ref de)))/\WI s (rB i)/\WI s (rE i)/\(rB i).runs∈s.op/\(rB i).runs∉(List.range i).map λj=>(rB j).runs:=by
   match i,hi with
   |0,hi=>cases hi;rw[w0,y0];exact⟨f,fx,d1,g,gx,d2,o1,t1,rfl,d6,hf,g1,hg,b1,b2,pr.1.1,λz=>nomatch z⟩
   |1,hi=>cases hi;rw[w1,y1];exact⟨g,gx,d2,f,fx,d1,o2,t2,rfl,e6,hg,d8,hf,b2,b1,pr.2.1.1,λz=>by have:=pr.2.2;simp[w0]at z;omega⟩
   | (j+2),hi=>cases hi
  generalize er:rB i=rb at *;generalize ee:rE i=re at *;have U5:=(U4.trans V5).drop b3;have lb:=wb.2.2.len;have bS:=(W.objOff a7).2;have d4:=W.offF c9;have b7:=U5.w.ho;refine⟨t,_,Z,SqT.of (c3 V5.k _ _ e2),Z,_,_,Z,_,_,Z,Z,b7,Z,U5.k _ _ (W.objOff c6).2 c6,T.clP,T.nE,Z,b7,Z,U5.k _ _ bS a7,T.clP,T.nE,Z,?_⟩;have a2:Hv C o L n m H5 s5 10:=U5.hv hv (by omega);refine⟨o,_,L,n,m,_,Z,a2.nw (S:=L.S) |>.hv a2 (by decide),wb.2.1.up U5.lo,λH6 s6 i6 V6 j6=>⟨zN2,λl6 h6=>?_⟩⟩;have V6:=V6.new h6 (.lst [V.int re.rests,.int i6]);refine⟨o,l6,[re.rests,i6],L,n,m,_,Z,V6.hv a2 (by decide),qa,.two (we.2.1.up (uY U5.lo V6.lo)) j6,(by show 2<=1000;decide),λH7 s7 i7 V7 j7=>?_⟩;have V7:=V6.trans V7;have U7:=U5.trans V7;have c7:=V7.w.ho;refine⟨c7,Z,U7.k _ _ bS a7,T.clP,T.nR,Z,U7.k _ _ aS ha,T.clP,T.nR,Z,c7,Z,o,_,L,n,m,_,Z,V7.hv a2 (by decide),j7,λH8 s8 i8 V8 j8=>⟨zN2,λl8 h8=>?_⟩⟩;have V9:=(V7.trans V8).new h8 (.lst [V.int x,.int i8]);refine⟨o,l8,rb.runs,"all",[x,i8],L,n,m,_,Z,V9.hv a2 (by decide),qa,V9.op _ (V5.op _ e4 g4) (λz=>nomatch z),.inl rfl,.two (r3.1.up (uY U5.lo V9.lo)) j8,(by show 2<=1000;decide),λH9 s9 VX _=>?_⟩;have V9:=V9.trans VX;have U9:=U5.trans V9;have e8:=V9.w.ho;refine⟨e8,Z,U9.k _ _ aS ha,T.clP,T.nR,Z,zN2,λla f3=>?_⟩;have VA:=V9.new f3 (.lst [V.int x,.int i7]);refine⟨o,la,[x,i7],L,n,m,_,Z,VA.hv a2 (by decide),qa,.two (r3.1.up U9.lo) (j7.up (uY V8.lo VX.lo)),(by show 2<=1000;decide),λHA sA iA VY jA=>⟨zN2,λtA e9=>?_⟩⟩;have VA:=(VA.trans VY).new e9 (.tup [V.int 0,.int iA]);have f4:=qa (H:=HA) (a:=tA) (o:=.tup [V.int 0,.int iA]);generalize upd HA tA (.tup [V.int 0,.int iA])=HB at *;have UA:=U5.trans VA;have d9:=VA.w.ho;refine⟨.inl ⟨Z,_,SqL.of (VA.k _ _ b5 a5)⟩,d9,Z,UA.k _ _ bS a7,T.clP,T.nC,Z,db,_,Z,.inr ⟨ob,UA.k _ _ d4 c9⟩,λlC ts HC qC=>⟨zN1,λlD hD=>?_⟩⟩;have pC:=Nk qC;obtain⟨gC,g5,g0,e7,_⟩:=qC;have gC:Same _ HC:=gC;have gD:=Ae hD (.lst [V.ref tA]);rw[uB]at e7;refine⟨lC,lD,_,_,Z,Z,gD _ _ g0,qa,by rw[uB,uD];exact uY (by omega:_<=64) (by decide),λlE b8=>?_⟩;have gE:=Ae b8 (.lst (ts.map V.ref++[V.ref tA]));have b6:=(gC.trans gD).trans gE;have VE:=VA.same b6;refine⟨o,lE,rb.codes++[(0,iA)],_,L,n,m,_,Z,VE.hv a2 (by decide),qa,(VA.same (gC.trans gD)).w.offN b8,Dg (Paired.mapP pC λ_ _ a=>a.mono (gD.trans gE).tp) (.cons ⟨tA,Z,b6 _ _ f4⟩ .nil),by rw[uC,uD];omega,(wb.2.2.1.up UA.lo).app λp hp=>(by rw[mS hp];exact⟨(by show(0:Int)<=0/\(0:Int)<=5;decide),jA⟩),λdF oF HF sF cs VF nF eF cF=>?_⟩;have VF:=VE.trans VF;have a4:=VF.k _ _ b5 a5;have UF:=V5.then VF;refine⟨ls,_,_,Z,Z,a4,by rw[<-PySem.Paired.length a6,lc];exact vA e3 (by decide),?_⟩;refine⟨_,_,_,_,sF,a3++[V.ref dF],a1++[cs],Z,({UF with k:=UF.k.trans (KpS.upd uF),w:=UF.w.keep [ls] (KpS.upd uF) (Tp.lst a4) λb d5=>(by rw[mS d5];exact c8)}:Nw C o L n m (ls::L.S) H4 s _ sF (10*i+10) _).wk (E':=eBes x rB rE (a1++[cs]) (i+1)) (by omega) hv.f.op (λg z=>.inl (by exact rng_up (congrArg Wr.runs er) z)) (λρ ⟨fi,⟨⟨⟨⟨f6,f7⟩,f8⟩,fX⟩,fY⟩,fJ⟩=>⟨λj hj=>?_,λ_=>rfl⟩),qa,?_,λc hc=>?_,by rw[uC,lc];rfl⟩
  ·rcases lt_or_ge j i with z|z
   ·rw[show(a1++[cs]).getD j []=a1.getD j [] by rw[getD_eq_getElem?_getD,getD_eq_getElem?_getD,uT (by omega)]]
    exact fi j z
   ·have:j=i:=by omega
    subst this;rw[er,ee,show(a1++[cs]).getD j []=cs by rw[getD_eq_getElem?_getD,<-lc,uU (uZ _),Nat.sub_self];rfl];have h7:ρ.v i7=idl rb re ρ:=(show ρ.v i7=an3 _ (an3 (ρ.v i6) (some true)) from f7).trans (by rw[B4,show ρ.v i6=_ from f6];rfl);refine⟨fX.trans ((S6 ρ _).trans (by show an3 _ (an3 (ρ.v i8) (some true))=_;rw[B4,show ρ.v i8=nt3 (ρ.v i7) from f8,h7])),λc=>(fJ c).trans ?_⟩;rw[N0,Mv wb.2.2,Xn,show ρ.v iA=an3 _ (an3 (ρ.v i7) (some true)) from fY,B4,h7];rfl
  ·refine Dg (Paired.mapP a6 ?_) (.cons ⟨dF,oF,Z,?_⟩ .nil)
   ·rintro c v ⟨d,od,rfl,h⟩
    refine⟨d,od,Z,?_⟩;have:=VF.k _ _ (V5.w.offF h) h;rw[upd_ne (Bw this a4 (by intro z;cases z))];exact this
   ·rw[upd_ne (Bw eF a4 (by intro z;cases z))]
    exact eF
  ·rcases uW.mp hc with z|z
   ·exact(a8 c z).up VF.lo
   ·rw[mS z];exact cF
 ·rintro σ H5 ⟨x5,x6,x7,x8,s5,a3,a1,rfl,V5,a5,a6,a8,lc⟩
  have U5:Nw C o L n m L.S H s H5 s5 (0+20) _:=(U4.trans V5).drop b3;cases a6 with
  |nil=>cases lc
  |cons p0 r0=>
  cases r0 with
  |nil=>cases lc
  |cons p1 f2=>
  cases f2 with
  |cons _ _=>cases lc
  |nil=>
  obtain⟨e0,f0,rfl,q0⟩:=p0;obtain⟨e1,f1,rfl,q1⟩:=p1;refine⟨o,ls,e0,e1,f0,f1,_,_,L,n,m,s5,Z,U5.hv hv (by decide),a5,b5,q0,q1,a8 _ uF,a8 _ (uG _ uF),λd ob HA sA cs VA eA cA=>?_⟩;have UA:=U5.trans VA;have c5:=UA.k _ _ aS ha;refine⟨c5,T.clP,T.nC,(by show 5<1000;decide),q.cod ((UA.more λb h=>uG _ h).wk (by decide) hv.f.op (λg z=>.inl (by show g∈[r1.runs,r2.runs];rw[<-w0,<-w1];exact z)) λρ ⟨⟨_,fi⟩,fg⟩=>⟨⟨rfl,?_⟩,λi=>rfl⟩) c5 eA (e5.up UA.lo) cA⟩;have h0:=fi 0 (show 0<2 by decide);have h1:=fi 1 (show 1<2 by decide);rw[w0,y0]at h0;rw[w1,y1]at h1;refine⟨h0.1,h1.1,λc=>(fg c).trans ?_⟩;rw[<-funext h0.2,<-funext h1.2];rfl
theorem K5{A:Prop}{R:Hp->Prop}(z:Hp->Prop)(h:(∀H,z H->R H)->A)(k:∀H,z H->R H):A:=h k
theorem Zh{x:Int}(ha:H a=some (.ins CP dx (wdV x .non cv)))(hb:H b=some (.ins CP bx (wdV x' (.int r) a1))):b≠a:=Bw hb ha (by intro z;have:=(HO.ins.inj z).2.2;unfold wdV at this;simp at this)
def fPr(p:Pt)(x r:Int)(r1 r2:Wr)(cs:Cd)(ρ:Vn):Prop:=ρ.v r=or3 (ρ.v r1.rests) (ρ.v r2.rests)/\match p with
 |.thn _ _=>Zl x r1 r2 cs ρ
 |.iff s _ _=>fIf x s r r1 r2 cs ρ
 |_=>Vs x r1 r2 cs ρ
def ksA(rB:Nat->Wr)(i:Nat):List Int:=(List.range i).flatMap λj=>[(rB j).runs+1,(rB j).runs+2]
inductive Sb(K:FA)(C CP:Addr)(vs:List V)(H:Hp)(Q:VK):Prop
 |mk(o a dx f g:Addr)(v:V)(p:Pt)(x:Int)(cv:V)(r1 r2:Wr)(L:Lc)(n m:Nat)(s:Ws)(_:vs=[.ref o,v,.ref a,.ref f,.ref g])(_:Hv C o L n m H s 46)(_:PAt K H p.nd v)(_:isPr p=true)(_:okN n p)(_:H a=some (.ins CP dx (wdV x .non cv)))(_:WdAt CP H f r1)(_:WdAt CP H g r2)(_:R3 s x)(_:WI s r1)(_:WI s r2)(_:Pr2 s r1.runs r2.runs)(_:Fil C CP o a L n m Q H s x 46 [] (λr cs=>eC [r1.runs,r2.runs,r1.runs+1,r1.runs+2,r2.runs+1,r2.runs+2] (fPr p x r r1 r2 cs)))
def Qp(K:FA)(C CP:Addr):Sp:=λvs H Q _=>Sb K C CP vs H Q
theorem prF{x:Int}{F:Vn->Prop}(f1:ρ.v i1=orL ([r1.rests,r2.rests].map ρ.v))(z:fQ r i1 F ρ)(h:F ρ->(match (generalizing:=false) p with
 |.thn _ _=>Zl x r1 r2 cs ρ
 |.iff s _ _=>fIf x s i1 r1 r2 cs ρ
 |_=>Vs x r1 r2 cs ρ)):fPr p x r r1 r2 cs ρ:=by
 obtain⟨rfl,z⟩:=z;exact⟨f1.trans (congrArg _ (Bj _)),h z⟩
theorem Aew{p:Pt}{x i1:Int}{r1 r2:Wr}{cs:Cd}{ρ:Vn}(h:isPr p=true)(n1:¬wdP p ="then")(n2:¬wdP p ="if")(f:Vs x r1 r2 cs ρ):(match (generalizing:=false) p with
 |.thn _ _=>Zl x r1 r2 cs ρ
 |.iff s _ _=>fIf x s i1 r1 r2 cs ρ
 |_=>Vs x r1 r2 cs ρ):=by
 cases p<;>first|exact absurd rfl n1|exact absurd rfl n2|exact f|cases h
theorem Ahd(F:Ax K mg "wire_pair" ["wiring","part","whole","first","second"] Iw)(T:Cj K mg C CP)(aG:Bb P w K mg base 1 C "fill" ["self","number","word","numbers"] (Jb C))(aE:Bb P w K mg base 2 C "some_of" ["self","numbers"] (He C))(aO:Ai P w K mg base 3 "code_gate" ["wiring","whole","code"] (Va C CP))(fE:Ai P w K mg base 4 "wire_then" ["wiring","whole","first","second"] (Yo C CP))(hZ:Ai P w K mg base 4 "wire_if" ["wiring","sign","whole","first","second"] (AdI C CP))(dQ:Ai P w K mg base 4 "wire_beside" ["wiring","whole","first","second"] (Aa0 C CP)):Ai P w K mg base 5 "wire_pair" ["wiring","part","whole","first","second"] (Qp K C CP):=by
 refine F.ok Ka (λvs H Q E h=>?_) (λfn cdv A outer s0 H vs Q E hr h=>?_)
 ·obtain⟨o,a,dx,f,g,v,p,x,cv,r1,r2,L,n,m,s,rfl,_⟩:=h;rfl
 obtain⟨o,a,dx,f,g,v,p,x,cv,r1,r2,L,n,m,s,rfl,hv,hp,e7,ok,ha,D1,D2,r3,b1,b2,pr,q⟩:=h;obtain⟨uE,hE,rE⟩:=T.gE;obtain⟨uR,hR,rR⟩:=T.gR;have W:=hv.w;have aS:=(W.objOff ha).2
 refine⟨_,(Ad (Cc (pv 2) (Au aE hr Al (pv 0) (Aa (Av (Aa (Aw (pv 3) rfl) (Aa (Aw (pv 4) rfl) Ab))) Ab)) rfl)
  (Ad (Ar (i:=5) Ka.nd rfl (Or.inl rfl) (Av (Aa (Aw (pv 2) rfl) Ab)))
  (Ad (A9 (An A1 (Aj Ag (pv 1) Af (λ_ _=>rfl)) Ap (Aq _))
   (Ah (Be (Am fE hr rfl Al (Aa (pv 0) (Aa (pv 2) (Aa (pv 3) (Aa (pv 4) Ab)))))))
   (Ah (A9 (An A1 (Aj Ag (pv 1) Af (λ_ _=>rfl)) Ap (Aq _))
   (Ah (Be (Am hZ hr rfl Al (Aa (pv 0) (Aa (Aj Bs (Aw (pv 0) rfl) (Aj Ag (pv 1) Af (λ_ _=>rfl)) (λ_ _=>rfl)) (Aa (pv 2) (Aa (pv 3) (Aa (pv 4) Ab))))))))
   (Ad (Be (Am dQ hr rfl Al (Aa (pv 0) (Aa (pv 2) (Aa (pv 3) (Aa (pv 4) Ab))))))
  (Ah (Be (Fq PySem.F.plainAttrs_list PySem.F.slot_list_append PySem.F.type_list_append Cz (pv 5) (Aa (Am aO hr rfl Al (Aa (pv 0) (Aa (pv 2) (Aa (Bl rfl hR rR) Ab)))) Ab))))))))
  (Ah (Fa PassesOwn.never rfl (Le (Ay (Aa (pv 3) (Aa (pv 4) Ab)))) (Az (i:=6) Ka.nd rfl (Or.inl rfl))
   (Ad (Be (Au aG hr Al (pv 0) (Aa (Aw (pv 6) rfl) (Aa Ap (Aa (pv 5) Ab)))))
  (Ah (Be (Au aG hr Al (pv 0) (Aa (Aw (pv 6) rfl) (Aa Ap (Aa (Av (Aa (Aw (pv 2) rfl) Ab)) Ab)))))))))))),?_⟩
 obtain⟨fx,d1,o1,hf,c7⟩:=id D1;obtain⟨gx,d2,o2,hg,b3⟩:=id D2;have off:∀{b:Addr},b≠a->b∉L.S->b∉a::L.S:=λh1 h2 z=>(vJ.mp z).elim h1 h2
 have fA:=off (Zh ha hf) (W.objOff hf).2;have gA:=off (Zh ha hg) (W.objOff hg).2;have e6:=off (Bw c7 ha (by intro z;cases z)) (W.offF c7);have e0:=off (Bw b3 ha (by intro z;cases z)) (W.offF b3);have ho:=W.ho;refine⟨ho,Z,hf,T.clP,T.nE,Z,hg,T.clP,T.nE,Z,zN2,λl1 h1=>?_⟩;have U1:=(hv.nw (S:=a::L.S)).new h1 (.lst [V.int r1.rests,.int r2.rests]);refine⟨o,l1,[r1.rests,r2.rests],L,n,m,s,Z,U1.hv hv (by decide),qa,.two b1.2.1 b2.2.1,(by show 2<=1000;decide),λH1 s1 i1 V1 j1=>?_⟩;have c3:=V1.k _ _ aS ((Ae h1 (.lst [V.int r1.rests,.int r2.rests])) _ _ ha);refine⟨c3,T.clP,T.nE,(by show 5<1000;decide),?_⟩;have U2:=(U1.then V1).setA c3 (.ins CP dx (wdV x (.int i1) cv));have a7:=qa (H:=H1) (a:=a) (o:=.ins CP dx (wdV x (.int i1) cv));have d3:=(W.tp ((Same.kpS (Ae h1 (.lst [V.int r1.rests,.int r2.rests]))).trans V1.k)).trans (Pq c3 (KpS.upd (u:=.ins CP dx (wdV x (.int i1) cv)) uF));generalize hH:upd H1 a (.ins CP dx (wdV x (.int i1) cv))=H2 at U2 a7 d3;have f6:upd H1 a (.ins CP dx (Dv "rests" (V.int i1) (wdV x .non cv)))=H2:=hH;rw[f6];refine⟨a7,T.clP,T.nK,Z,zN1,λlk a4=>?_⟩;have a2:=U2.w.offN4 a4;have a3:lk≠a:=(ne_of_none a7 a4).symm;have f0:=U2.k.nil a4 (off a3 a2.2.2.2);have g3:=Ae a4 (.lst [V.int (x+1)]);have U3:=U2.new a4 (.lst [V.int (x+1)]);have b7:=g3 _ _ a7;have b8:=qa (H:=H2) (a:=lk) (o:=.lst [V.int (x+1)]);have c9:=hp.mono (d3.trans g3.tp);generalize upd H2 lk (.lst [V.int (x+1)])=H3 at *;have c6:WdAt CP H3 f r1:=⟨fx,d1,o1,U3.k _ _ fA hf,U3.k _ _ e6 c7⟩;have c4:WdAt CP H3 g r2:=⟨gx,d2,o2,U3.k _ _ gA hg,U3.k _ _ e0 b3⟩;have f7:Hv C o L n m H3 s1 45:=U3.hv hv (by decide);have b4:=b1.up U3.lo;have b6:=b2.up U3.lo;have a5:=r3.up U3.lo;have b5:=pr.kp U3 rfl;obtain⟨t,vs,rfl,hs⟩:=Jv c9;refine' K5 (λH4=>∃s4 kp r cs,Nw C o L n m (a::L.S) H s H4 s4 46 (eC [r1.runs,r2.runs] (fPr p x r r1 r2 cs))/\H4 lk=some (.lst (kp.map V.int))/\RL s4 kp/\kp.length<=1000/\WdAt CP H4 a ⟨x,r,cs⟩/\Rng s4 r/\CO s4 cs) (λa9=>?_) ?_;rotate_left
 ·refine⟨hs.sq,Ac (j:=0) rfl,Z,Ce (λe=>?_) λn1=>⟨hs.sq,Ac (j:=0) rfl,Z,Ce (λe=>?_) λn2=>?_⟩⟩
  ·exact⟨o,a,dx,f,g,x,i1,cv,r1,r2,L,n,m,_,Z,U3.hv hv (by decide),b7,c6,c4,a5,j1,b4,b6,b5,λH4 s4 r cs U D hr hc _=>a9 H4 ⟨s4,[x+1],r,cs,((U3.trans U).wk (by decide) hv.f.op (λg z=>.inl (by exact z)) λρ ⟨⟨_,f1⟩,f2⟩=>⟨prF f1 f2 λf=>(by obtain⟨_,_,rfl⟩:=Tr e;exact f),λ_=>rfl⟩),U.k _ _ (off a3 a2.2.2.2) b8,.one (a5.2.1.up U.lo),(by show 1<=1000;decide),D,hr,hc⟩⟩
  ·obtain⟨i,p1,p2,rfl⟩:=Tn e
   have hp:=c9;obtain⟨x2,x3,hs,h2,h3⟩:=g4i hp;obtain⟨⟨i0,g0⟩,_⟩:=ok;obtain⟨j,rfl⟩:∃j:Nat,i=(j:Int):=⟨i.toNat,(Int.toNat_of_nonneg i0).symm⟩;obtain⟨_,f4,_,_,d7,_⟩:=id U3.w;have hj:j<n:=by omega
   refine⟨f4,T.cl,T.nS,Z,hs.sq,Ac (j:=1) rfl,SqL.of d7,Ac (v:=V.int (j:Int)) (by rw[uH,getElem?_range hj];rfl),o,a,dx,f,g,x,i1,_,cv,r1,r2,L,n,m,_,Z,U3.hv hv (by decide),b7,c6,c4,a5,j1,⟨Int.natCast_nonneg _,by have:=f7.nl;unfold Ws.nx;omega⟩,b4,b6,b5,λH4 s4 r cs U D hr hc _=>a9 H4 ⟨s4,[x+1],r,cs,((U3.trans U).wk (by decide) hv.f.op (λg z=>.inl (by exact z)) λρ ⟨⟨_,f1⟩,f2⟩=>⟨prF (p:=.iff (j:Int) p1 p2) (x:=x) (cs:=cs) f1 f2 λf=>f,λ_=>rfl⟩),U.k _ _ (off a3 a2.2.2.2) b8,.one (a5.2.1.up U.lo),(by show 1<=1000;decide),D,hr,hc⟩⟩
  ·refine⟨o,a,dx,f,g,x,i1,cv,r1,r2,L,n,m,_,Z,U3.hv hv (by decide),b7,c6,c4,a5,j1,b4,b6,b5,λH4 s4 r cs V4 D hr hc _=>?_⟩
   have a8:=V4.k _ _ (off a3 a2.2.2.2) b8;have U4:=U3.trans V4;refine⟨.inl ⟨Z,_,SqL.of a8⟩,o,a,1,_,L,n,m,s4,Z,U4.hv hv (by decide),D,hc.1,λH5 s5 i5 V5 j5=>?_⟩;have c5:=V5.k _ _ a2.2.2.2 a8;have U5:=U4.then V5;refine⟨lk,_,_,Z,Z,c5,(by show 1<sizeLine;decide),a9 _ ⟨s5,[x+1,i5],r,cs,(U5.wk (E':=eC [r1.runs,r2.runs] (fPr p x r r1 r2 cs)) (uZ _) hv.f.op (λg z=>.inl (by exact z)) (λρ ⟨⟨⟨_,f1⟩,f2⟩,_⟩=>⟨prF f1 f2 λf=>Aew e7 n1 n2 f,λ_=>rfl⟩)).own f0 c5 a2 _,qa,.two (r3.2.1.up U5.lo) j5,(by show 2<=1000;decide),?_,hr.up V5.lo,hc.up V5.lo⟩⟩;obtain⟨e1,e2,e3,e4,e5⟩:=D.kp V4.w V5.k;exact⟨e1,e2,e3,by rw[upd_ne (Ne.symm a3)];exact e4,by rw[upd_ne (Bw e5 c5 (by intro z;cases z))];exact e5⟩
 ·rintro H4 ⟨s4,kp,r,cs,U4,a8,e9,d9,D4,f9,f8⟩
  refine⟨zN2,λtZ d4=>?_⟩;have gZ:=Ae d4 (.tup [V.ref f,.ref g]);have UZ:=U4.new d4 (.tup [V.ref f,.ref g]);have eZ:=qa (H:=H4) (a:=tZ) (o:=.tup [V.ref f,.ref g]);have DZ:=D4.same gZ;have f5:=gZ _ _ a8;generalize upd H4 tZ (.tup [V.ref f,.ref g])=HZ at *;have a1:Hv C o L n m HZ s4 0:=UZ.hv hv (by decide);obtain⟨rB,w0,w1⟩:∃rB:Nat->Wr,rB 0=r1/\rB 1=r2:=⟨λj=>if j=0 then r1 else r2,rfl,rfl⟩;have a6:∀g∈s.op,g≠r1.runs->g≠r2.runs->g∈s4.op:=λg h a b=>UZ.op g h λz=>by simp at z;exact z.elim a b
  have pl:=pr.2.2;obtain⟨ax,ad,ao,c8,_⟩:=id DZ;refine⟨tZ,Z,⟨_,SqT.of eZ⟩,Qm (K:=K) (a:=tZ) (xs:=[V.ref f,V.ref g]) (λi σ H'=>∃x6 s',σ=[some (.ref o),some (.ref t),some (.ref a),some (.ref f),some (.ref g),some (.ref lk),x6]/\Nw C o L n m L.S HZ s4 H' s' 0 (eC (ksA rB i) λ_=>True)) ⟨none,s4,Z,a1.nw⟩ ?_ ?_ ?_⟩
  ·rintro i σ H' _ ⟨_,_,_,U⟩
   exact SqT.of (a1.w.tp U.k _ _ eZ)
  ·rintro i v σ HX hi ⟨x6,sX,rfl,UX⟩
   obtain⟨b,bx,db,rfl,b9,wb,e8,d6,d5⟩:∃(b bx db:Addr),v=.ref b/\HZ b=some (.ins CP bx (wdV (rB i).runs (.int (rB i).rests) (.ref db)))/\WI s (rB i)/\(rB i).runs+1∈s4.op/\(rB i).runs+2∈s4.op/\∀g∈ksA rB i,g<(rB i).runs:=by
    match i,hi with
    |0,hi=>cases hi;rw[w0];exact⟨f,fx,d1,rfl,UZ.k _ _ fA hf,b1,a6 _ pr.1.2.1 (by omega) (by omega),a6 _ pr.1.2.2 (by omega) (by omega),λg z=>nomatch z⟩
    |1,hi=>cases hi;rw[w1];exact⟨g,gx,d2,rfl,UZ.k _ _ gA hg,b2,a6 _ pr.2.1.2.1 (by omega) (by omega),a6 _ pr.2.1.2.2 (by omega) (by omega),λg z=>by simp[ksA,w0]at z;omega⟩
    | (j+2),hi=>cases hi
   have er:ksA rB (i+1)=ksA rB i++[(rB i).runs+1,(rB i).runs+2]:=by unfold ksA;rw[range_succ,List.flatMap_append];simp
   generalize rB i=rb at *;have wb:=wb.up (uY UZ.lo UX.lo);have bS:=(a1.w.objOff b9).2;have f3:=UX.w.ho;refine⟨f3,Z,UX.k _ _ bS b9,T.clP,T.nK,Z,o,lk,(rb.runs+1),"all",kp,L,n,m,_,Z,UX.hv a1 (by decide),UX.k _ _ a2.2.2.2 f5,UX.op _ e8 (λz=>by have:=d5 _ z;omega),.inl rfl,e9.up UX.lo,d9,λHV sV VV _=>?_⟩;have UV:=UX.trans VV;have d8:=UV.w.ho;refine⟨d8,Z,UV.k _ _ bS b9,T.clP,T.nT,Z,UV.k _ _ (a1.w.objOff c8).2 c8,T.clP,T.nT,Z,zN1,λlU hU=>?_⟩;have UW:=UV.new hU (.lst [V.int (x+2)]);exact⟨o,lU,(rb.runs+2),"some",[x+2],L,n,m,_,Z,UW.hv a1 (by decide),qa,UW.op _ d6 (λz=>(uW.mp z).elim (λz=>by have:=d5 _ z;omega) λz=>by have:=mS z;omega),.inr rfl,.one (r3.2.2.up (uY UZ.lo UV.lo)),(by show 1<=1000;decide),λHT sT VT _=>⟨_,sT,Z,(UW.trans VT).wk (uZ _) a1.f.op (λg z=>.inl (by show g∈ksA rB (i+1);rw[er];have z:g∈(ksA rB i++[rb.runs+1])++[rb.runs+2]:=z;rwa[append_assoc]at z)) λρ _=>⟨trivial,λ_=>rfl⟩⟩⟩
  ·rintro σ HX ⟨x6,sX,rfl,UX⟩
   have ek:ksA rB 2=[r1.runs+1,r1.runs+2,r2.runs+1,r2.runs+2]:=by rw[<-w0,<-w1];rfl
   exact q HX sX r cs ((UZ.then UX).wk (uZ _) hv.f.op (λg z=>.inl (by have z:g∈[r1.runs,r2.runs]++ksA rB 2:=z;rw[ek]at z;exact z)) λρ f=>⟨f.1,λ_=>rfl⟩) (DZ.kp a1.w UX.k) (f9.up UX.lo) (f8.up UX.lo) λ_ h=>nomatch h
theorem Yc{α:Type}{A:Prop}{R:α->Hp->Prop}(z:α->Hp->Prop)(h:(∀b H,z b H->R b H)->A)(k:∀b H,z b H->R b H):A:=h k
def AfR(k r:Int)(ri:Wr)(cs:Cd)(ρ:Vn):Prop:=ρ.v r=or3 (some (ρ.m k)) (ρ.v ri.rests)/\∀c,cvl cs ρ c=Bf (λi=>isC c (agC i)) (cvl ri.codes ρ)
inductive Pl(C CP:Addr)(vs:List V)(H:Hp)(Q:VK):Prop
 |mk(o a dx f:Addr)(k x rr:Int)(cv:V)(ri:Wr)(L:Lc)(n m:Nat)(s:Ws)(_:vs=[.ref o,.int k,.ref a,.ref f])(_:Hv C o L n m H s 16)(_:H a=some (.ins CP dx (wdV x (.int rr) cv)))(_:WdAt CP H f ri)(_:f≠a)(_:R3 s x)(_:WI s ri)(_:(0<=k/\k<m))(_:Fil C CP o a L n m Q H s x 16 [k] (λr cs=>eF (AfR k r ri cs)))
def Uo(C CP:Addr):Sp:=λvs H Q _=>Pl C CP vs H Q
theorem Vq(h:0<=c/\c<=5):0<=agC c/\agC c<=5:=by unfold agC;split<;>omega
theorem O6(h:0<=c/\c<=5):0<=Ch c/\Ch c<=5:=by unfold Ch;split<;>(try split)<;>omega
theorem Agm(F:Ax K mg "wire_again" ["wiring","rest","whole","inner"] F7)(T:Cj K mg C CP)(aL:Bb P w K mg base 1 C "gate" ["self","word","numbers"] (Jj C))(aE:Bb P w K mg base 2 C "some_of" ["self","numbers"] (He C))(aQ:Bb P w K mg base 3 C "joined" ["self","pairs"] (J6 C))(aU:Ai P w K mg base 1 "code_of_again" ["code"] L4)(aO:Ai P w K mg base 3 "code_gate" ["wiring","whole","code"] (Va C CP))(bH:Ai P w K mg base 3 "wire_leaving" ["wiring","rest","whole","memory","comes"] (Ty C CP)):Ai P w K mg base 4 "wire_again" ["wiring","rest","whole","inner"] (Uo C CP):=by
 refine F.ok Mj (λvs H Q E h=>?_) (λfn cdv A outer s0 H vs Q E hr h=>?_)
 ·obtain⟨o,a,dx,f,k,x,rr,cv,ri,L,n,m,s,rfl,_⟩:=h;rfl
 obtain⟨o,a,dx,f,k,x,rr,cv,ri,L,n,m,s,rfl,hv,ha,D,fa,r3,b1,hk,q⟩:=h;obtain⟨uE,hE,rE⟩:=T.gE;have W:=hv.w;have aS:=(W.objOff ha).2
 refine⟨_,(Ad (Ar (i:=4) Mj.nd rfl (Or.inl rfl) (Au aL hr Al (pv 0) (Aa Ap (Aa (Av (Aa (pv 1) Ab)) Ab))))
  (Ad (Cc (pv 2) (Au aE hr Al (pv 0) (Aa (Av (Aa (pv 4) (Aa (Aw (pv 3) rfl) Ab))) Ab)) rfl)
  (Ad (Cc (pv 2) (Au aQ hr Al (pv 0) (Aa (Dc (g:=(Bq 0)) (tc:=Dy) (te:=(Lu (Bx (Ip L4 [] E0 (Bx (tOp (Fc K) (A5 0) (tC (.int 0))) Dj)) (Bx (tOp (Fc K) (A5 0) (tC (.int 1))) Dj)))) ["pair"] [] rfl (Bz (Ak F7) ["wiring","rest","whole","inner","memory"] (by trivial)) (Ow (Aw (pv 3) rfl)) (λs2 H2 fp cl C=>Az (i:=0) (show Nodup [("pair": Str)] from by trivial) rfl (Or.inl rfl)) (Bg (by decide)) (λs2 H2 fp cl C=>Ep) (λs2 H2 fp cl C=>(Ay (Aa (Am aU hr rfl Al (Aa (Aj Ag (pv 0) Af (λ_ _=>rfl)) Ab)) (Aa (Aj Ag (pv 0) Af (λ_ _=>rfl)) Ab))))) Ab)) rfl)
  (Ah (Be (Am bH hr rfl Al (Aa (pv 0) (Aa (pv 1) (Aa (pv 2) (Aa (pv 4) (Aa (Am aO hr rfl Al (Aa (pv 0) (Aa (pv 3) (Aa (Bl rfl hE rE) Ab)))) Ab))))))))))),?_⟩
 obtain⟨fx,d1,o1,hf,a2⟩:=id D;have fA:f∉a::L.S:=λz=>(vJ.mp z).elim fa (W.objOff hf).2
 have dA:d1∉a::L.S:=λz=>(vJ.mp z).elim (Bw a2 ha (by intro z;cases z)) (W.offF a2)
 have c1:=b1.2.2.len;have ho:=W.ho;refine⟨ho,Z,zN1,λl1 h1=>?_⟩;have U1:=(hv.nw (S:=a::L.S)).new h1 (.lst [V.int k]);have a6:Hv C o L n m _ s 1:=U1.hv hv (by decide);refine⟨o,l1,"memory",[k],L,n,m,s,Z,a6,qa,λH1 b9 W1=>?_⟩;obtain⟨V1,j1⟩:=a6.add b9 W1 (.inr (.inl ⟨rfl,k,rfl,hk⟩)) (by show 1<=1000;decide);generalize s.nx=i1 at V1 j1;generalize s.add "memory" [k]=s1 at V1 j1;have U1:=U1.then V1;have c3:=V1.k _ _ aS ((Ae h1 (.lst [V.int k])) _ _ ha);have b6:=V1.w.ho;refine⟨b6,Z,U1.k _ _ fA hf,T.clP,T.nE,Z,zN2,λl2 h2=>?_⟩;have U2:=U1.new h2 (.lst [V.int i1,.int ri.rests]);refine⟨o,l2,[i1,ri.rests],L,n,m,_,Z,U2.hv hv (by decide),qa,.two j1 (b1.2.1.up U2.lo),(by show 2<=1000;decide),λH2 s2 i2 V2 j2=>?_⟩;have a9:=V2.k _ _ aS ((Ae h2 (.lst [V.int i1,.int ri.rests])) _ _ c3);refine⟨a9,T.clP,T.nE,(by show 5<1000;decide),?_⟩;have U3:=(U2.then V2).setA a9 (.ins CP dx (wdV x (.int i2) cv));have b2:=qa (H:=H2) (a:=a) (o:=.ins CP dx (wdV x (.int i2) cv));generalize hH:upd H2 a (.ins CP dx (wdV x (.int i2) cv))=H3 at U3 b2;have c5:upd H2 a (.ins CP dx (Dv "rests" (V.int i2) (wdV x (.int rr) cv)))=H3:=hH;rw[c5];have c4:=U3.w.ho;have b4:=U3.k _ _ dA a2;refine⟨c4,Z,U3.k _ _ fA hf,T.clP,T.nC,Z,d1,o1,_,Z,b4,Ly (λi ys H'=>Same H3 H'/\∃ps,PySem.Paired (PrAt H') ps ys/\CR s ps/\ps=(ri.codes.take i).map λp=>(agC p.1,p.2)) ⟨Same.refl _,[],.nil,λ_ h=>(nomatch h),Z⟩ (by rw[uB];exact uY c1 (by decide)) (λi ys H' hh=>hh.1 _ _ b4) ?_ ?_⟩
 ·rintro i p t ys H' N hi ⟨gg,ps,hy,cr,ep⟩ ht hN b5
  have a4:i<ri.codes.length:=by have:=(List.getElem?_eq_some_iff.mp hi).1;rwa[uB]at this
  rw[uH,uA a4]at hi;cases hi
  have gt:=Ae ht (.tup [V.int (ri.codes[i]).1,V.int (ri.codes[i]).2]);refine⟨SqT.of qa,Ac (j:=0) rfl,_,Z,SqT.of qa,Ac (j:=1) rfl,zN2,λt2 b7=>?_⟩;have a7:=Ae b7 (.tup [V.int (agC (ri.codes[i]).1),V.int (ri.codes[i]).2]);refine hN _ _ (by rw[uC,uD];omega) ⟨(gg.trans gt).trans a7,ps++[(agC (ri.codes[i]).1,(ri.codes[i]).2)],Dg (Paired.mapP hy λ_ _ a=>a.mono (gt.trans a7).tp) (.cons ⟨t2,Z,qa⟩ .nil),cr.app λp hp=>?_,by rw[uX,uA a4,uN,ep];rfl⟩;have:=b1.2.2.1 _ (vI a4);rw[mS hp];exact⟨Vq this.1,this.2⟩
 rintro ys H4 b5 ⟨g4,ps,hy,cr,ep⟩ D4 a1;rw[uB]at b5;rw[uB,take_length]at ep;have U5:=(U3.same g4).new a1 (.lst ys);have b8:=(g4.trans (Ae a1 (.lst ys))) _ _ b2;have lp:=PySem.Paired.length hy;refine⟨o,D4,_,_,L,n,m,_,Z,U5.hv hv (by decide),qa,(U3.same g4).w.offN a1,Paired.mapP hy λ_ _ a=>a.mono (Ae a1 (.lst ys)).tp,by omega,cr.up U5.lo,λd ob H6 s6 cs V6 c7 e6 c6=>?_⟩;have U6:=U5.then V6;have a3:=V6.k _ _ aS b8;refine⟨a3,T.clP,T.nC,(by show 5<1000;decide),?_⟩;have ad:a≠d:=Bw a3 e6 (by intro z;cases z);have U7:=U6.setA a3 (.ins CP dx (wdV x (.int i2) (.ref d)));refine⟨o,f,0,ri,L,n,m,_,Z,U7.hv hv (by decide),⟨fx,d1,o1,U7.k _ _ fA hf,U7.k _ _ dA a2⟩,b1.2.2.1.up U7.lo,λH8 s8 i8 V8 j8=>?_⟩;have U8:=U7.then V8;have a8:=V8.k _ _ aS qa;have b3:=V8.k d _ (U6.w.offF e6) (by rw[upd_ne (Ne.symm ad)];exact e6);have a5:=uY V6.lo V8.lo;refine⟨o,a,dx,k,_,_,x,_,_,L,n,m,_,Z,U8.hv hv (by decide),a8,⟨r3.2.1.up U8.lo,r3.2.2.up U8.lo,j1.up (uY V2.lo a5),j8⟩,λH9 s9 V9 lk=>?_⟩;exact q _ s9 i2 cs ((U8.then V9).wk0 (by decide) hv.f.op rfl (λρ ⟨⟨⟨⟨⟨_,f1⟩,f2⟩,fJ⟩,_⟩,_⟩=>⟨(show ρ.v i2=or3 (ρ.v i1) (or3 _ (some false)) from f2).trans (by rw[Bj,show ρ.v i1=some (ρ.m k) from f1]),λc=>(fJ c).trans (N1 b1.2.2 (λ_=>true) agC (by rw[ep,List.filter_eq_self.mpr λ_ _=>rfl]) ρ c)⟩) λ_ _=>rfl) ⟨dx,d,ob,V9.k _ _ aS a8,V9.k _ _ (U8.w.offF b3) b3⟩ (j2.up (uY a5 V9.lo)) (c6.up (uY V8.lo V9.lo)) λj hj=>by rw[mS hj];exact lk
theorem Aea(c:Int)(h1:b=true->c=i)(h2:b=false->c=j)(h:Q (.int c) H):if b=true then tC (.int i) σ H Q else tC (.int j) σ H Q:=by
 cases b
 ·rw[h2 rfl]at h;exact h
 ·rw[h1 rfl]at h;exact h
def isSk:Pt->Bool
 |.hold _ _=>true
 |.watch _ _=>true
 |_=>false
def sgI:Pt->Int
 |.hold i _=>i
 |.watch i _=>i
 |_=>0
theorem AgZ(h:PAt K H (Pt.nd p) v)(z:isSk p=true):∃a vs,v=.ref a/\Er K H a (.str (wdP p)::.int (sgI p)::vs):=by
 cases p with
 |hold i q=>
  obtain⟨a,rfl⟩:=Fx h;obtain⟨x2,hs,h2⟩:=g3i h;exact⟨a,_,Z,hs⟩
 |watch i q=>
  obtain⟨a,rfl⟩:=Fx h;obtain⟨x2,hs,h2⟩:=g3i h;exact⟨a,_,Z,hs⟩
 |_=>cases z
def skC:Pt->Int
 |.hold _ _=>1
 |_=>0
def skV(x sg:Int)(ri:Wr)(ρ:Vn):Option Bool:=an3 (ρ.v x) (an3 (ρ.v ri.rests) (ρ.v sg))
def Zq(x sg:Int)(ri:Wr)(ρ:Vn):Prop:=ρ.v ri.runs=an3 (ρ.v x) (or3 (nt3 (ρ.v ri.rests)) (nt3 (ρ.v sg)))
def Aej(x sg i:Int)(ri:Wr)(ρ:Vn):Prop:=ρ.v i=skV x sg ri ρ/\Zq x sg ri ρ
def fSk(p:Pt)(x:Int)(ri:Wr)(cs:Cd)(ρ:Vn):Prop:=Zq x (sgI p) ri ρ/\∀c,cvl cs ρ c=or3 (Bf (isC c) (cvl ri.codes ρ)) (one (skC p) (skV x (sgI p) ri ρ) c)
theorem AgQ{p:Pt}(ok:okN n p)(z:isSk p=true):0<=sgI p/\sgI p<n:=by cases p<;>first|exact ok.1|cases z
theorem AhJ{p:Pt}(z:wdP p ="hold"):skC p=1:=by obtain⟨_,_,rfl⟩:=Nu z;rfl
theorem Ag8{p:Pt}(z:¬V.str (wdP p)=V.str "hold"):skC p=0:=by cases p<;>first|rfl|exact absurd rfl z
theorem Afy(p:Pt):0<=skC p/\skC p<=5:=by cases p<;>simp[skC]
inductive Rs(K:FA)(C CP:Addr)(vs:List V)(H:Hp)(Q:VK):Prop
 |mk(o a dx f:Addr)(v:V)(p:Pt)(x rr:Int)(cv:V)(ri:Wr)(L:Lc)(n m:Nat)(s:Ws)(_:vs=[.ref o,v,.ref a,.ref f])(_:Hv C o L n m H s 16)(_:PAt K H p.nd v)(_:isSk p=true)(_:okN n p)(_:H a=some (.ins CP dx (wdV x (.int rr) cv)))(_:WdAt CP H f ri)(_:R3 s x)(_:Rng s rr)(_:WI s ri)(_:(ri.runs∈s.op/\ri.runs+2∈s.op))(_:Fil C CP o a L n m Q H s x 16 [] (λr cs=>eC [ri.runs,ri.runs+2] (fQ r rr (fSk p x ri cs))))
def Yg(K:FA)(C CP:Addr):Sp:=λvs H Q _=>Rs K C CP vs H Q
theorem AhN(F:Ax K mg "wire_skipping" ["wiring","part","whole","inner"] Fr)(T:Cj K mg C CP)(aG:Bb P w K mg base 1 C "fill" ["self","number","word","numbers"] (Jb C))(aH:Bb P w K mg base 2 C "opposite" ["self","number"] (Nz C))(aA:Bb P w K mg base 2 C "every_of" ["self","numbers"] (G7 C))(aE:Bb P w K mg base 2 C "some_of" ["self","numbers"] (He C))(aQ:Bb P w K mg base 3 C "joined" ["self","pairs"] (J6 C)):Ai P w K mg base 4 "wire_skipping" ["wiring","part","whole","inner"] (Yg K C CP):=by
 refine F.ok Df (λvs H Q E h=>?_) (λfn cdv A outer s0 H vs Q E hr h=>?_)
 ·obtain⟨o,a,dx,f,v,p,x,rr,cv,ri,L,n,m,s,rfl,_⟩:=h;rfl
 obtain⟨o,a,dx,f,v,p,x,rr,cv,ri,L,n,m,s,rfl,hv,hp,sk,ok,ha,D,r3,b6,b1,op,q⟩:=h;obtain⟨uE,hE,rE⟩:=T.gE;obtain⟨uR,hR,rR⟩:=T.gR;have W:=hv.w;have aS:=(W.objOff ha).2
 refine⟨_,(Ad (Ar (i:=4) Df.nd rfl (Or.inl rfl) (Aj Bs (Aw (pv 0) rfl) (Aj Ag (pv 1) Af (λ_ _=>rfl)) (λ_ _=>rfl)))
  (Ad (Ar (i:=5) Df.nd rfl (Or.inl rfl) (Au aA hr Al (pv 0) (Aa (Av (Aa (Aw (pv 2) rfl) (Aa (Aw (pv 3) rfl) (Aa (pv 4) Ab)))) Ab)))
  (Ad (Ar (i:=6) Df.nd rfl (Or.inl rfl) (Au aE hr Al (pv 0) (Aa (Av (Aa (Au aH hr Al (pv 0) (Aa (Aw (pv 3) rfl) Ab)) (Aa (Au aH hr Al (pv 0) (Aa (pv 4) Ab)) Ab))) Ab)))
  (Ad (Be (Au aG hr Al (pv 0) (Aa (Aw (pv 3) rfl) (Aa Ap (Aa (Av (Aa (Aw (pv 2) rfl) (Aa (pv 6) Ab))) Ab)))))
  (Ad (Ar (i:=7) Df.nd rfl (Or.inl rfl) (Br (An A1 (Aj Ag (pv 1) Af (λ_ _=>rfl)) Ap (Aq _)) (Av (Aa (Au aA hr Al (pv 0) (Aa (Av (Aa (pv 5) (Aa (Aw (pv 2) rfl) Ab))) Ab)) Ab)) (Av Ab)))
  (Ad (Be (Au aG hr Al (pv 0) (Aa (Aw (pv 3) rfl) (Aa Ap (Aa (A3 Cf (Av (Aa (Aw (pv 2) rfl) Ab)) (pv 7)) Ab)))))
  (Ad (Ar (i:=8) Df.nd rfl (Or.inl rfl) (Br (An A1 (Aj Ag (pv 1) Af (λ_ _=>rfl)) Ap (Aq _)) (Bl rfl hR rR) (Bl rfl hE rE)))
  (Ah (Cc (pv 2) (Au aQ hr Al (pv 0) (Aa (A3 Cf (Ji rfl rfl T.n_list (Aw (pv 3) rfl)) (Av (Aa (Ay (Aa (pv 8) (Aa (pv 5) Ab))) Ab))) Ab)) rfl))))))))),?_⟩
 obtain⟨fx,d1,o1,hf,b2⟩:=id D;have fS:=(W.objOff hf).2;have c1:=b1.2.2.len;obtain⟨t,vs,rfl,hs⟩:=AgZ hp sk;have a6:=AgQ ok sk;have a9:Rng s (sgI p):=⟨a6.1,by have:=hv.nl;unfold Ws.nx;omega⟩;obtain⟨j,ej⟩:∃j:Nat,sgI p=(j:Int):=⟨(sgI p).toNat,(Int.toNat_of_nonneg a6.1).symm⟩;obtain⟨gvs,ho,hg,d3,c4,_⟩:=id W;refine⟨ho,T.cl,T.nS,Z,hs.sq,Ac (j:=1) rfl,SqL.of c4,(show atI _ _=some (V.int (sgI p)) by rw[ej];exact Ac (by rw[uH,getElem?_range (by omega)];rfl)),?_⟩;refine⟨ho,Z,ha,T.clP,T.nR,Z,hf,T.clP,T.nE,Z,zN3,λl1 h1=>?_⟩;have U1:=(hv.nw (S:=L.S)).new h1 (.lst [V.int x,.int ri.rests,.int (sgI p)]);refine⟨o,l1,[x,ri.rests,sgI p],L,n,m,s,Z,U1.hv hv (by decide),qa,.cons r3.1 (.two b1.2.1 a9),(by show 3<=1000;decide),λH1 s1 i1 V1 j1=>?_⟩;have U1:=U1.trans V1;have a3:=V1.w.ho;refine⟨a3,Z,a3,Z,U1.k _ _ fS hf,T.clP,T.nE,Z,o,_,L,n,m,_,Z,U1.hv hv (by decide),b1.2.1.up U1.lo,λH2 s2 i2 V2 j2=>?_⟩;have U2:=U1.trans V2;have c8:=V2.w.ho;refine⟨c8,Z,o,_,L,n,m,_,Z,U2.hv hv (by decide),a9.up U2.lo,λH3 s3 i3 V3 j3=>⟨zN2,λl4 h4=>?_⟩⟩;have U4:=(U2.trans V3).new h4 (.lst [V.int i2,.int i3]);refine⟨o,l4,[i2,i3],L,n,m,_,Z,U4.hv hv (by decide),qa,.two (j2.up V3.lo) j3,(by show 2<=1000;decide),λH5 s5 i5 V5 j5=>?_⟩;have U5:=U4.trans V5;have b5:=V5.w.ho;refine⟨b5,Z,U5.k _ _ fS hf,T.clP,T.nR,Z,U5.k _ _ aS ha,T.clP,T.nR,Z,zN2,λl6 h6=>?_⟩;have U6:=U5.new h6 (.lst [V.int x,.int i5]);refine⟨o,l6,ri.runs,"all",[x,i5],L,n,m,_,Z,U6.hv hv (by decide),qa,U6.op _ op.1 (λz=>nomatch z),.inl rfl,.two (r3.1.up U6.lo) j5,(by show 2<=1000;decide),λH7 s7 V7 _=>?_⟩;have U7:=U6.trans V7;have f7:∀ρ,((((((eN.cat (eF λρ=>ρ.v i1=anL ([x,ri.rests,sgI p].map ρ.v))).cat (eF λρ=>ρ.v i2=nt3 (ρ.v ri.rests))).cat (eF λρ=>ρ.v i3=nt3 (ρ.v (sgI p)))).cat (eF λρ=>ρ.v i5=orL ([i2,i3].map ρ.v))).cat (eC [ri.runs] λρ=>ρ.v ri.runs=ρ.g ("all",[x,i5]))).F ρ)->Aej x (sgI p) i1 ri ρ:=λρ ⟨⟨⟨⟨⟨_,f1⟩,f2⟩,f3⟩,f5⟩,f6⟩=>⟨(show ρ.v i1=an3 _ (an3 _ (an3 _ (some true))) from f1).trans (by rw[B4];rfl),f6.trans ((S6 ρ _).trans (by show an3 _ (an3 (ρ.v i5) (some true))=_;rw[B4,show ρ.v i5=or3 (ρ.v i2) (or3 (ρ.v i3) (some false)) from f5,Bj,show ρ.v i2=_ from f2,show ρ.v i3=_ from f3]))⟩
 have a1:=uY (uY V2.lo V3.lo) (uY V5.lo V7.lo);have b8:=V7.w.ho;refine' Yc (λlh H8=>∃s8 hl,Nw C o L n m L.S H s H8 s8 5 (eC [ri.runs] (Aej x (sgI p) i1 ri))/\s1.gs.length<=s8.gs.length/\H8 lh=some (.lst (hl.map V.int))/\RL s8 hl/\hl.length<=1) (λa5=>?_) ?_;rotate_left
 ·refine⟨(hs.mono (W.tp U7.k)).sq,Ac (j:=0) rfl,Z,Ce (λe=>?_) λnh=>?_⟩
  ·refine⟨b8,Z,U7.k _ _ aS ha,T.clP,T.nK,Z,zN2,λl7 h7=>?_⟩
   have UG:=U7.new h7 (.lst [V.int i1,.int (x+1)]);refine⟨o,l7,[i1,x+1],L,n,m,_,Z,UG.hv hv (by decide),qa,.two (j1.up a1) (r3.2.1.up UG.lo),(by show 2<=1000;decide),λHG sG iG VG jG=>⟨zN1,λlh a2=>?_⟩⟩;have UH:=(UG.trans VG).new a2 (.lst [V.int iG]);have eH:=qa (H:=HG) (a:=lh) (o:=.lst [V.int iG]);generalize upd HG lh (.lst [V.int iG])=HJ at *;exact a5 lh HJ ⟨sG,[iG],UH.wk (by decide) hv.f.op (λg z=>.inl (by exact z)) (λρ f=>⟨f7 ρ f.1,λ_=>rfl⟩),uY a1 VG.lo,eH,.one jG,uZ _⟩
  ·refine⟨zN0,λlh a2=>?_⟩
   exact a5 lh _ ⟨s7,[],(U7.new a2 (.lst [])).wk (by decide) hv.f.op (λg z=>.inl (by exact z)) (λρ f=>⟨f7 ρ f,λ_=>rfl⟩),a1,qa,.nil,vY _⟩
 rintro lh HJ ⟨s8,hl,U8,b3,c6,b7,c9⟩;have b4:=U8.w.ho;refine⟨b4,Z,U8.k _ _ fS hf,T.clP,T.nT,Z,U8.k _ _ aS ha,T.clP,T.nT,Z,zN1,λlz a4=>⟨lz,lh,_,_,Z,Z,qa,Ae a4 _ _ _ c6,?_,λl8 h8=>?_⟩⟩
 ·rw[uB];exact uY (show 1+hl.length<=2 by omega) (by decide)
 have U9:=(U8.new a4 (.lst [V.int (x+2)])).new h8 (.lst ([V.int (x+2)]++hl.map V.int));refine⟨o,l8,(ri.runs+2),"some",[x+2]++hl,L,n,m,_,Z,U9.hv hv (by decide),qa,U9.op _ op.2 (λz=>by have:=mS z;omega),.inr rfl,.cons (r3.2.2.up U9.lo) b7,(by show hl.length+1<=1000;omega),λH9 s9 V9 _=>?_⟩;have U9:=U9.trans V9;refine⟨(hs.mono (W.tp U9.k)).sq,Ac (j:=0) rfl,Z,Aea (skC p) (λz=>AhJ (V.str.inj (uK z))) (λz=>Ag8 (of_decide_eq_false z)) ?_⟩;have hc:=Afy p;generalize ec:skC p=c at *;have c3:=U9.w.ho;refine⟨c3,Z,U9.k _ _ fS hf,T.clP,T.nC,Z,d1,_,Z,.inr ⟨o1,U9.k _ _ (W.offF b2) b2⟩,λlC ts HC qC=>⟨zN2,λtA c5=>⟨zN1,λlD hD=>?_⟩⟩⟩;have pC:=Nk qC;obtain⟨gC,d2,c7,b9,_⟩:=qC;have gC:Same _ HC:=gC;have gA:=Ae c5 (.tup [V.int c,.int i1]);have gD:=Ae hD (.lst [V.ref tA]);rw[uB]at b9;refine⟨lC,lD,_,_,Z,Z,(gA.trans gD) _ _ c7,qa,by rw[uB,uD];exact uY (by omega:_<=64) (by decide),λlE a8=>?_⟩;have gE:=Ae a8 (.lst (ts.map V.ref++[V.ref tA]));have UD:=U9.same ((gC.trans gA).trans gD);have UE:=UD.same gE;refine⟨o,lE,ri.codes++[(c,i1)],_,L,n,m,_,Z,UE.hv hv (by decide),qa,UD.w.offN a8,Dg (Paired.mapP pC λ_ _ a=>a.mono ((gA.trans gD).trans gE).tp) (.cons ⟨tA,Z,(gD.trans gE) _ _ qa⟩ .nil),by rw[uC,uD];omega,(b1.2.2.1.up UE.lo).app λp hp=>(by rw[mS hp];exact⟨hc,j1.up (uY b3 V9.lo)⟩),λd ob HF sF cs VF nF eF cF=>?_⟩;have UF:=UE.trans VF;have a7:=UF.k _ _ aS ha;exact⟨a7,T.clP,T.nC,(by show 5<1000;decide),q.cod ((UF.more λb h=>uG _ h).wk (by decide) hv.f.op (λg z=>.inl (by exact z)) λρ ⟨⟨f8,_⟩,fJ⟩=>⟨⟨rfl,f8.2,λc'=>(fJ c').trans (by rw[N0,Mv b1.2.2,Xn,f8.1,<-ec])⟩,λ_=>rfl⟩) a7 eF (b6.up UF.lo) cF⟩
def rdK:Pt->List Int
 |.again k _=>[k]
 |_=>[]
def fRd(p:Pt)(x r:Int)(ri:Wr)(cs:Cd)(ρ:Vn):Prop:=match p with
 |.again k _=>ρ.v ri.runs=ρ.v x/\AfR k r ri cs ρ
 |.trap _=>ρ.v ri.runs=ρ.v x/\ρ.v r=ρ.v ri.rests/\∀c,cvl cs ρ c=Bf (λi=>isC c (Ch i)) (cvl ri.codes ρ)
 |_=>fQ r ri.rests (fSk p x ri cs) ρ
inductive Pf(K:FA)(C CP:Addr)(vs:List V)(H:Hp)(Q:VK):Prop
 |mk(o a dx f:Addr)(v:V)(p:Pt)(x:Int)(cv:V)(ri:Wr)(L:Lc)(n m:Nat)(s:Ws)(_:vs=[.ref o,v,.ref a,.ref f])(_:Hv C o L n m H s 16)(_:PAt K H p.nd v)(_:isRd p=true)(_:okN n p)(_:(∀k∈rdK p,0<=k/\k<m))(_:H a=some (.ins CP dx (wdV x .non cv)))(_:WdAt CP H f ri)(_:R3 s x)(_:WI s ri)(_:Op3 s ri.runs)(_:Fil C CP o a L n m Q H s x 16 (rdK p) (λr cs=>eC [ri.runs,ri.runs+1,ri.runs+2] (fRd p x r ri cs)))
def Oi(K:FA)(C CP:Addr):Sp:=λvs H Q _=>Pf K C CP vs H Q
theorem AgY{p:Pt}{x r:Int}{ri:Wr}{cs:Cd}{ρ:Vn}(h:isSk p=true)(f:fQ r ri.rests (fSk p x ri cs) ρ):fRd p x r ri cs ρ:=by cases p<;>first|exact f|cases h
theorem AgV{p:Pt}(h:isSk p=true):rdK p=[]:=by cases p<;>first|rfl|cases h
theorem AgI{p:Pt}(rd:isRd p=true)(n1:¬wdP p ="hold")(n2:¬wdP p ="watch")(n3:¬wdP p ="trap"):∃k p1,p=.again k p1:=by cases p<;>first|exact absurd rfl n1|exact absurd rfl n2|exact absurd rfl n3|exact⟨_,_,Z⟩|cases rd
theorem Agn(F:Ax K mg "wire_round" ["wiring","part","whole","inner"] F3)(T:Cj K mg C CP)(aG:Bb P w K mg base 1 C "fill" ["self","number","word","numbers"] (Jb C))(aQ:Bb P w K mg base 3 C "joined" ["self","pairs"] (J6 C))(aW:Ai P w K mg base 1 "code_of_trap" ["code"] Ks)(cT:Ai P w K mg base 4 "wire_skipping" ["wiring","part","whole","inner"] (Yg K C CP))(dZ:Ai P w K mg base 4 "wire_again" ["wiring","rest","whole","inner"] (Uo C CP)):Ai P w K mg base 5 "wire_round" ["wiring","part","whole","inner"] (Oi K C CP):=by
 refine F.ok Sv (λvs H Q E h=>?_) (λfn cdv A outer s0 H vs Q E hr h=>?_)
 ·obtain⟨o,a,dx,f,v,p,x,cv,ri,L,n,m,s,rfl,_⟩:=h;rfl
 obtain⟨o,a,dx,f,v,p,x,cv,ri,L,n,m,s,rfl,hv,hp,rd,ok,rk,ha,D,r3,b1,op,q⟩:=h;have W:=hv.w;have aS:=(W.objOff ha).2
 refine⟨_,(Ad (Be (Au aG hr Al (pv 0) (Aa (Aw (pv 3) rfl) (Aa Ap (Aa (Av (Aa (Aw (pv 2) rfl) Ab)) Ab)))))
  (Ad (Cc (pv 2) (Aw (pv 3) rfl) rfl)
  (Ad (A9 (PW.pt (Gc (An A1 (Aj Ag (pv 1) Af (λ_ _=>rfl)) Ap (Aq _)) (Fg (An A1 (Aj Ag (pv 1) Af (λ_ _=>rfl)) Ap (Aq _)))))
   (Ad (Be (Am cT hr rfl Al (Aa (pv 0) (Aa (pv 1) (Aa (pv 2) (Aa (pv 3) Ab))))))
  (Ah (W4)))
   A0)
  (Ad (Be (Au aG hr Al (pv 0) (Aa (Aw (pv 3) rfl) (Aa Ap (Aa (Av (Aa (Aw (pv 2) rfl) Ab)) Ab)))))
  (Ad (Be (Au aG hr Al (pv 0) (Aa (Aw (pv 3) rfl) (Aa Ap (Aa (Av (Aa (Aw (pv 2) rfl) Ab)) Ab)))))
  (Ah (A9 (An A1 (Aj Ag (pv 1) Af (λ_ _=>rfl)) Ap (Aq _))
   (Ah (Cc (pv 2) (Au aQ hr Al (pv 0) (Aa (Dc (g:=(Bq 0)) (tc:=Dy) (te:=(Lu (Bx (Ip Ks [] E0 (Bx (tOp (Fc K) (A5 0) (tC (.int 0))) Dj)) (Bx (tOp (Fc K) (A5 0) (tC (.int 1))) Dj)))) ["pair"] [] rfl (Bz (Ak F3) ["wiring","part","whole","inner"] (by trivial)) (Ow (Aw (pv 3) rfl)) (λs2 H2 fp cl C=>Az (i:=0) (show Nodup [("pair": Str)] from by trivial) rfl (Or.inl rfl)) (Bg (by decide)) (λs2 H2 fp cl C=>Ep) (λs2 H2 fp cl C=>(Ay (Aa (Am aW hr rfl Al (Aa (Aj Ag (pv 0) Af (λ_ _=>rfl)) Ab)) (Aa (Aj Ag (pv 0) Af (λ_ _=>rfl)) Ab))))) Ab)) rfl))
   (Ah (Be (Am dZ hr rfl Al (Aa (pv 0) (Aa (Aj Ag (pv 1) Af (λ_ _=>rfl)) (Aa (pv 2) (Aa (pv 3) Ab)))))))))))))),?_⟩
 obtain⟨fx,d1,o1,hf,a5⟩:=id D;have fa:=Zh ha hf;have fA:f∉a::L.S:=λz=>(vJ.mp z).elim fa (W.objOff hf).2
 have dA:d1∉a::L.S:=λz=>(vJ.mp z).elim (Bw a5 ha (by intro z;cases z)) (W.offF a5)
 have ho:=W.ho;refine⟨ho,Z,hf,T.clP,T.nK,Z,ha,T.clP,T.nK,Z,zN1,λl1 h1=>?_⟩;have U1:=(hv.nw (S:=a::L.S)).new h1 (.lst [V.int (x+1)]);refine⟨o,l1,(ri.runs+1),"some",[x+1],L,n,m,s,Z,U1.hv hv (by decide),qa,op.2.1,.inr rfl,.one r3.2.1,(by show 1<=1000;decide),λH1 s1 V1 _=>?_⟩;have U1:=U1.then V1;have k1:=(Same.kpS (Ae h1 (.lst [V.int (x+1)]))).trans V1.k;have a9:=k1 _ _ aS ha;refine⟨U1.k _ _ fA hf,T.clP,T.nE,Z,a9,T.clP,T.nE,(by show 5<1000;decide),?_⟩;have U2:=U1.setA a9 (.ins CP dx (wdV x (.int ri.rests) cv));have a3:=qa (H:=H1) (a:=a) (o:=.ins CP dx (wdV x (.int ri.rests) cv));have a4:=hp.mono ((W.tp k1).trans (Pq a9 (KpS.upd (u:=.ins CP dx (wdV x (.int ri.rests) cv)) uF)));generalize hH:upd H1 a (.ins CP dx (wdV x (.int ri.rests) cv))=H2 at U2 a3 a4;have c7:upd H1 a (.ins CP dx (Dv "rests" (V.int ri.rests) (wdV x .non cv)))=H2:=hH;rw[c7];have D2:WdAt CP H2 f ri:=⟨fx,d1,o1,U2.k _ _ fA hf,U2.k _ _ dA a5⟩;obtain⟨t,vs,rfl,hs⟩:=Jv a4;have a2:Hv C o L n m H2 s1 16:=U2.hv hv (by decide);have b2:=b1.up U2.lo;have r2:=r3.up U2.lo;have a6:=U2.op _ op.1 (λz=>by have:=mS z;omega);have a7:=U2.op _ op.2.2 (λz=>by have:=mS z;omega);have skip:isSk p=true->Fil C CP o a L n m Q H2 s1 x 16 [] (λr cs=>eC [ri.runs,ri.runs+2] (fQ r ri.rests (fSk p x ri cs))):=λa1 H' s' r cs U D hr hc _=>q H' s' r cs ((U2.trans U).wk (by decide) hv.f.op (λg z=>.inl (by exact AaD z)) λρ f=>⟨AgY a1 f.2,λ_=>rfl⟩) D hr hc (by rw[AgV a1];intro _ h;cases h)
 refine⟨hs.sq,Ac (j:=0) rfl,Z,Ce (λe=>C8 ?_) λn1=>⟨hs.sq,Ac (j:=0) rfl,Z,Ce (λe=>?_) λn2=>?_⟩⟩
 ·have a1:isSk p=true:=by obtain⟨_,_,rfl⟩:=Nu e;rfl
  exact⟨o,a,dx,f,_,p,x,ri.rests,cv,ri,L,n,m,_,Z,a2,a4,a1,ok,a3,D2,r2,b2.2.1,b2,⟨a6,a7⟩,skip a1⟩
 ·have a1:isSk p=true:=by obtain⟨_,_,rfl⟩:=Oy e;rfl
  exact⟨o,a,dx,f,_,p,x,ri.rests,cv,ri,L,n,m,_,Z,a2,a4,a1,ok,a3,D2,r2,b2.2.1,b2,⟨a6,a7⟩,skip a1⟩
 have d2:=U2.w.ho;refine⟨d2,Z,U2.k _ _ fA hf,T.clP,T.nR,Z,a3,T.clP,T.nR,Z,zN1,λl3 h3=>?_⟩;have V3:=(a2.nw (S:=L.S)).new h3 (.lst [V.int x]);refine⟨o,l3,ri.runs,"some",[x],L,n,m,_,Z,V3.hv a2 (by decide),qa,a6,.inr rfl,.one r2.1,(by show 1<=1000;decide),λH4 s4 V4 _=>?_⟩;have V4:=V3.trans V4;have b9:=V4.w.ho;refine⟨b9,Z,(U2.then V4).k _ _ fA hf,T.clP,T.nT,Z,V4.k _ _ aS a3,T.clP,T.nT,Z,zN1,λl5 h5=>?_⟩;have V5:=V4.new h5 (.lst [V.int (x+2)]);refine⟨o,l5,(ri.runs+2),"some",[x+2],L,n,m,_,Z,V5.hv a2 (by decide),qa,V5.op _ a7 (λz=>by have:=mS z;omega),.inr rfl,.one (r2.2.2.up V5.lo),(by show 1<=1000;decide),λH6 s6 V6 _=>?_⟩;have V6:=V5.trans V6;have U6:=U2.then V6;have b6:=V6.k _ _ aS a3;have c4:=a4.mono (U2.w.tp V6.k);refine⟨(hs.mono (U2.w.tp V6.k)).sq,Ac (j:=0) rfl,Z,Ce (λe=>?_) λn3=>?_⟩
 ·obtain⟨p1,rfl⟩:=Qq e
  have c6:=U6.w.ho;have b8:=U6.k _ _ dA a5;have c1:=b1.2.2.len;refine⟨c6,Z,U6.k _ _ fA hf,T.clP,T.nC,Z,d1,o1,_,Z,b8,Ly (λi ys H'=>Same H6 H'/\∃ps,PySem.Paired (PrAt H') ps ys/\CR s ps/\ps=(ri.codes.take i).map λp=>(Ch p.1,p.2)) ⟨Same.refl _,[],.nil,λ_ h=>(nomatch h),Z⟩ (by rw[uB];exact uY c1 (by decide)) (λi ys H' hh=>hh.1 _ _ b8) ?_ ?_⟩
  ·rintro i p t ys H' N hi ⟨gg,ps,hy,cr,ep⟩ ht hN b7
   have a8:i<ri.codes.length:=by have:=(List.getElem?_eq_some_iff.mp hi).1;rwa[uB]at this
   rw[uH,uA a8]at hi;cases hi
   have gt:=Ae ht (.tup [V.int (ri.codes[i]).1,V.int (ri.codes[i]).2]);refine⟨SqT.of qa,Ac (j:=0) rfl,_,Z,SqT.of qa,Ac (j:=1) rfl,zN2,λt2 c5=>?_⟩;have b5:=Ae c5 (.tup [V.int (Ch (ri.codes[i]).1),V.int (ri.codes[i]).2]);refine hN _ _ (by rw[uC,uD];omega) ⟨(gg.trans gt).trans b5,ps++[(Ch (ri.codes[i]).1,(ri.codes[i]).2)],Dg (Paired.mapP hy λ_ _ a=>a.mono (gt.trans b5).tp) (.cons ⟨t2,Z,qa⟩ .nil),cr.app λp hp=>?_,by rw[uX,uA a8,uN,ep];rfl⟩;have:=b1.2.2.1 _ (vI a8);rw[mS hp];exact⟨O6 this.1,this.2⟩
  rintro ys H7 b7 ⟨g7,ps,hy,cr,ep⟩ D7 b3;rw[uB]at b7;rw[uB,take_length]at ep;have gD:=Ae b3 (.lst ys);have U8:=(U6.same g7).new b3 (.lst ys);have lp:=PySem.Paired.length hy;refine⟨o,D7,_,_,L,n,m,_,Z,U8.hv hv (by decide),qa,(U6.same g7).w.offN b3,Paired.mapP hy λ_ _ a=>a.mono gD.tp,by omega,cr.up U8.lo,λd ob H9 s9 cs V9 d3 e9 c9=>?_⟩;have b4:=V9.k _ _ aS ((g7.trans gD) _ _ b6);exact⟨b4,T.clP,T.nC,(by show 5<1000;decide),Fil.cod q (r:=ri.rests) ((U8.then V9).wk (by decide) hv.f.op (λg z=>.inl (by exact AaD z)) λρ ⟨⟨_,⟨_,f4⟩,_⟩,fJ⟩=>⟨⟨f4.trans ((L6 ρ _).trans (Bj _)),rfl,λc=>(fJ c).trans (N1 b1.2.2 (λ_=>true) Ch (by rw[ep,List.filter_eq_self.mpr λ_ _=>rfl]) ρ c)⟩,λ_=>rfl⟩) b4 e9 (b2.2.1.up (uY V6.lo V9.lo)) c9⟩
 ·obtain⟨k,p1,rfl⟩:∃k p1,p=.again k p1:=AgI rd n1 n2 n3
  obtain⟨t',d4,ev,c8,hx⟩:=PAt.get c4;cases ev
  obtain⟨x0,x1,x2,rfl,h0,c3,h2⟩:=hx.three;cases h0.str
  cases c3.int
  exact⟨c8.sq,Ac (j:=1) rfl,o,a,dx,f,k,x,ri.rests,cv,ri,L,n,m,_,Z,V6.hv a2 (by decide),b6,⟨fx,d1,o1,U6.k _ _ fA hf,U6.k _ _ dA a5⟩,fa,r2.up V6.lo,b2.up V6.lo,rk k uF,λH' s' r cs U=>q H' s' r cs ((U6.trans U).wk (by decide) hv.f.op (λg z=>.inl (by exact AaD z)) λρ ⟨⟨_,⟨_,f4⟩,_⟩,fA⟩=>⟨⟨f4.trans ((L6 ρ _).trans (Bj _)),fA⟩,λ_=>rfl⟩)⟩
end
inductive Rh(K:FA)(vs:List V)(H:Hp)(Q:VK):Prop
 |mk(v)(xs:_)(_:vs=[v])(_:PAt K H (.t xs) v)(_:xs.length<=8)(_:∀r ws,H r=none->Ba K H (inner xs) ws->Q (.ref r) (upd H r (.lst ws)))
def Nv(K:FA):Sp:=λvs H Q _=>Rh K vs H Q
theorem AhQ(F:Ax K mg "inner_parts" ["part"] Fj)(T:Txt mg):Ai P w K mg base 1 "inner_parts" ["part"] (Nv K):=by
 refine F.ok Q9 (λvs H Q E h=>?_) (λf cdv A outer s H vs Q E hr h=>?_)
 ·obtain⟨v,xs,rfl,_⟩:=h
  rfl
 obtain⟨v,xs,rfl,hv,hl,q⟩:=h
 refine⟨_,Ah (Ao (Dc (tc:=tB (tCB (Za K) (Bx (A5 0) (Bx (tC (.ty "tuple")) Dj)))) ["piece"] [] rfl (Bz (Ak Fj) ["part"] (by trivial)) (Le (pv 0))
  (λs2 H2 fp cl C=>Az (i:=0) (show Nodup [("piece": Str)] from by trivial) rfl (Or.inl rfl)) (Bg (by decide))
  (λs2 H2 fp cl C=>Dk (Mw (Bu Mn rfl T.n_isinstance PyProof.Rows.boot_isinstance (Aa (pv 0) (Aa (Xc rfl T.n_tuple (by trivial) (v:=.ty "tuple") rfl) Ab)))))
  (λs2 H2 fp cl C=>pv 0))),?_⟩
 obtain⟨a,vs,rfl,ha,hx⟩:=hv.get;refine⟨a,Z,⟨_,ha.sq⟩,?_⟩;have a3:=hx.len
 refine AeJ (xs:=vs) (F:=λD ys H=>Q (.ref D) (upd H D (.lst ys))) (λi ys H'=>H'=H/\Ba K H (inner (xs.take i)) ys) ⟨Z,by simpa [inner] using Ba.nil⟩ (Co (by omega))
  (λi ys H' hi ⟨e,_⟩=>⟨vs,vs[i],by rw[e];exact ha.sq,by simp[hi]⟩) (λys H' ⟨e,_⟩=>⟨vs,by rw[e];exact ha.sq,uZ _⟩)
  (λi ys H1 x H2 ⟨e,_⟩ ⟨e',y⟩=>⟨e',y vs (by rw[e];exact ha.sq)⟩) ?_ (λx σ H Q Q' h q=>h _ _ q) ?_ ?_ ?_
 ·rintro i x ys H' hi ⟨rfl,z⟩
  obtain⟨n,hn,a2⟩:=hx.at hi;obtain⟨t,ty,ek⟩:=AbT a2
  have a1:xs.take (i+1)=xs.take i++[n]:=by
   rw[take_add_one,hn];rfl
  refine⟨_,"tuple",t,_,Z,ty,ek,?_⟩;refine A2 (λc=>?_) (λc=>?_)
  ·refine⟨Z,?_⟩
   have:inner (xs.take (i+1))=inner (xs.take i)++[n]:=by rw[a1];simp[inner,c]
   rw[this];exact z.append (.cons a2 .nil)
  ·refine⟨Z,?_⟩
   have:inner (xs.take (i+1))=inner (xs.take i):=by rw[a1];simp[inner,c]
   rw[this];exact z
 ·exact λσ H Q Q' h=>Jc λv H ⟨x,T,t,b,e2,ty,ek,q⟩=>⟨x,T,t,b,e2,ty,ek,O9 h q⟩
 ·exact λσ H Q Q' h=>Jc h
 ·rintro ys H' ⟨rfl,z⟩ D hD
  refine q D ys hD ?_;rw[uQ (by omega)]at z;exact z
def kids:Pt->List Pt
 |.iff _ p q=>[p,q]
 |.thn p q=>[p,q]
 |.bes p q=>[p,q]
 |.again _ p=>[p]
 |.hold _ p=>[p]
 |.watch _ p=>[p]
 |.trap p=>[p]
 |_=>[]
theorem Kb(x:Str):isT (.s x)=false:=rfl
theorem J9(x:Int):isT (.i x)=false:=rfl
theorem Je(p:Pt):isT p.nd=true:=by cases p<;>rfl
theorem Adv(ok:okN n p):∃xs,p.nd=.t xs/\xs.length<=8/\inner xs=(kids p).map Pt.nd:=by
 cases p with
 |stay ks=>exact absurd ok id
 |iff i p q=>exact⟨_,rfl,by show 4<=8;decide,by unfold inner;simp[Kb,J9,Je,kids]⟩
 |thn p q=>exact⟨_,rfl,by show 3<=8;decide,by unfold inner;simp[Kb,J9,Je,kids]⟩
 |bes p q=>exact⟨_,rfl,by show 3<=8;decide,by unfold inner;simp[Kb,J9,Je,kids]⟩
 |again k p=>exact⟨_,rfl,by show 3<=8;decide,by unfold inner;simp[Kb,J9,Je,kids]⟩
 |hold k p=>exact⟨_,rfl,by show 3<=8;decide,by unfold inner;simp[Kb,J9,Je,kids]⟩
 |watch k p=>exact⟨_,rfl,by show 3<=8;decide,by unfold inner;simp[Kb,J9,Je,kids]⟩
 |trap p=>exact⟨_,rfl,by show 2<=8;decide,by unfold inner;simp[Kb,J9,Je,kids]⟩
 |nothing=>exact⟨_,rfl,by show 1<=8;decide,by unfold inner;simp[Kb,J9,kids]⟩
 |rest k=>exact⟨_,rfl,by show 2<=8;decide,by unfold inner;simp[Kb,J9,kids]⟩
 |send k=>exact⟨_,rfl,by show 2<=8;decide,by unfold inner;simp[Kb,J9,kids]⟩
 |exit k=>exact⟨_,rfl,by show 2<=8;decide,by unfold inner;simp[Kb,J9,kids]⟩
def szs(ps:List Pt):Nat:=(ps.map Pt.sz).sum
def fW(p:Pt)(r:Wr):Vn->Prop:=fPt p r.runs r.rests r.codes
theorem AfN(hp:isPr p=true)(e:kids p=[p1,p2]){x:Int}{a:Wr}(fa:fW p1 a ρ)(fb:fW p2 b ρ)(f:fPr p x r a b cs ρ):fPt p x r cs ρ/\∀i,or3 ((sem ρ p1 (ρ.v a.runs)).2 i) ((sem ρ p2 (ρ.v b.runs)).2 i)=(sem ρ p (ρ.v x)).2 i:=by
 obtain⟨a1,a2⟩:=fa;obtain⟨b1,b2⟩:=fb;obtain⟨f0,f⟩:=f;have a2:=funext a2;have b2:=funext b2;rw[a1,b1]at f0;have f0:ρ.v r=some (rsB ρ p1 || rsB ρ p2):=f0.trans (by cases rsB ρ p1<;>cases rsB ρ p2<;>rfl);cases p with
 |thn q1 q2=>
  cases e
  obtain⟨e1,e2,z⟩:=f;rw[b1]at e1 e2;rw[a2,e1]at e2;rw[a2,b2,e1,e2]at z;rw[e1,e2];exact⟨⟨f0,z⟩,λi=>rfl⟩
 |iff s q1 q2=>
  cases e
  obtain⟨e1,e2,z⟩:=f;have a3:ρ.v r=or3 (some (rsB ρ p1)) (some (rsB ρ p2)):=f0.trans (by cases rsB ρ p1<;>cases rsB ρ p2<;>rfl);rw[a1,a3]at e1;rw[b1,a3]at e2;rw[a2,b2,e1,e2]at z;rw[e1,e2];exact⟨⟨f0,z⟩,λi=>rfl⟩
 |bes q1 q2=>
  cases e
  obtain⟨e1,e2,z⟩:=f;unfold sdC at z;unfold idl at e1 e2 z;rw[a1,b1]at e1 e2;rw[a1,b1,a2,b2,e1,e2]at z;rw[e1,e2];exact⟨⟨f0,z⟩,λi=>rfl⟩
 |_=>cases hp
theorem Afn(hp:isRd p=true)(e:kids p=[p1]){x:Int}{a:Wr}(fa:fW p1 a ρ)(f:fRd p x r a cs ρ):fPt p x r cs ρ/\∀i,(sem ρ p1 (ρ.v a.runs)).2 i=(sem ρ p (ρ.v x)).2 i:=by
 obtain⟨a1,a2⟩:=fa;have a2:=funext a2;cases p with
 |again k q=>
  cases e
  obtain⟨e1,e2,z⟩:=f;rw[a1]at e2;rw[a2,e1]at z;rw[e1];exact⟨⟨e2.trans (by show or3 (some (ρ.m k)) (some (rsB ρ p1))=some (ρ.m k || rsB ρ p1);cases ρ.m k<;>cases rsB ρ p1<;>rfl),z⟩,λi=>rfl⟩
 |trap q=>
  cases e
  obtain⟨e1,e2,z⟩:=f;rw[a2,e1]at z;rw[e1];exact⟨⟨e2.trans a1,z⟩,λi=>rfl⟩
 |hold s q=>
  cases e
  obtain⟨rfl,e1,z⟩:=f;unfold Zq at e1;unfold skV at z;rw[a1]at e1 z;rw[a2,e1]at z;rw[e1];exact⟨⟨a1,z⟩,λi=>rfl⟩
 |watch s q=>
  cases e
  obtain⟨rfl,e1,z⟩:=f;unfold Zq at e1;unfold skV at z;rw[a1]at e1 z;rw[a2,e1]at z;rw[e1];exact⟨⟨a1,z⟩,λi=>rfl⟩
 |_=>cases hp
def eK(ks:List Pt)(rs:List Wr):Eff:=⟨[],λρ=>∀z∈ks.zip rs,fW z.1 z.2 ρ,λρ i=>orL ((ks.zip rs).map λz=>(sem ρ z.1 (ρ.v z.2.runs)).2 i)⟩
inductive AaE(p:Pt):Prop
 |pr (p1 p2:Pt) (e:kids p=[p1,p2]) (h:isPr p=true):AaE p
 |rd (p1:Pt) (e:kids p=[p1]) (h:isRd p=true):AaE p
 |lf (e:kids p=[]) (h:E8 p=true):AaE p
theorem Adn(p:Pt):AaE p:=by
 cases p with
 |iff i p q=>exact .pr p q rfl rfl
 |thn p q=>exact .pr p q rfl rfl
 |bes p q=>exact .pr p q rfl rfl
 |again k p=>exact .rd p rfl rfl
 |hold k p=>exact .rd p rfl rfl
 |watch k p=>exact .rd p rfl rfl
 |trap p=>exact .rd p rfl rfl
 |_=>exact .lf rfl rfl
theorem AdZ(p:Pt):p.sz=szs (kids p)+1:=by cases p<;>simp[Pt.sz,kids,szs]
theorem Ado(ok:okN n p):∀q∈kids p,okN n q:=by
 cases p<;>intro q hq<;>simp[kids]at hq<;>simp only[okN]at ok<;>first|(rcases hq with z|z<;>rw[z]<;>first|exact ok.1|exact ok.2|exact ok.2.1|exact ok.2.2)|(rw[hq];first|exact ok|exact ok.2)|skip
theorem AeP(h:p.hg<=m+1):∀q∈kids p,q.hg<=m:=by
 cases p<;>intro q hq<;>simp[kids]at hq<;>simp only[Pt.hg]at h<;>first|(rcases hq with z|z<;>rw[z]<;>omega)|(rw[hq];omega)|skip
theorem Abw{k:Int}(h:k∈rsP p):E8 p=true\/k∈rdK p\/∃q∈kids p,k∈rsP q:=by
 cases p<;>simp[rsP,rdK,kids,E8]at h ⊢ <;> first|exact h.symm|exact h
theorem Aep{k:Int}(z:q∈kids p)(h:k∈rsP q):k∈rsP p:=by
 cases p<;>simp[kids]at z<;>simp only[rsP]<;>first|(rcases z with rfl|rfl<;>simp[h])|(subst z;simp[h])
theorem Afg{k:Int}(h:k∈rdK p):k∈rsP p:=by
 cases p<;>first|(cases h;done)|(rw[mS h];exact uF)
theorem Afe(h:isPr p=true):rdK p=[]:=by cases p<;>first|rfl|cases h
theorem Adc(p:Pt):(kids p).length<=2:=by cases p<;>simp[kids]
theorem Af3{p:Pt}(hk:isPr p=true)(z:E8 p=true):False:=by cases p<;>cases hk<;>cases z
theorem AgJ{p:Pt}(hk:isRd p=true)(z:E8 p=true):False:=by cases p<;>cases hk<;>cases z
inductive R8(K:FA)(C CP:Addr)(b:Nat)(vs:List V)(H:Hp)(Q:VK):Prop
 |mk(o:Addr)(v:V)(p:Pt)(L:Lc)(n m:Nat)(s:Ws)(_:vs=[.ref o,v])(_:Hv C o L n m H s (50*p.sz))(_:PAt K H p.nd v)(_:p.hg<=b)(_:okN n p)(_:(∀k∈rsP p,0<=k/\k<m))(_:∀a H' s' r,Nw C o L n m L.S H s H' s' (50*p.sz) (eP p r.runs r.rests r.codes)->H a=none->WdAt CP H' a r->WI s' r->Op3 s' r.runs->s.nx<=r.runs->(∀k∈rsP p,k∈s'.lv.map (·.1))->Q (.ref a) H')
def K3(K:FA)(C CP:Addr)(b:Nat):Sp:=λvs H Q _=>R8 K C CP b vs H Q
def AhO(CP:Addr)(H:Hp)(r:Wr)(v:V):Prop:=∃b,v=.ref b/\WdAt CP H b r
section
variable{CP:Addr}
seal PSs PS PE PA PT
theorem AcC(F:Ax K mg "wire_part" ["wiring","part"] Gu)(T:Cj K mg C CP)(bM:Bb P w K mg base 3 C "new_part" ["self"] (AaK C CP))(aT:Ai P w K mg base 1 "inner_parts" ["part"] (Nv K))(bK:Ai P w K mg base 5 "wire_pair" ["wiring","part","whole","first","second"] (Qp K C CP))(bE:Ai P w K mg base 5 "wire_round" ["wiring","part","whole","inner"] (Oi K C CP))(bL:Ai P w K mg base 5 "wire_leaf" ["wiring","part","whole"] (Q7 K C CP))(bR:Ai P w K mg base (m+6) "wire_part" ["wiring","part"] (K3 K C CP m)):Ai P w K mg base (m+7) "wire_part" ["wiring","part"] (K3 K C CP (m+1)):=by
 refine F.ok Hc (λvs H Q E h=>?_) (λfn cdv A outer s0 H vs Q E hr h=>?_)
 ·obtain⟨o,v,p,L,n,m,s,rfl,_⟩:=h;rfl
 obtain⟨o,v,p,L,n,m,s,rfl,hv,hp,hh,ok,rk,q⟩:=h
 refine⟨_,(Ad (Ar (i:=2) Hc.nd rfl (Or.inl rfl) (Jk bM hr Al (pv 0)))
  (Ad (Ar (i:=3) Hc.nd rfl (Or.inl rfl) (Av Ab))
  (Ad (Fa PassesOwn.never rfl (B6 (Am aT hr rfl Al (Aa (pv 1) Ab))) (Az (i:=4) Hc.nd rfl (Or.inl rfl))
   (Ah (Be (Fq PySem.F.plainAttrs_list PySem.F.slot_list_append PySem.F.type_list_append Cz (pv 3) (Aa (Am bR hr rfl Al (Aa (pv 0) (Aa (pv 4) Ab))) Ab)))))
  (Ad (A9 (An A1 (Bu Cm rfl T.n_len PySem.boot_len (Aa (pv 3) Ab)) Af (Aq _))
   (Ah (Be (Am bK hr rfl Al (Aa (pv 0) (Aa (pv 1) (Aa (pv 2) (Aa (Aj Bs (pv 3) Af (λ_ _=>rfl)) (Aa (Aj Bs (pv 3) Af (λ_ _=>rfl)) Ab))))))))
   (Ah (A9 (An A1 (Bu Cm rfl T.n_len PySem.boot_len (Aa (pv 3) Ab)) Af (Aq _))
   (Ah (Be (Am bE hr rfl Al (Aa (pv 0) (Aa (pv 1) (Aa (pv 2) (Aa (Aj Bs (pv 3) Af (λ_ _=>rfl)) Ab)))))))
   (Ah (Be (Am bL hr rfl Al (Aa (pv 0) (Aa (pv 1) (Aa (pv 2) Ab)))))))))
  (Ah (Ao (pv 2))))))),?_⟩
 have ez:=AdZ p;have ho:=hv.w.ho;refine⟨ho,Z,o,L,n,_,s,Z,(hv.nw (S:=L.S)).hv hv (by omega),λa dx cv x H1 s1 U1 na ha a7 d5=>?_⟩;have r3:R3 s1 x:=⟨U1.f.op _ a7.1,U1.f.op _ a7.2.1,U1.f.op _ a7.2.2⟩;have aS:=(U1.w.objOff ha).2;refine⟨zN0,λli a6=>?_⟩;have b8:=U1.w.offN4 a6;have b6:=b8.2.2.2;have c9:=U1.k.nil a6 b6;have g2:=Ae a6 (.lst []);have U2:=U1.new a6 (.lst []);have e0:=g2 _ _ ha;have c7:=qa (H:=H1) (a:=li) (o:=.lst []);have d6:=(ne_of_none ha a6).symm;have c5:=hp.mono (hv.w.tp U2.k);generalize upd H1 li (.lst [])=H2 at *;obtain⟨xs,ex,lx,ix⟩:=Adv ok;refine⟨v,xs,Z,ex▸c5,lx,λr ws b1 hw=>?_⟩;rw[ix]at hw;have g3:=Ae b1 (.lst ws);have U3:=U2.new b1 (.lst ws);have d2:=g3 _ _ e0;have c6:=g3 _ _ c7;have d8:=c5.mono g3.tp;have c3:=qa (H:=H2) (a:=r) (o:=.lst ws);have rS:=U2.w.offN b1;have e7:=(ne_of_none c7 b1).symm;have b7:=Ba.mono g3.tp hw;generalize upd H2 r (.lst ws)=H3 at *;have lw:=b7.len;rw[uB]at lw;have a2:Hv C o L n m H3 s1 (50*szs (kids p)+47):=U3.hv hv (by omega)
 have b9:∀{H':Hp},KpS (li::L.S) H3 H'->Tp H3 H':=λk b xs e=>k b _ (λz=>by
  rcases vJ.mp z with z|z
  ·rw[z,c6]at e;cases e
  ·exact U3.w.off e (λ_ z=>nomatch z) (λ_ z=>nomatch z) z) e
 have e8:=Adc p
 have d9:∀i,szs ((kids p).take i)<=szs (kids p):=λi=>by
  have:szs (kids p)=szs ((kids p).take i)+szs ((kids p).drop i):=by unfold szs;rw[<-List.sum_append,<-uN,List.take_append_drop]
  omega
 refine⟨r,Z,⟨_,SqL.of c3⟩,F0 (K:=K) (a:=r) (xs:=ws) (λi σ H'=>∃x4 s' a4 rs,σ=[some (.ref o),some v,some (.ref a),some (.ref li),x4]/\Nw C o L n m (li::L.S) H3 s1 H' s' (50*szs ((kids p).take i)) (eK ((kids p).take i) rs)/\H' li=some (.lst a4)/\PySem.Paired (AhO CP H') rs a4/\(∀r∈rs,WI s' r/\Op3 s' r.runs/\s1.nx<=r.runs)/\rs.Pairwise (λa b=>a.runs+3<=b.runs)/\rs.length=i/\∀q∈(kids p).take i,∀k∈rsP q,k∈s'.lv.map (·.1)) ⟨none,s1,[],[],Z,a2.nw.wk (uZ _) a2.f.op (λ_ z=>nomatch z) (λρ _=>⟨λz h=>(by cases h),λi=>rfl⟩),c6,.nil,(λ_ h=>nomatch h),.nil,Z,λ_ h=>nomatch h⟩ (λi σ H' _ ⟨_,_,_,_,_,U,_⟩=>SqL.of (U.k _ _ (λz=>(vJ.mp z).elim e7 rS) c3)) ?_ ?_⟩
 ·rintro i xx σ H4 hi ⟨x4,s4,a4,rs,rfl,U4,a1,a5,a3,pw,lr,a9⟩
  have b4:i<(kids p).length:=by have:=(List.getElem?_eq_some_iff.mp hi).1;omega
  obtain⟨nd,en,hx⟩:=b7.at hi;rw[uH,uA b4]at en;cases en
  have mk:=vI b4;have tk:(kids p).take (i+1)=(kids p).take i++[(kids p)[i]]:=by rw[uX,uA b4];rfl
  have c4:szs ((kids p).take (i+1))=szs ((kids p).take i)+((kids p)[i]).sz:=by rw[tk];unfold szs;rw[uN,List.sum_append];simp
  have:=d9 (i+1);rw[tk];rw[tk]at c4;refine⟨.inl ⟨Z,_,SqL.of a1⟩,o,xx,(kids p)[i],L,n,m,s4,Z,U4.hv a2 (by rw[tk]at this;omega),hx.mono (b9 U4.k),AeP hh _ mk,Ado ok _ mk,λk h=>rk k (Aep mk h),λb H5 s5 rb V5 nb D5 w5 c8 d7 e6=>?_⟩;have a8:=V5.k _ _ b6 a1;have U5:=U4.then V5
  have keep:∀(b':Addr)(r:Wr),WdAt CP H5 b' r->WdAt CP (upd H5 li (.lst (a4++[.ref b]))) b' r:=λb' r D=>by
   obtain⟨e1,e2,e3,e4,e5⟩:=D;exact⟨e1,e2,e3,by rw[upd_ne (Bw e4 a8 (by intro z;cases z))];exact e4,by rw[upd_ne (Bw e5 a8 (by intro z;cases z))];exact e5⟩
  refine⟨li,a4,.ref b,Z,Z,a8,by rw[<-PySem.Paired.length a5,lr];exact vB (by omega:i<=8) (by decide),_,s5,_,rs++[rb],Z,?_,qa,Dg (Paired.mapP a5 λr v ⟨b',eb,D⟩=>⟨b',eb,keep b' r (D.kp U4.w V5.k)⟩) (.cons ⟨b,Z,keep b _ D5⟩ .nil),λr h=>?_,?_,by rw[uC,lr];rfl,λq h k hk=>?_⟩
  ·rw[c4,Nat.mul_add]
   have U5:=U5.wk (E':=eK ((kids p).take i++[(kids p)[i]]) (rs++[rb])) (uZ _) a2.f.op (λ_ z=>nomatch z) λρ ⟨f,g⟩=>⟨λz h=>?_,λj=>?_⟩
   rotate_left
   ·rw[List.zip_append (by rw[lr,vE];omega)]at h
    rcases uW.mp h with h|h
    ·exact f z h
    ·rw[mS h];exact g
   ·show or3 (orL _) _=orL _
    rw[List.zip_append (by rw[lr,vE];omega),uN,Q2];exact congrArg _ (Bj _).symm
   exact {U5 with k:=U5.k.trans (KpS.upd uF),w:=U5.w.keep [li] (KpS.upd uF) (Tp.lst a8) λb d4=>(by rw[mS d4];exact b8)}
  ·rcases uW.mp h with z|z
   ·obtain⟨w1,w2,w3⟩:=a3 r z
    exact⟨w1.up V5.lo,w2.kp V5 λg z=>(by cases z),w3⟩
   ·rw[mS z];exact⟨w5,c8,Int.le_trans (by have:=U4.lo;unfold Ws.nx;omega) d7⟩
  ·exact List.pairwise_append.mpr ⟨pw,pairwise_singleton _ _,λr h r' h'=>by
    rw[mS h'];have:=(a3 r h).1.1.2.2.2;omega⟩
  ·rcases uW.mp h with z|z
   ·exact V5.lv k (a9 q z k hk)
   ·rw[mS z]at hk;exact e6 k hk
 ·rintro σ H4 ⟨x4,s4,a4,rs,rfl,U4,a1,a5,a3,pw,lr,a9⟩
  rw[<-lw,take_length]at U4 a9;rw[<-lw]at lr;have b5:=U4.k _ _ (λz=>(vJ.mp z).elim (Ne.symm d6) aS) d2;have b2:=d8.mono (b9 U4.k);have rx:=R3.up r3 U4.lo;have U:=((U3.more λb hb=>uG li hb).trans U4).drop c9;have d3:=a7.kp U4 λg z=>by cases z
  have b3:∀{d:Nat}{ks:List Int}{E:Int->Cd->Eff},d<=46->(∀k∈rsP p,(k∈ks\/∃q∈kids p,k∈rsP q))->(∀r cs,∀g∈(E r cs).A,s1.nx<=g)->(∀r cs ρ,(eK (kids p) rs).F ρ->(E r cs).F ρ->fPt p x r cs ρ/\∀i,or3 ((eK (kids p) rs).D ρ i) ((E r cs).D ρ i)=(sem ρ p (ρ.v x)).2 i)->Fil C CP o a L n m (λ_ H'=>Q (.ref a) H') H4 s4 x d ks E:=λhd hk hA hF H' s' r cs V D hr hc hl=>by
   have V':=(U.more λb hb=>uG a hb).trans V;refine q a H' s' ⟨x,r,cs⟩ ((V'.drop na).wk (by omega) hv.f.op (λg z=>.inr ?_) λρ ⟨⟨_,f⟩,g⟩=>hF r cs ρ f g) na D ⟨rx.up V.lo,hr,hc⟩ (d3.kp V λg z=>.inr (by have:=hA r cs g z;have:=r3.2.2.2;omega)) d5 λk h=>?_
   ·have:=hA r cs g z
    have:=U1.lo;unfold Ws.nx at *;omega
   rcases hk k h with z|⟨q,hq,z⟩
   ·exact hl k z
   ·exact V.lv k (a9 q hq k z)
  cases Adn p with
  |pr p1 p2 e hk=>
   rw[e]at lr;obtain⟨ra,rb,rfl⟩:∃ra rb,rs=[ra,rb]:=match rs,lr with | [a,b],_=>⟨a,b,rfl⟩
   cases a5 with
   |cons o1 t1=>
   cases t1 with
   |cons o2 t2=>
   cases t2 with
   |nil=>
   obtain⟨f,rfl,D1⟩:=o1;obtain⟨g,rfl,D2⟩:=o2;have w1:=a3 _ uF;have w2:=a3 _ (uG _ uF);refine⟨li,_,Z,.inl (SqL.of a1),Z,C8 ⟨SqL.of a1,Ac (j:=0) rfl,SqL.of a1,Ac (j:=1) rfl,?_⟩⟩
   exact⟨o,a,dx,f,g,v,p,x,cv,_,_,L,n,m,_,rfl,U4.hv a2 (by omega),b2,hk,ok,b5,D1,D2,rx,w1.1,w2.1,⟨w1.2.1,w2.2.1,(vQ.mp pw).1 _ uF⟩,λH' s' r cs V D hr hc hl=>(b3 (E:=λr cs=>eC [ra.runs,rb.runs,ra.runs+1,ra.runs+2,rb.runs+1,rb.runs+2] (fPr p x r ra rb cs)) (uZ _) (λk h=>(Abw h).elim (λz=>(Af3 hk z).elim) λz=>z.imp (λz=>by rw[Afe hk]at z;exact z) id) (λr cs g z=>by simp at z;have:=w1.2.2;have:=w2.2.2;omega) (λr cs ρ f g=>by
    rw[e]at f ⊢;obtain⟨a,b⟩:=AfN hk e (f (p1,_) uF) (f (p2,_) (uG _ uF)) g;exact⟨a,λi=>(Bj _).trans ((congrArg _ (Bj _)).trans (b i))⟩) H' s' r cs V D hr hc hl)⟩
  |rd p1 e hk=>
   rw[e]at lr;obtain⟨ra,rfl⟩:=List.length_eq_one_iff.mp lr;cases a5 with
   |cons o1 t1=>
   cases t1 with
   |nil=>
   obtain⟨f,rfl,D1⟩:=o1;have w1:=a3 _ uF;refine⟨li,_,Z,.inl (SqL.of a1),Z,Ez ⟨li,_,Z,.inl (SqL.of a1),Z,C8 ⟨SqL.of a1,Ac (j:=0) rfl,?_⟩⟩⟩
   exact⟨o,a,dx,f,v,p,x,cv,_,L,n,m,_,rfl,U4.hv a2 (by omega),b2,hk,ok,λk h=>rk k (Afg h),b5,D1,rx,w1.1,w1.2.1,λH' s' r cs V D hr hc hl=>(b3 (d:=16) (E:=λr cs=>eC [ra.runs,ra.runs+1,ra.runs+2] (fRd p x r ra cs)) (by decide) (λk h=>(Abw h).elim (λz=>(AgJ hk z).elim) id) (λr cs g z=>by simp at z;have:=w1.2.2;omega) (λr cs ρ f g=>by
    rw[e]at f ⊢;obtain⟨a,b⟩:=Afn hk e (f (p1,_) uF) g;exact⟨a,λi=>(Bj _).trans ((Bj _).trans (b i))⟩) H' s' r cs V D hr hc hl)⟩
  |lf e hk=>
   rw[e]at lr;cases a5 with
   |cons _ _=>cases lr
   |nil=>
   refine⟨li,_,Z,.inl (SqL.of a1),Z,Ez ⟨li,_,Z,.inl (SqL.of a1),Z,Ez (?_)⟩⟩;exact⟨o,a,dx,v,p,x,.non,cv,L,n,m,_,Z,U4.hv a2 (by omega),b2,hk,ok,rk,b5,rx,λH' s' r cs V D hr hc hl=>(b3 (by decide) (λk h=>.inl h) (λr cs g z=>(by cases z)) (λr cs ρ f g=>⟨g,λi=>by rw[e];rfl⟩) H' s' r cs V D hr hc hl)⟩
theorem AbF(F:Ax K mg "wire_part" ["wiring","part"] Gu)(T:Cj K mg C CP)(bM:Bb P w K mg base 3 C "new_part" ["self"] (AaK C CP))(aT:Ai P w K mg base 1 "inner_parts" ["part"] (Nv K))(bK:Ai P w K mg base 5 "wire_pair" ["wiring","part","whole","first","second"] (Qp K C CP))(bE:Ai P w K mg base 5 "wire_round" ["wiring","part","whole","inner"] (Oi K C CP))(z:Ai P w K mg base 5 "wire_leaf" ["wiring","part","whole"] (Q7 K C CP)) :
  ∀m,Ai P w K mg base (m+6) "wire_part" ["wiring","part"] (K3 K C CP m)
 |0=>(F.zero (sp:=K3 K C CP 0) λvs H Q E h=>by obtain⟨o,v,p,L,n,m,s,_,_,_,hh,_⟩:=h;exact absurd hh (not_le_of_gt (Pt.hg_pos p))).mono (by decide)
 |m+1=>AcC F T bM aT bK bE z (AbF F T bM aT bK bE z m)
theorem AcG:As ["self","signs"] ["self","signs"] (Ak N9):=A6 (by trivial)
inductive R4(C:Addr)(vs:List V)(H:Hp)(Q:VK):Prop
 |mk(o nl' dx gl:Addr)(w:Str)(ns:List Int)(fs:List (Str×V))(gvs:List V)(_:vs=[.ref o,.str w,.ref nl'])(_:H o=some (.ins C dx fs))(_:fs.lookup ("gates": Str)=some (.ref gl))(_:H gl=some (.lst gvs))(_:H nl'=some (.lst (ns.map V.int)))(_:gvs.length<=1000000)(_:∀v H',KpS [gl] H H'->H' gl=some (.lst (gvs++[v]))->GwAt H' (w,ns) v->Q (.int (gvs.length:Int)) H')
def Xe(C:Addr):Sp:=λvs H Q _=>R4 C vs H Q
inductive P8(C:Addr)(vs:List V)(H:Hp)(Q:VK):Prop
 |mk(o dx gl:Addr)(fs:List (Str×V))(gvs:List V)(_:vs=[.ref o])(_:H o=some (.ins C dx fs))(_:fs.lookup ("gates": Str)=some (.ref gl))(_:fs.lookup ("gate": Str)=none)(_:H gl=some (.lst gvs))(_:gvs.length<=1000000)(_:∀v H',KpS [gl] H H'->H' gl=some (.lst (gvs++[v]))->GwAt H' ("some",[]) v->Q (.int (gvs.length:Int)) H')
def O2(C:Addr):Sp:=λvs H Q _=>P8 C vs H Q
def wf1(gl:Addr):List (Str×V):=[("gates",.ref gl)]
def wf2(gl sl:Addr):List (Str×V):=[("gates",.ref gl),("signs",.ref sl)]
def wf3(gl sl nl:Addr):List (Str×V):=[("gates",.ref gl),("signs",.ref sl),("senders",.ref nl)]
def ws0(n:Nat):Ws:=⟨List.replicate n ("some",[]),List.replicate n [],[],(List.range n).map λ(i:Nat)=>(i:Int)⟩
inductive Ss(C:Addr)(vs:List V)(H:Hp)(Q:VK):Prop
 |mk(o dx:Addr)(n:Nat)(_:vs=[.ref o,.int n])(_:H o=some (.ins C dx []))(_:n<=1000)(_:∀L H',KpS [o] H H'->Bi C H' o L n (ws0 n)->(∀b∈L.S,H b=none)->H L.sl=none->Q .non H')
def Xo(C:Addr):Sp:=λvs H Q _=>Ss C vs H Q
theorem Agv(F:Fun K "gate" "Wiring.gate" Wi f fd)(T:Cj K mg C CP):Ca P w K mg base CX0 1 f fd ["self","word","numbers"] (Xe C):=by
 refine F.ok X5 (λvs H Q E h=>?_) (λcdv A outer s0 H vs Q E hr h=>?_)
 ·obtain⟨o,nl',dx,gl,w,ns,fs,gvs,rfl,_⟩:=h;rfl
 obtain⟨o,nl',dx,gl,w,ns,fs,gvs,rfl,ho,hf,hg,a8,hb,q⟩:=h
 refine⟨_,(Ad (Be (Fq PySem.F.plainAttrs_list PySem.F.slot_list_append PySem.F.type_list_append Cz (Aw (pv 0) rfl) (Aa (Ay (Aa (pv 1) (Aa (Di Gy rfl T.n_tuple (by trivial) (Aa (pv 2) Ab)) Ab))) Ab)))
  (Ah (Ao (A3 Vy (Bu Cm rfl T.n_len PySem.boot_len (Aa (Aw (pv 0) rfl) Ab)) Af)))),?_⟩
 refine⟨ho,T.cl,T.nG,hf,.inl ⟨Z,_,SqL.of hg⟩,nl',_,Z,.inl ⟨SqL.of a8,λt2 a3=>⟨zN2,λt1 a2=>?_⟩⟩⟩;have g1:=Ae a3 (.tup (ns.map V.int));have g2:=Ae a2 (.tup [V.str w,.ref t2]);have a1:=g1.trans g2;have a7:=a1 _ _ hg;refine⟨gl,gvs,.ref t1,Z,Z,a7,Ab0 (by omega),?_⟩
 have a6:(upd (upd (upd H t2 (.tup (ns.map V.int))) t1 (.tup [V.str w,.ref t2])) gl (.lst (gvs++[.ref t1]))) o=some (.ins C dx fs):=by
  rw[upd_ne (Bw ho hg (by intro z;cases z))];exact a1 _ _ ho
 refine⟨a6,T.cl,T.nG,hf,gl,_,Z,.inl (SqL.of qa),_,_,Z,Z,?_⟩
 have e:(((gvs++[V.ref t1]).length:Nat):Int)-1=(gvs.length:Int):=by
  rw[uC,uD];omega
 dsimp only;rw[e];have a5:t1≠gl:=λz=>by rw[z,g1 _ _ hg]at a2;cases a2
 have a4:t2≠gl:=λz=>by rw[z,hg]at a3;cases a3
 exact q (.ref t1) _ ((Same.kpS a1).trans (KpS.upd uF)) qa ⟨t1,t2,Z,by rw[upd_ne a5];exact qa,by rw[upd_ne a4];exact g2 _ _ qa⟩
theorem Agq(F:Fun K "later" "Wiring.later" Rf f fd)(T:Cj K mg C CP)(aL:Bb P w K mg base 1 C "gate" ["self","word","numbers"] (Xe C)):Ca P w K mg base CX0 2 f fd ["self"] (O2 C):=by
 refine F.ok V0 (λvs H Q E h=>?_) (λcdv A outer s0 H vs Q E hr h=>?_)
 ·obtain⟨o,dx,gl,fs,gvs,rfl,_⟩:=h;rfl
 obtain⟨o,dx,gl,fs,gvs,rfl,ho,hf,z,hg,hb,q⟩:=h;refine⟨_,(Ah (Ao (Au aL hr Al (pv 0) (Aa Ap (Aa (Av Ab) Ab))))),?_⟩;refine⟨ho,z,zN0,λl hl=>?_⟩;have g:=Ae hl (.lst []);exact⟨o,l,dx,gl,"some",[],fs,gvs,Z,g _ _ ho,hf,g _ _ hg,qa,hb,λv H' k e1 e2=>q v H' ((Same.kpS g).trans k) e1 e2⟩
theorem AhU(F:Fun K "__init__" "Wiring.__init__" N9 f fd)(T:Cj K mg C CP)(iQ:Bb P w K mg base 2 C "later" ["self"] (O2 C)):Ca P w K mg base CX0 3 f fd ["self","signs"] (Xo C):=by
 refine F.ok AcG (λvs H Q E h=>?_) (λcdv A outer s0 H vs Q E hr h=>?_)
 ·obtain⟨o,dx,n,rfl,_⟩:=h;rfl
 obtain⟨o,dx,n,rfl,ho,hn,q⟩:=h
 refine⟨_,(Ad (Cc (pv 0) (Av Ab) rfl)
  (Ad (Cc (pv 0) (Dc (g:=(Bq 0)) (tc:=Dy) (te:=(Pp C "later" (O2 C) [] E0 (A5 1) Dj)) ["sign"] [("self",0)] rfl (Bz (Ak N9) ["self","signs"] (by trivial)) (Fy rfl T.n_range (Aa (pv 1) Ab)) (λs2 H2 fp cl C=>Az (i:=0) (show Nodup [("sign": Str),("self": Str)] from by trivial) rfl (Or.inl rfl)) (Bg (by decide)) (λs2 H2 fp cl C=>Ep) (λs2 H2 fp cl C=>(Jk iQ hr Al (pv 1)))) rfl)
  (Ad (Cc (pv 0) (Dc (g:=(Bq 0)) (tc:=Dy) (te:=(AaG Dj)) ["sign"] [] rfl (Bz (Ak N9) ["self","signs"] (by trivial)) (Fy rfl T.n_range (Aa (pv 1) Ab)) (λs2 H2 fp cl C=>Az (i:=0) (show Nodup [("sign": Str)] from by trivial) rfl (Or.inl rfl)) (Bg (by decide)) (λs2 H2 fp cl C=>Ep) (λs2 H2 fp cl C=>(Av Ab))) rfl)
  (Ah (Cc (pv 0) Md rfl))))),?_⟩
 refine⟨zN0,λgl hgl=>?_⟩;have g1:=Ae hgl (.lst []);have go:gl≠o:=λz=>by rw[z,ho]at hgl;cases hgl
 refine⟨g1 _ _ ho,T.cl,T.nG,(by show 0<1000;decide),?_⟩;have d5:(upd (upd H gl (.lst [])) o (.ins C dx (wf1 gl))) gl=some (.lst []):=by rw[upd_ne go];exact qa
 have b9:(upd (upd H gl (.lst [])) o (.ins C dx (wf1 gl))) o=some (.ins C dx (wf1 gl)):=qa;have k1:KpS [o] H (upd (upd H gl (.lst [])) o (.ins C dx (wf1 gl))):=(Same.kpS g1).trans (KpS.upd uF);have c6:Dv "gates" (V.ref gl) ([]:List (Str×V))=(wf1 gl):=rfl;rw[c6];generalize upd (upd H gl (.lst [])) o (.ins C dx (wf1 gl))=H1 at *;refine⟨n,Z,by omega,Int.lt_of_le_of_lt (Int.ofNat_le.mpr hn) (by decide),?_⟩;rw[Int.toNat_natCast];refine F9 (lo:=0) (n:=n) (λi ys H'=>KpS [gl] H1 H'/\ys=(List.range i).map (λ(i:Nat)=>V.int (i:Int))/\∃gvs,H' gl=some (.lst gvs)/\PySem.Paired (GwAt H') (List.replicate i ("some",[])) gvs) ⟨KpS.refl _ _,Z,[],d5,.nil⟩ (uY hn (by decide)) ?_ ?_
 ·rintro i ys H2 N hi ⟨k2,rfl,gvs,a7,b1⟩ hN b6
  have lg:=PySem.Paired.length b1;rw[uS]at lg;have a4:=k2 _ _ (λz=>go (mS z).symm) b9;refine⟨a4,Z,o,dx,gl,_,gvs,Z,a4,Z,Z,a7,by omega,λv H3 k3 e3 w3=>?_⟩;refine hN _ _ (by rw[uC,uD];omega) ⟨k2.trans k3,?_,_,e3,?_⟩
  ·rw[range_succ,uN,<-lg];rfl
  ·rw[List.replicate_succ']
   exact Dg (Paired.mapP b1 λ_ _ a=>a.mono (λb xs e=>k3 b _ (λz=>by rw[mS z,a7]at e;cases e) e)) (.cons w3 .nil)
 rintro ys H2 b6 ⟨k2,rfl,gvs,a7,b1⟩ sl a3;have a4:=k2 _ _ (λz=>go (mS z).symm) b9;have g3:=Ae a3 (.lst ((List.range n).map (λ(i:Nat)=>V.int (i:Int))));refine⟨g3 _ _ a4,T.cl,T.nS,(by show 1<1000;decide),?_⟩;have so:sl≠o:=λz=>by rw[z,a4]at a3;cases a3
 have sg:sl≠gl:=λz=>by rw[z,a7]at a3;cases a3
 have d4:Dv "signs" (V.ref sl) (wf1 gl)=wf2 gl sl:=rfl;rw[d4];have b8:(upd (upd H2 sl (.lst ((List.range n).map (λ(i:Nat)=>V.int (i:Int))))) o (.ins C dx (wf2 gl sl))) sl=some (.lst ((List.range n).map (λ(i:Nat)=>V.int (i:Int)))):=by rw[upd_ne so];exact qa
 have a6:(upd (upd H2 sl (.lst ((List.range n).map (λ(i:Nat)=>V.int (i:Int))))) o (.ins C dx (wf2 gl sl))) o=some (.ins C dx (wf2 gl sl)):=qa;have b3:(upd (upd H2 sl (.lst ((List.range n).map (λ(i:Nat)=>V.int (i:Int))))) o (.ins C dx (wf2 gl sl))) gl=some (.lst gvs):=by rw[upd_ne go,upd_ne (Ne.symm sg)];exact a7
 have k3:KpS [o] H2 (upd (upd H2 sl (.lst ((List.range n).map (λ(i:Nat)=>V.int (i:Int))))) o (.ins C dx (wf2 gl sl))):=(Same.kpS g3).trans (KpS.upd uF);generalize upd (upd H2 sl (.lst ((List.range n).map (λ(i:Nat)=>V.int (i:Int))))) o (.ins C dx (wf2 gl sl))=H3 at *;have b7:∀{A B:Hp}{c:Addr}{u:HO},KpS [c] A B->A c=some u->(∀xs,u≠.tup xs)->Tp A B:=λk e h b xs eb=>k b _ (λz=>by rw[mS z,e]at eb;exact h xs (Option.some.inj eb)) eb
 have c8:=Paired.mapP b1 λ_ _ a=>a.mono (b7 k3 a4 (λ_ z=>nomatch z))
 refine⟨n,Z,by omega,Int.lt_of_le_of_lt (Int.ofNat_le.mpr hn) (by decide),?_⟩;rw[Int.toNat_natCast];refine F9 (lo:=0) (n:=n) (λi ys H'=>Same H3 H'/\∃rs:List Addr,ys=rs.map V.ref/\rs.length=i/\rs.Nodup/\∀r∈rs,H3 r=none/\H' r=some (.lst [])) ⟨Same.refl _,[],Z,Z,nodup_nil,λr hr=>nomatch hr⟩ (uY hn (by decide)) ?_ ?_
 ·rintro i ys H4 N hi ⟨k4,rs,rfl,lr,nd,a2⟩ hN b6
  refine⟨zN0,λr hr=>?_⟩;have g:=Ae hr (.lst []);refine hN _ _ (by rw[uC,uD];omega) ⟨k4.trans g,rs++[r],by rw[uN];rfl,by rw[uC,uD,lr],?_,?_⟩
  ·refine nodup_append.mpr ⟨nd,vR.mpr ⟨λz=>(nomatch z),nodup_nil⟩,λa ha b hb e=>?_⟩
   rw[mS hb]at e;rw[e]at ha;rw[(a2 r ha).2]at hr;cases hr
  ·intro b hb
   rcases uW.mp hb with z|z
   ·exact⟨(a2 b z).1,g _ _ (a2 b z).2⟩
   ·rw[mS z]
    refine⟨?_,qa⟩;cases e:H3 r with
    |none=>rfl
    |some u=>rw[k4 _ _ e]at hr;cases hr
 rintro ys H4 b6 ⟨k4,rs,rfl,lr,nd,a2⟩ nl a1;have g5:=Ae a1 (.lst (rs.map V.ref));refine⟨g5 _ _ (k4 _ _ a6),T.cl,T.nN,(by show 2<1000;decide),?_⟩;have c7:Dv "senders" (V.ref nl) (wf2 gl sl)=wf3 gl sl nl:=rfl;rw[c7];have no:nl≠o:=λz=>by rw[z,k4 _ _ a6]at a1;cases a1
 have ng:nl≠gl:=λz=>by rw[z,k4 _ _ b3]at a1;cases a1
 have ns:nl≠sl:=λz=>by rw[z,k4 _ _ b8]at a1;cases a1
 have nr:nl∉rs:=λz=>by rw[(a2 nl z).2]at a1;cases a1
 have k5:KpS [o] H3 (upd (upd H4 nl (.lst (rs.map V.ref))) o (.ins C dx (wf3 gl sl nl))):=((Same.kpS k4).trans (Same.kpS g5)).trans (KpS.upd uF);have d2:(upd (upd H4 nl (.lst (rs.map V.ref))) o (.ins C dx (wf3 gl sl nl))) nl=some (.lst (rs.map V.ref)):=by rw[upd_ne no];exact qa
 have b4:(upd (upd H4 nl (.lst (rs.map V.ref))) o (.ins C dx (wf3 gl sl nl))) o=some (.ins C dx (wf3 gl sl nl)):=qa;have a9:∀r∈rs,H3 r=none/\(upd (upd H4 nl (.lst (rs.map V.ref))) o (.ins C dx (wf3 gl sl nl))) r=some (.lst []):=λr hr=>⟨(a2 r hr).1,by rw[upd_ne (λz=>by have h:=(a2 r hr).1;rw[z,a6]at h;cases h)];exact g5 _ _ (a2 r hr).2⟩
 generalize upd (upd H4 nl (.lst (rs.map V.ref))) o (.ins C dx (wf3 gl sl nl))=H5 at *;have d6:=k5 _ _ (λz=>go (mS z)) b3;have c9:=k5 _ _ (λz=>so (mS z)) b8;have d3:=Paired.mapP c8 λ_ _ a=>a.mono (b7 k5 a6 (λ_ z=>nomatch z))
 refine λld b2=>?_
 have g6:=Ae b2 (.dK []);refine⟨g6 _ _ b4,T.cl,T.nL,(by show 3<1000;decide),?_⟩;have lo:ld≠o:=λz=>by rw[z,b4]at b2;cases b2
 have k6:KpS [o] H5 (upd (upd H5 ld (.dK [])) o (.ins C dx (wsF ⟨dx,gl,sl,nl,ld,rs⟩))):=(Same.kpS g6).trans (KpS.upd uF);have a5:∀{c:Addr},c≠o->c∉[o]:=λh z=>h (mS z)
 have ro:∀r∈rs,r≠o:=λr hr z=>by have:=(a9 r hr).1;rw[z,a6]at this;cases this
 have c4:KpS [o] H H2:=λb u nb e=>k2 b u (λz=>by rw[mS z,hgl]at e;cases e) (k1 b u nb e)
 have c5:=c4.trans k3;have c3:=c5.trans k5
 have a8:∀{A:Hp}{b:Addr},KpS [o] H A->A b=none->b≠o->H b=none:=λ{A b}k e nb=>by
  cases eb:H b with
  |none=>rfl
  |some u=>rw[k b u (a5 nb) eb]at e;cases e
 refine q ⟨dx,gl,sl,nl,ld,rs⟩ _ (c3.trans k6) ⟨gvs,qa,k6 _ _ (a5 go) d6,Paired.mapP d3 λ_ _ a=>a.mono (b7 k6 b4 (λ_ z=>nomatch z)),k6 _ _ (a5 so) c9,k6 _ _ (a5 no) d2,?_,?_,?_⟩ ?_ (a8 c4 a3 so)
 ·refine Dx (by show(List.replicate n []).length=rs.length;rw[uS,lr]) λj x e=>?_
  have hj:=(List.getElem?_eq_some_iff.mp e).1;have hj:j<n:=by have h:j<(List.replicate n ([]:List Int)).length:=hj;rwa[uS]at h
  have ex:x=[]:=List.eq_of_mem_replicate (uO e);have b5:j<rs.length:=by omega
  refine⟨rs[j],uA b5,?_⟩;rw[ex];exact k6 _ _ (a5 (ro _ (vI b5))) (a9 _ (vI b5)).2
 ·show(upd (upd H5 ld (.dK [])) o (.ins C dx (wsF ⟨dx,gl,sl,nl,ld,rs⟩))) ld=some (.dK [])
  rw[upd_ne lo];exact qa
 ·have rn:∀{c:Addr}{u:HO},H3 c=some u->c∉rs:=λe z=>by rw[(a9 _ z).1]at e;cases e
  refine vR.mpr ⟨?_,vR.mpr ⟨?_,vR.mpr ⟨nr,nd⟩⟩⟩
  ·intro z
   rcases vJ.mp z with z|z
   ·exact sg z.symm
   ·rcases vJ.mp z with z|z
    ·exact ng z.symm
    ·exact rn b3 z
  ·intro z
   rcases vJ.mp z with z|z
   ·exact ns z.symm
   ·exact rn b8 z
 ·intro b hb
  rcases vJ.mp hb with z|z
  ·rw[z];exact hgl
  ·rcases vJ.mp z with z|z
   ·rw[z];exact a8 c3 b2 lo
   ·exact a8 c5 (a9 b z).1 (ro b z)
end
inductive Yf(K:FA)(vs:List V)(H:Hp)(Q:VK):Prop
 |mk(v)(n:_)(_:vs=[v])(_:PAt K H n v)(_:isT n=true)(_:Ey n=true)(_:cnt n<=900)(_:∀r ws H',Same H H'->H' r=some (.lst ws)->Ba K H' (pre n) ws->Q (.ref r) H')
def AdE(K:FA):Sp:=λvs H Q _=>Yf K vs H Q
theorem AhB(F:Ax K mg "every_part" ["part"] Hr)(aT:Ai P w K mg base 1 "inner_parts" ["part"] (Nv K)):Ai P w K mg base 2 "every_part" ["part"] (AdE K):=by
 refine F.ok Gv (λvs H Q E h=>?_) (λf cdv A outer s H vs Q E hr h=>?_)
 ·obtain⟨v,n,rfl,_⟩:=h
  rfl
 obtain⟨v,n,rfl,hv,hT,hs,hc,q⟩:=h
 refine⟨_,Ad (Ar (i:=1) Gv.nd rfl (Or.inl rfl) (Av Ab))
  (Ad (Ar (i:=2) Gv.nd rfl (Or.inl rfl) (Av (Aa (pv 0) Ab)))
  (Ad (L7 PassesOwn.never (Ex (pv 2) (λ_=>rfl))
   (Ad (Ar (i:=3) Gv.nd rfl (Or.inl rfl) (Nj PySem.F.plainAttrs_list PySem.F.slot_list_pop PySem.F.type_list_pop Mp (pv 2)))
   (Ad (Be (Fq PySem.F.plainAttrs_list PySem.F.slot_list_append PySem.F.type_list_append Cz (pv 1) (Aa (pv 3) Ab)))
   (Ah (Be (Fq PySem.F.plainAttrs_list PySem.F.slot_list_extend PySem.F.type_list_extend Aao (pv 2) (Aa (Am aT hr rfl Al (Aa (pv 3) Ab)) Ab)))))))
  (Ah (Ao (pv 1))))),?_⟩
 refine⟨zN0,λfo b6=>⟨zN1,λwa a5=>?_⟩⟩
 have a4:wa≠fo:=by
  rintro rfl;rw[qa]at a5;cases a5
 have a8:H wa=none:=by rw[upd_ne a4]at a5;exact a5
 dsimp only[Bq,tSeq]
 refine O5 (λσ H1=>∃fs st us ws b9,σ=[some v,some (.ref fo),some (.ref wa),b9]/\Same H H1/\H1 fo=some (.lst us)/\H1 wa=some (.lst ws)/\Ba K H1 fs us/\Ba K H1 st ws/\fs++D9 st=pre n/\(∀x∈st,isT x=true)/\Bd st=true)
  (λσ H1=>match H1 fo with|some (.lst us)=>1000-us.length|_=>0) ?_ ?_ ?_
 ·refine⟨[],[n],[],[v],none,Z,(Ae b6 _).trans (Ae a5 _),?_,qa,.nil,?_,?_,?_,?_⟩
  ·rw[upd_ne a4.symm,qa]
  ·exact .cons (hv.mono ((Ae b6 _).trans (Ae a5 _)).tp) .nil
  ·show D9 [n]=pre n
   rw[A4,B8,nil_append]
  ·intro x hx
   rw[mS hx];exact hT
  ·exact Ju hs Rv
 ·rintro σ H1 ⟨fs,st,us,ws,b9,rfl,g0,hf,hw,aF,aS,e,b7,c5⟩
  refine⟨_,.inl ⟨ws,SqL.of hw,Z⟩,?_⟩;refine A2 (λc=>?_) (λc=>?_)
  ·
   have b8:st≠[]:=by
    rintro rfl;have:=aS.len;cases ws with
    |nil=>simp at c
    |cons _ _=>simp at this
   obtain⟨a2,x,rfl⟩:∃a2 x,st=a2++[x]:=⟨st.dropLast,st.getLast b8,(List.dropLast_concat_getLast b8).symm⟩;obtain⟨a1,wx,rfl,c6,aX⟩:=aS.split;obtain⟨y,rfl,aY⟩:=aX.one;have hx:=b7 x (by simp)
   obtain⟨ns,rfl⟩:∃ns,x=.t ns:=by
    cases x with
    |t ns=>exact⟨ns,rfl⟩
    |s _=>cases hx
    |i _=>cases hx
   have a9:fs.length+(D9 (a2++[.t ns])).length=cnt n:=by
    have:=congrArg length e;rw[uC]at this;exact this
   have c3:D9 (a2++[.t ns])=.t ns::(D9 ns++D9 a2):=by
    rw[K1,A4,B8,nil_append,Dt];rfl
   have c9:=aF.len;have sl:=Mb c5;have b1:=Ac2 sl.2;have d2:fs.length<1000:=by rw[c3]at a9;simp at a9;omega
   have c8:(a1++[y]).length<=900:=by
    have h1:=aS.len
    have h2:(a2++[Nd.t ns]).length<=(D9 (a2++[.t ns])).length:=by
     have:∀l:List Nd,(∀x∈l,isT x=true)->l.length<=(D9 l).length:=by
      intro l
      induction l with
      |nil=>intro _;exact vY _
      |cons z r ih=>
       intro h;rw[A4,uC,uV];have hz:=h z uF;have:=ih λx hx=>h x (uG _ hx)
       cases z with
       |t zs=>rw[Dt,uV];omega
       |s _=>cases hz
       |i _=>cases hz
     exact this _ b7
    omega
   refine⟨.inl ⟨Z,_,SqL.of hw⟩,wa,_,y,Z,Z,hw,by simp,?_⟩;have b2:=a4.symm;have b3:(upd H1 wa (.lst (a1++[y]).dropLast)) fo=some (.lst us):=by rw[upd_ne b2];exact hf
   have T1:Tp H1 (upd H1 wa (.lst (a1++[y]).dropLast)):=Tp.lst hw;refine⟨.inl ⟨Z,_,SqL.of b3⟩,fo,_,_,Z,Z,b3,G6 (by omega),?_⟩;have T2:=T1.trans (Tp.lst (o:=.lst (us++[y])) b3);have a6:(upd (upd H1 wa (.lst (a1++[y]).dropLast)) fo (.lst (us++[y]))) wa=some (.lst a1):=by rw[upd_ne a4,qa];simp
   have b5:(upd (upd H1 wa (.lst (a1++[y]).dropLast)) fo (.lst (us++[y]))) fo=some (.lst (us++[y])):=qa;refine⟨.inl ⟨Z,_,SqL.of a6⟩,y,ns,Z,aY.mono T2,Uq b1,λr zs a3 hz=>?_⟩;have a7:=ne_of_none a6 a3;have b4:=ne_of_none b5 a3;have T3:=T2.trans (Tp.new (o:=.lst zs) a3);have zl:=hz.len;have il:(inner ns).length<=ns.length:=length_filter_le _ _;refine⟨wa,r,a1,zs,Z,Z,by rw[upd_ne a7];exact a6,qa,?_,?_⟩
   ·have:=Uq b1
    simp at c8;exact Co (by omega)
   have T4:=T3.trans (Tp.lst (o:=.lst (a1++zs)) (a:=wa) (ys:=a1) (by rw[upd_ne a7];exact a6));refine⟨⟨fs++[.t ns],a2++inner ns,us++[y],a1++zs,_,Z,?_,?_,qa,?_,?_,?_,?_,?_⟩,?_⟩
   ·have c4:H r=none:=by
     cases e:H r with
     |none=>rfl
     |some o=>
      have h1:=g0 r o e;rw[upd_ne b4.symm,upd_ne a7.symm]at a3;rw[h1]at a3;cases a3
    exact(((g0.young a8 _).young b6 _).young c4 _).young a8 _
   ·rw[upd_ne b2,upd_ne b4]
    exact b5
   ·exact(aF.mono T4).append (.cons (aY.mono T4) .nil)
   ·have T5:Tp (upd (upd H1 wa (.lst (a1++[y]).dropLast)) fo (.lst (us++[y]))) (upd (upd (upd (upd H1 wa (.lst (a1++[y]).dropLast)) fo (.lst (us++[y]))) r (.lst zs)) wa (.lst (a1++zs))):=
     (Tp.new (o:=.lst zs) a3).trans (Tp.lst (o:=.lst (a1++zs)) (a:=wa) (ys:=a1) (by rw[upd_ne a7];exact a6))
    exact(c6.mono T4).append (hz.mono T5)
   ·rw[K1,Qg,<-e,c3]
    simp
   ·intro x hx
    rcases uW.mp hx with z|z
    ·exact b7 x (vX _ z)
    ·exact AdW x z
   ·exact Nl sl.1 (Ky (Ad0 b1))
   ·show(match (upd (upd (upd (upd H1 wa (.lst (a1++[y]).dropLast)) fo (.lst (us++[y]))) r (.lst zs)) wa (.lst (a1++zs))) fo with|some (.lst us)=>1000-us.length|_=>0)<(match H1 fo with|some (.lst us)=>1000-us.length|_=>0)
    rw[upd_ne b2,upd_ne b4,b5,hf];show 1000-(us++[y]).length<1000-us.length;rw[uC,uD];omega
  ·
   have c7:ws=[]:=by
    cases ws with
    |nil=>rfl
    |cons _ _=>simp at c
   subst c7;have h0:=aS.len;have:st=[]:=length_eq_zero_iff.mp h0;subst this;rw[B8,vH]at e;subst e;exact(q fo us H1 g0 hf aF)
 ·exact λσ H Q Q' h=>Jc λv H ⟨k,t,q⟩=>⟨k,t,h _ _ q⟩
def Dp:Nd->Option Int
 |.t (.s w::.i k::_)=>if w ="rest" \/ w ="again" then some k else none
 |_=>none
def Tm:Nd->Bool
 |.t (.s _::.i _::_)=>true
 |.t (.s w::_)=>decide (¬w ="rest" /\ ¬w ="again")
 |_=>false
def okA(n:Nd):Bool:=(pre n).all Tm
def rests(n:Nd):List Int:=(pre n).filterMap Dp
structure Abf(K:FA)(H:Hp)(n:Nd)(v:V):Prop where
 at':PAt K H n v
 ti:isT n=true
 sl:Ey n=true
 ct:cnt n<=900
 ok:okA n=true
 rl:(rests n).length<64
inductive Rz(K:FA)(vs:List V)(H:Hp)(Q:VK):Prop
 |mk(v)(n:_)(_:vs=[v])(_:Abf K H n v)(_:∀r(ms:List Int)H',Same H H'->H' r=some (.lst (ms.map V.int))->ms.Perm (rests n)->ms.Pairwise (·<=·)->Q (.ref r) H')
def Xt(K:FA):Sp:=λvs H Q _=>Rz K vs H Q
theorem AbP{x:Nd}(h:Tm x=true):∃(w:Str)(ys:List Nd),x=.t (.s w::ys)/\((w ="rest" \/ w ="again")->∃k zs,ys=.i k::zs):=by
 cases x with
 |s _=>cases h
 |i _=>cases h
 |t xs=>
  cases xs with
  |nil=>cases h
  |cons a r=>
   cases a with
   |i _=>cases h
   |t _=>cases h
   |s w=>
    refine⟨w,r,Z,λhw=>?_⟩;cases r with
    |nil=>
     have h:=h;have h:=uK h;rcases hw with z|z
     ·exact absurd z h.1
     ·exact absurd z h.2
    |cons b r'=>
     cases b with
     |i k=>exact⟨k,r',rfl⟩
     |s _=>
      have h:=h;have h:=uK h;rcases hw with z|z
      ·exact absurd z h.1
      ·exact absurd z h.2
     |t _=>
      have h:=h;have h:=uK h;rcases hw with z|z
      ·exact absurd z h.1
      ·exact absurd z h.2
theorem AhY(F:Ax K mg "rests_of" ["part"] Hs)(T:Txt mg)(eB:Ai P w K mg base 2 "every_part" ["part"] (AdE K)):Ai P w K mg base 3 "rests_of" ["part"] (Xt K):=by
 refine F.ok Wn (λvs H Q E h=>?_) (λf cdv A outer s H vs Q E hr h=>?_)
 ·obtain⟨v,n,rfl,_⟩:=h
  rfl
 obtain⟨v,n,rfl,N,q⟩:=h;refine⟨_,(Ah (Ao (Bu Oe rfl T.n_sorted (by trivial) (Aa (Dc (g:=(Bq 0)) (tc:=(tOr (Fo (tOp rEq (tOp (Fc K) (A5 0) (tC (.int 0))) (tC (.str "rest")))) (Fo (tOp rEq (tOp (Fc K) (A5 0) (tC (.int 0))) (tC (.str "again")))))) (te:=(tOp (Fc K) (A5 0) (tC (.int 1)))) ["inner"] [] rfl (Bz (Ak Hs) ["part"] (by trivial)) (B6 (Am eB hr rfl Al (Aa (pv 0) Ab))) (λs2 H2 fp cl C=>Az (i:=0) (show Nodup [("inner": Str)] from by trivial) rfl (Or.inl rfl)) (Bg (by decide)) (λs2 H2 fp cl C=>Dk (PW.pt (Gc (An A1 (Aj Ag (pv 0) Af (λ_ _=>rfl)) Ap (Aq _)) (Fg (An A1 (Aj Ag (pv 0) Af (λ_ _=>rfl)) Ap (Aq _)))))) (λs2 H2 fp cl C=>(Aj Ag (pv 0) Af (λ_ _=>rfl)))) Ab)))),?_⟩;refine⟨v,n,Z,N.at',N.ti,N.sl,N.ct,λr ws H1 g1 a2 aP=>?_⟩;refine⟨r,Z,⟨_,SqL.of a2⟩,?_⟩;have a8:=aP.len;have a9:(pre n).length<=900:=N.ct;refine Cn (K:=K) (xs:=ws) (λi ys H'=>H'=H1/\ys=(((pre n).take i).filterMap Dp).map V.int) ⟨Z,by simp⟩ (Co (by omega)) (λi ys H' ⟨e,_⟩=>by rw[e];exact SqL.of a2) ?_ ?_
 ·rintro i x ys H' Nx hi ⟨rfl,rfl⟩ hN a6
  obtain⟨nd,hn,a5⟩:=aP.at hi;have hok:Tm nd=true:=all_eq_true.mp N.ok nd (uO hn);obtain⟨wd,zs,rfl,hw⟩:=AbP hok;obtain⟨a,vs,rfl,ha,hx⟩:=a5.get;unfold Ba at hx;obtain⟨v1,b1,rfl,aX,aY⟩:=hx;cases aX.str
  have a3:((pre n).take (i+1)).filterMap Dp=((pre n).take i).filterMap Dp++(Dp (.t (.s wd::zs))).toList:=by
   rw[take_add_one,hn,filterMap_append];cases e:Dp (.t (.s wd::zs))<;>simp[e]
  have yes:(wd ="rest" \/ wd ="again")->tOp (Fc K) (A5 0) (tC (.int 1)) ((Lj 1 [] (L2.start ["part"] [v])).set 0 (some (.ref a))) H' λy H4=>Nx ((((pre n).take i).filterMap Dp).map V.int++[y]) H4:=by
   intro a1;obtain⟨k,a7,rfl⟩:=hw a1;unfold Ba at aY;obtain⟨v2,b2,rfl,aZ,_⟩:=aY;cases aZ.int
   refine⟨ha.sq,Ac (j:=1) rfl,hN _ _ ?_ ⟨Z,?_⟩⟩
   ·rw[uC,uD];omega
   ·rw[a3]
    have:Dp (.t (.s wd::.i k::a7))=some k:=if_pos a1;rw[this];simp
  have no:¬(wd ="rest" \/ wd ="again")->Nx ((((pre n).take i).filterMap Dp).map V.int) H':=by
   intro a1;refine hN _ _ (by omega) ⟨Z,?_⟩;rw[a3]
   have:Dp (.t (.s wd::zs))=none:=by
    unfold Dp;split
    ·rename_i e
     cases e
     exact if_neg a1
    ·rfl
   rw[this];simp
  refine⟨ha.sq,Ac (j:=0) rfl,Z,?_⟩;refine A2 (λc=>?_) (λc=>?_)
  ·refine C8 ?_
   exact yes (.inl (V.str.inj (uK c)))
  ·refine⟨ha.sq,Ac (j:=0) rfl,Z,?_⟩
   refine A2 (λc2=>?_) (λc2=>?_)
   ·exact yes (.inr (V.str.inj (uK c2)))
   ·refine no λz=>?_
    rcases z with z|z
    ·exact c (uI (congrArg V.str z))
    ·exact c2 (uI (congrArg V.str z))
 ·rintro ys H' a6 ⟨rfl,rfl⟩ D hD
  have e:((pre n).take ws.length).filterMap Dp=rests n:=by
   rw[uQ (by omega)];rfl
  rw[e];refine⟨D,rests n,Z,SqL.of qa,N.rl,λr2 ms a4 hp hs=>?_⟩;exact q r2 ms _ ((g1.trans (Ae hD _)).trans (Ae a4 _)) qa hp hs
theorem Zd{w:Str}(h:¬(w ="rest" \/ w ="again"))(k:Int)(r:List Nd):Dp (.t (.s w::.i k::r))=none:=by rw[Dp,if_neg h]
theorem Afo{w:Str}(h:w ="rest" \/ w ="again")(k:Int)(r:List Nd):Dp (.t (.s w::.i k::r))=some k:=by rw[Dp,if_pos h]
theorem Aeu{w:Str}(h:¬w ="rest" /\ ¬w ="again")(xs r:List Nd):Tm (.t (.s w::.t xs::r))=true:=uI h
theorem AhT{w:Str}(h:¬w ="rest" /\ ¬w ="again"):Tm (.t [.s w])=true:=uI h
theorem Afj(p:Pt):∃xs,p.nd=.t xs:=by cases p<;>exact⟨_,Z⟩
structure NdF(p:Pt):Prop where
 rs:rests p.nd=rsP p
 ct:cnt p.nd=p.sz
 sl:Ey p.nd=true
 ok:okA p.nd=true
theorem ndF:∀{p:Pt},okN n p->NdF p:=by
 have z:∀(x:Nd),D9 [x]=pre x:=λx=>by rw[A4,B8,nil_append]
 have one:∀(w:Str)(k:Int)(p:Pt),¬(w ="rest" \/ w ="again")->NdF p->rests (.t [.s w,.i k,p.nd])=rsP p/\cnt (.t [.s w,.i k,p.nd])=p.sz+1/\Ey (.t [.s w,.i k,p.nd])=true/\okA (.t [.s w,.i k,p.nd])=true:=λw k p h f=>by
  have e:pre (.t [.s w,.i k,p.nd])=.t [.s w,.i k,p.nd]::pre p.nd:=by rw[Dt,A4,A4,z,Ei,Gf,vH,vH]
  refine⟨?_,?_,Hm (by show 3<=8;decide) ?_,?_⟩
  ·unfold rests;rw[e,filterMap_cons_none (Zd h _ _)];exact f.rs
  ·unfold cnt;rw[e,uV];exact congrArg (· + 1) f.ct
  ·rw[Bd,Bd,Bd,Bd,f.sl];rfl
  ·unfold okA;rw[e,all_cons];exact f.ok
 have two:∀(w:Str)(p q:Pt),(¬w ="rest" /\ ¬w ="again")->NdF p->NdF q->rests (.t [.s w,p.nd,q.nd])=rsP q++rsP p/\cnt (.t [.s w,p.nd,q.nd])=p.sz+q.sz+1/\Ey (.t [.s w,p.nd,q.nd])=true/\okA (.t [.s w,p.nd,q.nd])=true:=λw p q h f g=>by
  have e:pre (.t [.s w,p.nd,q.nd])=.t [.s w,p.nd,q.nd]::(pre q.nd++pre p.nd):=by rw[Dt,A4,A4,z,Ei,vH]
  obtain⟨xs,ex⟩:=Afj p;refine⟨?_,?_,Hm (by show 3<=8;decide) ?_,?_⟩
  ·unfold rests
   rw[e,filterMap_cons_none (by rw[ex];rfl),filterMap_append,<-f.rs,<-g.rs];rfl
  ·unfold cnt;rw[e,uV,uC];have:=f.ct;have:=g.ct;unfold cnt at *;omega
  ·rw[Bd,Bd,Bd,Bd,f.sl,g.sl];rfl
  ·unfold okA
   rw[e,all_cons,List.all_append];have h1:=f.ok;have h2:=g.ok;unfold okA at h1 h2;rw[h1,h2,ex,Aeu h];rfl
 intro p
 induction p with
 |nothing=>exact λ_=>⟨by unfold rests;rw[Pt.nd,Dt,A4,B8,Ei];rfl,by unfold cnt;rw[Pt.nd,Dt,A4,B8,Ei];rfl,by rw[Pt.nd];exact Hm (by show 1<=8;decide) (by rw[Bd,Bd,Ey];rfl),by unfold okA;rw[Pt.nd,Dt,A4,B8,Ei,all_cons,AhT (by trivial)];rfl⟩
 |rest k=>exact λ_=>⟨by unfold rests;rw[Pt.nd,Dt,A4,A4,B8,Ei,Gf,List.filterMap_cons_some (Afo (.inl rfl) _ _)];rfl,by unfold cnt;rw[Pt.nd,Dt,A4,A4,B8,Ei,Gf];rfl,by rw[Pt.nd];exact Hm (by show 2<=8;decide) (by rw[Bd,Bd,Bd,Ey,Ey];rfl),by unfold okA;rw[Pt.nd,Dt,A4,A4,B8,Ei,Gf];rfl⟩
 |send k=>exact λ_=>⟨by unfold rests;rw[Pt.nd,Dt,A4,A4,B8,Ei,Gf,filterMap_cons_none (Zd (by trivial) _ _)];rfl,by unfold cnt;rw[Pt.nd,Dt,A4,A4,B8,Ei,Gf];rfl,by rw[Pt.nd];exact Hm (by show 2<=8;decide) (by rw[Bd,Bd,Bd,Ey,Ey];rfl),by unfold okA;rw[Pt.nd,Dt,A4,A4,B8,Ei,Gf];rfl⟩
 |exit k=>exact λ_=>⟨by unfold rests;rw[Pt.nd,Dt,A4,A4,B8,Ei,Gf,filterMap_cons_none (Zd (by trivial) _ _)];rfl,by unfold cnt;rw[Pt.nd,Dt,A4,A4,B8,Ei,Gf];rfl,by rw[Pt.nd];exact Hm (by show 2<=8;decide) (by rw[Bd,Bd,Bd,Ey,Ey];rfl),by unfold okA;rw[Pt.nd,Dt,A4,A4,B8,Ei,Gf];rfl⟩
 |stay ks=>exact λok=>absurd ok id
 |iff i p q a1 a2=>
  intro ok;have f:=a1 ok.2.1;have g:=a2 ok.2.2;have e:pre (.t [.s "if",.i i,p.nd,q.nd])=.t [.s "if",.i i,p.nd,q.nd]::(pre q.nd++pre p.nd):=by rw[Dt,A4,A4,A4,z,Ei,Gf,vH,vH]
  refine⟨?_,?_,?_,?_⟩
  ·rw[Pt.nd];unfold rests
   rw[e,filterMap_cons_none (Zd (by trivial) _ _),filterMap_append,rsP,<-f.rs,<-g.rs];rfl
  ·rw[Pt.nd];unfold cnt;rw[e,uV,uC];have:=f.ct;have:=g.ct;unfold cnt at *;rw[Pt.sz];omega
  ·rw[Pt.nd];exact Hm (by show 4<=8;decide) (by rw[Bd,Bd,Bd,Bd,Bd,f.sl,g.sl];rfl)
  ·rw[Pt.nd];unfold okA
   rw[e,all_cons,List.all_append];have h1:=f.ok;have h2:=g.ok;unfold okA at h1 h2;rw[h1,h2];rfl
 |again k p ih=>
  intro ok;have f:=ih ok;have e:pre (.t [.s "again",.i k,p.nd])=.t [.s "again",.i k,p.nd]::pre p.nd:=by rw[Dt,A4,A4,z,Ei,Gf,vH,vH]
  refine⟨?_,?_,?_,?_⟩
  ·rw[Pt.nd];unfold rests
   rw[e,List.filterMap_cons_some (Afo (.inr rfl) _ _),rsP,<-f.rs];rfl
  ·rw[Pt.nd];unfold cnt;rw[e,uV];exact congrArg (· + 1) f.ct
  ·rw[Pt.nd];exact Hm (by show 3<=8;decide) (by rw[Bd,Bd,Bd,Bd,f.sl];rfl)
  ·rw[Pt.nd];unfold okA;rw[e,all_cons];exact f.ok
 |hold i p ih=>exact λok=>by obtain⟨h1,h2,h3,h4⟩:=one "hold" i p (by trivial) (ih ok.2);exact⟨h1,h2,h3,h4⟩
 |watch i p ih=>exact λok=>by obtain⟨h1,h2,h3,h4⟩:=one "watch" i p (by trivial) (ih ok.2);exact⟨h1,h2,h3,h4⟩
 |trap p ih=>
  intro ok;have f:=ih ok;have e:pre (.t [.s "trap",p.nd])=.t [.s "trap",p.nd]::pre p.nd:=by rw[Dt,A4,z,Ei,vH]
  obtain⟨xs,ex⟩:=Afj p;refine⟨?_,?_,?_,?_⟩
  ·rw[Pt.nd];unfold rests
   rw[e,filterMap_cons_none (by rw[ex];rfl),rsP,<-f.rs];rfl
  ·rw[Pt.nd];unfold cnt;rw[e,uV];exact congrArg (· + 1) f.ct
  ·rw[Pt.nd];exact Hm (by show 2<=8;decide) (by rw[Bd,Bd,Bd,f.sl];rfl)
  ·rw[Pt.nd];unfold okA
   have h1:=f.ok;unfold okA at h1;rw[e,all_cons,h1,ex,Aeu (by trivial)];rfl
 |thn p q a1 a2=>exact λok=>by obtain⟨h1,h2,h3,h4⟩:=two "then" p q (by trivial) (a1 ok.1) (a2 ok.2);exact⟨h1,h2,h3,h4⟩
 |bes p q a1 a2=>exact λok=>by obtain⟨h1,h2,h3,h4⟩:=two "beside" p q (by trivial) (a1 ok.1) (a2 ok.2);exact⟨h1,h2,h3,h4⟩
theorem Ad8(h:PAt K H p.nd v)(ok:okN n p)(hz:p.sz<=900)(hr:(rsP p).length<64):Abf K H p.nd v:=
 ⟨h,Je p,(ndF ok).sl,by rw[(ndF ok).ct];exact hz,(ndF ok).ok,by rw[(ndF ok).rs];exact hr⟩
structure AhG(n m:Nat)(s:Ws)(nx:List Int)(l d:Nat):Prop where
 g:∀g∈s.gs,FmG n m s.gs.length g/\g.2.length<=1000
 nr:RL s nx
 ln:nx.length=l
 hi:s.gs.length<=d
 lo:n<=s.gs.length
structure AgH(C:Addr)(H0 H:Hp)(v:V)(n:Nat)(s:Ws)(nx:List Int):Prop where
 h:∃o L t te ln,v=.ref t/\(H0 L.gl=none/\H0 L.sl=none/\H0 ln=none)/\H t=some (.tup [.ref L.gl,.ref L.sl,.ref te,.ref ln])/\Bi C H o L n s/\H ln=some (.lst (nx.map V.int))
def AcQ(n:Nat)(p:Pt)(s:Ws):Prop:=∀ρ:Vn,(∀(i:Nat)g,s.gs[i]?=some g->n<=i->ρ.k i=ρ.g g)->∀j,j<n->∃g,s.gs[j]?=some g/\ρ.g g=or3 (some (decide ((j:Int)∈ρ.co))) ((sem ρ p (some (ρ.st.isNone || rsB ρ p))).2 j)
def SgI(s2 s':Ws)(i:Nat):Prop:=∀j,j<i->∃g,s'.gs[j]?=some g/\∀ρ,Sat s' ρ->ρ.g g=or3 (some (decide ((j:Int)∈ρ.co))) (s2.sv ρ j)
theorem SgI.kp{E:Eff}(h:SgI s2 s i)(V:Nw C o L n m S H s H' s' d E)(f:∀j:Nat,j<i->(j:Int)∉E.A):SgI s2 s' i:=λj hj=>by
 obtain⟨g,e,hg⟩:=h j hj;exact⟨g,V.ct j g e (f j hj),λρ z=>hg ρ (V.sat ρ z).1⟩
def AhC(r:Wr)(ρ:Vn):Prop:=ρ.v r.runs=or3 (some ρ.st.isNone) (ρ.v r.rests)
def eS(r:Wr)(i:Nat):Eff:=eC (r.runs::(r.runs+1)::(r.runs+2)::(List.range i).map λ(j:Nat)=>(j:Int)) (AhC r)
def SgO(n:Nat)(s:Ws):Prop:=∀j:Nat,j<n->(j:Int)∈s.op
theorem SgO.kp{E:Eff}(h:SgO n s)(V:Nw C o L n' m S H s H' s' d E)(e:∀g∈E.A,(n:Int)<=g):SgO n s':=λj hj=>V.op _ (h j hj) λz=>by have:=e _ z;omega
theorem AgN{H0:Hp}(U:Nw C o L n m S H0 (ws0 n) H2 s2 d (eP p r.runs r.rests r.codes))(V:Nw C o L n m S H2 s2 H s d' (eS r n))(h:SgI s2 s n)(ho:SgO n s):AcQ n p s:=λρ a1 j hj=>by
 have z:Sat s ρ:=λi g e y=>a1 i g e (Nat.le_of_not_lt λw=>y (ho i w))
 obtain⟨g,e,hg⟩:=h j hj;obtain⟨z2,fr,_⟩:=V.sat ρ z;obtain⟨_,⟨f1,_⟩,f3⟩:=U.sat ρ z2;have er:ρ.v r.runs=some (ρ.st.isNone || rsB ρ p):=(show ρ.v r.runs=or3 _ (ρ.v r.rests) from fr).trans (by rw[f1];cases ρ.st.isNone<;>cases rsB ρ p<;>rfl)
 have e0:(ws0 n).sv ρ j=some false:=by
  unfold Ws.sv ws0;rw[getD_eq_getElem?_getD,getElem?_replicate,if_pos hj];rfl
 refine⟨g,e,(hg ρ z).trans (congrArg _ ((f3 j).trans ?_))⟩;rw[e0,<-er];rfl
inductive Yh(K:FA)(C:Addr)(b:Nat)(vs:List V)(H:Hp)(Q:VK):Prop
 |mk(a:Addr)(x0 x1 v:V)(n m:Nat)(p:Pt)(_:vs=[.ref a])(_:H a=some (.tup [x0,x1,.int n,v]))(_:PAt K H p.nd v)(_:p.hg<=b)(_:okN n p)(_:n<=100)(_:p.sz<=600)(_:(rsP p).length<64)(_:(∀k∈rsP p,0<=k/\k<m))(_:∀v' s nx H',Same H H'->AgH C H H' v' n s nx->AhG n m s nx (rsP p).length (50*p.sz+2*n+3)->AcQ n p s->Q v' H')
def AdG(K:FA)(C:Addr)(b:Nat):Sp:=λvs H Q _=>Yh K C b vs H Q
section
variable{CP:Addr}
seal PSs PS PE PA PT
theorem AhK{m:Nat}{fW:Addr}{b8:FuncData}(F:Ax K mg "net_of" ["program"] Kh)(T:Cj K mg C CP)(e4:Mk K C fW)(GW:Ca P w K mg base CX0 3 fW b8 ["self","signs"] (Xo C))(bW:Dh K b8 ["self","signs"] [])(aL:Bb P w K mg base 1 C "gate" ["self","word","numbers"] (Jj C))(aG:Bb P w K mg base 1 C "fill" ["self","number","word","numbers"] (Jb C))(aO:Ai P w K mg base 3 "code_gate" ["wiring","whole","code"] (Va C CP))(gX:Ai P w K mg base 3 "rests_of" ["part"] (Xt K))(bR:Ai P w K mg base (m+6) "wire_part" ["wiring","part"] (K3 K C CP m)):Ai P w K mg base (m+7) "net_of" ["program"] (AdG K C m):=by
 refine F.ok F1 (λvs H Q E h=>?_) (λfn cdv A outer s0 H vs Q E hr h=>?_)
 ·obtain⟨a,x0,x1,v,n,m,p,rfl,_⟩:=h;rfl
 obtain⟨pa,x0,x1,v,n,m,p,rfl,a9,hp,hh,ok,hn,hz,c3,hk,q⟩:=h;obtain⟨uE,hE,rE⟩:=T.gE;obtain⟨uR,hR,rR⟩:=T.gR;have hu:=vB (add_le_add_left (show 1<=64 by decide) _) hr.units
 refine⟨_,(Ad (Ar (i:=1) F1.nd rfl (Or.inr rfl) (Xa e4 GW (hr.mono (by omega)) rfl T.m_Wiring bW .nil Al (Aa (Aj Ag (pv 0) Af (λ_ _=>rfl)) Ab)))
  (Ad (Ar (i:=2) F1.nd rfl (Or.inl rfl) (Am bR hr rfl Al (Aa (pv 1) (Aa (Aj Ag (pv 0) Af (λ_ _=>rfl)) Ab))))
  (Ad (Be (Au aG hr Al (pv 1) (Aa (Aw (pv 2) rfl) (Aa Ap (Aa (Av (Aa (Au aL hr Al (pv 1) (Aa Ap (Aa (Av Ab) Ab))) (Aa (Aw (pv 2) rfl) Ab))) Ab)))))
  (Ad (Be (Au aG hr Al (pv 1) (Aa (Aw (pv 2) rfl) (Aa Ap (Aa (Av Ab) Ab)))))
  (Ad (Be (Au aG hr Al (pv 1) (Aa (Aw (pv 2) rfl) (Aa Ap (Aa (Av Ab) Ab)))))
  (Ad (Fa PassesOwn.never rfl (W9 rfl T.n_enumerate (Aa (Aw (pv 1) rfl) Ab)) (Ff rfl (Bn (Az (i:=3) F1.nd rfl (Or.inl rfl)) (Bn (Az (i:=4) F1.nd rfl (Or.inl rfl)) Em)))
   (Ah (Be (Au aG hr Al (pv 1) (Aa (Aj Bs (Aw (pv 1) rfl) (pv 3) (λ_ _=>rfl)) (Aa Ap (Aa (A3 Cf (Av (Aa (Au aL hr Al (pv 1) (Aa Ap (Aa (Av (Aa (pv 3) Ab)) Ab))) Ab)) (pv 4)) Ab)))))))
  (Ad (Ar (i:=5) F1.nd rfl (Or.inl rfl) (Ay (Aa (Am aO hr rfl Al (Aa (pv 1) (Aa (pv 2) (Aa (Bl rfl hE rE) Ab)))) (Aa (Am aO hr rfl Al (Aa (pv 1) (Aa (pv 2) (Aa (Bl rfl hR rR) Ab)))) Ab))))
  (Ad (Cs (j:=6) (g:=(Bq 0)) (tc:=Dy) (te:=(S8 (AfF K (A5 1) "leavers") (A5 0))) ["rest"] [("wiring",1)] F1.nd rfl (Or.inl rfl) rfl (Bz (Ak Kh) ["program","wiring","body","sign","senders","ends","nexts"] (by trivial)) (B6 (Am gX hr rfl Al (Aa (Aj Ag (pv 0) Af (λ_ _=>rfl)) Ab))) (λs2 H2 fp cl C=>Az (i:=0) (show Nodup [("rest": Str),("wiring": Str)] from by trivial) rfl (Or.inl rfl)) (Bg (by decide)) (λs2 H2 fp cl C=>Ep) (λs2 H2 fp cl C=>(N6 hu (Aw (pv 1) rfl) (pv 0) (λ_ _=>rfl))))
  (Ah (Ao (Ay (Aa (Aw (pv 1) rfl) (Aa (Aw (pv 1) rfl) (Aa (pv 5) (Aa (pv 6) Ab))))))))))))))),?_⟩
 refine⟨SqT.of a9,Ac (j:=2) rfl,?_⟩;refine λo dx na nd ne=>?_
 have sA:Same H (upd (upd H dx (.own o)) o (.ins C dx [])):=λb u e=>by
  rw[upd_ne (ne_of_none e na),upd_ne (ne_of_none e nd)];exact e
 refine⟨o,dx,n,Z,qa,uY hn (by decide),λL H1 k1 W1 fr fs=>⟨Z,?_⟩⟩;have g1:Same H H1:=λb u e=>k1 b u (λz=>by rw[mS z,na]at e;cases e) (sA b u e)
 have sm:∀{H':Hp},KpS L.S H1 H'->Same H H':=λk b u e=>k b u (λz=>by
  have:=fr b z;rw[sA b u e]at this;cases this) (g1 b u e)
 have l0:(ws0 n).gs.length=n:=uS;have c0:Cap (50*p.sz+2*n+3) (ws0 n) (50*p.sz+(n+3)):=⟨by omega,by show 0+_<=_;omega,λr hr=>by rw[List.eq_of_mem_replicate hr];show 0+_<=_;omega⟩;have a7:Hv C o L n m H1 (ws0 n) (50*p.sz+(n+3)):=⟨W1,⟨λg hg=>by rw[List.eq_of_mem_replicate hg];exact⟨.inr (.inr (.inr ⟨.inr (.inl rfl),λx hx=>nomatch hx⟩)),vY _⟩,λr hr=>by rw[List.eq_of_mem_replicate hr];exact .nil,λp hp=>(nomatch hp),λx hx=>(by obtain⟨i,hi,rfl⟩:=vT.mp hx;have:=mem_range.mp hi;unfold Rng Ws.nx;omega)⟩,by omega,uS,⟨by have:=c0.1;omega,by have:=c0.2.1;omega,λr hr=>by have:=c0.2.2 r hr;omega⟩⟩;refine⟨SqT.of (g1 _ _ a9),Ac (j:=3) rfl,o,v,p,L,n,m,ws0 n,Z,a7.nw (S:=L.S) |>.hv a7 (by omega),hp.mono g1.tp,hh,ok,hk,λb H2 s2 rb U2 nb D2 w2 b1 b9 e6=>?_⟩;have b9:(n:Int)<=rb.runs:=by have:=b9;unfold Ws.nx at this;omega
 have e0:=SgO.kp (λj hj=>vT.mpr ⟨j,mem_range.mpr hj,Z⟩) U2 λg z=>(by cases z)
 have c2:=U2.c _ _ c0;have a1:=U2.hv a7 (uZ _);obtain⟨bx,bd,bo,a3,g8⟩:=id D2;have bS:=(U2.w.objOff a3).2;have c7:=U2.w.ho;refine⟨c7,Z,a3,T.clP,T.nR,Z,c7,Z,zN0,λl3 h3=>?_⟩;have V3:=(a1.nw (S:=L.S)).new h3 (.lst []);have c5:Hv C o L n m _ s2 1:=V3.hv a1 (by omega);refine⟨o,l3,"start",[],L,n,m,_,Z,c5,qa,λH3 d4 W3=>?_⟩;obtain⟨V4,j3⟩:=c5.add d4 W3 (.inl ⟨rfl,rfl⟩) (vY _);generalize s2.nx=i3 at V4 j3;generalize s2.add "start" []=s3 at V4 j3;have V3:=V3.trans V4;refine⟨V3.k _ _ bS a3,T.clP,T.nE,Z,zN2,λl4 h4=>?_⟩;have V4:=V3.new h4 (.lst [V.int i3,.int rb.rests]);refine⟨o,l4,rb.runs,"some",[i3,rb.rests],L,n,m,_,Z,V4.hv a1 (by omega),qa,V4.op _ b1.1 (λz=>nomatch z),.inr rfl,.two j3 (w2.2.1.up V4.lo),(by show 2<=1000;decide),λH5 s5 V5 _=>?_⟩;have V5:=V4.trans V5;have e3:=V5.w.ho;refine⟨e3,Z,V5.k _ _ bS a3,T.clP,T.nK,Z,zN0,λl6 h6=>?_⟩;have V6:=V5.new h6 (.lst []);refine⟨o,l6,(rb.runs+1),"all",[],L,n,m,_,Z,V6.hv a1 (by omega),qa,V6.op _ b1.2.1 (λz=>by have:=mS z;omega),.inl rfl,.nil,vY _,λH7 s7 V7 _=>?_⟩;have V7:=V6.trans V7;have e8:=V7.w.ho;refine⟨e8,Z,V7.k _ _ bS a3,T.clP,T.nT,Z,zN0,λl8 h8=>?_⟩;have V8:=V7.new h8 (.lst []);refine⟨o,l8,(rb.runs+2),"some",[],L,n,m,_,Z,V8.hv a1 (by omega),qa,V8.op _ b1.2.2 (λz=>by have z:rb.runs+2∈[rb.runs,rb.runs+1]:=z;simp at z;omega),.inr rfl,.nil,vY _,λH9 s9 V9 _=>?_⟩;have V9:=(V8.trans V9).wk (E':=eS rb 0) (uZ _) a1.f.op (λg z=>.inl (by exact z)) λρ ⟨⟨⟨⟨_,f3⟩,f5⟩,_⟩,_⟩=>⟨f5.trans ((L6 ρ _).trans (by show or3 (ρ.v i3) (or3 _ (some false))=_;rw[Bj,show ρ.v i3=some ρ.st.isNone from f3])),λ_=>rfl⟩
 have e5:=e0.kp V9 λg z=>by have z:g∈[rb.runs,rb.runs+1,rb.runs+2]:=z;simp at z;omega
 obtain⟨f8,e9,i8,g7,j9,d3,d7,i7,h7⟩:=id V9.w;have d6:L.rs.length=n:=by rw[<-PySem.Paired.length d7,V9.sl,a1.sl]
 refine⟨e9,T.cl,T.nN,Z,L.nl,Z,⟨_,SqL.of d3⟩,AcZ (K:=K) (l:=L.nl) (xs:=L.rs.map V.ref) (λi σ H'=>∃x3 x4 s',σ=[some (.ref pa),some (.ref o),some (.ref b),x3,x4,none,none]/\Nw C o L n m L.S H2 s2 H' s' (1+i) (eS rb i)/\SgI s2 s' i/\SgO n s') ⟨none,none,s9,Z,V9,(λj hj=>absurd hj (not_lt_zero j)),e5⟩ ?_ ?_ ?_⟩
 ·rintro i σ H' _ ⟨_,_,_,_,U,_⟩
  obtain⟨_,_,_,_,_,f4,_⟩:=U.w;exact SqL.of f4
 ·rintro i x t σ HA hi ⟨x3,x4,a6,rfl,VA,gA,oA⟩ ht
  have a2:i<L.rs.length:=by have:=(List.getElem?_eq_some_iff.mp hi).1;rwa[uB]at this
  rw[uH,uA a2]at hi;cases hi
  have VB:=VA.new ht (.tup [V.int (i:Int),V.ref L.rs[i]]);obtain⟨f9,a8,j7,f7,c9,j2,i9,j8,i6⟩:=id VB.w;refine⟨t,_,Z,SqT.of qa,Z,_,_,Z,_,_,Z,Z,a8,Z,a8,T.cl,T.nS,Z,SqL.of c9,Ac (v:=V.int (i:Int)) (by rw[uH,getElem?_range (by omega)];rfl),a8,Z,zN1,λl1 h1=>?_⟩;have VC:=VB.new h1 (.lst [V.int (i:Int)]);have c4:Hv C o L n m _ a6 1:=VC.hv a1 (by omega);refine⟨o,l1,"given",[(i:Int)],L,n,m,_,Z,c4,qa,λHC kC WC=>⟨zN1,λl2 h2=>?_⟩⟩;obtain⟨b2,jC⟩:=c4.add kC WC (.inr (.inr (.inl ⟨rfl,(i:Int),rfl,by omega,by omega⟩))) (by show 1<=1000;decide);generalize a6.nx=iC at *;generalize a6.add "given" [(i:Int)]=sC at *;have b6:i<n:=by omega
  have oC:=oA.kp b2 λg z=>by cases z
  have VD:=(VC.trans b2).new h2 (.lst [V.int iC]);obtain⟨g0,k4,j5,g6,h9,j6,f6,j4,k3⟩:=id VD.w;have a5:i<sC.sn.length:=by rw[VD.sl,a1.sl];omega
  obtain⟨rr,f1,f2⟩:=Bp f6 (uA a5);rw[uA a2]at f1;cases f1
  have c8:(sC.sn[i]).length+1<=1000:=by
   have:=(VD.c _ 0 (c2.le (by omega))).2.2 _ (vI a5);omega
  refine⟨l2,L.rs[i],_,_,Z,Z,qa,f2,by rw[uB,uD];exact uY (by omega:_<=2000) (by decide),λl5 h5=>?_⟩;have VE:=VD.new h5 (.lst ([V.int iC]++(sC.sn[i]).map V.int));refine⟨o,l5,(i:Int),"some",iC::sC.sn[i],L,n,m,_,Z,VE.hv a1 (by omega),qa,oC i b6,.inr rfl,.cons jC (VD.f.sn _ (vI a5)),c8,λHE sE VF eE=>?_⟩;have VG:=VF.reop eE (oC i b6) VE.f.op;refine⟨_,_,_,Z,(VE.trans VG).wk (uZ _) a1.f.op (λg z=>.inl (by have z:g∈((eS rb i).A++[])++[(i:Int)]:=z;rw[vH]at z;show g∈_::_::_::(List.range (i+1)).map _;rw[range_succ,uN];exact z)) (λρ f=>⟨f.1.1,λ_=>rfl⟩),λj hj=>?_,oC⟩;rcases lt_or_ge j i with z|z
  ·exact((gA.kp b2 λ_ _ z=>(by cases z)).kp VG λj hj z=>by have:=mS z;omega) j z
  ·have:j=i:=by omega
   subst this;refine⟨("some",iC::sC.sn[j]),?_,λρ z=>?_⟩
   ·show sE.gs[j]?=_
    rw[eE];show(sC.gs.set (j:Int).toNat _)[j]?=_;rw[Int.toNat_natCast,vP (by have:=VE.lo;have:=a1.nl;omega)]
   ·have zC:=(VG.sat ρ z).1
    obtain⟨_,⟨_,fC⟩,sv⟩:=VE.sat ρ zC;refine(L6 ρ _).trans ?_;show or3 (ρ.v iC) (orL ((sC.sn[j]).map ρ.v))=_;rw[show ρ.v iC=some (decide ((j:Int)∈ρ.co)) from fC,show orL ((sC.sn[j]).map ρ.v)=sC.sv ρ j by unfold Ws.sv;rw[getD_eq_getElem?_getD,uA a5];rfl,sv j];exact congrArg _ (Bj _)
 ·rintro σ HA ⟨x3,x4,a6,rfl,VA,gA,oA⟩
  rw[uB,d6]at VA gA;have DA:=D2.kp U2.w VA.k;have b7:=w2.up VA.lo;refine⟨o,b,0,_,L,n,m,_,Z,VA.hv a1 (by omega),DA,b7.2.2.1,λHB sB i0 VB j0=>?_⟩;have b5:=VA.trans VB;refine⟨o,b,1,_,L,n,m,_,Z,b5.hv a1 (by omega),DA.kp VA.w VB.k,b7.2.2.1.up VB.lo,λHC sC i1 VC j1=>⟨zN2,λte d2=>?_⟩⟩;have VE:=(b5.trans VC).new d2 (.tup [V.int i0,.int i1]);have a4:=sm (U2.k.trans VE.k);generalize upd HC te (.tup [V.int i0,.int i1])=HE at *;refine⟨SqT.of (a4 _ _ a9),Ac (j:=3) rfl,v,p.nd,Z,Ad8 (hp.mono a4.tp) ok (uY hz (by decide)) c3,λr ms HF gF eF pm rise=>?_⟩;rw[(ndF ok).rs]at pm;have VF:=VE.same gF;obtain⟨g4,d9,i5,g5,i4,k5,k2,d5,g9⟩:=id VF.w;have e7:ms.length<64:=by rw[pm.length_eq];exact c3
  refine⟨r,Z,⟨_,SqL.of eF⟩,Cn (K:=K) (xs:=ms.map V.int) (λi ys H'=>H'=HF/\∃nx:List Int,ys=nx.map V.int/\RL sC nx/\nx.length=i) ⟨Z,[],Z,.nil,Z⟩ (by rw[uB];exact uY (le_of_lt e7) (by decide)) (λi ys H' hh=>by rw[hh.1];exact SqL.of eF) ?_ ?_⟩
  ·rintro i x ys H' N hi ⟨rfl,nx,rfl,rl,ln⟩ hN f0
   have a2:i<ms.length:=by have:=(List.getElem?_eq_some_iff.mp hi).1;rwa[uB]at this
   rw[uH,uA a2]at hi;cases hi
   obtain⟨g,hg⟩:=Lp (VF.lv _ (e6 ms[i] (pm.mem_iff.mp (vI a2))));obtain⟨pq,d8,eg⟩:=Ni hg;have dg:M9 H' L.ld (.int ms[i]) ((sC.lv.lookup ms[i]).map V.int):=.inl ⟨_,Sum.inl ms[i],.inl d5,Z,(Oq _ _).symm⟩;rw[hg]at dg;exact⟨d9,T.cl,T.nL,Z,L.ld,.int g,Z,dg,hN _ _ (by rw[uC,uD];omega) ⟨Z,nx++[g],by rw[uN];rfl,rl.snoc (eg▸VF.f.lv pq d8),by rw[uC,ln];rfl⟩⟩
  rintro ys H' f0 ⟨rfl,nx,rfl,rl,ln⟩ b3 c6;rw[uB]at ln;have gL:=Ae c6 (.lst (nx.map V.int));have WG:=VF.w.same gL;have b4:=WG.ho;refine⟨b4,T.cl,T.nG,Z,b4,T.cl,T.nS,Z,zN4,λt ht=>?_⟩;have gT:=Ae ht (.tup [V.ref L.gl,.ref L.sl,.ref te,.ref b3]);exact q _ sC nx _ (((a4.trans gF).trans gL).trans gT) ⟨o,L,t,te,b3,Z,⟨sA.free (fr _ uF),sA.free fs,(a4.trans gF).free c6⟩,qa,WG.same gT,gT _ _ qa⟩ ⟨VF.f.g,rl,by rw[ln,pm.length_eq],(VF.c _ 0 (c2.le (by omega))).1,uY a1.nl VF.lo⟩ (AgN U2 (VF.wk (uZ _) a1.f.op (λg z=>.inl (by exact AbG z)) λρ f=>⟨f.1.1,λ_=>rfl⟩) ((gA.kp VB λ_ _ z=>(by cases z)).kp VC λ_ _ z=>(by cases z)) ((oA.kp VB λ_ z=>(by cases z)).kp VC λ_ z=>(by cases z)))
end
end Dsk
namespace L2
open PySem PySem.Spec PyProof.Rows
section
variable{s:Shared}
end
section
variable{s:Shared}
end
section
variable{R:Result->Shared->Prop}{it S:Addr}{fp wr:List Addr}{P:Nat->Value->Prop}{St:Nat->Heap->Prop}{kw:List (Str×Value)}
theorem Qw(W:Walks prog w A.in1 it fp wr n P St)(bt:Nat->Nat->Bool)(cm:CmpOf prog w A.in1 .Gt P bt)(nS:S∉fp):∀(k j:Nat)(s:Shared)(vb:Value)(c:Nat),n-(j+1)=k->j+1<=n->St (j+1) s.heap->P (argBest bt j) vb ->
  s.heap.get? S=some {cls:=.type "list",dict:=none,data:=.seq #[vb,vb] c,slots:=#[]} ->
  (∀v h' tk,P (argBest bt (n-1)) v->(∀b o,b∉S::wr->s.heap.get? b=some o->h'.get? b=some o)->R (.ok (.ret v)) {s with heap:=h',toks:=tk})->codeAny (model prog w) A (.builtin "max.loop" ⟨[.ref it,.none,.ref S],kw⟩) R s
 |0,j,s,vb,c,hk,hj,st,hp,hS,hR=>by
  have nw:S∉wr:=λz=>nS (W.sub _ z)
  have ej:j+1=n:=by omega
  refine codeAny_builtin F.entry_max_loop ?_;rw[Around.under_plainId F.plain_max_loop _];show wpAny _ A.in1 (seqItems? (.ref S)>>=_) _ _ _;refine rY (wpAny_seqItems hS rfl ?_);show wpAny _ A.in1 (tryCatch (pyNext (.ref it)) _>>=_) _ _ _;refine rY (wpAny_tryCatch (W.done s _ _ (ej▸st) λh' tk m=>?_));have a1:=m S _ nw hS;show wpAny _ A.in1 (updateSeq S (λ_=>#[])>>=_) _ _ _;refine rY (wpAny_updateSeq a1 rfl (rY (wpAny_letGo (rZ ?_))));exact hR vb _ tk (by rw[<-ej];exact hp) λb o hb e=>(Heap.get?_update_other _ _ (λz:S=b=>hb (z▸uF))).trans (m b o (λz=>hb (uG _ z)) e)
 |k+1,j,s,vb,c,hk,hj,st,hp,hS,hR=>by
  have nw:S∉wr:=λz=>nS (W.sub _ z)
  have lt:j+1<n:=by omega
  refine codeAny_builtin F.entry_max_loop ?_;rw[Around.under_plainId F.plain_max_loop _];show wpAny _ A.in1 (seqItems? (.ref S)>>=_) _ _ _;refine rY (wpAny_seqItems hS rfl ?_);show wpAny _ A.in1 (tryCatch (pyNext (.ref it)) _>>=_) _ _ _;refine rY (wpAny_tryCatch (W.item (j+1) s _ _ lt st λv h' tk pv a5 m=>?_));have a1:=m S _ nw hS;show wpAny _ A.in1 (tryCatch (holding [v,v] (richCompare .Gt v vb>>=_)) _>>=_) _ _ _;refine rY (wpAny_tryCatch (vW (rY (cm (j+1) (argBest bt j) v vb _ _ _ pv hp (rY (vW (wpAny_truthy_bool (rY (wpAny_letGo (rZ ?_))))))))));have nm:(toString "max" ++ toString ".loop": String) ="max.loop":=by decide
  cases hb:bt (j+1) (argBest bt j) with
  |true=>
   simp only[if_true];refine rY (wpAny_updateSeq a1 rfl (rY (wpAny_letGo ?_)));rw[nm];refine rZ ⟨plainId_quiet F.plain_max_loop _,Qw W bt cm nS k (j+1) _ v _ (by omega) lt (W.frame _ _ _ a5 λb a6 o e=>?_) (by simp only[argBest,hb,if_true];exact pv) (Heap.get?_update_self _ a1 rfl) λv' a2 a3 p' a4=>?_⟩
   ·exact(Heap.get?_update_other _ _ (λz:S=b=>nS (z▸a6))).trans e
   ·exact hR v' a2 a3 p' λb o hb e=>a4 b o hb ((Heap.get?_update_other _ _ (λz:S=b=>hb (z▸uF))).trans (m b o (λz=>hb (uG _ z)) e))
  |false=>
   simp only[Bool.false_eq_true,if_false];refine rY (wpAny_letGo ?_);rw[nm];refine rZ ⟨plainId_quiet F.plain_max_loop _,Qw W bt cm nS k (j+1) _ vb c (by omega) lt a5 (by simp only[argBest,hb,Bool.false_eq_true,if_false];exact hp) a1 λv' a2 a3 p' a4=>?_⟩;exact hR v' a2 a3 p' λb o hb e=>a4 b o hb (m b o (λz=>hb (uG _ z)) e)
theorem AcF(W:Walks prog w A.in1 it fp wr n P St)(bt:Nat->Nat->Bool)(cm:CmpOf prog w A.in1 .Gt P bt)(nS:S∉fp)(st:St 0 s.heap)
  (hS:s.heap.get? S=some {cls:=.type "list",dict:=none,data:=.seq #[] c,slots:=#[]})
  (hR:∀v h' tk,(n=0/\v=d\/0<n/\P (argBest bt (n-1)) v)->(∀b o,b∉S::wr->s.heap.get? b=some o->h'.get? b=some o)->R (.ok (.ret v)) {s with heap:=h',toks:=tk}):codeAny (model prog w) A (.builtin "max.loop" ⟨[.ref it,.none,.ref S],[(x,d)]⟩) R s:=by
 have nw:S∉wr:=λz=>nS (W.sub _ z)
 have nm:(toString "max" ++ toString ".loop": String) ="max.loop":=by decide
 refine codeAny_builtin F.entry_max_loop ?_;rw[Around.under_plainId F.plain_max_loop _];show wpAny _ A.in1 (seqItems? (.ref S)>>=_) _ _ _;refine rY (wpAny_seqItems hS rfl ?_);show wpAny _ A.in1 (tryCatch (pyNext (.ref it)) _>>=_) _ _ _
 by_cases n0:n=0
 ·refine rY (wpAny_tryCatch (W.done s _ _ (n0▸st) λh' tk m=>?_))
  refine rY (wpAny_rule (rZ ?_));exact hR d h' tk (.inl ⟨n0,Z⟩) λb o hb e=>m b o (λz=>hb (uG _ z)) e
 ·have lt:=Nat.pos_of_ne_zero n0
  refine rY (wpAny_tryCatch (W.item 0 s _ _ lt st λv h' tk pv a3 m=>?_));have a1:=m S _ nw hS;show wpAny _ A.in1 (updateSeq S (λ_=>#[v,v])>>=_) _ _ _;refine rY (wpAny_updateSeq a1 rfl ?_);rw[nm];refine rZ ⟨plainId_quiet F.plain_max_loop _,Qw W bt cm nS _ 0 _ v _ rfl lt (W.frame _ _ _ a3 λb a6 o e=>?_) pv (Heap.get?_update_self _ a1 rfl) λv' a2 a4 p' a5=>?_⟩
  ·exact(Heap.get?_update_other _ _ (λz:S=b=>nS (z▸a6))).trans e
  ·exact hR v' a2 a4 (.inr ⟨lt,p'⟩) λb o hb e=>a5 b o hb ((Heap.get?_update_other _ _ (λz:S=b=>hb (z▸uF))).trans (m b o (λz=>hb (uG _ z)) e))
end
theorem Aax(a d:Value):argsOk "max" ⟨[a],[("default",d)]⟩:=by unfold argsOk;kernel_rfl
section
variable{s:Shared}
theorem AbE{xs:Array (Int×Tok)}{Q:Value->Shared->Prop}(hh:A.handled=none)(hl:s.heap.IsList l (intItems xs))
  (h:∀v h' tk,(xs.size=0/\v=d\/0<xs.size/\∃t,v=.int (numAt xs (argBest (λi j=>decide (numAt xs i>numAt xs j)) (xs.size-1))) t)->(∀b o,s.heap.get? b=some o->h'.get? b=some o)->Q v {s with heap:=h',toks:=tk}) :
  wpAny (model prog w) A (call (.builtin "max") [.ref l] [("default",d)]) Q E s:=by
 have nm:(toString "max" ++ toString ".loop": String) ="max.loop":=by decide
 have sz:(intItems xs).size=xs.size:=by simp[intItems]
 refine wpAny_call (codeAny_call_builtin F.plain_max F.entry_max ?_);have hk:=F.kind_max;have ha:=Aax (.ref l) d;simp only[checkBuiltinCall,hk]
 have go:wpAny (model prog w) A.in1 (Builtin.«max» ⟨[.ref l],[("default",d)]⟩) (λa2 s'=>match a2 with
   |.done f=>(match (Except.ok f:Result) with|.ok (.ret v)=>Q v s'|.ok _=>False|.error e=>E e s')
   |.again c'=>c'.quiet=true/\codeAny (model prog w) A c' (λr s'=>match r with|.ok (.ret v)=>Q v s'|.ok _=>False|.error e=>E e s') s') E s:=by
  show wpAny _ A.in1 (Builtin.Builtins.bindParams "max" ["key","default"] 0 ⟨[],[("default",d)]⟩>>=_) _ _ s
  refine rY (wpAny_of_eq (show Builtin.Builtins.bindParams "max" ["key","default"] 0 ⟨[],[("default",d)]⟩=pure [none,some d] from rfl) ?_);refine rY (rZ (rY (wpAny_pyIter_list hl ?_)));refine rY (wpAny_newObj_type ?_);rw[nm];have b1:l<s.heap.objs.size:=by obtain⟨_,e,_⟩:=hl;exact Heap.lt_size e
  have hz:(s.heap.push {cls:=.type "list_iterator",data:=.fields #[.ref l,.int 0 0]}).objs.size=s.heap.objs.size+1:=Heap.size_push ..;have W:=Walks.list (prog:=prog) (w:=w) (A:=A.in1) hh s.heap.objs.size l (vC b1) (intItems xs);refine rZ ⟨plainId_quiet F.plain_max_loop _,AcF W _ (CmpOf.ints_gt (numAt xs) (λ_ _=>intItems_at)) (λz=>?_) ⟨⟨_,Heap.get?_push_of_some _ (Heap.get?_push_size _ rfl),Z,Z⟩,(hl.push _).push _⟩ (Heap.get?_push_size _ rfl) λv h' tk pv m=>?_⟩
  ·simp only[vJ,vG,or_false]at z
   rcases z with z|z
   ·exact Nat.succ_ne_self _ (hz.symm.trans z)
   ·exact ne_of_gt (lt_succ_of_lt b1) (hz.symm.trans z)
  ·refine h v h' tk ?_ λb o e=>m b o (λz=>?_) (Heap.get?_push_of_some _ (Heap.get?_push_of_some _ e))
   ·rw[sz]at pv
    rcases pv with pv|⟨q,pv⟩
    ·exact .inl pv
    ·exact .inr ⟨q,intItems_at pv⟩
   ·have:=Heap.lt_size e
    simp only[vJ,vG,or_false]at z;rcases z with z|z
    ·rw[z,hz]at this;exact lt_irrefl _ (Nat.lt_of_succ_lt this)
    ·rw[z]at this;exact lt_irrefl _ this
 cases hsig:Manifest.signature? "max" with
 |none=>exact rZ go
 |some a1=>
  simp only[argsOk,hsig]at ha;have h2:=ha;show wpAny _ A.in1 (Bind.checkArgs "max" a1 ⟨[.ref l],[("default",d)]⟩) _ _ s;rw[h2];exact rZ go
end
def Z5(d:Int):List Int->Int
 |[]=>d
 |x::r=>r.foldl max x
theorem AeM(ne:¬ns=[])(m:M∈ns)(h:∀a∈ns,a<=M):Z5 d ns=M:=by
 cases ns with
 |nil=>exact absurd rfl ne
 |cons x r=>
  show r.foldl max x=M
  have z:∀(r:List Int)(x:Int),(x<=M)->(∀a∈r,a<=M)->(x=M\/M∈r)->r.foldl max x=M:=by
   intro r
   induction r with
   |nil=>intro x _ _ hx;exact hx.resolve_right (by simp)
   |cons y r ih=>
    intro x hx hr hm;rw[List.foldl_cons];have hy:=hr y uF;refine ih (max x y) (by omega) (λa ha=>hr a (uG _ ha)) ?_;rcases hm with rfl|hm
    ·exact .inl (by omega)
    ·rcases vJ.mp hm with rfl|hm
     ·exact .inl (by omega)
     ·exact .inr hm
  exact z r x (h x uF) (λa ha=>h a (uG _ ha)) (by rcases vJ.mp m with rfl|m;exact .inl rfl;exact .inr m)
section
variable{p kp:Pos}{e1 e2:Expr}{t tk:TA}
def AgP(K:FA)(t tk:TA):TE:=λσ H Q=>t σ H λvs H1=>tk σ H1 λzs H2=>∃a ns d,vs=[.ref a]/\zs=[.int d]/\SqL K H2 a ((ns:List Int).map V.int)/\Q (.int (Z5 d ns)) H2
theorem AdY(hc:X.calm=true)(hg:Gl X "max")(hm:X.mg "max"= none)(ha:PA X [e1] t)(a6:PK X [⟨some "default",e2,kp⟩] tk)(hs:starEach [e1] X.env=(false,eval e1 X.env)::starEach [] X.env:=by rfl)
  (a3:((backTo pos (starEach [e1] X.env)).any (·.1) || (backToKw pos (keywordEach [⟨some "default",e2,kp⟩] X.env)).any (·.1.isNone))=false:=by rfl) :
  PE X (.Call (.Name "max" p) [e1] [⟨some "default",e2,kp⟩] pos) (AgP X.K t tk):=by
 intro pins s σ H Q I h;refine wpAny_Call_Name_kw (Hl (u:=.builtin "max") I hg hm (by trivial) ?_ (by decide) (by decide));refine PySem.W.callWith_of (P:=λ_=>True) a3 (λh _=>⟨.machine,.inr (.inl rfl),Looks.of_pure rfl⟩) (PyProof.Rows.evalArgs_kw2 (by rfl) (thn (ha pos pins s σ H _ I h) λus s1 ⟨vs,H1,I1,r1,q1⟩=>?_) hs);refine thn (a6 pos pins s1 σ H1 _ I1 q1) λws s2 ⟨zs,H2,I2,rz,q2⟩=>⟨trivial,?_⟩
 obtain⟨a,ns,d,rfl,rfl,hS,q⟩:=q2;obtain⟨u,rfl,ru⟩:=r1.one;obtain⟨u2,rfl,t,rfl⟩:=rz.one;cases ru
 show wpAny _ _ (call (.builtin "max") [.ref a] [("default",.int d t)]) _ _ _
 obtain⟨a4,rv,pl,hz⟩:=I2.list hS;have hi:=Lr rv;obtain⟨ys,hx⟩:=hi.allInts.items;have a5:=hx▸pl.isList;refine AbE (I2.ok.hd hc) a5 λv h' tk hv k=>?_
 have e1:ns=ys.toList.map (·.1):=by
  rw[<-nums_intItems,<-hx];exact(show numsOf a4.toArray.toList=ns from hi.numsOf).symm
 have I3:Inv X pins σ H2 {s2 with heap:=h',toks:=tk}:=I2.kept k;rcases hv with⟨h0,rfl⟩|⟨h0,t',rfl⟩
 ·have:ns=[]:=by rw[e1];exact length_eq_zero_iff.mp (by simpa using h0)
  subst this;exact⟨.int d,H2,I3,⟨_,Z⟩,q⟩
 ·have a1:∀i,i<ys.size->numAt ys i∈ns/\∃h:i<ns.length,ns[i]=numAt ys i:=λi hi=>by
   have hl:i<ns.length:=by rw[e1];simpa using hi
   have:ns[i]=numAt ys i:=by simp[e1,numAt,hi]
   exact⟨this▸vI hl,hl,this⟩
  obtain⟨b1,b2⟩:=argBest_gt (numAt ys) (ys.size-1);have a2:ns.length=ys.size:=by rw[e1];simp
  have em:Z5 d ns=numAt ys (argBest (λi j=>decide (numAt ys i>numAt ys j)) (ys.size-1)):=by
   refine AeM (λz=>by rw[z]at a2;simp at a2;omega) (a1 _ (by omega)).1 λx hx=>?_
   obtain⟨i,hi,rfl⟩:=List.getElem_of_mem hx;rw[(a1 i (by omega)).2.2];exact b2 i (by omega)
  rw[<-em];exact⟨.int (Z5 d ns),H2,I3,⟨_,Z⟩,q⟩
end
section
variable{N:List Str}{qual:Str}{scope:Scope}{cd:Value}{outer:List Env}{s₀:Shared}{H₀:Hp}{E:XK}
end
section
variable{j:Nat}{p:Pos}{t:TA}
end
section
variable{N:List Str}{qual:Str}{scope:Scope}{cd:Value}{outer:List Env}{s₀:Shared}{H₀:Hp}{E:XK}
end
abbrev Cx.hold(X:Cx)(u:Value):Cx:={X with A:=X.A.mark (some u),calm:=false,xe:=λ_ _=>False}
section
variable{s:Shared}
end
section
variable{s s':Shared}{B:Heap}{ea:Addr}{a0:Value}
end
section
variable{np:Pos}{b0:Stmt}{suite:List Stmt}{hs:List ExceptHandler}{C0:Addr}{t:TS}{r:Addr->TS}
end
open PySem.Builtin.Str
def Its(x:Str):It:=⟨λi _=>i<x.cps.size,λi H v H'=>H'=H/\∃c,x.cps[i]?=some c/\v=.str ⟨#[c]⟩,λi _=>x.cps.size<=i⟩
section
variable{s:Shared}
end
end L2
namespace L2
open PySem PySem.Spec PyProof.Rows
open PySem.Builtin.Str PySem.StrLaws
def Qa(cur:List Nat):List (List Nat):=if cur=[] then [] else [cur]
def wd:List Nat->List Nat->List (List Nat)
 |cur,[]=>Qa cur
 |cur,c::l=>if Unicode.isSpace c=true then Qa cur++wd [] l else wd (cur++[c]) l
def isM(c:Nat):Bool:=c==123 || c==125 || c==59 || c==124
def tok:List Nat->List Nat->List (List Nat)
 |cur,[]=>Qa cur
 |cur,c::l=>if Unicode.isSpace c=true then Qa cur++tok [] l else if isM c=true then Qa cur++[c]::tok [] l else tok (cur++[c]) l
end L2
namespace L2
open PySem PySem.Spec PyProof.Rows
section
variable{N:List Str}{qual:Str}{scope:Scope}{cd:Value}{outer:List Env}{s₀:Shared}{H₀:Hp}{E:XK}
end
section
variable{CX:CXT}{D:Addr}{E:XK}{m:Str}{o:Expr}{t:TA}
end
end L2
namespace Dsk
open PySem L2 My
inductive Rp where
 |nothing
 |rest
 |send (s:Int)
 |exit (d:Int)
 |iff (s:Int) (p q:Rp)
 |again (p:Rp)
 |hold (s:Int) (p:Rp)
 |watch (s:Int) (p:Rp)
 |trap (p:Rp)
 |thn (p q:Rp)
 |bes (p q:Rp)
def Rp.nd:Rp->Nd
 |.nothing=>.t [.s "nothing"]
 |.rest=>.t [.s "rest"]
 |.send s=>.t [.s "send",.i s]
 |.exit d=>.t [.s "exit",.i d]
 |.iff s p q=>.t [.s "if",.i s,p.nd,q.nd]
 |.again p=>.t [.s "again",p.nd]
 |.hold s p=>.t [.s "hold",.i s,p.nd]
 |.watch s p=>.t [.s "watch",.i s,p.nd]
 |.trap p=>.t [.s "trap",p.nd]
 |.thn p q=>.t [.s "then",p.nd,q.nd]
 |.bes p q=>.t [.s "beside",p.nd,q.nd]
def Rp.hg:Rp->Nat
 |.iff _ p q=>max p.hg q.hg+1
 |.thn p q=>max p.hg q.hg+1
 |.bes p q=>max p.hg q.hg+1
 |.again p=>p.hg+1
 |.hold _ p=>p.hg+1
 |.watch _ p=>p.hg+1
 |.trap p=>p.hg+1
 |_=>1
def Rp.wt:Rp->Nat
 |.rest=>1
 |.send _=>1
 |.iff _ p q=>p.wt+q.wt
 |.thn p q=>p.wt+q.wt
 |.bes p q=>p.wt+q.wt
 |.again p=>p.wt+1
 |.hold _ p=>p.wt
 |.watch _ p=>p.wt
 |.trap p=>p.wt
 |_=>0
def Rp.ok(sg:Int):Rp->Prop
 |.send s=>0<=s/\s<sg
 |.exit d=>0<=d/\d<4
 |.iff s p q=>(0<=s/\s<sg)/\p.ok sg/\q.ok sg
 |.thn p q=>p.ok sg/\q.ok sg
 |.bes p q=>p.ok sg/\q.ok sg
 |.again p=>p.ok sg
 |.hold s p=>(0<=s/\s<sg)/\p.ok sg
 |.watch s p=>(0<=s/\s<sg)/\p.ok sg
 |.trap p=>p.ok sg
 |_=>True
theorem Rp.hg_pos(p:Rp):1<=p.hg:=by cases p<;>exact le_add_left 1 _
def num:Rp->Int->Pt×Int
 |.nothing,k=>(.nothing,k)
 |.rest,k=>(.rest k,k+1)
 |.send s,k=>(.send s,k)
 |.exit d,k=>(.exit d,k)
 |.iff s p q,k=>(.iff s (num p k).1 (num q (num p k).2).1,(num q (num p k).2).2)
 |.again p,k=>(.again (num p k).2 (num p k).1,(num p k).2+1)
 |.hold s p,k=>(.hold s (num p k).1,(num p k).2)
 |.watch s p,k=>(.watch s (num p k).1,(num p k).2)
 |.trap p,k=>(.trap (num p k).1,(num p k).2)
 |.thn p q,k=>(.thn (num p k).1 (num q (num p k).2).1,(num q (num p k).2).2)
 |.bes p q,k=>(.bes (num p k).1 (num q (num p k).2).1,(num q (num p k).2).2)
def Rp.sz:Rp->Nat
 |.iff _ p q=>p.sz+q.sz+1
 |.thn p q=>p.sz+q.sz+1
 |.bes p q=>p.sz+q.sz+1
 |.again p=>p.sz+1
 |.hold _ p=>p.sz+1
 |.watch _ p=>p.sz+1
 |.trap p=>p.sz+1
 |_=>1
structure Zs(n:Nat)(r:Rp)(k:Int)(q:Pt×Int):Prop where
 hg:q.1.hg=r.hg
 sz:q.1.sz=r.sz
 wt:(rsP q.1).length<=r.wt
 ok:r.ok n->okN n q.1
 rs:∀x∈rsP q.1,k<=x/\x<q.2
 ln:q.2=k+(rsP q.1).length
theorem Aeb(n:Nat)(r:Rp):∀k,Zs n r k (num r k):=by
 have two:∀{p q:Rp}{k:Int}{a:Pt},Zs n p k (num p k)->Zs n q (num p k).2 (num q (num p k).2)->rsP a=rsP (num q (num p k).2).1++rsP (num p k).1->(∀x∈rsP a,k<=x/\x<(num q (num p k).2).2)/\(num q (num p k).2).2=k+(rsP a).length/\(rsP a).length<=p.wt+q.wt:=λ{p q k a}h1 h2 e=>by
  have l1:=h1.ln;have l2:=h2.ln;rw[e];refine⟨λx hx=>?_,?_,?_⟩
  ·rcases uW.mp hx with z|z
   ·have:=h2.rs x z;omega
   ·have:=h1.rs x z;omega
  ·rw[uC];omega
  ·rw[uC];have:=h1.wt;have:=h2.wt;omega
 induction r with
 |nothing=>intro k;exact⟨rfl,rfl,uZ _,λ_=>trivial,λx hx=>(nomatch hx),(Int.add_zero _).symm⟩
 |rest=>intro k;exact⟨rfl,rfl,uZ _,λ_=>trivial,λx hx=>(by rw[mS hx];show k<=k/\k<k+1;omega),rfl⟩
 |send s=>intro k;exact⟨rfl,rfl,vY _,λh=>h,λx hx=>(nomatch hx),(Int.add_zero _).symm⟩
 |exit d=>intro k;exact⟨rfl,rfl,uZ _,λh=>h,λx hx=>(nomatch hx),(Int.add_zero _).symm⟩
 |iff s p q a2 a1=>
  intro k;have a:=a2 k;have b:=a1 (num p k).2;obtain⟨t1,t2,t3⟩:=two (a:=(num (.iff s p q) k).1) a b rfl;exact⟨by simp only[num,Pt.hg,Rp.hg,a.hg,b.hg],by simp only[num,Pt.sz,Rp.sz,a.sz,b.sz],t3,λh=>⟨h.1,a.ok h.2.1,b.ok h.2.2⟩,t1,t2⟩
 |thn p q a2 a1=>
  intro k;have a:=a2 k;have b:=a1 (num p k).2;obtain⟨t1,t2,t3⟩:=two (a:=(num (.thn p q) k).1) a b rfl;exact⟨by simp only[num,Pt.hg,Rp.hg,a.hg,b.hg],by simp only[num,Pt.sz,Rp.sz,a.sz,b.sz],t3,λh=>⟨a.ok h.1,b.ok h.2⟩,t1,t2⟩
 |bes p q a2 a1=>
  intro k;have a:=a2 k;have b:=a1 (num p k).2;obtain⟨t1,t2,t3⟩:=two (a:=(num (.bes p q) k).1) a b rfl;exact⟨by simp only[num,Pt.hg,Rp.hg,a.hg,b.hg],by simp only[num,Pt.sz,Rp.sz,a.sz,b.sz],t3,λh=>⟨a.ok h.1,b.ok h.2⟩,t1,t2⟩
 |again p ih=>
  intro k;have a:=ih k;have l1:=a.ln;refine⟨by simp only[num,Pt.hg,Rp.hg,a.hg],by simp only[num,Pt.sz,Rp.sz,a.sz],succ_le_succ a.wt,λh=>a.ok h,λx hx=>?_,?_⟩
  ·show k<=x/\x<(num p k).2+1
   rcases vJ.mp hx with z|z
   ·rw[z];omega
   ·have:=a.rs x z;omega
  ·show(num p k).2+1=k+(((num p k).2::rsP (num p k).1).length:Nat)
   rw[uV];omega
 |hold s p ih=>
  intro k;have a:=ih k;exact⟨by simp only[num,Pt.hg,Rp.hg,a.hg],by simp only[num,Pt.sz,Rp.sz,a.sz],a.wt,λh=>⟨h.1,a.ok h.2⟩,a.rs,a.ln⟩
 |watch s p ih=>
  intro k;have a:=ih k;exact⟨by simp only[num,Pt.hg,Rp.hg,a.hg],by simp only[num,Pt.sz,Rp.sz,a.sz],a.wt,λh=>⟨h.1,a.ok h.2⟩,a.rs,a.ln⟩
 |trap p ih=>
  intro k;have a:=ih k;exact⟨by simp only[num,Pt.hg,Rp.hg,a.hg],by simp only[num,Pt.sz,Rp.sz,a.sz],a.wt,λh=>a.ok h,a.rs,a.ln⟩
structure Its(r:Rp)(x:Str)(xs:List Nd):Prop where
 e:r.nd=.t (.s x::xs)
 l:xs.length<=3
 c:∀n∈xs,(∃k,n=.i k)\/∃r':Rp,n=r'.nd/\r'.hg+1<=r.hg
theorem Ae4(r:Rp):∃x xs,Its r x xs:=by
 have i1:∀(k:Int),∀n∈[Nd.i k],(∃k,n=.i k)\/∃r':Rp,n=r'.nd/\r'.hg+1<=r.hg:=λk n hn=>.inl ⟨k,mS hn⟩
 cases r with
 |nothing=>exact⟨_,[],rfl,by decide,λn hn=>by cases hn⟩
 |rest=>exact⟨_,[],rfl,by decide,λn hn=>by cases hn⟩
 |send s=>exact⟨_,[.i s],rfl,by simp,i1 s⟩
 |exit d=>exact⟨_,[.i d],rfl,by simp,i1 d⟩
 |iff s p q=>
  refine⟨_,[.i s,p.nd,q.nd],Z,by simp,λn hn=>?_⟩;simp only[vJ,vG,or_false]at hn;rcases hn with rfl|rfl|rfl
  ·exact .inl ⟨s,Z⟩
  ·exact .inr ⟨p,Z,by simp only[Rp.hg];omega⟩
  ·exact .inr ⟨q,Z,by simp only[Rp.hg];omega⟩
 |thn p q=>
  refine⟨_,[p.nd,q.nd],Z,by simp,λn hn=>?_⟩;simp only[vJ,vG,or_false]at hn;rcases hn with rfl|rfl
  ·exact .inr ⟨p,Z,by simp only[Rp.hg];omega⟩
  ·exact .inr ⟨q,Z,by simp only[Rp.hg];omega⟩
 |bes p q=>
  refine⟨_,[p.nd,q.nd],Z,by simp,λn hn=>?_⟩;simp only[vJ,vG,or_false]at hn;rcases hn with rfl|rfl
  ·exact .inr ⟨p,Z,by simp only[Rp.hg];omega⟩
  ·exact .inr ⟨q,Z,by simp only[Rp.hg];omega⟩
 |again p=>
  refine⟨_,[p.nd],Z,by simp,λn hn=>?_⟩;rw[mS hn];exact .inr ⟨p,Z,by simp only[Rp.hg];omega⟩
 |trap p=>
  refine⟨_,[p.nd],Z,by simp,λn hn=>?_⟩;rw[mS hn];exact .inr ⟨p,Z,by simp only[Rp.hg];omega⟩
 |hold s p=>
  refine⟨_,[.i s,p.nd],Z,by simp,λn hn=>?_⟩;simp only[vJ,vG,or_false]at hn;rcases hn with rfl|rfl
  ·exact .inl ⟨s,Z⟩
  ·exact .inr ⟨p,Z,by simp only[Rp.hg];omega⟩
 |watch s p=>
  refine⟨_,[.i s,p.nd],Z,by simp,λn hn=>?_⟩;simp only[vJ,vG,or_false]at hn;rcases hn with rfl|rfl
  ·exact .inl ⟨s,Z⟩
  ·exact .inr ⟨p,Z,by simp only[Rp.hg];omega⟩
theorem Op{tc:TT}{A B:TS}(z:Bool->Hp->Prop)(ht:∀Q:Bool->Hp->Prop,(∀b H',z b H'->Q b H')->tc σ H Q)(hA:∀H',z true H'->A D σ H')(hB:∀H',z false H'->B D σ H'):tIfS tc A B D σ H:=
 ht _ λb H' h=>by
  cases b with
  |true=>exact C8 (hA H' h)
  |false=>exact Ez (hB H' h)
def Ke(c:Int):Int:=(c%2147483647+11)*48271*69621%2147483629
theorem Pc(c:Int):0<=Ke c:=Int.emod_nonneg _ (by decide)
inductive Si  (vs:List V) (H:Hp) (Q:VK):Prop
 |mk(c:Int)(_:vs=[.int c])(_:Q (.int (Ke c)) H):Si  vs H Q
def Lg:Sp:=λvs H Q _=>Si  vs H Q
inductive AaQ(K:FA)(vs:List V)(H:Hp)(Q:VK):Prop
 |mk(a:Addr)(ns:List Int)(k:Int)(_:vs=[.ref a,.int k])(_:SqL K H a (ns.map V.int))(_:0<=k)(_:∀m:Int,0<=m->Q (.int m) H)
def Aee(K:FA):Sp:=λvs H Q _=>AaQ K vs H Q
inductive Abd(K:FA)(vs:List V)(H:Hp)(Q:VK):Prop
 |mk(seed sg:Int)(_:vs=[.int seed,.int sg])(_:0<sg)(_:∀v r H',Same H H'->PAt K H' (Rp.nd r) v->r.hg<=2->r.wt<=1->r.sz<=3->r.ok sg->Q v H')
def Afp(K:FA):Sp:=λvs H Q _=>Abd K vs H Q
inductive Ui(K:FA)(n:Nat)(vs:List V)(H:Hp)(Q:VK):Prop
 |mk(v:V)(r:Rp)(_:vs=[v])(_:PAt K H (Rp.nd r) v)(_:r.hg<=n)(_:∀(m:Int)H',Same H H'->Q (.int m) H')
def Li(K:FA)(n:Nat):Sp:=λvs H Q _=>Ui K n vs H Q
abbrev PrR(K:FA)(H:Hp)(l:List Rp)(vs:List V):Prop:=PySem.Paired (λp v=>PAt K H (Rp.nd p) v) l vs
theorem Ev(T:Tp H H')(h:PrR K H l vs):PrR K H' l vs:=Paired.mapP h λ_ _ a=>a.mono T
def wH(l:List Rp):Nat:=(l.map Rp.hg).sum
def wR(l:List Rp):Nat:=(l.map Rp.wt).sum
def wS(l:List Rp):Nat:=(l.map Rp.sz).sum
theorem Ie(l:List Rp)(p:Rp):wS (l++[p])=wS l+p.sz:=by simp[wS]
theorem G5(l:List Rp)(p:Rp):wH (l++[p])=wH l+p.hg:=by simp[wH]
theorem Ii(l:List Rp)(p:Rp):wR (l++[p])=wR l+p.wt:=by simp[wR]
theorem Ik{F:Rp->V->Prop}:∀{l:List Rp}{vs:List V},PySem.Paired F l vs->¬l=[]->∃z p ws v,l=z++[p]/\vs=ws++[v]/\PySem.Paired F z ws/\F p v
 |_,_,.nil,h=>absurd rfl h
 |_,_,.cons (a:=a) (b:=b) (l₁:=l1) (l₂:=l2) f t,_=>by
  cases t with
  |nil=>exact⟨[],a,[],b,rfl,rfl,.nil,f⟩
  |cons f' t'=>
   obtain⟨z,p,ws,v,e1,e2,t0,fp⟩:=Ik (.cons f' t') (by simp);exact⟨a::z,p,b::ws,v,by rw[e1];rfl,by rw[e2];rfl,.cons f t0,fp⟩
inductive Xu(K:FA)(vs:List V)(H:Hp)(Q:VK):Prop
 |mk(seed sg:Int)(r:Addr)(l:List Rp)(xs:List V)(_:vs=[.ref r,.int seed,.int sg])(_:0<sg)(_:H r=some (.lst xs))(_:PrR K H l xs)(_:¬l=[])(_:(∀p∈l,p.ok sg))(_:wH l<=60)(_:∀(v:V)(p:Rp)(l':List Rp)(xs':List V)(H':Hp),Kp r H H'->H' r=some (.lst xs')->PrR K H' l' xs'->PAt K H' (Rp.nd p) v->p.ok sg->(∀q∈l',q.ok sg)->wH l'+p.hg<=wH l+1->wR l'+p.wt<=wR l+1->l'.length+1<=l.length->wS l'+p.sz+l'.length<=wS l+l.length+1->Q v H')
def AdJ(K:FA):Sp:=λvs H Q _=>Xu K vs H Q
inductive Vv(K:FA)(vs:List V)(H:Hp)(Q:VK):Prop
 |mk(c:Addr)(cs:List Int)(sg:Int)(_:vs=[.ref c,.int sg])(_:SqL K H c (cs.map V.int))(_:cs.length<=30)(_:0<sg)(_:∀(v:V)(p:Rp)(H':Hp),Same H H'->PAt K H' (Rp.nd p) v->p.ok sg->p.hg<=2*cs.length+3->p.wt<=cs.length+1->p.sz<=4*cs.length+10->Q v H')
def AbY(K:FA):Sp:=λvs H Q _=>Vv K vs H Q
inductive Yz(K:FA)(n:Nat)(vs:List V)(H:Hp)(Q:VK):Prop
 |mk(v:V)(r:Rp)(k:Int)(_:vs=[v,.int k])(_:PAt K H (Rp.nd r) v)(_:r.hg<=n)(_:∀(t:Addr)(v':V)H',Same H H'->H' t=some (.tup [v',.int (num r k).2])->PAt K H' (Pt.nd (num r k).1) v'->Q (.ref t) H')
def Pr(K:FA)(n:Nat):Sp:=λvs H Q _=>Yz K n vs H Q
inductive Up(K:FA)(vs:List V)(H:Hp)(Q:VK):Prop
 |mk(a:Addr)(ns:List Int)(j:Nat)(_:vs=[.ref a,.int j])(_:SqL K H a (ns.map V.int))(_:j<=30)(_:∀(t pr:Addr)(c n:Nat)(x1 v:V)(r:Rp)(H':Hp),Same H H'->H' t=some (.tup [.ref pr,.int (num r 0).2])->H' pr=some (.tup [.int c,x1,.int n,v])->c<=n->1<=n->n<=10->PAt K H' (num r 0).1.nd v->r.ok n->r.hg<=2*j+3->r.wt<=j+1->r.sz<=4*j+10->Q (.ref t) H')
def Abm(K:FA):Sp:=λvs H Q _=>Up K vs H Q
theorem AhI(F:Ax K mg "_law_mixed" ["_law_cell"] Hq):Ai P w K mg base 1 "_law_mixed" ["_law_cell"] Lg:=by
 refine F.ok Sx (λvs H Q E h=>?_) (λf cdv A outer s H vs Q E hr h=>?_)
 ·obtain⟨c,rfl,_⟩:=h;rfl
 obtain⟨c,rfl,q⟩:=h;refine⟨_,(Ah (Ao (A3 Cq (A3 Abe (A3 Abe (A3 Jd (A3 Cq (pv 0) Af) Af) Af) Af) Af))),?_⟩;refine⟨_,_,Z,Z,(by show(0:Int)<2147483647;decide),_,_,Z,Z,_,_,Z,Z,.inr ⟨by decide,by decide⟩,_,_,Z,Z,.inr ⟨by decide,by decide⟩,_,_,Z,Z,(by show(0:Int)<2147483629;decide),?_⟩;exact q
theorem Ahs(F:Ax K mg "_law_at" ["_law_script","_law_k"] Kw)(T:Txt mg)(aK:Ai P w K mg base 1 "_law_mixed" ["_law_cell"] Lg):Ai P w K mg base 2 "_law_at" ["_law_script","_law_k"] (Aee K):=by
 refine F.ok Z8 (λvs H Q E h=>?_) (λf cdv A outer s H vs Q E hr h=>?_)
 ·obtain⟨a,ns,k,rfl,_⟩:=h;rfl
 obtain⟨a,ns,k,rfl,z,h0,q⟩:=h
 refine⟨_,(Ad (A9 (An Pu (pv 1) (Bu Cm rfl T.n_len PySem.boot_len (Aa (pv 0) Ab)) (Aq _))
   (Ah (Ao (Am aK hr rfl Al (Aa (Aj Bs (pv 0) (pv 1) (λ_ _=>rfl)) Ab))))
   A0)
  (Ah (Ao (Am aK hr rfl Al (Aa Af Ab))))),?_⟩
 refine⟨a,_,Z,.inl z,_,_,Z,Z,?_⟩;refine A2 (λc=>?_) (λc=>?_)
 ·have c':=uK c
  rw[uB]at c';have hk:k.toNat<ns.length:=by omega
  have e:atI (ns.map V.int) ((k.toNat:Nat):Int)=some (.int ns[k.toNat]):=Ac (by rw[uH,uA hk]<;>rfl);rw[show((k.toNat:Nat):Int)=k by omega]at e;exact⟨z,e,_,Z,q _ (Pc _)⟩
 ·exact⟨_,Z,q _ (Pc _)⟩
theorem Ahr(F:Ax K mg "_law_leaf" ["_law_seed","_law_signs"] Iu):Ai P w K mg base 1 "_law_leaf" ["_law_seed","_law_signs"] (Afp K):=by
 refine F.ok M3 (λvs H Q E h=>?_) (λf cdv A outer s H vs Q E hr h=>?_)
 ·obtain⟨n,sg,rfl,_⟩:=h;rfl
 obtain⟨n,sg,rfl,a1,q⟩:=h
 refine⟨_,(Ad (Ar (i:=2) M3.nd rfl (Or.inl rfl) (A3 Cq (pv 0) Af))
  (Ad (A9 (An Pu (pv 2) Af (Aq _))
   (Ah (Ao (Ay (Aa Ap Ab))))
   A0)
  (Ad (A9 (An Pu (pv 2) Af (Aq _))
   (Ah (Ao (Ay (Aa Ap (Aa (A3 Cq (A3 De (pv 0) Af) (pv 1)) Ab)))))
   A0)
  (Ad (A9 (An A1 (pv 2) Af (Aq _))
   (Ah (Ao (Ay (Aa Ap (Aa (A3 Cq (A3 De (pv 0) Af) Af) Ab)))))
   A0)
  (Ad (A9 (An A1 (A3 Cq (A3 De (pv 0) Af) Af) Af (Aq _))
   (Ah (Ao (Ay (Aa Ap Ab))))
   A0)
  (Ah (Ao (Ay (Aa Ap (Aa (A3 Cq (A3 De (pv 0) Af) (pv 1)) (Aa (Ay (Aa Ap (Aa (A3 Cq (A3 De (pv 0) Af) (pv 1)) Ab))) (Aa (Ay (Aa Ap Ab)) Ab)))))))))))),?_⟩
 have md:∀z:Int,0<=z%sg/\z%sg<sg:=λz=>⟨Int.emod_nonneg _ (by omega),Int.emod_lt_of_pos _ a1⟩
 refine⟨_,_,Z,Z,(by show(0:Int)<7;decide),_,_,Z,Z,A2 (λc=>?_) λc=>⟨_,_,Z,Z,A2 (λc=>?_) λc=>⟨Z,A2 (λc=>?_) λc=>⟨_,_,Z,Z,⟨by decide,by decide⟩,_,_,Z,Z,(by show(0:Int)<2;decide),Z,A2 (λc=>?_) λc=>?_⟩⟩⟩⟩
 ·exact⟨zN1,λt ht=>q _ .rest _ (Ae ht _) (.t (.inl qa) (.cons .s .nil)) (by simp[Rp.hg]) (by simp[Rp.wt]) (by simp[Rp.sz]) trivial⟩
 ·exact⟨_,_,Z,Z,⟨by decide,by decide⟩,_,_,Z,Z,a1,zN2,λt ht=>q _ (.send (n/7%sg)) _ (Ae ht _) (.t (.inl qa) (.cons .s (.cons .i .nil))) (by simp[Rp.hg]) (by simp[Rp.wt]) (by simp[Rp.sz]) (md _)⟩
 ·exact⟨_,_,Z,Z,⟨by decide,by decide⟩,_,_,Z,Z,(by show(0:Int)<2;decide),zN2,λt ht=>q _ (.exit (n/7%2)) _ (Ae ht _) (.t (.inl qa) (.cons .s (.cons .i .nil))) (by simp[Rp.hg]) (by simp[Rp.wt]) (by simp[Rp.sz]) ⟨Int.emod_nonneg _ (by decide),Int.lt_trans (Int.emod_lt_of_pos _ (by decide)) (by decide)⟩⟩
 ·exact⟨zN1,λt ht=>q _ .nothing _ (Ae ht _) (.t (.inl qa) (.cons .s .nil)) (by simp[Rp.hg]) (by simp[Rp.wt]) (by simp[Rp.sz]) trivial⟩
 ·refine⟨_,_,Z,Z,⟨by decide,by decide⟩,_,_,Z,Z,a1,_,_,Z,Z,⟨by decide,by decide⟩,_,_,Z,Z,a1,zN2,λt1 a2=>⟨zN1,λt2 a3=>⟨zN4,λt ht=>?_⟩⟩⟩
  obtain⟨g,n1,n2,n3⟩:=Aex (a:=.tup [V.str "send",.int (n/1400%sg)]) (b:=.tup [V.str "nothing"]) (c:=.tup [V.str "if",.int (n/7%sg),.ref t1,.ref t2]) a2 a3 ht;exact q _ (.iff (n/7%sg) (.send (n/1400%sg)) .nothing) _ g (.t (.inl n3) (.cons .s (.cons .i (.cons (.t (.inl n1) (.cons .s (.cons .i .nil))) (.cons (.t (.inl n2) (.cons .s .nil)) .nil))))) (by simp[Rp.hg]) (by simp[Rp.wt]) (by simp[Rp.sz]) ⟨md _,md _,trivial⟩
theorem Adz(F:Ax K mg "_law_deep" ["_law_part"] Fl)(T:Txt mg)(bT:Ai P w K mg base k "_law_deep" ["_law_part"] (Li K n)):Ai P w K mg base (k+1) "_law_deep" ["_law_part"] (Li K (n+1)):=by
 refine F.ok M0 (λvs H Q E h=>?_) (λf cdv A outer s H vs Q E hr h=>?_)
 ·obtain⟨v,r,rfl,_⟩:=h;rfl
 obtain⟨v,r,rfl,av,hh,q⟩:=h
 refine⟨_,(Ad (Cs (j:=1) (g:=(Bq 0)) (tc:=(tB (tCB (Za K) (Bx (A5 0) (Bx (tC (.ty "tuple")) Dj))))) (te:=(Ip (Li K n) [] E0 (Bx (A5 0) Dj))) ["_law_one"] [] M0.nd rfl (Or.inl rfl) rfl (Bz (Ak Fl) ["_law_part","_law_inner"] (by trivial)) (Le (pv 0)) (λs2 H2 fp cl C=>Az (i:=0) (show Nodup [("_law_one": Str)] from by trivial) rfl (Or.inl rfl)) (Bg (by decide)) (λs2 H2 fp cl C=>Dk (Mw (Bu Mn rfl T.n_isinstance PyProof.Rows.boot_isinstance (Aa (pv 0) (Aa (Xc rfl T.n_tuple (by trivial) (v:=.ty "tuple") rfl) Ab))))) (λs2 H2 fp cl C=>(Am bT hr rfl Al (Aa (pv 0) Ab))))
  (Ah (Ao (A3 Jd (Di Mr rfl T.n_int (by trivial) (Aa (Ga A1 (Aj Ag (pv 0) Af (λ_ _=>rfl)) Ap (Aq _)) Ab)) (AdY rfl rfl T.n_max (Aa (pv 1) Ab) (Adh Af Ae3)))))),?_⟩
 obtain⟨x,xs,er,l3,hc⟩:=Ae4 r;rw[er]at av;obtain⟨a,vs,rfl,ha,hx⟩:=av.get;have a3:=hx.len;rw[uV]at a3
 have a4:∃r0,vs=.str x::r0:=by
  unfold Ba at hx;obtain⟨v0,r0,e,hs,_⟩:=hx;exact⟨r0,by rw[e,hs.str]⟩
 refine⟨a,Z,⟨_,ha.sq⟩,Vu (K:=K) (a:=a) (xs:=vs) (λi ys H'=>Same H H'/\∃ns:List Int,ys=ns.map V.int) ⟨Same.refl _,[],Z⟩ (Co (by omega)) (λi ys H' h=>(ha.mono h.1.tp).sq) ?_ ?_⟩
 ·rintro i y ys H2 M hi ⟨g2,ns,rfl⟩ a2 a1
  obtain⟨nd,hn,z⟩:=hx.at hi;have z:=z.mono g2.tp;obtain⟨ty,a5,ek⟩:=AbT z;refine⟨_,"tuple",ty,_,Z,a5,ek,?_⟩;refine A2 (λc=>?_) (λc=>?_)
  ·rcases vJ.mp (uO hn) with e|nm
   ·rw[e]at c;cases c
   rcases hc nd nm with⟨k',e⟩|⟨r',e,a6⟩
   ·rw[e]at c;cases c
   subst e;refine⟨y,r',Z,z,by omega,λm H3 g3=>?_⟩;exact a2 _ _ (by rw[uC,uD];exact succ_le_succ a1) ⟨g2.trans g3,ns++[m],by simp⟩
  ·exact a2 _ _ (Nat.le_succ_of_le a1) ⟨g2,ns,Z⟩
 ·rintro ys H2 a1 ⟨g2,ns,rfl⟩ D hD
  have kD:=Ae hD (.lst (ns.map V.int));obtain⟨r0,rfl⟩:=a4;refine⟨(ha.mono (g2.trans kD).tp).sq,Ac (j:=0) rfl,Z,.inr ⟨_,Z,D,ns,0,Z,Z,SqL.of qa,_,_,Z,Z,q _ _ (g2.trans kD)⟩⟩
theorem Acx(F:Ax K mg "_law_deep" ["_law_part"] Fl)(T:Txt mg):∀n:Nat,Ai P w K mg base n "_law_deep" ["_law_part"] (Li K n)
 |0=>F.zero (sp:=Li K 0) λvs H Q E ⟨v,r,_,_,z,_⟩=>absurd z (not_le_of_gt r.hg_pos)
 |n+1=>Adz F T (Acx F T n)
theorem Ags{F:Rp->V->Prop}(h:PySem.Paired F l xs)(c:¬(xs.length:Int)=0):¬l=[]:=by
 rintro rfl;cases h
 exact c rfl
theorem AdN(m:Int):∃z,(z=x\/z=y)/\atI [V.str x,V.str y] (m%2)=some (.str z):=by
 have h1:=Int.emod_nonneg m (show(2:Int)≠0 by decide);have h2:=Int.emod_lt_of_pos m (show(0:Int)<2 by decide);have:m%2=0\/m%2=1:=by omega
 rcases this with e|e
 ·exact⟨x,.inl rfl,by rw[e];exact Ac (j:=0) rfl⟩
 ·exact⟨y,.inr rfl,by rw[e];exact Ac (j:=1) rfl⟩
theorem Aho(F:Ax K mg "_law_grown" ["_law_stack","_law_seed","_law_signs"] Ht)(T:Txt mg)(bT:Ai P w K mg base 60 "_law_deep" ["_law_part"] (Li K 60)):Ai P w K mg base 61 "_law_grown" ["_law_stack","_law_seed","_law_signs"] (AdJ K):=by
 refine F.ok Fh (λvs H Q E h=>?_) (λf cdv A outer s H vs Q E hr h=>?_)
 ·obtain⟨seed,sg,r,l,xs,rfl,_⟩:=h;rfl
 obtain⟨seed,sg,r,l,xs,rfl,b6,hv,b8,b9,b4,c4,q⟩:=h
 refine⟨_,(Ad (Ar (i:=3) Fh.nd rfl (Or.inl rfl) (A3 Cq (pv 1) Af))
  (Ad (Ar (i:=4) Fh.nd rfl (Or.inl rfl) (A3 Cq (A3 De (pv 1) Af) (pv 2)))
  (Ad (Ar (i:=5) Fh.nd rfl (Or.inl rfl) (Nj PySem.F.plainAttrs_list PySem.F.slot_list_pop PySem.F.type_list_pop Mp (pv 0)))
  (Ad (A9 (An A1 (pv 3) Af (Aq _))
   (Ah (Ao (Ay (Aa Ap (Aa (pv 5) Ab)))))
   A0)
  (Ad (A9 (An A1 (pv 3) Af (Aq _))
   (Ah (Ao (Ay (Aa (Aj Bs (Av (Aa Ap (Aa Ap Ab))) (A3 Cq (A3 De (pv 1) Af) Af) (λ_ _=>rfl)) (Aa (pv 4) (Aa (pv 5) Ab))))))
   A0)
  (Ad (A9 (PW.pt (Mm (An A1 (pv 3) Af (Aq _)) (Ny (An Pu (Am bT hr rfl Al (Aa (pv 5) Ab)) Af (Aq _)))))
   (Ah (Ao (Ay (Aa Ap (Aa (pv 5) Ab)))))
   A0)
  (Ad (A9 (PW.pt (Gc (An A1 (Bu Cm rfl T.n_len PySem.boot_len (Aa (pv 0) Ab)) Af (Aq _)) (Fg (An A1 (pv 3) Af (Aq _)))))
   (Ah (Ao (Ay (Aa Ap (Aa (pv 4) (Aa (pv 5) (Aa (Ay (Aa Ap Ab)) Ab)))))))
   A0)
  (Ad (Ar (i:=6) Fh.nd rfl (Or.inl rfl) (Nj PySem.F.plainAttrs_list PySem.F.slot_list_pop PySem.F.type_list_pop Mp (pv 0)))
  (Ad (A9 (An A1 (pv 3) Af (Aq _))
   (Ah (Ao (Ay (Aa Ap (Aa (pv 4) (Aa (pv 6) (Aa (pv 5) Ab)))))))
   A0)
  (Ad (A9 (An A1 (pv 3) Af (Aq _))
   (Ah (Ao (Ay (Aa Ap (Aa (pv 6) (Aa (pv 5) Ab))))))
   A0)
  (Ah (Ao (Ay (Aa Ap (Aa (pv 6) (Aa (pv 5) Ab)))))))))))))))),?_⟩
 obtain⟨l0,p,ws,v,rfl,rfl,c6,ap⟩:=Ik b8 b9;have op:=b4 p (by simp);have hm:0<=seed/16%sg/\seed/16%sg<sg:=⟨Int.emod_nonneg _ (by omega),Int.emod_lt_of_pos _ b6⟩;have a5:∀q∈l0,q.ok sg:=λq hq=>b4 q (vX _ hq)
 have pp:=Rp.hg_pos p;rw[G5]at c4;rw[G5,Ii,Ie]at q;refine⟨_,_,Z,Z,(by show(0:Int)<16;decide),_,_,Z,Z,⟨by decide,by decide⟩,_,_,Z,Z,b6,?_⟩;refine⟨.inl ⟨Z,_,SqL.of hv⟩,r,_,v,Z,Z,hv,by simp,?_⟩;have e0:(ws++[v]).dropLast=ws:=by simp
 have T0:Tp H (upd H r (.lst (ws++[v]).dropLast)):=Tp.lst hv;have k0:Kp r H (upd H r (.lst (ws++[v]).dropLast)):=Kp.upd;have a9:(upd H r (.lst (ws++[v]).dropLast)) r=some (.lst ws):=by rw[qa,e0]
 have b2:=Ev T0 c6;have a2:=ap.mono T0;generalize (upd H r (.lst (ws++[v]).dropLast))=H1 at a9 b2 a2 k0
 have one:∀(H2:Hp)(t:Addr)(o:List V)(p':Rp),Same H1 H2->H2 t=none->PAt K (upd H2 t (.tup o)) (Rp.nd p') (.ref t)->p'.ok sg->p'.hg<=p.hg+1->p'.wt<=p.wt+1->p'.sz<=p.sz+2->Q (.ref t) (upd H2 t (.tup o)):=by
  intro H2 t o p' g2 ht a o' h1 h2 h3;have g:=g2.trans (Ae ht (.tup o));exact q _ p' l0 ws _ (k0.trans (Same.kp g)) (g _ _ a9) (Ev g.tp b2) a o' a5 (by omega) (by omega) (by simp) (by rw[uC,uD];omega)
 refine⟨Z,A2 (λc=>?_) λc=>?_⟩
 ·exact⟨zN2,λt ht=>one H1 t _ (.again p) (Same.refl _) ht (.t (.inl qa) (.cons .s (.cons (a2.mono (Ae ht _).tp) .nil))) op (by simp only[Rp.hg];omega) (by simp only[Rp.wt];omega) (by simp only[Rp.sz];omega)⟩
 refine⟨Z,A2 (λc=>?_) λc=>?_⟩
 ·obtain⟨z,hz,ez⟩:=AdN (x:="hold") (y:="watch") (seed/500)
  refine⟨zN2,λl5 c3=>?_⟩;have k5:=Ae c3 (.lst [V.str "hold",.str "watch"]);refine⟨_,_,Z,Z,⟨by decide,by decide⟩,_,_,Z,Z,(by show(0:Int)<2;decide),SqL.of qa,ez,zN3,λt ht=>?_⟩;have ax:=a2.mono (k5.trans (Ae ht (.tup [V.str z,.int (seed/16%sg),v]))).tp;rcases hz with rfl|rfl
  ·exact one _ t _ (.hold (seed/16%sg) p) k5 ht (.t (.inl qa) (.cons .s (.cons .i (.cons ax .nil)))) ⟨hm,op⟩ (by simp only[Rp.hg];omega) (by simp only[Rp.wt];omega) (by simp only[Rp.sz];omega)
  ·exact one _ t _ (.watch (seed/16%sg) p) k5 ht (.t (.inl qa) (.cons .s (.cons .i (.cons ax .nil)))) ⟨hm,op⟩ (by simp only[Rp.hg];omega) (by simp only[Rp.wt];omega) (by simp only[Rp.sz];omega)
 dsimp only[Bq,tSeq,Ue,tC,tNext];refine Op (λb H'=>Same H1 H') (λQ' k=>?_) ?_ ?_
 ·refine⟨Z,A2 (λc=>?_) λc=>k _ _ (Same.refl _)⟩
  exact⟨v,p,Z,a2,by omega,λm H2 g2=>⟨_,_,Z,Z,k _ _ g2⟩⟩
 ·intro H2 g2
  exact⟨zN2,λt ht=>one H2 t _ (.trap p) g2 ht (.t (.inl qa) (.cons .s (.cons (a2.mono (g2.trans (Ae ht _)).tp) .nil))) op (by simp only[Rp.hg];omega) (by simp only[Rp.wt];omega) (by simp only[Rp.sz];omega)⟩
 intro H2 g2;have a3:=g2 _ _ a9;have a7:=Ev g2.tp b2;have b3:=a2.mono g2.tp;have k1:=k0.trans (Same.kp g2);have d2:=PySem.Paired.length a7;dsimp only[Bq,tSeq,Ue,tC,tNext];refine Op (λb H'=>H'=H2/\(b=false->¬l0=[])) (λQ' k=>?_) ?_ ?_
 ·refine⟨r,_,Z,.inl (SqL.of a3),Z,A2 (λc=>k _ _ ⟨Z,λz=>nomatch z⟩) λc=>?_⟩
  have a4:=Ags a7 (λz=>c (uI (by rw[z])));exact⟨Z,k _ _ ⟨Z,λ_=>a4⟩⟩
 ·rintro H3 ⟨rfl,_⟩
  refine⟨zN1,λt1 c8=>⟨zN4,λt ht=>?_⟩⟩;obtain⟨g,n1,n2⟩:=Jm (a:=.tup [V.str "nothing"]) (b:=.tup [V.str "if",.int (seed/16%sg),v,.ref t1]) c8 ht;exact q _ (.iff (seed/16%sg) p .nothing) l0 ws _ (k1.trans (Same.kp g)) (g _ _ a3) (Ev g.tp a7) (.t (.inl n2) (.cons .s (.cons .i (.cons (b3.mono g.tp) (.cons (.t (.inl n1) (.cons .s .nil)) .nil))))) ⟨hm,op,trivial⟩ a5 (by simp only[Rp.hg];omega) (by simp only[Rp.wt];omega) (by simp) (by simp only[Rp.sz,uC,uD];omega)
 rintro H3 ⟨rfl,a4⟩;obtain⟨l1,p2,a1,v2,rfl,rfl,c5,c7⟩:=Ik a7 (a4 rfl);have b1:=a5 p2 (by simp);have c9:∀q∈l1,q.ok sg:=λq hq=>a5 q (vX _ hq)
 have d3:=Rp.hg_pos p2;rw[G5,Ii,Ie]at q;refine⟨.inl ⟨Z,_,SqL.of a3⟩,r,_,v2,Z,Z,a3,by simp,?_⟩;have T2:Tp H3 (upd H3 r (.lst (a1++[v2]).dropLast)):=Tp.lst a3;have k2:Kp r H3 (upd H3 r (.lst (a1++[v2]).dropLast)):=Kp.upd;have b7:(upd H3 r (.lst (a1++[v2]).dropLast)) r=some (.lst a1):=by rw[qa];simp
 have b5:=Ev T2 c5;have a6:=b3.mono T2;have a8:=c7.mono T2;have k3:=k1.trans k2;generalize (upd H3 r (.lst (a1++[v2]).dropLast))=H4 at b7 b5 a6 a8 k3
 have two:∀(t:Addr)(o:List V)(p':Rp)(ht:H4 t=none),PAt K (upd H4 t (.tup o)) (Rp.nd p') (.ref t)->p'.ok sg->p'.hg<=p.hg+p2.hg->p'.wt<=p.wt+p2.wt->p'.sz<=p.sz+p2.sz+1->Q (.ref t) (upd H4 t (.tup o)):=by
  intro t o p' ht a o' h1 h2 h3;have g:=Ae ht (.tup o);exact q _ p' l1 a1 _ (k3.trans (Same.kp g)) (g _ _ b7) (Ev g.tp b5) a o' c9 (by omega) (by omega) (by simp) (by rw[uC,uC,uD,uD];omega)
 refine⟨Z,A2 (λc=>?_) λc=>⟨Z,A2 (λc=>?_) λc=>?_⟩⟩
 ·exact⟨zN4,λt ht=>two t _ (.iff (seed/16%sg) p2 p) ht (.t (.inl qa) (.cons .s (.cons .i (.cons (a8.mono (Ae ht _).tp) (.cons (a6.mono (Ae ht _).tp) .nil))))) ⟨hm,b1,op⟩ (by simp only[Rp.hg];omega) (by simp only[Rp.wt];omega) (by simp only[Rp.sz];omega)⟩
 ·exact⟨zN3,λt ht=>two t _ (.thn p2 p) ht (.t (.inl qa) (.cons .s (.cons (a8.mono (Ae ht _).tp) (.cons (a6.mono (Ae ht _).tp) .nil)))) ⟨b1,op⟩ (by simp only[Rp.hg];omega) (by simp only[Rp.wt];omega) (by simp only[Rp.sz];omega)⟩
 ·exact⟨zN3,λt ht=>two t _ (.bes p2 p) ht (.t (.inl qa) (.cons .s (.cons (a8.mono (Ae ht _).tp) (.cons (a6.mono (Ae ht _).tp) .nil)))) ⟨b1,op⟩ (by simp only[Rp.hg];omega) (by simp only[Rp.wt];omega) (by simp only[Rp.sz];omega)⟩
theorem Ahe(F:Ax K mg "_law_body" ["_law_cells","_law_signs"] Iz)(T:Txt mg)(aK:Ai P w K mg base 1 "_law_mixed" ["_law_cell"] Lg)(fF:Ai P w K mg base 1 "_law_leaf" ["_law_seed","_law_signs"] (Afp K))(eD:Ai P w K mg base 61 "_law_grown" ["_law_stack","_law_seed","_law_signs"] (AdJ K)):Ai P w K mg base 62 "_law_body" ["_law_cells","_law_signs"] (AbY K):=by
 refine F.ok E5 (λvs H Q E h=>?_) (λf cdv A outer s H vs Q E hr h=>?_)
 ·obtain⟨c,cs,sg,rfl,_⟩:=h;rfl
 obtain⟨c,cs,sg,rfl,hS,hn,b7,q⟩:=h
 refine⟨_,(Ad (Ar (i:=2) E5.nd rfl (Or.inl rfl) (Av (Aa (Ay (Aa Ap Ab)) Ab)))
  (Ad (Fa PassesOwn.never rfl (B6 (pv 0)) (Az (i:=3) E5.nd rfl (Or.inl rfl))
   (Ad (Ar (i:=4) E5.nd rfl (Or.inl rfl) (Am aK hr rfl Al (Aa (pv 3) Ab)))
  (Ah (A9 (PW.pt (Gc (An Pu (A3 Cq (pv 4) Af) Af (Aq _)) (Fg (An A1 (Bu Cm rfl T.n_len PySem.boot_len (Aa (pv 2) Ab)) Af (Aq _)))))
   (Ah (Be (Fq PySem.F.plainAttrs_list PySem.F.slot_list_append PySem.F.type_list_append Cz (pv 2) (Aa (Am fF hr rfl Al (Aa (A3 De (pv 4) Af) (Aa (pv 1) Ab))) Ab))))
   (Ah (Be (Fq PySem.F.plainAttrs_list PySem.F.slot_list_append PySem.F.type_list_append Cz (pv 2) (Aa (Am eD hr rfl Al (Aa (pv 2) (Aa (pv 4) (Aa (pv 1) Ab)))) Ab))))))))
  (Ad (L7 PassesOwn.never (An AdK (Bu Cm rfl T.n_len PySem.boot_len (Aa (pv 2) Ab)) Af (Aq _))
   (Ad (Ar (i:=5) E5.nd rfl (Or.inl rfl) (Nj PySem.F.plainAttrs_list PySem.F.slot_list_pop PySem.F.type_list_pop Mp (pv 2)))
  (Ad (Ar (i:=6) E5.nd rfl (Or.inl rfl) (Nj PySem.F.plainAttrs_list PySem.F.slot_list_pop PySem.F.type_list_pop Mp (pv 2)))
  (Ah (Be (Fq PySem.F.plainAttrs_list PySem.F.slot_list_append PySem.F.type_list_append Cz (pv 2) (Aa (Ay (Aa (Aj Bs (Av (Aa Ap (Aa Ap Ab))) (A3 Cq (Bu Cm rfl T.n_len PySem.boot_len (Aa (pv 2) Ab)) Af) (λ_ _=>rfl)) (Aa (pv 6) (Aa (pv 5) Ab)))) Ab)))))))
  (Ah (Ao (Ay (Aa Ap (Aa (Ay (Aa Ap (Aa (Aj Bs (pv 2) Af (λ_ _=>rfl)) Ab))) Ab)))))))),?_⟩
 refine⟨zN1,λt0 b1=>⟨zN1,λr b3=>?_⟩⟩;obtain⟨g0,n0,nr⟩:=Jm (a:=.tup [V.str "rest"]) (b:=.lst [.ref t0]) b1 b3;have a6:=(Ae b1 _).free b3
 refine⟨c,rfl,⟨_,g0.seq hS⟩,F0 (K:=K) (a:=c) (xs:=cs.map V.int)
  (λi σ H1=>∃(l:List Rp)(xs:List V)(x3 x4:Option V),σ=[some (.ref c),some (.int sg),some (.ref r),x3,x4,none,none]/\Same H H1/\H1 r=some (.lst xs)/\PrR K H1 l xs/\¬l=[]/\(∀p∈l,p.ok sg)/\wH l<=2*i+1/\wR l<=i+1/\l.length<=i+1/\wS l+l.length<=4*i+2)
  ⟨[.rest],[.ref t0],none,none,Z,g0,nr,.cons (.t (.inl n0) (.cons .s .nil)) .nil,by simp,λp hp=>by rw[mS hp];trivial,by simp[wH,Rp.hg],by simp[wR,Rp.wt],by simp,by simp[wS,Rp.sz]⟩ (λi σ H1 _ ⟨_,_,_,_,_,g,_⟩=>g.seq hS) ?_ ?_⟩
 ·rintro i y σ H1 hi ⟨l,xs,x3,x4,rfl,g1,hv,a3,a5,a2,h1,h2,h3,h4⟩
  have c7:=(List.getElem?_eq_some_iff.mp hi).1;rw[uB]at c7
  obtain⟨z,rfl⟩:∃z,y=V.int z:=by
   rw[uH]at hi;cases e:cs[i]? with
   |none=>rw[e]at hi;cases hi
   |some z=>rw[e]at hi;exact⟨z,(Option.some.inj hi).symm⟩
  refine⟨z,Z,?_⟩;have hm:=Pc z;generalize Ke z=m at hm;dsimp only[Bq];have c9:=PySem.Paired.length a3;refine Op (λb H'=>H'=H1) (λQ' k=>?_) ?_ ?_
  ·exact⟨_,_,Z,Z,(by show(0:Int)<16;decide),_,_,Z,Z,A2 (λc=>k _ _ rfl) λc=>⟨r,_,Z,.inl (SqL.of hv),Z,k _ _ rfl⟩⟩
  ·rintro H2 rfl
   refine⟨.inl ⟨Z,_,SqL.of hv⟩,_,_,Z,Z,⟨by decide,by decide⟩,m/16,sg,Z,b7,λv p H3 g3 P3 e1 e2 e4 e3=>?_⟩;have a4:=g3 _ _ hv;refine⟨r,_,_,Z,Z,a4,G6 (by omega),?_⟩;have T3:Tp H3 (upd H3 r (.lst (xs++[v]))):=Tp.lst a4;refine⟨l++[p],xs++[v],_,_,Z,(g1.trans g3).young a6 _,qa,(Ev T3 (Ev g3.tp a3)).snoc (P3.mono T3),by simp,λq hq=>?_,by rw[G5];omega,by rw[Ii];omega,by simp;omega,by rw[Ie,uC,uD];omega⟩;rcases uW.mp hq with z|z
   ·exact a2 q z
   ·rw[mS z];exact e3
  ·rintro H2 rfl
   refine⟨.inl ⟨rfl,_,SqL.of hv⟩,m,sg,r,l,xs,Z,b7,hv,a3,a5,a2,by omega,λv p l' xs' H3 k3 a4 b5 P3 op c3 e1 e2 e3 e4=>?_⟩;have b8:=PySem.Paired.length b5;refine⟨r,_,_,Z,Z,a4,G6 (by omega),?_⟩;have T3:Tp H3 (upd H3 r (.lst (xs'++[v]))):=Tp.lst a4;refine⟨l'++[p],xs'++[v],_,_,Z,(g1.byKp a6 k3).young a6 _,qa,(Ev T3 b5).snoc (P3.mono T3),by simp,λq hq=>?_,by rw[G5];omega,by rw[Ii];omega,by simp;omega,by rw[Ie,uC,uD];omega⟩;rcases uW.mp hq with z|z
   ·exact c3 q z
   ·rw[mS z];exact op
 ·rintro σ H1 ⟨l,xs,x3,x4,rfl,g1,hv,a3,a5,a2,h1,h2,h3,h4⟩
  rw[uB]at h1 h2 h3 h4
  refine O5 (λσ H1=>∃(l:List Rp)(xs:List V)(x5 x6:Option V),σ=[some (.ref c),some (.int sg),some (.ref r),x3,x4,x5,x6]/\Same H H1/\H1 r=some (.lst xs)/\PrR K H1 l xs/\¬l=[]/\(∀p∈l,p.ok sg)/\wH l<=2*cs.length+1/\wR l<=cs.length+1/\l.length<=cs.length+1/\wS l+l.length<=4*cs.length+2)
    (λσ H1=>match H1 r with|some (.lst us)=>us.length|_=>0) ⟨l,xs,none,none,Z,g1,hv,a3,a5,a2,h1,h2,h3,h4⟩ ?_ ?_
  ·rintro σ H1 ⟨l,xs,x5,x6,rfl,g1,hv,a3,a5,a2,h1,h2,h3,h4⟩
   have c9:=PySem.Paired.length a3;refine⟨r,_,Z,.inl (SqL.of hv),_,_,Z,Z,A2 (λc=>?_) λc=>?_⟩
   ·have d2:2<=xs.length:=by have:=uK c;omega
    obtain⟨l0,p,ws,v,rfl,rfl,a8,ap⟩:=Ik a3 a5
    have b9:¬l0=[]:=by
     rintro rfl;cases a8
     simp at d2
    obtain⟨l1,p2,a1,v2,rfl,rfl,b2,b6⟩:=Ik a8 b9;rw[G5,G5]at h1;rw[Ii,Ii]at h2;rw[Ie,Ie,uC,uC,uD,uD]at h4;have d4:l1.length+1+1<=cs.length+1:=by simpa using h3
    have b8:=PySem.Paired.length b2;have pp:=Rp.hg_pos p;have d7:=Rp.hg_pos p2;refine⟨.inl ⟨Z,_,SqL.of hv⟩,r,_,v,Z,Z,hv,by simp,?_⟩;have T0:Tp H1 (upd H1 r (.lst (a1++[v2]++[v]).dropLast)):=Tp.lst hv;have a9:(upd H1 r (.lst (a1++[v2]++[v]).dropLast)) r=some (.lst (a1++[v2])):=by rw[qa];simp
    have gz:Same H (upd H1 r (.lst (a1++[v2]++[v]).dropLast)):=g1.young a6 _;refine⟨.inl ⟨Z,_,SqL.of a9⟩,r,_,v2,Z,Z,a9,by simp,?_⟩;have T1:=T0.trans (Tp.lst (o:=.lst (a1++[v2]).dropLast) a9);have a7:(upd (upd H1 r (.lst (a1++[v2]++[v]).dropLast)) r (.lst (a1++[v2]).dropLast)) r=some (.lst a1):=by rw[qa];simp
    have b4:Same H (upd (upd H1 r (.lst (a1++[v2]++[v]).dropLast)) r (.lst (a1++[v2]).dropLast)):=gz.young a6 _;generalize (upd (upd H1 r (.lst (a1++[v2]++[v]).dropLast)) r (.lst (a1++[v2]).dropLast))=H2 at a7 b4 T1;obtain⟨z,hz,ez⟩:=AdN (x:="then") (y:="beside") (a1.length:Int);refine⟨.inl ⟨rfl,_,SqL.of a7⟩,zN2,λl5 c5=>?_⟩;have k5:=Ae c5 (.lst [V.str "then",.str "beside"]);have c8:=k5 _ _ a7;refine⟨r,_,Z,.inl (SqL.of c8),_,_,Z,Z,(by show(0:Int)<2;decide),SqL.of qa,ez,zN3,λt ht=>?_⟩;have g3:=k5.trans (Ae ht (.tup [V.str z,v2,v]));have a4:=g3 _ _ a7;refine⟨r,_,_,Z,Z,a4,G6 (by omega),?_⟩;have T3:=Tp.lst (o:=.lst (a1++[.ref t])) a4;have T4:=T1.trans (g3.tp.trans T3)
    obtain⟨pz,az,oz,d6,d5,d8⟩:∃pz:Rp,PAt K (upd (upd (upd H2 l5 (.lst [V.str "then",.str "beside"])) t (.tup [V.str z,v2,v])) r (.lst (a1++[.ref t]))) (Rp.nd pz) (.ref t)/\pz.ok sg/\pz.hg<=p2.hg+p.hg/\pz.wt<=p2.wt+p.wt/\pz.sz<=p2.sz+p.sz+1:=by
     rcases hz with rfl|rfl
     ·exact⟨.thn p2 p,.t (.inl (T3 _ _ qa)) (.cons .s (.cons (b6.mono T4) (.cons (ap.mono T4) .nil))),⟨a2 p2 (by simp),a2 p (by simp)⟩,by simp only[Rp.hg];omega,by simp only[Rp.wt];omega,by simp only[Rp.sz];omega⟩
     ·exact⟨.bes p2 p,.t (.inl (T3 _ _ qa)) (.cons .s (.cons (b6.mono T4) (.cons (ap.mono T4) .nil))),⟨a2 p2 (by simp),a2 p (by simp)⟩,by simp only[Rp.hg];omega,by simp only[Rp.wt];omega,by simp only[Rp.sz];omega⟩
    refine⟨⟨l1++[pz],a1++[.ref t],_,_,Z,(b4.trans g3).young a6 _,qa,PySem.Paired.snoc (a:=pz) (Ev T4 b2) az,by simp,λq hq=>?_,?_,?_,by simp;omega,?_⟩,?_⟩
    ·rcases uW.mp hq with z|z
     ·exact a2 q (by simp[z])
     ·rw[mS z];exact oz
    ·rw[G5];omega
    ·rw[Ii];omega
    ·rw[Ie,uC,uD];omega
    ·show(match (upd (upd (upd H2 l5 (.lst [V.str "then",.str "beside"])) t (.tup [V.str z,v2,v])) r (.lst (a1++[.ref t]))) r with|some (.lst us)=>us.length|_=>0)<(match H1 r with|some (.lst us)=>us.length|_=>0)
     rw[qa,hv];simp
   ·have c6:¬1<xs.length:=λz=>c (uI (by omega))
    obtain⟨l0,p,ws,v,rfl,rfl,a8,ap⟩:=Ik a3 a5
    have e0:ws=[]:=by
     cases ws with
     |nil=>rfl
     |cons _ _=>simp at c6
    subst e0;cases a8
    refine⟨SqL.of hv,Ac (j:=0) rfl,zN2,λt1 d3=>⟨zN2,λt2 c4=>?_⟩⟩;obtain⟨g3,n1,n2⟩:=Jm (a:=.tup [V.str "trap",v]) (b:=.tup [V.str "trap",.ref t1]) d3 c4;have eH:wH ([]++[p])=p.hg:=by simp[wH]
    have eR:wR ([]++[p])=p.wt:=by simp[wR]
    rw[eH]at h1;rw[eR]at h2;have eS:wS ([]++[p])=p.sz:=by simp[wS]
    rw[eS]at h4;exact q _ (.trap (.trap p)) _ (g1.trans g3) (.t (.inl n2) (.cons .s (.cons (.t (.inl n1) (.cons .s (.cons (ap.mono g3.tp) .nil))) .nil))) (a2 p (by simp)) (by simp only[Rp.hg];omega) (by simp only[Rp.wt];omega) (by simp only[Rp.sz];omega)
  ·refine λσ H Q Q' h=>Jc λv H=>?_
   rintro⟨p,xs,e2,s,i,j,e3,e4,q⟩;exact⟨p,xs,e2,s,i,j,e3,e4,O9 h q⟩
theorem Ja{rest:List Expr}{env:Env}:starEach (.Name x pos::rest) env=(false,eval (.Name x pos) env)::starEach rest env:=rfl
structure QE(X:Cx)(e:Expr)(t:TE):Prop where
 of:PE X e t
structure QA(X:Cx)(es:List Expr)(t:TA):Prop where
 of:PA X es t
theorem qe{t:TE}(h:PE X e t):QE X e t:=⟨h⟩
theorem Abr:QA X [] Dj:=⟨Ab⟩
theorem J3{t:TA}(h:QE X e te)(hr:QA X es t)(hs:starEach (e::es) X.env=(false,eval e X.env)::starEach es X.env):QA X (e::es) (Bx te t):=⟨Aa h.of hr.of hs⟩
theorem Ae7{t:TA}(h:QA X es t):QE X (.Tuple es x1 pos) (Lu t):=⟨Ay h.of⟩
theorem AeQ{t:TA}(h:QA X es t):PE X (.Tuple es x1 pos) (Lu t):=Ay h.of
theorem Tw{rest:List Expr}{env:Env}:starEach (.Tuple es k pos::rest) env=(false,eval (.Tuple es k pos) env)::starEach rest env:=rfl
theorem Bt{x:Nd}{xs:List Nd}(h:Ba K H (x::xs) vs):∃v r,vs=v::r/\PAt K H x v/\Ba K H xs r:=by unfold Ba at h;exact h
theorem Ec(h:Ba K H [] vs):vs=[]:=by unfold Ba at h;exact h
theorem AeX(F:Ax K mg "_law_numbered" ["_law_part","_law_k"] Eu)(T:Txt mg)(aJ:Ai P w K mg base n "_law_numbered" ["_law_part","_law_k"] (Pr K n)):Ai P w K mg base (n+1) "_law_numbered" ["_law_part","_law_k"] (Pr K (n+1)):=by
 refine F.ok Bm (λvs H Q E h=>?_) (λf cdv A outer s H vs Q E hr h=>?_)
 ·obtain⟨v,r,k,rfl,_⟩:=h;rfl
 obtain⟨v,r,k,rfl,av,hh,q⟩:=h
 refine⟨_,(Ad (Ar (i:=2) Bm.nd rfl (Or.inl rfl) (Aj Ag (pv 0) Af (λ_ _=>rfl)))
  (Ad (A9 (An A1 (pv 2) Ap (Aq _))
   (Ah (Ao (Ay (Aa (Ay (Aa Ap (Aa (pv 1) Ab))) (Aa (A3 Jd (pv 1) Af) Ab)))))
   A0)
  (Ad (A9 (PW.pt (Gc (An A1 (pv 2) Ap (Aq _)) (Gc (An A1 (pv 2) Ap (Aq _)) (Fg (An A1 (pv 2) Ap (Aq _))))))
   (Ah (Ao (Ay (Aa (pv 0) (Aa (pv 1) Ab)))))
   A0)
  (Ad (A9 (An A1 (pv 2) Ap (Aq _))
   (Ad (Fw (Am aJ hr rfl Al (Aa (Aj Ag (pv 0) Af (λ_ _=>rfl)) (Aa (pv 1) Ab))) (Ff rfl (Bn (Az (i:=3) Bm.nd rfl (Or.inl rfl)) (Bn (Az (i:=1) Bm.nd rfl (Or.inl rfl)) Em))))
  (Ah (Ao (Ay (Aa (Ay (Aa Ap (Aa (pv 1) (Aa (pv 3) Ab)))) (Aa (A3 Jd (pv 1) Af) Ab))))))
   A0)
  (Ad (A9 (An A1 (pv 2) Ap (Aq _))
   (Ad (Fw (Am aJ hr rfl Al (Aa (Aj Ag (pv 0) Af (λ_ _=>rfl)) (Aa (pv 1) Ab))) (Ff rfl (Bn (Az (i:=3) Bm.nd rfl (Or.inl rfl)) (Bn (Az (i:=1) Bm.nd rfl (Or.inl rfl)) Em))))
  (Ah (Ao (Ay (Aa (Ay (Aa Ap (Aa (pv 3) Ab))) (Aa (pv 1) Ab))))))
   A0)
  (Ad (A9 (PW.pt (Gc (An A1 (pv 2) Ap (Aq _)) (Fg (An A1 (pv 2) Ap (Aq _)))))
   (Ad (Fw (Am aJ hr rfl Al (Aa (Aj Ag (pv 0) Af (λ_ _=>rfl)) (Aa (pv 1) Ab))) (Ff rfl (Bn (Az (i:=3) Bm.nd rfl (Or.inl rfl)) (Bn (Az (i:=1) Bm.nd rfl (Or.inl rfl)) Em))))
  (Ah (Ao (Ay (Aa (Ay (Aa (pv 2) (Aa (Aj Ag (pv 0) Af (λ_ _=>rfl)) (Aa (pv 3) Ab)))) (Aa (pv 1) Ab))))))
   A0)
  (Ad (Fw (Am aJ hr rfl Al (Aa (Aj Ag (pv 0) (Nt La Af) (λ_ _=>rfl)) (Aa (pv 1) Ab))) (Ff rfl (Bn (Az (i:=3) Bm.nd rfl (Or.inl rfl)) (Bn (Az (i:=1) Bm.nd rfl (Or.inl rfl)) Em))))
  (Ad (Fw (Am aJ hr rfl Al (Aa (Aj Ag (pv 0) (Nt La Af) (λ_ _=>rfl)) (Aa (pv 1) Ab))) (Ff rfl (Bn (Az (i:=4) Bm.nd rfl (Or.inl rfl)) (Bn (Az (i:=1) Bm.nd rfl (Or.inl rfl)) Em))))
  (Ah (Ao (Ay (Aa (A3 Adi (Oo Aek (pv 0) Xs (Nm (Nt La Af))) (Ay (Aa (pv 3) (Aa (pv 4) Ab)))) (Aa (pv 1) Ab))))))))))))),?_⟩
 cases r with
 |nothing=>
  obtain⟨a,vs,rfl,ha,hx⟩:=av.get;obtain⟨v0,r0,rfl,h0,a1⟩:=Bt hx;cases h0.str
  cases Ec a1
  refine⟨ha.sq,Ac (j:=0) rfl,?_⟩;refine⟨Z,A2 (λc=>absurd c (by trivial)) λ_=>⟨Z,A2 (λ_=>C8 ⟨zN2,λt ht=>?_⟩) λc=>absurd (by trivial) c⟩⟩;exact q t _ _ (Ae ht _) qa (.t (ha.mono (Ae ht _).tp) (.cons .s .nil))
 |rest=>
  obtain⟨a,vs,rfl,ha,hx⟩:=av.get;obtain⟨v0,r0,rfl,h0,a1⟩:=Bt hx;cases h0.str
  cases Ec a1
  refine⟨ha.sq,Ac (j:=0) rfl,?_⟩;refine⟨Z,A2 (λ_=>⟨zN2,λt1 b2=>⟨_,_,Z,Z,zN2,λt ht=>?_⟩⟩) λc=>absurd (by trivial) c⟩;obtain⟨g,n1,n2⟩:=Jm (a:=.tup [V.str "rest",.int k]) (b:=.tup [.ref t1,.int (k+1)]) b2 ht;exact q t _ _ g n2 (.t (.inl n1) (.cons .s (.cons .i .nil)))
 |send s=>
  obtain⟨a,vs,rfl,ha,hx⟩:=av.get;obtain⟨v0,r0,rfl,h0,a1⟩:=Bt hx;cases h0.str
  obtain⟨w1,r1,rfl,h1,a2⟩:=Bt a1;cases h1.int
  cases Ec a2
  refine⟨ha.sq,Ac (j:=0) rfl,?_⟩;refine⟨Z,A2 (λc=>absurd c (by trivial)) λ_=>⟨Z,A2 (λc=>absurd c (by trivial)) λ_=>⟨Z,A2 (λ_=>C8 ⟨zN2,λt ht=>?_⟩) λc=>absurd (by trivial) c⟩⟩⟩;exact q t _ _ (Ae ht _) qa (.t (ha.mono (Ae ht _).tp) (.cons .s (.cons .i .nil)))
 |exit d=>
  obtain⟨a,vs,rfl,ha,hx⟩:=av.get;obtain⟨v0,r0,rfl,h0,a1⟩:=Bt hx;cases h0.str
  obtain⟨w1,r1,rfl,h1,a2⟩:=Bt a1;cases h1.int
  cases Ec a2
  refine⟨ha.sq,Ac (j:=0) rfl,?_⟩;refine⟨Z,A2 (λc=>absurd c (by trivial)) λ_=>⟨Z,A2 (λc=>absurd c (by trivial)) λ_=>⟨Z,A2 (λc=>absurd c (by trivial)) λ_=>⟨Z,A2 (λ_=>⟨zN2,λt ht=>?_⟩) λc=>absurd (by trivial) c⟩⟩⟩⟩;exact q t _ _ (Ae ht _) qa (.t (ha.mono (Ae ht _).tp) (.cons .s (.cons .i .nil)))
 |again p=>
  obtain⟨a,vs,rfl,ha,hx⟩:=av.get;obtain⟨v0,r0,rfl,h0,a1⟩:=Bt hx;cases h0.str
  obtain⟨w1,r1,rfl,h1,a2⟩:=Bt a1;cases Ec a2
  refine⟨ha.sq,Ac (j:=0) rfl,?_⟩;refine⟨Z,A2 (λc=>absurd c (by trivial)) λ_=>⟨Z,A2 (λc=>absurd c (by trivial)) λ_=>⟨Z,A2 (λc=>absurd c (by trivial)) λ_=>⟨Z,A2 (λc=>absurd c (by trivial)) λ_=>⟨Z,A2 (λ_=>⟨ha.sq,Ac (j:=1) rfl,_,p,k,Z,h1,(by simp only[Rp.hg]at hh;omega),λt1 u1 H1 g1 e1 P1=>?_⟩) λc=>absurd (by trivial) c⟩⟩⟩⟩⟩;refine⟨t1,_,Z,SqT.of e1,Z,_,_,Z,_,_,Z,Z,?_⟩;refine⟨zN3,λt2 a5=>⟨_,_,Z,Z,zN2,λt ht=>?_⟩⟩;obtain⟨g,n1,n2⟩:=Jm (a:=.tup [V.str "again",.int (num p k).2,u1]) (b:=.tup [.ref t2,.int ((num p k).2+1)]) a5 ht;exact q t _ _ (g1.trans g) n2 (.t (.inl n1) (.cons .s (.cons .i (.cons (P1.mono g.tp) .nil))))
 |trap p=>
  obtain⟨a,vs,rfl,ha,hx⟩:=av.get;obtain⟨v0,r0,rfl,h0,a1⟩:=Bt hx;cases h0.str
  obtain⟨w1,r1,rfl,h1,a2⟩:=Bt a1;cases Ec a2
  refine⟨ha.sq,Ac (j:=0) rfl,?_⟩;refine⟨Z,A2 (λc=>absurd c (by trivial)) λ_=>⟨Z,A2 (λc=>absurd c (by trivial)) λ_=>⟨Z,A2 (λc=>absurd c (by trivial)) λ_=>⟨Z,A2 (λc=>absurd c (by trivial)) λ_=>⟨Z,A2 (λc=>absurd c (by trivial)) λ_=>⟨Z,A2 (λ_=>⟨ha.sq,Ac (j:=1) rfl,_,p,k,Z,h1,(by simp only[Rp.hg]at hh;omega),λt1 u1 H1 g1 e1 P1=>?_⟩) λc=>absurd (by trivial) c⟩⟩⟩⟩⟩⟩;refine⟨t1,_,Z,SqT.of e1,Z,_,_,Z,_,_,Z,Z,?_⟩;refine⟨zN2,λt2 a5=>⟨zN2,λt ht=>?_⟩⟩;obtain⟨g,n1,n2⟩:=Jm (a:=.tup [V.str "trap",u1]) (b:=.tup [.ref t2,.int (num p k).2]) a5 ht;exact q t _ _ (g1.trans g) n2 (.t (.inl n1) (.cons .s (.cons (P1.mono g.tp) .nil)))
 |hold s p=>
  obtain⟨a,vs,rfl,ha,hx⟩:=av.get;obtain⟨v0,r0,rfl,h0,a1⟩:=Bt hx;cases h0.str
  obtain⟨w1,r1,rfl,h1,a2⟩:=Bt a1;cases h1.int
  obtain⟨w2,r2,rfl,h2,a4⟩:=Bt a2;cases Ec a4
  refine⟨ha.sq,Ac (j:=0) rfl,?_⟩;refine⟨Z,A2 (λc=>absurd c (by trivial)) λ_=>⟨Z,A2 (λc=>absurd c (by trivial)) λ_=>⟨Z,A2 (λc=>absurd c (by trivial)) λ_=>⟨Z,A2 (λc=>absurd c (by trivial)) λ_=>⟨Z,A2 (λc=>absurd c (by trivial)) λ_=>⟨Z,A2 (λc=>absurd c (by trivial)) λ_=>⟨Z,A2 (λ_=>C8 ⟨ha.sq,Ac (j:=2) rfl,_,p,k,Z,h2,(by simp only[Rp.hg]at hh;omega),λt1 u1 H1 g1 e1 P1=>?_⟩) λc=>absurd (by trivial) c⟩⟩⟩⟩⟩⟩⟩;have a3:=ha.mono g1.tp;refine⟨t1,_,Z,SqT.of e1,Z,_,_,Z,_,_,Z,Z,?_⟩;refine⟨a3.sq,Ac (j:=1) rfl,zN3,λt2 a5=>⟨zN2,λt ht=>?_⟩⟩;obtain⟨g,n1,n2⟩:=Jm (a:=.tup [V.str "hold",.int s,u1]) (b:=.tup [.ref t2,.int (num p k).2]) a5 ht;exact q t _ _ (g1.trans g) n2 (.t (.inl n1) (.cons .s (.cons .i (.cons (P1.mono g.tp) .nil))))
 |watch s p=>
  obtain⟨a,vs,rfl,ha,hx⟩:=av.get;obtain⟨v0,r0,rfl,h0,a1⟩:=Bt hx;cases h0.str
  obtain⟨w1,r1,rfl,h1,a2⟩:=Bt a1;cases h1.int
  obtain⟨w2,r2,rfl,h2,a4⟩:=Bt a2;cases Ec a4
  refine⟨ha.sq,Ac (j:=0) rfl,?_⟩;refine⟨Z,A2 (λc=>absurd c (by trivial)) λ_=>⟨Z,A2 (λc=>absurd c (by trivial)) λ_=>⟨Z,A2 (λc=>absurd c (by trivial)) λ_=>⟨Z,A2 (λc=>absurd c (by trivial)) λ_=>⟨Z,A2 (λc=>absurd c (by trivial)) λ_=>⟨Z,A2 (λc=>absurd c (by trivial)) λ_=>⟨Z,A2 (λc=>absurd c (by trivial)) λ_=>⟨Z,A2 (λ_=>⟨ha.sq,Ac (j:=2) rfl,_,p,k,Z,h2,(by simp only[Rp.hg]at hh;omega),λt1 u1 H1 g1 e1 P1=>?_⟩) λc=>absurd (by trivial) c⟩⟩⟩⟩⟩⟩⟩⟩;have a3:=ha.mono g1.tp;refine⟨t1,_,Z,SqT.of e1,Z,_,_,Z,_,_,Z,Z,?_⟩;refine⟨a3.sq,Ac (j:=1) rfl,zN3,λt2 a5=>⟨zN2,λt ht=>?_⟩⟩;obtain⟨g,n1,n2⟩:=Jm (a:=.tup [V.str "watch",.int s,u1]) (b:=.tup [.ref t2,.int (num p k).2]) a5 ht;exact q t _ _ (g1.trans g) n2 (.t (.inl n1) (.cons .s (.cons .i (.cons (P1.mono g.tp) .nil))))
 |iff s p p2=>
  obtain⟨a,vs,rfl,ha,hx⟩:=av.get;obtain⟨v0,r0,rfl,h0,a1⟩:=Bt hx;cases h0.str
  obtain⟨w1,r1,rfl,h1,a2⟩:=Bt a1;cases h1.int
  obtain⟨w2,r2,rfl,h2,a4⟩:=Bt a2;obtain⟨w3,r3,rfl,h3,b1⟩:=Bt a4;cases Ec b1
  refine⟨ha.sq,Ac (j:=0) rfl,?_⟩;refine⟨Z,A2 (λc=>absurd c (by trivial)) λ_=>⟨Z,A2 (λc=>absurd c (by trivial)) λ_=>⟨Z,A2 (λc=>absurd c (by trivial)) λ_=>⟨Z,A2 (λc=>absurd c (by trivial)) λ_=>⟨Z,A2 (λc=>absurd c (by trivial)) λ_=>⟨Z,A2 (λc=>absurd c (by trivial)) λ_=>⟨Z,A2 (λc=>absurd c (by trivial)) λ_=>⟨Z,A2 (λc=>absurd c (by trivial)) λ_=>⟨_,Z,ha.sq,Ij (v:=w2) (by show 2<=4;decide) rfl,_,p,k,Z,h2,(by simp only[Rp.hg]at hh;omega),λt1 u1 H1 g1 e1 P1=>?_⟩⟩⟩⟩⟩⟩⟩⟩⟩;have a3:=ha.mono g1.tp;refine⟨t1,_,Z,SqT.of e1,Z,_,_,Z,_,_,Z,Z,?_⟩;refine⟨_,Z,a3.sq,E1 (v:=w3) rfl,_,p2,(num p k).2,Z,h3.mono g1.tp,(by simp only[Rp.hg]at hh;omega),λt2 u2 H2 g2 e2 P2=>?_⟩;have a6:=a3.mono g2.tp;refine⟨t2,_,Z,SqT.of e2,Z,_,_,Z,_,_,Z,Z,?_⟩;refine⟨_,Z,_,Z,a,_,Z,a6.sq,(λz=>absurd (show HT.sIx 4 4 (some (-2))=4 from z.2) (by decide)),λp1 a9=>⟨zN2,λq1 a8=>?_⟩⟩;have k1:=Ae a9 (.tup (G2 [V.str "if",.int s,w2,w3] none (some (-2))));have k2:=Ae a8 (.tup [u1,u2]);refine⟨p1,q1,[V.str "if",.int s],[u1,u2],Z,Z,SqT.of (k2 _ _ qa),SqT.of qa,(λz=>nomatch z),zN4,(λz=>nomatch z),λ_ q2 a7=>⟨zN2,λt ht=>?_⟩⟩;have k3:=Ae a7 (.tup ([V.str "if",.int s]++[u1,u2]));have k4:=Ae ht (.tup [.ref q2,.int (num p2 (num p k).2).2]);have gg:=((k1.trans k2).trans k3).trans k4;exact q t _ _ ((g1.trans g2).trans gg) qa (.t (.inl (k4 _ _ qa)) (.cons .s (.cons .i (.cons ((P1.mono g2.tp).mono gg.tp) (.cons (P2.mono gg.tp) .nil)))))
 |thn p p2=>
  obtain⟨a,vs,rfl,ha,hx⟩:=av.get;obtain⟨v0,r0,rfl,h0,a1⟩:=Bt hx;cases h0.str
  obtain⟨w1,r1,rfl,h1,a2⟩:=Bt a1;obtain⟨w2,r2,rfl,h2,a4⟩:=Bt a2;cases Ec a4
  refine⟨ha.sq,Ac (j:=0) rfl,?_⟩;refine⟨Z,A2 (λc=>absurd c (by trivial)) λ_=>⟨Z,A2 (λc=>absurd c (by trivial)) λ_=>⟨Z,A2 (λc=>absurd c (by trivial)) λ_=>⟨Z,A2 (λc=>absurd c (by trivial)) λ_=>⟨Z,A2 (λc=>absurd c (by trivial)) λ_=>⟨Z,A2 (λc=>absurd c (by trivial)) λ_=>⟨Z,A2 (λc=>absurd c (by trivial)) λ_=>⟨Z,A2 (λc=>absurd c (by trivial)) λ_=>⟨_,Z,ha.sq,Ij (v:=w1) (by show 2<=3;decide) rfl,_,p,k,Z,h1,(by simp only[Rp.hg]at hh;omega),λt1 u1 H1 g1 e1 P1=>?_⟩⟩⟩⟩⟩⟩⟩⟩⟩;have a3:=ha.mono g1.tp;refine⟨t1,_,Z,SqT.of e1,Z,_,_,Z,_,_,Z,Z,?_⟩;refine⟨_,Z,a3.sq,E1 (v:=w2) rfl,_,p2,(num p k).2,Z,h2.mono g1.tp,(by simp only[Rp.hg]at hh;omega),λt2 u2 H2 g2 e2 P2=>?_⟩;have a6:=a3.mono g2.tp;refine⟨t2,_,Z,SqT.of e2,Z,_,_,Z,_,_,Z,Z,?_⟩;refine⟨_,Z,_,Z,a,_,Z,a6.sq,(λz=>absurd (show HT.sIx 3 3 (some (-2))=3 from z.2) (by decide)),λp1 a9=>⟨zN2,λq1 a8=>?_⟩⟩;have k1:=Ae a9 (.tup (G2 [V.str "then",w1,w2] none (some (-2))));have k2:=Ae a8 (.tup [u1,u2]);refine⟨p1,q1,[V.str "then"],[u1,u2],Z,Z,SqT.of (k2 _ _ qa),SqT.of qa,(λz=>nomatch z),zN3,(λz=>nomatch z),λ_ q2 a7=>⟨zN2,λt ht=>?_⟩⟩;have k3:=Ae a7 (.tup ([V.str "then"]++[u1,u2]));have k4:=Ae ht (.tup [.ref q2,.int (num p2 (num p k).2).2]);have gg:=((k1.trans k2).trans k3).trans k4;exact q t _ _ ((g1.trans g2).trans gg) qa (.t (.inl (k4 _ _ qa)) (.cons .s (.cons ((P1.mono g2.tp).mono gg.tp) (.cons (P2.mono gg.tp) .nil))))
 |bes p p2=>
  obtain⟨a,vs,rfl,ha,hx⟩:=av.get;obtain⟨v0,r0,rfl,h0,a1⟩:=Bt hx;cases h0.str
  obtain⟨w1,r1,rfl,h1,a2⟩:=Bt a1;obtain⟨w2,r2,rfl,h2,a4⟩:=Bt a2;cases Ec a4
  refine⟨ha.sq,Ac (j:=0) rfl,?_⟩;refine⟨Z,A2 (λc=>absurd c (by trivial)) λ_=>⟨Z,A2 (λc=>absurd c (by trivial)) λ_=>⟨Z,A2 (λc=>absurd c (by trivial)) λ_=>⟨Z,A2 (λc=>absurd c (by trivial)) λ_=>⟨Z,A2 (λc=>absurd c (by trivial)) λ_=>⟨Z,A2 (λc=>absurd c (by trivial)) λ_=>⟨Z,A2 (λc=>absurd c (by trivial)) λ_=>⟨Z,A2 (λc=>absurd c (by trivial)) λ_=>⟨_,Z,ha.sq,Ij (v:=w1) (by show 2<=3;decide) rfl,_,p,k,Z,h1,(by simp only[Rp.hg]at hh;omega),λt1 u1 H1 g1 e1 P1=>?_⟩⟩⟩⟩⟩⟩⟩⟩⟩;have a3:=ha.mono g1.tp;refine⟨t1,_,Z,SqT.of e1,Z,_,_,Z,_,_,Z,Z,?_⟩;refine⟨_,Z,a3.sq,E1 (v:=w2) rfl,_,p2,(num p k).2,Z,h2.mono g1.tp,(by simp only[Rp.hg]at hh;omega),λt2 u2 H2 g2 e2 P2=>?_⟩;have a6:=a3.mono g2.tp;refine⟨t2,_,Z,SqT.of e2,Z,_,_,Z,_,_,Z,Z,?_⟩;refine⟨_,Z,_,Z,a,_,Z,a6.sq,(λz=>absurd (show HT.sIx 3 3 (some (-2))=3 from z.2) (by decide)),λp1 a9=>⟨zN2,λq1 a8=>?_⟩⟩;have k1:=Ae a9 (.tup (G2 [V.str "beside",w1,w2] none (some (-2))));have k2:=Ae a8 (.tup [u1,u2]);refine⟨p1,q1,[V.str "beside"],[u1,u2],Z,Z,SqT.of (k2 _ _ qa),SqT.of qa,(λz=>nomatch z),zN3,(λz=>nomatch z),λ_ q2 a7=>⟨zN2,λt ht=>?_⟩⟩;have k3:=Ae a7 (.tup ([V.str "beside"]++[u1,u2]));have k4:=Ae ht (.tup [.ref q2,.int (num p2 (num p k).2).2]);have gg:=((k1.trans k2).trans k3).trans k4;exact q t _ _ ((g1.trans g2).trans gg) qa (.t (.inl (k4 _ _ qa)) (.cons .s (.cons ((P1.mono g2.tp).mono gg.tp) (.cons (P2.mono gg.tp) .nil))))
theorem AeU(F:Ax K mg "_law_numbered" ["_law_part","_law_k"] Eu)(T:Txt mg):∀n:Nat,Ai P w K mg base n "_law_numbered" ["_law_part","_law_k"] (Pr K n)
 |0=>F.zero (sp:=Pr K 0) λvs H Q E ⟨v,r,k,_,_,z,_⟩=>absurd z (not_le_of_gt r.hg_pos)
 |n+1=>AeX F T (AeU F T n)
theorem Aay(xs:List V)(j:Nat):(G2 xs (some 1) (some (1+(j:Int))))=(xs.drop 1).take j:=by
 unfold G2;rw[show(some (1:Int))=some ((1:Nat):Int) from rfl,show(some (1+(j:Int)))=some ((1+j:Nat):Int) by simp,HT.Ahk,HT.Ahk];rcases le_total xs.length 1 with h|h
 ·have e:=List.drop_eq_nil_of_le h
  rw[Nat.min_eq_right h,List.drop_eq_nil_of_le (uZ _),e];simp
 ·rw[Nat.min_eq_left h]
  rcases le_total (1+j) xs.length with h2|h2
  ·rw[Nat.min_eq_left h2,Nat.add_sub_cancel_left]
  ·rw[Nat.min_eq_right h2,uQ (by simp),uQ (by simp;omega)]
theorem Ahm(F:Ax K mg "_law_program" ["_law_script","_law_most"] Gk)(T:Txt mg)(iB:Ai P w K mg base 2 "_law_at" ["_law_script","_law_k"] (Aee K))(fG:Ai P w K mg base 62 "_law_body" ["_law_cells","_law_signs"] (AbY K))(aJ:Ai P w K mg base 63 "_law_numbered" ["_law_part","_law_k"] (Pr K 63)):Ai P w K mg base 64 "_law_program" ["_law_script","_law_most"] (Abm K):=by
 refine F.ok Cv (λvs H Q E h=>?_) (λf cdv A outer s H vs Q E hr h=>?_)
 ·obtain⟨a,ns,j,rfl,_⟩:=h;rfl
 obtain⟨a,ns,j,rfl,hS,hj,q⟩:=h
 refine⟨_,(Ad (Ar (i:=2) Cv.nd rfl (Or.inl rfl) (Am iB hr rfl Al (Aa (pv 0) (Aa Af Ab))))
  (Ad (Ar (i:=3) Cv.nd rfl (Or.inl rfl) (A3 Cq (pv 2) Af))
  (Ad (Ar (i:=4) Cv.nd rfl (Or.inl rfl) (A3 Cq (A3 De (pv 2) Af) Af))
  (Ad (Ar (i:=5) Cv.nd rfl (Or.inl rfl) (Bu (Mo rfl) rfl T.n_max (by trivial) (Aa Af (Aa (A3 Jd (A3 Jd (pv 3) (pv 4)) (A3 Cq (A3 De (pv 2) Af) Af)) Ab))))
  (Ad (Fw (Am aJ hr rfl Al (Aa (Am fG hr rfl Al (Aa (Oo Xp (pv 0) (Nm Af) (Nm (A3 Jd Af (pv 1)))) (Aa (pv 5) Ab))) (Aa Af Ab))) (Ff rfl (Bn (Az (i:=6) Cv.nd rfl (Or.inl rfl)) (Bn (Az (i:=7) Cv.nd rfl (Or.inl rfl)) Em))))
  (Ah (Ao (AeQ (J3 (Ae7 (J3 (qe (pv 3)) (J3 (qe (pv 4)) (J3 (qe (pv 5)) (J3 (qe (pv 6)) Abr Ja) Ja) Ja) Ja)) (J3 (qe (pv 7)) Abr Ja) Tw))))))))),?_⟩
 refine⟨a,ns,0,Z,hS,Int.le_refl _,λm hm=>?_⟩;refine⟨_,_,Z,Z,(by show(0:Int)<4;decide),?_⟩;refine⟨_,_,Z,Z,⟨by decide,by decide⟩,_,_,Z,Z,(by show(0:Int)<3;decide),?_⟩;refine⟨_,_,Z,Z,_,_,Z,Z,⟨by decide,by decide⟩,_,_,Z,Z,(by show(0:Int)<3;decide),_,_,Z,Z,_,_,Z,?_⟩;obtain⟨c,ec⟩:=Int.eq_ofNat_of_zero_le (Int.emod_nonneg m (show(4:Int)≠0 by decide));have b1:=Int.emod_lt_of_pos m (show(0:Int)<4 by decide);have b2:=Int.emod_nonneg (m/4) (show(3:Int)≠0 by decide);have b3:=Int.emod_lt_of_pos (m/4) (show(0:Int)<3 by decide);have b4:=Int.emod_nonneg (m/12) (show(3:Int)≠0 by decide);have b5:=Int.emod_lt_of_pos (m/12) (show(0:Int)<3 by decide)
 obtain⟨n,en,n1,n2,n3⟩:∃n:Nat,(if m%4+m/4%3+m/12%3>1 then m%4+m/4%3+m/12%3 else 1)=(n:Int)/\1<=n/\n<=10/\c<=n:=by
  split
  ·exact⟨(m%4+m/4%3+m/12%3).toNat,by omega,by omega,by omega,by omega⟩
  ·exact⟨1,Z,by omega,by omega,by omega⟩
 rw[en];dsimp only[Bq];rw[ec];refine⟨_,Z,_,_,Z,Z,_,Z,a,_,Z,hS,λc1 z=>?_⟩;rw[show G2 (ns.map V.int) (some 1) (some (1+(j:Int)))=((ns.map V.int).drop 1).take j from Aay _ j,<-List.map_drop,<-map_take];have k1:=Ae z (.lst (((ns.drop 1).take j).map V.int));refine⟨c1,_,(n:Int),Z,SqL.of qa,by rw[vE];omega,by omega,λv r H1 g1 P1 a4 h1 w1 z1=>?_⟩;have lj:(List.take j (List.drop 1 ns)).length<=j:=List.length_take_le ..;refine⟨v,r,0,Z,P1,by omega,λt1 u1 H2 g2 e2 P2=>?_⟩;refine⟨t1,_,Z,SqT.of e2,Z,_,_,Z,_,_,Z,Z,?_⟩;refine⟨zN4,λpr a3=>⟨zN2,λt ht=>?_⟩⟩;obtain⟨g,a1,a2⟩:=Jm (a:=.tup [.int (c:Int),.int (m/4%3),.int (n:Int),u1]) (b:=.tup [.ref pr,.int (num r 0).2]) a3 ht;have gg:=k1.trans (g1.trans (g2.trans g));exact q t pr c n _ u1 r _ gg a2 a1 n3 n1 n2 (P2.mono g.tp) a4 (by omega) (by omega) (by omega)
theorem Aaz(h:n<=16000000):n<=sizeLine:=uY h (by decide)
def Kn.set(k:Kn)(g:Nat)(v:Bool):Kn:=λi=>if i=g then some v else k i
def Gt.nums:Gt->List Nat
 |.nt g=>[g]
 |.all gs=>gs
 |.som gs=>gs
 |_=>[]
def leN(k k':Kn):Prop:=∀g v,k g=some v->k' g=some v
def leO(a b:Option Bool):Prop:=∀v,a=some v->b=some v
theorem AcI{a:Option Bool}(h:leO a c)(k:leO b d):leO (or3 a b) (or3 c d):=by
 rcases a with _|_|_<;>rcases b with _|_|_<;>intro v e<;>first|(cases e;done)|(cases e;first|rw[h _ rfl,k _ rfl];rfl|rw[h _ rfl];rfl|(rw[k _ rfl,or3_c];rfl))
theorem Acv{a:Option Bool}(h:leO a c)(k:leO b d):leO (an3 a b) (an3 c d):=by
 rcases a with _|_|_<;>rcases b with _|_|_<;>intro v e<;>first|(cases e;done)|(cases e;first|rw[h _ rfl,k _ rfl];rfl|rw[h _ rfl];rfl|(rw[k _ rfl];rcases c with _|_|_<;>rfl))
theorem Vi{z:Type}{f g:z->Option Bool}:∀{l:List z},(∀x∈l,leO (f x) (g x))->leO (orL (l.map f)) (orL (l.map g))
 |[],_=>λ_ e=>e
 |_::_,h=>AcI (h _ uF) (Vi λx hx=>h x (uG _ hx))
theorem Vm{z:Type}{f g:z->Option Bool}:∀{l:List z},(∀x∈l,leO (f x) (g x))->leO (anL (l.map f)) (anL (l.map g))
 |[],_=>λ_ e=>e
 |_::_,h=>Acv (h _ uF) (Vm λx hx=>h x (uG _ hx))
theorem Nc{st:Option (List Int)}{k:Kn}(h:leN k k')(e:Ek st co k g=some v):Ek st co k' g=some v:=by
 cases g with
 |nt g=>
  simp only[Ek]at e ⊢;cases z:k g with
  |none=>rw[z]at e;cases e
  |some b=>rw[z]at e;rw[h g b z];exact e
 |all gs=>exact Vm (λx _ v e=>h x v e) v e
 |som gs=>exact Vi (λx _ v e=>h x v e) v e
 |_=>exact e
theorem Aai{k:Kn}(h:k g=none):leN k (k.set g v):=by
 intro i w e;unfold Kn.set;split
 ·next z=>rw[z,h]at e;cases e
 ·exact e
inductive Der(gs:List Gt)(st:Option (List Int))(co:List Int):Kn->Prop
 |nil:Der gs st co λ_=>none
 |step {k:Kn} {g:Nat} {v:Bool} {G:Gt} (h:Der gs st co k) (hG:gs[g]?=some G) (hn:k g=none) (hv:Ek st co k G=some v):Der gs st co (k.set g v)
theorem Der.told{st:Option (List Int)}{k:Kn}(h:Der gs st co k):∀g v,k g=some v->∃G,gs[g]?=some G/\Ek st co k G=some v:=by
 induction h with
 |nil=>intro g v e;cases e
 |step h hG hn hv ih=>
  intro i w e;unfold Kn.set at e;split at e
  ·next z=>
   subst z;cases e
   exact⟨_,hG,Nc (Aai hn) hv⟩
  ·obtain⟨G,e1,e2⟩:=ih i w e
   exact⟨G,e1,Nc (Aai hn) e2⟩
def Jf(gs:List Gt)(st:Option (List Int))(co:List Int)(k:Kn):Prop:=∀g G,gs[g]?=some G->k g=none->Ek st co k G=none
def AcB(gs:List Gt)(st:Option (List Int))(co:List Int)(k:Kn):Prop:=∀g G,gs[g]?=some G->k g=Ek st co k G
theorem Der.fix{st:Option (List Int)}{k:Kn}(h:Der gs st co k)(c:Jf gs st co k):AcB gs st co k:=λg G e=>by
 cases z:k g with
 |none=>exact(c g G e z).symm
 |some v=>
  obtain⟨G',e',h'⟩:=h.told g v z;rw[e]at e';cases e'
  exact h'.symm
theorem Der.le{st:Option (List Int)}{k:Kn}(h:Der gs st co k)(c:AcB gs st co k'):leN k k':=by
 induction h with
 |nil=>intro g v e;cases e
 |step h hG hn hv ih=>
  intro i w e;unfold Kn.set at e;split at e
  ·next z=>
   subst z;cases e
   rw[c i _ hG];exact Nc ih hv
  ·exact ih i w e
def knL(l:List (Option Bool)):Kn:=λi=>(l[i]?).getD none
theorem W7(h:g<l.length):knL (l.set g (some v))=(knL l).set g v:=by
 funext i
 unfold knL Kn.set;rw[List.getElem?_set]
 by_cases e:g=i
 ·subst e;simp[h]
 ·have e':¬i=g:=λz=>e z.symm
  simp[e,e']
def nns(l:List (Option Bool)):Nat:=l.countP (·.isNone)
theorem Re:∀{l:List (Option Bool)}(h:l[g]?=some none),nns (l.set g (some v))+1=nns l:=by
 induction g with
 |zero=>intro l h;cases l with
  |nil=>cases h
  |cons x l=>cases h;simp[nns]
 |succ g z=>intro l h;cases l with
  |nil=>cases h
  |cons x l=>
   have:=z (l:=l) (by simpa using h);simp only[nns,set_cons_succ,List.countP_cons]at this ⊢;omega
structure Rd(gs:List Gt)(st:Option (List Int))(co:List Int)(k0 k:List (Option Bool))(i:Nat)(b:Bool):Prop where
 der:Der gs st co (knL k)
 len:k.length=gs.length
 no:b=false->k=k0/\∀g G,g<i->gs[g]?=some G->knL k g=none->Ek st co (knL k) G=none
 yes:b=true->nns k<nns k0
 le:nns k<=nns k0
theorem Rd.nil{st:Option (List Int)}{k:List (Option Bool)}(d:Der gs st co (knL k))(h:k.length=gs.length):Rd gs st co k k 0 false:=
 ⟨d,h,λ_=>⟨rfl,λg G z=>absurd z (not_lt_zero _)⟩,λz=>(by cases z),uZ _⟩
theorem Rd.skip{st:Option (List Int)}{k:List (Option Bool)}(h:Rd gs st co k0 k i b)(hk:¬knL k i=none):Rd gs st co k0 k (i+1) b:=
 ⟨h.der,h.len,λz=>⟨(h.no z).1,λg G hg hG hn=>by
  by_cases c:g=i
  ·subst c;exact absurd hn hk
  ·exact(h.no z).2 g G (by omega) hG hn⟩,h.yes,h.le⟩
theorem Rd.step{st:Option (List Int)}{k:List (Option Bool)}(h:Rd gs st co k0 k i b)(hG:gs[i]?=some G)(hk:knL k i=none):Rd gs st co k0 (k.set i (Ek st co (knL k) G)) (i+1) (b || (Ek st co (knL k) G).isSome):=by
 have hi:i<k.length:=by rw[h.len];exact(List.getElem?_eq_some_iff.mp hG).1
 have a2:k[i]?=some none:=by
  unfold knL at hk;rw[uA hi]at hk ⊢;exact congrArg some hk
 cases e:Ek st co (knL k) G with
 |none=>
  have es:k.set i none=k:=by
   refine ext_getElem (by simp) λj h1 h2=>?_
   rw[List.getElem_set];split
   ·next z=>
    subst z;have:=a2;rw[uA hi]at this;exact(Option.some.inj this).symm
   ·rfl
  rw[es];simp only[Option.isSome_none,Bool.or_false];refine⟨h.der,h.len,λz=>⟨(h.no z).1,λg G' hg a1 hn=>?_⟩,h.yes,h.le⟩
  by_cases c:g=i
  ·subst c
   rw[hG]at a1;cases a1
   exact e
  ·exact(h.no z).2 g G' (by omega) a1 hn
 |some v=>
  have n:=Re (v:=v) a2;have:=h.le;simp only[Option.isSome_some,Bool.or_true];exact⟨by rw[W7 hi];exact h.der.step hG hk e,by rw[vK];exact h.len,λz=>(by cases z),λ_=>by omega,by omega⟩
theorem Rd.closed{st:Option (List Int)}{k:List (Option Bool)}(h:Rd gs st co k0 k gs.length false):Jf gs st co (knL k):=λg G hG hn=>(h.no rfl).2 g G (List.getElem?_eq_some_iff.mp hG).1 hG hn
theorem Aer(gs:List Gt)(st:Option (List Int))(co:List Int):∃k,Der gs st co k/\Jf gs st co k:=by
 suffices h:∀n(l:List (Option Bool)),nns l<=n->l.length=gs.length->Der gs st co (knL l)->∃k,Der gs st co k/\Jf gs st co k from
  h _ (List.replicate gs.length none) (uZ _) uS (by rw[show knL (List.replicate gs.length none)=λ_=>none from funext λi=>by unfold knL;rw[getElem?_replicate];split<;>rfl];exact .nil)
 intro n
 induction n with
 |zero=>exact λl hn hl d=>⟨_,d,λg G hG hk=>by
   have hg:l[g]?=some none:=by
    have:=(List.getElem?_eq_some_iff.mp hG).1;unfold knL at hk;rw[uA (by omega)]at hk ⊢;exact congrArg some hk
   have:=Re (v:=true) hg;omega⟩
 |succ n ih=>
  intro l hn hl d
  by_cases c:Jf gs st co (knL l)
  ·exact⟨_,d,c⟩
  ·have c':∃g G,gs[g]?=some G/\knL l g=none/\¬Ek st co (knL l) G=none:=Classical.byContradiction λz=>c λg G hG hk=>Classical.byContradiction λw=>z ⟨g,G,hG,hk,w⟩
   obtain⟨g,G,hG,hk,hv⟩:=c';have hgl:=(List.getElem?_eq_some_iff.mp hG).1;cases e:Ek st co (knL l) G with
   |none=>exact absurd e hv
   |some v=>
    have hg:l[g]?=some none:=by
     have a1:=hk;unfold knL at a1;rw[uA (by omega)]at a1 ⊢;exact congrArg some a1
    have:=Re (v:=v) hg;exact ih (l.set g (some v)) (by omega) (by rw[vK];exact hl) (by rw[W7 (by omega)];exact d.step hG hk e)
def Gt.word:Gt->Str
 |.start=> "start"
 |.mem _=> "memory"
 |.given _=> "given"
 |.nt _=> "not"
 |.all _=> "all"
 |.som _=> "some"
def Gt.args:Gt->List Int
 |.start=>[]
 |.mem k=>[k]
 |.given s=>[s]
 |.nt g=>[(g:Int)]
 |.all gs=>gs.map Int.ofNat
 |.som gs=>gs.map Int.ofNat
inductive Q3(K:FA)(H:Hp)(G:Gt)(v:V):Prop
 |mk(a b:Addr)(e:v=.ref a)(h1:SqT K H a [.str G.word,.ref b])(h2:SqT K H b (G.args.map V.int))
inductive Q5(K:FA)(H:Hp)(gl:Addr)(gs:List Gt):Prop
 |mk(vs:List V)(h:SqL K H gl vs)(l:vs.length=gs.length)(g:∀(i:Nat)v G,vs[i]?=some v->gs[i]?=some G->Q3 K H G v)
def WfG(gs:List Gt):Prop:=∀(g:Nat)(G:Gt),gs[g]?=some G->∀c∈G.nums,c<gs.length
structure SmG(gs:List Gt):Prop where
 wf:WfG gs
 len:gs.length<=16000
def StG(K:FA)(H:Hp):Option (List Int)->V->Prop
 |none,v=>v=.non
 |some ns,v=>∃a,v=.ref a/\SqL K H a (ns.map V.int)
theorem AcM(g:Same H H'){st:Option (List Int)}(h:StG K H st v):StG K H' st v:=by
 cases st with
 |none=>exact h
 |some l=>obtain⟨a,e,s⟩:=h;exact⟨a,e,g.seq s⟩
theorem AeR{st:Option (List Int)}(h:StG K H st v):decide (v=.non)=st.isNone:=by
 cases st with
 |none=>cases h;exact uI rfl
 |some l=>obtain⟨a,e,s⟩:=h;subst e;exact uJ (λz=>by cases z)
inductive Aap(K:FA)(H:Hp)(nt:Addr)(gs:List Gt):Prop
 |mk(gl:Addr)(rest xs:List V)(h:SqT K H nt (.ref gl::rest))(G:Q5 K H gl gs)(hgl:H gl=some (.lst xs))(sm:SmG gs)
structure Agu(K:FA)(H:Hp)(sv:V)(cl:Addr)(st:Option (List Int))(co:List Int):Prop where
 hs:StG K H st sv
 ls:(st.getD []).length<=900
 hc:SqL K H cl (co.map V.int)
 lc:co.length<=900
theorem Acr{G:Gt}(e:G.word ="start"):G=.start:=by cases G<;>first|rfl|(dsimp only[Gt.word]at e;exact absurd e (by trivial))
theorem AfT{G:Gt}(e:G.word ="memory"):∃k,G=.mem k:=by cases G<;>first|exact⟨_,Z⟩|(dsimp only[Gt.word]at e;exact absurd e (by trivial))
theorem Afa{G:Gt}(e:G.word ="given"):∃k,G=.given k:=by cases G<;>first|exact⟨_,Z⟩|(dsimp only[Gt.word]at e;exact absurd e (by trivial))
def Ac0:Gt->Bool
 |.nt _=>true
 |.all _=>true
 |.som _=>true
 |_=>false
theorem AeG(h:Ac0 G=true):G.args=G.nums.map Int.ofNat:=by cases G<;>first|rfl|cases h
theorem Pi(e:Same H H')(h:SqT K H a xs):SqT K H' a xs:=by
 rcases h with(h|⟨o,h⟩)|h
 ·exact .inl (.inl (e _ _ h))
 ·exact .inl (.inr ⟨o,e _ _ h⟩)
 ·exact .inr h
theorem Ad4(n:Nat):knL (List.replicate n (none:Option Bool))=λ_=>none:=by
 funext i
 unfold knL
 by_cases c:i<n
 ·rw[List.getElem?_replicate_of_lt c];rfl
 ·rw[getElem?_eq_none (by rw[uS];omega)];rfl
theorem Lb(l:List (Option Bool)):(l.map vO).all Fp=true:=by
 rw[all_eq_true];intro x z;obtain⟨o,_,rfl⟩:=vT.mp z;cases o<;>rfl
theorem Aak(a b:Option Bool):eqV (vO a) (vO b)=decide (a=b):=by
 rcases a with _|_|_<;>rcases b with _|_|_<;>rfl
theorem S0{o:Option Bool}{l:List (Option Bool)}:inV (vO o) (l.map vO)=decide (o∈l):=by
 unfold inV;rw[any_map]
 by_cases c:o∈l
 ·rw[uI c,any_eq_true]
  exact⟨o,c,by show eqV (vO o) (vO o)=true;rw[Aak];exact uI rfl⟩
 ·rw[uJ c,List.any_eq_false]
  intro g hg z;have z:eqV (vO g) (vO o)=true:=z;rw[Aak]at z;exact c (uK z▸hg)
theorem Afb(l:List (Option Bool)):anL l=if some false∈l then some false else if none∈l then none else some true:=by
 induction l with
 |nil=>rfl
 |cons a l ih=>
  show an3 a (anL l)=_
  rw[ih];rcases a with _|_|_<;>by_cases h:some false∈l<;>by_cases z:none∈l<;>simp[an3,h,z]
theorem Ad3{G:Gt}(e:G.word ="not"):∃k,G=.nt k:=by cases G<;>first|exact⟨_,Z⟩|(dsimp only[Gt.word]at e;exact absurd e (by trivial))
theorem Ae2{G:Gt}(e:G.word ="all"):∃k,G=.all k:=by cases G<;>first|exact⟨_,Z⟩|(dsimp only[Gt.word]at e;exact absurd e (by trivial))
theorem AgD{G:Gt}(n1:¬G.word ="start")(n2:¬G.word ="memory")(n3:¬G.word ="given"):Ac0 G=true:=by cases G<;>first|rfl|exact absurd rfl n1|exact absurd rfl n2|exact absurd rfl n3
theorem Afi(h:Ac0 G=true)(n1:¬G.word ="not")(n2:¬G.word ="all"):∃k,G=.som k:=by cases G<;>first|exact⟨_,Z⟩|exact absurd rfl n1|exact absurd rfl n2|cases h
inductive Rq(K:FA)(vs:List V)(H:Hp)(Q:VK):Prop
 |mk(gv sv:V)(cl kl:Addr)(G:Gt)(st:Option (List Int))(co:List Int)(k:List (Option Bool))(_:vs=[gv,sv,.ref cl,.ref kl])(_:Q3 K H G gv)(_:StG K H st sv)(_:SqL K H cl (co.map V.int))(_:SqL K H kl (k.map vO))(_:(∀c∈G.nums,c<k.length))(_:G.nums.length<=1000)(_:∀H',Same H H'->Q (vO (Ek st co (knL k) G)) H')
def X8(K:FA):Sp:=λvs H Q _=>Rq K vs H Q
section
variable{aN:Addr}
theorem Ag5(F:Ax K mg "_law_value" ["_law_gate","_law_state","_law_coming_here","_law_known"] F5)(T:Txt mg):Ai P w K mg base 1 "_law_value" ["_law_gate","_law_state","_law_coming_here","_law_known"] (X8 K):=by
 refine F.ok Gx (λvs H Q E h=>?_) (λf cdv A outer s H vs Q E hr h=>?_)
 ·obtain⟨gv,sv,cl,kl,G,st,co,k,rfl,_⟩:=h;rfl
 obtain⟨gv,sv,cl,kl,G,st,co,k,rfl,⟨a,b,rfl,h1,h2⟩,a3,a9,hk,hn,l9,q⟩:=h
 refine⟨_,(Ad (Fw (pv 0) (Ff rfl (Bn (Az (i:=4) Gx.nd rfl (Or.inl rfl)) (Bn (Az (i:=5) Gx.nd rfl (Or.inl rfl)) Em))))
  (Ad (A9 (An A1 (pv 4) Ap (Aq _))
   (Ah (Ao (Ga Lk (pv 1) B5 (Aq _))))
   A0)
  (Ad (A9 (An A1 (pv 4) Ap (Aq _))
   (Ah (Ao (Abn (Ga Qz (pv 1) B5 (Aq _)) (Wd (Ga B3 (Aj Ag (pv 5) Af (λ_ _=>rfl)) (pv 1) (by rfl))))))
   A0)
  (Ad (A9 (An A1 (pv 4) Ap (Aq _))
   (Ah (Ao (Ga B3 (Aj Ag (pv 5) Af (λ_ _=>rfl)) (pv 2) (by rfl))))
   A0)
  (Ad (Cs (j:=6) (g:=(Bq 0)) (tc:=Dy) (te:=(tOp (Y9 K) (A5 1) (A5 0))) ["_law_number"] [("_law_known",3)] Gx.nd rfl (Or.inl rfl) rfl (Bz (Ak F5) ["_law_gate","_law_state","_law_coming_here","_law_known","_law_word","_law_numbers","_law_ahead"] (by trivial)) (Le (pv 5)) (λs2 H2 fp cl C=>Az (i:=0) (show Nodup [("_law_number": Str),("_law_known": Str)] from by trivial) rfl (Or.inl rfl)) (Bg (by decide)) (λs2 H2 fp cl C=>Ep) (λs2 H2 fp cl C=>(Aj Bs (pv 1) (pv 0) (λ_ _=>rfl))))
  (Ad (A9 (An A1 (pv 4) Ap (Aq _))
   (Ah (Ao (Aj Bs (Av (Aa B5 (Aa Dr (Aa Dr Ab)))) (Fq PySem.F.plainAttrs_list PySem.F.slot_list_index PySem.F.type_list_index AcU (Av (Aa B5 (Aa Dr (Aa Dr Ab)))) (Aa (Aj Bs (pv 6) Af (λ_ _=>rfl)) Ab)) (λ_ _=>rfl))))
   A0)
  (Ad (A9 (An A1 (pv 4) Ap (Aq _))
   (Ah (Ao (Br (An B3 Dr (pv 6) (by rfl)) Dr (Aj Bs (Av (Aa Dr (Aa B5 Ab))) (Di Mr rfl T.n_int (by trivial) (Aa (Ga B3 B5 (pv 6) (by rfl)) Ab)) (λ_ _=>rfl)))))
   A0)
  (Ah (Ao (Br (An B3 Dr (pv 6) (by rfl)) Dr (Aj Bs (Av (Aa Dr (Aa B5 Ab))) (Di Mr rfl T.n_int (by trivial) (Aa (Ga B3 B5 (pv 6) (by rfl)) Ab)) (λ_ _=>rfl)))))))))))),?_⟩
 refine⟨a,_,Z,h1,Z,_,_,Z,_,_,Z,Z,?_⟩;refine⟨Z,Ce (λe=>?_) λn1=>⟨Z,Ce (λe=>?_) λn2=>⟨Z,Ce (λe=>?_) λn3=>?_⟩⟩⟩
 ·cases Acr e
  refine⟨Z,?_⟩;rw[AeR a3];exact q H (Same.refl _)
 ·obtain⟨n,rfl⟩:=AfT e
  cases st with
  |none=>
   cases a3
   refine⟨Z,_,Z,?_⟩;rw[if_neg (by simp)];exact q H (Same.refl _)
  |some l=>
   obtain⟨s',rfl,hs⟩:=a3;refine⟨Z,_,Z,?_⟩;rw[if_pos (by simp)];refine⟨h2,Ac (j:=0) rfl,s',_,Z,.inl hs,Z,B9 l,?_⟩;rw[if_neg qc,Ee];exact q H (Same.refl _)
 ·obtain⟨n,rfl⟩:=Afa e
  refine⟨h2,Ac (j:=0) rfl,cl,_,Z,.inl a9,Z,B9 co,?_⟩;rw[if_neg qc,Ee];exact q H (Same.refl _)
 have nm:=AgD n1 n2 n3;rw[AeG nm]at h2;refine⟨b,Z,⟨_,h2⟩,Vu (K:=K) (a:=b) (xs:=(G.nums.map Int.ofNat).map V.int) (λi ys H'=>H'=H/\ys=((G.nums.take i).map (knL k)).map vO) ⟨Z,Z⟩ (by rw[uB,uB];exact Aaz (by omega)) (λi ys H' h=>by rw[h.1];exact h2) ?_ ?_⟩
 ·rintro j z ys H' M hj ⟨rfl,rfl⟩ hN a5
  rw[map_map,uH]at hj;cases ej:G.nums[j]? with
  |none=>rw[ej]at hj;cases hj
  |some c=>
   rw[ej]at hj;cases hj
   have a7:=hn c (uO ej);have ek:(k.map vO)[c]?=some (vO (knL k c)):=by unfold knL;rw[uH,uA a7];rfl
   refine⟨hk,Ac ek,hN _ _ (by rw[uC,uD];exact succ_le_succ a5) ⟨Z,?_⟩⟩;rw[take_add_one,ej,uN,uN];rfl
 ·rintro ys H' a5 ⟨rfl,rfl⟩ D b1
  rw[uQ (by rw[uB,uB];exact uZ _)];have g1:=Ae b1 (.lst ((G.nums.map (knL k)).map vO));have hD:=qa (H:=H') (a:=D) (o:=.lst ((G.nums.map (knL k)).map vO));generalize (upd H' D (.lst ((G.nums.map (knL k)).map vO)))=H1 at g1 hD;refine⟨Z,Ce (λe=>?_) λn4=>⟨Z,Ce (λe=>?_) λn5=>?_⟩⟩
  ·obtain⟨c,rfl⟩:=Ad3 e
   refine⟨zN3,λl1 a1=>?_⟩;have k2:=Ae a1 (.lst [.non,.bl false,.bl true]);have e2:=qa (H:=H1) (a:=l1) (o:=.lst [.non,.bl false,.bl true]);have a6:=k2 _ _ hD;generalize (upd H1 l1 (.lst [.non,.bl false,.bl true]))=H2 at k2 e2 a6;refine⟨zN3,λl2 a8=>?_⟩;have k3:=Ae a8 (.lst [.non,.bl true,.bl false]);have e3:=qa (H:=H2) (a:=l2) (o:=.lst [.non,.bl true,.bl false]);have a4:=k3 _ _ a6;have a2:=k3 _ _ e2;generalize (upd H2 l2 (.lst [.non,.bl true,.bl false]))=H3 at k3 e3 a4 a2;refine⟨.inl ⟨Z,_,SqL.of e3⟩,SqL.of a4,Ac (j:=0) rfl,?_⟩;have q:=q _ (g1.trans (k2.trans k3));have eg:Ek st co (knL k) (.nt c)=(knL k c).map not:=rfl;rw[eg]at q;generalize knL k c=o at q;rcases o with _|_|_
   ·exact⟨l2,_,_,0,_,Z,Z,e3,Z,Z,Z,Z,λm z' h=>absurd h (not_lt_zero _),SqL.of a2,Ac (j:=0) rfl,q⟩
   ·exact⟨l2,_,_,2,_,Z,Z,e3,Z,Z,Z,Z,λm z' h e=>by(match m,h,e with|0,_,e=>cases e;rfl|1,_,e=>cases e;rfl),SqL.of a2,Ac (j:=2) rfl,q⟩
   ·exact⟨l2,_,_,1,_,Z,Z,e3,Z,Z,Z,Z,λm z' h e=>by(match m,h,e with|0,_,e=>cases e;rfl),SqL.of a2,Ac (j:=1) rfl,q⟩
  ·obtain⟨l,el⟩:=Ae2 e
   have eg:Ek st co (knL k) G=anL (G.nums.map (knL k)):=by rw[el];rfl
   rw[eg,Afb]at q;refine⟨D,_,Z,.inl (SqL.of hD),Z,Lb _,?_⟩;rw[if_neg qc,show V.bl false=vO (some false) from rfl,S0]
   by_cases c1:some false∈G.nums.map (knL k)
   ·rw[if_pos c1]at q
    rw[uI c1];exact q _ g1
   ·rw[if_neg c1]at q
    rw[uJ c1];refine⟨zN2,λl1 a1=>?_⟩;have k2:=Ae a1 (.lst [.bl true,.non]);refine⟨D,_,Z,.inl (SqL.of (k2 _ _ hD)),Z,Lb _,.inr ⟨_,Z,SqL.of qa,?_,q _ (g1.trans k2)⟩⟩;rw[if_neg qc,show V.non=vO none from rfl,S0]
    by_cases c2:none∈G.nums.map (knL k)
    ·rw[uI c2,if_pos c2];exact Ac (j:=1) rfl
    ·rw[uJ c2,if_neg c2];exact Ac (j:=0) rfl
  ·obtain⟨l,el⟩:=Afi nm n4 n5
   have eg:Ek st co (knL k) G=orL (G.nums.map (knL k)):=by rw[el];rfl
   rw[eg,M4]at q;refine⟨D,_,Z,.inl (SqL.of hD),Z,Lb _,?_⟩;rw[if_neg qc,show V.bl true=vO (some true) from rfl,S0]
   by_cases c1:some true∈G.nums.map (knL k)
   ·rw[if_pos c1]at q
    rw[uI c1];exact q _ g1
   ·rw[if_neg c1]at q
    rw[uJ c1];refine⟨zN2,λl1 a1=>?_⟩;have k2:=Ae a1 (.lst [.bl false,.non]);refine⟨D,_,Z,.inl (SqL.of (k2 _ _ hD)),Z,Lb _,.inr ⟨_,Z,SqL.of qa,?_,q _ (g1.trans k2)⟩⟩;rw[if_neg qc,show V.non=vO none from rfl,S0]
    by_cases c2:none∈G.nums.map (knL k)
    ·rw[uI c2,if_pos c2];exact Ac (j:=1) rfl
    ·rw[uJ c2,if_neg c2];exact Ac (j:=0) rfl
theorem Q3.same(k:Same H H')(h:Q3 K H G v):Q3 K H' G v:=by
 obtain⟨a,b,e,h1,h2⟩:=h;exact⟨a,b,e,Pi k h1,Pi k h2⟩
inductive AfG(H:Hp)(gs:List Gt)(st:Option (List Int))(co:List Int)(kl:Addr)(H':Hp):Prop
 |mk(k:List (Option Bool))(g:Same H H')(hk:H' kl=some (.lst (k.map vO)))(lk:k.length=gs.length)(d:Der gs st co (knL k))(c:Jf gs st co (knL k))
theorem Abk(k:List (Option Bool)):(k.map vO).countP (λv=>decide (v=V.non))=nns k:=by
 unfold nns;rw[List.countP_map]
 congr 1
 funext o
 cases o with
 |none=>show decide (V.non=V.non)=true;exact uI rfl
 |some b=>show decide (V.bl b=V.non)=false;exact uJ (λz=>by cases z)
inductive Sg(K:FA)(vs:List V)(H:Hp)(Q:VK):Prop
 |mk(nt cl:Addr)(sv:V)(gs:List Gt)(st:Option (List Int))(co:List Int)(_:vs=[.ref nt,sv,.ref cl])(_:Aap K H nt gs)(_:Agu K H sv cl st co)(_:(∀G∈gs,G.nums.length<=1000))(_:∀(kl:Addr)(H':Hp),AfG H gs st co kl H'->Q (.ref kl) H')
def X1(K:FA):Sp:=λvs H Q _=>Sg K vs H Q
theorem AhF(F:Ax K mg "_law_least" ["_law_net","_law_state","_law_coming_here"] F4)(T:Txt mg)(eG:Ai P w K mg base 1 "_law_value" ["_law_gate","_law_state","_law_coming_here","_law_known"] (X8 K)):Ai P w K mg base 2 "_law_least" ["_law_net","_law_state","_law_coming_here"] (X1 K):=by
 refine F.ok En (λvs H Q E h=>?_) (λf cdv A outer s H vs Q E hr h=>?_)
 ·obtain⟨nt,cl,sv,gs,st,co,rfl,_⟩:=h;rfl
 obtain⟨nt,cl,sv,gs,st,co,rfl,⟨gl,rest,xs,a7,G0,hgl,sm⟩,⟨b6,lst,b2,b9⟩,l9,q⟩:=h
 refine⟨_,(Ad (Cs (j:=3) (g:=(Bq 0)) (tc:=Dy) (te:=(tC .non)) ["_law_gate"] [] En.nd rfl (Or.inl rfl) rfl (Bz (Ak F4) ["_law_net","_law_state","_law_coming_here","_law_known","_law_changed","_law_number"] (by trivial)) (B6 (Aj Ag (pv 0) Af (λ_ _=>rfl))) (λs2 H2 fp cl C=>Az (i:=0) (show Nodup [("_law_gate": Str)] from by trivial) rfl (Or.inl rfl)) (Bg (by decide)) (λs2 H2 fp cl C=>Ep) (λs2 H2 fp cl C=>B5))
  (Ad (Ar (i:=4) En.nd rfl (Or.inl rfl) Dr)
  (Ad (L7 PassesOwn.never (Mw (pv 4))
   (Ad (Ar (i:=4) En.nd rfl (Or.inl rfl) Dr)
  (Ah (Fa PassesOwn.never rfl (Fy rfl T.n_range (Aa (Bu Cm rfl T.n_len PySem.boot_len (Aa (pv 3) Ab)) Ab)) (Az (i:=5) En.nd rfl (Or.inl rfl))
   (Ah (A9 (An Lk (Aj Bs (pv 3) (pv 5) (λ_ _=>rfl)) B5 (Aq _))
   (Ad (Fw (Am eG hr rfl Al (Aa (Aj Bs (Aj Ag (pv 0) Af (λ_ _=>rfl)) (pv 5) (λ_ _=>rfl)) (Aa (pv 1) (Aa (pv 2) (Aa (pv 3) Ab))))) (Ul (pv 3) (pv 5) O1))
  (Ah (Ar (i:=4) En.nd rfl (Or.inl rfl) (Agi (pv 4) (Wd (Ga Qz (Aj Bs (pv 3) (pv 5) (λ_ _=>rfl)) B5 (Aq _)))))))
   A0))))))
  (Ah (Ao (pv 3)))))),?_⟩
 have c3:=sm.len;obtain⟨gvs,a5,b4,b7⟩:=id G0;refine⟨a7,Ac (j:=0) rfl,gl,Z,⟨_,a5⟩,Cn (K:=K) (xs:=gvs) (λi ys H'=>H'=H/\ys=(List.replicate i (none:Option Bool)).map vO) ⟨Z,Z⟩ (Aaz (by omega)) (λi ys H' h=>by rw[h.1];exact a5) ?_ ?_⟩
 ·rintro j z ys H' M hj ⟨rfl,rfl⟩ hN a9
  exact hN _ _ (by rw[uC,uD];exact succ_le_succ a9) ⟨Z,by rw[List.replicate_succ',uN];rfl⟩
 rintro ys H0 a9 ⟨rfl,rfl⟩ kl a8;rw[b4];have g1:=Ae a8 (.lst ((List.replicate gs.length (none:Option Bool)).map vO));have ek:=qa (H:=H0) (a:=kl) (o:=.lst ((List.replicate gs.length (none:Option Bool)).map vO));generalize (upd H0 kl (.lst ((List.replicate gs.length (none:Option Bool)).map vO)))=H1 at g1 ek
 refine O5 (λσ H'=>∃(b:Bool)(k:List (Option Bool))(x5:Option V),σ=[some (.ref nt),some sv,some (.ref cl),some (.ref kl),some (.bl b),x5]/\Same H0 H'/\H' kl=some (.lst (k.map vO))/\k.length=gs.length/\Der gs st co (knL k)/\(b=false->Jf gs st co (knL k)))
  (λ(σ:St)(H':Hp)=>match H' kl,σ[4]? with|some (HO.lst us),some (some (V.bl b))=>2*us.countP (λv=>decide (v=V.non))+(if b=true then 1 else 0)|_,_=>0) ⟨true,_,none,Z,g1,ek,uS,by rw[Ad4];exact Der.nil,λz=>by cases z⟩ ?_ ?_
 ·rintro σ H2 ⟨b,k,x5,rfl,g2,a2,lk,der,b3⟩
  cases b with
  |false=>exact q kl H2 ⟨k,g2,a2,lk,der,b3 rfl⟩
  |true=>
   refine⟨kl,_,Z,.inl (SqL.of a2),_,Z,by rw[uB];omega,by rw[uB];omega,?_⟩;rw[show(((k.map vO).length:Nat):Int).toNat=gs.length by rw[uB,Int.toNat_natCast,lk]];refine AaO (n:=gs.length) (λi σ H'=>∃(b:Bool)(k':List (Option Bool))(x5:Option V),σ=[some (.ref nt),some sv,some (.ref cl),some (.ref kl),some (.bl b),x5]/\Same H0 H'/\H' kl=some (.lst (k'.map vO))/\Rd gs st co k k' i b) ⟨false,k,x5,Z,g2,a2,Rd.nil der lk⟩ ?_ ?_
   ·rintro i σ H3 hi ⟨b,k',x5,rfl,g3,a1,rd⟩
    have b8:=rd.len;have ei:(k'.map vO)[i]?=some (vO (knL k' i)):=by unfold knL;rw[uH,uA (by omega)];rfl
    obtain⟨G,hG⟩:∃G,gs[i]?=some G:=⟨_,uA hi⟩;obtain⟨gv,a6⟩:∃gv,gvs[i]?=some gv:=⟨_,uA (by omega)⟩;refine⟨SqL.of a1,(by rw[Int.zero_add];exact Ac ei),Z,?_⟩;cases e:knL k' i with
    |some v=>exact Ez ⟨b,k',_,rfl,g3,a1,rd.skip (by rw[e];exact λz=>by cases z)⟩
    |none=>
     have a3:=rd.step hG e;refine C8 ⟨Pi g3 a7,Ac (j:=0) rfl,g3.seq a5,(by rw[Int.zero_add];exact Ac a6),gv,sv,cl,kl,G,st,co,k',Z,(b7 i gv G a6 hG).same g3,AcM g3 b6,g3.seq b2,SqL.of a1,λc hc=>by rw[b8];exact sm.wf i G hG c hc,l9 G (uO hG),λH4 g4=>?_⟩;have b5:=g4 _ _ a1;refine⟨kl,_,_,i,Z,Z,b5,?_,?_⟩
     ·unfold ixN
      rw[uB,if_pos (by omega),if_pos (by omega),Int.zero_add,Int.toNat_natCast]
     generalize Ek st co (knL k') G=o at a3;have a4:(upd H4 kl (.lst ((k'.map vO).set i (vO o)))) kl=some (.lst ((k'.set i o).map vO)):=by rw[qa,map_set]
     have g5:Same H0 (upd H4 kl (.lst ((k'.map vO).set i (vO o)))):=(g3.trans g4).young a8 _;generalize (upd H4 kl (.lst ((k'.map vO).set i (vO o))))=H5 at a4 g5;cases b with
     |true=>exact⟨_,rfl,C8 ⟨true,_,_,rfl,g5,a4,a3⟩⟩
     |false=>
      have b1:((k'.set i o).map vO)[i]?=some (vO o):=by rw[uH,vP (by omega)];rfl
      refine⟨_,Z,Ez ⟨SqL.of a4,(by rw[Int.zero_add];exact Ac b1),Z,?_⟩⟩;refine⟨_,_,_,Z,g5,a4,?_⟩;have eb:(!decide (vO o=V.non))=(false || o.isSome):=by cases o<;>rfl
      first|(rw[eb];exact a3)|exact eb▸a3
   ·rintro σ H3 ⟨b,k',x5,rfl,g3,a1,rd⟩
    refine⟨⟨b,k',x5,Z,g3,a1,rd.len,rd.der,λz=>by subst z;exact rd.closed⟩,?_⟩;show(match H3 kl,(some (some (V.bl b))) with|some (HO.lst us),some (some (V.bl b))=>2*us.countP (λv=>decide (v=V.non))+(if b=true then 1 else 0)|_,_=>0)<(match H2 kl,(some (some (V.bl true))) with|some (HO.lst us),some (some (V.bl b))=>2*us.countP (λv=>decide (v=V.non))+(if b=true then 1 else 0)|_,_=>0);rw[a1,a2];dsimp only;rw[Abk,Abk];have le:=rd.le;cases b with
    |true=>have:=rd.yes rfl;show 2*nns k'+1<2*nns k+1;omega
    |false=>show 2*nns k'+0<2*nns k+1;omega
 ·exact λσ H Q Q' h=>Jc λv H=>O9 h
end
end Dsk
namespace My
open PySem L2
def rsL:Pt->List Int
 |.rest k=>[k]
 |.again k p=>k::rsL p
 |.iff _ p q=>rsL p++rsL q
 |.thn p q=>rsL p++rsL q
 |.bes p q=>rsL p++rsL q
 |.hold _ p=>rsL p
 |.watch _ p=>rsL p
 |.trap p=>rsL p
 |.nothing=>[]
 |.send _=>[]
 |.exit _=>[]
 |.stay _=>[]
theorem Abv(st:List Int)(h:okE p):(rem st p).1=(rsL p).filter λk=>decide (k∈st):=by
 induction p with
 |nothing=>rfl
 |send s=>rfl
 |exit d=>rfl
 |stay ks=>exact h.elim
 |rest k=>
  simp only[rem,rsL]
  by_cases c:k∈st
  ·rw[if_pos c];simp[c]
  ·rw[if_neg c];simp[c]
 |iff s p q a1 z=>simp only[rem,rsL,vM,a1 h.1,z h.2]
 |thn p q a1 z=>simp only[rem,rsL,vM,a1 h.1,z h.2]
 |bes p q a1 z=>simp only[rem,rsL,vM,a1 h.1,z h.2]
 |again k p ih=>
  have h:=h;simp only[rem,rsL]
  by_cases c:k∈st
  ·rw[if_pos c];simp[c,ih h]
  ·rw[if_neg c];simp[c,ih h]
 |hold s p ih=>exact ih h
 |watch s p ih=>exact ih h
 |trap p ih=>exact ih h
def Bh(p:Pt):Option (List Int)->Bool
 |none=>false
 |some l=>(rsL p).any λk=>decide (k∈l)
theorem Ci(h:okE p):Bh p (some l)=true↔¬(rem l p).1=[]:=by
 rw[Abv l h];show(rsL p).any _=true↔_;rw[any_eq_true,List.filter_eq_nil_iff];constructor
 ·rintro⟨k,h1,h2⟩ z
  exact z k h1 h2
 ·intro z
  refine Classical.byContradiction λn=>z λk h1 h2=>n ⟨k,h1,h2⟩
theorem E6{st:Option (List Int)}(h:okE p)(g:¬Bh p st=true):pb p st=p:=by
 cases st with
 |none=>rfl
 |some l=>exact Ll l p (Classical.byContradiction λz=>g ((Ci h).mpr z))
theorem Xw{st:Option (List Int)}(z:okE q)(g:Bh q st=true):pb (.thn p q) st=pb q st:=by
 cases st with
 |none=>cases g
 |some l=>
  show lp (.thn p q) (rem l p) (rem l q)=_
  unfold lp;dsimp only;rw[if_neg ((Ci z).mp g)];rfl
theorem Yi{st:Option (List Int)}(oq:okE q)(g:¬Bh q st=true):pb (.thn p q) st=.thn (pb p st) q:=by
 cases st with
 |none=>rfl
 |some l=>
  show lp (.thn p q) (rem l p) (rem l q)=_
  unfold lp;dsimp only;rw[if_pos (Classical.byContradiction λz=>g ((Ci oq).mpr z))];rfl
theorem AbJ{st:Option (List Int)}(op:okE p)(oq:okE q):pb (.iff s p q) st=if Bh p st=true then pb p st else if Bh q st=true then pb q st else .iff s p q:=by
 cases st with
 |none=>rfl
 |some l=>
  show lp (.iff s p q) (rem l p) (rem l q)=_
  unfold lp;dsimp only
  by_cases c1:Bh p (some l)=true
  ·rw[if_pos ((Ci op).mp c1),if_pos c1];rfl
  ·rw[if_neg (λz=>c1 ((Ci op).mpr z)),if_neg c1]
   by_cases c2:Bh q (some l)=true
   ·rw[if_pos ((Ci oq).mp c2),if_pos c2];rfl
   ·rw[if_neg (λz=>c2 ((Ci oq).mpr z)),if_neg c2]
theorem Abq{st:Option (List Int)}(op:okE p)(oq:okE q):pb (.bes p q) st=if (Bh p st=true↔Bh q st=true) then .bes (pb p st) (pb q st) else if Bh p st=true then pb p st else pb q st:=by
 cases st with
 |none=>rw[if_pos (show(Bh p none=true↔Bh q none=true) from Iff.rfl)];rfl
 |some l=>
  show lp (.bes p q) (rem l p) (rem l q)=_
  unfold lp;dsimp only
  by_cases c1:Bh p (some l)=true
  ·have d1:=(Ci op).mp c1
   by_cases c2:Bh q (some l)=true
   ·have d2:=(Ci oq).mp c2
    rw[if_pos ⟨d1,d2⟩,if_pos ⟨λ_=>c2,λ_=>c1⟩];rfl
   ·have d2:=Classical.byContradiction λz=>c2 ((Ci oq).mpr z)
    rw[if_neg (λz=>z.2 d2),if_pos d1,if_neg (λz=>c2 (z.mp c1)),if_pos c1];rfl
  ·have d1:=Classical.byContradiction λz=>c1 ((Ci op).mpr z)
   by_cases c2:Bh q (some l)=true
   ·have d2:=(Ci oq).mp c2
    rw[if_neg (λz=>z.1 d1),if_neg (λz=>z d1),if_pos d2,if_neg (λz=>c1 (z.mpr c2)),if_neg c1];rfl
   ·have d2:=Classical.byContradiction λz=>c2 ((Ci oq).mpr z)
    rw[if_neg (λz=>z.1 d1),if_neg (λz=>z d1),if_neg (λz=>z d2),if_pos ⟨λz=>absurd z c1,λz=>absurd z c2⟩];show _=Pt.bes (rem l p).2 (rem l q).2;rw[Ll l p d1,Ll l q d2]
theorem Xy(p:Pt)(st:Option (List Int)):pb (.trap p) st=.trap (pb p st):=by
 cases st with
 |none=>rfl
 |some l=>
  show lr (.trap p) (rem l p)=_
  unfold lr;split
  ·rename_i c
   show _=Pt.trap (rem l p).2
   rw[Ll l p c]
  ·rfl
theorem Km{st:Option (List Int)}(op:okE p):(¬Bh p st=true->pb (.hold s p) st=.hold s (pb p st)/\pb (.watch s p) st=.watch s (pb p st))/\∀l,st=some l->Bh p st=true->pb (.hold s p) st=.iff s (.stay ((rsL p).filter λk=>decide (k∈l))) (pb p st)/\pb (.watch s p) st=.iff s .nothing (pb p st):=by
 constructor
 ·intro g
  rw[E6 op g];exact⟨E6 (p:=.hold s p) op (by cases st with|none=>exact λz=>nomatch z|some l=>exact g),E6 (p:=.watch s p) op (by cases st with|none=>exact λz=>nomatch z|some l=>exact g)⟩
 ·rintro l rfl g
  have ne:=(Ci op).mp g;rw[<-Abv l op];constructor
  ·show lr (.hold s p) (rem l p)=_
   unfold lr;rw[if_neg ne];rfl
  ·show lr (.watch s p) (rem l p)=_
   unfold lr;rw[if_neg ne];rfl
def Vd:Pt->Option (List Int)->Prop
 |.iff _ p q,st=>Vd p st/\Vd q st/\¬(Bh p st=true/\Bh q st=true)
 |.thn p q,st=>Vd p st/\Vd q st
 |.bes p q,st=>Vd p st/\Vd q st
 |.again k p,st=>Vd p st/\∀l,st=some l->k∈l->¬Bh p st=true
 |.hold _ p,st=>Vd p st
 |.watch _ p,st=>Vd p st
 |.trap p,st=>Vd p st
 |_,_=>True
theorem Aed(p:Pt):Vd p none:=by
 induction p with
 |iff s p q a2 a1=>exact⟨a2,a1,λz=>nomatch z.1⟩
 |thn p q a2 a1=>exact⟨a2,a1⟩
 |bes p q a2 a1=>exact⟨a2,a1⟩
 |again k p ih=>exact⟨ih,λl e=>nomatch e⟩
 |hold s p ih=>exact ih
 |watch s p ih=>exact ih
 |trap p ih=>exact ih
 |_=>trivial
theorem Uf{k:Int}{st:Option (List Int)}(op:okE p)(v:∀l,st=some l->k∈l->¬Bh p st=true):pb (.again k p) st=.again k (pb p st):=by
 cases st with
 |none=>rfl
 |some l=>
  show(rem l (.again k p)).2=.again k (rem l p).2
  simp only[rem]
  by_cases c:k∈l
  ·rw[if_pos c]
   have:=E6 op (v l rfl c);show _=Pt.again k (pb p (some l));rw[this]
  ·rw[if_neg c]
   unfold lr;split
   ·rename_i c2;rw[Ll l p c2]
   ·rfl
theorem Oh(h:∀x∈rsL p,(x∈l↔x∈l')):Bh p (some l)=Bh p (some l'):=by
 show(rsL p).any _=(rsL p).any _
 rw[Bool.eq_iff_iff,any_eq_true,any_eq_true];constructor
 ·rintro⟨k,h1,h2⟩;exact⟨k,h1,by simpa using (h k h1).mp (by simpa using h2)⟩
 ·rintro⟨k,h1,h2⟩;exact⟨k,h1,by simpa using (h k h1).mpr (by simpa using h2)⟩
theorem N4(h:∀x∈rsL p,¬x∈l):¬Bh p (some l)=true:=by
 intro g;obtain⟨k,h1,h2⟩:=any_eq_true.mp g;exact h k h1 (by simpa using h2)
theorem Py(h:∀x∈rsL p,(x∈l↔x∈l'))(v:Vd p (some l)):Vd p (some l'):=by
 induction p with
 |iff s p q a2 a1=>
  have h1:∀x∈rsL p,(x∈l↔x∈l'):=λx z=>h x (vX _ z)
  have h2:∀x∈rsL q,(x∈l↔x∈l'):=λx z=>h x (uP _ z)
  refine⟨a2 h1 v.1,a1 h2 v.2.1,?_⟩;rw[<-Oh h1,<-Oh h2];exact v.2.2
 |thn p q a2 a1=>exact⟨a2 (λx z=>h x (vX _ z)) v.1,a1 (λx z=>h x (uP _ z)) v.2⟩
 |bes p q a2 a1=>exact⟨a2 (λx z=>h x (vX _ z)) v.1,a1 (λx z=>h x (uP _ z)) v.2⟩
 |again k p ih=>
  have h1:∀x∈rsL p,(x∈l↔x∈l'):=λx z=>h x (uG _ z)
  refine⟨ih h1 v.1,λl2 e hk=>?_⟩;cases e
  rw[<-Oh h1];exact v.2 l rfl ((h k uF).mpr hk)
 |hold s p ih=>exact ih h v
 |watch s p ih=>exact ih h v
 |trap p ih=>exact ih h v
 |_=>trivial
theorem Hj(h:∀x∈rsL p,¬x∈l):Vd p (some l):=by
 induction p with
 |iff s p q a2 a1=>
  have h1:∀x∈rsL p,¬x∈l:=λx hx=>h x (vX _ hx)
  exact⟨a2 h1,a1 (λx hx=>h x (uP _ hx)),λz=>N4 h1 z.1⟩
 |thn p q a2 a1=>exact⟨a2 (λx hx=>h x (vX _ hx)),a1 (λx hx=>h x (uP _ hx))⟩
 |bes p q a2 a1=>exact⟨a2 (λx hx=>h x (vX _ hx)),a1 (λx hx=>h x (uP _ hx))⟩
 |again k p ih=>
  have h1:∀x∈rsL p,¬x∈l:=λx hx=>h x (uG _ hx)
  exact⟨ih h1,λl2 e hk=>by cases e;exact absurd hk (h k uF)⟩
 |hold s p ih=>exact ih h
 |watch s p ih=>exact ih h
 |trap p ih=>exact ih h
 |_=>trivial
def rsX:Pt->List Int
 |.rest k=>[k]
 |.stay ks=>ks
 |.again k p=>k::rsX p
 |.iff _ p q=>rsX p++rsX q
 |.thn p q=>rsX p++rsX q
 |.bes p q=>rsX p++rsX q
 |.hold _ p=>rsX p
 |.watch _ p=>rsX p
 |.trap p=>rsX p
 |_=>[]
theorem Agf(h:okE p):rsX p=rsL p:=by
 induction p with
 |stay ks=>exact h.elim
 |nothing=>rfl
 |send s=>rfl
 |exit d=>rfl
 |rest k=>rfl
 |iff s p q a1 z=>simp only[rsX,rsL,a1 h.1,z h.2]
 |thn p q a1 z=>simp only[rsX,rsL,a1 h.1,z h.2]
 |bes p q a1 z=>simp only[rsX,rsL,a1 h.1,z h.2]
 |again k p ih=>simp only[rsX,rsL,ih h]
 |hold s p ih=>exact ih h
 |watch s p ih=>exact ih h
 |trap p ih=>exact ih h
theorem AfL{x:Int}:x∈(beg th p).2.2->x∈rsX p:=by
 induction p with
 |nothing=>exact λh=>h
 |send s=>exact λh=>h
 |exit d=>exact λh=>h
 |stay ks=>exact λh=>h
 |rest k=>exact λh=>h
 |iff s p q a2 a1=>
  simp only[beg,rsX,uW];split
  ·exact λh=>.inl (a2 h)
  ·exact λh=>.inr (a1 h)
 |thn p q a2 a1=>
  simp only[beg,rsX,uW];split
  ·exact λh=>.inr (a1 h)
  ·exact λh=>.inl (a2 h)
 |bes p q a2 a1=>
  simp only[beg,rsX,uW,Im];generalize (if (beg th q).1>(beg th p).1 then(beg th q).1 else(beg th p).1)=c;split
  ·intro h
   rcases uW.mp h with z|z
   ·exact .inl (a2 z)
   ·exact .inr (a1 z)
  ·intro h;cases h
 |again k p ih=>
  simp only[beg,rsX,Rc,vJ];split
  ·intro h;exact .inl (by simpa using h)
  ·exact λh=>.inr (ih h)
 |hold s p ih=>exact ih
 |watch s p ih=>exact ih
 |trap p ih=>exact ih
theorem Adm{st:List Int}{x:Int}:x∈(rem st p).1->x∈rsX p/\x∈st:=by
 induction p with
 |nothing=>intro h;cases h
 |send s=>intro h;cases h
 |exit d=>intro h;cases h
 |stay ks=>intro h;cases h
 |rest k=>
  simp only[rem];split
  ·rename_i c;intro h;rw[vD]at h;subst h;exact⟨by simp[rsX],c⟩
  ·intro h;cases h
 |iff s p q a2 a1=>simp only[rem,rsX,uW];exact λh=>h.elim (λz=>⟨.inl (a2 z).1,(a2 z).2⟩) λz=>⟨.inr (a1 z).1,(a1 z).2⟩
 |thn p q a2 a1=>simp only[rem,rsX,uW];exact λh=>h.elim (λz=>⟨.inl (a2 z).1,(a2 z).2⟩) λz=>⟨.inr (a1 z).1,(a1 z).2⟩
 |bes p q a2 a1=>simp only[rem,rsX,uW];exact λh=>h.elim (λz=>⟨.inl (a2 z).1,(a2 z).2⟩) λz=>⟨.inr (a1 z).1,(a1 z).2⟩
 |again k p ih=>
  simp only[rem];split
  ·rename_i c
   intro h;rcases uW.mp h with z|z
   ·rw[vD]at z;subst z;exact⟨by simp[rsX],c⟩
   ·exact⟨uG _ (ih z).1,(ih z).2⟩
  ·exact λh=>⟨uG _ (ih h).1,(ih h).2⟩
 |hold s p ih=>exact ih
 |watch s p ih=>exact ih
 |trap p ih=>exact ih
theorem Aeq{st:List Int}{x:Int}:x∈rsX (rem st p).2->x∈rsX p:=by
 have a3:∀(p:Pt),∀x∈rsX (rem st p).2,x∈rsX p:=by
  intro p
  induction p with
  |nothing=>exact λx h=>h
  |send s=>exact λx h=>h
  |exit d=>exact λx h=>h
  |stay ks=>exact λx h=>h
  |rest k=>
   intro x;simp only[rem];split
   ·intro h;cases h
   ·exact λh=>h
  |iff s p q a1 a2=>exact Z7 (f:=λz=>∀x∈rsX z,x∈rsX (.iff s p q)) (p:=.iff s p q) (a:=rem st p) (b:=rem st q) (λx h=>h) (λx h=>vX _ (a1 x h)) (λx h=>uP _ (a2 x h)) (λ_ _ e=>nomatch e) (λ_ _ e=>nomatch e)
  |thn p q a1 a2=>exact Z7 (f:=λz=>∀x∈rsX z,x∈rsX (.thn p q)) (p:=.thn p q) (a:=rem st p) (b:=rem st q) (λx h=>h) (λx h=>vX _ (a1 x h)) (λx h=>uP _ (a2 x h)) (λ_ _ e=>by cases e;exact λx h=>(uW.mp h).elim (λz=>vX _ (a1 x z)) λz=>uP _ z) (λ_ _ e=>nomatch e)
  |bes p q a1 a2=>exact Z7 (f:=λz=>∀x∈rsX z,x∈rsX (.bes p q)) (p:=.bes p q) (a:=rem st p) (b:=rem st q) (λx h=>h) (λx h=>vX _ (a1 x h)) (λx h=>uP _ (a2 x h)) (λ_ _ e=>nomatch e) (λ_ _ e=>by cases e;exact λx h=>(uW.mp h).elim (λz=>vX _ (a1 x z)) λz=>uP _ (a2 x z))
  |again k p ih=>
   intro x;simp only[rem];split
   ·exact λh=>h
   ·unfold lr;split
    ·exact λh=>h
    ·intro h
     rcases vJ.mp h with z|z
     ·exact vJ.mpr (.inl z)
     ·exact vJ.mpr (.inr (ih x z))
  |hold s p ih=>
   intro x;show x∈rsX (lr (.hold s p) (rem st p))->_;unfold lr;split
   ·exact λh=>h
   ·intro h
    rcases uW.mp h with z|z
    ·exact(Adm z).1
    ·exact ih x z
  |watch s p ih=>
   intro x;show x∈rsX (lr (.watch s p) (rem st p))->_;unfold lr;split
   ·exact λh=>h
   ·intro h
    rcases uW.mp h with z|z
    ·cases z
    ·exact ih x z
  |trap p ih=>
   intro x;show x∈rsX (lr (.trap p) (rem st p))->_;unfold lr;split
   ·exact λh=>h
   ·exact ih x
 exact a3 p x
theorem Eo{st:Option (List Int)}(h:okE p){x:Int}(z:x∈(beg th (pb p st)).2.2):x∈rsL p:=by
 have h2:=AfL z;rw[<-Agf h];cases st with
 |none=>exact h2
 |some l=>exact Aeq h2
theorem Ad1{st:Option (List Int)}(h:okE p)(nd:(rsL p).Nodup)(v:Vd p st):Vd p (some (beg th (pb p st)).2.2):=by
 induction p with
 |nothing=>trivial
 |send s=>trivial
 |exit d=>trivial
 |stay ks=>exact h.elim
 |rest k=>trivial
 |iff s p q a2 a1=>
  obtain⟨n1,n2,n3⟩:=nodup_append.mp nd;have i1:=a2 h.1 n1 v.1;have i2:=a1 h.2 n2 v.2.1
  have A:∀L:List Int,(∀x∈L,x∈rsL p)->Vd p (some L)->Vd (.iff s p q) (some L):=λL hL vL=>by
   have no:∀x∈rsL q,¬x∈L:=λx hx z=>n3 x (hL x z) x hx rfl
   exact⟨vL,Hj no,λz=>N4 no z.2⟩
  have B:∀L:List Int,(∀x∈L,x∈rsL q)->Vd q (some L)->Vd (.iff s p q) (some L):=λL hL vL=>by
   have no:∀x∈rsL p,¬x∈L:=λx hx z=>n3 x hx x (hL x z) rfl
   exact⟨Hj no,vL,λz=>N4 no z.1⟩
  rw[AbJ h.1 h.2]
  by_cases c1:Bh p st=true
  ·rw[if_pos c1];exact A _ (λx hx=>Eo h.1 hx) i1
  ·rw[if_neg c1]
   by_cases c2:Bh q st=true
   ·rw[if_pos c2];exact B _ (λx hx=>Eo h.2 hx) i2
   ·rw[if_neg c2]
    rw[E6 h.1 c1]at i1;rw[E6 h.2 c2]at i2;simp only[beg];split
    ·exact A _ (λx hx=>Eo (st:=none) h.1 hx) i1
    ·exact B _ (λx hx=>Eo (st:=none) h.2 hx) i2
 |thn p q a2 a1=>
  obtain⟨n1,n2,n3⟩:=nodup_append.mp nd;have i1:=a2 h.1 n1 v.1;have i2:=a1 h.2 n2 v.2;have A:∀L:List Int,(∀x∈L,x∈rsL p)->Vd p (some L)->Vd (.thn p q) (some L):=λL hL vL=>⟨vL,Hj λx hx z=>n3 x (hL x z) x hx rfl⟩
  have B:∀L:List Int,(∀x∈L,x∈rsL q)->Vd q (some L)->Vd (.thn p q) (some L):=λL hL vL=>⟨Hj λx hx z=>n3 x hx x (hL x z) rfl,vL⟩
  by_cases c:Bh q st=true
  ·rw[Xw h.2 c];exact B _ (λx hx=>Eo h.2 hx) i2
  ·rw[Yi h.2 c]
   rw[E6 h.2 c]at i2;simp only[beg];split
   ·exact B _ (λx hx=>Eo (st:=none) h.2 hx) i2
   ·exact A _ (λx hx=>Eo h.1 hx) i1
 |bes p q a2 a1=>
  obtain⟨n1,n2,n3⟩:=nodup_append.mp nd;have i1:=a2 h.1 n1 v.1;have i2:=a1 h.2 n2 v.2;have A:∀L:List Int,(∀x∈L,x∈rsL p)->Vd p (some L)->Vd (.bes p q) (some L):=λL hL vL=>⟨vL,Hj λx hx z=>n3 x (hL x z) x hx rfl⟩
  have B:∀L:List Int,(∀x∈L,x∈rsL q)->Vd q (some L)->Vd (.bes p q) (some L):=λL hL vL=>⟨Hj λx hx z=>n3 x hx x (hL x z) rfl,vL⟩
  rw[Abq h.1 h.2]
  by_cases c:(Bh p st=true↔Bh q st=true)
  ·rw[if_pos c]
   show Vd _ (some (if (if (beg th (pb q st)).1>(beg th (pb p st)).1 then(beg th (pb q st)).1 else(beg th (pb p st)).1)=(1:Int) then(beg th (pb p st)).2.2++(beg th (pb q st)).2.2 else []))
   generalize (if (beg th (pb q st)).1>(beg th (pb p st)).1 then(beg th (pb q st)).1 else(beg th (pb p st)).1)=c0;split
   ·refine⟨Py (λx hx=>?_) i1,Py (λx hx=>?_) i2⟩
    ·rw[uW]
     exact⟨.inl,λz=>z.elim id λz=>absurd rfl (n3 x hx x (Eo h.2 z))⟩
    ·rw[uW]
     exact⟨.inr,λz=>z.elim (λz=>absurd rfl (n3 x (Eo h.1 z) x hx)) id⟩
   ·exact⟨Hj λ_ _ z=>(by cases z),Hj λ_ _ z=>(by cases z)⟩
  ·rw[if_neg c]
   by_cases c1:Bh p st=true
   ·rw[if_pos c1];exact A _ (λx hx=>Eo h.1 hx) i1
   ·rw[if_neg c1];exact B _ (λx hx=>Eo h.2 hx) i2
 |again k p ih=>
  have a3:=vR.mp nd;have i:=ih h a3.2 v.1;have o:okE p:=h;rw[Uf o v.2];show Vd _ (some (if (beg th (pb p st)).1=0 then [k] else(beg th (pb p st)).2.2));split
  ·have no:∀x∈rsL p,¬x∈[k]:=λx hx z=>by rw[vD]at z;subst z;exact a3.1 hx
   exact⟨Hj no,λl e _=>by cases e;exact N4 no⟩
  ·exact⟨i,λl e hk=>by cases e;exact absurd (Eo o hk) a3.1⟩
 |hold s p ih=>
  have i:=ih h nd v
  by_cases c:Bh p st=true
  ·cases st with
   |none=>cases c
   |some l=>
    rw[((Km (show okE p from h)).2 l rfl c).1];simp only[beg];split
    ·show Vd p (some ((rsL p).filter λk=>decide (k∈l)))
     refine Py (λx hx=>?_) v;rw[mem_filter];exact⟨λz=>⟨hx,by simpa using z⟩,λz=>by simpa using z.2⟩
    ·exact i
  ·rw[((Km (show okE p from h)).1 c).1];exact i
 |watch s p ih=>
  have i:=ih h nd v
  by_cases c:Bh p st=true
  ·cases st with
   |none=>cases c
   |some l=>
    rw[((Km (show okE p from h)).2 l rfl c).2];simp only[beg];split
    ·exact Hj (p:=p) λ_ _ z=>(by cases z)
    ·exact i
  ·rw[((Km (show okE p from h)).1 c).2];exact i
 |trap p ih=>
  rw[Xy];exact ih h nd v
end My
namespace Dsk
open PySem L2 My
theorem Ck(h:okN n p):okE p:=by
 induction p with
 |exit d=>exact h.1
 |stay _=>exact h
 |iff s p q i1 i2=>exact⟨i1 h.2.1,i2 h.2.2⟩
 |thn p q i1 i2=>exact⟨i1 h.1,i2 h.2⟩
 |bes p q i1 i2=>exact⟨i1 h.1,i2 h.2⟩
 |again k p i=>exact i h
 |hold s p i=>exact i h.2
 |watch s p i=>exact i h.2
 |trap p i=>exact i h
 |_=>trivial
theorem Nb(h:okN n p):okW n p:=by
 induction p with
 |send s=>exact h
 |exit d=>exact h
 |stay _=>exact trivial
 |iff s p q i1 i2=>exact⟨h.1,i1 h.2.1,i2 h.2.2⟩
 |thn p q i1 i2=>exact⟨i1 h.1,i2 h.2⟩
 |bes p q i1 i2=>exact⟨i1 h.1,i2 h.2⟩
 |again k p i=>exact i h
 |hold s p i=>exact⟨h.1,i h.2⟩
 |watch s p i=>exact⟨h.1,i h.2⟩
 |trap p i=>exact i h
 |_=>trivial
theorem G4(ρ:Vn)(p:Pt):rsB ρ p=Bh p ρ.st:=by
 cases e:ρ.st with
 |none=>
  induction p<;>simp_all[rsB,Bh,Vn.m]
 |some l=>
  induction p<;>simp_all[rsB,Bh,Vn.m,rsL]
def wv(w:Wk)(c:Int):Option Bool:=if c∈w.1 then(if w.2.1=true then some true else none) else some false
def wD(w:Wk)(i:Int):Option Bool:=if i∈w.2.2.1 then some true else if i∈w.2.2.2 then none else some false
def wK(kn:List (Option Bool)):Option Bool->Pt->Wk
 |some false,_=>([],false,[],[])
 |some true,q=>wbeg kn true q
 |none,q=>wbeg kn false q
theorem Ej(a:Option Bool):an3 a (some false)=some false:=by rcases a with _|_|_<;>rfl
theorem Lo{w:Wk}(h:∀c∈w.1,0<=c/\c<=5)(P:Int->Bool):Bf P (wv w)=if ∃c∈w.1,P c=true then(if w.2.1=true then some true else none) else some false:=by
 unfold Bf;rw[M4]
 have a1:∀v:Option Bool,v≠some false->(v∈((List.range 6).filter λ(i:Nat)=>P (i:Int)).map (λ(i:Nat)=>wv w (i:Int))↔(∃c∈w.1,P c=true)/\v=if w.2.1=true then some true else none):=λv nv=>by
  constructor
  ·intro hv
   obtain⟨i,hi,rfl⟩:=vT.mp hv;have hP:=(mem_filter.mp hi).2;unfold wv at nv ⊢
   by_cases c:(i:Int)∈w.1
   ·rw[if_pos c];exact⟨⟨_,c,hP⟩,Z⟩
   ·rw[if_neg c]at nv;exact absurd rfl nv
  ·rintro⟨⟨c,hc,hP⟩,rfl⟩
   have b:=h c hc;have en:=Int.toNat_of_nonneg b.1;exact vT.mpr ⟨c.toNat,mem_filter.mpr ⟨mem_range.mpr (by omega),by rw[en];exact hP⟩,by rw[en];unfold wv;rw[if_pos hc]⟩
 simp only[a1 (some true) (by simp),a1 none (by simp)]
 by_cases c:∃c∈w.1,P c=true
 ·rw[if_pos c]
  by_cases z:w.2.1=true
  ·simp[z,c]
  ·simp[z,c]
 ·rw[if_neg c]
  simp[c]
theorem Cr{w:Wk}(h:∀c∈w.1,0<=c/\c<=5)(c:Int):Bf (isC c) (wv w)=wv w c:=by
 rw[Lo h];unfold wv isC
 by_cases z:c∈w.1
 ·rw[if_pos z,if_pos ⟨c,z,uI rfl⟩]
 ·rw[if_neg z,if_neg]
  rintro⟨d,hd,e⟩;exact z (uK e▸hd)
theorem Uj(a b:Wk)(l:List Int)(s:Bool)(i:Int):wD (l,s,a.2.2.1++b.2.2.1,a.2.2.2++b.2.2.2) i=or3 (wD a i) (wD b i):=by
 unfold wD
 by_cases h1:i∈a.2.2.1<;>by_cases h2:i∈b.2.2.1<;>by_cases h3:i∈a.2.2.2<;>by_cases z:i∈b.2.2.2<;>simp[h1,h2,h3,z,or3]
theorem Os{a:List Int}(ha:0<a.length)(hb:0<b.length):c∈(nub (a++b)).filter (λc=>decide (mx (Bk a) (Bk b)<=c))↔(c∈a\/c∈b)/\(∃d∈a,decide (d<=c)=true)/\∃d∈b,decide (d<=c)=true:=by
 have lo:∀{l:List Int},0<l.length->(Bk l<=c↔∃d∈l,decide (d<=c)=true):=λ{l}h=>⟨λz=>⟨_,(Fb h).1,uI z⟩,λ⟨d,hd,z⟩=>Int.le_trans ((Fb h).2 d hd) (uK z)⟩
 rw[mem_filter,Bc,uW,decide_eq_true_iff,<-lo ha,<-lo hb];have m1:=Aaq (Bk a) (Bk b);have m2:=Aah (Bk a) (Bk b);have m3:=AdB (Bk a) (Bk b);constructor
 ·exact λ⟨x,y⟩=>⟨x,Int.le_trans m1 y,Int.le_trans m2 y⟩
 ·exact λ⟨x,y,z⟩=>⟨x,by rcases m3 with e|e<;>rw[e]<;>assumption⟩
theorem Ql{a:Wk}(ha:Cw a.1)(z:Cw b.1)(c:Int):gtC (wv a) (wv b) c=wv (Gb a b) c:=by
 have bd:∀{l:List Int},Cw l->∀c∈l,0<=c/\c<=5:=λh c hc=>by have:=h.bd c hc;omega
 have m:=Os ha.ne z.ne (c:=c);unfold gtC;rw[Lo (bd ha),Lo (bd z)];unfold wv Gb;simp only[m]
 by_cases h1:c∈a.1<;>by_cases h2:c∈b.1<;>by_cases h3:(∃d∈a.1,decide (d<=c)=true)<;>by_cases h4:(∃d∈b.1,decide (d<=c)=true)<;>cases h5:a.2.1<;>cases h6:b.2.1<;>simp only[h1,h2,h3,h4,↓reduceIte,or_true,true_or,or_self,and_true,true_and,and_false,false_and,and_self,Bool.and_true,Bool.and_false,Bool.and_self,Bool.false_eq_true]<;>rfl
theorem Tb{a:Wk}(ha:Cw a.1)(hs:a.2.1=true->s=true)(c:Int):wv (Gb a ([0],s,[],[])) c=wv a c/\wv (Gb ([0],s,[],[]) a) c=wv a c:=by
 have z1:0<([0]:List Int).length:=by decide
 have m1:=Os ha.ne z1 (c:=c);have m2:=Os z1 ha.ne (c:=c)
 have a1:((c∈a.1\/c∈[0])/\(∃d∈a.1,decide (d<=c)=true)/\∃d∈[(0:Int)],decide (d<=c)=true)↔c∈a.1:=by
  constructor
  ·rintro⟨h1,⟨d,hd,z⟩,_⟩
   rcases h1 with h1|h1
   ·exact h1
   ·have e:=mS h1
    have:=ha.bd d hd;have z:=uK z;have:d=c:=by omega
    exact this▸hd
  ·exact λh=>⟨.inl h,⟨c,h,uI (Int.le_refl _)⟩,0,vD.mpr rfl,uI (ha.bd c h).1⟩
 unfold wv Gb;constructor
 ·simp only[m1,a1]
  cases e:a.2.1 with
  |false=>simp
  |true=>simp[hs e]
 ·simp only[m2,or_comm,and_comm (a:=∃d∈[(0:Int)],decide (d<=c)=true),a1]
  cases e:a.2.1 with
  |false=>simp
  |true=>simp[hs e]
theorem Io(h:okW n q)(r:Option Bool):∀c∈(wK kn r q).1,0<=c/\c<=5:=λc hc=>by
 have b:∀s,c∈(wbeg kn s q).1->0<=c/\c<=5:=λs z=>by have:=(Jg kn h s).bd c z;omega
 rcases r with _|_|_
 ·exact b _ hc
 ·cases hc
 ·exact b _ hc
theorem X2{w:Wk}(h:∀c∈w.1,0<=c/\c<=5)(f:Int->Int)(c:Int):Bf (λi=>isC c (f i)) (wv w)=wv (Mx f w) c:=by
 rw[Lo h];unfold wv Mx isC
 have:(∃d∈w.1,decide (f d=c)=true)↔c∈nub (w.1.map f):=by
  rw[Bc,vT];exact⟨λ⟨d,hd,z⟩=>⟨d,hd,uK z⟩,λ⟨d,hd,z⟩=>⟨d,hd,uI z⟩⟩
 simp only[this]
theorem Afc(c:Int):wv ([],false,[],[]) c=some false:=rfl
theorem Aeg(i:Int):wD ([],false,[],[]) i=some false:=rfl
theorem Zn(st:Option (List Int))(h:∀l,(rem l p).2=p):pb p st=p:=by
 cases st with
 |none=>rfl
 |some l=>exact h l
def SW(ρ:Vn)(kn:List (Option Bool))(p:Pt):Prop:=∀r,(sem ρ p r).1=wv (wK kn r (pb p ρ.st))/\∀i:Nat,(sem ρ p r).2 i=wD (wK kn r (pb p ρ.st)) i
theorem SW.off(h:SW ρ kn p):(sem ρ p (some false)).1=(λ_=>some false)/\∀i,(sem ρ p (some false)).2 i=some false:=⟨(h _).1.trans (funext Afc),λi=>((h _).2 i).trans (Aeg _)⟩
theorem G8(P:Int->Bool):Bf P (λ_=>some false)=some false:=by
 unfold Bf;rw[M4,if_neg (by simp),if_neg (by simp)]
theorem AcX{a:Wk}(bd:∀c∈a.1,0<=c/\c<=5)(h0:0∈a.1)(hs:b.2.1=true->a.2.1=true)(h1:a.2.1=true->∃c,a.1=[c])(c:Int):or3 (Bf (λi=>!decide (i=0)&&isC c i) (wv a)) (wv b c)=wv (Iq a b) c:=by
 have m:c∈nub (a.1.filter (λc=>!decide (c=0))++b.1)↔(∃d∈a.1,(!decide (d=0)&&isC c d)=true)\/c∈b.1:=by
  rw[Bc,uW,mem_filter];refine or_congr_left ⟨λ⟨x,y⟩=>⟨c,x,by simp at y;simp[y,isC]⟩,λ⟨d,x,y⟩=>?_⟩;simp[isC]at y;rw[<-y.2];exact⟨x,by simp[y.1]⟩
 rw[Lo bd];unfold wv Iq;simp only[m];cases e:a.2.1 with
 |true=>
  obtain⟨d,ed⟩:=h1 e
  have no:¬ ∃d∈a.1,(!decide (d=0)&&isC c d)=true:=by
   rintro⟨x,hx,hy⟩;rw[ed]at hx h0;have:=mS hx;have:=mS h0;simp at hy;omega
  rw[if_neg no];simp only[no,false_or];rfl
 |false=>
  have eb:b.2.1=false:=by cases z:b.2.1 with|false=>rfl|true=>rw[hs z]at e;cases e
  by_cases x:(∃d∈a.1,(!decide (d=0)&&isC c d)=true)<;>by_cases y:c∈b.1<;>simp only[x,y,eb,if_true,if_false,true_or,or_true,or_false,false_or,Bool.false_eq_true]<;>rfl
theorem Xb{a:Wk}(ea:a.2.1=false)(z:b.2.1=false)(c:Int):or3 (wv a c) (wv b c)=wv (Ig a b) c:=by
 have m:c∈nub (a.1++b.1)↔c∈a.1\/c∈b.1:=by rw[Bc,uW]
 unfold wv Ig;simp only[m,ea,z]
 by_cases x:c∈a.1<;>by_cases y:c∈b.1<;>simp only[x,y,if_true,if_false,true_or,or_true,or_false,false_or,Bool.false_eq_true,or_self]<;>rfl
theorem AdC{a:Wk}(ea:a.2.2.1=[])(z:b.2.2.1=[])(i:Int):or3 (wD a i) (wD b i)=wD (Ig a b) i:=by
 have:=Uj a b (nub (a.1++b.1)) false i;rw[ea,z]at this;exact this.symm
theorem Yt(hk:∀x:Int,0<=x->x<n->ρ.v x=(kn[x.toNat]?).getD none){f:Pt}{x k:Int}{g:List Int->Pt}(ox:0<=x/\x<n)(oe:okE p)(ob:okW n (pb p ρ.st))(I1:SW ρ kn p)
  (es:∀r,sem ρ f r=(λc=>or3 (Bf (isC c) (sem ρ p (an3 r (or3 (nt3 (some (rsB ρ p))) (nt3 (ρ.v x))))).1) (one k (an3 r (an3 (some (rsB ρ p)) (ρ.v x))) c),(sem ρ p (an3 r (or3 (nt3 (some (rsB ρ p))) (nt3 (ρ.v x))))).2)) (er:rsB ρ f=rsB ρ p)
  (ef:∀s,wbeg kn s f=wbeg kn s p) (h1:¬Bh p ρ.st=true->pb f ρ.st=f) (h2:∀l,ρ.st=some l->Bh p ρ.st=true->∃l',pb f ρ.st=.iff x (g l') (pb p ρ.st)) (eg:∀l s,wbeg kn s (g l)=([k],s,[],[])):SW ρ kn f:=by
 intro r;rw[es];have e1:=G4 ρ p;have bd:=λr=>Io (kn:=kn) ob r
 cases g1:Bh p ρ.st with
 |false=>
  rw[g1]at e1;have a2:¬Bh p ρ.st=true:=by rw[g1];exact qc
  rw[h1 a2,e1];have p1:=E6 oe a2;obtain⟨a,b⟩:=I1 r;have e0:∀u,an3 r (or3 (nt3 (some false)) u)=r:=λu=>B4 r
  have a4:∀u,one k (an3 r (an3 (some false) u))=λ_=>some false:=λu=>by
   rw[show an3 (some false) u=some false from rfl,Ej];exact funext λc=>ite_self _
  rw[e0,a4];have e:wK kn r f=wK kn r (pb p ρ.st):=by rw[p1];rcases r with _|_|_<;>first|rfl|exact ef _
  rw[e];refine⟨funext λc=>?_,b⟩;show or3 _ (some false)=_;rw[Bj,a,Cr (bd r)]
 |true=>
  rw[g1]at e1
  obtain⟨l,el⟩:∃l,ρ.st=some l:=by
   cases z:ρ.st with
   |none=>rw[z]at g1;cases g1
   |some l=>exact⟨l,rfl⟩
  obtain⟨l',eh⟩:=h2 l el g1;rw[eh,e1,hk x ox.1 ox.2]
  have ew:∀s,wbeg kn s (.iff x (g l') (pb p ρ.st))=match (kn[x.toNat]?).getD none with
   |none=>Ig (wbeg kn false (g l')) (wbeg kn false (pb p ρ.st))
   |some true=>wbeg kn s (g l')
   |some false=>wbeg kn s (pb p ρ.st):=λs=>rfl
  have a1:∀s c,one k (if s=true then some true else none) c=wv ([k],s,[],[]) c:=λs c=>by unfold one wv;simp
  cases hx:(kn[x.toNat]?).getD none with
  |none=>
   rw[hx]at ew;obtain⟨n2,m2⟩:=Ld kn (pb p ρ.st)
   have a3:(λc=>or3 (Bf (isC c) (sem ρ p none).1) (one k none c))=wv (Ig ([k],false,[],[]) (wbeg kn false (pb p ρ.st)))/\∀i:Nat,(sem ρ p none).2 i=wD (Ig ([k],false,[],[]) (wbeg kn false (pb p ρ.st))) i:=by
    obtain⟨a,b⟩:=I1 none;refine⟨funext λc=>?_,λi=>?_⟩
    ·rw[a,Cr (bd none),or3_c,show one k none c=wv ([k],false,[],[]) c from a1 false c]
     exact Xb rfl n2 c
    ·rw[b,<-AdC (a:=([k],false,[],[])) rfl m2]
     rfl
   rcases r with _|_|_
   ·show _=wv (wbeg kn false _)/\∀i:Nat,_=wD (wbeg kn false _) i
    rw[ew,eg];exact a3
   ·obtain⟨f1,f2⟩:=I1.off
    refine⟨funext λc=>?_,f2⟩;show or3 (Bf (isC c) (sem ρ p (some false)).1) (one k (some false) c)=some false;rw[f1,G8,show one k (some false) c=some false from ite_self _];rfl
   ·show _=wv (wbeg kn true _)/\∀i:Nat,_=wD (wbeg kn true _) i
    rw[ew,eg];exact a3
  |some y=>
   rw[hx]at ew;cases y with
   |true=>
    show(λc=>or3 (Bf (isC c) (sem ρ p (an3 r (some false))).1) (one k (an3 r (some true)) c))=_/\∀i:Nat,(sem ρ p (an3 r (some false))).2 i=_
    obtain⟨f1,f2⟩:=I1.off;rw[Ej,B4,f1];have e:wK kn r (.iff x (g l') (pb p ρ.st))=wK kn r (g l'):=by rcases r with _|_|_<;>first|rfl|exact ew _
    rw[e];refine⟨funext λc=>?_,λi=>?_⟩
    ·rw[G8]
     rcases r with _|_|_
     ·show or3 _ _=wv (wbeg kn false _) c;rw[eg];exact a1 false c
     ·exact(show or3 (some false) (one k (some false) c)=some false from ite_self _)
     ·show or3 _ _=wv (wbeg kn true _) c;rw[eg];exact a1 true c
    ·rw[f2]
     rcases r with _|_|_
     ·show _=wD (wbeg kn false _) i;rw[eg];rfl
     ·rfl
     ·show _=wD (wbeg kn true _) i;rw[eg];rfl
   |false=>
    show(λc=>or3 (Bf (isC c) (sem ρ p (an3 r (some true))).1) (one k (an3 r (some false)) c))=_/\∀i:Nat,(sem ρ p (an3 r (some true))).2 i=_
    rw[Ej,B4];obtain⟨a,b⟩:=I1 r;have e:wK kn r (.iff x (g l') (pb p ρ.st))=wK kn r (pb p ρ.st):=by rcases r with _|_|_<;>first|rfl|exact ew _
    rw[e];refine⟨funext λc=>?_,b⟩;rw[show one k (some false) c=some false from ite_self _,Bj,a,Cr (bd r)]
theorem AcP{ρ:Vn}{kn:List (Option Bool)}(hk:∀x:Int,0<=x->x<n->ρ.v x=(kn[x.toNat]?).getD none)(ok:okN n p)(vd:Vd p ρ.st):SW ρ kn p:=by
 have a4:∀{q:Pt},okN n q->okW n (pb q ρ.st):=λ{q}h=>by
  cases ρ.st with
  |none=>exact Nb h
  |some l=>exact Yk l (Nb h)
 have lf:∀{q:Pt}{k:Int},(∀s,wbeg kn s q=([k],s,[],[]))->∀r,one k r=wv (wK kn r q)/\∀i:Nat,some false=wD (wK kn r q) i:=λ{q k}e r=>by
  refine⟨funext λc=>?_,λi=>?_⟩
  ·rcases r with _|_|_<;>simp[one,wv,wK,e]
  ·rcases r with _|_|_<;>simp[wD,wK,e]
 induction p with
 |nothing=>intro r;rw[Zn _ λ_=>rfl];exact lf (λ_=>rfl) r
 |send x=>
  intro r;rw[Zn _ λ_=>rfl];refine⟨funext λc=>?_,λi=>?_⟩
  ·rcases r with _|_|_<;>simp[sem,one,wv,wK,wbeg]
  ·rcases r with _|_|_<;>simp[sem,one,wD,wK,wbeg]<;>split<;>simp_all
 |exit d=>intro r;rw[Zn _ λ_=>rfl];exact lf (λ_=>rfl) r
 |stay _=>cases ok
 |rest k=>
  intro r
  have a0:∀c,Qv ρ k r c=if ρ.m k=true then one 0 r c else one 1 r c:=λc=>by
   unfold Qv one;cases ρ.m k
   ·show or3 (if c=0 then an3 r (some false) else some false) (if c=1 then an3 r (some true) else some false)=if c=1 then r else some false
    rw[Ej,B4,ite_self];rfl
   ·show or3 (if c=0 then an3 r (some true) else some false) (if c=1 then an3 r (some false) else some false)=if c=0 then r else some false
    rw[Ej,B4,ite_self,Bj]
  have e:pb (.rest k) ρ.st=if ρ.m k=true then .nothing else .rest k:=by
   unfold Vn.m;cases ρ.st with
   |none=>rfl
   |some l=>by_cases h:k∈l<;>simp[pb,rem,h]
  rw[e];cases hm:ρ.m k with
  |true=>
   obtain⟨x,y⟩:=lf (q:=.nothing) (k:=0) (λ_=>rfl) r;exact⟨(funext λc=>(a0 c).trans (by rw[hm];rfl)).trans x,y⟩
  |false=>
   obtain⟨x,y⟩:=lf (q:=.rest k) (k:=1) (λ_=>rfl) r;exact⟨(funext λc=>(a0 c).trans (by rw[hm];rfl)).trans x,y⟩
 |thn p q i1 i2=>
  have I1:=i1 ok.1 vd.1;have I2:=i2 ok.2 vd.2;intro r;have eq:=G4 ρ q;cases g:Bh q ρ.st with
  |true=>
   rw[g]at eq;rw[Xw (Ck ok.2) g];obtain⟨f1,f2⟩:=I1.off;obtain⟨x,y⟩:=I2 r;simp only[sem,eq,nt3,Option.map_some,Bool.not_true,Ej,B4,f1,f2,Bj,G8];refine⟨funext λc=>?_,λi=>y i⟩;show Bf (isC c) _=_;rw[x,Cr (Io (a4 ok.2) r)]
  |false=>
   rw[g]at eq;have g':¬Bh q ρ.st=true:=by rw[g];exact qc
   rw[Yi (Ck ok.2) g'];obtain⟨x,y⟩:=I1 r;have eb:=E6 (Ck ok.2) g';simp only[sem,eq,nt3,Option.map_some,Bool.not_false,Ej,B4];obtain⟨x',y'⟩:=I2 ((sem ρ p r).1 0);rw[eb]at x' y';have e0:or3 (some false) ((sem ρ p r).1 0)=(sem ρ p r).1 0:=rfl;simp only[e0,x',y',y];rw[x];have b1:=Io (kn:=kn) (a4 ok.1) r;have b2:=Io (kn:=kn) (Nb ok.2) (wv (wK kn r (pb p ρ.st)) 0);simp only[Cr b2]
   have a3:∀s:Bool,r=(if s=true then some true else none)->(λc=>or3 (Bf (λi=>!decide (i=0)&&isC c i) (wv (wK kn r (pb p ρ.st)))) (wv (wK kn (wv (wK kn r (pb p ρ.st)) 0) q) c))=wv (wK kn r (.thn (pb p ρ.st) q))/\∀i:Nat,or3 (wD (wK kn r (pb p ρ.st)) i) (wD (wK kn (wv (wK kn r (pb p ρ.st)) 0) q) i)=wD (wK kn r (.thn (pb p ρ.st) q)) i:=λs hr=>by
    have ew:∀q',wK kn r q'=wbeg kn s q':=λq'=>by rw[hr];cases s<;>rfl
    rw[ew,ew];rw[ew]at b1
    by_cases c0:0∈(wbeg kn s (pb p ρ.st)).1
    ·have ev:wK kn (wv (wbeg kn s (pb p ρ.st)) 0) q=wbeg kn (wbeg kn s (pb p ρ.st)).2.1 q:=by
      unfold wv;rw[if_pos c0];cases (wbeg kn s (pb p ρ.st)).2.1<;>rfl
     rw[ev];have et:wbeg kn s (.thn (pb p ρ.st) q)=Iq (wbeg kn s (pb p ρ.st)) (wbeg kn (wbeg kn s (pb p ρ.st)).2.1 q):=if_pos c0;rw[et];exact⟨funext λc=>AcX b1 c0 (λz=>No z) (Ux kn (a4 ok.1) s) c,λi=>(Uj _ _ _ _ _).symm⟩
    ·have ev:wv (wbeg kn s (pb p ρ.st)) 0=some false:=if_neg c0
     have et:wbeg kn s (.thn (pb p ρ.st) q)=wbeg kn s (pb p ρ.st):=if_neg c0;rw[ev,et];refine⟨funext λc=>?_,λi=>Bj _⟩;show or3 _ (some false)=_;rw[Bj,Lo b1];unfold wv
     by_cases hc:c∈(wbeg kn s (pb p ρ.st)).1
     ·rw[if_pos hc,if_pos ⟨c,hc,by simp[isC];exact λz=>c0 (z▸hc)⟩]
     ·rw[if_neg hc,if_neg]
      rintro⟨d,hd,hy⟩;simp[isC]at hy;exact hc (hy.2▸hd)
   rcases r with _|_|_
   ·exact a3 false rfl
   ·refine⟨funext λc=>?_,λi=>rfl⟩
    show or3 (Bf _ (wv ([],false,[],[]))) (some false)=some false
    rw[Bj,show wv ([],false,[],[])=λ_=>some false from rfl,G8]
   ·exact a3 true rfl
 |iff x p q i1 i2=>
  obtain⟨ox,o1,o2⟩:=ok;obtain⟨v1,v2,v3⟩:=vd;have I1:=i1 o1 v1;have I2:=i2 o2 v2;intro r;rw[AbJ (Ck o1) (Ck o2)];have e1:=G4 ρ p;have e2:=G4 ρ q;have b1:=λr=>Io (kn:=kn) (a4 o1) r
  have b2:=λr=>Io (kn:=kn) (a4 o2) r
  cases g1:Bh p ρ.st with
  |true=>
   have g2:Bh q ρ.st=false:=by cases z:Bh q ρ.st with|false=>rfl|true=>exact absurd ⟨g1,z⟩ v3
   rw[g1]at e1;rw[g2]at e2;rw[if_pos rfl];obtain⟨f1,f2⟩:=I2.off;obtain⟨a,b⟩:=I1 r;have z1:or3 (an3 r (some true)) (an3 (an3 r (some false)) (ρ.v x))=r:=by rw[Ej,B4];exact Bj r
   have z2:or3 (an3 r (some false)) (an3 (an3 r (some false)) (nt3 (ρ.v x)))=some false:=by rw[Ej];rfl
   refine⟨funext λc=>?_,λi=>?_⟩
   ·simp only[sem,e1,e2]
    show or3 (Bf (isC c) (sem ρ p (or3 (an3 r (some true)) (an3 (an3 r (some false)) (ρ.v x)))).1) (Bf (isC c) (sem ρ q (or3 (an3 r (some false)) (an3 (an3 r (some false)) (nt3 (ρ.v x))))).1)=_
    rw[z1,z2,f1,G8,Bj,a,Cr (b1 r)]
   ·simp only[sem,e1,e2]
    show or3 ((sem ρ p (or3 (an3 r (some true)) (an3 (an3 r (some false)) (ρ.v x)))).2 i) ((sem ρ q (or3 (an3 r (some false)) (an3 (an3 r (some false)) (nt3 (ρ.v x))))).2 i)=_
    rw[z1,z2,f2,Bj,b]
  |false=>
   rw[g1]at e1;rw[if_neg qc];cases g2:Bh q ρ.st with
   |true=>
    rw[g2]at e2;rw[if_pos rfl];obtain⟨f1,f2⟩:=I1.off;obtain⟨a,b⟩:=I2 r;have z1:or3 (an3 r (some false)) (an3 (an3 r (some false)) (ρ.v x))=some false:=by rw[Ej];rfl
    have z2:or3 (an3 r (some true)) (an3 (an3 r (some false)) (nt3 (ρ.v x)))=r:=by rw[Ej,B4];exact Bj r
    refine⟨funext λc=>?_,λi=>?_⟩
    ·simp only[sem,e1,e2]
     show or3 (Bf (isC c) (sem ρ p (or3 (an3 r (some false)) (an3 (an3 r (some false)) (ρ.v x)))).1) (Bf (isC c) (sem ρ q (or3 (an3 r (some true)) (an3 (an3 r (some false)) (nt3 (ρ.v x))))).1)=_
     rw[z1,z2,f1,G8,a,Cr (b2 r)];rfl
    ·simp only[sem,e1,e2]
     show or3 ((sem ρ p (or3 (an3 r (some false)) (an3 (an3 r (some false)) (ρ.v x)))).2 i) ((sem ρ q (or3 (an3 r (some true)) (an3 (an3 r (some false)) (nt3 (ρ.v x))))).2 i)=_
     rw[z1,z2,f2,b];rfl
   |false=>
    rw[g2]at e2;rw[if_neg qc];have p1:=E6 (Ck o1) (by rw[g1];exact qc);have p2:=E6 (Ck o2) (by rw[g2];exact qc);unfold SW at I1 I2;rw[p1]at I1 b1;rw[p2]at I2 b2;have z1:∀u,or3 (an3 r (some false)) (an3 (an3 r (some true)) u)=an3 r u:=λu=>by rw[Ej,B4];rfl
    have es:sem ρ (.iff x p q) r=(λc=>or3 (Bf (isC c) (sem ρ p (an3 r (ρ.v x))).1) (Bf (isC c) (sem ρ q (an3 r (nt3 (ρ.v x)))).1),λi=>or3 ((sem ρ p (an3 r (ρ.v x))).2 i) ((sem ρ q (an3 r (nt3 (ρ.v x)))).2 i)):=by
     simp only[sem,e1,e2];show(λc=>or3 (Bf (isC c) (sem ρ p (or3 (an3 r (some false)) (an3 (an3 r (some true)) (ρ.v x)))).1) (Bf (isC c) (sem ρ q (or3 (an3 r (some false)) (an3 (an3 r (some true)) (nt3 (ρ.v x))))).1),λi=>or3 ((sem ρ p (or3 (an3 r (some false)) (an3 (an3 r (some true)) (ρ.v x)))).2 i) ((sem ρ q (or3 (an3 r (some false)) (an3 (an3 r (some true)) (nt3 (ρ.v x))))).2 i))=_;rw[z1,z1]
    rw[es];have ex:=hk x ox.1 ox.2;rw[ex]
    have ew:∀s,wbeg kn s (.iff x p q)=match (kn[x.toNat]?).getD none with
     |none=>Ig (wbeg kn false p) (wbeg kn false q)
     |some true=>wbeg kn s p
     |some false=>wbeg kn s q:=λs=>rfl
    cases hx:(kn[x.toNat]?).getD none with
    |none=>
     rw[hx]at ew;obtain⟨a1,d1⟩:=I1 none;obtain⟨a2,d2⟩:=I2 none;obtain⟨n1,m1⟩:=Ld kn p;obtain⟨n2,m2⟩:=Ld kn q
     have a3:(λc=>or3 (Bf (isC c) (sem ρ p none).1) (Bf (isC c) (sem ρ q none).1))=wv (Ig (wbeg kn false p) (wbeg kn false q))/\∀i:Nat,or3 ((sem ρ p none).2 i) ((sem ρ q none).2 i)=wD (Ig (wbeg kn false p) (wbeg kn false q)) i:=by
      refine⟨funext λc=>?_,λi=>by rw[d1,d2];exact AdC m1 m2 i⟩;rw[a1,a2,Cr (b1 none),Cr (b2 none)];exact Xb n1 n2 c
     have off:(λc=>or3 (Bf (isC c) (sem ρ p (some false)).1) (Bf (isC c) (sem ρ q (some false)).1))=wv ([],false,[],[])/\∀i:Nat,or3 ((sem ρ p (some false)).2 i) ((sem ρ q (some false)).2 i)=wD ([],false,[],[]) i:=by
      obtain⟨a1,d1⟩:=I1 (some false);obtain⟨a2,d2⟩:=I2 (some false);refine⟨funext λc=>?_,λi=>by rw[d1,d2];rfl⟩;rw[a1,a2,Cr (b1 _),Cr (b2 _)];rfl
     rcases r with _|_|_
     ·show _=wv (wbeg kn false _)/\∀i:Nat,_=wD (wbeg kn false _) i
      rw[ew];exact a3
     ·exact off
     ·show _=wv (wbeg kn true _)/\∀i:Nat,_=wD (wbeg kn true _) i
      rw[ew];exact a3
    |some y=>
     rw[hx]at ew;cases y with
     |true=>
      show(λc=>or3 (Bf (isC c) (sem ρ p (an3 r (some true))).1) (Bf (isC c) (sem ρ q (an3 r (some false))).1))=_/\∀i:Nat,or3 ((sem ρ p (an3 r (some true))).2 i) ((sem ρ q (an3 r (some false))).2 i)=_
      rw[B4,Ej];obtain⟨a1,d1⟩:=I1 r;obtain⟨a2,d2⟩:=I2 (some false);have e:wK kn r (.iff x p q)=wK kn r p:=by rcases r with _|_|_<;>first|rfl|exact ew _
      rw[e];refine⟨funext λc=>?_,λi=>by rw[d1,d2];exact Bj _⟩;rw[a1,a2,Cr (b1 _),Cr (b2 _)];exact Bj _
     |false=>
      show(λc=>or3 (Bf (isC c) (sem ρ p (an3 r (some false))).1) (Bf (isC c) (sem ρ q (an3 r (some true))).1))=_/\∀i:Nat,or3 ((sem ρ p (an3 r (some false))).2 i) ((sem ρ q (an3 r (some true))).2 i)=_
      rw[B4,Ej];obtain⟨a1,d1⟩:=I1 (some false);obtain⟨a2,d2⟩:=I2 r;have e:wK kn r (.iff x p q)=wK kn r q:=by rcases r with _|_|_<;>first|rfl|exact ew _
      rw[e];refine⟨funext λc=>?_,λi=>by rw[d1,d2];rfl⟩;rw[a1,a2,Cr (b1 _),Cr (b2 _)];rfl
 |again k p i1=>
  have I1:=i1 ok vd.1;intro r;rw[Uf (p:=p) (Ck (n:=n) (p:=p) ok) vd.2];obtain⟨a,b⟩:=I1 r;have bd:=Io (kn:=kn) (a4 (q:=p) ok) r;have e:wv (wK kn r (.again k (pb p ρ.st)))=wv (Mx agC (wK kn r (pb p ρ.st)))/\wD (wK kn r (.again k (pb p ρ.st)))=wD (wK kn r (pb p ρ.st)):=by rcases r with _|_|_<;>exact⟨Z,Z⟩
  rw[e.1,e.2];refine⟨funext λc=>?_,b⟩;show Bf (λi=>isC c (agC i)) (sem ρ p r).1=_;rw[a,X2 bd]
 |trap p i1=>
  have I1:=i1 ok vd;intro r;rw[Xy];obtain⟨a,b⟩:=I1 r;have bd:=Io (kn:=kn) (a4 (q:=p) ok) r;have e:wv (wK kn r (.trap (pb p ρ.st)))=wv (Mx Ch (wK kn r (pb p ρ.st)))/\wD (wK kn r (.trap (pb p ρ.st)))=wD (wK kn r (pb p ρ.st)):=by rcases r with _|_|_<;>exact⟨Z,Z⟩
  rw[e.1,e.2];refine⟨funext λc=>?_,b⟩;show Bf (λi=>isC c (Ch i)) (sem ρ p r).1=_;rw[a,X2 bd]
 |bes p q i1 i2=>
  have I1:=i1 ok.1 vd.1;have I2:=i2 ok.2 vd.2;intro r;have e1:=G4 ρ p;have e2:=G4 ρ q;have b1:=λr=>Io (kn:=kn) (a4 ok.1) r
  have b2:=λr=>Io (kn:=kn) (a4 ok.2) r
  rw[Abq (Ck ok.1) (Ck ok.2)]
  have es:∀a b:Bool,rsB ρ p=a->rsB ρ q=b->sem ρ (.bes p q) r=(gtC (λc=>or3 (Bf (isC c) (sem ρ p (an3 r (nt3 (an3 (some b) (nt3 (some a)))))).1) (one 0 (an3 r (an3 (some b) (nt3 (some a)))) c)) (λc=>or3 (Bf (isC c) (sem ρ q (an3 r (nt3 (an3 (some a) (nt3 (some b)))))).1) (one 0 (an3 r (an3 (some a) (nt3 (some b)))) c)),λi=>or3 ((sem ρ p (an3 r (nt3 (an3 (some b) (nt3 (some a)))))).2 i) ((sem ρ q (an3 r (nt3 (an3 (some a) (nt3 (some b)))))).2 i)):=λa b ha hb=>by
   simp only[sem,ha,hb]
  have o0:∀c,one 0 (some false) c=some false:=λc=>ite_self _
  have a7:∀s,Cw (wbeg kn s (pb p ρ.st)).1:=λs=>Jg kn (a4 ok.1) s
  have a6:∀s,Cw (wbeg kn s (pb q ρ.st)).1:=λs=>Jg kn (a4 ok.2) s
  have a8:∀c,gtC (λ_=>some false) (λ_=>some false) c=some false:=λc=>rfl
  have a5:(gtC (λc=>or3 (Bf (isC c) (sem ρ p r).1) (some false)) (λc=>or3 (Bf (isC c) (sem ρ q r).1) (some false)),λi=>or3 ((sem ρ p r).2 i) ((sem ρ q r).2 i))=((wv (wK kn r (.bes (pb p ρ.st) (pb q ρ.st))),λi=>wD (wK kn r (.bes (pb p ρ.st) (pb q ρ.st))) (i:Int)):Sm):=by
   obtain⟨x1,y1⟩:=I1 r;obtain⟨x2,y2⟩:=I2 r;simp only[x1,x2,y1,y2,Cr (b1 r),Cr (b2 r),Bj];have a3:∀s,((gtC (wv (wbeg kn s (pb p ρ.st))) (wv (wbeg kn s (pb q ρ.st))),λ(i:Nat)=>or3 (wD (wbeg kn s (pb p ρ.st)) i) (wD (wbeg kn s (pb q ρ.st)) i)):Sm)=(wv (wbeg kn s (.bes (pb p ρ.st) (pb q ρ.st))),λ(i:Nat)=>wD (wbeg kn s (.bes (pb p ρ.st) (pb q ρ.st))) i):=λs=>Prod.ext (funext λc=>Ql (a7 s) (a6 s) c) (funext λi=>(Uj _ _ _ _ _).symm)
   rcases r with _|_|_
   ·exact a3 false
   ·exact Prod.ext (funext a8) rfl
   ·exact a3 true
  cases g1:Bh p ρ.st<;>cases g2:Bh q ρ.st<;>rw[g1]at e1<;>rw[g2]at e2<;>rw[es _ _ e1 e2]
  ·rw[if_pos (by simp)]
   simp only[nt3,Option.map_some,Bool.not_true,Bool.not_false,B4,Ej,o0];exact⟨congrArg (·.1) a5,λi=>congrFun (congrArg (·.2) a5) i⟩
  ·rw[if_neg (by simp),if_neg (by simp)]
   obtain⟨f1,f2⟩:=I1.off;obtain⟨x2,y2⟩:=I2 r;simp only[nt3,Option.map_some,Bool.not_true,Bool.not_false,B4,Ej,o0,f1,f2,G8,x2,y2,Cr (b2 r),Bj];refine⟨funext λc=>?_,λi=>rfl⟩
   have a3:∀s,gtC (λc=>or3 (some false) (one 0 (if s=true then some true else none) c)) (wv (wbeg kn s (pb q ρ.st))) c=wv (wbeg kn s (pb q ρ.st)) c:=λs=>by
    have e:(λc=>or3 (some false) (one 0 (if s=true then some true else none) c))=wv ([0],s,[],[]):=funext λc=>by unfold wv one;simp[or3]
    rw[e,Ql (a:=([0],s,[],[])) ⟨pairwise_singleton _ _,by simp,by simp⟩ (a6 s),(Tb (a6 s) (λz=>No z) c).2]
   rcases r with _|_|_
   ·exact a3 false
   ·show gtC (λc=>or3 (some false) (one 0 (some false) c)) (λ_=>some false) c=some false
    simp only[o0];rfl
   ·exact a3 true
  ·rw[if_neg (by simp),if_pos (by simp)]
   obtain⟨f1,f2⟩:=I2.off;obtain⟨x1,y1⟩:=I1 r;simp only[nt3,Option.map_some,Bool.not_true,Bool.not_false,B4,Ej,o0,f1,f2,G8,x1,y1,Cr (b1 r),Bj];refine⟨funext λc=>?_,λi=>trivial⟩
   have a3:∀s,gtC (wv (wbeg kn s (pb p ρ.st))) (λc=>or3 (some false) (one 0 (if s=true then some true else none) c)) c=wv (wbeg kn s (pb p ρ.st)) c:=λs=>by
    have e:(λc=>or3 (some false) (one 0 (if s=true then some true else none) c))=wv ([0],s,[],[]):=funext λc=>by unfold wv one;simp[or3]
    rw[e,Ql (b:=([0],s,[],[])) (a7 s) ⟨pairwise_singleton _ _,by simp,by simp⟩,(Tb (a7 s) (λz=>No z) c).1]
   rcases r with _|_|_
   ·exact a3 false
   ·show gtC (λ_=>some false) (λc=>or3 (some false) (one 0 (some false) c)) c=some false
    simp only[o0];rfl
   ·exact a3 true
  ·rw[if_pos (by simp)]
   simp only[nt3,Option.map_some,Bool.not_true,Bool.not_false,B4,Ej,o0];exact⟨congrArg (·.1) a5,λi=>congrFun (congrArg (·.2) a5) i⟩
 |hold x p i1=>exact Yt hk ok.1 (Ck ok.2) (a4 ok.2) (i1 ok.2 vd) (k:=1) (g:=.stay) (λr=>rfl) rfl (λs=>rfl) (λh=>(((Km (Ck ok.2)).1 h).1).trans (by rw[E6 (Ck ok.2) h])) (λl e h=>⟨_,((Km (Ck ok.2)).2 l e h).1⟩) λ_ _=>rfl
 |watch x p i1=>exact Yt hk ok.1 (Ck ok.2) (a4 ok.2) (i1 ok.2 vd) (k:=0) (g:=λ_=>.nothing) (λr=>rfl) rfl (λs=>rfl) (λh=>(((Km (Ck ok.2)).1 h).2).trans (by rw[E6 (Ck ok.2) h])) (λl e h=>⟨[],((Km (Ck ok.2)).2 l e h).2⟩) λ_ _=>rfl
theorem Xv(o:Option Pt):∀(f:Nat)(kn:List (Option Bool)),Cu kn<f->stepK o (Jo o f kn)=[]
 |0,kn,h=>by omega
 |f+1,kn,h=>by
  rw[M8];split
  ·assumption
  ·next z=>exact Xv o f _ (by have:=Qe z;omega)
def mV(m:List Int×List Int)(i:Int):Option Bool:=if i∈m.1 then some true else if i∈m.2 then none else some false
def opV(co:List Int)(m:List Int×List Int)(j:Nat):Option Bool:=or3 (some (decide ((j:Int)∈co))) (mV m j)
theorem AfE{ρ:Vn}{kn:List (Option Bool)}(hk:∀x:Int,0<=x->x<n->ρ.v x=(kn[x.toNat]?).getD none)(ok:okN n p)(vd:Vd p ρ.st)(j:Nat):(sem ρ p (some (ρ.st.isNone || rsB ρ p))).2 j=mV (mcB kn (Du p ρ.st)) j:=by
 have nb:∀b:Pt,wD (wbeg kn true b) j=mV (mcB kn (some b)) j:=λb=>by
  have e1:∀x,x∈(mcB kn (some b)).1↔x∈(wbeg kn true b).2.2.1:=λx=>Bc
  have e2:∀x,x∈(mcB kn (some b)).2↔x∈(wbeg kn true b).2.2.2:=λx=>Bc
  unfold wD mV;simp only[e1,e2]
 rw[G4,(AcP hk ok vd _).2 j];cases e:ρ.st with
 |none=>exact nb p
 |some l=>
  have g:=Ci (l:=l) (Ck ok);cases z:Bh p (some l) with
  |true=>
   rw[show Du p (some l)=some (pb p (some l)) from if_neg (g.mp z)];exact nb _
  |false=>
   rw[show Du p (some l)=none from if_pos (Classical.byContradiction λw=>by rw[g.mpr w]at z;cases z)];rfl
theorem So{co:List Int}{o:Option Pt}{kk:List (Option Bool)}(ob:okB n o)(hk:∀i:Nat,i<n->(kk[i]?).getD none=opV co (mcB kk o) i):∀(f:Nat){kn:List (Option Bool)},SI n co o kn->leK kn kk->leK (Jo o f kn) kk
 |0,_,_,h=>h
 |f+1,kn,si,h=>by
  rw[M8];split
  ·exact h
  ·refine So ob hk f (si.next ob) λi b e=>?_
   unfold My.stepK at e;rw[Ki]at e;split at e
   ·next z=>
    obtain⟨⟨⟨_,b2⟩,hn⟩,c⟩:=Ih.mp z;rw[Int.toNat_natCast]at hn;have hi:i<n:=by rw[si.len]at b2;omega
    have ml:=Aa3 h ob;have nc:¬(i:Int)∈co:=λw=>by rw[si.i1 i hi w]at hn;cases hn
    rw[hk i hi];unfold opV mV;rw[uJ nc];cases e
    by_cases m:(i:Int)∈(mcB kn o).1
    ·rw[if_pos (ml.1 _ m),uI m];rfl
    ·have c:=c.resolve_left m
     rw[uJ m,if_neg,if_neg λw=>c (ml.2 _ w)]
     ·rfl
     ·intro w
      refine c (ml.2 _ ?_);cases o with
      |none=>cases w
      |some q=>exact Bc.mpr (Uc kk q true _ (Bc.mp w))
   ·exact h i b e
theorem Ae5(si:SI n co o kn)(e:stepK o kn=[])(j:Nat)(hj:j<n):(kn[j]?).getD none=opV co (mcB kn o) j:=by
 have mc:(j:Int)∈(mcB kn o).1->(j:Int)∈(mcB kn o).2:=λw=>by
  cases o with
  |none=>cases w
  |some q=>exact Bc.mpr (Uc kn q true _ (Bc.mp w))
 unfold opV mV;cases z:(kn[j]?).getD none with
 |some b=>
  cases b with
  |true=>
   rcases si.i2 j z with c|c
   ·rw[uI c];rfl
   ·rw[if_pos c];cases decide ((j:Int)∈co)<;>rfl
  |false=>
   have nc:=si.i3 j z;have a1:¬(j:Int)∈co:=λw=>by rw[si.i1 j hj w]at z;cases z
   rw[if_neg λw=>nc (mc w),if_neg nc,uJ a1];rfl
 |none=>
  have a1:¬(j:Int)∈co:=λw=>by rw[si.i1 j hj w]at z;cases z
  have nt:¬(j:Int)∈tak kn (mcB kn o).1 (mcB kn o).2:=λw=>by
   have:stepK o kn≠[]:=List.ne_nil_of_mem (mem_map_of_mem w);exact this e
  have a2:¬((j:Int)∈(mcB kn o).1\/¬(j:Int)∈(mcB kn o).2):=λw=>nt (Ih.mpr ⟨⟨⟨by omega,by rw[si.len];omega⟩,by rw[Int.toNat_natCast];exact z⟩,w⟩)
  rw[if_neg λw=>a2 (.inl w),if_pos (Classical.byContradiction λw=>a2 (.inr w)),uJ a1];rfl
def gtsOf(s:Ws):List Gt:=s.gs.map gtOf
def cst(kn:List (Option Bool))(i:Nat):Gt:=match (kn[i]?).getD none with
 |some true=>.all []
 |some false=>.som []
 |none=>.som [i]
def hGs(n:Nat)(kn:List (Option Bool))(gs:List Gt):List Gt:=(List.range gs.length).map λi=>if i<n then cst kn i else(gs[i]?).getD .start
theorem Ua(h:i<gs.length):(hGs n kn gs)[i]?=some (if i<n then cst kn i else(gs[i]?).getD .start):=by
 unfold hGs;rw[uH,getElem?_range h];rfl
theorem Ad6{st:Option (List Int)}{k:Kn}(d:Der (hGs n kn gs) st co k)(hi:i<n)(hl:i<gs.length)(e:(kn[i]?).getD none=none):k i=none:=by
 induction d with
 |nil=>rfl
 |step d hG hn hv ih=>
  unfold Kn.set;split
  ·next z=>
   subst z;rw[Ua hl,if_pos hi]at hG;unfold cst at hG;rw[e]at hG;cases hG
   have:or3 _ (some false)=some _:=hv;rw[Bj,hn]at this;cases this
  ·exact ih
theorem AaM{st:Option (List Int)}{k:Kn}(M:AcQ n p s)(ok:okN n p)(vd:Vd p st)(hl:n<=s.gs.length)(d:Der (gtsOf s) st co k)(c:Jf (gtsOf s) st co k):(List.range n).map k=Jo (Du p st) (n+1) (Bv n co):=by
 have ob:=Uu (Nb ok) st;have a2:∀{i:Nat}{g},s.gs[i]?=some g->(gtsOf s)[i]?=some (gtOf g):=λh=>by unfold gtsOf;rw[uH,h];rfl
 have op:∀(k:Kn)(kn:List (Option Bool)),(∀i:Nat,i<n->k i=(kn[i]?).getD none)->(∀(i:Nat)g,s.gs[i]?=some g->n<=i->k i=Ek st co k (gtOf g))->∀j,j<n->∃g,s.gs[j]?=some g/\Ek st co k (gtOf g)=opV co (mcB kn (Du p st)) j:=λk kn h1 h2 j hj=>by
  obtain⟨g,e1,e2⟩:=M ⟨st,co,k⟩ h2 j hj;refine⟨g,e1,e2.trans (congrArg _ (AfE (ρ:=⟨st,co,k⟩) (λx x0 x1=>h1 x.toNat (by omega)) ok vd j))⟩
 have fx:=d.fix c;have si:=SI.set ob (n+1) (SI.first n co (Du p st));have sf:=Xv (Du p st) (n+1) (Bv n co) (Nat.lt_succ_of_le (uY (Ko _) (le_of_eq (by simp[Bv]))));have so:=Ae5 si sf;generalize eS:Jo (Du p st) (n+1) (Bv n co)=kS at *;have a1:∀i:Nat,i<n->(((List.range n).map k)[i]?).getD none=k i:=λi hi=>by rw[uH,getElem?_range hi];rfl
 have l1:leK kS ((List.range n).map k):=by
  rw[<-eS];refine So ob (λi hi=>?_) _ (SI.first n co (Du p st)) λi b e=>?_
  ·obtain⟨g,e1,e2⟩:=op k ((List.range n).map k) (λi hi=>(a1 i hi).symm) (λi g h _=>fx i _ (a2 h)) i hi
   rw[a1 i hi,fx i _ (a2 e1)];exact e2
  ·rw[Jt]at e
   split at e
   ·next z=>
    cases e
    obtain⟨g,e1,e2⟩:=op k ((List.range n).map k) (λi hi=>(a1 i hi).symm) (λi g h _=>fx i _ (a2 h)) i z.1;rw[a1 i z.1,fx i _ (a2 e1),e2];unfold opV;rw[uI z.2];rfl
   ·cases e
 have l2:∀i:Nat,i<n->leO (k i) ((kS[i]?).getD none):=by
  obtain⟨V,dV,cV⟩:=Aer (hGs n kS (gtsOf s)) st co;have fV:=dV.fix cV;have lg:(gtsOf s).length=s.gs.length:=uB ..
  have vs:∀i:Nat,i<n->V i=(kS[i]?).getD none:=λi hi=>by
   cases e:(kS[i]?).getD none with
   |none=>exact Ad6 dV hi (by omega) e
   |some b=>
    have:=fV i _ (Ua (n:=n) (kn:=kS) (gs:=gtsOf s) (by omega:i<_));rw[if_pos hi]at this;unfold cst at this;rw[e]at this;cases b<;>exact this
  have ng:∀(i:Nat)g,s.gs[i]?=some g->n<=i->V i=Ek st co V (gtOf g):=λi g h hi=>by
   have a4:=(List.getElem?_eq_some_iff.mp h).1;have:=fV i _ (Ua (n:=n) (kn:=kS) (gs:=gtsOf s) (by omega:i<_))
   rwa[if_neg (by omega),a2 h]at this
  have a3:AcB (gtsOf s) st co V:=λi G h=>by
   have h':=h;unfold gtsOf at h';rw[uH]at h';cases z:s.gs[i]? with
   |none=>rw[z]at h';cases h'
   |some g=>
    rw[z]at h';cases h'
    rcases lt_or_ge i n with hi|hi
    ·obtain⟨g',e1,e2⟩:=op V kS vs ng i hi
     rw[z]at e1;cases e1
     rw[vs i hi,so i hi];exact e2.symm
    ·exact ng i g z hi
  exact λi hi v e=>by rw[<-vs i hi];exact d.le a3 i v e
 refine ext_getElem (by rw[uB,vF,si.len]) λi h1 h2=>?_
 rw[uB,vF]at h1;have a:=l1 i;have b:=l2 i h1;rw[a1 i h1]at a;rw[uA h2]at a b;rw[List.getElem_map,List.getElem_range];cases z:k i with
 |some v=>exact(b v z).symm
 |none=>
  cases w:kS[i] with
  |none=>rfl
  |some v=>rw[a v (by rw[w];rfl)]at z;cases z
theorem Aei(r:Rp):∀k,k<=(num r k).2/\(rsL (num r k).1).Nodup/\∀x∈rsL (num r k).1,k<=x/\x<(num r k).2:=by
 have two:∀{p q:Rp}{k:Int},(k<=(num p k).2/\(rsL (num p k).1).Nodup/\∀x∈rsL (num p k).1,k<=x/\x<(num p k).2)->(∀k,k<=(num q k).2/\(rsL (num q k).1).Nodup/\∀x∈rsL (num q k).1,k<=x/\x<(num q k).2)->k<=(num q (num p k).2).2/\(rsL (num p k).1++rsL (num q (num p k).2).1).Nodup/\∀x∈rsL (num p k).1++rsL (num q (num p k).2).1,k<=x/\x<(num q (num p k).2).2:=λ{p q k}a b=>by
  have b:=b (num p k).2;refine⟨Int.le_trans a.1 b.1,nodup_append.mpr ⟨a.2.1,b.2.1,λx hx y hy e=>?_⟩,λx hx=>?_⟩
  ·have:=a.2.2 x hx;have:=b.2.2 y hy;omega
  ·rcases uW.mp hx with z|z
   ·have:=a.2.2 x z;have:=b.1;omega
   ·have:=b.2.2 x z;have:=a.1;omega
 induction r with
 |rest=>exact λk=>⟨by show k<=k+1;omega,vR.mpr ⟨λz=>(nomatch z),nodup_nil⟩,λx hx=>by rw[mS hx];show k<=k/\k<k+1;omega⟩
 |iff s p q a2 a1=>exact λk=>two (a2 k) a1
 |thn p q a2 a1=>exact λk=>two (a2 k) a1
 |bes p q a2 a1=>exact λk=>two (a2 k) a1
 |again p ih=>
  intro k;have a:=ih k;refine⟨by show k<=(num p k).2+1;have:=a.1;omega,vR.mpr ⟨λz=>by have:=a.2.2 _ z;omega,a.2.1⟩,λx hx=>?_⟩;show k<=x/\x<(num p k).2+1;rcases vJ.mp hx with z|z
  ·have:=a.1;omega
  ·have:=a.2.2 x z;omega
 |hold s p ih=>exact ih
 |watch s p ih=>exact ih
 |trap p ih=>exact ih
 |_=>exact λk=>⟨Int.le_refl _,nodup_nil,λx hx=>nomatch hx⟩
theorem AgR(h:okN n p):p.rc=(rsP p).length:=by
 induction p with
 |stay _=>cases h
 |iff s p q i1 i2=>simp only[Pt.rc,rsP,uC,i1 h.2.1,i2 h.2.2];omega
 |thn p q i1 i2=>simp only[Pt.rc,rsP,uC,i1 h.1,i2 h.2];omega
 |bes p q i1 i2=>simp only[Pt.rc,rsP,uC,i1 h.1,i2 h.2];omega
 |again k p i=>simp only[Pt.rc,rsP,uV,i h]
 |hold s p i=>exact i h.2
 |watch s p i=>exact i h.2
 |trap p i=>exact i h
 |_=>rfl
theorem AgF(p:Pt):2*p.sc<=p.sz+1:=by
 induction p<;>simp only[Pt.sc,Pt.sz]<;>omega
theorem Aez{st:Option (List Int)}(h:Kc K H st v):StG K H st v:=by
 cases st with
 |none=>exact h
 |some l=>exact h
theorem Adl{st:Option (List Int)}(ok:okN n p)(nd:(rsL p).Nodup)(vd:Vd p st):Vd p (some (N3 p st th).2.2):=by
 by_cases o:Jq p st
 ·rw[G9.1 o]
  exact Hj λx _ z=>nomatch z
 ·rw[G9.2 o]
  exact Py (λx _=>(L5 _).mem_iff.symm) (Ad1 (Ck ok) nd vd)
theorem Ab3{st:Option (List Int)}(h1:p.sc<64)(h2:p.rc<64):(N3 p st th).2.2.length<=900:=by
 by_cases o:Jq p st
 ·rw[G9.1 o];exact vY _
 ·rw[G9.2 o];exact(Aa9 h1 h2).2
theorem Q5.same(k:Same H H')(h:Q5 K H gl gs):Q5 K H' gl gs:=by
 obtain⟨vs,h,l,g⟩:=h;exact⟨vs,k.seq h,l,λi v G e1 e2=>by obtain⟨a,b,e,h1,h2⟩:=g i v G e1 e2;exact⟨a,b,e,Pi k h1,Pi k h2⟩⟩
def Ag3(K:FA)(t:TE):TT:=λσ H Q=>t σ H λx H1=>∃k,Zf K x H1 k/\Q k H1
theorem Ys{l:List Int}(h:∀x∈l,0<=x):(l.map Int.toNat).map Int.ofNat=l:=by
 rw[map_map]
 conv=>rhs;rw[<-map_id l]
 refine List.map_congr_left λx z=>?_
 have:=h x z;show((x.toNat:Nat):Int)=x;omega
structure Agz(c:Nat)(g:Gw):Prop where
 w:(gtOf g).word=g.1
 a:(gtOf g).args=g.2
 l:(gtOf g).nums.length<=g.2.length
 b:∀x∈(gtOf g).nums,x<c
theorem Q0{m c:Nat}{g:Gw}(h:FmG n m c g):Agz c g:=by
 obtain⟨w,ns⟩:=g;have wf:∀{ns:List Int},(∀x∈ns,0<=x/\x<c)->(ns.map Int.toNat).length<=ns.length/\∀x∈ns.map Int.toNat,x<c:=λh=>⟨by rw[uB];exact uZ _,λx hx=>by obtain⟨y,hy,rfl⟩:=vT.mp hx;have:=h y hy;omega⟩
 rcases h with⟨e,e2⟩|⟨e,k,e2,_⟩|⟨e,k,e2,_⟩|⟨e|e|⟨e,e3⟩,e2⟩
 ·cases (show w ="start" from e)
  cases (show ns=[] from e2)
  have z:gtOf (("start": Str),([]:List Int))=.start:=by show gtW "start" ([]:List Int)=_;unfold gtW;rw[if_pos rfl]
  exact⟨by rw[z];rfl,by rw[z];rfl,by rw[z];exact uZ _,by rw[z];exact λx hx=>nomatch hx⟩
 ·cases (show w ="memory" from e)
  cases (show ns=[k] from e2)
  have z:gtOf (("memory": Str),[k])=.mem k:=by show gtW "memory" [k]=_;unfold gtW;rw[if_neg (by trivial),if_pos rfl];rfl
  exact⟨by rw[z];rfl,by rw[z];rfl,by rw[z];exact vY _,by rw[z];exact λx hx=>nomatch hx⟩
 ·cases (show w ="given" from e)
  cases (show ns=[k] from e2)
  have z:gtOf (("given": Str),[k])=.given k:=by show gtW "given" [k]=_;unfold gtW;rw[if_neg (by trivial),if_neg (by trivial),if_pos rfl];rfl
  exact⟨by rw[z];rfl,by rw[z];rfl,by rw[z];exact vY _,by rw[z];exact λx hx=>nomatch hx⟩
 ·cases (show w ="all" from e)
  have z:gtOf (("all": Str),ns)=.all (ns.map Int.toNat):=by show gtW "all" ns=_;unfold gtW;rw[if_neg (by trivial),if_neg (by trivial),if_neg (by trivial),if_neg (by trivial),if_pos rfl]
  exact⟨by rw[z];rfl,by rw[z];exact Ys λx hx=>(e2 x hx).1,by rw[z];exact(wf e2).1,by rw[z];exact(wf e2).2⟩
 ·cases (show w ="some" from e)
  have z:gtOf (("some": Str),ns)=.som (ns.map Int.toNat):=by show gtW "some" ns=_;unfold gtW;rw[if_neg (by trivial),if_neg (by trivial),if_neg (by trivial),if_neg (by trivial),if_neg (by trivial)]
  exact⟨by rw[z];rfl,by rw[z];exact Ys λx hx=>(e2 x hx).1,by rw[z];exact(wf e2).1,by rw[z];exact(wf e2).2⟩
 ·cases (show w ="not" from e)
  obtain⟨k,rfl⟩:∃k,ns=[k]:=by
   cases ns with
   |nil=>cases e3
   |cons a r=>cases r with
    |nil=>exact⟨a,rfl⟩
    |cons _ _=>simp at e3
  have hk:=e2 k uF;have z:gtOf (("not": Str),[k])=.nt k.toNat:=by show gtW "not" [k]=_;unfold gtW;rw[if_neg (by trivial),if_neg (by trivial),if_neg (by trivial),if_pos rfl];rfl
  exact⟨by rw[z];rfl,by rw[z];show [((k.toNat:Nat):Int)]=[k];rw[show((k.toNat:Nat):Int)=k by omega],by rw[z];exact uZ _,by rw[z];intro x hx;rw[mS hx];omega⟩
theorem AfD{m:Nat}{s:Ws}(h:∀g∈s.gs,FmG n m s.gs.length g/\g.2.length<=1000)(hl:s.gs.length<=16000):SmG (gtsOf s)/\∀G∈gtsOf s,G.nums.length<=1000:=by
 have le:(gtsOf s).length=s.gs.length:=uB _
 have z:∀G∈gtsOf s,G.nums.length<=1000:=λG hG=>by
  obtain⟨g,hg,rfl⟩:=vT.mp hG;exact uY (Q0 (h g hg).1).l (h g hg).2
 refine⟨⟨λi G e c hc=>?_,by rw[le];exact hl⟩,z⟩;obtain⟨g,hg,rfl⟩:=vT.mp (uO e);rw[le];exact(Q0 (h g hg).1).b c hc
theorem AeN(h:∀g∈s.gs,FmG n m s.gs.length g/\g.2.length<=1000)(hg:H gl=some (.lst gvs))(hp:PySem.Paired (GwAt H) s.gs gvs):Q5 K H gl (gtsOf s):=by
 refine⟨gvs,SqL.of hg,?_,λi v G e1 e2=>?_⟩
 ·rw[<-PySem.Paired.length hp];exact(uB _).symm
 ·unfold gtsOf at e2
  rw[uH]at e2;cases e:s.gs[i]? with
  |none=>rw[e]at e2;cases e2
  |some g=>
   rw[e]at e2;cases e2
   obtain⟨y,z,t,u,rfl,h1,h2⟩:=Bp hp e;rw[e1]at z;cases z
   have ok:=Q0 (h g (uO e)).1;exact⟨t,u,Z,by rw[ok.w];exact SqT.of h1,by rw[ok.a];exact SqT.of h2⟩
def Mc(z:Int)(i:Nat):Bool:=decide (V.int (z/7/(1*2^((0:Int)+(i:Int)).toNat)%2)=V.int 1)
def L1(c:Int)(n:Nat):List Int:=((List.range n).filter (Mc (Ke c))).map λ(i:Nat)=>(i:Int)
theorem Abp(c:Int)(n:Nat):(L1 c n).length<=n:=by
 unfold L1;rw[uB];exact uY (length_filter_le _ _) (by rw[vF];exact uZ _)
inductive Ve  (vs:List V) (H:Hp) (Q:VK):Prop
 |mk(m:Int)(n:Nat)(_:vs=[.int m,.int n])(_:n<=30)(_:∀r,H r=none->Q (.ref r) (upd H r (.lst ((L1 m n).map V.int)))):Ve  vs H Q
def AbW:Sp:=λvs H Q _=>Ve  vs H Q
theorem Afk(xs:List V)(j:Nat):G2 xs none (some (j:Int))=xs.take j:=by
 unfold G2;rw[HT.AhE,HT.Ahk,List.drop_zero,Nat.sub_zero];rcases le_total j xs.length with h|h
 ·rw[Nat.min_eq_left h]
 ·rw[Nat.min_eq_right h,take_length,uQ h]
theorem Aa1{k:List (Option Bool)}(h:g<k.length):(k.map vO)[g]?=some (vO (knL k g)):=by unfold knL;rw[uH,uA h];rfl
theorem Ael(o:Option Bool):Zf K (vO o) H (o.getD false):=by cases o<;>rfl
section
seal PSs PS PE PA PT
theorem Ahl(F:Ax K mg "_law_coming" ["_law_cell","_law_came"] Fi)(T:Txt mg)(aK:Ai P w K mg base 1 "_law_mixed" ["_law_cell"] Lg):Ai P w K mg base 2 "_law_coming" ["_law_cell","_law_came"] AbW:=by
 refine F.ok K7 (λvs H Q E h=>?_) (λf cdv A outer s H vs Q E hr h=>?_)
 ·obtain⟨m,n,rfl,_⟩:=h;rfl
 obtain⟨m,n,rfl,hn,q⟩:=h
 refine⟨_,(Ad (Ar (i:=2) K7.nd rfl (Or.inr rfl) (Am aK hr rfl Al (Aa (pv 0) Ab)))
  (Ah (Ao (Dc (g:=(Bq 0)) (tc:=(Fo (tOp rEq (tOp (rI (λ_ j=>0<j) λi j=>.int (i%j)) (tOp (rI Wa λi j=>.int (i/j)) (tOp (rI Wa λi j=>.int (i/j)) (A5 1) (tC (.int 7))) (tOp (rI Ac5 λi j=>.int (i*2^j.toNat)) (tC (.int 1)) (A5 0))) (tC (.int 2))) (tC (.int 1))))) (te:=(A5 0)) ["_law_sign"] [("_law_seed",2)] rfl (Bz (Ak Fi) ["_law_cell","_law_came","_law_seed"] (by trivial)) (Fy rfl T.n_range (Aa (pv 1) Ab)) (λs2 H2 fp cl C=>Az (i:=0) (show Nodup [("_law_sign": Str),("_law_seed": Str)] from by trivial) rfl (Or.inl rfl)) (Bg (by decide)) (λs2 H2 fp cl C=>Dk (An A1 (A3 Cq (A3 De (A3 De (pv 1) Af) (A3 Abt Af (pv 0))) Af) Af (Aq _))) (λs2 H2 fp cl C=>(pv 0)))))),?_⟩
 refine⟨m,Z,?_⟩;refine⟨_,Z,by omega,by omega,?_⟩;dsimp only;rw[Int.toNat_natCast];refine F9 (λi ys H'=>H'=H/\ys=((List.range i).filter (Mc (Ke m))).map λ(i:Nat)=>V.int (i:Int)) ⟨Z,Z⟩ (Co (by omega)) ?_ ?_
 ·rintro i ys H' N hi ⟨rfl,rfl⟩ hN z
  have p1:(0:Int)<1*2^((0:Int)+(i:Int)).toNat:=by
   rw[Int.one_mul];exact Int.pow_pos (by decide)
  have p2:(1:Int)*2^((0:Int)+(i:Int)).toNat<1073741824:=by
   rw[Int.one_mul,show((0:Int)+(i:Int)).toNat=i by omega];have h1:(2:Nat)^i<1073741824:=vA (Nat.pow_lt_pow_right (by decide) (show i<30 by omega)) (by decide);have h2:=Int.ofNat_lt.mpr h1;rw[Int.natCast_pow]at h2;exact h2
  refine⟨_,_,Z,Z,⟨by decide,by decide⟩,_,_,Z,Z,⟨by show(0:Int)<=0+i;omega,by show(0:Int)+i<=1000000;omega,by decide⟩,_,_,Z,Z,⟨p1,p2⟩,_,_,Z,Z,(by show(0:Int)<2;decide),Z,?_⟩
  have fl:(List.range (i+1)).filter (Mc (Ke m))=(List.range i).filter (Mc (Ke m))++(if Mc (Ke m) i=true then [i] else []):=by
   rw[range_succ,vM];simp only[filter_cons,List.filter_nil]
  refine A2 (λc=>?_) (λc=>?_)
  ·refine(hN _ _ ?_ ⟨Z,?_⟩)
   ·rw[uC,uD];omega
   ·rw[fl,if_pos (show Mc (Ke m) i=true from c),uN]
    show _++[V.int (0+(i:Int))]=_++[V.int (i:Int)]
    rw[Int.zero_add]
  ·refine hN _ _ (by omega) ⟨Z,?_⟩
   rw[fl,if_neg (show ¬Mc (Ke m) i=true from c),vH]
 ·rintro ys H' z ⟨rfl,rfl⟩ D hD
  have:=q D hD;unfold L1 at this;rw[map_map]at this;exact this
end
inductive LpI(K:FA)(H3:Hp)(a pr t2:Addr)(p:Pt)(rs:Int)(σ:St)(H':Hp):Prop
 |mk(st:Option (List Int))(sv:V)(x5 x6 x7 x8 x9 x10 x11:Option V)(e:σ=[some (.ref a),some (.ref pr),some (.int rs),some (.ref t2),some sv,x5,x6,x7,x8,x9,x10,x11])(g:Same H3 H')(hs:Kc K H' st sv)(vd:Vd p st)(ln:(st.getD []).length<=900)
section
seal PSs PS PE PA PT
theorem Ahp(F:Fun K "law" "law" I0 f fd)(T:Txt mg)(dH:Ai P w K mg base 64 "_law_program" ["_law_script","_law_most"] (Abm K))(iR:Ai P w K mg base 70 "net_of" ["program"] (AdG K C 63))(aK:Ai P w K mg base 1 "_law_mixed" ["_law_cell"] Lg)(dR:Ai P w K mg base 2 "_law_coming" ["_law_cell","_law_came"] AbW)(eI:Ai P w K mg base 2 "_law_least" ["_law_net","_law_state","_law_coming_here"] (X1 K))(iD:Ai P w K mg base 47 "settled" ["program","state","coming"] (AdP K))(iE:Ai P w K mg base 45 "instant" ["program","state","there"] (AbA K 40)):Ca P w K mg base CX0 71 f fd ["_law_script"] (S5 K):=by
 refine F.ok Es (λvs H Q E h=>?_) (λcdv A outer s0 H vs Q E hr h=>?_)
 ·obtain⟨a,ns,rfl,_⟩:=h;rfl
 obtain⟨a,ns,rfl,hS,f7,q⟩:=h
 refine⟨_,(Ad (Fw (Am dH hr rfl Al (Aa (pv 0) (Aa Af Ab))) (Ff rfl (Bn (Az (i:=1) Es.nd rfl (Or.inl rfl)) (Bn (Az (i:=2) Es.nd rfl (Or.inl rfl)) Em))))
  (Ad (Ar (i:=3) Es.nd rfl (Or.inl rfl) (Am iR hr rfl Al (Aa (pv 1) Ab)))
  (Ad (Ar (i:=4) Es.nd rfl (Or.inl rfl) B5)
  (Ad (Fa PassesOwn.never rfl (B6 (A3 Cf (Av (Aa Af Ab)) (Oo Xp (pv 0) Xs (Nm Af)))) (Az (i:=5) Es.nd rfl (Or.inl rfl))
   (Ad (Ar (i:=6) Es.nd rfl (Or.inl rfl) (Am dR hr rfl Al (Aa (pv 5) (Aa (Aj Ag (pv 1) Af (λ_ _=>rfl)) Ab))))
  (Ad (Ar (i:=7) Es.nd rfl (Or.inr rfl) (Am iD hr rfl Al (Aa (pv 1) (Aa (pv 4) (Aa (pv 6) Ab)))))
  (Ad (Ar (i:=8) Es.nd rfl (Or.inr rfl) (Am eI hr rfl Al (Aa (pv 3) (Aa (pv 4) (Aa (pv 6) Ab)))))
  (Ad (Cs (j:=9) (g:=(Bq 0)) (tc:=Dy) (te:=(tOp (Y9 K) (A5 1) (A5 0))) ["_law_gate"] [("_law_known",8)] Es.nd rfl (Or.inl rfl) rfl (Bz (Ak I0) ["_law_script","_law_program_here","_law_rests","_law_net","_law_state","_law_cell","_law_coming_here","_law_due","_law_known","_law_found","_law_there","_law_seed"] (by trivial)) (B6 (Aj Ag (pv 3) Af (λ_ _=>rfl))) (λs2 H2 fp cl C=>Az (i:=0) (show Nodup [("_law_gate": Str),("_law_known": Str)] from by trivial) rfl (Or.inl rfl)) (Bg (by decide)) (λs2 H2 fp cl C=>Ep) (λs2 H2 fp cl C=>(Aj Bs (pv 1) (pv 0) (λ_ _=>rfl))))
  (Ad (A9 (PW.pt (Gc (An (Adu hr.units) (pv 9) (pv 7) (Aq _)) (Fg (An AaC (Bu Cm rfl T.n_len PySem.boot_len (Aa (pv 7) Ab)) (Aj Ag (pv 1) Af (λ_ _=>rfl)) (Aq _)))))
   (Ah (Ao Dr))
   A0)
  (Ad (Cs (j:=10) (g:=(Bq 0)) (tc:=(Ag3 K (tOp (Y9 K) (A5 1) (A5 0)))) (te:=(A5 0)) ["_law_sign"] [("_law_due",7)] Es.nd rfl (Or.inl rfl) rfl (Bz (Ak I0) ["_law_script","_law_program_here","_law_rests","_law_net","_law_state","_law_cell","_law_coming_here","_law_due","_law_known","_law_found","_law_there","_law_seed"] (by trivial)) (Fy rfl T.n_range (Aa (Bu Cm rfl T.n_len PySem.boot_len (Aa (pv 7) Ab)) Ab)) (λs2 H2 fp cl C=>Az (i:=0) (show Nodup [("_law_sign": Str),("_law_due": Str)] from by trivial) rfl (Or.inl rfl)) (Bg (by decide)) (λs2 H2 fp cl C=>Dk (Ex (Aj Bs (pv 1) (pv 0) (λ_ _=>rfl)) (λ_=>rfl))) (λs2 H2 fp cl C=>(pv 0)))
  (Ad (Ar (i:=11) Es.nd rfl (Or.inr rfl) (A3 De (Am aK hr rfl Al (Aa (pv 5) Ab)) Af))
  (Ad (A9 (PW.pt (Gc (An B3 B5 (pv 7) (by rfl)) (Fg (An A1 (A3 Cq (pv 11) Af) Af (Aq _)))))
   (Ah (Cs (j:=10) (g:=(Bq 0)) (tc:=(Fo (tOp rEq (tOp (rI (λ_ j=>0<j) λi j=>.int (i%j)) (tOp (rI Wa λi j=>.int (i/j)) (tOp (rI Wa λi j=>.int (i/j)) (A5 1) (tC (.int 4))) (tOp (rI Ac5 λi j=>.int (i*2^j.toNat)) (tC (.int 1)) (A5 0))) (tC (.int 2))) (tC (.int 1))))) (te:=(A5 0)) ["_law_sign"] [("_law_seed",11)] Es.nd rfl (Or.inl rfl) rfl (Bz (Ak I0) ["_law_script","_law_program_here","_law_rests","_law_net","_law_state","_law_cell","_law_coming_here","_law_due","_law_known","_law_found","_law_there","_law_seed"] (by trivial)) (Fy rfl T.n_range (Aa (Aj Ag (pv 1) Af (λ_ _=>rfl)) Ab)) (λs2 H2 fp cl C=>Az (i:=0) (show Nodup [("_law_sign": Str),("_law_seed": Str)] from by trivial) rfl (Or.inl rfl)) (Bg (by decide)) (λs2 H2 fp cl C=>Dk (An A1 (A3 Cq (A3 De (A3 De (pv 1) Af) (A3 Abt Af (pv 0))) Af) Af (Aq _))) (λs2 H2 fp cl C=>(pv 0))))
   A0)
  (Ah (Ar (i:=4) Es.nd rfl (Or.inl rfl) (Aj Ag (Am iE hr rfl Al (Aa (pv 1) (Aa (pv 4) (Aa (pv 10) Ab)))) Af (λ_ _=>rfl)))))))))))))
  (Ah (Ao Dr)))))),?_⟩
 refine⟨a,ns,14,Z,hS,by decide,λt pr c n x1 v r H1 g1 e1 e2 hc g5 f3 hp ok hh hw hz=>?_⟩;refine⟨t,_,Z,SqT.of e1,Z,_,_,Z,_,_,Z,Z,?_⟩;have N:=Aeb n r 0;have a3:=N.ok ok;have f5:=N.sz;have ml:=N.ln;rw[Int.zero_add]at ml;have g0:=N.hg;have wt:=N.wt;have g6:=AgR a3;have f6:=AgF (num r 0).1;have nd:=(Aei r 0).2.1;refine⟨pr,_,_,v,n,(rsP (num r 0).1).length,(num r 0).1,Z,e2,hp,by omega,a3,by omega,by omega,by omega,λk hk=>(by have:=N.rs k hk;rw[ml]at this;exact this),λv' sN nx H2 g2 N2 R M=>?_⟩;obtain⟨oW,L,t2,te,ln,rfl,_,b4,W,g4⟩:=N2.h;obtain⟨gvs,_,hgl,c4,d8,_⟩:=id W;have f8:=R.hi;obtain⟨d7,b9⟩:=AfD R.g (by omega);have GS:=AeN (K:=K) R.g hgl c4;have PG:Pb K H2 pr n (num r 0).1:=⟨⟨_,_,v,g2 _ _ e2,hp.mono g2.tp⟩,by omega,by omega,by omega,Nb a3,by omega⟩;have a2:=g2 _ _ e2;have f1:=(g1.trans g2).seq hS;have e6:=hp.mono g2.tp;have sl:=R.lo;generalize (num r 0).1=p at *;generalize (num r 0).2=rs at *;clear e1 e2 g1 g2 N2 N c4 W hp;refine⟨zN1,λl0 e4=>?_⟩;have k0:=Ae e4 (.lst [V.int 0]);have e0:=qa (H:=H2) (a:=l0) (o:=.lst [V.int 0]);refine⟨_,Z,a,_,Z,k0.seq f1,λl1 e3=>?_⟩;rw[show G2 (ns.map V.int) none (some 8)=(ns.map V.int).take 8 from Afk _ 8,<-map_take];have k1:=Ae e3 (.lst ((ns.take 8).map V.int));have f4:(ns.take 8).length<=8:=by rw[vE];omega
 refine⟨l0,l1,_,_,Z,Z,k1 _ _ e0,qa,Co (by rw[uB];show 1+_<=_;omega),λl2 e9=>?_⟩;have k2:=Ae e9 (.lst ([V.int 0]++(ns.take 8).map V.int));have g3:=(k0.trans k1).trans k2;have hl:(upd (upd (upd H2 l0 (.lst [V.int 0])) l1 (.lst ((ns.take 8).map V.int))) l2 (.lst ([V.int 0]++(ns.take 8).map V.int))) l2=some (.lst ((0::ns.take 8).map V.int)):=qa;generalize (upd (upd (upd H2 l0 (.lst [V.int 0])) l1 (.lst ((ns.take 8).map V.int))) l2 (.lst ([V.int 0]++(ns.take 8).map V.int)))=H3 at hl g3;refine⟨l2,Z,⟨_,SqL.of hl⟩,F0 (K:=K) (a:=l2) (xs:=(0::ns.take 8).map V.int) (λi σ H'=>LpI K H3 a pr t2 p rs σ H') ⟨none,.non,none,none,none,none,none,none,none,Z,Same.refl _,Z,Aed _,vY _⟩ (λi σ H' _ ⟨_,_,_,_,_,_,_,_,_,_,g,_,_,_⟩=>SqL.of (g _ _ hl)) ?_ ?_⟩;rotate_left
 ·rintro σ H' _
  exact q H'
 rintro i y σ HA hi ⟨st,sv,x5,x6,x7,x8,x9,x10,x11,rfl,gA,hs,vd,lst⟩
 obtain⟨cl,rfl⟩:∃c,y=V.int c:=by
  rw[uH]at hi;cases e:(0::ns.take 8)[i]? with
  |none=>rw[e]at hi;cases hi
  |some z=>rw[e]at hi;cases hi;exact⟨z,rfl⟩
 have c6:=g3.trans gA;refine⟨SqT.of (c6 _ _ a2),Ac (j:=0) rfl,cl,c,Z,by omega,λco f2=>?_⟩;have gB:=Ae f2 (.lst ((L1 cl c).map V.int));have b8:=qa (H:=HA) (a:=co) (o:=.lst ((L1 cl c).map V.int));have f9:=Abp cl c;generalize L1 cl c=cs at *;generalize upd HA co (.lst (cs.map V.int))=HB at *;have a4:=c6.trans gB;refine⟨pr,sv,co,n,p,st,cs,Z,PG.mono a4,Kk gB hs,SqL.of b8,λdu HC gC a1=>?_⟩;refine⟨t2,co,sv,gtsOf sN,st,cs,Z,⟨L.gl,_,gvs,SqT.of ((a4.trans gC) _ _ b4),GS.same (a4.trans gC),(a4.trans gC) _ _ hgl,d7⟩,⟨Aez (Kk (gB.trans gC) hs),lst,gC.seq (SqL.of b8),by omega⟩,b9,λkl HD vq=>?_⟩;obtain⟨k,gD,f0,lk,der,d5⟩:=vq;have NS:=AaM M a3 vd sl der d5;have lG:(gtsOf sN).length=sN.gs.length:=uB ..;have b1:=(a4.trans gC).trans gD;have c3:(Jo (Du p st) (n+1) (Bv n cs)).length=n:=by rw[<-NS,uB,vF]
 generalize Jo (Du p st) (n+1) (Bv n cs)=kS at *;have a1:=gD _ _ a1;have a6:=b1 _ _ d8;refine⟨SqT.of (b1 _ _ b4),Ac (j:=1) rfl,L.sl,Z,⟨_,SqL.of a6⟩,Cn (K:=K) (xs:=(List.range n).map λ(i:Nat)=>V.int (i:Int)) (λi ys H'=>H'=HD/\ys=((List.range i).map (knL k)).map vO) ⟨Z,Z⟩ (Co (by rw[uB,vF];omega)) (λi ys H' hh=>by rw[hh.1];exact SqL.of a6) ?_ ?_⟩
 ·rintro j z ys H' N hj ⟨rfl,rfl⟩ hN a5
  have d6:j<n:=by have:=(List.getElem?_eq_some_iff.mp hj).1;rwa[uB,vF]at this
  rw[uH,getElem?_range d6]at hj;cases hj
  refine⟨SqL.of f0,Ac (Aa1 (by omega)),hN _ _ (by rw[uC,uD];omega) ⟨Z,?_⟩⟩;rw[range_succ,uN,uN];rfl
 rintro ys b6 a5 ⟨rfl,rfl⟩ fo e5;rw[uB,vF,NS];have gE:=Ae e5 (.lst (kS.map vO));have e7:=qa (H:=b6) (a:=fo) (o:=.lst (kS.map vO));have a1:=gE _ _ a1;generalize upd b6 fo (.lst (kS.map vO))=HE at *;have b7:=b1.trans gE;have c8:=b7 _ _ a2;refine⟨0,fo,du,_,_,by decide,Z,Z,SqL.of e7,SqL.of a1,Z,AfO,Ez ⟨du,_,Z,.inl (SqL.of a1),SqT.of c8,Ac (j:=2) rfl,Z,A2 (λz=>?_) λ_=>?_⟩⟩
 ·rw[uB,c3]at z
  simp at z
 refine⟨du,_,Z,.inl (SqL.of a1),_,Z,by rw[uB];omega,by rw[uB];omega,?_⟩;rw[show(((kS.map vO).length:Nat):Int).toNat=n by rw[uB,Int.toNat_natCast,c3]];refine F9 (lo:=0) (n:=n) (λi ys H'=>H'=HE/\∃th:List Int,ys=th.map V.int/\th.length<=i) ⟨Z,[],Z,uZ _⟩ (Co (by omega)) ?_ ?_
 ·rintro j ys H' N hj ⟨rfl,th,rfl,a7⟩ hN a5
  have ej:(kS.map vO)[j]?=some (vO (knL kS j)):=Aa1 (by omega);refine⟨SqL.of a1,(by rw[Int.zero_add];exact Ac ej),_,Ael _,A2 (λ_=>(hN _ _ (by rw[uC,uD];omega) ⟨Z,th++[0+(j:Int)],by rw[uN];rfl,by rw[uC,uD];omega⟩)) λ_=>hN _ _ (by omega) ⟨Z,th,Z,by omega⟩⟩
 rintro ys H' a5 ⟨rfl,th,rfl,a7⟩ tl e8;have gF:=Ae e8 (.lst (th.map V.int));have c9:=qa (H:=H') (a:=tl) (o:=.lst (th.map V.int));have a1:=gF _ _ a1;generalize upd H' tl (.lst (th.map V.int))=HF at *;have a8:=b7.trans gF;have c7:=a8 _ _ a2;refine⟨cl,Z,_,_,Z,Z,⟨by decide,by decide⟩,?_⟩;generalize Ke cl/77=sd;refine' Yc (λ(b:Addr)(H':Hp)=>∃th:List Int,Same HF H'/\H' b=some (.lst (th.map V.int))) (λb3=>?_) ?_;rotate_left
 ·refine⟨du,_,Z,.inl (SqL.of a1),Z,Lb _,A2 (λ_=>C8 ?_) λ_=>⟨_,_,Z,Z,(by show(0:Int)<4;decide),Z,A2 (λ_=>?_) λ_=>?_⟩⟩
  rotate_left 2
  ·obtain⟨a9,b2,e1,e2⟩:∃a9 b2,tl=a9/\HF=b2:=⟨_,_,rfl,rfl⟩
   rw[e1,e2];exact b3 a9 b2 ⟨th,e2▸Same.refl _,e1▸e2▸c9⟩
  all_goals
    refine⟨SqT.of c7,Ac (j:=2) rfl,_,Z,by omega,by omega,?_⟩;rw[Int.toNat_natCast];refine F9 (lo:=0) (n:=n) (λi ys H2=>H2=HF/\∃th:List Int,ys=th.map V.int/\th.length<=i) ⟨Z,[],Z,uZ _⟩ (Co (by omega)) ?_ ?_
    ·rintro i ys H2 N hi ⟨rfl,th,rfl,a7⟩ hN a5
     have p1:(0:Int)<1*2^((0:Int)+(i:Int)).toNat:=by
      rw[Int.one_mul];exact Int.pow_pos (by decide)
     have p2:(1:Int)*2^((0:Int)+(i:Int)).toNat<1073741824:=by
      rw[Int.one_mul,show((0:Int)+(i:Int)).toNat=i by omega];have h1:(2:Nat)^i<1073741824:=vA (Nat.pow_lt_pow_right (by decide) (show i<30 by omega)) (by decide);have h2:=Int.ofNat_lt.mpr h1;rw[Int.natCast_pow]at h2;exact h2
     exact⟨_,_,Z,Z,⟨by decide,by decide⟩,_,_,Z,Z,⟨by show(0:Int)<=0+i;omega,by show(0:Int)+i<=1000000;omega,by decide⟩,_,_,Z,Z,⟨p1,p2⟩,_,_,Z,Z,(by show(0:Int)<2;decide),Z,A2 (λ_=>(hN _ _ (by rw[uC,uD];omega) ⟨Z,th++[0+(i:Int)],by rw[uN];rfl,by rw[uC,uD];omega⟩)) λ_=>hN _ _ (by omega) ⟨Z,th,Z,by omega⟩⟩
    rintro ys H2 a5 ⟨rfl,th,rfl,a7⟩ tb d4;exact b3 tb _ ⟨th,Ae d4 _,qa⟩
 rintro tb HG ⟨c5,gG,d9⟩;have b5:=(((((gB.trans gC).trans gD).trans gE).trans gF).trans gG);refine⟨pr,_,_,_,v,p,sv,st,tb,c5,Z,SqT.of ((a8.trans gG) _ _ a2),e6.mono (a8.trans gG).tp,Kk b5 hs,SqL.of d9,PG.hg,by have:=PG.sc;omega,by have:=PG.rc;omega,λt5 HH gH dd=>?_⟩;obtain⟨l5,l6,d1,d2,d3,_⟩:=dd;exact⟨SqT.of d1,Ac (j:=2) rfl,some (N3 p st c5).2.2,.ref l6,_,_,_,_,_,_,_,Z,(gA.trans b5).trans gH,⟨l6,Z,SqL.of d3⟩,Adl a3 nd vd,Ab3 (by have:=PG.sc;omega) (by have:=PG.rc;omega)⟩
end
end Dsk
namespace My
open PySem L2
theorem ln0(h:us.length=0):us=[]:=length_eq_zero_iff.mp h
theorem ln1(h:us.length=1):∃a0,us=[a0]:=by
 cases us with
 |nil=>cases h
 |cons a0 r=>
  obtain rfl:=ln0 (Nat.succ.inj h);exact⟨a0,Z⟩
theorem ln2(h:us.length=2):∃a0 z,us=[a0,z]:=by
 cases us with
 |nil=>cases h
 |cons a0 r=>
  obtain⟨z,rfl⟩:=ln1 (Nat.succ.inj h);exact⟨a0,z,Z⟩
theorem ln3(h:us.length=3):∃a0 z a2,us=[a0,z,a2]:=by
 cases us with
 |nil=>cases h
 |cons a0 r=>
  obtain⟨z,a2,rfl⟩:=ln2 (Nat.succ.inj h);exact⟨a0,z,a2,Z⟩
theorem ln4(h:us.length=4):∃a0 z a2 a3,us=[a0,z,a2,a3]:=by
 cases us with
 |nil=>cases h
 |cons a0 r=>
  obtain⟨z,a2,a3,rfl⟩:=ln3 (Nat.succ.inj h);exact⟨a0,z,a2,a3,Z⟩
theorem ln5(h:us.length=5):∃a0 a1 a2 a3 z,us=[a0,a1,a2,a3,z]:=by
 cases us with
 |nil=>cases h
 |cons a0 r=>
  obtain⟨a1,a2,a3,z,rfl⟩:=ln4 (Nat.succ.inj h);exact⟨a0,a1,a2,a3,z,Z⟩
theorem bd1(F:Fun K x qual st f fd)(h:∀(kV doc pm:Value)(an:Option Addr)(cdv ct x0:Value),bindArgs (fnOf x qual (Cb st) (B0 st) (Ak st) .none kV doc pm an cdv ct) ⟨[x0],[]⟩=pure (([p0]:List Str).zip ([x0]:List Value))):Dh K fd [p0] []:=F.binds λ_ _ _ _ _ _ us hl=>by
 obtain⟨a0,rfl⟩:=ln1 hl;exact h _ _ _ _ _ _ _
theorem bd2(F:Fun K x qual st f fd)(h:∀(kV doc pm:Value)(an:Option Addr)(cdv ct x0 x1:Value),bindArgs (fnOf x qual (Cb st) (B0 st) (Ak st) .none kV doc pm an cdv ct) ⟨[x0,x1],[]⟩=pure (([p0,p1]:List Str).zip ([x0,x1]:List Value))):Dh K fd [p0,p1] []:=F.binds λ_ _ _ _ _ _ us hl=>by
 obtain⟨a0,z,rfl⟩:=ln2 hl;exact h _ _ _ _ _ _ _ _
theorem bd3(F:Fun K x qual st f fd)(h:∀(kV doc pm:Value)(an:Option Addr)(cdv ct x0 x1 x2:Value),bindArgs (fnOf x qual (Cb st) (B0 st) (Ak st) .none kV doc pm an cdv ct) ⟨[x0,x1,x2],[]⟩=pure (([p0,p1,p2]:List Str).zip ([x0,x1,x2]:List Value))):Dh K fd [p0,p1,p2] []:=F.binds λ_ _ _ _ _ _ us hl=>by
 obtain⟨a0,z,a2,rfl⟩:=ln3 hl;exact h _ _ _ _ _ _ _ _ _
theorem bd4(F:Fun K x qual st f fd)(h:∀(kV doc pm:Value)(an:Option Addr)(cdv ct x0 x1 x2 z:Value),bindArgs (fnOf x qual (Cb st) (B0 st) (Ak st) .none kV doc pm an cdv ct) ⟨[x0,x1,x2,z],[]⟩=pure (([p0,p1,p2,p3]:List Str).zip ([x0,x1,x2,z]:List Value))):Dh K fd [p0,p1,p2,p3] []:=F.binds λ_ _ _ _ _ _ us hl=>by
 obtain⟨a0,a1,a2,a3,rfl⟩:=ln4 hl;exact h _ _ _ _ _ _ _ _ _ _
theorem bd5(F:Fun K x qual st f fd)(h:∀(kV doc pm:Value)(an:Option Addr)(cdv ct x0 x1 x2 x3 z:Value),bindArgs (fnOf x qual (Cb st) (B0 st) (Ak st) .none kV doc pm an cdv ct) ⟨[x0,x1,x2,x3,z],[]⟩=pure (([p0,p1,p2,p3,p4]:List Str).zip ([x0,x1,x2,x3,z]:List Value))):Dh K fd [p0,p1,p2,p3,p4] []:=F.binds λ_ _ _ _ _ _ us hl=>by
 obtain⟨a0,a1,a2,a3,a4,rfl⟩:=ln5 hl;exact h _ _ _ _ _ _ _ _ _ _ _
inductive FI(K:FA)(x:Str)(st:Stmt):Prop
 |mk{f:Addr}{oc kV dc pm cd ct:Value}{od an:Option Addr}{sl:Array (Option Value)}(a:nsIn K mainGlobals x=some (some (.ref f)))(l:K.lookup f=some ⟨oc,od,.func (fnOf x x (Cb st) (B0 st) (Ak st) .none kV dc pm an cd ct),sl⟩)(c:codeIn K cd x=true)(k:keepIn K (.ref f)=true)
inductive MI(K:FA)(C:Addr)(x q:Str)(st:Stmt)(h:Addr):Prop
 |mk{oc kV dc pm cd ct:Value}{od an:Option Addr}{sl:Array (Option Value)}(a:findIn K (.ref C) x=some (some (.ref h)))(i:isFn K (.ref h)=true)(l:K.lookup h=some ⟨oc,od,.func (fnOf x q (Cb st) (B0 st) (Ak st) .none kV dc pm an cd ct),sl⟩)(c:codeIn K cd q=true)(k:keepIn K (.ref h)=true)
inductive CI(K:FA)(C:Addr):Prop
 |mk(pg:plainGet K C Str.empty=true)(hd:hasDictIn K C=true)(po:plainOver K C=true)(sa:findIn K (.ref C) "__setattr__"= some (some (.builtin "object.__setattr__")))(mk:makesIn K C=true)(kc:keepIn K (.ref C)=true)
inductive FJ(K:FA)(x q:Str)(st:Stmt):Prop
 |mk{f:Addr}{oc kV dc pm cd ct:Value}{od an:Option Addr}{sl:Array (Option Value)}(a:nsIn K mainGlobals x=some (some (.ref f)))(l:K.lookup f=some ⟨oc,od,.func (fnOf q q (Cb st) (B0 st) (Ak st) .none kV dc pm an cd ct),sl⟩)(c:codeIn K cd q=true)(k:keepIn K (.ref f)=true)
theorem fJ(X:K.In hp)(G:hp.Ns mainGlobals mg)(I:FJ K x q st)(h:∀{f:Addr}{fd:FuncData},Fun K q q st f fd->Dh K fd ps []):Ea K mg x q ps st:=by
 obtain⟨a,l,c,k⟩:=I;exact⟨_,_,B7 l c k,mg_of X G a,h (B7 l c k)⟩
theorem fI1(X:K.In hp)(G:hp.Ns mainGlobals mg)(I:FI K x st)(h:∀(kV doc pm:Value)(an:Option Addr)(cdv ct x0:Value),bindArgs (fnOf x x (Cb st) (B0 st) (Ak st) .none kV doc pm an cdv ct) ⟨[x0],[]⟩=pure (([p0]:List Str).zip ([x0]:List Value))):Ax K mg x [p0] st:=by
 obtain⟨a,l,c,k⟩:=I;exact⟨_,_,B7 l c k,mg_of X G a,bd1 (B7 l c k) h⟩
theorem fI2(X:K.In hp)(G:hp.Ns mainGlobals mg)(I:FI K x st)(h:∀(kV doc pm:Value)(an:Option Addr)(cdv ct x0 x1:Value),bindArgs (fnOf x x (Cb st) (B0 st) (Ak st) .none kV doc pm an cdv ct) ⟨[x0,x1],[]⟩=pure (([p0,p1]:List Str).zip ([x0,x1]:List Value))):Ax K mg x [p0,p1] st:=by
 obtain⟨a,l,c,k⟩:=I;exact⟨_,_,B7 l c k,mg_of X G a,bd2 (B7 l c k) h⟩
theorem fI3(X:K.In hp)(G:hp.Ns mainGlobals mg)(I:FI K x st)(h:∀(kV doc pm:Value)(an:Option Addr)(cdv ct x0 x1 x2:Value),bindArgs (fnOf x x (Cb st) (B0 st) (Ak st) .none kV doc pm an cdv ct) ⟨[x0,x1,x2],[]⟩=pure (([p0,p1,p2]:List Str).zip ([x0,x1,x2]:List Value))):Ax K mg x [p0,p1,p2] st:=by
 obtain⟨a,l,c,k⟩:=I;exact⟨_,_,B7 l c k,mg_of X G a,bd3 (B7 l c k) h⟩
theorem fI4(X:K.In hp)(G:hp.Ns mainGlobals mg)(I:FI K x st)(h:∀(kV doc pm:Value)(an:Option Addr)(cdv ct x0 x1 x2 z:Value),bindArgs (fnOf x x (Cb st) (B0 st) (Ak st) .none kV doc pm an cdv ct) ⟨[x0,x1,x2,z],[]⟩=pure (([p0,p1,p2,p3]:List Str).zip ([x0,x1,x2,z]:List Value))):Ax K mg x [p0,p1,p2,p3] st:=by
 obtain⟨a,l,c,k⟩:=I;exact⟨_,_,B7 l c k,mg_of X G a,bd4 (B7 l c k) h⟩
theorem fI5(X:K.In hp)(G:hp.Ns mainGlobals mg)(I:FI K x st)(h:∀(kV doc pm:Value)(an:Option Addr)(cdv ct x0 x1 x2 x3 z:Value),bindArgs (fnOf x x (Cb st) (B0 st) (Ak st) .none kV doc pm an cdv ct) ⟨[x0,x1,x2,x3,z],[]⟩=pure (([p0,p1,p2,p3,p4]:List Str).zip ([x0,x1,x2,x3,z]:List Value))):Ax K mg x [p0,p1,p2,p3,p4] st:=by
 obtain⟨a,l,c,k⟩:=I;exact⟨_,_,B7 l c k,mg_of X G a,bd5 (B7 l c k) h⟩
abbrev NsR(K:FA)(x:Str)(a:Addr):Prop:=nsIn K mainGlobals x=some (some (.ref a))
abbrev NsN(K:FA)(x:Str):Prop:=nsIn K mainGlobals x=some none
abbrev KpR(K:FA)(a:Addr):Prop:=keepIn K (.ref a)=true
abbrev IfR(K:FA)(a:Addr):Prop:=isFn K (.ref a)=true
abbrev CdR(K:FA)(c:Value)(x:Str):Prop:=codeIn K c x=true
abbrev FnR(K:FA)(f:Addr)(x y:Str)(st:Stmt)(oc:Value)(od:Option Addr)(kV dc pm:Value)(an:Option Addr)(cd ct:Value)(sl:Array (Option Value)):Prop:=K.lookup f=some ⟨oc,od,.func (fnOf x y (Cb st) (B0 st) (Ak st) .none kV dc pm an cd ct),sl⟩
theorem all_mk{l:PySem.W.OpenLaw}{w:World}{K:FA}{h:Heap}{mg:Str->Option Value}{fa oR C h0 h1 h2 h3 h4 h5 h6 h7 h8 c4 jJ jI CP hP:Addr}{pW n8 kW lV lT:Option Addr}{pY kY mE lW:Array (Option Value)}{p5 nQ pB oB mB oJ:Value}{d6 jM jS:Array Value}{lF mH mI:Nat}{kA jP jH:Tok}(X:K.In h)(G:h.Ns mainGlobals mg)(rF:mg "law"= some (.ref fa))(a0:FI K "net_of" Kh)(a1:FI K "wire_part" Gu)(a2:FI K "wire_leaf" Iv)(a3:FI K "wire_rest" Iy)(a4:FI K "wire_leaving" Gi)(a5:FI K "wire_pair" Iw)(a6:FI K "wire_then" Gs)(a7:FI K "wire_if" Kx)(a8:FI K "wire_beside" Gz)(a9:FI K "greater_codes" Dl)(oY:FI K "wire_round" F3)(o7:FI K "wire_again" F7)(nJ:FI K "wire_skipping" Fr)(mZ:FI K "code_gate" Ix)(mT:FI K "leaf_code" Ir)(pA:FI K "code_of_again" Fs)(oH:FI K "code_of_trap" Gh)(m9:FI K "inner_parts" Fj)(o8:FI K "every_part" Hr)(nW:FI K "rests_of" Hs)(oO:FI K "part_to_begin" Ft)(mO:FI K "remaining" Gr)(nU:FI K "left_of_pair" Gj)(oP:FI K "left_of_round" Fv)(m8:FI K "ran" Ta)(oE:FJ K "begun_instants" "begun" Eh)(o9:FJ K "begun_leaf_instants" "begun_leaf" Dm)(pD:FI K "rests_left" Ho)(o6:FJ K "in_turn_instants" "in_turn" Et)(nY:FJ K "side_by_side_instants" "side_by_side" C9)(n9:FI K "repeated" J0)(oT:FI K "walked" Mg)(oS:FJ K "begun_walking" "begun" Cy)(nV:FJ K "begun_leaf_walking" "begun_leaf" Dw)(o4:FJ K "in_turn_walking" "in_turn" Dq)(nO:FJ K "side_by_side_walking" "side_by_side" Cg)(nX:FI K "one_of" Me)(m6:FI K "recoded" Ku)(oG:FI K "body_to_begin" Fu)(mK:FI K "instant" Kt)(mJ:FI K "rounds" Mf)(mU:FI K "settled" Kv)(oK:FI K "signs_that_are" Eg)(m5:FI K "known_at_first" Ef)(oM:FI K "known_behind" Gm)(nI:FI K "changes_by" F6)(pE:FI K "_law_mixed" Hq)(nB:FI K "_law_at" Kw)(nM:FI K "_law_leaf" Iu)(nZ:FI K "_law_deep" Fl)(oZ:FI K "_law_grown" Ht)(mY:FI K "_law_body" Iz)(m7:FI K "_law_numbered" Eu)(oU:FI K "_law_program" Gk)(oX:FI K "_law_coming" Fi)(nA:FI K "_law_value" F5)(oN:FI K "_law_least" F4)(o5:NsR K "law" oR)(oQ:FnR K oR "law" "law" I0 p5 pW nQ pB oB n8 mB oJ pY)(mX:CdR K mB "law")(mQ:KpR K oR)(aC:NsR K "Wiring" C)(lR:MI K C "__init__" "Wiring.__init__" Dsk.N9 h0)(k9:MI K C "gate" "Wiring.gate" Dsk.Wi h1)(lH:MI K C "later" "Wiring.later" Dsk.Rf h2)(lQ:MI K C "fill" "Wiring.fill" Dsk.Abx h3)(lP:MI K C "opposite" "Wiring.opposite" Dsk.Qk h4)(lK:MI K C "every_of" "Wiring.every_of" Dsk.Qi h5)(lI:MI K C "some_of" "Wiring.some_of" Dsk.Su h6)(lJ:MI K C "joined" "Wiring.joined" Dsk.Mh h7)(lS:MI K C "new_part" "Wiring.new_part" Dsk.Qj h8)(pg:CI K C)(jO:findIn K (.ref C) "gates"= some none)(jX:findIn K (.ref C) "signs"= some none)(d5:findIn K (.ref C) "senders"= some none)(c7:findIn K (.ref C) "leavers"= some none)(d9:NsR K "NOTHING" c4)(d4:K.lookup c4=some ⟨Value.type "tuple",kW,.seq d6 lF,kY⟩)(c8:d6.size<=sizeLine)(i9:A8 [V.str "nothing"] d6.toList)(kB:NsR K "PAIRS" jJ)(kE:K.lookup jJ=some ⟨Value.type "tuple",lV,.seq jM mH,mE⟩)(jL:jM.size<=sizeLine)(jY:A8 [V.str "then",V.str "if",V.str "beside"] jM.toList)(kG:NsR K "ROUND" jI)(jR:K.lookup jI=some ⟨Value.type "tuple",lT,.seq jS mI,lW⟩)(jN:jS.size<=sizeLine)(jT:A8 [V.str "again",V.str "hold",V.str "watch",V.str "trap"] jS.toList)(jZ:nsIn K mainGlobals "ENDED"= some (some (.int 0 kA)))(jQ:nsIn K mainGlobals "RESTS"= some (some (.int 1 jP)))(jF:nsIn K mainGlobals "LEAVES"= some (some (.int 2 jH)))(mW:NsR K "Wired" CP)(lM:MI K CP "__init__" "Wired.__init__" Dsk.Y7 hP)(lO:CI K CP)(kI:findIn K (.ref CP) "runs"= some none)(kH:findIn K (.ref CP) "kept"= some none)(jU:findIn K (.ref CP) "stays"= some none)(jW:findIn K (.ref CP) "rests"= some none)(jV:findIn K (.ref CP) "codes"= some none)(c5:NsN K "enumerate")(kT:NsN K "int")(b6:NsN K "isinstance")(k7:NsN K "len")(kP:NsN K "list")(kR:NsN K "max")(k8:NsN K "min")(kK:NsN K "range")(kU:NsN K "set")(kF:NsN K "sorted")(kJ:NsN K "tuple"):∃fd:FuncData,(∀(s:Shared)(v:Value),BindsTo s fd ⟨[v],[]⟩ [("_law_script",v)])/\∀base:Heap,K.In base->base.Ns mainGlobals mg->Ca l.prog w K mg base CX0 71 fa fd ["_law_script"] (S5 K):=by
 obtain⟨lR,qM,rT,qR,rM⟩:=lR;obtain⟨k9,qS,rC,rH,pV⟩:=k9;obtain⟨lH,rX,qI,qZ,pK⟩:=lH;obtain⟨lQ,rP,rQ,qO,pN⟩:=lQ;obtain⟨lP,rV,qJ,qH,pR⟩:=lP;obtain⟨lK,rO,rG,qD,pU⟩:=lK;obtain⟨lI,qP,qW,rA,pQ⟩:=lI;obtain⟨lJ,rW,rJ,qX,pM⟩:=lJ;obtain⟨lS,qU,qF,qN,pP⟩:=lS;obtain⟨lM,rL,qK,qL,rN⟩:=lM;obtain⟨pg,hd,po,sa,mk,kc⟩:=pg;obtain⟨lO,q9,qE,qG,qV,qT⟩:=lO;have e:=rF.symm.trans (mg_of X G o5);cases e
 have T:Txt mg:=⟨mg_none_of X G c5,mg_none_of X G kT,mg_none_of X G b6,mg_none_of X G k7,mg_none_of X G kP,mg_none_of X G kR,mg_none_of X G k8,mg_none_of X G kK,mg_none_of X G kU,mg_none_of X G kF,mg_none_of X G kJ⟩;have Cl:Cls K C:=⟨pg,hd,po,sa⟩;have mC:=mg_of X G aC;have kX:=mg_of X G d9;have kQ:Mz K c4 [V.str "nothing"]:=⟨_,_,_,d4,Z,Z,c8,i9⟩;have lY:=mg_of X G kB;have lN:Mz K jJ [V.str "then",V.str "if",V.str "beside"]:=⟨_,_,_,kE,Z,Z,jL,jY⟩;have lZ:=mg_of X G kG;have lB:Mz K jI [V.str "again",V.str "hold",V.str "watch",V.str "trap"]:=⟨_,_,_,jR,Z,Z,jN,jT⟩;have kO:=mg_of X G jZ;have kM:=mg_of X G jQ;have kL:=mg_of X G jF;have gO:=B7 (st:=Dsk.N9) rT qR rM;have iW:=bd2 (p0:="self") (p1:="signs") gO λ_ _ _ _ _ _ _ _=>rfl
 have qQ:Mk K C h0:=⟨mk,lR,qM,kc⟩;have dI:=B7 (st:=Dsk.Wi) rC rH pV;have gP:=bd3 (p0:="self") (p1:="word") (p2:="numbers") dI λ_ _ _ _ _ _ _ _ _=>rfl
 have gQ:Jp K C "gate" h1:=⟨k9,qS,pV⟩;have cN:=B7 (st:=Dsk.Rf) qI qZ pK;have eJ:=bd1 (p0:="self") cN λ_ _ _ _ _ _ _=>rfl
 have eM:Jp K C "later" h2:=⟨lH,rX,pK⟩;have gU:=B7 (st:=Dsk.Abx) rQ qO pN;have iX:=bd4 (p0:="self") (p1:="number") (p2:="word") (p3:="numbers") gU λ_ _ _ _ _ _ _ _ _ _=>rfl
 have iY:Jp K C "fill" h3:=⟨lQ,rP,pN⟩;have cJ:=B7 (st:=Dsk.Qk) qJ qH pR;have fH:=bd2 (p0:="self") (p1:="number") cJ λ_ _ _ _ _ _ _ _=>rfl
 have fK:Jp K C "opposite" h4:=⟨lP,rV,pR⟩;have cK:=B7 (st:=Dsk.Qi) rG qD pU;have fL:=bd2 (p0:="self") (p1:="numbers") cK λ_ _ _ _ _ _ _ _=>rfl
 have fM:Jp K C "every_of" h5:=⟨lK,rO,pU⟩;have cU:=B7 (st:=Dsk.Su) qW rA pQ;have gY:=bd2 (p0:="self") (p1:="numbers") cU λ_ _ _ _ _ _ _ _=>rfl
 have hJ:Jp K C "some_of" h6:=⟨lI,qP,pQ⟩;have dP:=B7 (st:=Dsk.Mh) rJ qX pM;have iF:=bd2 (p0:="self") (p1:="pairs") dP λ_ _ _ _ _ _ _ _=>rfl
 have iH:Jp K C "joined" h7:=⟨lJ,rW,pM⟩;have cL:=B7 (st:=Dsk.Qj) qF qN pP;have fN:=bd1 (p0:="self") cL λ_ _ _ _ _ _ _=>rfl
 have fO:Jp K C "new_part" h8:=⟨lS,qU,pP⟩;have iS:Ax K mg "net_of" ["program"] Kh:=fI1 X G a0 λ_ _ _ _ _ _ _=>rfl
 have fP:Ax K mg "wire_part" ["wiring","part"] Gu:=fI2 X G a1 λ_ _ _ _ _ _ _ _=>rfl
 have fR:Ax K mg "wire_leaf" ["wiring","part","whole"] Iv:=fI3 X G a2 λ_ _ _ _ _ _ _ _ _=>rfl
 have fT:Ax K mg "wire_rest" ["wiring","rest","whole"] Iy:=fI3 X G a3 λ_ _ _ _ _ _ _ _ _=>rfl
 have dJ:Ax K mg "wire_leaving" ["wiring","rest","whole","memory","comes"] Gi:=fI5 X G a4 λ_ _ _ _ _ _ _ _ _ _ _=>rfl
 have fU:Ax K mg "wire_pair" ["wiring","part","whole","first","second"] Iw:=fI5 X G a5 λ_ _ _ _ _ _ _ _ _ _ _=>rfl
 have fZ:Ax K mg "wire_then" ["wiring","whole","first","second"] Gs:=fI4 X G a6 λ_ _ _ _ _ _ _ _ _ _=>rfl
 have iI:Ax K mg "wire_if" ["wiring","sign","whole","first","second"] Kx:=fI5 X G a7 λ_ _ _ _ _ _ _ _ _ _ _=>rfl
 have dU:Ax K mg "wire_beside" ["wiring","whole","first","second"] Gz:=fI4 X G a8 λ_ _ _ _ _ _ _ _ _ _=>rfl
 have cW:Ax K mg "greater_codes" ["wiring","sides"] Dl:=fI2 X G a9 λ_ _ _ _ _ _ _ _=>rfl
 have eO:Ax K mg "wire_round" ["wiring","part","whole","inner"] F3:=fI4 X G oY λ_ _ _ _ _ _ _ _ _ _=>rfl
 have eQ:Ax K mg "wire_again" ["wiring","rest","whole","inner"] F7:=fI4 X G o7 λ_ _ _ _ _ _ _ _ _ _=>rfl
 have cX:Ax K mg "wire_skipping" ["wiring","part","whole","inner"] Fr:=fI4 X G nJ λ_ _ _ _ _ _ _ _ _ _=>rfl
 have gI:Ax K mg "code_gate" ["wiring","whole","code"] Ix:=fI3 X G mZ λ_ _ _ _ _ _ _ _ _=>rfl
 have bU:Ax K mg "leaf_code" ["part"] Ir:=fI1 X G mT λ_ _ _ _ _ _ _=>rfl
 have bF:Ax K mg "code_of_again" ["code"] Fs:=fI1 X G pA λ_ _ _ _ _ _ _=>rfl
 have bJ:Ax K mg "code_of_trap" ["code"] Gh:=fI1 X G oH λ_ _ _ _ _ _ _=>rfl
 have dW:Ax K mg "inner_parts" ["part"] Fj:=fI1 X G m9 λ_ _ _ _ _ _ _=>rfl
 have eT:Ax K mg "every_part" ["part"] Hr:=fI1 X G o8 λ_ _ _ _ _ _ _=>rfl
 have hW:Ax K mg "rests_of" ["part"] Hs:=fI1 X G nW λ_ _ _ _ _ _ _=>rfl
 have cY:Ax K mg "part_to_begin" ["part","state"] Ft:=fI2 X G oO λ_ _ _ _ _ _ _ _=>rfl
 have gJ:Ax K mg "remaining" ["part","state"] Gr:=fI2 X G mO λ_ _ _ _ _ _ _ _=>rfl
 have dL:Ax K mg "left_of_pair" ["part","first","second"] Gj:=fI3 X G nU λ_ _ _ _ _ _ _ _ _=>rfl
 have cZ:Ax K mg "left_of_round" ["part","inner"] Fv:=fI2 X G oP λ_ _ _ _ _ _ _ _=>rfl
 have jB:Ax K mg "ran" ["part","state","there"] Ta:=fI3 X G m8 λ_ _ _ _ _ _ _ _ _=>rfl
 have cO:Ea K mg "begun_instants" "begun" ["part","there"] Eh:=fJ X G oE λF=>bd2 (p0:="part") (p1:="there") F λ_ _ _ _ _ _ _ _=>rfl
 have bY:Ea K mg "begun_leaf_instants" "begun_leaf" ["part"] Dm:=fJ X G o9 λF=>bd1 (p0:="part") F λ_ _ _ _ _ _ _=>rfl
 have eU:Ax K mg "rests_left" ["part"] Ho:=fI1 X G pD λ_ _ _ _ _ _ _=>rfl
 have cG:Ea K mg "in_turn_instants" "in_turn" ["first","second"] Et:=fJ X G o6 λF=>bd2 (p0:="first") (p1:="second") F λ_ _ _ _ _ _ _ _=>rfl
 have bO:Ea K mg "side_by_side_instants" "side_by_side" ["first","second"] C9:=fJ X G nY λF=>bd2 (p0:="first") (p1:="second") F λ_ _ _ _ _ _ _ _=>rfl
 have hX:Ax K mg "repeated" ["rest","inner"] J0:=fI2 X G n9 λ_ _ _ _ _ _ _ _=>rfl
 have iT:Ax K mg "walked" ["part","state","sure","known"] Mg:=fI4 X G oT λ_ _ _ _ _ _ _ _ _ _=>rfl
 have dB:Ea K mg "begun_walking" "begun" ["part","sure","known"] Cy:=fJ X G oS λF=>bd3 (p0:="part") (p1:="sure") (p2:="known") F λ_ _ _ _ _ _ _ _ _=>rfl
 have cC:Ea K mg "begun_leaf_walking" "begun_leaf" ["part","sure"] Dw:=fJ X G nV λF=>bd2 (p0:="part") (p1:="sure") F λ_ _ _ _ _ _ _ _=>rfl
 have cI:Ea K mg "in_turn_walking" "in_turn" ["first","second"] Dq:=fJ X G o4 λF=>bd2 (p0:="first") (p1:="second") F λ_ _ _ _ _ _ _ _=>rfl
 have bV:Ea K mg "side_by_side_walking" "side_by_side" ["first","second"] Cg:=fJ X G nO λF=>bd2 (p0:="first") (p1:="second") F λ_ _ _ _ _ _ _ _=>rfl
 have iU:Ax K mg "one_of" ["first","second"] Me:=fI2 X G nX λ_ _ _ _ _ _ _ _=>rfl
 have iJ:Ax K mg "recoded" ["inner","codes"] Ku:=fI2 X G m6 λ_ _ _ _ _ _ _ _=>rfl
 have dC:Ax K mg "body_to_begin" ["program","state"] Fu:=fI2 X G oG λ_ _ _ _ _ _ _ _=>rfl
 have iK:Ax K mg "instant" ["program","state","there"] Kt:=fI3 X G mK λ_ _ _ _ _ _ _ _ _=>rfl
 have iV:Ax K mg "rounds" ["program","state","coming"] Mf:=fI3 X G mJ λ_ _ _ _ _ _ _ _ _=>rfl
 have iL:Ax K mg "settled" ["program","state","coming"] Kv:=fI3 X G mU λ_ _ _ _ _ _ _ _ _=>rfl
 have cP:Ax K mg "signs_that_are" ["value","known"] Eg:=fI2 X G oK λ_ _ _ _ _ _ _ _=>rfl
 have cQ:Ax K mg "known_at_first" ["program","coming"] Ef:=fI2 X G m5 λ_ _ _ _ _ _ _ _=>rfl
 have dM:Ax K mg "known_behind" ["known","changes"] Gm:=fI2 X G oM λ_ _ _ _ _ _ _ _=>rfl
 have eV:Ax K mg "changes_by" ["body","known"] F6:=fI2 X G nI λ_ _ _ _ _ _ _ _=>rfl
 have eW:Ax K mg "_law_mixed" ["_law_cell"] Hq:=fI1 X G pE λ_ _ _ _ _ _ _=>rfl
 have iM:Ax K mg "_law_at" ["_law_script","_law_k"] Kw:=fI2 X G nB λ_ _ _ _ _ _ _ _=>rfl
 have gK:Ax K mg "_law_leaf" ["_law_seed","_law_signs"] Iu:=fI2 X G nM λ_ _ _ _ _ _ _ _=>rfl
 have gM:Ax K mg "_law_deep" ["_law_part"] Fl:=fI1 X G nZ λ_ _ _ _ _ _ _=>rfl
 have eX:Ax K mg "_law_grown" ["_law_stack","_law_seed","_law_signs"] Ht:=fI3 X G oZ λ_ _ _ _ _ _ _ _ _=>rfl
 have gN:Ax K mg "_law_body" ["_law_cells","_law_signs"] Iz:=fI2 X G mY λ_ _ _ _ _ _ _ _=>rfl
 have dD:Ax K mg "_law_numbered" ["_law_part","_law_k"] Eu:=fI2 X G m7 λ_ _ _ _ _ _ _ _=>rfl
 have dN:Ax K mg "_law_program" ["_law_script","_law_most"] Gk:=fI2 X G oU λ_ _ _ _ _ _ _ _=>rfl
 have dX:Ax K mg "_law_coming" ["_law_cell","_law_came"] Fi:=fI2 X G oX λ_ _ _ _ _ _ _ _=>rfl
 have eY:Ax K mg "_law_value" ["_law_gate","_law_state","_law_coming_here","_law_known"] F5:=fI4 X G nA λ_ _ _ _ _ _ _ _ _ _=>rfl
 have fB:Ax K mg "_law_least" ["_law_net","_law_state","_law_coming_here"] F4:=fI3 X G oN λ_ _ _ _ _ _ _ _ _=>rfl
 have jD:=B7 (st:=I0) oQ mX mQ;refine⟨fnOf "law" "law" (Cb I0) (B0 I0) (Ak I0) .none nQ pB oB n8 mB oJ,λs v=>.of_eq rfl,λbase _ _=>?_⟩;have mD:A7 (.int 0) (Value.int 0 kA):=⟨_,Z⟩;have lX:A7 (.int 1) (Value.int 1 jP):=⟨_,Z⟩;have lA:A7 (.int 2) (Value.int 2 jH):=⟨_,Z⟩;have TR:Db K mg c4 jJ jI (Value.int 0 kA) (Value.int 1 jP) (Value.int 2 jH):={toTxt:=T,m_ENDED:=kO,r_ENDED:=mD,m_RESTS:=kM,r_RESTS:=lX,m_LEAVES:=kL,r_LEAVES:=lA,m_NOTHING:=kX,r_NOTHING:=rfl,mN:=kQ,m_PAIRS:=lY,r_PAIRS:=rfl,mP:=lN,m_ROUND:=lZ,r_ROUND:=rfl,mR:=lB};have o3:=Yy (P:=l.prog) (w:=w) (base:=base) gJ TR (Af0 dL TR) (Afw cZ TR) 40;have pX:=Yp (P:=l.prog) (w:=w) (base:=base) cO TR (Agl bY TR (K2 bU TR) (Agc eU TR)) (AeI cG TR) (AdR bO TR) (AfW hX TR (Ur bF TR)) (Ts bJ TR) 40;have nH:=Aey cY TR o3;have pF:=Ady jB TR nH pX;have rK:=AbZ (P:=l.prog) (w:=w) (base:=base) dB TR (AcT cC TR (K2 bU TR)) (Ac1 cI TR) (Acq bV TR) (Ad2 iU TR) (Adr iJ TR) (Ur bF TR) (Ts bJ TR) 40;have mM:=Acs iT TR nH rK;have mL:=AfJ (P:=l.prog) (w:=w) (base:=base) dC TR o3;have pI:=Adt iK TR mL (Ada pF);have nD:=Acg mM;have lL:=Acw (P:=l.prog) (w:=w) (base:=base) cQ T;have oV:=AfA (P:=l.prog) (w:=w) (base:=base) dM T;have p9:=AfH iV T mL lL oV (Aev eV T nD (Ae6 cP T));have pZ:=Afl iL T lL oV p9;have rD:Cls K CP:=⟨lO,q9,qE,qG⟩;have TW:Dsk.Cj K mg C CP:={toTxt:=T,cl:=Cl,nG:=jO,nS:=jX,nN:=d5,nL:=c7,clP:=rD,nR:=kI,nK:=kH,nT:=jU,nE:=jW,nC:=jV,m_Wired:=mg_of X G mW,m_Wiring:=mC,m_EN:=⟨_,kO⟩,m_RE:=⟨_,kM⟩,m_LE:=⟨_,kL⟩};have FP:=B7 (st:=Dsk.Y7) qK qL rN;have bP:=bd4 (p0:="self") (p1:="runs") (p2:="kept") (p3:="stays") FP λ_ _ _ _ _ _ _ _ _ _=>rfl
 have MkP:Mk K CP hP:=⟨qV,lM,rL,qT⟩;have GP:=Dsk.AhV (P:=l.prog) (w:=w) (base:=base) FP TW;have d8:Bb l.prog w K mg base 1 C "gate" ["self","word","numbers"] (Dsk.Jj C):=⟨_,_,Dsk.Ahj dI TW,gP,gQ,Cl⟩;have nP:Bb l.prog w K mg base 2 C "later" ["self"] (Dsk.Xi C):=⟨_,_,Dsk.AhL cN TW d8,eJ,eM,Cl⟩;have jE:Bb l.prog w K mg base 1 C "fill" ["self","number","word","numbers"] (Dsk.Jb C):=⟨_,_,Dsk.Ahh gU TW,iX,iY,Cl⟩;have kN:Bb l.prog w K mg base 2 C "opposite" ["self","number"] (Dsk.Nz C):=⟨_,_,Dsk.Afs cJ TW d8,fH,fK,Cl⟩;have b7:Bb l.prog w K mg base 2 C "every_of" ["self","numbers"] (Dsk.G7 C):=⟨_,_,Dsk.Afz cK TW d8,fL,fM,Cl⟩;have b8:Bb l.prog w K mg base 2 C "some_of" ["self","numbers"] (Dsk.He C):=⟨_,_,Dsk.Agp cU TW d8,gY,hJ,Cl⟩;have jK:Bb l.prog w K mg base 3 C "joined" ["self","pairs"] (Dsk.J6 C):=⟨_,_,Dsk.Ago dP TW b8,iF,iH,Cl⟩;have p7:Bb l.prog w K mg base 3 C "new_part" ["self"] (Dsk.AaK C CP):=⟨_,_,Dsk.AgU cL TW MkP GP bP nP,fN,fO,Cl⟩;have oI:Bb l.prog w K mg base 1 C "gate" ["self","word","numbers"] (Dsk.Xe C):=⟨_,_,Dsk.Agv dI TW,gP,gQ,Cl⟩;have mG:Bb l.prog w K mg base 2 C "later" ["self"] (Dsk.O2 C):=⟨_,_,Dsk.Agq cN TW oI,eJ,eM,Cl⟩;have GW:=Dsk.AhU gO TW mG;have pO:=Dsk.AgC dJ TW b7 b8;have mF:=Dsk.Afq gI TW b8;have pJ:=Dsk.Agx fR TW b8 (K2 bU TR) (Dsk.Ag9 fT TW d8 kN b7 pO);have pH:=Dsk.Ahd fU TW jE b8 mF (Dsk.Agy fZ TW jE kN b7 jK mF) (Dsk.Ahn iI TW jE kN b7 jK) (Dsk.Ahi dU TW jE kN b7 jK (Dsk.Aft cW TW b7 b8));have m4:=Dsk.Agn eO TW jE jK (Ts bJ TR) (Dsk.AhN cX TW jE kN b7 b8 jK) (Dsk.Agm eQ TW d8 b8 jK (Ur bF TR) mF pO);have pL:=Dsk.AhQ (P:=l.prog) (w:=w) (base:=base) dW T;have qY:=Dsk.AbF fP TW p7 pL pH m4 pJ 63;have qA:=Dsk.AhK iS TW qQ GW iW d8 jE mF (Dsk.AhY hW T (Dsk.AhB eT pL)) qY;have kZ:=Dsk.AhI (P:=l.prog) (w:=w) (base:=base) eW;have pG:=Dsk.Ahm dN T (Dsk.Ahs iM T kZ) (Dsk.Ahe gN T kZ (Dsk.Ahr gK) (Dsk.Aho eX T (Dsk.Acx gM T 60))) (Dsk.AeU dD T 63);exact Dsk.Ahp jD T pG qA kZ (Dsk.Ahl dX T kZ) (Dsk.AhF fB T (Dsk.Ag5 eY T)) pZ pI
theorem walk{l:PySem.W.OpenLaw}{q:Program}{a1:List Str}{XP:(Str->Option Value)->Heap->Prop}{YP:World->Heap->Prop}{d:DefRec}{K:Params->FA}(hn:l.most=some 63)(a2:d.params.defaults=[])
  (hY:∀(w:World)(h:Heap),YP w h->(K w.params).In h)
  (F:∀(w:World)(mg:Str->Option Value)(fa:Addr)(h:Heap),(K w.params).In h->h.Ns mainGlobals mg->mg d.name=some (.ref fa) ->
   ∃fd:FuncData,(∀(s:Shared)(u:Value),BindsTo s fd ⟨[u],[]⟩ [("_law_script",u)])/\∀base:Heap,(K w.params).In base->base.Ns mainGlobals mg->Ca l.prog w (K w.params) mg base CX0 71 fa fd ["_law_script"] (S5 (K w.params))) :
  PySem.W.WalkO q a1 XP YP l.row.toRowW d [] (λf vs=>PySem.call f vs):=
 L2.Ahg (n:=63) (k:=71) (x:="_law_script") (CX:=λ_=>CX0) (sp:=λw=>S5 (K w.params)) hn (by decide) a2 ⟨Z,by decide,by decide⟩ hY F (λ_ _ a ns hl _ hS=>⟨a,ns,Z,hS,hl,λ_=>rfl⟩) λ_ _ _ _ _ z=>z
end My
open PySem PySem.W PyProof.Rows L2
def PySem.W.Fast.tw14442519991004597208:PySem.Program:=PySem.Challenge.pw_signalwise_k45_net_signs
theorem PySem.W.Fast.te14442519991004597208:PySem.Challenge.pw_signalwise_k45_net_signs=PySem.W.Fast.tw14442519991004597208:=rfl
namespace PySem.W.Fast
def tw7252662057561290266:=()
def tw14022562307812427783:=()
def tw15208436721298034369:=()
def tw6762457869561696290:=()
def tw1092504252831969089:=()
def tw10295434231471176385:=()
def tw13515931996087662357:=()
def tw543943673631305720:=()
def tw9628670107488023568:=()
def tw2475565551698005183:=()
def tw12859741216527462485:=()
def tw2585759061702734835:=()
def tw1989538105084291117:=()
def tw4195758803840258960:=()
def tw1014188529928775174:=()
def tw1930953965856195994:=()
def tw6597969159035208775:=()
def tw11271746476471439714:=()
def tw828289132742752701:=()
def tw4437579153393874742:=()
def tw15296937555629509150:=()
def tw4199589476982020943:=()
def tw16363894584723429349:=()
def tw104704712625659334:=()
def tw12705341742113882164:=()
def tw15839752988820695409:=()
def tw4765397843839326183:=()
def tw7920398395389329347:=()
def tw2255852111009063886:=()
def tw7006335940405792304:=()
def tw17708267029381282681:=()
def tw8069443929054480037:=()
def tw11433467963417436454:=()
def tw5604745943639707398:=()
def tw16681202365755366744:=()
def tw10728719187761466630:=()
def tw4671849743917842694:=()
def tw15642921892036523474:=()
def tw11592289404544313155:=()
def tw6639951814126428448:=()
def tw13123165943123296977:=()
def tw9124908341749935077:=()
def tw8325165772291780449:=()
def tw5127640176623091907:=()
def tw11697191063962660595:=()
def tw17644816254741396722:=()
def tw2354726757313503425:=()
def tw1213081400788016467:=()
def tw16249125453016144229:=()
def tw12468510577198976985:=()
def tw13103912196787807423:=()
def tw6344928607992024441:=()
def tw16379597529673728569:=()
def tw9366604580717907831:=()
def tw9969342347735153265:=()
def tw15125205899375152205:=()
def tw7251008043029910893:=()
def tw9119230924983172838:=()
def tw3469438284192597697:=()
def tw1436975441368918588:=()
def tw12585752125038717284:=()
def tw13630832728044868164:=()
def tw8363108905016635142:=()
def tw9546144518609461230:=()
def tw11690520172383816571:=()
def tw1200478511305668944:=()
def tw2095091856551700217:=()
def tw6318956395530816436:=()
def tw919657277201041425:=()
def tw11241466648154039555:=()
def tw12095881846902413325:=()
def tw13483230940683413061:=()
def tw18286799809570746732:=()
def tw16527217496523870356:=()
def tw18368196651418617737:=()
def tw15586257901359981442:=()
def tw14772507630248806609:=()
def tw18118124451683812139:=()
def tw10381162988970037517:=()
def tw13103190570525811784:=()
def tw6586698326906003230:=()
def tw12003564251881788178:=()
def tw16542379355983813861:=()
def tw2937993441556931028:=()
def tw8172994220637991708:=()
def tw17609937778336068744:=()
def tw3564390411870024482:=()
def tw3655885601705558415:=()
def tw9884767278466059220:=()
def tw3251294938318200161:=()
def tw1361286969814587196:=()
def tw7110615031051602290:=()
def tw1768170151515052931:=()
def tw17852038218216836892:=()
def tw14975698936691453835:=()
def tw10256873492456242805:=()
def tw11855321232016937161:=()
def tw4470413504881701554:=()
def tw10399434172343492769:=()
def tw11210700135665984739:=()
def tw11720648706404368770:=()
def tw412367099448300923:=()
def tw16176806072883101915:=()
def tw10648758330575186007:=()
def tw4471186585295681552:=()
def tw4211444930879552407:=()
def tw3918468788064710767:=()
def tw10570012004558508877:=()
def tw3735339960283503710:=()
def tw17331499255919436506:=()
def tw4881444621523799067:=()
def tw13125941718297474478:=()
def tw14213202312123906533:=()
def tw6006080067338178553:=()
def tw10379942357653570361:=()
def tw4362660014892264639:=()
def tw17511244683820171154:=()
def tw1880567834536817883:=()
def tw13195051495904617715:=()
def tw5571642606335079538:=()
def tw18108746319957950074:=()
def tw9081476992211463583:=()
def tw3062663161318668687:=()
def tw285612475176030443:=()
def tw3538494769752521107:=()
def tw18114850589042575668:=()
def tw6190767852745213570:=()
def tw13665951725585204216:=()
def tw12074328691682810134:=()
def tw12946066621977727688:=()
def tw1311624785557565520:=()
def tw412516781594947799:=()
def tw12556491724182172392:=()
def tw11320218599577222288:=()
def tw9981596155807188451:=()
def tw5975301296270885011:=()
def tw12623257898792531064:=()
def tw1369385188115691500:=()
def tw871403699946826426:=()
def tw13580655553501313421:=()
def tw13386569010840383411:=()
def tw8834291736203870165:=()
def tw4527457832552808877:=()
def tw16416061190742454848:=()
def tw6729767821122319498:=()
def tw3131138831114475839:=()
def tw7601201931975346779:=()
def tw3329629741679026034:=()
def tw12298297120200047398:=()
def tw10802316934944399060:=()
def tw12370130103685214380:=()
def tw6016039854342732954:=()
def tw12840667242455212715:=()
def tw6612648967793200343:=()
def tw16525594750880453666:=()
def tw1595848268944218028:=()
def tw5396004608261635585:=()
def tw7996290931034495701:=()
def tw4366283172457211808:=()
def tw9391708098041814553:=()
def tw14330543890515835703:=()
def tw6067091488649887025:=()
end PySem.W.Fast
set_option maxHeartbeats 0 in
theorem PySem.Challenge.cw_signalwise_k45_net_signs_holds : PySem.Challenge.rw_signalwise_k45_net_signs.Holds := by
 w_on; o_law; k_head; (case hw=>w_witness2)
 k_fill
 refine My.walk (l:=PySem.Challenge.rw_signalwise_k45_net_signs) rfl rfl (λ w h Y=>kIn_of Y) ?F
 case F =>
  intro w mg fa h KX G hmg;refine' My.all_mk KX G hmg ?a0 ?a1 ?a2 ?a3 ?a4 ?a5 ?a6 ?a7 ?a8 ?a9 ?oY ?o7 ?nJ ?mZ ?mT ?pA ?oH ?m9 ?o8 ?nW ?oO ?mO ?nU ?oP ?m8 ?oE ?o9 ?pD ?o6 ?nY ?n9 ?oT ?oS ?nV ?o4 ?nO ?nX ?m6 ?oG ?mK ?mJ ?mU ?oK ?m5 ?oM ?nI ?pE ?nB ?nM ?nZ ?oZ ?mY ?m7 ?oU ?oX ?nA ?oN ?o5 ?oQ ?mX ?mQ ?aC ?lR ?k9 ?lH ?lQ ?lP ?lK ?lI ?lJ ?lS ?pg ?jO ?jX ?d5 ?c7 ?d9 ?d4 ?c8 ?i9 ?kB ?kE ?jL ?jY ?kG ?jR ?jN ?jT ?jZ ?jQ ?jF ?mW ?lM ?lO ?kI ?kH ?jU ?jW ?jV ?c5 ?kT ?b6 ?k7 ?kP ?kR ?k8 ?kK ?kU ?kF ?kJ
  (case a0|a1|a2|a3|a4|a5|a6|a7|a8|a9|oY|o7|nJ|mZ|mT|pA|oH|m9|o8|nW|oO|mO|nU|oP|m8=>apply My.FI.mk <;> k_is)
  (case oE|o9=>apply My.FJ.mk <;> k_is)
  (case pD=>apply My.FI.mk <;> k_is)
  (case o6|nY=>apply My.FJ.mk <;> k_is)
  (case n9|oT=>apply My.FI.mk <;> k_is)
  (case oS|nV|o4|nO=>apply My.FJ.mk <;> k_is)
  (case nX|m6|oG|mK|mJ|mU|oK|m5|oM|nI|pE|nB|nM|nZ|oZ|mY|m7|oU|oX|nA|oN=>apply My.FI.mk <;> k_is)
  (case o5|oQ|mX|mQ|aC=>show _ = _;k_is)
  (case lR|k9|lH|lQ|lP|lK|lI|lJ|lS=>apply My.MI.mk <;> k_is)
  (case pg=>apply My.CI.mk <;> k_is)
  (case jO|jX|d5|c7|d9|d4=>show _ = _;k_is)
  (case c8=>decide)
  (case i9=>exact .cons ⟨_,Z⟩ (.nil))
  (case kB|kE=>show _ = _;k_is)
  (case jL=>decide)
  (case jY=>exact .cons ⟨_,Z⟩ (.cons ⟨_,Z⟩ (.cons ⟨_,Z⟩ (.nil))))
  (case kG|jR=>show _ = _;k_is)
  (case jN=>decide)
  (case jT=>exact .cons ⟨_,Z⟩ (.cons ⟨_,Z⟩ (.cons ⟨_,Z⟩ (.cons ⟨_,Z⟩ (.nil)))))
  (case jZ|jQ|jF|mW=>show _ = _;k_is)
  (case lM=>apply My.MI.mk <;> k_is)
  (case lO=>apply My.CI.mk <;> k_is)
  (case kI|kH|jU|jW|jV|c5|kT|b6|k7|kP|kR|k8|kK|kU|kF|kJ=>show _ = _;k_is)
#print axioms PySem.Challenge.cw_signalwise_k45_net_signs_holds
