import PyProof.Rows.All
import Wide.All
import OpenK.AllK
import Wide.FinOn
import Lean
import PyProof.EqAt
import PyProof.EqKinds
import PyProof.TupleCall
import KE.KItemsList
import KE.KPairComp
import KE.KDictOf
import PyProof.AttrMissHeap
import KE.LcSums
import PyProof.StrLawsRepr
import KE.RegKTryMore
import PySem.Challenge.RW_signalwise_k46_whole_net_instant
open List (Nodup Pairwise all_cons all_eq_true any_cons any_eq_true any_map append_assoc append_nil ext_getElem filter filterMap_append filterMap_cons filterMap_cons_none filter_append filter_cons filter_cons_of_neg filter_cons_of_pos filter_eq_self filter_nil find?_cons getD_eq_getElem?_getD getElem?_append_left getElem?_append_right getElem?_eq_getElem getElem?_eq_none getElem?_map getElem?_of_mem getElem?_range getElem?_replicate getElem?_set_ne getElem?_set_self getElem_mem length length_append length_cons length_drop length_eq_zero_iff length_filter_le length_map length_nil length_pos_of_mem length_range length_replicate length_set length_singleton length_take lookup_cons map_append map_cons map_id map_map map_nil map_set map_take mem_append mem_append_left mem_append_right mem_cons mem_cons_of_mem mem_cons_self mem_filter mem_map mem_map_of_mem mem_nil_iff mem_of_getElem? mem_range mem_singleton nil_append nodup_append nodup_cons nodup_nil not_mem_nil of_mem_zip pairwise_cons pairwise_singleton range_succ set_cons_succ set_cons_zero size_toArray take_add_one take_length take_of_length_le take_succ)
open Nat (add_assoc add_le_add add_le_add_left le_add_left le_add_right le_max_left le_max_right le_of_eq le_of_lt le_of_succ_le_succ le_refl le_succ le_total le_trans lt_irrefl lt_of_le_of_lt lt_of_lt_of_le lt_or_ge lt_succ_of_lt lt_succ_self lt_trans max_le mod_lt ne_of_gt ne_of_lt not_le_of_gt not_lt not_lt_zero succ_le_succ zero_add zero_le)
open PySem.W (KdxIt Looks callWith_K cellsFrom_some codeIn emptyDict findIn fnOf handedIn hasDictIn instObj isFn kIn_of keepIn kia_one kitOne kitx_dict kitx_list kitx_tuple lookIn makesIn methodCall_KW methodObj mg_none_of mg_of mroIn nsIn plainGet plainGet_of plainOver takerIn typeIn)
def Z{z:Sort _}{a:z}:a=a:=rfl
set_option autoImplicit true
set_option relaxedAutoImplicit true
noncomputable section
set_option Elab.async false
set_option linter.all false
set_option maxRecDepth 100000
set_option maxHeartbeats 64000000
local macro_rules|`(tactic|trivial)=>`(tactic|decide +kernel)
abbrev FA:=PySem.W.Frag
variable{P prog:PySem.Program}{w:PySem.World}{K:FA}{mg:PySem.Str->Option PySem.Value}{base h h':PySem.Heap}{A:PySem.Around}{pos apos:PySem.Pos}{pins:List (PySem.Addr×PySem.Obj)}{f C a:PySem.Addr}{fd:PySem.FuncData}{ps:List PySem.Str}{us:List PySem.Value}{st:PySem.Stmt}{x:PySem.Str}{k n:Nat}{u:PySem.Value}{e:PySem.Expr}{es:List PySem.Expr}{E:PySem.Value->PySem.Shared->Prop}
theorem qc:false≠true:=Bool.false_ne_true
namespace L2
open PySem PySem.Spec PyProof.Rows
def uA:=@List.getElem?_eq_some_iff
def uB:=@Heap.get?_push_of_some
def uC:=@PySem.Paired.length
def uD:=@Heap.lt_size
def uF:=@Heap.get?_push_size
def uG:=@PySem.F.plainAttrs_list
def uH:=@Option.some.inj
def uI:=@Int.toNat_natCast
def uJ:=@PySem.F.type_list_append
def uK:=@PySem.F.slot_list_append
def uM:=@Classical.byContradiction
def uN:=@Heap.get?_update_other
def uO:=@Int.toNat_of_nonneg
def uP:=@Array.getElem?_eq_getElem
def uQ:=@PySem.mem_of_lookup
def uS:=@Around.under_plainId
def uT:=@Array.length_toList
def uU:=@Int.emod_lt_of_pos
def uV:=@Heap.size_push
def uW:=@Int.emod_nonneg
def uX:=@Heap.get?_update_self
def uY:=@PySem.F.type_list_pop
def uZ:=@PySem.F.slot_list_pop
def vA:=@Bool.and_eq_true
def vB:=@wpAny_bind
def vC:=@wpAny_pure
def vD:=@List.getElem?_eq_getElem
def vE:=@List.length_map
def vF:=@List.length_append
def vG:=@List.length_singleton
def vH:=@List.mem_cons_self
def vI:=@List.mem_cons_of_mem
def vJ:=@List.getElem?_map
def vK:=@decide_eq_true
def vM:=@decide_eq_false
def vN:=@of_decide_eq_true
def vP:=@List.size_toArray
def vQ:=@List.map_append
def vR:=@List.mem_of_getElem?
def vS:=@List.mem_append_right
def vT:=@List.take_of_length_le
def vU:=@List.length_replicate
def vV:=@List.getElem?_append_left
def vW:=@List.getElem?_append_right
def vX:=@List.length_cons
def vY:=@List.mem_append
def vZ:=@List.take_succ
def zA:=@Nat.le_trans
def zB:=@Nat.le_refl
def zD:=@Nat.lt_of_lt_of_le
def zE:=@Nat.lt_of_le_of_lt
def zF:=@Nat.ne_of_lt
def zG:=@List.mem_singleton
def zH:=@List.length_take
def zI:=@List.length_range
def zJ:=@List.not_mem_nil
def zK:=@List.append_nil
def zL:=@List.getElem_mem
def zM:=@List.mem_cons
def zN:=@List.length_set
def zO:=@List.filter_append
def zP:=@List.getElem?_set_ne
def zQ:=@List.getElem?_set_self
def zR:=@List.pairwise_cons
def zS:=@List.nodup_cons
def zT:=@List.map_cons
def zU:=@List.mem_map
def zV:=@List.lookup_cons
def zW:=@wpAny_mono
def zX:=@wpAny_holding
def zY:=@List.mem_append_left
def zZ:=@Nat.zero_le
def mS{z:Type _}{a b:z}(h:a∈[b]):a=b:=zG.mp h
def zN0:0<=sizeLine:=by decide
def zN1:1<=sizeLine:=by decide
def zN2:2<=sizeLine:=by decide
def zN3:3<=sizeLine:=by decide
def zN4:4<=sizeLine:=by decide
abbrev Key:=Sum Int Str
def Mi:Key->Value->Bool
 |.inl k,v=>Value.isInt k v
 |.inr x,v=>Value.isStrOf x v
def Ahl(w:World):Key->Int
 |.inl k=>hashInt k
 |.inr x=>hashStr w x
theorem Cr:∀{k:Key}{v:Value},Mi k v->(∃i t,k=Sum.inl i/\v=Value.int i t)\/(∃x t,k=Sum.inr x/\v=Value.str x t)
 |.inl i,v,h=>by
  obtain⟨t,e⟩:=Value.isInt_shape h;exact .inl ⟨i,t,Z,e⟩
 |.inr x,v,h=>by
  obtain⟨t,e⟩:=Value.isStrOf_shape h;exact .inr ⟨x,t,Z,e⟩
def Abg(i:Int)(t:Tok):Mi (.inl i) (.int i t):=by simp[Mi,Value.isInt]
def Abs(x:Str)(t:Tok):Mi (.inr x) (.str x t):=by simp[Mi,Value.isStrOf]
def AfH(a b:Int):decide ((Sum.inl a:Key)=Sum.inl b)=(a==b):=by
 by_cases e:a=b
 .subst e;simp
 .have h:¬(Sum.inl a:Key)=Sum.inl b:=λq=>e (Sum.inl.inj q)
  rw[vM h];exact(beq_eq_false_iff_ne.mpr e).symm
def Af2(a b:Str):decide ((Sum.inr a:Key)=Sum.inr b)=decide (a=b):=by
 simp
def AfM(a:Int)(b:Str):decide ((Sum.inl a:Key)=Sum.inr b)=false:=vM (λq=>nomatch q)
def Afi(a:Str)(b:Int):decide ((Sum.inr a:Key)=Sum.inl b)=false:=vM (λq=>nomatch q)
def mixKind(prog:Program)(w:World):PySem.KeyKind prog w Key where
 is:=Mi
 hash:=Ahl w
 inj:=λv a b ha hb=>by
  rcases Cr ha with⟨i,t,rfl,rfl⟩|⟨x,t,rfl,rfl⟩
  .rcases Cr hb with⟨j,u,rfl,e⟩|⟨y,u,rfl,e⟩
   .injection e with e1 _;rw[e1]
   .exact nomatch e
  .rcases Cr hb with⟨j,u,rfl,e⟩|⟨y,u,rfl,e⟩
   .exact nomatch e
   .injection e with e1 _;rw[e1]
 byValue:=λk v h=>by
  rcases Cr h with⟨i,t,rfl,rfl⟩|⟨x,t,rfl,rfl⟩<;>rfl
 pyHash:=λhv h=>by
  rcases Cr hv with⟨i,t,rfl,rfl⟩|⟨x,t,rfl,rfl⟩
  .exact wpAny_pyHash_int h
  .exact wpAny_pyHash_str h
 eqBool:=λhu hv h=>by
  rcases Cr hu with⟨i,t,rfl,rfl⟩|⟨x,t,rfl,rfl⟩
  .rcases Cr hv with⟨j,u,rfl,rfl⟩|⟨y,u,rfl,rfl⟩
   .rw[AfH]at h;exact wpAny_eqBool_int h
   .rw[AfM]at h;exact SeqAt.EqAt.int_str i t y u _ _ _ _ h
  .rcases Cr hv with⟨j,u,rfl,rfl⟩|⟨y,u,rfl,rfl⟩
   .rw[Afi]at h;exact SeqAt.EqAt.str_int x t j u _ _ _ _ h
   .rw[Af2]at h;exact wpAny_eqBool_str h
 «strs»:=λk x t v h=>by
  rcases Cr h with⟨i,u,rfl,e⟩|⟨y,u,rfl,e⟩
  .exact nomatch e
  .injection e with e1 _
   subst e1;cases v<;>rfl
def AaQ(prog:Program)(w:World)(k:Key)(v:Value):(mixKind prog w).is k v=Mi k v:=rfl
def Xm(prog:Program)(w:World)(i:Int)(t:Tok):(mixKind prog w).is (.inl i) (.int i t):=Abg i t
def Xl(prog:Program)(w:World)(x:Str)(t:Tok):(mixKind prog w).is (.inr x) (.str x t):=Abs x t
inductive V where
 |non|bl (b:Bool)|int (i:Int)|str (x:Str)|byt (b:Array UInt8)|flt (b:UInt64)|ref (a:Addr)|ty (n:String)
 deriving DecidableEq
def A2:V->Value->Prop
 |.non,u=>u=Value.none
 |.bl b,u=>u=Value.bool b
 |.int i,u=>∃t,u=Value.int i t
 |.str x,u=>∃t,u=Value.str x t
 |.byt b,u=>∃t,u=Value.bytes b t
 |.flt b,u=>∃t,u=Value.float b t
 |.ref a,u=>u=Value.ref a
 |.ty n,u=>u=Value.type n
abbrev A0:List V->List Value->Prop:=Paired A2
def A0.length{xs:List V}(r:A0 xs us):xs.length=us.length:=Paired.length r
theorem A0.get:∀{xs:List V}{us:List Value}{i:Nat}{x:V},A0 xs us->xs[i]?=x->∃u,us[i]?=some u/\A2 x u
 |_,_,_,_,.nil,e=>by simp at e
 |_,_,0,_,.cons r _,e=>by simp at e;subst e;exact⟨_,rfl,r⟩
 |_,_,i+1,x,.cons _ t,e=>by
  obtain⟨u,h1,h2⟩:=A0.get t (by simpa using e);exact⟨u,by simpa using h1,h2⟩
theorem A0.set{x:V}(r:A2 x u):∀{xs:List V}{us:List _}i,A0 xs us->A0 (xs.set i x) (us.set i u)
 |_,_,_,.nil=>.nil
 |_,_,0,.cons _ t=>.cons r t
 |_,_,i+1,.cons q t=>.cons q (A0.set r i t)
theorem A0.append:∀{xs ys:List V}{us ws:List _},A0 xs us->A0 ys ws->A0 (xs++ys) (us++ws)
 |_,_,_,_,.nil,s=>s
 |_,_,_,_,.cons r t,s=>.cons r (A0.append t s)
theorem A0.take:∀{xs:List V}{us:List _}n,A0 xs us->A0 (xs.take n) (us.take n)
 |_,_,0,_=>.nil
 |_,_,_+1,.nil=>.nil
 |_,_,n+1,.cons r t=>.cons r (A0.take n t)
theorem A0.drop:∀{xs:List V}{us:List _}n,A0 xs us->A0 (xs.drop n) (us.drop n)
 |_,_,0,r=>r
 |_,_,_+1,.nil=>.nil
 |_,_,n+1,.cons _ t=>A0.drop n t
def Gy:Option V->Option Value->Prop
 |some v,some u=>A2 v u
 |none,none=>True
 |_,_=>False
def KV{κ:Type}:List (κ×V)->List (κ×Value)->Prop:=Paired λ(p:κ×V)(q:κ×Value)=>p.1=q.1/\A2 p.2 q.2
def kV:Key->V
 |.inl i=>.int i
 |.inr x=>.str x
inductive HO where
 |lst (xs:List V)
 |tup (xs:List V)
 |dK (kvs:List (Key×V))|dT (kvs:List (List Key×V))
 |set (S:Int->Bool) (n:Nat)
 |ins (C dx:Addr) (fs:List (Str×V))
 |own (x:Addr)
 |xd (fs:List (Str×V))
 |met (f x:Addr)
 |rng (lo hi:Int)
 |frz (o:Obj) (u:HO)
 |tbl (ps:Array Value)
 |ext (φ:Heap->Prop)
abbrev Hp:=Addr->Option HO
def upd(H:Hp)(a:Addr)(o:HO):Hp:=λb=>if b=a then some o else H b
def qa{H:Hp}{o:HO}:upd H a o a=o:=by unfold upd;simp
def upd_ne{H:Hp}{b:Addr}{o:HO}(h:b≠a):upd H a o b=H b:=by unfold upd;rw[if_neg h]
def Bu{H:Hp}{b:Addr}{o u:HO}(h:H a=o)(h':H b=u)(d:o≠u):a≠b:=by
 intro e;subst e;rw[h]at h';exact d (uH h')
def ne_of_none{H:Hp}{b:Addr}{o:HO}(h:H a=o)(h':H b=none):a≠b:=by
 intro e;simp_all
section
variable(P:Program)(w:World)
def B3(H:Hp)(h:Heap)(a:Addr):HO->Prop
 |.lst xs=>xs.length<=sizeLine/\∃(its:List Value)(n:Nat),A0 xs its/\h.get? a=some {cls:=.type "list",data:=.seq its.toArray n}
 |.tup xs=>xs.length<=sizeLine/\∃its:List Value,A0 xs its/\IsTup h a its.toArray
 |.dK kvs=>kvs.length<=sizeLine/\(a==sysModules)=false/\∃vs,KV kvs vs/\h.DictOf (mixKind P w) a vs
 |.dT kvs=>kvs.length<=sizeLine/\(a==sysModules)=false/\∃xs:List (List Key×Addr×Value),
   Paired (λ(p:List Key×V)(q:List Key×Addr×Value)=>p.1=q.1/\H q.2.1=some (.tup (p.1.map kV))/\A2 p.2 q.2.2) kvs xs /\
   ∃o es ep,h.get? a=some o/\o.ExactDict/\o.data=.dict es ep/\es.toList=xs.map (entryOfKey (tupleKind (mixKind P w)))/\(xs.map (·.1)).Nodup
 |.set S n=>h.SetOf (intKind P w) a S n
 |.ins C dx fs=>H dx=some (.own a)/\fs.length<=1000/\dx≠a/\h.get? a=some (instObj C dx) /\
   ∃mA,h.Ns1 dx mA/\(∀f,Gy (fs.lookup f) (mA f))/\PySem.Within mA (fs.map (·.1))
 |.own _=>∃o,h.get? a=some o
 |.xd fs=>∃mA,h.Ns1 a mA/\∀f,Gy (fs.lookup f) (mA f)
 |.rng lo hi=>∃t u v,h.get? a=some {cls:=.type "range",data:=.fields #[.int lo t,.int hi u,.int 1 v]}
 |.frz o u=>h.get? a=some o/\B3 H h a u
 |.tbl ps=>h.get? a=some {cls:=.none,data:=.fields ps}
 |.met f x=>h.get? a=some (methodObj (.ref f) (.ref x))
 |.ext φ=>φ h/\(∃o,h.get? a=some o)/\∀h1 h2:Heap,φ h1->(∀o,h1.get? a=some o->h2.get? a=some o)->φ h2
def HOk(H:Hp)(h:Heap):Prop:=∀a o,H a=some o->B3 P w H h a o
end
section
variable{H H':Hp}{o:HO}
def B3.lt(x:B3 P w H h a o):a<h.objs.size:=by
 cases o with
 |lst _=>obtain⟨_,_,_,_,e⟩:=x;exact uD e
 |tup _=>obtain⟨_,_,_,p⟩:=x;exact p.lt
 |dK _=>obtain⟨_,_,_,_,o,_,_,e,_⟩:=x;exact uD e
 |dT _=>obtain⟨_,_,_,_,o,_,_,e,_⟩:=x;exact uD e
 |set S n=>obtain⟨o,_,_,_,e,_⟩:=x;exact uD e
 |ins C _ _=>obtain⟨_,_,_,e,_⟩:=x;exact uD e
 |own y=>obtain⟨_,e⟩:=x;exact uD e
 |xd _=>obtain⟨_,⟨_,_,_,e,_⟩,_⟩:=x;exact uD e
 |rng _ _=>obtain⟨_,_,_,e⟩:=x;exact uD e
 |frz _ u=>obtain⟨e,_⟩:=x;exact uD e
 |tbl _=>exact uD (x)
 |met f y=>exact uD (x)
 |ext φ=>obtain⟨_,⟨_,e⟩,_⟩:=x;exact uD e
theorem Bh{α z:Type}{F G:α->z->Prop}:∀{l₁:List α}{l₂:List z},Paired F l₁ l₂->(∀a b,F a b->G a b)->Paired G l₁ l₂
 |_,_,.nil,_=>.nil
 |_,_,.cons r t,f=>.cons (f _ _ r) (Bh t f)
def B3.stay(x:B3 P w H h a o)(k:∀b u,(b=a\/H b=some (.own a))->h.get? b=some u->h'.get? b=u)
  (ho:∀b,H b=some (.own a)->H' b=some (.own a)) (ht:∀b xs,H b=some (.tup xs)->H' b=some (.tup xs)):B3 P w H' h' a o:=by
 induction o with
 |lst _=>obtain⟨z,a1,n,r,e⟩:=x;exact⟨z,a1,n,r,k _ _ (.inl rfl) e⟩
 |tup _=>obtain⟨z,a1,r,ob,e,c⟩:=x;exact⟨z,a1,r,ob,k _ _ (.inl rfl) e,c⟩
 |dK _=>obtain⟨z,y,vs,r,ob,es,ep,e,c⟩:=x;exact⟨z,y,vs,r,ob,es,ep,k _ _ (.inl rfl) e,c⟩
 |dT _=>
  obtain⟨z,y,xs,r,ob,es,ep,e,c⟩:=x;exact⟨z,y,xs,Bh r λp q z=>⟨z.1,ht _ _ z.2.1,z.2.2⟩,ob,es,ep,k _ _ (.inl rfl) e,c⟩
 |set S n=>obtain⟨ob,es,ep,t,e,c⟩:=x;exact⟨ob,es,ep,t,k _ _ (.inl rfl) e,c⟩
 |ins C _ _=>
  obtain⟨d,z,ne,e,mA,⟨od,es,ep,e2,c⟩,r⟩:=x;exact⟨ho _ d,z,ne,k _ _ (.inl rfl) e,mA,⟨od,es,ep,k _ _ (.inr d) e2,c⟩,r⟩
 |own y=>obtain⟨ob,e⟩:=x;exact⟨ob,k _ _ (.inl rfl) e⟩
 |xd _=>obtain⟨mA,⟨od,es,ep,e,c⟩,r⟩:=x;exact⟨mA,⟨od,es,ep,k _ _ (.inl rfl) e,c⟩,r⟩
 |rng _ _=>obtain⟨t,u,v,e⟩:=x;exact⟨t,u,v,k _ _ (.inl rfl) e⟩
 |frz _ u ih=>obtain⟨e,q⟩:=x;exact⟨k _ _ (.inl rfl) e,ih q⟩
 |tbl ps=>
  have e:=x;exact k a _ (.inl rfl) e
 |met f y=>
  have e:=x;exact k a _ (.inl rfl) e
 |ext φ=>obtain⟨p,⟨o,e⟩,st⟩:=x;exact⟨st _ _ p λo q=>k _ _ (.inl rfl) q,⟨o,k _ _ (.inl rfl) e⟩,st⟩
def HOk.lt(x:HOk P w H h)(e:H a=o):a<h.objs.size:=(x a o e).lt
def HOk.fresh(x:HOk P w H h)(e:h.objs.size<=a):H a=none:=by
 cases q:H a with
 |none=>rfl
 |some u=>exact absurd (zD (x.lt q) e) (lt_irrefl _)
def HOk.kept(x:HOk P w H h)(k:∀b u,h.get? b=some u->h'.get? b=u):HOk P w H h':=λa o e=>
 (x a o e).stay (λb u _ q=>k b u q) (λ_ q=>q) λ_ _ q=>q
def HOk.laid(x:HOk P w H h)(k:∀b u,h.get? b=some u->h'.get? b=u)(hp:h.objs.size<=a)(new:B3 P w (upd H a o) h' a o):HOk P w (upd H a o) h':=λb u e=>by
 have hn:=x.fresh hp
 by_cases z:b=a
 .simp_all[qa]
 .rw[upd_ne z]at e
  exact(x b u e).stay (λc v _ q=>k c v q) (λc q=>by rw[upd_ne (ne_of_none q hn)];exact q) λc _ q=>by rw[upd_ne (ne_of_none q hn)];exact q
end
def Rd(H:Hp)(a:Addr)(u:HO):Prop:=H a=some u\/∃o,H a=some (.frz o u)
def Rd.ok{H:Hp}{u:HO}(r:Rd H a u)(x:HOk P w H h):B3 P w H h a u:=by
 rcases r with r|⟨o,r⟩
 .exact x a u r
 .obtain⟨_,q⟩:=x a _ r
  exact q
def Mut:Option HO->Prop
 |some (.lst _)=>True
 |some (.dK _)=>True
 |some (.dT _)=>True
 |some (.set _ _)=>True
 |some (.ins _ _ _)=>True
 |some (.ext _)=>True
 |_=>False
section
variable{H:Hp}{x e:Addr}{o':HO}
def HOk.write(ok:HOk P w H h)(mu:Mut (H x))(he:e=x\/H e=some (.own x))(k:∀b u,b≠e->h.get? b=some u->h'.get? b=u)(a4:∃u,h'.get? e=some u)
  (new:B3 P w (upd H x o') h' x o'):HOk P w (upd H x o') h':=λb u q=>by
 have a2:∀c y,H c=some (.own y)->c≠x:=λc y r z=>by subst z;rw[r]at mu;exact mu
 have a3:∀c xs,H c=some (.tup xs)->c≠x:=λc _ r z=>by subst z;rw[r]at mu;exact mu
 by_cases hb:b=x
 .subst hb;rw[qa]at q;simp_all
 .rw[upd_ne hb]at q
  by_cases a1:b=e
  .have q':H b=some (.own x):=by
    rcases he with z|z
    .exact absurd (a1.trans z) hb
    .rw[a1];exact z
   rw[q]at q';cases q';obtain⟨v,hv⟩:=a4;exact⟨v,by rw[a1];exact hv⟩
  .refine(ok b u q).stay (λc v hc r=>k c v ?_ r) (λc r=>by rw[upd_ne (a2 c b r)];exact r) λc xs r=>by rw[upd_ne (a3 c _ r)];exact r
   rcases hc with rfl|hc
   .exact a1
   .rintro rfl
    simp_all
end
structure Un(fs ex:List Addr)(H H':Hp)(h h':Heap):Prop where
 keep:∀b o,h.get? b=some o->H b=none->b∉fs->b∉ex->h'.get? b=some o
 slot:∀b o,h.get? b=some o->H b=none->b∈fs->b∉ex->∃sl,h'.get? b=some {o with slots:=sl}
 free:∀b o,h.get? b=some o->H b=none->b∉ex->H' b=none
 there:∀b o,h.get? b=some o->b∉ex->∃o',h'.get? b=some o'
 tups:∀b xs,H b=some (.tup xs)->H' b=some (.tup xs)
 frzs:∀b o u,H b=some (.frz o u)->H' b=some (.frz o u)
 tbls:∀b ps,H b=some (.tbl ps)->∃more,H' b=some (.tbl (ps++more))
section
variable{fs fs' ex ex':List Addr}{H H1 H2:Hp}{h1 h2:Heap}{x e:Addr}{o:HO}
def Un.any(u:Un fs ex H H1 h h1){b:Addr}{ob:Obj}(q:h.get? b=ob)(n:H b=none)(hx:b∉ex):∃sl,h1.get? b=some {ob with slots:=sl}:=by
 by_cases z:b∈fs
 .exact u.slot b _ q n z hx
 .exact⟨ob.slots,u.keep b _ q n z hx⟩
def Un.kept(k:∀b u,h.get? b=some u->h'.get? b=u):Un fs ex H H h h':=
 ⟨λb ob q _ _ _=>k b _ q,λb ob q _ _ _=>⟨ob.slots,k b ob q⟩,λ_ _ _ n _=>n,λb ob q _=>⟨ob,k b _ q⟩,λ_ _ q=>q,λ_ _ _ q=>q,λ_ _ q=>⟨#[],by rw[q];simp⟩⟩
def Un.refl:Un fs ex H H h h:=Un.kept λ_ _ q=>q
def Un.laid(k:∀b u,h.get? b=some u->h'.get? b=u)(hp:h.objs.size<=a)(hn:H a=none):Un fs ex H (upd H a o) h h' where
 keep:=λb u q _ _ _=>k b u q
 slot:=λb u q _ _ _=>⟨u.slots,k b u q⟩
 free:=λb u q n _=>by rw[upd_ne (zF (zD (uD q) hp))];exact n
 there:=λb u q _=>⟨u,k b u q⟩
 tups:=λb _ q=>by rw[upd_ne (ne_of_none q hn)];exact q
 frzs:=λb u _ q=>by rw[upd_ne (ne_of_none q hn)];exact q
 tbls:=λb _ q=>⟨#[],by rw[upd_ne (ne_of_none q hn),q];simp⟩
def Un.write(mu:Mut (H x))(he:e=x\/H e=some (.own x))(k:∀b u,b≠e->h.get? b=some u->h'.get? b=u)(a2:∃u,h'.get? e=some u):Un fs ex H (upd H x o) h h':=by
 have hx:∀b,H b=none->b≠x:=λb n z=>by subst z;rw[n]at mu;exact mu
 have hb:∀b,H b=none->b≠e:=λb n z=>by
  simp_all
 have hm:∀b u,H b=some u->¬Mut (some u)->b≠x:=λb u q _ z=>by simp_all
 refine⟨λb u q n _ _=>k b u (hb b n) q,λb u q n _ _=>⟨u.slots,k b u (hb b n) q⟩,λb u q n _=>by rw[upd_ne (hx b n)];exact n,λb u q _=>?_,
  λb _ q=>by rw[upd_ne (hm b _ q λz=>z)];exact q,λb u _ q=>by rw[upd_ne (hm b _ q λz=>z)];exact q,λb _ q=>⟨#[],by rw[upd_ne (hm b _ q λz=>z),q];simp⟩⟩
 by_cases a1:b=e
 .simp_all
 .exact⟨u,k b u a1 q⟩
end
def trk(h:Heap)(H:Hp):List Addr:=(List.range h.objs.size).filter λa=>(H a).isSome
def Mo(h:Heap)(H:Hp):Heap:=PySem.W.hideAll h (trk h H)
def Ab6(h:Heap)(H:Hp):(Mo h H).objs.size=h.objs.size:=PySem.W.hideAll_size _ _
def Ack{H:Hp}{b:Addr}{o:Obj}(e:h.get? b=o)(n:H b=none):(Mo h H).get? b=o:=
 PySem.W.hideAll_get _ e λhm=>by
  have q:=(mem_filter.mp hm).2;rw[n]at q;simp at q
def Aer{H:Hp}{b:Addr}{o:Obj}(e:(Mo h H).get? b=o):h.get? b=o/\H b=none:=by
 have e':=PySem.W.of_hideAll _ e;refine⟨e',?_⟩;cases q:H b with
 |none=>rfl
 |some x=>
  have hm:b∈trk h H:=mem_filter.mpr ⟨mem_range.mpr (uD e'),by simp[q]⟩;have z:(Mo h H).get? b=none:=PySem.W.hideAll_none _ hm;rw[z]at e;cases e
def AeB(g h:Heap)(L:Addr):List (Addr×Obj):=(List.range h.objs.size).filterMap λa=>if a=L\/(g.get? a).isSome=true then none else(h.get? a).map λo=>(a,o)
def rest(g h:Heap)(L d:Addr):List (Addr×Obj):=(AeB g h L).filter λp=>decide (p.1≠d)
structure Mod(K:FA)(mg:Str->Option Value)(base:Heap):Prop where
 kin:K.In base
 glob:base.Ns mainGlobals mg
 blt:∃mb,base.Ns builtinsNs mb/\∀x:Str,x≠ "__name__" -> mb x=bootBuiltins x
 nolimit:base.NoLimit
structure Cx where
 prog:Program
 w:World
 K:FA
 mg:Str->Option Value
 base:Heap
 A:Around
 N:List Str
 s₀:Shared
 H₀:Hp
 env:Env
 outer:List Env
 stack:List Env
 ex:List Addr
 fn:Str->Bool
 calm:Bool
 pn:List (Addr×Obj)
 xe:Value->Shared->Prop
def frs(l:List Env):List Addr:=l.filterMap (·.frame)
abbrev Cx.fs(X:Cx):List Addr:=frs X.outer
def Vis(sc:Scope)(x:Str):Prop:=sc.names.lookup x=some .local\/sc.names.lookup x=some .cell\/sc.names.lookup x=some .free
def Loc(sc:Scope)(x:Str):Prop:=sc.names.lookup x=some .local\/sc.names.lookup x=some .cell
def AgS(env:Env)(h:Heap)(m:Str->Option Value)(x:Str)(u:Value):Prop:=
 (env.kindOf x=some .local/\m x=some u)\/((env.kindOf x=some .cell\/env.kindOf x=some .free)/\∃c,env.cells.lookup x=some c/\h.IsCell c (some u))
structure Cx.Ok(X:Cx):Prop where
 mod:Mod X.K X.mg X.base
 kind:X.env.scope.kind=.function
 glob:X.env.globals=mainGlobals
 blt:X.env.builtins=builtinsNs
 above:X.s₀.heap.objs.size<=X.env.locals
 inj:∀x y c,X.env.cells.lookup x=some c->X.env.cells.lookup y=some c->x=y
 has:∀x,(X.env.kindOf x=some .cell\/X.env.kindOf x=some .free)->∃c,X.env.cells.lookup x=some c
 cab:∀x c,X.fn x=true->X.env.cells.lookup x=some c->X.s₀.heap.objs.size<=c
 hd:X.calm=true->X.A.handled=none
 frames:X.A.frames=some X.stack
 stk:X.stack=X.outer\/(X.stack=X.env::X.outer/\X.env.frame=some X.env.locals)
 exf:∀b∈X.ex,b≠X.env.locals/\∀x c,X.env.cells.lookup x=some c->c≠b
 bs:∀b o,X.base.get? b=some o->X.s₀.heap.get? b=some o/\X.H₀ b=none
 bsz:X.base.objs.size<=X.s₀.heap.objs.size
 noex:∀b o,X.base.get? b=some o->b∉X.ex
 exfs:∀b∈X.ex,b∉X.fs
 funs:X.s₀.heap.FunFrames X.base X.outer
 frf:∀b∈X.fs,X.H₀ b=none
structure Inv(X:Cx)(pins:List (Addr×Obj))(Y:List (Option V))(H:Hp)(s:Shared):Prop where
 ok:X.Ok
 os:s.os=X.s₀.os
 bare:AllBare s.gens
 base:Un X.fs X.ex X.H₀ H X.s₀.heap s.heap
 loc:∃m,s.heap.Ns X.env.locals m/\∀(i:Nat)(x:Str)(v:V),X.N[i]?=some x->Y[i]?=some (some v)->Vis X.env.scope x->∃u,A2 v u/\AgS X.env s.heap m x u
 cell:∀x c,X.env.cells.lookup x=some c->∃v,s.heap.IsCell c v
 free:H X.env.locals=none
 freeC:∀x c,X.env.cells.lookup x=some c->H c=none
 pin:∀p∈X.pn++pins,s.heap.get? p.1=some p.2/\H p.1=none/\p.1≠X.env.locals/\p.1∉X.fs/\∀v,p.2.data≠.cell v
 hok:HOk X.prog X.w H s.heap
 len:Y.length=X.N.length
section
variable{X:Cx}{Y:List (Option V)}{H H':Hp}{s:Shared}
def Cx.Ok.nofr(ok:X.Ok){b:Addr}{o:Obj}(e:X.base.get? b=o):b∉X.fs:=λz=>by
 have:=(ok.funs.mem z).1;simp_all
def Inv.bs(I:Inv X pins Y H s):∀b o,X.base.get? b=some o->s.heap.get? b=o/\H b=none:=λb o e=>
 ⟨I.base.keep b o (I.ok.bs b o e).1 (I.ok.bs b o e).2 (I.ok.nofr e) (I.ok.noex b o e),I.base.free b o (I.ok.bs b o e).1 (I.ok.bs b o e).2 (I.ok.noex b o e)⟩
def Inv.bk(I:Inv X pins Y H s):∀b o,X.base.get? b=some o->s.heap.get? b=o:=λb o e=>(I.bs b o e).1
def Inv.mod(I:Inv X pins Y H s):Mod X.K X.mg X.base:=I.ok.mod
def Inv.kIn(I:Inv X pins Y H s):X.K.In s.heap:=I.ok.mod.kin.keeps I.bk
def Inv.lt(I:Inv X pins Y H s):X.env.locals<s.heap.objs.size:=let ⟨_,hn,_⟩:=I.loc;hn.lt
def Inv.sz(I:Inv X pins Y H s):X.s₀.heap.objs.size<=s.heap.objs.size:=zA I.ok.above (le_of_lt I.lt)
def Inv.nofs(I:Inv X pins Y H s)(h:s.heap.objs.size<=a):a∉X.fs:=λz=>by
 obtain⟨_,o,ho,_⟩:=I.ok.funs.mem z;exact absurd (zD (uD ho) (zA I.sz h)) (lt_irrefl _)
def Inv.cne(I:Inv X pins Y H s):∀x c,X.env.cells.lookup x=some c->c≠X.env.locals:=λx c e z=>by
 obtain⟨v,o,ho,hd⟩:=I.cell x c e;obtain⟨m,⟨o',es,ep,a2,a1,_⟩,_⟩:=I.loc;simp_all
def Inv.funs(I:Inv X pins Y H s):s.heap.FunFrames X.base X.outer:=by
 have all:∀l,(∀b∈frs l,b∈X.fs)->X.s₀.heap.FunFrames X.base l->s.heap.FunFrames X.base l:=by
  intro l
  induction l with
  |nil=>intro _ _;trivial
  |cons _ r ih=>
   intro hs hl;obtain⟨hk,⟨L,o,hf,hn,ho,hd⟩,hr⟩:=hl;have hL:=hs L (by unfold frs;rw[filterMap_cons,hf];exact vH);obtain⟨sl,e⟩:=I.base.slot L o ho (I.ok.frf L hL) hL λz=>I.ok.exfs L z hL
   exact⟨hk,⟨L,_,hf,hn,e,hd⟩,ih (λb hb=>hs b (by unfold frs;rw[filterMap_cons,hf];exact vI _ hb)) hr⟩
 exact all _ (λ_ hb=>hb) I.ok.funs
def Inv.stack(I:Inv X pins Y H s):s.heap.FunFrames X.base X.stack:=by
 rcases I.ok.stk with e|⟨e,z⟩
 .rw[e];exact I.funs
 .rw[e]
  obtain⟨m,hn,_⟩:=I.loc;refine .cons (by rw[I.ok.kind];decide) z hn ?_ I.funs;exact Heap.get?_none_of_le (zA I.ok.bsz I.ok.above)
def Inv.stkSub(I:Inv X pins Y H s):∀b∈frs X.stack,b∈X.env.locals::X.fs:=λb z=>by
 rcases I.ok.stk with e|⟨e,hf⟩
 .rw[e]at z;exact vI _ z
 .rw[e]at z
  unfold frs at z;rw[filterMap_cons,hf]at z;exact z
def Inv.stkFree(I:Inv X pins Y H s):∀b∈frs X.stack,H b=none:=λb hb=>by
 rcases zM.mp (I.stkSub b hb) with e|hb
 .rw[e];exact I.free
 .obtain⟨_,o,ho,_⟩:=I.ok.funs.mem hb
  exact I.base.free b o ho (I.ok.frf b hb) λz=>I.ok.exfs b z hb
def Inv.step{g':Array GenState}{t':Nat}{d':Drawn}{ch:List Addr}(I:Inv X pins Y H s)
  (a2:∀b∈ch,(b∈X.ex\/X.s₀.heap.objs.size<=b)/\b≠X.env.locals/\(∀x c,X.env.cells.lookup x=some c->c≠b)/\∀p∈X.pn++pins,p.1≠b)
  (keep:∀b o,b≠X.env.locals->b∉X.fs->b∉ch->s.heap.get? b=some o->H b=none->h'.get? b=o)
  (slot:∀b o,b≠X.env.locals->b∈X.fs->b∉ch->s.heap.get? b=some o->H b=none->∃sl,h'.get? b=some {o with slots:=sl}) (free:∀b o,b∉ch->s.heap.get? b=some o->H b=none->H' b=none)
  (there:∀b o,b∉ch->s.heap.get? b=some o->∃o',h'.get? b=some o')
  (tups:∀b xs,H b=some (.tup xs)->H' b=some (.tup xs)) (frzs:∀b o u,H b=some (.frz o u)->H' b=some (.frz o u)) (tbls:∀b ps,H b=some (.tbl ps)->∃more,H' b=some (.tbl (ps++more)))
  (ns:∀m,s.heap.Ns X.env.locals m->h'.Ns X.env.locals m) (hok:HOk X.prog X.w H' h') (hg:AllBare g') :
  Inv X pins Y H' {s with heap:=h',gens:=g',drawn:=d',toks:=t' }:=by
 have a5:∀b o,X.s₀.heap.get? b=some o->b≠X.env.locals:=λb o e=>zF (zD (uD e) I.ok.above)
 have a4:∀b o,X.s₀.heap.get? b=some o->b∉X.ex->b∉ch:=λb o e hx hb=>by
  rcases(a2 b hb).1 with z|z
  .exact hx z
  .exact absurd (zD (uD e) z) (lt_irrefl _)
 have a3:∀x c,X.env.cells.lookup x=some c->∀v,s.heap.IsCell c v->h'.IsCell c v:=λx c e v ⟨o,ho,hd⟩=>by
  have a1:=λz=>(a2 c z).2.2.1 x c e rfl
  by_cases hc:c∈X.fs
  .obtain⟨sl,q⟩:=slot c o (I.cne x c e) hc a1 ho (I.freeC x c e)
   exact⟨_,q,hd⟩
  .exact⟨o,keep c o (I.cne x c e) hc a1 ho (I.freeC x c e),hd⟩
 refine⟨I.ok,I.os,hg,⟨λb o e n hb hx=>?_,λb o e n hb hx=>?_,λb o e n hx=>?_,λb o e hx=>?_,λb xs e=>tups b _ (I.base.tups b _ e),λb o xs e=>frzs b o _ (I.base.frzs b o _ e),λb ps e=>?_⟩,?_,λx c e=>?_,?_,λx c e=>?_,λp hp=>?_,hok,I.len⟩
 .exact keep b o (a5 b o e) hb (a4 b o e hx) (I.base.keep b o e n hb hx) (I.base.free b o e n hx)
 .obtain⟨sl,e1⟩:=I.base.slot b o e n hb hx
  obtain⟨a6,e2⟩:=slot b _ (a5 b o e) hb (a4 b o e hx) e1 (I.base.free b o e n hx);exact⟨a6,e2⟩
 .obtain⟨o',e1⟩:=I.base.there b o e hx
  exact free b _ (a4 b o e hx) e1 (I.base.free b o e n hx)
 .obtain⟨o',e1⟩:=I.base.there b o e hx
  exact there b _ (a4 b o e hx) e1
 .obtain⟨m1,e1⟩:=I.base.tbls b _ e
  obtain⟨m2,e2⟩:=tbls b _ e1;exact⟨m1++m2,by simp_all⟩
 .obtain⟨m,hn,hl⟩:=I.loc
  refine⟨m,ns m hn,λi x v e1 e2 e3=>?_⟩;obtain⟨u,r,l⟩:=hl i x v e1 e2 e3;refine⟨u,r,?_⟩;rcases l with l|⟨k,c,e,z⟩
  .exact .inl l
  .exact .inr ⟨k,c,e,a3 x c e _ z⟩
 .obtain⟨v,z⟩:=I.cell x c e
  exact⟨v,a3 x c e v z⟩
 .obtain⟨m,⟨o,_,_,ho,_⟩,_⟩:=I.loc
  exact free _ o (λz=>(a2 _ z).2.1 rfl) ho I.free
 .obtain⟨v,o,ho,hd⟩:=I.cell x c e
  exact free c o (λz=>(a2 c z).2.2.1 x c e rfl) ho (I.freeC x c e)
 .obtain⟨e,n,ne,nf,d⟩:=I.pin p hp
  have a1:=λz=>(a2 _ z).2.2.2 p hp rfl
  exact⟨keep _ _ ne nf a1 e n,free _ _ a1 e n,ne,nf,d⟩
def Inv.un{t':Nat}(I:Inv X pins Y H s)(u:Un X.fs [] H H' s.heap h')(hok:HOk X.prog X.w H' h'):Inv X pins Y H' {s with heap:=h',toks:=t' }:=by
 obtain⟨m,⟨o,es,ep,ho,r⟩,_⟩:=id I.loc;obtain⟨sl,hL⟩:=u.any ho I.free (by simp)
 exact I.step (ch:=[]) (λ_ z=>nomatch z) (λb o _ hb _ e n=>u.keep b o e n hb (by simp)) (λb o _ hb _ e n=>u.slot b o e n hb (by simp)) (λb o _ e n=>u.free b o e n (by simp)) (λb o _ e=>u.there b o e (by simp)) u.tups u.frzs u.tbls (λm' hm=>by
  obtain⟨o',a2,a3,a1,r'⟩:=hm;rw[ho]at a1;cases a1;exact⟨_,a2,a3,hL,r'⟩) hok I.bare
def Inv.call{g':Array GenState}{t':Nat}{d':Drawn}{ch:List Addr}(I:Inv X pins Y H s)(u:Un (frs X.stack) ch H H' s.heap h')(hok:HOk X.prog X.w H' h')(hg:AllBare g')
  (a2:∀b∈ch,(b∈X.ex\/X.s₀.heap.objs.size<=b)/\b≠X.env.locals/\(∀x c,X.env.cells.lookup x=some c->c≠b)/\∀p∈X.pn++pins,p.1≠b) :
  Inv X pins Y H' {s with heap:=h',gens:=g',drawn:=d',toks:=t' }:=by
 obtain⟨m,⟨o,es,ep,ho,r⟩,_⟩:=id I.loc;obtain⟨sl,hL⟩:=u.any ho I.free λz=>(a2 _ z).2.1 rfl
 exact I.step a2 (λb o hL hb hc e n=>u.keep b o e n (λz=>(zM.mp (I.stkSub b z)).elim hL hb) hc) (λb o _ _ hc e n=>u.any e n hc) (λb o hc e n=>u.free b o e n hc) (λb o hc e=>u.there b o e hc) u.tups u.frzs u.tbls (λm' hm=>by
  obtain⟨o',a3,a4,a1,r'⟩:=hm;rw[ho]at a1;cases a1;exact⟨_,a3,a4,hL,r'⟩) hok hg
def Inv.turned{t':Nat}{it:Addr}(I:Inv X pins Y H s)(k:∀b o,b≠it->s.heap.get? b=some o->h'.get? b=o)(hn:H it=none)(hL:it≠X.env.locals)
  (h1:it∈X.ex\/X.s₀.heap.objs.size<=it) (h2:∀x c,X.env.cells.lookup x=some c->c≠it) (h3:∀p∈X.pn++pins,p.1≠it):Inv X pins Y H {s with heap:=h',toks:=t' }:=by
 have a1:∀b u,H b=some u->b≠it:=λb u e z=>by simp_all
 refine I.step (ch:=[it]) (λb hb=>?_) (λb o _ _ hc e _=>k b o (λz=>hc (by simp[z])) e) (λb o _ _ hc e _=>⟨o.slots,k b o (λz=>hc (by simp[z])) e⟩) (λ_ _ _ _ n=>n)
  (λb o hc e=>⟨o,k b o (λz=>hc (by simp[z])) e⟩) (λ_ _ e=>e) (λ_ _ _ e=>e) (λb _ e=>⟨#[],by rw[e];simp⟩) (λm hm=>?_) (λb u e=>?_) I.bare
 .have e:=by simpa using hb
  subst e;exact⟨h1,hL,h2,h3⟩
 .obtain⟨o,es,ep,ho,r⟩:=hm
  exact⟨o,es,ep,k _ o (Ne.symm hL) ho,r⟩
 .refine(I.hok b u e).stay (λc v hc q=>k c v ?_ q) (λ_ q=>q) λ_ _ q=>q
  rcases hc with z|z
  .rw[z];exact a1 b u e
  .exact a1 c _ z
def Inv.tok(I:Inv X pins Y H s)(t:Nat):Inv X pins Y H {s with toks:=t}:=I.un Un.refl I.hok
def Inv.kept{t':Nat}(I:Inv X pins Y H s)(k:∀b u,s.heap.get? b=some u->h'.get? b=u):Inv X pins Y H {s with heap:=h',toks:=t' }:=I.un (Un.kept k) (I.hok.kept k)
def Inv.laid{o:HO}{t':Nat}(I:Inv X pins Y H s)(k:∀b u,s.heap.get? b=some u->h'.get? b=u)(hp:s.heap.objs.size<=a)(new:B3 X.prog X.w (upd H a o) h' a o) :
  Inv X pins Y (upd H a o) {s with heap:=h',toks:=t' }:=I.un (Un.laid k hp (I.hok.fresh hp)) (I.hok.laid k hp new)
def Inv.write{x e:Addr}{o:HO}{t':Nat}(I:Inv X pins Y H s)(mu:Mut (H x))(he:e=x\/H e=some (.own x))(k:∀b u,b≠e->s.heap.get? b=some u->h'.get? b=u)(z:∃u,h'.get? e=some u)
  (new:B3 X.prog X.w (upd H x o) h' x o):Inv X pins Y (upd H x o) {s with heap:=h',toks:=t' }:=I.un (Un.write mu he k z) (I.hok.write mu he k z new)
def Inv.weak{z:List (Option V)}(I:Inv X pins Y H s)(hl:z.length=Y.length)(w:∀(i:Nat)v,z[i]?=some (some v)->Y[i]?=some (some v)):Inv X pins z H s:=
 ⟨I.ok,I.os,I.bare,I.base,let ⟨m,hn,hl'⟩:=I.loc;⟨m,hn,λi x v e1 e2 e3=>hl' i x v e1 (w i v e2) e3⟩,I.cell,I.free,I.freeC,I.pin,I.hok,hl.trans I.len⟩
def Inv.pins_of{a1:List (Addr×Obj)}(I:Inv X pins Y H s)(h:∀p∈a1,s.heap.get? p.1=p.2/\H p.1=none/\p.1≠X.env.locals/\p.1∉X.fs/\∀v,p.2.data≠.cell v):Inv X a1 Y H s:=
 ⟨I.ok,I.os,I.bare,I.base,I.loc,I.cell,I.free,I.freeC,λp hp=>(vY.mp hp).elim (λz=>I.pin p (zY _ z)) (h p),I.hok,I.len⟩
def Us{N:List Str}(z:N.Nodup){i j:Nat}(a:N[i]?=x)(b:N[j]?=x):i=j:=by
 obtain⟨h1,e1⟩:=uA.mp a;obtain⟨h2,e2⟩:=uA.mp b;exact(List.getElem_inj z).mp (e1.trans e2.symm)
def Abn{M:Model}{i:Nat}{v:V}{Q:Unit->Shared->Prop}(I:Inv X pins Y H s)(hN:X.N.Nodup)(hi:X.N[i]?=some x)(hx:Loc X.env.scope x)(r:A2 v u)
  (h:∀s',Inv X pins (Y.set i (some v)) H s'->(∃a,Heap.SameBut a s.heap s'.heap/\(a=X.env.locals\/X.env.cells.lookup x=some a))->Q () s') (hf:X.fn x=true\/X.env.scope.names.lookup x=some .local:=by first|exact .inl rfl|exact .inr rfl|assumption):wpAny M A (storeName X.env x u) Q E s:=by
 obtain⟨m,hn,hl⟩:=id I.loc;have a8:(X.env.scope.kind==.class || (X.env.scope.kind==.module&&X.env.locals != X.env.globals))=false:=by rw[I.ok.kind];rfl
 have a3:i<Y.length:=by rw[I.len];exact(uA.mp hi).1
 have cne:=I.cne
 have a1:∀{a:Addr}{h':Heap},(∃o,s.heap.get? a=o/\H a=none)->Heap.SameBut a _ _->HOk _ _ H h':=λ{a _}ha hs b ob e=>by
  obtain⟨_,_,a2⟩:=ha;refine(I.hok b _ e).stay (λc _ _ q=>(hs.2 c ?_).trans q) (λ_ q=>q) λ_ _ q=>q
  rintro rfl;simp_all
 rcases hx with hk|hk
 .refine wpAny_storeName_local hk hn (λh' b1 hs=>?_) a8
  obtain⟨oL,_,_,b2,_⟩:=id hn;refine h _ ⟨I.ok,I.os,I.bare,⟨λb o e n hb hx=>?_,λb o e n hb hx=>?_,I.base.free,λb o e hx=>?_,I.base.tups,I.base.frzs,I.base.tbls⟩,⟨_,b1,λj y v' e1 e2 e3=>?_⟩,λy c e=>?_,I.free,I.freeC,λp hp=>?_,a1 ⟨oL,b2,I.free⟩ hs,by simpa using I.len⟩ ⟨_,hs,.inl rfl⟩
  .exact(hs.2 b (zF (zD (uD e) I.ok.above))).trans (I.base.keep b o e n hb hx)
  .obtain⟨sl,e1⟩:=I.base.slot b o e n hb hx
   exact⟨sl,(hs.2 b (zF (zD (uD e) I.ok.above))).trans e1⟩
  .obtain⟨o',e1⟩:=I.base.there b o e hx
   exact⟨o',(hs.2 b (zF (zD (uD e) I.ok.above))).trans e1⟩
  .by_cases hj:j=i
   .subst hj
    rw[hi]at e1;cases e1;rw[zQ a3]at e2;cases e2
    exact⟨u,r,.inl ⟨hk,by simp⟩⟩
   .rw[zP (Ne.symm hj)]at e2
    obtain⟨u',r',q⟩:=hl j y _ e1 e2 e3;refine⟨u',r',?_⟩;rcases q with⟨k,e⟩|⟨k,c,e,z⟩
    .refine .inl ⟨k,?_⟩
     have:y≠x:=λe=>hj (Us hN e1 (e▸hi))
     simp[this,e]
    .exact .inr ⟨k,c,e,z.sameBut hs (cne y c e)⟩
  .obtain⟨w',z⟩:=I.cell y c e
   exact⟨w',z.sameBut hs (cne y c e)⟩
  .obtain⟨e,n,ne,nf,d⟩:=I.pin p hp
   exact⟨(hs.2 _ ne).trans e,n,ne,nf,d⟩
 .have a4:X.fn x:=by
   simp_all
  obtain⟨c,hc⟩:=I.ok.has x (.inl hk);obtain⟨w',z⟩:=I.cell x c hc;refine wpAny_storeName_cell I.ok.kind hk hc z (λh' a6 hs=>?_);obtain⟨oc,a5,a9⟩:=id z;refine h {s with heap:=h' } ⟨I.ok,I.os,I.bare,⟨λb o e n hb hx=>?_,λb o e n hb hx=>?_,I.base.free,λb o e hx=>?_,I.base.tups,I.base.frzs,I.base.tbls⟩,⟨m,hn.sameBut hs (Ne.symm (cne x c hc)),λj y v' e1 e2 e3=>?_⟩,λy c' e=>?_,I.free,I.freeC,λp hp=>?_,a1 ⟨oc,a5,I.freeC x c hc⟩ hs,by simpa using I.len⟩ ⟨c,hs,.inr hc⟩
  .exact(hs.2 b (zF (zD (uD e) (I.ok.cab x c a4 hc)))).trans (I.base.keep b o e n hb hx)
  .obtain⟨sl,e1⟩:=I.base.slot b o e n hb hx
   exact⟨sl,(hs.2 b (zF (zD (uD e) (I.ok.cab x c a4 hc)))).trans e1⟩
  .obtain⟨o',e1⟩:=I.base.there b o e hx
   exact⟨o',(hs.2 b (zF (zD (uD e) (I.ok.cab x c a4 hc)))).trans e1⟩
  .by_cases hj:j=i
   .subst hj
    rw[hi]at e1;cases e1;rw[zQ a3]at e2;cases e2
    exact⟨u,r,.inr ⟨.inl hk,c,hc,a6⟩⟩
   .rw[zP (Ne.symm hj)]at e2
    obtain⟨u',r',q⟩:=hl j y v' e1 e2 e3;refine⟨u',r',?_⟩;rcases q with q|⟨k,c',e,z'⟩
    .exact .inl q
    .refine .inr ⟨k,c',e,z'.sameBut hs ?_⟩
     rintro rfl;exact hj (Us hN e1 (I.ok.inj _ _ _ e hc▸hi))
  .by_cases a7:c'=c
   .subst a7;exact⟨_,a6⟩
   .obtain⟨w2,z2⟩:=I.cell y c' e
    exact⟨w2,z2.sameBut hs a7⟩
  .obtain⟨e,n,ne,nf,d⟩:=I.pin p hp
   refine⟨(hs.2 p.1 ?_).trans e,n,ne,nf,d⟩;intro q;simp_all
def Pd{M:Model}{i:Nat}{v:V}{Q:Unit->Shared->Prop}(I:Inv X pins Y H s)(hN:X.N.Nodup)(hi:X.N[i]?=some x)(z:Loc X.env.scope x)(r:A2 v u)
  (h:∀s',Inv X pins (Y.set i (some v)) H s'->Q () s') (hf:X.fn x=true\/X.env.scope.names.lookup x=some .local:=by first|exact .inl rfl|exact .inr rfl|assumption):wpAny M A (storeName X.env x u) Q E s:=
 Abn I hN hi z r (λs' I' _=>h _ I') hf
def Inv.call'{s':Shared}{ch:List Addr}(I:Inv X pins Y H s)(ho:s'.os=s.os)(u:Un (frs X.stack) ch H H' s.heap s'.heap)(hok:HOk X.prog X.w H' s'.heap)(hg:AllBare s'.gens)
  (z:∀b∈ch,(b∈X.ex\/X.s₀.heap.objs.size<=b)/\b≠X.env.locals/\(∀x c,X.env.cells.lookup x=some c->c≠b)/\∀p∈X.pn++pins,p.1≠b):Inv X pins Y H' s':=by
 obtain⟨h',g',d',t',o'⟩:=s';subst ho;exact I.call u hok hg z
end
abbrev XK:=Value->Option Addr->Hp->Prop
abbrev St:=List (Option V)
abbrev VK:=V->Hp->Prop
abbrev TE:=St->Hp->VK->Prop
abbrev TT:=St->Hp->(Bool->Hp->Prop)->Prop
abbrev TA:=St->Hp->(List V->Hp->Prop)->Prop
structure Ii where
 nx:St->Hp->Prop
 rt:VK
 bk:St->Hp->Prop:=λ_ _=>False
 ct:St->Hp->Prop:=λ_ _=>False
abbrev TS:=Ii->St->Hp->Prop
def EP(X:Cx)(pins:List (Addr×Obj))(Y:St)(Q:VK)(u:Value)(s':Shared):Prop:=∃v H',Inv X pins Y H' s'/\A2 v u/\Q v H'
def TP(X:Cx)(pins:List (Addr×Obj))(Y:St)(Q:Bool->Hp->Prop)(b:Bool)(s':Shared):Prop:=∃H',Inv X pins Y H' s'/\Q b H'
def AP(X:Cx)(pins:List (Addr×Obj))(Y:St)(Q:List V->Hp->Prop)(us:List Value)(s':Shared):Prop:=∃vs H',Inv X pins Y H' s'/\A0 vs us/\Q vs H'
def SP(X:Cx)(pins:List (Addr×Obj))(D:Ii)(f:Flow)(s':Shared):Prop:=
 match f with
 |.next=>∃σ' H',Inv X pins σ' H' s'/\D.nx σ' H'
 |.brk=>∃σ' H',Inv X pins σ' H' s'/\D.bk σ' H'
 |.cont=>∃σ' H',Inv X pins σ' H' s'/\D.ct σ' H'
 |.ret u=>∃v σ' H',Inv X pins σ' H' s'/\A2 v u/\D.rt v H'
def PE(X:Cx)(e:Expr)(t:TE):Prop:=
 ∀(pins:List (Addr×Obj))(s:Shared)(Y:St)(H:Hp)(Q:VK),Inv X pins Y H s->t Y H Q->wpAny (model X.prog X.w) X.A (eval e X.env) (EP X pins Y Q) X.xe s
def PT(X:Cx)(e:Expr)(t:TT):Prop:=
 ∀(pins:List (Addr×Obj))(s:Shared)(Y:St)(H:Hp)(Q:Bool->Hp->Prop),Inv X pins Y H s->t Y H Q->wpAny (model X.prog X.w) X.A (isTrue e X.env (eval e X.env)) (TP X pins Y Q) X.xe s
def PW(X:Cx)(e:Expr)(t:TT):Prop:=
 ∀(whole:Sem Value)(pins:List (Addr×Obj))(s:Shared)(Y:St)(H:Hp)(Q:Bool->Hp->Prop),Inv X pins Y H s->t Y H Q->wpAny (model X.prog X.w) X.A (isTrue e X.env whole) (TP X pins Y Q) X.xe s
def PW.pt{X:Cx}{t:TT}(h:PW X e t):PT X e t:=h _
def PA(X:Cx)(es:List Expr)(t:TA):Prop:=
 ∀(pos:Pos)(pins:List (Addr×Obj))(s:Shared)(Y:St)(H:Hp)(Q:List V->Hp->Prop),Inv X pins Y H s->t Y H Q->wpAny (model X.prog X.w) X.A (spliced (backTo pos (starEach es X.env))) (AP X pins Y Q) X.xe s
def PS(X:Cx)(st:Stmt)(t:TS):Prop:=
 ∀(pins:List (Addr×Obj))(s:Shared)(Y:St)(H:Hp)(D:Ii),Inv X pins Y H s->t D Y H->wpAny (model X.prog X.w) X.A (exec st X.env) (SP X pins D) X.xe s
def PSs(X:Cx)(st:List Stmt)(t:TS):Prop:=
 ∀(pins:List (Addr×Obj))(s:Shared)(Y:St)(H:Hp)(D:Ii),Inv X pins Y H s->t D Y H->wpAny (model X.prog X.w) X.A (execs st X.env) (SP X pins D) X.xe s
def thn{z:Type}{t:Sem z}{Q Q':z->Shared->Prop}{M:Model}{s:Shared}(h:wpAny M A t Q E s)(hQ:∀a s,Q a s->Q' a s):wpAny M A t Q' E s:=zW h hQ λ_ _ x=>x
end L2
variable{H H' H2:L2.Hp}{Y:L2.St}{X:L2.Cx}{te ta tb:L2.TE}{xs:List L2.V}{Q:L2.VK}
namespace L2
open PySem PySem.Spec PyProof.Rows
section
abbrev Aw(i:Nat):TE:=λY H Q=>match Y[i]? with
 |some (some v)=>Q v H
 |_=>False
def Wn{i:Nat}(h:Aw i Y H Q):∃v,Y[i]?=some (some v)/\Q v H:=by
 unfold Aw at h;split at h
 .exact⟨_,by assumption,h⟩
 .exact h.elim
def Jx{i:Nat}{z:VK}(h:∀v H,Q v H->z v H)(q:Aw i Y H Q):Aw i Y H z:=by
 obtain⟨v,e,q⟩:=Wn q;unfold Aw;rw[e];exact h _ _ q
def tC(v:V):TE:=λ_ H Q=>Q v H
def Af1{i:Nat}(hN:X.N[i]?=some x)(hv:Vis X.env.scope x)(hd:(x==("__debug__": Str))=false:=by decide)(a2:(x==("__classdict__": Str))=false:=by decide):PE X (.Name x pos) (Aw i):=by
 intro pins s Y H Q I h;obtain⟨v,e,h⟩:=Wn h;obtain⟨m,hn,hl⟩:=I.loc;obtain⟨u,r,l⟩:=hl i x v hN e hv;have a1:EP X _ Y Q u s:=⟨v,H,I,r,h⟩;rcases l with⟨hk,hm⟩|⟨hk,c,hc,z⟩
 .exact wpAny_Name (wpAny_loadName_local I.ok.kind hk hn hm a1) hd
 .rcases hk with hk|hk
  .exact wpAny_Name (wpAny_loadName_cell I.ok.kind hk hc z a1) hd
  .exact wpAny_Name (wpAny_loadName_free I.ok.kind hk hc z a1 a2) hd
def Am{i j pos}:PE X (.Constant (.int i) j pos) (tC (.int i)):=λ_ _ _ H _ I h=>wpAny_Constant_int ⟨.int i,H,I.tok _,⟨_,Z⟩,h⟩
def Do{b j pos}:PE X (.Constant (.bool b) j pos) (tC (.bl b)):=λ_ _ _ H _ I h=>Constant_bool ⟨.bl b,H,I,Z,h⟩
def B5{j pos}:PE X (.Constant .none j pos) (tC .non):=λ_ _ _ H _ I h=>Constant_none ⟨.non,H,I,Z,h⟩
def Ah{x j pos}:PE X (.Constant (.str x) j pos) (tC (.str x)):=λ_ _ _ H _ I h=>Calls.Constant_str ⟨.str x,H,I.tok _,⟨_,Z⟩,h⟩
def Gl(X:Cx)(x:Str):Prop:=X.env.kindOf x=some .globalImplicit
def R8{s:Shared}{Q:Value->Shared->Prop}(I:Inv X pins Y H s)(hg:Gl X x)(hm:X.mg x=some u)(h:Q u s)
  (hd:(x==("__debug__": Str))=false:=by decide):wpAny (model X.prog X.w) X.A (eval (.Name x pos) X.env) Q E s:=
 Calls.Name_function_global I.ok.kind hg (Calls.loadGlobal_global (by rw[I.ok.glob];exact I.mod.glob.keeps I.bk) hm h) hd
def Il{s:Shared}{Q:Value->Shared->Prop}(I:Inv X pins Y H s)(hg:Gl X x)(hm:X.mg x=none)(hv:bootBuiltins x=some u)(h:Q u s)
  (hn:x≠ "__name__":=by decide) (hd:(x==("__debug__": Str))=false:=by decide):wpAny (model X.prog X.w) X.A (eval (.Name x pos) X.env) Q E s:=by
 obtain⟨mb,h1,h2⟩:=I.mod.blt;exact Calls.Name_function_global I.ok.kind hg (Calls.loadGlobal_builtin (by rw[I.ok.glob];exact I.mod.glob.keeps I.bk) hm (by rw[I.ok.blt];exact h1.keeps I.bk) ((h2 x hn).trans hv) h) hd
def Bj{v:V}(hg:Gl X x)(hm:X.mg x=some u)(r:A2 v u)(hd:(x==("__debug__": Str))=false:=by decide):PE X (.Name x pos) (tC v):=
 λ_ _ _ H _ I h=>R8 I hg hm ⟨v,H,I,r,h⟩ hd
def Yu{v:V}(hg:Gl X x)(hm:X.mg x=none)(hv:bootBuiltins x=some u)(r:A2 v u)(hn:x≠ "__name__":=by decide)(hd:(x==("__debug__": Str))=false:=by decide):PE X (.Name x pos) (tC v):=
 λ_ _ _ H _ I h=>Il I hg hm hv ⟨v,H,I,r,h⟩ hn hd
variable{a b:Expr}
def PC(X:Cx)(op:CmpOp)(a b:Expr)(t:TE):Prop:=
 ∀(pins:List (Addr×Obj))(s:Shared)(Y:St)(H:Hp)(Q:VK),Inv X pins Y H s->t Y H Q ->
  wpAny (model X.prog X.w) X.A (eval a X.env) (λv s₁=>wpAny (model X.prog X.w) X.A (eval b X.env) (λu s₂=>wpAny (model X.prog X.w) X.A (compareOp op v u) (EP X pins Y Q) X.xe s₂) X.xe s₁) X.xe s
abbrev isB(Q:Bool->Hp->Prop)(x:V)(H:Hp):Prop:=match x with
 |.bl c=>Q c H
 |_=>False
def Rx{x:V}{Q:Bool->Hp->Prop}(h:isB Q x H):∃c,x=.bl c/\Q c H:=by
 cases x<;>first|exact⟨_,Z,h⟩|exact h.elim
def Pr{x:V}{Q z:Bool->Hp->Prop}(h:∀c H,Q c H->z c H)(q:isB Q x H):isB z x H:=by
 cases x<;>first|exact h _ _ q|exact q.elim
def tB(t:TE):TT:=λY H Q=>t Y H (isB Q)
def AbM{op:CmpOp}{t:TE}(h:PC X op a b t)(h1:behindInMarks op b=false:=by first|exact nobehind _ (by decide) (by decide)|rfl):PT X (.Compare a [op] [b] pos) (tB t):=by
 intro pins s Y H Q I z;refine wpAny_isTrue_Compare1 (thn (h _ s Y H _ I z) λv _ h1=>thn h1 λu _ h2=>thn h2 λc _ ⟨x,H1,I1,r1,q1⟩=>?_) h1;obtain⟨d,rfl,q⟩:=Rx q1;cases r1
 exact wpAny_truthy_bool ⟨H1,I1,q⟩
def Nn{t:TE}(h:PE X e t)(he:∀z,isTrue e X.env z=(do let v <-z;standAt e.pos;holding [v] (truthy v)):=by intro _;rfl):PT X e (tB t):=by
 intro pins s Y H Q I hw;refine isTrue_plain (thn (h _ s Y H _ I hw) λv _ ⟨x,H1,I1,r1,q1⟩=>?_) (he _);obtain⟨d,rfl,q⟩:=Rx q1;cases r1
 exact wpAny_truthy_bool ⟨H1,I1,q⟩
variable{tA tB':TT}{rest:List Expr}
def AiD(t u:TT):TT:=λY H Q=>t Y H λc H1=>if c=true then u Y H1 Q else Q false H1
def tOr(t u:TT):TT:=λY H Q=>t Y H λc H1=>if c=true then Q true H1 else u Y H1 Q
def Ahx(t:TT):TT:=λY H Q=>t Y H λc H1=>Q (!c) H1
def On(ha:PT X a tA):PW X (.BoolOp .And [a] pos) tA:=by
 intro z pins s Y H Q I h;refine isTrue_and (thn (ha _ s Y H Q I h) λc _ e=>?_);cases c with
 |true=>exact isTrue_and_nil e
 |false=>exact e
def F8(ha:PT X a tA):PW X (.BoolOp .Or [a] pos) tA:=by
 intro z pins s Y H Q I h;refine isTrue_or (thn (ha _ s Y H Q I h) λc _ e=>?_);cases c with
 |false=>exact isTrue_or_nil e
 |true=>exact e
def Nq(ha:PT X a tA)(hb:PW X (.BoolOp .And (b::rest) pos) tB'):PW X (.BoolOp .And (a::b::rest) pos) (AiD tA tB'):=by
 intro wh pins s Y H Q I h;refine isTrue_and (thn (ha _ s Y H _ I h) λc s1 ⟨H1,z,q1⟩=>?_);cases c with
 |true=>exact hb _ _ _ Y _ Q z q1
 |false=>exact⟨H1,z,q1⟩
def Ha(ha:PT X a tA)(hb:PW X (.BoolOp .Or (b::rest) pos) tB'):PW X (.BoolOp .Or (a::b::rest) pos) (tOr tA tB'):=by
 intro wh pins s Y H Q I h;refine isTrue_or (thn (ha _ s Y H _ I h) λc s1 ⟨H1,z,q1⟩=>?_);cases c with
 |true=>exact⟨H1,z,q1⟩
 |false=>exact hb _ _ _ Y _ Q z q1
def AgC(ha:PT X a tA):PT X (.UnaryOp .Not a pos) (Ahx tA):=by
 intro pins s Y H Q I h;exact isTrue_not (ha _ s Y H _ I h)
def Ag2(ta tb:TE):TE:=λY H Q=>ta Y H λx H1=>∃c,x=.bl c/\if c=true then tb Y H1 Q else Q (.bl false) H1
def Ahi(ta tb:TE):TE:=λY H Q=>ta Y H λx H1=>∃c,x=.bl c/\if c=true then Q (.bl true) H1 else tb Y H1 Q
def Qg{op}{t:TE}(h:PE X a t):PE X (.BoolOp op [a] pos) t:=λpins s Y H Q I z=>BoolOp_one (h _ s Y H Q I z)
def Wc(ha:PE X a ta)(hb:PE X (.BoolOp .And (b::rest) pos) tb):PE X (.BoolOp .And (a::b::rest) pos) (Ag2 ta tb):=by
 intro pins s Y H Q I h;refine BoolOp_and (thn (ha _ s Y H _ I h) λv s1 ⟨x,H1,I1,r1,z⟩=>?_);obtain⟨c,rfl,z⟩:=z;cases r1
 refine wpAny_truthy_bool ?_;cases c with
 |true=>exact hb _ _ Y _ Q I1 z
 |false=>exact⟨.bl false,H1,I1,rfl,z⟩
def Ag5(ha:PE X a ta)(hb:PE X (.BoolOp .Or (b::rest) pos) tb):PE X (.BoolOp .Or (a::b::rest) pos) (Ahi ta tb):=by
 intro pins s Y H Q I h;refine BoolOp_or (thn (ha _ s Y H _ I h) λv s1 ⟨x,H1,I1,r1,z⟩=>?_);obtain⟨c,rfl,z⟩:=z;cases r1
 refine wpAny_truthy_bool ?_;cases c with
 |false=>exact hb _ _ Y _ Q I1 z
 |true=>exact⟨.bl true,H1,I1,rfl,z⟩
def tIf(t:TT)(ta tb:TE):TE:=λY H Q=>t Y H λc H1=>if c=true then ta Y H1 Q else tb Y H1 Q
def Bq{c:Expr}(hc:PT X c tA)(ha:PE X a ta)(hb:PE X b tb):PE X (.IfExp c a b pos) (tIf tA ta tb):=by
 intro pins s Y H Q I h;refine wpAny_IfExp (thn (hc _ s Y H _ I h) λd s1 ⟨H1,z,q1⟩=>?_);cases d with
 |true=>exact ha _ _ Y _ Q z q1
 |false=>exact hb _ _ Y _ Q z q1
end
def SqL(K:FA)(H:Hp)(a:Addr)(xs:List V):Prop:=
 Rd H a (.lst xs) \/
  ∃(o:Obj)(its:Array Value)(n:Nat),K.lookup a=some o/\o.cls=.type "list" /\ o.dict=none/\o.data=.seq its n/\its.size<=sizeLine/\A0 xs its.toList
def SqT(K:FA)(H:Hp)(a:Addr)(xs:List V):Prop:=
 Rd H a (.tup xs) \/
  ∃(o:Obj)(its:Array Value)(n:Nat),K.lookup a=some o/\o.cls=.type "tuple" /\ o.data=.seq its n/\its.size<=sizeLine/\A0 xs its.toList
def Ah7:Value->Option V
 |.none=>some .non
 |.bool b=>some (.bl b)
 |.int i _=>some (.int i)
 |.str x _=>some (.str x)
 |.bytes b _=>some (.byt b)
 |.float b _=>some (.flt b)
 |.ref a=>some (.ref a)
 |.type n=>some (.ty n)
 |_=>none
def A2.abs{x:V}(r:A2 x u):Ah7 u=x:=by
 cases x with
 |non=>cases r;rfl
 |bl _=>cases r;rfl
 |int _=>obtain⟨t,rfl⟩:=r;rfl
 |str _=>obtain⟨t,rfl⟩:=r;rfl
 |byt _=>obtain⟨t,rfl⟩:=r;rfl
 |flt _=>obtain⟨t,rfl⟩:=r;rfl
 |ref _=>cases r;rfl
 |ty _=>cases r;rfl
def A2.inj{x y:V}(r:A2 x u)(q:A2 y u):x=y:=uH (r.abs.symm.trans q.abs)
theorem A0.inj:∀{xs ys:List V}{us:List _},A0 xs us->A0 ys us->xs=ys
 |_,_,_,.nil,.nil=>rfl
 |_,_,_,.cons r t,.cons r' t'=>by rw[r.inj r',A0.inj t t']
section
variable{s:Shared}{ys:List V}
def Ai(h:H a=some (.lst xs)):SqL K H a xs:=.inl (.inl h)
def Aj(h:H a=some (.tup xs)):SqT K H a xs:=.inl (.inl h)
def Inv.list(I:Inv X pins Y H s)(h:SqL X.K H a xs):∃a1:List Value,A0 xs a1/\PlainL s.heap a a1.toArray/\xs.length<=sizeLine:=by
 rcases h with h|⟨o,a1,n,hk,hc,hd,hs,hz,r⟩
 .obtain⟨z,a1,n,r,e⟩:=h.ok I.hok
  exact⟨a1,r,⟨_,n,e,Z,Z,Z⟩,z⟩
 .refine⟨a1.toList,r,⟨o,n,I.kIn a o hk,hc,hd,by omega⟩,?_⟩
  have e:=r.length;simp[uT]at e;omega
def Inv.tuple(I:Inv X pins Y H s)(h:SqT X.K H a xs):∃a1:List Value,A0 xs a1/\IsTup s.heap a a1.toArray/\xs.length<=sizeLine:=by
 rcases h with h|⟨o,a1,n,hk,hc,hs,hz,r⟩
 .obtain⟨z,a1,r,p⟩:=h.ok I.hok
  exact⟨a1,r,p,z⟩
 .refine⟨a1.toList,r,⟨o,I.kIn a o hk,hc,n,by omega⟩,?_⟩
  have e:=r.length;simp[uT]at e;omega
def Inv.list_inj(I:Inv X pins Y H s)(h:SqL X.K H a xs)(h':SqL X.K H a ys):xs=ys:=by
 obtain⟨z,r,⟨o,n,e,_,_,d⟩,_⟩:=I.list h;obtain⟨its',r',⟨o',n',e',_,_,d'⟩,_⟩:=I.list h';rw[e]at e';cases e';rw[d]at d';injection d' with d1 _;have:=by simpa using congrArg Array.toList d1
 subst this;exact r.inj r'
def Inv.tuple_inj(I:Inv X pins Y H s)(h:SqT X.K H a xs)(h':SqT X.K H a ys):xs=ys:=by
 obtain⟨z,r,⟨o,e,_,n,d⟩,_⟩:=I.tuple h;obtain⟨its',r',⟨o',e',_,n',d'⟩,_⟩:=I.tuple h';rw[e]at e';cases e';rw[d]at d';injection d' with d1 _;have:=by simpa using congrArg Array.toList d1
 subst this;exact r.inj r'
end
abbrev Cx.wish(X:Cx)(E:Value->Shared->Prop):Cx:={X with xe:=E}
abbrev Cx.nox(X:Cx):Cx:=X.wish λ_ _=>False
def Cx.Ok.wish(ok:X.Ok)(E:Value->Shared->Prop):(X.wish E).Ok:=
 ⟨ok.mod,ok.kind,ok.glob,ok.blt,ok.above,ok.inj,ok.has,ok.cab,ok.hd,ok.frames,ok.stk,ok.exf,ok.bs,ok.bsz,ok.noex,ok.exfs,ok.funs,ok.frf⟩
def Cx.Ok.unwish(ok:(X.wish E).Ok):X.Ok:=
 ⟨ok.mod,ok.kind,ok.glob,ok.blt,ok.above,ok.inj,ok.has,ok.cab,ok.hd,ok.frames,ok.stk,ok.exf,ok.bs,ok.bsz,ok.noex,ok.exfs,ok.funs,ok.frf⟩
section
variable{s:Shared}
def Inv.wish(I:Inv X pins Y H s)(E:Value->Shared->Prop):Inv (X.wish E) pins Y H s:=⟨I.ok.wish E,I.os,I.bare,I.base,I.loc,I.cell,I.free,I.freeC,I.pin,I.hok,I.len⟩
def Inv.unwish(I:Inv (X.wish E) pins Y H s):Inv X pins Y H s:=⟨I.ok.unwish,I.os,I.bare,I.base,I.loc,I.cell,I.free,I.freeC,I.pin,I.hok,I.len⟩
def SP.unwish{D:Ii}{f:Flow}{s':Shared}(h:SP (X.wish E) pins D f s'):SP X pins D f s':=by
 cases f with
 |next=>obtain⟨z,H',I,q⟩:=h;exact⟨z,H',I.unwish,q⟩
 |brk=>obtain⟨z,H',I,q⟩:=h;exact⟨z,H',I.unwish,q⟩
 |cont=>obtain⟨z,H',I,q⟩:=h;exact⟨z,H',I.unwish,q⟩
 |ret u=>obtain⟨v,z,H',I,r,q⟩:=h;exact⟨v,z,H',I.unwish,r,q⟩
def PSs.nox{st:List Stmt}{t:TS}(h:PSs X.nox st t):PSs X st t:=λpins s Y H D I hw=>
 zW (h _ s Y H D (I.wish _) hw) (λ_ _ q=>q.unwish) λ_ _ z=>False.elim z
end
section
variable{rest:List Stmt}{t u:TS}
def tNext:TS:=λD Y H=>D.nx Y H
def tSeq(t u:TS):TS:=λD Y H=>t {D with nx:=u D} Y H
def Ar:PSs X [] tNext:=λ_ _ Y H _ I h=>wpAny_execs_nil ⟨Y,H,I,h⟩
def Ab(h1:PS X st t)(h2:PSs X rest u):PSs X (st::rest) (tSeq t u):=by
 intro pins s Y H D I h;refine wpAny_execs_cons (thn (h1 _ s Y H {D with nx:=u D} I h) λf s1 q=>?_);cases f with
 |next=>
  obtain⟨z,H',I',q⟩:=q;exact h2 _ _ z _ D I' q
 |ret v=>exact q
 |brk=>exact q
 |cont=>exact q
def Ad(h1:PS X st t):PSs X [st] t:=by
 intro pins s Y H D I h;refine wpAny_execs_cons (thn (h1 _ s Y H D I h) λf _ q=>?_);cases f with
 |next=>exact wpAny_execs_nil q
 |ret v=>exact q
 |brk=>exact q
 |cont=>exact q
def Ags:TS:=λD Y H=>D.ct Y H
def Xk:PS X (.Continue pos) Ags:=λ_ _ Y H _ I h=>wpAny_Continue ⟨Y,H,I,h⟩
def Inv.quiet{s:Shared}(I:Inv X pins Y H s):interactive X.env=false:=by simp[interactive,I.ok.kind]
def Agb(te:TE):TS:=λD Y H=>te Y H λ_ H1=>D.nx Y H1
def A6(he:PE X e te)(hs:swapsWith e none pos.line X.env=pure false:=by rfl):PS X (.Expr e pos) (Agb te):=by
 intro pins s Y H D I h;exact wpAny_Expr_any (thn (he _ s Y H _ I h) λv _ ⟨x,H1,z,r1,q1⟩=>⟨Y,H1,z,q1⟩) I.quiet hs
def Aae(te:TE):TS:=λD Y H=>te Y H D.rt
def Ag(he:PE X e te):PS X (.Return (some e) pos) (Aae te):=by
 intro pins s Y H D I h;exact wpAny_Return_some (thn (he _ s Y H _ I h) λv _ ⟨x,H1,z,r1,q1⟩=>⟨x,Y,H1,z,r1,q1⟩)
def Ag7:TS:=λD _ H=>D.rt .non H
def Za:PS X (.Return none pos) Ag7:=λ_ _ Y H _ I h=>wpAny_Return_none ⟨.non,Y,H,I,Z,h⟩
def tIfS(c:TT)(t u:TS):TS:=λD Y H=>c Y H λb H1=>if b=true then t D Y H1 else u D Y H1
def Az{c:Expr}{a b:List Stmt}{tc:TT}(hc:PT X c tc)(ha:PSs X a t)(hb:PSs X b u):PS X (.If c a b pos) (tIfS tc t u):=by
 intro pins s Y H D I h;refine wpAny_If (thn (hc _ s Y H _ I h) λd s1 ⟨H1,z,q1⟩=>?_);cases d with
 |true=>exact ha _ _ Y _ D z q1
 |false=>exact hb _ _ Y _ D z q1
end
abbrev TG:=V->St->Hp->(St->Hp->Prop)->Prop
abbrev TGs:=List V->St->Hp->(St->Hp->Prop)->Prop
def PG(X:Cx)(target:Expr)(t:TG):Prop:=
 ∀(pins:List (Addr×Obj))(s:Shared)(Y:St)(H:Hp)(v:V)(u:Value)(Q:St->Hp->Prop),Inv X pins Y H s->A2 v u->t v Y H Q ->
  wpAny (model X.prog X.w) X.A (assign target X.env u) (λ_ s'=>∃σ' H',Inv X pins σ' H' s'/\Q σ' H') X.xe s
def PGs(X:Cx)(ts:List Expr)(t:TGs):Prop:=
 ∀(pins:List (Addr×Obj))(s:Shared)(Y:St)(H:Hp)(vs:List V)(us:List Value)(Q:St->Hp->Prop),Inv X pins Y H s->A0 vs us->t vs Y H Q ->
  wpAny (model X.prog X.w) X.A (assignInOrder ((assignEach ts X.env).map (·.2)) us) (λ_ s'=>∃σ' H',Inv X pins σ' H' s'/\Q σ' H') X.xe s
abbrev Acx:=V->V->V->Hp->(Hp->Prop)->Prop
def AfQ(X:Cx)(t:Acx):Prop:=
 ∀(pins:List (Addr×Obj))(s:Shared)(Y:St)(H:Hp)(o i v:V)(ov iv u:Value)(Q:Hp->Prop),Inv X pins Y H s->A2 o ov->A2 i iv->A2 v u->t o i v H Q ->
  wpAny (model X.prog X.w) X.A (setItem ov iv u) (λ_ s'=>∃H',Inv X pins Y H' s'/\Q H') X.xe s
def Bn(i:Nat):TG:=λv Y H Q=>Q (Y.set i (some v)) H
def Aq{i:Nat}(hN:X.N.Nodup)(hi:X.N[i]?=some x)(z:Loc X.env.scope x)(hf:X.fn x=true\/X.env.scope.names.lookup x=some .local:=by first|exact .inl rfl|exact .inr rfl|assumption):PG X (.Name x pos) (Bn i):=by
 intro pins s Y H v u Q I r h;exact wpAny_assign_Name (Pd I hN hi z r (λs' I'=>⟨_,H,I',h⟩) hf)
def Acn:TGs:=λvs Y H Q=>vs=[]/\Q Y H
def Q8(t:TG)(u:TGs):TGs:=λvs Y H Q=>∃v r,vs=v::r/\t v Y H λσ' H'=>u r σ' H' Q
def Eb:PGs X [] Acn:=by
 intro pins s Y H _ _ Q I r h;obtain⟨e,h⟩:=h;subst e
 exact assignInOrder_nil ⟨Y,H,I,h⟩
def Bf{t:TG}{u:TGs}(h1:PG X e t)(h2:PGs X es u)
  (hs:(assignEach (e::es) X.env).map (·.2)=assign e X.env::(assignEach es X.env).map (·.2):=by rfl):PGs X (e::es) (Q8 t u):=by
 intro pins s Y H _ _ Q I r h;obtain⟨v,vr,e1,h⟩:=h;subst e1;cases r with
 |cons r rr=>
  rw[hs];exact assignInOrder_cons (thn (h1 _ s Y H _ _ _ I r h) λ_ s1 ⟨z,H1,I1,q1⟩=>h2 _ _ z _ _ _ Q I1 rr q1)
inductive Ab4(K:FA)(n:Nat)(v:V)(H:Hp)(R:List V->Prop):Prop
 |mk(a:Addr)(xs:List V)(_:v=.ref a)(_:SqT K H a xs)(_:xs.length=n)(_:R xs)
def AcR(K:FA)(n:Nat)(t:TGs):TG:=λv Y H Q=>Ab4 K n v H λxs=>t xs Y H Q
def Fi{t:TGs}(hc:X.calm=true)(h:PGs X es t)
  (hn:(assignEach es X.env).length=n:=by rfl) (a1:(assignEach es X.env).findIdx? (·.1)=none:=by rfl):PG X (.Tuple es k pos) (AcR X.K n t):=by
 intro pins s Y H v u Q I r z;obtain⟨a,xs,e1,hq,hl,z⟩:=z;subst e1;cases r
 obtain⟨a2,rv,ht,hz⟩:=I.tuple hq;refine assign_Tuple_tuple (I.ok.hd hc) ht (by simp[hn,<-hl,rv.length]) a1 λh' hx=>?_
 exact h _ _ Y H _ _ Q (I.kept (t':=s.toks) λb o e=>hx b o (zF (uD e)) e) (by omega) z
def Aho(to ti:TE)(t:Acx):TG:=λv Y H Q=>to Y H λo H1=>ti Y H1 λi H2=>t o i v H2 λH3=>Q Y H3
def V0{o i:Expr}{to ti:TE}{t:Acx}(ho:PE X o to)(hi:PE X i ti)(hs:AfQ X t)
  (ha:∀v,assign (.Subscript o i pos) X.env v=(do
   let z <-holding [v] (eval o X.env)
   let iv <-holding [v,z] (eval i X.env)
   standAt pos
   holding [v,z,iv] (setItem z iv v)
   release [v,z,iv] []):=by intro _;rfl):PG X (.Subscript o i pos) (Aho to ti t):=by
 intro pins s Y H v u Q I r h;rw[ha];refine vB (zX (thn (ho _ s Y H _ I h) λz s1 ⟨x,H1,I1,r1,q1⟩=>?_));refine vB (zX (thn (hi _ _ Y _ _ I1 q1) λiv s2 ⟨y,H2,I2,r2,q2⟩=>?_));exact vB (wpAny_standAt (vB (zX (thn (hs _ _ Y _ x y v z _ u _ I2 r1 r2 r q2) λ_ _ ⟨H3,I3,q3⟩=>wpAny_release ⟨Y,H3,I3,q3⟩))))
def Rm(te:TE)(g:TG):TS:=λD Y H=>te Y H λx H1=>g x Y H1 D.nx
def Ft{tg:Expr}{g:TG}(z:PE X e te)(hg:PG X tg g)(hs:swapsWithSole [tg] e pos.line X.env=pure false:=by rfl)(hw:swappedStores [tg] e X.env=pure none:=by rfl)
  (h1:(assignEach [tg] X.env).map (·.2)=[assign tg X.env]:=by rfl):PS X (.Assign [tg] e pos) (Rm te g):=by
 intro pins s Y H D I h;refine wpAny_Assign_stores (thn (z _ s Y H _ I h) λv s1 ⟨x,H1,I1,r1,q1⟩=>?_) hs hw;rw[h1];exact thn (hg _ _ Y _ x v _ I1 r1 q1) λ_ _ q=>q
def Q4{i:Nat}{pos':Pos}(z:X.N.Nodup)(hi:X.N[i]?=some x)(hx:Loc X.env.scope x)(he:PE X e te)(hs:swapsWith e (some (.Name x pos')) pos.line X.env=pure false:=by rfl)(hf:X.fn x=true\/X.env.scope.names.lookup x=some .local:=by first|exact .inl rfl|exact .inr rfl|assumption) :
  PS X (.Assign [.Name x pos'] e pos) (Rm te (Bn i)):=by
 intro pins s Y H D I h;exact wpAny_Assign_Name (thn (he _ s Y H _ I h) λv _ ⟨y,H1,I1,r1,q1⟩=>Pd I1 z hi hx r1 (λs2 I2=>⟨_,H1,I2,q1⟩) hf) hs
def AcD(c:TT)(tb:TS):TS:=λD Y H=>∃W:Nat->St->Hp->Prop,(∃m,W m Y H)/\∀m Y H,W m Y H ->
 c Y H λb H1=>if b=true then ∃N:St->Hp->Prop,(∀σ' H',N σ' H'->∃m',m'<m/\W m' σ' H')/\tb {D with nx:=N,ct:=N,bk:=D.nx} Y H1 else D.nx Y H1
def Mq{c:Expr}{a2:List Stmt}{tc:TT}{tb:TS}(hp:PassesOwn (model X.prog X.w) X.A X.env X.xe)(hc:PT X c tc)(hb:PSs X a2 tb):PS X (.While c a2 [] pos) (AcD tc tb):=by
 intro pins s Y H D I h;obtain⟨W,⟨m0,w0⟩,a4⟩:=h;refine wpAny_While (codeAny_whileLoop (λn s'=>∃a3 H',Inv X _ a3 H' s'/\W n a3 H') ?_ m0 ⟨Y,H,I,w0⟩);rintro n s1 ⟨a1,H1,I1,w1⟩;refine wpAny_passesOwn hp (thn (hc _ _ _ _ _ I1 (a4 n _ _ w1)) λb s2 ⟨H2,I2,q2⟩=>?_);cases b with
 |true=>
  obtain⟨N,hN,q2⟩:=q2;refine wpAny_passesOwn hp (thn (hb _ _ _ _ _ I2 q2) λf _ q3=>?_);cases f with
  |next=>
   obtain⟨z,H3,I3,n3⟩:=q3;obtain⟨m',hm,w3⟩:=hN z _ n3;exact⟨m',hm,z,H3,I3,w3⟩
  |cont=>
   obtain⟨z,H3,I3,n3⟩:=q3;obtain⟨m',hm,w3⟩:=hN z _ n3;exact⟨m',hm,z,H3,I3,w3⟩
  |brk=>exact q3
  |ret v=>exact q3
 |false=>
  exact wpAny_execs_nil ⟨a1,H2,I2,q2⟩
structure It where
 go:Nat->Hp->Prop
 yld:Nat->Hp->V->Hp->Prop
 stop:Nat->Hp->Prop
def Kw(X:Cx)(pins:List (Addr×Obj))(H:Hp)(b:Addr):Prop:=
 H b=none/\b≠X.env.locals/\b∉X.fs/\(b∈X.ex\/X.s₀.heap.objs.size<=b)/\(∀x c,X.env.cells.lookup x=some c->c≠b)/\∀p∈X.pn++pins,p.1≠b
def Inv.fpOk{s:Shared}{b:Addr}(I:Inv X pins Y H s)(hb:s.heap.objs.size<=b)(hn:H' b=none):Kw X pins H' b:=by
 refine⟨hn,ne_of_gt (zD I.lt hb),I.nofs hb,.inr (zA I.sz hb),λx c e z=>?_,λp hp z=>?_⟩
 .obtain⟨v,q⟩:=I.cell x c e
  exact absurd (zD q.lt (by simp_all)) (lt_irrefl _)
 .exact absurd (zD (uD (I.pin p hp).1) (by simp_all)) (lt_irrefl _)
structure N5(P:Program)(w:World)(K:FA)(tg:Expr)(J:It)(fp:List Addr)(it:Addr)(tn:Nat->Heap->Prop):Prop where
 mem:it∈fp
 obj:∀i h,tn i h->∀b∈fp,∃o,h.get? b=some o/\∀v,o.data≠.cell v
 keep:∀i h h',tn i h->(∀b∈fp,∀o,h.get? b=some o->h'.get? b=some o)->tn i h'
 item:∀(X:Cx),X.prog=P->X.w=w->X.K=K->X.calm=true->∀(i:Nat)(pins:List (Addr×Obj))(s:Shared)(Y:St)(H:Hp)(E:Value->Shared->Prop),Inv X pins Y H s->(∀b∈fp,Kw X pins H b)->tn i s.heap->J.go i H ->
  wpAny (model P w) X.A (pyNext (.ref it)) (λr s1=>∃u,r=some u /\
   wpAny (model P w) X.A (letOwnedTupleGo tg (.ref it) u) (λ_ s2=>∃x H',Inv X pins Y H' s2/\A2 x u/\J.yld i H x H'/\tn (i+1) s2.heap/\∀b∈fp,H' b=none) E s1) E s
 done:∀(X:Cx),X.prog=P->X.w=w->X.K=K->X.calm=true->∀(i:Nat)(pins:List (Addr×Obj))(s:Shared)(Y:St)(H:Hp)(E:Value->Shared->Prop),Inv X pins Y H s->(∀b∈fp,Kw X pins H b)->tn i s.heap->J.stop i H ->
  wpAny (model P w) X.A (pyNext (.ref it)) (λr s1=>r=none/\Inv X pins Y H s1) E s
 self:∀(A:Around)(i:Nat)(s:Shared)(Q:Value->Shared->Prop)(E:Value->Shared->Prop),tn i s.heap->Q (.ref it) s->wpAny (model P w) A (pyIter (.ref it)) Q E s
abbrev TI:=St->Hp->(It->Hp->Prop)->Prop
def PIE(X:Cx)(pins:List (Addr×Obj))(Y:St)(tg:Expr)(R:It->Hp->Prop)(itv:Value)(s2:Shared):Prop:=
 ∃(it:Addr)(fp:List Addr)(tn:Nat->Heap->Prop)(J:It)(H':Hp),itv=.ref it/\Inv X pins Y H' s2/\N5 X.prog X.w X.K tg J fp it tn/\tn 0 s2.heap/\(∀b∈fp,Kw X pins H' b)/\R J H'
def PI(X:Cx)(tg iter:Expr)(wi:TI):Prop:=
 ∀(pins:List (Addr×Obj))(s:Shared)(Y:St)(H:Hp)(R:It->Hp->Prop),Inv X pins Y H s->wi Y H R ->
  wpAny (model X.prog X.w) X.A (eval iter X.env) (λv s1=>wpAny (model X.prog X.w) X.A (pyIter v) (PIE X pins Y tg R) X.xe s1) X.xe s
def Tx{M:Model}{s:Shared}{tg:Expr}{it:Addr}{o:Obj}{n:String}{vs:Array Value}{Q:Unit->Shared->Prop}(ho:s.heap.get? it=o)(hc:o.cls=.type n)(hd:o.data=.fields vs)
  (hn:["enumerate","zip","dict_itemiterator","dict_reverseitemiterator","odict_iterator","itertools.zip_longest","itertools.pairwise"].contains n=false) (z:Q () s):wpAny M A (letOwnedTupleGo tg (.ref it) u) Q E s:=by
 cases tg<;>first
  |exact vC z
  | (cases u<;>first
    |exact vC z
    | (refine vB (wpAny_load ho ?_)
       rw[hc,hd];show wpAny M A (if _ then _ else _) Q E s;rw[if_neg (by intro h;rw[hn]at h;cases h)];exact vC z))
def Itl(K:FA)(a:Addr):It:=
 ⟨λi H=>∃xs x,SqL K H a xs/\xs[i]?=some x,λi H x H'=>H'=H/\∀xs,SqL K H a xs->xs[i]?=some x,λi H=>∃xs,SqL K H a xs/\xs.length<=i⟩
def Itt(K:FA)(a:Addr):It:=
 ⟨λi H=>∃xs x,SqT K H a xs/\xs[i]?=some x,λi H x H'=>H'=H/\∀xs,SqT K H a xs->xs[i]?=some x,λi H=>∃xs,SqT K H a xs/\xs.length<=i⟩
def Itr(lo:Int)(n:Nat):It:=⟨λi _=>i<n,λi H x H'=>H'=H/\x=.int (lo+i),λi _=>n<=i⟩
def Aa1{tg:Expr}(a it:Addr):N5 P w K tg (Itl K a) [it] it (λi h=>h.IsListIter it a i) where
 mem:=by simp
 obj:=λi h st b hb=>by
  have e:=by simpa using hb
  subst e;obtain⟨o,e,c,d⟩:=st;exact⟨o,e,λv z=>by simp_all⟩
 keep:=λi h _ st k=>st.at λo e=>k _ (by simp) o e
 item:=by
  intro X hP hw hK _ i pins s Y H E I hf st hg;subst hP hw hK;obtain⟨xs,x,hq,hx⟩:=hg;obtain⟨a2,rv,p,hz⟩:=I.list hq;obtain⟨u,hu,ru⟩:=rv.get hx;obtain⟨f0,f1,f2,f3,f4,f5⟩:=hf it (by simp);refine wpAny_pyNext_list_item st p.isList (by simpa using hu) λh' a1 sb=>?_
  obtain⟨o,e,c,d⟩:=id a1;exact⟨u,Z,Tx e c d (by decide) ⟨x,H,(I.turned (t':=s.toks) (λb o hb e=>(sb.2 b hb).trans e) f0 f1 f3 f4 f5),ru,⟨rfl,λys hy=>by rw[I.list_inj hy hq];exact hx⟩,a1,λb hb=>(hf b hb).1⟩⟩
 done:=by
  intro X hP hw hK hc i _ s Y H E I hf st hg;subst hP hw hK;obtain⟨xs,hq,hx⟩:=hg;obtain⟨a2,rv,p,hz⟩:=I.list hq;obtain⟨f0,f1,f2,f3,f4,f5⟩:=hf it (by simp);have hl:=rv.length;exact wpAny_pyNext_list_end (I.ok.hd hc) st p.isList (by simp;omega) λh' eb=>⟨Z,I.turned (λb o hb e=>eb b o hb e) f0 f1 f3 f4 f5⟩
 self:=λ_ _ _ _ _ st h=>wpAny_pyIter_listiter st h
def Aah{tg:Expr}(a it:Addr):N5 P w K tg (Itt K a) [it] it (λi h=>h.IsTupleIter it a i) where
 mem:=by simp
 obj:=λi h st b hb=>by
  have e:=by simpa using hb
  subst e;obtain⟨o,e,c,d⟩:=st;exact⟨o,e,λv z=>by simp_all⟩
 keep:=λi h _ st k=>st.at λo e=>k _ (by simp) o e
 item:=by
  intro X hP hw hK _ i pins s Y H E I hf st hg;subst hP hw hK;obtain⟨xs,x,hq,hx⟩:=hg;obtain⟨a1,rv,p,hz⟩:=I.tuple hq;obtain⟨u,hu,ru⟩:=rv.get hx;obtain⟨f0,f1,f2,f3,f4,f5⟩:=hf it (by simp);refine wpAny_pyNext_tuple_item st (p) (by simpa using hu) λh' a2 sb=>?_
  obtain⟨o,e,c,d⟩:=id a2;exact⟨u,Z,Tx e c d (by decide) ⟨x,H,(I.turned (t':=s.toks) (λb o hb e=>(sb.2 b hb).trans e) f0 f1 f3 f4 f5),ru,⟨rfl,λys hy=>by rw[I.tuple_inj hy hq];exact hx⟩,a2,λb hb=>(hf b hb).1⟩⟩
 done:=by
  intro X hP hw hK hc i _ s Y H E I hf st hg;subst hP hw hK;obtain⟨xs,hq,hx⟩:=hg;obtain⟨a1,rv,p,hz⟩:=I.tuple hq;obtain⟨f0,f1,f2,f3,f4,f5⟩:=hf it (by simp);have hl:=rv.length;exact wpAny_pyNext_tuple_end (I.ok.hd hc) st (p) (by simp;omega) λh' eb=>⟨Z,I.turned (λb o hb e=>eb b o hb e) f0 f1 f3 f4 f5⟩
 self:=λ_ _ _ _ _ st h=>wpAny_pyIter_tupleiter st h
def AaG{tg:Expr}(it:Addr)(lo:Int)(n:Nat):N5 P w K tg (Itr lo n) [it] it (λi h=>IsRangeIter h it (lo+(i:Nat)*1) ((n:Int)-(i:Nat)) 1) where
 mem:=by simp
 obj:=λi h st b hb=>by
  have e:=by simpa using hb
  subst e
  exact⟨_,st,λv z=>by
   cases z⟩
 keep:=λi h _ st k=>k _ (by simp) _ st
 item:=by
  intro X hP hw hK hc i pins s Y H E I hf st hg;subst hP hw hK;obtain⟨f0,f1,f2,f3,f4,f5⟩:=hf it (by simp);refine (Walks.range (I.ok.hd hc) _ _ 1 n).item i s _ _ hg st λv h' tk hv a1 kk=>?_
  obtain⟨t,rfl⟩:=hv;have I1:Inv X _ Y H {s with heap:=h',toks:=tk}:=I.turned (λb o hb e=>kk b o (by simpa using hb) e) f0 f1 f3 f4 f5;refine⟨_,Z,Tx a1 rfl rfl (by decide) ⟨.int _,H,I1,⟨t,?_⟩,⟨rfl,rfl⟩,a1,λb hb=>(hf b hb).1⟩⟩;rw[Int.mul_one]
 done:=by
  intro X _ _ _ hc i _ s Y H E I hf st hg;obtain⟨f0,f1,f2,f3,f4,f5⟩:=hf it (by simp);exact wpAny_pyNext_range_end (I.ok.hd hc) st (by have:n<=i:=hg;omega) λh' eb=>⟨Z,I.turned (λb o hb e=>eb b o hb e) f0 f1 f3 f4 f5⟩
 self:=λ_ _ _ _ _ st h=>wpAny_pyIter_rangeiter st h
section
variable{tg:Expr}
def Agc(K:FA)(tl:TE):TI:=λY H R=>tl Y H λx H1=>∃a,x=.ref a/\(∃xs,SqL K H1 a xs)/\R (Itl K a) H1
def Ahj(K:FA)(tl:TE):TI:=λY H R=>tl Y H λx H1=>∃a,x=.ref a/\(∃xs,SqT K H1 a xs)/\R (Itt K a) H1
def Cf{l:Expr}{tl:TE}(hl:PE X l tl):PI X tg l (Agc X.K tl):=by
 intro pins s Y H R I h;refine thn (hl _ s Y H _ I h) λv s1 ⟨x,H1,z,r1,q1⟩=>?_
 obtain⟨a,e,⟨xs,hq⟩,q⟩:=q1;subst e;cases r1
 obtain⟨a1,rv,p,hz⟩:=z.list hq;refine wpAny_pyIter_list p.isList ?_;refine⟨s1.heap.objs.size,[s1.heap.objs.size],_,_,H1,Z,z.kept λb o e=>uB _ e,Aa1 a _,⟨_,uF _ rfl,rfl,rfl⟩,λb hb=>?_,q⟩;have e:=by simpa using hb
 subst e;exact z.fpOk (zB _) (z.hok.fresh (zB _))
def Ls{l:Expr}{tl:TE}(hl:PE X l tl):PI X tg l (Ahj X.K tl):=by
 intro pins s Y H R I h;refine thn (hl _ s Y H _ I h) λv s1 ⟨x,H1,z,r1,q1⟩=>?_
 obtain⟨a,e,⟨xs,hq⟩,q⟩:=q1;subst e;cases r1
 obtain⟨a1,rv,p,hz⟩:=z.tuple hq;refine wpAny_pyIter_tuple (p) ?_;refine⟨s1.heap.objs.size,[s1.heap.objs.size],_,_,H1,Z,z.kept λb o e=>uB _ e,Aah a _,⟨_,uF _ rfl,rfl,rfl⟩,λb hb=>?_,q⟩;have e:=by simpa using hb
 subst e;exact z.fpOk (zB _) (z.hok.fresh (zB _))
def Acs{s:Shared}{R:It->Hp->Prop}{lo hi:Int}{t u v:Tok}{tk:Nat}(I:Inv X pins Y H s)(h1:-(2^62)<=lo)(h2:lo<2^62)(h3:-(2^62)<=hi)(h4:hi<2^62)
  (q:R (Itr lo (hi-lo).toNat) H):wpAny (model X.prog X.w) X.A (pyIter (.ref s.heap.objs.size)) (PIE X pins Y tg R) E {s with heap:=s.heap.push {cls:=.type "range",data:=.fields #[.int lo t,.int hi u,.int 1 v]},toks:=tk}:=by
 refine wpAny_pyIter_range (IsRange.new ..) (small_one h1 h2 h3 h4) ?_;have z:Inv X _ Y H {s with heap:=s.heap.push {cls:=.type "range",data:=.fields #[.int lo t,.int hi u,.int 1 v]},toks:=tk}:=I.kept λb o e=>uB _ e
 refine⟨(s.heap.push {cls:=.type "range",data:=.fields #[.int lo t,.int hi u,.int 1 v]}).objs.size,[(s.heap.push {cls:=.type "range",data:=.fields #[.int lo t,.int hi u,.int 1 v]}).objs.size],_,_,H,rfl,
  z.kept λb o e=>uB _ e,AaG _ _ (hi-lo).toNat,?_,λb hb=>?_,q⟩
 .have e1:lo+((0:Nat))*1=lo:=by simp
  have e2:(((hi-lo).toNat))-((0:Nat))=Builtin.Range.rangeSize lo hi 1:=by rw[rangeSize_one];split<;>omega
  rw[e1,e2];exact uF _ rfl
 .have e:b=(s.heap.push {cls:=.type "range",data:=.fields #[.int lo t,.int hi u,.int 1 v]}).objs.size:=by simpa using hb
  subst e;exact z.fpOk (zB _) (z.hok.fresh (zB _))
def Ago(ta:TA):TI:=λY H R=>ta Y H λvs H1=>∃j:Int,vs=[.int j]/\-(2^62)<=j/\j<2^62/\R (Itr 0 j.toNat) H1
def Fn{a:Expr}{ta:TA}{p:Pos}(hg:Gl X "range")(hm:X.mg "range"= none)(ha:PA X [a] ta)(hs:starEach [a] X.env=[(false,eval a X.env)]:=by rfl):PI X tg (.Call (.Name "range" p) [a] [] pos) (Ago ta):=by
 intro pins s Y H R I h;refine Call_ (Il I hg hm boot_range (PyProof.Rows.callWith_type1 (thn (ha _ _ s Y H _ I h) λus _ ⟨vs,H1,I1,r1,z⟩=>?_) hs rfl));obtain⟨j,e,z,q2,q⟩:=z;subst e;cases r1 with
 |cons r rr=>
  cases rr
  obtain⟨t,rfl⟩:=r;exact call_range_1 (Acs I1 (by omega) (by omega) z q2 (by simpa using q))
def Ahb(wi:TI)(g:TG)(tb:TS):TS:=λD Y H=>wi Y H λJ H1=>∃W:Nat->Nat->St->Hp->Prop,(∃m,W 0 m Y H1)/\∀i m Y H,W i m Y H ->
 (J.stop i H/\D.nx Y H)\/(J.go i H/\∃N:St->Hp->Prop,(∀σ' H',N σ' H'->∃m',m'<m/\W (i+1) m' σ' H')/\∀x H',J.yld i H x H'->g x Y H' λσ2 H2=>tb {D with nx:=N,ct:=N,bk:=D.nx} σ2 H2)
def Ij(fp:List Addr)(h:Heap):List (Addr×Obj):=fp.filterMap λb=>(h.get? b).map λo=>(b,o)
def Kb{fp:List Addr}{b:Addr}{o:Obj}(z:b∈fp)(e:h.get? b=o):(b,o)∈Ij fp h:=List.mem_filterMap.mpr ⟨b,z,by rw[e];rfl⟩
def Sh{fp:List Addr}{p:Addr×Obj}(hp:p∈Ij fp h):p.1∈fp/\h.get? p.1=p.2:=by
 obtain⟨b,z,e⟩:=List.mem_filterMap.mp hp;cases q:h.get? b with
 |none=>rw[q]at e;cases e
 |some o=>
  rw[q]at e;have e':=uH e;subst e';exact⟨z,q⟩
def Inv.pinned{s:Shared}{fp:List Addr}(I:Inv X pins Y H s)(hf:∀b∈fp,Kw X pins H b)(ho:∀b∈fp,∃o,s.heap.get? b=some o/\∀v,o.data≠.cell v):Inv X (pins++Ij fp s.heap) Y H s:=
 I.pins_of λp hp=>(vY.mp hp).elim (λz=>I.pin p (vS _ z)) λz=>by
  obtain⟨hb,e⟩:=Sh z;obtain⟨f0,f1,f2,_⟩:=hf _ hb;obtain⟨o,e',d⟩:=ho _ hb;rw[e]at e';cases e';exact⟨e,f0,f1,f2,d⟩
def Inv.unpinned{pl:List (Addr×Obj)}{s:Shared}(I:Inv X (pins++pl) Y H s):Inv X pins Y H s:=I.pins_of λp hp=>I.pin p (vS _ (zY _ hp))
def Fj{iter:Expr}{a4:List Stmt}{wi:TI}{g:TG}{tb:TS}(hp:PassesOwn (model X.prog X.w) X.A X.env X.xe)(hc:X.calm=true)(hi:PI X tg iter wi)(hg:PG X tg g)(hb:PSs X a4 tb)
  (hs:∀x,foldedSetIterable iter X.env x=pure x:=by intro _;rfl):PS X (.For tg iter a4 [] pos) (Ahb wi g tb):=by
 intro pins s Y H D I h;refine wpAny_For (thn (hi _ s Y H _ I h) λv _ h1=>thn h1 λb4 _ h2=>?_) hs;obtain⟨it,fp,tn,J,H2,e,I2,T,b3,f2,W,⟨m0,w0⟩,a8⟩:=h2;subst e;have a3:∀{H':Hp},(∀b∈fp,H' b=none)->∀b∈fp,Kw X _ _ b:=λhn b hb=>⟨hn b hb,(f2 b hb).2⟩
 refine codeAny_forLoop_any (λn s'=>∃i a1 H',Inv X _ a1 H' s'/\tn i s'.heap/\(∀b∈fp,H' b=none)/\W i n a1 H') ?_ m0 ⟨0,Y,H2,I2,b3,λb hb=>(f2 b hb).1,w0⟩;rintro n s3 ⟨i,a2,H3,I3,a6,a7,w3⟩;rcases a8 i n _ _ w3 with⟨stop,qn⟩|⟨go,N,hN,step⟩
 .refine wpAny_passesOwn hp (thn (T.done X rfl rfl rfl hc i _ _ _ _ _ I3 (a3 a7) a6 stop) λr _ ⟨hr,I4⟩=>?_)
  subst hr;exact wpAny_execs_nil ⟨a2,H3,I4,qn⟩
 .refine wpAny_passesOwn hp (thn (T.item X rfl rfl rfl hc i _ _ _ _ _ I3 (a3 a7) a6 go) λr _ ⟨u,hr,h4⟩=>?_)
  subst hr;refine wpAny_passesOwn hp (thn h4 λ_ s5 ⟨x,H5,I5,r5,y5,a5,b1⟩=>?_);refine wpAny_passesOwn hp (thn (hg _ _ _ _ x u _ (I5.pinned (a3 b1) (T.obj _ _ a5)) r5 (step x _ y5)) λ_ s6 ⟨b2,H6,I6,q6⟩=>?_);refine wpAny_passesOwn hp (thn (hb _ _ _ _ _ I6 q6) λf s7 q7=>?_)
  have again:∀{z:St}{H7:Hp},Inv X _ z _ _->N z _->∃m,m<n/\∃i a1 H',Inv X pins a1 H' _/\tn i s7.heap/\(∀b∈fp,H' b=none)/\W i m a1 H':=λ{z H7}I7 n7=>by
   obtain⟨m',hm,w7⟩:=hN z _ n7;refine⟨m',hm,i+1,z,H7,I7.unpinned,T.keep _ _ _ a5 λb hb o e=>(I7.pin _ (vS _ (vS _ (Kb hb e)))).1,λb hb=>?_,w7⟩;obtain⟨o,e,d⟩:=T.obj _ _ a5 b hb;exact(I7.pin _ (vS _ (vS _ (Kb hb e)))).2.1
  cases f with
  |next=>obtain⟨z,H7,I7,n7⟩:=q7;exact again I7 n7
  |cont=>obtain⟨z,H7,I7,n7⟩:=q7;exact again I7 n7
  |brk=>obtain⟨z,H7,I7,q7⟩:=q7;exact⟨z,H7,I7.unpinned,q7⟩
  |ret v=>obtain⟨x7,z,H7,I7,r7,q7⟩:=q7;exact⟨x7,z,H7,I7.unpinned,r7,q7⟩
end
def F9{g:TG}{tb:TS}{D:Ii}(z:Nat->St->Hp->Prop)(h0:z 0 Y H)(hl:∀i Y H,i<=xs.length->z i Y H->SqL K H a xs)
  (hs:∀i x Y H,xs[i]?=some x->z i Y H->g x Y H λa1 H2=>tb {D with nx:=z (i+1),ct:=z (i+1),bk:=D.nx} a1 H2) (hd:∀Y H,z xs.length Y H->D.nx Y H) :
  ∃W:Nat->Nat->St->Hp->Prop,(∃m,W 0 m Y H)/\∀i m Y H,W i m Y H ->
   ((Itl K a).stop i H/\D.nx Y H)\/((Itl K a).go i H/\∃N:St->Hp->Prop,(∀a2 H',N a2 H'->∃m',m'<m/\W (i+1) m' a2 H')/\∀x H',(Itl K a).yld i H x H'->g x Y H' λa1 H2=>tb {D with nx:=N,ct:=N,bk:=D.nx} a1 H2):=by
 refine⟨λi m Y H=>m=xs.length-i/\i<=xs.length/\z i Y H,⟨xs.length,by simp,zZ _,h0⟩,?_⟩;rintro i m Y H ⟨rfl,hi,p⟩;have q:=hl i Y H hi p
 by_cases a3:i<xs.length
 .refine .inr ⟨⟨xs,xs[i],q,by simp⟩,z _,λa2 _ p'=>⟨xs.length-(i+1),by omega,rfl,a3,p'⟩,λx _ y=>?_⟩
  obtain⟨e,y⟩:=y;subst e;exact hs i x Y _ (y _ q) p
 .have e:i=xs.length:=by omega
  subst e;exact .inl ⟨⟨xs,q,zB _⟩,hd Y H p⟩
def Ae0{g:TG}{tb:TS}{D:Ii}(z:Nat->St->Hp->Prop)(h0:z 0 Y H)(hl:∀i Y H,i<=xs.length->z i Y H->SqT K H a xs)
  (hs:∀i x Y H,xs[i]?=some x->z i Y H->g x Y H λa1 H2=>tb {D with nx:=z (i+1),ct:=z (i+1),bk:=D.nx} a1 H2) (hd:∀Y H,z xs.length Y H->D.nx Y H) :
  ∃W:Nat->Nat->St->Hp->Prop,(∃m,W 0 m Y H)/\∀i m Y H,W i m Y H ->
   ((Itt K a).stop i H/\D.nx Y H)\/((Itt K a).go i H/\∃N:St->Hp->Prop,(∀a2 H',N a2 H'->∃m',m'<m/\W (i+1) m' a2 H')/\∀x H',(Itt K a).yld i H x H'->g x Y H' λa1 H2=>tb {D with nx:=N,ct:=N,bk:=D.nx} a1 H2):=by
 refine⟨λi m Y H=>m=xs.length-i/\i<=xs.length/\z i Y H,⟨xs.length,by simp,zZ _,h0⟩,?_⟩;rintro i m Y H ⟨rfl,hi,p⟩;have q:=hl i Y H hi p
 by_cases a3:i<xs.length
 .refine .inr ⟨⟨xs,xs[i],q,by simp⟩,z _,λa2 _ p'=>⟨xs.length-(i+1),by omega,rfl,a3,p'⟩,λx _ y=>?_⟩
  obtain⟨e,y⟩:=y;subst e;exact hs i x Y _ (y _ q) p
 .have e:i=xs.length:=by omega
  subst e;exact .inl ⟨⟨xs,q,zB _⟩,hd Y H p⟩
def AbH{lo:Int}{g:TG}{tb:TS}{D:Ii}(z:Nat->St->Hp->Prop)(h0:z 0 Y H)
  (hs:∀i Y H,i<n->z i Y H->g (.int (lo+i)) Y H λa1 H2=>tb {D with nx:=z (i+1),ct:=z (i+1),bk:=D.nx} a1 H2) (hd:∀Y H,z n Y H->D.nx Y H) :
  ∃W:Nat->Nat->St->Hp->Prop,(∃m,W 0 m Y H)/\∀i m Y H,W i m Y H ->
   ((Itr lo n).stop i H/\D.nx Y H)\/((Itr lo n).go i H/\∃N:St->Hp->Prop,(∀a3 H',N a3 H'->∃m',m'<m/\W (i+1) m' a3 H')/\∀x H',(Itr lo n).yld i H x H'->g x Y H' λa1 H2=>tb {D with nx:=N,ct:=N,bk:=D.nx} a1 H2):=by
 refine⟨λi m Y H=>m=n-i/\i<=n/\z i Y H,⟨n,by simp,zZ _,h0⟩,?_⟩;rintro i m Y H ⟨rfl,hi,p⟩
 by_cases a2:i<n
 .refine .inr ⟨a2,z _,λa3 _ p'=>⟨n-(i+1),by omega,rfl,a2,p'⟩,λx _ y=>?_⟩
  obtain⟨e,y⟩:=y;subst e y;exact hs i Y _ a2 p
 .have e:i=n:=by omega
  subst e;exact .inl ⟨zB _,hd Y H p⟩
def Ph{c:TT}{tb:TS}{D:Ii}(Pv:St->Hp->Prop)(μ:St->Hp->Nat)(h0:Pv Y H)
  (hs:∀Y H,Pv Y H->c Y H λb H1=>if b then tb {D with nx:=λz H'=>Pv z H'/\μ z H'<μ Y H,ct:=λz H'=>Pv z H'/\μ z H'<μ Y H,bk:=D.nx} Y H1 else D.nx Y H1)
  (mono:∀Y H Q Q',(∀b H1,Q b H1->Q' b H1)->c Y H Q->c Y H Q'):AcD c tb D Y H:=by
 refine⟨λm Y H=>m=μ Y H/\Pv Y H,⟨_,Z,h0⟩,?_⟩;rintro m Y H ⟨rfl,p⟩;refine mono Y H _ _ (λb _ q=>?_) (hs Y H p);cases b with
 |true=>exact⟨_,λz _ ⟨p',l⟩=>⟨_,l,rfl,p'⟩,q⟩
 |false=>exact q
abbrev R2:=V->V->Hp->VK->Prop
def OpR(X:Cx)(f:Value->Value->Sem Value)(r:R2):Prop:=
 ∀(pins:List (Addr×Obj))(s:Shared)(Y:St)(H:Hp)(x y:V)(v u:Value)(Q:VK),Inv X pins Y H s->A2 x v->A2 y u->r x y H Q ->
  wpAny (model X.prog X.w) X.A (f v u) (EP X pins Y Q) X.xe s
def UnR(X:Cx)(f:Value->Sem Value)(r:V->Hp->VK->Prop):Prop:=
 ∀(pins:List (Addr×Obj))(s:Shared)(Y:St)(H:Hp)(x:V)(v:Value)(Q:VK),Inv X pins Y H s->A2 x v->r x H Q ->
  wpAny (model X.prog X.w) X.A (f v) (EP X pins Y Q) X.xe s
def Gm(X:Cx)(f:Value)(r:List V->Hp->VK->Prop):Prop:=
 ∀(pins:List (Addr×Obj))(s:Shared)(Y:St)(H:Hp)(xs:List V)(us:List Value)(Q:VK),Inv X pins Y H s->A0 xs us->r xs H Q ->
  wpAny (model X.prog X.w) X.A (call f us) (EP X pins Y Q) X.xe s
def AiN(X:Cx)(r:V->Hp->(Bool->Hp->Prop)->Prop):Prop:=
 ∀(pins:List (Addr×Obj))(s:Shared)(Y:St)(H:Hp)(x:V)(v:Value)(Q:Bool->Hp->Prop),Inv X pins Y H s->A2 x v->r x H Q ->
  wpAny (model X.prog X.w) X.A (truthy v) (TP X pins Y Q) X.xe s
def tOp(r:R2)(ta tb:TE):TE:=λY H Q=>ta Y H λx H1=>tb Y H1 λy H2=>r x y H2 Q
def tUn(r:V->Hp->VK->Prop)(ta:TE):TE:=λY H Q=>ta Y H λx H1=>r x H1 Q
inductive Afb(C:Int->Int->Prop)(g:Int->Int->V)(x y:V)(H:Hp)(Q:VK):Prop
 |mk(i)(j)(_:x=.int i)(_:y=.int j)(_:C i j)(_:Q (g i j) H)
def rI(C:Int->Int->Prop)(g:Int->Int->V):R2:=λx y H Q=>Afb C g x y H Q
inductive Adf(g:Int->Int->V)(x y:V)(H:Hp)(Q:VK):Prop
 |mk(i)(j)(_:x=.int i)(_:y=.int j)(_:Q (g i j) H)
def rI0(g:Int->Int->V):R2:=λx y H Q=>Adf g x y H Q
def rU(g:Int->V):V->Hp->VK->Prop:=λx H Q=>∃i,x=.int i/\Q (g i) H
section
variable{a b c:Expr}{tc:TE}
def Ach(ha:PE X a ta)(hb:PE X b tb){s:Shared}{R:V->V->Hp->Prop}(I:Inv X pins Y H s)
  (h:ta Y H λx H1=>tb Y H1 λy H2=>R x y H2) {Q:Value->Shared->Prop} {f:Value->Value->Sem Value}
  (hf:∀v u s2 x y H2,Inv X pins Y H2 s2->A2 x v->A2 y u->R x y H2->wpAny (model X.prog X.w) X.A (f v u) Q X.xe s2) :
  wpAny (model X.prog X.w) X.A (eval a X.env) (λv z=>wpAny (model X.prog X.w) X.A (eval b X.env) (λu a1=>wpAny (model X.prog X.w) X.A (f v u) Q X.xe a1) X.xe z) X.xe s:=by
 refine thn (ha _ s Y H _ I h) λv s1 ⟨x,H1,I1,r1,q1⟩=>?_
 exact thn (hb _ _ Y _ _ I1 q1) λu s2 ⟨y,H2,I2,r2,q2⟩=>hf v u _ x y _ I2 r1 r2 q2
def Au{op:Operator}{r:R2}(ho:OpR X (binaryOp op) r)(ha:PE X a ta)(z:PE X b tb):PE X (.BinOp a op b pos) (tOp r ta tb):=by
 intro pins s Y H Q I h;exact wpAny_BinOp (Ach ha z I h λv u s2 x y H2 I2 rx ry q=>ho _ _ Y _ x y v u Q I2 rx ry q)
def Os{op:UnaryOp}{r:V->Hp->VK->Prop}(ho:UnR X (unaryOp op) r)(ha:PE X a ta):PE X (.UnaryOp op a pos) (tUn r ta):=by
 intro pins s Y H Q I h;exact UnaryOp_ (thn (ha _ s Y H _ I h) λv s1 ⟨x,H1,z,r1,q1⟩=>ho _ _ Y _ x v Q z r1 q1)
def opI{f:Value->Value->Sem Value}{C:Int->Int->Prop}{g:Int->Int->Int}
  (z:∀(i j:Int)(t u:Tok)(s:Shared)(Q:Value->Shared->Prop)(E:Value->Shared->Prop),C i j->Q (.int (g i j) s.toks) {s with toks:=s.toks+1}->wpAny (model X.prog X.w) X.A (f (.int i t) (.int j u)) Q E s) :
  OpR X f (rI C λi j=>.int (g i j)):=by
 intro pins s Y H x y v u Q I rx ry h;obtain⟨i,j,rfl,rfl,hc,q⟩:=h;obtain⟨t,rfl⟩:=rx;obtain⟨t',rfl⟩:=ry;exact z i j t _ s _ _ hc ⟨.int _,H,I.tok _,⟨_,Z⟩,q⟩
def AfB{f:Value->Value->Sem Value}{g:Int->Int->Int}
  (z:∀(i j:Int)(t u:Tok)(s:Shared)(Q:Value->Shared->Prop)(E:Value->Shared->Prop),Q (.int (g i j) s.toks) {s with toks:=s.toks+1}->wpAny (model X.prog X.w) X.A (f (.int i t) (.int j u)) Q E s) :
  OpR X f (rI0 λi j=>.int (g i j)):=by
 intro pins s Y H x y v u Q I rx ry h;obtain⟨i,j,rfl,rfl,q⟩:=h;obtain⟨t,rfl⟩:=rx;obtain⟨t',rfl⟩:=ry;exact z i j t _ s _ _ ⟨.int _,H,I.tok _,⟨_,Z⟩,q⟩
def Z7{f:Value->Value->Sem Value}{g:Int->Int->Bool}
  (z:∀(i j:Int)(t u:Tok)(s:Shared)(Q:Value->Shared->Prop)(E:Value->Shared->Prop),Q (.bool (g i j)) s->wpAny (model X.prog X.w) X.A (f (.int i t) (.int j u)) Q E s) :
  OpR X f (rI0 λi j=>.bl (g i j)):=by
 intro pins s Y H x y v u Q I rx ry h;obtain⟨i,j,rfl,rfl,q⟩:=h;obtain⟨t,rfl⟩:=rx;obtain⟨t',rfl⟩:=ry;exact z i j t _ s _ _ ⟨.bl _,H,I,Z,q⟩
def Xb(i j:Int):Prop:=0<j/\j<1073741824
def AdB(i j:Int):Prop:=0<=j/\j<=1000000/\i.natAbs<2^64
def AdD(i j:Int):Prop:=(-(2^64)<i/\i<2^64)\/(-(2^64)<j/\j<2^64)
def AdD.ok{i j:Int}(h:AdD i j):IntMulOk i j:=by
 rcases h with⟨h1,h2⟩|⟨h1,h2⟩
 .exact .of_left (intBits_le_64 h1 h2)
 .exact .of_right (intBits_le_64 h1 h2)
def Ju:OpR X (binaryOp .Add) (rI0 λi j=>.int (i+j)):=AfB λ_ _ _ _ _ _ _ q=>add_int q
def W8:OpR X (binaryOp .Sub) (rI0 λi j=>.int (i-j)):=AfB λ_ _ _ _ _ _ _ q=>sub_int q
def Aa5:OpR X (binaryOp .Mult) (rI AdD λi j=>.int (i*j)):=opI λ_ _ _ _ _ _ _ hc q=>mul_int q hc.ok
def Df:OpR X (binaryOp .FloorDiv) (rI Xb λi j=>.int (i/j)):=opI λi j _ _ _ _ _ hc q=>by
 have h1:=hc.1;have h2:=hc.2;exact floordiv_int (by omega) (by rw[Int.fdiv_eq_ediv_of_nonneg i (by omega)];exact q) (.inl (PyProof.noPylong_small (by omega)))
def Cy:OpR X (binaryOp .Mod) (rI (λ_ j=>0<j) λi j=>.int (i%j)):=opI λi j _ _ _ _ _ _ q=>by
 exact mod_int' (by omega) (by rw[Int.fmod_eq_emod_of_nonneg i (by omega)];exact q)
def AbQ:OpR X (binaryOp .LShift) (rI AdB λi j=>.int (i*2^j.toNat)):=opI λ_ _ _ _ _ _ _ hc q=>lshift_int_small hc.1 hc.2.1 hc.2.2 q
def unI{f:Value->Sem Value}{g:Int->Int}
  (z:∀(i:Int)(t:Tok)(s:Shared)(Q:Value->Shared->Prop)(E:Value->Shared->Prop),Q (.int (g i) s.toks) {s with toks:=s.toks+1}->wpAny (model X.prog X.w) X.A (f (.int i t)) Q E s) :
  UnR X f (rU λi=>.int (g i)):=by
 intro pins s Y H x v Q I rx h;obtain⟨i,rfl,q⟩:=h;obtain⟨t,rfl⟩:=rx;exact z i t s _ _ ⟨.int _,H,I.tok _,⟨_,Z⟩,q⟩
def Lz:UnR X (unaryOp .USub) (rU λi=>.int (-i)):=unI λ_ _ _ _ _ q=>neg_int q
end
def Acm:V->V->Bool
 |.non,.non=>true|.non,.int _=>true|.int _,.non=>true|.non,.bl _=>true|.bl _,.non=>true|.non,.str _=>true|.str _,.non=>true
 |.int _,.int _=>true|.bl _,.bl _=>true|.str _,.str _=>true|.byt _,.byt _=>true
 |.int _,.str _=>true|.str _,.int _=>true|.bl _,.str _=>true|.str _,.bl _=>true
 |_,_=>false
def rEq:R2:=λx y H Q=>Acm x y=true/\Q (.bl (decide (x=y))) H
def rNe:R2:=λx y H Q=>Acm x y=true/\Q (.bl (!decide (x=y))) H
def Ym{i j:Int}:decide (V.int i=V.int j)=(i==j):=by
 rw[Bool.eq_iff_iff];simp
def Aaj{i j:Bool}:decide (V.bl i=V.bl j)=(i==j):=by
 rw[Bool.eq_iff_iff];simp
def Zf{i j:Str}:decide (V.str i=V.str j)=(i==j):=by
 rw[Bool.eq_iff_iff];simp
def Y9{i j:Array UInt8}:decide (V.byt i=V.byt j)=(i.toList==j.toList):=by
 rw[Bool.eq_iff_iff];simp
section
variable{a b c:Expr}{tc:TE}
def Bp{s:Shared}{k z:Bool}(I:Inv X pins Y H s)(q:Q (.bl k) H)(e:k=z):EP X pins Y Q (.bool z) s:=by
 subst e;exact⟨.bl k,H,I,Z,q⟩
def T7:OpR X (compareOp .Eq) rEq:=by
 intro pins s Y H x y v u Q I rx z h;obtain⟨hs,q⟩:=h;cases x with
 |non=>
  cases rx
  cases y with
  |non=>cases z;exact PySem.EqNone.eq_none_none (Bp I q (by simp))
  |bl j=>cases z;exact PySem.EqNone.eq_none_bool (Bp I q (by simp))
  |int j=>obtain⟨t',rfl⟩:=z;exact PySem.EqNone.eq_none_int (Bp I q (by simp))
  |str j=>obtain⟨t',rfl⟩:=z;exact PySem.EqNone.eq_none_str (Bp I q (by simp))
  |_=>exact absurd (show false from hs) qc
 |bl i=>
  cases rx
  cases y with
  |non=>cases z;exact PySem.EqNone.eq_bool_none (Bp I q (by simp))
  |bl j=>cases z;exact eq_bool (Bp I q Aaj)
  |str j=>obtain⟨t',rfl⟩:=z;exact PySem.EqMixed.eq_bool_str (Bp I q (by simp))
  |_=>exact absurd (show false from hs) qc
 |int i=>
  obtain⟨t,rfl⟩:=rx;cases y with
  |non=>cases z;exact PySem.EqNone.eq_int_none (Bp I q (by simp))
  |int j=>obtain⟨t',rfl⟩:=z;exact eq_int (Bp I q Ym)
  |str j=>obtain⟨t',rfl⟩:=z;exact PySem.EqMixed.eq_int_str (Bp I q (by simp))
  |_=>exact absurd (show false from hs) qc
 |str i=>
  obtain⟨t,rfl⟩:=rx;cases y with
  |non=>cases z;exact PySem.EqNone.eq_str_none (Bp I q (by simp))
  |bl j=>cases z;exact PySem.EqMixed.eq_str_bool (Bp I q (by simp))
  |int j=>obtain⟨t',rfl⟩:=z;exact PySem.EqMixed.eq_str_int (Bp I q (by simp))
  |str j=>obtain⟨t',rfl⟩:=z;exact eq_str (Bp I q Zf)
  |_=>exact absurd (show false from hs) qc
 |byt i=>
  obtain⟨t,rfl⟩:=rx;cases y with
  |byt j=>obtain⟨t',rfl⟩:=z;exact PySem.W.eq_bytes (Bp I q Y9)
  |_=>exact absurd (show false from hs) qc
 |_=>cases y<;>exact absurd (show false from hs) qc
def Agn:OpR X (compareOp .NotEq) rNe:=by
 intro pins s Y H x y v u Q I rx z h;obtain⟨hs,q⟩:=h;cases x with
 |non=>
  cases rx
  cases y with
  |non=>cases z;exact PySem.EqNone.ne_none_none (Bp I q (by simp))
  |bl j=>cases z;exact PySem.EqNone.ne_none_bool (Bp I q (by simp))
  |int j=>obtain⟨t',rfl⟩:=z;exact PySem.EqNone.ne_none_int (Bp I q (by simp))
  |str j=>obtain⟨t',rfl⟩:=z;exact PySem.EqNone.ne_none_str (Bp I q (by simp))
  |_=>exact absurd (show false from hs) qc
 |bl i=>
  cases rx
  cases y with
  |non=>cases z;exact PySem.EqNone.ne_bool_none (Bp I q (by simp))
  |bl j=>cases z;exact ne_bool (Bp I q (congrArg not Aaj))
  |str j=>obtain⟨t',rfl⟩:=z;exact PySem.EqMixed.ne_bool_str (Bp I q (by simp))
  |_=>exact absurd (show false from hs) qc
 |int i=>
  obtain⟨t,rfl⟩:=rx;cases y with
  |non=>cases z;exact PySem.EqNone.ne_int_none (Bp I q (by simp))
  |int j=>obtain⟨t',rfl⟩:=z;exact ne_int (Bp I q (congrArg not Ym))
  |str j=>obtain⟨t',rfl⟩:=z;exact PySem.EqMixed.ne_int_str (Bp I q (by simp))
  |_=>exact absurd (show false from hs) qc
 |str i=>
  obtain⟨t,rfl⟩:=rx;cases y with
  |non=>cases z;exact PySem.EqNone.ne_str_none (Bp I q (by simp))
  |bl j=>cases z;exact PySem.EqMixed.ne_str_bool (Bp I q (by simp))
  |int j=>obtain⟨t',rfl⟩:=z;exact PySem.EqMixed.ne_str_int (Bp I q (by simp))
  |str j=>obtain⟨t',rfl⟩:=z;exact ne_str (Bp I q (congrArg not Zf))
  |_=>exact absurd (show false from hs) qc
 |byt i=>
  obtain⟨t,rfl⟩:=rx;cases y with
  |byt j=>obtain⟨t',rfl⟩:=z;exact PySem.W.ne_bytes (Bp I q (congrArg not Y9))
  |_=>exact absurd (show false from hs) qc
 |_=>cases y<;>exact absurd (show false from hs) qc
def Q3:OpR X (compareOp .Lt) (rI0 λi j=>.bl (decide (i<j))):=Z7 λ_ _ _ _ _ _ _ q=>lt_int q
def AhG:OpR X (compareOp .LtE) (rI0 λi j=>.bl (decide (i<=j))):=Z7 λ_ _ _ _ _ _ _ q=>le_int q
def Adg:OpR X (compareOp .Gt) (rI0 λi j=>.bl (decide (j<i))):=Z7 λ_ _ _ _ _ _ _ q=>gt_int q
def Agu:OpR X (compareOp .GtE) (rI0 λi j=>.bl (decide (j<=i))):=Z7 λ_ _ _ _ _ _ _ q=>ge_int q
def Ln:OpR X (compareOp .Is) (λx y H Q=>y=.non/\Q (.bl (decide (x=.non))) H):=by
 intro pins s Y H x y v u Q I z ry h;obtain⟨rfl,q⟩:=h;cases ry
 refine is_none_gen (Bp I q ?_)
 cases x<;>first
  | (cases z;rfl)
  | (obtain⟨t,rfl⟩:=z;rfl)
def R0:OpR X (compareOp .IsNot) (λx y H Q=>y=.non/\Q (.bl (!decide (x=.non))) H):=by
 intro pins s Y H x y v u Q I z ry h;obtain⟨rfl,q⟩:=h;cases ry
 refine isnot_none_gen (Bp I q ?_)
 cases x<;>first
  | (cases z;rfl)
  | (obtain⟨t,rfl⟩:=z;rfl)
def OpR.or{f:Value->Value->Sem Value}{r r':R2}(h:OpR X f r)(h':OpR X f r'):OpR X f (λx y H Q=>r x y H Q\/r' x y H Q):=by
 intro pins s Y H x y v u Q I z ry q;rcases q with q|q
 .exact h _ s Y H x y v u Q I z ry q
 .exact h' _ s Y H x y v u Q I z ry q
def B4(b:Expr){op:CmpOp}(h:op≠.In:=by decide)(h2:op≠.NotIn:=by decide):behindInMarks op b=false:=by
 have e1:(op==CmpOp.In)=false:=by cases op<;>first|rfl|exact absurd rfl h
 have e2:(op==CmpOp.NotIn)=false:=by cases op<;>first|rfl|exact absurd rfl h2
 cases b<;>simp[behindInMarks,e1,e2]
def Ew{op:CmpOp}{r:R2}(ho:OpR X (compareOp op) r)(ha:PE X a ta)(z:PE X b tb)(hm:behindInMarks op b=false):PE X (.Compare a [op] [b] pos) (tOp r ta tb):=by
 intro pins s Y H Q I h;exact wpAny_Compare1 (Ach ha z I h λv u s2 x y H2 I2 rx ry q=>ho _ _ Y _ x y v u Q I2 rx ry q) hm
def Ff(t:TE):TT:=λY H Q=>t Y H (isB Q)
def Bg{op:CmpOp}{r:R2}(ho:OpR X (compareOp op) r)(ha:PE X a ta)(hb:PE X b tb)(hm:behindInMarks op b=false):PT X (.Compare a [op] [b] pos) (Ff (tOp r ta tb)):=by
 intro pins s Y H Q I h
 refine wpAny_isTrue_Compare1 (thn (ha _ s Y H _ I h) λv s1 ⟨x,H1,I1,r1,q1⟩=>thn (hb _ _ Y _ _ I1 q1) λu s2 ⟨y,H2,I2,r2,q2⟩=>
  thn (ho _ _ Y _ x y v u _ I2 r1 r2 q2) λc _ ⟨z,H3,I3,r3,q3⟩=>?_) hm
 obtain⟨k,e,q3⟩:=Rx q3;subst e;cases r3
 exact wpAny_truthy_bool ⟨H3,I3,q3⟩
def Z0(K:FA)(x:V)(H:Hp)(k:Bool):Prop:=
 match x with
 |.non=>k=false
 |.bl b=>k=b
 |.int i=>k=(i != 0)
 |.str y=>y.length<=sizeLine/\k=((y.length:Int) != 0)
 |.byt y=>y.size<=sizeLine/\k=((y.size:Int) != 0)
 |.ref p=>(∃xs,SqL K H p xs/\k = !xs.isEmpty)\/(∃xs,SqT K H p xs/\k = !xs.isEmpty)\/∃kvs,H p=some (.dK kvs)/\k = !kvs.isEmpty
 |_=>False
def AaC{κ:Type}{kvs:List (κ×V)}{vs:List (κ×Value)}(r:KV kvs vs):(!vs.isEmpty) = !kvs.isEmpty:=by
 cases r<;>rfl
def Q5{z:List Value}(r:A0 xs z):(!z.toArray.isEmpty) = !xs.isEmpty:=by
 cases r<;>simp
def Lq:(sizeLine:Nat)<2^63:=by decide
def Af3:AiN X (λx H Q=>∃k,Z0 X.K x H k/\Q k H):=by
 intro pins s Y H x v Q I rx h;obtain⟨k,e,q⟩:=h;have hl:=Lq;have hs:=sizeLine_eq;cases x with
 |non=>
  cases rx
  have z:=e;subst z;exact truthy_none ⟨H,I,q⟩
 |bl b=>
  cases rx
  have z:k=b:=e;subst z;exact wpAny_truthy_bool ⟨H,I,q⟩
 |int i=>
  obtain⟨t,rfl⟩:=rx;have z:=e;subst z;exact PySem.P.truthy_int ⟨H,I,q⟩
 |str y=>
  obtain⟨t,rfl⟩:=rx;obtain⟨hy,z⟩:y.length<=sizeLine/\k=((y.length:Int) != 0):=e;subst z;exact PySem.P.truthy_str (by omega) ⟨H,I.tok _,q⟩
 |byt y=>
  obtain⟨t,rfl⟩:=rx;obtain⟨hy,z⟩:y.size<=sizeLine/\k=((y.size:Int) != 0):=e;subst z;exact PySem.W.truthy_bytes (by omega) ⟨H,I.tok _,q⟩
 |ref p=>
  cases rx
  have z:=e;rcases z with⟨xs,hx,z⟩|⟨xs,hx,z⟩|⟨kvs,hx,z⟩
  .subst z
   obtain⟨a2,r,pl,hz⟩:=I.list hx;have a1:=r.length;exact wpAny_truthy_list pl.isList (by simp only[vP];omega) ⟨H,I.tok _,by rw[Q5 r];exact q⟩
  .subst z
   obtain⟨a2,r,pl,hz⟩:=I.tuple hx;have a1:=r.length;exact truthy_tuple pl (by simp only[vP];omega) ⟨H,I.tok _,by rw[Q5 r];exact q⟩
  .subst z
   obtain⟨hz,hS,vs,r,m⟩:kvs.length<=sizeLine/\(p==sysModules)=false/\∃vs,KV kvs vs/\s.heap.DictOf (mixKind X.prog X.w) p vs:=I.hok p _ hx;have a1:=Paired.length r;exact wpAny_truthy_dict hS m (by omega) ⟨H,I.tok _,by rw[AaC r];exact q⟩
 |_=>exact(show False from e).elim
def Ek(ha:PE X a ta)(he:∀z,isTrue a X.env z=(do let v <-z;standAt a.pos;holding [v] (truthy v))) :
  PT X a (λY H Q=>ta Y H λx H'=>∃k,Z0 X.K x H' k/\Q k H'):=by
 intro pins s Y H Q I h;exact isTrue_plain (thn (ha _ s Y H _ I h) λv s1 ⟨x,H1,I1,r1,q1⟩=>Af3 _ _ Y _ x v Q I1 r1 q1) (he _)
def Q6{x:V}(r:A0 [x] us):∃u,us=[u]/\A2 x u:=by
 cases r with
 |cons r1 r2=>cases r2;exact⟨_,rfl,r1⟩
def Agj{x y:V}(r:A0 [x,y] us):∃u z,us=[u,z]/\A2 x u/\A2 y z:=by
 cases r with
 |cons r1 r2=>
  cases r2 with
  |cons r3 r4=>cases r4;exact⟨_,_,rfl,r1,r3⟩
def Na(hc:X.calm):Gm X (.builtin "max") (λxs H Q=>∃i j,xs=[.int i,.int j]/\Q (.int (if j>i then j else i)) H):=by
 intro pins s Y H _ _ Q I r h;obtain⟨i,j,rfl,q⟩:=h;obtain⟨u,w',rfl,⟨t,rfl⟩,⟨t',rfl⟩⟩:=Agj r;refine max_two_ints (I.ok.hd hc) λh' _ k=>⟨_,H,I.kept k,?_,q⟩
 by_cases z:j>i
 .rw[if_pos z,if_pos z];exact⟨_,Z⟩
 .rw[if_neg z,if_neg z];exact⟨_,Z⟩
def Ab8:Gm X (.type "int") (λxs H Q=>(∃i,xs=[.int i]/\Q (.int i) H)\/∃k,xs=[.bl k]/\Q (.int (if k then 1 else 0)) H):=by
 intro pins s Y H _ _ Q I r h;rcases h with⟨i,rfl,q⟩|⟨k,rfl,q⟩
 .obtain⟨u,rfl,t,rfl⟩:=Q6 r
  exact call_int_int ⟨.int i,H,I,⟨_,Z⟩,q⟩
 .obtain⟨u,rfl,r1⟩:=Q6 r
  cases r1
  exact call_int_bool ⟨.int _,H,I.tok _,⟨_,Z⟩,q⟩
end
structure Pg(h:Heap)(x dx C:Addr)(mA:Str->Option Value):Prop where
 obj:h.get? x=some (instObj C dx)
 ns:h.Ns1 dx mA
 ne:dx≠x
def Abv{dx:Addr}{mA:Str->Option Value}(n:h.Ns1 dx mA):∃od,h.get? dx=some od/\∀name,lookIn name od=some (mA name):=by
 obtain⟨o,es,ep,ho,hd,hk,_,hm⟩:=n;refine⟨o,ho,λname=>?_⟩;have e:=hm name;unfold nsFind findBy at e;rw[<-Array.find?_toList]at e;unfold lookIn;rw[hd];dsimp only;split
 .rename_i y q
  rw[q]at e;exact congrArg _ e
 .rename_i q
  rw[q]at e
  have a:es.toList.any (·.refKey)=false:=by
   rw[List.any_eq_false];intro y hy;obtain⟨z,t,a1⟩:=hk y (Array.mem_toList_iff.mp hy);simp[DictEntry.refKey,a1]
  have a':¬es.toList.any (·.refKey):=by rw[a];exact qc
  rw[if_neg a'];exact congrArg _ e
def Pg.look{x dx:Addr}{mA:Str->Option Value}(I:Pg h x dx C mA):∃od,PySem.W.InstAt h x (instObj C dx) C (some od)/\∀name,lookIn name od=some (mA name):=
 let ⟨od,ho,hl⟩:=Abv I.ns
 ⟨od,⟨I.obj,Z,Z,ho⟩,hl⟩
section
variable{s:Shared}{x dx:Addr}{mA:Str->Option Value}{name:Str}{v:Value}
def AeQ{z:Bool}{Q:Value->Shared->Prop}(X:K.In s.heap)(I:Pg s.heap x dx C mA)(hg:plainGet K C name=true)(hh:hasDictIn K C=true)
  (ha:findIn K (.ref C) name=some none) (hv:mA name=v) (a1:handedIn v) (h:Q v {s with toks:=s.toks+1}) :
  wpAny (model prog w) A (getAttr (.ref x) name z) Q E s:=by
 obtain⟨od,J,hl⟩:=I.look;exact PySem.W.get_value X J (plainGet_of hg).1 (PySem.W.findObj_own hh ha rfl (by rw[hl,hv])) a1 h
def AcQ{pl:Sem Bool}{Q:Value×List Value->Shared->Prop}(X:K.In s.heap)(I:Pg s.heap x dx C mA)(hg:plainGet K C name=true)
  (z:findIn K (.ref C) name=some (some (.ref f))) (ht:isFn K (.ref f)=true) (hv:mA name=none) (h:Q (.ref f,[.ref x]) s) :
  wpAny (model prog w) A (getMethod (.ref x) name pl) Q E s:=by
 obtain⟨od,J,hl⟩:=I.look;exact PySem.W.method_fn X J (plainGet_of hg).1 (plainGet_of hg).2 z (beq_iff_eq.mp ht) (by show(lookIn _ _).map (·.isSome)=false;rw[hl,hv];rfl) h
def Ad0{ns:List Str}{Q:Unit->Shared->Prop}(X:K.In s.heap)(I:Pg s.heap x dx C mA)
  (hs:findIn K (.ref C) "__setattr__"= some (some (.builtin "object.__setattr__"))) (hp:plainOver K C) (ht:takerIn K C name=some none) (hh:hasDictIn K C)
  (hw:PySem.Within mA ns) (hsz:ns.length<=sizeLine)
  (h:∀h',Pg h' x dx C (λy=>if y=name then some v else mA y)->Heap.SameBut dx s.heap h'->Q () {s with heap:=h',toks:=s.toks+2}) :
  wpAny (model prog w) A (setAttr (.ref x) name v) Q E s:=by
 obtain⟨od,J,hl⟩:=I.look;refine PySem.W.set_plain X J hs (PySem.W.osa_open X J hp ht λb=>?_);obtain⟨cd,hc,a2⟩:=PySem.W.any_some hh;refine vB (vC (vB (vB (wpAny_loadPart I.obj (vB (Looks.here (PySem.W.looks_clsIn X hc) ?_))))));rw[a2];refine vC (vB (vC (vB ?_)));refine wpAny_nsSet1 I.ns λh' a1 z=>?_
 obtain⟨oD,a6,a7,a5,a4,a3⟩:=a1.count (PySem.Within.cons _ v hw);refine vB (wpAny_lookBehind a5 (by rw[a4];exact pastItsLine_dict (zA a3 (by rw[vX];omega))) ?_);exact vC (h _ ⟨(z.2 _ (Ne.symm I.ne)).trans I.obj,a1,I.ne⟩ z)
def Ac1{R:Result->Shared->Prop}{vs:List Value}{kw:List (Str×Value)}(X:K.In s.heap)(hm:makesIn K C)
  (hi:findIn K (.ref C) "__init__"= some (some (.ref f))) (z:typeIn K (.ref f)=some (.type "function"))
  (h:codeAny (model prog w) (A.under (.builtin "type.__call__" ⟨.ref C::vs,kw⟩)) (.call (.ref f) ⟨.ref (s.heap.objs.size+1)::vs,kw⟩) (PySem.W.InitBack (s.heap.objs.size+1) R)
   {s with heap:=(s.heap.push emptyDict).push (instObj C s.heap.objs.size)}) :
  codeAny (model prog w) A (.call (.ref C) ⟨vs,kw⟩) R s:=by
 exact PySem.W.make_core (PySem.W.makes_of X hm) (PySem.W.looks_findIn X hi) (λself=>PySem.W.bind_fn X _ z) (.inl rfl) h
end
def Dy(f:Str)(v:V):List (Str×V)->List (Str×V)
 |[]=>[(f,v)]
 | (g,x)::r=>if g=f then(g,v)::r else(g,x)::Dy f v r
theorem Oz(f g:Str)(v:V):∀fs:List (Str×V),(Dy f v fs).lookup g=if g=f then some v else fs.lookup g
 |[]=>by
  show List.lookup g [(f,v)]=_
  by_cases h:g=f
  .have z:(g==f):=beq_iff_eq.mpr h
   simp[List.lookup,z,if_pos h]
  .have z:=beq_eq_false_iff_ne.mpr h
   simp[List.lookup,z,if_neg h]
 | (k,x)::r=>by
  rw[show Dy f v _=(if k=f then(k,v)::r else(k,x)::Dy f v r) from rfl]
  by_cases hk:k=f
  .rw[if_pos hk]
   by_cases h:g=k
   .have z:=beq_iff_eq.mpr h
    simp[List.lookup,z,if_pos (h.trans hk)]
   .have z:=beq_eq_false_iff_ne.mpr h
    simp[List.lookup,z,if_neg (λe:g=f=>h (e.trans hk.symm))]
  .rw[if_neg hk]
   by_cases h:g=k
   .have z:=beq_iff_eq.mpr h
    simp[List.lookup,z,if_neg (λe:g=f=>hk (h.symm.trans e))]
   .have z:=beq_eq_false_iff_ne.mpr h
    simp[List.lookup,z];exact (Oz f g v r)
theorem N0(f:Str)(v:V):∀fs:List (Str×V),f∈(Dy f v fs).map (·.1)/\∀g,g∈fs.map (·.1)->g∈(Dy f v fs).map (·.1)
 |[]=>⟨by simp[Dy],λg h=>by simp at h⟩
 | (k,x)::r=>by
  obtain⟨i1,i2⟩:=N0 f v r;rw[show Dy f v _=(if k=f then(k,v)::r else(k,x)::Dy f v r) from rfl]
  by_cases hk:k=f
  .rw[if_pos hk]
   subst hk;simp
  .rw[if_neg hk]
   refine⟨?_,λg h=>?_⟩
   .rw[zT]
    exact vI _ i1
   .rw[zT]at h ⊢
    rcases zM.mp h with e|e
    .exact zM.mpr (.inl e)
    .exact vI _ (i2 g e)
theorem O1(f:Str)(v:V):∀fs:List (Str×V),(Dy f v fs).length<=fs.length+1
 |[]=>by simp[Dy]
 | (k,x)::r=>by
  have z:=O1 f v r;rw[show Dy f v _=(if k=f then(k,v)::r else(k,x)::Dy f v r) from rfl]
  by_cases hk:k=f
  .rw[if_pos hk,vX,vX];omega
  .rw[if_neg hk,vX,vX];omega
def Gy.some_of{v:V}{o:Option Value}(r:Gy (some v) o):∃u,o=some u/\A2 v u:=by
 cases o with
 |none=>exact(r).elim
 |some u=>exact⟨u,rfl,r⟩
def Gy.none_of{o:Option Value}(r:Gy none o):o=none:=by
 cases o with
 |none=>rfl
 |some u=>exact(r).elim
def Aa0{v:V}(r:A2 v u):handedIn u:=by
 cases v with
 |non=>cases (r);rfl
 |bl b=>cases (r);rfl
 |int i=>obtain⟨t,e⟩:=(r);cases e;rfl
 |str x=>obtain⟨t,e⟩:=(r);cases e;rfl
 |byt b=>obtain⟨t,e⟩:=(r);cases e;rfl
 |flt b=>obtain⟨t,e⟩:=(r);cases e;rfl
 |ref a=>cases (r);rfl
 |ty n=>cases (r);rfl
section
variable{dx:Addr}{fs fs':List (Str×V)}
def Oq(hok:HOk P w H h)(e:H a=some (.ins C dx fs)):∃mA,Pg h a dx C mA/\(∀f,Gy (fs.lookup f) (mA f))/\PySem.Within mA (fs.map (·.1))/\fs.length<=1000/\H dx=some (.own a):=by
 obtain⟨d,z,ne,ob,mA,n,r,q⟩:=(hok a _ e);exact⟨mA,⟨ob,n,ne⟩,r,q,z,d⟩
end
structure Cls(K:FA)(C:Addr):Prop where
 pg:plainGet K C Str.empty=true
 hd:hasDictIn K C=true
 po:plainOver K C=true
 sa:findIn K (.ref C) "__setattr__"= some (some (.builtin "object.__setattr__"))
def Cls.get(c:Cls K C)(f:Str):plainGet K C f:=c.pg
def Ed(K:FA)(C:Addr)(f:Str):Prop:=findIn K (.ref C) f=some none
def Ed.taker{f:Str}(n:Ed K C f):takerIn K C f=some none:=by
 unfold takerIn;rw[show findIn K _ f=some _ from n];rfl
structure J3(K:FA)(C:Addr)(m:Str)(f:Addr):Prop where
 at_:findIn K (.ref C) m=some (some (.ref f))
 fn:isFn K (.ref f)=true
 kp:keepIn K (.ref f)=true
section
variable{s:Shared}{dx:Addr}{fs:List (Str×V)}{f:Str}{v:V}
def AaY{b:Bool}{Q:Value->Shared->Prop}(I:Inv X pins Y H s)(e:H a=some (.ins C dx fs))(c:Cls X.K C)(n:Ed X.K C f)(l:fs.lookup f=v)
  (h:∀u s',Inv X pins Y H s'->A2 v u->Q u s'):wpAny (model X.prog X.w) A (getAttr (.ref a) f b) Q E s:=by
 obtain⟨mA,O,r,_,_,_⟩:=Oq I.hok e;obtain⟨u,hu,z⟩:=Gy.some_of (by rw[<-l];exact r f);exact AeQ I.kIn O (c.get f) c.hd n hu (Aa0 z) (h u _ (I.tok _) z)
def Qk{m:Str}{g:Addr}{pl:Sem Bool}{Q:Value×List Value->Shared->Prop}(I:Inv X pins Y H s)(e:H a=some (.ins C dx fs))(c:Cls X.K C)(k:J3 X.K C m g)(l:fs.lookup m=none)
  (h:Q (.ref g,[.ref a]) s):wpAny (model X.prog X.w) A (getMethod (.ref a) m pl) Q E s:=by
 obtain⟨mA,O,r,_,_,_⟩:=Oq I.hok e;exact AcQ I.kIn O (c.get m) k.at_ k.fn (Gy.none_of (by rw[<-l];exact r m)) h
def Z1{y:V}{Q:Unit->Shared->Prop}(I:Inv X pins Y H s)(e:H a=some (.ins C dx fs))(c:Cls X.K C)(n:Ed X.K C f)(hl:fs.length<1000)(ry:A2 y u)
  (h:∀s',Inv X pins Y (upd H a (.ins C dx (Dy f y fs))) s'->Q () s'):wpAny (model X.prog X.w) A (setAttr (.ref a) f u) Q E s:=by
 obtain⟨mA,O,r,wi,_,ho⟩:=Oq I.hok e;have hz:(fs.map (·.1)).length<=sizeLine:=by rw[vE,sizeLine_eq];omega
 refine Ad0 I.kIn O c.sa c.po n.taker c.hd wi hz λh' O' sb=>h _ ?_
 have hd:∃o,h'.get? _=some o:=let ⟨o,_,_,e',_⟩:=O'.ns;⟨o,e'⟩
 refine I.write (by rw[e];exact True.intro) (.inr ho) (λb q hb z=>(sb.2 b hb).trans z) hd ?_;refine⟨by rw[upd_ne O.ne];exact ho,?_,O.ne,O'.obj,_,O'.ns,λg=>?_,λg hg=>?_⟩
 .have:=O1 f y fs;omega
 .show Gy _ _
  rw[Oz]
  by_cases q:g=f
  .rw[if_pos q,if_pos q];exact ry
  .simp_all
 .by_cases q:g=f
  .rw[q];exact(N0 f y _).1
  .refine(N0 f y _).2 g (wi g λz=>hg ?_)
   show(if g=f then some u else mA g)=none
   rw[if_neg q];exact z
def Inv.made(I:Inv X pins Y H s):Inv X pins Y (upd (upd H s.heap.objs.size (.own (s.heap.objs.size+1))) (s.heap.objs.size+1) (.ins C s.heap.objs.size []))
  {s with heap:=(s.heap.push emptyDict).push (instObj C s.heap.objs.size)}:=by
 have e1:(s.heap.push _).get? s.heap.objs.size=emptyDict:=uF _ rfl
 have e2:=by
  have:=uF (s.heap.push emptyDict) (o:=instObj C s.heap.objs.size) rfl
  rwa[uV]at this
 have e3:(s.heap.push _).Ns s.heap.objs.size _:=⟨emptyDict,#[],_,e1,Z,(λe he=>absurd he (by simp)),λ_=>rfl⟩;refine (I.laid (o:=.own _) (t':=s.toks) (λb u q=>uB _ q) (zB _) ⟨_,e1⟩).laid (λb u q=>uB _ q) (le_of_eq (uV _ _)) ?_;have ne:s.heap.objs.size≠s.heap.objs.size+1:=zF (lt_succ_self _);refine⟨by rw[upd_ne ne,qa],zZ _,ne,e2,λ_=>none,(Heap.Ns1.of_empty e3).at λo q=>uB _ q,λ_=>True.intro,λy z=>absurd rfl z⟩
def AeX{env:Env}{f:Str}{s:Shared}{Q:Value->Shared->Prop}(hb:attributeBase e f env (eval e env)=eval e env)
  (h:wpAny (model prog w) A (eval e env) (λo z=>wpAny (model prog w) A (getAttr o f true) Q E z) E s):wpAny (model prog w) A (eval (.Attribute e f pos) env) Q E s:=
 Attribute_any_ h (by rw[arm_eval_Attribute,hb])
end
inductive Ab2(K:FA)(f:Str)(Q:VK):VK
 |mk{a C dx:Addr}{fs:List (Str×V)}{v:V}{H1:Hp}(_:H1 a=some (.ins C dx fs))(_:Cls K C)(_:Ed K C f)(_:fs.lookup f=some v)(_:Q v H1):Ab2 K f Q (.ref a) H1
def AdC(K:FA)(ta:TE)(f:Str):TE:=λY H Q=>ta Y H (Ab2 K f Q)
inductive Aal(K:FA)(f:Str)(y:V)(R:Hp->Prop):VK
 |mk{a C dx:Addr}{fs:List (Str×V)}{H2:Hp}(_:H2 a=some (.ins C dx fs))(_:Cls K C)(_:Ed K C f)(_:fs.length<1000)(_:R (upd H2 a (.ins C dx (Dy f y fs)))):Aal K f y R (.ref a) H2
def Ah8(K:FA)(ta tv:TE)(f:Str):TS:=λD Y H=>tv Y H λy H1=>ta Y H1 (Aal K f y (D.nx Y))
section
variable{o value:Expr}{f:Str}{pos' tpos:Pos}{tv:TE}
def AgO(z:PE X e ta)(hb:attributeBase e f X.env (eval e X.env)=eval e X.env):PE X (.Attribute e f pos) (AdC X.K ta f):=by
 intro pins s Y H Q I h;refine AeX hb (thn (z _ s Y H _ I h) λu _ ⟨x,H1,I1,rx,qq⟩=>?_);obtain @⟨a,C,dx,fs,v,_,ea,c,n,l,q⟩:=qq;obtain rfl:u=Value.ref a:=rx;exact AaY I1 ea c n l λu' _ I2 ru=>⟨v,H1,I2,ru,q⟩
def Cg(ha:PE X o ta)(hv:PE X value tv)(hs:swapsWith value (some (.Attribute o f pos')) pos.line X.env=pure false):PS X (.Assign [.Attribute o f pos'] value pos) (Ah8 X.K ta tv f):=by
 intro pins s Y H D I h;refine plainObj_wpAny_Assign_Attribute (thn (hv _ s Y H _ I h) λu s1 ⟨y,H1,I1,ry,q⟩=>thn (ha _ _ Y _ _ I1 q) λz _ ⟨x,H2,I2,rx,qq⟩=>?_) hs;obtain @⟨a,C,dx,fs,_,ea,c,n,l,q2⟩:=qq;obtain rfl:z=Value.ref a:=rx;exact Z1 I2 ea c n l ry λs3 I3=>⟨Y,_,I3,q2⟩
end
section
variable{s:Shared}{Q:Value->Shared->Prop}{c:Value}{b:Bool}
inductive Jb(K:FA)(H:Hp):V->Value->Prop where
 |non:Jb K H .non (.type "NoneType")
 |bl (x:Bool):Jb K H (.bl x) (.type "bool")
 |int (i:Int):Jb K H (.int i) (.type "int")
 |str (x:Str):Jb K H (.str x) (.type "str")
 |flt (x:UInt64):Jb K H (.flt x) (.type "float")
 |lst {a:Addr} {xs:List V} (e:H a=some (.lst xs)):Jb K H (.ref a) (.type "list")
 |frz {a:Addr} {o:Obj} {xs:List V} (e:H a=some (.frz o (.lst xs))):Jb K H (.ref a) (.type "list")
 |tup {a:Addr} {xs:List V} (e:H a=some (.tup xs)):Jb K H (.ref a) (.type "tuple")
 |dK {a:Addr} {kvs:List (Key×V)} (e:H a=some (.dK kvs)):Jb K H (.ref a) (.type "dict")
 |dT {a:Addr} {kvs:List (List Key×V)} (e:H a=some (.dT kvs)):Jb K H (.ref a) (.type "dict")
 |ins {a C dx:Addr} {fs:List (Str×V)} (e:H a=some (.ins C dx fs)) (cl:Cls K C) (ha:findIn K (.ref C) "__class__"= some (some (.builtin "object.__class__")))
   (hn:PySem.W.specialIn K (.builtin "object.__class__") "__get__"= some (some (.builtin "getset_descriptor.__get__"))) (htk:PySem.W.takesIn K (.builtin "object.__class__")=some true)
   (hm:mroIn K C (.type "object")=some true):Jb K H (.ref a) (.ref C)
def Aa4{x:V}{t:Value}(I:Inv X pins Y H s)(rx:A2 x u)(ty:Jb X.K H x t)(e:kitOne X.K t c=b)(h:∀tk,Q (.bool b) {s with toks:=tk}) :
  wpAny (model X.prog X.w) A (call (.builtin "isinstance") [u,c]) Q E s:=by
 cases ty with
 |non=>cases (rx);exact kia_one PySem.W.kitx_none I.kIn True.intro e (λz=>nomatch z) h
 |bl y=>cases (rx);exact kia_one PySem.W.kitx_bool I.kIn True.intro e (λz=>nomatch z) h
 |int i=>obtain⟨t,q⟩:=(rx);cases q;exact kia_one PySem.W.kitx_int I.kIn True.intro e (λz=>nomatch z) h
 |str y=>obtain⟨t,q⟩:=(rx);cases q;exact kia_one PySem.W.kitx_str I.kIn True.intro e (λz=>nomatch z) h
 |flt y=>obtain⟨t,q⟩:=(rx);cases q;exact kia_one PySem.W.kitx_float I.kIn True.intro e (λz=>nomatch z) h
 |@lst a xs ea=>
  cases (show u=Value.ref a from rx)
  obtain⟨_,_,n,_,h1⟩:=(I.hok a _ ea);exact kia_one kitx_list I.kIn ⟨_,h1,Z⟩ e (λz=>nomatch z) h
 |@frz a ob xs ea=>
  cases (rx)
  obtain⟨_,_,_,n,_,h1⟩:=(I.hok a _ ea);exact kia_one kitx_list I.kIn ⟨_,h1,Z⟩ e (λz=>nomatch z) h
 |@tup a xs ea=>
  cases (show u=Value.ref a from rx)
  obtain⟨_,_,_,p⟩:=(I.hok a _ ea);obtain⟨o,h1,h2,_⟩:=p;exact kia_one kitx_tuple I.kIn ⟨o,h1,h2⟩ e (λz=>nomatch z) h
 |@dK a kvs ea=>
  cases (show u=Value.ref a from rx)
  obtain⟨_,_,vs,_,p⟩:=(I.hok a _ ea);obtain⟨o,es,ep,h1,h2,_⟩:=p;exact kia_one kitx_dict I.kIn ⟨o,h1,h2.1⟩ e (λz=>nomatch z) h
 |@dT a kvs ea=>
  cases (show u=Value.ref a from rx)
  obtain⟨_,_,xs,_,o,es,ep,h1,h2,_⟩:=(I.hok a _ ea);exact kia_one kitx_dict I.kIn ⟨o,h1,h2.1⟩ e (λz=>nomatch z) h
 |@ins a C _ _ ea cl ha hn htk hm=>
  cases (rx)
  obtain⟨mA,O,_⟩:=Oq I.hok ea;obtain⟨od,J,_⟩:=O.look;exact kia_one (PySem.W.kitx_own (cl.get _) cl.hd ha hn htk hm) I.kIn J e (λz=>nomatch z) h
end
structure Cj(k:Nat)(A:Around):Prop where
 hd:A.handled=none
 dp:A.depth+3*k+5<recursionLimit
 un:A.units+16*k+200<cLine
def Cj.mono{j:Nat}(r:Cj k A)(h:j<=k):Cj j A:=⟨r.hd,by have:=r.dp;omega,by have:=r.un;omega⟩
def Cj.deeper(r:Cj (k+1) A)(env:Env):Cj k (A.deeper env):=
 ⟨r.hd,by have:=r.dp;show A.depth+1+3*k+5<_;omega,by have:=r.un;show A.units+3+16*k+200<_;omega⟩
def Z2{kw:List (Str×Value)}:(A.under (.builtin "type.__call__" ⟨.ref C::us,kw⟩)).depth=A.depth+1:=by
 rfl
def AaM{kw:List (Str×Value)}:(A.under (.builtin "type.__call__" ⟨.ref C::us,kw⟩)).units=A.units+1:=by
 rfl
def Cj.make(r:Cj (k+1) A)(C:Addr)(us:List Value)(kw:List (Str×Value)):Cj k (A.under (.builtin "type.__call__" ⟨.ref C::us,kw⟩)):=
 ⟨r.hd,by have:=r.dp;rw[Z2];omega,by have:=r.un;rw[AaM];omega⟩
def Cj.depth(r:Cj k A):A.depth<recursionLimit:=by have:=r.dp;omega
def Cj.units(r:Cj k A):A.units+64<cLine:=by have:=r.un;omega
def Cj.units0(r:Cj k A):A.units<cLine:=by have:=r.un;omega
def Cs:TA:=λ_ H Q=>Q [] H
def Bl(ta:TE)(tr:TA):TA:=λY H Q=>ta Y H λx H1=>tr Y H1 λxs H2=>Q (x::xs) H2
section
variable{t:TA}
def Bm:PA X [] Cs:=λ_ _ _ _ H Q I h=>Calls.spliced_nil ⟨[],H,I,.nil,h⟩
def Ba(ha:PE X e te)(hr:PA X es t)(hs:starEach (e::es) X.env=(false,eval e X.env)::starEach es X.env:=by rfl):PA X (e::es) (Bl te t):=by
 intro pos pins s Y H Q I h;rw[hs];show wpAny _ _ (spliced ((false,eval e _)::backTo _ _)) _ _ s;exact Calls.spliced_cons (thn (ha _ s Y H _ I h) λu s1 ⟨x,H1,I1,r1,q1⟩=>thn (hr _ _ _ Y _ _ I1 q1) λus _ ⟨xs,H2,z,r2,q2⟩=>⟨x::xs,H2,z,.cons r1 r2,q2⟩)
def Mf(t:TA):TE:=λY H Q=>t Y H λxs H1=>xs.length<=sizeLine/\∀p,H1 p=none->Q (.ref p) (upd H1 p (.tup xs))
def Z8(t:TA):TE:=λY H Q=>t Y H λxs H1=>xs.length<=sizeLine/\∀p,H1 p=none->Q (.ref p) (upd H1 p (.lst xs))
def Ap{x1}(h:PA X es t):PE X (.Tuple es x1 pos) (Mf t):=by
 intro pins s Y H Q I hq;refine wpAny_Tuple_spliced (thn (h _ _ s Y H _ I hq) λus s1 ⟨xs,H1,I1,r,z,q⟩=>⟨by simp_all[r.length],?_⟩);refine⟨.ref s1.heap.objs.size,upd _ _ _,I1.laid (λb u e=>uB _ e) (zB _) ?_,Z,q _ (I1.hok.fresh (zB _))⟩;exact⟨z,us,r,⟨_,uF _ rfl,Z,_,Z⟩⟩
def An(h:PA X es t):PE X (.List es pos) (Z8 t):=by
 intro pins s Y H Q I hq;refine wpAny_List_spliced (thn (h _ _ s Y H _ I hq) λus s1 ⟨xs,H1,I1,r,z,q⟩=>⟨by simp_all[r.length],?_⟩);refine⟨.ref s1.heap.objs.size,upd _ _ _,I1.laid (λb u e=>uB _ e) (zB _) ?_,Z,q _ (I1.hok.fresh (zB _))⟩;exact⟨z,us,0,r,uF _ rfl⟩
end
abbrev Sp:=List V->Hp->VK->XK->Prop
abbrev CXT:=List Env->Hp->Shared->XK->Value->Shared->Prop
structure Pj(P:Program)(w:World)(K:FA)(mg:Str->Option Value)(base:Heap)(A:Around)(outer:List Env)(s:Shared)(H:Hp):Prop where
 frames:A.frames=some outer
 mod:Mod K mg base
 bs:∀b o,base.get? b=some o->s.heap.get? b=some o/\H b=none
 bsz:base.objs.size<=s.heap.objs.size
 funs:s.heap.FunFrames base outer
 frf:∀b∈frs outer,H b=none
 hok:HOk P w H s.heap
 bare:AllBare s.gens
def CE(outer:List Env)(P:Program)(w:World)(H:Hp)(s:Shared)(Q:VK)(u:Value)(s':Shared):Prop:=
 ∃v H',s'.os=s.os/\AllBare s'.gens/\Un (frs outer) [] H H' s.heap s'.heap/\HOk P w H' s'.heap/\A2 v u/\Q v H'
def CR(CX:CXT)(outer:List Env)(P:Program)(w:World)(H:Hp)(s:Shared)(Q:VK)(E:XK)(r:Result)(s':Shared):Prop:=
 match r with
 |.ok (.ret u)=>CE outer P w H s Q u s'
 |.ok _=>False
 |.error e=>CX outer H s E e s'
structure Cc(P:Program)(w:World)(K:FA)(mg:Str->Option Value)(base:Heap)(CX:CXT)(k:Nat)(f:Addr)(fd:FuncData)(ps:List Str)(sp:Sp):Prop where
 len:∀vs H Q E,sp vs H Q E->vs.length=ps.length
 run:∀(A:Around)(outer:List Env)(s:Shared)(H:Hp)(args:Args)(us:List Value)(vs:List V)(Q:VK)(E:XK),Cj k A->Pj P w K mg base A outer s H->BindsTo s fd args (ps.zip us)->A0 vs us->sp vs H Q E ->
  codeAny (model P w) A (.call (.ref f) args) (CR CX outer P w H s Q E) s
def Cc.mono{CX:CXT}{j:Nat}{sp:Sp}(F:Cc P w K mg base CX j f fd ps sp)(h:j<=k) :
  Cc P w K mg base CX k f fd ps sp:=⟨F.len,λA outer s H args us vs Q E hr=>F.run A _ s H _ _ _ Q E (hr.mono h)⟩
def Cc.imp{CX:CXT}{sp z:Sp}(F:Cc P w K mg base CX k f fd ps sp)
  (h:∀vs H Q E,z vs H Q E->sp vs H Q E):Cc P w K mg base CX k f fd ps z:=
 ⟨λvs H Q E q=>F.len _ H Q E (h _ _ _ _ q),λA outer s H args us vs Q E hr he hb hv hs=>F.run A _ s H _ _ _ Q E hr he hb hv (h _ _ _ _ hs)⟩
def Pj.make{outer:List Env}{s:Shared}(e:Pj P w K mg base A outer s H)(C:Addr)(us:List Value)(kw:List (Str×Value)) :
  Pj P w K mg base (A.under (.builtin "type.__call__" ⟨.ref C::us,kw⟩)) outer s H:=⟨by first|exact e.frames|(simpa [pushEnvs] using e.frames),e.mod,e.bs,e.bsz,e.funs,e.frf,e.hok,e.bare⟩
section
variable{s s':Shared}
def Inv.env0(I:Inv X pins Y H s):Pj X.prog X.w X.K X.mg X.base X.A X.stack s H:=
 ⟨I.ok.frames,I.ok.mod,I.bs,zA I.ok.bsz I.sz,I.stack,I.stkFree,I.hok,I.bare⟩
def Inv.after(I:Inv X pins Y H s)(h:CE X.stack X.prog X.w H s Q u s'):EP X pins Y Q u s':=by
 obtain⟨v,H',os,bare,un,hok,r,q⟩:=h;obtain⟨hh,g,d,t,a1⟩:=s';obtain rfl:a1=s.os:=os;exact⟨v,H',I.call un hok bare (λb z=>absurd z (by simp)),r,q⟩
end
def Hy(sp:Sp)(dvs:List V)(E:XK)(t:TA):TE:=λY H Q=>t Y H λvs H1=>sp (vs++dvs) H1 Q E
inductive Zb(C:Addr)(m:Str)(R:VK):VK
 |mk{a dx:Addr}{fs:List (Str×V)}{H1:Hp}(_:H1 a=some (.ins C dx fs))(_:fs.lookup m=none)(_:R (.ref a) H1):Zb C m R (.ref a) H1
def Qq(C:Addr)(m:Str)(sp:Sp)(dvs:List V)(E:XK)(ta:TE)(t:TA):TE:=λY H Q=>ta Y H (Zb C m λx H1=>t Y H1 λvs H2=>sp (x::(vs++dvs)) H2 Q E)
def AhO(C:Addr)(sp:Sp)(dvs:List V)(E:XK)(t:TA):TE:=λY H Q=>t Y H λvs H1=>∀x dx,H1 x=none->H1 dx=none->dx≠x ->
 sp (.ref x::(vs++dvs)) (upd (upd H1 dx (.own x)) x (.ins C dx [])) (λv H2=>v=.non/\Q (.ref x) H2) E
def Dm(K:FA)(fd:FuncData)(ps:List Str)(ds:List Value):Prop:=
 ∀(s:Shared)(us:List Value),K.In s.heap->(us++ds).length=ps.length->BindsTo s fd ⟨us,[]⟩ (ps.zip (us++ds))
def Dm.all(h:∀us:List Value,us.length=ps.length->bindArgs fd ⟨us,[]⟩=pure (ps.zip us)):Dm K fd ps []:=λs us _ hl=>by
 rw[zK]at hl ⊢;exact .of_eq (h _ hl)
def G4(CX:CXT)(X:Cx)(E:XK):Prop:=∀(pins:List (Addr×Obj))(Y:St)(H:Hp)(s:Shared)(e:Value)(s':Shared),Inv X pins Y H s->CX X.stack H s E e s'->X.xe e s'
section
variable{CX:CXT}{sp:Sp}{dvs:List V}{ds:List Value}{E:XK}{m:Str}{p:Pos}{o:Expr}{t:TA}
def Ux{s:Shared}{vs:List V}(F:Cc X.prog X.w X.K X.mg X.base CX k f fd ps sp)(hr:Cj k X.A)(hb:Dm X.K fd ps ds)(hd:A0 dvs ds)(hx:G4 CX X E)
  (I:Inv X pins Y H s) (r:A0 vs us) (h:sp (vs++dvs) H Q E):wpAny (model X.prog X.w) X.A (call (.ref f) us) (EP X pins Y Q) X.xe s:=by
 have r2:=r.append hd;have hl:(us++ds).length=ps.length:=by rw[<-r2.length];exact F.len _ _ _ _ h
 refine wpAny_call (codeAny_mono (F.run _ _ s H ⟨us,[]⟩ _ _ Q E hr I.env0 (hb s _ I.kIn hl) r2 h) λr s' z=>?_);cases r with
 |error e=>exact hx _ Y H s e _ I z
 |ok fl=>
  cases fl with
  |ret u=>exact I.after z
  |next=>exact False.elim z
  |brk=>exact False.elim z
  |cont=>exact False.elim z
def Aeb(F:Cc X.prog X.w X.K X.mg X.base CX k f fd ps sp)(hr:Cj k X.A)(hg:Gl X x)(hm:X.mg x=some (.ref f))(hk:keepIn X.K (.ref f)=true)(hb:Dm X.K fd ps ds)(hd:A0 dvs ds)(hx:G4 CX X E)
  (ha:PA X (e::es) t) (a1:(x==("__debug__": Str))=false:=by decide) (he:starEach (e::es) X.env=(false,eval e X.env)::starEach es X.env:=by rfl) (z:(backTo pos (starEach es X.env)).any (·.1)=false:=by rfl) :
  PE X (.Call (.Name x p) (e::es) [] pos) (Hy sp dvs E t):=by
 intro pins s Y H Q I h;refine wpAny_Call_Name_kw (R8 I hg hm ?_ a1);exact callWith_K (h₀:=X.base) I.ok.mod.kin hk (thn (ha _ _ s Y H _ I h) λus _ ⟨vs,H1,I1,r,q⟩=>⟨I1.kIn,Ux F hr hb hd hx I1 r q⟩) he z
def AeT{pl:Sem Bool}(he:PE X o ta)(c:Cls X.K C)(hm:J3 X.K C m f)(F:Cc X.prog X.w X.K X.mg X.base CX k f fd ps sp)(hr:Cj k X.A)(hb:Dm X.K fd ps ds)(hd:A0 dvs ds)(hx:G4 CX X E)(ha:PA X (e::es) t)
  (a1:starEach (e::es) X.env=(false,eval e X.env)::starEach es X.env:=by rfl) (z:(backTo pos (starEach es X.env)).any (·.1)=false:=by rfl)
  (ht:eval (.Call (.Attribute o m apos) (e::es) [] pos) X.env=(do
   let ov <-eval o X.env
   standAt apos.atName
   let (f,first) <-holding [ov] (getMethod ov m pl)
   callWith pos f first (backTo pos (starEach (e::es) X.env)) (backToKw pos (keywordEach [] X.env))):=by rfl) :
  PE X (.Call (.Attribute o m apos) (e::es) [] pos) (Qq C m sp dvs E ta t):=by
 intro pins s Y H Q I h;refine methodCall_KW (thn (he _ s Y H _ I h) λu s1 ⟨x,H1,I1,rx,qq⟩=>?_) ht;obtain @⟨a,dx,fs,_,ea,l,q⟩:=qq;obtain rfl:u=Value.ref a:=rx;refine Qk I1 ea c hm l ?_;exact callWith_K (h₀:=X.base) I.ok.mod.kin hm.kp (thn (ha _ _ _ Y _ _ I1 q) λus _ ⟨vs,H2,I2,r,q2⟩=>⟨I2.kIn,Ux (vs:=.ref a::vs) F hr hb hd hx I2 (.cons rfl r) q2⟩) a1 z
def Acd{pl:Sem Bool}(he:PE X o ta)(c:Cls X.K C)(hm:J3 X.K C m f)(F:Cc X.prog X.w X.K X.mg X.base CX k f fd ps sp)(hr:Cj k X.A)(hb:Dm X.K fd ps ds)(hd:A0 dvs ds)(hx:G4 CX X E)
  (ht:eval (.Call (.Attribute o m apos) [] [] pos) X.env=(do
   let ov <-eval o X.env
   standAt apos.atName
   let (f,first) <-holding [ov] (getMethod ov m pl)
   callWith pos f first (backTo pos (starEach [] X.env)) (backToKw pos (keywordEach [] X.env))):=by rfl) :
  PE X (.Call (.Attribute o m apos) [] [] pos) (Qq C m sp dvs E ta Cs):=by
 intro pins s Y H Q I h;refine methodCall_KW (thn (he _ s Y H _ I h) λu _ ⟨x,H1,z,rx,qq⟩=>?_) ht;obtain @⟨a,dx,fs,_,ea,l,q⟩:=qq;obtain rfl:u=Value.ref a:=rx;exact Qk z ea c hm l (PySem.W.callWith_K0 z.kIn hm.kp (Ux (vs:=[.ref a]) F hr hb hd hx z (.cons rfl .nil) q))
structure Mk(K:FA)(C f:Addr):Prop where
 makes:makesIn K C=true
 init:findIn K (.ref C) "__init__"= some (some (.ref f))
 fn:isFn K (.ref f)=true
 kp:keepIn K (.ref C)=true
def Ac8{s:Shared}{vs:List V}(M:Mk X.K C f)(F:Cc X.prog X.w X.K X.mg X.base CX k f fd ps sp)(hr:Cj (k+1) X.A)(hb:Dm X.K fd ps ds)(hd:A0 dvs ds)
  (hx:G4 CX X E) (I:Inv X pins Y H s) (r:A0 vs us)
  (h:∀x dx,H x=none->H dx=none->dx≠x->sp (.ref x::(vs++dvs)) (upd (upd H dx (.own x)) x (.ins C dx [])) (λv H2=>v=.non/\Q (.ref x) H2) E) :
  wpAny (model X.prog X.w) X.A (call (.ref C) us) (EP X pins Y Q) X.xe s:=by
 have hq:=h _ _ (I.hok.fresh (le_succ _)) (I.hok.fresh (zB _)) (zF (lt_succ_self _));have I2:=Inv.made (C:=C) I;have r2:A0 (V.ref _::(vs++dvs)) (Value.ref (s.heap.objs.size+1)::(us++ds)):=.cons rfl (r.append hd)
 have hl:=by
  have e:=r2.length;rw[F.len _ _ _ _ hq]at e;exact e.symm
 refine wpAny_call (Ac1 I.kIn M.makes M.init (beq_iff_eq.mp M.fn) (codeAny_mono (F.run _ _ _ _ ⟨Value.ref _::us,[]⟩ _ _ _ E (hr.make C _ [])
  (I2.env0.make C _ []) (hb _ _ I2.kIn hl) r2 hq) λr s' z=>?_))
 cases r with
 |error e=>exact hx _ Y _ _ e _ I2 z
 |ok fl=>
  cases fl with
  |ret u=>
   obtain⟨v,H',I3,rv,ev,q3⟩:=I2.after z;subst ev;exact⟨rv,⟨V.ref _,H',I3,Z,q3⟩⟩
  |next=>exact False.elim z
  |brk=>exact False.elim z
  |cont=>exact False.elim z
def Xt(M:Mk X.K C f)(F:Cc X.prog X.w X.K X.mg X.base CX k f fd ps sp)(hr:Cj (k+1) X.A)(hg:Gl X x)(hm:X.mg x=some (.ref C))(hb:Dm X.K fd ps ds)(hd:A0 dvs ds)(hx:G4 CX X E)
  (ha:PA X (e::es) t) (a1:(x==("__debug__": Str))=false:=by decide) (he:starEach (e::es) X.env=(false,eval e X.env)::starEach es X.env:=by rfl) (z:(backTo pos (starEach es X.env)).any (·.1)=false:=by rfl) :
  PE X (.Call (.Name x p) (e::es) [] pos) (AhO C sp dvs E t):=by
 intro pins s Y H Q I h;refine wpAny_Call_Name_kw (R8 I hg hm ?_ a1);exact callWith_K (h₀:=X.base) I.ok.mod.kin M.kp (thn (ha _ _ s Y H _ I h) λus _ ⟨vs,H1,I1,r,q⟩=>⟨I1.kIn,Ac8 M F hr hb hd hx I1 r q⟩) he z
end
def PK(X:Cx)(kws:List Keyword)(t:TA):Prop:=
 ∀(pos:Pos)(pins:List (Addr×Obj))(s:Shared)(Y:St)(H:Hp)(Q:List V->Hp->Prop),Inv X pins Y H s->t Y H Q->wpAny (model X.prog X.w) X.A (evalAll ((backToKw pos (keywordEach kws X.env)).map (·.2))) (AP X pins Y Q) X.xe s
section
variable{CX:CXT}{ks:List Str}{sp:Sp}{E:XK}{m:Str}{p kpos:Pos}{o:Expr}{kws:List Keyword}{t tk:TA}{nm:Option Str}
def Afw:PK X [] Cs:=λ_ _ _ _ H Q I h=>wpAny_evalAll_nil ⟨[],H,I,.nil,h⟩
def Aem(ha:PE X e te)(hr:PK X kws t):PK X (⟨nm,e,kpos⟩::kws) (Bl te t):=by
 intro pos pins s Y H Q I h;exact wpAny_evalAll_cons (vB (thn (ha _ s Y H _ I h) λu s1 ⟨x,H1,I1,r1,q1⟩=>vB (wpAny_standAt (vC (thn (hr _ _ _ Y _ _ I1 q1) λus _ ⟨xs,H2,z,r2,q2⟩=>⟨x::xs,H2,z,.cons r1 r2,q2⟩)))))
variable{g:List Value->List Value->List Value}{gV:List V->List V->List V}
end
structure Ak(N P:List Str)(sc:Scope):Prop where
 kind:sc.kind=.function
 co:sc.isCoroutine=false
 gen:sc.isGenerator=false
 nd:N.Nodup
 pre:N.take P.length=P
 par:∀x∈P,sc.names.lookup x=some .local\/sc.names.lookup x=some .cell
 nofree:∀y∈sc.names,y.2≠.free
def fsB(N P:List Str)(sc:Scope):Bool:=decide (sc.kind=.function) && !sc.isCoroutine && !sc.isGenerator&&decide N.Nodup&&decide (N.take P.length=P)&&P.all (λx=>decide (sc.names.lookup x=some .local) || decide (sc.names.lookup x=some .cell))&&sc.names.all (λy=>decide (y.2≠.free))
def Ay{N P:List Str}{sc:Scope}(h:fsB N P sc):Ak N P sc:=by
 unfold fsB at h;simp only[vA,Bool.or_eq_true,decide_eq_true_eq,Bool.not_eq_true',all_eq_true]at h;obtain⟨⟨⟨⟨⟨⟨a,b⟩,c⟩,d⟩,e⟩,f⟩,g⟩:=h;exact⟨a,b,c,d,e,f,g⟩
theorem Ta{z:Str->Option NameKind} :∀{binds:List (Str×Value)}{m:Str->Option Value},(∀v,(x,v)∉binds)->bindL z binds m x=m x
 |[],_,_=>rfl
 | (n,v)::r,m,h=>by
  unfold bindL;rw[Ta λw hw=>h w (vI _ hw)];split
  .have:x≠n:=by rintro rfl;exact h v vH
   simp[this]
  .rfl
theorem Tj{z:Str->Option NameKind} :∀{binds:List (Str×Value)}{m:Str->Option Value},(∀v,(x,v)∉binds)->bindC z binds m x=m x
 |[],_,_=>rfl
 | (n,v)::r,m,h=>by
  unfold bindC;rw[Tj λw hw=>h w (vI _ hw)];split
  .rfl
  .have:x≠n:=by rintro rfl;exact h v vH
   simp[this]
def Si{z:Str->Option _}{v:Value}:∀{P:List _}{vs:List _}{i:Nat}{m:Str->Option _},P.Nodup->P[i]?=x->vs[i]?=v->z x=some .local ->
  bindL z (P.zip vs) m x=v
 |[],_,_,_,_,h,_,_=>by simp at h
 |_::_,[],_,_,_,_,h,_=>by simp at h
 |p::P,w::vs,0,m,nd,h1,h2,hk=>by
  simp at h1 h2;subst h1;subst h2;show bindL z ((p,w)::P.zip _) m p=_;unfold bindL;rw[Ta λv hv=>(zS.mp nd).1 (of_mem_zip hv).1,if_pos hk];simp
 |p::P,w::vs,i+1,m,nd,h1,h2,hk=>by
  unfold bindL;exact Si (zS.mp nd).2 (by simpa using h1) (by simpa using h2) hk
def S9{z:Str->Option _}{v:Value}:∀{P:List _}{vs:List _}{i:Nat}{m:Str->Option _},P.Nodup->P[i]?=x->vs[i]?=v->z x≠some .local ->
  bindC z (P.zip vs) m x=v
 |[],_,_,_,_,h,_,_=>by simp at h
 |_::_,[],_,_,_,_,h,_=>by simp at h
 |p::P,w::vs,0,m,nd,h1,h2,hk=>by
  simp at h1 h2;subst h1;subst h2;show bindC z ((p,w)::P.zip _) m p=_;unfold bindC;rw[Tj λv hv=>(zS.mp nd).1 (of_mem_zip hv).1,if_neg hk];simp
 |p::P,w::vs,i+1,m,nd,h1,h2,hk=>by
  unfold bindC;exact S9 (zS.mp nd).2 (by simpa using h1) (by simpa using h2) hk
def start(N:List Str)(vs:List V):St:=vs.map some++List.replicate (N.length-vs.length) none
def Nf(CX:CXT)(P:Program)(w:World)(K:FA)(mg:Str->Option Value)(base:Heap)(N:List Str)(qual:Str)(scope:Scope)(f:Addr)(cd:Value)(A:Around)(outer:List Env)(s:Shared)(H:Hp)(E:XK):Cx where
 prog:=P
 w:=w
 K:=K
 mg:=mg
 base:=base
 A:=A.deeper (envOfC qual scope s.heap.objs.size f cd)
 N:=N
 s₀:=s
 H₀:=H
 env:=envOfC qual scope s.heap.objs.size f cd
 outer:=outer
 stack:=envOfC qual scope s.heap.objs.size f cd::outer
 ex:=[]
 calm:=true
 fn:=λ_=>true
 pn:=[]
 xe:=λe s'=>wpAny (model P w) (A.deeper (envOfC qual scope s.heap.objs.size f cd)) (leaving (envOfC qual scope s.heap.objs.size f cd) e) (λ_ s''=>CX outer H s E e s'') (λe' s''=>CX outer H s E e' s'') s'
def Vq{sc:Scope}(h:sc.names.lookup x=some .cell):∃c,(cellsFrom n sc.names []).lookup x=some c:=by
 exact Option.isSome_iff_exists.mp (cellsFrom_some _ n [] (.inl h))
def AbZ{CX:CXT}{N:List Str}{qual:Str}{scope:Scope}{cd:Value}{outer:List Env}{s s1:Shared}{E:XK}{vs:List V}
  (S:Ak N ps scope) (hd:A.handled=none) (e0:Pj P w K mg base A outer s H) (hl:vs.length=ps.length) (r:A0 vs us)
  (x:InCallC s s.heap.objs.size (bindL (envOfC qual scope s.heap.objs.size f cd).kindOf (ps.zip us) λ_=>none) (cellsFrom (s.heap.objs.size+1) scope.names []) (bindC (envOfC qual scope s.heap.objs.size f cd).kindOf (ps.zip us) λ_=>none) s1) :
  Inv (Nf CX P w K mg base N qual scope f cd A outer s H E) [] (start N vs) H s1:=by
 have a3:ps.length<=N.length:=by have:=congrArg length S.pre;rw[zH]at this;omega
 obtain⟨h1,tk,rfl,hk⟩:=x.done;have a1:∀b:Addr,b∉(Nf CX P w K mg base N qual scope f cd A outer s H E).ex:=λb z=>absurd (show b∈([]) from z) (by simp)
 refine⟨⟨e0.mod,S.kind,Z,Z,zB _,λy z c h1 h2=>?_,λy hy=>?_,λy c _ h=>?_,λ_=>hd,Around.frames_deeper e0.frames,.inr ⟨rfl,rfl⟩,λb z=>absurd z (a1 b),e0.bs,e0.bsz,λb _ _=>a1 b,λb z=>absurd z (a1 b),e0.funs,e0.frf⟩,
  rfl,e0.bare,Un.kept hk,⟨_,x.toInCall.ns,λi y v h1 h2 _=>?_⟩,λy c h=>⟨_,x.cell y c h⟩,e0.hok.fresh (zB _),λy c h=>?_,λp hp=>absurd (show p∈([]) from hp) (by simp),e0.hok.kept hk,?_⟩
 .exact name_of_addr x.apart (uQ h1) (uQ h2)
 .have hy:=hy
  rcases hy with hy|hy
  .exact Vq hy
  .exact absurd rfl (S.nofree _ (uQ hy))
 .exact le_of_lt (x.above y c (uQ h))
 .have hi:i<vs.length:=by
   unfold start at h2
   by_cases hi:i<vs.length
   .exact hi
   .rw[vW (by simpa using hi)]at h2
    rw[getElem?_replicate]at h2;simp_all
  have ha:vs[i]?=v:=by
   unfold start at h2;rw[vV (by simpa using hi),vJ]at h2;simp_all
  obtain⟨u,hu,rv⟩:=r.get ha
  have hp:ps[i]?=y:=by
   rw[<-S.pre,List.getElem?_take_of_lt (by omega)];exact h1
  have a2:ps.Nodup:=by rw[<-S.pre];exact S.nd.sublist (List.take_sublist _ _)
  refine⟨u,rv,?_⟩;rcases S.par y (vR hp) with k|k
  .exact .inl ⟨k,Si a2 hp hu k⟩
  .obtain⟨c,e⟩:=Vq k
   refine .inr ⟨.inl k,c,e,?_⟩;have q:=x.cell y c e;rw[S9 a2 hp hu (by show scope.names.lookup y≠_;rw[k];decide)]at q;exact q
 .exact e0.hok.fresh (le_of_lt (x.above y c (uQ h)))
 .unfold start
  show _=N.length
  rw[vF,vE,vU];omega
def Ag6{CX:CXT}{name qual:Str}{z:Arguments}{a1:List Stmt}{scope:Scope}{dV kV doc pm cdv ct oc:Value}{an od:Option Addr}
  {osl:Array (Option Value)} {N:List Str} {sp:Sp} (lk:K.lookup f=some ⟨oc,od,.func (fnOf name qual z a1 scope dV kV doc pm an cdv ct),osl⟩) (a7:codeIn K cdv qual) (S:Ak N ps scope)
  (len:∀vs H Q E,sp vs H Q E->vs.length=ps.length)
  (a4:∀(A:Around)(outer:List Env)(s:Shared)(H:Hp)(vs:List V)(Q:VK)(E:XK),Cj k (A.deeper (envOfC qual scope s.heap.objs.size f cdv))->sp vs H Q E ->
   ∃t,PSs (Nf CX P w K mg base N qual scope f cdv A outer s H E) a1 t/\t {nx:=λ_ H'=>Q .non H',rt:=Q} (start N vs) H) :
  Cc P w K mg base CX (k+1) f (fnOf name qual z a1 scope dV kV doc pm an cdv ct) ps sp:=by
 refine⟨len,λA outer s H _ us vs Q E hr e0 hb r a5=>?_⟩;have KX:=e0.mod.kin.keeps λb o e=>(e0.bs b o e).1
 have a3:∀y∈ps.zip us,scope.names.lookup y.1=some .local\/(scope.names.lookup y.1=some .cell/\((cellsFrom (s.heap.objs.size+1) _ []).lookup y.1).isSome):=λ⟨n,v⟩ hy=>by
  rcases S.par n (of_mem_zip hy).1 with q|q
  .exact .inl q
  .exact .inr ⟨q,cellsFrom_some _ _ _ (.inl q)⟩
 refine codeAny_call_function hr.depth (KX _ _ lk) rfl S.co S.gen rfl (PySem.W.codeRec_of KX a7) (hb _ _ _ _ ?_);refine wpAny_newFunctionEnv_cells S.kind a3 λenv he s1 x=>?_
 subst he;refine⟨(e0.mod.nolimit.keeps λb o e=>(e0.bs b o e).1).keeps x.toInCall.keep,codeAny_func ?_⟩;obtain⟨t,ht,hq⟩:=a4 A _ s H _ Q E (hr.deeper _) a5;have I:Inv (Nf CX P w K _ _ N qual _ f cdv A _ s H E) [] _ H _:=AbZ S hr.hd e0 (len _ _ _ _ a5) r x;refine zW (ht [] _ _ H _ I hq) (λfl s' hs=>?_) λe _ hs=>hs
 have a6:∀{a2:St}{H':Hp}{v:V}{u:Value},Inv (Nf CX P w K mg base N qual scope f cdv A _ s H E) [] a2 _ _->A2 v u->Q v _->CE outer P w H s Q u s':=
  λ{a2 H' v u}J rv q=>⟨v,H',J.os,J.bare,J.base,J.hok,rv,q⟩
 cases fl with
 |ret u=>
  obtain⟨v,a2,H',J,rv,q⟩:=hs;exact a6 J rv q
 |next=>
  obtain⟨a2,H',J,q⟩:=hs;exact a6 (v:=V.non) J rfl q
 |brk=>
  obtain⟨_,_,_,q⟩:=hs;exact False.elim q
 |cont=>
  obtain⟨_,_,_,q⟩:=hs;exact False.elim q
end L2
variable{sp:L2.Sp}
namespace L2
open PySem PySem.Spec PyProof.Rows
section
variable{p:Pos}{t:TA}{id T:String}{r:List V->Hp->VK->Prop}
def tCB(r:List V->Hp->VK->Prop)(t:TA):TE:=λY H Q=>t Y H λvs H1=>r vs H1 Q
def Bs(hc:Gm X (.builtin id) r)(hg:Gl X x)(hm:X.mg x=none)(hv:bootBuiltins x=some (.builtin id))(ha:PA X (e::es) t)(hn:x≠ "__name__":=by decide)(a1:(x==("__debug__": Str))=false:=by decide)
  (he:starEach (e::es) X.env=(false,eval e X.env)::starEach es X.env:=by rfl) (z:(backTo pos (starEach es X.env)).any (·.1)=false:=by rfl):PE X (.Call (.Name x p) (e::es) [] pos) (tCB r t):=by
 intro pins s Y H Q I h;exact wpAny_Call_Name_kw (Il I hg hm hv (PyProof.Rows.callWith_builtin1 (thn (ha _ _ s Y H _ I h) λus s1 ⟨vs,H1,I1,r1,q1⟩=>hc _ _ Y _ _ _ Q I1 r1 q1) he z) hn a1)
def Dp(hc:Gm X (.type T) r)(hg:Gl X x)(hm:X.mg x=none)(hv:bootBuiltins x=some (.type T))(ha:PA X (e::es) t)(hn:x≠ "__name__":=by decide)(a1:(x==("__debug__": Str))=false:=by decide)
  (he:starEach (e::es) X.env=(false,eval e X.env)::starEach es X.env:=by rfl) (z:(backTo pos (starEach es X.env)).any (·.1)=false:=by rfl):PE X (.Call (.Name x p) (e::es) [] pos) (tCB r t):=by
 intro pins s Y H Q I h;exact wpAny_Call_Name_kw (Il I hg hm hv (PyProof.Rows.callWith_type1 (thn (ha _ _ s Y H _ I h) λus s1 ⟨vs,H1,I1,r1,q1⟩=>hc _ _ Y _ _ _ Q I1 r1 q1) he z) hn a1)
end
end L2
namespace HT
open PySem PyProof.Rows
section
open PySem.SeqAt
open PySem.AutoSeq1 (wpAny_loadPart')
open PySem.MeetsSeq PySem.MeetsSeq2 PySem.MeetsSeq3
end
section
variable{s:Shared}
def AiV{t b:Addr}{vs ws:List Value}{Q:Value->Shared->Prop}(ht:IsTup s.heap t vs.toArray)(hb:IsTup s.heap b ws.toArray)(hv:vs≠[])
  (h1:ws=[]->Q (.ref t) s) (h2:ws≠[]->Q (.ref s.heap.objs.size) {s with heap:=s.heap.push {cls:=.type "tuple",data:=.seq (vs++ws).toArray} })
  (hsz:vs.length+ws.length<=sizeLine):wpAny (model prog w) A (binaryOp .Add (.ref t) (.ref b)) Q E s:=by
 obtain⟨⟨cls,dd,data,sl⟩,ho,hc,n,hd⟩:=id ht;obtain⟨⟨a6,a4,a5,a2⟩,z,a1,n2,a3⟩:=id hb;simp at hc hd a1 a3;subst hc hd a1 a3;have e:vs.toArray++ws.toArray=(vs++ws).toArray:=by simp
 by_cases hw:ws=[]
 .exact concat_meets ⟨_,ho,Z⟩ ⟨_,z,Z⟩ noFill_tuple_add seq_tuple_add PySem.F.slot_tuple_add PySem.F.entry_tuple_add (PySem.F.args_tuple_add_2 _ _)
   (tuple_addW1 t b _ _ n _ _ _ _ _ (by simpa using hv) (by simp[hw])) ⟨ho,z,h1 hw⟩
 .refine concat_meets ⟨_,ho,Z⟩ ⟨_,z,Z⟩ noFill_tuple_add seq_tuple_add PySem.F.slot_tuple_add PySem.F.entry_tuple_add (PySem.F.args_tuple_add_2 _ _)
   (tuple_addW2 t b _ _ n _ _ _ _ _ (by simpa using hv) (by simpa using hw) (by omega)) ⟨ho,z,?_⟩
  rw[e];exact h2 hw
def sIx(n d:Nat):Option Int->Nat
 |none=>d
 |some v=>if v<0 then(v+(n:Int)).toNat else min v.toNat n
def Aha(n d:Nat):sIx n d none=d:=rfl
def AiW(n d k:Nat):sIx n d (some (k:Int))=min k n:=by
 rfl
def Afl(n d:Nat)(hd:d<=n)(o:Option Int):sIx n d o<=n:=by
 cases o with
 |none=>exact hd
 |some v=>
  show(if v<0 then(v+n).toNat else min _ n)<=n
  by_cases hv:v<0
  .rw[if_pos hv];omega
  .rw[if_neg hv];exact Nat.min_le_right _ _
def Xq(v:Int)(n d:Nat):(if v<0 then max (v+(n:Int)) 0 else min v (n:Int))=((sIx n d (some v):Nat):Int):=by
 show(if v<0 then max _ 0 else min v _)=(((if v<0 then(v+n).toNat else min _ n)))
 by_cases hv:v<0
 .simp_all
 .simp[if_neg hv];omega
def Aad(lo hi:Option Int)(n:Nat):Builtin.Slice.sliceAdjust lo hi 1 (n:Int)=(((sIx n 0 lo:Nat):Int),((sIx n n hi:Nat):Int)):=by
 have h1:=by omega
 unfold Builtin.Slice.sliceAdjust;refine Prod.ext ?_ ?_
 .cases lo with
  |none=>rfl
  |some v=>exact Xq v n 0
 .cases hi with
  |none=>rfl
  |some v=>exact Xq v n n
def AaT(i j:Nat):Builtin.Slice.slicePlaces (i:Int) (j:Int) 1=j-i:=by
 unfold Builtin.Slice.slicePlaces;have h1:(1:Int)>0:=by omega
 simp[h1,Int.ediv_one];split<;>omega
def Qh{v:Value}{o:Option Int}{Q:Option Int->Shared->Prop}(p:IsPart v o)(h:Q o s):wpAny (model prog w) A (Builtin.Slice.slicePartIndex v) Q E s:=by
 cases p with
 |none=>exact slicePart_none h
 |int i t=>exact slicePart_int h
def Pp{sl:Addr}{vl vu:Value}{lo hi:Option Int}{Q:Int×Int×Nat->Shared->Prop}(hs:s.heap.IsSliceOf sl vl vu .none)(pl:IsPart vl lo)(pu:IsPart vu hi)
  (h:Q (((sIx n 0 lo:Nat):Int),1,sIx n n hi-sIx n 0 lo) s):wpAny (model prog w) A (Builtin.Slice.sliceApplied (.ref sl) (pure (n:Int))) Q E s:=by
 obtain⟨os,a1,a2,z⟩:=id hs;refine wpAny_bind (wpAny_bind (wpAny_field a1 z (x:=vl) rfl (wpAny_bind (wpAny_field a1 z (x:=vu) rfl (wpAny_bind (wpAny_field a1 z (x:=.none) rfl (wpAny_pure ?_)))))));refine wpAny_bind (slicePart_none ?_);refine wpAny_bind (Qh pl (wpAny_bind (Qh pu (wpAny_bind (wpAny_pure ?_)))));show wpAny _ _ (match Builtin.Slice.sliceAdjust _ _ 1 n with|(lo,hi)=>pure (lo,_,Builtin.Slice.slicePlaces lo hi 1)) _ _ s;rw[Aad _ _ n];show wpAny _ _ (pure _) _ _ s;rw[AaT];exact wpAny_pure h
def AcZ(xs:Array Value)(i k:Nat):((List.range k).filterMap λ(m:Nat)=>xs[((i:Int)+(m:Int)*1).toNat]?).toArray=((xs.toList.drop i).take k).toArray:=by
 have e:(λ(m:Nat)=>xs[(i+(m:Int)*1).toNat]?)=λm=>xs[i+m]?:=by
  funext m
  have:(i+(m:Int)*1).toNat=i+m:=by omega
  rw[this]
 rw[e];have:=pick_run xs i k;rw[List.filterMap_map]at this;have e2:((λx=>xs[x]?) ∘ λx=>i+x)=λm=>xs[i+m]?:=rfl
 rw[e2]at this;rw[this]
def AcM{t sl:Addr}{z:Array Value}{vl vu:Value}{lo hi:Option Int}{Q:Value->Shared->Prop}(ht:IsTup s.heap t z)(hs:s.heap.IsSliceOf sl vl vu .none)(pl:IsPart vl lo)(pu:IsPart vu hi)
  (hw:¬(sIx z.size 0 lo=0/\sIx z.size z.size hi=z.size))
  (h:Q (.ref s.heap.objs.size) {s with heap:=s.heap.push {cls:=.type "tuple",data:=.seq ((z.toList.drop (sIx z.size 0 lo)).take (sIx z.size z.size hi-sIx z.size 0 lo)).toArray} })
  (hsz:z.size<=sizeLine):wpAny (model prog w) A (getItem (.ref t) (.ref sl)) Q E s:=by
 have a1:=by
  show((z.toList.drop (sIx z.size 0 lo)).take (sIx z.size z.size hi-sIx z.size 0 lo)).toArray.size<=sizeLine
  rw[size_toArray,length_take,length_drop,Array.length_toList];omega
 obtain⟨os,a5,a4,a6⟩:=id hs;have a3:s.TypeIs (.ref sl) "slice":=⟨os,a5,a4⟩;unfold getItem
 try with_reducible refine wpAny_holding ?_
 refine wpAny_bind (wpAny_sequenceKey ht.typeIs (by decide) ?_)
 refine wpAny_bind (wpAny_callSpecial?_slot ht.typeIs PyProof.Rows.slot_tuple_getitem
  (wpAny_call_entry PyProof.Rows.slot_tuple_getitem ht.typeIs entry_tuple_getitem ?_ (args_tuple_getitem _ _)))
 show wpAny _ _ (Builtin.Tuple.tupleItemsOf _>>=_) _ _ s
 refine wpAny_bind (tupleItemsOf_ ht ?_);refine wpAny_bind (wpAny_typeOf a3 ?_);refine wpAny_bind (Pp hs pl pu ?_)
 have a2:¬((((sIx z.size 0 lo):Int)==0&&(1:Int)==1&&(sIx z.size z.size hi-sIx z.size 0 lo)==z.size)):=by
  intro q;rw[Bool.and_eq_true,Bool.and_eq_true]at q;have q1:=eq_of_beq q.1.1;simp_all
 show wpAny _ _ (if _ then _ else _) _ _ s
 rw[if_neg a2,AcZ]
 first
  |exact wpAny_bind _
  |exact wpAny_bind (wpAny_newObj_type (wpAny_bind (wpAny_pure (wpAny_pure ⟨_,rfl,wpAny_pure h⟩))) a1)
  |exact wpAny_bind _
  |exact wpAny_bind _
end
end HT
namespace L2
open PySem PySem.Spec PyProof.Rows
abbrev TO:=St->Hp->(Option Int->Hp->Prop)->Prop
def PO(X:Cx)(e:Option Expr)(t:TO):Prop:=
 ∀(pins:List (Addr×Obj))(s:Shared)(Y:St)(H:Hp)(Q:Option Int->Hp->Prop),Inv X pins Y H s->t Y H Q ->
  wpAny (model X.prog X.w) X.A (evalPart e X.env) (λu s'=>∃o H',Inv X pins Y H' s'/\IsPart u o/\Q o H') X.xe s
def Aeq:TO:=λ_ H Q=>Q none H
def AhF(t:TE):TO:=λY H Q=>t Y H λx H1=>∃i,x=.int i/\Q (some i) H1
def L9{ns:List Int}:∀{us:List Value},A0 (ns.map V.int) us->IntsAre us ns:=by
 induction ns with
 |nil=>intro us r;rw[map_nil]at r;cases r;exact .nil
 |cons n _ z=>
  intro us r;cases r with
  |cons r1 r2=>
   obtain⟨t,e⟩:=r1;subst e;exact .cons n t (z r2)
section
variable{lo hi:Option Expr}{tl th:TO}{p2:Pos}
def Yh:PO X none Aeq:=by
 intro pins s Y H Q I h;exact vC ⟨none,H,I,.none,h⟩
def Of(h:PE X e te):PO X (some e) (AhF te):=by
 intro pins s Y H Q I z;refine thn (h _ s Y H _ I z) λu _ ⟨x,H1,I1,r1,q1⟩=>?_
 obtain⟨i,rfl,q⟩:=q1;obtain⟨t,rfl⟩:=r1;exact⟨some i,H1,I1,.int i t,q⟩
def SlR(X:Cx)(r:V->Option Int->Option Int->Hp->VK->Prop):Prop:=
 ∀(pins:List (Addr×Obj))(s:Shared)(Y:St)(H:Hp)(x:V)(v vl vu:Value)(lo hi:Option Int)(sl:Addr)(Q:VK),Inv X pins Y H s->A2 x v->s.heap.IsSliceOf sl vl vu .none->IsPart vl lo->IsPart vu hi->r x lo hi H Q ->
  ∃T id,typeLookup (.type T) "__getitem__"= pure (some (.builtin id))/\s.TypeIs v T/\wpAny (model X.prog X.w) X.A (getItem v (.ref sl)) (EP X pins Y Q) X.xe s
def tSl(r:V->Option Int->Option Int->Hp->VK->Prop)(te:TE)(tl th:TO):TE:=λY H Q=>te Y H λx H1=>tl Y H1 λl H2=>th Y H2 λu H3=>r x l u H3 Q
def Pu{r:V->Option Int->Option Int->Hp->VK->Prop}(hr:SlR X r)(he:PE X e te)(hl:PO X lo tl)(hu:PO X hi th):PE X (.Subscript e (.Slice lo hi none p2) pos) (tSl r te tl th):=by
 intro pins s Y H Q I h;refine Subscript_ (thn (he _ s Y H _ I h) λv s1 ⟨x,H1,I1,r1,q1⟩=>?_);refine wpAny_Slice (thn (hl _ _ Y _ _ I1 q1) λvl s2 ⟨l,H2,I2,pl,q2⟩=>thn (hu _ _ Y _ _ I2 q2) λvu z ⟨u,H3,I3,pu,q3⟩=>?_);refine vC ?_;have I4:Inv X _ Y _ {z with heap:=z.heap.push {cls:=.type "slice",data:=.fields #[vl,vu,.none]} }:=I3.kept λb _ q=>uB _ q
 obtain⟨T,id,hT,ht,hg⟩:=hr _ {z with heap:=z.heap.push {cls:=.type "slice",data:=.fields #[vl,vu,.none]} } Y _ x v _ _ l u _ Q I4 r1 (Heap.IsSliceOf.new ..) pl pu q3;exact tail_any ht hT hg (by rfl)
def Hj(xs:List V)(lo hi:Option Int):List V:=(xs.drop (HT.sIx xs.length 0 lo)).take (HT.sIx xs.length xs.length hi-HT.sIx xs.length 0 lo)
def O2(xs:List V)(lo hi:Option Int):(Hj xs lo hi).length<=xs.length:=by
 unfold Hj;rw[zH,length_drop];omega
def Ahm(K:FA):V->Option Int->Option Int->Hp->VK->Prop:=λx lo hi H Q=>∃a xs,x=.ref a/\SqT K H a xs /\
 ¬(HT.sIx xs.length 0 lo=0/\HT.sIx xs.length xs.length hi=xs.length)/\∀p,H p=none->Q (.ref p) (upd H p (.tup (Hj xs lo hi)))
def Af7:SlR X (Ahm X.K):=by
 intro pins s Y H x v _ _ lo hi _ Q I rx hs pl pu h;obtain⟨a,xs,rfl,hx,hw,q⟩:=h;cases rx
 obtain⟨a1,r,ht,hz⟩:=I.tuple hx;have z:a1.toArray.size=xs.length:=by exact r.length.symm
 refine⟨"tuple",_,PyProof.Rows.slot_tuple_getitem.lookup,ht.typeIs,?_⟩;refine HT.AcM ht hs pl pu (by rw[z];exact hw) ?_ (by rw[z];exact hz);rw[z];refine⟨.ref s.heap.objs.size,_,I.laid (λb _ q=>uB _ q) (zB _) ?_,Z,q _ (I.hok.fresh (zB _))⟩;exact⟨zA (O2 _ _ _) hz,_,(r.drop _).take _,IsTup.new _ _⟩
def AhI(K:FA):R2:=λx y H Q=>∃a b xs ys,x=.ref a/\y=.ref b/\SqT K H a xs/\SqT K H b ys/\xs≠[]/\xs.length+ys.length<=sizeLine /\
 (ys=[]->Q (.ref a) H)/\(ys≠[]->∀p,H p=none->Q (.ref p) (upd H p (.tup (xs++ys))))
def A0.nil_iff(r:A0 xs us):us=[]↔xs=[]:=by
 cases r with
 |nil=>simp
 |cons _ _=>simp
def Adx:OpR X (binaryOp .Add) (AhI X.K):=by
 intro pins s Y H x y v u Q I rx ry h;obtain⟨a,b,xs,ys,rfl,rfl,ha,hb,hx,hz,q1,q2⟩:=h;cases rx
 cases ry
 obtain⟨a2,r1,p1,_⟩:=I.tuple ha;obtain⟨a1,r2,p2,_⟩:=I.tuple hb;refine HT.AiV p1 p2 (λz=>hx (r1.nil_iff.mp z)) (λz=>⟨.ref a,H,I,Z,q1 (r2.nil_iff.mp z)⟩) (λz=>?_) (by rw[<-r1.length,<-r2.length];exact hz);refine⟨.ref s.heap.objs.size,_,I.laid (λb _ q=>uB _ q) (zB _) ?_,Z,q2 (λw=>z (r2.nil_iff.mpr w)) _ (I.hok.fresh (zB _))⟩;exact⟨by rw[vF];exact hz,_,r1.append r2,IsTup.new _ _⟩
end
def ixN(n:Nat)(i:Int):Option Nat:=if 0<=i then(if i<n then some i.toNat else none) else if -(n:Int)<=i then some (i+n).toNat else none
def atI{α:Type}(xs:List α)(i:Int):Option α:=(ixN xs.length i).bind λj=>xs[j]?
def Xr{i:Int}{j:Nat}(h:ixN n i=j):seqIndex? i n=j/\j<n/\-(n:Int)<=i/\i<n:=by
 unfold ixN at h
 by_cases h0:0<=i
 .rw[if_pos h0]at h
  by_cases h1:i<n
  .rw[if_pos h1]at h
   have e:=uH h;exact⟨by rw[seqIndex_of h0 h1,e],by omega,by omega,h1⟩
  .simp_all
 .rw[if_neg h0]at h
  by_cases h1:-n<=i
  .rw[if_pos h1]at h
   have e:=uH h;exact⟨by rw[seqIndex_neg (by omega) h1,e],by omega,h1,by omega⟩
  .simp_all
def Yw{z:Type}{xs:List z}{i:Int}{v:z}(h:atI xs i=v):∃j,seqIndex? i xs.length=some j/\xs[j]?=v/\j<xs.length/\-(xs.length:Int)<=i/\i<xs.length:=by
 unfold atI at h;cases e:ixN _ i with
 |none=>rw[e]at h;cases h
 |some j=>
  rw[e]at h;obtain⟨h1,h2,h3,h4⟩:=Xr e;exact⟨j,h1,h,h2,h3,h4⟩
def Aa{z:Type}{xs:List z}{j:Nat}{v:z}(h:xs[j]?=v):atI xs (j:Int)=v:=by
 have hj:=(uA.mp h).1
 have e:ixN xs.length j=j:=by
  unfold ixN;rw[if_pos (by omega),if_pos (by omega)];simp
 unfold atI;rw[e];exact h
def Aez(b:Expr):Prop:=∀o i,subscripted b false o i=operate [o,i] (getItem o i)
def IxR(X:Cx)(r:R2):Prop:=
 ∀(value slice:Expr)(pins:List (Addr×Obj))(s:Shared)(Y:St)(H:Hp)(x y:V)(v u:Value)(Q:VK),Inv X pins Y H s->A2 x v->A2 y u->r x y H Q ->
  subscripted slice false v u=operate [v,u] (getItem v u)->wpAny (model X.prog X.w) X.A (subscriptTail value slice v u) (EP X pins Y Q) X.xe s
def MtR(X:Cx)(id:String)(r:V->List V->Hp->VK->Prop):Prop:=
 ∀(pins:List (Addr×Obj))(s:Shared)(Y:St)(H:Hp)(x:V)(xs:List V)(v:Value)(us:List Value)(Q:VK),Inv X pins Y H s->A2 x v->A0 xs us->r x xs H Q ->
  wpAny (model X.prog X.w) X.A (call (.builtin id) (v::us)) (EP X pins Y Q) X.xe s
section
variable{a b:Expr}
def B7{r:R2}(hr:IxR X r)(ha:PE X a ta)(z:PE X b tb)(hs:Aez b):PE X (.Subscript a b pos) (tOp r ta tb):=by
 intro pins s Y H Q I h;exact Subscript_ (Ach ha z I h λv u s2 x y H2 I2 rx ry q=>hr a b _ _ Y _ x y v u Q I2 rx ry q (hs _ _))
inductive Aas(K:FA)(H:Hp)(Q:VK):V->V->Prop
 |mk{p xs i v}(_:SqL K H p xs)(_:atI xs i=some v)(_:Q v H):Aas K H Q (.ref p) (.int i)
def Ri(K:FA):R2:=λx y H Q=>Aas K H Q x y
inductive Abk(K:FA)(H:Hp)(Q:VK):V->V->Prop
 |mk{p xs i v}(_:SqT K H p xs)(_:atI xs i=some v)(_:Q v H):Abk K H Q (.ref p) (.int i)
def E3(K:FA):R2:=λx y H Q=>Abk K H Q x y
def B0:IxR X (Ri X.K):=by
 intro value _ pins s Y H x y v u Q I rx ry h hs;obtain @⟨p,xs,i,z,hq,he,q⟩:=h;cases rx
 obtain⟨t,rfl⟩:=ry;obtain⟨a2,r,pl,hz⟩:=I.list hq;obtain⟨j,h1,h2,h3,h4,h5⟩:=Yw he;obtain⟨w,ew,a3⟩:=r.get h2;have hl:=r.length;have hn:=Lq;have a1:EP X _ Y Q w s:=⟨z,H,I,a3,q⟩
 by_cases h0:0<=i
 .have hj:=by
   rw[seqIndex_of h0 h5]at h1;exact uH h1
  exact item_listR pl.isList h0 (by omega) (by rw[hj];simpa using ew) a1 hs
 .have hj:(i+a2.toArray.size).toNat=j:=by
   rw[seqIndex_neg (by omega) h4]at h1;rw[vP,<-hl];exact uH h1
  exact subscriptTail_builtinR pl.isList.typeIs slot_list_getitem.lookup
   (wpAny_getItem_list_neg pl.isList (by omega) (by rw[vP]<;>omega) (by omega) (by rw[hj];simpa using ew) ⟨Z,a1⟩) hs
def Lr:IxR X (E3 X.K):=by
 intro value _ pins s Y H x y v u Q I rx ry h hs;obtain @⟨p,xs,i,z,hq,he,q⟩:=h;cases rx
 obtain⟨t,rfl⟩:=ry;obtain⟨a4,r,pl,hz⟩:=I.tuple hq;obtain⟨j,h1,h2,h3,h4,h5⟩:=Yw he;obtain⟨w,ew,a2⟩:=r.get h2;have hn:=Lq;have a1:EP X _ Y Q w s:=⟨z,H,I,a2,q⟩
 exact subscriptTail_builtinR pl.typeIs slot_tuple_getitem.lookup
  (getItem_tuple pl (by omega) (by omega) (by rw[vP,<-r.length];exact h1) (by simpa using ew) ⟨Z,a1⟩) hs
def Aac(z:List Value)(n j:Nat)(u:Value):Obj.mapSeq (·.setIfInBounds j u) {cls:=.type "list",data:=.seq z.toArray n} = {cls:=.type "list",data:=.seq (z.set j u).toArray n}:=by
 simp[Obj.mapSeq]
def Inv.lst{pins:List (Addr×Obj)}{Y:St}{H:Hp}{s:Shared}{p:Addr}{xs:List V}(I:Inv X pins Y H s)(h:H p=some (.lst xs)) :
  ∃(a1:List Value)(n:Nat),A0 xs a1/\s.heap.get? p=some {cls:=.type "list",data:=.seq a1.toArray n}/\xs.length<=sizeLine:=by
 obtain⟨z,a1,n,r,e⟩:=I.hok p _ h;exact⟨a1,n,r,e,z⟩
def Inv.lstUpd{s:Shared}{p:Addr}{ys:List V}{z its':List Value}{n':Nat}{f:Obj->Obj}(I:Inv X pins Y H s)(h:H p=some (.lst xs))
  (ho:s.heap.get? p=some {cls:=.type "list",data:=.seq z.toArray n}) (hf:f {cls:=.type "list",data:=.seq z.toArray n} = {cls:=.type "list",data:=.seq its'.toArray n' }) (r:A0 ys its') (hz:ys.length<=sizeLine) (t:Nat) :
  Inv X pins Y (upd H p (.lst ys)) {s with heap:=s.heap.update p f,toks:=t}:=by
 have e:(s.heap.update p f).get? p=some {cls:=.type "list",data:=.seq its'.toArray n' }:=by
  rw[uX f ho (by rw[hf]<;>rfl),hf]
 refine I.write (by rw[h];trivial) (.inl rfl) (λb u hb q=>(uN _ _ (Ne.symm hb)).trans q) ⟨_,e⟩ ?_;exact⟨hz,its',n',r,e⟩
inductive X8(o i v:V)(H:Hp)(Q:Hp->Prop):Prop
 |mk(p:Addr)(xs:List V)(k:Int)(j:Nat)(_:o=.ref p)(_:i=.int k)(_:H p=some (.lst xs))(_:ixN xs.length k=some j)(_:Q (upd H p (.lst (xs.set j v))))
def AhH:V->V->V->Hp->(Hp->Prop)->Prop:=λo i v H Q=>X8 o i v H Q
def Pn:AfQ X AhH:=by
 intro pins s Y H o i v _ _ u Q I ro ri rv h;obtain⟨p,xs,k,j,rfl,rfl,hp,hj,q⟩:=h;cases ro
 obtain⟨t,rfl⟩:=ri;obtain⟨z,n,r,ho,hz⟩:=I.lst hp;obtain⟨h1,h2,h3,h4⟩:=Xr hj;have hl:=r.length;have hn:=Lq
 have I':=
  I.lstUpd hp ho (Aac z n j u) (r.set rv j) (by rw[zN];exact hz) s.toks
 by_cases h0:0<=k
 .have hk:k.toNat=j:=by
   rw[seqIndex_of h0 h4]at h1;exact uH h1
  exact PySem.W.ki_setAt ho h0 (by omega) (by rw[vP,<-hl];exact h4) (by rw[hk];exact⟨_,I',q⟩)
 .have hk:(k+z.toArray.size).toNat=j:=by
   rw[seqIndex_neg (by omega) h3]at h1;rw[vP,<-hl];exact uH h1
  exact PySem.W.ki_setBack ho (by omega) (by rw[vP,<-hl];exact h3) (by omega) (by rw[hk];exact⟨_,I',q⟩)
def Wa(lo hi:Option Int)(n:Nat):(sliceBounds lo hi none n).1=((HT.sIx n 0 lo:Nat):Int)/\(sliceBounds lo hi none n).2.1=((HT.sIx n n hi:Nat):Int)/\(sliceBounds lo hi none n).2.2=1:=by
 refine⟨?_,?_,Z⟩
 .cases lo with
  |none=>simp[sliceBounds,HT.sIx]
  |some i=>
   simp[sliceBounds,HT.sIx,if_true]
   by_cases h:i<0
   .simp only[h,if_true]<;>omega
   .simp only[h,if_false]<;>omega
 .cases hi with
  |none=>simp[sliceBounds,HT.sIx]
  |some i=>
   simp[sliceBounds,HT.sIx,if_true]
   by_cases h:i<0
   .simp only[h,if_true]<;>omega
   .simp only[h,if_false]<;>omega
def Ts(z:List Value)(lo hi:Option Int):slicePick z.toArray lo hi none=((z.drop (HT.sIx z.length 0 lo)).take (HT.sIx z.length z.length hi-HT.sIx z.length 0 lo)).toArray:=by
 obtain⟨h1,h2,h3⟩:=Wa _ _ _;unfold slicePick;rw[h1,h2,h3];simp only[sliceRange_one,pick_run]<;>rfl
def Aht(K:FA):V->Option Int->Option Int->Hp->VK->Prop:=λx lo hi H Q=>∃a xs,x=.ref a/\SqL K H a xs/\∀p,H p=none->Q (.ref p) (upd H p (.lst (Hj xs lo hi)))
def Yv:SlR X (Aht X.K):=by
 intro pins s Y H x v _ _ lo hi _ Q I rx hs pl pu h;obtain⟨a,xs,rfl,hx,q⟩:=h;cases rx
 obtain⟨a1,r,ht,hz⟩:=I.list hx;have z:=r.length;refine⟨"list",_,slot_list_getitem.lookup,ht.isList.typeIs,?_⟩;refine wpAny_getItem_list_slice ht.isList hs pl pu .none (by simp) ?_ (by rw[vP]<;>omega);rw[Ts,<-z];refine⟨.ref s.heap.objs.size,_,I.laid (λb _ q=>uB _ q) (zB _) ?_,Z,q _ (I.hok.fresh (zB _))⟩;exact⟨zA (O2 _ _ _) hz,_,0,(r.drop _).take _,uF _ rfl⟩
def G9:V->Bool
 |.non=>true
 |.bl _=>true
 |.int _=>true
 |.str _=>true
 |_=>false
def eqV:V->V->Bool
 |.non,.non=>true
 |.bl a,.bl b=>a==b
 |.bl a,.int b=>(if a then 1 else 0)==b
 |.int a,.bl b=>a==(if b then 1 else 0)
 |.int a,.int b=>a==b
 |.str a,.str b=>a==b
 |_,_=>false
def Abh{s:Shared}{y x:V}{v:Value}(ry:A2 y u)(z:A2 x v)(fy:G9 y)(fx:G9 x):SeqAt.EqAt A s u v (eqV y x):=by
 cases y with
 |non=>
  cases ry
  cases x with
  |non=>cases z;exact SeqAt.EqAt.same _
  |bl b=>cases z;exact SeqAt.EqAt.none_bool b
  |int b=>obtain⟨t,rfl⟩:=z;exact SeqAt.EqAt.none_int b t
  |str b=>obtain⟨t,rfl⟩:=z;exact SeqAt.EqAt.none_str b t
  |_=>exact absurd (fx) qc
 |bl a=>
  cases ry
  cases x with
  |non=>cases z;exact SeqAt.EqAt.bool_none a
  |bl b=>cases z;exact SeqAt.EqAt.bool_bool a b
  |int b=>obtain⟨t,rfl⟩:=z;exact SeqAt.EqAt.bool_int a b t
  |str b=>obtain⟨t,rfl⟩:=z;exact SeqAt.EqAt.bool_str a b t
  |_=>exact absurd (fx) qc
 |int a=>
  obtain⟨t',rfl⟩:=ry;cases x with
  |non=>cases z;exact SeqAt.EqAt.int_none a _
  |bl b=>cases z;exact SeqAt.EqAt.int_bool a _ b
  |int b=>obtain⟨t,rfl⟩:=z;exact SeqAt.EqAt.int_int a _ b t
  |str b=>obtain⟨t,rfl⟩:=z;exact SeqAt.EqAt.int_str a _ b t
  |_=>exact absurd (fx) qc
 |str a=>
  obtain⟨t',rfl⟩:=ry;cases x with
  |non=>cases z;exact SeqAt.EqAt.str_none a _
  |bl b=>cases z;exact SeqAt.EqAt.str_bool a _ b
  |int b=>obtain⟨t,rfl⟩:=z;exact SeqAt.EqAt.str_int a _ b t
  |str b=>obtain⟨t,rfl⟩:=z;exact SeqAt.EqAt.str_str a _ b t
  |_=>exact absurd (fx) qc
 |_=>exact absurd (fy) qc
def eqU(x:V)(u:Value):Bool:=match u with
 |.none=>eqV .non x
 |.bool b=>eqV (.bl b) x
 |.int i _=>eqV (.int i) x
 |.str z _=>eqV (.str z) x
 |_=>false
def Va{x y:V}(r:A2 y u)(f:G9 y):eqU x u=eqV y x:=by
 cases y with
 |non=>cases r;rfl
 |bl b=>cases r;rfl
 |int i=>obtain⟨t,rfl⟩:=r;rfl
 |str z=>obtain⟨t,rfl⟩:=r;rfl
 |_=>exact absurd (f) qc
theorem Ly{x:V}:∀{xs:List V}{us:List _},A0 xs us->xs.all G9->us.any (eqU x)=xs.any λy=>eqV y x
 |_,_,.nil,_=>rfl
 |y::xs,u::us,.cons r t,f=>by
  rw[all_cons,vA]at f;rw[any_cons,any_cons,Va r f.1,Ly t f.2]
theorem I0{s:Shared}{x:V}{v:Value}(z:A2 x v)(fx:G9 x):∀{xs:List V}{us:List _},A0 xs us->xs.all G9->∀u∈us,SeqAt.EqAt A s u v (eqU x u)
 |_,_,.nil,_=>λu hu=>by cases hu
 |y::xs,u::us,.cons r t,f=>λu' hu=>by
  rw[all_cons,vA]at f;rcases zM.mp hu with rfl|hu
  .rw[Va r f.1];exact Abh r z f.1 fx
  .exact I0 z fx t f.2 _ hu
def inV(x:V)(xs:List V):Bool:=xs.any λy=>eqV y x
inductive Adr(K:FA)(neg:Bool)(x y:V)(H:Hp)(Q:VK):Prop
 |mk(p)(xs:_)(_:y=.ref p)(_:(SqL K H p xs\/SqT K H p xs))(_:G9 x=true)(_:xs.all G9=true)(_:Q (.bl (if neg then !inV x xs else inV x xs)) H)
def rIn(K:FA)(neg:Bool):R2:=λx y H Q=>Adr K neg x y H Q
def Bz:OpR X (compareOp .In) (rIn X.K false):=by
 intro pins s Y H x y v u Q I rx ry h;obtain⟨p,xs,rfl,hq,fx,fs,q⟩:=h;cases ry
 rcases hq with hq|hq
 .obtain⟨z,r,pl,hz⟩:=I.list hq
  refine SeqAt.in_listAt _ pl.isList (λw hw=>I0 rx fx r fs w (by simp_all)) ⟨.bl _,H,I,Z,?_⟩;rw[show z.toArray.any _=z.any (eqU x) by simp,Ly r fs];exact q
 .obtain⟨z,r,pl,hz⟩:=I.tuple hq
  refine SeqAt.in_tupleAt _ pl (λw hw=>I0 rx fx r fs w (by simp_all)) ⟨.bl _,H,I,Z,?_⟩;rw[show z.toArray.any _=z.any (eqU x) by simp,Ly r fs];exact q
def Ww:OpR X (compareOp .NotIn) (rIn X.K true):=by
 intro pins s Y H x y v u Q I rx ry h;obtain⟨p,xs,rfl,hq,fx,fs,q⟩:=h;cases ry
 rcases hq with hq|hq
 .obtain⟨z,r,pl,hz⟩:=I.list hq
  refine SeqAt.notIn_listAt _ pl.isList (λw hw=>I0 rx fx r fs w (by simp_all)) ⟨.bl _,H,I,Z,?_⟩;rw[show z.toArray.any _=z.any (eqU x) by simp,Ly r fs];exact q
 .obtain⟨z,r,pl,hz⟩:=I.tuple hq
  refine SeqAt.notIn_tupleAt _ pl (λw hw=>I0 rx fx r fs w (by simp_all)) ⟨.bl _,H,I,Z,?_⟩;rw[show z.toArray.any _=z.any (eqU x) by simp,Ly r fs];exact q
def Ug:Gm X (.builtin "len") (λxs H Q=>∃p ys,xs=[.ref p]/\(SqL X.K H p ys\/SqT X.K H p ys)/\Q (.int ys.length) H):=by
 intro pins s Y H _ _ Q I r h;obtain⟨p,ys,rfl,hq,q⟩:=h;obtain⟨u,rfl,rx⟩:=Q6 r;cases rx
 have hn:=Lq;rcases hq with hq|hq
 .obtain⟨a1,r',pl,hz⟩:=I.list hq
  have z:=r'.length;exact Calls.call_len_list pl.isList (by simp only[vP]<;>omega) ⟨.int ys.length,H,I.tok _,⟨s.toks+1,by rw[vP,z]⟩,q⟩
 .obtain⟨a1,r',pl,hz⟩:=I.tuple hq
  have z:=r'.length;exact len_tuple pl (by simp only[vP]<;>omega) ⟨.int ys.length,H,I.tok _,⟨s.toks+1,by rw[vP,z]⟩,q⟩
def Ng:Gm X (.type "list") (λxs H Q=>∃p ys,xs=[.ref p]/\(SqL X.K H p ys\/SqT X.K H p ys)/\∀l,H l=none->Q (.ref l) (upd H l (.lst ys))):=by
 intro pins s Y H _ _ Q I r h;obtain⟨p,ys,rfl,hq,q⟩:=h;obtain⟨u,rfl,rx⟩:=Q6 r;cases rx
 have a1:∀z,A0 _ z->ys.length<=sizeLine->∀(h':Heap)c',_ ->
   h'.get? _=some {cls:=.type "list",dict:=none,data:=.seq z.toArray _,slots:=#[]}->EP X _ Y Q _ {s with heap:=h' }:=λz r' hz h' c' kp e=>
  ⟨.ref s.heap.objs.size,_,I.laid kp (zB _) (show B3 _ _ _ _ _ (.lst ys) from⟨hz,z,c',r',e⟩),Z,q _ (I.hok.fresh (zB _))⟩
 rcases hq with hq|hq
 .obtain⟨z,r',pl,hz⟩:=I.list hq
  have a2:=r'.length;obtain⟨o,ho,hc,n,hd⟩:=pl.isList;exact call_list_seq p (.inl rfl) ho hc hd (λh' c' kp e=>a1 z r' hz _ _ kp e) (by simp only[vP]<;>omega)
 .obtain⟨z,r',pl,hz⟩:=I.tuple hq
  have a2:=r'.length;obtain⟨o,ho,hc,n,hd⟩:=pl;exact call_list_seq p (.inr rfl) ho hc hd (λh' c' kp e=>a1 z r' hz _ _ kp e) (by simp only[vP]<;>omega)
def Hd:Gm X (.type "tuple") (λxs H Q=>∃p ys,xs=[.ref p]/\((SqL X.K H p ys/\∀l,H l=none->Q (.ref l) (upd H l (.tup ys)))\/(SqT X.K H p ys/\Q (.ref p) H))):=by
 intro pins s Y H _ _ Q I r h;obtain⟨p,ys,rfl,h⟩:=h;obtain⟨u,rfl,rx⟩:=Q6 r;cases rx
 rcases h with⟨hq,q⟩|⟨hq,q⟩
 .obtain⟨z,r',pl,hz⟩:=I.list hq
  have a1:=r'.length;refine call_tuple_list pl.isList (λh' kp=>?_) (by simp<;>omega);have I1:=I.kept (t':=s.toks) kp
  have I2:=
   I1.laid (t':=s.toks) (λb o e=>uB _ e) (zB _) (show B3 _ _ _ _ _ (.tup ys) from⟨hz,z,r',IsTup.new _ _⟩)
  exact⟨.ref h'.objs.size,_,I2,Z,q _ (I1.hok.fresh (zB _))⟩
 .obtain⟨z,r',pl,hz⟩:=I.tuple hq
  exact call_tuple_same pl ⟨.ref p,H,I,Z,q⟩
def tyV(K:FA)(T:String)(x:V)(H:Hp):Prop:=match x with
 |.str _=>T ="str"
 |.int _=>T ="int"
 |.ref p=>(T ="list" /\ ∃xs,SqL K H p xs)\/(T ="tuple" /\ ∃o,K.lookup p=some o/\o.cls=.type "tuple" /\ o.dict=none) \/
   (T ="dict" /\ ((∃kvs,H p=some (.dK kvs))\/∃kvs,H p=some (.dT kvs)))\/(T ="set" /\ ∃S n,H p=some (.set S n))
 |_=>False
def AcK{s:Shared}{T:String}{x:V}{v:Value}(I:Inv X pins Y H s)(r:A2 x v)(ty:tyV X.K T x H) :
  s.TypeIs v T/\∀a,v=.ref a->∃ob,s.heap.get? a=some ob/\ob.dict=none:=by
 cases x with
 |str z=>
  obtain⟨t,rfl⟩:=r;cases (ty)
  exact⟨typeIs_str s z t,λ_ e=>nomatch e⟩
 |int i=>
  obtain⟨t,rfl⟩:=r;cases (ty)
  exact⟨typeIs_int s i t,λ_ e=>nomatch e⟩
 |ref p=>
  cases r
  rcases ty with⟨rfl,xs,hq⟩|⟨rfl,o,hk,hc,hd⟩|⟨rfl,hk⟩|⟨rfl,S,n,hk⟩
  .obtain⟨a1,_,pl,_⟩:=I.list hq
   refine⟨pl.isList.typeIs,λa e=>?_⟩;cases e
   obtain⟨o,n,e,c,hd,_⟩:=pl;exact⟨o,e,hd⟩
  .refine⟨⟨o,I.kIn p o hk,hc⟩,λa e=>?_⟩
   cases e
   exact⟨o,I.kIn _ o hk,hd⟩
  .have z:∃o,s.heap.get? p=some o/\o.ExactDict:=by
    rcases hk with⟨kvs,hk⟩|⟨kvs,hk⟩
    .obtain⟨_,_,_,_,o,_,_,e,ex,_⟩:=I.hok p _ hk
     exact⟨o,e,ex⟩
    .obtain⟨_,_,_,_,o,_,_,e,ex,_⟩:=I.hok p _ hk
     exact⟨o,e,ex⟩
   obtain⟨o,e,ex⟩:=z;refine⟨⟨o,e,ex.1⟩,λa e2=>?_⟩;cases e2
   exact⟨o,e,ex.2.1⟩
  .obtain⟨o,_,_,_,e,ex,_⟩:=I.hok p _ hk
   refine⟨⟨o,e,ex.1⟩,λa e2=>?_⟩;cases e2
   exact⟨o,e,ex.2.1⟩
 |_=>exact False.elim ty
def AiI(K:FA)(T:String)(r:V->List V->Hp->VK->Prop)(to:TE):TE:=λY H Q=>to Y H λx H1=>tyV K T x H1/\r x [] H1 Q
def tBM(K:FA)(T:String)(r:V->List V->Hp->VK->Prop)(to:TE)(t:TA):TE:=λY H Q=>to Y H λx H1=>tyV K T x H1/\t Y H1 λxs H2=>r x xs H2 Q
variable{o:Expr}{to:TE}{t:TA}{name:Str}{cpos:Pos}{T id:String}{r:V->List V->Hp->VK->Prop}
def No(pa:PlainAttrs T)(slot:Slot T name id)(a2:typeOf (.builtin id)=pure (.type "method_descriptor"))(hm:MtR X id r)(ho:PE X o to)
  (a1:attributeBase o name X.env (eval o X.env)=eval o X.env:=by rfl) (z:(apos.endLine==cpos.line)=true:=by rfl):PE X (.Call (.Attribute o name apos) [] [] cpos) (AiI X.K T r to):=by
 intro pins s Y H Q I h;refine wpAny_Call_method0_late a1 z (thn (ho _ s Y H _ I h) λv s1 ⟨x,H1,I1,r1,ty,q1⟩=>?_);obtain⟨h1,h2⟩:=AcK I1 r1 ty;exact⟨T,id,pa,slot,a2,h1,h2,Calls.callWith_builtin rfl (PySem.evalArgs_none (hm _ _ Y _ x [] v [] Q I1 r1 .nil q1))⟩
def F2(pa:PlainAttrs T)(slot:Slot T name id)(a4:typeOf (.builtin id)=pure (.type "method_descriptor"))(hm:MtR X id r)(ho:PE X o to)(ha:PA X (e::es) t)
  (a2:attributeBase o name X.env (eval o X.env)=eval o X.env:=by rfl)
  (a3:((backTo cpos (starEach (e::es) X.env)).all (λx=>!x.1)&&(backToKw cpos (keywordEach [] X.env)).all (λx=>x.1.isSome)
   && decide ((e::es).length+([]:List Keyword).length+(if ([]:List Keyword).isEmpty then 0 else 1)<30))=true:=by rfl)
  (a1:(apos.endLine==cpos.line)=true:=by rfl) (hs:starEach (e::es) X.env=(false,eval e X.env)::starEach es X.env:=by rfl) (z:(backTo cpos (starEach es X.env)).any (·.1)=false:=by rfl) :
  PE X (.Call (.Attribute o name apos) (e::es) [] cpos) (tBM X.K T r to t):=by
 intro pins s Y H Q I h;refine wpAny_Call_method_late a2 a3 a1 rfl (thn (ho _ s Y H _ I h) λv s1 ⟨x,H1,I1,r1,ty,q1⟩=>?_);obtain⟨h1,h2⟩:=AcK I1 r1 ty;refine⟨T,id,pa,slot,a4,h1,h2,?_⟩;have hA:=ha cpos _ _ Y _ _ I1 q1;rw[hs]at hA ⊢;refine Calls.callWith_builtin (by show(false || (backTo _ _).any _)=false;rw[z]<;>rfl) (Calls.evalArgs_plain ?_);exact thn hA λus s2 ⟨vs,H2,I2,r2,q2⟩=>hm _ _ Y _ x _ v us Q I2 r1 r2 q2
end
def MtM(X:Cx)(id:String)(r:V->List V->Hp->VK->Prop):Prop:=
 ∀(pins:List (Addr×Obj))(s:Shared)(Y:St)(H:Hp)(x:V)(xs:List V)(v:Value)(us:List Value)(Q:VK),Inv X pins Y H s->A2 x v->A0 xs us->r x xs H Q ->
  wpAny (model X.prog X.w) X.A (call (.builtin id) (v::us)) (EP X pins Y Q) X.xe s
theorem A0.one:∀{x:V}{us:List _},A0 [x] us->∃u,us=[u]/\A2 x u
 |_,_,.cons r .nil=>⟨_,rfl,r⟩
theorem A0.two:∀{x y:V}{us:List _},A0 [x,y] us->∃u v,us=[u,v]/\A2 x u/\A2 y v
 |_,_,_,.cons r (.cons q .nil)=>⟨_,_,rfl,r,q⟩
theorem A0.zero:∀{us:List _},A0 [] us->us=[]
 |_,.nil=>rfl
def A0.dropLast(h:A0 xs us):A0 xs.dropLast us.dropLast:=by
 induction h with
 |nil=>exact .nil
 |cons r t z=>
  cases t with
  |nil=>exact .nil
  |cons q _=>exact .cons r z
def Zz{z:Type}(l:List z):l.eraseIdx (l.length-1)=l.dropLast:=by
 simp
section
variable{s:Shared}{l b:Addr}{ys zs:List V}
def Inv.lset{z its':List Value}{f:Array Value->Array Value}{t':Nat}(I:Inv X pins Y H s)(hH:H l=some (.lst xs))
  (e:s.heap.get? l=some {cls:=.type "list",data:=.seq z.toArray n}) (hf:f z.toArray=its'.toArray) (hv:A0 ys its') (hz:ys.length<=sizeLine) :
  Inv X pins Y (upd H l (.lst ys)) {s with heap:=s.heap.update l (Obj.mapSeq f),toks:=t' }:=by
 have q:=PySem.IsL.update e f;rw[hf]at q;refine I.write (by rw[hH];exact trivial) (.inl rfl) (λb' u hb hu=>(uN _ _ (Ne.symm hb)).trans hu) ⟨_,q⟩ ?_;exact⟨hz,its',_,hv,q⟩
def Inv.lnew{z:List Value}{t':Nat}(I:Inv X pins Y H s)(hv:A0 ys z)(hz:ys.length<=sizeLine) :
  Inv X pins Y (upd H s.heap.objs.size (.lst ys)) {s with heap:=s.heap.push {cls:=.type "list",data:=.seq z.toArray},toks:=t' }:=
 I.laid (λ_ _ q=>uB _ q) (zB _) ⟨hz,z,0,hv,uF _ rfl⟩
def Inv.fresh(I:Inv X pins Y H s):H s.heap.objs.size=none:=I.hok.fresh (zB _)
def Inv.lstM(I:Inv X pins Y H s)(hH:H l=some (.lst xs)):xs.length<=sizeLine/\∃(a1:List Value)(n:Nat),A0 xs a1/\xs.length=a1.length/\s.heap.get? l=some {cls:=.type "list",data:=.seq a1.toArray n}:=by
 obtain⟨z,a1,n,r,e⟩:=I.hok l _ hH;exact⟨z,a1,n,r,r.length,e⟩
def AdP(h:n<=sizeLine):Builtin.List.listTooLong n=false:=by
 exact vM (by omega)
end
inductive Sc(x:V)(vs:List V)(H:Hp)(Q:VK):Prop
 |mk(l:Addr)(xs:List V)(y:V)(_:x=.ref l)(_:vs=[y])(_:H l=some (.lst xs))(_:xs.length<sizeLine)(_:Q .non (upd H l (.lst (xs++[y]))))
def Aey:V->List V->Hp->VK->Prop:=λx vs H Q=>Sc x vs H Q
def Da:MtM X "list.append" Aey:=by
 intro pins s Y H x _ v _ Q I rx rv h;obtain⟨l,xs,y,rfl,rfl,hH,hz,q⟩:=h;cases rx
 obtain⟨u,rfl,ru⟩:=rv.one;obtain⟨z,a1,n,r,hl,e⟩:=I.lstM hH;refine call_meets F.slot_list_append ⟨_,e,Z⟩ F.entry_list_append (F.args_list_append_2 _ _) (PySem.list_append l _ n u (by rw[vP];omega)) ⟨e,?_⟩;refine⟨.non,_,I.lset hH e (by simp) (r.append (.cons ru .nil)) ?_,Z,q⟩;rw[vF,vG];omega
def Aei:V->List V->Hp->VK->Prop:=λx vs H Q=>∃l b xs zs,x=.ref l/\vs=[.ref b]/\H l=some (.lst xs)/\H b=some (.lst zs)/\xs.length+zs.length<=sizeLine/\Q .non (upd H l (.lst (xs++zs)))
def Aby:MtM X "list.extend" Aei:=by
 intro pins s Y H x _ v _ Q I rx rv h;obtain⟨l,b,xs,zs,rfl,rfl,hH,hB,hz,q⟩:=h;cases rx
 obtain⟨u,rfl,ru⟩:=rv.one;cases ru
 obtain⟨z,a2,n,r,hl,e⟩:=I.lstM hH;obtain⟨z2,a1,n2,r2,a4,e2⟩:=I.lstM hB;have hsz:a2.toArray.size+a1.toArray.size<=sizeLine:=by rw[vP,vP];omega
 have a3:¬(!a2.toArray.isEmpty&&Builtin.List.listTooLong (a2.toArray.size+a1.toArray.size)):=by
  rw[AdP hsz,Bool.and_false];exact qc
 refine call_meets F.slot_list_extend ⟨_,e,Z⟩ F.entry_list_extend (F.args_list_extend_2 _ _)
  (AutoSeq1.list_extend_list_list_0 l _ n b _ _ a3 (by rw[vP];omega) (by omega)) ⟨e,e2,?_⟩
 refine⟨.non,_,I.lset hH e (by simp) (r.append r2) ?_,Z,q⟩;rw[vF];omega
def Ah0:V->List V->Hp->VK->Prop:=λx vs H Q=>∃l xs y,x=.ref l/\vs=[]/\H l=some (.lst xs)/\xs[xs.length-1]?=some y/\Q y (upd H l (.lst xs.dropLast))
def Nh:MtM X "list.pop" Ah0:=by
 intro pins s Y H x _ v _ Q I rx rv h;obtain⟨l,xs,y,rfl,rfl,hH,hy,q⟩:=h;cases rx
 have a3:=rv.zero;subst a3;obtain⟨z,a1,n,r,hl,e⟩:=I.lstM hH;obtain⟨u,hu,ru⟩:=r.get hy
 have a2:=by
  show a1.toArray[a1.length-1]?=u
  rw[<-Array.getElem?_toList,<-hl];exact hu
 refine call_meets F.slot_list_pop ⟨_,e,Z⟩ F.entry_list_pop (F.args_list_pop_1 _) (MeetsSeq.list_pop_last l _ n u a2 (by rw[vP];omega)) ⟨e,?_⟩;refine⟨y,_,I.lset hH e ?_ r.dropLast ?_,ru,q⟩
 .simp
 .rw[List.length_dropLast]
  omega
inductive AcB  (x y:V) (H:Hp) (Q:VK):Prop
 |mk(l)(b)(xs:_)(zs)(_:x=.ref l)(_:y=.ref b)(_:H l=some (.lst xs))(_:H b=some (.lst zs))(_:xs.length+zs.length<=sizeLine)(_:∀p,H p=none->Q (.ref p) (upd H p (.lst (xs++zs)))):AcB  x y H Q
def AaN:R2:=λx y H Q=>AcB  x y H Q
def Ck:OpR X (binaryOp .Add) AaN:=by
 intro pins s Y H x y v u Q I rx ry h;obtain⟨l,b,xs,zs,rfl,rfl,hH,hB,hz,q⟩:=h;cases rx
 cases ry
 obtain⟨z,a2,n,r,hl,e⟩:=I.lstM hH;obtain⟨z2,a1,n2,r2,a3,e2⟩:=I.lstM hB;refine PySem.P.add_list e e2 ?_ (by rw[vP,vP];omega);have ea:a2.toArray++a1.toArray=(a2++a1).toArray:=by simp
 rw[ea];exact⟨.ref _,_,I.lnew (r.append r2) (by rw[vF];omega),Z,q _ I.fresh⟩
section
variable{s:Shared}
end
end L2
namespace Att
open PySem PySem.W PySem.Calls PyProof.Rows
def Qc{P:Params} :∀(ns:List Int)(vs:List Value),WellAll P h vs (ns.map WData.int)->IntsAre vs ns:=by
 intro ns
 induction ns with
 |nil=>
  intro vs w;cases w
  exact .nil
 |cons n _ z=>
  intro vs w;cases w with
  |cons a b=>
   cases a
   exact .cons _ _ (z _ b)
def Aaz{l:OpenLaw}(hn:l.most=n){P:Params}{args:List WData}{z:List Value}
  (a1:l.row.toRowW.claim.pre args) (a5:WellAll P h z args) :
  ∃a vs ns,z=[Value.ref a]/\args=[WData.list (ns.map WData.int)]/\h.get? a=some {cls:=.type "list",data:=.seq vs.toArray}/\IntsAre vs ns/\ns.length<=n:=by
 have a4:WShape.hasAll [] _ [.list .int]:=(pre_splitW a1).1;have hc:l.pre.holds [] {args:=args}:=(pre_splitW a1).2;obtain⟨d,r,rfl,h1,h2⟩:=hasAllW_cons a4;obtain rfl:=hasAllW_nil h2;obtain⟨xs,rfl,h3⟩:=hasW_list h1;obtain⟨ns,rfl⟩:=items_int h3
 have a3:ns.length<=n:=by
  have h4:=by
   have h4:=(holds_andW hc).1;rw[hn]at h4;exact h4
  have h5:=condW_of h4 (w_not (w_lt w_lit (w_len_list (w_arg rfl))));refine Nat.le_of_not_lt λq=>?_
  simp_all
 cases a5 with
 |cons w1 w2=>
  cases w2
  cases w1 with
  |list ho a2=>exact⟨_,_,ns,rfl,rfl,ho,Qc _ _ a2,a3⟩
def AbA(l:OpenLaw)(args:List WData):l.row.toRowW.claim.post args (.bool true) args:=
 postW_of
  (show WShape.has [] _ .bool by rfl)
  (show(WTm.eq .res _).value [] {args:=args,res:=some _,after:=args}=some _ from w_eq_bool (w_res rfl) w_lit) rfl
def AgV{l:OpenLaw}{q:Program}{a1:List Str}{XP:(Str->Option Value)->Heap->Prop}{YP:World->Heap->Prop}{d:DefRec}
  (hn:l.most=n) (a9:d.params.defaults=[])
  (call:∀(w:World)(s₀ z:Shared)(mg mb:Str->Option Value)(fa:Addr)(o:Obj)(pm cd doc:Value)(a:Addr)(vs:List Value)(ns:List Int),
   Ground q a1 [] XP w s₀ mg mb z.heap->YP w z.heap ->
   z.heap.get? fa=o->o.data=.func (docDef d.name d.params d.body d.scope pm cd doc)->z.heap.CodeRec cd d.name->mg d.name=some (.ref fa) ->
   z.heap.get? a=some {cls:=.type "list",data:=.seq vs.toArray}->IntsAre vs ns->ns.length<=n->z.gens = #[] ->
   codeAny (model l.prog w) callerA (.call (.ref fa) ⟨[.ref a],[]⟩) (λr s'=>r=.ok (.ret (.bool true))/\OldK z.heap s'.heap/\s'.os=z.os/\AllBare s'.gens) z) :
  WalkO q a1 XP YP l.row.toRowW d [] (λf vs=>PySem.call f vs):=by
 intro w s₀ z mg mb G Y fa o pm cd doc dV kV ho hd a8 hD a7 hg _ _ _ a4 _ _ a6 _;obtain rfl:dV=.none:=Dflts.none hD a9;obtain rfl:kV=.none:=Dflts.noKw hD;obtain⟨a,vs,ns,rfl,rfl,a5,a2,a3⟩:=Aaz hn a4 a6;refine enter_call (codeAny_mono (call w _ z _ _ _ o _ _ _ a _ _ G Y ho (fd_plain hd) a8 a7 a5 a2 a3 hg) λr _ hq=>?_);obtain⟨rfl,h2,h3,h4⟩:=hq;exact⟨.inl ⟨.bool true,.bool true,[],Z,λ_=>rfl,.bool true,AbA l _,λ_=>⟨Pairwise.nil,λ_ hm=>(nomatch hm)⟩⟩,h2,h3,h4⟩
section
variable{s:Shared}{K:Frag}
def AiZ(h:Heap)(L d:Addr):List (Addr×Obj):=(List.range h.objs.size).filterMap λa=>if a=L\/a=d then none else(h.get? a).map λo=>(a,o)
end
end Att
namespace L2
open PySem PySem.Spec PyProof.Rows
theorem K7:∀{vs:List _}{ns:List _},IntsAre vs ns->A0 (ns.map V.int) vs
 |_,_,.nil=>.nil
 |_,_,.cons n t h=>.cons ⟨t,rfl⟩ (K7 h)
def AdW(H:Hp):Prop:=∀b,H b=none\/∃o xs,H b=some (.frz o (.lst xs))
def AdJ{mb:Str->Option Value}{CX:CXT}{fa:Addr}{a1:Shared}{vs:List Value}{ns:List Int}
  (KX:K.In a1.heap) (a6:a1.heap.Ns mainGlobals mg) (hb:a1.heap.Ns builtinsNs mb) (b4:∀x:Str,x≠ "__name__" -> mb x=bootBuiltins x) (a8:a1.heap.NoLimit) (hg:a1.gens = #[])
  (ha:a1.heap.get? a=some {cls:=.type "list",data:=.seq vs.toArray}) (hi:IntsAre vs ns) (hl:ns.length<=sizeLine) (hr:Cj k callerA)
  (F:∀base:Heap,K.In base->base.Ns mainGlobals mg->Cc P w K mg base CX k fa fd [x] sp) (a5:∀(s:Shared)(u:Value),BindsTo s fd ⟨[u],[]⟩ [(x,u)])
  (b5:∀H:Hp,AdW H->SqL K H a (ns.map V.int)->sp [.ref a] H (λv _=>v=.bl true) λ_ _ _=>False)
  (b3:∀H e s',CX [] H a1 (λ_ _ _=>False) e s'->False) :
  codeAny (model P w) callerA (.call (.ref fa) ⟨[.ref a],[]⟩) (λr s'=>r=.ok (.ret (.bool true))/\OldK a1.heap s'.heap/\s'.os=a1.os/\AllBare s'.gens) a1:=by
 have rv:=K7 hi;have a4:∀H:Hp,AdW H->SqL K H a (ns.map V.int)->HOk P w H a1.heap->(∀b,H b≠none->b=a)->(H a≠none->K.lookup a=none) ->
   codeAny (model P w) callerA (.call (.ref fa) ⟨[.ref a],[]⟩) (λr s'=>r=.ok (.ret (.bool true))/\OldK a1.heap s'.heap/\s'.os=a1.os/\AllBare s'.gens) a1:=by
  intro H hO hS hok hA hK;have a2:∀{b:Addr}{o:Obj},a1.heap.get? b=some o->H b=none->(Mo a1.heap H).get? b=some o:=λe n=>Ack e n
  have b2:∀{b:Addr}{o:Obj}{es:Array DictEntry}{ep:Nat},a1.heap.get? b=some o->o.data=.dict es ep->H b=none:=λ{b o es ep}e d=>by
   cases q:H b with
   |none=>rfl
   |some u=>
    have e':b=a:=hA b (by rw[q];simp);subst e';rw[ha]at e;cases e;have d':Data.seq vs.toArray _=Data.dict es ep:=d;cases d'
  have a3:∀{b:Addr}{m:Str->Option Value},a1.heap.Ns b m->(Mo a1.heap H).Ns b m:=λ{b m} ⟨o,es,ep,e,d,r⟩=>⟨o,es,ep,a2 e (b2 e d),d,r⟩
  have a7:K.In (Mo a1.heap H):=λb o e=>a2 (KX b o e) (by
   cases q:H b with
   |none=>rfl
   |some u=>
    have e':b=a:=hA b (by rw[q];simp);subst e';rw[hK (by rw[q];simp)]at e;cases e)
  have hM:Mod K mg (Mo a1.heap H):=⟨a7,a3 a6,⟨mb,a3 hb,b4⟩,let ⟨mc,h1,h2⟩:=a8;⟨mc,a3 h1,h2⟩⟩;have e0:Pj P w K mg (Mo a1.heap H) callerA [] a1 H:=⟨Z,hM,λb o e=>Aer e,le_of_eq (Ab6 _ _),trivial,λb hb=>absurd (show b∈([]:List Addr) from hb) (by simp),hok,.of_eq hg⟩;refine codeAny_mono ((F _ a7 (a3 a6)).run callerA [] a1 H ⟨[.ref a],[]⟩ [.ref a] [.ref a] _ _ hr e0 (a5 a1 (.ref a)) (.cons rfl .nil) (b5 H hO hS)) λr s' h=>?_
  cases r with
  |error e=>exact(b3 H e s' h).elim
  |ok fl=>
   cases fl with
   |next=>exact False.elim h
   |brk=>exact False.elim h
   |cont=>exact False.elim h
   |ret u=>
    obtain⟨v,H',os,bare,un,a9,r',q⟩:=h;have q':v=.bl true:=q;subst q';obtain rfl:u=Value.bool true:=r';refine⟨Z,OldK.of_keep λb o e=>?_,os,bare⟩;cases q:H b with
    |none=>exact un.keep b o e q (by exact λz=>absurd (show b∈([]:List Addr) from z) (by simp)) (by simp)
    |some u=>
     rcases hO b with z|⟨ob,xs,z⟩
     .simp_all
     .have z2:=un.frzs b ob _ z
      obtain⟨e1,_⟩:=hok b _ z;obtain⟨e2,_⟩:=a9 b _ z2;simp_all
 cases hk:K.lookup a with
 |some o=>
  have e:=KX a o hk;rw[ha]at e;cases e
  refine a4 (λ_=>none) (λ_=>.inl rfl) (.inr ⟨_,vs.toArray,_,hk,Z,Z,Z,by rw[vP,hi.length];exact hl,by omega⟩) (λb u z=>by simp_all) (λb z=>absurd rfl z) λz=>absurd rfl z
 |none=>
  refine a4 (λb=>if b=a then some (.frz {cls:=.type "list",data:=.seq vs.toArray} (.lst (ns.map V.int))) else none) (λb=>?_) (.inl (.inr ⟨{cls:=.type "list",data:=.seq vs.toArray},if_pos rfl⟩)) (λb u z=>?_) (λb z=>?_) λ_=>hk
  .by_cases hb:b=a
   .exact .inr ⟨_,_,if_pos hb⟩
   .exact .inl (if_neg hb)
  .by_cases hb:b=a
   .have z':=(if_pos hb).symm.trans z
    cases z'
    subst hb;exact⟨ha,by rw[vE];exact hl,vs,_,rv,ha⟩
   .simp_all
  .by_cases hb:b=a
   .exact hb
   .exact absurd (if_neg hb) z
abbrev KOf{K:FA}{h:Heap}(_:K.In h):FA:=K
def AiO{l:PySem.W.OpenLaw}{q:Program}{a1:List Str}{XP:(Str->Option Value)->Heap->Prop}{YP:World->Heap->Prop}{d:DefRec}{K:Params->FA}{CX:World->CXT}{sp:World->Sp} 
  (hn:l.most=n) (a7:n<=sizeLine) (a8:d.params.defaults=[]) (hr:Cj k callerA)
  (hY:∀(w:World)(h:Heap),YP w h->(K w.params).In h)
  (F:∀(w:World)(mg:Str->Option Value)(fa:Addr)(h:Heap),(K w.params).In h->h.Ns mainGlobals mg->mg d.name=some (.ref fa) ->
   ∃fd:FuncData,(∀(s:Shared)(u:Value),BindsTo s fd ⟨[u],[]⟩ [(x,u)]) /\
    ∀base:Heap,(K w.params).In base->base.Ns mainGlobals mg->Cc l.prog w (K w.params) mg base (CX w) k fa fd [x] (sp w))
  (a9:∀(w:World)(H:Hp)(a:Addr)(ns:List Int),ns.length<=n->AdW H->SqL (K w.params) H a (ns.map V.int)->sp w [.ref a] H (λv _=>v=.bl true) λ_ _ _=>False)
  (a6:∀(w:World)(H:Hp)(s:Shared)(e:Value)(s':Shared),CX w [] H s (λ_ _ _=>False) e s'->False) :
  PySem.W.WalkO q a1 XP YP l.row.toRowW d [] (λf vs=>PySem.call f vs):=by
 refine Att.AgV hn a8 λw _ a3 mg _ fa o _ _ _ a _ ns G Y _ _ _ a5 a4 a2 z hg=>?_
 have KX:=hY w _ Y;obtain⟨fd,hb,hF⟩:=F w _ _ _ KX G.T.g a5;exact AdJ KX G.T.g G.T.b G.T.builtins G.T.nolimit hg a4 a2 (zA z a7) hr hF hb (λH hO hS=>a9 w H a _ z hO hS) λH e s'=>a6 w H _ e _
def Fw(s:Stmt)(j:Nat):Stmt:=match s with
 |.ClassDef _ _ _ body _ _ _ _ _ _ _=>body.getD j (.Pass ⟨0,0,0,0⟩)
 |_=>.Pass ⟨0,0,0,0⟩
def Ce(s:Stmt):Arguments:=match s with
 |.FunctionDef _ a _ _ _ _ _ _ _ _=>a
 |_=>{posonlyargs:=[],args:=[],vararg:=none,kwonlyargs:=[],kw_defaults:=[],kwarg:=none,defaults:=[]}
def B1(s:Stmt):List Stmt:=match s with
 |.FunctionDef _ _ b _ _ _ _ _ _ _=>b
 |_=>[]
def Af(s:Stmt):Scope:=match s with
 |.FunctionDef _ _ _ _ _ _ sc _ _ _=>sc
 |_=>{kind:=.function,names:=[],isGenerator:=false,isCoroutine:=false}
abbrev CX0:CXT:=λ_ _ _ _ _ _=>False
abbrev E0:XK:=λ_ _ _=>False
def Ax:G4 CX0 X E0:=λ_ _ _ _ _ _ _ h=>h.elim
structure Fun(K:FA)(x qual:Str)(st:Stmt)(f:Addr)(fd:FuncData):Prop where
 ex:∃(oc:Value)(od:Option Addr)(kV doc pm:Value)(an:Option Addr)(cdv ct:Value)(osl:Array (Option Value)),
  fd=fnOf x qual (Ce st) (B1 st) (Af st) .none kV doc pm an cdv ct/\K.lookup f=some ⟨oc,od,.func fd,osl⟩/\codeIn K cdv qual=true
 kp:keepIn K (.ref f)=true
def Fun.ok{qual:Str}{N:List Str}(F:Fun K x qual st f fd)(S:Ak N ps (Af st))(len:∀vs H Q E,sp vs H Q E->vs.length=ps.length)
  (z:∀(cdv:Value)(A:Around)(outer:List Env)(s:Shared)(H:Hp)(vs:List V)(Q:VK)(E:XK),Cj k (A.deeper (envOfC qual (Af st) s.heap.objs.size f cdv))->sp vs H Q E ->
   ∃t,PSs (Nf CX0 P w K mg base N qual (Af st) f cdv A outer s H E).nox (B1 st) t/\t {nx:=λ_ H'=>Q .non H',rt:=Q} (start N vs) H):Cc P w K mg base CX0 (k+1) f fd ps sp:=by
 obtain⟨oc,od,kV,doc,pm,an,cdv,ct,osl,rfl,lk,a1⟩:=F.ex;refine Ag6 lk a1 S len λA outer s H vs Q E hr a2=>?_
 obtain⟨t,h,q⟩:=z _ A _ s H _ Q E hr a2;exact⟨t,h.nox,q⟩
def Fun.binds{qual:Str}(F:Fun K x qual st f fd)
  (h:∀(kV doc pm:Value)(an:Option Addr)(cdv ct:Value)(us:List Value),us.length=ps.length->bindArgs (fnOf x qual (Ce st) (B1 st) (Af st) .none kV doc pm an cdv ct) ⟨us,[]⟩=pure (ps.zip us)):Dm K fd ps []:=by
 obtain⟨oc,od,kV,doc,pm,an,cdv,ct,osl,rfl,lk,z⟩:=F.ex;exact .all (h _ _ _ _ _ _)
def Ca{qual:Str}{oc:Value}{od an:Option Addr}{osl:Array (Option Value)}{kV doc pm cdv ct:Value}(l:K.lookup f=some ⟨oc,od,.func (fnOf x qual (Ce st) (B1 st) (Af st) .none kV doc pm an cdv ct),osl⟩)
  (c:codeIn K cdv qual) (k:keepIn K (.ref f)):Fun K x qual st f (fnOf x qual (Ce st) (B1 st) (Af st) .none kV doc pm an cdv ct):=⟨⟨oc,od,kV,doc,pm,an,cdv,ct,osl,Z,l,c⟩,k⟩
def Hk(h:n<=1000):n<sizeLine:=zE h (by decide)
def pv(i:Nat)(hN:X.N[i]?=some x:=by rfl)(hv:Vis X.env.scope x:=by first|exact Or.inl rfl|exact Or.inr (Or.inl rfl)|exact Or.inr (Or.inr rfl))(hd:(x==("__debug__": Str))=false:=by decide)
  (z:(x==("__classdict__": Str))=false:=by decide):PE X (.Name x pos) (Aw i):=Af1 hN hv hd z
def Fh{A B:Prop}(h:B):if false then A else B:=by
 exact h
def Dg{A B:Prop}(h:A):if true then A else B:=by
 exact h
def As{c A B:Prop} [Decidable c] (h1:c->A) (h2:¬c->B):if c then A else B:=by
 simp_all
def Same(H H':Hp):Prop:=∀b o,H b=some o->H' b=some o
def Bv(H:Hp):Same H H:=λ_ _ h=>h
def Same.trans{H1:Hp}(a:Same H H1)(b:Same H1 H2):Same H H2:=λc o h=>b c o (a c o h)
def Same.free(e:Same H H'){l:Addr}(h:H' l=Option.none):H l=Option.none:=by
 cases q:H l with
 |none=>rfl
 |some o=>
  rw[e l o q]at h;cases h
def Same.seq(e:Same H H')(h:SqL K H a xs):SqL K H' a xs:=by
 rcases h with(h|⟨o,h⟩)|h
 .exact .inl (.inl (e _ _ h))
 .exact .inl (.inr ⟨o,e _ _ h⟩)
 .exact .inr h
def AbL{R:Result->Shared->Prop}{s:Shared}{elt z iter:Expr}{ifs:List Expr}{scope:Scope}{it a8:Value}{env:Env}{XE:Value->Shared->Prop}(I:Nat->Shared->Prop)
  (b3:∀n s,I n s->wpAny (model prog w) A (pyNext it) (λr a2=>match r with
   |none=>R (.ok .next) a2
   |some v=>wpAny (model prog w) A (letOwnedTupleGo z it v) (λ_ s₀=>wpAny (model prog w) A (assign z env v) (λ_ a7=>
     wpAny (model prog w) A (forIn ifs true λc r=>if r then do let ok <-isTrue c env (eval c env);pure (ForInStep.yield ok) else pure (ForInStep.yield r)) (λok a1=>
      if ok then wpAny (model prog w) A (eval elt env) (λx a4=>
       wpAny (model prog w) A (call (.builtin "list.append") [a8,x]) (λ_ a6=>∃m,m<n/\I m a6) XE a4) XE a1
      else ∃m,m<n/\I m a1) XE a7) XE s₀) XE a2) XE s)
  (hx:∀e s,XE e s->notedBy (model prog w) A env (λe s=>R (.error e) s) e s)
  (n:Nat) (h:I n s) :
  codeAny (model prog w) A (.compLoop (.ListComp elt [⟨z,iter,ifs,0⟩] scope pos) 0 it a8 env) R s:=by
 refine codeAny_loop rfl I (λn s hI=>?_) n h;refine wpAny_noted ?_;rw[compTurn_list];refine vB (wpAny_standAt (vB (zW (b3 n s hI) (λr _ a3=>?_) hx)));cases r with
 |none=>exact vC a3
 |some v=>
  refine vB (zW a3 (λ_ _ h₀=>?_) hx);refine vB (zW h₀ (λ_ _ b1=>vB (zW b1 (λok _ a5=>?_) hx)) hx);cases ok with
  |false=>exact vC ⟨rfl,a5⟩
  |true=>
   exact vB (vB (zW a5 (λx _ b2=>vB (zW b2 (λ_ _ a9=>vC (vC ⟨Z,a9⟩)) hx)) hx))
def P7{scope:Scope}{env:Env}(hf:∀y∈scope.names,y.2=.free->∃c,env.cells.lookup y.1=some c) :
  ∃cl,closureFor scope env=pure cl/\(∀x c,cl.lookup x=some c->env.cells.lookup x=some c)/\∀x,(x,NameKind.free)∈scope.names->∃c,cl.lookup x=some c:=by
 have go:∀(l:List _)a1,(∀y∈l,y.2=.free->∃c,env.cells.lookup y.1=some c)->(∀x c,a1.lookup x=some c->env.cells.lookup x=some c) ->
   ∃cl:List _,(forIn l a1 (λx(r:List _)=>match x with|(name,kind)=>if (kind==NameKind.free)=true then do let a <-cellOf env name;pure (ForInStep.yield ((name,a)::r)) else pure (ForInStep.yield r)):Sem _)=pure cl /\
    (∀x c,cl.lookup x=some c->env.cells.lookup x=some c)/\(∀x,(x,NameKind.free)∈l->∃c,cl.lookup x=some c)/\∀x c,a1.lookup x=some c->∃c',cl.lookup x=some c':=by
  intro l
  induction l with
  |nil=>exact λa1 _ ha=>⟨a1,rfl,ha,λx h=>absurd h (by simp),λx c h=>⟨c,h⟩⟩
  |cons y r ih=>
   intro a1 hl ha;obtain⟨name,kind⟩:=y
   by_cases hk:kind=.free
   .subst hk
    obtain⟨c,hc⟩:=hl _ vH rfl
    have a2:∀x c',((name,c)::a1).lookup x=some c'->env.cells.lookup x=c':=λx c' h=>by
     rw[zV]at h;cases e:x==name with
     |true=>rw[e]at h;cases h;rw[eq_of_beq e];exact hc
     |false=>rw[e]at h;exact ha x c' h
    obtain⟨cl,e,h1,h2,h3⟩:=ih ((name,c)::a1) (λy hy=>hl y (vI _ hy)) a2;refine⟨cl,?_,h1,λx hx=>?_,λx c' h=>?_⟩
    .rw[List.forIn_cons,<-e]
     have ec:cellOf env name=pure c:=by unfold cellOf;rw[hc]
     show(if (NameKind.free==NameKind.free) then _ else _)>>=_=_
     rw[if_pos (by rfl),ec];rfl
    .rcases zM.mp hx with z|z
     .simp_all
     .exact h2 x z
    .cases e:x==name with
     |true=>exact h3 x c (by rw[zV,e])
     |false=>exact h3 x c' (by rw[zV,e];exact h)
   .have hb:(kind==NameKind.free)=false:=by simpa using hk
    obtain⟨cl,e,h1,h2,h3⟩:=ih a1 (λy hy=>hl y (vI _ hy)) ha;refine⟨cl,?_,h1,λx hx=>?_,h3⟩
    .rw[List.forIn_cons,<-e]
     show(if (kind==NameKind.free) then _ else _)>>=_=_
     rw[if_neg (by rw[hb];decide)];rfl
    .rcases zM.mp hx with z|z
     .simp_all
     .exact h2 x z
 obtain⟨cl,e,h1,h2,_⟩:=go scope.names [] hf (λx c h=>by simp at h);refine⟨cl,?_,h1,h2⟩;refine Eq.trans (congrArg (λt=>t>>=λcs=>pure cs) e) ?_;rfl
def Iy{env:Env}:∀{names:List (Str×NameKind)}{x:Str}{z:NameKind},
  (names.map λ(n,k)=>if (k==NameKind.free&&env.scope.kind==.function&&env.kindOf n==some .cell) then(n,NameKind.cell) else(n,k)).lookup x=z ->
  ∃k,names.lookup x=some k/\(z=k\/(k=.free/\z=.cell))
 |[],_,_,h=>by simp at h
 | (n,k)::r,x,z,h=>by
  have ih:=@Iy env r x z;have h:List.lookup x ((if _=true then(n,NameKind.cell) else(n,k))::r.map λ(n,k)=>if (k==NameKind.free&&env.scope.kind==.function&&env.kindOf n==some .cell) then(n,NameKind.cell) else(n,k))=z:=h
  by_cases hc:(k==NameKind.free&&env.scope.kind==.function&&env.kindOf n==some .cell)
  .rw[if_pos hc,zV]at h
   rw[zV];cases e:x==n with
   |true=>
    rw[e]at h;cases h
    refine⟨k,Z,.inr ⟨?_,Z⟩⟩;simp_all
   |false=>rw[e]at h;exact ih h
  .rw[if_neg hc,zV]at h
   rw[zV];cases e:x==n with
   |true=>rw[e]at h;cases h;exact⟨k,rfl,.inl rfl⟩
   |false=>rw[e]at h;exact ih h
def Fl(X:Cx)(s2:Shared)(H2:Hp)(fp:List Addr)(N:List Str)(scope:Scope)(cl:List (Str×Addr))(C:Addr):Cx where
 prog:=X.prog
 w:=X.w
 K:=X.K
 mg:=X.mg
 base:=X.base
 A:=X.A
 N:=N
 s₀:=s2
 H₀:=H2
 env:=compEnvC scope cl C X.env
 outer:=X.stack
 stack:=X.stack
 ex:=fp
 fn:=λ_=>false
 calm:=X.calm
 pn:=[]
 xe:=λ_ _=>False
def Qn(k:Nat)(g:TG):Prop:=∀x Y H Q,g x Y H Q->g x Y H λσ2 H2=>(∀i,k<=i->σ2[i]?=Y[i]?)/\Q σ2 H2
def A9{i:Nat}(h:i<k):Qn k (Bn i):=λx Y H Q q=>⟨λj z=>by rw[zP (by omega)],q⟩
def AaJ{i j:Nat}(hi:i<k)(hj:j<k):Qn k (AcR K n (Q8 (Bn i) (Q8 (Bn j) Acn))):=by
 rintro x Y H Q ⟨a,xs,e1,z,hl,v,r,e2,v',r',e3,e4,q⟩;exact⟨a,xs,e1,z,hl,v,r,e2,v',r',e3,e4,λl _=>by rw[zP (by omega),zP (by omega)],q⟩
def Vw(X:Cx)(ifs:List Expr)(t:TT):Prop:=
 ∀(pins:List (Addr×Obj))(s:Shared)(Y:St)(H:Hp)(Q:Bool->Hp->Prop),Inv X pins Y H s->t Y H Q ->
  wpAny (model X.prog X.w) X.A (forIn ifs true λc r=>if r=true then do let ok <-isTrue c X.env (eval c X.env);pure (ForInStep.yield ok) else pure (ForInStep.yield r)) (TP X pins Y Q) X.xe s
def Ex:TT:=λ_ H Q=>Q true H
def Fg:Vw X [] Ex:=λpins s Y H Q I h=>wpAny_tests_nil ⟨H,I,h⟩
def Dj{c:Expr}{t:TT}(h:PT X c t):Vw X [c] t:=λpins s Y H Q I q=>wpAny_tests_one (h _ s Y H Q I q)
def Lo(k:Nat)(js:List Nat)(Y:St):St:=List.replicate k none++js.map λj=>(Y[j]?).join
def Adk(k:Nat)(js:List Nat)(wi:TI)(g:TG)(tc:TT)(te:TE):TE:=λY H Q=>wi Y H λJ H1=>∃W:Nat->Nat->List V->Hp->Prop,(∃m,W 0 m [] H1)/\∀i m ys H,W i m ys H ->
 (J.stop i H/\∀D,H D=none->Q (.ref D) (upd H D (.lst ys))) \/
 (J.go i H/\ys.length<sizeLine/\∀x H',J.yld i H x H'->g x (Lo k js Y) H' λσ2 H2=>tc σ2 H2 λb H3=>if b=true then te σ2 H3 λy H4=>∃m',m'<m/\W (i+1) m' (ys++[y]) H4 else ∃m',m'<m/\W (i+1) m' ys H3)
def Un.later{fs ex:List Addr}{H1:Hp}{h1 h2:Heap}(u:Un fs ex H H1 h h1)(ok:HOk P w H h)(ag:∀b,b<h.objs.size->H2 b=H1 b)(k:∀b o,b<h.objs.size->h1.get? b=some o->h2.get? b=o):Un fs ex H H2 h h2 where
 keep:=λb o e n hb z=>k b o (uD e) (u.keep b o e n hb z)
 slot:=λb o e n hb z=>let ⟨sl,q⟩:=u.slot b o e n hb z;⟨sl,k b _ (uD e) q⟩
 free:=λb o e n z=>by rw[ag b (uD e)];exact u.free b o e n z
 there:=λb o e z=>let ⟨o',q⟩:=u.there b o e z;⟨o',k b _ (uD e) q⟩
 tups:=λb xs e=>by rw[ag b (ok.lt e)];exact u.tups b _ e
 frzs:=λb o x e=>by rw[ag b (ok.lt e)];exact u.frzs b o x e
 tbls:=λb ps e=>by rw[ag b (ok.lt e)];exact u.tbls b _ e
section
variable{elt tg iter:Expr}{ifs:List Expr}{scope:Scope}{wi:TI}{g:TG}{tc:TT}
structure M9(X:Cx)(scope:Scope)(own:List Str)(fr:List (Str×Nat)):Prop where
 kind:scope.kind=.function
 cell:∀y∈scope.names,y.2≠.cell
 loc:∀y∈scope.names,y.2=.local->scope.names.lookup y.1=some .local
 free:∀y∈scope.names,y.2=.free->X.env.kindOf y.1=some .cell
 fr:∀p∈fr,scope.names.lookup p.1=some .free/\X.N[p.2]?=some p.1
def Y2(sc scope:Scope)(N:List Str)(fr:List (Str×Nat)):Bool:=
 (decide (scope.kind=.function)&&scope.names.all (λy=>decide (y.2≠.cell))&&scope.names.all (λy=>decide (y.2=.local->scope.names.lookup y.1=some .local)) &&
  scope.names.all (λy=>decide (y.2=.free->sc.names.lookup y.1=some .cell))&&fr.all λp=>decide (scope.names.lookup p.1=some .free)&&decide (N[p.2]?=some p.1))
def Bx{own:List Str}{fr:List (Str×Nat)}(sc:Scope)(N:List Str)(h:Y2 sc scope N fr=true)(hs:X.env.scope=sc:=by rfl)(hN:X.N=N:=by rfl):M9 X scope own fr:=by
 subst hs hN;unfold Y2 at h;simp only[vA,all_eq_true,decide_eq_true_eq]at h;obtain⟨⟨⟨⟨h1,h2⟩,h3⟩,h4⟩,z⟩:=h;exact⟨h1,h2,h3,h4,z⟩
def Tb{tn:Nat->Heap->Prop}{E:Value->Shared->Prop}
  {W:Nat->Nat->List V->Hp->Prop} {RR:Value->Addr->Result->Shared->Prop} {Fin:Addr->List V->Hp->Prop} (XE:Addr->Value->Shared->Prop)
  (hc:X.calm=true) (S:M9 X scope own fr) (a6:∀x c,cl.lookup x=some c->X.env.cells.lookup x=some c) (e9:∀x,(x,NameKind.free)∈scope.names->∃c,cl.lookup x=some c)
  (hg:∀C,PG ((Fl X s2 H2 fp (own++fr.map (·.1)) scope cl C).wish (XE C)) tg g) (hk:Qn own.length g)
  (hi:∀C,Vw ((Fl X s2 H2 fp (own++fr.map (·.1)) scope cl C).wish (XE C)) ifs tc) (he:∀C,PE ((Fl X s2 H2 fp (own++fr.map (·.1)) scope cl C).wish (XE C)) elt te)
  (I2:Inv X pins Y H2 s2) (T:N5 X.prog X.w X.K tg J fp it tn) (d3:tn 0 s2.heap) (f2:∀b∈fp,Kw X pins H2 b) (w0:W 0 m0 [] H2)
  (f6:∀i m ys H,W i m ys H ->
   (J.stop i H/\∀D,H D=none->Fin D ys H) \/
   (J.go i H/\ys.length<sizeLine/\∀x H',J.yld i H x H'->g x (Lo own.length (fr.map (·.2)) Y) H' λe6 H2=>tc e6 H2 λb H3=>if b=true then te e6 H3 λy H4=>∃m',m'<m/\W (i+1) m' (ys++[y]) H4 else ∃m',m'<m/\W (i+1) m' ys H3))
  (h6:∀D C oC mC s4 H4 ys,Fin D ys H4->Inv X (pins++[(C,oC)]) Y (upd H4 D (.lst ys)) s4->s4.heap.Ns C mC->Kw X pins (upd H4 D (.lst ys)) C->RR (.ref D) C (.ok .next) s4)
  (hx:∀D C e s,s2.heap.objs.size<=C->XE C e s->notedBy (model X.prog X.w) X.A (compEnvC scope cl C X.env) (λe s=>RR (.ref D) C (.error e) s) e s) :
  wpAny (model X.prog X.w) X.A (newList []) (λd9 a7=>wpAny (model X.prog X.w) X.A (newFunctionEnv scope X.env.globals cl [] X.env.qual none .none (some X.env)) (λc3 g0=>
   codeAny (model X.prog X.w) X.A (.compStart (.ListComp elt [⟨tg,iter,ifs,0⟩] scope pos) 0 (.ref it) d9 {c3 with scope:=relabel scope X.env}) (RR d9 c3.locals) g0) E a7) E s2:=by
 refine wpAny_newObj_type (wpAny_newFunctionEnv S.cell (by intro y hy;simp at hy) (λa9 a5 a2=>?_) S.kind);generalize c7:s2.heap.push {cls:=.type "list",dict:=none,data:=.seq ([]:List Value).toArray}=Hh at a5 a2 ⊢;have hC:Hh.objs.size=s2.heap.objs.size+1:=by rw[<-c7,uV]
 have b3:s2.heap.objs.size≠Hh.objs.size:=by simp_all
 have a3:s2.heap.objs.size<=Hh.objs.size:=by simp_all
 have b1:∀b o,s2.heap.get? b=some o->a9.get? b=o:=λb o e=>a2.extBut b o (zF (zD (uD e) a3)) (uB _ (c7▸uB _ e))
 have g1:a9.get? s2.heap.objs.size=some (LCg.lst []):=a2.extBut _ _ b3 (uB _ (c7▸uF _ rfl))
 let O:Cx:=(Fl X s2 H2 fp (own++fr.map (·.1)) scope cl Hh.objs.size).wish (XE Hh.objs.size)
 let D:=s2.heap.objs.size
 let σY:St:=Lo own.length (fr.map (·.2)) Y
 have b7:∀b∈fp,b<s2.heap.objs.size:=λb hb=>let ⟨o,e,_⟩:=T.obj 0 _ d3 b hb;uD e
 have f4:∀b,s2.heap.objs.size<=b->b∉O.fs:=λb hb z=>by
  rcases zM.mp (I2.stkSub b z) with e|e
  .rw[e]at hb;exact absurd I2.lt (not_lt.mpr hb)
  .exact I2.nofs hb e
 have h5:∀x,(O.env.kindOf x=some .cell\/O.env.kindOf x=some .free)->scope.names.lookup x=some .free:=λx hx=>by
  have q:∃k',(relabel scope X.env).names.lookup x=some k'/\(k'=.cell\/k'=.free):=by
   rcases hx with z|z
   .exact⟨_,z,.inl rfl⟩
   .exact⟨_,z,.inr rfl⟩
  obtain⟨k',e,h7⟩:=q;obtain⟨k,e',h'⟩:=Iy e;have nc:k≠.cell:=S.cell (x,k) (uQ e');rcases h' with z|⟨z,_⟩
  .simp_all
  .rw[z]at e';exact e'
 have f0:O.Ok:=by
  refine⟨I2.ok.mod,S.kind,I2.ok.glob,I2.ok.blt,a3,λx y c h1 h2=>I2.ok.inj x y c (a6 x c h1) (a6 y c h2),λx hx=>e9 x (uQ (h5 x hx)),(λx c z _=>nomatch z),I2.ok.hd,I2.ok.frames,.inl rfl,λb hb=>⟨?_,λx c e=>(f2 b hb).2.2.2.2.1 x c (a6 x c e)⟩,
   λb o e=>I2.bs b o e,zA I2.ok.bsz I2.sz,λb o e hb=>?_,λb hb z=>?_,I2.stack,I2.stkFree⟩
  .exact zF (zD (b7 b hb) a3)
  .rcases(f2 b hb).2.2.2.1 with z|z
   .exact I2.ok.noex b o e z
   .exact absurd (zD (uD e) (zA I2.ok.bsz z)) (lt_irrefl _)
  .rcases zM.mp (I2.stkSub b z) with e|e
   .exact(f2 b hb).2.1 e
   .exact(f2 b hb).2.2.1 e
 have c6:σY.length=O.N.length:=by
  show(Lo own.length (fr.map (·.2)) Y).length=(own++fr.map (·.1)).length
  unfold Lo;simp
 have d6:∀(h:Heap)(m:Str->Option Value),(∀c v,(∃x,X.env.cells.lookup x=some c)->s2.heap.IsCell c v->h.IsCell c v)->∀(i:Nat)(x:Str)(v:V),O.N[i]?=x->σY[i]?=some (some v)->Vis O.env.scope x->∃u,A2 v u/\AgS O.env h m x u:=by
  intro h m b9 i x v hN a1 hv;have hN:(own++fr.map (·.1))[i]?=x:=hN;have a1:(List.replicate own.length none++(fr.map (·.2)).map λj=>(Y[j]?).join)[i]?=some (some v):=a1
  by_cases b6:i<own.length
  .rw[vV (by simpa using b6),getElem?_replicate,if_pos b6]at a1
   cases a1
  .rw[vW (by simpa using b6)]at a1
   rw[vW (by simpa using b6)]at hN;rw[vU]at a1;rw[vJ]at hN;rw[vJ,vJ]at a1;cases ep:fr[i-own.length]? with
   |none=>rw[ep]at hN;cases hN
   |some p=>
    rw[ep]at hN a1;cases hN
    have a1:(Y[p.2]?).join=v:=uH a1;obtain⟨a8,g7⟩:=S.fr p (vR ep);have e5:X.env.kindOf p.1=some .cell:=S.free (p.1,.free) (uQ a8) rfl;obtain⟨m',i4,h9⟩:=I2.loc
    have f7:Y[p.2]?=some (some v):=by
     cases e:Y[p.2]? with
     |none=>rw[e]at a1;cases a1
     |some o=>rw[e]at a1;cases o with
      |none=>cases a1
      |some v'=>cases a1;rfl
    obtain⟨u,r,l⟩:=h9 p.2 p.1 v g7 f7 (.inr (.inl e5));refine⟨u,r,?_⟩;rcases l with⟨l,_⟩|⟨_,c,e4,d7⟩
    .rw[e5]at l;cases l
    .obtain⟨c',e7⟩:=e9 p.1 (uQ a8)
     have e2:=a6 _ _ e7;rw[e4]at e2;cases e2
     refine .inr ⟨?_,c,e7,b9 c _ ⟨_,e4⟩ d7⟩;rcases hv with z|z|z
     .obtain⟨k,e1,e3⟩:=Iy z
      rw[a8]at e1;cases e1
      rcases e3 with e3|⟨_,e3⟩
      .exact .inr (by cases e3)
      .exact .inr (by cases e3)
     .exact .inl z
     .exact .inr z
 have IY:Inv O [(D,LCg.lst [])] σY H2 {s2 with heap:=a9,toks:=s2.toks+([]:List (Str×Value)).length}:=by
  refine⟨f0,Z,I2.bare,Un.kept b1,⟨_,a5,d6 _ _ λc v _ ⟨o,e,d⟩=>⟨o,b1 c o e,d⟩⟩,λx c e=>?_,I2.hok.fresh a3,λx c e=>I2.freeC x c (a6 x c e),λp hp=>?_,I2.hok.kept b1,c6⟩
  .obtain⟨v,o,e1,d⟩:=I2.cell x c (a6 x c e)
   exact⟨v,o,b1 c o e1,d⟩
  .have hp:p∈[(D,LCg.lst [])]:=by simpa [O,Fl] using hp
   rw[mS hp];exact⟨g1,I2.hok.fresh (zB _),b3,f4 _ (zB _),λv z=>nomatch z⟩
 have b5:∀{us:List Value}{H':Hp},(∀b∈fp,H' b=none)->∀b∈fp,Kw O [(D,LCg.lst us)] H' b:=λ{us H'}hn b hb=>by
  refine⟨hn b hb,zF (zD (b7 b hb) a3),λz=>?_,.inl hb,λx c e=>(f2 b hb).2.2.2.2.1 x c (a6 x c e),λp hp=>?_⟩
  .exact f0.exfs b hb z
  .have hp:p∈[(D,LCg.lst us)]:=by simpa [O,Fl] using hp
   rw[mS hp];exact λz=>absurd (b7 b hb) (by rw[<-z];exact lt_irrefl _)
 have c4:∀a7:Shared,a7 = {s2 with heap:=a9,toks:=s2.toks+([]:List (Str×Value)).length} ->
   codeAny (model X.prog X.w) X.A (.compLoop (.ListComp elt [⟨tg,iter,ifs,0⟩] scope pos) 0 (.ref it) (.ref s2.heap.objs.size) (compEnvC scope cl Hh.objs.size X.env))
    (RR (.ref s2.heap.objs.size) Hh.objs.size) a7:=by
  rintro a7 rfl
  refine AbL (λn s'=>∃i ys us H',Inv O [(D,LCg.lst us)] σY H' s'/\A0 ys us/\ys.length<=sizeLine/\tn i s'.heap/\(∀b∈fp,H' b=none)/\W i n ys H') ?_ (λe s=>hx _ _ e s a3) m0
   ⟨0,[],[],H2,IY,.nil,zZ _,T.keep _ _ _ d3 λb _ o e=>b1 b o e,λb hb=>(f2 b hb).1,w0⟩
  rintro n s3 ⟨i,ys,us,H3,I3,rv,hsz,d8,e8,w3⟩;rcases f6 i n ys H3 w3 with⟨stop,qn⟩|⟨go,i7,step⟩
  .refine thn (T.done O rfl rfl rfl hc i _ s3 σY H3 _ I3 (b5 e8) d8 stop) λr s4 ⟨hr,I4⟩=>?_
   subst hr;have a4:=I4.pin (D,LCg.lst us) (vS _ (zG.mpr rfl));obtain⟨mC,f1,_⟩:=I4.loc;obtain⟨oC,i0,i5,g8,h8,i6⟩:=id f1;have c9:H3 D=none:=a4.2.1;have ag:∀b,b<s2.heap.objs.size->(upd H3 D (.lst ys)) b=H3 b:=λb hb=>upd_ne (zF hb)
   have f5:HOk X.prog X.w (upd H3 D (.lst ys)) s4.heap:=λa o e=>by
    by_cases ha:a=D
    .subst ha
     rw[qa]at e;cases e
     exact⟨hsz,us,_,rv,a4.1⟩
    .rw[upd_ne ha]at e
     refine(I4.hok a o e).stay (λ_ _ _ q=>q) (λb q=>?_) (λb xs q=>?_)
     .rw[upd_ne (ne_of_none q c9)];exact q
     .rw[upd_ne (ne_of_none q c9)];exact q
   have IX:Inv X pins Y (upd H3 D (.lst ys)) s4:=I2.call' (ch:=fp) I4.os (I4.base.later I2.hok ag λb o _ e=>e) f5 I4.bare λb hb=>⟨(f2 b hb).2.2.2.1,(f2 b hb).2.1,(f2 b hb).2.2.2.2.1,(f2 b hb).2.2.2.2.2⟩
   have f3:(upd H3 D (.lst ys)) Hh.objs.size=none:=by rw[upd_ne (Ne.symm b3)];exact I4.free
   have fC:Kw X pins (upd H3 D (.lst ys)) Hh.objs.size:=I2.fpOk a3 f3;refine h6 D Hh.objs.size oC mC s4 H3 ys (qn D c9) (IX.pins_of λp hp=>?_) f1 fC;rcases vY.mp hp with z|z
   .exact IX.pin p (vS _ z)
   .rw[mS z]
    exact⟨g8,f3,fC.2.1,fC.2.2.1,λv z=>by simp_all⟩
  .refine thn (T.item O rfl rfl rfl hc i _ s3 σY H3 _ I3 (b5 e8) d8 go) λr s4 ⟨u,hr,h4⟩=>?_
   subst hr;refine thn h4 λ_ s5 ⟨x,H5,I5,r5,y5,d2,g6⟩=>?_
   refine thn (hg _ _ s5 σY H5 x u _ (I5.pinned (b5 g6) (T.obj _ _ d2)) r5 (hk _ _ _ _ (step x H5 y5))) λ_ s6 ⟨b2,H6,I6,g4,q6⟩=>?_
   refine thn (hi _ _ s6 b2 H6 _ I6 q6) λb s7 ⟨H7,I7,q7⟩=>?_
   have c5:∀{s8:Shared}{H8:Hp}{c8:List Value},Inv O ([(D,LCg.lst c8)]++Ij fp s5.heap) b2 H8 s8->Inv O [(D,LCg.lst c8)] σY H8 s8/\tn (i+1) s8.heap/\∀b∈fp,H8 b=none:=λ{s8 H8 c8}I8=>by
    refine⟨I8.unpinned.weak (c6.trans I8.len.symm) λj v hj=>?_,T.keep _ _ _ d2 λb hb o e=>(I8.pin (b,o) (vS _ (vS _ (Kb hb e)))).1,λb hb=>?_⟩
    .have g9:own.length<=j:=by
      rcases lt_or_ge j own.length with z|z
      .have hj:(List.replicate own.length none++(fr.map (·.2)).map λj=>(Y[j]?).join)[j]?=some (some v):=hj
       rw[vV (by simpa using z),getElem?_replicate,if_pos z]at hj;cases hj
      .exact z
     rw[g4 j g9];exact hj
    .obtain⟨o,e,d⟩:=T.obj _ _ d2 b hb
     exact(I8.pin (b,o) (vS _ (vS _ (Kb hb e)))).2.1
   cases b with
   |false=>
    rw[if_neg qc]at q7 ⊢;obtain⟨m',hm,w7⟩:=q7;obtain⟨I8,t8,f8⟩:=c5 I7;exact⟨m',hm,i+1,ys,us,H7,I8,rv,hsz,t8,f8,w7⟩
   |true=>
    rw[if_pos rfl]at q7 ⊢;refine thn (he _ _ s7 b2 H7 _ I7 q7) λvy s8 ⟨y,H8,I8,ry,m',hm,w8⟩=>?_
    have a4:=I8.pin (D,LCg.lst us) (vS _ (zY _ (zG.mpr rfl)));refine append_at (hsz:=by rw[vP,<-rv.length];exact hsz) a4.1 λb4 d5 d4=>?_
    have b8:b4.get? D=some (LCg.lst (us++[vy])):=d4.trans (congrArg some (LCg.lst_snoc us vy));have Ia:Inv O (Ij fp s5.heap) b2 H8 s8:=I8.pins_of λp hp=>I8.pin p (vS _ (vS _ hp))
    have Ib:Inv O (Ij fp s5.heap) b2 H8 {s8 with heap:=b4}:=Ia.turned (it:=D) (t':=s8.toks) (λb o hb e=>d5.extBut b o hb e) a4.2.1 b3 (.inr (zB _))
     (λx c e z=>by
      obtain⟨v,q⟩:=I2.cell x c (a6 x c e);exact absurd q.lt (by rw[z];exact lt_irrefl _))
     (λp hp=>by
      have hp:p∈Ij fp s5.heap:=by simpa [O,Fl] using hp
      exact λz=>absurd (b7 p.1 (Sh hp).1) (by rw[z];exact lt_irrefl _))
    have Ic:Inv O ([(D,LCg.lst (us++[vy]))]++Ij fp s5.heap) b2 H8 {s8 with heap:=b4}:=Ib.pins_of λp hp=>by
     rcases vY.mp hp with z|z
     .rw[mS z]
      exact⟨b8,a4.2.1,b3,f4 _ (zB _),λv z=>nomatch z⟩
     .exact Ib.pin p (vS _ z)
    obtain⟨I9,t9,f9⟩:=c5 Ic;exact⟨m',hm,i+1,ys++[y],us++[vy],H8,I9,rv.append (.cons ry .nil),by rw[vF,vG];omega,t9,f9,w8⟩
 exact codeAny_compStart_list (c4 _ rfl) (T.self X.A 0 _ _ _ (T.keep _ _ _ d3 λb _ o e=>b1 b o e) (c4 _ rfl))
def Qu{own:List Str}{fr:List (Str×Nat)}{s:Shared}(S:M9 X scope own fr)(I:Inv X pins Y H s):∀y∈scope.names,y.2=.free->∃c,X.env.cells.lookup y.1=some c:=
 λy z e=>I.ok.has _ (.inl (S.free y z e))
def Cp(own:List Str)(fr:List (Str×Nat))(hc:X.calm=true)(S:M9 X scope own fr)(a4:PI X tg iter wi)
  (hg:∀s2 H2 fp cl C,PG (Fl X s2 H2 fp (own++fr.map (·.1)) scope cl C) tg g) (hk:Qn own.length g)
  (hi:∀s2 H2 fp cl C,Vw (Fl X s2 H2 fp (own++fr.map (·.1)) scope cl C) ifs tc) (he:∀s2 H2 fp cl C,PE (Fl X s2 H2 fp (own++fr.map (·.1)) scope cl C) elt te)
  (hs:∀x,foldedSetIterable iter X.env x=pure x:=by intro _;rfl) :
  PE X (.ListComp elt [⟨tg,iter,ifs,0⟩] scope pos) (Adk own.length (fr.map (·.2)) wi g tc te):=by
 intro pins s Y H Q I h;obtain⟨cl,a1,a9,a7⟩:=P7 (Qu S I);refine wpAny_comprehension_free rfl hs a1 S.kind S.loc (thn (a4 _ s Y H _ I h) λv _ h1=>thn h1 λb1 _ h2=>?_);obtain⟨it,fp,tn,J,H2,e,I2,T,a3,f2,W,⟨m0,w0⟩,a2⟩:=h2;subst e;refine Tb _ hc S a9 a7 (λC=>hg _ _ _ _ C) hk (λC=>hi _ _ _ _ C) (λC=>he _ _ _ _ C) I2 T a3 f2 w0 a2 ?_ (λ_ _ _ _ _ z=>z.elim);intro D C _ mC s4 _ _ a8 IC hn fC;exact⟨mC,hn,λh' a5=>⟨.ref D,_,IC.unpinned.turned (λb o hb e=>a5.extBut b o hb e) fC.1 fC.2.1 fC.2.2.2.1 fC.2.2.2.2.1 fC.2.2.2.2.2,Z,a8⟩⟩
def AdT(j k:Nat)(js:List Nat)(wi:TI)(g:TG)(tc:TT)(te:TE):TS:=λD Y H=>Adk k js wi g tc te Y H λv H'=>D.nx (Y.set j (some v)) H'
def Dz{j:Nat}{y:Str}{py a1:Pos}(own:List Str)(fr:List (Str×Nat))(hN:X.N.Nodup)(hj:X.N[j]?=some y)(hy:Loc X.env.scope y)(hc:X.calm=true)(S:M9 X scope own fr)(a4:PI X tg iter wi)
  (hg:∀s2 H2 fp cl C,PG (Fl X s2 H2 fp (own++fr.map (·.1)) scope cl C) tg g) (hk:Qn own.length g)
  (hi:∀s2 H2 fp cl C,Vw (Fl X s2 H2 fp (own++fr.map (·.1)) scope cl C) ifs tc) (he:∀s2 H2 fp cl C,PE (Fl X s2 H2 fp (own++fr.map (·.1)) scope cl C) elt te)
  (a8:swapsWith (.ListComp elt [⟨tg,iter,ifs,0⟩] scope pos) (some (.Name y py)) a1.line X.env=pure true:=by rfl)
  (hs:∀x,foldedSetIterable iter X.env x=pure x:=by intro _;rfl)
  (hf:X.fn y=true\/X.env.scope.names.lookup y=some .local:=by first|exact .inl rfl|exact .inr rfl|assumption) :
  PS X (.Assign [.Name y py] (.ListComp elt [⟨tg,iter,ifs,0⟩] scope pos) a1) (AdT j own.length (fr.map (·.2)) wi g tc te):=by
 intro pins s Y H Dn I h;obtain⟨cl,a2,b1,a9⟩:=P7 (Qu S I);rw[exec_Assign_Name_used _ _ _ _ a8];refine vB (wpAny_standAt (vB ?_))
 refine vB (zW (wpAny_comprehension_free rfl hs a2 S.kind S.loc
  (thn (a4 _ s Y H _ I h) λv _ h1=>thn h1 λb4 _ h2=>?_)) (λ_ _ hq=>vC (vC hq)) λ_ _ e=>e)
 obtain⟨it,fp,tn,J,H2,e,I2,T,b3,f2,W,⟨m0,w0⟩,a3⟩:=h2;subst e;refine Tb _ hc S b1 a9 (λC=>hg _ _ _ _ C) hk (λC=>hi _ _ _ _ C) (λC=>he _ _ _ _ C) I2 T b3 f2 w0 a3 ?_ (λ_ _ _ _ _ z=>z.elim);intro D C oC mC _ _ _ a6 IC hn fC;refine wpAny_assign_Name (Pd (v:=.ref D) IC hN hj hy rfl (λs5 I5=>?_) hf);refine⟨mC,hn.at' λo e=>?_,λh' a7=>⟨_,_,?_,a6⟩⟩
 .have e':=(IC.pin _ (vS _ (vS _ (zG.mpr rfl)))).1
  rw[e]at e';cases e'
  exact (I5.pin _ (vS _ (vS _ (zG.mpr rfl)))).1
 .exact I5.unpinned.turned (λb o hb e=>a7.extBut b o hb e) fC.1 fC.2.1 fC.2.2.2.1 fC.2.2.2.2.1 fC.2.2.2.2.2
end
def Aen{J:It}{g:TG}{tc:TT}{a4:St}{F:Addr->List V->Hp->Prop}(Pv:Nat->List V->Hp->Prop)(h0:Pv 0 [] H)(hz:xs.length<=sizeLine)
  (a5:∀i ys H,i<xs.length->Pv i ys H->J.go i H) (a6:∀ys H,Pv xs.length ys H->J.stop xs.length H)
  (hy:∀i ys H x H',Pv i ys H->J.yld i H x H'->H'=H/\xs[i]?=x)
  (hs:∀i x ys H,xs[i]?=some x->Pv i ys H->g x a4 H λz H2=>tc z H2 λb H3=>if b then te z H3 λy H4=>Pv (i+1) (ys++[y]) H4 else Pv (i+1) ys H3)
  (mono:∀x Y H Q Q',(∀z H2,Q z H2->Q' z H2)->g x Y H Q->g x Y H Q')
  (a2:∀Y H Q Q',(∀b H1,Q b H1->Q' b H1)->tc Y H Q->tc Y H Q') (a3:∀Y H Q Q',(∀v H1,Q v H1->Q' v H1)->te Y H Q->te Y H Q')
  (hd:∀ys H,Pv xs.length ys H->∀D,H D=none->F D ys H) :
  ∃W:Nat->Nat->List V->Hp->Prop,(∃m,W 0 m [] H)/\∀i m ys H,W i m ys H ->
   (J.stop i H/\∀D,H D=none->F D ys H) \/
   (J.go i H/\ys.length<sizeLine/\∀x H',J.yld i H x H'->g x a4 H' λz H2=>tc z H2 λb H3=>if b then te z H3 λy H4=>∃m',m'<m/\W (i+1) m' (ys++[y]) H4 else ∃m',m'<m/\W (i+1) m' ys H3):=by
 refine⟨λi m ys H=>m=xs.length-i/\i<=xs.length/\ys.length<=i/\Pv i ys H,⟨xs.length,by simp,zZ _,zB _,h0⟩,?_⟩;rintro i m ys H ⟨rfl,hi,a7,p⟩
 by_cases a1:i<xs.length
 .refine .inr ⟨a5 i _ H a1 p,by omega,λx H' y=>?_⟩
  obtain⟨e,hx⟩:=hy i _ H x _ p y;subst e;refine mono _ _ _ _ _ (λz _ q=>a2 _ _ _ _ (λb _ q2=>?_) q) (hs i x _ _ hx p);cases b with
  |true=>
   exact a3 _ _ _ _ (λv _ q4=>⟨xs.length-(i+1),by omega,Z,a1,by rw[vF,vG];omega,q4⟩) q2
  |false=>
   exact⟨xs.length-(i+1),by omega,Z,a1,by omega,q2⟩
 .have e:i=xs.length:=by omega
  subst e;exact .inl ⟨a6 _ H p,hd _ H p⟩
section
variable{s:Shared}
def Inv.turnedL{a1:List Addr}{t':Nat}(I:Inv X pins Y H s)(hf:∀b∈a1,Kw X pins H b)(k:∀b o,b∉a1->s.heap.get? b=some o->h'.get? b=o)
  (ag:∀b,b<s.heap.objs.size->H' b=H b) (hok:HOk X.prog X.w H' h'):Inv X pins Y H' {s with heap:=h',toks:=t' }:=by
 refine I.step (λb hb=>⟨(hf b hb).2.2.2.1,(hf b hb).2.1,(hf b hb).2.2.2.2.1,(hf b hb).2.2.2.2.2⟩) (λb o _ _ hc e _=>k b o hc e) (λb o _ _ hc e _=>⟨o.slots,k b o hc e⟩)
  (λb o _ e n=>by rw[ag b (uD e)];exact n) (λb o hc e=>⟨o,k b o hc e⟩) (λb _ e=>by rw[ag b (I.hok.lt e)];exact e) (λb o u e=>by rw[ag b (I.hok.lt e)];exact e)
  (λb _ e=>⟨#[],by rw[ag b (I.hok.lt e),e];simp⟩) (λm hm=>?_) hok I.bare
 obtain⟨o,es,ep,ho,r⟩:=hm;exact⟨o,es,ep,k _ o (λz=>(hf _ z).2.1 rfl) ho,r⟩
def HOk.turned{a1:List Addr}(ok:HOk X.prog X.w H s.heap)(hf:∀b∈a1,H b=none)(k:∀b o,b∉a1->s.heap.get? b=some o->h'.get? b=o):HOk X.prog X.w H h':=λb u e=>by
 refine(ok b u e).stay (λc v _ q=>k c v (λz=>?_) q) (λ_ q=>q) λ_ _ q=>q
 simp_all
def HOk.turnedNew{z:List Addr}(ok:HOk X.prog X.w H s.heap)(hf:∀b∈z,H b=none)(k:∀b o,b∉z->s.heap.get? b=some o->h'.get? b=o)(hT:s.heap.objs.size<=T)
  (new:B3 X.prog X.w (upd H T o) h' T o):HOk X.prog X.w (upd H T o) h':=λb u e=>by
 by_cases hb:b=T
 .subst hb
  simp_all[qa]
 .rw[upd_ne hb]at e
  have hn:=ok.fresh hT;refine(HOk.turned ok hf k b u e).stay (λ_ _ _ q=>q) (λc q=>?_) λc _ q=>?_
  .rw[upd_ne (ne_of_none q hn)];exact q
  .rw[upd_ne (ne_of_none q hn)];exact q
end
def Ite(K:FA)(l:Addr):It:=
 ⟨λi H=>∃xs x,SqL K H l xs/\xs[i]?=some x,
  λi H v H'=>∃T x,v=.ref T/\H T=none/\H'=upd H T (.tup [.int i,x])/\∀xs,SqL K H l xs->xs[i]?=some x,
  λi H=>∃xs,SqL K H l xs/\xs.length<=i⟩
def Aa7{elts:List Expr}{x1}{tp:Pos}{e it l:Addr}(a9:e≠it) :
  N5 P w K (.Tuple elts x1 tp) (Ite K l) [e,it] e (λi h=>(∃a2,IsEnum h e it i a2)/\h.IsListIter it l i) where
 mem:=by simp
 obj:=λi h ⟨⟨a2,h1⟩,h4⟩ c hc=>by
  simp[or_false]at hc;rcases hc with rfl|rfl
  .exact⟨_,h1,λv z=>nomatch z⟩
  .obtain⟨o,e,c,d⟩:=h4
   exact⟨o,e,λv z=>by simp_all⟩
 keep:=λi h _ ⟨⟨a2,h1⟩,h4⟩ k=>⟨⟨a2,k _ (by simp) _ h1⟩,h4.at λo e=>k _ (by simp) o e⟩
 item:=by
  intro X hP hw hK _ i pins s Y H E I hf st hg;subst hP hw hK;obtain⟨⟨a2,h1⟩,h4⟩:=st;obtain⟨xs,x,q1,e1⟩:=hg;obtain⟨b3,a8,p1,b5⟩:=I.list q1;obtain⟨u,hu,ru⟩:=a8.get e1;refine wpAny_pyNext_enum_item h1 h4 p1.isList (by simpa using hu) a9 λh' a1 a3 a5 _ a7=>?_
  refine⟨_,Z,wpAny_letOwnedTupleGo_enum a1 λa4 b1 b2=>?_⟩;have Tz:=ne_of_gt (uD h1)
  have k:∀b o,b∉[e,it]->s.heap.get? b=some o->a4.get? b=o:=λb o hb q=>by
   simp[not_or]at hb;exact b2.extBut b o hb.1 (a7 b o hb.1 hb.2 q)
  have b4:∀b∈[e,it],s.heap.objs.size≠b:=λb hb=>by
   simp[or_false]at hb;rcases hb with rfl|rfl
   .exact Tz
   .obtain⟨o,q,_⟩:=h4;exact ne_of_gt (uD q)
  have hok:HOk _ _ (upd H _ (.tup [.int i,x])) _:=HOk.turnedNew I.hok (λb hb=>(hf b hb).1) k (zB _) ⟨zN2,[.int i _,u],.cons ⟨_,Z⟩ (.cons ru .nil),_,(b2.extBut _ _ Tz a5),Z,_,Z⟩;refine⟨.ref s.heap.objs.size,_,(I.turnedL (t':=s.toks+1) hf k (λb hb=>upd_ne (zF hb)) hok),Z,⟨_,x,Z,(I.hok.fresh (zB _)),Z,λzs hz=>by rw[I.list_inj hz q1];exact e1⟩,?_,λb hb=>by rw[upd_ne (Ne.symm (b4 b hb))];exact(hf b hb).1⟩;exact⟨⟨_,b1⟩,a3.extBut b2.extBut a9.symm⟩
 done:=by
  intro X hP hw hK hc i _ s Y H E I hf st hg;subst hP hw hK;obtain⟨⟨a2,h1⟩,h4⟩:=st;obtain⟨xs,q1,hx⟩:=hg;obtain⟨b3,a8,p1,b5⟩:=I.list q1;have l1:=a8.length;refine wpAny_pyNext_enum_end (I.ok.hd hc) h1 h4 p1.isList (by simp;omega) λh' a7=>?_
  have k:∀b o,b∉[e,it]->s.heap.get? b=some o->h'.get? b=o:=λb o hb q=>by
   simp[not_or]at hb;exact a7 b o hb.2 q
  exact⟨Z,I.turnedL hf k (λ_ _=>rfl) (HOk.turned I.hok (λb hb=>(hf b hb).1) k)⟩
 self:=λ_ _ _ _ _ st h=>by
  obtain⟨⟨a2,h1⟩,_⟩:=st;refine wpAny_pyIter_slot ⟨_,h1,Z⟩ F.slot_enumerate_iter (wpAny_call_entry F.slot_enumerate_iter ⟨_,h1,Z⟩ F.entry_enumerate_iter ?_ (F.args_enumerate_iter_1 _));exact vC ⟨_,Z,"enumerate",_,⟨_,h1,Z⟩,F.slot_enumerate_next.lookup,h⟩
def Ag8(K:FA)(ta:TA):TI:=λY H R=>ta Y H λvs H1=>∃l,vs=[.ref l]/\(∃xs,SqL K H1 l xs)/\R (Ite K l) H1
def Y4{elts:List Expr}{x1}{tp:Pos}{a:Expr}{ta:TA}{p:Pos}(hg:Gl X "enumerate")(hm:X.mg "enumerate"= none)(ha:PA X [a] ta)(hs:starEach [a] X.env=[(false,eval a X.env)]:=by rfl) :
  PI X (.Tuple elts x1 tp) (.Call (.Name "enumerate" p) [a] [] pos) (Ag8 X.K ta):=by
 intro pins s Y H R I h;refine Call_ (Il I hg hm boot_enumerate (PyProof.Rows.callWith_type1 (thn (ha _ _ s Y H _ I h) λus s1 ⟨vs,H1,I1,r1,q1⟩=>?_) hs rfl));obtain⟨l,e,⟨xs,hx⟩,q⟩:=q1;subst e;obtain⟨u,rfl,ru⟩:=r1.one;cases ru
 obtain⟨a2,a5,p1,a3⟩:=I1.list hx;refine call_enumerate_list p1.isList λh' a1 a4 _ a7=>?_
 have T:=Aa7 (P:=X.prog) (w:=X.w) (K:=X.K) (elts:=elts) (x1:=x1) (tp:=tp) (it:=s1.heap.objs.size) (l:=l) (ne_of_gt (lt_succ_self _));refine T.self _ 0 {s1 with heap:=h' } _ _ ⟨⟨_,a1⟩,a4⟩ ?_;refine⟨_,_,_,_,H1,Z,(I1.kept (t':=s1.toks) a7),T,⟨⟨_,a1⟩,a4⟩,λb z=>?_,q⟩
 have z:s1.heap.objs.size<=b:=by
  simp only[zM,mem_nil_iff,or_false]at z;rcases z with rfl|rfl
  .simp
  .exact zB _
 exact I1.fpOk z (I1.hok.fresh z)
def AcX{l:Addr}{g:TG}{tb:TS}{D:Ii}(z:Nat->St->Hp->Prop)(h0:z 0 Y H)(hl:∀i Y H,i<=xs.length->z i Y H->SqL K H l xs)
  (hs:∀i x T Y H,xs[i]?=some x->z i Y H->H T=none->g (.ref T) Y (upd H T (.tup [.int i,x])) λa1 H2=>tb {D with nx:=z (i+1),ct:=z (i+1),bk:=D.nx} a1 H2) (hd:∀Y H,z xs.length Y H->D.nx Y H) :
  ∃W:Nat->Nat->St->Hp->Prop,(∃m,W 0 m Y H)/\∀i m Y H,W i m Y H ->
   ((Ite K l).stop i H/\D.nx Y H)\/((Ite K l).go i H/\∃N:St->Hp->Prop,(∀a2 H',N a2 H'->∃m',m'<m/\W (i+1) m' a2 H')/\∀x H',(Ite K l).yld i H x H'->g x Y H' λa1 H2=>tb {D with nx:=N,ct:=N,bk:=D.nx} a1 H2):=by
 refine⟨λi m Y H=>m=xs.length-i/\i<=xs.length/\z i Y H,⟨xs.length,by simp,zZ _,h0⟩,?_⟩;rintro i m Y H ⟨rfl,hi,p⟩;have q1:=hl i Y H hi p
 by_cases a3:i<xs.length
 .refine .inr ⟨⟨xs,xs[i],q1,by simp⟩,z _,λa2 _ p'=>⟨xs.length-(i+1),by omega,rfl,a3,p'⟩,λx _ y=>?_⟩
  obtain⟨T,a,rfl,hT,rfl,y1⟩:=y;exact hs i a T Y H (y1 _ q1) p hT
 .have e:i=xs.length:=by omega
  subst e;exact .inl ⟨⟨xs,q1,zB _⟩,hd Y H p⟩
inductive Nd where
 |s (x:Str)
 |i (n:Int)
 |t (xs:List Nd)
def Tp(H H':Hp):Prop:=∀b xs,H b=some (.tup xs)->H' b=some (.tup xs)
def Tp.trans{H1:Hp}(a:Tp H H1)(b:Tp H1 H2):Tp H H2:=λc xs h=>b c _ (a c _ h)
def Same.tp(h:Same H H'):Tp H H':=λb _ e=>h b _ e
def Tp.new{o:HO}(h:H a=none):Tp H (upd H a o):=λb _ e=>by rw[upd_ne (ne_of_none e h)];exact e
def tpLs{o:HO}{ys:List V}(h:H a=some (.lst ys)):Tp H (upd H a o):=λb _ e=>by rw[upd_ne (Bu e h (by simp))];exact e
def Ac{p:Addr}(h:H p=none)(o:HO):Same H (upd H p o):=λb u q=>by rw[upd_ne (ne_of_none q h)];exact q
def Same.young{H1:Hp}{p:Addr}(g:Same H H1)(h:H p=none)(o:HO):Same H (upd H1 p o):=λb u q=>by rw[upd_ne (ne_of_none q h)];exact g b u q
def isT:Nd->Bool
 |.t _=>true
 |_=>false
mutual
def pre:Nd->List Nd
 |.t xs=>.t xs::Eg xs
 |.s _=>[]
 |.i _=>[]
def Eg:List Nd->List Nd
 |[]=>[]
 |x::r=>Eg r++pre x
end
mutual
def E7:Nd->Bool
 |.t xs=>decide (xs.length<=8)&&A5 xs
 |.s _=>true
 |.i _=>true
def A5:List Nd->Bool
 |[]=>true
 |x::r=>E7 x&&A5 r
end
def cnt(n:Nd):Nat:=(pre n).length
def D3(xs:List Nd):pre (.t xs)=.t xs::Eg xs:=by rw[pre]
def Et(x:Str):pre (.s x)=[]:=by rw[pre]
def Gn(x:Int):pre (.i x)=[]:=by rw[pre]
def B9:Eg []=[]:=by rw[Eg]
def Av(x:Nd)(r:List Nd):Eg (x::r)=Eg r++pre x:=by rw[Eg]
theorem Lh:∀(a b),Eg (a++b)=Eg b++Eg a
 |[],b=>by rw[B9];simp
 |x::a,b=>by
  simp[Av,Lh]
def Ad2{n:Nd}(h:isT n=false):pre n=[]:=by
 cases n with
 |s x=>exact Et x
 |i x=>exact Gn x
 |t _=>cases h
def inner(xs:List Nd):List Nd:=xs.filter isT
theorem Qr:∀xs:List Nd,Eg (inner xs)=Eg xs
 |[]=>rfl
 |x::r=>by
  unfold inner;rw[filter_cons,Av];have z:=Qr r;unfold inner at z;cases e:isT x with
  |true=>rw[if_pos rfl,Av,z]
  |false=>rw[if_neg qc,z,Ad2 e,zK]
def Hs{xs:List Nd}(h1:xs.length<=8)(h2:A5 xs):E7 (.t xs):=by simp[E7,h1,h2]
def Uw{xs:List Nd}(h:E7 (.t xs)):xs.length<=8:=by
 simp_all[E7]
def Ae1{xs:List Nd}(h:E7 (.t xs)):A5 xs:=by
 rw[E7,vA]at h;exact h.2
def S7:A5 []:=by rw[A5]
def J9{x:Nd}{r:List Nd}(h1:E7 x)(h2:A5 r):A5 (x::r):=by simp[A5,h1,h2]
theorem Nv:∀{a b:List _},A5 a->A5 b->A5 (a++b)
 |[],b,_,h=>h
 |x::a,b,h,h'=>by
  rw[A5,vA]at h;exact J9 h.1 (Nv h.2 h')
theorem Ms:∀{a b:List Nd},A5 (a++b)->A5 a/\A5 b
 |[],b,h=>⟨S7,h⟩
 |x::a,b,h=>by
  have h:A5 (x::(a++b)):=h;rw[A5,vA]at h;exact⟨J9 h.1 (Ms h.2).1,(Ms h.2).2⟩
def Aci{x:Nd}(h:A5 [x]):E7 x:=by
 simp_all[A5]
theorem Lg:∀{xs:List _},A5 xs->A5 (inner xs)
 |[],h=>h
 |x::r,h=>by
  rw[A5,vA]at h;unfold inner;rw[filter_cons];split
  .exact J9 h.1 (Lg h.2)
  .exact Lg h.2
def Aeu{xs:List Nd}:∀x∈inner xs,isT x:=λx h=>(mem_filter.mp h).2
def Cq(h:n<=1000):n<=sizeLine:=le_of_lt (Hk h)
def E6{α:Type}{xs:List α}{v:α}(h:xs[xs.length-1]?=v):atI xs (-1)=v:=by
 have hl:0<xs.length:=by
  rcases Nat.eq_zero_or_pos xs.length with z|z
  .simp_all
  .exact z
 unfold atI ixN;rw[if_neg (by omega),if_pos (by omega)];rw[show((-1)+(xs.length:Int)).toNat=xs.length-1 by omega];exact h
def Ja{z:Type}{xs:List z}{v:z}(h1:2<=xs.length)(h:xs[xs.length-2]?=v):atI xs (-2)=v:=by
 unfold atI ixN;rw[if_neg (by omega),if_pos (by omega)];rw[show((-2)+(xs.length:Int)).toNat=xs.length-2 by omega];exact h
def Jz{p q:Addr}{a b:HO}(h:H p=none)(h2:(upd H p a) q=none):Same H (upd (upd H p a) q b)/\(upd (upd H p a) q b) p=a/\(upd (upd H p a) q b) q=b:=
 ⟨(Ac h a).trans (Ac h2 b),Ac h2 b _ _ qa,qa⟩
def Afc{p q r:Addr}{a b c:HO}(h:H p=none)(h2:(upd H p a) q=none)(h3:(upd (upd H p a) q b) r=none) :
  Same H (upd (upd (upd H p a) q b) r c)/\(upd (upd (upd H p a) q b) r c) p=a/\(upd (upd (upd H p a) q b) r c) q=b/\(upd (upd (upd H p a) q b) r c) r=c:=
 ⟨((Ac h a).trans (Ac h2 b)).trans (Ac h3 c),Ac h3 c _ _ (Ac h2 b _ _ qa),Ac h3 c _ _ qa,qa⟩
def Ao(K:FA)(mg:Str->Option Value)(x:Str)(ps:List Str)(st:Stmt):Prop:=∃f fd,Fun K x x st f fd/\mg x=some (.ref f)/\Dm K fd ps []
def Ae(P:Program)(w:World)(K:FA)(mg:Str->Option Value)(base:Heap)(k:Nat)(x:Str)(ps:List Str)(sp:Sp):Prop:=
 ∃f fd,Cc P w K mg base CX0 k f fd ps sp/\Dm K fd ps []/\keepIn K (.ref f)=true/\mg x=some (.ref f)
def Ae.mono{j:Nat}(C:Ae P w K mg base j x ps sp)(h:j<=k):Ae P w K mg base k x ps sp:=by
 obtain⟨f,fd,F,b,kp,m⟩:=C;exact⟨f,fd,F.mono h,b,kp,m⟩
def Ae.imp{z:Sp}(C:Ae P w K mg base k x ps sp)(h:∀vs H Q E,z vs H Q E->sp vs H Q E):Ae P w K mg base k x ps z:=by
 obtain⟨f,fd,F,b,kp,m⟩:=C;exact⟨f,fd,F.imp h,b,kp,m⟩
def Ao.ok{N:List Str}(F:Ao K mg x ps st)(S:Ak N ps (Af st))(len:∀vs H Q E,sp vs H Q E->vs.length=ps.length)
  (z:∀(f:Addr)(cdv:Value)(A:Around)(outer:List Env)(s:Shared)(H:Hp)(vs:List V)(Q:VK)(E:XK),Cj k (A.deeper (envOfC x (Af st) s.heap.objs.size f cdv))->sp vs H Q E ->
   ∃t,PSs (Nf CX0 P w K mg base N x (Af st) f cdv A outer s H E).nox (B1 st) t/\t {nx:=λ_ H'=>Q .non H',rt:=Q} (start N vs) H):Ae P w K mg base (k+1) x ps sp:=by
 obtain⟨f,fd,F,m,b⟩:=F;exact⟨f,fd,F.ok S len (z f),b,F.kp,m⟩
def Ao.zero(F:Ao K mg x ps st)(no:∀vs H Q E,¬sp vs H Q E):Ae P w K mg base 0 x ps sp:=by
 obtain⟨f,fd,F,m,b⟩:=F;exact⟨f,fd,⟨λvs H Q E h=>absurd h (no _ H Q E),λA _ s H _ _ vs Q E _ _ _ _ h=>absurd h (no _ H Q E)⟩,b,F.kp,m⟩
section
variable{p:Pos}{t:TA}{j:Nat}{E:XK}
def U0(C:Ae X.prog X.w X.K X.mg X.base j x ps sp)(hr:Cj k X.A)(hg:Gl X x)(hx:G4 CX0 X E)(ha:PA X (e::es) t)(hj:j<=k:=by first|decide|omega)
  (a1:(x==("__debug__": Str))=false:=by decide) (he:starEach (e::es) X.env=(false,eval e X.env)::starEach es X.env:=by rfl) (z:(backTo pos (starEach es X.env)).any (·.1)=false:=by rfl) :
  PE X (.Call (.Name x p) (e::es) [] pos) (Hy sp [] E t):=by
 obtain⟨f,fd,F,b,kp,m⟩:=C;exact Aeb (F.mono hj) hr hg m kp b .nil hx ha a1 he z
end
def Ahz(K:FA):List V->Hp->VK->Prop:=λxs H Q=>∃p ys,xs=[.ref p]/\(SqL K H p ys\/SqT K H p ys)/\Q (.int ys.length) H
def C9:Gm X (.builtin "len") (Ahz X.K):=Ug
def AhK:List V->Hp->VK->Prop:=λxs H Q=>(∃i,xs=[.int i]/\Q (.int i) H)\/∃k,xs=[.bl k]/\Q (.int (if k then 1 else 0)) H
def Ni:Gm X (.type "int") AhK:=Ab8
def O3:Gm X (.builtin "sorted") (λxs H Q=>∃p ns,xs=[.ref p]/\SqL X.K H p ((ns:List Int).map V.int)/\ns.length<64 /\
  ∀r(ms:List Int),H r=none->ms.Perm ns->ms.Pairwise (·<=·)->Q (.ref r) (upd H r (.lst (ms.map V.int)))):=by
 intro pins s Y H _ _ Q I r h;obtain⟨p,ns,rfl,hS,hl,q⟩:=h;obtain⟨u,rfl,ru⟩:=r.one;cases ru
 obtain⟨a5,rv,pl,hz⟩:=I.list hS;have el:=rv.length;rw[vE]at el;refine sorted_ints pl.isList (L9 rv) (by omega) λa4 z a1 a2 a3=>?_
 obtain⟨e,he⟩:=sortedAll_at _ _ _;have a6:=a2.length_eq;refine⟨.ref _,_,I.laid (λb o e=>sortedAll_old e) (le_succ _) ?_,Z,q _ z (I.hok.fresh (le_succ _)) a2 a3⟩;refine⟨by simp_all,a4.toList,e,K7 a1,?_⟩;rw[he]
def AdM{ns ms:List Int}(h:ns.length=ms.length):((List.range ns.length).all λj=>decide (ns[j]?=ms[j]?))=decide (ns=ms):=by
 by_cases e:ns=ms
 .subst e;simp
 .rw[vM e]
  refine Bool.eq_false_iff.mpr λz=>e ?_
  rw[all_eq_true]at z;refine List.ext_getElem? λi=>?_
  by_cases hi:i<ns.length
  .exact vN (z i (mem_range.mpr hi))
  .simp_all
def Aef{ns ms:List Int}(r:A0 (ns.map V.int) us)(r':A0 (ms.map V.int) ws):∀j(h1:j<us.toArray.size)(h2:j<ws.toArray.size),SeqAt.EqAt A s us.toArray[j] ws.toArray[j] (decide (ns[j]?=ms[j]?)):=by
 intro j _ _;have l1:=r.length;have l2:=r'.length;have a1:j<ns.length:=by simp_all
 have a2:j<ms.length:=by simp_all
 obtain⟨u,eu,ru⟩:=r.get (by rw[vJ,vD a1];rfl);obtain⟨v,ev,rv⟩:=r'.get (by rw[vJ,vD a2];rfl)
 have e1:=by
  have:us[j]?=us.toArray[j]:=by simp
  rw[eu]at this;exact(uH this).symm
 have e2:=by
  have:ws[j]?=ws.toArray[j]:=by simp
  rw[ev]at this;exact(uH this).symm
 have z:=Abh (A:=A) (s:=s) ru rv rfl rfl
 have e3:eqV (V.int ns[j]) (V.int ms[j])=decide (ns[j]?=ms[j]?):=by
  rw[vD a1,vD a2];show(ns[j]==ms[j])=_
  by_cases q:ns[j]=ms[j]
  .rw[q];simp
  .rw[vM λz=>q (uH z)];simpa using q
 simp_all
inductive AbY(K:FA)(neg:Bool)(x y:V)(H:Hp)(Q:VK):Prop
 |mk(p)(q)(ns)(ms)(_:x=.ref p)(_:y=.ref q)(_:SqL K H p ((ns:List Int).map V.int))(_:SqL K H q ((ms:List Int).map V.int))(_:Q (.bl (if neg then !decide (ns=ms) else decide (ns=ms))) H)
def AfR(K:FA)(neg:Bool):R2:=λx y H Q=>AbY K neg x y H Q
def AbT(hu:X.A.units<cLine):OpR X (compareOp .NotEq) (AfR X.K true):=by
 intro pins s Y H x y v u Q I rx ry h;obtain⟨p,q,ns,ms,rfl,rfl,h1,h2,hq⟩:=h;cases rx
 cases ry
 obtain⟨us,r1,p1,z1⟩:=I.list h1;obtain⟨ws,r2,p2,z2⟩:=I.list h2;have l1:=r1.length;have l2:=r2.length;rw[vE]at l1 l2
 by_cases e:ns.length=ms.length
 .refine SeqAt.RcNeAt.lists p1.isList p2.isList (by simp;omega) hu (Aef r1 r2) _ _ _ _ ?_
  rw[vP,<-l1,AdM e];exact⟨.bl _,H,I,Z,hq⟩
 .refine SeqAt.RcNeAt.lists_lengths p1.isList p2.isList (by simp;omega) hu _ _ _ _ ?_
  have d:decide (ns=ms)=false:=vM λz=>e (by rw[z])
  rw[d]at hq;exact⟨.bl _,H,I,Z,hq⟩
def Ej{n:Int}{ns:List Int}:inV (.int n) (ns.map V.int)=decide (n∈ns):=by
 unfold inV;rw[any_map]
 by_cases e:n∈ns
 .rw[vK e,any_eq_true]
  exact⟨n,e,by show(n==n);simp⟩
 .rw[vM e]
  refine Bool.eq_false_iff.mpr λz=>e ?_
  rw[any_eq_true]at z;obtain⟨m,hm,h⟩:=z;have:(m==n):=h;simp_all
def Cb(ns:List Int):(ns.map V.int).all G9:=by
 rw[all_eq_true];intro x z;obtain⟨n,_,rfl⟩:=zU.mp z;rfl
abbrev Mv(J:It)(g:TG)(tc:TT)(te:TE)(σY:St)(F:Addr->List V->Hp->Prop)(H:Hp):Prop:=
 ∃W:Nat->Nat->List V->Hp->Prop,(∃m,W 0 m [] H)/\∀i m ys H,W i m ys H ->
   (J.stop i H/\∀D,H D=none->F D ys H) \/
   (J.go i H/\ys.length<sizeLine/\∀x H',J.yld i H x H'->g x σY H' λσ2 H2=>tc σ2 H2 λb H3=>if b=true then te σ2 H3 λy H4=>∃m',m'<m/\W (i+1) m' (ys++[y]) H4 else ∃m',m'<m/\W (i+1) m' ys H3)
def Ix{J:It}{g:TG}{tc:TT}{a4:St}{F:Addr->List V->Hp->Prop}(Pv:Nat->List V->Hp->Prop)(h0:Pv 0 [] H)(hz:k<=sizeLine)
  (a5:∀i ys H,i<k->Pv i ys H->J.go i H) (a6:∀ys H,Pv k ys H->J.stop k H)
  (hs:∀i x ys H H'(N:List V->Hp->Prop),i<k->Pv i ys H->J.yld i H x H'->ys.length<=i->(∀z H',z.length<=i+1->Pv (i+1) z H'->N z H')->g x a4 H' λa3 H2=>tc a3 H2 λb H3=>if b=true then te a3 H3 λy H4=>N (ys++[y]) H4 else N ys H3)
  (hd:∀ys H,ys.length<=k->Pv k ys H->∀D,H D=none->F D ys H):Mv J g tc te a4 F H:=by
 refine⟨λi m ys H=>m=k-i/\i<=k/\ys.length<=i/\Pv i ys H,⟨k,by simp,zZ _,zB _,h0⟩,?_⟩;rintro i m ys H ⟨rfl,hi,a2,p⟩
 by_cases a1:i<k
 .exact .inr ⟨a5 i _ H a1 p,by omega,λx H' y=>hs i x _ H _ (λz H4=>∃m',m'<k-i/\m'=k-(i+1)/\i+1<=k/\z.length<=i+1/\Pv _ z _) a1 p y a2 λz _ l q=>⟨k-(i+1),by omega,Z,a1,l,q⟩⟩
 .have e:i=k:=by omega
  subst e;exact .inl ⟨a6 _ H p,hd _ H a2 p⟩
def Db{g:TG}{tc:TT}{a2:St}{F:Addr->List V->Hp->Prop}(Pv:Nat->List V->Hp->Prop)(h0:Pv 0 [] H)(hz:xs.length<=sizeLine)(hl:∀i ys H,Pv i ys H->SqL K H a xs)
  (hs:∀i x ys H(N:List V->Hp->Prop),xs[i]?=some x->Pv i ys H->(∀z H',z.length<=i+1->Pv (i+1) z H'->N z H')->ys.length<=i->g x a2 H λa1 H2=>tc a1 H2 λb H3=>if b then te a1 H3 λy H4=>N (ys++[y]) H4 else N ys H3)
  (hd:∀ys H,ys.length<=xs.length->Pv xs.length ys H->∀D,H D=none->F D ys H):Mv (Itl K a) g tc te a2 F H:=
 Ix _ h0 hz (λi ys H hi p=>⟨xs,xs[i],hl i _ H p,by simp⟩) (λys H p=>⟨xs,hl _ _ H p,zB _⟩)
  (λi x ys H _ N _ p ⟨e,y⟩ a3 k=>by subst e;exact hs i x _ _ N (y _ (hl i _ _ p)) p k a3) hd
def Ur{g:TG}{tc:TT}{a2:St}{F:Addr->List V->Hp->Prop}(Pv:Nat->List V->Hp->Prop)(h0:Pv 0 [] H)(hz:xs.length<=sizeLine)(hl:∀i ys H,Pv i ys H->SqT K H a xs)
  (hs:∀i x ys H(N:List V->Hp->Prop),xs[i]?=some x->Pv i ys H->(∀z H',z.length<=i+1->Pv (i+1) z H'->N z H')->ys.length<=i->g x a2 H λa1 H2=>tc a1 H2 λb H3=>if b then te a1 H3 λy H4=>N (ys++[y]) H4 else N ys H3)
  (hd:∀ys H,ys.length<=xs.length->Pv xs.length ys H->∀D,H D=none->F D ys H):Mv (Itt K a) g tc te a2 F H:=
 Ix _ h0 hz (λi ys H hi p=>⟨xs,xs[i],hl i _ H p,by simp⟩) (λys H p=>⟨xs,hl _ _ H p,zB _⟩)
  (λi x ys H _ N _ p ⟨e,y⟩ a3 k=>by subst e;exact hs i x _ _ N (y _ (hl i _ _ p)) p k a3) hd
def Fq{lo:Int}{g:TG}{tc:TT}{F:Addr->List V->Hp->Prop}(Pv:Nat->List V->Hp->Prop)(h0:Pv 0 [] H)(hz:n<=sizeLine)
  (hs:∀i ys H(N:List V->Hp->Prop),i<n->Pv i ys H->(∀z H',z.length<=i+1->Pv (i+1) z H'->N z H')->ys.length<=i->g (.int (lo+i)) a2 H λa1 H2=>tc a1 H2 λb H3=>if b then te a1 H3 λy H4=>N (ys++[y]) H4 else N ys H3)
  (hd:∀ys H,ys.length<=n->Pv n ys H->∀D,H D=none->F D ys H):Mv (Itr lo n) g tc te a2 F H:=
 Ix _ h0 hz (λi _ H hi p=>hi) (λys H p=>zB _)
  (λi x ys H _ N hi p ⟨e,y⟩ a3 k=>by subst e y;exact hs i _ _ N hi p k a3) hd
def Aaw{g:TG}{tc:TT}{a3:St}{F:Addr->List V->Hp->Prop}(Pv:Nat->List V->Hp->Prop)(h0:Pv 0 [] H)(hz:xs.length<=sizeLine)(hl:∀i ys H,Pv i ys H->SqL K H a xs)
  (hs:∀i x T ys H(N:List V->Hp->Prop),xs[i]?=some x->Pv i ys H->H T=none->(∀a1 H',a1.length<=i+1->Pv (i+1) a1 H'->N a1 H')->ys.length<=i->g (.ref T) a3 (upd H T (.tup [.int i,x])) λa2 H2=>tc a2 H2 λb H3=>if b then te a2 H3 λy H4=>N (ys++[y]) H4 else N ys H3)
  (hd:∀ys H,ys.length<=xs.length->Pv xs.length ys H->∀D,H D=none->F D ys H):Mv (Ite K a) g tc te a3 F H:=
 Ix _ h0 hz (λi ys H hi p=>⟨xs,xs[i],hl i _ H p,by simp⟩) (λys H p=>⟨xs,hl _ _ H p,zB _⟩)
  (λi x ys H _ N _ p ⟨T,z,e1,hT,e2,y⟩ a4 k=>by subst e1 e2;exact hs i z T _ _ N (y _ (hl i _ _ p)) p hT k a4) hd
section
variable{κ:Type} [DecidableEq κ]
def Kr(kvs:List (κ×V))(k:κ):Option V:=(kvs.find? λkv=>decide (kv.1=k)).map (·.2)
def Fo(kvs:List (κ×V))(k:κ)(v:V):List (κ×V):=
 if (kvs.any λkv=>decide (kv.1=k))=true then kvs.map (λkv=>if kv.1=k then(kv.1,v) else kv) else kvs++[(k,v)]
def Me{p:κ×V}{r:List (κ×V)}{k:κ}(e:p.1=k):Kr (p::r) k=p.2:=by simp[Kr,e]
def Ma{p:κ×V}{r:List (κ×V)}{k:κ}(e:¬p.1=k):Kr (p::r) k=Kr r k:=by simp[Kr,e]
theorem Wx(k:κ):∀kvs:List _,(kvs.any λz=>decide (z.1=k))=(Kr kvs k).isSome
 |[]=>rfl
 |p::r=>by
  rw[any_cons]
  by_cases e:p.1=k
  .simp[Me e,vK e,Option.isSome_some]
  .rw[Ma e,vM e];exact Wx k r
def Lj(kvs:List (κ×V))(k:κ)(v:V):(Fo kvs k v).length<=kvs.length+1:=by
 unfold Fo;split
 .rw[vE];omega
 .simp
def Gy.isSome_eq{o:Option V}{u:Option Value}(r:Gy o u):o.isSome=u.isSome:=by
 cases o with
 |none=>cases u with
  |none=>rfl
  |some _=>exact(r).elim
 |some _=>cases u with
  |none=>exact(r).elim
  |some _=>rfl
def KV.val(r:KV kvs vs)(k:κ):Gy (Kr kvs k) (valueAt vs k):=by
 induction r with
 |nil=>exact True.intro
 |@cons p q _ qs h t ih=>
  obtain⟨h1,h2⟩:=h
  by_cases e:p.1=k
  .have e':=h1.symm.trans e
   have b:valueAt (q::qs) k=q.2:=by simp[valueAt,e']
   rw[Me e,b];exact h2
  .have e':¬q.1=k:=λz=>e (h1.trans z)
   have b:valueAt (q::qs) k=valueAt qs k:=by simp[valueAt,e']
   rw[Ma e,b];exact ih
def KV.any{kvs:List (κ×V)}{vs:List (κ×Value)}(r:KV kvs vs)(k:κ):(kvs.any λz=>decide (z.1=k))=vs.any λz=>decide (z.1=k):=by
 induction r with
 |nil=>rfl
 |cons h t ih=>rw[any_cons,any_cons,ih,h.1]
def KV.repl{kvs:List (κ×V)}{vs:List (κ×Value)}(r:KV kvs vs)(k:κ){y:V}(ry:A2 y u) :
  KV (kvs.map λkv=>if kv.1=k then(kv.1,y) else kv) (vs.map λkv=>if kv.1=k then(kv.1,u) else kv):=by
 induction r with
 |nil=>exact .nil
 |@cons p q _ _ h t ih=>
  rw[zT,zT];refine .cons ?_ ih;obtain⟨h1,h2⟩:=h
  by_cases e:p.1=k
  .rw[if_pos e,if_pos (h1.symm.trans e)];exact⟨h1,ry⟩
  .rw[if_neg e,if_neg (λz=>e (h1.trans z))];exact⟨h1,h2⟩
def KV.put{kvs:List (κ×V)}{vs:List (κ×Value)}(r:KV kvs vs)(k:κ){y:V}(z:A2 y u):KV (Fo kvs k y) (stored vs k u):=by
 unfold Fo stored;rw[r.any k]
 by_cases e:(vs.any λkv=>decide (kv.1=k))
 .rw[if_pos e,if_pos e];exact r.repl k z
 .rw[if_neg e,if_neg e];exact Paired.snoc r ⟨Z,z⟩
def KV.length{kvs:List (κ×V)}{vs:List (κ×Value)}(r:KV kvs vs):kvs.length=vs.length:=Paired.length r
end
def P9{k:Key}(r:A2 (kV k) u):(mixKind P w).is k u:=by
 cases k with
 |inl i=>obtain⟨t,e⟩:=(r);subst e;exact Xm P w i t
 |inr x=>obtain⟨t,e⟩:=(r);subst e;exact Xl P w x t
theorem Ss:∀{ks:List _}{us:List _},A0 (ks.map kV) us->ItemsAre (mixKind P w) ks us
 |[],_,r=>by cases r;exact .nil
 |k::ks,_,r=>by
  cases r with
  |cons h t=>exact .cons (P9 h) (Ss t)
abbrev KT(H:Hp):List (List Key×V)->List (List Key×Addr×Value)->Prop:=Paired λp q=>p.1=q.1/\H q.2.1=some (.tup (p.1.map kV))/\A2 p.2 q.2.2
def KT.val{xs:List (List Key×Addr×Value)}(r:KT H kvs xs)(k:List Key):Gy (Kr kvs k) ((atKey xs k).map (·.2)):=by
 induction r with
 |nil=>exact True.intro
 |@cons p q _ qs h t ih=>
  obtain⟨h1,_,h2⟩:=h
  by_cases e:p.1=k
  .have e':=h1.symm.trans e
   have b:atKey (q::qs) k=q.2:=by simp[atKey,e']
   rw[Me e,b];exact h2
  .have e':¬q.1=k:=λz=>e (h1.trans z)
   have b:atKey (q::qs) k=atKey qs k:=by simp[atKey,e']
   rw[Ma e,b];exact ih
def KT.repl{kvs:List (List Key×V)}{xs:List (List Key×Addr×Value)}(r:KT H kvs xs)(k:List Key){y:V}(ry:A2 y u) :
  KT H (kvs.map λkv=>if kv.1=k then(kv.1,y) else kv) (xs.map (putAt k u)):=by
 induction r with
 |nil=>exact .nil
 |@cons p q _ _ h t ih=>
  rw[zT];refine .cons ?_ ih;obtain⟨h1,h2,h3⟩:=h;unfold putAt
  by_cases e:p.1=k
  .rw[if_pos e,if_pos (h1.symm.trans e)];exact⟨h1,h2,ry⟩
  .rw[if_neg e,if_neg (λz=>e (h1.trans z))];exact⟨h1,h2,h3⟩
def KT.put{kvs:List (List Key×V)}{xs:List (List Key×Addr×Value)}(r:KT H kvs xs)(k:List Key){b:Addr}{y:V}(hb:H b=some (.tup (k.map kV)))(z:A2 y u) :
  KT H (Fo kvs k y) (storedH xs k b u):=by
 have e:(kvs.any λkv=>decide (kv.1=k))=(atKey xs k).isSome:=by
  rw[Wx,(r.val k).isSome_eq,Option.isSome_map]
 unfold Fo storedH;rw[e]
 by_cases q:(atKey xs k).isSome
 .rw[if_pos q,if_pos q];exact r.repl k z
 .rw[if_neg q,if_neg q];exact Paired.snoc r ⟨Z,hb,z⟩
def KT.keeps{kvs:List (List Key×V)}{xs:List (List Key×Addr×Value)}(r:KT H kvs xs)(ht:∀b ys,H b=some (.tup ys)->H' b=some (.tup ys)):KT H' kvs xs:=
 Bh r λ_ _ z=>⟨z.1,ht _ _ z.2.1,z.2.2⟩
def AdY{u:HO}(ok:HOk P w H h)(e:Rd H a u):B3 P w H h a u:=e.ok ok
def Oh{kvs:List (Key×V)}(ok:HOk P w H h)(e:Rd H a (.dK kvs)):kvs.length<=sizeLine/\(a==sysModules)=false/\∃vs,KV kvs vs/\h.DictOf (mixKind P w) a vs:=
 show B3 P w H h a _ from AdY ok e
def Adl{kvs:List (Key×V)}(ok:HOk P w H h)(e:H a=some (.dK kvs)):kvs.length<=sizeLine/\(a==sysModules)=false/\∃vs,KV kvs vs/\h.DictOf (mixKind P w) a vs:=Oh ok (.inl e)
def L4{ks:List Key}(ok:HOk P w H h)(e:H a=some (.tup (ks.map kV))):(tupleKind (mixKind P w)).is h ks a:=by
 obtain⟨_,z,r,o,h1,h2,n,h3⟩:=(ok a _ e);exact⟨o,z.toArray,n,h1,h2,h3,by simpa using Ss r⟩
def T6{kvs:List (List Key×V)}(ok:HOk P w H h)(e:Rd H a (.dT kvs)):kvs.length<=sizeLine/\(a==sysModules)=false /\
  ∃xs,KT H kvs xs/\h.DictOfH (tupleKind (mixKind P w)) a xs:=by
 obtain⟨z,y,xs,r,o,es,ep,h1,h2,h3,h4,h5⟩:=(AdY ok e);refine⟨z,y,xs,r,o,es,ep,h1,h2,h3,h4,λx hx=>?_,h5⟩
 have all:∀{l:List _}{m:List _},KT H l m->∀x∈m,(tupleKind (mixKind P w)).is h x.1 x.2.1:=by
  intro l m q
  induction q with
  |nil=>exact λx hx=>nomatch hx
  |@cons p q _ _ _ t ih=>
   intro x hx;rcases zM.mp hx with e|hx
   .subst e
    exact L4 ok (by simp_all)
   .exact ih x hx
 exact all r x hx
def Agr{kvs:List (List Key×V)}(ok:HOk P w H h)(e:H a=some (.dT kvs)):kvs.length<=sizeLine/\(a==sysModules)=false /\
  ∃xs,KT H kvs xs/\h.DictOfH (tupleKind (mixKind P w)) a xs:=T6 ok (.inl e)
def Nk(H:Hp)(a:Addr)(y:V)(r:Option V):Prop:=
 (∃kvs k,Rd H a (.dK kvs)/\y=kV k/\r=Kr kvs k)\/∃kvs k b,Rd H a (.dT kvs)/\y=.ref b/\H b=some (.tup (k.map kV))/\r=Kr kvs k
def Afg(H:Hp)(a:Addr)(y v:V)(H':Hp):Prop:=
 (∃kvs k,H a=some (.dK kvs)/\y=kV k/\kvs.length<sizeLine/\H'=upd H a (.dK (Fo kvs k v))) \/
 ∃kvs k b,H a=some (.dT kvs)/\y=.ref b/\H b=some (.tup (k.map kV))/\kvs.length<sizeLine/\H'=upd H a (.dT (Fo kvs k v))
section
variable{s:Shared}{y v:V}{r:Value}{o:Option V}
def Inv.big(I:Inv X pins Y H s):sysModules<s.heap.objs.size:=by
 exact lt_trans (by decide) ((I.mod.glob.keeps I.bk).lt)
def Abd{Q:Value->Shared->Prop}(hu:A.units+1<cLine)(I:Inv X pins Y H s)(g:Nk H a y (some v))(ry:A2 y u)(h:∀w' s',Inv X pins Y H s'->A2 v w'->Q w' s') :
  wpAny (model X.prog X.w) A (getItem (.ref a) u) Q E s:=by
 rcases g with⟨kvs,k,e,ey,l⟩|⟨kvs,k,b,e,ey,eb,l⟩
 .subst ey
  obtain⟨z,hd,vs,a1,dd⟩:=Oh I.hok e;obtain⟨w',hw,a2⟩:=Gy.some_of (by rw[l];exact a1.val k);exact wpAny_getItem_of (P9 ry) dd.mapOf hw (h _ _ (I.tok _) a2)
 .subst ey
  cases (ry)
  obtain⟨z,hd,xs,a1,dd⟩:=T6 I.hok e;obtain⟨w',hw,a2⟩:=Gy.some_of (by rw[l];exact a1.val k);obtain⟨p,hp,a3⟩:=Option.map_eq_some_iff.mp hw;refine wpAny_getItem_heap (tupleKind_room_in1 hu) (L4 I.hok eb) dd hp ?_;rw[a3];exact h _ _ (I.tok _) a2
def AiB{Q:Value->Shared->Prop}(hu:A.units+1<cLine)(I:Inv X pins Y H s)(g:Nk H a y o)(ry:A2 y u)(h:∀s',Inv X pins Y H s'->Q (.bool o.isSome) s') :
  wpAny (model X.prog X.w) A (compareOp .In u (.ref a)) Q E s:=by
 rcases g with⟨kvs,k,e,ey,l⟩|⟨kvs,k,b,e,ey,eb,l⟩
 .subst ey
  obtain⟨z,hd,vs,a1,dd⟩:=Oh I.hok e;refine wpAny_in_of (P9 ry) hd dd.mapOf ?_;rw[<-(a1.val k).isSome_eq,<-l];exact h _ (I.tok _)
 .subst ey
  cases (ry)
  obtain⟨z,hd,xs,a1,dd⟩:=T6 I.hok e;refine wpAny_in_heap (tupleKind_room_in1 hu) (L4 I.hok eb) hd dd ?_;have q:=(a1.val k).isSome_eq;rw[Option.isSome_map]at q;rw[<-q,<-l];exact h _ (I.tok _)
def R7{t':Nat}{ob:HO}(I:Inv X pins Y H s)(mu:Mut (H a))(hs:Heap.SameBut a s.heap h')(he:∃q,h'.get? a=some q)(new:B3 X.prog X.w (upd H a ob) h' a ob) :
  Inv X pins Y (upd H a ob) {s with heap:=h',toks:=t' }:=
 I.write mu (.inl rfl) (λb q hb z=>(hs.2 b hb).trans z) he new
def Ab1{kvs:List (Key×V)}{vs:List (Key×Value)}(z:kvs.length<=sizeLine)(hd:(a==sysModules)=false)(a1:KV kvs vs)(dd:h'.DictOf (mixKind P w) a vs) :
  B3 P w H' h' a (.dK kvs):=⟨z,hd,vs,a1,dd⟩
def AbF{Q:Unit->Shared->Prop}(hu:A.units+1<cLine)(I:Inv X pins Y H s)(g:Afg H a y v H')(ry:A2 y u)(rv:A2 v r)(h:∀s',Inv X pins Y H' s'->Q () s') :
  wpAny (model X.prog X.w) A (setItem (.ref a) u r) Q E s:=by
 rcases g with⟨kvs,k,e,ey,l,eH⟩|⟨kvs,k,b,e,ey,eb,l,eH⟩
 .subst ey eH
  obtain⟨z,hd,vs,a1,dd⟩:=Adl I.hok e;have hz:vs.length<=sizeLine:=by rw[<-a1.length];exact z
  have hl:(Fo kvs k v).length<=sizeLine:=by have:=Lj kvs k v;omega
  refine wpAny_setItem_pairs (P9 ry) dd λh' a2 hs=>h _ ?_
  have he:∃q,h'.get? a=some q:=let ⟨q,_,_,hq,_⟩:=a2;⟨q,hq⟩
  exact R7 I (by rw[e];exact True.intro) hs he (Ab1 hl hd (a1.put k rv) a2)
 .subst ey eH
  cases (ry)
  obtain⟨z,hd,xs,a1,dd⟩:=Agr I.hok e;have hz:xs.length<=sizeLine:=by rw[<-Paired.length a1];exact z
  have hl:(Fo kvs k v).length<=sizeLine:=by have:=Lj kvs k v;omega
  refine wpAny_setItem_heap (tupleKind_room_in1 hu) (L4 I.hok eb) dd λh' a2 hs=>h _ ?_
  obtain⟨q,es,ep,hq,h2,h3,h4,_,h5⟩:=a2;refine R7 I (by rw[e];exact True.intro) hs ⟨q,hq⟩ ⟨hl,hd,_,(a1.put k eb rv).keeps λc _ ec=>?_,q,es,ep,hq,h2,h3,h4,h5⟩;rw[upd_ne (Bu ec e (λz=>nomatch z))];exact ec
end
section
variable{s:Shared}{kvs:List (Key×V)}{k:Key}
end
def AfK(i:Expr):Prop:=∀ov iv,subscripted i false ov iv=operate [ov,iv] (getItem ov iv)
def Aek{env:Env}{T id:String}{Q:Value->Shared->Prop}
  (hl:typeLookup (.type T) "__getitem__"= pure (some (.builtin id))) (hs:AfK z)
  (h:wpAny (model prog w) A (eval value env) (λo a4=>wpAny (model prog w) A (eval z env) (λi a1=>a1.TypeIs o T/\wpAny (model prog w) A (getItem o i) Q E a1) E a4) E s) :
  wpAny (model prog w) A (eval (.Subscript value z pos) env) Q E s:=by
 refine Subscript_ (zW h (λo _ a6=>zW a6 (λi a1 a2=>?_) λ_ _ x=>x) λ_ _ x=>x);obtain⟨hT,a2⟩:=a2;refine vB ?_;refine vB (wpAny_specialOf hT hl ?_)
 have a5:wpAny (model prog w) A (subscripted z false o i) (λr a3=>wpAny (model prog w) A (letTemporaryGo value o r>>=λ_=>pure r) Q E a3) E a1:=by
  rw[hs o i];exact wpAny_operating (zW a2 (λr _ a7=>vB (wpAny_letTemporaryGo (vC a7))) λ_ _ x=>x)
 first
  |exact vC (vB a5)
  |exact vB _
  |exact vB _
def Xp{s:Shared}{y:V}{o:Option V}(I:Inv X pins Y H s)(g:Nk H a y o):s.TypeIs (.ref a) "dict":=by
 rcases g with⟨kvs,k,e,_,_⟩|⟨kvs,k,b,e,_,_,_⟩
 .obtain⟨_,_,vs,_,z⟩:=Oh I.hok e
  exact z.typeIs
 .obtain⟨_,_,xs,_,z⟩:=T6 I.hok e
  exact z.typeIs
inductive Yo(x y:V)(H2:Hp)(Q:VK):Prop
 |mk(a:Addr)(v:V)(_:x=.ref a)(_:Nk H2 a y (some v))(_:Q v H2)
def T9(td ty:TE):TE:=λY H Q=>td Y H λx H1=>ty Y H1 λy H2=>Yo x y H2 Q
def Afy(ty td:TE):TE:=λY H Q=>ty Y H λy H1=>td Y H1 λx H2=>∃a o,x=.ref a/\Nk H2 a y o/\Q (.bl o.isSome) H2
def AhQ(td ty tv:TE):TS:=λD Y H=>tv Y H λv H1=>td Y H1 λx H2=>ty Y H2 λy H3=>∃a H4,x=.ref a/\Afg H3 a y v H4/\D.nx Y H4
section
variable{o i value:Expr}{pos' tpos:Pos}{td ty tv:TE}
def Oi(hu:X.A.units+1<cLine)(ho:PE X o td)(hi:PE X i ty)(hs:AfK i):PE X (.Subscript o i pos) (T9 td ty):=by
 intro pins s Y H Q I h;refine Aek PySem.F.slot_dict_getitem.lookup hs (thn (ho _ s Y H _ I h) λu s1 ⟨x,H1,I1,rx,q1⟩=>thn (hi _ _ Y _ _ I1 q1) λiv _ ⟨y,H2,I2,ry,a,v,ex,g,q2⟩=>?_);subst ex;obtain rfl:u=Value.ref a:=rx;exact⟨Xp I2 g,Abd hu I2 g ry λw' _ I3 z=>⟨v,H2,I3,z,q2⟩⟩
def AbU(z:X.A.units+1<cLine)(hi:PE X i ty)(ho:PE X o td):PC X .In i o (Afy ty td):=by
 intro pins s Y H Q I h;refine thn (hi _ s Y H _ I h) λiv s1 ⟨y,H1,I1,ry,q1⟩=>thn (ho _ _ Y _ _ I1 q1) λu _ ⟨x,H2,I2,rx,a,ov,ex,g,q2⟩=>?_
 subst ex;obtain rfl:u=Value.ref a:=rx;exact AiB z I2 g ry λs3 I3=>⟨.bl ov.isSome,H2,I3,Z,q2⟩
def Sa(hu:X.A.units+1<cLine)(ho:PE X o td)(hi:PE X i ty)(hv:PE X value tv)(hs:swapsWith value (some (.Subscript o i pos')) pos.line X.env=pure false) :
  PS X (.Assign [.Subscript o i pos'] value pos) (AhQ td ty tv):=by
 intro pins s Y H D I h;refine wpAny_Assign_Subscript (thn (hv _ s Y H _ I h) λr s1 ⟨v,H1,I1,rv,q1⟩=>thn (ho _ _ Y _ _ I1 q1) λu s2 ⟨x,H2,I2,rx,q2⟩=>thn (hi _ _ Y _ _ I2 q2) λiv _ ⟨y,H3,I3,ry,a,z,ex,g,q3⟩=>?_) hs;subst ex;obtain rfl:u=Value.ref a:=rx;exact AbF hu I3 g ry rv λs4 I4=>⟨Y,z,I4,q3⟩
end
def Wu(h:Heap)(z:sysModules<h.objs.size):B3 P w H (h.push {cls:=.type "dict",data:=.dict #[]}) h.objs.size (.dK []):=
 ⟨zZ _,beq_eq_false_iff_ne.mpr (Ne.symm (zF z)),[],.nil,Heap.DictOf.new h⟩
def AgF:TE:=λ_ H Q=>∀p,H p=none->Q (.ref p) (upd H p (.dK []))
def Mh:PE X (.Dict [] [] pos) AgF:=λpins s Y H Q I h=>
 wpAny_Dict_empty ⟨.ref s.heap.objs.size,_,I.laid (λ_ _ q=>uB _ q) (zB _) (Wu _ I.big),Z,h _ (I.hok.fresh (zB _))⟩
def Wb:List (TE×TE)->St->Hp->(List (V×V)->Hp->Prop)->Prop
 |[],_,H,Q=>Q [] H
 | (tk,tv)::r,Y,H,Q=>tk Y H λx H1=>tv Y H1 λy H2=>Wb r Y H2 λps H3=>Q ((x,y)::ps) H3
abbrev VV:List (V×V)->List (Value×Value)->Prop:=Paired λp q=>A2 p.1 q.1/\A2 p.2 q.2
def PPs(X:Cx)(pos:Pos)(keys:List (Option Expr))(values:List Expr)(trs:List (TE×TE)):Prop:=
 ∀(pins:List (Addr×Obj))(s:Shared)(Y:St)(H:Hp)(Q:List (V×V)->Hp->Prop),Inv X pins Y H s->Wb trs Y H Q ->
  wpAny (model X.prog X.w) X.A (evalPairs (pairTrees keys values X.env pos)) (λvs s'=>∃ps H',Inv X pins Y H' s'/\VV ps vs/\Q ps H') X.xe s
def Yk:PPs X pos [] [] []:=λpins s Y H Q I h=>pairTrees_nil_walk ⟨[],H,I,.nil,h⟩
def O4{k v:Expr}{ks:List (Option Expr)}{vs:List Expr}{tk tv:TE}{z:List (TE×TE)}(hk:PE X k tk)(hv:PE X v tv)(hr:PPs X pos ks vs z) :
  PPs X pos (some k::ks) (v::vs) ((tk,tv)::z):=λpins s Y H Q I h=>
 pairTrees_cons_walk (thn (hk _ s Y H _ I h) λu s1 ⟨x,H1,I1,rx,q1⟩=>thn (hv _ _ Y _ _ I1 q1) λw2 s2 ⟨y,H2,I2,ry,q2⟩=>
  thn (hr _ _ Y _ _ I2 q2) λws _ ⟨ps,H3,I3,a1,q3⟩=>⟨_::ps,H3,I3,.cons ⟨rx,ry⟩ a1,q3⟩)
def Eh(kvs more:List (Key×V)):List (Key×V):=more.foldl (λacc kv=>Fo acc kv.1 kv.2) kvs
def KV.merge:∀{more:List (Key×V)}{rs:List (Key×Value)}{kvs:List (Key×V)}{vs:List (Key×Value)},KV more rs->KV kvs vs->KV (Eh kvs more) (merged vs rs):=by
 intro more _ kvs vs r
 induction r generalizing kvs vs with
 |nil=>exact λq=>q
 |@cons p q _ _ h t ih=>
  intro z
  have e:KV (Fo kvs p.1 p.2) (stored vs q.1 q.2):=by
   have:=z.put p.1 h.2;rw[<-h.1];exact this
  exact ih e
theorem M6:∀(more kvs:List (Key×V)),(Eh kvs more).length<=kvs.length+more.length
 |[],kvs=>by show kvs.length<=kvs.length+0;omega
 |p::r,kvs=>by
  have h1:=M6 r (Fo kvs p.1 p.2);have h2:=Lj kvs p.1 p.2;show(Eh (Fo _ _ _) r).length<=_;rw[vX];omega
theorem Qx{P:Program}{w:World}:∀{kvs:List (Key×V)}{ws:List (Value×Value)},VV (kvs.map λz=>(kV z.1,z.2)) ws->∃rs,Carries (mixKind P w) ws rs/\KV kvs rs
 |[],_,r=>by cases r;exact⟨[],True.intro,.nil⟩
 |p::kvs,_,r=>by
  cases r with
  |@cons a b as bs h t=>
   obtain⟨rs,c,q⟩:=Qx (P:=P) (w:=w) t;obtain⟨b1,b2⟩:=b;exact⟨(p.1,b2)::rs,⟨P9 h.1,Z,c⟩,.cons ⟨Z,h.2⟩ q⟩
def AhE(trs:List (TE×TE)):TE:=λY H Q=>∀p,H p=none->Wb trs Y (upd H p (.dK [])) λps H2=>H2 p=some (.dK [])/\∃kvs:List (Key×V),ps=kvs.map (λkv=>(kV kv.1,kv.2))/\kvs.length<=15/\Q (.ref p) (upd H2 p (.dK (Eh [] kvs)))
def X0(h:PPs X pos a1 a2 a4)(a5:a1.all (·.isSome))(hl:a1.length=a2.length)(h0:a1≠[])
  (a7:a1.length<=15):PE X (.Dict a1 a2 pos) (AhE a4):=by
 intro pins s Y H Q I q;refine wpAny_Dict_walk (knd:=mixKind _ _) a5 hl h0 a7 (thn (h _ _ Y _ _ (I.laid (λ_ _ q=>uB _ q) (zB _) (Wu _ I.big)) (q _ (I.hok.fresh (zB _)))) λws _ ⟨ps,H2,I2,a6,e,kvs,ep,lk,q2⟩=>?_);subst ep;obtain⟨rs,c,rk⟩:=Qx a6;obtain⟨z,hd,a8,r0,dd⟩:=Adl I2.hok e;cases r0
 refine⟨rs,c,dd,λh' a3 hs=>⟨.ref s.heap.objs.size,_,?_,Z,q2⟩⟩
 have hz:(Eh [] kvs).length<=sizeLine:=by
  have h1:=M6 kvs [];rw[length_nil]at h1;rw[sizeLine_eq];omega
 have he:∃q,h'.get? _=some q:=let ⟨q,_,_,hq,_⟩:=a3;⟨q,hq⟩
 exact R7 I2 (by rw[e];exact True.intro) hs he (Ab1 hz hd (rk.merge .nil) a3)
structure M1(X:Cx)(o:Expr)(m:Str)(apos:Pos)(e:Expr)(cpos:Pos):Prop where
 base:attributeBase o m X.env (eval o X.env)=eval o X.env
 few:((backTo cpos (starEach [e] X.env)).all (λx=>!x.1)&&(backToKw cpos (keywordEach [] X.env)).all (λx=>x.1.isSome)
  && decide (([e]:List Expr).length+([]:List Keyword).length+(if ([]:List Keyword).isEmpty then 0 else 1)<30))=true
 line:(apos.endLine==cpos.line)=true
 trees:backTo cpos (starEach [e] X.env)=[(false,eval e X.env)]
structure M2(X:Cx)(o:Expr)(m:Str)(apos:Pos)(e f:Expr)(cpos:Pos):Prop where
 base:attributeBase o m X.env (eval o X.env)=eval o X.env
 few:((backTo cpos (starEach [e,f] X.env)).all (λx=>!x.1)&&(backToKw cpos (keywordEach [] X.env)).all (λx=>x.1.isSome)
  && decide (([e,f]:List Expr).length+([]:List Keyword).length+(if ([]:List Keyword).isEmpty then 0 else 1)<30))=true
 line:(apos.endLine==cpos.line)=true
 trees:backTo cpos (starEach [e,f] X.env)=[(false,eval e X.env),(false,eval f X.env)]
section
variable{s:Shared}{y d:V}{r:Value}{o:Option V}
end
section
variable{o f:Expr}{cpos:Pos}{td ty tx:TE}
end
section
variable{s:Shared}{kvs:List (Key×V)}
end
section
variable{s:Shared}{y:V}
end
section
variable{κ:Type} [DecidableEq κ]
end
def Nt(K:FA)(a:Addr)(vs:List V):Prop:=∃(o:Obj)(its:Array Value)(n:Nat),K.lookup a=some o/\o.cls=.type "tuple" /\ o.data=.seq its n/\its.size<=sizeLine/\A0 vs its.toList
def Ez(K:FA)(H:Hp)(a:Addr)(vs:List V):Prop:=H a=some (.tup vs)\/Nt K a vs
def Ez.mono(T:Tp H H'){vs:List V}(h:Ez K H a vs):Ez K H' a vs:=h.elim (λz=>.inl (T a _ z)) .inr
def Ez.sq{vs:List V}(h:Ez K H a vs):SqT K H a vs:=h.elim Aj .inr
mutual
def PAt(K:FA)(H:Hp):Nd->V->Prop
 |.s x,v=>v=.str x
 |.i n,v=>v=.int n
 |.t xs,v=>∃a vs,v=.ref a/\Ez K H a vs/\A3 K H xs vs
def A3(K:FA)(H:Hp):List Nd->List V->Prop
 |[],vs=>vs=[]
 |x::xs,vs=>∃v r,vs=v::r/\PAt K H x v/\A3 K H xs r
end
mutual
theorem PAt.mono(T:Tp H H'):∀{n:Nd}{v:V},PAt K H n v->PAt K H' n v
 |.s x,v,h=>h
 |.i n,v,h=>h
 |.t xs,v,h=>by
  obtain⟨a,vs,e,q,r⟩:=h;exact⟨a,vs,e,q.mono T,A3.mono T r⟩
theorem A3.mono(T:Tp H H'):∀{xs:List Nd}{vs:List V},A3 K H xs vs->A3 K H' xs vs
 |[],vs,h=>h
 |x::xs,vs,h=>by
  obtain⟨v,r,e,q,l⟩:=h;exact⟨v,r,e,PAt.mono T q,A3.mono T l⟩
end
def A3.nil:A3 K H [] []:=by unfold A3;rfl
def A3.cons{K:FA}{H:Hp}{x:Nd}{xs:List Nd}{v:V}{r:List V}(a:PAt K H x v)(l:A3 K H xs r):A3 K H (x::xs) (v::r):=by exact⟨v,r,Z,a,l⟩
def PAt.s:PAt K H (.s x) (.str x):=by unfold PAt;rfl
def PAt.i{x:Int}:PAt K H (.i x) (.int x):=by rfl
def PAt.t{xs:List Nd}{vs:List V}(h:Ez K H a vs)(l:A3 K H xs vs):PAt K H (.t xs) (.ref a):=by exact⟨a,vs,Z,h,l⟩
def PAt.get{xs:List Nd}{v:V}(h:PAt K H (.t xs) v):∃a vs,v=.ref a/\Ez K H a vs/\A3 K H xs vs:=by exact h
def PAt.str{v:V}(h:PAt K H (.s x) v):v=.str x:=by exact h
def PAt.int{x:Int}{v:V}(h:PAt K H (.i x) v):v=.int x:=by exact h
theorem A3.len:∀{xs:List Nd}{vs:List V},A3 K H xs vs->xs.length=vs.length
 |[],vs,h=>by subst h;rfl
 |x::xs,vs,h=>by
  obtain⟨v,r,rfl,q,l⟩:=h;simp[A3.len l]
theorem A3.append:∀{xs ys:List Nd}{vs ws:List V},A3 K H xs vs->A3 K H ys ws->A3 K H (xs++ys) (vs++ws)
 |[],ys,vs,ws,h,l=>by subst h;exact l
 |x::xs,ys,vs,ws,h,l=>by
  obtain⟨v,r,rfl,q,l'⟩:=h;exact .cons q (A3.append l' l)
theorem A3.at:∀{xs:List Nd}{vs:List V}{i:Nat}{v:V},A3 K H xs vs->vs[i]?=v->∃x,xs[i]?=some x/\PAt K H x v
 |[],vs,i,v,h,e=>by subst h;simp at e
 |x::xs,vs,i,v,h,e=>by
  obtain⟨w,r,rfl,q,l⟩:=h;cases i with
  |zero=>simp at e;subst e;exact⟨x,rfl,q⟩
  |succ i=>
   obtain⟨y,e',z⟩:=A3.at l (by simpa using e);exact⟨y,by simpa using e',z⟩
theorem A3.split:∀{xs ys:List Nd}{vs:List V},A3 K H (xs++ys) vs->∃us ws,vs=us++ws/\A3 K H xs us/\A3 K H ys ws
 |[],ys,vs,h=>⟨[],vs,rfl,.nil,h⟩
 |x::xs,ys,vs,h=>by
  obtain⟨v,r,rfl,q,l⟩:=h;obtain⟨us,ws,rfl,a,b⟩:=A3.split l;exact⟨v::us,ws,Z,.cons q a,b⟩
def A3.one{x:Nd}{vs:List V}(h:A3 K H [x] vs):∃v,vs=[v]/\PAt K H x v:=by
 simp_all[A3]
def A3.two{x y:Nd}{vs:List V}(h:A3 K H [x,y] vs):∃v w,vs=[v,w]/\PAt K H x v/\PAt K H y w:=by
 obtain⟨v,r,rfl,q,l⟩:=h;obtain⟨w,rfl,z⟩:=l.one;exact⟨v,w,Z,q,z⟩
def TyK(K:FA)(H:Hp)(x:V)(t:Value):Prop:=Jb K H x t\/∃a vs,x=.ref a/\Nt K a vs/\t=.type "tuple"
def Ab9{n:Nd}{v:V}(h:PAt K H n v):∃t,TyK K H v t/\kitOne K t (.type "tuple")=some (isT n):=by
 cases n with
 |s x=>cases h.str;exact⟨_,.inl (.str x),rfl⟩
 |i x=>cases h.int;exact⟨_,.inl (.int x),rfl⟩
 |t _=>
  obtain⟨a,vs,rfl,q,_⟩:=h.get;rcases q with q|q
  .exact⟨_,.inl (.tup q),Z⟩
  .exact⟨_,.inr ⟨a,vs,Z,q,Z⟩,Z⟩
inductive X6(K:FA)(xs:List V)(H:Hp)(Q:VK):Prop
 |mk(x:V)(T:String)(t:Value)(b:Bool)(_:xs=[x,.ty T])(_:TyK K H x t)(_:kitOne K t (.type T)=some b)(_:Q (.bl b) H)
def Z3(K:FA):List V->Hp->VK->Prop:=λxs H Q=>X6 K xs H Q
def N4:Gm X (.builtin "isinstance") (Z3 X.K):=by
 intro pins s Y H _ _ Q I r h;obtain⟨x,T,t,b,rfl,ty,e,q⟩:=h;obtain⟨u,v,rfl,ru,rv⟩:=r.two;cases rv
 rcases ty with ty|⟨a,vs,rfl,⟨o,a1,n,lk,hc,hd,hz,rr⟩,rfl⟩
 .exact Aa4 I ru ty e λtk=>⟨.bl b,H,I.tok _,Z,q⟩
 .cases ru
  exact kia_one kitx_tuple I.kIn ⟨o,I.kIn _ _ lk,hc⟩ e (λz=>nomatch z) λtk=>⟨.bl b,H,I.tok _,Z,q⟩
def AfP:V->List V->Hp->VK->Prop:=λx vs H Q=>∃l xs y j z,x=.ref l/\vs=[y]/\H l=some (.lst xs)/\G9 y=true/\xs.all G9=true/\xs[j]?=some z/\eqV z y=true/\(∀m z',m<j->xs[m]?=some z'->eqV z' y=false)/\Q (.int (j:Nat)) H
def Acf:MtM X "list.index" AfP:=by
 intro pins s Y H x _ v _ Q I rx rv h;obtain⟨l,xs,y,j,z,rfl,rfl,hH,fy,fx,hj,hz,a6,q⟩:=h;cases rx
 obtain⟨u,rfl,ru⟩:=rv.one;obtain⟨hl,a1,n,r,a2,e⟩:=I.lstM hH;have a4:j<a1.length:=by rw[<-a2];exact(uA.mp hj).1
 have at':∀m(hm:m<a1.toArray.size),∃z',xs[m]?=some z'/\eqU y a1.toArray[m]=eqV z' y:=by
  intro m _;have a3:m<xs.length:=by simp_all
  refine⟨xs[m],vD _,?_⟩;obtain⟨w',ew,a8⟩:=r.get (vD _)
  have e2:=by
   have:a1[m]?=some a1.toArray[m]:=by simp
   rw[ew]at this;exact(uH this).symm
  rw[e2];exact Va a8 (all_eq_true.mp fx _ (zL _))
 refine call_meets F.slot_list_index ⟨_,e,Z⟩ F.entry_list_index (F.args_list_index_2 _ _) (SeqAt.list_indexAt l _ n _ #[] u (eqU y) j (by omega) ?_ ?_ ?_) ⟨e,?_,?_⟩
 .have:=Lq
  omega
 .obtain⟨z',e1,e2⟩:=at' j (by omega)
  rw[hj]at e1;cases e1
  rw[e2];exact hz
 .intro m hm a7
  obtain⟨z',e1,e2⟩:=at' m _;rw[e2];exact a6 m _ a7 e1
 .exact λw' _=>I0 ru fy r fx _ (by simp_all)
 .exact⟨.int j,H,I.tok _,⟨_,Z⟩,q⟩
def A4(P:Program)(w:World)(K:FA)(mg:Str->Option Value)(base:Heap)(k:Nat)(C:Addr)(m:Str)(ps:List Str)(sp:Sp):Prop:=
 ∃f fd,Cc P w K mg base CX0 k f fd ps sp/\Dm K fd ps []/\J3 K C m f/\Cls K C
section
variable{o:Expr}{m:Str}{j:Nat}{E:XK}{t:TA}
def Jr{pl:Sem Bool}(M:A4 X.prog X.w X.K X.mg X.base j C m ps sp)(hr:Cj k X.A)(z:G4 CX0 X E)(he:PE X o ta)(hj:j<=k:=by first|decide|omega)
  (ht:eval (.Call (.Attribute o m apos) [] [] pos) X.env=(do
   let ov <-eval o X.env
   standAt apos.atName
   let (f,first) <-holding [ov] (getMethod ov m pl)
   callWith pos f first (backTo pos (starEach [] X.env)) (backToKw pos (keywordEach [] X.env))):=by rfl):PE X (.Call (.Attribute o m apos) [] [] pos) (Qq C m sp [] E ta Cs):=by
 obtain⟨f,fd,F,b,me,c⟩:=M;exact Acd he c me (F.mono hj) hr b .nil z ht
end
def Kp(r:Addr)(H H':Hp):Prop:=∀b o,b≠r->H b=some o->H' b=some o
def Kp.trans{r:Addr}{H1:Hp}(a:Kp r H H1)(b:Kp r H1 H2):Kp r H H2:=λc o h e=>b c o h (a c o h e)
def Same.kp{r:Addr}(g:Same H H'):Kp r H H':=λb o _ e=>g b o e
def Kp.upd{r:Addr}{o:HO}:Kp r H (L2.upd H r o):=λb u h e=>by rw[upd_ne h];exact e
def Same.byKp{r:Addr}{H1:Hp}(g:Same H H1)(h:H r=none)(k:Kp r H1 H2):Same H H2:=λb o e=>k b o (ne_of_none e h) (g b o e)
def Fe{A B:Prop}(h:¬x=y)(hB:B):if decide (V.str x=V.str y) then A else B:=by
 rw[vM λz=>h (V.str.inj z)];exact hB
def Kd{A B:Prop}(z:A):if decide (V.str x=V.str x) then A else B:=by
 rw[vK rfl];exact z
def A3.three{x y z:Nd}{vs:List V}(h:A3 K H [x,y,z] vs):∃v w u,vs=[v,w,u]/\PAt K H x v/\PAt K H y w/\PAt K H z u:=by
 obtain⟨v,r,rfl,q,l⟩:=h;obtain⟨w,u,rfl,q',a1⟩:=l.two;exact⟨v,w,u,Z,q,q',a1⟩
def A3.four{x y z z':Nd}{vs:List V}(h:A3 K H [x,y,z,z'] vs):∃v w u u',vs=[v,w,u,u']/\PAt K H x v/\PAt K H y w/\PAt K H z u/\PAt K H z' u':=by
 obtain⟨v,r,rfl,q,l⟩:=h;obtain⟨w,u,u',rfl,q',a1,q3⟩:=l.three;exact⟨v,w,u,u',Z,q,q',a1,q3⟩
def G2(xs:Array Nat):Prop:=xs.toList.Pairwise (· < ·)
structure Fc(led:Bool)(t:SetTable):Prop where
 led:t.led=led
 dum:t.dummies = #[]
 rise:G2 t.place
def G2.lt{xs:Array Nat}(h:G2 xs){i j:Nat}(hj:j<xs.size)(a1:i<j):xs[i]'(by omega)<xs[j]:=by
 have z:=List.pairwise_iff_getElem.mp h i j (by simp;omega) (by omega) a1
 simpa using z
def AdL{xs:Array Nat}{j:Nat}(h:G2 xs):∀(a1 lo hi:Nat),lo<=hi->hi<=xs.size->hi-lo<=a1->(∀i(q:i<xs.size),i<lo->xs[i]<j)->(∀i(q:i<xs.size),hi<=i->j<=xs[i]) ->
  SetTable.below.go xs j a1 lo hi<=xs.size/\(∀i(q:i<xs.size),i<SetTable.below.go xs j a1 lo hi->xs[i]<j)/\(∀i(q:i<xs.size),SetTable.below.go xs j a1 lo hi<=i->j<=xs[i]):=by
 intro a1
 induction a1 with
 |zero=>
  intro lo hi _ h2 _ h4 h5;have e:lo=hi:=by omega
  subst e;exact⟨h2,h4,h5⟩
 |succ _ ih=>
  intro lo hi _ h2 _ h4 h5;unfold SetTable.below.go
  by_cases c:lo<hi
  .rw[if_pos c]
   have hm:(lo+hi)/2<xs.size:=by omega
   have eg:xs.getD ((lo+hi)/2) j=xs[(lo+hi)/2]:=by simp[Array.getD,hm]
   by_cases d:xs.getD ((lo+hi)/2) j<j
   .rw[if_pos d]
    rw[eg]at d;refine ih _ _ (by omega) h2 (by omega) (λi _ _=>?_) h5;rcases lt_or_ge i _ with z|z
    .exact lt_trans (h.lt _ z) d
    .have:i=(lo+hi)/2:=by omega
     subst this;exact d
   .rw[if_neg d]
    rw[eg]at d;refine ih _ _ (by omega) (by omega) (by omega) h4 (λi a2 _=>?_);rcases lt_or_ge ((lo+hi)/2) i with z|z
    .have:=h.lt a2 z;omega
    .have:i=(lo+hi)/2:=by omega
     subst this;omega
  .rw[if_neg c]
   have e:lo=hi:=by omega
   subst e;exact⟨h2,h4,h5⟩
def Pa{xs:Array Nat}(h:G2 xs)(j:Nat):SetTable.below xs j<=xs.size/\(∀i(hi:i<xs.size),i<SetTable.below xs j->xs[i]<j)/\(∀i(a1:i<xs.size),SetTable.below xs j<=i->j<=xs[i]):=
 AdL h _ 0 xs.size (zZ _) (zB _) (by omega) (λ_ _ z=>by omega) (λi _ z=>by omega)
def Aag{xs:Array Nat}(h:G2 xs){i:Nat}(hi:i<xs.size):SetTable.below xs (xs[i]+1)=i+1:=by
 obtain⟨h1,h2,h3⟩:=Pa h (xs[i]+1);rcases Nat.lt_trichotomy (SetTable.below xs (xs[i]+1)) (i+1) with z|z|z
 .have:=h3 i hi (by omega);omega
 .exact z
 .have a:=h2 (i+1) (by omega) (by omega)
  have b:=h.lt (i:=i) (j:=i+1) (by omega) (by omega);omega
def Aaa{xs:Array Nat}(h:G2 xs):SetTable.below xs 0=0:=by
 obtain⟨h1,h2,h3⟩:=Pa h 0;rcases Nat.eq_zero_or_pos _ with z|z
 .exact z
 .have:=h2 0 (by omega) z;omega
def Aab(n:Nat):G2 (Array.range n):=by
 unfold G2;rw[Array.toList_range];exact List.pairwise_lt_range
def AdI{xs:Array Nat}{j:Nat}(h:G2 xs)(hn:xs[SetTable.below xs j]?≠some j):G2 (SetTable.insertAt xs (SetTable.below xs j) j):=by
 obtain⟨h1,h2,h3⟩:=Pa h j;unfold G2;rw[SetTable.toList_insertAt,List.pairwise_append];refine⟨Pairwise.sublist (List.take_sublist _ _) h,?_,?_⟩
 .rw[zR]
  refine⟨λy hy=>?_,Pairwise.sublist (List.drop_sublist _ _) h⟩;obtain⟨i,hi,rfl⟩:=List.mem_iff_getElem.mp hy;rw[length_drop,uT]at hi;rw[List.getElem_drop,Array.getElem_toList];have a:=h3 (SetTable.below xs j+i) (by omega) (by omega);rcases Nat.eq_zero_or_pos i with z|z
  .subst z
   rcases lt_or_ge j _ with y|y
   .exact y
   .exact absurd (by rw[uP (by omega)];simp at a y ⊢;omega) hn
  .have b:=h3 _ (by omega) (zB _)
   have c:=h.lt (i:=SetTable.below xs j) (j:=SetTable.below xs j+i) (by omega) (by omega);omega
 .intro a ha b hb
  obtain⟨i,hi,rfl⟩:=List.mem_iff_getElem.mp ha;rw[zH,uT]at hi;rw[List.getElem_take,Array.getElem_toList];have q:=h2 i (by omega) (by omega);rcases zM.mp hb with z|z
  .omega
  .obtain⟨l,hl,rfl⟩:=List.mem_iff_getElem.mp z
   rw[length_drop,uT]at hl;rw[List.getElem_drop,Array.getElem_toList];have:=h3 (SetTable.below xs j+l) (by omega) (by omega);omega
def Sf(j:Nat):SetTable.has #[] j=false:=by
 rfl
def AcU{t:SetTable}{f:Nat->Int}{h:Int}(hd:t.dummies = #[]):∀(a1:Nat)(p:SetTable.Probe)(j:Nat)(d:Option Nat),p.dummy=none->SetTable.probe.go t f h a1 p=some (.empty j d)->d=none/\t.place[SetTable.below t.place j]?≠some j:=by
 intro a1
 induction a1 with
 |zero=>intro p j d _ e;unfold SetTable.probe.go at e;cases e
 |succ _ ih=>
  intro p j d hp e;unfold SetTable.probe.go at e
  have hs:t.slot p.j=(if t.place[SetTable.below t.place p.j]? == some p.j then SetTable.Slot.live (SetTable.below t.place p.j) else SetTable.Slot.empty):=by
   unfold SetTable.slot;rw[hd];rfl
  rw[hs]at e
  have a2:(t.advance p).dummy=none:=by
   unfold SetTable.advance;split
   .exact hp
   .exact hp
  by_cases c:(t.place[SetTable.below t.place p.j]? == some p.j)
  .rw[if_pos c]at e
   dsimp only at e;split at e
   .cases e
   .exact ih _ _ _ a2 e
  .rw[if_neg c]at e
   dsimp only at e;cases e
   exact⟨hp,λz=>c (by rw[z];simp)⟩
def Aeg{t:SetTable}{h:Int}{j:Nat}{b:Bool}(hd:t.dummies = #[])(e:t.freeSlot h=some (j,b)):t.place[SetTable.below t.place j]?≠some j:=by
 unfold SetTable.freeSlot SetTable.probe at e;split at e
 .rename_i _ d hq
  obtain⟨rfl,z⟩:=AcU hd _ _ _ _ rfl hq;cases e
  exact z
 .cases e
def Fc.standIn{led:Bool}{t:SetTable}(h:Fc led t)(n:Nat):Fc led (t.standIn n):=⟨h.led,Z,Aab n⟩
def Fc.plainOff{led:Bool}{t:SetTable}(h:Fc led t):Fc led {t with plain:=false}:=⟨h.led,h.dum,h.rise⟩
def Fc.layNew{led:Bool}{t:SetTable}(h:Fc led t)(es:Array (Int×Value))(k:Int)(x:Value):Fc led (layNew t es k x).2.1:=by
 unfold PySem.layNew;split
 .rename_i j b e
  dsimp only;have q:Fc led (t.put j).1:=by
   unfold SetTable.put;refine⟨h.led,?_,AdI h.rise (Aeg h.dum e)⟩;simp[h.dum,Sf]
  unfold SetTable.orStandIn;split
  .exact q
  .exact q.standIn _
 .exact h.standIn _
def AbJ(owner:Array (Option Nat))(m:Nat):G2 (((List.range m).filterMap λj=>(owner.getD j none).map (j,·)).map (·.1)).toArray:=by
 have e:((List.range m).filterMap λj=>(owner.getD j none).map (j,·)).map (·.1)=(List.range m).filter λj=>(owner.getD j none).isSome:=by
  induction List.range m with
  |nil=>rfl
  |cons a l z=>
   rw[filterMap_cons,filter_cons];cases q:owner.getD a _ with
   |none=>simpa  using z
   |some y=>simpa  using z
 simp only[e];exact Pairwise.sublist List.filter_sublist List.pairwise_lt_range
def Fc.relay{led:Bool}{t:SetTable}(h:Fc led t)(es:Array (Int×Value))(n:Nat):Fc led (relayAll t es n).2.1:=by
 unfold relayAll;split
 .rename_i _ z e
  dsimp only;split
  .unfold SetTable.relaid SetTable.laid at e
   simp only[Option.bind_eq_bind,Option.bind_eq_some_iff]at e;obtain⟨owner,_,e2⟩:=e;cases e2
   exact⟨h.led,Z,AbJ _ _⟩
  .exact h.standIn _
 .exact h.standIn _
theorem Mm{z:Type}:∀(l:List z)(i:Nat)(h:i<l.length),(l[i]::l.eraseIdx i).Perm l
 |[],i,h=>by simp at h
 |a::l,0,h=>by simp
 |a::l,i+1,h=>by
  have hi:i<l.length:=by simpa using h
  have:=Mm l i hi;exact(List.Perm.swap _ _ _).trans (this.cons a)
def Aep{α:Type}(next:Nat->Nat):∀(z k:Nat)(left:List α)(a1:Array α),left.length=z->(pickOrder.go next z k left a1).toList.Perm (a1.toList++left):=by
 intro z
 induction z with
 |zero=>
  intro k left a1 hl;rw[length_eq_zero_iff.mp hl];unfold pickOrder.go;simp
 |succ z ih=>
  intro k left a1 _;have hi:next k%left.length<left.length:=mod_lt _ (by omega);unfold pickOrder.go;rw[vD hi];refine(ih _ _ _ (by rw[List.length_eraseIdx_of_lt hi];omega)).trans ?_;rw[Array.toList_push,append_assoc];exact List.Perm.append_left _ (Mm _ _ _)
def M8{z:Type}(next:Nat->Nat)(xs:Array z):(pickOrder next xs).toList.Perm xs.toList:=by
 have:=Aep next xs.size 0 xs.toList #[] (by simp);unfold pickOrder
 simpa using this
def Ae2{M:Model}{A:Around}{E:Value->Shared->Prop}{z:Type}:∀(n:Nat)(xs:List z)(s:Shared)(Q:List z->Shared->Prop),xs.length=n ->
  (∀ys d,List.Perm ys xs->Q ys {s with drawn:=d})->wpAny M A (drawOrder n xs) Q E s:=by
 intro n
 induction n with
 |zero=>
  intro xs s Q hl h;have e:=length_eq_zero_iff.mp hl;subst e;exact vC (h [] _ .nil)
 |succ n ih=>
  intro xs s Q hl h;cases xs with
  |nil=>cases hl
  |cons x r=>
   unfold drawOrder;refine vB ?_;intro Γ p _;show Sem.wp M Γ _ _ _ p s;refine⟨by simp,?_⟩;generalize hg:M.w.draws .order _%(x::r).length=i;have hi:i<(x::r).length:=by rw[<-hg];exact mod_lt _ (by simp)
   have g:wpAny M A (do
     match (x::r)[i]? with
     |some y=>return y::(<-drawOrder n ((x::r).eraseIdx i))
     |none=>unsupported "internal:drawOrder") Q E {s with drawn:=s.drawn.bump .order}:=by
    rw[vD hi];refine vB (ih _ _ _ (by rw[List.length_eraseIdx_of_lt hi];simp at hl ⊢;omega) λys d hp=>vC ?_);exact h _ d ((List.Perm.cons _ hp).trans (Mm _ _ _))
   exact g
def Lf{α β:Type}{F:α->β->Prop}{l l':List α}(p:List.Perm l' l):∀{ms:List β},PySem.Paired F l ms->∃z,List.Perm z ms/\PySem.Paired F l' z:=by
 replace p:=p.symm
 induction p with
 |nil=>intro ms h;exact⟨ms,.refl _,h⟩
 |cons x _ ih=>
  intro ms h;cases h with
  |cons f t=>
   obtain⟨z,q,r⟩:=ih t;exact⟨_::z,q.cons _,.cons f r⟩
 |swap x y l=>
  intro ms h;cases h with
  |cons f t=>
   cases t with
   |cons g u=>exact⟨_,List.Perm.swap _ _ _,.cons g (.cons f u)⟩
 |trans _ _ a1 a2=>
  intro ms h;obtain⟨m1,p1,r1⟩:=a1 h;obtain⟨m2,p2,r2⟩:=a2 r1;exact⟨m2,p2.trans p1,r2⟩
theorem K3{κ:Type} [DecidableEq κ]:∀{l l':List κ},l.Nodup->(∀x∈l,x∈l')->l.length<=l'.length
 |[],_,_,_=>zZ _
 |a::t,l',n,h=>by
  have n:=zS.mp n;have ha:=h a vH;have:=K3 n.2 λx z=>(List.mem_erase_of_ne (show x≠a from λe=>n.1 (e▸z))).mpr (h x (vI _ z))
  rw[List.length_erase_of_mem ha]at this;have hp:=length_pos_of_mem ha;rw[vX];omega
section
variable{κ:Type} [DecidableEq κ] (knd:PySem.KeyKind prog w κ)
structure Dx(h:Heap)(a:Addr)(ks:List κ)(o:Obj)(es:Array (Int×Value))(ep:Nat)(t:SetTable)(ms:List κ):Prop where
 at':h.get? a=some o
 ex:o.ExactSet
 dat:o.data=.set es ep t
 el:ElemsOf knd es.toList
 pr:PySem.Paired (λe k=>knd.is k e.2=true) es.toList ms
 nd:ms.Nodup
 mem:∀k,k∈ms↔k∈ks
 sm:es.size<scanBound
 fit:t.fits es.size=true
 tab:Fc (!w.params.followText "set-order") t
def SetT(h:Heap)(a:Addr)(ks:List κ):Prop:=∃o es ep t ms,Dx knd h a ks o es ep t ms
variable{knd}
variable{s:Shared}{ks:List κ}{k:κ}{x:Value}
def Dx.keep{o es ep t ms}(S:Dx knd h a ks o es ep t ms)(k:h'.get? a=o):Dx knd h' a ks o es ep t ms:=⟨k,S.ex,S.dat,S.el,S.pr,S.nd,S.mem,S.sm,S.fit,S.tab⟩
def SetT.keep(S:SetT knd h a ks)(k:∀o,h.get? a=some o->h'.get? a=o):SetT knd h' a ks:=by
 obtain⟨o,es,ep,t,ms,D⟩:=S;exact⟨o,es,ep,t,ms,D.keep (k o D.at')⟩
def SetT.congr{z:List κ}(S:SetT knd h a ks)(e:∀k,k∈ks↔k∈z):SetT knd h a z:=by
 obtain⟨o,es,ep,t,ms,D⟩:=S;exact⟨o,es,ep,t,ms,⟨D.at',D.ex,D.dat,D.el,D.pr,D.nd,λk=>(D.mem k).trans (e k),D.sm,D.fit,D.tab⟩⟩
def Dx.size{o es ep t ms}(S:Dx knd h a ks o es ep t ms):es.size=ms.length:=by rw[<-uC S.pr];simp
def Dx.put{o es ep t ms}(S:Dx knd h a ks o es ep t ms){z:Array (Int×Value)}{t':SetTable}{a1 a2:List κ}(e1:ElemsOf knd z.toList)(e2:PySem.Paired (λe k=>knd.is k e.2) z.toList a1)(e3:a1.Nodup)
  (e4:∀k,k∈a1↔k∈a2) (e5:z.size<scanBound) (e6:t'.fits z.size) (e7:Fc (!w.params.followText "set-order") t') :
  ∃o',Dx knd (h.update a (Obj.putSet z t')) a a2 o' z (ep+1) t' a1:=by
 have hg:=uX (Obj.putSet z _) S.at' (by rw[putSet_of z t' S.dat];rfl);rw[putSet_of z _ S.dat]at hg;exact⟨_,hg,S.ex,Z,e1,e2,e3,e4,e5,e6,e7⟩
def Ada{l:List (Int×Value)}{ms:List κ}(p:PySem.Paired (λe k=>knd.is k e.2) l ms):k∈ms↔∃e∈l,knd.is k e.2:=by
 induction p with
 |nil=>simp
 |cons f _ ih=>
  rename_i e m l _ _
  rw[zM,ih];constructor
  .rintro(rfl|⟨z,h1,h2⟩)
   .exact⟨e,vH,f⟩
   .exact⟨z,vI _ h1,h2⟩
  .rintro⟨z,h1,h2⟩
   rcases zM.mp h1 with rfl|h1
   .exact .inl (knd.inj _ _ _ h2 f)
   .exact .inr ⟨z,h1,h2⟩
def Uc{g:Bool->Sem Unit}(hg:∀(b:Bool)(a1:Shared)(Q':Unit->Shared->Prop),Q' () a1->wpAny (model prog w) A (g b) Q' E a1){o es ep t ms}(S:Dx knd s.heap a ks o es ep t ms)
  {z:Array (Int×Value)} {t1:SetTable} {a2 a3:List κ} (e1:ElemsOf knd z.toList) (e2:PySem.Paired (λe k=>knd.is k e.2) z.toList a2) (e3:a2.Nodup)
  (e4:∀k,k∈a2↔k∈a3) (e5:z.size<scanBound) (e6:t1.fits z.size) (e7:Fc (!w.params.followText "set-order") t1) {dm:Bool} {R:Option Bool->Shared->Prop}
  (h:∀h',Heap.SameBut a s.heap h'->SetT knd h' a a3->R (some true) {s with heap:=h' }) :
  wpAny (model prog w) A (do
   storeSet a z t1
   if (!dm&&t1.tooFull) then do
    g (relayAll t1 z (SetTable.grown z.size)).2.2
    storeSet a (relayAll t1 z (SetTable.grown z.size)).1 (relayAll t1 z (SetTable.grown z.size)).2.1
    pure (some true)
   else pure (some true)) R E s:=by
 refine vB (wpAny_storeSet_of S.at' S.dat ?_ (fits_of_scanBound e5));obtain⟨o1,S1⟩:=S.put e1 e2 e3 e4 e5 e6 e7;have b1:=Heap.SameBut.update s.heap a (Obj.putSet z t1)
 by_cases c:(!dm&&t1.tooFull)
 .rw[if_pos c]
  have p2:=relayAll_perm t1 z (SetTable.grown z.size);have f2:=relayAll_fits t1 z (SetTable.grown z.size);have q2:=e7.relay z (SetTable.grown z.size);generalize relayAll _ z _=Rl at p2 f2 q2 ⊢;obtain⟨a4,t2,gv⟩:=Rl;dsimp only at p2 f2 q2 ⊢;obtain⟨a5,pm,r2⟩:=Lf p2 e2;have hz:a4.size=z.size:=by have:=p2.length_eq;omega
  refine vB (hg _ _ _ ?_);refine vB (wpAny_storeSet_of S1.at' S1.dat ?_ (fits_of_scanBound (by omega)));obtain⟨o2,S2⟩:=S1.put (e1.perm p2) r2 (pm.nodup_iff.mpr e3) (λk=>pm.mem_iff.trans (e4 k)) (by omega) f2 q2;exact vC (h _ (b1.trans (Heap.SameBut.update _ a _)) ⟨_,_,_,_,_,S2⟩)
 .rw[if_neg c]
  exact vC (h _ b1 ⟨_,_,_,_,_,S1⟩)
def AaI{Q:Bool->Shared->Prop}(hk:knd.is k x=true)(hx:x.scannable=true)(S:SetT knd s.heap a ks)(hr:ks.length+1<scanBound)
  (h:∀b h',Heap.SameBut a s.heap h'->SetT knd h' a (ks++[k])->Q b {s with heap:=h' }):wpAny (model prog w) A (setAddHashed a x (knd.hash k)) Q E s:=by
 obtain⟨o,es,ep,t,ms,D⟩:=S;have hz:=D.size;have a7:=K3 D.nd λk hk=>(D.mem k).mp hk
 refine zX (vB (wpAny_setState_of D.at' D.dat D.fit ?_));dsimp only;rw[byScan_of hx D.sm D.el];refine vB (vB (wpAny_rule (vB (wpAny_setScan_of hk D.at' D.dat D.fit D.el ?_))));cases hf:List.findIdx? _ _ with
 |some j=>
  dsimp only;obtain⟨hj,pj,_⟩:=List.findIdx?_eq_some_iff_getElem.mp hf;have a5:=(Ada D.pr).mpr ⟨_,zL _,pj⟩;refine vC (vC ?_);have q:=h false _ (Heap.SameBut.refl a _) (SetT.congr ⟨o,es,ep,t,ms,D⟩ λk'=>?_)
  .omega
  .rw[vY,zG]
   exact⟨.inl,λz=>z.elim id λz=>by subst z;exact(D.mem _).mp a5⟩
 |none=>
  have a4:¬k∈ms:=λz=>by
   obtain⟨e,he,q⟩:=(Ada D.pr).mp z;have:=List.findIdx?_eq_none_iff.mp hf e he;simp_all
  have p1:=layNew_perm t es (knd.hash k) x;have f1:=layNew_fits t es (knd.hash k) x;have q1:=D.tab.layNew es (knd.hash k) x;generalize layNew t _ _ x=L at p1 f1 q1 ⊢;obtain⟨a6,t1,dm,gv⟩:=L;dsimp only at p1 f1 q1 ⊢;rw[Array.toList_push]at p1;have e1:=(D.el.push hk hx).perm p1;obtain⟨a2,pm,r1⟩:=Lf p1 (D.pr.snoc hk);have z1:=by have:=p1.length_eq;simpa using this
  have e3:=pm.nodup_iff.mpr (nodup_append.mpr ⟨D.nd,by simp,λy hy z hz=>by rw[zG]at hz;subst hz;exact λe=>a4 (e▸hy)⟩);have e4:∀k',k'∈a2↔k'∈ks++[k]:=λk'=>by rw[pm.mem_iff,vY,vY,D.mem]
  have gw:∀b(a1:Shared)Q',Q' () a1->wpAny (model prog w) A (match b with|true=>rule "set.scan.the-table-gave-way" |false=>pure ()) Q' E a1:=λb _ _ q=>by
   cases b
   .exact vC q
   .exact wpAny_rule q
  refine vB (gw _ _ _ ?_);have a3:∀h',Heap.SameBut a _ _->SetT _ _ a _->wpAny (model prog w) A _ Q E {s with heap:=h' }:=λh' b S'=>vC (h true _ b S')
  split
  .refine vB ?_
   rw[hashByValue_scannable 8 hx];refine vC ?_;refine Uc gw D e1 r1 e3 e4 (by omega) (by split;exact f1;exact SetTable.fits_plain_off f1) (by split;exact q1;exact q1.plainOff) ?_;omega
  .refine vB (vC ?_)
   refine Uc gw D e1 r1 e3 e4 (by omega) f1 q1 ?_;omega
end
section
variable{κ:Type} [DecidableEq κ] {knd:PySem.KeyKind prog w κ}
def Ac9{R:Result->Shared->Prop}{I:Addr}{fp wr:List Addr}{G:Array GenState->Array GenState->Prop}{P:Nat->Value->Prop}{St:Nat->Shared->Prop}(W:WalksS prog w A.in1 I fp wr G n P St)(S:Addr)(a1:S∉fp)
  (ks:List κ) (hn:ks.length=n) (hv:∀i v,P i v->∃k,ks[i]?=some k/\knd.is k v/\v.scannable) (hb:n+1<scanBound) :
  ∀(j i:Nat)(s:Shared),n-i=j->i<=n->St i s->SetT knd s.heap S (ks.take i)->(∀s',Moved (S::wr) G s s'->SetT knd s'.heap S ks->R (.ok (.ret .none)) s') ->
   codeAny (model prog w) A (.builtin "set.update.loop" ⟨[.ref S,.ref I],[]⟩) R s:=by
 have a2:=λh=>a1 (W.sub _ h)
 have a3:∀b∈wr,b∈S::wr:=λb hb=>vI _ hb
 intro j
 induction j with
 |zero=>
  intro i s _ _ st hS hR;have e:i=n:=by omega
  subst e;refine codeAny_builtin PyProof.Rows.F.entry_set_update_loop ?_;refine vB (W.done s _ _ st λs' mv=>?_);refine vC (hR _ (mv.mono a3) ?_);rw[vT (by omega)]at hS;exact hS.keep λo q=>mv.heap S o a2 q
 |succ j ih=>
  intro i s _ _ st hS hR;have a4:i<n:=by omega
  refine codeAny_builtin PyProof.Rows.F.entry_set_update_loop ?_;refine vB (W.item i s _ _ a4 st λv s' hP a7 mv=>?_);obtain⟨k,ek,hk,hx⟩:=hv i v hP;have a6:=hS.keep λo q=>mv.heap S o a2 q
  refine vB (zX ?_);refine zX (vB (knd.pyHash hk ?_));refine AaI (s:={s' with toks:=s'.toks+1}) hk hx a6 (by rw[zH];omega) λb h' sb S2=>?_
  have et:ks.take (i+1)=ks.take i++[k]:=by rw[take_add_one,ek];rfl
  refine vC ⟨plainId_quiet PyProof.Rows.F.plain_set_update_loop _,ih (i+1) _ (by omega) a4 (W.frame _ s' _ _ a7 (le_succ _) λb hb o q=>?_) (by rw[et];exact S2) λa9 a5 a8=>?_⟩
  .exact(sb.2 b (λz:b=S=>a1 (z▸hb))).trans q
  .refine hR a9 (Moved.trans W.gtrans ((mv.mono a3).then_heap (le_succ _) λb o hb q=>?_) a5) a8
   exact(sb.2 b (λz:b=S=>hb (by rw[z];exact vH))).trans q
variable{s:Shared}
abbrev setNew(w:World):Obj:={cls:=.type "set",dict:=none,data:=.set #[] 0 (.fresh 0 0 (!w.params.followText "set-order"))}
def Xo(a:Value){Q:Value->Shared->Prop}(h:Q (.ref s.heap.objs.size) {s with heap:=s.heap.push (setNew w)}) :
  codeAny (model prog w) A (.call (.builtin "set.__new__") ⟨[.type "set",a],[]⟩) (wants Q E) s:=by
 refine codeAny_of_tree ?_;refine vB (wpAny_of_eq (PySem.F.newCall_set_1 a) (vC ⟨plainId_quiet PySem.F.plain_set_new _,codeAny_builtin PySem.F.entry_set_new ?_⟩));rw[uS PySem.F.plain_set_new _];unfold Builtin.«set.__new__» Builtin.Frozenset.newClass;have z:=sub_set_self;obtain⟨hp,g,d,tk,os⟩:=s;dsimp only
 wp_walk
 refine wpAny_askSetting (vC ?_);dsimp only;simp only[newObj];exact vB (wpAny_alloc (vC (vC h)))
def Ab3(e:h.get? a=some (setNew w)):SetT knd h a []:=
 ⟨_,#[],0,_,[],e,⟨rfl,rfl,rfl⟩,Z,λe z=>by simp at z,.nil,by simp,λk=>Iff.rfl,by decide,Z,⟨Z,Z,by exact .nil⟩⟩
end
section
variable{κ:Type} [DecidableEq κ] {knd:PySem.KeyKind prog w κ} {s:Shared}
def Ll(knd:PySem.KeyKind prog w κ)(s:Shared)(ks:List κ)(s2:Shared):Prop:=∃h' tk,s2 = {s with heap:=h',toks:=tk}/\SetT knd h' s.heap.objs.size ks/\∀b o,b<s.heap.objs.size->s.heap.get? b=some o->h'.get? b=some o
def AdR(hh:A.handled=none)(hl:s.heap.IsList l z)(hn:ks.length=z.size)(hv:∀(i:Nat)(v:Value),z[i]?=v->∃k,ks[i]?=some k/\knd.is k v/\v.scannable)(hb:z.size+1<scanBound)
  {Q:Unit->Shared->Prop} (h:∀s2,Ll knd s ks s2->Q () s2) :
  wpAny (model prog w) A (Builtin.Frozenset.updateFrom "set.__init__" s.heap.objs.size (.ref l)) Q E {s with heap:=s.heap.push (setNew w)}:=by
 obtain⟨ol,a3,a2,nl,a7⟩:=id hl;have a1:=uB (setNew w) a3;have ty:Shared.TypeIs {s with heap:=s.heap.push _} (.ref l) "list":=⟨ol,a1,a2⟩;have a5:=uD a3;have a4:(s.heap.push _).IsList l z:=⟨_,a1,a2,nl,a7⟩;refine vB ?_
 have e0:Builtin.Frozenset.isAnySet (.ref l)=(isInstance (.ref l) (.type "set")>>=λb=>if b then pure true else isInstance (.ref l) (.type "frozenset")):=by
  unfold Builtin.Frozenset.isAnySet orM toBool
  congr 1
  funext b
  cases b<;>rfl
 rw[e0];refine vB (wpAny_isInstance ty PySem.F.sub_list_set ?_);refine wpAny_isInstance ty PySem.F.sub_list_frozenset ?_;refine vB (wpAny_typeOf ty ?_);refine vB (wpAny_pyIter_list a4 ?_);refine vB (wpAny_runValue ?_);have a9:A.in1.handled=none:=hh;have b1:l≠(s.heap.push (setNew w)).objs.size:=by rw[uV];exact zF (lt_succ_of_lt a5)
 have a6:s.heap.objs.size∉[(s.heap.push (setNew w)).objs.size,l]:=by
  rw[uV];simp only[zM,zJ,or_false,not_or];exact⟨zF (lt_succ_self _),ne_of_gt a5⟩
 refine Ac9 ((Walks.list a9 _ l b1 z).toS) _ a6 _ hn hv hb (z.size-0) 0 _ (by omega) (zZ _) ⟨⟨_,uF _ rfl,Z,Z⟩,a4.push _⟩ ?_ ?_
 .exact Ab3 (uB _ (uF _ rfl))
 .intro s' mv S'
  refine vC (h _ ⟨s'.heap,s'.toks,?_,S',λb o hb e=>?_⟩)
  .obtain⟨h',g',d',b2,a8⟩:=s'
   have eg:g'=s.gens:=mv.gens;have ed:d'=s.drawn:=mv.drawn;have eo:a8=s.os:=mv.os;subst eg ed eo;rfl
  .refine mv.heap b o ?_ (uB _ (uB _ e))
   rw[uV];simp[not_or];exact⟨zF hb,zF (lt_succ_of_lt hb)⟩
def Abz{Q:Value->Shared->Prop}(hh:A.handled=none)(hl:s.heap.IsList l a1)(hn:ks.length=a1.size)(hv:∀(i:Nat)(v:Value),a1[i]?=some v->∃k,ks[i]?=some k/\knd.is k v=true/\v.scannable=true)
  (hb:a1.size+1<scanBound) (h:∀s2,Ll knd s ks s2->Q (.ref s.heap.objs.size) s2):wpAny (model prog w) A (call (.type "set") [.ref l]) Q E s:=by
 obtain⟨c,tl,hm⟩:=PySem.F.called_set.mro;have q1:=PySem.F.called_set.made;have q2:=PySem.F.called_set.sub;refine wpAny_call (codeAny_of_tree ?_);refine vC ⟨Code.quiet_builtin _ (by trivial),codeAny_builtin PySem.F.entry_type_call ?_⟩;rw[Around.under_plain (weight_type_call_type "set" [.ref l] []) rfl];have q3:=PySem.F.called_set.notType;have q4:=PySem.F.called_set.canCreate;have q5:=PySem.F.typeCall_set_1 (.ref l)
 repeat any_goals (first|wp_step|assumption)
 refine codeAny_mono (Xo (.ref l) (E:=E) (Q:=λobj a4=>obj=.ref s.heap.objs.size/\a4 = {s with heap:=s.heap.push (setNew w)}) ⟨Z,Z⟩) λr a4 hr=>?_
 cases r with
 |error e=>exact hr
 |ok fl=>
  cases fl with
  |ret obj=>
   obtain⟨rfl,rfl⟩:=hr;have hS:(s.heap.push (setNew w)).get? s.heap.objs.size=some (setNew w):=uF _ rfl;have ty:Shared.TypeIs {s with heap:=s.heap.push (setNew w)} (.ref s.heap.objs.size) "set":=⟨_,hS,Z⟩;have q6:=PySem.F.called_set.init.lookup;have q7:=PySem.F.called_set.init.bind (.ref s.heap.objs.size)
   repeat any_goals (first|wp_step|assumption)
   refine codeAny_mono (codeAny_call_builtin (R:=wants (λr a3=>r=.none/\Ll knd s ks a3) E) PySem.F.called_set.init.plain PySem.F.entry_set_init (check_set_init_1 ty ?_)) λa7 a3 a2=>?_
   .unfold Builtin.«set.__init__» noKeywords
    generalize hU:Builtin.Frozenset.updateFrom=U
    have a5:wpAny (model prog w) A.in1.in1 (U "set.__init__" s.heap.objs.size (.ref l)) (λ_ s2=>Ll knd s ks s2) (λe s'=>wants (λr a3=>r=.none/\Ll knd s ks a3) E (.error e) s') {s with heap:=s.heap.push (setNew w)}:=by
     rw[<-hU];exact AdR (A:=A.in1.in1) hh hl hn hv hb λs2 m=>m
    wp_walk
    exact zW a5 (λ_ s2 m=>vC ⟨Z,m⟩) λ_ _ q=>q
   .cases a7 with
    |error e=>exact a2
    |ok a6=>
     cases a6 with
     |ret r=>
      obtain⟨rfl,m⟩:=a2;have z:=h _ m
      repeat any_goals (first|wp_step|assumption)
     |_=>exact a2.elim
  |_=>exact hr.elim
end
def B6:Slot "set_iterator" "__next__" "set_iterator.__next__":=
 .of (owner:="set_iterator") (n:="__next__") (by rfl) (by trivial) (by trivial) (by trivial)
  (by first|exact .inl (by trivial)|exact .inr (by trivial)) (by rfl)
def F0:entryFor table "set_iterator.__next__"= some Builtin.«set_iterator.__next__»:=entryFor_of_tree (by kernel_rfl)
def Qd:Manifest.owners.lookup (String.ofList ['r','o','t','a','r','e','t','i','_','t','e','s'].reverse)=some Manifest.sig_set_iterator:=by kernel_rfl
def Go(a:Value):argsOk "set_iterator.__next__" ⟨[a],[]⟩:=by
 unfold argsOk
 kernel_rfl
def R6:entryFor table "set.__iter__"= some Builtin.«frozenset.__iter__» :=
 entryFor_alias (by kernel_rfl) rfl (by trivial) (by kernel_rfl)
abbrev itObj(first:Value)(i:Nat)(a:Addr)(n ep:Nat):Obj:={cls:=.type "set_iterator",dict:=none,data:=.fields #[first,.int i 0,.ref a,.int n 0,.int ep 0],slots:=#[]}
section
variable{s:Shared}{I:Addr}{i ep:Nat}{Q:Option Value->Shared->Prop}
def Wh{o:Obj}{vs:Array Value}{m:Nat}(z:A.handled=none)(ho:s.heap.get? I=o)(hd:o.data=.fields vs)(hm:m<vs.size){R:PySem.Fin->Shared->Prop}{E':Value->Shared->Prop}
  (h:∀x h',(⟨h',s.gens,s.drawn,s.toks,s.os⟩:Shared).TypeIs x "StopIteration" -> Heap.ExtBut I s.heap h'->E' x {s with heap:=h' }) :
  wpAny (model prog w) A (do setField (.ref I) m .none;raiseNew (<-newExc (.type "StopIteration") [])) R E' s:=by
 refine vB (wpAny_setField ho hd hm ?_);refine vB ?_;refine vB (m:=firstArgMember _ _) (wpAny_of_eq (a:=Value.none) (by rfl) ?_);refine wpAny_newObj_type ?_ (by size_fits);refine vB (wpAny_handled ?_);rw[z];refine vB (vC (wpAny_throw ?_));exact h _ _ ⟨_,uF _ rfl,Z⟩ (((Heap.SameBut.update ..).extBut.push _).push _)
def W4{slot nx:Nat}{x:Value}(ho:s.heap.get? I=some (itObj (.int slot 0) i a n ep))(hz:∀(A:Around)(E:Value->Shared->Prop)(Q:Array (Int×Value)->Shared->Prop),(∀es,es.size=n->Q es s)->wpAny (model prog w) A (setEntries a) Q E s)
  (z:∀(A:Around)(E:Value->Shared->Prop)(Q:Option (Value×Nat)->Shared->Prop),Q (some (x,nx)) s->wpAny (model prog w) A (setNext a slot i ep) Q E s)
  (hQ:∀h',h'.get? I=some (itObj (.int nx 0) (i+1) a n ep)->Heap.SameBut I s.heap h'->Q (some x) {s with heap:=h' }):wpAny (model prog w) A (pyNext (.ref I)) Q E s:=by
 have ty:s.TypeIs (.ref I) "set_iterator":=⟨_,ho,Z⟩;refine vB (wpAny_attempt (wpAny_callSpecial?_slot ty B6 (wpAny_call_entry B6 ty F0 ?_ (Go _))));refine vB (vC ?_);refine vB (wpAny_fieldsOf ho rfl ?_);refine vB (hz _ _ _ λes e=>?_);rw[if_neg (by rw[e];simp)];refine vB (z _ _ _ ?_);refine vB (wpAny_setField_rec ho (by simp) λh1 e1 b1=>?_);refine vB (wpAny_setField_rec e1 (by simp) λh2 e2 b2=>?_);refine vC ⟨_,Z,vC (hQ _ ?_ (b1.trans b2))⟩;rw[e2];simp[rawInt]
def Uk{slot:Nat}(hh:A.handled=none)(ho:s.heap.get? I=some (itObj (.int slot 0) i a n ep))(hz:∀(A:Around)(E:Value->Shared->Prop)(Q:Array (Int×Value)->Shared->Prop),(∀es,es.size=n->Q es s)->wpAny (model prog w) A (setEntries a) Q E s)
  (hN:∀(A:Around)(E:Value->Shared->Prop)(Q:Option (Value×Nat)->Shared->Prop),Q none s->wpAny (model prog w) A (setNext a slot i ep) Q E s)
  (hQ:∀h',Heap.ExtBut I s.heap h'->Q none {s with heap:=h' }):wpAny (model prog w) A (pyNext (.ref I)) Q E s:=by
 have ty:s.TypeIs (.ref I) "set_iterator":=⟨_,ho,Z⟩;refine vB (wpAny_attempt (wpAny_callSpecial?_slot ty B6 (wpAny_call_entry B6 ty F0 ?_ (Go _))));refine vB (vC ?_);refine vB (wpAny_fieldsOf ho rfl ?_);refine vB (hz _ _ _ λes e=>?_);rw[if_neg (by rw[e];simp)];refine vB (hN _ _ _ ?_);refine Wh (A:=A.in1) hh ho rfl (by simp) λx h' z b=>?_
 exact vB (wpAny_isInstance z isSubtype_stop (vC (hQ _ b)))
def AdQ{pl:List Nat}{q:Nat}{x:Value}{h0:Int}{z:Array (Int×Value)}{t:SetTable}(ho:s.heap.get? I=some (itObj (.ref tp) i a n ep))(a1:s.heap.get? tp=some {cls:=.type "tuple",data:=.seq (pl.map λ(p:Nat)=>rawInt p).toArray})(hz:∀(A:Around)(E:Value->Shared->Prop)(Q:Array (Int×Value)->Shared->Prop),(∀es,es.size=n->Q es s)->wpAny (model prog w) A (setEntries a) Q E s)
  (hS:∀(A:Around)(E:Value->Shared->Prop)(Q:Array (Int×Value)×Nat×SetTable->Shared->Prop),Q (z,ep,t) s->wpAny (model prog w) A (setState a) Q E s)
  (hp:pl[i]?=q) (hx:z[q]?=some (h0,x)) (hQ:∀h',h'.get? I=some (itObj (.ref tp) (i+1) a n ep)->Heap.SameBut I s.heap h'->Q (some x) {s with heap:=h' }):wpAny (model prog w) A (pyNext (.ref I)) Q E s:=by
 have ty:s.TypeIs (.ref I) "set_iterator":=⟨_,ho,Z⟩;refine vB (wpAny_attempt (wpAny_callSpecial?_slot ty B6 (wpAny_call_entry B6 ty F0 ?_ (Go _))));refine vB (vC ?_);refine vB (wpAny_fieldsOf ho rfl ?_);refine vB (hz _ _ _ λes e=>?_);rw[if_neg (by rw[e];simp)];refine vB (wpAny_seqItems a1 rfl ?_);dsimp only;have hq:(pl.map λ(p:Nat)=>rawInt p).toArray[(i:Int).toNat]?=some (rawInt q):=by simp[hp]
 rw[hq];show wpAny _ _ (setNextDrawn a (q:Int).toNat (ep:Int).toNat>>=_) _ _ s;simp;refine vB (vB (hS _ _ _ ?_));dsimp only;rw[if_neg (by simp),hx];refine vC ?_;refine vB (wpAny_setField_rec ho (by simp) λh1 e1 b1=>?_);refine vC ⟨_,Z,vC (hQ _ ?_ b1)⟩;rw[e1];simp[rawInt]
def Acg{pl:List Nat}(hh:A.handled=none)(ho:s.heap.get? I=some (itObj (.ref tp) i a n ep))(z:s.heap.get? tp=some {cls:=.type "tuple",data:=.seq (pl.map λ(p:Nat)=>rawInt p).toArray})(hz:∀(A:Around)(E:Value->Shared->Prop)(Q:Array (Int×Value)->Shared->Prop),(∀es,es.size=n->Q es s)->wpAny (model prog w) A (setEntries a) Q E s)
  (hp:pl[i]?=none) (hQ:∀h',Heap.ExtBut I s.heap h'->Q none {s with heap:=h' }):wpAny (model prog w) A (pyNext (.ref I)) Q E s:=by
 have ty:s.TypeIs (.ref I) "set_iterator":=⟨_,ho,Z⟩;refine vB (wpAny_attempt (wpAny_callSpecial?_slot ty B6 (wpAny_call_entry B6 ty F0 ?_ (Go _))));refine vB (vC ?_);refine vB (wpAny_fieldsOf ho rfl ?_);refine vB (hz _ _ _ λes e=>?_);rw[if_neg (by rw[e];simp)];refine vB (wpAny_seqItems z rfl ?_);dsimp only;have hq:(pl.map λ(p:Nat)=>rawInt p).toArray[(i:Int).toNat]?=none:=by simpa using hp
 rw[hq];refine vB (wpAny_setField_rec ho (by simp) λh1 e1 b1=>?_);refine Wh (A:=A.in1) hh e1 rfl (by simp) λx h' a1 b=>?_
 exact vB (wpAny_isInstance a1 isSubtype_stop (vC (hQ _ λb' o' hb e=>b _ _ hb (b1.extBut _ _ hb e))))
end
def Lw:Slot "set_iterator" "__iter__" "set_iterator.__iter__":=
 .of (owner:="set_iterator") (n:="__iter__") (by rfl) (by trivial) (by trivial) (by trivial)
  (by first|exact .inl (by trivial)|exact .inr (by trivial)) (by rfl)
def Qw:entryFor table "set_iterator.__iter__"= some Builtin.«dict_keyiterator.__iter__» :=
 entryFor_alias (by kernel_rfl) rfl (by trivial) (by kernel_rfl)
def Rw(a:Value):argsOk "set_iterator.__iter__" ⟨[a],[]⟩:=by
 unfold argsOk
 kernel_rfl
section
variable{κ:Type} [DecidableEq κ] {knd:PySem.KeyKind prog w κ} {s:Shared} {I:Addr} {ks:List κ} {o:Obj} {es:Array (Int×Value)} {ep:Nat} {t:SetTable} {ms:List κ}
def Nm{Q:Value->Shared->Prop}(ty:s.TypeIs (.ref I) "set_iterator")(h:Q (.ref I) s):wpAny (model prog w) A (pyIter (.ref I)) Q E s:=by
 refine wpAny_pyIter_slot ty Lw (wpAny_call_entry Lw ty Qw ?_ (Rw _));exact vC ⟨_,Z,"set_iterator",_,ty,B6.lookup,h⟩
def Od{Q:Bool->Shared->Prop}(h:Q (w.params.followText "set-order") s):wpAny (model prog w) A setsByText Q E s:=by
 exact vB (wpAny_askSetting (vC h))
def Dx.state(D:Dx knd s.heap a ks o es ep t ms){Q:Array (Int×Value)×Nat×SetTable->Shared->Prop}(h:Q (es,ep,t) s):wpAny (model prog w) A (setState a) Q E s:=wpAny_setState_of D.at' D.dat D.fit h
def Dx.entries(D:Dx knd s.heap a ks o es ep t ms){Q:Array (Int×Value)->Shared->Prop}(h:Q es s):wpAny (model prog w) A (setEntries a) Q E s:=by
 exact vB (D.state (vC h))
def Sy(D:Dx knd s.heap a ks o es ep t ms)(ft:w.params.followText "set-order"= true){slot given:Nat}{Q:Option (Value×Nat)->Shared->Prop}(h:Q (((pickOrder (w.params.setOrder a ep) es)[given]?).map λe=>(e.2,slot)) s) :
  wpAny (model prog w) A (setNext a slot given ep) Q E s:=by
 refine vB (D.state ?_);refine vB (Od ?_);rw[if_pos ft,if_neg (by simp)];refine vB ?_;refine vB (D.state ?_);refine vB (Od ?_);rw[if_pos ft];exact vB (wpAny_askSetting (vC (vC h)))
def Q1(D:Dx knd s.heap a ks o es ep t ms)(ft:w.params.followText "set-order"= false)(hd:(!t.plain&&decide (es.size>1))=false){slot given:Nat}{Q:Option (Value×Nat)->Shared->Prop}
  (h:Q (match es[SetTable.below t.place slot]?,t.place[SetTable.below t.place slot]? with|some (_,x),some j=>some (x,j+1)|_,_=>none) s) :
  wpAny (model prog w) A (setNext a slot given ep) Q E s:=by
 have hl:t.led:=by rw[D.tab.led,ft];rfl
 refine vB (D.state ?_);refine vB (Od ?_);rw[if_neg (by rw[ft];exact qc)];show wpAny _ _ (if (!t.plain&&decide _) then _ else _) _ _ s;rw[hd];refine vB ?_;show wpAny _ _ (if _ then _ else _) _ _ s;rw[hl];exact vC (vC h)
end
def N3(pl:Array Nat):Nat->Nat
 |0=>0
 |i+1=>pl.getD i 0+1
def P6{pl:Array Nat}(h:G2 pl){i:Nat}(hi:i<=pl.size):SetTable.below pl (N3 pl i)=i:=by
 cases i with
 |zero=>exact Aaa h
 |succ i=>
  have e:pl.getD i 0=pl[i]:=by simp[Array.getD,show i<pl.size by omega]
  show SetTable.below _ (pl.getD i 0+1)=i+1
  rw[e];exact Aag h (by omega)
section
variable{κ:Type} [DecidableEq κ] {knd:PySem.KeyKind prog w κ} {s:Shared} {I:Addr} {ks:List κ} {o:Obj} {es:Array (Int×Value)} {ep:Nat} {t:SetTable} {ms:List κ}
def Km(D:Dx knd s.heap a ks o es ep t ms):∀(A:Around)(E:Value->Shared->Prop)(Q:Array (Int×Value)->Shared->Prop),(∀z,z.size=es.size->Q z s)->wpAny (model prog w) A (setEntries a) Q E s:=λ_ _ _ q=>D.entries (q _ rfl)
def Abx{h0:Heap}(D:Dx knd h0 a ks o es ep t ms)(ft:w.params.followText "set-order"= true)(hh:A.handled=none)(a1:a≠I) :
  Walks prog w A I [I,a] [I] es.size (λi v=>((pickOrder (w.params.setOrder a ep) es).toList.map (·.2))[i]?=v) (λi h=>h.get? I=some (itObj (.int (0:Nat) 0) i a es.size ep)/\h.get? a=o) where
 sub:=λb hb=>by simp at hb;simp[hb]
 frame:=λ_ _ _ st hk=>⟨hk I (by simp) _ st.1,hk a (by simp) _ st.2⟩
 item:=λi s Q E _ st hQ=>by
  have D':=D.keep st.2;have hp:=(M8 (w.params.setOrder a ep) es).length_eq;have hl:i<(pickOrder (w.params.setOrder a ep) es).size:=by simp_all
  refine W4 st.1 (Km D') (λ_ _ _ q=>Sy D' ft (by rw[uP hl];exact q)) λh' e1 b1=>?_
  exact hQ _ _ _ (by simp[hl]) ⟨e1,(b1.2 a a1).trans st.2⟩ λb u hb e=>b1.extBut b u (λz=>hb (by simp[z])) e
 done:=λs Q E st hQ=>by
  have D':=D.keep st.2;have hp:=(M8 (w.params.setOrder a ep) es).length_eq
  refine Uk hh st.1 (Km D') (λ_ _ _ q=>Sy D' ft (by simp_all)) λh' b1=>?_
  exact hQ _ _ λb u hb e=>b1 b u (λz=>hb (by simp[z])) e
 self:=λ_ s _ _ st hQ=>Nm ⟨_,st.1,Z⟩ hQ
def AaX{h0:Heap}(D:Dx knd h0 a ks o es ep t ms)(ft:w.params.followText "set-order"= false)(hd:(!t.plain&&decide (es.size>1))=false)(hh:A.handled=none)(a1:a≠I) :
  Walks prog w A I [I,a] [I] es.size (λi v=>(es.toList.map (·.2))[i]?=v) (λi h=>i<=es.size/\h.get? I=some (itObj (.int (N3 t.place i) 0) i a es.size ep)/\h.get? a=o) where
 sub:=λb hb=>by simp at hb;simp[hb]
 frame:=λ_ _ _ st hk=>⟨st.1,hk I (by simp) _ st.2.1,hk a (by simp) _ st.2.2⟩
 item:=λi s Q E hi st hQ=>by
  have D':=D.keep st.2.2;have hz:=by have:=D.fit;simp only[SetTable.fits,vA,beq_iff_eq]at this;exact this.1
  refine W4 (x:=es[i].2) (nx:=N3 _ _) st.2.1 (Km D') (λ_ _ _ q=>Q1 D' ft hd (by
   rw[P6 D.tab.rise (by omega),uP _,uP (by omega)];have e:N3 t.place (i+1)=t.place[i]'(by omega)+1:=by simp[N3,show i<t.place.size by omega]
   rw[e]at q;exact q)) λh' e1 b1=>?_
  exact hQ _ _ _ (by simp[hi]) ⟨hi,e1,(b1.2 a a1).trans st.2.2⟩ λb u hb e=>b1.extBut b u (λz=>hb (by simp[z])) e
 done:=λs Q E st hQ=>by
  have D':=D.keep st.2.2;have hz:=by have:=D.fit;simp only[SetTable.fits,vA,beq_iff_eq]at this;exact this.1
  refine Uk hh st.2.1 (Km D') (λ_ _ _ q=>Q1 D' ft hd (by
   rw[P6 D.tab.rise (by omega),Array.getElem?_eq_none (by omega)];exact q)) λh' b1=>?_
  exact hQ _ _ λb u hb e=>b1 b u (λz=>hb (by simp[z])) e
 self:=λ_ s _ _ st hQ=>Nm ⟨_,st.2.1,Z⟩ hQ
abbrev Qs(pl:List Nat):Obj:={cls:=.type "tuple",data:=.seq (pl.map λ(p:Nat)=>rawInt p).toArray}
def AaB{h0:Heap}{tp:Addr}{pl:List Nat}(D:Dx knd h0 a ks o es ep t ms)(hp:pl.Perm (List.range es.size))(hh:A.handled=none)(a1:a≠I)(a2:tp≠I) :
  Walks prog w A I [I,a,tp] [I] es.size (λi v=>(pl.map λp=>((es[p]?).map (·.2)).getD .none)[i]?=v) (λi h=>h.get? I=some (itObj (.ref tp) i a es.size ep)/\h.get? a=o/\h.get? tp=some (Qs pl)) where
 sub:=λb hb=>by simp at hb;simp[hb]
 frame:=λ_ _ _ st hk=>⟨hk I (by simp) _ st.1,hk a (by simp) _ st.2.1,hk _ (by simp) _ st.2.2⟩
 item:=λi s Q E hi st hQ=>by
  have D':=D.keep st.2.1;have hl:i<pl.length:=by rw[hp.length_eq,zI];exact hi
  have hm:=by have:=hp.mem_iff.mp (zL hl);simpa using this
  refine AdQ st.1 st.2.2 (Km D') (λ_ _ _ q=>D'.state q) (vD _) (by rw[uP hm]) λh' e1 b1=>?_
  refine hQ _ _ _ ?_ ⟨e1,(b1.2 a a1).trans st.2.1,(b1.2 _ a2).trans st.2.2⟩ λb u hb e=>b1.extBut b u (λz=>hb (by simp[z])) e
  rw[vJ,vD hl,Option.map_some,uP _];rfl
 done:=λs Q E st hQ=>by
  refine Acg hh st.1 st.2.2 (Km (D.keep st.2.1)) (getElem?_eq_none (by rw[hp.length_eq,zI];exact zB _)) λh' b1=>?_
  exact hQ _ _ λb u hb e=>b1 b u (λz=>hb (by simp[z])) e
 self:=λ_ s _ _ st hQ=>Nm ⟨_,st.1,Z⟩ hQ
def AaU{pl:List Nat}(hp:pl.Perm (List.range es.size)):(pl.map λp=>((es[p]?).map (·.2)).getD .none).Perm (es.toList.map (·.2)):=by
 refine(hp.map _).trans ?_;rw[show(List.range _).map _=es.toList.map _ from ?_];refine ext_getElem (by simp) λi h1 _=>?_
 simp at h1;simp[h1]
def AdV{Q:Value->Shared->Prop}(D:Dx knd s.heap a ks o es ep t ms)
  (h:∀(h':Heap)(d:Drawn)(I:Addr)(fp:List Addr)(vs:List Value)(St:Nat->Heap->Prop),(∀b u,s.heap.get? b=some u->h'.get? b=some u)->vs.Perm (es.toList.map (·.2))->s.heap.objs.size<=I->(∀b∈fp,b=a\/s.heap.objs.size<=b) ->
   (∀A':Around,A'.handled=none->Walks prog w A' I fp [I] es.size (λi v=>vs[i]?=some v) St)->St 0 h'->Q (.ref I) {s with heap:=h',drawn:=d}):wpAny (model prog w) A (pyIter (.ref a)) Q E s:=by
 have ty:s.TypeIs (.ref a) "set":=⟨o,D.at',D.ex.1⟩;have a3:=uD D.at';have a2:=zF a3;refine wpAny_pyIter_slot ty PySem.F.slot_set_iter (wpAny_call_entry PySem.F.slot_set_iter ty R6 ?_ (PySem.F.args_set_iter_1 _));refine vB (vB (vC ?_));refine wpAny_of_eq rfl ?_;refine vB ?_;refine vB (D.entries (vC ?_));refine vB ?_;refine vB (D.state ?_);refine vB (Od (vC ?_))
 have a1:∀first(s1:Shared)(D1:Dx knd s1.heap a ks o es ep t ms)(hk:Q (.ref s1.heap.objs.size) {s1 with heap:=s1.heap.push (itObj first 0 a es.size ep)}),wpAny (model prog w) A.in1 (do
   ret (<-newFields "set_iterator" [first,rawInt 0,.ref a,rawInt es.size,rawInt (<-setEpoch a)])) (λa1 s'=>∃v,a1=.done (.ret v)/\∃T' r,s'.TypeIs v T'/\typeLookup (.type T') "__next__"= pure (some r)/\Q v s') E s1:=by
  intro first s1 D1 hk
  refine vB (wpAny_setEpoch_of D1.at' D1.dat D1.fit ?_);exact vB (wpAny_newObj_type (vC ⟨_,Z,"set_iterator",_,⟨_,uF _ rfl,Z⟩,B6.lookup,hk⟩) (by size_fits))
 cases ft:w.params.followText "set-order" with
 |true=>
  refine a1 _ s D ?_
  exact h _ _ _ _ _ _ (λb u e=>uB _ e) ((M8 _ _).map _) (zB _) (λb hb=>by simp at hb;rcases hb with z|z;exact .inr (le_of_eq z.symm);exact .inl z)
   (λA' hA=>Abx D ft hA a2) ⟨uF _ rfl,uB _ D.at'⟩
 |false=>
  cases hd:(!t.plain&&decide (es.size>1)) with
  |false=>
   show wpAny _ _ (if (!false&&(!t.plain&&decide _)) then _ else _) _ _ s
   rw[hd,show(!false&&false)=false from rfl];refine a1 _ s D ?_
   exact h _ _ _ _ _ _ (λb u e=>uB _ e) (.refl _) (zB _) (λb hb=>by simp at hb;rcases hb with z|z;exact .inr (le_of_eq z.symm);exact .inl z)
    (λA' hA=>AaX D ft hd hA a2) ⟨zZ _,uF _ rfl,uB _ D.at'⟩
  |true=>
   show wpAny _ _ (if (!false&&(!t.plain&&decide _)) then _ else _) _ _ s
   rw[hd,show(!false&&true) from rfl];refine vB (Ae2 _ _ s _ (by simp) λpl d hp=>?_);have a4:pl.length=es.size:=by rw[hp.length_eq,zI]
   refine vB (wpAny_newTuple ?_ (by rw[vE,a4];exact fits_of_scanBound D.sm));refine a1 _ ⟨s.heap.push (Qs _),s.gens,d,s.toks,s.os⟩ (D.keep (uB _ D.at')) ?_;have hI:(s.heap.push (Qs pl)).objs.size=s.heap.objs.size+1:=uV _ _
   refine h _ d (s.heap.push _).objs.size _ _ _ (λb u e=>uB _ (uB _ e)) (AaU hp) (by simp) (λb hb=>?_)
    (λA' hA=>AaB D hp hA (by rw[hI];exact zF (lt_succ_of_lt a3)) (by simp)) ⟨uF _ rfl,uB _ (uB _ D.at'),uB _ (uF _ rfl)⟩
   simp at hb;rcases hb with z|z|z
   .simp_all
   .exact .inl z
   .exact .inr (le_of_eq z.symm)
end
section
variable{κ:Type} [DecidableEq κ] {knd:PySem.KeyKind prog w κ} {s:Shared} {I:Addr} {ks:List κ} {o:Obj} {es:Array (Int×Value)} {ep:Nat} {t:SetTable} {ms:List κ}
def AdG{Q:Bool->Shared->Prop}(ty:s.TypeIs (.ref a) "set")(h:Q false s):wpAny (model prog w) A (Builtin.List.listLengthHint (.ref a)) Q E s:=by
 refine vB (wpAny_specialOf ty PySem.F.slot_set_len.lookup ?_);generalize e:("set.__len__")=nm
 wp_delta
 subst e;refine vB (wpAny_isInstance ty sub_set_self ?_);refine wpAny_ite_split (λc=>absurd c (by decide)) λ_=>?_
 exact wpAny_ite_split (λ_=>vB (wpAny_typeOf ty (vC h))) λc=>absurd (by trivial) c
def Ac2(hn:vs.length=n)(h:ItemsOf (λi v=>vs[i]?=v) z n):z.toList=vs:=by
 refine ext_getElem (by rw[uT,h.1,hn]) λi _ h2=>?_
 have q:vs[i]?=some _:=h.2 i (z.toList[i]) (by simp);rw[vD _]at q;exact(uH q).symm
def AaV{R:Result->Shared->Prop}(D:Dx knd s.heap a ks o es ep t ms)(hh:A.handled=none)(S:Addr)(a5:S≠a)(res:Value)(hS:s.heap.get? S=some {cls:=.type "list",data:=.seq #[]})
  (h:∀h' tk d a1 c',(∀b u,b≠S->s.heap.get? b=some u->h'.get? b=some u)->h'.get? S=some {cls:=.type "list",dict:=none,data:=.seq a1 c',slots:=#[]}->a1.toList.Perm (es.toList.map (·.2))->R (.ok (.ret res)) {s with heap:=h',drawn:=d,toks:=tk}) :
  wpAny (model prog w) A.in1 (Builtin.List.listExtendWith (.ref S) (.ref a) res)
   (λb4 s'=>match b4 with|.done f=>R (.ok f) s'|.again c'=>c'.quiet=true/\codeAny (model prog w) A c' R s') (λe s'=>R (.error e) s') s:=by
 have ty:s.TypeIs (.ref a) "set":=⟨o,D.at',D.ex.1⟩;have b3:=uD hS;unfold Builtin.List.listExtendWith;refine vB (wpAny_typeOf ty ?_);have e1:Builtin.List.listSameRef (.ref S) (.ref a)=false:=by simp[Builtin.List.listSameRef,a5]
 rw[e1];refine vB (AdV D λh1 d I fp vs St k1 pv hI a8 W st=>?_)
 have a4:S∉fp:=λz=>by
  rcases a8 S z with q|q
  .exact a5 q
  .exact absurd q (Nat.not_le.mpr b3)
 have b7:vs.length=es.size:=by rw[pv.length_eq];simp
 have go:∀(h2:Heap)(c tk:Nat),St 0 h2->(∀b u,b≠S->s.heap.get? b=some u->h2.get? b=u)->h2.get? S=some {cls:=.type "list",data:=.seq #[] c} ->
   codeAny (model prog w) A (.builtin "list.extend.loop" ⟨[.ref S,.ref I,res],[]⟩) R {s with heap:=h2,drawn:=d,toks:=tk}:=by
  intro h2 c tk b1 k2 a2;refine codeAny_extend_loopS (W A.in1 hh).toS (fits_of_scanBound D.sm) S a4 res es.size 0 _ #[] c rfl (zZ _) b1 a2 (ItemsOf.nil _) λs' a1 c' mv b2 a7=>?_
  obtain⟨h',g',d',b6,b5⟩:=s';have eg:g'=s.gens:=mv.gens;have ed:d'=d:=mv.drawn;have eo:b5=s.os:=mv.os;subst eg ed eo;refine h h' b6 _ a1 c' (λb u hb e=>mv.heap b u (λz=>?_) (k2 b u hb e)) b2 (by rw[(Ac2 b7 a7)];exact pv);rcases zM.mp z with z|z
  .exact hb z
  .rw[zG]at z
   exact absurd (uD e) (by rw[z];exact not_lt.mpr hI)
 have a3:=k1 _ _ hS;refine vB (zX (AdG ⟨o,k1 _ _ D.at',D.ex.1⟩ ?_));refine wpAny_ite_split (λ_=>?_) λ_=>vC ⟨plainId_quiet PySem.F.plain_extend_loop _,go _ _ _ st (λb u _ e=>k1 b u e) a3⟩
 refine vB (wpAny_rule ?_);refine vB ?_;show wpAny _ _ (updateSeq S (·.push .none)>>=λ_=>updateSeq S (·.pop)) _ _ _;refine vB (wpAny_updateSeq a3 rfl ?_);have a2:=uX (Obj.mapSeq (·.push Value.none)) a3 rfl;refine wpAny_updateSeq a2 rfl ?_;have a6:∀b u,b≠S->h1.get? b=some u->((h1.update S (Obj.mapSeq (·.push Value.none))).update S (Obj.mapSeq (·.pop))).get? b=u:=λb u hb e=>
  (uN _ _ (Ne.symm hb)).trans ((uN _ _ (Ne.symm hb)).trans e)
 exact vC ⟨plainId_quiet PySem.F.plain_extend_loop _,go _ _ _ ((W A.in1 hh).frame 0 _ _ st λb hb u e=>a6 b u (λz=>a4 (z▸hb)) e) (λb u hb e=>a6 b u hb (k1 b u e)) (uX (Obj.mapSeq (·.pop)) a2 rfl)⟩
def Xi{R:List Value->Shared->Prop}(D:Dx knd s.heap a ks o es ep t ms)(hh:A.handled=none)
  (h:∀(h':Heap)(tk:Nat)(d:Drawn)(vs:List Value),(∀b u,s.heap.get? b=some u->h'.get? b=u)->s.heap.objs.size<=h'.objs.size->vs.Perm (es.toList.map (·.2))->R vs {s with heap:=h',drawn:=d,toks:=tk}) :
  wpAny (model prog w) A (collect (.ref a)) R E s:=by
 refine vB (wpAny_runValue (codeAny_builtin entry_proto_collect' ?_));refine vB (wpAny_newObj_type ?_);refine vC ⟨plainId_quiet PySem.F.plain_list_iadd _,codeAny_builtin entry_list_iadd' ?_⟩;have hS:(s.heap.push {cls:=.type "list",data:=.seq ([]).toArray}).get? s.heap.objs.size=some {cls:=.type "list",data:=.seq #[]}:=uF _ rfl
 have a2:=AaV (s:={s with heap:=s.heap.push {cls:=.type "list",data:=.seq ([]).toArray} })
  (R:=λq(s':Shared)=>∃h' tk d a1 c',q=.ok _/\s' = {s with heap:=h',drawn:=d,toks:=tk}/\(∀b u,s.heap.get? b=some u->h'.get? b=u) /\
   h'.get? _=some {cls:=.type "list",dict:=none,data:=.seq a1 c',slots:=#[]}/\a1.toList.Perm _)
  (D.keep (uB _ D.at')) hh _ (ne_of_gt (uD D.at')) (.ref s.heap.objs.size) hS
  (λh' tk d a1 c' k1 e1 p1=>⟨h',tk,d,a1,c',Z,Z,λb u e=>k1 b u (zF (uD e)) (uB _ e),e1,p1⟩)
 refine zW a2 (λa3 _ x=>?_) λe _ x=>?_
 .cases a3 with
  |done f=>
   obtain⟨h',tk,d,a1,c',e,rfl,k1,e1,p1⟩:=x;cases e
   exact vB (wpAny_load e1 (vC (h _ _ d _ k1 (le_of_lt (uD e1)) p1)))
  |again _=>
   refine⟨x.1,codeAny_mono x.2 λq _ y=>?_⟩;obtain⟨h',tk,d,a1,c',rfl,rfl,k1,e1,p1⟩:=y;exact vB (wpAny_load e1 (vC (h _ _ d _ k1 (le_of_lt (uD e1)) p1)))
 .obtain⟨_,_,_,_,_,z,_⟩:=x
  cases z
end
section
variable{s:Shared}{ks:List Int}
def Ady{vs:List Value}{ns:List Int}(h:PySem.Paired (λv n=>∃t,v=Value.int n t) vs ns):IntsAre vs ns:=by
 induction h with
 |nil=>exact .nil
 |cons f _ z=>
  obtain⟨t,rfl⟩:=f;exact .cons _ t z
def AaP{Q:Value->Shared->Prop}(S:SetT (intKind prog w) s.heap a ks)(hh:A.handled=none)(a8:ks.length<64)
  (h:∀(h':Heap)(tk:Nat)(d:Drawn)(L:Addr)(a4:Array Value)(c:Nat)(ns:List Int),(∀b u,s.heap.get? b=some u->h'.get? b=u)->s.heap.objs.size<=L->h'.get? L=some (seqObj "list" a4 c)->IntsAre a4.toList ns->ns.Pairwise (· < ·)->(∀k,k∈ns↔k∈ks) ->
   Q (.ref L) {s with heap:=h',drawn:=d,toks:=tk}):wpAny (model prog w) A (call (.builtin "sorted") [.ref a]) Q E s:=by
 obtain⟨o,es,ep,t,ms,D⟩:=S;refine Calls.call_function_entry kind_sorted plain_sorted entry_sorted (args_sorted1 _) ?_;refine vB (vC ?_);refine vB (Xi D hh λh1 tk d vs k1 hsz pv=>?_)
 have pr:PySem.Paired (λv n=>∃t,v=Value.int n t) (es.toList.map (·.2)) ms:=by
  have:=D.pr;generalize es.toList=l at this;clear pv D
  induction this with
  |nil=>exact .nil
  |cons f _ ih=>exact .cons (Value.isInt_shape f) ih
 obtain⟨ns,pn,r1⟩:=Lf pv pr;have a6:vs.length<64:=by
  have h1:=K3 D.nd λk hk=>(D.mem k).mp hk
  have h2:=pv.length_eq;have h3:=D.size;simp at h2;omega
 refine vB (wpAny_newList ?_ (by rw[sizeLine_eq];omega));have hL:(h1.push _).get? h1.objs.size=some (seqObj "list" vs.toArray 0):=uF _ rfl;refine vB (zX (wpAny_call_entry slot_list_sort ⟨_,hL,Z⟩ entry_list_sort (list_sort_tree hL (Ady r1) a6 λa4 a5 a1 a2 a3=>⟨_,Z,?_⟩) (args_list_sort _)));obtain⟨c,hc⟩:∃c,(sortedHeap _ _ _ _).get? h1.objs.size=some _:=sortedHeap_at hL;have p3:=a2.trans pn;refine vC ⟨_,Z,h _ _ d _ _ c _ (λb u e=>?_) ?_ hc a1 ?_ λk=>p3.mem_iff.trans (D.mem k)⟩
 .have hb:=uD (k1 b u e)
  rw[sortedHeap_old (zF hb) (lt_trans hb (uD hL))];exact uB _ (k1 b u e)
 .exact hsz
 .have nd:=p3.nodup_iff.mpr D.nd
  exact(Pairwise.and a3 nd).imp λ{x y}z=>by omega
end
theorem Py:∀{a b:List Int},a.Pairwise (· < ·)->b.Pairwise (· < ·)->(∀k,k∈a↔k∈b)->a=b
 |[],[],_,_,_=>rfl
 |[],y::b,_,_,h=>by simpa using (h y).mpr vH
 |x::a,[],_,_,h=>by simpa using (h x).mp vH
 |x::a,y::b,ha,hb,h=>by
  have a1:=zR.mp ha;have a2:=zR.mp hb
  have e:x=y:=by
   rcases zM.mp ((h x).mp vH) with z|z
   .exact z
   .rcases zM.mp ((h y).mpr vH) with z'|z'
    .exact z'.symm
    .have:=a1.1 y z';have:=a2.1 x z;omega
  subst e
  congr 1
  refine Py a1.2 a2.2 λk=>⟨λz=>?_,λz=>?_⟩
  .rcases zM.mp ((h k).mp (vI _ z)) with q|q
   .have:=a1.1 k z;omega
   .exact q
  .rcases zM.mp ((h k).mpr (vI _ z)) with q|q
   .have:=a2.1 k z;omega
   .exact q
def ins(k:Int):List Int->List Int
 |[]=>[k]
 |x::r=>if k<x then k::x::r else if k=x then x::r else x::ins k r
def nub:List Int->List Int
 |[]=>[]
 |x::r=>ins x (nub r)
theorem Re{k j:Int}:∀{l:List _},j∈ins k l↔j=k\/j∈l
 |[]=>by simp[ins]
 |x::r=>by
  unfold ins;split
  .simp
  .split
   .rename_i h;subst h;simp
   .rw[zM,Re,zM]
    constructor
    .rintro(z|z|z)
     .exact .inr (.inl z)
     .exact .inl z
     .exact .inr (.inr z)
    .rintro(z|z|z)
     .exact .inr (.inl z)
     .exact .inl z
     .exact .inr (.inr z)
theorem Wf{k:Int}:∀{l:List Int},l.Pairwise (· < ·)->(ins k l).Pairwise (· < ·)
 |[],_=>by simp[ins]
 |x::r,h=>by
  have h':=zR.mp h;unfold ins;split
  .rename_i c
   refine zR.mpr ⟨λy hy=>?_,h⟩;rcases zM.mp hy with z|z
   .omega
   .have:=h'.1 y z;omega
  .split
   .exact h
   .refine zR.mpr ⟨λy hy=>?_,Wf h'.2⟩
    rcases Re.mp hy with z|z
    .omega
    .simp_all
theorem A8{j:Int}:∀{l:List _},j∈nub l↔j∈l
 |[]=>by simp[nub]
 |x::r=>by unfold nub;rw[Re,A8,zM]
theorem Hi:∀l,(nub l).Pairwise (· < ·)
 |[]=>.nil
 |x::r=>Wf (Hi r)
def Aay{l ms:List Int}(h:ms.Pairwise (· < ·))(m:∀k,k∈ms↔k∈l):ms=nub l:=Py h (Hi l) λk=>(m k).trans A8.symm
def R5:∀(l:List Int),(nub l).length<=l.length:=λl=>K3 ((Hi l).imp λ{a b}h=>by omega) λx z=>A8.mp z
def tSS(K:FA)(te:TE):TE:=λY H Q=>te Y H λx H1=>∃l ns,x=.ref l/\SqL K H1 l ((ns:List Int).map V.int)/\ns.length<64/\∀r,H1 r=none->Q (.ref r) (upd H1 r (.lst ((nub ns).map V.int)))
def Aa8:bootBuiltins "set"= some (.type "set"):=by trivial
def Gq{p p2 a1:Pos}(hc:X.calm=true)(hg:Gl X "sorted")(hm:X.mg "sorted"= none)(a8:Gl X "set")(b1:X.mg "set"= none)(he:PE X e te)
  (h1:starEach [e] X.env=[(false,eval e X.env)]:=by rfl) (h2:starEach [.Call (.Name "set" p2) [e] [] a1] X.env=[(false,eval (.Call (.Name "set" p2) [e] [] a1) X.env)]:=by rfl) :
  PE X (.Call (.Name "sorted" p) [.Call (.Name "set" p2) [e] [] a1] [] pos) (tSS X.K te):=by
 intro pins s Y H Q I h;refine wpAny_Call_Name_kw (Il I hg hm boot_sorted ?_ (by decide) (by decide));refine PyProof.Rows.callWith_builtin1 ?_ h2 rfl;refine Calls.spliced_cons ?_;refine wpAny_Call_Name_kw (Il I a8 b1 Aa8 ?_ (by decide) (by decide));refine PyProof.Rows.callWith_type1 ?_ h1 rfl;rw[h1];refine Calls.spliced_cons (thn (he _ s Y H _ I h) λu s1 ⟨x,H1,I1,r1,q1⟩=>Calls.spliced_nil ?_);obtain⟨l,ns,rfl,hS,hl,q⟩:=q1;cases r1
 obtain⟨a4,rv,pl,hz⟩:=I1.list hS;have a2:=rv.length;rw[vE]at a2;have hsz:a4.toArray.size=a4.length:=by simp
 refine Abz (knd:=intKind _ _) (I1.ok.hd hc) pl.isList (by omega) (λi v hv=>?_) (by show a4.length+1<4096;omega) λs2 m=>Calls.spliced_nil ?_
 .obtain⟨t,e⟩:=IntsAre.int_at (L9 rv) i v (by simpa using hv)
  have a9:i<ns.length:=by
   rw[a2];have:=Array.getElem?_eq_some_iff.mp hv;obtain⟨z,_⟩:=this
   simpa using z
  subst e;refine⟨ns.getD i 0,?_,intKind_is _ _ _ _,Z⟩;rw[getD_eq_getElem?_getD,vD a9];rfl
 obtain⟨h',tk,rfl,S,k1⟩:=m
 have a3:s1.heap.objs.size<h'.objs.size:=by
  obtain⟨o,es,ep,t,ms,D⟩:=S;exact uD D.at'
 refine AaP S (I1.ok.hd hc) hl λh2 a7 d L b2 c _ k2 hL eL aI aP aM=>?_
 have a6:=I1.hok.fresh (zA (le_of_lt a3) hL);have en:=Aay aP aM;subst en;have kp:=λb u e=>k2 b u (k1 b u (uD e) e)
 have a5:=zA (le_of_lt a3) hL;have nl:=R5 ns
 have I2:Inv X _ Y (upd _ L (.lst _)) {s1 with heap:=h2,gens:=s1.gens,drawn:=d,toks:=a7}:=
  I1.call (ch:=[]) (Un.laid kp a5 a6) (I1.hok.laid kp a5 ⟨by rw[vE];exact Cq (by omega),b2.toList,c,K7 aI,by rw[eL]⟩) I1.bare (λ_ z=>nomatch z)
 exact⟨.ref L,_,I2,Z,q L a6⟩
theorem Bo{z β:Type}{F:z->β->Prop}:∀{l:List z}{m:List β}{j:Nat}{x:z},PySem.Paired F l m->l[j]?=x->∃y,m[j]?=some y/\F x y
 |_,_,j,x,.nil,e=>by simp at e
 |_,_,0,x,.cons f t,e=>by
  simp at e;subst e;exact⟨_,Z,f⟩
 |_,_,j+1,x,.cons f t,e=>by
  obtain⟨y,e1,e2⟩:=Bo t (by simpa using e);exact⟨y,by simpa using e1,e2⟩
theorem D9{α β:Type}{F:α->β->Prop}:∀{l:List α}{m:List β},l.length=m.length->(∀(j:Nat)(x:α),l[j]?=x->∃y,m[j]?=some y/\F x y)->PySem.Paired F l m
 |[],[],_,_=>.nil
 |[],_::_,h,_=>by simp at h
 |_::_,[],h,_=>by simp at h
 |x::l,y::m,h,k=>by
  obtain⟨y',e,f⟩:=k 0 x rfl;simp at e;subst e;exact .cons f (D9 (by simpa using h) λj z hz=>by simpa using k (j+1) z (by simpa using hz))
def Vl{rest:List Expr}{env:Env}:starEach (.Tuple es k pos::rest) env=(false,eval (.Tuple es k pos) env)::starEach rest env:=rfl
def Ti{ns:List Int}(r:A0 (ns.map V.int) z){i:Nat}(h:z[i]?=some v):∃t,v=.int (ns.getD i 0) t:=by
 have hi:=(uA.mp h).1;have hl:=r.length;rw[vE]at hl;have hn:i<ns.length:=by omega
 obtain⟨u,hu,ru⟩:=r.get (by rw[vJ,vD hn];rfl);rw[h]at hu;cases hu
 obtain⟨t,e⟩:∃t,v=.int ns[i] t:=ru;exact⟨t,by rw[e,getD_eq_getElem?_getD,vD _];rfl⟩
def Tl(hc:X.calm=true):Gm X (.builtin "min") (λxs H Q=>∃p ns,xs=[.ref p]/\SqL X.K H p ((ns:List Int).map V.int)/\0<ns.length/\∀M,M∈ns->(∀a∈ns,M<=a)->Q (.int M) H):=by
 intro pins s Y H _ _ Q I r h;obtain⟨p,ns,rfl,hS,h0,q⟩:=h;obtain⟨u,rfl,ru⟩:=r.one;cases ru
 obtain⟨z,rv,pl,hz⟩:=I.list hS;have hl:=rv.length;rw[vE]at hl;have a2:p<s.heap.objs.size:=by obtain⟨_,e,_⟩:=pl.isList;exact uD e
 refine call_min_walk (wpAny_pyIter_list pl.isList ?_)
 refine⟨s.heap.objs.size,[s.heap.objs.size,p],[s.heap.objs.size],z.toArray.size,_,_,_,rfl,Walks.list (A:=X.A.in1) (I.ok.hd hc) _ p (zF a2) _,
  ⟨⟨_,uF _ rfl,rfl,rfl⟩,pl.isList.push _⟩,λb hb=>?_,by rw[vP];omega,CmpOf.ints_lt _ (λi v hP=>Ti rv (by simpa using hP)),λv _ tk hP hk=>?_⟩
 .rcases zM.mp hb with rfl|hb
  .exact uD (uF _ rfl)
  .rcases mS hb with rfl
   obtain⟨_,e,_⟩:=pl.isList;exact uD (uB _ e)
 .have a1:z[argBest (λi j=>decide (ns.getD i 0<ns.getD j 0)) (z.toArray.size-1)]?=v:=by rw[<-List.getElem?_toArray];exact hP
  obtain⟨h1,h2⟩:=argBest_lt _ _;generalize argBest _ _=b at a1 h1 h2;rw[vP]at h1 h2;obtain⟨t,rfl⟩:=Ti rv a1;have hb:b<ns.length:=by omega
  refine⟨.int _,H,I.kept (LSm.kept_iter hk),⟨t,Z⟩,q _ ?_ λa ha=>?_⟩
  .rw[getD_eq_getElem?_getD,vD hb]
   exact zL _
  .obtain⟨j,hj,rfl⟩:=List.getElem_of_mem ha
   have:=h2 j (by omega)
   simpa [vD hj] using this
def El(K:FA)(mg:Str->Option Value)(x q:Str)(ps:List Str)(st:Stmt):Prop:=∃f fd,Fun K q q st f fd/\mg x=some (.ref f)/\Dm K fd ps []
def El.ok{q:Str}{N:List Str}(F:El K mg x q ps st)(S:Ak N ps (Af st))(len:∀vs H Q E,sp vs H Q E->vs.length=ps.length)
  (z:∀(f:Addr)(cdv:Value)(A:Around)(outer:List Env)(s:Shared)(H:Hp)(vs:List V)(Q:VK)(E:XK),Cj k (A.deeper (envOfC q (Af st) s.heap.objs.size f cdv))->sp vs H Q E ->
   ∃t,PSs (Nf CX0 P w K mg base N q (Af st) f cdv A outer s H E).nox (B1 st) t/\t {nx:=λ_ H'=>Q .non H',rt:=Q} (start N vs) H):Ae P w K mg base (k+1) x ps sp:=by
 obtain⟨f,fd,F,m,b⟩:=F;exact⟨f,fd,F.ok S len (z f),b,F.kp,m⟩
def El.zero{q:Str}(F:El K mg x q ps st)(no:∀vs H Q E,¬sp vs H Q E):Ae P w K mg base 0 x ps sp:=by
 obtain⟨f,fd,F,m,b⟩:=F;exact⟨f,fd,⟨λvs H Q E h=>absurd h (no _ H Q E),λA _ s H _ _ vs Q E _ _ _ _ h=>absurd h (no _ H Q E)⟩,b,F.kp,m⟩
def Inv.freeze{s:Shared}{d:Addr}{kvs:List (Key×V)}(I:Inv X pins Y H s)(h:H d=some (.dK kvs)):∃o,Inv X pins Y (upd H d (.frz o (.dK kvs))) s:=by
 have hk:=I.hok d _ h;obtain⟨z1,z2,vs,r,o,es,ep,e,rest⟩:=id hk
 have ne:∀{b:Addr}{u:HO},H b=u->u≠.dK kvs->b≠d:=λhb hu hz=>by
  rw[hz,h]at hb;exact hu (uH hb).symm
 have nn:∀{b:Addr},H b=none->b≠d:=λhb _=>by simp_all
 refine⟨o,I.un ⟨λb _ q _ _ _=>q,λb ob q _ _ _=>⟨ob.slots,q⟩,λb _ q n _=>by rw[upd_ne (nn n)];exact n,λb ob q _=>⟨ob,q⟩,λb _ q=>by rw[upd_ne (ne q (by simp))];exact q,λb _ u q=>by rw[upd_ne (ne q (by simp))];exact q,λb _ q=>⟨#[],by rw[upd_ne (ne q (by simp))];exact q⟩⟩ λb u q=>?_⟩;have stay:∀{b:Addr}{u:HO},B3 _ _ H _ b u->B3 X.prog X.w (upd H d (.frz o (.dK kvs))) s.heap b u:=λx=>x.stay (λ_ _ _ q=>q) (λc hc=>by rw[upd_ne (ne hc (by simp))];exact hc) λc _ hc=>by rw[upd_ne (ne hc (by simp))];exact hc
 by_cases hb:b=d
 .subst hb
  rw[qa]at q;cases q
  exact⟨e,stay hk⟩
 .rw[upd_ne hb]at q
  exact stay (I.hok b u q)
def Ahc(t:TE):TE:=λY H Q=>t Y H λv H1=>∃d kvs,v=.ref d/\H1 d=some (.dK kvs)/\∀o,Q v (upd H1 d (.frz o (.dK kvs)))
def Ql{t:TE}(z:PE X e t):PE X e (Ahc t):=by
 intro pins s Y H Q I h;refine thn (z _ s Y H _ I h) λu _ ⟨v,H1,I1,r1,d,kvs,e,hd,q⟩=>?_
 obtain⟨o,I2⟩:=I1.freeze hd;exact⟨v,_,I2,r1,q o⟩
def T8{k:Key}{v:Value}(h:(mixKind P w).is k v):A2 (kV k) v:=by
 rcases Cr h with⟨i,t,rfl,rfl⟩|⟨x,t,rfl,rfl⟩
 .exact⟨t,Z⟩
 .exact⟨t,Z⟩
def Lu(hc:X.calm):Gm X (.type "list") (λxs H Q=>∃(a:Addr)(kvs:List (Key×V)),xs=[.ref a]/\Rd H a (.dK kvs)/\∀r,H r=none->Q (.ref r) (upd H r (.lst (kvs.map λp=>kV p.1)))):=by
 intro pins s Y H _ _ Q I r h;obtain⟨a,kvs,rfl,ha,q⟩:=h;obtain⟨u,rfl,ru⟩:=r.one;cases ru
 obtain⟨z,hd,vs,a3,dd⟩:=Oh I.hok ha;obtain⟨ep,a4⟩:=dd.dictAt;have a6:=uC a3;refine PySem.W.kdl_call (PySem.W.kdl_dict hd) (I.ok.hd hc) a4 (by omega) λh1 tk a1 c k1 e1 a2=>?_
 have a5:a1.toList.length=vs.length:=by exact a2.1
 have hV:A0 (kvs.map λp=>kV p.1) a1.toList:=by
  refine D9 (by rw[vE,a5];omega) λj x e=>?_
  rw[vJ]at e;cases ej:kvs[j]? with
  |none=>rw[ej]at e;cases e
  |some p=>
   rw[ej]at e;cases e
   have hj:j<a1.toList.length:=by have:=(uA.mp ej).1;omega
   refine⟨a1.toList[j],vD _,?_⟩;obtain⟨k,x,e1,e2⟩:=a2.2 j a1.toList[j] (by simp);obtain⟨y,e4,e5,_⟩:=Bo a3 ej;rw[e1]at e4;cases e4
   show A2 (kV _) _
   rw[show p.1=k from e5];exact T8 e2
 exact⟨.ref s.heap.objs.size,_,I.laid (o:=.lst _) k1 (zB _) ⟨by rw[vE];exact z,a1.toList,c,hV,by rw[e1]⟩,Z,q _ (I.hok.fresh (zB _))⟩
def Itk(d:Addr)(o:Obj)(kvs:List (Key×V)):It:=
 ⟨λi H=>H d=some (.frz o (.dK kvs))/\i<kvs.length,
  λi H v H'=>H'=H/\∃p,kvs[i]?=some p/\v=kV p.1,
  λi H=>H d=some (.frz o (.dK kvs))/\kvs.length<=i⟩
def L1{d:Addr}{o:Obj}{kvs:List (Key×V)}(ok:HOk P w H h)(e:H d=some (.frz o (.dK kvs))):h.get? d=o/\∃vs ep,KV kvs vs/\h.DictAt (mixKind P w) d vs ep/\(d==sysModules)=false/\∃es,o.data=.dict es ep:=by
 obtain⟨e1,z,sm,vs,a1,o',es,ep,e2,r⟩:=(ok d _ e);have:=uH (e2.symm.trans e1);subst this;exact⟨e1,vs,ep,a1,⟨o',es,e2,r⟩,sm,es,r.2.1⟩
def Ua{o:Obj}{es a1:Array DictEntry}{ep z:Nat}(h:o.data=.dict es ep)(h':o.data=.dict a1 z):z=ep:=by
 simp_all
def AbE{tg:Expr}{it d:Addr}{o:Obj}{kvs:List (Key×V)}{ep:Nat}(a7:∃es,o.data=.dict es ep):N5 P w K tg (Itk d o kvs) [it] it (λi h=>h.IsKeyIter it d i kvs.length ep) where
 mem:=by simp
 obj:=λi h st b hb=>by
  cases mS hb
  obtain⟨ob,e,c,dt⟩:=st;exact⟨ob,e,λv z=>by simp_all⟩
 keep:=λi h _ st k=>by
  obtain⟨ob,e,c,dt⟩:=st;exact⟨ob,k _ (by simp) _ e,c,dt⟩
 item:=by
  intro X hP hw hK _ i pins s Y H E I hf st hg;subst hP hw hK;obtain⟨hd,hi⟩:=hg;obtain⟨e1,vs,a4,a1,a3,sm,b4,de⟩:=L1 I.hok hd;obtain⟨es,a5⟩:=a7;have:=Ua a5 de;subst this;have a6:=uC a1;have b3:i<vs.length:=by omega
  obtain⟨⟨k,x⟩,hp⟩:∃p,vs[i]=p:=⟨_,rfl⟩;have hx:vs[i]?=some (k,x):=by rw[vD b3,hp]
  obtain⟨y,e4,e5,_⟩:=Bo a1 (vD _);rw[hx]at e4;cases e4
  rw[a6]at st ⊢;refine wpAny_pyNext_dict_item st a3 hx λa9 h' a8 a2 b2=>?_
  obtain⟨oi,ei,ci,di⟩:=id a2;refine⟨a9,Z,Tx ei ci di (by decide) ?_⟩;have k1:∀b ob,b∉[it]->s.heap.get? b=some ob->h'.get? b=ob:=λb ob hb q=>b2.extBut b _ (λz=>hb (by simp[z])) q
  exact⟨kV k,H,(I.turnedL (t':=s.toks) hf k1 (λ_ _=>rfl) (HOk.turned I.hok (λb hb=>(hf b hb).1) k1)),T8 a8,⟨rfl,_,vD hi,by rw[show(kvs[i]).1=k from e5]⟩,a2,λb hb=>(hf b hb).1⟩
 done:=by
  intro X hP hw hK hc i _ s Y H E I hf st hg;subst hP hw hK;obtain⟨hd,hi⟩:=hg;obtain⟨e1,vs,a4,a1,a3,sm,b4,de⟩:=L1 I.hok hd;obtain⟨es,a5⟩:=a7;have:=Ua a5 de;subst this;have a6:=uC a1;rw[a6]at st;refine wpAny_pyNext_dict_end (I.ok.hd hc) st a3 (getElem?_eq_none (by omega)) λh' b1=>?_
  have k1:∀b ob,b∉[it]->s.heap.get? b=some ob->h'.get? b=ob:=λb ob hb q=>b1 b _ (λz=>hb (by simp[z])) q
  exact⟨Z,I.turnedL hf k1 (λ_ _=>rfl) (HOk.turned I.hok (λb hb=>(hf b hb).1) k1)⟩
 self:=λ_ _ _ _ _ st h=>wpAny_pyIter_keyiter st h
def Agi(te:TE):TI:=λY H R=>te Y H λx H1=>∃d o kvs,x=.ref d/\H1 d=some (.frz o (.dK kvs))/\R (Itk d o kvs) H1
def Aec{tg l:Expr}(hl:PE X l te):PI X tg l (Agi te):=by
 intro pins s Y H R I h;refine thn (hl _ s Y H _ I h) λu s1 ⟨x,H1,z,r1,d,o,kvs,e,hd,q⟩=>?_
 subst e;cases r1
 obtain⟨e1,vs,ep,a2,a1,sm,es,de⟩:=L1 z.hok hd;refine wpAny_pyIter_dict sm a1 ?_;have I2:Inv X _ Y _ {s1 with heap:=s1.heap.push {cls:=.type "dict_keyiterator",data:=.fields #[.ref d,.int 0 0,.int vs.length 0,.int ep 0]} }:=z.kept λb _ q=>uB _ q
 refine⟨_,_,_,_,H1,Z,I2,AbE ⟨es,de⟩,⟨_,uF _ rfl,rfl,by rw[(uC a2)];rfl⟩,λb hb=>?_,q⟩;cases mS hb
 exact z.fpOk (zB _) (z.hok.fresh (zB _))
def Ml:Hp->List (Addr×Key×V)->Hp
 |H,[]=>H
 |H,p::r=>Ml (upd H p.1 (.tup [kV p.2.1,p.2.2])) r
theorem Ps:∀{l:List _}{H:Hp}{b:Addr},b∉l.map (·.1)->Ml H l b=H b
 |[],_,_,_=>rfl
 |p::r,H,b,h=>by
  rw[zT,zM,not_or]at h;show Ml _ r b=_;rw[Ps h.2,upd_ne h.1]
theorem X9:∀{l:List _}{H:Hp}{p:Addr×Key×V},(l.map (·.1)).Nodup->p∈l->Ml H l p.1=some (.tup [kV p.2.1,p.2.2])
 |q::r,H,p,nd,h=>by
  rw[zT,zS]at nd;show Ml _ r _=_;rcases zM.mp h with z|z
  .subst z
   rw[Ps nd.1,qa]
  .exact X9 nd.2 z
inductive Acy(H:Hp)(kvs:List (Key×V))(l:Addr)(ts:List Addr)(H':Hp):Prop
 |mk(g:∀b u,H b=some u->H' b=some u)(fl:H l=none)(el:H' l=some (.lst (ts.map V.ref)))(le:ts.length=kvs.length)(ft:∀t∈ts,H t=none/\t≠l)(nd:ts.Nodup)(et:∀(j:Nat)(t:Addr)(p:Key×V),ts[j]?=some t->kvs[j]?=some p->H' t=some (.tup [kV p.1,p.2]))
def Aea(to:TE):TE:=λY H Q=>to Y H λx H1=>∃a kvs,x=.ref a/\Rd H1 a (.dK kvs)/\∀l ts H2,Acy H1 kvs l ts H2->Q (.ref l) H2
def Jw{to:TE}(hc:X.calm=true)(hg:Gl X "list")(hm:X.mg "list"= none)(ho:PE X o to)
  (a8:attributeBase o "items" X.env (eval o X.env)=eval o X.env:=by rfl) (a9:(ap.endLine==cp.line)=true:=by rfl)
  (h1:starEach [.Call (.Attribute o "items" ap) [] [] cp] X.env=[(false,eval (.Call (.Attribute o "items" ap) [] [] cp) X.env)]:=by rfl) :
  PE X (.Call (.Name "list" p) [.Call (.Attribute o "items" ap) [] [] cp] [] pos) (Aea to):=by
 intro pins s Y H Q I h;refine wpAny_Call_Name_kw (Il I hg hm (show bootBuiltins "list"= some (.type "list") by trivial) ?_ (by decide) (by decide));refine PyProof.Rows.callWith_type1 ?_ h1 rfl;rw[h1];refine Calls.spliced_cons (wpAny_Call_method0_late a8 a9 (thn (ho pins s Y H _ I h) λu s1 ⟨x,H1,I1,r1,a,kvs,e,ha,q⟩=>?_));subst e;cases r1
 obtain⟨z,sm,vs,b4,dd⟩:=Oh I1.hok ha;obtain⟨ep,b3⟩:=dd.dictAt;obtain⟨od,es,b9,b6,c3⟩:=id b3;have c4:=uC b4;refine⟨"dict","dict.items",PySem.F.plainAttrs_dict,PySem.F.slot_dict_items,PySem.F.type_dict_items,dd.typeIs,λb eb=>by cases eb;exact⟨od,b9,b6.2.1⟩,Calls.callWith_builtin rfl (PySem.evalArgs_none ?_)⟩;refine call_meetsIn PySem.F.slot_dict_items dd.typeIs PySem.F.entry_dict_items (PySem.F.args_dict_items_1 _) (meets_dict_items (mixKind X.prog X.w) a sm) ⟨⟨vs,dd⟩,?_⟩;refine Calls.spliced_nil ?_;have vw:(s1.heap.push {cls:=.type "dict_items",data:=.fields #[.ref a]}).IsItemsView s1.heap.objs.size a:=⟨_,uF _ rfl,Z,Z⟩;refine PySem.W.kdx_call (I1.ok.hd hc) vw (b3.push _) (by omega) λh' tk b2 c as k1 e1 hl hG a6=>?_
 have sz:(s1.heap.push {cls:=.type "dict_items",data:=.fields #[.ref a]}).objs.size=s1.heap.objs.size+1:=uV _ _;have kp:=λb ob e=>k1 b ob (uB _ e)
 have a3:∀t∈as,s1.heap.objs.size+1<t:=λt ht=>by have:=hG.above t ht;rw[<-sz];exact this
 have a5:=hG.rise.imp λh=>zF h
 have zl:as.length=kvs.length:=by omega
 have zm:(as.zip kvs).map (·.1)=as:=by rw[List.map_fst_zip (by omega)]
 have fr:∀{b:Addr},s1.heap.objs.size<=b->H1 b=none:=λhb=>I1.hok.fresh hb
 have off:∀{b:Addr}{ob:Obj},s1.heap.get? b=ob->b≠s1.heap.objs.size+1/\b∉as:=λe=>by
  have hb:=uD e;exact⟨zF (lt_succ_of_lt hb),λhm=>absurd (lt_trans (lt_succ_of_lt hb) (a3 _ hm)) (lt_irrefl _)⟩
 have a1:∀{b:Addr}{ub:HO},H1 b=ub->b≠s1.heap.objs.size+1/\b∉as:=λe=>by
  have hb:=I1.hok.lt e;exact⟨zF (lt_succ_of_lt hb),λhm=>absurd (lt_trans (lt_succ_of_lt hb) (a3 _ hm)) (lt_irrefl _)⟩
 have a2:∀{b:Addr},b≠s1.heap.objs.size+1->b∉as->(upd (Ml H1 (as.zip kvs)) (s1.heap.objs.size+1) (.lst (as.map V.ref))) b=H1 b:=λn1 n2=>by
  rw[upd_ne n1,Ps (by rw[zm];exact n2)]
 have a7:∀(j:Nat)(t:Addr)(p:Key×V),as[j]?=t->kvs[j]?=p->(upd (Ml H1 (as.zip kvs)) (s1.heap.objs.size+1) (.lst (as.map V.ref))) t=some (.tup [kV p.1,p.2]):=λj t p hj hp=>by
  have ht:t∈as:=vR hj;have nt:=ne_of_gt (a3 t ht);rw[upd_ne nt];refine X9 (p:=(t,p)) (by rw[zm];exact a5) ?_;refine vR (i:=j) ?_;rw[List.getElem?_zip_eq_some];exact⟨hj,hp⟩
 have b7:HOk X.prog X.w (upd (Ml H1 (as.zip kvs)) (s1.heap.objs.size+1) (.lst (as.map V.ref))) h':=λb ub eb=>by
  by_cases n1:b=s1.heap.objs.size+1
  .subst n1
   rw[qa]at eb;cases eb
   have b1:h'.get? (s1.heap.objs.size+1)=some {cls:=.type "list",dict:=none,data:=.seq b2 c,slots:=#[]}:=by rw[<-sz];exact e1
   refine⟨by rw[vE];omega,b2.toList,c,?_,by rw[b1]⟩;rw[a6];clear a6 e1 b1 hl hG a3 a5 zl zm off a1 a2 a7
   induction as with
   |nil=>exact .nil
   |cons t r ih=>exact .cons rfl ih
  .by_cases n2:b∈as
   .obtain⟨j,hj⟩:=getElem?_of_mem n2
    have b8:j<kvs.length:=by have:=(uA.mp hj).1;omega
    have hp:=vD b8;rw[a7 j b _ hj hp]at eb;cases eb
    obtain⟨b5,k,x,e3,e4,e5⟩:=hG.pairs j b hj;obtain⟨y,e6,e7,e8⟩:=Bo b4 hp;rw[e3]at e6;cases e6
    refine⟨by show 2<=sizeLine;decide,[b5,x],.cons (by rw[show(kvs[j]).1=k from e7];exact T8 e4) (.cons e8 .nil),_,e5,Z,_,Z⟩
   .rw[a2 n1 n2]at eb
    exact(I1.hok b ub eb).stay (λc ob _ e=>kp c ob e) (λc a4=>by obtain⟨m1,m2⟩:=a1 a4;rw[a2 m1 m2];exact a4) λc xs a4=>by obtain⟨m1,m2⟩:=a1 a4;rw[a2 m1 m2];exact a4
 have I2:=I1.un (t':=tk) ⟨λb ob e _ _ _=>kp b ob e,λb ob e _ _ _=>⟨ob.slots,kp b ob e⟩,λb ob e n _=>by obtain⟨m1,m2⟩:=off e;rw[a2 m1 m2];exact n,λb ob e _=>⟨ob,kp b ob e⟩,λb xs e=>by obtain⟨m1,m2⟩:=a1 e;rw[a2 m1 m2];exact e,λb ob ux e=>by obtain⟨m1,m2⟩:=a1 e;rw[a2 m1 m2];exact e,λb ps e=>⟨#[],by obtain⟨m1,m2⟩:=a1 e;rw[a2 m1 m2];exact e⟩⟩ b7;refine⟨.ref (s1.heap.objs.size+1),_,I2,by rw[sz];rfl,q _ as _ ⟨λb ub e=>by obtain⟨m1,m2⟩:=a1 e;rw[a2 m1 m2];exact e,fr (le_succ _),qa,zl,λt ht=>⟨fr (le_of_lt (Nat.lt_of_succ_lt (a3 t ht))),ne_of_gt (a3 t ht)⟩,a5,a7⟩⟩
abbrev ItO(h:Heap)(it d:Addr)(i n ep:Nat)(c0 c1 ok ov:Value):Prop:=
 h.get? it=some {cls:=.type "dict_itemiterator",dict:=none,data:=.fields #[c0,c1,.ref d,.int i 0,.int n 0,.int ep 0,ok,ov],slots:=#[]}
def Ahn{s:Shared}{Q:Option Obj->Shared->Prop}(ha:s.heap.get? a=none)(h:Q none s):wpAny (model P w) A (loadIfAlive a) Q E s:=by
 have q:Q (s.heap.get? a) s:=by rw[ha];exact h
 exact λ_ _ _=>q
def Aco{κ:Type} [DecidableEq κ] {knd:KeyKind P w κ} {f:Bool} {i ep:Nat} {vs:List (κ×Value)} {k:κ} {x:Value} {Q:Option Value->Shared->Prop}
  (a1:KdxIt s.heap it d i vs.length ep ok ov a f) (b3:s.heap.DictAt knd d vs ep) (hx:vs[i]?=some (k,x))
  (hQ:∀a5 h',knd.is k a5=true->(∃a4 a3 a' f',KdxIt h' it d (i+1) vs.length ep a4 a3 a' f')->h'.get? s.heap.objs.size=some {cls:=.type "tuple",data:=.seq #[a5,x]} ->
   (∀b o,b≠it->s.heap.get? b=some o->h'.get? b=some o)->Q (some (.ref s.heap.objs.size)) {s with heap:=h' }) :
  wpAny (model P w) A (pyNext (.ref it)) Q E s:=by
 obtain⟨hp,gn,dr,tk,os⟩:=s;obtain⟨od,es,b2,_,a9,_,a8,_⟩:=id b3;have ty:Shared.TypeIs ⟨hp,gn,dr,tk,os⟩ (.ref it) "dict_itemiterator":=⟨_,a1,Z⟩;have b1:es.size=vs.length:=by rw[<-a8.length];simp
 have il:i<es.size:=by rw[b1];exact(uA.mp hx).1
 obtain⟨ky,vl⟩:=a8.get? (e:=es[i]) (by simp[il]) hx;have b5:it<hp.objs.size:=uD a1;refine vB (wpAny_attempt (wpAny_callSpecial?_slot (name:=Str.ofString "__next__") ty PySem.F.slot_dict_itemiterator_next (wpAny_call_entry PySem.F.slot_dict_itemiterator_next ty PySem.F.entry_dict_itemiterator_next ?_ (PySem.F.args_dict_itemiterator_next_1 _))));refine vB (vC (vB (vB (vB (wpAny_typeNameOfWhole_itemiter ty (vC ?_))))));refine vB (wpAny_fieldsOf a1 rfl ?_);show wpAny _ _ (if (Value.ref d==Value.none)=true then _ else _) _ _ (⟨hp,gn,dr,tk,os⟩:Shared);refine vB (vC (vB (wpAny_dictEntries b2 a9 ?_)));rw[if_neg (by rw[b1];simp)];refine vB (vC (vB (wpAny_dictEpoch b2 a9 ?_)));rw[if_neg (by simp)];refine vC ?_;simp only[show ¬(i:Int)<0 by omega,if_false,uI,uP il];refine vB (vB (wpAny_typeNameOfWhole_itemiter ty (vC (vB (wpAny_isOneOf_itemiter ty ?_)))));show wpAny _ _ (setField (.ref it) 3 (rawInt ((i:Int)+1))>>=_) _ _ (⟨hp,gn,dr,tk,os⟩:Shared);refine vB (wpAny_setField_rec a1 (by simp) λk1 e1 s1=>?_)
 have e1:KdxIt k1 it d (i+1) vs.length ep ok ov a f:=by
  unfold KdxIt
  simpa [rawInt] using e1
 have a6:Shared.TypeIs ⟨k1,gn,dr,tk,os⟩ (.ref it) "dict_itemiterator":=⟨_,e1,Z⟩;refine vB (zX (vB (wpAny_isOneOf_itemiter a6 (vB (wpAny_isOneOf_itemiter a6 ?_)))));refine vB (wpAny_newTuple ?_);have z1:k1.objs.size=hp.objs.size:=s1.1;have e2:KdxIt (k1.push {cls:=.type "tuple",data:=.seq #[es[i].key,es[i].val]}) it d (i+1) vs.length ep ok ov a f:=uB _ e1;have t2:(k1.push {cls:=.type "tuple",data:=.seq #[es[i].key,es[i].val]}).get? hp.objs.size=some {cls:=.type "tuple",data:=.seq #[es[i].key,es[i].val]}:=by rw[<-z1];exact uF _ rfl
 have a7:∀b o,b≠it->hp.get? b=some o->(k1.push {cls:=.type "tuple",data:=.seq #[es[i].key,es[i].val]}).get? b=o:=λb o hb e=>uB _ (s1.extBut b o hb e)
 have b4:hp.objs.size≠it:=ne_of_gt b5;rw[z1];generalize k1.push {cls:=.type "tuple",data:=.seq #[es[i].key,es[i].val]}=k2 at e2 t2 a7 ⊢
 have a2:∀k3:Heap,(∃a4 a3 a' f',KdxIt k3 it d (i+1) vs.length ep a4 a3 a' f')->Heap.SameBut it k2 k3->Q (some (.ref hp.objs.size)) ⟨k3,gn,dr,tk,os⟩:=λk3 e3 s3=>
  hQ es[i].key k3 ky e3 (by rw[<-vl];exact s3.extBut _ _ b4 t2) λb o hb e=>s3.extBut b o hb (a7 b o hb e)
 refine vB ?_;refine vB (wpAny_field e2 rfl (x:=rawInt a) rfl ?_);show wpAny _ _ (loadIfAlive (a:Int).toNat>>=_) _ _ (⟨k2,gn,dr,tk,os⟩:Shared);cases hk:k2.get? a with
 |none=>
  refine vB (Ahn hk ?_);refine vC ?_;refine vB (wpAny_field e2 rfl (x:=ok) rfl (vB (wpAny_field e2 rfl (x:=ov) rfl ?_)));refine vB (wpAny_setField_rec e2 (by simp) λk3 e3 s3=>?_);refine vB (wpAny_setField_rec e3 (by simp) λk4 e4 s4=>?_);refine vB (wpAny_setField_rec e4 (by simp) λk5 e5 s5=>?_);refine vB (wpAny_setField_rec e5 (by simp) λk6 e6 s6=>?_);refine vB (wpAny_letGo (vC (vC ⟨_,Z,vC (a2 k6 ⟨_,_,_,_,e6⟩ (((s3.trans s4).trans s5).trans s6))⟩)))
 |some oa=>
  refine vB (PySem.W.kdx_alive hk ?_);refine vB (wpAny_field e2 rfl (x:=.bool f) rfl ?_);cases f with
  |true=>
   refine vC ?_;exact vC (vC ⟨_,Z,vC (a2 k2 ⟨_,_,_,_,e2⟩ (Heap.SameBut.refl _ _))⟩)
  |false=>
   refine vB (wpAny_setField_rec e2 (by simp) λk3 e3 s3=>vC ?_);have e3:KdxIt k3 it d (i+1) vs.length ep ok ov a true:=e3;simp only[Bool.false_eq_true,if_false];exact vC (vC ⟨_,Z,vC (a2 k3 ⟨_,_,_,_,e3⟩ s3)⟩)
def Iti(d:Addr)(o:Obj)(kvs:List (Key×V)):It:=
 ⟨λi H=>H d=some (.frz o (.dK kvs))/\i<kvs.length,
  λi H v H'=>∃T p,v=.ref T/\H T=none/\kvs[i]?=some p/\H'=upd H T (.tup [kV p.1,p.2]),
  λi H=>H d=some (.frz o (.dK kvs))/\kvs.length<=i⟩
def TnI(it d:Addr)(n ep:Nat)(i:Nat)(h:Heap):Prop:=(∃ok ov,IsItemIter h it d i n ep ok ov)\/∃ok ov a f,KdxIt h it d i n ep ok ov a f
def TnI.at{it d:Addr}{ep i:Nat}(x:TnI it d n ep i h):∃c0 c1 ok z,ItO h it d i n ep c0 c1 ok z:=by
 rcases x with⟨ok,z,e⟩|⟨ok,z,a,f,e⟩
 .exact⟨_,_,ok,z,e⟩
 .exact⟨_,_,ok,z,e⟩
def Zy{np:Pos}{it d:Addr}{o:Obj}{kvs:List (Key×V)}{ep:Nat}(b1:∃es,o.data=.dict es ep):N5 P w K (.Name x np) (Iti d o kvs) [it] it (TnI it d kvs.length ep) where
 mem:=by simp
 obj:=λi h st b hb=>by
  cases mS hb
  obtain⟨c0,c1,ok,ov,e⟩:=st.at;exact⟨_,e,λv z=>nomatch z⟩
 keep:=λi h _ st k=>by
  rcases st with⟨ok,ov,e⟩|⟨ok,ov,a,f,e⟩
  .exact .inl ⟨ok,ov,k _ (by simp) _ e⟩
  .exact .inr ⟨ok,ov,a,f,k _ (by simp) _ e⟩
 item:=by
  intro X hP hw hK _ i pins s Y H E I hf st hg;subst hP hw hK;obtain⟨hd,hi⟩:=hg;obtain⟨e1,vs,a5,a7,a4,sm,b5,de⟩:=L1 I.hok hd;obtain⟨es,a8⟩:=b1;have:=Ua a8 de;subst this;have a3:=uC a7;have b4:i<vs.length:=by omega
  obtain⟨⟨k,y⟩,hp⟩:∃p,vs[i]=p:=⟨_,rfl⟩;have hx:vs[i]?=some (k,y):=by rw[vD b4,hp]
  obtain⟨z,e4,e5,e6⟩:=Bo a7 (vD _);rw[hx]at e4;cases e4
  have b7:it<s.heap.objs.size:=by obtain⟨_,_,_,_,e⟩:=st.at;exact uD e
  have go:∀a1(h':Heap),(mixKind X.prog X.w).is k a1=true->TnI it d kvs.length a5 (i+1) h'->h'.get? s.heap.objs.size=some {cls:=.type "tuple",data:=.seq #[a1,y]}->(∀b ob,b≠it->s.heap.get? b=some ob->h'.get? b=ob) ->
    ∃u,some (Value.ref s.heap.objs.size)=some u/\wpAny (model X.prog X.w) X.A (letOwnedTupleGo (.Name x np) (.ref it) u) (λ_ s2=>∃x H',Inv X pins Y H' s2/\A2 x u/\(Iti d o kvs).yld i H x H'/\TnI it d kvs.length a5 (i+1) s2.heap/\∀b∈[it],H' b=none) E {s with heap:=h' }:=by
   intro a1 h' a2 b2 tT kp;refine⟨_,Z,vC ?_⟩;have k1:∀b ob,b∉[it]->s.heap.get? b=some ob->h'.get? b=ob:=λb ob hb q=>kp b _ (λz=>hb (by simp[z])) q
   have hn:=I.hok.fresh (zB _);have hok:HOk _ _ (upd H _ (.tup [kV (kvs[i]).1,(kvs[i]).2])) _:=HOk.turnedNew I.hok (λb hb=>(hf b hb).1) k1 (zB _) ⟨zN2,[a1,y],.cons (by rw[show(kvs[i]).1=k from e5];exact T8 a2) (.cons e6 .nil),_,tT,Z,_,Z⟩;have I1:=I.turnedL (t':=s.toks) hf k1 (λb hb=>upd_ne (zF hb)) hok;refine⟨.ref s.heap.objs.size,_,I1,Z,⟨_,_,rfl,hn,vD _,rfl⟩,b2,λb hb=>?_⟩;cases mS hb
   rw[upd_ne (zF b7)];exact(hf _ (by simp)).1
  rcases st with⟨ok,ov,e⟩|⟨ok,ov,a,f,e⟩
  .rw[a3]at e
   refine wpAny_pyNext_items_item e a4 hx λa1 h' a2 a6 tT _ kp=>go a1 h' a2 (.inr ⟨a1,y,_,false,by rw[a3];exact a6⟩) tT kp
  .rw[a3]at e
   refine Aco e a4 hx λa1 h' a2 ⟨b3,b6,a',f',a6⟩ tT kp=>go a1 h' a2 (.inr ⟨b3,b6,a',f',by rw[a3];exact a6⟩) tT kp
 done:=by
  intro X hP hw hK hc i pins s Y H E I hf st hg;subst hP hw hK;obtain⟨hd,hi⟩:=hg;obtain⟨e1,vs,a5,a7,a4,sm,b5,de⟩:=L1 I.hok hd;obtain⟨es,a8⟩:=b1;have:a5=ep:=Ua a8 de;subst this;have a3:=uC a7
  have a9:∀h',Heap.ExtBut it s.heap h'->(none:Option Value)=none/\Inv X pins Y H {s with heap:=h' }:=λh' b8=>by
   have k1:∀b ob,b∉[it]->s.heap.get? b=some ob->h'.get? b=ob:=λb ob hb q=>b8 b ob (λz=>hb (by simp[z])) q
   exact⟨Z,I.turnedL (t':=s.toks) hf k1 (λ_ _=>rfl) (HOk.turned (s:=s) I.hok (λb hb=>(hf b hb).1) k1)⟩
  rcases st with⟨ok,ov,e⟩|⟨ok,ov,a,f,e⟩
  .rw[a3]at e
   exact wpAny_pyNext_items_end (I.ok.hd hc) e a4 (getElem?_eq_none (by omega)) a9
  .rw[a3]at e
   exact PySem.W.kdx_end_out (I.ok.hd hc) e a4 (getElem?_eq_none (by omega)) a9
 self:=λ_ _ _ _ _ st h=>by
  obtain⟨c0,c1,ok,ov,e⟩:=st.at;refine wpAny_pyIter_slot (T:="dict_itemiterator") ⟨_,e,Z⟩ PySem.F.slot_dict_itemiterator_iter (wpAny_call_entry PySem.F.slot_dict_itemiterator_iter ⟨_,e,Z⟩ PySem.W.kcp_entry ?_ (PySem.F.args_dict_itemiterator_iter_1 _));exact vC ⟨_,Z,"dict_itemiterator",_,⟨_,e,Z⟩,PySem.F.slot_dict_itemiterator_next.lookup,h⟩
def AfF(to:TE):TI:=λY H R=>to Y H λx H1=>∃d o kvs,x=.ref d/\H1 d=some (.frz o (.dK kvs))/\R (Iti d o kvs) H1
def P0{to:TE}(ho:PE X o to)(a2:attributeBase o "items" X.env (eval o X.env)=eval o X.env:=by rfl)(a1:(ap.endLine==cp.line)=true:=by rfl) :
  PI X (.Name x np) (.Call (.Attribute o "items" ap) [] [] cp) (AfF to):=by
 intro pins s Y H R I h;refine wpAny_Call_method0_late a2 a1 (thn (ho pins s Y H _ I h) λu s1 ⟨y,H1,I1,r1,d,ob,kvs,e,hd,q⟩=>?_);subst e;cases r1
 obtain⟨e1,vs,ep,a4,z,sm,es,de⟩:=L1 I1.hok hd;obtain⟨od,a8,a6,a3,a7⟩:=id z;have dd:=z.dictOf;refine⟨"dict","dict.items",PySem.F.plainAttrs_dict,PySem.F.slot_dict_items,PySem.F.type_dict_items,dd.typeIs,λb eb=>by cases eb;exact⟨od,a6,a3.2.1⟩,Calls.callWith_builtin rfl (PySem.evalArgs_none ?_)⟩;refine call_meetsIn PySem.F.slot_dict_items dd.typeIs PySem.F.entry_dict_items (PySem.F.args_dict_items_1 _) (meets_dict_items (mixKind X.prog X.w) d sm) ⟨⟨vs,dd⟩,?_⟩;refine wpAny_pyIter_items ⟨_,uF _ rfl,Z,Z⟩ (z.push _) ?_;have kp:∀b oo,s1.heap.get? b=some oo->((s1.heap.push {cls:=.type "dict_items",data:=.fields #[.ref d]}).push {cls:=.type "dict_itemiterator",data:=.fields #[.none,.bool false,.ref d,.int 0 0,.int vs.length 0,.int ep 0,.none,.none]}).get? b=oo:=λb oo e=>uB _ (uB _ e)
 have sz:(s1.heap.push {cls:=.type "dict_items",data:=.fields #[.ref d]}).objs.size=s1.heap.objs.size+1:=uV _ _;have le:s1.heap.objs.size<=(s1.heap.push {cls:=.type "dict_items",data:=.fields #[.ref d]}).objs.size:=by rw[sz];exact le_succ _
 refine⟨_,_,_,_,H1,Z,(I1.kept kp),Zy ⟨es,de⟩,.inl ⟨.none,.none,?_⟩,λb hb=>?_,q⟩
 .rw[(uC a4)];exact uF _ rfl
 .cases mS hb
  exact I1.fpOk le (I1.hok.fresh le)
def Al{o:Expr}{m:Str}{j:Nat}{E:XK}{t:TA}{pl:Sem Bool}(M:A4 X.prog X.w X.K X.mg X.base j C m ps sp)(hr:Cj k X.A)(hx:G4 CX0 X E)(he:PE X o ta)(ha:PA X (e::es) t)(hj:j<=k:=by first|decide|omega)
  (a1:starEach (e::es) X.env=(false,eval e X.env)::starEach es X.env:=by rfl) (z:(backTo pos (starEach es X.env)).any (·.1)=false:=by rfl)
  (ht:eval (.Call (.Attribute o m apos) (e::es) [] pos) X.env=(do
   let ov <-eval o X.env
   standAt apos.atName
   let (f,first) <-holding [ov] (getMethod ov m pl)
   callWith pos f first (backTo pos (starEach (e::es) X.env)) (backToKw pos (keywordEach [] X.env))):=by rfl):PE X (.Call (.Attribute o m apos) (e::es) [] pos) (Qq C m sp [] E ta t):=by
 obtain⟨f,fd,F,b,me,c⟩:=M;exact AeT he c me (F.mono hj) hr b .nil hx ha a1 z ht
section
variable{κ:Type} [DecidableEq κ] {knd:PySem.KeyKind prog w κ}
variable{s:Shared}
end
section
variable{s:Shared}
end
end L2
namespace My
open PySem L2
def top(i:Nat):Stmt:=PySem.Challenge.pw_signalwise_k46_whole_net_instant.main.body.getD i (.Pass ⟨0,0,0,0⟩)
abbrev En:Stmt:=top 42
def Fd:Ak ["part","there","word","first","inner"] ["part","there"] (Af En):=Ay (by trivial)
abbrev Dr:Stmt:=top 44
def G3:Ak ["part","sent"] ["part"] (Af Dr):=Ay (by trivial)
abbrev E1:Stmt:=top 47
def M7:Ak ["first","second"] ["first","second"] (Af E1):=Ay (by trivial)
abbrev De:Stmt:=top 49
def Ei:Ak ["first","second","code","left"] ["first","second"] (Af De):=Ay (by trivial)
abbrev Cz:Stmt:=top 54
def Em:Ak ["part","sure","known","word","first","inner"] ["part","sure","known"] (Af Cz):=Ay (by trivial)
abbrev D8:Stmt:=top 56
def Fk:Ak ["part","sure","can","must"] ["part","sure"] (Af D8):=Ay (by trivial)
abbrev Dw:Stmt:=top 58
def Gc:Ak ["first","second","going_past","codes"] ["first","second"] (Af Dw):=Ay (by trivial)
abbrev Cm:Stmt:=top 60
def Ev:Ak ["first","second","least","codes"] ["first","second"] (Af Cm):=Ay (by trivial)
abbrev Jl:Stmt:=top 4
def W0:Ak ["part"] ["part"] (Af Jl):=Ay (by trivial)
abbrev F3:Stmt:=top 5
def Px:Ak ["code"] ["code"] (Af F3):=Ay (by trivial)
abbrev Gu:Stmt:=top 6
def Qf:Ak ["code"] ["code"] (Af Gu):=Ay (by trivial)
abbrev Fu:Stmt:=top 8
def Rg:Ak ["part"] ["part"] (Af Fu):=Ay (by trivial)
abbrev Ir:Stmt:=top 9
def G8:Ak ["part","found","waiting","here"] ["part"] (Af Ir):=Ay (by trivial)
abbrev Iw:Stmt:=top 11
def Xj:Ak ["part"] ["part"] (Af Iw):=Ay (by trivial)
abbrev K2:Stmt:=top 16
def Gd:Ak ["program","wiring","body","sign","senders","ends","nexts"] ["program"] (Af K2):=Ay (by trivial)
abbrev G6:Stmt:=top 17
def Hr:Ak ["wiring","part","whole","inner","piece"] ["wiring","part"] (Af G6):=Ay (by trivial)
abbrev Jj:Stmt:=top 18
def Vm:Ak ["wiring","part","whole"] ["wiring","part","whole"] (Af Jj):=Ay (by trivial)
abbrev Jn:Stmt:=top 19
def Nc:Ak ["wiring","rest","whole","begun"] ["wiring","rest","whole"] (Af Jn):=Ay (by trivial)
abbrev Gv:Stmt:=top 20
def Hz:Ak ["wiring","rest","whole","memory","comes","coming","staying"] ["wiring","rest","whole","memory","comes"] (Af Gv):=Ay (by trivial)
abbrev Ji:Stmt:=top 21
def Kx:Ak ["wiring","part","whole","first","second","kept","inner"] ["wiring","part","whole","first","second"] (Af Ji):=Ay (by trivial)
abbrev G7:Stmt:=top 22
def Kq:Ak ["wiring","whole","first","second","going_on","going_past"] ["wiring","whole","first","second"] (Af G7):=Ay (by trivial)
abbrev Le:Stmt:=top 23
def Ih:Ak ["wiring","sign","whole","first","second","begun","inner","asked","going_on"] ["wiring","sign","whole","first","second"] (Af Le):=Ay (by trivial)
abbrev Hg:Stmt:=top 24
def Ec:Ak ["wiring","whole","first","second","sides","inner","other","idle","ended"] ["wiring","whole","first","second"] (Af Hg):=Ay (by trivial)
abbrev Ds:Stmt:=top 25
def Di:Ak ["wiring","sides","codes","code","here","needed","side"] ["wiring","sides"] (Af Ds):=Ay (by trivial)
abbrev Gi:Stmt:=top 26
def Tv:Ak ["wiring","part","whole","inner"] ["wiring","part","whole","inner"] (Af Gi):=Ay (by trivial)
abbrev Gf:Stmt:=top 27
def M5:Ak ["wiring","rest","whole","inner","memory"] ["wiring","rest","whole","inner"] (Af Gf):=Ay (by trivial)
abbrev F5:Stmt:=top 28
def Dh:Ak ["wiring","part","whole","inner","sign","skips","goes","held","code"] ["wiring","part","whole","inner"] (Af F5):=Ay (by trivial)
abbrev Jk:Stmt:=top 29
def Wp:Ak ["wiring","whole","code"] ["wiring","whole","code"] (Af Jk):=Ay (by trivial)
abbrev F7:Stmt:=top 34
def O6:Ak ["part","state"] ["part","state"] (Af F7):=Ay (by trivial)
abbrev F6:Stmt:=top 35
def K1:Ak ["program","state","found"] ["program","state"] (Af F6):=Ay (by trivial)
abbrev G5:Stmt:=top 36
def Ig:Ak ["part","state","first","second","inner"] ["part","state"] (Af G5):=Ay (by trivial)
abbrev Gr:Stmt:=top 37
def Qa:Ak ["part","first","second"] ["part","first","second"] (Af Gr):=Ay (by trivial)
abbrev F4:Stmt:=top 38
def Ku:Ak ["part","inner","skipped"] ["part","inner"] (Af F4):=Ay (by trivial)
abbrev Ub:Stmt:=top 40
def AbO:Ak ["part","state","there","ending"] ["part","state","there"] (Af Ub):=Ay (by trivial)
abbrev La:Stmt:=top 41
def Qo:Ak ["program","state","there","body"] ["program","state","there"] (Af La):=Ay (by trivial)
abbrev Iv:Stmt:=top 46
def Tu:Ak ["part"] ["part"] (Af Iv):=Ay (by trivial)
abbrev Ke:Stmt:=top 51
def O0:Ak ["rest","inner","left"] ["rest","inner"] (Af Ke):=Ay (by trivial)
abbrev Mz:Stmt:=top 53
def Sz:Ak ["part","state","sure","known","ending"] ["part","state","sure","known"] (Af Mz):=Ay (by trivial)
abbrev M4:Stmt:=top 62
def Aa6:Ak ["first","second"] ["first","second"] (Af M4):=Ay (by trivial)
abbrev Lb:Stmt:=top 63
def Z4:Ak ["inner","codes"] ["inner","codes"] (Af Lb):=Ay (by trivial)
abbrev M3:Stmt:=top 65
def Gb:Ak ["program","state","coming","body","known","told","changes"] ["program","state","coming"] (Af M3):=Ay (by trivial)
abbrev K9:Stmt:=top 66
def Ka:Ak ["program","state","coming","known","changes"] ["program","state","coming"] (Af K9):=Ay (by trivial)
abbrev Ep:Stmt:=top 67
def Ox:Ak ["value","known"] ["value","known"] (Af Ep):=Ay (by trivial)
abbrev Eo:Stmt:=top 68
def Oy:Ak ["program","coming"] ["program","coming"] (Af Eo):=Ay (by trivial)
abbrev Gx:Stmt:=top 69
def Ht:Ak ["known","changes","behind","change"] ["known","changes"] (Af Gx):=Ay (by trivial)
abbrev Gj:Stmt:=top 70
def Dt:Ak ["body","known","must","can","walk","waiting"] ["body","known"] (Af Gj):=Ay (by trivial)
abbrev Iu:Stmt:=top 72
def Tw:Ak ["_law_cell"] ["_law_cell"] (Af Iu):=Ay (by trivial)
abbrev Ld:Stmt:=top 73
def Z6:Ak ["_law_script","_law_k"] ["_law_script","_law_k"] (Af Ld):=Ay (by trivial)
abbrev Jh:Stmt:=top 74
def Nb:Ak ["_law_seed","_law_signs","_law_lot"] ["_law_seed","_law_signs"] (Af Jh):=Ay (by trivial)
abbrev Fx:Stmt:=top 75
def Ny:Ak ["_law_part","_law_inner"] ["_law_part"] (Af Fx):=Ay (by trivial)
abbrev Iq:Stmt:=top 76
def Fs:Ak ["_law_stack","_law_seed","_law_signs","_law_lot","_law_sign","_law_one","_law_other"] ["_law_stack","_law_seed","_law_signs"] (Af Iq):=Ay (by trivial)
abbrev Jg:Stmt:=top 77
def Fm:Ak ["_law_cells","_law_signs","_law_stack","_law_cell","_law_seed","_law_one","_law_other"] ["_law_cells","_law_signs"] (Af Jg):=Ay (by trivial)
abbrev E2:Stmt:=top 78
def Bk:Ak ["_law_part","_law_k","_law_word","_law_one","_law_other"] ["_law_part","_law_k"] (Af E2):=Ay (by trivial)
abbrev Gs:Stmt:=top 79
def Ct:Ak ["_law_script","_law_most","_law_seed","_law_came","_law_outs","_law_signs","_law_body_here","_law_many"] ["_law_script","_law_most"] (Af Gs):=Ay (by trivial)
abbrev Fv:Stmt:=top 80
def Lv:Ak ["_law_cell","_law_came","_law_seed"] ["_law_cell","_law_came"] (Af Fv):=Ay (by trivial)
abbrev Gg:Stmt:=top 81
def Hf:Ak ["_law_gate","_law_state","_law_coming_here","_law_known","_law_word","_law_numbers","_law_ahead"] ["_law_gate","_law_state","_law_coming_here","_law_known"] (Af Gg):=Ay (by trivial)
abbrev Gh:Stmt:=top 82
def Ey:Ak ["_law_net","_law_state","_law_coming_here","_law_known","_law_changed","_law_number"] ["_law_net","_law_state","_law_coming_here"] (Af Gh):=Ay (by trivial)
abbrev Jm:Stmt:=top 83
def Dq:Ak ["_law_script","_law_program_here","_law_rests","_law_net","_law_state","_law_cell","_law_coming_here","_law_due","_law_seed","_law_some","_law_known","_law_code","_law_sent","_law_behind"] ["_law_script"] (Af Jm):=Ay (by trivial)
abbrev Ae3:Stmt:=top 13
abbrev Fr:Stmt:=top 14
structure Txt(mg:Str->Option Value):Prop where
 n_enumerate:mg "enumerate"= none
 n_int:mg "int"= none
 n_isinstance:mg "isinstance"= none
 n_len:mg "len"= none
 n_list:mg "list"= none
 n_max:mg "max"= none
 n_min:mg "min"= none
 n_range:mg "range"= none
 n_set:mg "set"= none
 n_sorted:mg "sorted"= none
 n_tuple:mg "tuple"= none
section
variable{a b c:Expr}{pos':Pos}{tc:TE}{t:TA}{i:Int}{j l:Nat}{f:Str}
def pix(h:PE X a ta):PE X (.Subscript a (.Constant (.int i) j pos') pos) (tOp (E3 X.K) ta (tC (.int i))):=B7 Lr h Am λ_ _=>rfl
def pil(h:PE X a ta):PE X (.Subscript a (.Constant (.int i) j pos') pos) (tOp (Ri X.K) ta (tC (.int i))):=B7 B0 h Am λ_ _=>rfl
def pcl(C:Ae X.prog X.w X.K X.mg X.base j x ps sp)(ha:PA X (e::es) t)(hr:Cj k X.A:=by assumption)(hg:Gl X x:=by rfl)(hj:j<=k:=by first|decide|omega)(a1:(x==("__debug__": Str))=false:=by decide)(he:starEach (e::es) X.env=(false,eval e X.env)::starEach es X.env:=by rfl)(z:(backTo pos (starEach es X.env)).any (·.1)=false:=by rfl):PE X (.Call (.Name x pos') (e::es) [] pos) (Hy sp [] E0 t):=U0 C hr hg Ax ha hj a1 he z
def pst(l:Nat)(hN:X.N.Nodup)(he:PE X e te)(hi:X.N[l]?=some x:=by rfl)(z:Loc X.env.scope x:=by first|exact .inl rfl|exact .inr rfl)(hs:swapsWith e (some (.Name x pos')) pos.line X.env=pure false:=by rfl)(hf:X.fn x=true\/X.env.scope.names.lookup x=some .local:=by first|exact .inl rfl|exact .inr rfl|assumption):PS X (.Assign [.Name x pos'] e pos) (Rm te (Bn l)):=Q4 hN hi z he hs hf
def pfd(he:PE X e ta)(z:attributeBase e f X.env (eval e X.env)=eval e X.env:=by rfl):PE X (.Attribute e f pos) (AdC X.K ta f):=AgO he z
def pce(ha:PE X a ta)(z:PE X b tb):PT X (.Compare a [.Eq] [b] pos) (Ff (tOp rEq ta tb)):=Bg T7 ha z (B4 _)
def pcn(ha:PE X a ta)(z:PE X b tb):PT X (.Compare a [.NotEq] [b] pos) (Ff (tOp rNe ta tb)):=Bg Agn ha z (B4 _)
def pa1(h:PE X a ta)(hs:starEach [a] X.env=(false,eval a X.env)::starEach [] X.env:=by rfl):PA X [a] (Bl ta Cs):=Ba h Bm hs
def pa2(h:PE X a ta)(h':PE X b tb)(hs:starEach [a,b] X.env=(false,eval a X.env)::starEach [b] X.env:=by rfl)(z:starEach [b] X.env=(false,eval b X.env)::starEach [] X.env:=by rfl):PA X [a,b] (Bl ta (Bl tb Cs)):=Ba h (pa1 h' z) hs
def pa3(h:PE X a ta)(h':PE X b tb)(h2:PE X c tc)(hs:starEach [a,b,c] X.env=(false,eval a X.env)::starEach [b,c] X.env:=by rfl)(z:starEach [b,c] X.env=(false,eval b X.env)::starEach [c] X.env:=by rfl)(h3:starEach [c] X.env=(false,eval c X.env)::starEach [] X.env:=by rfl):PA X [a,b,c] (Bl ta (Bl tb (Bl tc Cs))):=Ba h (pa2 h' h2 z h3) hs
end
def g2i{w:Str}{k:Int}{t:Addr}(h:PAt K H (.t [.s w,.i k]) (.ref t)):Ez K H t [.str w,.int k]:=by
 obtain⟨a,vs,e,hs,z⟩:=PAt.get h;cases e
 obtain⟨x0,x1,rfl,h0,h1⟩:=z.two;cases h0.str
 cases h1.int
 exact hs
def g2{w:Str}{p:Nd}{t:Addr}(h:PAt K H (.t [.s w,p]) (.ref t)):∃x1,Ez K H t [.str w,x1]/\PAt K H p x1:=by
 obtain⟨a,vs,e,hs,z⟩:=PAt.get h;cases e
 obtain⟨x0,x1,rfl,h0,h1⟩:=z.two;cases h0.str
 exact⟨x1,hs,h1⟩
def g3{w:Str}{p q:Nd}{t:Addr}(h:PAt K H (.t [.s w,p,q]) (.ref t)):∃x1 x2,Ez K H t [.str w,x1,x2]/\PAt K H p x1/\PAt K H q x2:=by
 obtain⟨a,vs,e,hs,z⟩:=PAt.get h;cases e
 obtain⟨x0,x1,x2,rfl,h0,h1,h2⟩:=z.three;cases h0.str
 exact⟨x1,x2,hs,h1,h2⟩
def g3i{w:Str}{k:Int}{q:Nd}{t:Addr}(h:PAt K H (.t [.s w,.i k,q]) (.ref t)):∃x2,Ez K H t [.str w,.int k,x2]/\PAt K H q x2:=by
 obtain⟨x1,x2,hs,h1,h2⟩:=g3 h;cases h1.int
 exact⟨x2,hs,h2⟩
def g4i{w:Str}{k:Int}{p q:Nd}{t:Addr}(h:PAt K H (.t [.s w,.i k,p,q]) (.ref t)):∃x2 z,Ez K H t [.str w,.int k,x2,z]/\PAt K H p x2/\PAt K H q z:=by
 obtain⟨a,vs,e,hs,hx⟩:=PAt.get h;cases e
 obtain⟨x0,x1,x2,z,rfl,h0,h1,h2,h3⟩:=hx.four;cases h0.str
 cases h1.int
 exact⟨x2,z,hs,h2,h3⟩
def Ga{xs:List Nd}{v:V}(h:PAt K H (.t xs) v):∃a,v=.ref a:=by
 obtain⟨a,_,e,_⟩:=PAt.get h;exact⟨a,e⟩
inductive Pt where
 |nothing
 |rest (k:Int)
 |send (s:Int)
 |exit (d:Int)
 |stay (ks:List Int)
 |iff (s:Int) (p q:Pt)
 |again (k:Int) (p:Pt)
 |hold (s:Int) (p:Pt)
 |watch (s:Int) (p:Pt)
 |trap (p:Pt)
 |thn (p q:Pt)
 |bes (p q:Pt)
def Pt.nd:Pt->Nd
 |.nothing=>.t [.s "nothing"]
 |.rest k=>.t [.s "rest",.i k]
 |.send s=>.t [.s "send",.i s]
 |.exit d=>.t [.s "exit",.i d]
 |.stay ks=>.t [.s "stay",.t (ks.map Nd.i)]
 |.iff s p q=>.t [.s "if",.i s,p.nd,q.nd]
 |.again k p=>.t [.s "again",.i k,p.nd]
 |.hold s p=>.t [.s "hold",.i s,p.nd]
 |.watch s p=>.t [.s "watch",.i s,p.nd]
 |.trap p=>.t [.s "trap",p.nd]
 |.thn p q=>.t [.s "then",p.nd,q.nd]
 |.bes p q=>.t [.s "beside",p.nd,q.nd]
def Pt.hg:Pt->Nat
 |.iff _ p q=>max p.hg q.hg+1
 |.thn p q=>max p.hg q.hg+1
 |.bes p q=>max p.hg q.hg+1
 |.again _ p=>p.hg+1
 |.hold _ p=>p.hg+1
 |.watch _ p=>p.hg+1
 |.trap p=>p.hg+1
 |.nothing=>1
 |.rest _=>1
 |.send _=>1
 |.exit _=>1
 |.stay _=>1
def Pt.rc:Pt->Nat
 |.rest _=>1
 |.stay ks=>ks.length
 |.iff _ p q=>p.rc+q.rc
 |.thn p q=>p.rc+q.rc
 |.bes p q=>p.rc+q.rc
 |.again _ p=>p.rc+1
 |.hold _ p=>p.rc
 |.watch _ p=>p.rc
 |.trap p=>p.rc
 |.nothing=>0
 |.send _=>0
 |.exit _=>0
def Pt.sc:Pt->Nat
 |.send _=>1
 |.iff _ p q=>p.sc+q.sc
 |.thn p q=>p.sc+q.sc
 |.bes p q=>p.sc+q.sc
 |.again _ p=>p.sc
 |.hold _ p=>p.sc
 |.watch _ p=>p.sc
 |.trap p=>p.sc
 |.nothing=>0
 |.rest _=>0
 |.exit _=>0
 |.stay _=>0
def Pt.lc:Pt->Nat
 |.rest _=>1
 |.stay ks=>ks.length
 |.iff _ p q=>max p.lc q.lc
 |.thn p q=>max p.lc q.lc
 |.bes p q=>p.lc+q.lc
 |.again _ p=>max 1 p.lc
 |.hold _ p=>p.lc
 |.watch _ p=>p.lc
 |.trap p=>p.lc
 |.nothing=>0
 |.send _=>0
 |.exit _=>0
def lp(p:Pt)(a b:List Int×Pt):Pt:=
 match p with
 |.thn _ q=>if b.1=[] then .thn a.2 q else b.2
 |.bes _ _=>if ¬a.1=[]/\¬b.1=[] then .bes a.2 b.2 else if ¬a.1=[] then a.2 else if ¬b.1=[] then b.2 else p
 |_=>if ¬a.1=[] then a.2 else if ¬b.1=[] then b.2 else p
def lr(p:Pt)(a:List Int×Pt):Pt:=
 if a.1=[] then p else
 match p with
 |.again k _=>.again k a.2
 |.trap _=>.trap a.2
 |.hold s _=>.iff s (.stay a.1) a.2
 |.watch s _=>.iff s .nothing a.2
 |_=>p
def rem(st:List Int):Pt->List Int×Pt
 |.iff s p q=>((rem st p).1++(rem st q).1,lp (.iff s p q) (rem st p) (rem st q))
 |.thn p q=>((rem st p).1++(rem st q).1,lp (.thn p q) (rem st p) (rem st q))
 |.bes p q=>((rem st p).1++(rem st q).1,lp (.bes p q) (rem st p) (rem st q))
 |.again k p=>if k∈st then([k]++(rem st p).1,.again k p) else((rem st p).1,lr (.again k p) (rem st p))
 |.hold s p=>((rem st p).1,lr (.hold s p) (rem st p))
 |.watch s p=>((rem st p).1,lr (.watch s p) (rem st p))
 |.trap p=>((rem st p).1,lr (.trap p) (rem st p))
 |.rest k=>if k∈st then([k],.nothing) else([],.rest k)
 |.nothing=>([],.nothing)
 |.send x0=>([],(.send x0))
 |.exit x0=>([],(.exit x0))
 |.stay x0=>([],(.stay x0))
def Ch(c:Int):Int:=if c=2 then 0 else if 2<c then c-1 else c
def agC(c:Int):Int:=if c=0 then 1 else c
abbrev Dd:=Int×List Int×List Int
def Md(a b:Dd):Dd:=(b.1,a.2.1++b.2.1,b.2.2)
def Hw(a b:Dd):Dd:=(if b.1>a.1 then b.1 else a.1,a.2.1++b.2.1,if (if b.1>a.1 then b.1 else a.1)=1 then a.2.2++b.2.2 else [])
def Pz(k:Int)(a:Dd):Dd:=(agC a.1,a.2.1,if a.1=0 then [k] else a.2.2)
def beg(th:List Int):Pt->Dd
 |.thn p q=>if (beg th p).1=0 then Md (beg th p) (beg th q) else beg th p
 |.bes p q=>Hw (beg th p) (beg th q)
 |.iff s p q=>if s∈th then beg th p else beg th q
 |.again k p=>Pz k (beg th p)
 |.hold _ p=>beg th p
 |.watch _ p=>beg th p
 |.trap p=>(Ch (beg th p).1,(beg th p).2.1,(beg th p).2.2)
 |.nothing=>(0,[],[])
 |.send s=>(0,[s],[])
 |.exit d=>(2+d,[],[])
 |.rest k=>(1,[],[k])
 |.stay ks=>(1,[],ks)
def Pt.hg_pos(p:Pt):1<=p.hg:=by cases p<;>exact le_add_left 1 _
def Ou(st:List Int)(p:Pt):(rem st p).1.length<=p.rc:=by
 induction p with
 |nothing=>exact zB _
 |rest k=>simp[rem];split;exact zB _;exact zZ _
 |send s=>exact zB _
 |exit d=>exact zB _
 |stay _=>exact zZ _
 |iff s p q z a1=>simp[rem];exact add_le_add z a1
 |thn p q z a1=>simp[rem];exact add_le_add z a1
 |bes p q z a1=>simp[rem];exact add_le_add z a1
 |again k p ih=>
  simp only[rem];split
  .exact succ_le_succ ih
  .exact zA ih (le_succ _)
 |hold s p ih=>exact ih
 |watch s p ih=>exact ih
 |trap p ih=>exact ih
def Pt.lc_rc(p:Pt):p.lc<=p.rc:=by
 induction p with
 |iff s p q h1 h2=>exact max_le.mpr ⟨zA h1 (le_add_right _ _),zA h2 (le_add_left _ _)⟩
 |thn p q h1 h2=>exact max_le.mpr ⟨zA h1 (le_add_right _ _),zA h2 (le_add_left _ _)⟩
 |bes p q h1 h2=>exact add_le_add h1 h2
 |again k p h=>exact max_le.mpr ⟨le_add_left _ _,zA h (le_succ _)⟩
 |hold s p h=>exact h
 |watch s p h=>exact h
 |trap p h=>exact h
 |_=>exact zB _
def Ov(th:List Int)(p:Pt):(beg th p).2.1.length<=p.sc/\(beg th p).2.2.length<=p.lc:=by
 induction p with
 |nothing=>exact⟨zB _,zB _⟩
 |rest k=>exact⟨zB _,zB _⟩
 |send s=>exact⟨zB _,zB _⟩
 |exit d=>exact⟨zB _,zB _⟩
 |stay _=>exact⟨zB _,zB _⟩
 |iff s p q z a1=>
  simp[beg];split
  .exact⟨zA z.1 (le_add_right _ _),zA z.2 (le_max_left _ _)⟩
  .exact⟨zA a1.1 (le_add_left _ _),zA a1.2 (le_max_right _ _)⟩
 |thn p q z a1=>
  simp[beg];split
  .simp[Md]
   exact⟨add_le_add z.1 a1.1,zA a1.2 (le_max_right _ _)⟩
  .exact⟨zA z.1 (le_add_right _ _),zA z.2 (le_max_left _ _)⟩
 |bes p q z a1=>
  simp only[beg,Hw,vF];refine⟨add_le_add z.1 a1.1,?_⟩;generalize (if (beg _ q).1>(beg _ p).1 then(beg _ q).1 else(beg _ p).1)=c;split
  .rw[vF];exact add_le_add z.2 a1.2
  .exact zZ _
 |again k p ih=>
  simp[beg,Pz];refine⟨ih.1,?_⟩;split
  .exact le_max_left _ _
  .exact zA ih.2 (le_max_right _ _)
 |hold s p ih=>exact ih
 |watch s p ih=>exact ih
 |trap p ih=>exact ih
def J7{f:Pt->Nat}{a:List Int×Pt}(h0:f p<=n)(ha:f a.2<=n)(z:f b.2<=n)(ht:∀q r,p=.thn q r->f (.thn a.2 r)<=n)(hs:∀q r,p=.bes q r->f (.bes a.2 b.2)<=n):f (lp p a b)<=n:=by
 unfold lp;split
 .split
  .exact ht _ _ rfl
  .exact z
 .split
  .exact hs _ _ rfl
  .split
   .exact ha
   .split
    .exact z
    .exact h0
 .split
  .exact ha
  .split
   .exact z
   .exact h0
def Wd(st:List Int)(p:Pt):(rem st p).2.sc<=p.sc:=by
 induction p with
 |nothing=>exact zB _
 |rest k=>simp[rem];split<;>exact zB _
 |send s=>exact zB _
 |exit d=>exact zB _
 |stay _=>exact zB _
 |iff s p q z a1=>exact J7 (n:=Pt.sc (.iff s p q)) (zB _) (zA z (le_add_right _ _)) (zA a1 (le_add_left _ _)) (λ_ _ e=>nomatch e) (λ_ _ e=>nomatch e)
 |thn p q z a1=>exact J7 (n:=Pt.sc (.thn p q)) (zB _) (zA z (le_add_right _ _)) (zA a1 (le_add_left _ _)) (λ_ _ e=>by cases e;exact Nat.add_le_add_right z _) (λ_ _ e=>nomatch e)
 |bes p q z a1=>exact J7 (n:=Pt.sc (.bes p q)) (zB _) (zA z (le_add_right _ _)) (zA a1 (le_add_left _ _)) (λ_ _ e=>nomatch e) (λ_ _ e=>by exact add_le_add z a1)
 |again k p ih=>
  simp only[rem];split
  .exact zB _
  .unfold lr;split
   .exact zB _
   .exact ih
 |hold s p ih=>simp[rem];unfold lr;split;exact zB _;exact zA (le_of_eq (zero_add _)) ih
 |watch s p ih=>simp[rem];unfold lr;split;exact zB _;exact zA (le_of_eq (zero_add _)) ih
 |trap p ih=>simp[rem];unfold lr;split;exact zB _;exact ih
def Ab7(st:List Int)(p:Pt):(rem st p).2.lc<=p.rc:=by
 induction p with
 |nothing=>exact zB _
 |rest k=>simp[rem];split;exact zZ _;exact zB _
 |send s=>exact zB _
 |exit d=>exact zB _
 |stay _=>exact zB _
 |iff s p q z a1=>exact J7 (n:=Pt.rc (.iff s p q)) (Pt.lc_rc _) (zA z (le_add_right _ _)) (zA a1 (le_add_left _ _)) (λ_ _ e=>nomatch e) (λ_ _ e=>nomatch e)
 |thn p q z a1=>exact J7 (n:=Pt.rc (.thn p q)) (Pt.lc_rc _) (zA z (le_add_right _ _)) (zA a1 (le_add_left _ _)) (λ_ _ e=>by cases e;exact max_le.mpr ⟨zA z (le_add_right _ _),zA (Pt.lc_rc q) (le_add_left _ _)⟩) (λ_ _ e=>nomatch e)
 |bes p q z a1=>exact J7 (n:=Pt.rc (.bes p q)) (Pt.lc_rc _) (zA z (le_add_right _ _)) (zA a1 (le_add_left _ _)) (λ_ _ e=>nomatch e) (λ_ _ e=>by exact add_le_add z a1)
 |again k p ih=>
  simp only[rem];split
  .exact Pt.lc_rc _
  .unfold lr;split
   .exact Pt.lc_rc _
   .exact max_le.mpr ⟨le_add_left _ _,zA ih (le_succ _)⟩
 |hold s p ih=>simp[rem];unfold lr;split;exact Pt.lc_rc p;exact max_le.mpr ⟨Ou _ p,ih⟩
 |watch s p ih=>simp[rem];unfold lr;split;exact Pt.lc_rc p;exact max_le.mpr ⟨zZ _,ih⟩
 |trap p ih=>simp[rem];unfold lr;split;exact Pt.lc_rc p;exact ih
def Aax(st:List Int)(p:Pt):(rem st p).2.hg<=p.hg:=by
 induction p with
 |nothing=>exact zB _
 |rest k=>simp[rem];split<;>exact zB _
 |send s=>exact zB _
 |exit d=>exact zB _
 |stay _=>exact zB _
 |iff s p q z a1=>exact J7 (n:=Pt.hg (.iff s p q)) (zB _) (zA z (zA (le_max_left _ _) (le_succ _))) (zA a1 (zA (le_max_right _ _) (le_succ _))) (λ_ _ e=>nomatch e) (λ_ _ e=>nomatch e)
 |thn p q z a1=>exact J7 (n:=Pt.hg (.thn p q)) (zB _) (zA z (zA (le_max_left _ _) (le_succ _))) (zA a1 (zA (le_max_right _ _) (le_succ _))) (λ_ _ e=>by cases e;exact succ_le_succ (max_le.mpr ⟨zA z (le_max_left _ _),le_max_right _ _⟩)) (λ_ _ e=>nomatch e)
 |bes p q z a1=>exact J7 (n:=Pt.hg (.bes p q)) (zB _) (zA z (zA (le_max_left _ _) (le_succ _))) (zA a1 (zA (le_max_right _ _) (le_succ _))) (λ_ _ e=>nomatch e) (λ_ _ e=>by exact succ_le_succ (max_le.mpr ⟨zA z (le_max_left _ _),zA a1 (le_max_right _ _)⟩))
 |again k p ih=>
  simp only[rem];split
  .exact zB _
  .unfold lr;split
   .exact zB _
   .exact succ_le_succ ih
 |hold s p ih=>simp[rem];unfold lr;split;exact zB _;exact succ_le_succ (max_le.mpr ⟨Pt.hg_pos p,ih⟩)
 |watch s p ih=>simp[rem];unfold lr;split;exact zB _;exact succ_le_succ (max_le.mpr ⟨Pt.hg_pos p,ih⟩)
 |trap p ih=>simp[rem];unfold lr;split;exact zB _;exact succ_le_succ ih
def Mg(l:List Int):List Int:=l.mergeSort (λa b=>decide (a<=b))
def Gp(l:List Int):(Mg l).Perm l:=List.mergeSort_perm l _
def Qv(l:List Int):(Mg l).Pairwise (·<=·):=by
 have:=List.pairwise_mergeSort (le:=λa b:Int=>decide (a<=b)) (λa b c _ _=>by simp at *;omega) (λa b=>by simp;omega) l;exact this.imp λ{a b}h=>by simpa using h
def Uf{a b:List Int}(p:a.Perm b)(ha:a.Pairwise (·<=·))(hb:b.Pairwise (·<=·)):a=b:=by
 induction a generalizing b with
 |nil=>exact p.nil_eq.symm▸rfl
 |cons x a ih=>
  cases b with
  |nil=>exact absurd p.length_eq (by simp)
  |cons y b=>
   have a1:=zR.mp ha;have e:x=y:=by
    have h1:x<=y:=by
     rcases zM.mp (p.mem_iff.mpr (vH)) with z|z
     .omega
     .simp_all
    have h2:y<=x:=by
     rcases zM.mp (p.mem_iff.mp (vH)) with z|z
     .omega
     .simp_all
    omega
   subst e
   congr 1
   exact ih (List.Perm.cons_inv p) a1.2 (zR.mp hb).2
def Ac0(p:ms.Perm l)(h:ms.Pairwise (·<=·)):ms=Mg l:=Uf (p.trans (Gp l).symm) h (Qv l)
def pb(p:Pt):Option (List Int)->Pt
 |none=>p
 |some st=>(rem st p).2
def Rs(p:Pt)(st:Option (List Int))(th:List Int):Dd:=((beg th (pb p st)).1,nub (beg th (pb p st)).2.1,Mg (beg th (pb p st)).2.2)
def AhM{b:Bool}{A B:Prop}(h:b=false)(z:B):if b then A else B:=by simp_all
def AgW{b:Bool}{A B:Prop}(h:b)(z:A):if b then A else B:=by simp_all
def Mr{l:List Int}{A B:Prop}(h1:¬l=[]->A)(h2:l=[]->B):if (!(l.map V.int).isEmpty) then A else B:=by
 cases l with
 |nil=>exact h2 rfl
 |cons x r=>exact h1 (by simp)
def Xe{i j:Int}{A B:Prop}(h1:i=j->A)(h2:¬i=j->B):if decide (V.int i=V.int j) then A else B:=by
 by_cases c:i=j
 .rw[vK (congrArg _ c)];exact h1 c
 .rw[vM (λz=>c (V.int.inj z))];exact h2 c
def Uo{k:Int}{l:List Int}{A B:Prop}(h1:k∈l->A)(h2:¬k∈l->B):if (if false then !inV (V.int k) (l.map V.int) else inV (V.int k) (l.map V.int)) then A else B:=by
 rw[if_neg qc,Ej]
 by_cases c:k∈l
 .rw[vK c];exact h1 c
 .rw[vM c];exact h2 c
def Ci{A B:Prop}(h1:x=y->A)(h2:¬x=y->B):if decide (V.str x=V.str y) then A else B:=by
 by_cases c:x=y
 .subst c;exact Kd (h1 rfl)
 .exact Fe c (h2 c)
def AgA{b:Bool}{A B:Prop}(h1:b->A)(h2:b=false->B):if b then A else B:=by
 simp_all
def wdP:Pt->Str
 |.nothing=> "nothing"
 |.rest _=> "rest"
 |.send _=> "send"
 |.exit _=> "exit"
 |.stay _=> "stay"
 |.iff _ _ _=> "if"
 |.again _ _=> "again"
 |.hold _ _=> "hold"
 |.watch _ _=> "watch"
 |.trap _=> "trap"
 |.thn _ _=> "then"
 |.bes _ _=> "beside"
def Ag0(p:Pt):∃r,Pt.nd p=.t (.s (wdP p)::r):=by cases p<;>exact⟨_,Z⟩
def J6(h:PAt K H (Pt.nd p) v):∃a vs,v=.ref a/\Ez K H a (.str (wdP p)::vs):=by
 obtain⟨r,e⟩:=Ag0 p;rw[e]at h;obtain⟨a,vs,rfl,hs,z⟩:=PAt.get h;obtain⟨v,r',rfl,q,l⟩:=z;cases q.str
 exact⟨a,r',Z,hs⟩
def Qj(e:wdP p ="then"):∃p1 p2,p=.thn p1 p2:=by cases p<;>first|exact⟨_,_,Z⟩|(dsimp only[wdP]at e;exact absurd e (by trivial))
def Abl(e:wdP p ="beside"):∃p1 p2,p=.bes p1 p2:=by cases p<;>first|exact⟨_,_,Z⟩|(dsimp only[wdP]at e;exact absurd e (by trivial))
def Uq(e:wdP p ="if"):∃x p1 p2,p=.iff x p1 p2:=by cases p<;>first|exact⟨_,_,_,Z⟩|(dsimp only[wdP]at e;exact absurd e (by trivial))
def Uv(e:wdP p ="again"):∃k p1,p=.again k p1:=by cases p<;>first|exact⟨_,_,Z⟩|(dsimp only[wdP]at e;exact absurd e (by trivial))
def Lp(e:wdP p ="hold"):∃x p1,p=.hold x p1:=by cases p<;>first|exact⟨_,_,Z⟩|(dsimp only[wdP]at e;exact absurd e (by trivial))
def O8(e:wdP p ="watch"):∃x p1,p=.watch x p1:=by cases p<;>first|exact⟨_,_,Z⟩|(dsimp only[wdP]at e;exact absurd e (by trivial))
def Ry(e:wdP p ="trap"):∃p1,p=.trap p1:=by cases p<;>first|exact⟨_,Z⟩|(dsimp only[wdP]at e;exact absurd e (by trivial))
def Ad7(e:wdP p ="exit"):∃k,p=.exit k:=by cases p<;>first|exact⟨_,Z⟩|(dsimp only[wdP]at e;exact absurd e (by trivial))
def Yg(e:wdP p ="send"):∃k,p=.send k:=by cases p<;>first|exact⟨_,Z⟩|(dsimp only[wdP]at e;exact absurd e (by trivial))
def Zd(e:wdP p ="stay"):∃k,p=.stay k:=by cases p<;>first|exact⟨_,Z⟩|(dsimp only[wdP]at e;exact absurd e (by trivial))
def Kj(e:wdP p ="rest"):∃k,p=.rest k:=by cases p<;>first|exact⟨_,Z⟩|(dsimp only[wdP]at e;exact absurd e (by trivial))
def N8{z:Type}{l:List z}{x:z}(h:l.length<=j):(l++[x]).length<=j+1:=by rw[vF];exact succ_le_succ h
def lt9(h:n<64):n<=900:=zA (le_of_lt h) (by decide)
def W5(h:n<=k)(z:k<=1000):n<=1000:=zA h z
def AcT{a:Nat}(h1:a<=k)(h2:b<=l)(z:k+l<=1000):a+b<=1000:=zA (add_le_add h1 h2) z
def AcW{a:Nat}(h1:a<=k)(h2:b<=l)(z:k+l<64):a+b<64:=zE (add_le_add h1 h2) z
def Adb{s:Int}(h:0<=s/\s<n):s.toNat<n:=(Int.toNat_lt h.1).mpr h.2
def hgl{a:Nat}(h:max a b+1<=n+1):a<=n:=zA (le_max_left _ _) (le_of_succ_le_succ h)
def hgr{a:Nat}(h:max a b+1<=n+1):b<=n:=zA (le_max_right _ _) (le_of_succ_le_succ h)
def adl{a b:Nat}(h:a+b<=n):a<=n:=zA (le_add_right _ _) h
def adr{a b:Nat}(h:a+b<=n):b<=n:=zA (le_add_left _ _) h
def mxl{a b:Nat}(h:max a b<=n):a<=n:=zA (le_max_left _ _) h
def mxr{a b:Nat}(h:max a b<=n):b<=n:=zA (le_max_right _ _) h
structure Dk(K:FA)(mg:Str->Option Value)(aN aP aR:Addr)(uE uR uL:Value):Prop extends Txt mg where
 m_ENDED:mg "ENDED"= some uE
 r_ENDED:A2 (.int 0) uE
 m_RESTS:mg "RESTS"= some uR
 r_RESTS:A2 (.int 1) uR
 m_LEAVES:mg "LEAVES"= some uL
 r_LEAVES:A2 (.int 2) uL
 m_NOTHING:mg "NOTHING"= some (.ref aN)
 r_NOTHING:A2 (.ref aN) (Value.ref aN)
 mN:Nt K aN [V.str "nothing"]
 m_PAIRS:mg "PAIRS"= some (.ref aP)
 r_PAIRS:A2 (.ref aP) (Value.ref aP)
 mP:Nt K aP [V.str "then",V.str "if",V.str "beside"]
 m_ROUND:mg "ROUND"= some (.ref aR)
 r_ROUND:A2 (.ref aR) (Value.ref aR)
 mR:Nt K aR [V.str "again",V.str "hold",V.str "watch",V.str "trap"]
inductive K6(K:FA)(H:Hp)(t:Addr)(r:List Int×Pt)   : Prop
 |mk(l)(v)(_:H t=some (.tup [.ref l,v]))(_:H l=some (.lst (r.1.map V.int)))(_:PAt K H r.2.nd v):K6 K H t r
def K6.mono(g:Same H H')(h:K6 K H t r):K6 K H' t r:=by
 obtain⟨l,v,h1,h2,h3⟩:=h;exact⟨l,v,g _ _ h1,g _ _ h2,h3.mono g.tp⟩
theorem Su:∀(l:List _),A3 K H (l.map Nd.i) (l.map V.int)
 |[]=>.nil
 |x::r=>.cons .i (Su r)
theorem Um:∀{l:List Int}{vs:List V},A3 K H (l.map Nd.i) vs->vs=l.map V.int
 |[],vs,h=>by exact h
 |x::r,vs,h=>by
  obtain⟨v,r',rfl,q,l⟩:=h;cases q.int
  rw[Um l];rfl
def E5:Pt->Bool
 |.nothing=>true
 |.rest _=>true
 |.send _=>true
 |.exit _=>true
 |.stay _=>true
 |_=>false
def isPr:Pt->Bool
 |.iff _ _ _=>true
 |.thn _ _=>true
 |.bes _ _=>true
 |_=>false
def isRd:Pt->Bool
 |.again _ _=>true
 |.hold _ _=>true
 |.watch _ _=>true
 |.trap _=>true
 |_=>false
def Xs(n1:¬wdP p ="then")(n2:¬wdP p ="beside")(n3:¬wdP p ="if")(n4:¬wdP p ="again")(n5:¬wdP p ="hold")(z:¬wdP p ="watch")(n7:¬wdP p ="trap"):E5 p:=by
 cases p<;>first|rfl|exact absurd rfl n1|exact absurd rfl n2|exact absurd rfl n3|exact absurd rfl n4|exact absurd rfl n5|exact absurd rfl z|exact absurd rfl n7
def Agd{A B:Prop}(h1:isPr p->A)(h2:isPr p=false->B):if (if false then !inV (V.str (wdP p)) [V.str "then",V.str "if",V.str "beside"] else inV (V.str (wdP p)) [V.str "then",V.str "if",V.str "beside"]) then A else B:=by
 rw[show(if false then !inV _ [V.str "then",V.str "if",V.str "beside"] else inV _ [V.str "then",V.str "if",V.str "beside"])=isPr p from by cases p<;>(dsimp only[isPr];trivial)];exact AgA h1 h2
def AgY{A B:Prop}(h1:isRd p->A)(h2:isRd p=false->B):if (if false then !inV (V.str (wdP p)) [V.str "again",V.str "hold",V.str "watch",V.str "trap"] else inV (V.str (wdP p)) [V.str "again",V.str "hold",V.str "watch",V.str "trap"]) then A else B:=by
 rw[show(if false then !inV _ [V.str "again",V.str "hold",V.str "watch",V.str "trap"] else inV _ [V.str "again",V.str "hold",V.str "watch",V.str "trap"])=isRd p from by cases p<;>(dsimp only[isRd];trivial)];exact AgA h1 h2
inductive PrV(K:FA)(H:Hp)(p:Pt)(v:V)(n:Nat):Prop
 |mk(a:Addr)(vs:List V)(x1 x2:V)(p1 p2:Pt)(e:v=.ref a)(hs:Ez K H a vs)(i1:atI vs (-2)=some x1)(i2:atI vs (-1)=some x2)(h1:PAt K H (Pt.nd p1) x1)(h2:PAt K H (Pt.nd p2) x2)(c1:p1.hg<=n)(c2:p2.hg<=n)(hc:p1.rc+p2.rc<=900)(er:∀ns,rem ns p=((rem ns p1).1++(rem ns p2).1,lp p (rem ns p1) (rem ns p2)))
def AfT(h:PAt K H (Pt.nd p) v)(z:isPr p)(hh:p.hg<=n+1)(hc:p.rc<=900):PrV K H p v n:=by
 cases p with
 |thn p1 p2=>
  obtain⟨a,vs,rfl,hs,hx⟩:=PAt.get h;obtain⟨x0,x1,x2,rfl,h0,h1,h2⟩:=hx.three;exact⟨a,_,x1,x2,p1,p2,Z,hs,Ja (by simp) rfl,E6 rfl,h1,h2,hgl hh,hgr hh,hc,λ_=>rfl⟩
 |bes p1 p2=>
  obtain⟨a,vs,rfl,hs,hx⟩:=PAt.get h;obtain⟨x0,x1,x2,rfl,h0,h1,h2⟩:=hx.three;exact⟨a,_,x1,x2,p1,p2,Z,hs,Ja (by simp) rfl,E6 rfl,h1,h2,hgl hh,hgr hh,hc,λ_=>rfl⟩
 |iff _ p1 p2=>
  obtain⟨a,vs,rfl,hs,hx⟩:=PAt.get h;obtain⟨x0,x1,x2,x3,rfl,h0,h1,h2,h3⟩:=hx.four;exact⟨a,_,x2,x3,p1,p2,Z,hs,Ja (by simp) rfl,E6 rfl,h2,h3,hgl hh,hgr hh,hc,λ_=>rfl⟩
 |_=>cases z
inductive RdV(K:FA)(H:Hp)(p:Pt)(v:V)(n:Nat):Prop
 |mk(a:Addr)(vs:List V)(x1:V)(p1:Pt)(e:v=.ref a)(hs:Ez K H a (.str (wdP p)::vs))(i1:atI (.str (wdP p)::vs) (-1)=some x1)(h1:PAt K H (Pt.nd p1) x1)(c1:p1.hg<=n)(c2:p1.rc<=900)(hor:(∃k,p=.again k p1/\p1.rc+1<=900/\vs=[.int k,x1])\/(¬wdP p ="again" /\ ∀ns,rem ns p=((rem ns p1).1,lr p (rem ns p1))))
def AgK(h:PAt K H (Pt.nd p) v)(z:isRd p)(hh:p.hg<=n+1)(hc:p.rc<=900):RdV K H p v n:=by
 cases p with
 |again k p1=>
  obtain⟨a,rfl⟩:=Ga h;obtain⟨x2,hs,h2⟩:=g3i h;exact⟨a,_,x2,p1,Z,hs,E6 rfl,h2,le_of_succ_le_succ hh,Nat.le_of_succ_le hc,.inl ⟨k,Z,hc,Z⟩⟩
 |hold k p1=>
  obtain⟨a,rfl⟩:=Ga h;obtain⟨x1,x2,hs,h1,h2⟩:=g3 h;exact⟨a,_,x2,p1,Z,hs,E6 rfl,h2,le_of_succ_le_succ hh,hc,.inr ⟨by dsimp only[wdP];trivial,λ_=>rfl⟩⟩
 |watch k p1=>
  obtain⟨a,rfl⟩:=Ga h;obtain⟨x1,x2,hs,h1,h2⟩:=g3 h;exact⟨a,_,x2,p1,Z,hs,E6 rfl,h2,le_of_succ_le_succ hh,hc,.inr ⟨by dsimp only[wdP];trivial,λ_=>rfl⟩⟩
 |trap p1=>
  obtain⟨a,rfl⟩:=Ga h;obtain⟨x1,hs,h1⟩:=g2 h;exact⟨a,_,x1,p1,Z,hs,E6 rfl,h1,le_of_succ_le_succ hh,hc,.inr ⟨by dsimp only[wdP];trivial,λ_=>rfl⟩⟩
 |_=>cases z
def AdK(h1:isPr p=false)(h2:isRd p=false)(h3:¬wdP p ="rest")(ns:List Int):rem ns p=([],p):=by
 cases p<;>first|rfl|(cases h1;done)|(cases h2;done)|exact absurd rfl h3
def Afa(ns:List Int):Pt->Bool
 |.again k _=>decide (k∈ns)
 |_=>false
def AbX(ns:List Int):Pt->Bool
 |.rest k=>decide (k∈ns)
 |_=>false
def Zh(h:¬wdP p ="again")(ns:List Int):Afa ns p=false:=by cases p<;>first|rfl|exact absurd rfl h
def Th(h:¬wdP p ="rest")(ns:List Int):AbX ns p=false:=by cases p<;>first|rfl|exact absurd rfl h
def Y6{t:TT}{a u:TS}(b:Bool)(h:∀N:Bool->Hp->Prop,N b H->t Y H N)(z:b->a {D with nx:=u D} Y H)(kb:b=false->u D Y H):tSeq (tIfS t a tNext) u D Y H:=
 h _ (by
  cases b with
  |true=>exact Dg (z rfl)
  |false=>exact Fh (kb rfl))
def Acr(h:E5 p)(th z:List Int):beg th p=beg z p:=by cases p<;>first|rfl|cases h
def Aes(h:E5 p)(n1:¬wdP p ="exit")(n2:¬wdP p ="rest")(n3:¬wdP p ="stay"):(beg [] p).1=0:=by cases p<;>first|rfl|exact absurd rfl n1|exact absurd rfl n2|exact absurd rfl n3|cases h
def Aeo(h:E5 p)(n1:¬wdP p ="rest")(n2:¬wdP p ="stay"):(beg [] p).2.2=[]:=by cases p<;>first|rfl|exact absurd rfl n1|exact absurd rfl n2|cases h
def AeD(h:E5 p)(n1:¬wdP p ="send"):(beg [] p).2.1=[]:=by cases p<;>first|rfl|exact absurd rfl n1|cases h
inductive Se(K:FA)(vs:List V)(H:Hp)(Q:VK):Prop
 |mk(v)(p)(_:vs=[v])(_:PAt K H (Pt.nd p) v)(_:E5 p=true)(_:Q (.int (beg [] p).1) H)
def Kg(K:FA):Sp:=λvs H Q _=>Se K vs H Q
inductive Yt  (vs:List V) (H:Hp) (Q:VK):Prop
 |mk(c:Int)(_:vs=[.int c])(_:Q (.int (agC c)) H):Yt  vs H Q
def Mw:Sp:=λvs H Q _=>Yt  vs H Q
inductive Xz  (vs:List V) (H:Hp) (Q:VK):Prop
 |mk(c:Int)(_:vs=[.int c])(_:Q (.int (Ch c)) H):Xz  vs H Q
def K4:Sp:=λvs H Q _=>Xz  vs H Q
inductive Abf(K:FA)(vs:List V)(H:Hp)(Q:VK):Prop
 |mk(v)(p)(t1)(t2)(a:_)(b)(_:vs=[v,.ref t1,.ref t2])(_:PAt K H (Pt.nd p) v)(_:isPr p=true)(_:K6 K H t1 a)(_:K6 K H t2 b)(_:∀v' H',Same H H'->PAt K H' (lp p a b).nd v'->Q v' H')
def Acq(K:FA):Sp:=λvs H Q _=>Abf K vs H Q
inductive Aan(K:FA)(vs:List V)(H:Hp)(Q:VK):Prop
 |mk(v)(p)(t)(a:_)(_:vs=[v,.ref t])(_:PAt K H (Pt.nd p) v)(_:isRd p=true)(_:K6 K H t a)(_:∀v' H',Same H H'->PAt K H' (lr p a).nd v'->Q v' H')
def Acv(K:FA):Sp:=λvs H Q _=>Aan K vs H Q
inductive Ya(K:FA)(n:Nat)(vs:List V)(H:Hp)(Q:VK):Prop
 |mk(v)(p)(st:_)(ns)(_:vs=[v,.ref st])(_:PAt K H (Pt.nd p) v)(_:SqL K H st ((ns:List Int).map V.int))(_:p.hg<=n)(_:p.rc<=900)(_:∀t H',Same H H'->K6 K H' t (rem ns p)->Q (.ref t) H')
def Oj(K:FA)(n:Nat):Sp:=λvs H Q _=>Ya K n vs H Q
def Hu(K:FA)(H:Hp):Option (List Int)->V->Prop
 |none,v=>v=.non
 |some ns,v=>∃a,v=.ref a/\SqL K H a (ns.map V.int)
inductive Zq(K:FA)(n:Nat)(vs:List V)(H:Hp)(Q:VK):Prop
 |mk(v)(p)(sv)(st:_)(_:vs=[v,sv])(_:PAt K H (Pt.nd p) v)(_:Hu K H st sv)(_:(st=none\/(p.hg<=n/\p.rc<=900)))(_:∀v' H',Same H H'->PAt K H' (pb p st).nd v'->Q v' H')
def AaS(K:FA)(n:Nat):Sp:=λvs H Q _=>Zq K n vs H Q
section
variable{aN aP aR:Addr}{uE uR uL:Value}
def Li(F:Ao K mg "leaf_code" ["part"] Jl)(T:Dk K mg aN aP aR uE uR uL):Ae P w K mg base 1 "leaf_code" ["part"] (Kg K):=by
 refine F.ok W0 (λvs H Q E h=>?_) (λf _ A _ s H _ Q E _ h=>?_)
 .obtain⟨v,p,rfl,_⟩:=h;rfl
 obtain⟨v,p,rfl,hp,lf,q⟩:=h
 refine⟨_,(Ab (Az (pce (pix (pv 0)) Ah)
   (Ad (Ag (Au Ju (Bj rfl T.m_LEAVES T.r_LEAVES) (pix (pv 0)))))
   Ar)
  (Ab (Az (PW.pt (Ha (pce (pix (pv 0)) Ah) (F8 (pce (pix (pv 0)) Ah))))
   (Ad (Ag (Bj rfl T.m_RESTS T.r_RESTS)))
   Ar)
  (Ad (Ag (Bj rfl T.m_ENDED T.r_ENDED))))),?_⟩
 obtain⟨a,vs,rfl,hs⟩:=J6 hp;refine⟨hs.sq,Aa (j:=0) rfl,Z,Ci (λe=>?_) λn1=>⟨hs.sq,Aa (j:=0) rfl,Z,Ci (λe=>Dg ?_) λn2=>⟨hs.sq,Aa (j:=0) rfl,Z,Ci (λe=>?_) λn3=>?_⟩⟩⟩
 .obtain⟨x,rfl⟩:=Ad7 e
  have hs:=g2i hp;exact⟨hs.sq,Aa (j:=1) rfl,_,_,Z,Z,q⟩
 .obtain⟨x,rfl⟩:=Kj e
  exact q
 .obtain⟨x,rfl⟩:=Zd e
  exact q
 .rw[Aes lf n1 n2 n3]at q
  exact q
def Uu(F:Ao K mg "code_of_again" ["code"] F3)(T:Dk K mg aN aP aR uE uR uL):Ae P w K mg base 1 "code_of_again" ["code"] Mw:=by
 refine F.ok Px (λvs H Q E h=>?_) (λf _ A _ s H _ Q E _ h=>?_)
 .obtain⟨c,rfl,_⟩:=h;rfl
 obtain⟨c,rfl,q⟩:=h;refine⟨_,(Ad (Ag (Bq (pce (pv 0) (Bj rfl T.m_ENDED T.r_ENDED)) (Bj rfl T.m_RESTS T.r_RESTS) (pv 0)))),?_⟩;unfold agC at q;refine⟨Z,Xe (λc=>?_) λc=>?_⟩
 .rw[if_pos c]at q;exact q
 .rw[if_neg c]at q;exact(q)
def Vh(F:Ao K mg "code_of_trap" ["code"] Gu)(T:Dk K mg aN aP aR uE uR uL):Ae P w K mg base 1 "code_of_trap" ["code"] K4:=by
 refine F.ok Qf (λvs H Q E h=>?_) (λf _ A _ s H _ Q E _ h=>?_)
 .obtain⟨c,rfl,_⟩:=h;rfl
 obtain⟨c,rfl,q⟩:=h
 refine⟨_,(Ab (Az (pce (pv 0) (Bj rfl T.m_LEAVES T.r_LEAVES))
   (Ad (Ag (Bj rfl T.m_ENDED T.r_ENDED)))
   Ar)
  (Ad (Ag (Bq (Bg Adg (pv 0) (Bj rfl T.m_LEAVES T.r_LEAVES) (B4 _)) (Au W8 (pv 0) Am) (pv 0))))),?_⟩
 unfold Ch at q;refine⟨Z,Xe (λc=>?_) λc=>?_⟩
 .rw[if_pos c]at q;exact q
 .rw[if_neg c]at q
  refine⟨_,_,Z,Z,As (λc=>?_) λc=>?_⟩
  .rw[if_pos (vN c)]at q;exact⟨_,_,Z,Z,q⟩
  .rw[if_neg (λz=>c (vK z))]at q;exact(q)
def AgZ(F:Ao K mg "left_of_pair" ["part","first","second"] Gr)(T:Dk K mg aN aP aR uE uR uL):Ae P w K mg base 1 "left_of_pair" ["part","first","second"] (Acq K):=by
 refine F.ok Qa (λvs H Q E h=>?_) (λf cdv A outer s H vs Q E hr h=>?_)
 .obtain⟨v,p,t1,t2,a,b,rfl,_⟩:=h;rfl
 obtain⟨v,p,t1,t2,ra,rb,rfl,hp,pr,⟨l1,v1,a1,a2,a3⟩,⟨l2,v2,b1,b2,b3⟩,q⟩:=h
 refine⟨_,(Ab (Az (pce (pix (pv 0)) Ah)
   (Ad (Ag (Bq (Ek (pix (pv 2)) (λ_=>rfl)) (pix (pv 2)) (Ap (pa3 Ah (pix (pv 1)) (pix (pv 0)))))))
   Ar)
  (Ab (Az (PW.pt (Nq (pce (pix (pv 0)) Ah) (Nq (Ek (pix (pv 1)) (λ_=>rfl)) (On (Ek (pix (pv 2)) (λ_=>rfl))))))
   (Ad (Ag (Ap (pa3 Ah (pix (pv 1)) (pix (pv 2))))))
   Ar)
  (Ab (Az (Ek (pix (pv 1)) (λ_=>rfl))
   (Ad (Ag (pix (pv 1))))
   Ar)
  (Ad (Ag (Bq (Ek (pix (pv 2)) (λ_=>rfl)) (pix (pv 2)) (pv 0))))))),?_⟩
 cases p with
 |thn p1 p2=>
  obtain⟨a,rfl⟩:=Ga hp;obtain⟨x1,x2,hs,h1,h2⟩:=g3 hp;refine⟨hs.sq,Aa rfl,Z,Kd ⟨Aj b1,Aa rfl,_,.inl ⟨_,Ai b2,Z⟩,Mr (λc=>?_) λc=>?_⟩⟩
  .exact⟨Aj b1,Aa rfl,q _ _ (Bv _) (by unfold lp;dsimp only;rw[if_neg c];exact b3)⟩
  .refine⟨Aj a1,Aa rfl,hs.sq,Aa rfl,zN3,λt ht=>?_⟩
   have g:=Ac ht (.tup [V.str "then",v1,x2]);exact q _ _ g (by unfold lp;dsimp only;rw[if_pos c];exact .t (.inl qa) (.cons .s (.cons (a3.mono g.tp) (.cons (h2.mono g.tp) .nil))))
 |bes p1 p2=>
  obtain⟨a,rfl⟩:=Ga hp;obtain⟨x1,x2,hs,h1,h2⟩:=g3 hp
  have a4:∀(c:ra.1=[]\/rb.1=[]),lp (.bes p1 p2) ra rb=(if ¬ra.1=[] then ra.2 else if ¬rb.1=[] then rb.2 else .bes p1 p2):=λc=>by
   unfold lp;dsimp only;rw[if_neg (λz=>c.elim z.1 z.2)]
  refine⟨hs.sq,Aa rfl,Z,Fe (by trivial) ⟨hs.sq,Aa rfl,Z,Kd ⟨Aj a1,Aa rfl,_,.inl ⟨_,Ai a2,Z⟩,Mr (λc1=>?_) λc1=>?_⟩⟩⟩
  .refine⟨Aj b1,Aa rfl,_,.inl ⟨_,Ai b2,Z⟩,Mr (λc2=>?_) λc2=>?_⟩
   .refine⟨Aj a1,Aa rfl,Aj b1,Aa rfl,zN3,λt ht=>?_⟩
    have g:=Ac ht (.tup [V.str "beside",v1,v2]);exact q _ _ g (by unfold lp;dsimp only;rw[if_pos ⟨c1,c2⟩];exact .t (.inl qa) (.cons .s (.cons (a3.mono g.tp) (.cons (b3.mono g.tp) .nil))))
   .refine⟨Aj a1,Aa rfl,_,.inl ⟨_,Ai a2,Z⟩,Mr (λ_=>?_) λz=>absurd z c1⟩
    exact⟨Aj a1,Aa rfl,q _ _ (Bv _) (by rw[a4 (.inr c2),if_pos c1];exact a3)⟩
  .refine Fh ⟨Aj a1,Aa rfl,_,.inl ⟨_,Ai a2,Z⟩,Mr (λz=>absurd c1 z) λ_=>⟨Aj b1,Aa rfl,_,.inl ⟨_,Ai b2,Z⟩,Mr (λc2=>?_) λc2=>?_⟩⟩
   .exact⟨Aj b1,Aa rfl,q _ _ (Bv _) (by rw[a4 (.inl c1),if_neg (λz=>z c1),if_pos c2];exact b3)⟩
   .exact(q _ _ (Bv _) (by rw[a4 (.inl c1),if_neg (λz=>z c1),if_neg (λz=>z c2)];exact hp))
 |iff s p1 p2=>
  obtain⟨a,rfl⟩:=Ga hp;obtain⟨x2,x3,hs,h2,h3⟩:=g4i hp;refine⟨hs.sq,Aa rfl,Z,Fe (by trivial) ⟨hs.sq,Aa rfl,Z,Fe (by trivial) (Fh ⟨Aj a1,Aa rfl,_,.inl ⟨_,Ai a2,Z⟩,Mr (λc1=>?_) λc1=>⟨Aj b1,Aa rfl,_,.inl ⟨_,Ai b2,Z⟩,Mr (λc2=>?_) λc2=>?_⟩⟩)⟩⟩
  .exact⟨Aj a1,Aa rfl,q _ _ (Bv _) (by unfold lp;dsimp only;rw[if_pos c1];exact a3)⟩
  .exact⟨Aj b1,Aa rfl,q _ _ (Bv _) (by unfold lp;dsimp only;rw[if_neg (λz=>z c1),if_pos c2];exact b3)⟩
  .exact(q _ _ (Bv _) (by unfold lp;dsimp only;rw[if_neg (λz=>z c1),if_neg (λz=>z c2)];exact hp))
 |_=>cases pr
def AhS(F:Ao K mg "left_of_round" ["part","inner"] F4)(T:Dk K mg aN aP aR uE uR uL):Ae P w K mg base 1 "left_of_round" ["part","inner"] (Acv K):=by
 refine F.ok Ku (λvs H Q E h=>?_) (λf cdv A outer s H vs Q E hr h=>?_)
 .obtain⟨v,p,t1,a,rfl,_⟩:=h;rfl
 obtain⟨v,p,t1,ra,rfl,hp,rd,⟨l1,v1,a1,a2,a3⟩,q⟩:=h
 refine⟨_,(Ab (Az (AgC (Ek (pix (pv 1)) (λ_=>rfl)))
   (Ad (Ag (pv 0)))
   Ar)
  (Ab (Az (pce (pix (pv 0)) Ah)
   (Ad (Ag (Ap (pa3 Ah (pix (pv 0)) (pix (pv 1))))))
   Ar)
  (Ab (Az (pce (pix (pv 0)) Ah)
   (Ad (Ag (Ap (pa2 Ah (pix (pv 1))))))
   Ar)
  (Ab (pst 2 Ku.nd (Bq (pce (pix (pv 0)) Ah) (Ap (pa2 Ah (Dp Hd rfl T.n_tuple (by trivial) (pa1 (pix (pv 1)))))) (Bj rfl T.m_NOTHING T.r_NOTHING)))
  (Ad (Ag (Ap (Ba Ah (pa3 (pix (pv 0)) (pv 2) (pix (pv 1))))))))))),?_⟩
 have none:ra.1=[]->lr p ra=p:=λc=>by unfold lr;rw[if_pos c]
 have nt:∀{A B:Prop},(¬ra.1=[]->B)->(ra.1=[]->A)->if (!!(ra.1.map V.int).isEmpty) then A else B:=λ{A B}h1 h2=>by
  cases e:ra.1 with
  |nil=>exact h2 e
  |cons x r=>exact h1 (by rw[e];simp)
 refine⟨Aj a1,Aa rfl,_,.inl ⟨_,Ai a2,Z⟩,nt (λc=>?_) λc=>(q _ _ (Bv _) (by rw[none c];exact hp))⟩;cases p with
 |again k p1=>
  obtain⟨a,rfl⟩:=Ga hp;obtain⟨x2,hs,h2⟩:=g3i hp;refine⟨hs.sq,Aa rfl,Z,Kd ⟨hs.sq,Aa rfl,Aj a1,Aa rfl,zN3,λt z=>?_⟩⟩;have g:=Ac z (.tup [V.str "again",.int k,v1]);exact q _ _ g (by unfold lr;rw[if_neg c];exact .t (.inl qa) (.cons .s (.cons .i (.cons (a3.mono g.tp) .nil))))
 |trap p1=>
  obtain⟨a,rfl⟩:=Ga hp;obtain⟨x1,hs,h1⟩:=g2 hp;refine⟨hs.sq,Aa rfl,Z,Fe (by trivial) ⟨hs.sq,Aa rfl,Z,Kd ⟨Aj a1,Aa rfl,zN2,λt z=>?_⟩⟩⟩;have g:=Ac z (.tup [V.str "trap",v1]);exact q _ _ g (by unfold lr;rw[if_neg c];exact .t (.inl qa) (.cons .s (.cons (a3.mono g.tp) .nil)))
 |hold s p1=>
  obtain⟨a,rfl⟩:=Ga hp;obtain⟨x2,hs,h2⟩:=g3i hp;refine⟨hs.sq,Aa rfl,Z,Fe (by trivial) ⟨hs.sq,Aa rfl,Z,Fe (by trivial) ⟨hs.sq,Aa rfl,Z,Kd ⟨Aj a1,Aa rfl,l1,_,Z,.inl ⟨Ai a2,λt0 a5=>⟨zN2,λt2 a4=>?_⟩⟩⟩⟩⟩⟩;obtain⟨g0,n1,n2⟩:=Jz a5 a4;refine⟨(hs.mono g0.tp).sq,Aa rfl,Aj (g0 _ _ a1),Aa rfl,zN4,λt z=>?_⟩;have g:=Ac z (.tup [V.str "if",.int s,.ref t2,v1]);exact q _ _ (g0.trans g) (by unfold lr;rw[if_neg c];exact .t (.inl qa) (.cons .s (.cons .i (.cons (.t (.inl (g _ _ n2)) (.cons .s (.cons (.t (.inl (g _ _ n1)) (Su _)) .nil))) (.cons (a3.mono (g0.trans g).tp) .nil)))))
 |watch s p1=>
  obtain⟨a,rfl⟩:=Ga hp;obtain⟨x2,hs,h2⟩:=g3i hp;refine⟨hs.sq,Aa rfl,Z,Fe (by trivial) ⟨hs.sq,Aa rfl,Z,Fe (by trivial) ⟨hs.sq,Aa rfl,Z,Fe (by trivial) ?_⟩⟩⟩;refine⟨hs.sq,Aa rfl,Aj a1,Aa rfl,zN4,λt z=>?_⟩;have g:=Ac z (.tup [V.str "if",.int s,.ref aN,v1]);exact q _ _ g (by unfold lr;rw[if_neg c];exact .t (.inl qa) (.cons .s (.cons .i (.cons (.t (.inr T.mN) (.cons .s .nil)) (.cons (a3.mono g.tp) .nil)))))
 |_=>cases rd
def Ae8(F:Ao K mg "remaining" ["part","state"] G5)(T:Dk K mg aN aP aR uE uR uL)(dE:Ae P w K mg base 1 "left_of_pair" ["part","first","second"] (Acq K))(cS:Ae P w K mg base 1 "left_of_round" ["part","inner"] (Acv K))
  (aV:Ae P w K mg base (n+2) "remaining" ["part","state"] (Oj K n)):Ae P w K mg base (n+3) "remaining" ["part","state"] (Oj K (n+1)):=by
 refine F.ok Ig (λvs H Q E h=>?_) (λf cdv A outer s H vs Q E hr h=>?_)
 .obtain⟨v,p,st,ns,rfl,_⟩:=h;rfl
 obtain⟨v,p,st,ns,rfl,hp,hS,hh,hc,q⟩:=h
 refine⟨_,(Ab (Az (Bg Bz (pix (pv 0)) (Bj rfl T.m_PAIRS T.r_PAIRS) (by rfl))
   (Ab (pst 2 Ig.nd (pcl aV (pa2 (B7 Lr (pv 0) (Os Lz Am) (λ_ _=>rfl)) (pv 1))))
  (Ab (pst 3 Ig.nd (pcl aV (pa2 (B7 Lr (pv 0) (Os Lz Am) (λ_ _=>rfl)) (pv 1))))
  (Ad (Ag (Ap (pa2 (Au Ck (pix (pv 2)) (pix (pv 3))) (pcl dE (pa3 (pv 0) (pv 2) (pv 3)))))))))
   Ar)
  (Ab (Az (Bg Bz (pix (pv 0)) (Bj rfl T.m_ROUND T.r_ROUND) (by rfl))
   (Ab (pst 4 Ig.nd (pcl aV (pa2 (B7 Lr (pv 0) (Os Lz Am) (λ_ _=>rfl)) (pv 1))))
  (Ab (Az (PW.pt (Nq (pce (pix (pv 0)) Ah) (On (Bg Bz (pix (pv 0)) (pv 1) (by rfl)))))
   (Ad (Ag (Ap (pa2 (Au Ck (An (pa1 (pix (pv 0)))) (pix (pv 4))) (pv 0)))))
   Ar)
  (Ad (Ag (Ap (pa2 (pix (pv 4)) (pcl cS (pa2 (pv 0) (pv 4)))))))))
   Ar)
  (Ab (Az (PW.pt (Nq (pce (pix (pv 0)) Ah) (On (Bg Bz (pix (pv 0)) (pv 1) (by rfl)))))
   (Ad (Ag (Ap (pa2 (An (pa1 (pix (pv 0)))) (Bj rfl T.m_NOTHING T.r_NOTHING)))))
   Ar)
  (Ad (Ag (Ap (pa2 (An Bm) (pv 0)))))))),?_⟩
 obtain⟨a,vs,rfl,hs⟩:=J6 hp;refine⟨hs.sq,Aa rfl,aP,_,Z,.inr (.inr T.mP),Z,Z,Agd (λz=>?_) λz1=>⟨hs.sq,Aa rfl,aR,_,Z,.inr (.inr T.mR),Z,Z,AgY (λz=>?_) λz2=>?_⟩⟩
 .obtain⟨a',b4,x1,x2,p1,p2,ev,hs,i1,i2,h1,h2,c1,c2,hc,er⟩:=AfT hp z hh hc
  cases ev
  have l1:=Ou ns p1;rw[er]at q;refine⟨_,Z,hs.sq,i1,x1,p1,st,ns,Z,h1,hS,c1,adl hc,λt1 H1 g1 R1=>?_⟩;refine⟨_,Z,(hs.mono g1.tp).sq,i2,x2,p2,st,ns,Z,h2.mono g1.tp,g1.seq hS,c2,adr hc,λt2 H2 g2 R2=>?_⟩;have a7:=R1.mono g2;obtain⟨a5,v1,a1,a2,a3⟩:=id a7;obtain⟨b5,v2,b1,b2,b3⟩:=id R2;refine⟨Aj a1,Aa rfl,Aj b1,Aa rfl,a5,b5,_,_,Z,Z,a2,b2,by rw[vE,vE];exact Cq (W5 (zA (add_le_add l1 (Ou ns p2)) hc) (by decide)),λl hl=>?_⟩;have g3:=Ac hl (.lst (((rem ns p1).1.map V.int)++((rem ns p2).1.map V.int)));refine⟨_,p,t1,t2,_,_,Z,hp.mono ((g1.trans g2).trans g3).tp,z,a7.mono g3,R2.mono g3,λv' H4 g4 P4=>⟨zN2,λt ht=>?_⟩⟩;have g5:=Ac ht (.tup [.ref l,v']);refine q _ _ ((((g1.trans g2).trans g3).trans g4).trans g5) ⟨l,v',qa,?_,P4.mono g5.tp⟩;rw[g5 _ _ (g4 _ _ qa)];show some (HO.lst ((rem ns p1).1.map V.int++(rem ns p2).1.map V.int))=some (HO.lst (((rem ns p1).1++(rem ns p2).1).map V.int));rw[vQ]
 .obtain⟨a',b4,x1,p1,ev,hs,i1,h1,c1,c2,hor⟩:=AgK hp z hh hc
  cases ev
  have l1:=Ou ns p1;refine⟨_,Z,hs.sq,i1,x1,p1,st,ns,Z,h1,hS,c1,c2,λt1 H1 g1 R1=>?_⟩;have a6:=hs.mono g1.tp;obtain⟨a5,v1,a1,a2,a3⟩:=id R1;dsimp only[Bn];refine Y6 (Afa ns p) (λN a4=>?_) (λc=>?_) λc=>?_
  .rcases hor with⟨k,rfl,a8,rfl⟩|⟨na,_⟩
   .refine⟨a6.sq,Aa rfl,Z,Kd ⟨a6.sq,Aa rfl,st,_,Z,.inl (g1.seq hS),Z,Cb ns,?_⟩⟩
    rw[Ej];exact a4
   .refine⟨a6.sq,Aa rfl,Z,Fe na ?_⟩
    rw[Zh na ns]at a4;exact a4
  .rcases hor with⟨k,rfl,a8,rfl⟩|⟨na,_⟩
   .have c:k∈ns:=vN c
    refine⟨a6.sq,Aa rfl,zN1,λl0 a9=>?_⟩;have g2:=Ac a9 (.lst [V.int k]);refine⟨Aj (g2 _ _ a1),Aa rfl,l0,a5,_,_,Z,Z,qa,g2 _ _ a2,by rw[vE];show 1+_<=sizeLine;exact Cq (zA (add_le_add_left (zA l1 c2) 1) (by decide)),λl hl=>?_⟩;have g3:=Ac hl (.lst ([V.int k]++(rem ns p1).1.map V.int));refine⟨zN2,λt ht=>?_⟩;have g5:=Ac ht (.tup [.ref l,.ref a]);refine q _ _ (((g1.trans g2).trans g3).trans g5) ?_;rw[show rem ns (.again k p1)=([k]++(rem ns p1).1,.again k p1) from by simp only[rem];rw[if_pos c]];exact⟨l,_,qa,g5 _ _ qa,hp.mono (((g1.trans g2).trans g3).trans g5).tp⟩
   .rw[Zh na ns]at c
    cases c
  .have er:rem ns p=((rem ns p1).1,lr p (rem ns p1)):=by
    rcases hor with⟨k,rfl,_,_⟩|⟨_,h⟩
    .simp only[rem];rw[if_neg (of_decide_eq_false c)]
    .exact h ns
   rw[er]at q;refine⟨Aj a1,Aa rfl,_,p,t1,_,Z,hp.mono g1.tp,z,R1,λv' H4 g4 P4=>⟨zN2,λt ht=>?_⟩⟩;have g5:=Ac ht (.tup [.ref a5,v']);exact q _ _ ((g1.trans g4).trans g5) ⟨a5,v',qa,g5 _ _ (g4 _ _ a2),P4.mono g5.tp⟩
 .dsimp only[tNext]
  refine Y6 (AbX ns p) (λN a4=>?_) (λc=>?_) λc=>?_
  .by_cases z:wdP p ="rest"
   .obtain⟨k,rfl⟩:=Kj z
    have hs:=g2i hp;refine⟨hs.sq,Aa rfl,Z,Kd ⟨hs.sq,Aa rfl,st,_,Z,.inl hS,Z,Cb ns,?_⟩⟩;rw[Ej];exact a4
   .refine⟨hs.sq,Aa rfl,Z,Fe z ?_⟩
    rw[Th z ns]at a4;exact a4
  .obtain⟨k,rfl⟩:∃k,p=.rest k:=Kj (uM λz=>by rw[Th z ns]at c;cases c)
   have c:k∈ns:=vN c;have hs:=g2i hp;refine⟨hs.sq,Aa rfl,zN1,λl hl=>⟨zN2,λt ht=>?_⟩⟩;obtain⟨g,n1,n2⟩:=Jz hl ht;refine q _ _ g ?_;rw[show rem ns (.rest k)=([k],.nothing) from by simp only[rem];rw[if_pos c]];exact⟨l,_,n2,n1,.t (.inr T.mN) (.cons .s .nil)⟩
  .have er:rem ns p=([],p):=by
    by_cases z:wdP p ="rest"
    .obtain⟨k,rfl⟩:=Kj z
     simp only[rem];rw[if_neg (of_decide_eq_false c)]
    .exact AdK z1 z2 z ns
   rw[er]at q;refine⟨zN0,λl hl=>⟨zN2,λt ht=>?_⟩⟩;obtain⟨g,n1,n2⟩:=Jz hl ht;exact q _ _ g ⟨l,_,n2,n1,hp.mono g.tp⟩
def Yj(F:Ao K mg "remaining" ["part","state"] G5)(T:Dk K mg aN aP aR uE uR uL)(CP:Ae P w K mg base 1 "left_of_pair" ["part","first","second"] (Acq K))(CR:Ae P w K mg base 1 "left_of_round" ["part","inner"] (Acv K)) :
  ∀n,Ae P w K mg base (n+2) "remaining" ["part","state"] (Oj K n)
 |0=>(F.zero λvs H Q E h=>by obtain⟨v,p,st,ns,_,_,_,z,_⟩:=h;exact absurd z (not_le_of_gt (Pt.hg_pos p))).mono (by decide)
 |n+1=>Ae8 F T CP CR (Yj F T CP CR n)
def Af8(F:Ao K mg "part_to_begin" ["part","state"] F7)(T:Dk K mg aN aP aR uE uR uL)(aV:Ae P w K mg base (n+2) "remaining" ["part","state"] (Oj K n)) :
  Ae P w K mg base (n+3) "part_to_begin" ["part","state"] (AaS K n):=by
 refine F.ok O6 (λvs H Q E h=>?_) (λf _ A _ s H _ Q E _ h=>?_)
 .obtain⟨v,p,sv,st,rfl,_⟩:=h;rfl
 obtain⟨v,p,sv,st,rfl,hp,hS,hb,q⟩:=h
 refine⟨_,(Ab (Az (Bg Ln (pv 1) B5 (B4 _))
   (Ad (Ag (pv 0)))
   Ar)
  (Ad (Ag (pix (pcl aV (pa2 (pv 0) (pv 1))))))),?_⟩
 cases st with
 |none=>
  subst hS;exact⟨Z,Dg (q _ _ (Bv _) hp)⟩
 |some ns=>
  obtain⟨a,rfl,hS⟩:=hS;obtain⟨hh,hc⟩:=hb.resolve_left (λz=>by cases z);refine⟨Z,Fh ⟨v,p,a,ns,Z,hp,hS,hh,hc,λt _ g1 ⟨l,v1,a1,a2,a3⟩=>?_⟩⟩;exact⟨Aj a1,Aa rfl,q _ _ g1 a3⟩
inductive Io(H:Hp)(t:Addr)(d:Dd)   : Prop
 |mk(l1)(l2)(_:H t=some (.tup [.int d.1,.ref l1,.ref l2]))(_:H l1=some (.lst (d.2.1.map V.int)))(_:H l2=some (.lst (d.2.2.map V.int))):Io H t d
def Io.mono(g:Same H H')(h:Io H t d):Io H' t d:=by
 obtain⟨l1,l2,h1,h2,h3⟩:=h;exact⟨l1,l2,g _ _ h1,g _ _ h2,g _ _ h3⟩
def Lm(d:Dd):Prop:=d.2.1.length<=900/\d.2.2.length<=900
inductive AcG(K:FA)(vs:List V)(H:Hp)(Q:VK):Prop
 |mk(v)(p)(_:vs=[v])(_:PAt K H (Pt.nd p) v)(_:E5 p=true)(_:p.lc<=900)(_:∀l H',Same H H'->H' l=some (.lst ((beg [] p).2.2.map V.int))->Q (.ref l) H')
def Acu(K:FA):Sp:=λvs H Q _=>AcG K vs H Q
inductive Abe(K:FA)(vs:List V)(H:Hp)(Q:VK):Prop
 |mk(v)(p)(_:vs=[v])(_:PAt K H (Pt.nd p) v)(_:E5 p=true)(_:p.lc<=900)(_:∀t H',Same H H'->Io H' t (beg [] p)->Q (.ref t) H')
def Aca(K:FA):Sp:=λvs H Q _=>Abe K vs H Q
inductive Wj  (vs:List V) (H:Hp) (Q:VK):Prop
 |mk(t1)(t2)(a:_)(b)(_:vs=[.ref t1,.ref t2])(_:Io H t1 a)(_:Io H t2 b)(_:Lm a)(_:Lm b)(_:∀t H',Same H H'->Io H' t (Md a b)->Q (.ref t) H'):Wj  vs H Q
def Vr:Sp:=λvs H Q _=>Wj  vs H Q
inductive Vv  (vs:List V) (H:Hp) (Q:VK):Prop
 |mk(t1)(t2)(a:_)(b)(_:vs=[.ref t1,.ref t2])(_:Io H t1 a)(_:Io H t2 b)(_:Lm a)(_:Lm b)(_:∀t H',Same H H'->Io H' t (Hw a b)->Q (.ref t) H'):Vv  vs H Q
def Ve:Sp:=λvs H Q _=>Vv  vs H Q
inductive Zo  (vs:List V) (H:Hp) (Q:VK):Prop
 |mk(k:Int)(t1:Addr)(a:Dd)(_:vs=[.int k,.ref t1])(_:Io H t1 a)(_:∀t H',Same H H'->Io H' t (Pz k a)->Q (.ref t) H'):Zo  vs H Q
def AaW:Sp:=λvs H Q _=>Zo  vs H Q
inductive Yl(K:FA)(n:Nat)(vs:List V)(H:Hp)(Q:VK):Prop
 |mk(v)(p)(th)(ns)(_:vs=[v,.ref th])(_:PAt K H (Pt.nd p) v)(_:SqL K H th ((ns:List Int).map V.int))(_:p.hg<=n)(_:p.sc<=900)(_:p.lc<=900)(_:∀t H',Same H H'->Io H' t (beg ns p)->Q (.ref t) H')
def Qp(K:FA)(n:Nat):Sp:=λvs H Q _=>Yl K n vs H Q
def sm9(h1:p.sc<=900)(h2:p.lc<=900):Lm (beg ns p):=⟨zA (Ov _ p).1 h1,zA (Ov _ p).2 h2⟩
def Agy(H H':Hp)(t:Addr)(d:Dd):Prop:=∃l1 l2,H' t=some (.tup [.int d.1,.ref l1,.ref l2])/\H' l1=some (.lst (d.2.1.map V.int))/\H' l2=some (.lst (d.2.2.map V.int))/\H l1=none/\H l2=none/\l1≠l2
inductive W6(K:FA)(n:Nat)(vs:List V)(H:Hp)(Q:VK):Prop
 |mk(v)(p)(sv)(st:_)(th)(ns)(_:vs=[v,sv,.ref th])(_:PAt K H (Pt.nd p) v)(_:Hu K H st sv)(_:SqL K H th ((ns:List Int).map V.int))(_:(st=none\/(p.hg<=n/\p.rc<=900)))(_:(pb p st).hg<=n)(_:(pb p st).sc<64)(_:(pb p st).lc<64)(_:∀t H',Same H H'->Agy H H' t (Rs p st ns)->Q (.ref t) H')
def AcE(K:FA)(n:Nat):Sp:=λvs H Q _=>W6 K n vs H Q
def Agp(F:Ao K mg "rests_left" ["part"] Iv)(T:Dk K mg aN aP aR uE uR uL):Ae P w K mg base 1 "rests_left" ["part"] (Acu K):=by
 refine F.ok Tu (λvs H Q E h=>?_) (λf cdv A outer s H vs Q E hr h=>?_)
 .obtain⟨v,p,rfl,_⟩:=h;rfl
 obtain⟨v,p,rfl,hp,lf,hc,q⟩:=h
 refine⟨_,(Ab (Az (pce (pix (pv 0)) Ah)
   (Ad (Ag (An (pa1 (pix (pv 0))))))
   Ar)
  (Ad (Ag (Bq (pce (pix (pv 0)) Ah) (Dp Ng rfl T.n_list (by trivial) (pa1 (pix (pv 0)))) (An Bm))))),?_⟩
 obtain⟨a,vs,rfl,hs⟩:=J6 hp;refine⟨hs.sq,Aa rfl,Z,Ci (λe=>?_) λn1=>⟨hs.sq,Aa rfl,Z,Ci (λe=>?_) λn2=>?_⟩⟩
 .obtain⟨x,rfl⟩:=Kj e
  have hs:=g2i hp;exact⟨hs.sq,Aa rfl,zN1,λl hl=>q _ _ (Ac hl _) qa⟩
 .obtain⟨ks,rfl⟩:=Zd e
  obtain⟨x1,hs,h1⟩:=g2 hp;obtain⟨a2,a3,rfl,a1,z⟩:=PAt.get h1;cases Um z
  exact⟨hs.sq,Aa rfl,a2,_,Z,.inr a1.sq,λl hl=>q _ _ (Ac hl _) qa⟩
 .rw[Aeo lf n1 n2]at q
  exact⟨zN0,λl hl=>q _ _ (Ac hl _) qa⟩
def Agm(F:El K mg "begun_leaf_instants" "begun_leaf" ["part"] Dr)(T:Dk K mg aN aP aR uE uR uL)(bA:Ae P w K mg base 1 "leaf_code" ["part"] (Kg K))(eB:Ae P w K mg base 1 "rests_left" ["part"] (Acu K)):Ae P w K mg base 2 "begun_leaf_instants" ["part"] (Aca K):=by
 refine F.ok G3 (λvs H Q E h=>?_) (λf _ A _ s H _ Q E _ h=>?_)
 .obtain⟨v,p,rfl,_⟩:=h;rfl
 obtain⟨v,p,rfl,hp,lf,hc,q⟩:=h
 refine⟨_,(Ab (pst 1 G3.nd (Bq (pce (pix (pv 0)) Ah) (An (pa1 (pix (pv 0)))) (An Bm)))
  (Ad (Ag (Ap (pa3 (pcl bA (pa1 (pv 0))) (pv 1) (pcl eB (pa1 (pv 0)))))))),?_⟩
 have z:∀(l1:Addr)(xs:List V)(hl:H l1=none)(e:xs=(beg [] p).2.1.map V.int),(Mf (Bl (Hy (Kg K) [] E0 (Bl (Aw 0) Cs)) (Bl (Aw 1) (Bl (Hy (Acu K) [] E0 (Bl (Aw 0) Cs)) Cs)))) [some v,some (.ref l1)] (upd H l1 (.lst xs)) Q:=by
  intro l1 xs hl e;subst e;have g1:=Ac hl (.lst ((beg [] p).2.1.map V.int));refine⟨v,p,Z,hp.mono g1.tp,lf,v,p,Z,hp.mono g1.tp,lf,hc,λl2 H2 g2 e2=>⟨zN3,λt ht=>?_⟩⟩;have g3:=Ac ht (.tup [.int (beg [] p).1,.ref l1,.ref l2]);exact q _ _ ((g1.trans g2).trans g3) ⟨l1,l2,qa,g3 _ _ (g2 _ _ qa),g3 _ _ e2⟩
 obtain⟨a,vs,rfl,hs⟩:=J6 hp;refine⟨hs.sq,Aa (j:=0) rfl,Z,Ci (λe=>?_) λn1=>⟨zN0,λl hl=>z l [] hl (by rw[AeD lf n1];rfl)⟩⟩;obtain⟨x,rfl⟩:=Yg e;exact⟨(g2i hp).sq,Aa (j:=1) rfl,zN1,λl hl=>z l _ hl rfl⟩
def Aed(F:El K mg "in_turn_instants" "in_turn" ["first","second"] E1)(T:Dk K mg aN aP aR uE uR uL):Ae P w K mg base 1 "in_turn_instants" ["first","second"] Vr:=by
 refine F.ok M7 (λvs H Q E h=>?_) (λf _ A _ s H _ Q E _ h=>?_)
 .obtain⟨t1,t2,da,z,rfl,_⟩:=h;rfl
 obtain⟨t1,t2,da,z,rfl,⟨l1,l2,a1,a2,a3⟩,⟨m1,m2,b1,b2,b3⟩,sa,sb,q⟩:=h;refine⟨_,(Ad (Ag (Ap (pa3 (pix (pv 1)) (Au Ck (pix (pv 0)) (pix (pv 1))) (pix (pv 1)))))),?_⟩;refine⟨Aj b1,Aa rfl,Aj a1,Aa rfl,Aj b1,Aa rfl,l1,m1,_,_,Z,Z,a2,b2,by rw[vE,vE];exact zA (add_le_add sa.1 sb.1) (by decide),λl hl=>?_⟩;have g1:=Ac hl (.lst (da.2.1.map V.int++z.2.1.map V.int));refine⟨Aj (g1 _ _ b1),Aa rfl,zN3,λt ht=>?_⟩;have g2:=Ac ht (.tup [.int z.1,.ref l,.ref m2]);refine q _ _ (g1.trans g2) ⟨l,m2,qa,?_,g2 _ _ (g1 _ _ b3)⟩;rw[g2 _ _ qa];show some (HO.lst (da.2.1.map V.int++z.2.1.map V.int))=some (HO.lst ((da.2.1++z.2.1).map V.int));rw[vQ]
def AeU(F:El K mg "side_by_side_instants" "side_by_side" ["first","second"] De)(T:Dk K mg aN aP aR uE uR uL):Ae P w K mg base 1 "side_by_side_instants" ["first","second"] Ve:=by
 refine F.ok Ei (λvs H Q E h=>?_) (λf cdv A outer s H vs Q E hr h=>?_)
 .obtain⟨t1,t2,da,z,rfl,_⟩:=h;rfl
 obtain⟨t1,t2,da,z,rfl,⟨l1,l2,a1,a2,a3⟩,⟨m1,m2,b1,b2,b3⟩,sa,sb,q⟩:=h
 refine⟨_,(Ab (pst 2 Ei.nd (Bs (Na rfl) rfl T.n_max (by trivial) (pa2 (pix (pv 0)) (pix (pv 1)))))
  (Ab (pst 3 Ei.nd (Bq (pce (pv 2) (Bj rfl T.m_RESTS T.r_RESTS)) (Au Ck (pix (pv 0)) (pix (pv 1))) (An Bm)))
  (Ad (Ag (Ap (pa3 (pv 2) (Au Ck (pix (pv 0)) (pix (pv 1))) (pv 3))))))),?_⟩
 refine⟨Aj a1,Aa rfl,Aj b1,Aa rfl,_,_,Z,?_⟩
 have a4:∀(l0:Addr)(xs:List Int)(hl:H l0=none)(e:xs=(Hw da z).2.2),(Mf (Bl (Aw 2) (Bl (tOp AaN (tOp (E3 K) (Aw 0) (tC (.int 1))) (tOp (E3 K) (Aw 1) (tC (.int 1)))) (Bl (Aw 3) Cs)))) [some (.ref t1),some (.ref t2),some (.int (Hw da z).1),some (.ref l0)] (upd H l0 (.lst (xs.map V.int))) Q:=by
  intro l0 xs hl e;subst e;have g0:=Ac hl (.lst ((Hw da z).2.2.map V.int));refine⟨Aj (g0 _ _ a1),Aa rfl,Aj (g0 _ _ b1),Aa rfl,l1,m1,_,_,Z,Z,g0 _ _ a2,g0 _ _ b2,by rw[vE,vE];exact zA (add_le_add sa.1 sb.1) (by decide),λl a5=>?_⟩;have g1:=Ac a5 (.lst (da.2.1.map V.int++z.2.1.map V.int));refine⟨zN3,λt ht=>?_⟩;have g2:=Ac ht (.tup [.int (Hw da z).1,.ref l,.ref l0]);refine q _ _ ((g0.trans g1).trans g2) ⟨l,l0,qa,?_,g2 _ _ (g1 _ _ qa)⟩;rw[g2 _ _ qa];show some (HO.lst (da.2.1.map V.int++z.2.1.map V.int))=some (HO.lst ((da.2.1++z.2.1).map V.int));rw[vQ]
 refine⟨Z,Xe (λc=>?_) λc=>?_⟩
 .refine⟨Aj a1,Aa rfl,Aj b1,Aa rfl,l2,m2,_,_,Z,Z,a3,b3,by rw[vE,vE];exact zA (add_le_add sa.2 sb.2) (by decide),λl hl=>?_⟩
  rw[<-vQ];exact a4 l _ hl (by unfold Hw;dsimp only;rw[if_pos c])
 .exact⟨zN0,λl hl=>a4 l [] hl (by unfold Hw;dsimp only;rw[if_neg c])⟩
def Afh(F:Ao K mg "repeated" ["rest","inner"] Ke)(T:Dk K mg aN aP aR uE uR uL)(aU:Ae P w K mg base 1 "code_of_again" ["code"] Mw):Ae P w K mg base 2 "repeated" ["rest","inner"] AaW:=by
 refine F.ok O0 (λvs H Q E h=>?_) (λf _ A _ s H _ Q E _ h=>?_)
 .obtain⟨k,t1,da,rfl,_⟩:=h;rfl
 obtain⟨k,t1,da,rfl,⟨l1,l2,z,a2,a3⟩,q⟩:=h
 refine⟨_,(Ab (pst 2 O0.nd (Bq (pce (pix (pv 1)) (Bj rfl T.m_ENDED T.r_ENDED)) (An (pa1 (pv 0))) (pix (pv 1))))
  (Ad (Ag (Ap (pa3 (pcl aU (pa1 (pix (pv 1)))) (pix (pv 1)) (pv 2)))))),?_⟩
 refine⟨Aj z,Aa (j:=0) rfl,Z,Xe (λc=>?_) λc=>?_⟩
 .refine⟨zN1,λl hl=>?_⟩
  have g0:=Ac hl (.lst [.int k]);refine⟨Aj (g0 _ _ z),Aa (j:=0) rfl,_,Z,Aj (g0 _ _ z),Aa (j:=1) rfl,zN3,λt ht=>?_⟩;have g2:=Ac ht (.tup [.int (agC da.1),.ref l1,.ref l]);exact q _ _ (g0.trans g2) ⟨l1,l,qa,g2 _ _ (g0 _ _ a2),by rw[show(Pz k da).2.2=[k] from if_pos c];exact g2 _ _ qa⟩
 .refine⟨Aj z,Aa (j:=2) rfl,?_⟩
  refine⟨Aj z,Aa (j:=0) rfl,_,Z,Aj z,Aa (j:=1) rfl,zN3,λt ht=>?_⟩;have g2:=Ac ht (.tup [.int (agC da.1),.ref l1,.ref l2]);exact q _ _ g2 ⟨l1,l2,qa,g2 _ _ a2,by rw[show(Pz k da).2.2=da.2.2 from if_neg c];exact g2 _ _ a3⟩
def Af6(F:El K mg "begun_instants" "begun" ["part","there"] En)(T:Dk K mg aN aP aR uE uR uL)(bX:Ae P w K mg base 2 "begun_leaf_instants" ["part"] (Aca K))(cD:Ae P w K mg base 1 "in_turn_instants" ["first","second"] Vr)(bN:Ae P w K mg base 1 "side_by_side_instants" ["first","second"] Ve)
  (hZ:Ae P w K mg base 2 "repeated" ["rest","inner"] AaW) (aW:Ae P w K mg base 1 "code_of_trap" ["code"] K4) (aD:Ae P w K mg base (n+2) "begun_instants" ["part","there"] (Qp K n)):Ae P w K mg base (n+3) "begun_instants" ["part","there"] (Qp K (n+1)):=by
 refine F.ok Fd (λvs H Q E h=>?_) (λf cdv A outer s H vs Q E hr h=>?_)
 .obtain⟨v,p,st,ns,rfl,_⟩:=h;rfl
 obtain⟨v,p,st,ns,rfl,hp,hS,hh,a4,z,q⟩:=h
 refine⟨_,(Ab (pst 2 Fd.nd (pix (pv 0)))
  (Ab (Az (pce (pv 2) Ah)
   (Ab (pst 3 Fd.nd (pcl aD (pa2 (pix (pv 0)) (pv 1))))
  (Ad (Ag (Bq (pce (pix (pv 3)) (Bj rfl T.m_ENDED T.r_ENDED)) (pcl cD (pa2 (pv 3) (pcl aD (pa2 (pix (pv 0)) (pv 1))))) (pv 3)))))
   Ar)
  (Ab (Az (pce (pv 2) Ah)
   (Ad (Ag (pcl bN (pa2 (pcl aD (pa2 (pix (pv 0)) (pv 1))) (pcl aD (pa2 (pix (pv 0)) (pv 1)))))))
   Ar)
  (Ab (Az (pce (pv 2) Ah)
   (Ad (Ag (pcl aD (pa2 (Bq (Bg Bz (pix (pv 0)) (pv 1) (by rfl)) (pix (pv 0)) (pix (pv 0))) (pv 1)))))
   Ar)
  (Ab (Az (pce (pv 2) Ah)
   (Ad (Ag (pcl hZ (pa2 (pix (pv 0)) (pcl aD (pa2 (pix (pv 0)) (pv 1)))))))
   Ar)
  (Ab (Az (PW.pt (Ha (pce (pv 2) Ah) (F8 (pce (pv 2) Ah))))
   (Ad (Ag (pcl aD (pa2 (pix (pv 0)) (pv 1)))))
   Ar)
  (Ab (Az (pce (pv 2) Ah)
   (Ab (pst 4 Fd.nd (pcl aD (pa2 (pix (pv 0)) (pv 1))))
  (Ad (Ag (Ap (pa3 (pcl aW (pa1 (pix (pv 4)))) (pix (pv 4)) (pix (pv 4)))))))
   Ar)
  (Ad (Ag (pcl bX (pa1 (pv 0)))))))))))),?_⟩
 obtain⟨a,vs,rfl,hs⟩:=J6 hp;refine⟨hs.sq,Aa rfl,Z,Ci (λe=>?_) λn1=>⟨Z,Ci (λe=>?_) λn2=>⟨Z,Ci (λe=>?_) λn3=>⟨Z,Ci (λe=>?_) λn4=>⟨Z,Ci (λe=>Dg ?_) λn5=>⟨Z,Ci (λe=>?_) λn6=>⟨Z,Ci (λe=>?_) λn7=>?_⟩⟩⟩⟩⟩⟩⟩
 .obtain⟨p1,p2,rfl⟩:=Qj e
  obtain⟨x1,x2,hs,h1,h2⟩:=g3 hp;refine⟨hs.sq,Aa rfl,x1,p1,st,ns,Z,h1,hS,hgl hh,adl a4,mxl z,λt1 H1 g1 R1=>?_⟩;obtain⟨l1,l2,a1,a2,a3⟩:=id R1;refine⟨Aj a1,Aa rfl,Z,Xe (λc=>?_) λc=>?_⟩
  .refine⟨(hs.mono g1.tp).sq,Aa rfl,x2,p2,st,ns,Z,h2.mono g1.tp,g1.seq hS,hgr hh,adr a4,mxr z,λt2 H2 g2 R2=>?_⟩
   refine⟨t1,t2,_,_,Z,R1.mono g2,R2,sm9 (adl a4) (mxl z),sm9 (adr a4) (mxr z),λt H3 g3 R3=>?_⟩;exact q _ _ ((g1.trans g2).trans g3) (by rw[show beg ns (.thn p1 p2)=Md (beg ns p1) (beg ns p2) from by simp only[beg];rw[if_pos c]];exact R3)
  .exact(q _ _ g1 (by rw[show beg ns (.thn p1 p2)=beg ns p1 from by simp only[beg];rw[if_neg c]];exact R1))
 .obtain⟨p1,p2,rfl⟩:=Abl e
  obtain⟨x1,x2,hs,h1,h2⟩:=g3 hp;refine⟨hs.sq,Aa rfl,x1,p1,st,ns,Z,h1,hS,hgl hh,adl a4,adl z,λt1 H1 g1 R1=>?_⟩;refine⟨(hs.mono g1.tp).sq,Aa rfl,x2,p2,st,ns,Z,h2.mono g1.tp,g1.seq hS,hgr hh,adr a4,adr z,λt2 H2 g2 R2=>?_⟩;exact⟨t1,t2,_,_,Z,R1.mono g2,R2,sm9 (adl a4) (adl z),sm9 (adr a4) (adr z),λt H3 g3 R3=>q _ _ ((g1.trans g2).trans g3) R3⟩
 .obtain⟨sn,p1,p2,rfl⟩:=Uq e
  obtain⟨x2,x3,hs,h2,h3⟩:=g4i hp;refine⟨hs.sq,Aa rfl,st,_,Z,.inl hS,Z,Cb ns,Uo (λc=>?_) λc=>?_⟩
  .exact⟨hs.sq,Aa rfl,x2,p1,st,ns,Z,h2,hS,hgl hh,adl a4,mxl z,λt1 H1 g1 R1=>q _ _ g1 (by rw[show beg ns (.iff sn p1 p2)=beg ns p1 from by simp only[beg];rw[if_pos c]];exact R1)⟩
  .exact⟨hs.sq,Aa rfl,x3,p2,st,ns,Z,h3,hS,hgr hh,adr a4,mxr z,λt1 H1 g1 R1=>q _ _ g1 (by rw[show beg ns (.iff sn p1 p2)=beg ns p2 from by simp only[beg];rw[if_neg c]];exact R1)⟩
 .obtain⟨kn,p1,rfl⟩:=Uv e
  obtain⟨x2,hs,h2⟩:=g3i hp;refine⟨hs.sq,Aa rfl,hs.sq,Aa rfl,x2,p1,st,ns,Z,h2,hS,le_of_succ_le_succ hh,a4,mxr z,λt1 H1 g1 R1=>?_⟩;exact⟨kn,t1,_,Z,R1,λt H3 g3 R3=>q _ _ (g1.trans g3) R3⟩
 .obtain⟨sn,p1,rfl⟩:=Lp e
  obtain⟨x2,hs,h2⟩:=g3i hp;exact⟨hs.sq,Aa rfl,x2,p1,st,ns,Z,h2,hS,le_of_succ_le_succ hh,a4,z,λt1 H1 g1 R1=>q _ _ g1 R1⟩
 .obtain⟨sn,p1,rfl⟩:=O8 e
  obtain⟨x2,hs,h2⟩:=g3i hp;exact⟨hs.sq,Aa rfl,x2,p1,st,ns,Z,h2,hS,le_of_succ_le_succ hh,a4,z,λt1 H1 g1 R1=>q _ _ g1 R1⟩
 .obtain⟨p1,rfl⟩:=Ry e
  obtain⟨x1,hs,h1⟩:=g2 hp;refine⟨hs.sq,Aa rfl,x1,p1,st,ns,Z,h1,hS,le_of_succ_le_succ hh,a4,z,λt1 H1 g1 R1=>?_⟩;obtain⟨l1,l2,a1,a2,a3⟩:=id R1;refine⟨Aj a1,Aa rfl,_,Z,Aj a1,Aa rfl,Aj a1,Aa rfl,zN3,λt ht=>?_⟩;have g2:=Ac ht (.tup [.int (Ch (beg ns p1).1),.ref l1,.ref l2]);exact q _ _ (g1.trans g2) ⟨l1,l2,qa,g2 _ _ a2,g2 _ _ a3⟩
 .have lf:=Xs n1 n2 n3 n4 n5 n6 n7
  exact⟨_,p,Z,hp,lf,z,λt1 H1 g1 R1=>q _ _ g1 (by rw[Acr lf ns []];exact R1)⟩
def X2(F:El K mg "begun_instants" "begun" ["part","there"] En)(T:Dk K mg aN aP aR uE uR uL)(z:Ae P w K mg base 2 "begun_leaf_instants" ["part"] (Aca K))(C2:Ae P w K mg base 1 "in_turn_instants" ["first","second"] Vr)(C3:Ae P w K mg base 1 "side_by_side_instants" ["first","second"] Ve)
  (C4:Ae P w K mg base 2 "repeated" ["rest","inner"] AaW) (C5:Ae P w K mg base 1 "code_of_trap" ["code"] K4):∀n,Ae P w K mg base (n+2) "begun_instants" ["part","there"] (Qp K n)
 |0=>(F.zero λvs H Q E h=>by obtain⟨v,p,st,ns,_,_,_,hh,_⟩:=h;exact absurd hh (not_le_of_gt (Pt.hg_pos p))).mono (by decide)
 |n+1=>Af6 F T z C2 C3 C4 C5 (X2 F T z C2 C3 C4 C5 n)
def Adt(F:Ao K mg "ran" ["part","state","there"] Ub)(T:Dk K mg aN aP aR uE uR uL)(bC:Ae P w K mg base (n+3) "part_to_begin" ["part","state"] (AaS K n))(aD:Ae P w K mg base (n+2) "begun_instants" ["part","there"] (Qp K n)) :
  Ae P w K mg base (n+4) "ran" ["part","state","there"] (AcE K n):=by
 refine F.ok AbO (λvs H Q E h=>?_) (λf cdv A outer s H vs Q E hr h=>?_)
 .obtain⟨v,p,sv,st,th,ns,rfl,_⟩:=h;rfl
 obtain⟨v,p,sv,st,th,ns,rfl,hp,a7,hS,hb,k1,k2,k3,q⟩:=h
 refine⟨_,(Ab (pst 3 AbO.nd (pcl aD (pa2 (pcl bC (pa2 (pv 0) (pv 1))) (pv 2))))
  (Ad (Ag (Ap (pa3 (pix (pv 3)) (Gq rfl rfl T.n_sorted rfl T.n_set (pix (pv 3))) (Bs O3 rfl T.n_sorted (by trivial) (pa1 (pix (pv 3))))))))),?_⟩
 refine⟨v,p,sv,st,Z,hp,a7,hb,λv1 H1 g1 P1=>?_⟩;refine⟨v1,pb p st,th,ns,Z,P1,g1.seq hS,k1,lt9 k2,lt9 k3,λt H2 g2 ⟨l1,l2,a1,a2,a3⟩=>?_⟩;obtain⟨c1,c2⟩:=Ov ns (pb p st);refine⟨Aj a1,Aa rfl,Aj a1,Aa rfl,l1,_,Z,Ai a2,zE c1 k2,λr1 a5=>?_⟩;have g3:=Ac a5 (.lst ((nub (beg ns (pb p st)).2.1).map V.int));refine⟨Aj (g3 _ _ a1),Aa rfl,l2,_,Z,Ai (g3 _ _ a3),zE c2 k3,λr2 ms a4 pm om=>?_⟩;cases Ac0 pm om
 have g4:=Ac a4 (.lst ((Mg (beg ns (pb p st)).2.2).map V.int));refine⟨zN3,λt2 a6=>?_⟩;have g5:=Ac a6 (.tup [.int (beg ns (pb p st)).1,.ref r1,.ref r2]);have z:=g1.trans g2;refine q _ _ (((z.trans g3).trans g4).trans g5) ⟨r1,r2,qa,g5 _ _ (g4 _ _ qa),g5 _ _ qa,z.free a5,(z.trans g3).free a4,ne_of_none qa a4⟩
abbrev Wk:=List Int×Bool×List Int×List Int
def vO:Option Bool->V
 |none=>.non
 |some b=>.bl b
abbrev AeO:V:=.int 0
def Bi:List Int->Int
 |[]=>0
 |[x]=>x
 |x::y::r=>if Bi (y::r)<x then Bi (y::r) else x
theorem Fp:∀{l:List Int},0<l.length->Bi l∈l/\∀a∈l,Bi l<=a
 |[x],_=>⟨zG.mpr rfl,λa ha=>by rcases mS ha with rfl;exact Int.le_refl _⟩
 |x::y::r,_=>by
  obtain⟨h1,h2⟩:=Fp (l:=y::r) (Nat.succ_pos _);unfold Bi;split
  .next c=>exact⟨vI _ h1,λa ha=>(zM.mp ha).elim (λe=>e▸Int.le_of_lt c) λz=>h2 a z⟩
  .next c=>exact⟨vH,λa ha=>(zM.mp ha).elim (λe=>e▸Int.le_refl _) λz=>Int.le_trans (Int.not_lt.mp c) (h2 a z)⟩
def Zp(h1:M∈l)(h2:∀a∈l,M<=a):M=Bi l:=by
 obtain⟨k1,z⟩:=Fp (length_pos_of_mem h1);exact Int.le_antisymm (h2 _ k1) (z _ h1)
def mx(a b:Int):Int:=if b>a then b else a
def Ik(a b:Wk):Wk:=(nub (a.1.filter (λc=>!decide (c=0))++b.1),b.2.1,a.2.2.1++b.2.2.1,a.2.2.2++b.2.2.2)
def F1(a b:Wk):Wk:=((nub (a.1++b.1)).filter (λc=>decide (mx (Bi a.1) (Bi b.1)<=c)),a.2.1&&b.2.1,a.2.2.1++b.2.2.1,a.2.2.2++b.2.2.2)
def Je(a b:Wk):Wk:=(nub (a.1++b.1),false,[],a.2.2.2++b.2.2.2)
def Lk(f:Int->Int)(a:Wk):Wk:=(nub (a.1.map f),a.2.1,a.2.2.1,a.2.2.2)
def wbeg(kn:List (Option Bool)):Bool->Pt->Wk
 |s,.thn p q=>if 0∈(wbeg kn s p).1 then Ik (wbeg kn s p) (wbeg kn (wbeg kn s p).2.1 q) else wbeg kn s p
 |s,.bes p q=>F1 (wbeg kn s p) (wbeg kn s q)
 |s,.iff x p q=>match (kn[x.toNat]?).getD none with
  |none=>Je (wbeg kn false p) (wbeg kn false q)
  |some true=>wbeg kn s p
  |some false=>wbeg kn s q
 |s,.again _ p=>Lk agC (wbeg kn s p)
 |s,.hold _ p=>wbeg kn s p
 |s,.watch _ p=>wbeg kn s p
 |s,.trap p=>Lk Ch (wbeg kn s p)
 |s,.nothing=>([0],s,[],[])
 |s,.send x=>([0],s,if s=true then [x] else [],[x])
 |s,.exit d=>([2+d],s,[],[])
 |s,.rest _=>([1],s,[],[])
 |s,.stay _=>([1],s,[],[])
def okW(sg:Int):Pt->Prop
 |.send s=>0<=s/\s<sg
 |.exit d=>0<=d/\d<4
 |.iff s p q=>(0<=s/\s<sg)/\okW sg p/\okW sg q
 |.thn p q=>okW sg p/\okW sg q
 |.bes p q=>okW sg p/\okW sg q
 |.again _ p=>okW sg p
 |.hold s p=>(0<=s/\s<sg)/\okW sg p
 |.watch s p=>(0<=s/\s<sg)/\okW sg p
 |.trap p=>okW sg p
 |_=>True
def Yr(st:List Int)(h:okW sg p):okW sg (rem st p).2:=by
 induction p with
 |iff s p q z a1=>
  have:=z h.2.1;have:=a1 h.2.2;simp only[rem,lp];split
  .assumption
  .split
   .assumption
   .exact h
 |thn p q z a1=>
  have:=a1 h.2;simp[rem,lp];split
  .exact⟨z h.1,h.2⟩
  .assumption
 |bes p q z a1=>
  have:=z h.1;have:=a1 h.2;simp only[rem,lp];split
  .exact⟨z h.1,a1 h.2⟩
  .split
   .assumption
   .split
    .assumption
    .exact h
 |again k p ih=>
  simp only[rem];split
  .exact h
  .simp[lr]
   split
   .exact h
   .exact ih h
 |hold s p ih=>
  have:=ih h.2;simp[rem,lr];split
  .exact h
  .exact⟨h.1,trivial,ih h.2⟩
 |watch s p ih=>
  have:=ih h.2;simp[rem,lr];split
  .exact h
  .exact⟨h.1,trivial,ih h.2⟩
 |trap p ih=>
  simp[rem,lr];split
  .exact h
  .exact ih h
 |rest k=>
  simp[rem];split<;>exact trivial
 |nothing=>exact trivial
 |send s=>exact h
 |exit d=>exact h
 |stay _=>exact trivial
def N7(h:okW sg p)(st:Option (List Int)):okW sg (pb p st):=by
 cases st with
 |none=>exact h
 |some l=>exact Yr l h
theorem Xc:∀{l:List Int}{a b:Int},l.Pairwise (· < ·)->(∀x∈l,a<=x/\x<b)->(l.length:Int)<=max 0 (b-a)
 |[],a,b,_,_=>Int.le_max_left 0 (b-a)
 |x::r,a,b,h,k=>by
  have h':=zR.mp h;have kx:=k x vH;have:=Xc h'.2 λy z=>⟨Int.add_one_le_of_lt (h'.1 y z),(k y (vI _ z)).2⟩
  rw[vX];omega
structure Cw(l:List Int):Prop where
 ri:l.Pairwise (· < ·)
 bd:∀c∈l,0<=c/\c<6
 ne:0<l.length
def Cw.len(h:Cw l):l.length<=6:=by
 have:=Xc h.ri h.bd;omega
def Ae4(h:0<l.length):0<(nub l).length:=by
 cases l with
 |nil=>cases h
 |cons x r=>exact length_pos_of_mem (A8.mpr (vH))
def Vk(h:∀c∈l,0<=c/\c<6)(n:0<l.length):Cw (nub l):=⟨Hi l,λc hc=>h c (A8.mp hc),Ae4 n⟩
def AbD{a:List Int}(ha:Cw a)(z:Cw b):Cw (nub (a++b)):=Vk (λc hc=>(vY.mp hc).elim (λh=>ha.bd c h) λh=>z.bd c h) (by rw[vF];exact zD ha.ne (le_add_right _ _))
def N1(h:0<=c/\c<6):Cw [c]:=⟨pairwise_singleton _ _,λx z=>by rcases mS z with rfl;exact h,Nat.succ_pos _⟩
def Aic{c:Int}(h0:0<=c)(h:c<3):c=0\/c=1\/c=2:=by
 obtain⟨n,rfl⟩:=Int.eq_ofNat_of_zero_le h0
 match n,h with
 |0,_=>exact .inl rfl
 |1,_=>exact .inr (.inl rfl)
 |2,_=>exact .inr (.inr rfl)
 |n+3,z=>exact absurd z (by omega)
def six{P:Int->Prop}(h0:P 0)(h1:P 1)(h2:P 2)(h3:P 3)(h4:P 4)(h5:P 5)(h:0<=c/\c<6):P c:=by
 obtain⟨n,rfl⟩:=Int.eq_ofNat_of_zero_le h.1
 match n,h.2 with
 |0,_=>exact h0
 |1,_=>exact h1
 |2,_=>exact h2
 |3,_=>exact h3
 |4,_=>exact h4
 |5,_=>exact h5
 |n+6,z=>exact absurd z (by omega)
def Ul(h:0<=c/\c<6):0<=agC c/\agC c<6:=six (P:=λc=>0<=agC c/\agC c<6) (by decide) (by decide) (by decide) (by decide) (by decide) (by decide) h
def Pi(h:0<=c/\c<6):0<=Ch c/\Ch c<6:=six (P:=λc=>0<=Ch c/\Ch c<6) (by decide) (by decide) (by decide) (by decide) (by decide) (by decide) h
def Abp{f:Int->Int}(hf:∀c,0<=c/\c<6->0<=f c/\f c<6){a:List Int}(ha:Cw a):Cw (nub (a.map f)):=Vk (λc hc=>by obtain⟨x,z,rfl⟩:=zU.mp hc;exact hf x (ha.bd x z)) (by rw[vE];exact ha.ne)
def AeI{a:List Int}(ha:Cw a)(z:Cw b):Cw ((nub (a++b)).filter (λc=>decide (mx (Bi a) (Bi b)<=c))):=by
 have h:=AbD ha z;refine⟨h.ri.filter _,λc hc=>h.bd c (mem_filter.mp hc).1,?_⟩;refine length_pos_of_mem (a:=mx (Bi a) (Bi b)) (mem_filter.mpr ⟨A8.mpr ?_,by simp⟩);unfold mx;split
 .exact vS _ ((Fp z.ne).1)
 .exact zY _ ((Fp ha.ne).1)
def Jp(kn:List (Option Bool))(h:okW sg p):∀s,Cw (wbeg kn s p).1:=by
 induction p with
 |thn p q a1 a2=>
  intro s;simp[wbeg];split
  .have h1:=a1 h.1 s
   have h2:=a2 h.2 (wbeg kn s p).2.1;exact Vk (λc hc=>(vY.mp hc).elim (λz=>h1.bd c (mem_filter.mp z).1) λz=>h2.bd c z) (by rw[vF];exact zD h2.ne (le_add_left _ _))
  .exact a1 h.1 s
 |bes p q a1 a2=>exact λs=>AeI (a1 h.1 s) (a2 h.2 s)
 |iff x p q a1 a2=>
  intro s;simp[wbeg];split
  .exact AbD (a1 h.2.1 _) (a2 h.2.2 _)
  .exact a1 h.2.1 s
  .exact a2 h.2.2 s
 |again k p ih=>exact λs=>Abp (λc=>Ul) (ih h s)
 |hold x p ih=>exact λs=>ih h.2 s
 |watch x p ih=>exact λs=>ih h.2 s
 |trap p ih=>exact λs=>Abp (λc=>Pi) (ih h s)
 |nothing=>exact λs=>N1 ⟨by decide,by decide⟩
 |send x=>exact λs=>N1 ⟨by decide,by decide⟩
 |exit d=>exact λs=>N1 ⟨Int.le_trans h.1 (Int.le_add_of_nonneg_left (by decide)),Int.add_lt_add_left h.2 2⟩
 |rest k=>exact λs=>N1 ⟨by decide,by decide⟩
 |stay k=>exact λs=>N1 ⟨by decide,by decide⟩
def Pf(kn:List (Option Bool))(p:Pt):∀s,(wbeg kn s p).2.2.1.length<=p.sc/\(wbeg kn s p).2.2.2.length<=p.sc:=by
 induction p with
 |thn p q z a1=>
  intro s;have h1:=z s;have h2:=a1 (wbeg kn s p).2.1;simp[wbeg];split
  .simp[Ik];exact⟨add_le_add h1.1 h2.1,add_le_add h1.2 h2.2⟩
  .exact⟨Nat.le_add_right_of_le h1.1,Nat.le_add_right_of_le h1.2⟩
 |bes p q z a1=>
  intro s;have h1:=z s;have h2:=a1 s;simp[wbeg,F1];exact⟨add_le_add h1.1 h2.1,add_le_add h1.2 h2.2⟩
 |iff x p q z a1=>
  intro s;have h1:=z s;have h2:=a1 s;simp[wbeg];split
  .simp only[Je,vF];exact⟨zZ _,add_le_add (z _).2 (a1 _).2⟩
  .exact⟨Nat.le_add_right_of_le h1.1,Nat.le_add_right_of_le h1.2⟩
  .exact⟨Nat.le_add_left_of_le h2.1,Nat.le_add_left_of_le h2.2⟩
 |again k p ih=>exact λs=>ih s
 |hold x p ih=>exact λs=>ih s
 |watch x p ih=>exact λs=>ih s
 |trap p ih=>exact λs=>ih s
 |send x=>intro s;cases s<;>simp[wbeg,Pt.sc]
 |nothing=>exact λs=>⟨zZ _,zZ _⟩
 |exit x=>exact λs=>⟨zZ _,zZ _⟩
 |rest x=>exact λs=>⟨zZ _,zZ _⟩
 |stay x=>exact λs=>⟨zZ _,zZ _⟩
def Mp(kn:List (Option Bool))(s:Bool)(p:Pt)(st:Option (List Int)):Wk:=((wbeg kn s (pb p st)).1,(wbeg kn s (pb p st)).2.1,nub (wbeg kn s (pb p st)).2.2.1,nub (wbeg kn s (pb p st)).2.2.2)
inductive E4(H:Hp)(t:Addr)(d:Wk)   : Prop
 |mk(l1)(l2)(l3)(_:H t=some (.tup [.ref l1,.bl d.2.1,.ref l2,.ref l3]))(_:H l1=some (.lst (d.1.map V.int)))(_:H l2=some (.lst (d.2.2.1.map V.int)))(_:H l3=some (.lst (d.2.2.2.map V.int))):E4 H t d
def E4.mono(h:E4 H t d)(g:Same H H'):E4 H' t d:=by
 obtain⟨l1,l2,l3,a1,a2,a3,z⟩:=h;exact⟨l1,l2,l3,g _ _ a1,g _ _ a2,g _ _ a3,g _ _ z⟩
def smW(d:Wk):Prop:=d.1.length<=20/\0<d.1.length/\d.2.2.1.length<=900/\d.2.2.2.length<=900
inductive Tq  (vs:List V) (H:Hp) (Q:VK):Prop
 |mk(t1)(t2)(a:_)(b)(_:vs=[.ref t1,.ref t2])(_:E4 H t1 a)(_:E4 H t2 b)(_:smW a)(_:smW b)(_:∀t H',Same H H'->E4 H' t (Ik a b)->Q (.ref t) H'):Tq  vs H Q
def Rf:Sp:=λvs H Q _=>Tq  vs H Q
inductive S8  (vs:List V) (H:Hp) (Q:VK):Prop
 |mk(t1)(t2)(a:_)(b)(_:vs=[.ref t1,.ref t2])(_:E4 H t1 a)(_:E4 H t2 b)(_:smW a)(_:smW b)(_:∀t H',Same H H'->E4 H' t (F1 a b)->Q (.ref t) H'):S8  vs H Q
def Rj:Sp:=λvs H Q _=>S8  vs H Q
inductive Vy  (vs:List V) (H:Hp) (Q:VK):Prop
 |mk(t1)(t2)(a:_)(b)(_:vs=[.ref t1,.ref t2])(_:E4 H t1 a)(_:E4 H t2 b)(_:smW a)(_:smW b)(_:∀t H',Same H H'->E4 H' t (Je a b)->Q (.ref t) H'):Vy  vs H Q
def Vp:Sp:=λvs H Q _=>Vy  vs H Q
inductive Wg  (vs:List V) (H:Hp) (Q:VK):Prop
 |mk(t1 c:Addr)(a:Wk)(cs:List Int)(_:vs=[.ref t1,.ref c])(_:E4 H t1 a)(_:H c=some (.lst (cs.map V.int)))(_:cs.length<=20)(_:∀t H',Same H H'->E4 H' t (nub cs,a.2.1,a.2.2.1,a.2.2.2)->Q (.ref t) H'):Wg  vs H Q
def Vb:Sp:=λvs H Q _=>Wg  vs H Q
inductive Tf(K:FA)(vs:List V)(H:Hp)(Q:VK):Prop
 |mk(v)(p)(s)(_:vs=[v,.bl s])(_:PAt K H (Pt.nd p) v)(_:E5 p=true)(_:∀t H',Same H H'->E4 H' t (wbeg [] s p)->Q (.ref t) H')
def Ro(K:FA):Sp:=λvs H Q _=>Tf K vs H Q
inductive Abr(K:FA)(n:Nat)(vs:List V)(H:Hp)(Q:VK):Prop
 |mk(v)(p)(s)(kl)(kn)(_:vs=[v,.bl s,.ref kl])(_:PAt K H (Pt.nd p) v)(_:SqL K H kl ((kn:List (Option Bool)).map vO))(_:p.hg<=n)(_:p.sc<=900)(_:okW kn.length p)(_:∀t H',Same H H'->E4 H' t (wbeg kn s p)->Q (.ref t) H')
def Ut(K:FA)(n:Nat):Sp:=λvs H Q _=>Abr K n vs H Q
def Hq(h:okW sg p)(hs:p.sc<=900)(s:Bool):smW (wbeg kn s p):=by
 have c:=Jp kn h s;exact⟨zA c.len (by decide),c.ne,zA (Pf _ p s).1 hs,zA (Pf _ p s).2 hs⟩
def Js{xs ys:List Int}(h:H l=some (.lst (xs.map V.int++ys.map V.int))):H l=some (.lst ((xs++ys).map V.int)):=by rw[h,vQ]
def Acb(F:El K mg "in_turn_walking" "in_turn" ["first","second"] Dw)(T:Dk K mg aN aP aR uE uR uL):Ae P w K mg base 1 "in_turn_walking" ["first","second"] Rf:=by
 refine F.ok Gc (λvs H Q E h=>?_) (λf cdv A outer s H vs Q E hr h=>?_)
 .obtain⟨t1,t2,da,db,rfl,_⟩:=h;rfl
 obtain⟨t1,t2,da,db,rfl,⟨l1,l2,l3,a1,a2,a3,a4⟩,⟨m1,m2,m3,b1,b2,b3,b4⟩,sa,sb,q⟩:=h
 refine⟨_,(Ab (Dz (j:=2) ["code"] [] Gc.nd rfl (Or.inl rfl) rfl (Bx (Af Dw) ["first","second","going_past","codes"] (by trivial)) (Cf (pix (pv 0))) (λs2 H2 fp cl C=>Aq (i:=0) (show Nodup [("code": Str)] from by trivial) rfl (Or.inl rfl)) (A9 (by decide)) (λs2 H2 fp cl C=>Dj (pcn (pv 0) (Bj rfl T.m_ENDED T.r_ENDED))) (λs2 H2 fp cl C=>(pv 0)))
  (Ab (pst 3 Gc.nd (Gq rfl rfl T.n_sorted rfl T.n_set (Au Ck (pv 2) (pix (pv 1)))))
  (Ad (Ag (Ap (Ba (pv 3) (pa3 (pix (pv 1)) (Au Ck (pix (pv 0)) (pix (pv 1))) (Au Ck (pix (pv 0)) (pix (pv 1)))))))))),?_⟩
 refine⟨Aj a1,Aa rfl,l1,Z,⟨_,Ai a2⟩,Db (K:=K) (xs:=da.1.map V.int) (λi ys H'=>H'=H/\ys=((da.1.take i).filter (λc=>!decide (c=0))).map V.int) ⟨Z,Z⟩ (by rw[vE];exact Cq (W5 sa.1 (by decide))) (λi ys H' ⟨e,_⟩=>by rw[e];exact Ai a2) ?_ ?_⟩
 .rintro j z ys H' N hj ⟨rfl,rfl⟩ hN a7
  rw[vJ]at hj;cases ej:da.1[j]? with
  |none=>rw[ej]at hj;cases hj
  |some c=>
   rw[ej]at hj;cases hj
   have et:(da.1.take (j+1)).filter (λc=>!decide (c=0))=(da.1.take j).filter (λc=>!decide (c=0))++[c].filter (λc=>!decide (c=0)):=by
    rw[take_add_one,ej,zO];rfl
   refine⟨Z,As (λz=>?_) λz=>?_⟩
   .refine(hN _ _ (N8 a7) ⟨Z,?_⟩)
    have nz:¬c=0:=λy=>by rw[y]at z;exact absurd z (by decide)
    rw[et,vQ,filter_cons_of_pos (by simp[nz])];rfl
   .refine hN _ _ (Nat.le_succ_of_le a7) ⟨Z,?_⟩
    have nz:c=0:=uM λy=>z (by simp[y])
    rw[et,filter_cons_of_neg (by simp[nz])];simp
 .rintro ys H' a7 ⟨rfl,rfl⟩ D hD
  have g0:=Ac hD (.lst (((da.1.take (da.1.map V.int).length).filter (λc=>!decide (c=0))).map V.int));have a8:(upd H' D (.lst (((da.1.take (da.1.map V.int).length).filter (λc=>!decide (c=0))).map V.int))) D=some (.lst ((da.1.filter (λc=>!decide (c=0))).map V.int)):=by rw[qa,vE,take_length]
  have fl:(da.1.filter (λc=>!decide (c=0))).length<=da.1.length:=length_filter_le _ _;have s1:=sa.1;have s2:=sb.1;have a1:=g0 _ _ a1;have a3:=g0 _ _ a3;have a4:=g0 _ _ a4;have b1:=g0 _ _ b1;have b2:=g0 _ _ b2;have b3:=g0 _ _ b3;have b4:=g0 _ _ b4;have q:=λt H2 g=>q t H2 (g0.trans g)
  generalize (upd H' D (.lst (((da.1.take (da.1.map V.int).length).filter (λc=>!decide (c=0))).map V.int)))=H1 at a8 a1 a3 a4 b1 b2 b3 b4 q;refine⟨Aj b1,Aa rfl,D,m1,_,_,Z,Z,a8,b2,by rw[vE,vE];exact Cq (AcT (zA fl s1) s2 (by decide)),λp hp=>?_⟩;refine⟨p,_,Z,Ai (Js qa),by rw[vF];exact AcW (zA fl s1) s2 (by decide),λr hr=>?_⟩;have g2:=Ac hr (.lst ((nub (da.1.filter (λc=>!decide (c=0))++db.1)).map V.int));have a5:=(Ac hp (.lst ((da.1.filter (λc=>!decide (c=0))).map V.int++db.1.map V.int))).trans g2;refine⟨Aj (a5 _ _ b1),Aa rfl,Aj (a5 _ _ a1),Aa rfl,Aj (a5 _ _ b1),Aa rfl,l2,m2,_,_,Z,Z,a5 _ _ a3,a5 _ _ b3,by rw[vE,vE];exact zA (add_le_add sa.2.2.1 sb.2.2.1) (by decide),λc hc=>?_⟩;have g3:=Ac hc (.lst (da.2.2.1.map V.int++db.2.2.1.map V.int));have a6:=a5.trans g3;refine⟨Aj (a6 _ _ a1),Aa rfl,Aj (a6 _ _ b1),Aa rfl,l3,m3,_,_,Z,Z,a6 _ _ a4,a6 _ _ b4,by rw[vE,vE];exact zA (add_le_add sa.2.2.2 sb.2.2.2) (by decide),λe he=>?_⟩;have g4:=Ac he (.lst (da.2.2.2.map V.int++db.2.2.2.map V.int));refine⟨zN4,λt ht=>?_⟩;have g5:=Ac ht (.tup [.ref r,.bl db.2.1,.ref c,.ref e]);exact q _ _ (a6.trans (g4.trans g5)) ⟨r,c,e,qa,g5 _ _ (g4 _ _ (g3 _ _ qa)),g5 _ _ (g4 _ _ (Js qa)),g5 _ _ (Js qa)⟩
def AcP(F:El K mg "side_by_side_walking" "side_by_side" ["first","second"] Cm)(T:Dk K mg aN aP aR uE uR uL):Ae P w K mg base 1 "side_by_side_walking" ["first","second"] Rj:=by
 refine F.ok Ev (λvs H Q E h=>?_) (λf cdv A outer s H vs Q E hr h=>?_)
 .obtain⟨t1,t2,da,db,rfl,_⟩:=h;rfl
 obtain⟨t1,t2,da,db,rfl,⟨l1,l2,l3,a1,a2,a3,a4⟩,⟨m1,m2,m3,b1,b2,b3,b4⟩,sa,sb,q⟩:=h
 refine⟨_,(Ab (pst 2 Ev.nd (Bs (Na rfl) rfl T.n_max (by trivial) (pa2 (Bs (Tl rfl) rfl T.n_min (by trivial) (pa1 (pix (pv 0)))) (Bs (Tl rfl) rfl T.n_min (by trivial) (pa1 (pix (pv 1)))))))
  (Ab (Dz (j:=3) ["code"] [("least",2)] Ev.nd rfl (Or.inl rfl) rfl (Bx (Af Cm) ["first","second","least","codes"] (by trivial)) (Cf (Gq rfl rfl T.n_sorted rfl T.n_set (Au Ck (pix (pv 0)) (pix (pv 1))))) (λs2 H2 fp cl C=>Aq (i:=0) (show Nodup [("code": Str),("least": Str)] from by trivial) rfl (Or.inl rfl)) (A9 (by decide)) (λs2 H2 fp cl C=>Dj (Bg Agu (pv 0) (pv 1) (B4 _))) (λs2 H2 fp cl C=>(pv 0)))
  (Ad (Ag (Ap (Ba (pv 3) (pa3 (Wc (pix (pv 0)) (Qg (pix (pv 1)))) (Au Ck (pix (pv 0)) (pix (pv 1))) (Au Ck (pix (pv 0)) (pix (pv 1)))))))))),?_⟩
 refine⟨Aj a1,Aa rfl,l1,_,Z,Ai a2,sa.2.1,λM1 h1 h2=>?_⟩;refine⟨Aj b1,Aa rfl,m1,_,Z,Ai b2,sb.2.1,λM2 k1 k2=>?_⟩;cases Zp h1 h2
 cases Zp k1 k2
 have s1:=sa.1;have s2:=sb.1;refine⟨_,_,Z,Aj a1,Aa rfl,Aj b1,Aa rfl,l1,m1,_,_,Z,Z,a2,b2,by rw[vE,vE];exact Cq (AcT s1 s2 (by decide)),λp hp=>?_⟩;have g1:=Ac hp (.lst (da.1.map V.int++db.1.map V.int));refine⟨p,da.1++db.1,Z,Ai (Js qa),by rw[vF];exact AcW s1 s2 (by decide),λr hr=>?_⟩;have g2:=Ac hr (.lst ((nub (da.1++db.1)).map V.int));have a5:=g1.trans g2;have a6:=qa (H:=upd H p (.lst (da.1.map V.int++db.1.map V.int))) (a:=r) (o:=.lst ((nub (da.1++db.1)).map V.int));have a1:=a5 _ _ a1;have a3:=a5 _ _ a3;have a4:=a5 _ _ a4;have b1:=a5 _ _ b1;have b3:=a5 _ _ b3;have b4:=a5 _ _ b4;have q:=λt H2 g=>q t H2 (a5.trans g)
 generalize (upd (upd H p (.lst (da.1.map V.int++db.1.map V.int))) r (.lst ((nub (da.1++db.1)).map V.int)))=H1 at a6 a1 a3 a4 b1 b3 b4 q;have nl:=zA (R5 _) (by rw[vF];exact add_le_add s1 s2);refine⟨r,Z,⟨_,Ai a6⟩,Db (xs:=(nub (da.1++db.1)).map V.int) (λi ys H'=>H'=H1/\ys=(((nub (da.1++db.1)).take i).filter (λc=>decide (mx (Bi da.1) (Bi db.1)<=c))).map V.int) ⟨Z,Z⟩ (by rw[vE];exact Cq (W5 nl (by decide))) (λi ys H' ⟨e,_⟩=>by rw[e];exact Ai a6) ?_ ?_⟩
 .rintro j z ys H' N hj ⟨rfl,rfl⟩ hN a7
  rw[vJ]at hj;cases ej:(nub (da.1++db.1))[j]? with
  |none=>rw[ej]at hj;cases hj
  |some c=>
   rw[ej]at hj;cases hj
   have et:((nub (da.1++db.1)).take (j+1)).filter (λc=>decide (mx (Bi da.1) (Bi db.1)<=c))=((nub (da.1++db.1)).take j).filter (λc=>decide (mx (Bi da.1) (Bi db.1)<=c))++[c].filter (λc=>decide (mx (Bi da.1) (Bi db.1)<=c)):=by
    rw[take_add_one,ej,zO];rfl
   refine⟨_,_,Z,Z,As (λz=>?_) λz=>?_⟩
   .refine(hN _ _ (N8 a7) ⟨Z,?_⟩)
    have f1:[c].filter (λc=>decide (mx (Bi da.1) (Bi db.1)<=c))=[c]:=by
     have:mx (Bi da.1) (Bi db.1)<=c:=vN z;simp[this]
    rw[et,f1,vQ];rfl
   .refine hN _ _ (Nat.le_succ_of_le a7) ⟨Z,?_⟩
    have f1:[c].filter (λc=>decide (mx (Bi da.1) (Bi db.1)<=c))=[]:=by
     have:¬mx (Bi da.1) (Bi db.1)<=c:=λy=>z (vK y)
     simp[this]
    rw[et,f1,zK]
 .rintro ys H' a7 ⟨rfl,rfl⟩ D hD
  have g0:=Ac hD (.lst ((((nub (da.1++db.1)).take ((nub (da.1++db.1)).map V.int).length).filter (λc=>decide (mx (Bi da.1) (Bi db.1)<=c))).map V.int));have a8:(upd H' D (.lst ((((nub (da.1++db.1)).take ((nub (da.1++db.1)).map V.int).length).filter (λc=>decide (mx (Bi da.1) (Bi db.1)<=c))).map V.int))) D=some (.lst ((F1 da db).1.map V.int)):=by rw[qa,vE,take_length];rfl
  have a1:=g0 _ _ a1;have a3:=g0 _ _ a3;have a4:=g0 _ _ a4;have b1:=g0 _ _ b1;have b3:=g0 _ _ b3;have b4:=g0 _ _ b4;have q:=λt H2(g:Same (upd H' D (.lst ((((nub (da.1++db.1)).take ((nub (da.1++db.1)).map V.int).length).filter (λc=>decide (mx (Bi da.1) (Bi db.1)<=c))).map V.int))) H2)=>q t H2 (g0.trans g)
  generalize (upd H' D (.lst ((((nub (da.1++db.1)).take ((nub (da.1++db.1)).map V.int).length).filter (λc=>decide (mx (Bi da.1) (Bi db.1)<=c))).map V.int)))=H2 at a8 a1 a3 a4 b1 b3 b4 q;refine⟨Aj a1,Aa rfl,_,Z,?_⟩
  have rest:∀bb,bb=(da.2.1&&db.2.1)->(Bl (tOp AaN (tOp (E3 K) (Aw 0) (tC (.int 2))) (tOp (E3 K) (Aw 1) (tC (.int 2)))) (Bl (tOp AaN (tOp (E3 K) (Aw 0) (tC (.int 3))) (tOp (E3 K) (Aw 1) (tC (.int 3)))) Cs)) [some (.ref t1),some (.ref t2),some (.int (mx (Bi da.1) (Bi db.1))),some (.ref D)] H2 (λxs H1=>([V.ref D,.bl bb]++xs).length<=sizeLine/\∀p,H1 p=none->Q (.ref p) (upd H1 p (.tup ([V.ref D,.bl bb]++xs)))):=by
   intro bb eb;subst eb;refine⟨Aj a1,Aa rfl,Aj b1,Aa rfl,l2,m2,_,_,Z,Z,a3,b3,by rw[vE,vE];exact zA (add_le_add sa.2.2.1 sb.2.2.1) (by decide),λc hc=>?_⟩;have g3:=Ac hc (.lst (da.2.2.1.map V.int++db.2.2.1.map V.int));refine⟨Aj (g3 _ _ a1),Aa rfl,Aj (g3 _ _ b1),Aa rfl,l3,m3,_,_,Z,Z,g3 _ _ a4,g3 _ _ b4,by rw[vE,vE];exact zA (add_le_add sa.2.2.2 sb.2.2.2) (by decide),λe he=>?_⟩;have g4:=Ac he (.lst (da.2.2.2.map V.int++db.2.2.2.map V.int));refine⟨zN4,λt ht=>?_⟩;have g5:=Ac ht (.tup [.ref D,.bl (da.2.1&&db.2.1),.ref c,.ref e]);exact q _ _ (g3.trans (g4.trans g5)) ⟨D,c,e,qa,g5 _ _ (g4 _ _ (g3 _ _ a8)),g5 _ _ (g4 _ _ (Js qa)),g5 _ _ (Js qa)⟩
  cases e1:da.2.1 with
  |true=>exact Dg ⟨Aj b1,Aa rfl,rest _ (by rw[e1];rfl)⟩
  |false=>exact Fh (rest _ (by rw[e1];rfl))
def Aet(F:Ao K mg "one_of" ["first","second"] M4)(T:Dk K mg aN aP aR uE uR uL):Ae P w K mg base 1 "one_of" ["first","second"] Vp:=by
 refine F.ok Aa6 (λvs H Q E h=>?_) (λf _ A _ s H _ Q E _ h=>?_)
 .obtain⟨t1,t2,da,db,rfl,_⟩:=h;rfl
 obtain⟨t1,t2,da,db,rfl,⟨l1,l2,l3,a1,a2,a3,a4⟩,⟨m1,m2,m3,b1,b2,b3,b4⟩,sa,sb,q⟩:=h;refine⟨_,(Ad (Ag (Ap (Ba (Gq rfl rfl T.n_sorted rfl T.n_set (Au Ck (pix (pv 0)) (pix (pv 1)))) (pa3 Do (An Bm) (Au Ck (pix (pv 0)) (pix (pv 1)))))))),?_⟩;have s1:=sa.1;have s2:=sb.1;refine⟨Aj a1,Aa (j:=0) rfl,Aj b1,Aa (j:=0) rfl,l1,m1,_,_,Z,Z,a2,b2,by rw[vE,vE];exact Cq (AcT s1 s2 (by decide)),λp hp=>?_⟩;refine⟨p,da.1++db.1,Z,Ai (Js qa),by rw[vF];exact AcW s1 s2 (by decide),λr hr=>?_⟩;refine⟨zN0,λc hc=>?_⟩;have g3:=Ac hc (.lst []);have z:=((Ac hp (.lst (da.1.map V.int++db.1.map V.int))).trans (Ac hr (.lst ((nub (da.1++db.1)).map V.int)))).trans g3;refine⟨Aj (z _ _ a1),Aa (j:=3) rfl,Aj (z _ _ b1),Aa (j:=3) rfl,l3,m3,_,_,Z,Z,z _ _ a4,z _ _ b4,by rw[vE,vE];exact zA (add_le_add sa.2.2.2 sb.2.2.2) (by decide),λe he=>?_⟩;have g4:=Ac he (.lst (da.2.2.2.map V.int++db.2.2.2.map V.int));refine⟨zN4,λt ht=>?_⟩;have g5:=Ac ht (.tup [.ref r,.bl false,.ref c,.ref e]);exact q _ _ (z.trans (g4.trans g5)) ⟨r,c,e,qa,g5 _ _ (g4 _ _ (g3 _ _ qa)),g5 _ _ (g4 _ _ qa),g5 _ _ (Js qa)⟩
def Ad1(F:Ao K mg "recoded" ["inner","codes"] Lb)(T:Dk K mg aN aP aR uE uR uL):Ae P w K mg base 1 "recoded" ["inner","codes"] Vb:=by
 refine F.ok Z4 (λvs H Q E h=>?_) (λf _ A _ s H _ Q E _ h=>?_)
 .obtain⟨t1,c,a,cs,rfl,_⟩:=h;rfl
 obtain⟨t1,c,a,cs,rfl,⟨l1,l2,l3,a1,a2,a3,a4⟩,hc,hl,q⟩:=h;refine⟨_,(Ad (Ag (Ap (Ba (Gq rfl rfl T.n_sorted rfl T.n_set (pv 1)) (pa3 (pix (pv 0)) (pix (pv 0)) (pix (pv 0))))))),?_⟩;refine⟨c,cs,Z,Ai hc,zE hl (by decide),λr hr=>?_⟩;have z:=Ac hr (.lst ((nub cs).map V.int));refine⟨Aj (z _ _ a1),Aa rfl,Aj (z _ _ a1),Aa rfl,Aj (z _ _ a1),Aa rfl,zN4,λt ht=>?_⟩;have g5:=Ac ht (.tup [.ref r,.bl a.2.1,.ref l2,.ref l3]);exact q _ _ (z.trans g5) ⟨r,l2,l3,qa,g5 _ _ qa,g5 _ _ (z _ _ a3),g5 _ _ (z _ _ a4)⟩
def AdU(F:El K mg "begun_leaf_walking" "begun_leaf" ["part","sure"] D8)(T:Dk K mg aN aP aR uE uR uL)(bA:Ae P w K mg base 1 "leaf_code" ["part"] (Kg K)):Ae P w K mg base 2 "begun_leaf_walking" ["part","sure"] (Ro K):=by
 refine F.ok Fk (λvs H Q E h=>?_) (λf cdv A outer s H vs Q E hr h=>?_)
 .obtain⟨v,p,z,rfl,_⟩:=h;rfl
 obtain⟨v,p,z,rfl,hp,lf,q⟩:=h
 refine⟨_,(Ab (pst 2 Fk.nd (Bq (pce (pix (pv 0)) Ah) (An (pa1 (pix (pv 0)))) (An Bm)))
  (Ab (pst 3 Fk.nd (Bq (Nn (pv 1)) (pv 2) (An Bm)))
  (Ad (Ag (Ap (Ba (An (pa1 (pcl bA (pa1 (pv 0))))) (pa3 (pv 1) (pv 3) (pv 2)))))))),?_⟩
 have a1:∀(l1:Addr)(xs:List Int)(hl:H l1=none)(e1:wbeg [] z p=([(beg [] p).1],z,(if z then xs else []),xs)),(Rm (tIf (tB (Aw 1)) (Aw 2) (Z8 Cs)) (Bn 3)) {nx:=Aae (Mf (Bl (Z8 (Bl (Hy (Kg K) [] E0 (Bl (Aw 0) Cs)) Cs)) (Bl (Aw 1) (Bl (Aw 3) (Bl (Aw 2) Cs))))) {nx:=λ_ H'=>Q .non H',rt:=Q},rt:=Q} [some v,some (.bl z),some (.ref l1),none] (upd H l1 (.lst (xs.map V.int))):=by
  intro l1 xs hl e1;rw[e1]at q;have g1:=Ac hl (.lst (xs.map V.int));cases z with
  |true=>
   refine⟨v,p,Z,hp.mono g1.tp,lf,zN1,λc hc=>?_⟩;have g2:=Ac hc (.lst [.int (beg [] p).1]);refine⟨zN4,λt ht=>?_⟩;have g3:=Ac ht (.tup [.ref c,.bl true,.ref l1,.ref l1]);exact q _ _ (g1.trans (g2.trans g3)) ⟨c,l1,l1,qa,g3 _ _ qa,g3 _ _ (g2 _ _ qa),g3 _ _ (g2 _ _ qa)⟩
  |false=>
   refine⟨zN0,λm hm=>?_⟩;have g0:=Ac hm (.lst []);refine⟨v,p,Z,hp.mono (g1.trans g0).tp,lf,zN1,λc hc=>?_⟩;have g2:=Ac hc (.lst [.int (beg [] p).1]);refine⟨zN4,λt ht=>?_⟩;have g3:=Ac ht (.tup [.ref c,.bl false,.ref m,.ref l1]);exact q _ _ (g1.trans (g0.trans (g2.trans g3))) ⟨c,m,l1,qa,g3 _ _ qa,g3 _ _ (g2 _ _ qa),g3 _ _ (g2 _ _ (g0 _ _ qa))⟩
 cases p with
 |nothing=>
  obtain⟨a,vs,rfl,hs,hx⟩:=PAt.get hp;obtain⟨x0,rfl,h0⟩:=hx.one;cases h0.str
  exact⟨hs.sq,Aa rfl,Z,Fe (by trivial) ⟨zN0,λl hl=>a1 l [] hl (by cases z<;>rfl)⟩⟩
 |exit x=>
  obtain⟨a,rfl⟩:=Ga hp;have hs:=g2i hp;exact⟨hs.sq,Aa rfl,Z,Fe (by trivial) ⟨zN0,λl hl=>a1 l [] hl (by cases z<;>rfl)⟩⟩
 |rest x=>
  obtain⟨a,rfl⟩:=Ga hp;have hs:=g2i hp;exact⟨hs.sq,Aa rfl,Z,Fe (by trivial) ⟨zN0,λl hl=>a1 l [] hl (by cases z<;>rfl)⟩⟩
 |stay x=>
  obtain⟨a,rfl⟩:=Ga hp;obtain⟨x1,hs,h1⟩:=g2 hp;exact⟨hs.sq,Aa rfl,Z,Fe (by trivial) ⟨zN0,λl hl=>a1 l [] hl (by cases z<;>rfl)⟩⟩
 |send x=>
  obtain⟨a,rfl⟩:=Ga hp;have hs:=g2i hp;exact⟨hs.sq,Aa rfl,Z,Kd ⟨hs.sq,Aa rfl,zN1,λl hl=>a1 l [x] hl (by cases z<;>rfl)⟩⟩
 |_=>cases lf
inductive WkN(s:Addr)(H:Hp)(t:Addr)(d:Wk):Prop
 |mk(l1 l2 l3:Addr)(h0:H t=some (.tup [.ref l1,.bl d.2.1,.ref l2,.ref l3]))(h1:H l1=some (.lst (d.1.map V.int)))(h2:H l2=some (.lst (d.2.2.1.map V.int)))(h3:H l3=some (.lst (d.2.2.2.map V.int)))(n0:t≠s)(n1:l1≠s)(n2:l2≠s)(n3:l3≠s)
inductive S5(K:FA)(n:Nat)(vs:List V)(H:Hp)(Q:VK):Prop
 |mk(v)(p)(sv)(st:_)(s)(kl)(kn)(_:vs=[v,sv,.bl s,.ref kl])(_:PAt K H (Pt.nd p) v)(_:Hu K H st sv)(_:SqL K H kl ((kn:List (Option Bool)).map vO))(_:(st=none\/(p.hg<=n/\p.rc<=900)))(_:(pb p st).hg<=n)(_:(pb p st).sc<64)(_:okW kn.length p)(_:∀(t:Addr)(H':Hp),Same H H'->E4 H' t (Mp kn s p st)->(∀(a:Addr)(xs:List Addr),H a=some (.lst (xs.map V.ref))->WkN a H' t (Mp kn s p st))->Q (.ref t) H')
def Yy(K:FA)(n:Nat):Sp:=λvs H Q _=>S5 K n vs H Q
def Ahg:Option Bool->Wk->Wk->Wk->Wk
 |none,a,_,_=>a
 |some true,_,b,_=>b
 |some false,_,_,c=>c
def Aa3(h:E5 p)(kn z:List (Option Bool))(s:Bool):wbeg kn s p=wbeg z s p:=by cases p<;>first|rfl|cases h
def Mc{x:Int}(h:(kn[x.toNat]?).getD none=o):wbeg kn s (.iff x p q)=Ahg o (Je (wbeg kn false p) (wbeg kn false q)) (wbeg kn s p) (wbeg kn s q):=by
 subst h;simp[wbeg];cases (kn[x.toNat]?).getD none with
 |none=>rfl
 |some b=>cases b<;>rfl
def Agg(F:El K mg "begun_walking" "begun" ["part","sure","known"] Cz)(T:Dk K mg aN aP aR uE uR uL)(bZ:Ae P w K mg base 2 "begun_leaf_walking" ["part","sure"] (Ro K))(cI:Ae P w K mg base 1 "in_turn_walking" ["first","second"] Rf)(bQ:Ae P w K mg base 1 "side_by_side_walking" ["first","second"] Rj)(iS:Ae P w K mg base 1 "one_of" ["first","second"] Vp)(dO:Ae P w K mg base 1 "recoded" ["inner","codes"] Vb)
  (aU:Ae P w K mg base 1 "code_of_again" ["code"] Mw) (aW:Ae P w K mg base 1 "code_of_trap" ["code"] K4) (aB:Ae P w K mg base (n+2) "begun_walking" ["part","sure","known"] (Ut K n)):Ae P w K mg base (n+3) "begun_walking" ["part","sure","known"] (Ut K (n+1)):=by
 refine F.ok Em (λvs H Q E h=>?_) (λf cdv A outer s H vs Q E hr h=>?_)
 .obtain⟨v,p,sr,kl,kn,rfl,_⟩:=h;rfl
 obtain⟨v,p,sr,kl,kn,rfl,hp,hS,hh,a5,ok,q⟩:=h
 refine⟨_,(Ab (pst 3 Em.nd (pix (pv 0)))
  (Ab (Az (pce (pv 3) Ah)
   (Ab (pst 4 Em.nd (pcl aB (pa3 (pix (pv 0)) (pv 1) (pv 2))))
  (Ad (Ag (Bq (Bg Bz (Bj rfl T.m_ENDED T.r_ENDED) (pix (pv 4)) (by rfl)) (pcl cI (pa2 (pv 4) (pcl aB (pa3 (pix (pv 0)) (pix (pv 4)) (pv 2))))) (pv 4)))))
   Ar)
  (Ab (Az (pce (pv 3) Ah)
   (Ad (Ag (pcl bQ (pa2 (pcl aB (pa3 (pix (pv 0)) (pv 1) (pv 2))) (pcl aB (pa3 (pix (pv 0)) (pv 1) (pv 2)))))))
   Ar)
  (Ab (Az (pce (pv 3) Ah)
   (Ab (Az (Bg Ln (B7 B0 (pv 2) (pix (pv 0)) (λ_ _=>rfl)) B5 (B4 _))
   (Ad (Ag (pcl iS (pa2 (pcl aB (pa3 (pix (pv 0)) Do (pv 2))) (pcl aB (pa3 (pix (pv 0)) Do (pv 2)))))))
   Ar)
  (Ad (Ag (pcl aB (pa3 (Bq (Nn (B7 B0 (pv 2) (pix (pv 0)) (λ_ _=>rfl))) (pix (pv 0)) (pix (pv 0))) (pv 1) (pv 2))))))
   Ar)
  (Ab (Az (pce (pv 3) Ah)
   (Ab (pst 5 Em.nd (pcl aB (pa3 (pix (pv 0)) (pv 1) (pv 2))))
  (Ad (Ag (pcl dO (pa2 (pv 5) (Cp ["code"] [] rfl (Bx (Af Cz) ["part","sure","known","word","first","inner"] (by trivial)) (Cf (pix (pv 5))) (λs2 H2 fp cl C=>Aq (i:=0) (show Nodup [("code": Str)] from by trivial) rfl (Or.inl rfl)) (A9 (by decide)) (λs2 H2 fp cl C=>Fg) (λs2 H2 fp cl C=>(pcl aU (pa1 (pv 0))))))))))
   Ar)
  (Ab (Az (PW.pt (Ha (pce (pv 3) Ah) (F8 (pce (pv 3) Ah))))
   (Ad (Ag (pcl aB (pa3 (pix (pv 0)) (pv 1) (pv 2)))))
   Ar)
  (Ab (Az (pce (pv 3) Ah)
   (Ab (pst 5 Em.nd (pcl aB (pa3 (pix (pv 0)) (pv 1) (pv 2))))
  (Ad (Ag (pcl dO (pa2 (pv 5) (Cp ["code"] [] rfl (Bx (Af Cz) ["part","sure","known","word","first","inner"] (by trivial)) (Cf (pix (pv 5))) (λs2 H2 fp cl C=>Aq (i:=0) (show Nodup [("code": Str)] from by trivial) rfl (Or.inl rfl)) (A9 (by decide)) (λs2 H2 fp cl C=>Fg) (λs2 H2 fp cl C=>(pcl aW (pa1 (pv 0))))))))))
   Ar)
  (Ad (Ag (pcl bZ (pa2 (pv 0) (pv 1)))))))))))),?_⟩
 obtain⟨a,vs,rfl,hs⟩:=J6 hp;refine⟨hs.sq,Aa rfl,Z,Ci (λe=>?_) λn1=>⟨Z,Ci (λe=>?_) λn2=>⟨Z,Ci (λe=>?_) λn3=>⟨Z,Ci (λe=>?_) λn4=>⟨Z,Ci (λe=>Dg ?_) λn5=>⟨Z,Ci (λe=>?_) λn6=>⟨Z,Ci (λe=>?_) λn7=>?_⟩⟩⟩⟩⟩⟩⟩
 .obtain⟨p1,p2,rfl⟩:=Qj e
  obtain⟨x1,x2,hs,h1,h2⟩:=g3 hp;refine⟨hs.sq,Aa rfl,x1,p1,sr,kl,kn,Z,h1,hS,hgl hh,adl a5,ok.1,λt1 H1 g1 R1=>?_⟩;obtain⟨l1,l2,l3,a1,a2,a3,a4⟩:=id R1;refine⟨Aj a1,Aa rfl,l1,_,Z,.inl (Ai a2),Z,Cb _,Uo (λc=>?_) λc=>?_⟩
  .refine⟨(hs.mono g1.tp).sq,Aa rfl,Aj a1,Aa rfl,x2,p2,_,kl,kn,Z,h2.mono g1.tp,g1.seq hS,hgr hh,adr a5,ok.2,λt2 H2 g2 R2=>?_⟩
   refine⟨t1,t2,_,_,Z,R1.mono g2,R2,Hq ok.1 (adl a5) sr,Hq ok.2 (adr a5) _,λt H3 g3 R3=>?_⟩;exact q _ _ ((g1.trans g2).trans g3) (by rw[show wbeg kn sr (.thn p1 p2)=Ik (wbeg kn sr p1) (wbeg kn (wbeg kn sr p1).2.1 p2) from by simp only[wbeg];rw[if_pos c]];exact R3)
  .exact(q _ _ g1 (by rw[show wbeg kn sr (.thn p1 p2)=wbeg kn sr p1 from by simp only[wbeg];rw[if_neg c]];exact R1))
 .obtain⟨p1,p2,rfl⟩:=Abl e
  obtain⟨x1,x2,hs,h1,h2⟩:=g3 hp;refine⟨hs.sq,Aa rfl,x1,p1,sr,kl,kn,Z,h1,hS,hgl hh,adl a5,ok.1,λt1 H1 g1 R1=>?_⟩;refine⟨(hs.mono g1.tp).sq,Aa rfl,x2,p2,sr,kl,kn,Z,h2.mono g1.tp,g1.seq hS,hgr hh,adr a5,ok.2,λt2 H2 g2 R2=>?_⟩;exact⟨t1,t2,_,_,Z,R1.mono g2,R2,Hq ok.1 (adl a5) sr,Hq ok.2 (adr a5) sr,λt H3 g3 R3=>q _ _ ((g1.trans g2).trans g3) R3⟩
 .obtain⟨sn,p1,p2,rfl⟩:=Uq e
  obtain⟨x2,x3,hs,h2,h3⟩:=g4i hp;have hb:=Adb ok.1;obtain⟨o,eo⟩:∃o,kn[sn.toNat]?=some o:=⟨_,vD hb⟩
  have ea:=by
   have:=Aa (v:=vO o) (by rw[vJ,eo];rfl);rw[uO ok.1.1]at this;exact this
  refine⟨hs.sq,Aa rfl,hS,ea,Z,?_⟩;rw[(λs=>Mc (s:=s) (o:=o) (by rw[eo];rfl))]at q;cases o with
  |none=>
   refine Dg ?_;refine⟨hs.sq,Aa rfl,x2,p1,false,kl,kn,Z,h2,hS,hgl hh,adl a5,ok.2.1,λt1 H1 g1 R1=>?_⟩;refine⟨(hs.mono g1.tp).sq,Aa rfl,x3,p2,false,kl,kn,Z,h3.mono g1.tp,g1.seq hS,hgr hh,adr a5,ok.2.2,λt2 H2 g2 R2=>?_⟩;exact⟨t1,t2,_,_,Z,R1.mono g2,R2,Hq ok.2.1 (adl a5) false,Hq ok.2.2 (adr a5) false,λt H3 g3 R3=>q _ _ ((g1.trans g2).trans g3) R3⟩
  |some b=>
   refine Fh ?_;refine⟨hs.sq,Aa rfl,hS,ea,?_⟩;cases b with
   |true=>exact Dg ⟨hs.sq,Aa rfl,x2,p1,sr,kl,kn,rfl,h2,hS,hgl hh,adl a5,ok.2.1,λt1 H1 g1 R1=>q _ _ g1 R1⟩
   |false=>exact Fh ⟨hs.sq,Aa rfl,x3,p2,sr,kl,kn,rfl,h3,hS,hgr hh,adr a5,ok.2.2,λt1 H1 g1 R1=>q _ _ g1 R1⟩
 .obtain⟨k,p1,rfl⟩:=Uv e
  obtain⟨x2,hs,h2⟩:=g3i hp;refine⟨hs.sq,Aa rfl,x2,p1,sr,kl,kn,Z,h2,hS,le_of_succ_le_succ hh,a5,ok,λt1 H1 g1 R1=>?_⟩;obtain⟨l1,l2,l3,a1,a2,a3,a4⟩:=id R1;have sm:=Hq (kn:=kn) (p:=p1) ok a5 sr;refine⟨Aj a1,Aa rfl,l1,Z,⟨_,Ai a2⟩,Db (xs:=(wbeg kn sr p1).1.map V.int) (λi ys H'=>H'=H1/\ys=(((wbeg kn sr p1).1.take i).map agC).map V.int) ⟨Z,Z⟩ (by rw[vE];exact Cq (W5 sm.1 (by decide))) (λi ys H' ⟨e,_⟩=>by rw[e];exact Ai a2) ?_ ?_⟩
  .rintro j z ys H' N hj ⟨rfl,rfl⟩ hN a6
   rw[vJ]at hj;cases ej:(wbeg kn sr p1).1[j]? with
   |none=>rw[ej]at hj;cases hj
   |some c=>
    rw[ej]at hj;cases hj
    refine⟨c,Z,hN _ _ ?_ ⟨Z,?_⟩⟩
    .exact N8 a6
    .rw[take_add_one,ej,vQ,vQ];rfl
  .rintro ys H' a6 ⟨rfl,rfl⟩ D hD
   have g2:=Ac hD (.lst ((((wbeg kn sr p1).1.take ((wbeg kn sr p1).1.map V.int).length).map agC).map V.int));have a7:(upd H' D (.lst ((((wbeg kn sr p1).1.take ((wbeg kn sr p1).1.map V.int).length).map agC).map V.int))) D=some (.lst (((wbeg kn sr p1).1.map agC).map V.int)):=by rw[qa,vE,take_length]
   exact⟨t1,D,_,_,Z,R1.mono g2,a7,by rw[vE];exact sm.1,λt H3 g3 R3=>q _ _ ((g1.trans g2).trans g3) R3⟩
 .obtain⟨s0,p1,rfl⟩:=Lp e
  obtain⟨x2,hs,h2⟩:=g3i hp;exact⟨hs.sq,Aa rfl,x2,p1,sr,kl,kn,Z,h2,hS,le_of_succ_le_succ hh,a5,ok.2,λt1 H1 g1 R1=>q _ _ g1 R1⟩
 .obtain⟨s0,p1,rfl⟩:=O8 e
  obtain⟨x2,hs,h2⟩:=g3i hp;exact⟨hs.sq,Aa rfl,x2,p1,sr,kl,kn,Z,h2,hS,le_of_succ_le_succ hh,a5,ok.2,λt1 H1 g1 R1=>q _ _ g1 R1⟩
 .obtain⟨p1,rfl⟩:=Ry e
  obtain⟨x1,hs,h1⟩:=g2 hp;refine⟨hs.sq,Aa (j:=1) rfl,x1,p1,sr,kl,kn,Z,h1,hS,le_of_succ_le_succ hh,a5,ok,λt1 H1 g1 R1=>?_⟩;obtain⟨l1,l2,l3,a1,a2,a3,a4⟩:=id R1;have sm:=Hq (kn:=kn) (p:=p1) ok a5 sr;refine⟨Aj a1,Aa (j:=0) rfl,l1,Z,⟨_,Ai a2⟩,Db (K:=K) (xs:=(wbeg kn sr p1).1.map V.int) (λi ys H'=>H'=H1/\ys=(((wbeg kn sr p1).1.take i).map Ch).map V.int) ⟨Z,Z⟩ (by rw[vE];exact Cq (W5 sm.1 (by decide))) (λi ys H' ⟨e,_⟩=>by rw[e];exact Ai a2) ?_ ?_⟩
  .rintro j z ys H' N hj ⟨rfl,rfl⟩ hN a6
   rw[vJ]at hj;cases ej:(wbeg kn sr p1).1[j]? with
   |none=>rw[ej]at hj;cases hj
   |some c=>
    rw[ej]at hj;cases hj
    refine⟨c,Z,hN _ _ ?_ ⟨Z,?_⟩⟩
    .exact N8 a6
    .rw[take_add_one,ej,vQ,vQ];rfl
  .rintro ys H' a6 ⟨rfl,rfl⟩ D hD
   have g2:=Ac hD (.lst ((((wbeg kn sr p1).1.take ((wbeg kn sr p1).1.map V.int).length).map Ch).map V.int));have a7:(upd H' D (.lst ((((wbeg kn sr p1).1.take ((wbeg kn sr p1).1.map V.int).length).map Ch).map V.int))) D=some (.lst (((wbeg kn sr p1).1.map Ch).map V.int)):=by rw[qa,vE,take_length]
   exact⟨t1,D,_,_,Z,R1.mono g2,a7,by rw[vE];exact sm.1,λt H3 g3 R3=>q _ _ ((g1.trans g2).trans g3) R3⟩
 .have lf:=Xs n1 n2 n3 n4 n5 n6 n7
  exact⟨_,p,sr,Z,hp,lf,λt1 H1 g1 R1=>q _ _ g1 (by rw[Aa3 lf kn [] sr];exact R1)⟩
def Abo(F:El K mg "begun_walking" "begun" ["part","sure","known"] Cz)(T:Dk K mg aN aP aR uE uR uL)(z:Ae P w K mg base 2 "begun_leaf_walking" ["part","sure"] (Ro K))(C2:Ae P w K mg base 1 "in_turn_walking" ["first","second"] Rf)(C3:Ae P w K mg base 1 "side_by_side_walking" ["first","second"] Rj)(C4:Ae P w K mg base 1 "one_of" ["first","second"] Vp)(C5:Ae P w K mg base 1 "recoded" ["inner","codes"] Vb)
  (C6:Ae P w K mg base 1 "code_of_again" ["code"] Mw) (C7:Ae P w K mg base 1 "code_of_trap" ["code"] K4):∀n,Ae P w K mg base (n+2) "begun_walking" ["part","sure","known"] (Ut K n)
 |0=>(F.zero λvs H Q E h=>by obtain⟨v,p,sr,kl,kn,_,_,_,hh,_⟩:=h;exact absurd hh (not_le_of_gt (Pt.hg_pos p))).mono (by decide)
 |n+1=>Agg F T z C2 C3 C4 C5 C6 C7 (Abo F T z C2 C3 C4 C5 C6 C7 n)
def AcN(F:Ao K mg "walked" ["part","state","sure","known"] Mz)(T:Dk K mg aN aP aR uE uR uL)(bC:Ae P w K mg base (n+3) "part_to_begin" ["part","state"] (AaS K n))(aB:Ae P w K mg base (n+2) "begun_walking" ["part","sure","known"] (Ut K n)) :
  Ae P w K mg base (n+4) "walked" ["part","state","sure","known"] (Yy K n):=by
 refine F.ok Sz (λvs H Q E h=>?_) (λf _ A _ s H _ Q E _ h=>?_)
 .obtain⟨v,p,sv,st,sr,kl,kn,rfl,_⟩:=h;rfl
 obtain⟨v,p,sv,st,sr,kl,kn,rfl,hp,a8,hS,hb,k1,k2,ok,q⟩:=h
 refine⟨_,(Ab (pst 4 Sz.nd (pcl aB (pa3 (pcl bC (pa2 (pv 0) (pv 1))) (pv 2) (pv 3))))
  (Ad (Ag (Ap (Ba (pix (pv 4)) (pa3 (pix (pv 4)) (Gq rfl rfl T.n_sorted rfl T.n_set (pix (pv 4))) (Gq rfl rfl T.n_sorted rfl T.n_set (pix (pv 4))))))))),?_⟩
 refine⟨v,p,sv,st,Z,hp,a8,hb,λv1 H1 g1 P1=>?_⟩;refine⟨v1,pb p st,sr,kl,kn,Z,P1,g1.seq hS,k1,lt9 k2,N7 ok st,λt H2 g2 ⟨l1,l2,l3,a1,a2,a3,a4⟩=>?_⟩;have wl:=Pf kn (pb p st) sr;refine⟨Aj a1,Aa (j:=0) rfl,Aj a1,Aa (j:=1) rfl,Aj a1,Aa (j:=2) rfl,l2,_,Z,Ai a3,zE wl.1 k2,λr1 a6=>?_⟩;have g3:=Ac a6 (.lst ((nub (wbeg kn sr (pb p st)).2.2.1).map V.int));refine⟨Aj (g3 _ _ a1),Aa (j:=3) rfl,l3,_,Z,Ai (g3 _ _ a4),zE wl.2 k2,λr2 a7=>?_⟩;have g4:=Ac a7 (.lst ((nub (wbeg kn sr (pb p st)).2.2.2).map V.int));refine⟨zN4,λt2 a5=>?_⟩;have g5:=Ac a5 (.tup [.ref l1,.bl (wbeg kn sr (pb p st)).2.1,.ref r1,.ref r2]);have gA:=(g1.trans g2).trans (g3.trans (g4.trans g5));have c1:=g5 _ _ (g4 _ _ (g3 _ _ a2));have c2:=g5 _ _ (g4 _ _ (qa (H:=H2) (a:=r1) (o:=.lst ((nub (wbeg kn sr (pb p st)).2.2.1).map V.int))));have c3:=g5 _ _ (qa (H:=(upd H2 r1 (.lst ((nub (wbeg kn sr (pb p st)).2.2.1).map V.int)))) (a:=r2) (o:=.lst ((nub (wbeg kn sr (pb p st)).2.2.2).map V.int)));have ne:=(Jp kn (N7 ok st) sr).ne;refine q _ _ gA ⟨l1,r1,r2,qa,c1,c2,c3⟩ λa xs ha=>⟨l1,r1,r2,qa,c1,c2,c3,(ne_of_none ha (((g1.trans g2).trans (g3.trans g4)).free a5)).symm,λe=>?_,(ne_of_none ha ((g1.trans g2).free a6)).symm,(ne_of_none ha (((g1.trans g2).trans g3).free a7)).symm⟩
 subst e;have z:=gA _ _ ha;rw[c1]at z;generalize (wbeg kn sr (pb p st)).1=cs at z ne;cases cs with
 |nil=>exact absurd ne (by simp)
 |cons c cs=>
  cases xs with
  |nil=>cases z
  |cons y ys=>cases z
end
def okE:Pt->Prop
 |.exit d=>0<=d
 |.stay _=>False
 |.iff _ p q=>okE p/\okE q
 |.thn p q=>okE p/\okE q
 |.bes p q=>okE p/\okE q
 |.again _ p=>okE p
 |.hold _ p=>okE p
 |.watch _ p=>okE p
 |.trap p=>okE p
 |_=>True
def L6(st:List Int)(p:Pt):(rem st p).1=[]->(rem st p).2=p:=by
 induction p with
 |nothing=>intro _;rfl
 |send s=>intro _;rfl
 |exit d=>intro _;rfl
 |stay _=>intro _;rfl
 |rest k=>
  simp[rem];split
  .simp
  .intro _;rfl
 |iff s p q _ _=>
  intro h;have h':=h;obtain⟨a,b⟩:=List.append_eq_nil_iff.mp h';show lp (.iff s p q) _ _=_;unfold lp;dsimp only;rw[if_neg (λz=>z a),if_neg (λz=>z b)]
 |thn p q a1 _=>
  intro h;have h':=h;obtain⟨a,b⟩:=List.append_eq_nil_iff.mp h';show lp (.thn p q) _ _=_;unfold lp;dsimp only;rw[if_pos b,a1 a]
 |bes p q _ _=>
  intro h;have h':=h;obtain⟨a,b⟩:=List.append_eq_nil_iff.mp h';show lp (.bes p q) _ _=_;unfold lp;dsimp only;rw[if_neg (λz=>z.1 a),if_neg (λz=>z a),if_neg (λz=>z b)]
 |again k p _=>
  simp only[rem];split
  .simp
  .intro h;unfold lr;rw[if_pos h]
 |hold s p _=>intro h;show lr (.hold s p) _=_;unfold lr;rw[if_pos (show(rem _ p).1=[] from h)]
 |watch s p _=>intro h;show lr (.watch s p) _=_;unfold lr;rw[if_pos (show(rem _ p).1=[] from h)]
 |trap p _=>intro h;show lr (.trap p) _=_;unfold lr;rw[if_pos (show(rem _ p).1=[] from h)]
def P5(th:List Int)(p:Pt):¬(beg th p).1=1->(beg th p).2.2=[]:=by
 induction p with
 |nothing=>intro _;rfl
 |send s=>intro _;rfl
 |exit d=>intro _;rfl
 |stay _=>exact λh=>absurd rfl h
 |rest k=>exact λh=>absurd rfl h
 |iff s p q z a1=>
  simp[beg];split
  .exact z
  .exact a1
 |thn p q z a1=>
  simp[beg];split
  .exact a1
  .exact z
 |bes p q z _=>
  intro h;have h':¬(if (beg _ q).1>(beg _ p).1 then(beg _ q).1 else(beg _ p).1)=1:=h;show(if _=1 then _ else [])=[];rw[if_neg h']
 |again k p _=>
  intro h;have h':¬agC (beg _ p).1=1:=h;show(if (beg _ p).1=0 then [k] else(beg _ p).2.2)=[];simp_all[agC,if_neg]
 |hold s p ih=>exact ih
 |watch s p ih=>exact ih
 |trap p ih=>
  intro h;refine ih λe=>h ?_
  show Ch (beg _ p).1=1
  rw[e];decide
def AaO{f:Pt->Prop}{a:List Int×Pt}(h0:f p)(ha:f a.2)(z:f b.2)(ht:∀q r,p=.thn q r->f (.thn a.2 r))(hs:∀q r,p=.bes q r->f (.bes a.2 b.2)):f (lp p a b):=by
 unfold lp;split
 .split
  .exact ht _ _ rfl
  .exact z
 .split
  .exact hs _ _ rfl
  .split
   .exact ha
   .split
    .exact z
    .exact h0
 .split
  .exact ha
  .split
   .exact z
   .exact h0
def Ge(g:Same H H'){st:Option (List Int)}(h:Hu K H st v):Hu K H' st v:=by
 cases st with
 |none=>exact h
 |some l=>
  obtain⟨a,e,z⟩:=h;exact⟨a,e,g.seq z⟩
def AbS{st:Option (List Int)}(h1:p.sc<64)(h2:p.rc<64):Lm (Rs p st th):=by
 have k2:(pb p st).sc<=p.sc:=by cases st with|none=>exact zB _|some l=>exact Wd l p
 have z:(pb p st).lc<=p.rc:=by cases st with|none=>exact Pt.lc_rc p|some l=>exact Ab7 l p
 obtain⟨c1,c2⟩:=Ov th (pb p st);have n1:=R5 (beg th (pb p st)).2.1;have n2:=(Gp (beg th (pb p st)).2.2).length_eq;exact⟨by show(nub (beg _ _).2.1).length<=900;omega,by show(Mg (beg _ _).2.2).length<=900;omega⟩
inductive Xy(K:FA)(vs:List V)(H:Hp)(Q:VK):Prop
 |mk(a:Addr)(ns:List Int)(_:vs=[.ref a])(_:SqL K H a (ns.map V.int))(_:ns.length<=63)(_:∀H',Q (.bl true) H')
def Ty(K:FA):Sp:=λvs H Q _=>Xy K vs H Q
def Kf(c:Int):nub [c]=[c]:=(Aay (pairwise_singleton _ _) λk=>Iff.rfl).symm
def Ab0(a b:Int):a<=mx a b:=by
 unfold mx;split
 .next c=>exact Int.le_of_lt c
 .exact Int.le_refl _
def AcH(a b:Int):b<=mx a b:=by
 unfold mx;split
 .exact Int.le_refl _
 .simp_all
def Adm(a b:Int):mx a b=a\/mx a b=b:=by
 unfold mx;split
 .exact .inr rfl
 .exact .inl rfl
def Vz(a b:Int):(nub ([a]++[b])).filter (λc=>decide (mx (Bi [a]) (Bi [b])<=c))=[mx a b]:=by
 refine Py ((Hi _).filter _) (pairwise_singleton _ _) λk=>?_
 rw[mem_filter,A8];simp only[vY,zG,decide_eq_true_eq];constructor
 .rintro⟨rfl|rfl,h⟩
  .exact Int.le_antisymm (Ab0 _ _) h
  .exact Int.le_antisymm (AcH _ _) h
 .rintro rfl
  exact⟨Adm a b,Int.le_refl _⟩
structure Gw(d:Wk):Prop where
 r1:d.1.Pairwise (· < ·)
 r2:d.2.2.1.Pairwise (· < ·)
 r3:d.2.2.2.Pairwise (· < ·)
 n1:∀x∈d.1,0<=x
 n2:∀x∈d.2.2.1,0<=x
 n3:∀x∈d.2.2.2,0<=x
 l1:d.1.length<64
 l2:d.2.2.1.length<64
 l3:d.2.2.2.length<64
def AaD(hk:∀x:Int,0<=x->x<sg->kn[x.toNat]?=some (some (decide (x∈th))))(h:okW sg p) :
  ∀s,wbeg kn s p=([(beg th p).1],s,if s=true then(beg th p).2.1 else [],(beg th p).2.1):=by
 induction p with
 |thn p q a1 a2=>
  intro s;simp[wbeg,beg];rw[(a1 h.1 s)]
  by_cases c:(beg th p).1=0
  .rw[if_pos c,a2 h.2 s]
   simp only[Md,c]
   have e:nub ([0].filter (λc=>!decide (c=0))++[(beg th q).1])=[(beg th q).1]:=by
    exact Kf _
   cases s<;>rfl
  .rw[if_neg (by simpa using λz=>c z.symm),if_neg c]
 |bes p q a1 a2=>
  intro s;simp[wbeg];rw[a1 h.1 s,a2 h.2 s];simp only[F1];rw[Vz];cases s<;>rfl
 |iff y p q a1 a2=>
  intro s;rw[Mc (o:=some _) (by rw[hk y h.1.1 h.1.2];rfl)];simp[beg]
  by_cases c:y∈th
  .rw[if_pos c,vK c];exact a1 h.2.1 s
  .rw[if_neg c,vM c];exact a2 h.2.2 s
 |again k p ih=>
  intro s;simp[wbeg];rw[ih h s];rfl
 |hold y p ih=>exact λs=>ih h.2 s
 |watch y p ih=>exact λs=>ih h.2 s
 |trap p ih=>
  intro s;simp[wbeg];rw[ih h s];rfl
 |send y=>intro s;cases s<;>rfl
 |nothing=>intro s;cases s<;>rfl
 |exit d=>intro s;cases s<;>rfl
 |rest d=>intro s;cases s<;>rfl
 |stay d=>intro s;cases s<;>rfl
def knF(th:List Int)(n:Nat):List (Option Bool):=(List.range n).map λ(i:Nat)=>some (decide ((i:Int)∈th))
def AcC(th:List Int)(n:Nat)(x:Int)(h0:0<=x)(h1:x<n):(knF th n)[x.toNat]?=some (some (decide (x∈th))):=by
 unfold knF;rw[vJ,getElem?_range (Adb ⟨h0,h1⟩)];show some (some _)=_;rw[uO h0]
def Lx(kn:List (Option Bool))(p:Pt):(wbeg kn false p).2.1=false/\(wbeg kn false p).2.2.1=[]:=by
 induction p with
 |thn p q z a1=>
  simp[wbeg];split
  .simp only[Ik]
   rw[z.1,z.2,a1.2];exact⟨a1.1,Z⟩
  .exact z
 |bes p q z a1=>
  simp only[wbeg,F1];rw[z.1,z.2,a1.2];exact⟨Z,Z⟩
 |iff x p q z a1=>
  simp[wbeg];split
  .exact⟨Z,Z⟩
  .exact z
  .exact a1
 |again k p ih=>exact ih
 |hold x p ih=>exact ih
 |watch x p ih=>exact ih
 |trap p ih=>exact ih
 |_=>exact⟨rfl,rfl⟩
def Om(h:(wbeg kn s p).2.1):s:=by
 cases s with
 |true=>rfl
 |false=>rw[(Lx _ p).1]at h;cases h
def Vt(kn:List (Option Bool))(h:okW sg p):∀s,(wbeg kn s p).2.1=true->∃c,(wbeg kn s p).1=[c]:=by
 induction p with
 |thn p q a1 a2=>
  intro s;simp[wbeg];split
  .next c=>
   simp[Ik];intro z;obtain⟨c1,e1⟩:=a1 h.1 s (Om z);obtain⟨c2,e2⟩:=a2 h.2 _ z;rw[e1]at c ⊢;rw[e2];have:=(mS c).symm;subst this;exact⟨c2,by exact Kf _⟩
  .exact a1 h.1 s
 |bes p q a1 a2=>
  intro s z;simp[wbeg,F1]at z ⊢;obtain⟨c1,e1⟩:=a1 h.1 s z.1;obtain⟨c2,e2⟩:=a2 h.2 s z.2;rw[e1,e2];exact⟨_,Vz _ _⟩
 |iff x p q a1 a2=>
  intro s;simp[wbeg];split
  .intro z;cases z
  .exact a1 h.2.1 s
  .exact a2 h.2.2 s
 |again k p ih=>
  intro s z;obtain⟨c,e⟩:=ih h s z;exact⟨agC c,by simp[wbeg,Lk];rw[e];exact Kf _⟩
 |hold x p ih=>exact λs z=>ih h.2 s z
 |watch x p ih=>exact λs z=>ih h.2 s z
 |trap p ih=>
  intro s z;obtain⟨c,e⟩:=ih h s z;exact⟨Ch c,by simp[wbeg,Lk];rw[e];exact Kf _⟩
 |_=>exact λs z=>⟨_,rfl⟩
structure LeW(a b:Wk):Prop where
 cd:∀c∈b.1,c∈a.1
 su:a.2.1=true->b.2.1=true
 mu:∀x∈a.2.2.1,x∈b.2.2.1
 ca:∀x∈b.2.2.2,x∈a.2.2.2
def leK(kn kn':List (Option Bool)):Prop:=∀(i:Nat)(b:Bool),(kn[i]?).getD none=some b->(kn'[i]?).getD none=some b
def S3{a:List Int}(z:0<b.length)(h:∀c∈b,c∈a):Bi a<=Bi b:=by
 have h1:=(Fp z).1;exact(Fp (length_pos_of_mem (h _ h1))).2 _ (h _ h1)
def AeW(hk:leK kn a3)(h:okW sg p):∀s s',(s=true->s'=true)->LeW (wbeg kn s p) (wbeg a3 s' p):=by
 induction p with
 |thn p q a4 a5=>
  intro s s' hs;have a1:=a4 h.1 s _ hs;have a2:=a5 h.2 _ _ a1.su;simp[wbeg]
  by_cases c':0∈(wbeg a3 s' p).1
  .have c:=a1.cd 0 c'
   rw[if_pos c,if_pos c'];refine⟨λx hx=>?_,a2.su,λx hx=>?_,λx hx=>?_⟩
   .have hx:=A8.mp hx
    refine A8.mpr (vY.mpr ((vY.mp hx).elim (λz=>.inl ?_) λz=>.inr (a2.cd x z)));have:=mem_filter.mp z;exact mem_filter.mpr ⟨a1.cd x this.1,this.2⟩
   .exact vY.mpr ((vY.mp hx).elim (λz=>.inl (a1.mu x z)) λz=>.inr (a2.mu x z))
   .exact vY.mpr ((vY.mp hx).elim (λz=>.inl (a1.ca x z)) λz=>.inr (a2.ca x z))
  .rw[if_neg c']
   by_cases c:0∈(wbeg kn s p).1
   .rw[if_pos c]
    have ns:(wbeg kn s p).2.1=false:=by
     cases e:(wbeg _ s p).2.1 with
     |false=>rfl
     |true=>
      obtain⟨c1,e1⟩:=Vt _ h.1 s e;rw[e1]at c;have:=(mS c).symm;subst this;obtain⟨m1,_⟩:=Fp (Jp _ h.1 _).ne;have:=a1.cd _ m1;rw[e1]at this;rw[mS this]at m1;exact absurd m1 c'
    have o:=Lx kn q;rw[ns];refine⟨λx hx=>A8.mpr (vY.mpr (.inl (mem_filter.mpr ⟨a1.cd x hx,?_⟩))),λz=>?_,λx hx=>?_,λx hx=>vY.mpr (.inl (a1.ca x hx))⟩
    .have:¬x=0:=λz=>c' (z▸hx)
     simp[this]
    .have z:(wbeg _ _ q).2.1=true:=z
     simp_all
    .refine(vY.mp hx).elim (λz=>a1.mu x z) λz=>?_
     simp_all
   .simp_all
 |bes p q a4 a5=>
  intro s s' hs;have a1:=a4 h.1 s _ hs;have a2:=a5 h.2 s _ hs;have k1:=S3 (Jp _ h.1 _).ne a1.cd;have k2:=S3 (Jp _ h.2 _).ne a2.cd;simp[wbeg];refine⟨λx hx=>?_,λz=>?_,λx hx=>?_,λx hx=>?_⟩
  .obtain⟨h1,h2⟩:=mem_filter.mp hx
   refine mem_filter.mpr ⟨A8.mpr (vY.mpr ((vY.mp (A8.mp h1)).elim (λz=>.inl (a1.cd x z)) λz=>.inr (a2.cd x z))),?_⟩;have h2:=vN h2;refine vK ?_;unfold mx at h2 ⊢;omega
  .simp[F1]at z ⊢
   exact⟨a1.su z.1,a2.su z.2⟩
  .exact vY.mpr ((vY.mp hx).elim (λz=>.inl (a1.mu x z)) λz=>.inr (a2.mu x z))
  .exact vY.mpr ((vY.mp hx).elim (λz=>.inl (a1.ca x z)) λz=>.inr (a2.ca x z))
 |iff y p q a4 a5=>
  intro s s' hs;rw[Mc rfl,Mc rfl];cases e:(kn[y.toNat]?).getD none with
  |some b=>
   rw[hk _ _ e];cases b with
   |true=>exact a4 h.2.1 s s' hs
   |false=>exact a5 h.2.2 s s' hs
  |none=>
   have f:false=true->s'=true:=λz=>nomatch z
   cases e':(a3[y.toNat]?).getD none with
   |some b=>
    cases b with
    |true=>
     have a:=a4 h.2.1 false s' f;exact⟨λc hc=>A8.mpr (vY.mpr (.inl (a.cd c hc))),(λz=>nomatch z),(λx hx=>by cases hx),λx hx=>vY.mpr (.inl (a.ca x hx))⟩
    |false=>
     have a:=a5 h.2.2 false s' f;exact⟨λc hc=>A8.mpr (vY.mpr (.inr (a.cd c hc))),(λz=>nomatch z),(λx hx=>by cases hx),λx hx=>vY.mpr (.inr (a.ca x hx))⟩
   |none=>
    have a1:=a4 h.2.1 false false (λz=>z);have a2:=a5 h.2.2 false false (λz=>z)
    exact⟨λc hc=>A8.mpr (vY.mpr ((vY.mp (A8.mp hc)).elim (λz=>.inl (a1.cd c z)) λz=>.inr (a2.cd c z))),(λz=>nomatch z),(λx hx=>by cases hx),
     λx hx=>vY.mpr ((vY.mp hx).elim (λz=>.inl (a1.ca x z)) λz=>.inr (a2.ca x z))⟩
 |again k p ih=>
  intro s s' hs;have a:=ih h s s' hs;exact⟨λc hc=>by obtain⟨x,hx,e⟩:=zU.mp (A8.mp hc);exact A8.mpr (zU.mpr ⟨x,a.cd x hx,e⟩),a.su,a.mu,a.ca⟩
 |hold y p ih=>exact λs s' hs=>ih h.2 s s' hs
 |watch y p ih=>exact λs s' hs=>ih h.2 s s' hs
 |trap p ih=>
  intro s s' hs;have a:=ih h s s' hs;exact⟨λc hc=>by obtain⟨x,hx,e⟩:=zU.mp (A8.mp hc);exact A8.mpr (zU.mpr ⟨x,a.cd x hx,e⟩),a.su,a.mu,a.ca⟩
 |send y=>
  intro s s' hs;refine⟨λc hc=>hc,hs,λx hx=>?_,λx hx=>hx⟩;cases s with
  |false=>cases hx
  |true=>rw[hs rfl];exact hx
 |nothing=>exact λs s' hs=>⟨λc hc=>hc,hs,λx hx=>hx,λx hx=>hx⟩
 |exit d=>exact λs s' hs=>⟨λc hc=>hc,hs,λx hx=>hx,λx hx=>hx⟩
 |rest d=>exact λs s' hs=>⟨λc hc=>hc,hs,λx hx=>hx,λx hx=>hx⟩
 |stay d=>exact λs s' hs=>⟨λc hc=>hc,hs,λx hx=>hx,λx hx=>hx⟩
def AdA(hk:leK kn z)(h:okW sg p)(st:Option (List Int))(hs:s=true->s'=true):LeW (Mp kn s p st) (Mp z s' p st):=by
 have a:=AeW hk (N7 h st) s _ hs;exact⟨a.cd,a.su,λx hx=>A8.mpr (a.mu x (A8.mp hx)),λx hx=>A8.mpr (a.ca x (A8.mp hx))⟩
def AcY(kn:List (Option Bool))(p:Pt):∀s,∀x∈(wbeg kn s p).2.2.1,x∈(wbeg kn s p).2.2.2:=by
 induction p with
 |thn p q a1 a2=>
  intro s;simp[wbeg];split
  .exact λx hx=>vY.mpr ((vY.mp hx).elim (λz=>.inl (a1 s x z)) λz=>.inr (a2 _ x z))
  .exact a1 s
 |bes p q a1 a2=>
  exact λs x hx=>vY.mpr ((vY.mp hx).elim (λz=>.inl (a1 s x z)) λz=>.inr (a2 s x z))
 |iff y p q a1 a2=>
  intro s;simp[wbeg];split
  .intro x hx;cases hx
  .exact a1 s
  .exact a2 s
 |again k p ih=>exact λs=>ih s
 |hold y p ih=>exact λs=>ih s
 |watch y p ih=>exact λs=>ih s
 |trap p ih=>exact λs=>ih s
 |send y=>
  intro s x hx;cases s with
  |false=>cases hx
  |true=>exact hx
 |nothing=>intro s x hx;cases hx
 |exit d=>intro s x hx;cases hx
 |rest d=>intro s x hx;cases hx
 |stay d=>intro s x hx;cases hx
def instD(p:Pt)(st:Option (List Int))(th:List Int):Dd:=
 match st with
 |none=>Rs p none th
 |some l=>if (rem l p).1=[] then(0,[],[]) else Rs p (some l) th
def DdF(H H':Hp)(t:Addr)(d:Dd):Prop:=∃l1 l2,H' t=some (.tup [.int d.1,.ref l1,.ref l2])/\H' l1=some (.lst (d.2.1.map V.int))/\H' l2=some (.lst (d.2.2.map V.int))/\H l1=none/\H l2=none
inductive Vx(K:FA)(n:Nat)(vs:List V)(H:Hp)(Q:VK):Prop
 |mk(v)(p)(th)(ns)(_:vs=[v,.non,.ref th])(_:PAt K H (Pt.nd p) v)(_:SqL K H th ((ns:List Int).map V.int))(_:p.hg<=n)(_:p.sc<64)(_:p.lc<64)(_:∀t H',Same H H'->DdF H H' t ((beg ns p).1,nub (beg ns p).2.1,Mg (beg ns p).2.2)->Q (.ref t) H')
def Aao(K:FA)(n:Nat):Sp:=λvs H Q _=>Vx K n vs H Q
def Hb(p:Pt):Option (List Int)->Prop
 |none=>False
 |some l=>(rem l p).1=[]
inductive Yc(K:FA)(n:Nat)(vs:List V)(H:Hp)(Q:VK):Prop
 |mk(pr)(x0)(x1)(x2)(v)(p)(sv)(st:_)(_:vs=[.ref pr,sv])(_:SqT K H pr [x0,x1,x2,v])(_:PAt K H (Pt.nd p) v)(_:Hu K H st sv)(_:p.hg<=n)(_:p.rc<=900)(_:∀v' H',Same H H'->(Hb p st/\v'=.non\/¬Hb p st/\PAt K H' (pb p st).nd v')->Q v' H')
def Z5(K:FA)(n:Nat):Sp:=λvs H Q _=>Yc K n vs H Q
inductive W7(K:FA)(n:Nat)(vs:List V)(H:Hp)(Q:VK):Prop
 |mk(pr)(x0)(x1)(x2)(v)(p)(sv)(st:_)(th)(ns)(_:vs=[.ref pr,sv,.ref th])(_:SqT K H pr [x0,x1,x2,v])(_:PAt K H (Pt.nd p) v)(_:Hu K H st sv)(_:SqL K H th ((ns:List Int).map V.int))(_:p.hg<=n)(_:p.sc<64)(_:p.rc<64)(_:∀t H',Same H H'->DdF H H' t (instD p st ns)->Q (.ref t) H')
def Q9(K:FA)(n:Nat):Sp:=λvs H Q _=>W7 K n vs H Q
def Ea{st:Option (List Int)} :(Hb p st->instD p st th=(0,[],[]))/\(¬Hb p st->instD p st th=Rs p st th):=by
 cases st with
 |none=>exact⟨λz=>z.elim,λ_=>rfl⟩
 |some l=>exact⟨λz=>if_pos z,λz=>if_neg z⟩
section
variable{aN aP aR:Addr}{uE uR uL:Value}
def AeV(C:Ae P w K mg base (n+4) "ran" ["part","state","there"] (AcE K n)):Ae P w K mg base (n+4) "ran" ["part","state","there"] (Aao K n):=C.imp λvs H Q E h=>by
 obtain⟨v,p,th,ns,rfl,hp,hS,hh,a4,z,q⟩:=h;refine⟨v,p,.non,none,th,ns,Z,hp,Z,hS,.inl rfl,hh,a4,z,λt H' g R=>q t _ g ?_⟩;obtain⟨l1,l2,a1,a2,a3,f1,f2,_⟩:=R;exact⟨l1,l2,a1,a2,a3,f1,f2⟩
def AfG(F:Ao K mg "body_to_begin" ["program","state"] F6)(T:Dk K mg aN aP aR uE uR uL)(aV:Ae P w K mg base (n+2) "remaining" ["part","state"] (Oj K n)) :
  Ae P w K mg base (n+3) "body_to_begin" ["program","state"] (Z5 K n):=by
 refine F.ok K1 (λvs H Q E h=>?_) (λf _ A _ s H _ Q E _ h=>?_)
 .obtain⟨pr,x0,x1,x2,v,p,sv,st,rfl,_⟩:=h;rfl
 obtain⟨pr,x0,x1,x2,v,p,sv,st,rfl,a4,hp,hS,hh,hc,q⟩:=h
 refine⟨_,(Ab (Az (Bg Ln (pv 1) B5 (B4 _))
   (Ad (Ag (pix (pv 0))))
   Ar)
  (Ab (pst 2 K1.nd (pcl aV (pa2 (pix (pv 0)) (pv 1))))
  (Ad (Ag (Bq (Ek (pix (pv 2)) (λ_=>rfl)) (pix (pv 2)) B5))))),?_⟩
 cases st with
 |none=>
  subst hS;exact⟨Z,Dg ⟨a4,Aa (j:=3) rfl,q _ _ (Bv _) (.inr ⟨λz=>z,hp⟩)⟩⟩
 |some ns=>
  obtain⟨a,rfl,hS⟩:=hS;refine⟨Z,Fh ⟨a4,Aa (j:=3) rfl,v,p,a,ns,Z,hp,hS,hh,hc,λt H1 g1 ⟨l,v1,a1,a2,a3⟩=>?_⟩⟩;refine⟨Aj a1,Aa (j:=0) rfl,_,.inl ⟨_,Ai a2,Z⟩,Mr (λc=>?_) λc=>?_⟩
  .exact⟨Aj a1,Aa (j:=1) rfl,q _ _ g1 (.inr ⟨c,a3⟩)⟩
  .exact q _ _ g1 (.inl ⟨c,Z⟩)
def AeZ(F:Ao K mg "instant" ["program","state","there"] La)(T:Dk K mg aN aP aR uE uR uL)(bD:Ae P w K mg base (n+3) "body_to_begin" ["program","state"] (Z5 K n))(jH:Ae P w K mg base (n+4) "ran" ["part","state","there"] (Aao K n)) :
  Ae P w K mg base (n+5) "instant" ["program","state","there"] (Q9 K n):=by
 refine F.ok Qo (λvs H Q E h=>?_) (λf _ A _ s H _ Q E _ h=>?_)
 .obtain⟨pr,x0,x1,x2,v,p,sv,st,th,ns,rfl,_⟩:=h;rfl
 obtain⟨pr,x0,x1,x2,v,p,sv,st,th,ns,rfl,a7,hp,a8,hS,hh,a9,b1,q⟩:=h
 refine⟨_,(Ab (pst 3 Qo.nd (pcl bD (pa2 (pv 0) (pv 1))))
  (Ab (Az (Bg Ln (pv 3) B5 (B4 _))
   (Ad (Ag (Ap (pa3 (Bj rfl T.m_ENDED T.r_ENDED) (An Bm) (An Bm)))))
   Ar)
  (Ad (Ag (pcl jH (pa3 (pv 3) B5 (pv 2))))))),?_⟩
 refine⟨pr,x0,x1,x2,v,p,sv,st,Z,a7,hp,a8,hh,by omega,λv1 H1 z hv=>?_⟩;rcases hv with⟨ov,rfl⟩|⟨ov,P1⟩
 .refine⟨Z,Dg ⟨zN0,λy1 a4=>⟨zN0,λy2 a5=>⟨zN3,λy3 a6=>?_⟩⟩⟩⟩
  obtain⟨kx,n1,n2,n3⟩:=Afc (a:=.lst []) (b:=.lst []) (c:=.tup [.int 0,.ref y1,.ref y2]) a4 a5 a6;exact q _ _ (z.trans kx) (by rw[Ea.1 ov];exact⟨y1,y2,n3,n1,n2,z.free a4,(z.trans (Ac a4 _)).free a5⟩)
 .have k1:(pb p st).hg<=p.hg:=by cases st with|none=>exact zB _|some l=>exact Aax l p
  have k2:(pb p st).sc<=p.sc:=by cases st with|none=>exact zB _|some l=>exact Wd l p
  have k3:(pb p st).lc<=p.rc:=by cases st with|none=>exact Pt.lc_rc p|some l=>exact Ab7 l p
  obtain⟨a1,e1⟩:∃a,v1=.ref a:=by
   generalize pb p st=p' at P1;cases p'<;>(obtain⟨a,vs,e,_⟩:=PAt.get P1;exact⟨a,e⟩)
  subst e1;refine⟨Z,Fh ⟨.ref a1,pb p st,th,ns,Z,P1,z.seq hS,by omega,by omega,by omega,λt H2 g2 R2=>q _ _ (z.trans g2) ?_⟩⟩;rw[Ea.2 ov];obtain⟨l1,l2,a1,a2,a3,f1,f2⟩:=R2;exact⟨l1,l2,a1,a2,a3,z.free f1,z.free f2⟩
def mcB(kn:List (Option Bool)):Option Pt->List Int×List Int
 |none=>([],[])
 |some b=>((Mp kn true b none).2.2.1,(Mp kn true b none).2.2.2)
def okB(sg:Int):Option Pt->Prop
 |none=>True
 |some b=>okW sg b
def Aau(hk:leK kn a1)(h:okB sg o):(∀x∈(mcB kn o).1,x∈(mcB a1 o).1)/\∀x∈(mcB a1 o).2,x∈(mcB kn o).2:=by
 cases o with
 |none=>exact⟨λx hx=>hx,λx hx=>hx⟩
 |some b=>
  have a:=AdA hk h none (s':=true) λz=>z
  exact⟨a.mu,a.ca⟩
def Fz(v:Option Bool)(kn:List (Option Bool)):List Int:=((List.range kn.length).filter (λi=>decide ((kn[i]?).getD none=v))).map λ(i:Nat)=>(i:Int)
def AdO{x:Int}:x∈Fz v kn↔(0<=x/\x<kn.length)/\(kn[x.toNat]?).getD none=v:=by
 unfold Fz;rw[zU];constructor
 .rintro⟨i,hi,rfl⟩
  have:=mem_filter.mp hi;exact⟨⟨by omega,by have:=mem_range.mp this.1;omega⟩,by exact vN this.2⟩
 .rintro⟨⟨h0,h1⟩,h2⟩
  exact⟨x.toNat,mem_filter.mpr ⟨mem_range.mpr (by omega),vK h2⟩,by omega⟩
def tak(kn:List (Option Bool))(mu ca:List Int):List Int:=(Fz none kn).filter (λs=>decide (s∈mu) || !decide (s∈ca))
def Ki{x:Int}:x∈tak kn mu ca↔((0<=x/\x<kn.length)/\(kn[x.toNat]?).getD none=none)/\(x∈mu\/¬x∈ca):=by
 unfold tak;rw[mem_filter,AdO];simp
def chg(kn:List (Option Bool))(mu ca:List Int):List (Int×Bool):=(tak kn mu ca).map λs=>(s,decide (s∈mu))
def behK(kn:List (Option Bool))(cs:List (Int×Bool)):List (Option Bool):=cs.foldl (λk c=>k.set c.1.toNat (some c.2)) kn
def Ko(cs:List (Int×Bool)):∀kn,(behK kn cs).length=kn.length:=by
 induction cs with
 |nil=>intro kn;rfl
 |cons c r z=>intro kn;show(behK _ r).length=_;rw[z,zN]
theorem Uh(f:Int->Bool)(i:Nat):∀(ss:List Int)(kn:List (Option Bool)),(∀s∈ss,0<=s/\s<kn.length)->(behK kn (ss.map λs=>(s,f s)))[i]?=if (i:Int)∈ss then some (some (f i)) else kn[i]?
 |[],kn,_=>by simp[behK]
 |s::r,kn,h=>by
  have hs:=h s vH;show(behK (kn.set s.toNat (some (f s))) _)[i]?=_;rw[Uh f i r _ (λx hx=>by rw[zN];exact h x (vI _ hx))]
  by_cases hr:(i:Int)∈r
  .rw[if_pos hr,if_pos (vI _ hr)]
  .rw[if_neg hr]
   by_cases e:i=s
   .subst e
    rw[if_pos vH,uI,zQ (by omega)]
   .rw[if_neg (λz=>(zM.mp z).elim e hr),zP (by omega)]
def K8(i:Nat):((behK kn (chg kn mu ca))[i]?).getD none=if (i:Int)∈tak kn mu ca then some (decide ((i:Int)∈mu)) else(kn[i]?).getD none:=by
 unfold chg;rw[Uh _ i _ _ (λs hs=>(Ki.mp hs).1.1)];split<;>rfl
def Acc:leK kn (behK kn (chg kn mu ca)):=by
 intro i b e;rw[K8,if_neg]
 .exact e
 .intro z
  have:=(Ki.mp z).1.2;simp_all
structure SI(n:Nat)(co:List Int)(o:Option Pt)(kn:List (Option Bool)):Prop where
 len:kn.length=n
 i1:∀i:Nat,i<n->(i:Int)∈co->(kn[i]?).getD none=some true
 i2:∀i:Nat,(kn[i]?).getD none=some true->(i:Int)∈co\/(i:Int)∈(mcB kn o).1
 i3:∀i:Nat,(kn[i]?).getD none=some false->¬(i:Int)∈(mcB kn o).2
def stepK(o:Option Pt)(kn:List (Option Bool)):List (Int×Bool):=chg kn (mcB kn o).1 (mcB kn o).2
def SI.next(h:SI n co o kn)(ok:okB sg o):SI n co o (behK kn (stepK o kn)):=by
 have le:=Acc (kn:=kn) (mu:=(mcB kn o).1) (ca:=(mcB kn o).2);have ml:=Aau le ok;refine⟨by rw[Ko];exact h.len,λi hi hc=>le _ _ (h.i1 i hi hc),λi e=>?_,λi e=>?_⟩
 .have e':=e
  unfold stepK at e';rw[K8]at e';split at e'
  .exact .inr (ml.1 _ (vN (uH e')))
  .exact(h.i2 i e').imp (λz=>z) λz=>ml.1 _ z
 .have e':=e
  unfold stepK at e';rw[K8]at e';split at e'
  .next z=>
   have nm:=of_decide_eq_false (uH e');have:=(Ki.mp z).2;exact λy=>(this.resolve_left nm) (ml.2 _ y)
  .exact λy=>h.i3 i e' (ml.2 _ y)
def Bw(n:Nat)(co:List Int):List (Option Bool):=(List.range n).map λ(i:Nat)=>if (i:Int)∈co then some true else none
def J8(n:Nat)(co:List Int)(i:Nat):((Bw n co)[i]?).getD none=if i<n/\(i:Int)∈co then some true else none:=by
 unfold Bw;rw[vJ]
 by_cases h:i<n
 .simp_all
 .rw[if_neg (λz=>h z.1),getElem?_eq_none (by rw[zI];omega)];rfl
def SI.first(n:Nat)(co:List Int)(o:Option Pt):SI n co o (Bw n co):=by
 refine⟨by simp[Bw],λi hi hc=>?_,λi e=>?_,λi e=>?_⟩
 .rw[J8,if_pos ⟨hi,hc⟩]
 .simp_all[J8]
 .simp_all[J8]
def rnds(o:Option Pt):Nat->List (Option Bool)->List (List (Int×Bool))
 |0,_=>[]
 |f+1,kn=>if stepK o kn=[] then [] else stepK o kn::rnds o f (behK kn (stepK o kn))
def Kz(o:Option Pt)(f:Nat)(kn:List (Option Bool)):List (Option Bool):=(rnds o f kn).foldl behK kn
def Sd(o:Option Pt)(f:Nat)(kn:List (Option Bool)):Kz o (f+1) kn=if stepK o kn=[] then kn else Kz o f (behK kn (stepK o kn)):=by
 unfold Kz;simp[rnds];split<;>rfl
theorem SI.set(ok:okB sg o):∀f{kn:List _},SI n co o kn->SI n co o (Kz o f kn)
 |0,kn,h=>h
 |f+1,kn,h=>by
  rw[Sd];split
  .exact h
  .exact SI.set ok f (h.next ok)
def Dc:List (Option Bool)->Nat
 |[]=>0
 |none::r=>Dc r+1
 |some _::r=>Dc r
theorem Nu:∀kn:List (Option Bool),Dc kn<=kn.length
 |[]=>zB _
 |none::r=>by have:=Nu r;simp[Dc];omega
 |some _::r=>by have:=Nu r;simp[Dc];omega
theorem K5(b:Bool):∀(kn:List (Option Bool))(i:Nat),Dc (kn.set i (some b))<=Dc kn/\(kn[i]?=some none->Dc (kn.set i (some b))<Dc kn)
 |[],i=>⟨zB _,λz=>by simp at z⟩
 |none::r,0=>⟨by simp only[set_cons_zero,Dc];omega,λ_=>by simp only[set_cons_zero,Dc];omega⟩
 |some c::r,0=>⟨by simp only[set_cons_zero,Dc];omega,λz=>by simp at z⟩
 |none::r,i+1=>by
  have:=K5 b r i;refine⟨by simp[Dc];omega,λz=>?_⟩;have:=this.2 (by simpa using z);simp[Dc];omega
 |some c::r,i+1=>by
  have:=K5 b r i;refine⟨by simp[Dc];omega,λz=>?_⟩;have:=this.2 (by simpa using z);simp only[set_cons_succ,Dc];omega
theorem Sj:∀cs(kn:List _),Dc (behK kn cs)<=Dc kn
 |[],kn=>zB _
 |c::r,kn=>zA (Sj r _) (K5 _ _ _).1
def AaL(h:¬stepK o kn=[]):Dc (behK kn (stepK o kn))<Dc kn:=by
 cases e:stepK o _ with
 |nil=>exact absurd e h
 |cons c r=>
  have hc:c∈stepK o kn:=by rw[e];exact vH
  obtain⟨s,hs,z⟩:=zU.mp hc;have m:=(Ki.mp hs).1;refine zE (Sj r _) ((K5 _ _ _).2 ?_);subst z;have hl:s.toNat<kn.length:=by omega
  simp_all
def Es(p:Pt)(st:Option (List Int)):Option Pt:=
 match st with
 |none=>some p
 |some l=>if (rem l p).1=[] then none else some (rem l p).2
def J5{st:Option (List Int)}:(Hb p st->Es p st=none)/\(¬Hb p st->Es p st=some (pb p st)):=by
 cases st with
 |none=>exact⟨λz=>z.elim,λ_=>rfl⟩
 |some l=>exact⟨λz=>if_pos z,λz=>if_neg z⟩
def O5(h:okW sg p)(st:Option (List Int)):okB sg (Es p st):=by
 by_cases z:Hb p st
 .rw[J5.1 z];exact trivial
 .rw[J5.2 z];exact N7 h _
def chV(p:Addr×(Int×Bool)):V:=.ref p.1
def Im(H:Hp)(a:Addr)(cs:List (Int×Bool)):Prop:=∃its:List (Addr×(Int×Bool)),H a=some (.lst (its.map chV))/\its.map Prod.snd=cs/\∀p∈its,H p.1=some (.tup [.int p.2.1,.bl p.2.2])
def Im.mono(h:Im H a cs)(g:Same H H'):Im H' a cs:=by
 obtain⟨z,h1,h2,h3⟩:=h;exact⟨z,g _ _ h1,h2,λp hp=>g _ _ (h3 p hp)⟩
def Im.off(h:Im H a cs)(n:a≠r)(hr:H r=some (.lst xs)):Im (upd H r (.lst ys)) a cs:=by
 obtain⟨a1,h1,h2,h3⟩:=h;refine⟨a1,by rw[upd_ne n];exact h1,h2,λp hp=>?_⟩;have:=h3 p hp;rw[upd_ne (λz=>by simp_all)];exact this
def rdV(p:Addr×List (Int×Bool)):V:=.ref p.1
def Ahe(H:Hp)(a:Addr)(css:List (List (Int×Bool))):Prop:=∃its:List (Addr×List (Int×Bool)),H a=some (.lst (its.map rdV))/\its.map Prod.snd=css/\∀p∈its,Im H p.1 p.2
structure Pm(K:FA)(H:Hp)(pr:Addr)(n:Nat)(p:Pt):Prop where
 pa:∃x0 x1 v,H pr=some (.tup [x0,x1,.int n,v])/\PAt K H (Pt.nd p) v
 hg:p.hg<=40
 sc:p.sc<=40
 rc:p.rc<=40
 ok:okW n p
 nb:n<=30
def Pm.mono(h:Pm K H pr n p)(g:Same H H'):Pm K H' pr n p:=by
 obtain⟨⟨x0,x1,v,e,a⟩,h1,h2,h3,h4,z⟩:=h;exact⟨⟨x0,x1,v,g _ _ e,a.mono g.tp⟩,h1,h2,h3,h4,z⟩
def OBd(K:FA)(H:Hp):Option Pt->V->Prop
 |none,v=>v=.non
 |some b,v=>PAt K H b.nd v/\b.hg<=40/\b.sc<64
def OBd.mono(h:OBd K H o v)(g:Same H H'):OBd K H' o v:=by
 cases o with
 |none=>exact h
 |some b=>exact⟨h.1.mono g.tp,h.2⟩
inductive Sx(K:FA)(n:Nat)(vs:List V)(H:Hp)(Q:VK):Prop
 |mk(v)(p)(s)(kl)(kn)(_:vs=[v,.non,.bl s,.ref kl])(_:PAt K H (Pt.nd p) v)(_:SqL K H kl ((kn:List (Option Bool)).map vO))(_:p.hg<=n)(_:p.sc<64)(_:okW kn.length p)(_:∀t H',Same H H'->E4 H' t (Mp kn s p none)->Q (.ref t) H')
def Yz(K:FA)(n:Nat):Sp:=λvs H Q _=>Sx K n vs H Q
inductive Sg(K:FA)(vs:List V)(H:Hp)(Q:VK):Prop
 |mk(pr)(co)(n:_)(p)(cs)(_:vs=[.ref pr,.ref co])(_:Pm K H pr n p)(_:SqL K H co ((cs:List Int).map V.int))(_:∀r H',Same H H'->H r=none->H' r=some (.lst ((Bw n cs).map vO))->Q (.ref r) H')
def R4(K:FA):Sp:=λvs H Q _=>Sg K vs H Q
inductive X3(K:FA)(vs:List V)(H:Hp)(Q:VK):Prop
 |mk(v)(kl)(kn)(_:vs=[vO v,.ref kl])(_:SqL K H kl ((kn:List (Option Bool)).map vO))(_:kn.length<=30)(_:∀r H',Same H H'->H r=none->H' r=some (.lst ((Fz v kn).map V.int))->Q (.ref r) H')
def Ads(K:FA):Sp:=λvs H Q _=>X3 K vs H Q
inductive Y1(K:FA)(vs:List V)(H:Hp)(Q:VK):Prop
 |mk(bv)(o)(kl)(kn)(_:vs=[bv,.ref kl])(_:OBd K H o bv)(_:SqL K H kl ((kn:List (Option Bool)).map vO))(_:kn.length<=30)(_:okB kn.length o)(_:∀r H',Same H H'->H r=none->Im H' r (stepK o kn)->Q (.ref r) H')
def Adp(K:FA):Sp:=λvs H Q _=>Y1 K vs H Q
inductive Yd(K:FA)(vs:List V)(H:Hp)(Q:VK):Prop
 |mk(kl)(c)(kn)(cs)(_:vs=[.ref kl,.ref c])(_:SqL K H kl ((kn:List (Option Bool)).map vO))(_:Im H c cs)(_:(∀x∈cs,0<=x.1/\x.1<kn.length))(_:cs.length<=60)(_:kn.length<=30)(_:∀r H',Same H H'->H r=none->H' r=some (.lst ((behK kn cs).map vO))->Q (.ref r) H')
def AaK(K:FA):Sp:=λvs H Q _=>Yd K vs H Q
inductive Xv(K:FA)(vs:List V)(H:Hp)(Q:VK):Prop
 |mk(pr)(sv)(co)(n:_)(p)(st:_)(cs)(_:vs=[.ref pr,sv,.ref co])(_:Pm K H pr n p)(_:Hu K H st sv)(_:SqL K H co ((cs:List Int).map V.int))(_:∀r H',Same H H'->Ahe H' r (rnds (Es p st) (n+1) (Bw n cs))->Q (.ref r) H')
def Adh(K:FA):Sp:=λvs H Q _=>Xv K vs H Q
inductive Yn(K:FA)(vs:List V)(H:Hp)(Q:VK):Prop
 |mk(pr)(sv)(co)(n:_)(p)(st:_)(cs)(_:vs=[.ref pr,sv,.ref co])(_:Pm K H pr n p)(_:Hu K H st sv)(_:SqL K H co ((cs:List Int).map V.int))(_:∀r H',Same H H'->H' r=some (.lst ((Kz (Es p st) (n+1) (Bw n cs)).map vO))->Q (.ref r) H')
def Adq(K:FA):Sp:=λvs H Q _=>Yn K vs H Q
def Pc(v:Option Bool)(kn:List (Option Bool)):(Fz v kn).length<=kn.length:=by
 unfold Fz;rw[vE];exact zA (length_filter_le _ _) (by rw[zI];exact zB _)
def Wv(o:Option Pt)(kn:List (Option Bool)):(∀x∈stepK o kn,0<=x.1/\x.1<kn.length)/\(stepK o kn).length<=kn.length:=by
 constructor
 .intro x z
  obtain⟨s,hs,rfl⟩:=zU.mp z;exact(Ki.mp hs).1.1
 .unfold stepK chg tak
  rw[vE];exact zA (length_filter_le _ _) (Pc _ _)
theorem Ye(o:Option Pt):∀(f:Nat)(kn:List (Option Bool)),∀cs∈rnds o f kn,(∀x∈cs,0<=x.1/\x.1<kn.length)/\cs.length<=kn.length
 |0,kn,cs,h=>by cases h
 |f+1,kn,cs,h=>by
  simp only[rnds]at h;split at h
  .cases h
  .rcases zM.mp h with rfl|h
   .exact Wv o kn
   .have:=Ye o f _ _ h
    rw[Ko]at this;exact this
theorem Tk:∀(z:List _)kn,(z.foldl behK kn).length=kn.length
 |[],kn=>rfl
 |c::r,kn=>by show(r.foldl _ (behK _ c)).length=_;rw[Tk r,Ko]
def Age(a b:Option Bool):decide (vO a=vO b)=decide (a=b):=by
 cases a with
 |none=>cases b with
  |none=>rfl
  |some y=>rfl
 |some x=>cases b with
  |none=>rfl
  |some y=>cases x<;>cases y<;>rfl
def AeY(a b:Option Bool):Acm (vO a) (vO b):=by cases a<;>cases b<;>rfl
def AcJ(v:Option Bool)(kn:List (Option Bool))(j:Nat)(o:Option Bool)(h:kn[j]?=some o):((List.range (j+1)).filter (λi=>decide ((kn[i]?).getD none=v))).map (λ(i:Nat)=>(i:Int))=if decide (o=v) then((List.range j).filter (λi=>decide ((kn[i]?).getD none=v))).map (λ(i:Nat)=>(i:Int))++[(j:Int)] else((List.range j).filter (λi=>decide ((kn[i]?).getD none=v))).map (λ(i:Nat)=>(i:Int)):=by
 rw[range_succ,zO,vQ]
 by_cases z:o=v
 .rw[if_pos (vK z),filter_cons_of_pos (by rw[h];exact vK z)];rfl
 .rw[if_neg (λy=>z (vN y)),filter_cons_of_neg (by rw[h];exact λy=>z (vN y))];simp
def AdE(C:Ae P w K mg base (n+4) "walked" ["part","state","sure","known"] (Yy K n)):Ae P w K mg base (n+4) "walked" ["part","state","sure","known"] (Yz K n):=C.imp λvs H Q E h=>by
 obtain⟨v,p,sr,kl,kn,rfl,hp,hS,hh,z,ok,q⟩:=h;exact⟨v,p,.non,none,sr,kl,kn,Z,hp,Z,hS,.inl rfl,hh,z,ok,λt H' g wk _=>q t _ g wk⟩
def AdN(F:Ao K mg "known_at_first" ["program","coming"] Eo)(T:Txt mg):Ae P w K mg base 1 "known_at_first" ["program","coming"] (R4 K):=by
 refine F.ok Oy (λvs H Q E h=>?_) (λf _ A _ s H _ Q E _ h=>?_)
 .obtain⟨pr,co,n,p,cs,rfl,_⟩:=h;rfl
 obtain⟨pr,co,n,p,cs,rfl,pg,hS,q⟩:=h;obtain⟨x0,x1,v,a1,_⟩:=pg.pa;have nb:=pg.nb;refine⟨_,(Ad (Ag (Cp (te:=(tIf (Ff (tOp (rIn K _) _ _)) _ _)) ["sign"] [("coming",1)] rfl (Bx (Af Eo) ["program","coming"] (by trivial)) (Fn rfl T.n_range (pa1 (pix (pv 0)))) (λs2 _ _ _ C=>Aq (i:=0) (show Nodup [("sign": Str),("coming": Str)] from by trivial) rfl (Or.inl rfl)) (A9 (by decide)) (λs2 H2 fp cl C=>Fg) (λs2 H2 fp cl C=>(Bq (Bg Bz (pv 0) (pv 1) (by rfl)) Do B5))))),?_⟩;refine⟨Aj a1,Aa (j:=2) rfl,_,Z,by omega,by omega,?_⟩;refine Fq (n:=n) (λi ys H'=>H'=H/\ys=(Bw i cs).map vO) ⟨Z,Z⟩ (Cq (by omega)) ?_ ?_
 .rintro i ys H' N hi ⟨rfl,rfl⟩ hN z
  have es:Bw (i+1) cs=Bw i cs++[if (i:Int)∈cs then some true else none]:=by unfold Bw;rw[range_succ,vQ];rfl
  refine⟨co,_,Z,.inl hS,Z,Cb _,Uo (λc=>?_) λc=>?_⟩
  .rw[Int.zero_add]at c
   exact hN _ _ (by rw[vF,vG];omega) ⟨Z,by rw[es,if_pos c,vQ];rfl⟩
  .rw[Int.zero_add]at c
   exact hN _ _ (by rw[vF,vG];omega) ⟨Z,by rw[es,if_neg c,vQ];rfl⟩
 .rintro ys H' z ⟨rfl,rfl⟩ D hD
  exact q D _ (Ac hD _) hD qa
def Afk(F:Ao K mg "signs_that_are" ["value","known"] Ep)(T:Txt mg):Ae P w K mg base 1 "signs_that_are" ["value","known"] (Ads K):=by
 refine F.ok Ox (λvs H Q E h=>?_) (λf _ A _ s H _ Q E _ h=>?_)
 .obtain⟨v,kl,kn,rfl,_⟩:=h;rfl
 obtain⟨v,kl,kn,rfl,hS,ln,q⟩:=h;refine⟨_,(Ad (Ag (Cp (g:=(AcR K 2 _)) ["sign","one"] [("value",0)] rfl (Bx (Af Ep) ["value","known"] (by trivial)) (Y4 rfl T.n_enumerate (pa1 (pv 1))) (λs2 _ _ _ C=>Fi rfl (Bf (Aq (i:=0) (show Nodup [("sign": Str),_,("value")] from by trivial) rfl (Or.inl rfl)) (Bf (Aq (i:=1) (show Nodup [("sign": Str),("one": Str),("value": Str)] from by trivial) rfl (Or.inl rfl)) Eb))) (AaJ (by decide) (by decide)) (λs2 H2 fp cl C=>Dj (pce (pv 1) (pv 2))) (λs2 H2 fp cl C=>(pv 0))))),?_⟩;refine⟨kl,Z,⟨_,hS⟩,?_⟩;refine Aaw (K:=K) (xs:=kn.map vO) (λi ys H'=>Same H H'/\ys=(((List.range i).filter (λi=>decide ((kn[i]?).getD none=v))).map λ(i:Nat)=>(i:Int)).map V.int) ⟨Bv _,Z⟩ (by rw[vE];exact Cq (by omega)) (λi ys H' ⟨g,_⟩=>g.seq hS) ?_ ?_
 .rintro i x Tt ys H' Nx hi ⟨z,rfl⟩ hT hN a1
  rw[vJ]at hi;cases e:kn[i]? with
  |none=>rw[e]at hi;cases hi
  |some o=>
   rw[e]at hi;cases hi
   have gT:=Ac hT (.tup [.int i,vO o]);have et:=AcJ v kn i o e;refine⟨Tt,_,Z,Aj qa,Z,_,_,Z,_,_,Z,Z,?_⟩;refine⟨AeY o v,?_⟩;rw[Age];refine As (λc=>?_) (λc=>?_)
   .exact(hN _ _ (by rw[vF,vG];omega) ⟨z.trans gT,by rw[et,if_pos c,vQ];rfl⟩)
   .exact hN _ _ (by omega) ⟨z.trans gT,by rw[et,if_neg c]⟩
 .rintro ys H' a1 ⟨z,rfl⟩ D hD
  refine q D _ (z.trans (Ac hD _)) (z.free hD) ?_;rw[qa,vE];rfl
def AfY(F:Ao K mg "known_behind" ["known","changes"] Gx)(T:Txt mg):Ae P w K mg base 1 "known_behind" ["known","changes"] (AaK K):=by
 refine F.ok Ht (λvs H Q E h=>?_) (λf cdv A outer s H vs Q E hr h=>?_)
 .obtain⟨kl,c,kn,cs,rfl,_⟩:=h;rfl
 obtain⟨kl,c,kn,cs,rfl,hS,⟨z,hc,ec,al⟩,bd,lc,ln,q⟩:=h
 refine⟨_,(Ab (pst 2 Ht.nd (Dp Ng rfl T.n_list (by trivial) (pa1 (pv 0))))
  (Ab (Fj PassesOwn.never rfl (Cf (pv 1)) (Aq (i:=3) Ht.nd rfl (Or.inl rfl))
   (Ad (Ft (pix (pv 3)) (V0 (pv 2) (pix (pv 3)) Pn))))
  (Ad (Ag (pv 2))))),?_⟩
 refine⟨kl,_,Z,.inl hS,λb hb=>?_⟩;refine⟨c,Z,⟨_,Ai (Ac hb _ _ _ hc)⟩,F9 (K:=K) (a:=c) (xs:=z.map chV) (D:={nx:=Aae (Aw 2) {nx:=λx H'=>Q V.non H',rt:=Q},rt:=Q}) (λi Y H'=>∃x3:Option V,Y=[some (.ref kl),some (.ref c),some (.ref b),x3]/\Same H H'/\H' b=some (.lst ((behK kn (cs.take i)).map vO))) ⟨none,Z,Ac hb _,qa⟩ (λi Y H' _ ⟨_,_,g,_⟩=>Ai (g _ _ hc)) ?_ ?_⟩
 .rintro i y Y H1 hi ⟨x3,rfl,g,hB⟩
  rw[vJ]at hi;cases e:z[i]? with
  |none=>rw[e]at hi;cases hi
  |some p=>
   rw[e]at hi;cases hi
   have hp:=g _ _ (al p (vR e));have ep:cs[i]?=p.2:=by rw[<-ec,vJ,e];rfl
   have bp:=bd p.2 (vR ep);have bl:(behK kn (cs.take i)).length=kn.length:=Ko _ _;refine⟨Aj hp,Aa (j:=1) rfl,Aj hp,Aa (j:=0) rfl,b,_,_,p.2.1.toNat,Z,Z,hB,?_,?_⟩
   .unfold ixN
    rw[if_pos bp.1,if_pos (by rw[vE,bl];exact bp.2)]
   .refine⟨_,Z,g.young hb _,?_⟩
    rw[qa]
    congr 2
    rw[take_add_one,ep];unfold behK;rw[List.foldl_append];show _=List.map vO ((List.foldl _ kn (cs.take i)).set p.2.1.toNat (some p.2.2));rw[map_set];rfl
 .rintro Y H1 ⟨x3,rfl,g,hB⟩
  have hl:(z.map chV).length=cs.length:=by rw[vE,<-ec,vE]
  rw[hl,take_length]at hB;exact(q b H1 g hb hB)
def AgL(F:Ao K mg "changes_by" ["body","known"] Gj)(T:Txt mg)(iT:Ae P w K mg base 44 "walked" ["part","state","sure","known"] (Yz K 40))(cN:Ae P w K mg base 1 "signs_that_are" ["value","known"] (Ads K)):Ae P w K mg base 45 "changes_by" ["body","known"] (Adp K):=by
 refine F.ok Dt (λvs H Q E h=>?_) (λf cdv A outer s H vs Q E hr h=>?_)
 .obtain⟨bv,o,kl,kn,rfl,_⟩:=h;rfl
 obtain⟨bv,o,kl,kn,rfl,ob,hS,ln,ok,q⟩:=h
 refine⟨_,(Ab (pst 2 Dt.nd (An Bm))
  (Ab (pst 3 Dt.nd (An Bm))
  (Ab (Az (Bg R0 (pv 0) B5 (B4 _))
   (Ab (pst 4 Dt.nd (pcl iT (Ba (pv 0) (pa3 B5 Do (pv 1)))))
  (Ab (pst 2 Dt.nd (pix (pv 4)))
  (Ad (pst 3 Dt.nd (pix (pv 4))))))
   Ar)
  (Ab (pst 5 Dt.nd (pcl cN (pa2 B5 (pv 1))))
  (Ad (Ag (Cp (tc:=(tOr (Ff (tOp (rIn K false) (Aw 0) (Aw 1))) (Ff (tOp (rIn K true) (Aw 0) (Aw 2))))) (te:=(Mf (Bl (Aw 0) (Bl (tOp (rIn K false) (Aw 0) (Aw 1)) Cs)))) ["sign"] [("must",2),("can",3)] rfl (Bx (Af Gj) ["body","known","must","can","walk","waiting"] (by trivial)) (Cf (pv 5)) (λs2 H2 fp cl C=>Aq (i:=0) (show Nodup [("sign": Str),("must": Str),("can": Str)] from by trivial) rfl (Or.inl rfl)) (A9 (by decide)) (λs2 H2 fp cl C=>Dj (PW.pt (Ha (Bg Bz (pv 0) (pv 1) (by rfl)) (F8 (Bg Ww (pv 0) (pv 2) (by rfl)))))) (λs2 H2 fp cl C=>(Ap (pa2 (pv 0) (Ew Bz (pv 0) (pv 1) (by rfl)))))))))))),?_⟩
 refine⟨zN0,λe1 b5=>⟨zN0,λe2 b6=>?_⟩⟩;have k2:=Ac b6 (.lst []);have g0:=(Ac b5 (.lst [])).trans k2;have h1:=k2 _ _ (qa);have h2:=qa (H:=upd H e1 (.lst [])) (a:=e2) (o:=.lst []);generalize (upd (upd H e1 (.lst [])) e2 (.lst []))=H0 at g0 h1 h2;cases o with
 |none=>
  subst ob;refine⟨Z,Fh ?_⟩;obtain⟨mu,ca,Hx,gx,a9,a8,eu,ea,ex⟩:∃mu ca Hx,Same H Hx/\Hx mu=some (.lst ((mcB kn none).1.map V.int))/\Hx ca=some (.lst ((mcB kn none).2.map V.int))/\mu=e1/\ca=e2/\Hx=H0:=⟨e1,e2,H0,g0,h1,h2,rfl,rfl,rfl⟩;rw[<-eu,<-ea,<-ex];generalize (none:Option Pt)=o at a9 a8 q;refine⟨none,kl,kn,Z,gx.seq hS,ln,λwl H5 g5 nw hw=>?_⟩;have gm:=g5 _ _ a9;have gc:=g5 _ _ a8;have gy:=gx.trans g5;have b4:=zA (Pc none kn) ln;refine⟨wl,Z,⟨_,Ai hw⟩,Db (K:=K) (λi ys H'=>Same H5 H'/\∃a6:List (Addr×(Int×Bool)),ys=a6.map chV/\a6.map Prod.snd=(((Fz none kn).take i).filter (λs=>decide (s∈(mcB kn o).1) || !decide (s∈(mcB kn o).2))).map (λs=>(s,decide (s∈(mcB kn o).1)))/\∀p∈a6,H' p.1=some (.tup [.int p.2.1,.bl p.2.2])) ⟨Bv _,[],Z,Z,λp hp=>by cases hp⟩ (by rw[vE];exact Cq (by omega)) (λi ys H' ⟨g,_⟩=>Ai (g _ _ hw)) ?_ ?_⟩
  .rintro j z ys H' N hj ⟨g6,a6,rfl,ei,al⟩ hN b2
   rw[vJ]at hj;cases ej:(Fz none kn)[j]? with
   |none=>rw[ej]at hj;cases hj
   |some x=>
    rw[ej]at hj;cases hj
    have et:((Fz none kn).take (j+1)).filter (λs=>decide (s∈(mcB kn o).1) || !decide (s∈(mcB kn o).2))=((Fz none kn).take j).filter (λs=>decide (s∈(mcB kn o).1) || !decide (s∈(mcB kn o).2))++[x].filter (λs=>decide (s∈(mcB kn o).1) || !decide (s∈(mcB kn o).2)):=by
     rw[take_add_one,ej,zO];rfl
    have skip:¬(decide (x∈(mcB kn o).1) || !decide (x∈(mcB kn o).2))->N (a6.map chV) H':=λz=>hN _ _ (by omega) ⟨g6,a6,Z,by rw[et,filter_cons_of_neg (p:=λs=>decide (s∈(mcB kn o).1) || !decide (s∈(mcB kn o).2)) z];simpa using ei,al⟩
    have take:∀(t:Addr)(b:Bool),b=decide (x∈(mcB kn o).1)->(decide (x∈(mcB kn o).1) || !decide (x∈(mcB kn o).2))->H' t=none->N (a6.map chV++[.ref t]) (upd H' t (.tup [.int x,.bl b])):=λt b eb z ht=>by
     have k:=Ac ht (.tup [.int x,.bl b]);refine hN _ _ (by rw[vF,vG];omega) ⟨g6.trans k,a6++[(t,(x,b))],by rw[vQ];rfl,?_,λp hp=>?_⟩
     .rw[et,filter_cons_of_pos (p:=λs=>decide (s∈(mcB kn o).1) || !decide (s∈(mcB kn o).2)) z,vQ,vQ,ei,eb];rfl
     .rcases vY.mp hp with h|h
      .exact k _ _ (al p h)
      .rcases mS h with rfl
       exact qa
    have a7:=g6 _ _ gm;have b1:=g6 _ _ gc;refine⟨mu,_,Z,.inl (Ai a7),Z,Cb _,Uo (λc=>?_) λc=>?_⟩
    .refine Dg ⟨mu,_,Z,.inl (Ai a7),Z,Cb _,zN2,λt ht=>take t _ (by rw[if_neg qc,Ej]) (by simp[c]) ht⟩
    .refine⟨ca,_,Z,.inl (Ai b1),Z,Cb _,?_⟩
     rw[Ej]
     by_cases d:x∈(mcB kn o).2
     .rw[vK d]
      exact Fh (skip (by simp[c,d]))
     .rw[vM d]
      exact Dg ⟨mu,_,Z,.inl (Ai a7),Z,Cb _,zN2,λt ht=>take t _ (by rw[if_neg qc,Ej]) (by simp[d]) ht⟩
  .rintro ys H' b2 ⟨g6,a6,rfl,ei,al⟩ D hD
   have k:=Ac hD (.lst (a6.map chV));rw[vE,take_length]at ei;exact q D _ ((gy.trans g6).trans k) ((gy.trans g6).free hD) ⟨a6,qa,ei,λp hp=>k _ _ (al p hp)⟩
 |some b=>
  obtain⟨b3,hb,sb⟩:=ob;obtain⟨a1,e1⟩:∃a,bv=.ref a:=by cases b<;>(obtain⟨a,vs,e,_⟩:=PAt.get b3;exact⟨a,e⟩)
  subst e1;refine⟨Z,Dg ?_⟩;refine⟨.ref a1,b,true,kl,kn,Z,b3.mono g0.tp,g0.seq hS,hb,sb,ok,λt H4 g4 ⟨l1,l2,l3,a2,a3,a4,a5⟩=>?_⟩;refine⟨Aj a2,Aa rfl,Aj a2,Aa rfl,?_⟩;obtain⟨mu,ca,Hx,gx,a9,a8,eu,ea,ex⟩:∃mu ca Hx,Same H Hx/\Hx mu=some (.lst ((mcB kn (some b)).1.map V.int))/\Hx ca=some (.lst ((mcB kn (some b)).2.map V.int))/\mu=l2/\ca=l3/\Hx=H4:=⟨l2,l3,H4,g0.trans g4,a4,a5,rfl,rfl,rfl⟩;rw[<-eu,<-ea,<-ex];generalize (some b:Option Pt)=o at a9 a8 q;refine⟨none,kl,kn,Z,gx.seq hS,ln,λwl H5 g5 nw hw=>?_⟩;have gm:=g5 _ _ a9;have gc:=g5 _ _ a8;have gy:=gx.trans g5;have b4:=zA (Pc none kn) ln;refine⟨wl,Z,⟨_,Ai hw⟩,Db (K:=K) (λi ys H'=>Same H5 H'/\∃a6:List (Addr×(Int×Bool)),ys=a6.map chV/\a6.map Prod.snd=(((Fz none kn).take i).filter (λs=>decide (s∈(mcB kn o).1) || !decide (s∈(mcB kn o).2))).map (λs=>(s,decide (s∈(mcB kn o).1)))/\∀p∈a6,H' p.1=some (.tup [.int p.2.1,.bl p.2.2])) ⟨Bv _,[],Z,Z,λp hp=>by cases hp⟩ (by rw[vE];exact Cq (by omega)) (λi ys H' ⟨g,_⟩=>Ai (g _ _ hw)) ?_ ?_⟩
  .rintro j z ys H' N hj ⟨g6,a6,rfl,ei,al⟩ hN b2
   rw[vJ]at hj;cases ej:(Fz none kn)[j]? with
   |none=>rw[ej]at hj;cases hj
   |some x=>
    rw[ej]at hj;cases hj
    have et:((Fz none kn).take (j+1)).filter (λs=>decide (s∈(mcB kn o).1) || !decide (s∈(mcB kn o).2))=((Fz none kn).take j).filter (λs=>decide (s∈(mcB kn o).1) || !decide (s∈(mcB kn o).2))++[x].filter (λs=>decide (s∈(mcB kn o).1) || !decide (s∈(mcB kn o).2)):=by
     rw[take_add_one,ej,zO];rfl
    have skip:¬(decide (x∈(mcB kn o).1) || !decide (x∈(mcB kn o).2))->N (a6.map chV) H':=λz=>hN _ _ (by omega) ⟨g6,a6,Z,by rw[et,filter_cons_of_neg (p:=λs=>decide (s∈(mcB kn o).1) || !decide (s∈(mcB kn o).2)) z];simpa using ei,al⟩
    have take:∀(t:Addr)(b:Bool),b=decide (x∈(mcB kn o).1)->(decide (x∈(mcB kn o).1) || !decide (x∈(mcB kn o).2))->H' t=none->N (a6.map chV++[.ref t]) (upd H' t (.tup [.int x,.bl b])):=λt b eb z ht=>by
     have k:=Ac ht (.tup [.int x,.bl b]);refine hN _ _ (by rw[vF,vG];omega) ⟨g6.trans k,a6++[(t,(x,b))],by rw[vQ];rfl,?_,λp hp=>?_⟩
     .rw[et,filter_cons_of_pos (p:=λs=>decide (s∈(mcB kn o).1) || !decide (s∈(mcB kn o).2)) z,vQ,vQ,ei,eb];rfl
     .rcases vY.mp hp with h|h
      .exact k _ _ (al p h)
      .rcases mS h with rfl
       exact qa
    have a7:=g6 _ _ gm;have b1:=g6 _ _ gc;refine⟨mu,_,Z,.inl (Ai a7),Z,Cb _,Uo (λc=>?_) λc=>?_⟩
    .refine Dg ⟨mu,_,Z,.inl (Ai a7),Z,Cb _,zN2,λt ht=>take t _ (by rw[if_neg qc,Ej]) (by simp[c]) ht⟩
    .refine⟨ca,_,Z,.inl (Ai b1),Z,Cb _,?_⟩
     rw[Ej]
     by_cases d:x∈(mcB kn o).2
     .rw[vK d]
      exact Fh (skip (by simp[c,d]))
     .rw[vM d]
      exact Dg ⟨mu,_,Z,.inl (Ai a7),Z,Cb _,zN2,λt ht=>take t _ (by rw[if_neg qc,Ej]) (by simp[d]) ht⟩
  .rintro ys H' b2 ⟨g6,a6,rfl,ei,al⟩ D hD
   have k:=Ac hD (.lst (a6.map chV));rw[vE,take_length]at ei;exact q D _ ((gy.trans g6).trans k) ((gy.trans g6).free hD) ⟨a6,qa,ei,λp hp=>k _ _ (al p hp)⟩
def Ae7(F:Ao K mg "rounds" ["program","state","coming"] M3)(T:Txt mg)(bD:Ae P w K mg base 43 "body_to_begin" ["program","state"] (Z5 K 40))(bB:Ae P w K mg base 1 "known_at_first" ["program","coming"] (R4 K))(bG:Ae P w K mg base 1 "known_behind" ["known","changes"] (AaK K))(cE:Ae P w K mg base 45 "changes_by" ["body","known"] (Adp K)):Ae P w K mg base 46 "rounds" ["program","state","coming"] (Adh K):=by
 refine F.ok Gb (λvs H Q E h=>?_) (λf cdv A outer s H vs Q E hr h=>?_)
 .obtain⟨pr,sv,co,n,p,st,cs,rfl,_⟩:=h;rfl
 obtain⟨pr,sv,co,n,p,st,cs,rfl,pg,d6,hS,q⟩:=h;obtain⟨x0,x1,v,d5,hp⟩:=pg.pa;have nb:=pg.nb;have e7:=pg.rc;have e5:=pg.sc;have e6:=pg.hg
 refine⟨_,(Ab (pst 3 Gb.nd (pcl bD (pa2 (pv 0) (pv 1))))
  (Ab (pst 4 Gb.nd (pcl bB (pa2 (pv 0) (pv 2))))
  (Ab (pst 5 Gb.nd (An Bm))
  (Ab (pst 6 Gb.nd (pcl cE (pa2 (pv 3) (pv 4))))
  (Ab (Mq PassesOwn.never (Ek (pv 6) (λ_=>rfl))
   (Ab (A6 (F2 uG uK uJ Da (pv 5) (pa1 (pv 6))))
  (Ab (pst 4 Gb.nd (pcl bG (pa2 (pv 4) (pv 6))))
  (Ad (pst 6 Gb.nd (pcl cE (pa2 (pv 3) (pv 4))))))))
  (Ad (Ag (pv 5)))))))),?_⟩
 refine⟨pr,x0,x1,.int n,v,p,sv,st,Z,Aj d5,hp,d6,pg.hg,by omega,λbv H1 g1 hb=>?_⟩
 have ob:OBd K H1 (Es p st) bv:=by
  rcases hb with⟨ov,rfl⟩|⟨ov,P1⟩
  .rw[J5.1 ov];rfl
  .rw[J5.2 ov]
   have k1:(pb p st).hg<=p.hg:=by cases st with|none=>exact zB _|some l=>exact Aax l p
   have k2:(pb p st).sc<=p.sc:=by cases st with|none=>exact zB _|some l=>exact Wd l p
   exact⟨P1,by omega,by omega⟩
 have b7:=O5 pg.ok st;refine⟨pr,co,n,p,cs,Z,pg.mono g1,g1.seq hS,λkl H2 g2 nk hk=>?_⟩;refine⟨zN0,λr0 b6=>?_⟩;have k3:=Ac b6 (.lst []);have d2:=g2.trans k3;have c6:=g1.trans d2;have b8:=k3 _ _ hk;have a8:=ne_of_none hk b6;have b3:=qa (H:=H2) (a:=r0) (o:=.lst []);have a4:=ob.mono d2;generalize (upd H2 r0 (.lst []))=H3 at c6 b8 b3 a4;have l0:(Bw n cs).length=n:=by simp[Bw]
 generalize Es p st=o at a4 b7 q;refine⟨bv,o,kl,Bw n cs,Z,a4,Ai b8,by omega,by rw[l0];exact b7,λch H4 g4 d3 d8=>?_⟩;refine⟨λm Y H'=>∃(kl ch:Addr)(kn:List (Option Bool))(a1:List (Addr×List (Int×Bool))),Y=[some (.ref pr),some sv,some (.ref co),some bv,some (.ref kl),some (.ref r0),some (.ref ch)]/\Same H H'/\OBd K H' o bv/\H' kl=some (.lst (kn.map vO))/\kl≠r0/\kn.length=n/\Im H' ch (stepK o kn)/\ch≠r0/\H' r0=some (.lst (a1.map rdV))/\a1.length+m=n+1/\(∀p∈a1,Im H' p.1 p.2/\p.1≠r0)/\Dc kn<m/\a1.map Prod.snd++rnds o m kn=rnds o (n+1) (Bw n cs),⟨n+1,kl,ch,Bw n cs,[],Z,c6.trans g4,a4.mono g4,g4 _ _ b8,a8,l0,d8,(λz=>by rw[z,b3]at d3;cases d3),g4 _ _ b3,by simp,(λp hp=>by cases hp),by have:=Nu (Bw n cs);omega,Z⟩,?_⟩;rintro m Y H5 ⟨kl,ch,kn,a1,rfl,g5,a7,d7,a8,ln,a5,a6,a2,lm,al,nm,er⟩;obtain⟨b1,c1,c2,c3⟩:=id a5;refine⟨_,.inl ⟨_,Ai c1,Z⟩,?_⟩
 by_cases z:stepK o kn=[]
 .have e0:b1=[]:=by rw[z]at c2;exact List.map_eq_nil_iff.mp c2
  subst e0;refine Fh ?_;obtain⟨m',rfl⟩:∃m',m=m'+1:=⟨m-1,by omega⟩;simp only[rnds]at er;rw[if_pos z,zK]at er;exact(q r0 H5 g5 ⟨a1,a2,er,λp hp=>(al p hp).1⟩)
 .obtain⟨x,r,e0⟩:∃x r,b1=x::r:=by
   cases b1 with
   |nil=>exact absurd c2.symm z
   |cons x r=>exact⟨x,r,rfl⟩
  subst e0;refine Dg ⟨λc4 H'=>∃m',m'<m/\∃(kl ch:Addr)(kn:List (Option Bool))(a1:List (Addr×List (Int×Bool))),c4=[some (.ref pr),some sv,some (.ref co),some bv,some (.ref kl),some (.ref r0),some (.ref ch)]/\Same H H'/\OBd K H' o bv/\H' kl=some (.lst (kn.map vO))/\kl≠r0/\kn.length=n/\Im H' ch (stepK o kn)/\ch≠r0/\H' r0=some (.lst (a1.map rdV))/\a1.length+m'=n+1/\(∀p∈a1,Im H' p.1 p.2/\p.1≠r0)/\Dc kn<m'/\a1.map Prod.snd++rnds o m' kn=rnds o (n+1) (Bw n cs),λc4 H' h=>h,?_⟩;refine⟨.inl ⟨Z,_,Ai a2⟩,r0,_,_,Z,Z,a2,by rw[vE];exact Hk (by omega),?_⟩;have g6:=g5.young ((g1.trans g2).free b6) (.lst (a1.map rdV++[.ref ch]))
  have b2:OBd K (upd H5 r0 (.lst (a1.map rdV++[.ref ch]))) o bv:=by
   cases o with
   |none=>exact a7
   |some b=>exact⟨a7.1.mono (tpLs a2),a7.2⟩
  have b9:(upd H5 r0 (.lst (a1.map rdV++[.ref ch]))) kl=some (.lst (kn.map vO)):=by rw[upd_ne a8];exact d7
  have a3:=a5.off (ys:=a1.map rdV++[.ref ch]) a6 a2;have a9:∀p∈a1,Im (upd H5 r0 (.lst (a1.map rdV++[.ref ch]))) p.1 p.2/\p.1≠r0:=λp hp=>⟨(al p hp).1.off (al p hp).2 a2,(al p hp).2⟩
  have b5:=qa (H:=H5) (a:=r0) (o:=.lst (a1.map rdV++[.ref ch]));generalize (upd H5 r0 (.lst (a1.map rdV++[.ref ch])))=H6 at g6 b2 b9 a3 a9 b5;have sb:=Wv o kn;refine⟨kl,ch,kn,stepK o kn,Z,Ai b9,a3,sb.1,by omega,by omega,λb4 H7 g7 c5 c9=>?_⟩;have d4:b4≠r0:=λy=>by rw[y,b5]at c5;cases c5
  have bl:=Ko (stepK o kn) kn;refine⟨bv,o,b4,behK kn (stepK o kn),Z,b2.mono g7,Ai c9,by omega,by rw[bl,ln];exact b7,λd9 H8 g8 c7 e3=>?_⟩;have c8:=g7 _ _ b5;have nn:=AaL z;obtain⟨m',rfl⟩:∃m',m=m'+1:=⟨m-1,by omega⟩;refine⟨m',by omega,b4,d9,behK kn (stepK o kn),a1++[(ch,stepK o kn)],Z,(g6.trans g7).trans g8,(b2.mono g7).mono g8,g8 _ _ c9,d4,by omega,e3,(λy=>by rw[y,c8]at c7;cases c7),?_,by rw[vF,vG];omega,λp hp=>?_,by omega,?_⟩
  .rw[g8 _ _ c8,vQ];rfl
  .rcases vY.mp hp with h|h
   .exact⟨((a9 p h).1.mono g7).mono g8,(a9 p h).2⟩
   .rcases mS h with rfl
    exact⟨(a3.mono g7).mono g8,a6⟩
  .rw[<-er]
   simp only[rnds];rw[if_neg z,vQ,append_assoc];rfl
def Ae6(F:Ao K mg "settled" ["program","state","coming"] K9)(T:Txt mg)(bB:Ae P w K mg base 1 "known_at_first" ["program","coming"] (R4 K))(bG:Ae P w K mg base 1 "known_behind" ["known","changes"] (AaK K))(iU:Ae P w K mg base 46 "rounds" ["program","state","coming"] (Adh K)):Ae P w K mg base 47 "settled" ["program","state","coming"] (Adq K):=by
 refine F.ok Ka (λvs H Q E h=>?_) (λf _ A _ s H _ Q E _ h=>?_)
 .obtain⟨pr,sv,co,n,p,st,cs,rfl,_⟩:=h;rfl
 obtain⟨pr,sv,co,n,p,st,cs,rfl,pg,a4,hS,q⟩:=h;have nb:=pg.nb
 refine⟨_,(Ab (pst 3 Ka.nd (pcl bB (pa2 (pv 0) (pv 2))))
  (Ab (Fj PassesOwn.never rfl (Cf (pcl iU (pa3 (pv 0) (pv 1) (pv 2)))) (Aq (i:=4) Ka.nd rfl (Or.inl rfl))
   (Ad (pst 3 Ka.nd (pcl bG (pa2 (pv 3) (pv 4))))))
  (Ad (Ag (pv 3))))),?_⟩
 refine⟨pr,co,n,p,cs,Z,pg,hS,λkl H1 g1 _ hk=>?_⟩;refine⟨pr,sv,co,n,p,st,cs,Z,pg.mono g1,Ge g1 a4,g1.seq hS,λr H2 g2 ⟨z,h2,e2,al⟩=>?_⟩;have l0:(Bw n cs).length=n:=by simp[Bw]
 have bd:=Ye (Es p st) (n+1) (Bw n cs);unfold Kz at q;rw[<-e2]at bd q;refine⟨r,Z,⟨_,Ai h2⟩,F9 (K:=K) (a:=r) (xs:=z.map rdV) (D:={nx:=Aae (Aw 3) {nx:=λx H'=>Q V.non H',rt:=Q},rt:=Q}) (λi Y H'=>∃(kl:Addr)(x4:Option V),Y=[some (.ref pr),some sv,some (.ref co),some (.ref kl),x4]/\Same H2 H'/\H' kl=some (.lst ((((z.map Prod.snd).take i).foldl behK (Bw n cs)).map vO))) ⟨kl,none,Z,Bv _,g2 _ _ hk⟩ (λi Y H' _ ⟨_,_,_,g,_⟩=>Ai (g _ _ h2)) ?_ ?_⟩
 .rintro i y Y H3 hi ⟨kl,x4,rfl,g3,a1⟩
  rw[vJ]at hi;cases e:z[i]? with
  |none=>rw[e]at hi;cases hi
  |some it=>
   rw[e]at hi;cases hi
   have hm:=vR e;have b:=bd it.2 (mem_map_of_mem hm);have fl:=Tk ((z.map Prod.snd).take i) (Bw n cs);refine⟨kl,it.1,_,it.2,Z,Ai a1,(al it hm).mono g3,(by rw[fl];exact b.1),by omega,by omega,λa2 H4 g4 _ a3=>?_⟩;refine⟨a2,_,Z,g3.trans g4,?_⟩;rw[a3,take_add_one,vJ,e,List.foldl_append];rfl
 .rintro Y H3 ⟨kl,x4,rfl,g3,a1⟩
  rw[vE,show z.length=(z.map Prod.snd).length from(vE _).symm,take_length]at a1;exact(q kl H3 ((g1.trans g2).trans g3) a1)
end
def Pt.sz:Pt->Nat
 |.iff _ p q=>p.sz+q.sz+1
 |.again _ p=>p.sz+1
 |.hold _ p=>p.sz+1
 |.watch _ p=>p.sz+1
 |.trap p=>p.sz+1
 |.thn p q=>p.sz+q.sz+1
 |.bes p q=>p.sz+q.sz+1
 |_=>1
end My
namespace Dsk
open PySem L2 My
abbrev Gw:=Str×List Int
structure Ws where
 gs:List Gw
 sn:List (List Int)
 lv:List (Int×Int)
 op:List Int
def Ws.nx(s:Ws):Int:=(s.gs.length:Int)
def Ws.add(s:Ws)(w:Str)(ns:List Int):Ws:=⟨s.gs++[(w,ns)],s.sn,s.lv,s.op⟩
def Ws.fil(s:Ws)(n:Int)(w:Str)(ns:List Int):Ws:=⟨s.gs.set n.toNat (w,ns),s.sn,s.lv,s.op.filter λx=>decide (x≠n)⟩
def Gz(l:List (Int×Int))(k v:Int):List (Int×Int):=if (l.any λp=>decide (p.1=k))=true then l.map (λp=>if p.1=k then(p.1,v) else p) else l++[(k,v)]
def Ws.lev(s:Ws)(k v:Int):Ws:=⟨s.gs,s.sn,Gz s.lv k v,s.op⟩
def kvI(p:Int×Int):Key×V:=(Sum.inl p.1,V.int p.2)
def putI_map(l:List (Int×Int))(k v:Int):(Gz l k v).map kvI=Fo (l.map kvI) (Sum.inl k) (V.int v):=by
 have e:((l.map kvI).any λkv=>decide (kv.1=(Sum.inl k)))=l.any λp=>decide (p.1=k):=by
  rw[any_map]
  congr 1
  funext p
  show decide ((Sum.inl _)=Sum.inl k)=_
  simp
 unfold Gz Fo;rw[e];split
 .rw[map_map,map_map]
  congr 1
  funext p
  show kvI (if p.1=k then(p.1,v) else p)=if (Sum.inl _:Key)=Sum.inl k then((Sum.inl _),V.int v) else kvI p
  by_cases h:p.1=k
  .rw[if_pos h,if_pos (congrArg _ h)];rfl
  .rw[if_neg h,if_neg (λz=>h (Sum.inl.inj z))]
 .rw[vQ];rfl
def putI_new{k:Int}(h:∀p∈l,¬p.1=k):Gz l k v=l++[(k,v)]:=by
 unfold Gz;rw[if_neg];intro z;obtain⟨p,hp,e⟩:=any_eq_true.mp z;exact h p hp (vN e)
structure Lc where
 dx:Addr
 gl:Addr
 sl:Addr
 nl:Addr
 ld:Addr
 rs:List Addr
def Lc.S(L:Lc):List Addr:=L.gl::L.ld::L.rs
def wsF(L:Lc):List (Str×V):=[("gates",.ref L.gl),("signs",.ref L.sl),("senders",.ref L.nl),("leavers",.ref L.ld)]
def GwAt(H:Hp)(g:Gw)(v:V):Prop:=∃t u,v=.ref t/\H t=some (.tup [.str g.1,.ref u])/\H u=some (.tup (g.2.map V.int))
def GwAt.mono(h:GwAt H g v)(T:Tp H H'):GwAt H' g v:=by
 obtain⟨t,u,e,h1,h2⟩:=h;exact⟨t,u,e,T _ _ h1,T _ _ h2⟩
inductive Bd(C:Addr)(H:Hp)(o:Addr)(L:Lc)(n:Nat)(s:Ws):Prop
 |mk(gvs:List V)(ho:H o=some (.ins C L.dx (wsF L)))(hg:H L.gl=some (.lst gvs))(hp:PySem.Paired (GwAt H) s.gs gvs)(hs:H L.sl=some (.lst ((List.range n).map λ(i:Nat)=>V.int (i:Int))))
   (hn:H L.nl=some (.lst (L.rs.map V.ref))) (hr:PySem.Paired (λl r=>H r=some (.lst ((l:List Int).map V.int))) s.sn L.rs) (hl:H L.ld=some (.dK (s.lv.map kvI))) (nd:(L.gl::L.sl::L.nl::L.rs).Nodup):Bd C H o L n s
def Bd.ho{o:Addr}{L:Lc}{s:Ws}(w:Bd C H o L n s):H o=some (.ins C L.dx (wsF L)):=by obtain⟨_,h,_⟩:=w;exact h
def Pl{K:FA}{a:Addr}{xs:List V}{g:TG}{tb:TS}{D:Ii}{Y:St}{H:Hp}(Pv:Nat->St->Hp->Prop)(h0:Pv 0 Y H)(hl:∀i Y H,i<=xs.length->Pv i Y H->SqT K H a xs)(hs:∀i x Y H D',(∀Y H,Pv (i+1) Y H->Ii.nx D' Y H/\D'.ct Y H)->xs[i]?=some x->Pv i Y H->g x Y H (tb D'))(hd:∀Y H,Pv xs.length Y H->D.nx Y H):=Ae0 _ h0 hl (λi x Y H=>hs i x Y H _ λ_ _ z=>⟨z,z⟩) hd
def KpS(S:List Addr)(H H':Hp):Prop:=∀b u,b∉S->H b=some u->H' b=some u
def KpS.refl(S:List Addr)(H:Hp):KpS S H H:=λ_ _ _ h=>h
def KpS.trans{H1:Hp}(a:KpS S H H1)(b:KpS S H1 H2):KpS S H H2:=λc u h e=>b c u h (a c u h e)
def sameKp{S:List Addr}(g:Same H H'):KpS S H H':=λb u _ e=>g b u e
def kpsUp{S:List Addr}{r:Addr}{u:HO}(h:r∈S):KpS S H (L2.upd H r u):=λb v n e=>by
 have hb:b≠r:=λz=>n (by rw[z];exact h)
 rw[upd_ne hb];exact e
def KpS.more(k:KpS S H H')(h:∀b∈S,b∈S'):KpS S' H H':=λb u n e=>k b u (λz=>n (h b z)) e
def Bd.off(w:Bd C H o L n s){u:HO}(e:H b=u)(h1:∀xs,u≠.lst xs)(h2:∀kvs,u≠.dK kvs):b∉L.S:=λz=>by
 obtain⟨gvs,ho,hg,hp,hs,hn,hr,hl,nd⟩:=w;rcases zM.mp z with z|z
 .rw[z,hg]at e;exact h1 _ (uH e).symm
 .rcases zM.mp z with z|z
  .rw[z,hl]at e;exact h2 _ (uH e).symm
  .obtain⟨j,hj⟩:=getElem?_of_mem z
   have a2:=uC hr;have a1:j<s.sn.length:=by have:=(uA.mp hj).1;omega
   obtain⟨y,e1,e2⟩:=Bo hr (vD a1);simp_all
def Bd.tp(w:Bd C H o L n s)(k:KpS L.S H H'):Tp H H':=λb _ e=>k b _ (w.off e (λ_ z=>nomatch z) λ_ z=>nomatch z) e
def Bd.same(w:Bd C H o L n s)(g:Same H H'):Bd C H' o L n s:=by
 obtain⟨gvs,ho,hg,hp,hs,hn,hr,hl,nd⟩:=w;exact⟨gvs,g _ _ ho,g _ _ hg,Bh hp λ_ _ a=>a.mono g.tp,g _ _ hs,g _ _ hn,Bh hr λ_ _ a=>g _ _ a,g _ _ hl,nd⟩
def Bd.keep(w:Bd C H o L n s)(T:List Addr)(g:KpS T H H')(tp:Tp H H')(h:∀b∈T,b≠o/\b≠L.sl/\b≠L.nl/\b∉L.S):Bd C H' o L n s:=by
 obtain⟨gvs,ho,hg,hp,hs,hn,hr,hl,nd⟩:=w;refine⟨gvs,g _ _ (λz=>(h _ z).1 rfl) ho,g _ _ (λz=>(h _ z).2.2.2 (vH)) hg,Bh hp λ_ _ a=>a.mono tp,g _ _ (λz=>(h _ z).2.1 rfl) hs,g _ _ (λz=>(h _ z).2.2.1 rfl) hn,?_,g _ _ (λz=>(h _ z).2.2.2 (vI _ vH)) hl,nd⟩;refine D9 (uC hr) λj x e=>?_
 obtain⟨y,e1,e2⟩:=Bo hr e;exact⟨y,e1,g _ _ (λz=>(h _ z).2.2.2 (vI _ (vI _ (vR e1)))) e2⟩
def Bd.gates{o:Addr}{L:Lc}{s:Ws}(w:Bd C H o L n s){gs:List Gw}{gvs:List V}{op:List Int}(hp:PySem.Paired (GwAt H) gs gvs):Bd C (upd H L.gl (.lst gvs)) o L n ⟨gs,s.sn,s.lv,op⟩:=by
 obtain⟨a1,ho,hg,a2,hs,hn,hr,hl,nd⟩:=w;have tp:Tp H (upd H _ (.lst gvs)):=tpLs hg;have ns:L.sl≠L.gl:=λz=>by rw[z]at nd;simp at nd
 have nn:L.nl≠L.gl:=λz=>by rw[z]at nd;simp at nd
 have nr:∀r∈L.rs,r≠L.gl:=λr _ z=>by simp_all
 refine⟨gvs,by rw[upd_ne (Bu ho hg (by simp))];exact ho,qa,Bh hp λ_ _ a=>a.mono tp,by rw[upd_ne ns];exact hs,by rw[upd_ne nn];exact hn,?_,by rw[upd_ne (Bu hl hg (by simp))];exact hl,nd⟩;refine D9 (uC hr) λj x e=>?_
 obtain⟨y,e1,e2⟩:=Bo hr e;exact⟨y,e1,by rw[upd_ne (nr y (vR e1))];exact e2⟩
inductive Gt where
 |start
 |mem (k:Int)
 |given (s:Int)
 |nt (g:Nat)
 |all (gs:List Nat)
 |som (gs:List Nat)
abbrev Kn:=Nat->Option Bool
def or3:Option Bool->Option Bool->Option Bool
 |some true,_=>some true
 |some false,b=>b
 |none,some true=>some true
 |none,_=>none
def an3:Option Bool->Option Bool->Option Bool
 |some false,_=>some false
 |some true,b=>b
 |none,some false=>some false
 |none,_=>none
def nt3(a:Option Bool):Option Bool:=a.map not
def orL(l:List (Option Bool)):Option Bool:=l.foldr or3 (some false)
def anL(l:List (Option Bool)):Option Bool:=l.foldr an3 (some true)
def Fy(st:Option (List Int))(co:List Int)(k:Kn):Gt->Option Bool
 |.start=>some st.isNone
 |.mem n=>some (match st with|none=>false|some l=>decide (n∈l))
 |.given s=>some (decide (s∈co))
 |.nt g=>(k g).map not
 |.all gs=>anL (gs.map k)
 |.som gs=>orL (gs.map k)
def gtW(w:Str)(ns:List Int):Gt:=if w ="start" then .start else if w ="memory" then .mem (ns.headD 0) else if w ="given" then .given (ns.headD 0) else if w ="not" then .nt (ns.headD 0).toNat else if w ="all" then .all (ns.map Int.toNat) else .som (ns.map Int.toNat)
def gtOf(g:Gw):Gt:=gtW g.1 g.2
structure Vn where
 st:Option (List Int)
 co:List Int
 k:Kn
def Vn.v(O:Vn)(x:Int):Option Bool:=O.k x.toNat
def Vn.g(O:Vn)(g:Gw):Option Bool:=Fy O.st O.co O.k (gtOf g)
def Bc(a:Option Bool):or3 a (some false)=a:=by rcases a with _|_|_<;>rfl
def Bt(a:Option Bool):an3 a (some true)=a:=by rcases a with _|_|_<;>rfl
def or3_c(a b:Option Bool):or3 a b=or3 b a:=by rcases a with _|_|_<;>rcases b with _|_|_<;>rfl
def AdZ(a b c:Option Bool):or3 (or3 a b) c=or3 a (or3 b c):=by rcases a with _|_|_<;>rcases b with _|_|_<;>rcases c with _|_|_<;>rfl
def Yi(l m:List (Option Bool)):orL (l++m)=or3 (orL l) (orL m):=by
 induction l with
 |nil=>rfl
 |cons a l z=>exact(congrArg _ z).trans (AdZ _ _ _).symm
def Fa(O:Vn)(ns:List Int):O.g ("some",ns)=orL (ns.map O.v):=congrArg orL map_map
def Mn(O:Vn)(ns:List Int):O.g ("all",ns)=anL (ns.map O.v):=congrArg anL map_map
def Sat(s:Ws)(O:Vn):Prop:=∀(i:Nat)g,s.gs[i]?=some g->(i:Int)∉s.op->O.k i=O.g g
def ov3:Option (Option Bool)->Option (Option Bool)->Option (Option Bool)
 |none,b=>b
 |some v,none=>some v
 |some _,some w=>some w
abbrev Dv:=Option Bool×Option (Option Bool)
def cb(a b:Dv):Dv:=(or3 a.1 b.1,ov3 a.2 b.2)
abbrev nz:Dv:=(some false,none)
def P8(b:Option (Option Bool)):ov3 b none=b:=by cases b<;>rfl
def J0(a:Dv):cb a nz=a:=by
 show(or3 _ _,ov3 _ _)=a
 rw[Bc,P8]
def AcO(a b c:Dv):cb (cb a b) c=cb a (cb b c):=by
 show(or3 (or3 _ _) _,ov3 (ov3 _ _) _)=(or3 _ (or3 _ _),ov3 _ (ov3 _ _))
 rw[AdZ,show ov3 _ _=ov3 a.2 (ov3 b.2 c.2) by cases a.2<;>cases b.2<;>cases c.2<;>rfl]
def Ws.sv(s:Ws)(O:Vn)(i:Nat×Int):Dv:=(orL ((s.sn.getD i.1 []).map O.v),(s.lv.lookup i.2).map O.v)
def KnW(s:Ws)(O:Vn):Prop:=∀i,i<s.gs.length->O.k i≠none
def KnL(O:Vn)(l:List Int):Prop:=∀g∈l,O.v g≠none
def AbR{l:List (Option Bool)}(h:∀v∈l,v≠none):orL l≠none:=by
 induction l with
 |nil=>exact λz=>nomatch z
 |cons a l ih=>
  have h1:=h a vH;show or3 a (orL l)≠none
  rcases a with _|_|_<;>first|exact absurd rfl h1|exact (ih λv hv=>h v (vI _ hv))|exact λz=>nomatch z
def AgI{l:List (Option Bool)}(h:∀v∈l,v≠none):anL l≠none:=by
 induction l with
 |nil=>exact λz=>nomatch z
 |cons a l ih=>
  have h1:=h a vH;show an3 a (anL l)≠none
  rcases a with _|_|_<;>first|exact absurd rfl h1|exact (ih λv hv=>h v (vI _ hv))|exact λz=>nomatch z
structure Eff where
 A:List Int
 F:Vn->Prop
 D:Vn->Nat×Int->Dv
 W:List Int
def Eff.cat(a b:Eff):Eff:=⟨a.A++b.A,λO=>a.F O/\b.F O,λO i=>cb (a.D O i) (b.D O i),a.W++b.W⟩
abbrev eC(g:List Int)(F:Vn->Prop):Eff:=⟨g,F,λ_ _=>nz,[]⟩
abbrev eF(F:Vn->Prop):Eff:=eC [] F
abbrev eN:Eff:=eF λ_=>True
abbrev eW(l:List Int):Eff:=⟨[],λ_=>True,λ_ _=>nz,l⟩
def Rr(s:Ws)(w:Str)(ns:List Int):(s.add w ns).gs.length=s.gs.length+1:=by unfold Ws.add;rw[vF,vG]
def Zs(s:Ws)(g:Int)(w:Str)(ns:List Int):(s.fil g w ns).gs.length=s.gs.length:=by unfold Ws.fil;rw[zN]
abbrev Cd:=List (Int×Int)
def FmG(n m c:Nat)(g:Gw):Prop:=(g.1 ="start" /\ g.2=[])\/(g.1 ="memory" /\ ∃k:Int,g.2=[k]/\0<=k/\k<m)\/(g.1 ="given" /\ ∃k:Int,g.2=[k]/\0<=k/\k<n)\/((g.1 ="all" \/ g.1 ="some" \/ (g.1 ="not" /\ g.2.length=1))/\∀x∈g.2,0<=x/\x<c)
def FmG.more(h:FmG n m c g)(hc:c<=z):FmG n m z g:=by
 rcases h with h|h|h|⟨h1,h2⟩
 .exact .inl h
 .exact .inr (.inl h)
 .exact .inr (.inr (.inl h))
 .exact .inr (.inr (.inr ⟨h1,λx hx=>by have:=h2 x hx;omega⟩))
def Rng(s:Ws)(g:Int):Prop:=0<=g/\g<s.nx
def Rng.up{x:Int}(h:Rng s x)(l:s.gs.length<=s'.gs.length):Rng s' x:=by unfold Rng Ws.nx at *;omega
def RL(s:Ws)(l:List Int):Prop:=∀x∈l,Rng s x
def RL.nil:RL s []:=λx z=>nomatch z
def RL.cons{s:Ws}{a:Int}{l:List Int}(h:Rng s a)(t:RL s l):RL s (a::l):=λx z=>by
 rcases zM.mp z with e|e
 .rw[e];exact h
 .exact t x e
def RL.one{a:Int}(h:Rng s a):RL s [a]:=.cons h .nil
def RL.two{a:Int}(h:Rng s a)(h':Rng s b):RL s [a,b]:=.cons h (.one h')
def RL.up(h:RL s l)(le:s.gs.length<=s'.gs.length):RL s' l:=λx z=>(h x z).up le
def CR(s:Ws)(cs:Cd):Prop:=∀p∈cs,(0<=p.1/\p.1<=5)/\Rng s p.2
def CR.up(h:CR s cs)(l:s.gs.length<=s'.gs.length):CR s' cs:=λp hp=>⟨(h p hp).1,(h p hp).2.up l⟩
def CR.app{a:Cd}(h:CR s a)(h':CR s b):CR s (a++b):=λp hp=>(vY.mp hp).elim (h p) (h' p)
structure WO(n m:Nat)(s:Ws):Prop where
 g:∀g∈s.gs,FmG n m s.gs.length g/\g.2.length<=1000
 sn:∀r∈s.sn,RL s r
 lv:∀p∈s.lv,Rng s p.2
 op:RL s s.op
def Cap(M:Nat)(s:Ws)(d:Nat):Prop:=s.gs.length+d<=M/\s.lv.length+d<=M/\∀r∈s.sn,32*r.length+d<=M
structure Hv(C o:Addr)(L:Lc)(n m:Nat)(H:Hp)(s:Ws)(d:Nat):Prop where
 w:Bd C H o L n s
 f:WO n m s
 nl:n<=s.gs.length
 sl:s.sn.length=n
 b:Cap 1000000 s d
structure Nw(C o:Addr)(L:Lc)(n m:Nat)(S:List Addr)(H:Hp)(s:Ws)(H':Hp)(s':Ws)(d:Nat)(E:Eff):Prop where
 k:KpS S H H'
 w:Bd C H' o L n s'
 f:WO n m s'
 lo:s.gs.length<=s'.gs.length
 sl:s'.sn.length=s.sn.length
 lv:∀k∈s.lv.map (·.1),k∈s'.lv.map (·.1)
 c:∀M e,Cap M s (d+e)->Cap M s' e
 op:∀g∈s.op,g∉E.A->g∈s'.op
 ct:∀(i:Nat)g,s.gs[i]?=some g->(i:Int)∉E.A->s'.gs[i]?=some g
 sat:∀O,Sat s' O->Sat s O/\E.F O/\∀i,s'.sv O i=cb (s.sv O i) (E.D O i)
 kn:∀O,Sat s' O->KnL O E.W->KnW s O->KnW s' O
section
variable{CP o dx:Addr}{L:Lc}{m d e j:Nat}{S:List Addr}{H1:Hp}{s s' s1:Ws}{x:Int}{rv cv:V}{u:HO}{E E':Eff}
def Hv.nw(h:Hv C o L n m H s j):Nw C o L n m S H s H s 0 eN:=⟨KpS.refl _ _,h.w,h.f,zB _,Z,λ_ h=>h,λM e h=>by simp_all,λ_ h _=>h,λ_ _ h _=>h,λO h=>⟨h,trivial,λ_=>(J0 _).symm⟩,λ_ _ _ h=>h⟩
def Nw.trans(U:Nw C o L n m S H s H1 s1 d E)(V:Nw C o L n m S H1 s1 H' s' e E'):Nw C o L n m S H s H' s' (d+e) (E.cat E'):=⟨U.k.trans V.k,V.w,V.f,zA U.lo V.lo,V.sl.trans U.sl,λk h=>V.lv k (U.lv k h),λM i h=>V.c M i (U.c M _ (by rwa[add_assoc]at h)),λg h z=>V.op g (U.op g h λy=>z (zY _ y)) λy=>z (vS _ y),λi g h z=>V.ct i g (U.ct i g h λy=>z (zY _ y)) λy=>z (vS _ y),λO h=>by
 obtain⟨a,b,c⟩:=V.sat O h;obtain⟨a,d,e⟩:=U.sat O a;exact⟨a,⟨d,b⟩,λi=>by rw[c,e,AcO];rfl⟩,λO z w h=>V.kn O z (λg m=>w g (vS _ m)) (U.kn O (V.sat O z).1 (λg m=>w g (zY _ m)) h)⟩
def Nw.wk(U:Nw C o L n m S H s H' s' d E)(l:d<=e)(ho:RL s s.op)(hA:∀g∈E.A,g∈E'.A\/s.nx<=g)(hF:∀O,E.F O->E'.F O/\∀i,E.D O i=E'.D O i)(hW:∀O,E.F O->KnW s O->KnL O E'.W->KnL O E.W:=by first|exact λ_ _ _ h=>h|exact λ_ _ _ _ _ h=>nomatch h):Nw C o L n m S H s H' s' e E':={U with
 c:=λM i h=>U.c M i ⟨by have:=h.1;omega,by have:=h.2.1;omega,λr hr=>by have:=h.2.2 r hr;omega⟩
 op:=λg h z=>U.op g h λy=>(hA g y).elim z λw=>by have:=(ho g h).2;omega
 ct:=λi g h z=>U.ct i g h λy=>(hA _ y).elim z λw=>by have:=(uA.mp h).1;unfold Ws.nx at w;omega
 sat:=λO h=>by
  obtain⟨a,b,c⟩:=U.sat O h;obtain⟨b,d⟩:=hF O b;exact⟨a,b,λi=>by rw[c,d]⟩
 kn:=λO z w h=>U.kn O z (hW O (U.sat O z).2.1 h w) h}
def Nw.more(U:Nw C o L n m S H s H' s' d E)(h:∀b∈S,b∈z):Nw C o L n m z H s H' s' d E:={U with k:=U.k.more h}
def Nw.then(U:Nw C o L n m (a::L.S) H s H1 s1 d E)(V:Nw C o L n m L.S H1 s1 H' s' e E'):Nw C o L n m (a::L.S) H s H' s' (d+e) (E.cat E'):=U.trans (V.more λb h=>vI _ h)
def Cap.le(h:Cap M s j)(l:e<=j):Cap M s e:=⟨by have:=h.1;omega,by have:=h.2.1;omega,λr hr=>by have:=h.2.2 r hr;omega⟩
def Nw.hv(U:Nw C o L n m S H s H' s' d E)(h:Hv C o L n m H s j)(l:d+e<=j):Hv C o L n m H' s' e:=⟨U.w,U.f,zA h.nl U.lo,U.sl.trans h.sl,U.c _ _ (h.b.le l)⟩
def Nw.same(U:Nw C o L n m S H s H' s' d E)(g:Same H' H1):Nw C o L n m S H s H1 s' d E:={U with k:=U.k.trans (sameKp g),w:=U.w.same g}
def Nw.new(U:Nw C o L n m S H s H' s' d E)(h:H' a=none)(u:HO):Nw C o L n m S H s (upd H' a u) s' d E:=U.same (Ac h u)
def WO.of{w:Str}(h:WO n m s)(hs:s'.sn=s.sn)(hl:s'.lv=s.lv)(a1:RL s' s'.op)(lo:s.gs.length<=s'.gs.length)(hf:FmG n m s.gs.length (w,ns))(l:ns.length<=1000)(hg:∀g∈s'.gs,g∈s.gs\/g=(w,ns)):WO n m s':=by
 refine⟨λg i=>?_,λr hr x hx=>?_,λp hp=>?_,a1⟩
 .rcases hg g i with z|z
  .exact⟨(h.g g z).1.more lo,(h.g g z).2⟩
  .rw[z];exact⟨hf.more lo,l⟩
 .rw[hs]at hr;exact(h.sn r hr x hx).up lo
 .rw[hl]at hp;exact(h.lv p hp).up lo
def Bd.op{l:List Int}(h:Bd C H o L n s):Bd C H o L n {s with op:=l}:=by
 obtain⟨a,b,c,d,e,f,g,i,j⟩:=h;exact⟨a,b,c,d,e,f,g,i,j⟩
def AiE{w:Str}{ns:List Int}{c:Nat}{O:Vn}(hf:FmG n m c (w,ns))(h:∀i,i<c->O.k i≠none):O.g (w,ns)≠none:=by
 have hl:(∀x∈ns,0<=x/\x<c)->∀v∈ns.map O.v,v≠none:=λhx v hv=>by
  obtain⟨x,hm,rfl⟩:=zU.mp hv;have:=hx x hm;exact h _ (by omega)
 rcases hf with⟨e,_⟩|⟨e,_⟩|⟨e,_⟩|⟨e|e|⟨e,_⟩,hx⟩
 .rw[show w ="start" from e];exact λz=>nomatch z
 .rw[show w ="memory" from e];exact λz=>nomatch z
 .rw[show w ="given" from e];exact λz=>nomatch z
 .rw[show w ="all" from e,Mn];exact AgI (hl hx)
 .rw[show w ="some" from e,Fa];exact AbR (hl hx)
 .rename_i l
  rw[show w ="not" from e];obtain⟨x,rfl⟩:∃x,ns=[x]:=List.length_eq_one_iff.mp l;have:=hl hx _ vH;show nt3 (O.v x)≠none;generalize O.v x=a at *;cases a<;>first|exact absurd rfl this|exact λz=>nomatch z
def Rv{w:Str}(h:WO n m s)(z:Sat (s.add w ns) O):Sat s O/\O.v s.nx=O.g (w,ns):=⟨λi g e=>z i g (by
  unfold Ws.add;rw[vV (uA.mp e).1];exact e),z _ _ (by
  unfold Ws.add Ws.nx;rw[uI,vW (zB _),Nat.sub_self];rfl) λy=>by
  have:=(h.op _ y).2;unfold Ws.nx at this;exact absurd this (Int.lt_irrefl _)⟩
def Hv.add{w:Str}{ns:List Int}(h:Hv C o L n m H s 1)(k:KpS L.S H H')(W:Bd C H' o L n (s.add w ns))(hf:FmG n m s.gs.length (w,ns))(l:ns.length<=1000):Nw C o L n m L.S H s H' (s.add w ns) 1 (eF λO=>O.v s.nx=O.g (w,ns))/\Rng (s.add w ns) s.nx:=by
 have la:=Rr s w ns;refine⟨⟨k,W,h.f.of rfl rfl (h.f.op.up (by omega)) (by omega) hf l λg hg=>?_,by omega,Z,λ_ h=>h,λM e h=>⟨by have:=h.1;omega,by have:=h.2.1;show s.lv.length+e<=M;omega,λr hr=>by have:=h.2.2 r hr;omega⟩,λ_ h _=>h,λi g h _=>by show(s.gs++_)[i]?=_;rw[vV (uA.mp h).1];exact h,λO z=>⟨(Rv h.f z).1,(Rv h.f z).2,λ_=>(J0 _).symm⟩,λO z _ kw i _=>?_⟩,by unfold Rng Ws.nx;omega⟩;rotate_left
 .rcases lt_or_ge i _ with c|c
  .exact kw i c
  .have:i=s.nx.toNat:=by unfold Ws.nx;omega
   rw[this];show O.v _≠none;rw[(Rv h.f z).2];exact AiE hf kw
 exact(vY.mp (hg)).imp id zG.mp
def Ws.opn(s:Ws):Ws:={s.add "some" [] with op:=s.nx::s.op}
def Hv.lat(h:Hv C o L n m H s 1)(k:KpS L.S H H')(W:Bd C H' o L n (s.add "some" [])):Nw C o L n m L.S H s H' s.opn 1 (eW [s.nx]):=by
 have la:=Rr s "some" [];obtain⟨V,r⟩:=h.add k W (.inr (.inr (.inr ⟨.inr (.inl rfl),RL.nil⟩))) (zZ _)
 exact {V with w:=W.op,f:=⟨V.f.g,V.f.sn,V.f.lv,.cons r (h.f.op.up (by show _<=(s.add "some" []).gs.length;omega))⟩,op:=λg z _=>vI _ z,sat:=λO z=>⟨λi g e y=>z i g (by
   show(s.add "some" []).gs[i]?=_
   unfold Ws.add;rw[vV (uA.mp e).1];exact e) λw=>(zM.mp w).elim (λw=>by have:=(uA.mp e).1;unfold Ws.nx at w;omega) y,trivial,λ_=>(J0 _).symm⟩,kn:=λO _ w kw i hi=>(lt_or_ge i _).elim (kw i) λc=>by rw[show i=s.nx.toNat by have hi:i<(s.add "some" []).gs.length:=hi;unfold Ws.nx;omega];exact w _ vH}
def Hv.fil{w:Str}{ns:List Int}{g:Int}(h:Hv C o L n m H s j)(k:KpS L.S H H')(W:Bd C H' o L n (s.fil g w ns))(hg:g∈s.op)(hw:w ="all" \/ w ="some")(hx:RL s ns)(l:ns.length<=1000):Nw C o L n m L.S H s H' (s.fil g w ns) 0 (eC [g] λO=>O.v g=O.g (w,ns)):=by
 have la:=Zs s g w ns;have g0:=h.f.op g hg;unfold Rng Ws.nx at g0;refine⟨k,W,h.f.of rfl rfl (λx hx=>(h.f.op x (mem_filter.mp hx).1).up (by omega)) (by omega) (.inr (.inr (.inr ⟨hw.elim .inl λz=>.inr (.inl z),hx⟩))) l λg' hg=>List.mem_or_eq_of_mem_set (hg),by omega,Z,λ_ h=>h,λM e h=>⟨by have:=h.1;omega,by have:=h.2.1;show s.lv.length+e<=M;omega,λr hr=>by have:=h.2.2 r hr;omega⟩,λx hx z=>mem_filter.mpr ⟨hx,vK λy=>z (zG.mpr y)⟩,λi _ e z=>by show(s.gs.set _ _)[i]?=_;rw[zP λw=>z (zG.mpr (by omega))];exact e,λO z=>⟨λi g' e y=>z i _ ?_ λw=>y (mem_filter.mp w).1,z _ _ ?_ λw=>vN (mem_filter.mp w).2 (by omega),λ_=>(J0 _).symm⟩,λO _ _ kw i _=>kw i (by omega)⟩
 .show(s.gs.set _ _)[i]?=_
  rw[zP (λw=>y (by rw[<-w,uO g0.1];exact hg))];exact e
 .show(s.gs.set _ _)[g.toNat]?=_
  simp_all
end
def Nw.reop{o:Addr}{L:Lc}{m d:Nat}{S:List Addr}{s s':Ws}{g:Int}{w:Str}{ns:List Int}{F:Vn->Prop}(V:Nw C o L n m S H s H' s' d (eC [g] F))(e:s'=s.fil g w ns)(hg:g∈s.op)(hs:RL s s.op):Nw C o L n m S H s H' {s' with op:=s.op} d (eC [g] λ_=>True):={V with
 w:=V.w.op
 f:=⟨V.f.g,V.f.sn,V.f.lv,hs.up V.lo⟩
 op:=λ_ h _=>h
 sat:=λO z=>⟨λi g' h y=>z i _ (V.ct i _ h λx=>y (by rw[mS x];exact hg)) y,trivial,λi=>by rw[J0];subst e;rfl⟩
 kn:=λO _ _ kw i hi=>kw i (by subst e;rw[<-Zs s g w _];exact hi)}
abbrev Ow:Stmt:=Fw Fr 0
abbrev Xf:Stmt:=Fw Fr 1
abbrev Sb:Stmt:=Fw Fr 2
abbrev AcL:Stmt:=Fw Fr 3
abbrev Ra:Stmt:=Fw Fr 4
abbrev Rb:Stmt:=Fw Fr 5
abbrev Tr:Stmt:=Fw Fr 6
abbrev M0:Stmt:=Fw Fr 7
abbrev Rc:Stmt:=Fw Fr 8
abbrev Zv:Stmt:=Fw Ae3 0
def Zm:Ak ["self","word","numbers"] ["self","word","numbers"] (Af Xf):=Ay (by trivial)
def Ui:Ak ["self"] ["self"] (Af Sb):=Ay (by trivial)
def AeN:Ak ["self","number","word","numbers"] ["self","number","word","numbers"] (Af AcL):=Ay (by trivial)
def Xh:Ak ["self","number"] ["self","number"] (Af Ra):=Ay (by trivial)
def Xg:Ak ["self","numbers"] ["self","numbers"] (Af Rb):=Ay (by trivial)
def AaR:Ak ["self","numbers"] ["self","numbers"] (Af Tr):=Ay (by trivial)
def Xn:Ak ["self"] ["self"] (Af Rc):=Ay (by trivial)
def AdH:Ak ["self","runs","kept","stays"] ["self","runs","kept","stays"] (Af Zv):=Ay (by trivial)
structure Cn(K:FA)(mg:Str->Option Value)(C CP:Addr):Prop extends Txt mg where
 cl:Cls K C
 nG:Ed K C "gates"
 nS:Ed K C "signs"
 nN:Ed K C "senders"
 nL:Ed K C "leavers"
 clP:Cls K CP
 nR:Ed K CP "runs"
 nK:Ed K CP "kept"
 nT:Ed K CP "stays"
 nE:Ed K CP "rests"
 nC:Ed K CP "codes"
 m_Wired:mg "Wired"= some (.ref CP)
 m_Wiring:mg "Wiring"= some (.ref C)
 m_EN:∃t,mg "ENDED"= some (.int 0 t)
 m_RE:∃t,mg "RESTS"= some (.int 1 t)
 m_LE:∃t,mg "LEAVES"= some (.int 2 t)
def Num(C o:Addr)(L:Lc)(n m:Nat)(Q:VK)(H:Hp)(s:Ws)(F:Vn->Option Bool):Prop:=∀H' s' x,Nw C o L n m L.S H s H' s' 1 (eF λO=>O.v x=F O)->Rng s' x->Q (.int x) H'
inductive Xa(C:Addr)(vs:List V)(H:Hp)(Q:VK):Prop
 |mk(o nl':Addr)(w:Str)(ns:List Int)(L:Lc)(n m:Nat)(s:Ws)(_:vs=[.ref o,.str w,.ref nl'])(_:Hv C o L n m H s 1)(_:H nl'=some (.lst (ns.map V.int)))(_:∀H',KpS L.S H H'->Bd C H' o L n (s.add w ns)->Q (.int s.nx) H')
def Jo(C:Addr):Sp:=λvs H Q _=>Xa C vs H Q
inductive Sn(C:Addr)(vs:List V)(H:Hp)(Q:VK):Prop
 |mk(o:Addr)(L:Lc)(n m:Nat)(s:Ws)(_:vs=[.ref o])(_:Hv C o L n m H s 1)(_:∀H',Nw C o L n m L.S H s H' s.opn 1 (eW [s.nx])->Q (.int s.nx) H')
def Zk(C:Addr):Sp:=λvs H Q _=>Sn C vs H Q
inductive Uy(C:Addr)(vs:List V)(H:Hp)(Q:VK):Prop
 |mk(o nl':Addr)(g:Int)(w:Str)(ns:List Int)(L:Lc)(n m:Nat)(s:Ws)(_:vs=[.ref o,.int g,.str w,.ref nl'])(_:Hv C o L n m H s 0)(_:H nl'=some (.lst (ns.map V.int)))(_:g∈s.op)(_:(w ="all" \/ w ="some"))(_:RL s ns)(_:ns.length<=1000)(_:∀H' s',Nw C o L n m L.S H s H' s' 0 (eC [g] λO=>O.v g=O.g (w,ns))->s'=s.fil g w ns->Q .non H')
def Jt(C:Addr):Sp:=λvs H Q _=>Uy C vs H Q
inductive X1(C:Addr)(vs:List V)(H:Hp)(Q:VK):Prop
 |mk(o:Addr)(g:Int)(L:Lc)(n m:Nat)(s:Ws)(_:vs=[.ref o,.int g])(_:Hv C o L n m H s 1)(_:Rng s g)(_:Num C o L n m Q H s λO=>nt3 (O.v g))
def Oe(C:Addr):Sp:=λvs H Q _=>X1 C vs H Q
def AcF(C:Addr)(f:List (Option Bool)->Option Bool):Sp:=λvs H Q _=>∃(o nl':Addr)(ns:List Int)(L:Lc)(n m:Nat)(s:Ws),vs=[.ref o,.ref nl']/\Hv C o L n m H s 1/\H nl'=some (.lst (ns.map V.int))/\RL s ns/\ns.length<=1000/\Num C o L n m Q H s λO=>f (ns.map O.v)
abbrev Hn(C:Addr):Sp:=AcF C anL
abbrev Ie(C:Addr):Sp:=AcF C orL
def Hv.same(h:Hv C o L n m H s d)(g:Same H H'):Hv C o L n m H' s d:={h with w:=h.w.same g}
def Num.same{F:Vn->Option Bool}(q:Num C o L n m Q H s F)(g:Same H H'):Num C o L n m Q H' s F:=λH2 s2 x U=>q _ _ x {U with k:=(sameKp g).trans U.k}
def Num.add{w:Str}{F:Vn->Option Bool}(q:Num C o L n m Q H s F)(h:Hv C o L n m H s 1)(hf:FmG n m s.gs.length (w,ns))(l:ns.length<=1000)(k:KpS L.S H H')(W:Bd C H' o L n (s.add w ns))(e:∀O:Vn,O.g (w,ns)=F O):Q (.int s.nx) H':=by
 obtain⟨V,r⟩:=h.add k W hf l;exact q _ _ _ {V with sat:=λO z=>⟨(V.sat O z).1,(V.sat O z).2.1.trans (e O),(V.sat O z).2.2⟩} r
def Ac3(h:n<=1000000):n<sizeLine:=zE h (by decide)
section
variable{CP:Addr}
seal PSs PS PE PA PT
def AiR(F:Fun K "gate" "Wiring.gate" Xf f fd)(T:Cn K mg C CP):Cc P w K mg base CX0 1 f fd ["self","word","numbers"] (Jo C):=by
 refine F.ok Zm (λvs H Q E h=>?_) (λcdv A outer s0 H vs Q E hr h=>?_)
 .obtain⟨o,nl',w,ns,L,n,m,s,rfl,_⟩:=h;rfl
 obtain⟨o,nl',w,ns,L,n,m,s,rfl,hv,a4,q⟩:=h;have W:=hv.w;have hb:=hv.b.1;obtain⟨gvs,ho,hg,hp,rest⟩:=id W;have gl:=uC hp
 refine⟨_,(Ab (A6 (F2 uG uK uJ Da (pfd (pv 0)) (pa1 (Ap (pa2 (pv 1) (Dp Hd rfl T.n_tuple (by trivial) (pa1 (pv 2))))))))
  (Ad (Ag (Au W8 (Bs C9 rfl T.n_len PySem.boot_len (pa1 (pfd (pv 0)))) Am)))),?_⟩
 refine⟨ho,T.cl,T.nG,Z,.inl ⟨Z,_,Ai hg⟩,nl',_,Z,.inl ⟨Ai a4,λt2 a3=>⟨zN2,λt1 a5=>?_⟩⟩⟩;have g2:=Ac a5 (.tup [V.str w,.ref t2]);have z:=(Ac a3 (.tup (ns.map V.int))).trans g2;refine⟨L.gl,gvs,.ref t1,Z,Z,z _ _ hg,Ac3 (by omega),?_⟩
 have pn:PySem.Paired (GwAt (upd (upd H t2 (.tup (ns.map V.int))) t1 (.tup [V.str w,.ref t2]))) (s.gs++[(w,ns)]) (gvs++[.ref t1]):=by
  refine D9 (by rw[vF,vF,gl];rfl) λj x e=>?_
  rcases lt_or_ge j s.gs.length with hj|hj
  .rw[vV hj]at e
   obtain⟨y,e1,e2⟩:=Bo hp e;exact⟨y,by rw[vV (by omega)];exact e1,e2.mono z.tp⟩
  .rw[vW hj]at e
   have a2:j-s.gs.length=0:=by
    have:=(uA.mp e).1;simp_all
   rw[a2]at e;cases e
   refine⟨.ref t1,by rw[vW (by omega),show j-gvs.length=0 by omega];rfl,t1,t2,Z,qa,g2 _ _ qa⟩
 have W3:=(W.same z).gates (op:=s.op) pn
 have a1:(upd (upd (upd H t2 (.tup (ns.map V.int))) t1 (.tup [V.str w,.ref t2])) L.gl (.lst (gvs++[.ref t1]))) o=some (.ins C L.dx (wsF L)):=by
  have a1:=W3.ho;exact a1
 refine⟨a1,T.cl,T.nG,Z,L.gl,_,Z,.inl (Ai qa),_,_,Z,Z,?_⟩
 have e:(((gvs++[V.ref t1]).length:Nat):Int)-1=s.nx:=by
  unfold Ws.nx;rw[vF,vG];omega
 dsimp only;rw[e];exact q _ ((sameKp z).trans (kpsUp vH)) W3
def Ah9(F:Fun K "later" "Wiring.later" Sb f fd)(T:Cn K mg C CP)(z:A4 P w K mg base 1 C "gate" ["self","word","numbers"] (Jo C)):Cc P w K mg base CX0 2 f fd ["self"] (Zk C):=by
 refine F.ok Ui (λvs H Q E h=>?_) (λcdv A _ _ H _ Q E hr h=>?_)
 .obtain⟨o,L,n,m,s,rfl,_⟩:=h;rfl
 obtain⟨o,L,n,m,s,rfl,hv,q⟩:=h;have W:=hv.w;refine⟨_,(Ad (Ag (Al z hr Ax (pv 0) (pa2 Ah (An Bm))))),?_⟩;refine⟨W.ho,Z,zN0,λl hl=>?_⟩;have g:=Ac hl (.lst []);exact⟨o,l,"some",[],L,n,m,s,Z,hv.same g,qa,λH' k W=>q _ (hv.lat ((sameKp g).trans k) W)⟩
def AgT(F:Fun K "opposite" "Wiring.opposite" Ra f fd)(T:Cn K mg C CP)(aL:A4 P w K mg base 1 C "gate" ["self","word","numbers"] (Jo C)):Cc P w K mg base CX0 2 f fd ["self","number"] (Oe C):=by
 refine F.ok Xh (λvs H Q E h=>?_) (λcdv A _ _ H _ Q E hr h=>?_)
 .obtain⟨o,g,L,n,m,s,rfl,_⟩:=h;rfl
 obtain⟨o,g,L,n,m,s,rfl,hv,hg,q⟩:=h;have W:=hv.w;refine⟨_,(Ad (Ag (Al aL hr Ax (pv 0) (pa2 Ah (An (pa1 (pv 1))))))),?_⟩;refine⟨W.ho,Z,zN1,λl hl=>?_⟩;have z:=Ac hl (.lst [V.int g]);exact⟨o,l,"not",[g],L,n,m,s,Z,hv.same z,qa,λH' k W=>(q.same z).add (hv.same z) (.inr (.inr (.inr ⟨.inr (.inr ⟨Z,Z⟩),RL.one hg⟩))) (by show 1<=1000;decide) k W λO=>rfl⟩
def Agx(F:Fun K "every_of" "Wiring.every_of" Rb f fd)(T:Cn K mg C CP)(z:A4 P w K mg base 1 C "gate" ["self","word","numbers"] (Jo C)):Cc P w K mg base CX0 2 f fd ["self","numbers"] (Hn C):=by
 refine F.ok Xg (λvs H Q E h=>?_) (λcdv A _ _ H _ Q E hr h=>?_)
 .obtain⟨o,nl',ns,L,n,m,s,rfl,_⟩:=h;rfl
 obtain⟨o,nl',ns,L,n,m,s,rfl,hv,hn,rl,hl,q⟩:=h;have W:=hv.w;refine⟨_,(Ad (Ag (Al z hr Ax (pv 0) (pa2 Ah (pv 1))))),?_⟩;refine⟨W.ho,Z,?_⟩;exact⟨o,nl',"all",ns,L,n,m,s,Z,hv,hn,λH' k W=>q.add hv (.inr (.inr (.inr ⟨.inl rfl,rl⟩))) hl k W λO=>Mn O _⟩
def AhW(F:Fun K "some_of" "Wiring.some_of" Tr f fd)(T:Cn K mg C CP)(aL:A4 P w K mg base 1 C "gate" ["self","word","numbers"] (Jo C)):Cc P w K mg base CX0 2 f fd ["self","numbers"] (Ie C):=by
 refine F.ok AaR (λvs H Q E h=>?_) (λcdv A _ _ H _ Q E hr h=>?_)
 .obtain⟨o,nl',ns,L,n,m,s,rfl,_⟩:=h;rfl
 obtain⟨o,nl',ns,L,n,m,s,rfl,hv,hn,rl,hl,q⟩:=h;have W:=hv.w;refine⟨_,(Ad (Ag (Bq (pce (Bs C9 rfl T.n_len PySem.boot_len (pa1 (pv 1))) Am) (pil (pv 1)) (Al aL hr Ax (pv 0) (pa2 Ah (pv 1)))))),?_⟩;refine⟨nl',_,Z,.inl (Ai hn),Z,As (λc=>?_) λc=>?_⟩
 .have c:ns.length=1:=by
   have:=V.int.inj (vN c);rw[vE]at this;omega
  obtain⟨x,rfl⟩:∃x,ns=[x]:=List.length_eq_one_iff.mp c;exact⟨Ai hn,Aa rfl,q H s x (hv.nw.wk (zZ _) hv.f.op (λ_ z=>nomatch z) λO _=>⟨(Bc _).symm,λ_=>rfl⟩) (rl x vH)⟩
 .exact⟨W.ho,Z,o,nl',"some",ns,L,n,m,s,Z,hv,hn,λH' k W=>q.add hv (.inr (.inr (.inr ⟨.inr (.inl rfl),rl⟩))) hl k W λO=>Fa O _⟩
def AiT(F:Fun K "fill" "Wiring.fill" AcL f fd)(T:Cn K mg C CP):Cc P w K mg base CX0 1 f fd ["self","number","word","numbers"] (Jt C):=by
 refine F.ok AeN (λvs H Q E h=>?_) (λcdv A _ _ H _ Q E _ h=>?_)
 .obtain⟨o,nl',g,w,ns,L,n,m,s,rfl,_⟩:=h;rfl
 obtain⟨o,nl',g,w,ns,L,n,m,s,rfl,hv,a3,a1,hw,rl,hl,q⟩:=h;obtain⟨g0,g1⟩:=hv.f.op g a1;have W:=hv.w;obtain⟨gvs,ho,hg,hp,rest⟩:=id W;have gl:=uC hp;refine⟨_,(Ad (Ft (Ap (pa2 (pv 2) (Dp Hd rfl T.n_tuple (by trivial) (pa1 (pv 3))))) (V0 (pfd (pv 0)) (pv 1) Pn))),?_⟩;refine⟨nl',_,Z,.inl ⟨Ai a3,λt2 a2=>⟨zN2,λt1 a4=>?_⟩⟩⟩;have k2:=Ac a4 (.tup [V.str w,.ref t2]);have z:=(Ac a2 _).trans k2;have gn:g.toNat<gvs.length:=by unfold Ws.nx at g1;omega
 refine⟨z _ _ ho,T.cl,T.nG,Z,L.gl,gvs,g,g.toNat,Z,Z,z _ _ hg,?_,?_⟩
 .unfold ixN;simp_all
 have pn:PySem.Paired (GwAt (upd (upd H t2 (.tup (ns.map V.int))) t1 (.tup [V.str w,.ref t2]))) (s.gs.set g.toNat (w,ns)) (gvs.set g.toNat (.ref t1)):=by
  refine D9 (by rw[zN,zN,gl]) λj x e=>?_
  by_cases hj:j=g.toNat
  .subst hj
   rw[zQ (by omega)]at e;cases e
   exact⟨.ref t1,by rw[zQ gn],t1,t2,Z,qa,k2 _ _ qa⟩
  .rw[zP (Ne.symm hj)]at e
   obtain⟨y,e1,e2⟩:=Bo hp e;exact⟨y,by rw[zP (Ne.symm hj)];exact e1,e2.mono z.tp⟩
 exact q _ _ (hv.fil ((sameKp z).trans (kpsUp vH)) ((W.same z).gates pn) a1 hw rl hl) rfl
structure Wr where
 runs:Int
 rests:Int
 codes:List (Int×Int)
def wdV(x:Int)(rv cv:V):List (Str×V):=[("runs",.int x),("kept",.int (x+1)),("stays",.int (x+2)),("rests",rv),("codes",cv)]
inductive WdAt(CP:Addr)(H:Hp)(a:Addr)(r:Wr):Prop
 |mk(dx d:Addr)(ob:Obj)(ha:H a=some (.ins CP dx (wdV r.runs (.int r.rests) (.ref d))))(hd:H d=some (.frz ob (.dK (r.codes.map kvI))))
def Bd.fresh(w:Bd C H' o L n s)(k:KpS L.S H H')(na:H' a=none):H a=none:=by
 cases e:H a with
 |none=>rfl
 |some u=>
  have:=uM λz=>by rw[k a u z e]at na;cases na
  obtain⟨a6,_,a4,_,_,_,a1,a2,_⟩:=w;rcases zM.mp this with z|z
  .rw[z,a4]at na;cases na
  .rcases zM.mp z with z|z
   .rw[z,a2]at na;cases na
   .obtain⟨j,hj⟩:=getElem?_of_mem z
    have a5:=uC a1;have a3:=(uA.mp hj).1;obtain⟨y,e1,e2⟩:=Bo a1 (vD (show j<_ by simp_all));rw[hj]at e1;cases e1
    rw[e2]at na;cases na
def Q7(ha:H a=some (.ins CP dx fs))(k:KpS [a] H H'):Tp H H':=λb _ e=>k b _ (λz=>by simp_all) e
def Bd.obj(w:Bd C H o L n s)(ha:H a=some (.ins CP dx fs))(ao:a≠o)(k:KpS [a] H H'):Bd C H' o L n s:=by
 refine w.keep [a] k (Q7 ha k) λb hb=>?_
 rw[mS hb];have off:=w.off ha (λ_ z=>nomatch z) λ_ z=>nomatch z
 obtain⟨gvs,ho,hg,hp,hs,hn,hr,hl,nd⟩:=w;exact⟨ao,Bu ha hs (by simp),Bu ha hn (by simp),off⟩
inductive Tg(CP:Addr)(vs:List V)(H:Hp)(Q:VK):Prop
 |mk(a dx:Addr)(x:Int)(_:vs=[.ref a,.int x,.int (x+1),.int (x+2)])(_:H a=some (.ins CP dx []))(_:∀d H',KpS [a] H H'->H' a=some (.ins CP dx (wdV x .non (.ref d)))->Q .non H')
def Zj(CP:Addr):Sp:=λvs H Q _=>Tg CP vs H Q
def Op3(s:Ws)(x:Int):Prop:=x∈s.op/\x+1∈s.op/\x+2∈s.op
def Op3.kp{E:Eff}{x:Int}(h:Op3 s x)(U:Nw C o L n m S H s H' s' d E)(f:∀g∈E.A,g<x\/x+2<g):Op3 s' x:=⟨U.op _ h.1 λz=>by have:=f _ z;omega,U.op _ h.2.1 λz=>by have:=f _ z;omega,U.op _ h.2.2 λz=>by have:=f _ z;omega⟩
def Jy(s:Ws):s.opn.nx=s.nx+1:=by simp[Ws.nx,Ws.opn,Rr]
inductive Yf(C CP:Addr)(vs:List V)(H:Hp)(Q:VK):Prop
 |mk(o:Addr)(L:Lc)(n m:Nat)(s:Ws)(_:vs=[.ref o])(_:Hv C o L n m H s 3)(_:∀a dx cv x H' s',Nw C o L n m L.S H s H' s' 3 (eW [x,x+1,x+2])->H a=none->H' a=some (.ins CP dx (wdV x .non cv))->Op3 s' x->s.nx<=x->Q (.ref a) H')
def AaF(C CP:Addr):Sp:=λvs H Q _=>Yf C CP vs H Q
def Ahp(F:Fun K "__init__" "Wired.__init__" Zv f fd)(T:Cn K mg C CP):Cc P w K mg base CX0 1 f fd ["self","runs","kept","stays"] (Zj CP):=by
 refine F.ok AdH (λvs H Q E h=>?_) (λcdv A _ _ H _ Q E _ h=>?_)
 .obtain⟨a,dx,x,rfl,_⟩:=h;rfl
 obtain⟨a,dx,x,rfl,ha,q⟩:=h
 refine⟨_,(Ab (Cg (pv 0) (pv 1) rfl)
  (Ab (Cg (pv 0) (pv 2) rfl)
  (Ab (Cg (pv 0) (pv 3) rfl)
  (Ab (Cg (pv 0) B5 rfl)
  (Ad (Cg (pv 0) Mh rfl)))))),?_⟩
 refine⟨ha,T.clP,T.nR,(by simp),?_⟩;refine⟨qa,T.clP,T.nK,(by show 1<1000;decide),?_⟩;refine⟨qa,T.clP,T.nT,(by show 2<1000;decide),?_⟩;refine⟨qa,T.clP,T.nE,(by show 3<1000;decide),?_⟩;refine λd hd=>?_
 have a1:a≠d:=λe=>by rw[<-e,qa]at hd;cases hd
 refine⟨(by rw[upd_ne a1];exact qa),T.clP,T.nC,(by show 4<1000;decide),?_⟩;refine q d _ ?_ qa;have z:∀H1(u:HO),KpS [a] _ (upd H1 a u):=λH1 u=>kpsUp vH
 exact((((((z _ _).trans (z _ _)).trans (z _ _)).trans (z _ _)).trans (sameKp (Ac hd _)))).trans (z _ _)
def AhL(F:Fun K "new_part" "Wiring.new_part" Rc f fd)(T:Cn K mg C CP)(a3:Mk K CP fI)(GI:Cc P w K mg base CX0 1 fI a1 ["self","runs","kept","stays"] (Zj CP))(bI:Dm K a1 ["self","runs","kept","stays"] [])(dG:A4 P w K mg base 2 C "later" ["self"] (Zk C)):Cc P w K mg base CX0 3 f fd ["self"] (AaF C CP):=by
 refine F.ok Xn (λvs H Q E h=>?_) (λcdv A _ _ H _ Q E hr h=>?_)
 .obtain⟨o,L,n,m,s,rfl,_⟩:=h;rfl
 obtain⟨o,L,n,m,s,rfl,hv,q⟩:=h;refine⟨_,(Ad (Ag (Xt a3 GI (hr.mono (by decide)) rfl T.m_Wired bI .nil Ax (pa3 (Jr dG hr Ax (pv 0)) (Jr dG hr Ax (pv 0)) (Jr dG hr Ax (pv 0)))))),?_⟩;refine⟨hv.w.ho,Z,o,L,n,m,s,Z,hv.nw (S:=L.S) |>.hv hv (by decide),λH1 U1=>?_⟩;refine⟨U1.w.ho,Z,o,L,n,m,_,Z,U1.hv hv (by decide),λH2 U2=>?_⟩;have V2:=U1.trans U2;refine⟨U2.w.ho,Z,o,L,n,m,_,Z,V2.hv hv (by decide),λH3 U3=>?_⟩;have V3:=V2.trans U3;refine λa dx na nd _=>?_
 have sA:Same _ (upd (upd _ _ (.own a)) a (.ins CP dx [])):=λb u e=>by
  rw[upd_ne (ne_of_none e na),upd_ne (ne_of_none e nd)];exact e
 refine⟨a,dx,s.nx,by rw[Jy,Jy,Jy];rfl,qa,λd H4 k4 e4=>⟨Z,?_⟩⟩;have fa:=V3.w.fresh V3.k na;have ao:a≠o:=λz=>by obtain⟨_,a5,_⟩:=V3.w;simp_all
 refine q a _ _ _ _ _ {(V3.wk (E':=eW [s.nx,s.nx+1,s.nx+2]) (zB _) hv.f.op (λ_ z=>nomatch z) (λO _=>⟨trivial,λ_=>rfl⟩) λO _ _ h g m=>h g (by rwa[Jy s.opn,Jy s,Int.add_assoc]at m)) with k:=λb u hb e=>k4 b u (λz=>by simp_all) (sA b u (V3.k b u hb e)),w:=(V3.w.same sA).obj qa ao k4} fa e4 ⟨?_,?_,?_⟩ (Int.le_refl _)
 .exact vI _ (vI _ vH)
 .rw[<-Jy];exact vI _ vH
 .rw[show s.nx+2=s.opn.opn.nx by rw[Jy,Jy];rfl];exact vH
def Gk(ps:List (Int×Int))(c:Int):List Int:=(ps.filter λp=>decide (p.1=c)).map (·.2)
def cvl(cs:Cd)(O:Vn)(c:Int):Option Bool:=((cs.lookup c).map O.v).getD (some false)
def orC(ps:Cd)(O:Vn)(c:Int):Option Bool:=orL ((Gk ps c).map O.v)
def PrAt(H:Hp)(p:Int×Int)(v:V):Prop:=∃t,v=.ref t/\H t=some (.tup [.int p.1,.int p.2])
def PrAt.mono(h:PrAt H p v)(T:Tp H H'):PrAt H' p v:=by
 obtain⟨t,e,h1⟩:=h;exact⟨t,e,T _ _ h1⟩
def Bd.offN(w:Bd C H o L n s)(e:H b=none):b∉L.S:=λz=>by
 obtain⟨a6,_,a4,_,_,_,a1,a2,_⟩:=w;rcases zM.mp z with z|z
 .simp_all
 .rcases zM.mp z with z|z
  .simp_all
  .obtain⟨j,hj⟩:=getElem?_of_mem z
   have a5:=uC a1;have a3:=(uA.mp hj).1;obtain⟨y,e1,e2⟩:=Bo a1 (vD (show j<_ by simp_all));simp_all
def Bd.atD(w:Bd C H o L n s)(hd:H d=some (.dK kvs))(dS:d∉L.S)(u:HO):Bd C (upd H d u) o L n s:=by
 refine w.keep [d] (kpsUp vH) (λb _ e=>by rw[upd_ne (Bu e hd (by simp))];exact e) λb hb=>?_
 rw[mS hb];obtain⟨gvs,ho,hg,hp,hs,hn,hr,hl,nd⟩:=w;exact⟨Bu hd ho (by simp),Bu hd hs (by simp),Bu hd hn (by simp),dS⟩
def CO(s:Ws)(cs:Cd):Prop:=CR s cs/\(cs.map (·.1)).Pairwise (· < ·)
theorem J4:∀(l:List Int)(a b:Int),a<=b->l.Pairwise (· < ·)->(∀x∈l,a<=x/\x<b)->(l.length:Int)<=b-a
 |[],a,b,h,_,_=>by simp;omega
 |x::r,a,b,h,hp,z=>by
  have h1:=z x vH;have h2:=zR.mp hp;have:=J4 r (x+1) b (by omega) h2.2 λy hy=>⟨by have:=h2.1 y hy;omega,(z y (vI _ hy)).2⟩
  rw[vX];omega
def CO.len(h:CO s cs):cs.length<=6:=by
 have:=J4 _ 0 6 (by decide) h.2 λx z=>by
  obtain⟨p,hp,rfl⟩:=zU.mp z;have:=(h.1 p hp).1;omega
 rw[vE]at this;omega
def KpS.drop(k:KpS (d::S) H H')(h:H d=none):KpS S H H':=λb u nb e=>k b u (λz=>(zM.mp z).elim (ne_of_none e h) nb) e
def CO.up(h:CO s cs)(l:s.gs.length<=s'.gs.length):CO s' cs:=⟨h.1.up l,h.2⟩
def Vf{cs:List Int}{co:Cd}{i:Nat}(rise:cs.Pairwise (· < ·))(a1:i<cs.length)(ks:co.map (·.1)=cs.take i):∀p∈co,¬p.1=cs[i]:=λp hp z=>by
 have hm:p.1∈co.map _:=mem_map_of_mem hp;rw[ks]at hm;obtain⟨j,hj⟩:=getElem?_of_mem hm;rw[List.getElem?_take]at hj;split at hj
 .rename_i a2
  obtain⟨h1,h2⟩:=uA.mp hj;have:=List.pairwise_iff_getElem.mp rise j i h1 a1 a2;simp_all
 .cases hj
def Pq(a b:Cd)(c:Int):Gk (a++b) c=Gk a c++Gk b c:=by unfold Gk;rw[zO,vQ]
def Wz(h:p.1=c):Gk [p] c=[p.2]:=by simp[Gk,h]
def Y7(h:¬p.1=c):Gk [p] c=[]:=by simp[Gk,h]
def Kc{l:Cd}{k:Int}(h:k∈l.map (·.1)):∃v,l.lookup k=some v:=by
 induction l with
 |nil=>cases h
 |cons p r ih=>
  obtain⟨p1,p2⟩:=p;rw[zV]
  by_cases e:k=p1
  .simp_all
  .have:(k==p1)=false:=by simpa using e
   rw[this];rcases zM.mp h with z|z
   .exact absurd z e
   .exact ih z
def Hm{l:Cd}{k v:Int}(h:l.lookup k=v):(k,v)∈l:=by
 obtain⟨a,b,rfl,_⟩:=List.lookup_eq_some_iff.mp h;exact vS _ vH
def Aba{co:Cd}{O:Vn}{G:Int->Option Bool}{c:Int}(f:∀p∈co,O.v p.2=G p.1)(h:c∉co.map (·.1)->G c=false):cvl co O c=G c:=by
 unfold cvl;cases e:co.lookup c with
 |some g=>exact f _ (Hm e)
 |none=>exact(h λz=>by obtain⟨v,hv⟩:=Kc z;simp_all).symm
inductive Uz(C:Addr)(vs:List V)(H:Hp)(Q:VK):Prop
 |mk(o pl:Addr)(ps:Cd)(pvs:List V)(L:Lc)(n m:Nat)(s:Ws)(_:vs=[.ref o,.ref pl])(_:Hv C o L n m H s 6)(_:H pl=some (.lst pvs))(_:pl∉L.S)(_:PySem.Paired (PrAt H) ps pvs)(_:ps.length<64)(_:CR s ps)(_:∀d ob H' s' cs,Nw C o L n m L.S H s H' s' 6 (eF λO=>∀c,cvl cs O c=orC ps O c)->H d=none->H' d=some (.frz ob (.dK (cs.map kvI)))->CO s' cs->Q (.ref d) H')
def Kt(C:Addr):Sp:=λvs H Q _=>Uz C vs H Q
def Nz:Ak ["self","pairs","codes","code"] ["self","pairs"] (Af M0):=Ay (by trivial)
def AhT(F:Fun K "joined" "Wiring.joined" M0 f fd)(T:Cn K mg C CP)(aE:A4 P w K mg base 2 C "some_of" ["self","numbers"] (Ie C)):Cc P w K mg base CX0 3 f fd ["self","pairs"] (Kt C):=by
 refine F.ok Nz (λvs H Q E h=>?_) (λcdv A outer s0 H vs Q E hr h=>?_)
 .obtain⟨o,pl,ps,pvs,L,n,m,s,rfl,_⟩:=h;rfl
 obtain⟨o,pl,ps,pvs,L,n,m,s,rfl,hv,a8,c8,a7,c3,b1,q⟩:=h;have hu:=zE (add_le_add_left (show 1<=64 by decide) _) hr.units;have lp:=uC a7;have b9:pvs.length<=sizeLine:=by rw[<-lp];exact zA (le_of_lt c3) (by decide)
 refine⟨_,(Ab (pst 2 Nz.nd Mh)
  (Ab (Fj PassesOwn.never rfl (Cf (Gq rfl rfl T.n_sorted rfl T.n_set (Cp (g:=(Bn 0)) (tc:=Ex) (te:=(tOp (E3 K) (Aw 0) (tC (.int 0)))) ["pair"] [] rfl (Bx (Af M0) ["self","pairs","codes","code"] (by trivial)) (Cf (pv 1)) (λs2 H2 fp cl C=>Aq (i:=0) (show Nodup [("pair": Str)] from by trivial) rfl (Or.inl rfl)) (A9 (by decide)) (λs2 H2 fp cl C=>Fg) (λs2 H2 fp cl C=>(pix (pv 0)))))) (Aq (i:=3) Nz.nd rfl (Or.inr rfl))
   (Ad (Sa hu (pv 2) (pv 3) (Al aE hr Ax (pv 0) (pa1 (Cp (g:=(Bn 0)) (tc:=(Ff (tOp rEq (tOp (E3 K) (Aw 0) (tC (.int 0))) (Aw 1)))) (te:=(tOp (E3 K) (Aw 0) (tC (.int 1)))) ["pair"] [("code",3)] rfl (Bx (Af M0) ["self","pairs","codes","code"] (by trivial)) (Cf (pv 1)) (λs2 H2 fp cl C=>Aq (i:=0) (show Nodup [("pair": Str),("code": Str)] from by trivial) rfl (Or.inl rfl)) (A9 (by decide)) (λs2 H2 fp cl C=>Dj (pce (pix (pv 0)) (pv 1))) (λs2 H2 fp cl C=>(pix (pv 0)))))) rfl)))
  (Ad (Ag (Ql (pv 2)))))),?_⟩
 refine λd hd=>?_
 have b4:pl∉d::L.S:=λz=>(zM.mp z).elim (ne_of_none a8 hd) c8
 have dS:=hv.w.offN hd;have U1:=(hv.nw (S:=d::L.S)).new hd (.dK []);have d4:=qa (H:=H) (a:=d) (o:=.dK []);have a5:=U1.k _ _ b4 a8;have c5:=Bh a7 λ_ _ a=>a.mono (Ac hd (.dK [])).tp
 generalize upd H d (.dK [])=H1 at *;refine⟨pl,Z,⟨_,Ai a5⟩,Db (K:=K) (xs:=pvs) (λi ys H'=>H'=H1/\ys=((ps.take i).map (·.1)).map V.int) ⟨Z,Z⟩ b9 (λi ys H' hh=>by rw[hh.1];exact Ai a5) ?_ ?_⟩
 .rintro i x ys H' N hi ⟨rfl,rfl⟩ hN a4
  have a1:i<ps.length:=by have:=(uA.mp hi).1;omega
  obtain⟨y,e1,t,rfl,et⟩:=Bo c5 (vD a1);rw[hi]at e1;cases e1
  refine⟨Aj et,Aa (j:=0) rfl,hN _ _ ?_ ⟨Z,?_⟩⟩
  .rw[vF,vG];omega
  .rw[vZ,vD a1,vQ,vQ];rfl
 rintro ys H' a4 ⟨rfl,rfl⟩ D0 b7;rw[vT (by omega)];have U2:=U1.new b7 (.lst ((ps.map (·.1)).map V.int));have b3:=(Ac b7 (.lst ((ps.map (·.1)).map V.int))) _ _ d4;refine⟨D0,ps.map (·.1),Z,Ai qa,by rw[vE];exact c3,λl2 a2=>?_⟩;have U3:=U2.new a2 (.lst ((nub (ps.map (·.1))).map V.int));have b5:=qa (H:=upd H' D0 (.lst ((ps.map (·.1)).map V.int))) (a:=l2) (o:=.lst ((nub (ps.map (·.1))).map V.int));have d2:=(Ac a2 (.lst ((nub (ps.map (·.1))).map V.int))) _ _ b3;generalize upd (upd H' D0 (.lst ((ps.map (·.1)).map V.int))) l2 (.lst ((nub (ps.map (·.1))).map V.int))=H3 at *;have rise:(nub (ps.map (·.1))).Pairwise (· < ·):=Hi _
 have hk:∀c∈nub (ps.map (·.1)),0<=c/\c<=5:=λc hc=>by
  obtain⟨p,hp,rfl⟩:=zU.mp (A8.mp hc);exact(b1 p hp).1
 have d5:∀p∈ps,∀{c:Int},p.1=c->c∈nub (ps.map (·.1)):=λp hp c e=>A8.mpr (e▸mem_map_of_mem hp)
 generalize nub (ps.map (·.1))=cs at *
 have l6:cs.length<=6:=by
  have:=J4 cs 0 6 (by decide) rise λx hx=>by have:=hk x hx;omega
  omega
 refine⟨l2,Z,⟨_,Ai b5⟩,F9 (K:=K) (a:=l2) (xs:=cs.map V.int) (λi Y H'=>∃x3 s' co,Y=[some (.ref o),some (.ref pl),some (.ref d),x3]/\Nw C o L n m (d::L.S) H s H' s' i (eF λO=>∀p∈co,O.v p.2=orC ps O p.1)/\H' l2=some (.lst (cs.map V.int))/\H' d=some (.dK (co.map kvI))/\CR s' co/\co.map (·.1)=cs.take i) ⟨none,s,[],Z,U3.wk (zZ _) hv.f.op (λ_ z=>nomatch z) (λO _=>⟨λ_ z=>(nomatch z),λ_=>rfl⟩),b5,d2,λp hp=>(nomatch hp),Z⟩ (λi Y H' _ ⟨_,_,_,_,_,h,_⟩=>Ai h) ?_ ?_⟩
 .rintro i x Y H4 hi ⟨x3,s4,co,rfl,U4,b2,a3,a9,ks⟩
  have a1:i<cs.length:=by have:=(uA.mp hi).1;rwa[vE]at this
  rw[vJ,vD a1]at hi;cases hi
  have a6:=U4.k _ _ b4 a8;refine⟨U4.w.ho,Z,?_⟩;refine⟨pl,Z,⟨_,Ai a6⟩,Db (K:=K) (xs:=pvs) (λj ys H'=>H'=H4/\∃ns:List Int,ys=ns.map V.int/\RL s ns/\ns=Gk (ps.take j) cs[i]) ⟨Z,[],Z,.nil,Z⟩ b9 (λi ys H' hh=>by rw[hh.1];exact Ai a6) ?_ ?_⟩
  .rintro j x ys H' N hj ⟨rfl,ns,rfl,rl,en⟩ hN a4
   have ex:ps.take (j+1)=ps.take j++[ps[j]'(by have:=(uA.mp hj).1;omega)]:=by rw[vZ,vD];rfl
   have b6:j<ps.length:=by have:=(uA.mp hj).1;omega
   obtain⟨y,e1,t,rfl,et⟩:=Bo (Bh a7 λ_ _ a=>a.mono (hv.w.tp (U4.k.drop hd))) (vD b6);rw[hj]at e1;cases e1
   refine⟨Aj et,Aa (j:=0) rfl,Z,As (λz=>?_) λz=>hN _ _ (by omega) ⟨Z,ns,Z,rl,by rw[ex,Pq,Y7 λy=>z (vK (congrArg V.int y)),zK];exact en⟩⟩;refine⟨Aj et,Aa (j:=1) rfl,hN _ _ (by rw[vF,vG];omega) ⟨Z,ns++[(ps[j]).2],by rw[vQ];rfl,λx hx=>(vY.mp hx).elim (rl x) λz=>?_,by rw[ex,Pq,Wz (V.int.inj (vN z)),en]⟩⟩;rw[mS z];exact(b1 _ (zL b6)).2
  rintro ys H' a4 ⟨rfl,ns,rfl,rl,en⟩ D1 b8;rw[vT (by omega)]at en;rw[vE]at a4;have U5:=U4.new b8 (.lst (ns.map V.int));have g5:=Ac b8 (.lst (ns.map V.int));refine⟨o,D1,ns,L,n,m,s4,Z,U5.hv hv (by omega),qa,rl.up U4.lo,by omega,λH6 s6 y U6 hy=>?_⟩;have V6:=U5.then U6;have c4:=U6.k _ _ dS (g5 _ _ a3);have lc:co.length=i:=by
   have:=congrArg length ks;rw[vE,zH]at this;omega
  refine⟨d,_,Z,.inl ⟨_,Sum.inl cs[i],c4,Z,?_,Z⟩,?_⟩
  .rw[vE]
   exact zE (show _<=64 by omega) (by decide)
  refine⟨_,s6,co++[(cs[i],y)],Z,{V6.wk (E':=eF λO=>∀p∈co++[(cs[i],y)],O.v p.2=orC ps O p.1) (zB _) hv.f.op (λ_ z=>nomatch z) (λO ⟨f1,f2⟩=>⟨λp hp=>?_,λ_=>rfl⟩) with k:=V6.k.trans (kpsUp vH),w:=V6.w.atD c4 dS _},by rw[upd_ne ((ne_of_none b3 a2).symm)];exact U6.k _ _ (U2.w.offN a2) (g5 _ _ b2),by rw[qa,<-putI_map,putI_new (Vf rise a1 ks)],(a9.up U6.lo).app λp hp=>?_,?_⟩
  .rcases vY.mp hp with z|z
   .exact f1 p z
   .rw[mS z];exact f2.trans (by rw[en];rfl)
  .rw[mS hp]
   exact⟨hk _ (zL a1),hy⟩
  .rw[vQ,ks,vZ,vD a1]
   rfl
 .rintro Y H4 ⟨x3,s4,co,rfl,U4,b2,a3,a9,ks⟩
  rw[vE,vT (zB _)]at ks;rw[vE]at U4;refine⟨d,_,Z,a3,λob=>?_⟩
  have nil:∀c,c∉cs->Gk ps c=[]:=λc z=>by
   unfold Gk;rw[List.filter_eq_nil_iff.mpr,map_nil];exact λp hp e=>z (d5 p hp (vN e))
  exact q d ob _ s4 co {U4.wk (E':=eF λO=>∀c,cvl co O c=orC ps O c) l6 hv.f.op (λ_ z=>nomatch z) (λO f=>⟨λc=>Aba (G:=orC ps O) f λz=>by unfold orC;rw[nil c (ks▸z)];rfl,λ_=>rfl⟩) with k:=(U4.k.trans (kpsUp vH)).drop hd,w:=U4.w.atD a3 dS _} hd qa ⟨a9,by rw[ks];exact rise⟩
def Bd.lev(w:Bd C H o L n s)(k v:Int):Bd C (upd H L.ld (.dK (Fo (s.lv.map kvI) (Sum.inl k) (V.int v)))) o L n (s.lev k v):=by
 obtain⟨gvs,ho,hg,hp,hs,hn,hr,hl,nd⟩:=w;have tp:Tp H (upd H _ (.dK (Fo (s.lv.map kvI) (Sum.inl k) (V.int v)))):=λb _ e=>by rw[upd_ne (Bu e hl (by simp))];exact e
 refine⟨gvs,by rw[upd_ne (Bu ho hl (by simp))];exact ho,by rw[upd_ne (Bu hg hl (by simp))];exact hg,Bh hp λ_ _ a=>a.mono tp,by rw[upd_ne (Bu hs hl (by simp))];exact hs,by rw[upd_ne (Bu hn hl (by simp))];exact hn,Bh hr λ_ _ a=>by rw[upd_ne (Bu a hl (by simp))];exact a,?_,nd⟩;rw[qa];show _=some (HO.dK ((Gz _ k v).map kvI));rw[putI_map]
def Ace{k:Int}(h:p∈Gz l k v):p∈l\/p.2=v:=by
 unfold Gz at h;split at h
 .obtain⟨q,hq,e⟩:=zU.mp h
  split at e
  .exact .inr (by rw[<-e])
  .simp_all
 .exact(vY.mp h).imp id λz=>by rw[mS z]
def Wo(l:Cd)(k v:Int):k∈(Gz l k v).map (·.1)/\(∀j∈l.map (·.1),j∈(Gz l k v).map (·.1))/\(Gz l k v).length<=l.length+1:=by
 unfold Gz;split
 .rename_i h
  obtain⟨p,hp,e⟩:=any_eq_true.mp h
  have hk:∀q∈l,q.1∈(l.map λp=>if p.1=k then(p.1,v) else p).map _:=λq hq=>by
   rw[map_map];refine zU.mpr ⟨q,hq,?_⟩;show(if q.1=k then(q.1,v) else q).1=q.1;split<;>rfl
  refine⟨vN e▸hk p hp,λj z=>?_,by simp⟩;obtain⟨q,hq,rfl⟩:=zU.mp z;exact hk q hq
 .refine⟨?_,λj z=>?_,by rw[vF];exact zB _⟩
  .rw[vQ];exact vS _ (zG.mpr rfl)
  .rw[vQ];exact zY _ z
def Bd.objOff{x:Int}(w:Bd C H o L n s)(ha:H a=some (.ins CP dx (wdV x rv cv))):a≠o/\a∉L.S:=by
 refine⟨?_,w.off ha (λ_ z=>nomatch z) λ_ z=>nomatch z⟩;refine Bu ha w.ho λz=>?_
 have:=(HO.ins.inj z).2.2;unfold wdV wsF at this;simp at this
def Bd.setA{x:Int}(w:Bd C H o L n s)(ha:H a=some (.ins CP dx (wdV x rv cv)))(u:HO):Bd C (upd H a u) o L n s:=w.obj ha (w.objOff ha).1 (kpsUp vH)
def Bd.offF{u:HO}(w:Bd C H o L n s)(e:H d=some (.frz ob u)):d∉L.S:=w.off e (λ_ z=>nomatch z) λ_ z=>nomatch z
def AgQ{k v j:Int}(h:¬j=k)(l:Cd):(l.map λp=>if p.1=k then(p.1,v) else p).lookup j=l.lookup j:=by
 induction l with
 |nil=>rfl
 |cons p l z=>
  obtain⟨a,b⟩:=p;rw[zT,zV]
  by_cases c:a=k
  .rw[if_pos c,zV,show(j==a)=false by simpa [c] using h];exact z
  .rw[if_neg c,zV,z]
def Afs{k v:Int}(l:Cd)(h:(l.any λp=>decide (p.1=k))=true):(l.map λp=>if p.1=k then(p.1,v) else p).lookup k=v:=by
 induction l with
 |nil=>cases h
 |cons p l ih=>
  obtain⟨a,b⟩:=p;rw[zT]
  by_cases c:a=k
  .rw[if_pos c,zV,show(k==a) by simp[c]]
  .rw[if_neg c,zV,show(k==a)=false by simpa using λz=>c z.symm]
   exact ih (by simpa [c] using h)
def Ac7(l:Cd)(k v j:Int):(Gz l k v).lookup j=if j=k then some v else l.lookup j:=by
 unfold Gz;split
 .next h=>
  split
  .next e=>rw[e];exact Afs l h
  .next e=>exact AgQ e l
 .next h=>
  rw[List.lookup_append];split
  .next e=>
   rw[e];cases z:l.lookup k with
   |none=>simp
   |some y=>exact absurd (any_eq_true.mpr ⟨_,Hm z,vK rfl⟩) h
  .next e=>
   rw[show List.lookup j [(k,v)]=none by simp[List.lookup,show(j==k)=false by simpa using e]];simp
abbrev eL(k:Int)(v:Vn->Option Bool):Eff:=⟨[],λ_=>True,λO i=>(some false,if i.2=k then some (v O) else none),[]⟩
def lvS(c kp m st:Option Bool):Option Bool:=or3 (an3 c kp) (an3 m st)
def Nw.lev{L:Lc}{m d:Nat}{S:List Addr}{s s':Ws}{E:Eff}{k g:Int}(U:Nw C o L n m S H s H' s' d E)(h:L.ld∈S)(hg:Rng s' g):Nw C o L n m S H s (upd H' L.ld (.dK (Fo (s'.lv.map kvI) (Sum.inl k) (V.int g)))) (s'.lev k g) (d+1) (E.cat (eL k λO=>O.v g)):=
 have pk:=Wo _ k g
 ⟨U.k.trans (kpsUp h),U.w.lev k g,⟨U.f.g,U.f.sn,λp hp=>(Ace hp).elim (U.f.lv p) λe=>by rw[e];exact hg,U.f.op⟩,U.lo,U.sl,λj hj=>pk.2.1 j (U.lv j hj),λM e c=>by
  have c:=U.c M _ (by rwa[add_assoc]at c);refine⟨by have:=c.1;show s'.gs.length+e<=M;omega,by have:=c.2.1;show(Gz _ k g).length+e<=M;omega,λr hr=>by have:=c.2.2 r hr;omega⟩,λg h z=>U.op g h λy=>z (zY _ y),λi g h z=>U.ct i g h λy=>z (zY _ y),λO z=>by
  obtain⟨a,b,c⟩:=U.sat O z;refine⟨a,⟨b,trivial⟩,λi=>?_⟩;show((s'.sv O i).1,((Gz _ k g).lookup i.2).map O.v)=cb _ (cb _ _);rw[<-AcO,<-c i,Ac7];show _=(or3 (s'.sv O i).1 _,ov3 ((s'.lv.lookup _).map O.v) (if i.2=k then some _ else none));rw[Bc];split
  .cases s'.lv.lookup _<;>rfl
  .rw[P8],λO z w h=>U.kn O z (λg m=>w g (zY _ m)) h⟩
def Nw.setA{E:Eff}{x:Int}(U:Nw C o L n m (a::S) H s H' s' d E)(ha:H' a=some (.ins CP dx (wdV x rv cv)))(u:HO):Nw C o L n m (a::S) H s (upd H' a u) s' d E:={U with k:=U.k.trans (kpsUp vH),w:=U.w.setA ha u}
def Nw.wk0{e:Nat}{E:Eff}{F:Vn->Prop}(U:Nw C o L n m S H s H' s' d E)(l:d<=e)(ho:RL s s.op)(hA:E.A=[])(hF:∀O,E.F O->F O)(hD:∀O i,E.D O i=nz)(hW:E.W=[]:=by rfl):Nw C o L n m S H s H' s' e (eF F):=U.wk l ho (λg z=>by rw[hA]at z;cases z) (λO f=>⟨hF O f,hD O⟩) λO _ _ _ g z=>by rw[hW]at z;cases z
def Nw.ld{L:Lc}:L.ld∈L.S:=vI _ vH
inductive Vg(C CP:Addr)(vs:List V)(H:Hp)(Q:VK):Prop
 |mk(o a dx:Addr)(k mem comes x:Int)(rv cv:V)(L:Lc)(n m:Nat)(s:Ws)(_:vs=[.ref o,.int k,.ref a,.int mem,.int comes])(_:Hv C o L n m H s 4)(_:H a=some (.ins CP dx (wdV x rv cv)))(_:(Rng s (x+1)/\Rng s (x+2)/\Rng s mem/\Rng s comes))(_:∀H' s',Nw C o L n m L.S H s H' s' 4 (eL k λO=>lvS (O.v comes) (O.v (x+1)) (O.v mem) (O.v (x+2)))->k∈s'.lv.map (·.1)->Q .non H')
def Ue(C CP:Addr):Sp:=λvs H Q _=>Vg C CP vs H Q
inductive AbV(C CP:Addr)(vs:List V)(H:Hp)(Q:VK):Prop
 |mk(o a:Addr)(c:Int)(r:Wr)(L:Lc)(n m:Nat)(s:Ws)(_:vs=[.ref o,.ref a,.int c])(_:Hv C o L n m H s 1)(_:WdAt CP H a r)(_:CR s r.codes)(_:Num C o L n m Q H s λO=>cvl r.codes O c)
def We(C CP:Addr):Sp:=λvs H Q _=>AbV C CP vs H Q
def Pe(l:List (Int×Int))(c:Int):Kr (l.map kvI) (Sum.inl c)=(l.lookup c).map V.int:=by
 induction l with
 |nil=>rfl
 |cons p r ih=>
  rw[zT]
  by_cases h:p.1=c
  .rw[Me (show(kvI p).1=Sum.inl c by rw[<-h];rfl)]
   cases h
   rw[List.lookup_cons_self];rfl
  .rw[Ma (λz=>h (Sum.inl.inj z)),ih]
   obtain⟨p1,p2⟩:=p;have:(c==p1)=false:=by simpa using λz=>h z.symm
   rw[zV,this]
def N6{l:Cd}{k v:Int}(h:l.lookup k=v):∃p∈l,p.2=v:=by
 induction l with
 |nil=>cases h
 |cons p r z=>
  rw[zV]at h;split at h
  .cases h;exact⟨_,vH,Z⟩
  .obtain⟨q,hq,e⟩:=z h;exact⟨q,vI _ hq,e⟩
def Aga(F:Ao K mg "wire_leaving" ["wiring","rest","whole","memory","comes"] Gv)(T:Cn K mg C CP)(aA:A4 P w K mg base 2 C "every_of" ["self","numbers"] (Hn C))(aE:A4 P w K mg base 2 C "some_of" ["self","numbers"] (Ie C)):Ae P w K mg base 3 "wire_leaving" ["wiring","rest","whole","memory","comes"] (Ue C CP):=by
 refine F.ok Hz (λvs H Q E h=>?_) (λf _ A _ _ H _ Q E hr h=>?_)
 .obtain⟨o,a,dx,k,mem,comes,x,rv,cv,L,n,m,s,rfl,_⟩:=h;rfl
 obtain⟨o,a,dx,k,mem,comes,x,rv,cv,L,n,m,s,rfl,hv,ha,⟨hy,hz,hm,hc⟩,q⟩:=h;have hu:=zE (add_le_add_left (show 1<=64 by decide) _) hr.units;refine⟨_,(Ab (pst 5 Hz.nd (Al aA hr Ax (pv 0) (pa1 (An (pa2 (pv 4) (pfd (pv 2)))))))
  (Ab (pst 6 Hz.nd (Al aA hr Ax (pv 0) (pa1 (An (pa2 (pv 3) (pfd (pv 2)))))))
  (Ad (Sa hu (pfd (pv 0)) (pv 1) (Al aE hr Ax (pv 0) (pa1 (An (pa2 (pv 5) (pv 6))))) rfl)))),?_⟩
 refine⟨hv.w.ho,Z,ha,T.clP,T.nK,Z,zN2,λl1 h1=>?_⟩;have U1:=(hv.nw (S:=L.S)).new h1 (.lst [V.int comes,.int (x+1)]);refine⟨o,l1,[comes,x+1],L,n,m,s,Z,U1.hv hv (by decide),qa,.two hc hy,(by show 2<=1000;decide),λH1 s1 i1 V1 r1=>?_⟩;have U1:=U1.trans V1;refine⟨V1.w.ho,Z,U1.k _ _ ((hv.w.objOff ha).2) ha,T.clP,T.nT,Z,zN2,λl2 h2=>?_⟩;have U2:=U1.new h2 (.lst [V.int mem,.int (x+2)]);refine⟨o,l2,[mem,x+2],L,n,m,s1,Z,U2.hv hv (by decide),qa,.two (hm.up U1.lo) (hz.up U1.lo),(by show 2<=1000;decide),λH2 s2 i2 V2 r2=>?_⟩;refine⟨V2.w.ho,Z,zN2,λl3 h3=>?_⟩;have U3:=(U2.trans V2).new h3 (.lst [V.int i1,.int i2]);refine⟨o,l3,[i1,i2],L,n,m,s2,Z,U3.hv hv (by decide),qa,.two (r1.up V2.lo) r2,(by show 2<=1000;decide),λH3 s3 i3 V3 r3=>?_⟩;have U3:=U3.trans V3;obtain⟨a5,a1,a7,b2,a6,b1,a8,a2,a9⟩:=id V3.w;refine⟨a1,T.cl,T.nL,Z,L.ld,_,Z,.inl ⟨_,Sum.inl k,a2,Z,?_,Z⟩,q _ _ ((U3.lev Nw.ld r3).wk (zB _) hv.f.op (λ_ z=>nomatch z) λO ⟨⟨⟨⟨_,f1⟩,f2⟩,f3⟩,_⟩=>⟨trivial,λi=>?_⟩) (Wo _ _ _).1⟩;rotate_left
 .have f1:O.v i1=an3 (O.v comes) (an3 (O.v (x+1)) (some true)):=f1
  have f2:O.v i2=an3 (O.v mem) (an3 (O.v (x+2)) (some true)):=f2;have f3:O.v i3=or3 (O.v i1) (or3 (O.v i2) (some false)):=f3;rw[Bt]at f1 f2;rw[Bc,f1,f2]at f3;show((some false,if i.2=k then some (O.v i3) else none):Dv)=_;rw[f3];rfl
 rw[vE];exact zE (show s3.lv.length<=1000000 by have:=(U3.hv (e:=1) hv (by decide)).b.2.1;omega) (by decide)
def AgU(F:Ao K mg "code_gate" ["wiring","whole","code"] Jk)(T:Cn K mg C CP)(aE:A4 P w K mg base 2 C "some_of" ["self","numbers"] (Ie C)):Ae P w K mg base 3 "code_gate" ["wiring","whole","code"] (We C CP):=by
 refine F.ok Wp (λvs H Q E h=>?_) (λf _ A _ _ H _ Q E hr h=>?_)
 .obtain⟨o,a,c,r,L,n,m,s,rfl,_⟩:=h;rfl
 obtain⟨o,a,c,r,L,n,m,s,rfl,hv,D,cr,q⟩:=h;have hu:=zE (add_le_add_left (show 1<=64 by decide) _) hr.units;obtain⟨dx,d,ob,ha,hd⟩:=D;refine⟨_,(Ad (Ag (Bq (AbM (AbU hu (pv 2) (pfd (pv 1))) (by rfl)) (Oi hu (pfd (pv 1)) (pv 2) (λ_ _=>rfl)) (Al aE hr Ax (pv 0) (pa1 (An Bm)))))),?_⟩;have z:Nk H d (.int c) _:=.inl ⟨_,Sum.inl c,.inr ⟨ob,hd⟩,Z,(Pe _ _).symm⟩;refine⟨ha,T.clP,T.nC,Z,d,_,Z,z,?_⟩;cases e:r.codes.lookup c with
 |some g=>
  rw[e]at z;obtain⟨p,hp,ep⟩:=N6 e;exact Dg ⟨ha,T.clP,T.nC,Z,d,.int g,Z,z,q H s g (hv.nw.wk0 (zZ _) hv.f.op rfl (λO _=>by unfold cvl;rw[e];rfl) λ_ _=>rfl) (ep▸(cr p hp).2)⟩
 |none=>
  refine Fh ⟨hv.w.ho,Z,zN0,λl hl=>?_⟩;have g1:=Ac hl (.lst []);exact⟨o,l,[],L,n,m,s,Z,hv.same g1,qa,.nil,zZ _,(funext λO=>by unfold cvl;rw[e];rfl:(λO=>cvl _ O c)=λO=>orL (List.map _ []))▸q.same g1⟩
def Cn.gE(T:Cn K mg C CP):∃u,mg "ENDED"= some u/\A2 (.int 0) u:=by
 obtain⟨t,h⟩:=T.m_EN;exact⟨_,h,t,rfl⟩
def Cn.gR(T:Cn K mg C CP):∃u,mg "RESTS"= some u/\A2 (.int 1) u:=by
 obtain⟨t,h⟩:=T.m_RE;exact⟨_,h,t,rfl⟩
def upd2{x:HO}(h:H a=x)(z:a≠p):upd (upd H p u1) p u2 a=x:=by rw[upd_ne z,upd_ne z];exact h
def Bd.frz2(w:Bd C H o L n s)(hd:H d=some (.dK kvs))(z:d∉L.S)(u:HO)(ob:Obj):Bd C (upd (upd H d u) d (.frz ob u)) o L n s:=by
 have e:upd (upd H d u) d (.frz ob u)=upd H d (.frz ob u):=by
  funext b
  by_cases h:b=d
  .rw[h,qa,qa]
  .simp_all[upd_ne]
 rw[e];exact w.atD hd z _
def Bd.senR{o:Addr}{L:Lc}{s:Ws}(w:Bd C H o L n s){i:Nat}{r:Addr}{a4:List Int}(hi:L.rs[i]?=r)(hw:s.sn[i]?=a4)(g:Int):Bd C (upd H r (.lst (a4.map V.int++[V.int g]))) o L n ⟨s.gs,s.sn.set i (a4++[g]),s.lv,s.op⟩:=by
 obtain⟨gvs,ho,hg,hp,hs,hn,hr,hl,nd⟩:=w;obtain⟨r',e1,e2⟩:=Bo hr hw;rw[hi]at e1;cases e1
 have tp:Tp H (upd H r (.lst (a4.map V.int++[V.int g]))):=tpLs e2;have hm:=vR hi;have n3:=(zS.mp nd);have n4:=(zS.mp n3.2);have n5:=(zS.mp n4.2);have a1:L.gl≠r:=λz=>n3.1 (by rw[z];exact vI _ (vI _ hm))
 have a2:L.sl≠r:=λz=>n4.1 (by rw[z];exact vI _ hm)
 have a3:L.nl≠r:=λz=>n5.1 (by rw[z];exact hm)
 refine⟨gvs,by rw[upd_ne (Bu ho e2 (by simp))];exact ho,by rw[upd_ne a1];exact hg,Bh hp λ_ _ a=>a.mono tp,by rw[upd_ne a2];exact hs,by rw[upd_ne a3];exact hn,?_,by rw[upd_ne (Bu hl e2 (by simp))];exact hl,nd⟩;refine D9 (by rw[zN];exact uC hr) λj x e=>?_
 have hj:=by have:=(uA.mp e).1;rwa[zN]at this
 rw[List.getElem?_set]at e
 by_cases a5:i=j
 .subst a5
  rw[if_pos rfl,if_pos hj]at e;cases e
  exact⟨r,hi,by rw[qa,vQ];rfl⟩
 .rw[if_neg a5]at e
  obtain⟨y,f1,f2⟩:=Bo hr e;refine⟨y,f1,?_⟩;rw[upd_ne]
  .exact f2
  .intro z
   rw[z]at f1;exact a5 ((List.getElem_inj n5.2).mp (((uA.mp hi)).2.trans ((uA.mp f1)).2.symm))
def Fil(C CP o a:Addr)(L:Lc)(n m:Nat)(Q:VK)(H:Hp)(s:Ws)(x:Int)(d:Nat)(ks:List Int)(E:Int->Cd->Eff):Prop:=∀H' s' r cs,Nw C o L n m (a::L.S) H s H' s' d (E r cs)->WdAt CP H' a ⟨x,r,cs⟩->Rng s' r->CO s' cs->(∀k∈ks,k∈s'.lv.map (·.1))->Q .non H'
def R3(s:Ws)(x:Int):Prop:=Rng s x/\Rng s (x+1)/\Rng s (x+2)
def R3.up{x:Int}(h:R3 s x)(l:s.gs.length<=s'.gs.length):R3 s' x:=⟨h.1.up l,h.2.1.up l,h.2.2.up l⟩
def Vn.m(O:Vn)(k:Int):Bool:=match O.st with|none=>false|some l=>decide (k∈l)
def one(i:Int)(v:Option Bool)(c:Int):Option Bool:=if c=i then v else some false
def Rq(O:Vn)(k:Int)(r:Option Bool)(c:Int):Option Bool:=or3 (one 0 (an3 r (some (O.m k))) c) (one 1 (an3 r (some !(O.m k))) c)
def AeL{A:Prop}{R:Hp->Prop}(z:Hp->Prop)(a1:∀H1,z H1->R H1)(h1:b=true->(∀H1,z H1->R H1)->A)(h2:b=false->z H):if b then A else R H:=by
 cases b with
 |false=>exact a1 H (h2 rfl)
 |true=>exact h1 rfl a1
def AgR{s:Ws}{i:Nat}{z:List Int}(hw:s.sn[i]?=z)(g:Int)(O:Vn)(j:Nat):orL (((s.sn.set i (z++[g])).getD j []).map O.v)=or3 (orL ((s.sn.getD j []).map O.v)) (one (i:Int) (O.v g) (j:Int)):=by
 unfold one;rw[getD_eq_getElem?_getD,getD_eq_getElem?_getD]
 by_cases h:j=i
 .subst h
  rw[zQ (uA.mp hw).1,hw,if_pos rfl];show orL ((z++[g]).map O.v)=_;rw[vQ,Yi];exact congrArg _ (Bc _)
 .show orL _=_
  rw[zP (Ne.symm h),if_neg (by omega),Bc]
def Nw.sen{L:Lc}{m d:Nat}{S:List Addr}{s s':Ws}{F:Vn->Prop}(U:Nw C o L n m S H s H' s' d (eF F)){i:Nat}{a1:List Int}(hS:r∈S)(hi:L.rs[i]?=r)(hw:s'.sn[i]?=a1){g:Int}(hg:Rng s' g):Nw C o L n m S H s (upd H' r (.lst (a1.map V.int++[V.int g]))) ⟨s'.gs,s'.sn.set i (a1++[g]),s'.lv,s'.op⟩ (d+32) ⟨[],F,λO j=>(one (i:Int) (O.v g) (j.1:Int),none),[]⟩:=by
 have mr:=vR hw;have hm:∀q∈s'.sn.set i _,q∈s'.sn\/q=a1++[g]:=λq hq=>List.mem_or_eq_of_mem_set hq
 refine⟨U.k.trans (kpsUp hS),U.w.senR hi hw g,⟨U.f.g,λq hq x hx=>?_,U.f.lv,U.f.op⟩,U.lo,by rw[<-U.sl];exact zN,U.lv,λM e c=>?_,U.op,U.ct,λO h=>?_,U.kn⟩
 .rcases hm q hq with z|z
  .exact U.f.sn q z x hx
  .rw[z]at hx
   rcases vY.mp hx with z|z
   .exact U.f.sn _ mr x z
   .rw[mS z];exact hg
 .have c:=U.c M _ (by rwa[add_assoc]at c)
  refine⟨by have:=c.1;show s'.gs.length+e<=M;omega,by have:=c.2.1;show s'.lv.length+e<=M;omega,λq hq=>?_⟩;rcases hm q hq with z|z
  .have:=c.2.2 q z;omega
  .have:=c.2.2 _ mr;rw[z,vF,vG];omega
 .obtain⟨a,b,c⟩:=U.sat O h
  refine⟨a,b,λj=>?_⟩;have c:=c j;rw[J0]at c;show(orL _,(s'.sv O j).2)=(or3 (s.sv O j).1 _,ov3 (s.sv O j).2 none);rw[AgR hw,P8,<-c];rfl
def KpS.nil(k:KpS S H H')(h:H' p=none)(hs:p∉S):H p=none:=by
 cases e:H p with
 |none=>rfl
 |some u=>rw[k p u hs e]at h;cases h
def Nw.frz{C o p:Addr}{L:Lc}{n m d:Nat}{S:List Addr}{H H':Hp}{s s':Ws}{E:Eff}{kvs:List (Key×V)}(U:Nw C o L n m S H s H' s' d E)(hp:H' p=some (.dK kvs))(z:p∉L.S)(h0:H p=none)(u:HO)(ob:Obj):Nw C o L n m S H s (upd (upd H' p u) p (.frz ob u)) s' d E:={U with k:=λb _ nb e=>upd2 (U.k b _ nb e) (ne_of_none e h0),w:=U.w.frz2 hp z u _}
def AgM{k:Int}(f4:O.v i4=an3 r (some (O.m k)))(f3:O.v i3=an3 r (some !(O.m k)))(c:Int):cvl [(0,i4),(1,i3)] O c=Rq O k r c:=by
 unfold cvl Rq one
 by_cases h:c=0
 .subst h;simp[f4,Bc]
 .by_cases z:c=1
  .subst z;simp[f3,or3,List.lookup]
  .have h0:(c==0)=false:=by simpa using h
   have h1:(c==1)=false:=by simpa using z
   simp[h,z,or3,List.lookup,h0,h1]
def Ahw(k x r:Int)(cs:Cd)(O:Vn):Prop:=O.v r=some (O.m k)/\∀c,cvl cs O c=Rq O k (O.v x) c
def Afz(O:Vn)(k:Int)(r kp st:Option Bool)(j:Int):Option (Option Bool):=if j=k then some (lvS (an3 r (some !(O.m k))) kp (some (O.m k)) st) else none
inductive Sv(C CP:Addr)(vs:List V)(H:Hp)(Q:VK):Prop
 |mk(o a dx:Addr)(k x:Int)(rv cv:V)(L:Lc)(n m:Nat)(s:Ws)(_:vs=[.ref o,.int k,.ref a])(_:Hv C o L n m H s 8)(_:H a=some (.ins CP dx (wdV x rv cv)))(_:R3 s x)(_:(0<=k/\k<m))(_:Fil C CP o a L n m Q H s x 8 [k] (λr cs=>⟨[],Ahw k x r cs,λO i=>(some false,Afz O k (O.v x) (O.v (x+1)) (O.v (x+2)) i.2),[]⟩))
def Yx(C CP:Addr):Sp:=λvs H Q _=>Sv C CP vs H Q
def Ahu(F:Ao K mg "wire_rest" ["wiring","rest","whole"] Jn)(T:Cn K mg C CP)(aL:A4 P w K mg base 1 C "gate" ["self","word","numbers"] (Jo C))(aH:A4 P w K mg base 2 C "opposite" ["self","number"] (Oe C))(aA:A4 P w K mg base 2 C "every_of" ["self","numbers"] (Hn C))(bH:Ae P w K mg base 3 "wire_leaving" ["wiring","rest","whole","memory","comes"] (Ue C CP)):Ae P w K mg base 4 "wire_rest" ["wiring","rest","whole"] (Yx C CP):=by
 refine F.ok Nc (λvs H Q E h=>?_) (λf cdv A outer s0 H vs Q E hr h=>?_)
 .obtain⟨o,a,dx,k,x,rv,cv,L,n,m,s,rfl,_⟩:=h;rfl
 obtain⟨o,a,dx,k,x,rv,cv,L,n,m,s,rfl,hv,ha,r3,hk,q⟩:=h;obtain⟨uE,hE,rE⟩:=T.gE;obtain⟨uR,hR,rR⟩:=T.gR;obtain⟨ao,aS⟩:=hv.w.objOff ha
 refine⟨_,(Ab (Cg (pv 2) (Al aL hr Ax (pv 0) (pa2 Ah (An (pa1 (pv 1))))) rfl)
  (Ab (pst 3 Nc.nd (Al aA hr Ax (pv 0) (pa1 (An (pa2 (pfd (pv 2)) (Al aH hr Ax (pv 0) (pa1 (pfd (pv 2)))))))))
  (Ab (Cg (pv 2) (Ql (X0 (O4 (Bj rfl hE rE) (Al aA hr Ax (pv 0) (pa1 (An (pa2 (pfd (pv 2)) (pfd (pv 2)))))) (O4 (Bj rfl hR rR) (pv 3) Yk)) rfl rfl (by simp) (by decide))) rfl)
  (Ad (A6 (pcl bH (Ba (pv 0) (Ba (pv 1) (pa3 (pv 2) (pfd (pv 2)) (pv 3)))))))))),?_⟩
 refine⟨hv.w.ho,Z,zN1,λl1 h1=>?_⟩;have U1:=(hv.nw (S:=a::L.S)).new h1 (.lst [V.int k]);have a5:Hv C o L n m _ s 1:=U1.hv hv (by decide);refine⟨o,l1,"memory",[k],L,n,m,s,Z,a5,qa,λH1 b1 W1=>?_⟩;obtain⟨V1,r1⟩:=a5.add b1 W1 (.inr (.inl ⟨rfl,k,rfl,hk⟩)) (by show 1<=1000;decide);generalize s.nx=i1 at V1 r1;have a4:=V1.k _ _ aS ((Ac h1 (.lst [V.int k])) _ _ ha);refine⟨a4,T.clP,T.nE,(by show 5<1000;decide),?_⟩;have U1:=(U1.then V1).setA a4 (.ins CP dx (wdV x (.int i1) cv));have a1:=qa (H:=H1) (a:=a) (o:=.ins CP dx (wdV x (.int i1) cv));generalize hH:upd H1 a (.ins CP dx (wdV x (.int i1) cv))=G1 at U1 a1;have b4:upd H1 a (.ins CP dx (Dy "rests" (V.int i1) (wdV x rv cv)))=G1:=hH;rw[b4];have a6:=U1.w.ho;refine⟨a6,Z,a1,T.clP,T.nR,Z,a6,Z,a1,T.clP,T.nE,Z,?_⟩;refine⟨o,_,L,n,m,_,Z,U1.hv hv (by decide),r1,λH2 s2 i2 V2 r2=>⟨zN2,λl3 h3=>?_⟩⟩;have U2:=(U1.then V2).new h3 (.lst [V.int x,.int i2]);have b2:=(Ac h3 (.lst [V.int x,.int i2])) _ _ (V2.k _ _ aS a1);refine⟨o,l3,[x,i2],L,n,m,_,Z,U2.hv hv (by decide),qa,.two (r3.1.up U2.lo) r2,(by show 2<=1000;decide),λH3 s3 i3 V3 j3=>?_⟩;have U3:=U2.then V3;have a3:=V3.k _ _ aS b2;refine λp hp=>?_
 have pS:=U3.w.offN hp;have gp:=Ac hp (.dK []);have U4:=U3.new hp (.dK []);have a9:=U4.w.ho;refine⟨a9,Z,gp _ _ a3,T.clP,T.nR,Z,gp _ _ a3,T.clP,T.nE,Z,zN2,λl4 h4=>?_⟩;have g4:=Ac h4 (.lst [V.int x,.int i1]);have U4:=U4.new h4 (.lst [V.int x,.int i1]);refine⟨o,l4,[x,i1],L,n,m,_,Z,U4.hv hv (by decide),qa,.two (r3.1.up U4.lo) (r1.up (zA V2.lo V3.lo)),(by show 2<=1000;decide),λH4 s4 i4 V4 j4=>?_⟩;have a8:=V4.k _ _ aS (g4 _ _ (gp _ _ a3));have a2:H4 p=some (.dK []):=V4.k _ _ pS (g4 _ _ qa);refine⟨a2,[(Sum.inl 0,_),(Sum.inl 1,_)],Z,(by show 2<=15;decide),p,_,Z,qa,λob=>?_⟩;have ap:a≠p:=Bu a8 a2 (by simp);have U5:=(U4.then V4).frz a2 pS (U3.k.nil hp λz=>(zM.mp z).elim (Ne.symm ap) pS) (.dK (Eh [] [(Sum.inl 0,V.int i4),(Sum.inl 1,V.int i3)])) ob;have a7:=upd2 (u1:=.dK (Eh [] [(Sum.inl 0,V.int i4),(Sum.inl 1,V.int i3)])) (u2:=.frz ob (.dK (Eh [] [(Sum.inl 0,V.int i4),(Sum.inl 1,V.int i3)]))) a8 ap;have b3:upd (upd H4 p (.dK (Eh [] [(Sum.inl 0,V.int i4),(Sum.inl 1,V.int i3)]))) p (.frz ob (.dK (Eh [] [(Sum.inl 0,V.int i4),(Sum.inl 1,V.int i3)]))) p=_:=qa;generalize upd (upd H4 p (.dK (Eh [] [(Sum.inl 0,V.int i4),(Sum.inl 1,V.int i3)]))) p (.frz ob (.dK (Eh [] [(Sum.inl 0,V.int i4),(Sum.inl 1,V.int i3)])))=H5 at *;refine⟨a7,T.clP,T.nC,(by show 5<1000;decide),?_⟩;have U6:=U5.setA a7 (.ins CP dx (wdV x (.int i1) (.ref p)));have l3:=zA V2.lo V3.lo;refine⟨qa,T.clP,T.nE,Z,o,a,dx,k,_,_,x,_,_,L,n,m,_,Z,U6.hv hv (by decide),qa,⟨r3.2.1.up U6.lo,r3.2.2.up U6.lo,r1.up (zA l3 V4.lo),j3.up V4.lo⟩,λH6 s6 V6 lk=>?_⟩;refine q H6 s6 i1 [(0,i4),(1,i3)] ((U6.then V6).wk (zB _) hv.f.op (λ_ z=>nomatch z) λO ⟨⟨⟨⟨⟨_,f1⟩,f2⟩,f3⟩,f4⟩,_⟩=>?_) ⟨dx,p,ob,V6.k _ _ aS qa,V6.k p _ pS (by rw[upd_ne (Ne.symm ap)];exact b3)⟩ (r1.up (zA (zA l3 V4.lo) V6.lo)) ⟨λc hc=>?_,(by show([0,1]:List Int).Pairwise (· < ·);decide)⟩ (λj hj=>by rw[mS hj];exact lk)
 .have f1:O.v i1=some (O.m k):=f1
  have f2:O.v i2=nt3 (O.v i1):=f2;have f3:O.v i3=an3 (O.v x) (an3 (O.v i2) (some true)):=f3;have f4:O.v i4=an3 (O.v x) (an3 (O.v i1) (some true)):=f4;rw[Bt]at f3 f4;rw[f2,f1]at f3;rw[f1]at f4;refine⟨⟨f1,λc=>AgM f4 f3 c⟩,λi=>?_⟩;show((some false,if i.2=k then some (lvS (O.v i3) _ (O.v i1) _) else none):Dv)=_;rw[f3,f1];rfl
 rcases zM.mp hc with z|z
 .rw[z];exact⟨(by simp),j4.up V6.lo⟩
 .rw[mS z];exact⟨(by simp),j3.up (zA V4.lo V6.lo)⟩
def okN(n:Nat):Pt->Prop
 |.nothing=>True
 |.rest _=>True
 |.send i=>0<=i/\i<n
 |.exit d=>0<=d/\d<4
 |.stay _=>False
 |.iff i p q=>(0<=i/\i<n)/\okN n p/\okN n q
 |.again _ p=>okN n p
 |.hold i p=>(0<=i/\i<n)/\okN n p
 |.watch i p=>(0<=i/\i<n)/\okN n p
 |.trap p=>okN n p
 |.thn p q=>okN n p/\okN n q
 |.bes p q=>okN n p/\okN n q
def rsP:Pt->List Int
 |.rest k=>[k]
 |.again k p=>k::rsP p
 |.iff _ p q=>rsP q++rsP p
 |.thn p q=>rsP q++rsP p
 |.bes p q=>rsP q++rsP p
 |.hold _ p=>rsP p
 |.watch _ p=>rsP p
 |.trap p=>rsP p
 |_=>[]
def AhB(h:okN n p)(lf:E5 p):0<=(beg [] p).1/\(beg [] p).1<=5:=by
 cases p with
 |exit d=>obtain⟨h1,h2⟩:=h;show 0<=2+d/\2+d<=5;omega
 |stay _=>cases h
 |nothing=>exact(by decide)
 |send _=>exact(by show(0:Int)<=0/\0<=5;decide)
 |rest _=>exact(by show(0:Int)<=1/\1<=5;decide)
 |_=>cases lf
def rsB(O:Vn):Pt->Bool
 |.rest k=>O.m k
 |.again k p=>O.m k || rsB O p
 |.iff _ p q=>rsB O p || rsB O q
 |.thn p q=>rsB O p || rsB O q
 |.bes p q=>rsB O p || rsB O q
 |.hold _ p=>rsB O p
 |.watch _ p=>rsB O p
 |.trap p=>rsB O p
 |_=>false
def A7(P:Int->Bool)(A:Int->Option Bool):Option Bool:=orL (((List.range 6).filter λ(i:Nat)=>P (i:Int)).map λ(i:Nat)=>A (i:Int))
def isC(c i:Int):Bool:=decide (i=c)
def gtC(A B:Int->Option Bool)(c:Int):Option Bool:=an3 (or3 (A c) (B c)) (an3 (A7 (λi=>decide (i<=c)) A) (A7 (λi=>decide (i<=c)) B))
abbrev Sm:=(Int->Option Bool)×(Nat->Option Bool)
def sem(O:Vn):Pt->Option Bool->Sm
 |.rest k,r=>(Rq O k r,λ_=>some false)
 |.send s,r=>(one 0 r,λi=>one s r i)
 |.exit d,r=>(one (2+d) r,λ_=>some false)
 |.thn p q,r=>
  let b:=some (rsB O q)
  let x:=sem O p (an3 r (nt3 b))
  let y:=sem O q (or3 (an3 r b) (x.1 0))
  (λc=>or3 (A7 (λi=>!decide (i=0)&&isC c i) x.1) (A7 (isC c) y.1),λi=>or3 (x.2 i) (y.2 i))
 |.iff s p q,r=>
  let a:=some (rsB O p)
  let b:=some (rsB O q)
  let g:=an3 r (nt3 (or3 a b))
  let x:=sem O p (or3 (an3 r a) (an3 g (O.v s)))
  let y:=sem O q (or3 (an3 r b) (an3 g (nt3 (O.v s))))
  (λc=>or3 (A7 (isC c) x.1) (A7 (isC c) y.1),λi=>or3 (x.2 i) (y.2 i))
 |.bes p q,r=>
  let a:=some (rsB O p)
  let b:=some (rsB O q)
  let i1:=an3 b (nt3 a)
  let i2:=an3 a (nt3 b)
  let x:=sem O p (an3 r (nt3 i1))
  let y:=sem O q (an3 r (nt3 i2))
  (gtC (λc=>or3 (A7 (isC c) x.1) (one 0 (an3 r i1) c)) (λc=>or3 (A7 (isC c) y.1) (one 0 (an3 r i2) c)),λi=>or3 (x.2 i) (y.2 i))
 |.again _ p,r=>(λc=>A7 (λi=>isC c (agC i)) (sem O p r).1,(sem O p r).2)
 |.trap p,r=>(λc=>A7 (λi=>isC c (Ch i)) (sem O p r).1,(sem O p r).2)
 |.hold s p,r=>
  let a:=some (rsB O p)
  let x:=sem O p (an3 r (or3 (nt3 a) (nt3 (O.v s))))
  (λc=>or3 (A7 (isC c) x.1) (one 1 (an3 r (an3 a (O.v s))) c),x.2)
 |.watch s p,r=>
  let a:=some (rsB O p)
  let x:=sem O p (an3 r (or3 (nt3 a) (nt3 (O.v s))))
  (λc=>or3 (A7 (isC c) x.1) (one 0 (an3 r (an3 a (O.v s))) c),x.2)
 |_,r=>(one 0 r,λ_=>some false)
def Bb(O:Vn):Pt->Option Bool->Option Bool->Option Bool->Int->Option (Option Bool)
 |.rest k,r,kp,st,j=>Afz O k r kp st j
 |.thn p q,r,kp,st,j=>ov3 (Bb O p (an3 r (nt3 (some (rsB O q)))) kp st j) (Bb O q (or3 (an3 r (some (rsB O q))) ((sem O p (an3 r (nt3 (some (rsB O q))))).1 0)) kp st j)
 |.iff s p q,r,kp,st,j=>
  let a:=some (rsB O p)
  let b:=some (rsB O q)
  let g:=an3 r (nt3 (or3 a b))
  ov3 (Bb O p (or3 (an3 r a) (an3 g (O.v s))) kp st j) (Bb O q (or3 (an3 r b) (an3 g (nt3 (O.v s)))) kp st j)
 |.bes p q,r,kp,st,j=>
  let a:=some (rsB O p)
  let b:=some (rsB O q)
  let k:=an3 kp ((sem O (.bes p q) r).1 1)
  ov3 (Bb O p (an3 r (nt3 (an3 b (nt3 a)))) k st j) (Bb O q (an3 r (nt3 (an3 a (nt3 b)))) k st j)
 |.again k p,r,kp,st,j=>ov3 (Bb O p r kp st j) (if j=k then some (lvS ((sem O p r).1 0) kp (some (O.m k)) st) else none)
 |.trap p,r,kp,st,j=>Bb O p r kp st j
 |.hold s p,r,kp,st,j=>Bb O p (an3 r (or3 (nt3 (some (rsB O p))) (nt3 (O.v s)))) kp (or3 st (an3 (an3 r (an3 (some (rsB O p)) (O.v s))) kp)) j
 |.watch s p,r,kp,st,j=>Bb O p (an3 r (or3 (nt3 (some (rsB O p))) (nt3 (O.v s)))) kp st j
 |_,_,_,_,_=>none
def fPt(p:Pt)(x r:Int)(cs:Cd)(O:Vn):Prop:=O.v r=some (rsB O p)/\∀c,cvl cs O c=(sem O p (O.v x)).1 c
def eP(p:Pt)(x r:Int)(cs:Cd):Eff:=⟨[],fPt p x r cs,λO i=>((sem O p (O.v x)).2 i.1,Bb O p (O.v x) (O.v (x+1)) (O.v (x+2)) i.2),[]⟩
def AeJ(k x:Int)(O:Vn)(c:Int):cvl [(k,x)] O c=one k (O.v x) c:=by
 unfold cvl one
 by_cases h:c=k
 .subst h;simp
 .have h0:(c==k)=false:=by simpa using h
  simp[h,List.lookup,h0]
def Aat(h:E5 p)(n1:¬wdP p ="rest")(n:Nat)(ok:okN n p)(O:Vn)(r:Option Bool):(sem O p r).1=one (beg [] p).1 r/\rsB O p=false:=by
 cases p<;>first|exact⟨Z,Z⟩|exact absurd rfl n1|(cases h;done)|(cases ok;done)
def AgG{p:Pt}(lf:E5 p)(n2:¬wdP p ="send")(O:Vn)(r:Option Bool)(i:Nat):some false=(sem O p r).2 i:=by cases p<;>first|rfl|exact absurd rfl n2|cases lf
def Aff{p:Pt}(lf:E5 p)(n1:¬wdP p ="rest"):rsP p=[]:=by cases p<;>first|rfl|exact absurd rfl n1|cases lf
def AhA{p:Pt}(lf:E5 p)(n1:¬wdP p ="rest")(O:Vn)(r kp st:Option Bool)(j:Int):Bb O p r kp st j=none:=by cases p<;>first|rfl|exact absurd rfl n1|cases lf
inductive To(K:FA)(C CP:Addr)(vs:List V)(H:Hp)(Q:VK):Prop
 |mk(o a dx:Addr)(v:V)(p:Pt)(x:Int)(rv cv:V)(L:Lc)(n m:Nat)(s:Ws)(_:vs=[.ref o,v,.ref a])(_:Hv C o L n m H s 40)(_:PAt K H p.nd v)(_:E5 p=true)(_:okN n p)(_:(∀k∈rsP p,0<=k/\k<m))(_:H a=some (.ins CP dx (wdV x rv cv)))(_:R3 s x)(_:Fil C CP o a L n m Q H s x 40 (rsP p) (eP p x))
def Rz(K:FA)(C CP:Addr):Sp:=λvs H Q _=>To K C CP vs H Q
def AiH(F:Ao K mg "wire_leaf" ["wiring","part","whole"] Jj)(T:Cn K mg C CP)(aE:A4 P w K mg base 2 C "some_of" ["self","numbers"] (Ie C))(bA:Ae P w K mg base 1 "leaf_code" ["part"] (Kg K))(fH:Ae P w K mg base 4 "wire_rest" ["wiring","rest","whole"] (Yx C CP)):Ae P w K mg base 5 "wire_leaf" ["wiring","part","whole"] (Rz K C CP):=by
 refine F.ok Vm (λvs H Q E h=>?_) (λf cdv A outer s0 H vs Q E hr h=>?_)
 .obtain⟨o,a,dx,v,p,x,rv,cv,L,n,m,s,rfl,_⟩:=h;rfl
 obtain⟨o,a,dx,v,p,x,rv,cv,L,n,m,s,rfl,hv,hp,lf,ok,rk,ha,r3,q⟩:=h
 refine⟨_,(Ab (Az (pce (pix (pv 1)) Ah)
   (Ab (A6 (pcl fH (pa3 (pv 0) (pix (pv 1)) (pv 2))))
  (Ad (Za)))
   Ar)
  (Ab (Az (pce (pix (pv 1)) Ah)
   (Ad (A6 (F2 uG uK uJ Da (B7 B0 (pfd (pv 0)) (pix (pv 1)) (λ_ _=>rfl)) (pa1 (pfd (pv 2))))))
   Ar)
  (Ab (Cg (pv 2) (Al aE hr Ax (pv 0) (pa1 (An Bm))) rfl)
  (Ad (Cg (pv 2) (Ql (X0 (O4 (pcl bA (pa1 (pv 1))) (pfd (pv 2)) Yk) rfl rfl (by simp) (by decide))) rfl))))),?_⟩
 obtain⟨t,vs,rfl,hs⟩:=J6 hp;obtain⟨ao,aS⟩:=hv.w.objOff ha;refine⟨hs.sq,Aa (j:=0) rfl,Z,Ci (λe=>?_) λn1=>⟨hs.sq,Aa (j:=0) rfl,Z,AeL (λH1=>∃s1,Nw C o L n m (a::L.S) H s H1 s1 32 ⟨[],λ_=>True,λO i=>((sem O p (O.v x)).2 i.1,none),[]⟩/\H1 a=some (.ins CP dx (wdV x rv cv))/\PAt K H1 p.nd (.ref t)) ?_ (λe a5=>?_) λnb=>⟨s,hv.nw.wk (zZ _) hv.f.op (λ_ z=>nomatch z) (λO _=>⟨trivial,λi=>?_⟩),ha,hp⟩⟩⟩;rotate_left 3
 .have n2:¬wdP p ="send":=λz=>by simp_all
  exact congrArg (·,none) (AgG lf n2 _ _ _)
 .obtain⟨k,rfl⟩:=Kj e
  have hs:=g2i hp;exact⟨hs.sq,Aa (j:=1) rfl,o,a,dx,k,x,rv,cv,L,n,m,s,Z,⟨hv.w,hv.f,hv.nl,hv.sl,hv.b.le (by decide)⟩,ha,r3,rk k vH,λH' s' r cs U=>q H' s' r cs (U.wk (by decide) hv.f.op (λ_ z=>nomatch z) λO f=>⟨f,λ_=>rfl⟩)⟩
 .rintro H1 ⟨s1,U1,a7,b3⟩
  have a8:=U1.w.ho;refine⟨a8,Z,zN0,λl1 h1=>?_⟩;have U2:=U1.new h1 (.lst []);refine⟨o,l1,[],L,n,m,_,Z,U2.hv hv (by decide),qa,.nil,zZ _,λH2 s2 i V2 hi=>?_⟩;have U2:=U2.then V2;have a2:=V2.k _ _ aS ((Ac h1 (.lst [])) _ _ a7);have a9:=(b3.mono (Ac h1 (.lst [])).tp).mono ((U1.w.same (Ac h1 (.lst []))).tp V2.k);refine⟨a2,T.clP,T.nE,(by show 5<1000;decide),?_⟩;have U3:=U2.setA a2 (.ins CP dx (wdV x (.int i) cv));have a4:=a9.mono (Q7 a2 (kpsUp (u:=.ins CP dx (wdV x (.int i) cv)) vH));have a1:=qa (H:=H2) (a:=a) (o:=.ins CP dx (wdV x (.int i) cv));generalize hH:upd H2 a (.ins CP dx (wdV x (.int i) cv))=H3 at U3 a4 a1;have b4:upd H2 a (.ins CP dx (Dy "rests" (V.int i) (wdV x rv cv)))=H3:=hH;rw[b4];refine λd hd=>?_
  have dS:=U3.w.offN hd;have gp:=Ac hd (.dK []);have U4:=U3.new hd (.dK []);have ad:a≠d:=ne_of_none a1 hd;refine⟨_,p,Z,a4.mono gp.tp,lf,gp _ _ a1,T.clP,T.nR,Z,qa,[(Sum.inl (beg [] p).1,V.int x)],Z,(by show 1<=15;decide),d,_,Z,qa,λob=>?_⟩;have a3:=upd2 (u1:=.dK (Eh [] [(Sum.inl (beg [] p).1,V.int x)])) (u2:=.frz ob (.dK (Eh [] [(Sum.inl (beg [] p).1,V.int x)]))) (gp _ _ a1) ad;refine⟨a3,T.clP,T.nC,(by show 5<1000;decide),?_⟩;refine q _ s2 i [((beg [] p).1,x)] (((U4.frz qa dS (U3.k.nil hd λz=>(zM.mp z).elim (Ne.symm ad) dS) (.dK (Eh [] [(Sum.inl (beg [] p).1,V.int x)])) ob).setA a3 _).wk (by decide) hv.f.op (λ_ z=>nomatch z) λO ⟨_,f⟩=>⟨⟨f.trans (congrArg some (Aat lf n1 n ok O (O.v x)).2.symm),λc=>by rw[(Aat lf n1 n ok O (O.v x)).1];exact AeJ _ _ _ _⟩,λi=>(J0 _).trans (congrArg (Prod.mk _) (AhA lf n1 O _ _ _ _).symm)⟩) ⟨dx,d,ob,qa,by rw[upd_ne (Ne.symm ad)];exact qa⟩ hi ⟨λc hc=>?_,pairwise_singleton _ _⟩ (by rw[(Aff lf n1)];intro k hk;cases hk);rw[mS hc];exact⟨AhB ok lf,r3.1.up U2.lo⟩
 .obtain⟨i,rfl⟩:=Yg (V.str.inj (vN e))
  have a6:=hp;have hs:=g2i hp;obtain⟨gvs,ho,hg,b6,b5,hn,b1,hl,nd⟩:=id hv.w;obtain⟨i0,i1⟩:=ok;obtain⟨j,rfl⟩:∃j:Nat,i=(j:Int):=⟨i.toNat,(uO i0).symm⟩;have hj:j<s.sn.length:=by rw[hv.sl];omega
  obtain⟨r,f1,f2⟩:=Bo b1 (vD hj);refine⟨ho,T.cl,T.nN,Z,hs.sq,Aa (j:=1) rfl,Ai hn,Aa (v:=V.ref r) (by rw[vJ,f1];rfl),.inl ⟨Z,_,Ai f2⟩,ha,T.clP,T.nR,Z,r,_,.int x,Z,Z,f2,?_,?_⟩
  .rw[vE]
   exact Ac3 (by have:=hv.b.2.2 _ (zL hj);omega)
  exact a5 _ ⟨_,((hv.nw (S:=a::L.S)).sen (vI _ (vI _ (vI _ (vR f1)))) f1 (vD hj) r3.1),by rw[upd_ne (Bu ha f2 (by simp))];exact ha,a6.mono (tpLs f2)⟩
def Nj(l:List (Option Bool)):orL l=if some true∈l then some true else if none∈l then none else some false:=by
 induction l with
 |nil=>rfl
 |cons a l ih=>
  show or3 a (orL l)=_
  rw[ih];rcases a with _|_|_<;>by_cases h:some true∈l<;>by_cases z:none∈l<;>simp[or3,h,z]
def AeP(h:∀v,v≠some false->(v∈l↔v∈m)):orL l=orL m:=by
 rw[Nj,Nj];simp_all
theorem Vi:∀{cs:Cd},(cs.map (·.1)).Pairwise (· < ·)->p∈cs->q∈cs->p.1=q.1->p=q
 |a::l,h,hp,hq,e=>by
  rw[zT,zR]at h;rcases zM.mp hp with z|hp<;>rcases zM.mp hq with w|hq
  .rw[z,w]
  .have:=h.1 _ (mem_map_of_mem hq);rw[<-e,z]at this;exact absurd this (Int.lt_irrefl _)
  .have:=h.1 _ (mem_map_of_mem hp);simp_all
  .exact Vi h.2 hp hq e
def Yq(h:CO s cs)(hp:p∈cs):cs.lookup p.1=p.2:=by
 obtain⟨v,hv⟩:=Kc (mem_map_of_mem hp);rw[hv,<-Vi h.2 (Hm hv) hp rfl]
def Ze(h:CO s cs)(P:Int->Bool)(O:Vn):orL (((cs.filter λp=>P p.1).map (·.2)).map O.v)=A7 P (cvl cs O):=by
 refine AeP λv nv=>?_
 constructor
 .intro hv
  obtain⟨g,hg,rfl⟩:=zU.mp hv;obtain⟨p,hp,rfl⟩:=zU.mp hg;obtain⟨hp,z⟩:=mem_filter.mp hp;have b:=(h.1 p hp).1;have en:=uO b.1;refine zU.mpr ⟨p.1.toNat,mem_filter.mpr ⟨mem_range.mpr (by omega),?_⟩,?_⟩
  .rw[en];exact z
  .unfold cvl;rw[en,Yq h hp];rfl
 .intro hv
  obtain⟨i,hi,rfl⟩:=zU.mp hv;obtain⟨_,z⟩:=mem_filter.mp hi;unfold cvl at nv ⊢;cases l:cs.lookup _ with
  |none=>rw[l]at nv;exact absurd rfl nv
  |some g=>exact zU.mpr ⟨g,zU.mpr ⟨_,mem_filter.mpr ⟨Hm l,z⟩,rfl⟩,rfl⟩
def Ol{ps:Cd}(h:CO s cs)(P:Int->Bool)(f:Int->Int)(e:ps=(cs.filter λp=>P p.1).map λp=>(f p.1,p.2))(O:Vn)(c:Int):orC ps O c=A7 (λi=>P i&&isC c (f i)) (cvl cs O):=by
 rw[<-Ze h];unfold orC Gk;rw[e,List.filter_map,List.filter_filter,map_map,map_map,map_map];show orL (List.map _ (filter (λp:Int×Int=>decide (f _=c)&&P _) _))=_;rw[show(λp:Int×Int=>decide _&&P _)=λp=>P _&&isC c _ from funext λp=>Bool.and_comm _ _];rfl
def Nl(h:CO s cs)(O:Vn)(c:Int):orC cs O c=A7 (isC c) (cvl cs O):=(Ol h (λ_=>true) _ (by rw[filter_eq_self.mpr λ_ _=>rfl];exact(map_id _).symm) O c).trans rfl
def N9(a b:Cd)(O:Vn)(c:Int):orC (a++b) O c=or3 (orC a O c) (orC b O c):=by unfold orC;rw[Pq,vQ,Yi]
def Y8(k g:Int)(O:Vn)(c:Int):orC [(k,g)] O c=one k (O.v g) c:=by
 unfold one;split
 .next h=>unfold orC;rw[Wz h.symm];exact Bc _
 .next h=>unfold orC;rw[Y7 (Ne.symm h)];rfl
def Pr2(s:Ws)(x y:Int):Prop:=Op3 s x/\Op3 s y/\x+3<=y
def Pr2.kp{E:Eff}{x:Int}(h:Pr2 s x y)(U:Nw C o L n m S H s H' s' d E)(e:E.A=[]):Pr2 s' x y:=⟨h.1.kp U λg z=>by simp_all,h.2.1.kp U λg z=>by simp_all,h.2.2⟩
def AfD{l:List Int}{g:Int}(z:g∈(l++[])++[]):g∈l:=by rwa[zK,zK]at z
def Af4{l:List Int}{g r:Int}(z:g∈((l++[])++[])++[r]):g∈l++[r]:=by rwa[zK,zK]at z
def rng_up{f:Nat->Int}{i:Nat}{g r:Int}(e:f i=r)(z:g∈(List.range i).map f++[r]):g∈(List.range (i+1)).map f:=by rw[range_succ,vQ,<-e]at *;exact z
def Z9{g a b c:Int}(z:g∈[b,a,c]):g∈[a,b,c]:=by simp at z ⊢;omega
def Mb{g:TG}{tc:TT}{F:Addr->List V->Hp->Prop}(Pv:Nat->List V->Hp->Prop)(h0:Pv 0 [] H)(hz:kvs.length<=sizeLine)(hl:∀i ys H,Pv i ys H->H d=some (.frz o (.dK kvs)))
  (hs:∀i p T ys H(N:List V->Hp->Prop),kvs[i]?=some p->Pv i ys H->H T=none->(∀a1 H',a1.length<=i+1->Pv (i+1) a1 H'->N a1 H')->ys.length<=i->g (.ref T) a3 (upd H T (.tup [kV p.1,p.2])) λa2 H2=>tc a2 H2 λb H3=>if b then te a2 H3 λy H4=>N (ys++[y]) H4 else N ys H3)
  (hd:∀ys H,ys.length<=kvs.length->Pv kvs.length ys H->∀D,H D=none->F D ys H):Mv (Iti d o kvs) g tc te a3 F H:=
 Ix _ h0 hz (λi ys H hi p=>⟨hl i _ H p,hi⟩) (λys H p=>⟨hl _ _ H p,zB _⟩)
  (λi x ys H _ N _ p ⟨T,z,e1,hT,y,e2⟩ a4 k=>by subst e1 e2;exact hs i z T _ _ N y p hT k a4) hd
def WdAt.kp(D:WdAt CP H a r)(W:Bd C H o L n s)(k:KpS L.S H H'):WdAt CP H' a r:=by
 obtain⟨dx,d,ob,ha,hd⟩:=D;exact⟨dx,d,ob,k _ _ (W.objOff ha).2 ha,k _ _ (W.offF hd) hd⟩
def WdAt.same(D:WdAt CP H a r)(g:Same H H'):WdAt CP H' a r:=by
 obtain⟨dx,d,ob,ha,hd⟩:=D;exact⟨dx,d,ob,g _ _ ha,g _ _ hd⟩
def Np(h:Acy H (codes.map kvI) l ts H'):PySem.Paired (PrAt H') codes (ts.map V.ref):=by
 obtain⟨g,fl,el,le,ft,nd,et⟩:=h;refine D9 (by rw[vE,le,vE]) λj x e=>?_
 have z:j<ts.length:=by rw[le,vE];exact(uA.mp e).1
 exact⟨.ref ts[j],by rw[vJ,vD z];rfl,ts[j],Z,et j _[j] (kvI x) (vD z) (by rw[vJ,e];rfl)⟩
def Dl{α β:Type}{F:α->β->Prop}{l1 l2:List α}{m1 m2:List β}(h1:PySem.Paired F l1 m1)(h2:PySem.Paired F l2 m2):PySem.Paired F (l1++l2) (m1++m2):=by
 have e1:=uC h1;refine D9 (by rw[vF,vF,e1,(uC h2)]) λj x e=>?_
 rcases lt_or_ge j _ with hj|hj
 .rw[vV hj]at e
  obtain⟨y,z,f2⟩:=Bo h1 e;exact⟨y,by rw[vV (by omega)];exact z,f2⟩
 .rw[vW hj]at e
  obtain⟨y,z,f2⟩:=Bo h2 e;exact⟨y,by rw[vW (by omega),<-e1];exact z,f2⟩
def WI(s:Ws)(r:Wr):Prop:=R3 s r.runs/\Rng s r.rests/\CO s r.codes
def WI.up(h:WI s r)(l:s.gs.length<=s'.gs.length):WI s' r:=⟨h.1.up l,h.2.1.up l,h.2.2.up l⟩
def fQ(r q:Int)(F:Vn->Prop)(O:Vn):Prop:=r=q/\F O
def AaH(x:Int)(r1 r2:Wr)(cs:Cd)(O:Vn):Prop:=O.v r1.runs=an3 (O.v x) (nt3 (O.v r2.rests))/\O.v r2.runs=or3 (an3 (O.v x) (O.v r2.rests)) (cvl r1.codes O 0)/\∀c,cvl cs O c=or3 (A7 (λi=>!decide (i=0)&&isC c i) (cvl r1.codes O)) (A7 (isC c) (cvl r2.codes O))
inductive S0(C CP:Addr)(vs:List V)(H:Hp)(Q:VK):Prop
 |mk(o a dx f g:Addr)(x rr:Int)(cv:V)(r1 r2:Wr)(L:Lc)(n m:Nat)(s:Ws)(_:vs=[.ref o,.ref a,.ref f,.ref g])(_:Hv C o L n m H s 16)(_:H a=some (.ins CP dx (wdV x (.int rr) cv)))(_:WdAt CP H f r1)(_:WdAt CP H g r2)(_:R3 s x)(_:Rng s rr)(_:WI s r1)(_:WI s r2)(_:Pr2 s r1.runs r2.runs)(_:Fil C CP o a L n m Q H s x 16 [] (λr cs=>eC [r1.runs,r2.runs] (fQ r rr (AaH x r1 r2 cs))))
def Xu(C CP:Addr):Sp:=λvs H Q _=>S0 C CP vs H Q
def Fil.cod{x:Int}{G:Int->Cd->Eff}(q:Fil C CP o a L n m Q H s x j [] G)(U:Nw C o L n m (a::L.S) H s H' s' j (G r cs))(ha:H' a=some (.ins CP dx (wdV x (.int r) cv)))(hd:H' d=some (.frz ob (.dK (cs.map kvI))))(hr:Rng s' r)(hc:CO s' cs):Q .non (upd H' a (.ins CP dx (wdV x (.int r) (.ref d)))):=by
 exact q _ _ r _ (U.setA ha _) ⟨dx,d,ob,qa,by rw[upd_ne (Ne.symm (Bu ha hd (by simp)))];exact hd⟩ hr hc λ_ h=>nomatch h
def AiM(F:Ao K mg "wire_then" ["wiring","whole","first","second"] G7)(T:Cn K mg C CP)(aG:A4 P w K mg base 1 C "fill" ["self","number","word","numbers"] (Jt C))(aH:A4 P w K mg base 2 C "opposite" ["self","number"] (Oe C))(aA:A4 P w K mg base 2 C "every_of" ["self","numbers"] (Hn C))(aQ:A4 P w K mg base 3 C "joined" ["self","pairs"] (Kt C))(aO:Ae P w K mg base 3 "code_gate" ["wiring","whole","code"] (We C CP)):Ae P w K mg base 4 "wire_then" ["wiring","whole","first","second"] (Xu C CP):=by
 refine F.ok Kq (λvs H Q E h=>?_) (λfn cdv A outer s0 H vs Q E hr h=>?_)
 .obtain⟨o,a,dx,f,g,x,rr,cv,r1,r2,L,n,m,s,rfl,_⟩:=h;rfl
 obtain⟨o,a,dx,f,g,x,rr,cv,r1,r2,L,n,m,s,rfl,hv,ha,D1,D2,r3,b5,b1,b2,pr,q⟩:=h;obtain⟨uE,hE,rE⟩:=T.gE;have W:=hv.w;have aS:=(W.objOff ha).2
 refine⟨_,(Ab (pst 4 Kq.nd (Al aA hr Ax (pv 0) (pa1 (An (pa2 (pfd (pv 1)) (pfd (pv 3)))))))
  (Ab (A6 (Al aG hr Ax (pv 0) (pa3 (pfd (pv 2)) Ah (An (pa2 (pfd (pv 1)) (Al aH hr Ax (pv 0) (pa1 (pfd (pv 3)))))))))
  (Ab (A6 (Al aG hr Ax (pv 0) (pa3 (pfd (pv 3)) Ah (An (pa2 (pv 4) (pcl aO (pa3 (pv 0) (pv 2) (Bj rfl hE rE))))))))
  (Ab (Dz (j:=5) (tc:=(Ff (tOp rNe (tOp (E3 K) (Aw 0) (tC (.int 0))) (tC (.int 0))))) ["pair"] [] Kq.nd rfl (Or.inl rfl) rfl (Bx (Af G7) ["wiring","whole","first","second","going_on","going_past"] (by trivial)) (P0 (pfd (pv 2))) (λs2 H2 fp cl C=>Aq (i:=0) (show Nodup [("pair": Str)] from by trivial) rfl (Or.inl rfl)) (A9 (by decide)) (λs2 H2 fp cl C=>Dj (pcn (pix (pv 0)) (Bj rfl hE rE))) (λs2 H2 fp cl C=>(pv 0)))
  (Ad (Cg (pv 1) (Al aQ hr Ax (pv 0) (pa1 (Au Ck (pv 5) (Jw rfl rfl T.n_list (pfd (pv 3)))))) rfl)))))),?_⟩
 obtain⟨fx,d1,o1,hf,a7⟩:=id D1;obtain⟨gx,d2,o2,hg,a3⟩:=id D2;have fS:=(W.objOff hf).2;have gS:=(W.objOff hg).2;refine⟨W.ho,Z,ha,T.clP,T.nR,Z,hg,T.clP,T.nE,Z,zN2,λl1 h1=>?_⟩;have U1:=(hv.nw (S:=L.S)).new h1 (.lst [V.int x,.int r2.rests]);refine⟨o,l1,[x,r2.rests],L,n,m,s,Z,U1.hv hv (by decide),qa,.two r3.1 b2.2.1,(by show 2<=1000;decide),λH1 s1 i1 V1 j1=>?_⟩;have U1:=U1.trans V1;have a4:=V1.w.ho;refine⟨a4,Z,U1.k _ _ fS hf,T.clP,T.nR,Z,U1.k _ _ aS ha,T.clP,T.nR,Z,a4,Z,U1.k _ _ gS hg,T.clP,T.nE,Z,?_⟩;refine⟨o,_,L,n,m,_,Z,U1.hv hv (by decide),b2.2.1.up U1.lo,λH2 s2 i2 V2 j2=>⟨zN2,λl2 h2=>?_⟩⟩;have U2:=(U1.trans V2).new h2 (.lst [V.int x,.int i2]);refine⟨o,l2,r1.runs,"all",[x,i2],L,n,m,_,Z,U2.hv hv (by decide),qa,U2.op _ pr.1.1 (λz=>nomatch z),.inl rfl,.two (r3.1.up U2.lo) j2,(by show 2<=1000;decide),λH3 s3 V3 _=>?_⟩;have U3:=U2.trans V3;have b3:=V3.w.ho;refine⟨b3,Z,U3.k _ _ gS hg,T.clP,T.nR,Z,o,f,0,r1,L,n,m,_,Z,U3.hv hv (by decide),D1.kp W U3.k,(b1.up U3.lo).2.2.1,λH4 s4 i4 V4 j4=>⟨zN2,λl4 h4=>?_⟩⟩;have U4:=(U3.trans V4).new h4 (.lst [V.int i1,.int i4]);refine⟨o,l4,r2.runs,"some",[i1,i4],L,n,m,_,Z,U4.hv hv (by decide),qa,U4.op _ pr.2.1.1 (λz=>by have:=mS z;have:=pr.2.2;omega),.inr rfl,.two (j1.up (zA (zA V2.lo V3.lo) V4.lo)) j4,(by show 2<=1000;decide),λH5 s5 V5 _=>?_⟩;have U5:=U4.trans V5;have a9:=U5.k _ _ (W.offF a7) a7;have c1:=b1.2.2.len;have c2:=b2.2.2.len;refine⟨U5.k _ _ fS hf,T.clP,T.nC,Z,d1,o1,_,Z,a9,Mb (λi ys H'=>Same H5 H'/\∃ps,PySem.Paired (PrAt H') ps ys/\CR s ps/\ps=(r1.codes.take i).filter λp=>!decide (p.1=0)) ⟨Bv _,[],.nil,λ_ h=>(nomatch h),Z⟩ (by rw[vE];exact zA c1 (by decide)) (λi ys H' hh=>hh.1 _ _ a9) ?_ ?_⟩
 .rintro i p t ys H' N hi ⟨gg,ps,hy,cr,ep⟩ ht hN a8
  have a1:=by have:=(uA.mp hi).1;rwa[vE]at this
  rw[vJ,vD a1]at hi;cases hi
  have tk:r1.codes.take (i+1)=r1.codes.take i++[r1.codes[i]]:=by rw[vZ,vD a1];rfl
  have gt:=Ac ht (.tup [V.int (r1.codes[i]).1,V.int (r1.codes[i]).2]);have a6:=Bh hy λ_ _ a=>a.mono gt.tp
  refine⟨Aj qa,Aa rfl,Z,As (λz1=>(hN _ _ (by rw[vF,vG];omega) ⟨gg.trans gt,ps++[r1.codes[i]],Dl a6 (.cons ⟨t,Z,qa⟩ .nil),cr.app (λp hp=>?_),by rw[tk,zO,ep];congr 1;simp[show ¬(r1.codes[i]).1=0 from λe=>(by simpa using z1:¬kV (kvI r1.codes[i]).1=V.int 0) (congrArg V.int e)]⟩)) λz1=>hN _ _ (by omega) ⟨gg.trans gt,ps,a6,cr,by rw[tk,zO,ep];simp[show(r1.codes[i]).1=0 from V.int.inj (by simpa using z1:kV (kvI r1.codes[i]).1=V.int 0)]⟩⟩;rw[mS hp];exact b1.2.2.1 _ (zL a1)
 rintro ys H6 a8 ⟨g6,ps,hy,cr,ep⟩ D6 a2;rw[vE]at a8;rw[vE]at ep;have U7:=(U5.same g6).new a2 (.lst ys);refine⟨U7.w.ho,Z,U7.k _ _ gS hg,T.clP,T.nC,Z,d2,_,Z,.inr ⟨o2,U7.k _ _ (W.offF a3) a3⟩,λl8 ts H8 q8=>?_⟩;have p8:=Np q8;obtain⟨g8,fl,el,le,_⟩:=q8;have g8:=g8;have lp:=uC hy;rw[vE]at le;refine⟨D6,l8,ys,_,Z,Z,g8 _ _ qa,el,by rw[vE];exact zA (by omega:ys.length+ts.length<=64) (by decide),λl9 h9=>?_⟩;have U9:=(U7.same g8).new h9 (.lst (ys++ts.map V.ref));refine⟨o,l9,_,_,L,n,m,_,Z,U9.hv hv (by decide),qa,(U7.same g8).w.offN h9,Bh (Dl (Bh hy λ_ _ a=>a.mono ((Ac a2 (.lst ys)).trans g8).tp) p8) λ_ _ a=>a.mono (Ac h9 (.lst (ys++ts.map V.ref))).tp,by rw[vF];omega,(cr.up U9.lo).app (b2.2.2.1.up U9.lo),λd ob HA sA cs VA dA eA cA=>?_⟩;have UA:=U9.trans VA;have a5:=UA.k _ _ aS ha;refine⟨a5,T.clP,T.nC,(by show 5<1000;decide),q.cod ((UA.more λb h=>vI _ h).wk (by decide) hv.f.op (λg z=>.inl (z)) λO ⟨⟨⟨⟨⟨⟨_,f1⟩,f2⟩,f3⟩,f4⟩,f5⟩,f6⟩=>⟨⟨rfl,?_,?_,λc=>?_⟩,λi=>rfl⟩) a5 eA (b5.up UA.lo) cA⟩
 .exact f3.trans ((Mn O _).trans (by show an3 _ (an3 (O.v i2) (some true))=_;rw[Bt,show O.v i2=_ from f2]))
 .exact f5.trans ((Fa O _).trans (by show or3 (O.v i1) (or3 (O.v i4) (some false))=_;rw[Bc,show O.v i1=an3 _ (an3 _ (some true)) from f1,Bt,show O.v i4=_ from f4]))
 .exact(f6 c).trans (by rw[N9,Nl b2.2.2,Ol b1.2.2 (λi=>!decide (i=0)) id (by rw[ep];simp) O c];rfl)
def fIf(x sg rr:Int)(r1 r2:Wr)(cs:Cd)(O:Vn):Prop:=O.v r1.runs=or3 (an3 (O.v x) (O.v r1.rests)) (an3 (an3 (O.v x) (nt3 (O.v rr))) (O.v sg))/\O.v r2.runs=or3 (an3 (O.v x) (O.v r2.rests)) (an3 (an3 (O.v x) (nt3 (O.v rr))) (nt3 (O.v sg)))/\∀c,cvl cs O c=or3 (A7 (isC c) (cvl r1.codes O)) (A7 (isC c) (cvl r2.codes O))
def eIf(x bg:Int)(rB:Nat->Wr)(qB:Nat->Int)(i:Nat):Eff:=eC ((List.range i).map λj=>(rB j).runs) λO=>∀j,j<i->O.v (rB j).runs=or3 (an3 (O.v x) (O.v (rB j).rests)) (an3 (O.v bg) (O.v (qB j)))
inductive Zg(C CP:Addr)(vs:List V)(H:Hp)(Q:VK):Prop
 |mk(o a dx f g:Addr)(x rr sg:Int)(cv:V)(r1 r2:Wr)(L:Lc)(n m:Nat)(s:Ws)(_:vs=[.ref o,.int sg,.ref a,.ref f,.ref g])(_:Hv C o L n m H s 16)(_:H a=some (.ins CP dx (wdV x (.int rr) cv)))(_:WdAt CP H f r1)(_:WdAt CP H g r2)(_:R3 s x)(_:Rng s rr)(_:Rng s sg)(_:WI s r1)(_:WI s r2)(_:Pr2 s r1.runs r2.runs)(_:Fil C CP o a L n m Q H s x 16 [] (λr cs=>eC [r1.runs,r2.runs] (fQ r rr (fIf x sg rr r1 r2 cs))))
def Ade(C CP:Addr):Sp:=λvs H Q _=>Zg C CP vs H Q
def AiY(F:Ao K mg "wire_if" ["wiring","sign","whole","first","second"] Le)(T:Cn K mg C CP)(aG:A4 P w K mg base 1 C "fill" ["self","number","word","numbers"] (Jt C))(aH:A4 P w K mg base 2 C "opposite" ["self","number"] (Oe C))(aA:A4 P w K mg base 2 C "every_of" ["self","numbers"] (Hn C))(aQ:A4 P w K mg base 3 C "joined" ["self","pairs"] (Kt C)):Ae P w K mg base 4 "wire_if" ["wiring","sign","whole","first","second"] (Ade C CP):=by
 refine F.ok Ih (λvs H Q E h=>?_) (λfn cdv A outer s0 H vs Q E hr h=>?_)
 .obtain⟨o,a,dx,f,g,x,rr,sg,cv,r1,r2,L,n,m,s,rfl,_⟩:=h;rfl
 obtain⟨o,a,dx,f,g,x,rr,sg,cv,r1,r2,L,n,m,s,rfl,hv,ha,D1,D2,r3,a8,b5,b1,b2,pr,q⟩:=h;have W:=hv.w;have aS:=(W.objOff ha).2
 refine⟨_,(Ab (pst 5 Ih.nd (Al aA hr Ax (pv 0) (pa1 (An (pa2 (pfd (pv 2)) (Al aH hr Ax (pv 0) (pa1 (pfd (pv 2)))))))))
  (Ab (Fj PassesOwn.never rfl (Ls (Ap (pa2 (Ap (pa2 (pv 3) (pv 1))) (Ap (pa2 (pv 4) (Al aH hr Ax (pv 0) (pa1 (pv 1)))))))) (Fi rfl (Bf (Aq (i:=6) Ih.nd rfl (Or.inl rfl)) (Bf (Aq (i:=7) Ih.nd rfl (Or.inl rfl)) Eb)))
   (Ab (pst 8 Ih.nd (Al aA hr Ax (pv 0) (pa1 (An (pa2 (pfd (pv 2)) (pfd (pv 6)))))))
  (Ad (A6 (Al aG hr Ax (pv 0) (pa3 (pfd (pv 6)) Ah (An (pa2 (pv 8) (Al aA hr Ax (pv 0) (pa1 (An (pa2 (pv 5) (pv 7)))))))))))))
  (Ad (Cg (pv 2) (Al aQ hr Ax (pv 0) (pa1 (Au Ck (Jw rfl rfl T.n_list (pfd (pv 3))) (Jw rfl rfl T.n_list (pfd (pv 4)))))) rfl)))),?_⟩
 have ho:=W.ho;obtain⟨fx,d1,o1,hf,b6⟩:=id D1;obtain⟨gx,d2,o2,hg,a6⟩:=id D2;have fS:=(W.objOff hf).2;have gS:=(W.objOff hg).2;refine⟨ho,Z,ha,T.clP,T.nR,Z,ho,Z,ha,T.clP,T.nE,Z,?_⟩;refine⟨o,_,L,n,m,_,Z,hv.nw (S:=L.S) |>.hv hv (by decide),a8,λH1 s1 i1 U1 j1=>⟨zN2,λl1 h1=>?_⟩⟩;have U1:=U1.new h1 (.lst [V.int x,.int i1]);refine⟨o,l1,[x,i1],L,n,m,_,Z,U1.hv hv (by decide),qa,.two (r3.1.up U1.lo) j1,(by show 2<=1000;decide),λH2 s2 bg V2 jb=>?_⟩;refine⟨zN2,λt1 d3=>?_⟩;have U2:=(U1.trans V2).new d3 (.tup [V.ref f,.int sg]);refine⟨U2.w.ho,Z,o,_,L,n,m,_,Z,U2.hv hv (by decide),b5.up U2.lo,λH3 s3 i3 V3 j3=>⟨zN2,λt2 a7=>⟨zN2,λt3 b7=>?_⟩⟩⟩;have c5:=Ac a7 (.tup [V.ref g,.int i3]);have a3:=Ac b7 (.tup [V.ref t1,V.ref t2]);have U4:=((U2.trans V3).new a7 (.tup [V.ref g,.int i3])).new b7 (.tup [V.ref t1,V.ref t2]);have c3:=(c5.trans a3) _ _ (U2.w.tp V3.k _ _ qa);have c4:=a3 _ _ (qa);have b3:=qa (H:=upd H3 t2 (.tup [V.ref g,.int i3])) (a:=t3) (o:=.tup [V.ref t1,V.ref t2]);generalize upd (upd H3 t2 (.tup [V.ref g,.int i3])) t3 (.tup [V.ref t1,V.ref t2])=H4 at *;have a1:Hv C o L n m H4 s3 13:=U4.hv hv (by decide);have b8:=pr.kp U4 rfl;obtain⟨rB,e0,e1⟩:∃rB:Nat->Wr,rB 0=r1/\rB 1=r2:=⟨λj=>if j=0 then r1 else r2,rfl,rfl⟩;obtain⟨qB,y0,y1⟩:∃qB:Nat->Int,qB 0=sg/\qB 1=i3:=⟨λj=>if j=0 then sg else i3,rfl,rfl⟩;refine⟨t3,Z,⟨_,Aj b3⟩,Pl (xs:=[V.ref t1,V.ref t2]) (λi Y H'=>∃x6 x7 x8 s',Y=[some (.ref o),some (.int sg),some (.ref a),some (.ref f),some (.ref g),some (.int bg),x6,x7,x8]/\Nw C o L n m L.S H4 s3 H' s' (2*i) (eIf x bg rB qB i)) ⟨none,none,none,s3,Z,a1.nw.wk0 (zB _) a1.f.op rfl (λO _ j z=>absurd z (not_lt_zero j)) λ_ _=>rfl⟩ ?_ ?_ ?_⟩
 .rintro i Y H' _ ⟨_,_,_,_,_,U⟩
  exact Aj (a1.w.tp U.k _ _ b3)
 .rintro i v Y H' D' kD hi ⟨x6,x7,x8,s5,rfl,U5⟩
  have d4:i<2:=(uA.mp hi).1
  obtain⟨b,bx,db,t,rfl,e2,a5,a4,rg,hq,c8,c6⟩:∃(b bx db t:Addr),v=.ref t/\H4 t=some (.tup [V.ref b,.int (qB i)])/\H4 b=some (.ins CP bx (wdV (rB i).runs (.int (rB i).rests) (.ref db)))/\b∉L.S/\WI s3 (rB i)/\Rng s3 (qB i)/\(rB i).runs∈s3.op/\(rB i).runs∉(List.range i).map λj=>(rB j).runs:=by
   match i,hi with
   |0,hi=>cases hi;rw[e0,y0];exact⟨f,fx,d1,t1,rfl,c3,U4.k _ _ fS hf,fS,b1.up U4.lo,b5.up U4.lo,b8.1.1,λz=>nomatch z⟩
   |1,hi=>cases hi;rw[e1,y1];exact⟨g,gx,d2,t2,rfl,c4,U4.k _ _ gS hg,gS,b2.up U4.lo,j3,b8.2.1.1,λz=>by have:=pr.2.2;simp[e0]at z;omega⟩
   | (j+2),hi=>cases hi
  generalize er:rB i=rb at *;generalize eq:qB i=qb at *;have a2:=U5.w.ho;refine⟨t,_,Z,Aj (a1.w.tp U5.k _ _ e2),Z,_,_,Z,_,_,Z,Z,a2,Z,U5.k _ _ aS (U4.k _ _ aS ha),T.clP,T.nR,Z,U5.k _ _ a4 a5,T.clP,T.nE,Z,zN2,λl6 h6=>?_⟩;have U6:=U5.new h6 (.lst [V.int x,.int rb.rests]);refine⟨o,l6,[x,rb.rests],L,n,m,_,Z,U6.hv a1 (by omega),qa,.two (r3.1.up (zA U4.lo U5.lo)) (rg.up U5.lo).2.1,(by show 2<=1000;decide),λH6 s6 i6 V6 j6=>?_⟩;have U6:=U6.trans V6;have b4:=V6.w.ho;refine⟨b4,Z,U6.k _ _ a4 a5,T.clP,T.nR,Z,b4,Z,zN2,λl7 h7=>?_⟩;have U7:=U6.new h7 (.lst [V.int bg,.int qb]);refine⟨o,l7,[bg,qb],L,n,m,_,Z,U7.hv a1 (by omega),qa,.two (jb.up (zA V3.lo U7.lo)) (hq.up U7.lo),(by show 2<=1000;decide),λH8 s8 i8 V8 j8=>⟨zN2,λl8 h8=>?_⟩⟩;have U8:=(U7.trans V8).new h8 (.lst [V.int i6,.int i8]);refine⟨o,l8,rb.runs,"some",[i6,i8],L,n,m,_,Z,U8.hv a1 (by omega),qa,U8.op _ c8 (λz=>c6 (AfD z)),.inr rfl,.two (j6.up V8.lo) j8,(by show 2<=1000;decide),λH9 s9 V9 _=>(kD _ _ ⟨_,_,_,s9,Z,(U8.trans V9).wk (by omega) a1.f.op (λg z=>.inl (rng_up (congrArg Wr.runs er) (Af4 z))) λO ⟨⟨⟨fi,f6⟩,f8⟩,f9⟩=>⟨λj hj=>?_,λ_=>rfl⟩⟩).1⟩;rcases lt_or_ge j i with z|z
  .exact fi j z
  .have:j=i:=by omega
   subst this;rw[er,eq];exact f9.trans ((Fa O _).trans (by show or3 (O.v i6) (or3 (O.v i8) (some false))=_;rw[Bc,show O.v i6=an3 _ (an3 _ (some true)) from f6,show O.v i8=an3 _ (an3 _ (some true)) from f8,Bt,Bt]))
 .rintro Y H5 ⟨x6,x7,x8,s5,rfl,U5⟩
  have U5:=U4.trans (show Nw C o L n m L.S H4 s3 H5 s5 4 (eIf x bg rB qB 2) from U5);have c1:=b1.2.2.len;have c2:=b2.2.2.len;refine⟨U5.w.ho,Z,U5.k _ _ fS hf,T.clP,T.nC,Z,d1,_,Z,.inr ⟨o1,U5.k _ _ (W.offF b6) b6⟩,λl6 us H6 q6=>?_⟩;have p6:=Np q6;obtain⟨g6,d5,c7,b9,_⟩:=q6;have g6:=g6;have U6:=U5.same g6;refine⟨U6.k _ _ gS hg,T.clP,T.nC,Z,d2,_,Z,.inr ⟨o2,U6.k _ _ (W.offF a6) a6⟩,λl8 ts H8 q8=>?_⟩;have p8:=Np q8;obtain⟨g8,fl,el,le,_⟩:=q8;have g8:Same _ H8:=g8;rw[vE]at le b9;refine⟨l6,l8,_,_,Z,Z,g8 _ _ c7,el,by rw[vE,vE];exact zA (by omega:us.length+ts.length<=64) (by decide),λl9 h9=>?_⟩;have U9:=(U6.same g8).new h9 (.lst (us.map V.ref++ts.map V.ref));refine⟨o,l9,_,_,L,n,m,_,Z,U9.hv hv (by decide),qa,(U6.same g8).w.offN h9,Bh (Dl (Bh p6 λ_ _ a=>a.mono g8.tp) p8) λ_ _ a=>a.mono (Ac h9 (.lst (us.map V.ref++ts.map V.ref))).tp,by rw[vF];omega,(b1.2.2.1.up U9.lo).app (b2.2.2.1.up U9.lo),λd ob HA sA cs VA dA eA cA=>?_⟩;have UA:=U9.trans VA;have a9:=UA.k _ _ aS ha;refine⟨a9,T.clP,T.nC,(by show 5<1000;decide),q.cod ((UA.more λb h=>vI _ h).wk (by decide) hv.f.op (λg z=>.inl (by show g∈[r1.runs,r2.runs];rw[<-e0,<-e1];exact z)) λO ⟨⟨⟨⟨f1,f2⟩,f3⟩,f4⟩,f6⟩=>⟨⟨rfl,?_,?_,λc=>(f6 c).trans (by rw[N9,Nl b1.2.2,Nl b2.2.2])⟩,λi=>rfl⟩) a9 eA (a8.up UA.lo) cA⟩
  .have:=f4 0 (by decide)
   rwa[e0,y0,show O.v bg=an3 _ (an3 _ (some true)) from f2,Bt,show O.v i1=_ from f1]at this
  .have:=f4 1 (by decide)
   rwa[e1,y1,show O.v bg=an3 _ (an3 _ (some true)) from f2,Bt,show O.v i1=_ from f1,show O.v i3=_ from f3]at this
def Aaq{g:TG}{tc:TT}{F:Addr->List V->Hp->Prop}(Pv:Nat->List V->Hp->Prop)(h0:Pv 0 [] H)(hz:kvs.length<=sizeLine)(hl:∀i ys H,Pv i ys H->H d=some (.frz o (.dK kvs)))
  (hs:∀i p ys H(N:List V->Hp->Prop),kvs[i]?=some p->Pv i ys H->(∀a1 H',a1.length<=i+1->Pv (i+1) a1 H'->N a1 H')->ys.length<=i->g (kV p.1) a3 H λa2 H2=>tc a2 H2 λb H3=>if b then te a2 H3 λy H4=>N (ys++[y]) H4 else N ys H3)
  (hd:∀ys H,ys.length<=kvs.length->Pv kvs.length ys H->∀D,H D=none->F D ys H):Mv (Itk d o kvs) g tc te a3 F H:=
 Ix _ h0 hz (λi ys H hi p=>⟨hl i _ H p,hi⟩) (λys H p=>⟨hl _ _ H p,zB _⟩)
  (λi x ys H _ N _ p ⟨e,z,y,e1⟩ a4 k=>by subst e e1;exact hs i z _ _ N y p k a4) hd
def Bd.offN4(w:Bd C H o L n s)(e:H b=none):b≠o/\b≠L.sl/\b≠L.nl/\b∉L.S:=by
 have off:=w.offN e;obtain⟨gvs,ho,hg,hp,hs,hn,hr,hl,nd⟩:=w;exact⟨λz=>(by simp_all),λz=>(by simp_all),λz=>(by simp_all),off⟩
def Zt(l:Cd):((l.map kvI).map λp=>kV p.1)=(l.map (·.1)).map V.int:=by rw[map_map,map_map];rfl
def Ys{l:Cd}(h:H d=some (.frz ob (.dK (l.map kvI))))(c:Int):Nk H d (.int c) ((l.lookup c).map V.int):=.inl ⟨_,Sum.inl c,.inr ⟨ob,h⟩,Z,(Pe _ _).symm⟩
def Nw.own{E:Eff}(U:Nw C o L n m S H s H' s' d E)(h0:H l=none)(hl:H' l=some (.lst xs))(off:l≠o/\l≠L.sl/\l≠L.nl/\l∉L.S)(u:HO):Nw C o L n m S H s (upd H' l u) s' d E:={U with k:=λb v nb e=>(by rw[upd_ne (ne_of_none e h0)];exact U.k b v nb e),w:=U.w.keep [l] (kpsUp vH) (tpLs hl) λb z=>by rw[mS z];exact off}
def Nw.ownD{E:Eff}(U:Nw C o L n m S H s H' s' d E)(h0:H l=none)(hl:H' l=some (.dK kvs))(off:l∉L.S)(u:HO):Nw C o L n m S H s (upd H' l u) s' d E:={U with k:=λb v nb e=>(by rw[upd_ne (ne_of_none e h0)];exact U.k b v nb e),w:=U.w.atD hl off u}
def Vo{k:Int}(h:CR s l)(e:l.lookup k=some v):Rng s v:=by
 obtain⟨p,hp,rfl⟩:=N6 e;exact(h p hp).2
def RL.snoc{a:Int}(h:RL s l)(ha:Rng s a):RL s (l++[a]):=λx hx=>(vY.mp hx).elim (h x) λz=>by rw[mS z];exact ha
def Mu(cB:Nat->Cd)(c:Int)(j:Nat):List Int:=(List.range j).filterMap λi=>(cB i).lookup c
def Abj{z:Nat->Cd}(e0:z 0=c0)(e1:z 1=c1)(O:Vn)(c:Int):orL ((Mu z c 2).map O.v)=or3 (cvl c0 O c) (cvl c1 O c):=by
 have e:Mu z c 2=(c0.lookup c).toList++(c1.lookup c).toList:=by
  show List.filterMap _ [0,1]=_
  rw[filterMap_cons,filterMap_cons,e0,e1];cases c0.lookup c<;>cases c1.lookup c<;>rfl
 rw[e];unfold cvl;cases c0.lookup c<;>cases c1.lookup c<;>first|rfl|exact Bc _|exact congrArg _ (Bc _)
abbrev leQ(c i:Int):Bool:=decide (i<=c)
def AhP(h0:c0.lookup c=none)(h1:c1.lookup c=none):gtC (cvl c0 O) (cvl c1 O) c=false:=by
 unfold gtC cvl;rw[h0,h1];rfl
inductive Abw(C:Addr)(vs:List V)(H:Hp)(Q:VK):Prop
 |mk(o sl d0 d1:Addr)(ob0 ob1:Obj)(c0 c1:Cd)(L:Lc)(n m:Nat)(s:Ws)(_:vs=[.ref o,.ref sl])(_:Hv C o L n m H s 24)(_:H sl=some (.lst [.ref d0,.ref d1]))(_:sl∉L.S)(_:H d0=some (.frz ob0 (.dK (c0.map kvI))))(_:H d1=some (.frz ob1 (.dK (c1.map kvI))))(_:CO s c0)(_:CO s c1)(_:∀d ob H' s' cs,Nw C o L n m L.S H s H' s' 24 (eF λO=>∀c,cvl cs O c=gtC (cvl c0 O) (cvl c1 O) c)->H' d=some (.frz ob (.dK (cs.map kvI)))->CO s' cs->Q (.ref d) H')
def Afp(C:Addr):Sp:=λvs H Q _=>Abw C vs H Q
def Ag3(F:Ao K mg "greater_codes" ["wiring","sides"] Ds)(T:Cn K mg C CP)(aA:A4 P w K mg base 2 C "every_of" ["self","numbers"] (Hn C))(aE:A4 P w K mg base 2 C "some_of" ["self","numbers"] (Ie C)):Ae P w K mg base 3 "greater_codes" ["wiring","sides"] (Afp C):=by
 refine F.ok Di (λvs H Q E h=>?_) (λfn cdv A outer s0 H vs Q E hr h=>?_)
 .obtain⟨o,sl,d0,d1,ob0,ob1,c0,c1,L,n,m,s,rfl,_⟩:=h;rfl
 obtain⟨o,sl,d0,d1,ob0,ob1,c0,c1,L,n,m,s,rfl,hv,a2,a6,h0,h1,k0,k1,q⟩:=h;have hu:=zE (add_le_add_left (show 1<=64 by decide) _) hr.units;have W:=hv.w;have z0:=k0.len;have z1:=k1.len
 refine⟨_,(Ab (pst 2 Di.nd Mh)
  (Ab (Fj PassesOwn.never rfl (Cf (Gq rfl rfl T.n_sorted rfl T.n_set (Au Ck (Dp (Lu rfl) rfl T.n_list (by trivial) (pa1 (pil (pv 1)))) (Dp (Lu rfl) rfl T.n_list (by trivial) (pa1 (pil (pv 1))))))) (Aq (i:=3) Di.nd rfl (Or.inr rfl))
   (Ab (Dz (j:=4) ["side"] [("code",3)] Di.nd rfl (Or.inl rfl) rfl (Bx (Af Ds) ["wiring","sides","codes","code","here","needed","side"] (by trivial)) (Cf (pv 1)) (λs2 H2 fp cl C=>Aq (i:=0) (show Nodup [("side": Str),("code": Str)] from by trivial) rfl (Or.inl rfl)) (A9 (by decide)) (λs2 H2 fp cl C=>Dj (AbM (AbU hu (pv 1) (pv 0)) (by rfl))) (λs2 H2 fp cl C=>(Oi hu (pv 0) (pv 1) (λ_ _=>rfl))))
  (Ab (pst 5 Di.nd (An (pa1 (Al aE hr Ax (pv 0) (pa1 (pv 4))))))
  (Ab (Fj PassesOwn.never rfl (Cf (pv 1)) (Aq (i:=6) Di.nd rfl (Or.inr rfl))
   (Ad (A6 (F2 uG uK uJ Da (pv 5) (pa1 (Al aE hr Ax (pv 0) (pa1 (Cp ["least"] [("side",6),("code",3)] rfl (Bx (Af Ds) ["wiring","sides","codes","code","here","needed","side"] (by trivial)) (Aec (pv 6)) (λs2 H2 fp cl C=>Aq (i:=0) (show Nodup [("least": Str),("side": Str),("code": Str)] from by trivial) rfl (Or.inl rfl)) (A9 (by decide)) (λs2 H2 fp cl C=>Dj (Bg AhG (pv 0) (pv 2) (B4 _))) (λs2 H2 fp cl C=>(Oi hu (pv 1) (pv 0) (λ_ _=>rfl)))))))))))
  (Ad (Sa hu (pv 2) (pv 3) (Al aA hr Ax (pv 0) (pa1 (pv 5))) rfl))))))
  (Ad (Ag (Ql (pv 2)))))),?_⟩
 refine λd hd=>?_
 have dS:=W.offN hd;have U1:=(hv.nw (S:=L.S)).new hd (.dK []);have g1:=Ac hd (.dK []);have d5:=qa (H:=H) (a:=d) (o:=.dK []);refine⟨Ai (g1 _ _ a2),Aa rfl,d0,_,Z,.inr ⟨ob0,g1 _ _ h0⟩,λr1 e8=>?_⟩;rw[Zt];have g2:=Ac e8 (.lst ((c0.map (·.1)).map V.int));have d3:=g1.trans g2;refine⟨Ai (d3 _ _ a2),Aa rfl,d1,_,Z,.inr ⟨ob1,d3 _ _ h1⟩,λr2 f0=>?_⟩;rw[Zt];have g3:=Ac f0 (.lst ((c1.map (·.1)).map V.int));refine⟨r1,r2,_,_,Z,Z,g3 _ _ qa,qa,?_,λr3 e5=>?_⟩
 .rw[vE,vE,vE,vE]
  exact zA (by omega:_<=64) (by decide)
 rw[<-vQ];have g4:=Ac e5 (.lst ((c0.map (·.1)++c1.map (·.1)).map V.int));refine⟨r3,c0.map (·.1)++c1.map (·.1),Z,Ai qa,by rw[vF,vE,vE];omega,λl2 b3=>?_⟩;have g5:=Ac b3 (.lst ((nub (c0.map (·.1)++c1.map (·.1))).map V.int));have U3:=U1.same (((g2.trans g3).trans g4).trans g5);have b4:=qa (H:=upd (upd (upd (upd H d (.dK [])) r1 (.lst ((c0.map (·.1)).map V.int))) r2 (.lst ((c1.map (·.1)).map V.int))) r3 (.lst ((c0.map (·.1)++c1.map (·.1)).map V.int))) (a:=l2) (o:=.lst ((nub (c0.map (·.1)++c1.map (·.1))).map V.int));have c8:=(((g2.trans g3).trans g4).trans g5) _ _ d5;have b6:=(U1.same ((g2.trans g3).trans g4)).w.offN b3;have e4:l2≠d:=(ne_of_none (((g2.trans g3).trans g4) _ _ d5) b3).symm;generalize upd (upd (upd (upd (upd H d (.dK [])) r1 (.lst ((c0.map (·.1)).map V.int))) r2 (.lst ((c1.map (·.1)).map V.int))) r3 (.lst ((c0.map (·.1)++c1.map (·.1)).map V.int))) l2 (.lst ((nub (c0.map (·.1)++c1.map (·.1))).map V.int))=H3 at U3 b4 c8;have rise:(nub (c0.map (·.1)++c1.map (·.1))).Pairwise (· < ·):=Hi _
 have hk:∀c∈nub (c0.map (·.1)++c1.map (·.1)),0<=c/\c<=5:=λc hc=>by
  rcases vY.mp (A8.mp hc) with z|z
  .obtain⟨p,hp,rfl⟩:=zU.mp z
   exact(k0.1 p hp).1
  .obtain⟨p,hp,rfl⟩:=zU.mp z
   exact(k1.1 p hp).1
 have c6:∀c,c∉nub (c0.map (·.1)++c1.map (·.1))->c0.lookup c=none/\c1.lookup c=none:=λc z=>by
  refine⟨?_,?_⟩
  .cases e:c0.lookup c with
   |none=>rfl
   |some g=>exact absurd (A8.mpr (zY _ (mem_map_of_mem (Hm e)))) z
  .cases e:c1.lookup c with
   |none=>rfl
   |some g=>exact absurd (A8.mpr (vS _ (mem_map_of_mem (Hm e)))) z
 generalize nub (c0.map (·.1)++c1.map (·.1))=cs at *
 have l6:=by
  have:=J4 cs 0 6 (by decide) rise λx hx=>by have:=hk x hx;omega
  omega
 obtain⟨cB,e0,e1⟩:∃cB:Nat->Cd,cB 0=c0/\cB 1=c1:=⟨λj=>if j=0 then c0 else c1,rfl,rfl⟩
 have c9:∀(j:Nat)(v:V),[V.ref d0,V.ref d1][j]?=v->∃(e:Addr)(a4:Obj),v=.ref e/\H e=some (.frz a4 (.dK ((cB j).map kvI)))/\CO s (cB j):=by
  intro j v hv
  match j,hv with
  |0,hv=>cases hv;rw[e0];exact⟨d0,ob0,rfl,h0,k0⟩
  |1,hv=>cases hv;rw[e1];exact⟨d1,ob1,rfl,h1,k1⟩
  | (m+2),hv=>cases hv
 refine⟨l2,Z,⟨_,Ai b4⟩,F9 (λi Y H'=>∃x3 x4 x5 x6 s' co,Y=[some (.ref o),some (.ref sl),some (.ref d),x3,x4,x5,x6]/\Nw C o L n m L.S H s H' s' (4*i) (eF λO=>∀p∈co,O.v p.2=gtC (cvl c0 O) (cvl c1 O) p.1)/\H' l2=some (.lst (cs.map V.int))/\H' d=some (.dK (co.map kvI))/\CR s' co/\co.map (·.1)=cs.take i) ⟨none,none,none,none,s,[],Z,U3.wk0 (zZ _) hv.f.op rfl (λO _ _ z=>nomatch z) (λ_ _=>rfl),b4,c8,(λ_ h=>nomatch h),Z⟩ (λi Y H' _ ⟨_,_,_,_,_,_,_,_,h,_⟩=>Ai h) ?_ ?_⟩
 .rintro i x Y H4 hi ⟨x3,x4,x5,x6,s4,co,rfl,U4,c5,a8,c4,ks⟩
  have a5:=by have:=(uA.mp hi).1;rwa[vE]at this
  rw[vJ,vD a5]at hi;cases hi
  have nk:=Vf rise a5 ks;have e6:=hk _ (zL a5)
  have lc:=by
   have:=congrArg length ks;rw[vE,zH]at this;omega
  have e7:cs.take (i+1)=cs.take i++[cs[i]]:=by rw[vZ,vD a5];rfl
  generalize cs[i]=c at *;refine⟨sl,Z,⟨_,Ai (U4.k _ _ a6 a2)⟩,Db (K:=K) (xs:=[V.ref d0,V.ref d1]) (λj ys H'=>H'=H4/\∃ns:List Int,ys=ns.map V.int/\RL s ns/\ns=Mu cB c j) ⟨Z,[],Z,.nil,Z⟩ zN2 (λi ys H' hh=>by rw[hh.1];exact Ai (U4.k _ _ a6 a2)) ?_ ?_⟩
  .rintro j x ys H' N hj ⟨rfl,ns,rfl,rl,en⟩ hN a1
   obtain⟨e,a4,rfl,he,ke⟩:=c9 j x hj;have eh:Mu cB c (j+1)=Mu cB c j++((cB j).lookup c).toList:=by unfold Mu;rw[range_succ,filterMap_append];show _++List.filterMap _ [j]=_;rw[filterMap_cons];cases (cB j).lookup c<;>rfl
   generalize cB j=ce at *;have dg:=Ys (U4.k _ _ (W.offF he) he) c;refine⟨e,_,Z,dg,?_⟩;cases hl:ce.lookup c with
   |none=>exact AhM rfl (hN _ _ (by omega) ⟨rfl,ns,rfl,rl,by rw[eh,hl,en];exact(zK _).symm⟩)
   |some v=>
    rw[hl]at dg;exact AgW rfl ⟨e,.int v,Z,dg,hN _ _ (by rw[vF,vG];omega) ⟨Z,ns++[v],by rw[vQ];rfl,rl.snoc (Vo ke.1 hl),by rw[eh,hl,en];rfl⟩⟩
  rintro ys H' a1 ⟨rfl,ns,rfl,rl,en⟩ D1 d6;have en:=en;rw[vE]at a1;have a1:ns.length<=2:=a1;have g5:=Ac d6 (.lst (ns.map V.int));have U5:=U4.new d6 (.lst (ns.map V.int));refine⟨U5.w.ho,Z,o,D1,ns,L,n,m,_,Z,U5.hv hv (by omega),qa,rl.up U5.lo,by omega,λH6 s6 y6 V6 f2=>⟨zN1,λl7 h7=>?_⟩⟩;have U6:=U5.trans V6;have d9:=V6.k _ _ dS (g5 _ _ a8);have d4:=V6.k _ _ b6 (g5 _ _ c5);have b5:=U6.w.offN4 h7;have g7:=Ac h7 (.lst [V.int y6]);have d7:d≠l7:=ne_of_none d9 h7;have f3:l2≠l7:=ne_of_none d4 h7;have U7:=U6.new h7 (.lst [V.int y6]);refine⟨sl,Z,⟨_,Ai (U7.k _ _ a6 a2)⟩,F9 (K:=K) (λj Y H'=>∃x6 s' ns,Y=[some (.ref o),some (.ref sl),some (.ref d),some (.int c),some (.ref D1),some (.ref l7),x6]/\Nw C o L n m L.S H s H' s' (4*i+1+j) (eF λO=>(∀p∈co,O.v p.2=gtC (cvl c0 O) (cvl c1 O) p.1)/\ns.map O.v=or3 (cvl c0 O c) (cvl c1 O c)::(List.range j).map λt=>A7 (leQ c) (cvl (cB t) O))/\H' l2=some (.lst (cs.map V.int))/\H' d=some (.dK (co.map kvI))/\H' l7=some (.lst (ns.map V.int))/\RL s' ns/\ns.length=j+1/\CR s' co) ⟨_,s6,[y6],Z,U7.wk0 (zB _) hv.f.op rfl (λO ⟨f,f6⟩=>⟨f,congrArg (· :: []) (f6.trans (by rw[en];exact Abj e0 e1 O c))⟩) (λ_ _=>rfl),g7 _ _ d4,g7 _ _ d9,qa,.one f2,Z,c4.up V6.lo⟩ (λi Y H' _ ⟨_,_,_,_,U,_⟩=>Ai (U.k _ _ a6 a2)) ?_ ?_⟩
  .rintro j v Y H8 hj ⟨e3,s8,ns,rfl,U8,b1,c3,a7,b7,a3,b8⟩
   have f5:j<2:=(uA.mp hj).1;obtain⟨e,a4,rfl,he,ke⟩:=c9 j v hj;have er:∀O:Vn,((List.range (j+1)).map λt=>A7 (leQ c) (cvl (cB t) O))=((List.range j).map λt=>A7 (leQ c) (cvl (cB t) O))++[A7 (leQ c) (cvl (cB j) O)]:=λO=>by rw[range_succ,vQ];rfl
   generalize cB j=ce at *;have b2:=U8.k _ _ (W.offF he) he;have f4:=ke.len;have b9:=U8.w.ho;refine⟨.inl ⟨Z,_,Ai a7⟩,b9,Z,e,a4,_,Z,b2,Aaq (λj ys H'=>H'=H8/\∃ns:List Int,ys=ns.map V.int/\RL s ns/\ns=((ce.take j).filter λp=>leQ c p.1).map (·.2)) ⟨Z,[],Z,.nil,Z⟩ (by rw[vE];exact zA f4 (by decide)) (λi ys H' hh=>by rw[hh.1];exact b2) ?_ ?_⟩
   .rintro t p ys H' N ht ⟨rfl,ms,rfl,rl,em⟩ hN a1
    have a9:=by have:=(uA.mp ht).1;rwa[vE]at this
    rw[vJ,vD a9]at ht;cases ht
    have hv:=Yq ke (zL a9);have tk:ce.take (t+1)=ce.take t++[ce[t]]:=by rw[vZ,vD a9];rfl
    have dg:=Ys b2 (ce[t]).1;rw[hv]at dg;exact⟨_,_,Z,Z,As (λz1=>⟨e,.int (ce[t]).2,Z,dg,hN _ _ (by rw[vF,vG];omega) ⟨Z,ms++[(ce[t]).2],by rw[vQ];rfl,rl.snoc (Vo ke.1 hv),by rw[tk,zO,vQ,em,filter_cons_of_pos (by exact z1)];rfl⟩⟩) λz1=>hN _ _ (by omega) ⟨Z,ms,Z,rl,by rw[tk,zO,vQ,em,filter_cons_of_neg (by exact z1)];exact(zK _).symm⟩⟩
   rintro ys H' a1 ⟨rfl,ms,rfl,rl,em⟩ D2 d8;rw[vE,vE]at a1;rw[vE,take_length]at em;have g9:=Ac d8 (.lst (ms.map V.int));have U9:=U8.new d8 (.lst (ms.map V.int));refine⟨o,D2,ms,L,n,m,_,Z,U9.hv hv (by omega),qa,rl.up U9.lo,by omega,λHA sA yA VA jA=>?_⟩;have d2:=VA.k _ _ b5.2.2.2 (g9 _ _ a7);exact⟨l7,_,_,Z,Z,d2,by rw[vE,a3];exact zE (by omega:_<=64) (by decide),_,sA,ns++[yA],Z,((U9.trans VA).wk0 (zB _) hv.f.op rfl (λO ⟨⟨f,g⟩,fA⟩=>⟨f,by rw[vQ,g,er,show [yA].map O.v=[orL (ms.map O.v)] from congrArg (· :: []) fA,em,Ze ke];rfl⟩) (λ_ _=>rfl)).own (U6.k.nil h7 b5.2.2.2) d2 b5 _,by rw[upd_ne f3];exact VA.k _ _ b6 (g9 _ _ b1),by rw[upd_ne d7];exact VA.k _ _ dS (g9 _ _ c3),by rw[qa,vQ];rfl,(b7.up VA.lo).snoc jA,by rw[vF,a3];rfl,b8.up VA.lo⟩
  .rintro Y H8 ⟨e3,s8,ns,rfl,U8,b1,c3,a7,b7,a3,b8⟩
   have U8:Nw C o L n m L.S H s H8 s8 (4*i+3) _:=U8;have a3:ns.length=3:=a3;refine⟨U8.w.ho,Z,o,l7,ns,L,n,m,_,Z,U8.hv hv (by omega),a7,b7,by omega,λH9 s9 y9 V9 j9=>?_⟩;have U9:=U8.trans V9;have c7:=V9.k _ _ dS c3;refine⟨d,_,Z,.inl ⟨_,Sum.inl c,c7,Z,?_,Z⟩,?_⟩
   .rw[vE]
    exact zE (by omega:_<=64) (by decide)
   refine⟨_,_,_,_,s9,co++[(c,y9)],Z,(U9.wk0 (F:=λO=>∀p∈co++[(c,y9)],O.v p.2=gtC (cvl c0 O) (cvl c1 O) p.1) (zB _) hv.f.op rfl (λO ⟨⟨f,g⟩,f9⟩ p hp=>?_) (λ_ _=>rfl)).ownD hd c7 dS _,by rw[upd_ne e4];exact V9.k _ _ b6 b1,by rw[qa,<-putI_map,putI_new nk],(b8.up V9.lo).app λp hp=>?_,by rw[vQ,ks,e7];rfl⟩
   .rcases vY.mp hp with z|z
    .exact f p z
    .rw[mS z]
     refine f9.trans ?_;show anL (ns.map O.v)=_;rw[g];show an3 _ (an3 (A7 (leQ c) (cvl (cB 0) O)) (an3 (A7 (leQ c) (cvl (cB 1) O)) (some true)))=_;rw[Bt,e0,e1];rfl
   .rw[mS hp]
    exact⟨e6,j9⟩
 .rintro Y H4 ⟨x3,x4,x5,x6,s4,co,rfl,U4,c5,a8,c4,ks⟩
  rw[vE,vT (zB _)]at ks;rw[vE]at U4;exact⟨d,_,Z,a8,λob=>q d ob _ s4 co ((U4.wk0 (by omega) hv.f.op rfl (λO f c=>Aba f λz=>AhP (c6 c (ks▸z)).1 (c6 c (ks▸z)).2) (λ_ _=>rfl)).ownD hd a8 dS _) qa ⟨c4,by rw[ks];exact rise⟩⟩
def AiJ(H:Hp)(c:Cd)(v:V):Prop:=∃d ob,v=.ref d/\H d=some (.frz ob (.dK (c.map kvI)))
def Nw.drop{E:Eff}(U:Nw C o L n m (l::S) H s H' s' d E)(h:H l=none):Nw C o L n m S H s H' s' d E:={U with k:=U.k.drop h}
def idl(r e:Wr)(O:Vn):Option Bool:=an3 (O.v e.rests) (nt3 (O.v r.rests))
def sdC(x:Int)(r e:Wr)(O:Vn)(c:Int):Option Bool:=or3 (A7 (isC c) (cvl r.codes O)) (one 0 (an3 (O.v x) (idl r e O)) c)
def Wi(x:Int)(r1 r2:Wr)(cs:Cd)(O:Vn):Prop:=O.v r1.runs=an3 (O.v x) (nt3 (idl r1 r2 O))/\O.v r2.runs=an3 (O.v x) (nt3 (idl r2 r1 O))/\∀c,cvl cs O c=gtC (sdC x r1 r2 O) (sdC x r2 r1 O) c
def eBes(x:Int)(rB rE:Nat->Wr)(cds:List Cd)(i:Nat):Eff:=eC ((List.range i).map λj=>(rB j).runs) λO=>∀j,j<i->O.v (rB j).runs=an3 (O.v x) (nt3 (idl (rB j) (rE j) O))/\∀c,cvl (cds.getD j []) O c=sdC x (rB j) (rE j) O c
inductive Vc(C CP:Addr)(vs:List V)(H:Hp)(Q:VK):Prop
 |mk(o a dx f g:Addr)(x rr:Int)(cv:V)(r1 r2:Wr)(L:Lc)(n m:Nat)(s:Ws)(_:vs=[.ref o,.ref a,.ref f,.ref g])(_:Hv C o L n m H s 44)(_:H a=some (.ins CP dx (wdV x (.int rr) cv)))(_:WdAt CP H f r1)(_:WdAt CP H g r2)(_:R3 s x)(_:Rng s rr)(_:WI s r1)(_:WI s r2)(_:Pr2 s r1.runs r2.runs)(_:Fil C CP o a L n m Q H s x 44 [] (λr cs=>eC [r1.runs,r2.runs] (fQ r rr (Wi x r1 r2 cs))))
def AbC(C CP:Addr):Sp:=λvs H Q _=>Vc C CP vs H Q
def AiU(F:Ao K mg "wire_beside" ["wiring","whole","first","second"] Hg)(T:Cn K mg C CP)(aG:A4 P w K mg base 1 C "fill" ["self","number","word","numbers"] (Jt C))(aH:A4 P w K mg base 2 C "opposite" ["self","number"] (Oe C))(aA:A4 P w K mg base 2 C "every_of" ["self","numbers"] (Hn C))(aQ:A4 P w K mg base 3 C "joined" ["self","pairs"] (Kt C))(cT:Ae P w K mg base 3 "greater_codes" ["wiring","sides"] (Afp C)):Ae P w K mg base 4 "wire_beside" ["wiring","whole","first","second"] (AbC C CP):=by
 refine F.ok Ec (λvs H Q E h=>?_) (λfn _ A _ _ H _ Q E hr h=>?_)
 .obtain⟨o,a,dx,f,g,x,rr,cv,r1,r2,L,n,m,s,rfl⟩:=h;rfl
 obtain⟨o,a,dx,f,g,x,rr,cv,r1,r2,L,n,m,s,rfl,hv,ha,D1,D2,r3,e8,b1,b2,pr,q⟩:=h;obtain⟨_,hE,rE⟩:=T.gE;have W:=hv.w;have aS:=(W.objOff ha).2
 refine⟨_,(Ab (pst 4 Ec.nd (An Bm))
  (Ab (Fj PassesOwn.never rfl (Ls (Ap (pa2 (Ap (pa2 (pv 2) (pv 3))) (Ap (pa2 (pv 3) (pv 2)))))) (Fi rfl (Bf (Aq (i:=5) Ec.nd rfl (Or.inl rfl)) (Bf (Aq (i:=6) Ec.nd rfl (Or.inl rfl)) Eb)))
   (Ab (pst 7 Ec.nd (Al aA hr Ax (pv 0) (pa1 (An (pa2 (pfd (pv 6)) (Al aH hr Ax (pv 0) (pa1 (pfd (pv 5)))))))))
  (Ab (A6 (Al aG hr Ax (pv 0) (pa3 (pfd (pv 5)) Ah (An (pa2 (pfd (pv 1)) (Al aH hr Ax (pv 0) (pa1 (pv 7))))))))
  (Ab (pst 8 Ec.nd (Ap (pa2 (Bj rfl hE rE) (Al aA hr Ax (pv 0) (pa1 (An (pa2 (pfd (pv 1)) (pv 7))))))))
  (Ad (A6 (F2 uG uK uJ Da (pv 4) (pa1 (Al aQ hr Ax (pv 0) (pa1 (Au Ck (Jw rfl rfl T.n_list (pfd (pv 5))) (An (pa1 (pv 8))))))))))))))
  (Ad (Cg (pv 1) (pcl cT (pa2 (pv 0) (pv 4))) rfl)))),?_⟩
 obtain⟨fx,d1,o1,hf,f5⟩:=id D1;obtain⟨gx,d2,o2,hg,d9⟩:=id D2;refine⟨zN0,λls b3=>?_⟩;have c9:=W.offN4 b3;have b4:=c9.2.2.2;refine⟨zN2,λt1 g1=>⟨zN2,λt2 e6=>⟨zN2,λt3 g0=>?_⟩⟩⟩;have b7:=Ac g1 (.tup [V.ref f,.ref g]);have b5:=Ac e6 (.tup [V.ref g,.ref f]);have a4:=Ac g0 (.tup [V.ref t1,V.ref t2]);have U4:=(hv.nw (S:=ls::L.S)).same ((((Ac b3 (.lst [])).trans b7).trans b5).trans a4);have d7:=(b5.trans a4) _ _ (qa);have d8:=a4 _ _ (qa);have c7:=qa (H:=upd (upd (upd H ls (.lst [])) t1 (.tup [V.ref f,.ref g])) t2 (.tup [V.ref g,.ref f])) (a:=t3) (o:=.tup [V.ref t1,V.ref t2]);have c4:=((b7.trans b5).trans a4) _ _ (qa);generalize upd (upd (upd (upd H ls (.lst [])) t1 (.tup [V.ref f,.ref g])) t2 (.tup [V.ref g,.ref f])) t3 (.tup [V.ref t1,V.ref t2])=H4 at *
 have b8:∀{H':Hp},KpS (ls::L.S) H4 H'->Tp H4 H':=λk b xs e=>k b _ (λz=>by
  rcases zM.mp z with z|z
  .rw[z,c4]at e;cases e
  exact U4.w.off e (λ_ z=>nomatch z) (λ_ z=>nomatch z) z) e
 obtain⟨rB,w0,w1⟩:∃rB:Nat->Wr,rB 0=r1/\rB 1=r2:=⟨λj=>if j=0 then r1 else r2,rfl,rfl⟩;obtain⟨rE,y0,y1⟩:∃rE:Nat->Wr,rE 0=r2/\rE 1=r1:=⟨λj=>if j=0 then r2 else r1,rfl,rfl⟩;refine⟨t3,Z,⟨_,Aj c7⟩,Pl (xs:=[V.ref t1,V.ref t2]) (λi Y H'=>∃x5 x6 x7 x8 s' a3 a1,Y=[some (.ref o),some (.ref a),some (.ref f),some (.ref g),some (.ref ls),x5,x6,x7,x8]/\Nw C o L n m (ls::L.S) H4 s H' s' (10*i) (eBes x rB rE a1 i)/\H' ls=some (.lst a3)/\PySem.Paired (AiJ H') a1 a3/\(∀c∈a1,CO s' c)/\a1.length=i) ⟨none,none,none,none,s,[],[],Z,(U4.hv (e:=0) hv (by decide)).nw.wk0 (zB _) hv.f.op rfl (λO _ j z=>absurd z (not_lt_zero j)) (λ_ _=>rfl),c4,.nil,(λ_ h=>nomatch h),Z⟩ ?_ ?_ ?_⟩
 .rintro i Y H' _ ⟨_,_,_,_,_,_,_,_,U,_⟩
  exact Aj (b8 U.k _ _ c7)
 .rintro i v Y H5 D' kD hi ⟨x5,x6,x7,x8,s5,a3,a1,rfl,V5,a6,a8,a7,lc⟩
  have d6:i<2:=(uA.mp hi).1
  obtain⟨b,bx,db,e,ex,de,ob,t,rfl,e2,a5,c3,b9,wb,we,e5,e3⟩:∃(b bx db e ex de:Addr)(ob:Obj)(t:Addr),v=.ref t/\H4 t=some (.tup [V.ref b,.ref e])/\H b=some (.ins CP bx (wdV (rB i).runs (.int (rB i).rests) (.ref db)))/\H db=some (.frz ob (.dK ((rB i).codes.map kvI)))/\H e=some (.ins CP ex (wdV (rE i).runs (.int (rE i).rests) (.ref de)))/\WI s (rB i)/\WI s (rE i)/\(rB i).runs∈s.op/\(rB i).runs∉(List.range i).map λj=>(rB j).runs:=by
   match i,hi with
   |0,hi=>cases hi;rw[w0,y0];exact⟨f,fx,d1,g,gx,d2,o1,t1,rfl,d7,hf,f5,hg,b1,b2,pr.1.1,λz=>nomatch z⟩
   |1,hi=>cases hi;rw[w1,y1];exact⟨g,gx,d2,f,fx,d1,o2,t2,rfl,d8,hg,d9,hf,b2,b1,pr.2.1.1,λz=>by have:=pr.2.2;simp[w0]at z;omega⟩
   | (j+2),hi=>cases hi
  generalize er:rB i=rb at *;generalize ee:rE i=re at *;have U5:=(U4.trans V5).drop b3;have lb:=wb.2.2.len;have bS:=(W.objOff a5).2;have c8:=U5.w.ho;refine⟨t,_,Z,Aj (b8 V5.k _ _ e2),Z,_,_,Z,_,_,Z,Z,c8,Z,U5.k _ _ (W.objOff b9).2 b9,T.clP,T.nE,Z,c8,Z,U5.k _ _ bS a5,T.clP,T.nE,Z,?_⟩;have a2:Hv C o L n m H5 s5 10:=U5.hv hv (by omega);refine⟨o,_,L,n,m,_,Z,a2.nw (S:=L.S) |>.hv a2 (by decide),wb.2.1.up U5.lo,λH6 s6 i6 V6 j6=>⟨zN2,λl6 h6=>?_⟩⟩;have V6:=V6.new h6 (.lst [V.int re.rests,.int i6]);refine⟨o,l6,[re.rests,i6],L,n,m,_,Z,V6.hv a2 (by decide),qa,.two (we.2.1.up (zA U5.lo V6.lo)) j6,(by show 2<=1000;decide),λH7 s7 i7 V7 j7=>?_⟩;have V7:=V6.trans V7;have U7:=U5.trans V7;have c5:=V7.w.ho;refine⟨c5,Z,U7.k _ _ bS a5,T.clP,T.nR,Z,U7.k _ _ aS ha,T.clP,T.nR,Z,c5,Z,o,_,L,n,m,_,Z,V7.hv a2 (by decide),j7,λH8 s8 i8 V8 j8=>⟨zN2,λl8 h8=>?_⟩⟩;have V9:=(V7.trans V8).new h8 (.lst [V.int x,.int i8]);refine⟨o,l8,rb.runs,"all",[x,i8],L,n,m,_,Z,V9.hv a2 (by decide),qa,V9.op _ (V5.op _ e5 e3) (λz=>nomatch z),.inl rfl,.two (r3.1.up (zA U5.lo V9.lo)) j8,(by show 2<=1000;decide),λH9 s9 VX _=>?_⟩;have V9:=V9.trans VX;have U9:=U5.trans V9;refine⟨V9.w.ho,Z,U9.k _ _ aS ha,T.clP,T.nR,Z,zN2,λla d5=>?_⟩;have VA:=V9.new d5 (.lst [V.int x,.int i7]);refine⟨o,la,[x,i7],L,n,m,_,Z,VA.hv a2 (by decide),qa,.two (r3.1.up U9.lo) (j7.up (zA V8.lo VX.lo)),(by show 2<=1000;decide),λHA sA iA VY jA=>⟨zN2,λtA e7=>?_⟩⟩;have VA:=(VA.trans VY).new e7 (.tup [V.int 0,.int iA]);have f2:=qa (H:=HA) (a:=tA) (o:=.tup [V.int 0,.int iA]);generalize upd HA tA (.tup [V.int 0,.int iA])=HB at *;have UA:=U5.trans VA;refine⟨.inl ⟨Z,_,Ai (VA.k _ _ b4 a6)⟩,VA.w.ho,Z,UA.k _ _ bS a5,T.clP,T.nC,Z,db,_,Z,.inr ⟨ob,UA.k _ _ (W.offF c3) c3⟩,λlC ts HC qC=>⟨zN1,λlD hD=>?_⟩⟩;have pC:=Np qC;obtain⟨gC,g5,f4,d4,_⟩:=qC;have gC:Same _ HC:=gC;have gD:=Ac hD (.lst [V.ref tA]);rw[vE]at d4;refine⟨lC,lD,_,_,Z,Z,gD _ _ f4,qa,by rw[vE,vG];exact zA (by omega:_<=64) (by decide),λlE d3=>?_⟩;have gE:=Ac d3 (.lst (ts.map V.ref++[V.ref tA]));have b6:=(gC.trans gD).trans gE;have VE:=VA.same b6;refine⟨o,lE,rb.codes++[(0,iA)],_,L,n,m,_,Z,VE.hv a2 (by decide),qa,(VA.same (gC.trans gD)).w.offN d3,Dl (Bh pC λ_ _ a=>a.mono (gD.trans gE).tp) (.cons ⟨tA,Z,b6 _ _ f2⟩ .nil),by rw[vF,vG];omega,(wb.2.2.1.up UA.lo).app λp hp=>(by rw[mS hp];exact⟨(by show(0:Int)<=0/\(0:Int)<=5;decide),jA⟩),λdF oF HF sF cs VF nF eF cF=>?_⟩;have VF:=VE.trans VF;have a9:=VF.k _ _ b4 a6;have UF:=V5.then VF;refine⟨ls,_,_,Z,Z,a9,by rw[<-uC a8,lc];exact zD d6 (by decide),?_⟩;refine(kD _ _ ⟨_,_,_,_,sF,a3++[V.ref dF],a1++[cs],Z,({UF with k:=UF.k.trans (kpsUp vH),w:=UF.w.keep [ls] (kpsUp vH) (tpLs a9) λb e4=>(by rw[mS e4];exact c9)}:Nw C o L n m (ls::L.S) H4 s _ sF (10*i+10) _).wk (by omega) hv.f.op (λg z=>.inl (rng_up (congrArg Wr.runs er) z)) (λO ⟨fi,⟨⟨⟨⟨f6,f7⟩,f8⟩,fX⟩,fY⟩,fJ⟩=>⟨λj hj=>?_,λ_=>rfl⟩),qa,?_,λc hc=>?_,by rw[vF,lc];rfl⟩).1
  .rcases lt_or_ge j i with z|z
   .rw[show(a1++[cs]).getD j []=a1.getD j [] by rw[getD_eq_getElem?_getD,getD_eq_getElem?_getD,vV (by omega)]]
    exact fi j z
   have:j=i:=by omega
   subst this;rw[er,ee,show(a1++[cs]).getD j []=cs by rw[getD_eq_getElem?_getD,<-lc,vW (zB _),Nat.sub_self];rfl];have h7:O.v i7=idl rb re O:=(show O.v i7=an3 _ (an3 (O.v i6) (some true)) from f7).trans (by rw[Bt,show O.v i6=_ from f6];rfl);refine⟨fX.trans ((Mn O _).trans (by show an3 _ (an3 (O.v i8) (some true))=_;rw[Bt,show O.v i8=nt3 (O.v i7) from f8,h7])),λc=>(fJ c).trans ?_⟩;rw[N9,Nl wb.2.2,Y8,show O.v iA=an3 _ (an3 (O.v i7) (some true)) from fY,Bt,h7];rfl
  .refine Dl (Bh a8 ?_) (.cons ⟨dF,oF,Z,?_⟩ .nil)
   .rintro c v ⟨d,od,rfl,h⟩
    refine⟨d,od,Z,?_⟩;have:=VF.k _ _ (V5.w.offF h) h;rwa[upd_ne (Bu this a9 (by intro z;cases z))]
   rw[upd_ne (Bu eF a9 (by intro z;cases z))]
   exact eF
  rcases vY.mp hc with z|z
  .exact(a7 c z).up VF.lo
  rwa[mS z]
 rintro Y H5 ⟨x5,x6,x7,x8,s5,a3,a1,rfl,V5,a6,a8,a7,lc⟩
 have U5:Nw C o L n m L.S H s H5 s5 (0+20) _:=(U4.trans V5).drop b3;cases a8 with
 |nil=>cases lc
 |cons p0 r0=>
 cases r0 with
 |nil=>cases lc
 |cons p1 e9=>
 cases e9 with
 |cons _ _=>cases lc
 |nil=>
 obtain⟨e0,f0,rfl,q0⟩:=p0;obtain⟨e1,f1,rfl,q1⟩:=p1;refine⟨o,ls,e0,e1,f0,f1,_,_,L,n,m,s5,Z,U5.hv hv (by decide),a6,b4,q0,q1,a7 _ vH,a7 _ (vI _ vH),λd ob HA sA cs VA eA cA=>?_⟩;have UA:=U5.trans VA;have c6:=UA.k _ _ aS ha;refine⟨c6,T.clP,T.nC,(by show 5<1000;decide),q.cod ((UA.more λb h=>vI _ h).wk (by decide) hv.f.op (λg z=>.inl (by show g∈[r1.runs,r2.runs];rwa[<-w0,<-w1])) λO ⟨⟨_,fi⟩,fg⟩=>⟨⟨rfl,?_⟩,λi=>rfl⟩) c6 eA (e8.up UA.lo) cA⟩;have h0:=fi 0 (show 0<2 by decide);have h1:=fi 1 (show 1<2 by decide);rw[w0,y0]at h0;rw[w1,y1]at h1;refine⟨h0.1,h1.1,λc=>(fg c).trans ?_⟩;rw[<-funext h0.2,<-funext h1.2];rfl
def L4{A:Prop}{R:Hp->Prop}(z:Hp->Prop)(h:(∀H,z H->R H)->A)(k:∀H,z H->R H):A:=h k
def Zx{x:Int}(ha:H a=some (.ins CP dx (wdV x .non cv)))(hb:H b=some (.ins CP bx (wdV x' (.int r) a1))):b≠a:=Bu hb ha (by intro z;have:=(HO.ins.inj z).2.2;unfold wdV at this;simp at this)
def fPr(p:Pt)(x r:Int)(r1 r2:Wr)(cs:Cd)(O:Vn):Prop:=O.v r=or3 (O.v r1.rests) (O.v r2.rests)/\match p with
 |.thn _ _=>AaH x r1 r2 cs O
 |.iff s _ _=>fIf x s r r1 r2 cs O
 |_=>Wi x r1 r2 cs O
def kvP(p:Pt)(x:Int)(cs:Cd)(O:Vn):Option Bool:=match p with
 |.bes _ _=>an3 (O.v (x+1)) (cvl cs O 1)
 |_=>O.v (x+1)
def fKp(kv:Option Bool)(x:Int)(r:Wr)(O:Vn):Prop:=O.v (r.runs+1)=kv/\O.v (r.runs+2)=O.v (x+2)
def fPk(p:Pt)(x r:Int)(r1 r2:Wr)(cs:Cd)(O:Vn):Prop:=fPr p x r r1 r2 cs O/\fKp (kvP p x cs O) x r1 O/\fKp (kvP p x cs O) x r2 O
def fPq(p:Pt)(x r:Int)(r1 r2:Wr)(cs:Cd)(kp:List Int)(O:Vn):Prop:=fPr p x r r1 r2 cs O/\anL (kp.map O.v)=kvP p x cs O
def Aft{p:Pt}{x:Int}{cs:Cd}{O:Vn}(e:wdP p ="then"):anL ([x+1].map O.v)=kvP p x cs O:=by
 obtain⟨_,_,rfl⟩:=Qj e;exact Bt _
def AfO{p:Pt}{x i:Int}{cs:Cd}{O:Vn}(h:isPr p)(n1:¬wdP p ="then")(n2:¬wdP p ="if")(f:O.v i=cvl cs O 1):anL ([x+1,i].map O.v)=kvP p x cs O:=by
 cases p<;>first|exact absurd rfl n1|exact absurd rfl n2|(show an3 _ (an3 _ (some _))=_;rw[Bt,f];rfl)|cases h
def ksA(rB:Nat->Wr)(i:Nat):List Int:=(List.range i).flatMap λj=>[(rB j).runs+1,(rB j).runs+2]
inductive So(K:FA)(C CP:Addr)(vs:List V)(H:Hp)(Q:VK):Prop
 |mk(o a dx f g:Addr)(v:V)(p:Pt)(x:Int)(cv:V)(r1 r2:Wr)(L:Lc)(n m:Nat)(s:Ws)(_:vs=[.ref o,v,.ref a,.ref f,.ref g])(_:Hv C o L n m H s 46)(_:PAt K H p.nd v)(_:isPr p=true)(_:okN n p)(_:H a=some (.ins CP dx (wdV x .non cv)))(_:WdAt CP H f r1)(_:WdAt CP H g r2)(_:R3 s x)(_:WI s r1)(_:WI s r2)(_:Pr2 s r1.runs r2.runs)(_:Fil C CP o a L n m Q H s x 46 [] (λr cs=>eC [r1.runs,r2.runs,r1.runs+1,r1.runs+2,r2.runs+1,r2.runs+2] (fPk p x r r1 r2 cs)))
def Rt(K:FA)(C CP:Addr):Sp:=λvs H Q _=>So K C CP vs H Q
theorem prF{x:Int}{F:Vn->Prop}(f1:O.v i1=orL ([r1.rests,r2.rests].map O.v))(z:fQ r i1 F O)(h:F O->(match (generalizing:=false) p with
 |.thn _ _=>AaH x r1 r2 cs O
 |.iff s _ _=>fIf x s i1 r1 r2 cs O
 |_=>Wi x r1 r2 cs O)):fPr p x r r1 r2 cs O:=by
 obtain⟨rfl,z⟩:=z;exact⟨f1.trans (congrArg _ (Bc _)),h z⟩
theorem AgD{p:Pt}{x i1:Int}{r1 r2:Wr}{cs:Cd}{O:Vn}(h:isPr p)(n1:¬wdP p ="then")(n2:¬wdP p ="if")(f:Wi x r1 r2 cs O):(match (generalizing:=false) p with
 |.thn _ _=>AaH x r1 r2 cs O
 |.iff s _ _=>fIf x s i1 r1 r2 cs O
 |_=>Wi x r1 r2 cs O):=by
 cases p<;>first|exact absurd rfl n1|exact absurd rfl n2|exact f|cases h
def AiL(F:Ao K mg "wire_pair" ["wiring","part","whole","first","second"] Ji)(T:Cn K mg C CP)(aG:A4 P w K mg base 1 C "fill" ["self","number","word","numbers"] (Jt C))(aE:A4 P w K mg base 2 C "some_of" ["self","numbers"] (Ie C))(aO:Ae P w K mg base 3 "code_gate" ["wiring","whole","code"] (We C CP))(fL:Ae P w K mg base 4 "wire_then" ["wiring","whole","first","second"] (Xu C CP))(iI:Ae P w K mg base 4 "wire_if" ["wiring","sign","whole","first","second"] (Ade C CP))(dR:Ae P w K mg base 4 "wire_beside" ["wiring","whole","first","second"] (AbC C CP)):Ae P w K mg base 5 "wire_pair" ["wiring","part","whole","first","second"] (Rt K C CP):=by
 refine F.ok Kx (λvs H Q E h=>?_) (λfn _ A _ _ H vs Q E hr h=>?_)
 .obtain⟨o,a,dx,f,g,v,p,x,cv,r1,r2,L,n,m,s,rfl⟩:=h;rfl
 obtain⟨o,a,dx,f,g,v,p,x,cv,r1,r2,L,n,m,s,rfl,hv,hp,d4,ok,ha,D1,D2,r3,b1,b2,pr,q⟩:=h;obtain⟨_,_,_⟩:=T.gE;obtain⟨_,hR,rR⟩:=T.gR;have W:=hv.w;refine⟨_,(Ab (Cg (pv 2) (Al aE hr Ax (pv 0) (pa1 (An (pa2 (pfd (pv 3)) (pfd (pv 4)))))) rfl)
  (Ab (pst 5 Kx.nd (An (pa1 (pfd (pv 2)))))
  (Ab (Az (pce (pix (pv 1)) Ah)
   (Ad (A6 (pcl fL (Ba (pv 0) (pa3 (pv 2) (pv 3) (pv 4))))))
   (Ad (Az (pce (pix (pv 1)) Ah)
   (Ad (A6 (pcl iI (Ba (pv 0) (Ba (B7 B0 (pfd (pv 0)) (pix (pv 1)) (λ_ _=>rfl)) (pa3 (pv 2) (pv 3) (pv 4)))))))
   (Ab (A6 (pcl dR (Ba (pv 0) (pa3 (pv 2) (pv 3) (pv 4)))))
  (Ad (A6 (F2 uG uK uJ Da (pv 5) (pa1 (pcl aO (pa3 (pv 0) (pv 2) (Bj rfl hR rR)))))))))))
  (Ad (Fj PassesOwn.never rfl (Ls (Ap (pa2 (pv 3) (pv 4)))) (Aq (i:=6) Kx.nd rfl (Or.inl rfl))
   (Ab (A6 (Al aG hr Ax (pv 0) (pa3 (pfd (pv 6)) Ah (pv 5))))
  (Ad (A6 (Al aG hr Ax (pv 0) (pa3 (pfd (pv 6)) Ah (An (pa1 (pfd (pv 2)))))))))))))),?_⟩
 obtain⟨fx,d1,o1,hf,c3⟩:=id D1;obtain⟨gx,d2,o2,hg,b5⟩:=id D2;have off:∀{b:Addr},b≠a->b∉L.S->b∉a::L.S:=λh1 h2 z=>(zM.mp z).elim h1 h2
 have fA:=off (Zx ha hf) (W.objOff hf).2;have gA:=off (Zx ha hg) (W.objOff hg).2;refine⟨W.ho,Z,hf,T.clP,T.nE,Z,hg,T.clP,T.nE,Z,zN2,λl1 h1=>?_⟩;have U1:=(hv.nw (S:=a::L.S)).new h1 (.lst [V.int r1.rests,.int r2.rests]);refine⟨o,_,[r1.rests,r2.rests],L,n,m,s,Z,U1.hv hv (by decide),qa,.two b1.2.1 b2.2.1,(by show 2<=1000;decide),λH1 s1 i1 V1 j1=>?_⟩;have b4:=V1.k _ _ ((W.objOff ha).2) ((Ac h1 (.lst [V.int r1.rests,.int r2.rests])) _ _ ha);refine⟨b4,T.clP,T.nE,(by show 5<1000;decide),?_⟩;have U2:=(U1.then V1).setA b4 (.ins CP dx (wdV x (.int i1) cv));have a7:=qa (H:=H1) (a:=a) (o:=.ins CP dx (wdV x (.int i1) cv));have d6:=(W.tp ((sameKp (Ac h1 (.lst [V.int r1.rests,.int r2.rests]))).trans V1.k)).trans (Q7 b4 (kpsUp (u:=.ins CP dx (wdV x (.int i1) cv)) vH));generalize hH:upd H1 a (.ins CP dx (wdV x (.int i1) cv))=H2 at U2 a7 d6;have g1:upd H1 a (.ins CP dx (Dy "rests" (V.int i1) (wdV x .non cv)))=H2:=hH;rw[g1];refine⟨a7,T.clP,T.nK,Z,zN1,λlk a4=>?_⟩;have a2:=U2.w.offN4 a4;have a5:lk≠a:=(ne_of_none a7 a4).symm;have g3:=Ac a4 (.lst [V.int (x+1)]);have U3:=U2.new a4 (.lst [V.int (x+1)]);have c6:=g3 _ _ a7;have c4:=qa (H:=H2) (a:=lk) (o:=.lst [V.int (x+1)]);have d5:=hp.mono (d6.trans g3.tp);generalize upd H2 lk (.lst [V.int (x+1)])=H3 at *;have b9:WdAt CP H3 f r1:=⟨fx,d1,o1,U3.k _ _ fA hf,U3.k _ _ (off (Bu c3 ha (by intro z;cases z)) (W.offF c3)) c3⟩;have b3:WdAt CP H3 g r2:=⟨gx,d2,o2,U3.k _ _ gA hg,U3.k _ _ (off (Bu b5 ha (by intro z;cases z)) (W.offF b5)) b5⟩;have f0:Hv C o L n m H3 s1 45:=U3.hv hv (by decide);have c7:=b1.up U3.lo;have b8:=b2.up U3.lo;have a3:=r3.up U3.lo;have c5:=pr.kp U3 rfl;obtain⟨t,vs,rfl,hs⟩:=J6 d5;refine' L4 (λH4=>∃s4 kp r cs,Nw C o L n m (a::L.S) H s H4 s4 46 (eC [r1.runs,r2.runs] (fPq p x r r1 r2 cs kp))/\H4 lk=some (.lst (kp.map V.int))/\RL s4 kp/\kp.length<=1000/\WdAt CP H4 a ⟨x,r,cs⟩/\Rng s4 r/\CO s4 cs) (λa9=>?_) ?_;rotate_left
 .refine⟨hs.sq,Aa rfl,Z,Ci (λe=>?_) λn1=>⟨hs.sq,Aa rfl,Z,Ci (λe=>?_) λn2=>?_⟩⟩
  .exact⟨o,a,dx,f,g,x,i1,cv,r1,r2,L,n,m,_,Z,U3.hv hv (by decide),c6,b9,b3,a3,j1,c7,b8,c5,λH4 s4 r cs U D hr hc _=>a9 H4 ⟨s4,[x+1],r,cs,((U3.trans U).wk (by decide) hv.f.op (λg z=>.inl (z)) λO ⟨⟨_,f1⟩,f2⟩=>⟨⟨prF f1 f2 λf=>(by obtain⟨_,_,rfl⟩:=Qj e;exact f),Aft e⟩,λ_=>rfl⟩),U.k _ _ (off a5 a2.2.2.2) c4,.one (a3.2.1.up U.lo),(by show 1<=1000;decide),D,hr,hc⟩⟩
  .obtain⟨i,p1,p2,rfl⟩:=Uq e
   obtain⟨x2,x3,hs,h2,h3⟩:=g4i d5;obtain⟨⟨i0,g5⟩,_⟩:=ok;obtain⟨j,rfl⟩:∃j:Nat,i=(j:Int):=⟨i.toNat,(uO i0).symm⟩;obtain⟨_,e7,_,_,d9,_⟩:=id U3.w;have hj:j<n:=by omega
   refine⟨e7,T.cl,T.nS,Z,hs.sq,Aa rfl,Ai d9,Aa (by rw[vJ,getElem?_range hj];rfl),o,a,dx,f,g,x,i1,_,cv,r1,r2,L,n,m,_,Z,U3.hv hv (by decide),c6,b9,b3,a3,j1,⟨Int.natCast_nonneg _,by have:=f0.nl;unfold Ws.nx;omega⟩,c7,b8,c5,λH4 s4 r cs U D hr hc _=>a9 H4 ⟨s4,[x+1],r,cs,((U3.trans U).wk (by decide) hv.f.op (λg z=>.inl (z)) λO ⟨⟨_,f1⟩,f2⟩=>⟨⟨prF f1 f2 λf=>f,Bt _⟩,λ_=>rfl⟩),U.k _ _ (off a5 a2.2.2.2) c4,.one (a3.2.1.up U.lo),(by show 1<=1000;decide),D,hr,hc⟩⟩
  refine⟨o,a,dx,f,g,x,i1,cv,r1,r2,L,n,m,_,Z,U3.hv hv (by decide),c6,b9,b3,a3,j1,c7,b8,c5,λH4 s4 r cs V4 D hr hc _=>?_⟩
  have a8:=V4.k _ _ (off a5 a2.2.2.2) c4;have U4:=U3.trans V4;refine⟨.inl ⟨Z,_,Ai a8⟩,o,a,1,_,L,n,m,s4,Z,U4.hv hv (by decide),D,hc.1,λH5 s5 i5 V5 j5=>?_⟩;have b7:=V5.k _ _ a2.2.2.2 a8;have U5:=U4.then V5;refine⟨lk,_,_,Z,Z,b7,(by show 1<sizeLine;decide),a9 _ ⟨s5,[x+1,i5],r,cs,(U5.wk (E':=eC [r1.runs,r2.runs] (fPq p x r r1 r2 cs [x+1,i5])) (zB _) hv.f.op (λg z=>.inl (z)) (λO ⟨⟨⟨_,f1⟩,f2⟩,f5⟩=>⟨⟨prF f1 f2 λf=>AgD d4 n1 n2 f,AfO d4 n1 n2 f5⟩,λ_=>rfl⟩)).own (U2.k.nil a4 (off a5 a2.2.2.2)) b7 a2 _,qa,.two (r3.2.1.up U5.lo) j5,(by show 2<=1000;decide),?_,hr.up V5.lo,hc.up V5.lo⟩⟩;obtain⟨e1,e2,e3,e4,e5⟩:=D.kp V4.w V5.k;exact⟨e1,e2,e3,by rwa[upd_ne (Ne.symm a5)],by rwa[upd_ne (Bu e5 b7 (by intro z;cases z))]⟩
 rintro H4 ⟨s4,kp,r,cs,U4,a8,g0,g4,D4,e6,f9⟩
 refine⟨zN2,λtZ d3=>?_⟩;have gZ:=Ac d3 (.tup [V.ref f,.ref g]);have UZ:=U4.new d3 (.tup [V.ref f,.ref g]);have eZ:=qa (H:=H4) (a:=tZ) (o:=.tup [V.ref f,.ref g]);have DZ:=D4.same gZ;generalize upd H4 tZ (.tup [V.ref f,.ref g])=HZ at *;have a1:Hv C o L n m HZ s4 0:=UZ.hv hv (by decide);obtain⟨rB,w0,w1⟩:∃rB:Nat->Wr,rB 0=r1/\rB 1=r2:=⟨λj=>if j=0 then r1 else r2,rfl,rfl⟩;have a6:=λg h a b=>UZ.op g h λz=>by simp at z;exact z.elim a b
 have pl:=pr.2.2;obtain⟨ax,ad,ao,c9,_⟩:=id DZ;refine⟨tZ,Z,⟨_,Aj eZ⟩,Pl (K:=K) (xs:=[V.ref f,V.ref g]) (λi Y H'=>∃x6 s',Y=[some (.ref o),some (.ref t),some (.ref a),some (.ref f),some (.ref g),some (.ref lk),x6]/\Nw C o L n m L.S HZ s4 H' s' 0 (eC (ksA rB i) λO=>∀j,j<i->fKp (anL (kp.map O.v)) x (rB j) O)) ⟨none,s4,Z,a1.nw.wk0 (zB _) a1.f.op rfl (λO _ j z=>absurd z (not_lt_zero j)) λ_ _=>rfl⟩ ?_ ?_ ?_⟩
 .rintro i Y H' _ ⟨_,_,_,U⟩
  exact Aj (a1.w.tp U.k _ _ eZ)
 .rintro i v Y HX D' kD hi ⟨x6,sX,rfl,UX⟩
  obtain⟨b,bx,db,rfl,b6,wb,e9,d7,c8⟩:∃(b bx db:Addr),v=.ref b/\HZ b=some (.ins CP bx (wdV (rB i).runs (.int (rB i).rests) (.ref db)))/\WI s (rB i)/\(rB i).runs+1∈s4.op/\(rB i).runs+2∈s4.op/\∀g∈ksA rB i,g<(rB i).runs:=by
   match i,hi with
   |0,hi=>cases hi;rw[w0];exact⟨f,fx,d1,rfl,UZ.k _ _ fA hf,b1,a6 _ pr.1.2.1 (by omega) (by omega),a6 _ pr.1.2.2 (by omega) (by omega),λg z=>nomatch z⟩
   |1,hi=>cases hi;rw[w1];exact⟨g,gx,d2,rfl,UZ.k _ _ gA hg,b2,a6 _ pr.2.1.2.1 (by omega) (by omega),a6 _ pr.2.1.2.2 (by omega) (by omega),λg z=>by simp[ksA,w0]at z;omega⟩
   | (j+2),hi=>cases hi
  have er:ksA rB (i+1)=ksA rB i++[(rB i).runs+1,(rB i).runs+2]:=by unfold ksA;rw[range_succ];simp
  generalize f8:rB i=rb at *;have wb:=wb.up (zA UZ.lo UX.lo);have bS:=(a1.w.objOff b6).2;refine⟨UX.w.ho,Z,UX.k _ _ bS b6,T.clP,T.nK,Z,o,lk,(rb.runs+1),"all",kp,L,n,m,_,Z,UX.hv a1 (by decide),UX.k _ _ a2.2.2.2 (gZ _ _ a8),UX.op _ e9 (λz=>by have:=c8 _ z;omega),.inl rfl,g0.up UX.lo,g4,λHV sV VV _=>?_⟩;have UV:=UX.trans VV;refine⟨UV.w.ho,Z,UV.k _ _ bS b6,T.clP,T.nT,Z,UV.k _ _ (a1.w.objOff c9).2 c9,T.clP,T.nT,Z,zN1,λlU hU=>?_⟩;have UW:=UV.new hU (.lst [V.int (x+2)]);exact⟨o,lU,(rb.runs+2),"some",[x+2],L,n,m,_,Z,UW.hv a1 (by decide),qa,UW.op _ d7 (λz=>(vY.mp z).elim (λz=>by have:=c8 _ z;omega) λz=>by have:=mS z;omega),.inr rfl,.one (r3.2.2.up (zA UZ.lo UV.lo)),(by show 1<=1000;decide),λHT sT VT _=>(kD _ _ ⟨_,sT,Z,(UW.trans VT).wk (zB _) a1.f.op (λg z=>.inl (by show g∈ksA rB (i+1);rw[er];have z:g∈(ksA rB i++[rb.runs+1])++[rb.runs+2]:=z;rwa[append_assoc]at z)) λO ⟨⟨fi,fV⟩,fT⟩=>⟨λj hj=>(lt_or_ge j i).elim (fi j) λz=>(show j=i by omega)▸f8.symm▸⟨fV.trans (Mn O kp),fT.trans ((Fa O _).trans (Bc _))⟩,λ_=>rfl⟩⟩).1⟩
 rintro Y HX ⟨x6,sX,rfl,UX⟩
 have ek:ksA rB 2=[r1.runs+1,r1.runs+2,r2.runs+1,r2.runs+2]:=by rw[<-w0,<-w1];rfl
 exact q HX sX r cs ((UZ.then UX).wk (zB _) hv.f.op (λg z=>.inl (by have z:g∈[r1.runs,r2.runs]++ksA rB 2:=z;rwa[ek]at z)) λO f=>⟨⟨f.1.1,f.1.2▸w0▸f.2 0 (show 0<2 by decide),f.1.2▸w1▸f.2 1 (show 1<2 by decide)⟩,λ_=>rfl⟩) (DZ.kp a1.w UX.k) (e6.up UX.lo) (f9.up UX.lo) λ_ h=>nomatch h
def AeM{α:Type}{A:Prop}{R:α->Hp->Prop}(z:α->Hp->Prop)(h:(∀b H,z b H->R b H)->A)(k:∀b H,z b H->R b H):A:=h k
def Afn(k r:Int)(ri:Wr)(cs:Cd)(O:Vn):Prop:=O.v r=or3 (some (O.m k)) (O.v ri.rests)/\∀c,cvl cs O c=A7 (λi=>isC c (agC i)) (cvl ri.codes O)
def agL(O:Vn)(k x:Int)(ri:Wr)(j:Int):Option (Option Bool):=if j=k then some (lvS (cvl ri.codes O 0) (O.v (x+1)) (some (O.m k)) (O.v (x+2))) else none
inductive Q0(C CP:Addr)(vs:List V)(H:Hp)(Q:VK):Prop
 |mk(o a dx f:Addr)(k x rr:Int)(cv:V)(ri:Wr)(L:Lc)(n m:Nat)(s:Ws)(_:vs=[.ref o,.int k,.ref a,.ref f])(_:Hv C o L n m H s 16)(_:H a=some (.ins CP dx (wdV x (.int rr) cv)))(_:WdAt CP H f ri)(_:f≠a)(_:R3 s x)(_:WI s ri)(_:(0<=k/\k<m))(_:Fil C CP o a L n m Q H s x 16 [k] (λr cs=>⟨[],Afn k r ri cs,λO i=>(some false,agL O k x ri i.2),[]⟩))
def Wl(C CP:Addr):Sp:=λvs H Q _=>Q0 C CP vs H Q
def Ul(h:0<=c/\c<=5):0<=agC c/\agC c<=5:=by unfold agC;split<;>omega
def Pi(h:0<=c/\c<=5):0<=Ch c/\Ch c<=5:=by unfold Ch;split<;>(try split)<;>omega
def AhV(F:Ao K mg "wire_again" ["wiring","rest","whole","inner"] Gf)(T:Cn K mg C CP)(aL:A4 P w K mg base 1 C "gate" ["self","word","numbers"] (Jo C))(aE:A4 P w K mg base 2 C "some_of" ["self","numbers"] (Ie C))(aQ:A4 P w K mg base 3 C "joined" ["self","pairs"] (Kt C))(aU:Ae P w K mg base 1 "code_of_again" ["code"] Mw)(aO:Ae P w K mg base 3 "code_gate" ["wiring","whole","code"] (We C CP))(bH:Ae P w K mg base 3 "wire_leaving" ["wiring","rest","whole","memory","comes"] (Ue C CP)):Ae P w K mg base 4 "wire_again" ["wiring","rest","whole","inner"] (Wl C CP):=by
 refine F.ok M5 (λvs H Q E h=>?_) (λfn cdv A outer s0 H vs Q E hr h=>?_)
 .obtain⟨o,a,dx,f,k,x,rr,cv,ri,L,n,m,s,rfl,_⟩:=h;rfl
 obtain⟨o,a,dx,f,k,x,rr,cv,ri,L,n,m,s,rfl,hv,ha,D,fa,r3,b1,hk,q⟩:=h;obtain⟨uE,hE,rE⟩:=T.gE;have W:=hv.w;have aS:=(W.objOff ha).2
 refine⟨_,(Ab (pst 4 M5.nd (Al aL hr Ax (pv 0) (pa2 Ah (An (pa1 (pv 1))))))
  (Ab (Cg (pv 2) (Al aE hr Ax (pv 0) (pa1 (An (pa2 (pv 4) (pfd (pv 3)))))) rfl)
  (Ab (Cg (pv 2) (Al aQ hr Ax (pv 0) (pa1 (Cp (g:=(Bn 0)) (tc:=Ex) (te:=(Mf (Bl (Hy Mw [] E0 (Bl (tOp (E3 K) (Aw 0) (tC (.int 0))) Cs)) (Bl (tOp (E3 K) (Aw 0) (tC (.int 1))) Cs)))) ["pair"] [] rfl (Bx (Af Gf) ["wiring","rest","whole","inner","memory"] (by trivial)) (P0 (pfd (pv 3))) (λs2 H2 fp cl C=>Aq (i:=0) (show Nodup [("pair": Str)] from by trivial) rfl (Or.inl rfl)) (A9 (by decide)) (λs2 H2 fp cl C=>Fg) (λs2 H2 fp cl C=>(Ap (pa2 (pcl aU (pa1 (pix (pv 0)))) (pix (pv 0)))))))) rfl)
  (Ad (A6 (pcl bH (Ba (pv 0) (Ba (pv 1) (pa3 (pv 2) (pv 4) (pcl aO (pa3 (pv 0) (pv 3) (Bj rfl hE rE)))))))))))),?_⟩
 obtain⟨fx,d1,o1,hf,a1⟩:=id D;have fA:f∉a::L.S:=λz=>(zM.mp z).elim fa (W.objOff hf).2
 have dA:d1∉a::L.S:=λz=>(zM.mp z).elim (Bu a1 ha (by simp)) (W.offF a1)
 have c1:=b1.2.2.len;refine⟨W.ho,Z,zN1,λl1 h1=>?_⟩;have U1:=(hv.nw (S:=a::L.S)).new h1 (.lst [V.int k]);have a7:Hv C o L n m _ s 1:=U1.hv hv (by decide);refine⟨o,l1,"memory",[k],L,n,m,s,Z,a7,qa,λH1 c3 W1=>?_⟩;obtain⟨V1,j1⟩:=a7.add c3 W1 (.inr (.inl ⟨rfl,k,rfl,hk⟩)) (by simp);generalize s.nx=i1 at V1 j1;have U1:=U1.then V1;refine⟨V1.w.ho,Z,U1.k _ _ fA hf,T.clP,T.nE,Z,zN2,λl2 h2=>?_⟩;have U2:=U1.new h2 (.lst [V.int i1,.int ri.rests]);refine⟨o,l2,[i1,ri.rests],L,n,m,_,Z,U2.hv hv (by decide),qa,.two j1 (b1.2.1.up U2.lo),(by show 2<=1000;decide),λH2 s2 i2 V2 j2=>?_⟩;have a5:=V2.k _ _ aS ((Ac h2 (.lst [V.int i1,.int ri.rests])) _ _ (V1.k _ _ aS ((Ac h1 (.lst [V.int k])) _ _ ha)));refine⟨a5,T.clP,T.nE,(by show 5<1000;decide),?_⟩;have U3:=(U2.then V2).setA a5 (.ins CP dx (wdV x (.int i2) cv));have b4:=qa (H:=H2) (a:=a) (o:=.ins CP dx (wdV x (.int i2) cv));generalize hH:upd H2 a (.ins CP dx (wdV x (.int i2) cv))=H3 at U3 b4;have c5:upd H2 a (.ins CP dx (Dy "rests" (V.int i2) (wdV x (.int rr) cv)))=H3:=hH;rw[c5];have a8:=U3.k _ _ dA a1;refine⟨U3.w.ho,Z,U3.k _ _ fA hf,T.clP,T.nC,Z,d1,o1,_,Z,a8,Mb (λi ys H'=>Same H3 H'/\∃ps,PySem.Paired (PrAt H') ps ys/\CR s ps/\ps=(ri.codes.take i).map λp=>(agC p.1,p.2)) ⟨Bv _,[],.nil,λ_ h=>(nomatch h),Z⟩ (by rw[vE];exact zA c1 (by decide)) (λi ys H' hh=>hh.1 _ _ a8) ?_ ?_⟩
 .rintro i p t ys H' N hi ⟨gg,ps,hy,cr,ep⟩ ht hN b2
  have a3:i<ri.codes.length:=by have:=(uA.mp hi).1;rwa[vE]at this
  rw[vJ,vD a3]at hi;cases hi
  have gt:=Ac ht (.tup [V.int (ri.codes[i]).1,V.int (ri.codes[i]).2]);refine⟨Aj qa,Aa (j:=0) rfl,_,Z,Aj qa,Aa (j:=1) rfl,zN2,λt2 b8=>?_⟩;have a6:=Ac b8 (.tup [V.int (agC (ri.codes[i]).1),V.int (ri.codes[i]).2]);refine hN _ _ (by rw[vF,vG];omega) ⟨(gg.trans gt).trans a6,ps++[(agC (ri.codes[i]).1,(ri.codes[i]).2)],Dl (Bh hy λ_ _ a=>a.mono (gt.trans a6).tp) (.cons ⟨t2,Z,qa⟩ .nil),cr.app λp hp=>?_,by rw[vZ,vD a3,vQ,ep];rfl⟩;have:=b1.2.2.1 _ (zL a3);rw[mS hp];exact⟨Ul this.1,this.2⟩
 rintro ys H4 b2 ⟨g4,ps,hy,cr,ep⟩ D4 a2;rw[vE]at b2;rw[vE,take_length]at ep;have U5:=(U3.same g4).new a2 (.lst ys);have lp:=uC hy;refine⟨o,D4,_,_,L,n,m,_,Z,U5.hv hv (by decide),qa,(U3.same g4).w.offN a2,Bh hy λ_ _ a=>a.mono (Ac a2 (.lst ys)).tp,by omega,cr.up U5.lo,λd ob H6 s6 cs V6 c7 e6 c6=>?_⟩;have U6:=U5.then V6;have a4:=V6.k _ _ aS ((g4.trans (Ac a2 (.lst ys))) _ _ b4);refine⟨a4,T.clP,T.nC,(by show 5<1000;decide),?_⟩;have U7:=U6.setA a4 (.ins CP dx (wdV x (.int i2) (.ref d)));refine⟨o,f,0,ri,L,n,m,_,Z,U7.hv hv (by decide),⟨fx,d1,o1,U7.k _ _ fA hf,U7.k _ _ dA a1⟩,b1.2.2.1.up U7.lo,λH8 s8 i8 V8 j8=>?_⟩;have U8:=U7.then V8;have a9:=V8.k _ _ aS qa;have b5:=V8.k d _ (U6.w.offF e6) (by rwa[upd_ne (Ne.symm (Bu a4 e6 (by simp)))]);have b3:=zA V6.lo V8.lo;refine⟨o,a,dx,k,_,_,x,_,_,L,n,m,_,Z,U8.hv hv (by decide),a9,⟨r3.2.1.up U8.lo,r3.2.2.up U8.lo,j1.up (zA V2.lo b3),j8⟩,λH9 s9 V9 lk=>?_⟩;exact q _ s9 i2 cs ((U8.then V9).wk (by decide) hv.f.op (λ_ z=>nomatch z) λO ⟨⟨⟨⟨⟨_,f1⟩,f2⟩,fJ⟩,f8⟩,_⟩=>⟨⟨(show O.v i2=or3 (O.v i1) (or3 _ (some false)) from f2).trans (by rw[Bc,show O.v i1=some (O.m k) from f1]),λc=>(fJ c).trans (Ol b1.2.2 (λ_=>true) agC (by rw[ep,filter_eq_self.mpr λ_ _=>rfl]) O c)⟩,λi=>by show((some false,if i.2=k then some (lvS (O.v i8) _ (O.v i1) _) else none):Dv)=_;rw[show O.v i8=cvl ri.codes O 0 from f8,show O.v i1=some (O.m k) from f1];rfl⟩) ⟨dx,d,ob,V9.k _ _ aS a9,V9.k _ _ (U8.w.offF b5) b5⟩ (j2.up (zA b3 V9.lo)) (c6.up (zA V8.lo V9.lo)) λj hj=>by rwa[mS hj]
def Af9(c:Int)(h1:b=true->c=i)(h2:b=false->c=j)(h:Q (.int c) H):if b then tC (.int i) Y H Q else tC (.int j) Y H Q:=by
 cases b
 .rwa[h2 rfl]at h
 rwa[h1 rfl]at h
def isSk:Pt->Bool
 |.hold _ _=>true
 |.watch _ _=>true
 |_=>false
def sgI:Pt->Int
 |.hold i _=>i
 |.watch i _=>i
 |_=>0
def Ag9(h:PAt K H (Pt.nd p) v)(z:isSk p):∃a vs,v=.ref a/\Ez K H a (.str (wdP p)::.int (sgI p)::vs):=by
 cases p with
 |hold i q=>
  obtain⟨a,rfl⟩:=Ga h;obtain⟨x2,hs,h2⟩:=g3i h;exact⟨a,_,Z,hs⟩
 |watch i q=>
  obtain⟨a,rfl⟩:=Ga h;obtain⟨x2,hs,h2⟩:=g3i h;exact⟨a,_,Z,hs⟩
 |_=>cases z
def skC:Pt->Int
 |.hold _ _=>1
 |_=>0
def skV(x sg:Int)(ri:Wr)(O:Vn):Option Bool:=an3 (O.v x) (an3 (O.v ri.rests) (O.v sg))
def Aaf(x sg:Int)(ri:Wr)(O:Vn):Prop:=O.v ri.runs=an3 (O.v x) (or3 (nt3 (O.v ri.rests)) (nt3 (O.v sg)))
def AfC(x sg i:Int)(ri:Wr)(O:Vn):Prop:=O.v i=skV x sg ri O/\Aaf x sg ri O
def hdV(p:Pt)(x:Int)(ri:Wr)(O:Vn):Option Bool:=match p with
 |.hold _ _=>an3 (skV x (sgI p) ri O) (O.v (x+1))
 |_=>some false
def AiC{p:Pt}{x i1 z:Int}{ri:Wr}{O:Vn}(e:wdP p ="hold")(f1:O.v i1=skV x (sgI p) ri O)(f:O.v z=anL ([i1,x+1].map O.v)):orL ([z].map O.v)=hdV p x ri O:=by
 obtain⟨_,_,rfl⟩:=Lp e;show or3 _ (some _)=_;rw[Bc,f];show an3 _ (an3 _ (some _))=_;rw[Bt,f1];rfl
def Ah6{p:Pt}{x:Int}{ri:Wr}{O:Vn}(n:¬wdP p ="hold"):some false=hdV p x ri O:=by cases p<;>first|rfl|exact absurd rfl n
def fSk(p:Pt)(x:Int)(ri:Wr)(cs:Cd)(O:Vn):Prop:=Aaf x (sgI p) ri O/\(∀c,cvl cs O c=or3 (A7 (isC c) (cvl ri.codes O)) (one (skC p) (skV x (sgI p) ri O) c))/\O.v (ri.runs+2)=or3 (O.v (x+2)) (hdV p x ri O)
def AgX{p:Pt}(ok:okN n p)(z:isSk p):0<=sgI p/\sgI p<n:=by cases p<;>first|exact ok.1|cases z
def AiK{p:Pt}(z:wdP p ="hold"):skC p=1:=by obtain⟨_,_,rfl⟩:=Lp z;rfl
def Ahv{p:Pt}(z:¬V.str (wdP p)=V.str "hold"):skC p=0:=by cases p<;>first|rfl|exact absurd rfl z
def Agl(p:Pt):0<=skC p/\skC p<=5:=by cases p<;>simp[skC]
inductive Te(K:FA)(C CP:Addr)(vs:List V)(H:Hp)(Q:VK):Prop
 |mk(o a dx f:Addr)(v:V)(p:Pt)(x rr:Int)(cv:V)(ri:Wr)(L:Lc)(n m:Nat)(s:Ws)(_:vs=[.ref o,v,.ref a,.ref f])(_:Hv C o L n m H s 16)(_:PAt K H p.nd v)(_:isSk p=true)(_:okN n p)(_:H a=some (.ins CP dx (wdV x (.int rr) cv)))(_:WdAt CP H f ri)(_:R3 s x)(_:Rng s rr)(_:WI s ri)(_:(ri.runs∈s.op/\ri.runs+2∈s.op))(_:Fil C CP o a L n m Q H s x 16 [] (λr cs=>eC [ri.runs,ri.runs+2] (fQ r rr (fSk p x ri cs))))
def X4(K:FA)(C CP:Addr):Sp:=λvs H Q _=>Te K C CP vs H Q
def AiG(F:Ao K mg "wire_skipping" ["wiring","part","whole","inner"] F5)(T:Cn K mg C CP)(aG:A4 P w K mg base 1 C "fill" ["self","number","word","numbers"] (Jt C))(aH:A4 P w K mg base 2 C "opposite" ["self","number"] (Oe C))(aA:A4 P w K mg base 2 C "every_of" ["self","numbers"] (Hn C))(aE:A4 P w K mg base 2 C "some_of" ["self","numbers"] (Ie C))(aQ:A4 P w K mg base 3 C "joined" ["self","pairs"] (Kt C)):Ae P w K mg base 4 "wire_skipping" ["wiring","part","whole","inner"] (X4 K C CP):=by
 refine F.ok Dh (λvs H Q E h=>?_) (λfn _ A _ _ H vs Q E hr h=>?_)
 .obtain⟨o,a,dx,f,v,p,x,rr,cv,ri,L,n,m,s,rfl⟩:=h;rfl
 obtain⟨o,a,dx,f,v,p,x,rr,cv,ri,L,n,m,s,rfl,hv,hp,sk,ok,ha,D,r3,b8,b1,op,q⟩:=h;obtain⟨_,hE,rE⟩:=T.gE;obtain⟨_,hR,rR⟩:=T.gR;have W:=hv.w;have aS:=(W.objOff ha).2
 refine⟨_,(Ab (pst 4 Dh.nd (B7 B0 (pfd (pv 0)) (pix (pv 1)) (λ_ _=>rfl)))
  (Ab (pst 5 Dh.nd (Al aA hr Ax (pv 0) (pa1 (An (pa3 (pfd (pv 2)) (pfd (pv 3)) (pv 4))))))
  (Ab (pst 6 Dh.nd (Al aE hr Ax (pv 0) (pa1 (An (pa2 (Al aH hr Ax (pv 0) (pa1 (pfd (pv 3)))) (Al aH hr Ax (pv 0) (pa1 (pv 4))))))))
  (Ab (A6 (Al aG hr Ax (pv 0) (pa3 (pfd (pv 3)) Ah (An (pa2 (pfd (pv 2)) (pv 6))))))
  (Ab (pst 7 Dh.nd (Bq (pce (pix (pv 1)) Ah) (An (pa1 (Al aA hr Ax (pv 0) (pa1 (An (pa2 (pv 5) (pfd (pv 2)))))))) (An Bm)))
  (Ab (A6 (Al aG hr Ax (pv 0) (pa3 (pfd (pv 3)) Ah (Au Ck (An (pa1 (pfd (pv 2)))) (pv 7)))))
  (Ab (pst 8 Dh.nd (Bq (pce (pix (pv 1)) Ah) (Bj rfl hR rR) (Bj rfl hE rE)))
  (Ad (Cg (pv 2) (Al aQ hr Ax (pv 0) (pa1 (Au Ck (Jw rfl rfl T.n_list (pfd (pv 3))) (An (pa1 (Ap (pa2 (pv 8) (pv 5)))))))) rfl))))))))),?_⟩
 obtain⟨_,d1,o1,hf,a8⟩:=id D;have fS:=(W.objOff hf).2;have c1:=b1.2.2.len;obtain⟨t,vs,rfl,hs⟩:=Ag9 hp sk;have a7:=AgX ok sk;have a9:Rng s (sgI p):=⟨a7.1,by have:=hv.nl;unfold Ws.nx;omega⟩;obtain⟨j,ej⟩:∃j:Nat,sgI p=(j:Int):=⟨(sgI p).toNat,(uO a7.1).symm⟩;obtain⟨_,ho,_,d3,b5,_⟩:=id W;refine⟨ho,T.cl,T.nS,Z,hs.sq,Aa rfl,Ai b5,(show atI _ _=some (V.int (sgI p)) by rw[ej];exact Aa (by rw[vJ,getElem?_range (by omega)];rfl)),?_⟩;refine⟨ho,Z,ha,T.clP,T.nR,Z,hf,T.clP,T.nE,Z,zN3,λl1 h1=>?_⟩;have U1:=(hv.nw (S:=L.S)).new h1 (.lst [V.int x,.int ri.rests,.int (sgI p)]);refine⟨o,l1,[x,ri.rests,sgI p],L,n,m,s,Z,U1.hv hv (by decide),qa,.cons r3.1 (.two b1.2.1 a9),(by show 3<=1000;decide),λH1 s1 i1 V1 j1=>?_⟩;have U1:=U1.trans V1;have a5:=V1.w.ho;refine⟨a5,Z,a5,Z,U1.k _ _ fS hf,T.clP,T.nE,Z,o,_,L,n,m,_,Z,U1.hv hv (by decide),b1.2.1.up U1.lo,λH2 s2 i2 V2 j2=>?_⟩;have U2:=U1.trans V2;refine⟨V2.w.ho,Z,o,_,L,n,m,_,Z,U2.hv hv (by decide),a9.up U2.lo,λH3 s3 i3 V3 j3=>⟨zN2,λl4 h4=>?_⟩⟩;have U4:=(U2.trans V3).new h4 (.lst [V.int i2,.int i3]);refine⟨o,l4,[i2,i3],L,n,m,_,Z,U4.hv hv (by decide),qa,.two (j2.up V3.lo) j3,(by show 2<=1000;decide),λH5 s5 i5 V5 j5=>?_⟩;have U5:=U4.trans V5;refine⟨V5.w.ho,Z,U5.k _ _ fS hf,T.clP,T.nR,Z,U5.k _ _ aS ha,T.clP,T.nR,Z,zN2,λl6 h6=>?_⟩;have U6:=U5.new h6 (.lst [V.int x,.int i5]);refine⟨o,l6,ri.runs,"all",[x,i5],L,n,m,_,Z,U6.hv hv (by decide),qa,U6.op _ op.1 (λz=>nomatch z),.inl rfl,.two (r3.1.up U6.lo) j5,(by show 2<=1000;decide),λH7 s7 V7 _=>?_⟩;have U7:=U6.trans V7;have f7:∀O,((((((eN.cat (eF λO=>O.v i1=anL ([x,ri.rests,sgI p].map O.v))).cat (eF λO=>O.v i2=nt3 (O.v ri.rests))).cat (eF λO=>O.v i3=nt3 (O.v (sgI p)))).cat (eF λO=>O.v i5=orL ([i2,i3].map O.v))).cat (eC [ri.runs] λO=>O.v ri.runs=O.g ("all",[x,i5]))).F O)->AfC x (sgI p) i1 ri O:=λO ⟨⟨⟨⟨⟨_,f1⟩,f2⟩,f3⟩,f5⟩,f6⟩=>⟨(show O.v i1=an3 _ (an3 _ (an3 _ (some true))) from f1).trans (by rw[Bt];rfl),f6.trans ((Mn O _).trans (by show an3 _ (an3 (O.v i5) (some true))=_;rw[Bt,show O.v i5=or3 (O.v i2) (or3 (O.v i3) (some false)) from f5,Bc,show O.v i2=_ from f2,show O.v i3=_ from f3]))⟩
 have a2:=zA (zA V2.lo V3.lo) (zA V5.lo V7.lo);refine' AeM (λlh H8=>∃s8 hl,Nw C o L n m L.S H s H8 s8 5 (eC [ri.runs] λO=>AfC x (sgI p) i1 ri O/\orL (hl.map O.v)=hdV p x ri O)/\s1.gs.length<=s8.gs.length/\H8 lh=some (.lst (hl.map V.int))/\RL s8 hl/\hl.length<=1) (λa3=>?_) ?_;rotate_left
 .refine⟨(hs.mono (W.tp U7.k)).sq,Aa rfl,Z,Ci (λe=>?_) λnh=>?_⟩
  .refine⟨V7.w.ho,Z,U7.k _ _ aS ha,T.clP,T.nK,Z,zN2,λl7 h7=>?_⟩
   have UG:=U7.new h7 (.lst [V.int i1,.int (x+1)]);refine⟨o,l7,[i1,x+1],L,n,m,_,Z,UG.hv hv (by decide),qa,.two (j1.up a2) (r3.2.1.up UG.lo),(by show 2<=1000;decide),λHG sG iG VG jG=>⟨zN1,λlh a1=>?_⟩⟩;have UH:=(UG.trans VG).new a1 (.lst [V.int iG]);have eH:=qa (H:=HG) (a:=lh) (o:=.lst [V.int iG]);generalize upd HG lh (.lst [V.int iG])=HJ at *;exact a3 lh HJ ⟨sG,[iG],UH.wk (by decide) hv.f.op (λg z=>.inl (z)) (λO f=>⟨⟨f7 O f.1,AiC e (f7 O f.1).1 f.2⟩,λ_=>rfl⟩),zA a2 VG.lo,eH,.one jG,zB _⟩
  refine⟨zN0,λlh a1=>?_⟩
  exact a3 lh _ ⟨s7,[],(U7.new a1 (.lst [])).wk (by decide) hv.f.op (λg z=>.inl (z)) (λO f=>⟨⟨f7 O f,Ah6 nh⟩,λ_=>rfl⟩),a2,qa,.nil,zZ _⟩
 rintro lh HJ ⟨s8,hl,U8,c8,c4,c3,d2⟩;refine⟨U8.w.ho,Z,U8.k _ _ fS hf,T.clP,T.nT,Z,U8.k _ _ aS ha,T.clP,T.nT,Z,zN1,λlz a4=>⟨lz,lh,_,_,Z,Z,qa,Ac a4 _ _ _ c4,?_,λl8 h8=>?_⟩⟩
 .rw[vE];exact zA (show 1+hl.length<=2 by omega) (by decide)
 have U9:=(U8.new a4 (.lst [V.int (x+2)])).new h8 (.lst ([V.int (x+2)]++hl.map V.int));refine⟨o,l8,(ri.runs+2),"some",[x+2]++hl,L,n,m,_,Z,U9.hv hv (by decide),qa,U9.op _ op.2 (λz=>by have:=mS z;omega),.inr rfl,.cons (r3.2.2.up U9.lo) c3,(by show hl.length+1<=1000;omega),λH9 s9 V9 _=>?_⟩;have U9:=U9.trans V9;refine⟨(hs.mono (W.tp U9.k)).sq,Aa rfl,Z,Af9 (skC p) (λz=>AiK (V.str.inj (vN z))) (λz=>Ahv (of_decide_eq_false z)) ?_⟩;have hc:=Agl p;generalize ec:skC p=c at *;have c7:=U9.w.ho;refine⟨c7,Z,U9.k _ _ fS hf,T.clP,T.nC,Z,d1,_,Z,.inr ⟨o1,U9.k _ _ (W.offF a8) a8⟩,λlC ts HC qC=>⟨zN2,λtA b7=>⟨zN1,λlD hD=>?_⟩⟩⟩;have pC:=Np qC;obtain⟨gC,c9,c6,b3,_⟩:=qC;have gC:Same _ HC:=gC;have gA:=Ac b7 (.tup [V.int c,.int i1]);have gD:=Ac hD (.lst [V.ref tA]);rw[vE]at b3;refine⟨lC,lD,_,_,Z,Z,(gA.trans gD) _ _ c6,qa,by rw[vE,vG];exact zA (by omega:_<=64) (by decide),λlE b2=>?_⟩;have gE:=Ac b2 (.lst (ts.map V.ref++[V.ref tA]));have UD:=U9.same ((gC.trans gA).trans gD);have UE:=UD.same gE;refine⟨o,lE,ri.codes++[(c,i1)],_,L,n,m,_,Z,UE.hv hv (by decide),qa,UD.w.offN b2,Dl (Bh pC λ_ _ a=>a.mono ((gA.trans gD).trans gE).tp) (.cons ⟨tA,Z,(gD.trans gE) _ _ qa⟩ .nil),by rw[vF,vG];omega,(b1.2.2.1.up UE.lo).app λp hp=>(by rw[mS hp];exact⟨hc,j1.up (zA c8 V9.lo)⟩),λd ob HF sF cs VF nF eF cF=>?_⟩;have UF:=UE.trans VF;have a6:=UF.k _ _ aS ha;exact⟨a6,T.clP,T.nC,(by show 5<1000;decide),q.cod ((UF.more λb h=>vI _ h).wk (by decide) hv.f.op (λg z=>.inl (z)) λO ⟨⟨f8,f9⟩,fJ⟩=>⟨⟨rfl,f8.1.2,λc'=>(fJ c').trans (by rw[N9,Nl b1.2.2,Y8,f8.1.1,<-ec]),f9.trans ((Fa O _).trans (congrArg (or3 (O.v (x+2))) f8.2))⟩,λ_=>rfl⟩) a6 eF (b8.up UF.lo) cF⟩
def rdK:Pt->List Int
 |.again k _=>[k]
 |_=>[]
def fRd(p:Pt)(x r:Int)(ri:Wr)(cs:Cd)(O:Vn):Prop:=O.v (ri.runs+1)=O.v (x+1)/\match p with
 |.again k _=>O.v ri.runs=O.v x/\O.v (ri.runs+2)=O.v (x+2)/\Afn k r ri cs O
 |.trap _=>O.v ri.runs=O.v x/\O.v (ri.runs+2)=O.v (x+2)/\O.v r=O.v ri.rests/\∀c,cvl cs O c=A7 (λi=>isC c (Ch i)) (cvl ri.codes O)
 |_=>fQ r ri.rests (fSk p x ri cs) O
def rdL(p:Pt)(x:Int)(ri:Wr)(O:Vn)(j:Int):Option (Option Bool):=match p with
 |.again k _=>agL O k x ri j
 |_=>none
inductive Qe(K:FA)(C CP:Addr)(vs:List V)(H:Hp)(Q:VK):Prop
 |mk(o a dx f:Addr)(v:V)(p:Pt)(x:Int)(cv:V)(ri:Wr)(L:Lc)(n m:Nat)(s:Ws)(_:vs=[.ref o,v,.ref a,.ref f])(_:Hv C o L n m H s 16)(_:PAt K H p.nd v)(_:isRd p=true)(_:okN n p)(_:(∀k∈rdK p,0<=k/\k<m))(_:H a=some (.ins CP dx (wdV x .non cv)))(_:WdAt CP H f ri)(_:R3 s x)(_:WI s ri)(_:Op3 s ri.runs)(_:Fil C CP o a L n m Q H s x 16 (rdK p) (λr cs=>⟨[ri.runs,ri.runs+1,ri.runs+2],fRd p x r ri cs,λO i=>(some false,rdL p x ri O i.2),[]⟩))
def O9(K:FA)(C CP:Addr):Sp:=λvs H Q _=>Qe K C CP vs H Q
def AhJ{p:Pt}{x r:Int}{ri:Wr}{cs:Cd}{O:Vn}(h:isSk p)(e:O.v (ri.runs+1)=O.v (x+1))(f:fQ r ri.rests (fSk p x ri cs) O):fRd p x r ri cs O/\∀j,rdL p x ri O j=none:=by cases p<;>first|exact⟨⟨e,f⟩,λ_=>rfl⟩|cases h
def Agf{p:Pt}(h:isSk p):rdK p=[]:=by cases p<;>first|rfl|cases h
def AhR{p:Pt}(rd:isRd p)(n1:¬wdP p ="hold")(n2:¬wdP p ="watch")(n3:¬wdP p ="trap"):∃k p1,p=.again k p1:=by cases p<;>first|exact absurd rfl n1|exact absurd rfl n2|exact absurd rfl n3|exact⟨_,_,Z⟩|cases rd
def AhU(F:Ao K mg "wire_round" ["wiring","part","whole","inner"] Gi)(T:Cn K mg C CP)(aG:A4 P w K mg base 1 C "fill" ["self","number","word","numbers"] (Jt C))(aQ:A4 P w K mg base 3 C "joined" ["self","pairs"] (Kt C))(aW:Ae P w K mg base 1 "code_of_trap" ["code"] K4)(cU:Ae P w K mg base 4 "wire_skipping" ["wiring","part","whole","inner"] (X4 K C CP))(eD:Ae P w K mg base 4 "wire_again" ["wiring","rest","whole","inner"] (Wl C CP)):Ae P w K mg base 5 "wire_round" ["wiring","part","whole","inner"] (O9 K C CP):=by
 refine F.ok Tv (λvs H Q E h=>?_) (λfn _ A _ _ H vs Q E hr h=>?_)
 .obtain⟨o,a,dx,f,v,p,x,cv,ri,L,n,m,s,rfl⟩:=h;rfl
 obtain⟨o,a,dx,f,v,p,x,cv,ri,L,n,m,s,rfl,hv,hp,rd,ok,rk,ha,D,r3,b1,op,q⟩:=h;have W:=hv.w;have aS:=(W.objOff ha).2
 refine⟨_,(Ab (A6 (Al aG hr Ax (pv 0) (pa3 (pfd (pv 3)) Ah (An (pa1 (pfd (pv 2)))))))
  (Ab (Cg (pv 2) (pfd (pv 3)) rfl)
  (Ab (Az (PW.pt (Ha (pce (pix (pv 1)) Ah) (F8 (pce (pix (pv 1)) Ah))))
   (Ab (A6 (pcl cU (Ba (pv 0) (pa3 (pv 1) (pv 2) (pv 3)))))
  (Ad (Za)))
   Ar)
  (Ab (A6 (Al aG hr Ax (pv 0) (pa3 (pfd (pv 3)) Ah (An (pa1 (pfd (pv 2)))))))
  (Ab (A6 (Al aG hr Ax (pv 0) (pa3 (pfd (pv 3)) Ah (An (pa1 (pfd (pv 2)))))))
  (Ad (Az (pce (pix (pv 1)) Ah)
   (Ad (Cg (pv 2) (Al aQ hr Ax (pv 0) (pa1 (Cp (te:=(Mf (Bl (Hy K4 [] E0 (Bl (tOp (E3 K) (Aw 0) (tC (.int 0))) Cs)) (Bl (tOp (E3 K) (Aw 0) (tC (.int 1))) Cs)))) ["pair"] [] rfl (Bx (Af Gi) ["wiring","part","whole","inner"] (by trivial)) (P0 (pfd (pv 3))) (λs2 H2 fp cl C=>Aq (i:=0) (show Nodup [("pair": Str)] from by trivial) rfl (Or.inl rfl)) (A9 (by decide)) (λs2 H2 fp cl C=>Fg) (λs2 H2 fp cl C=>(Ap (pa2 (pcl aW (pa1 (pix (pv 0)))) (pix (pv 0)))))))) rfl))
   (Ad (A6 (pcl eD (Ba (pv 0) (pa3 (pix (pv 1)) (pv 2) (pv 3))))))))))))),?_⟩
 obtain⟨fx,d1,o1,hf,a5⟩:=id D;have fa:=Zx ha hf;have fA:=λz=>(zM.mp z).elim fa (W.objOff hf).2
 have dA:=λz=>(zM.mp z).elim (Bu a5 ha (by intro z;cases z)) (W.offF a5)
 refine⟨W.ho,Z,hf,T.clP,T.nK,Z,ha,T.clP,T.nK,Z,zN1,λl1 h1=>?_⟩;have U1:=(hv.nw (S:=a::L.S)).new h1 (.lst [V.int (x+1)]);refine⟨o,_,(ri.runs+1),"some",[x+1],L,n,m,s,Z,U1.hv hv (by decide),qa,op.2.1,.inr rfl,.one r3.2.1,(by show 1<=1000;decide),λH1 s1 V1 _=>?_⟩;have U1:=U1.then V1;have k1:=(sameKp (Ac h1 (.lst [V.int (x+1)]))).trans V1.k;have a6:=k1 _ _ aS ha;refine⟨U1.k _ _ fA hf,T.clP,T.nE,Z,a6,T.clP,T.nE,(by show 5<1000;decide),?_⟩;have U2:=U1.setA a6 (.ins CP dx (wdV x (.int ri.rests) cv));have a2:=qa (H:=H1) (a:=a) (o:=.ins CP dx (wdV x (.int ri.rests) cv));have a4:=hp.mono ((W.tp k1).trans (Q7 a6 (kpsUp (u:=.ins CP dx (wdV x (.int ri.rests) cv)) vH)));generalize hH:upd H1 a (.ins CP dx (wdV x (.int ri.rests) cv))=H2 at U2 a2 a4;have c7:upd H1 a (.ins CP dx (Dy "rests" (V.int ri.rests) (wdV x .non cv)))=H2:=hH;rw[c7];have D2:WdAt CP H2 f ri:=⟨fx,d1,o1,U2.k _ _ fA hf,U2.k _ _ dA a5⟩;obtain⟨t,vs,rfl,hs⟩:=J6 a4;have a3:Hv C o L n m H2 s1 16:=U2.hv hv (by decide);have b2:=b1.up U2.lo;have r2:=r3.up U2.lo;have a7:=U2.op _ op.1 (λz=>by have:=mS z;omega);have a9:=U2.op _ op.2.2 (λz=>by have:=mS z;omega);have skip:isSk p=true->Fil C CP o a L n m Q H2 s1 x 16 [] (λr cs=>eC [ri.runs,ri.runs+2] (fQ r ri.rests (fSk p x ri cs))):=λa1 H' s' r cs U D hr hc _=>q H' s' r cs ((U2.trans U).wk (by decide) hv.f.op (λg z=>.inl (Z9 z)) λO f=>(AhJ a1 (f.1.2.trans ((Fa O _).trans (Bc _))) f.2).imp id λz i=>congrArg (Prod.mk _) (z i.2).symm) D hr hc (by rw[Agf a1];intro _ h;cases h)
 refine⟨hs.sq,Aa rfl,Z,Ci (λe=>Dg ?_) λn1=>⟨hs.sq,Aa rfl,Z,Ci (λe=>?_) λn2=>?_⟩⟩
 .have a1:isSk p=true:=by obtain⟨_,_,rfl⟩:=Lp e;rfl
  exact⟨o,a,dx,f,_,p,x,ri.rests,cv,ri,L,n,m,_,Z,a3,a4,a1,ok,a2,D2,r2,b2.2.1,b2,⟨a7,a9⟩,skip a1⟩
 .have a1:isSk p=true:=by obtain⟨_,_,rfl⟩:=O8 e;rfl
  exact⟨o,a,dx,f,_,p,x,ri.rests,cv,ri,L,n,m,_,Z,a3,a4,a1,ok,a2,D2,r2,b2.2.1,b2,⟨a7,a9⟩,skip a1⟩
 refine⟨U2.w.ho,Z,U2.k _ _ fA hf,T.clP,T.nR,Z,a2,T.clP,T.nR,Z,zN1,λl3 h3=>?_⟩;have V3:=(a3.nw (S:=L.S)).new h3 (.lst [V.int x]);refine⟨o,_,ri.runs,"some",[x],L,n,m,_,Z,V3.hv a3 (by decide),qa,a7,.inr rfl,.one r2.1,(by show 1<=1000;decide),λH4 _ V4 _=>?_⟩;have V4:=V3.trans V4;have c5:=V4.w.ho;refine⟨c5,Z,(U2.then V4).k _ _ fA hf,T.clP,T.nT,Z,V4.k _ _ aS a2,T.clP,T.nT,Z,zN1,λl5 h5=>?_⟩;have V5:=V4.new h5 (.lst [V.int (x+2)]);refine⟨o,_,(ri.runs+2),"some",[x+2],L,n,m,_,Z,V5.hv a3 (by decide),qa,V5.op _ a9 (λz=>by have:=mS z;omega),.inr rfl,.one (r2.2.2.up V5.lo),(by show 1<=1000;decide),λH6 _ V6 _=>?_⟩;have V6:=V5.trans V6;have U6:=U2.then V6;have b7:=V6.k _ _ aS a2;refine⟨(hs.mono (U2.w.tp V6.k)).sq,Aa rfl,Z,Ci (λe=>?_) λn3=>?_⟩
 .obtain⟨p1,rfl⟩:=Ry e
  have c6:=U6.w.ho;have b6:=U6.k _ _ dA a5;have c1:=b1.2.2.len;refine⟨c6,Z,U6.k _ _ fA hf,T.clP,T.nC,Z,d1,o1,_,Z,b6,Mb (λi ys H'=>Same H6 H'/\∃ps,PySem.Paired (PrAt H') ps ys/\CR s ps/\ps=(ri.codes.take i).map λp=>(Ch p.1,p.2)) ⟨Bv _,[],.nil,λ_ h=>(nomatch h),Z⟩ (by rw[vE];exact zA c1 (by decide)) (λi ys H' hh=>hh.1 _ _ b6) ?_ ?_⟩
  .rintro i p t ys H' N hi ⟨gg,ps,hy,cr,ep⟩ ht hN b8
   have a8:=by have:=(uA.mp hi).1;rwa[vE]at this
   rw[vJ,vD a8]at hi;cases hi
   have gt:=Ac ht (.tup [V.int (ri.codes[i]).1,V.int (ri.codes[i]).2]);refine⟨Aj qa,Aa rfl,_,Z,Aj qa,Aa rfl,zN2,λt2 c3=>?_⟩;have b5:=Ac c3 (.tup [V.int (Ch (ri.codes[i]).1),V.int (ri.codes[i]).2]);refine hN _ _ (by rw[vF,vG];omega) ⟨(gg.trans gt).trans b5,ps++[(Ch (ri.codes[i]).1,(ri.codes[i]).2)],Dl (Bh hy λ_ _ a=>a.mono (gt.trans b5).tp) (.cons ⟨t2,Z,qa⟩ .nil),cr.app λp hp=>?_,by rw[vZ,vD a8,vQ,ep];rfl⟩;have:=b1.2.2.1 _ (zL a8);rw[mS hp];exact⟨Pi this.1,this.2⟩
  rintro ys H7 b8 ⟨g7,ps,hy,cr,ep⟩ D7 b3;rw[vE]at b8;rw[vE,take_length]at ep;have gD:=Ac b3 (.lst ys);have U8:=(U6.same g7).new b3 (.lst ys);have lp:=uC hy;refine⟨o,D7,_,_,L,n,m,_,Z,U8.hv hv (by decide),qa,(U6.same g7).w.offN b3,Bh hy λ_ _ a=>a.mono gD.tp,by omega,cr.up U8.lo,λd ob H9 s9 cs V9 d4 e9 c9=>?_⟩;have b4:=V9.k _ _ aS ((g7.trans gD) _ _ b7);exact⟨b4,T.clP,T.nC,(by show 5<1000;decide),Fil.cod q ((U8.then V9).wk (by decide) hv.f.op (λg z=>.inl (Z9 z)) λO ⟨⟨⟨_,fK⟩,⟨_,f4⟩,f6⟩,fJ⟩=>⟨⟨fK.trans ((Fa O _).trans (Bc _)),f4.trans ((Fa O _).trans (Bc _)),f6.trans ((Fa O _).trans (Bc _)),rfl,λc=>(fJ c).trans (Ol b1.2.2 (λ_=>true) Ch (by rw[ep,filter_eq_self.mpr λ_ _=>rfl]) O c)⟩,λ_=>rfl⟩) b4 e9 (b2.2.1.up (zA V6.lo V9.lo)) c9⟩
 obtain⟨k,p1,rfl⟩:∃k p1,p=.again k p1:=AhR rd n1 n2 n3
 obtain⟨t',d3,ev,b9,hx⟩:=PAt.get (a4.mono (U2.w.tp V6.k));cases ev
 obtain⟨x0,x1,x2,rfl,h0,c8,h2⟩:=hx.three;cases h0.str
 cases c8.int
 exact⟨b9.sq,Aa rfl,o,a,dx,f,k,x,ri.rests,cv,ri,L,n,m,_,Z,V6.hv a3 (by decide),b7,⟨fx,d1,o1,U6.k _ _ fA hf,U6.k _ _ dA a5⟩,fa,r2.up V6.lo,b2.up V6.lo,rk k vH,λH' s' r cs U=>q H' s' r cs ((U6.trans U).wk (by decide) hv.f.op (λg z=>.inl (Z9 z)) λO ⟨⟨⟨_,fK⟩,⟨_,f4⟩,f6⟩,fA⟩=>⟨⟨fK.trans ((Fa O _).trans (Bc _)),f4.trans ((Fa O _).trans (Bc _)),f6.trans ((Fa O _).trans (Bc _)),fA⟩,λ_=>rfl⟩)⟩
end
inductive Tn(K:FA)(vs:List V)(H:Hp)(Q:VK):Prop
 |mk(v)(xs:_)(_:vs=[v])(_:PAt K H (.t xs) v)(_:xs.length<=8)(_:∀r ws,H r=none->A3 K H (inner xs) ws->Q (.ref r) (upd H r (.lst ws)))
def Ob(K:FA):Sp:=λvs H Q _=>Tn K vs H Q
def Ah4(F:Ao K mg "inner_parts" ["part"] Fu)(T:Txt mg):Ae P w K mg base 1 "inner_parts" ["part"] (Ob K):=by
 refine F.ok Rg (λvs H Q E h=>?_) (λf cdv A outer s H vs Q E hr h=>?_)
 .obtain⟨v,xs,rfl,_⟩:=h
  rfl
 obtain⟨v,xs,rfl,hv,hl,q⟩:=h
 refine⟨_,Ad (Ag (Cp (tc:=tB (tCB (Z3 K) (Bl (Aw 0) (Bl (tC (.ty "tuple")) Cs)))) ["piece"] [] rfl (Bx (Af Fu) ["part"] (by trivial)) (Ls (pv 0))
  (λs2 H2 fp cl C=>Aq (i:=0) (show Nodup [("piece": Str)] from by trivial) rfl (Or.inl rfl)) (A9 (by decide))
  (λs2 H2 fp cl C=>Dj (Nn (Bs N4 rfl T.n_isinstance PyProof.Rows.boot_isinstance (Ba (pv 0) (Ba (Yu rfl T.n_tuple (by trivial) (v:=.ty "tuple") rfl) Bm)))))
  (λs2 H2 fp cl C=>pv 0))),?_⟩
 obtain⟨a,vs,rfl,ha,hx⟩:=hv.get;refine⟨a,Z,⟨_,ha.sq⟩,?_⟩;have a3:=hx.len
 refine Aen (xs:=vs) (F:=λD ys H=>Q (.ref D) (upd H D (.lst ys))) (λi ys H'=>H'=H/\A3 K H (inner (xs.take i)) ys) ⟨Z,by rfl⟩ (Cq (by omega))
  (λi ys H' hi ⟨e,_⟩=>⟨vs,vs[i],by rw[e];exact ha.sq,by simp[hi]⟩) (λys H' ⟨e,_⟩=>⟨vs,by rw[e];exact ha.sq,zB _⟩)
  (λi ys H1 x H2 ⟨e,_⟩ ⟨e',y⟩=>⟨e',y vs (by rw[e];exact ha.sq)⟩) ?_ (λx Y H Q Q' h q=>h _ _ q) ?_ ?_ ?_
 .rintro i x ys H' hi ⟨rfl,z⟩
  obtain⟨n,hn,a2⟩:=hx.at hi;obtain⟨t,ty,ek⟩:=Ab9 a2
  have a1:xs.take (i+1)=xs.take i++[n]:=by
   rw[take_add_one,hn];rfl
  refine⟨_,"tuple",t,_,Z,ty,ek,?_⟩;refine As (λc=>?_) (λc=>?_)
  .refine⟨Z,?_⟩
   have:inner (xs.take (i+1))=inner (xs.take i)++[n]:=by rw[a1];simp[inner,c]
   rw[this];exact z.append (.cons a2 .nil)
  .refine⟨Z,?_⟩
   have:inner (xs.take (i+1))=inner (xs.take i):=by rw[a1];simp[inner,c]
   rwa[this]
 .exact λY H Q Q' h=>Jx λv H ⟨x,T,t,b,e2,ty,ek,q⟩=>⟨x,T,t,b,e2,ty,ek,Pr h q⟩
 .exact λY H Q Q' h=>Jx h
 .rintro ys H' ⟨rfl,z⟩ D hD
  refine q D ys hD ?_;rwa[vT (by omega)]at z
def kids:Pt->List Pt
 |.iff _ p q=>[p,q]
 |.thn p q=>[p,q]
 |.bes p q=>[p,q]
 |.again _ p=>[p]
 |.hold _ p=>[p]
 |.watch _ p=>[p]
 |.trap p=>[p]
 |_=>[]
def Ky(x:Str):isT (.s x)=false:=rfl
def Kv(x:Int):isT (.i x)=false:=rfl
def Jq(p:Pt):isT p.nd:=by cases p<;>rfl
def AeS(ok:okN n p):∃xs,p.nd=.t xs/\xs.length<=8/\inner xs=(kids p).map Pt.nd:=by
 cases p with
 |stay _=>exact absurd ok id
 |iff i p q=>exact⟨_,rfl,by show 4<=8;decide,by unfold inner;simp[Ky,Kv,Jq,kids]⟩
 |thn p q=>exact⟨_,rfl,by show 3<=8;decide,by unfold inner;simp[Ky,Jq,kids]⟩
 |bes p q=>exact⟨_,rfl,by show 3<=8;decide,by unfold inner;simp[Ky,Jq,kids]⟩
 |again k p=>exact⟨_,rfl,by show 3<=8;decide,by unfold inner;simp[Ky,Kv,Jq,kids]⟩
 |hold k p=>exact⟨_,rfl,by show 3<=8;decide,by unfold inner;simp[Ky,Kv,Jq,kids]⟩
 |watch k p=>exact⟨_,rfl,by show 3<=8;decide,by unfold inner;simp[Ky,Kv,Jq,kids]⟩
 |trap p=>exact⟨_,rfl,by show 2<=8;decide,by unfold inner;simp[Ky,Jq,kids]⟩
 |nothing=>exact⟨_,rfl,by decide,by rfl⟩
 |rest k=>exact⟨_,rfl,by show 2<=8;decide,by rfl⟩
 |send k=>exact⟨_,rfl,by show 2<=8;decide,by rfl⟩
 |exit k=>exact⟨_,rfl,by show 2<=8;decide,by rfl⟩
def szs(ps:List Pt):Nat:=(ps.map Pt.sz).sum
def fW(p:Pt)(r:Wr):Vn->Prop:=fPt p r.runs r.rests r.codes
def dP(p:Pt)(r:Wr)(O:Vn)(i:Nat×Int):Dv:=((sem O p (O.v r.runs)).2 i.1,Bb O p (O.v r.runs) (O.v (r.runs+1)) (O.v (r.runs+2)) i.2)
def dX(p:Pt)(x:Int)(O:Vn)(i:Nat×Int):Dv:=((sem O p (O.v x)).2 i.1,Bb O p (O.v x) (O.v (x+1)) (O.v (x+2)) i.2)
def Abt(hp:isPr p)(e:kids p=[p1,p2]){x:Int}{a:Wr}(fa:fW p1 a O)(fb:fW p2 b O)(f:fPk p x r a b cs O):fPt p x r cs O/\∀i,cb (dP p1 a O i) (dP p2 b O i)=dX p x O i:=by
 obtain⟨a1,a2⟩:=fa;obtain⟨b1,b2⟩:=fb;obtain⟨⟨f0,f⟩,⟨k1,k2⟩,k3,k4⟩:=f;have a2:=funext a2;have b2:=funext b2;rw[a1,b1]at f0;have f0:O.v r=some (rsB O _ || rsB O p2):=f0.trans (by cases rsB O _<;>cases rsB O _<;>rfl);unfold dP;rw[k1,k2,k3,k4];cases p with
 |thn _ _=>
  cases e
  obtain⟨e1,e2,z⟩:=f;rw[b1]at e1 e2;rw[a2,e1]at e2;rw[a2,b2,e1,e2]at z;rw[e1,e2];exact⟨⟨f0,z⟩,λi=>rfl⟩
 |iff s _ _=>
  cases e
  obtain⟨e1,e2,z⟩:=f;have a3:O.v r=or3 (some (rsB O p1)) (some (rsB O p2)):=f0.trans (by simp_all);rw[a1,a3]at e1;rw[b1,a3]at e2;rw[a2,b2,e1,e2]at z;rw[e1,e2];exact⟨⟨f0,z⟩,λi=>rfl⟩
 |bes _ _=>
  cases e
  obtain⟨e1,e2,z⟩:=f;unfold sdC at z;unfold idl at e1 e2 z;rw[a1,b1]at e1 e2;rw[a1,b1,a2,b2,e1,e2]at z;rw[e1,e2,show kvP _ x _ O=an3 _ _ from rfl,z 1];exact⟨⟨f0,z⟩,λi=>rfl⟩
 |_=>cases hp
def Afo(hp:isRd p)(e:kids p=[p1]){x:Int}{a:Wr}(fa:fW p1 a O)(f:fRd p x r a cs O):fPt p x r cs O/\∀i,cb (dP p1 a O i) (some false,rdL p x a O i.2)=dX p x O i:=by
 obtain⟨a1,a2⟩:=fa;have a2:=funext a2;obtain⟨k1,f⟩:=f;have a3:∀{u:Option _}{v:Option _},cb _ _=(u,v):=J0 _;unfold dP;rw[k1];cases p with
 |again k q=>
  cases e
  obtain⟨e1,k2,e2,z⟩:=f;rw[a1]at e2;unfold rdL agL;rw[k2,a2,e1];rw[a2,e1]at z;refine⟨⟨e2.trans (by show or3 _ _=some (O.m k || rsB O _);cases O.m k<;>cases rsB O _<;>rfl),z⟩,λi=>?_⟩;show(or3 _ _,_)=_;rw[Bc];rfl
 |trap q=>
  cases e
  obtain⟨e1,k2,e2,z⟩:=f;rw[a2,e1]at z;rw[e1,k2];exact⟨⟨e2.trans a1,z⟩,λi=>a3⟩
 |hold s q=>
  cases e
  obtain⟨rfl,e1,z,k2⟩:=f;unfold hdV at k2;unfold Aaf at e1;unfold skV at z k2;rw[a1]at e1 z k2;rw[a2,e1]at z;rw[e1,k2];exact⟨⟨a1,z⟩,λi=>a3⟩
 |watch s q=>
  cases e
  obtain⟨rfl,e1,z,k2⟩:=f;unfold Aaf at e1;unfold skV at z;rw[a1]at e1 z;rw[a2,e1]at z;rw[e1,k2.trans (Bc _)];exact⟨⟨a1,z⟩,λi=>a3⟩
 |_=>cases hp
def Eu{a b:Option Bool}(h:a≠none)(h':b≠none):or3 a b≠none:=by rcases a with _|_|_<;>rcases b with _|_|_<;>first|exact absurd rfl h|exact absurd rfl h'|exact λz=>nomatch z
def B2{a b:Option Bool}(h:a≠none)(h':b≠none):an3 a b≠none:=by rcases a with _|_|_<;>rcases b with _|_|_<;>first|exact absurd rfl h|exact absurd rfl h'|exact λz=>nomatch z
def E9{a:Option Bool}(h:a≠none):nt3 a≠none:=by rcases a with _|_|_<;>first|exact absurd rfl h|exact λz=>nomatch z
def k_s{b:Bool}:some b≠none:=λz=>nomatch z
def L8{i c:Int}{v:Option Bool}(h:v≠none):one i v c≠none:=by unfold one;split<;>first|exact h|exact k_s
def Hc{P:Int->Bool}{A:Int->Option Bool}(h:∀c,A c≠none):A7 P A≠none:=AbR λv hv=>by
 obtain⟨i,_,rfl⟩:=zU.mp hv;exact h _
def Ahy{A B:Int->Option Bool}{c:Int}(h:∀c,A c≠none)(h':∀c,B c≠none):gtC A B c≠none:=B2 (Eu (h c) (h' c)) (B2 (Hc h) (Hc h'))
def Abi{O:Vn}(sg:∀j:Nat,j<n->O.k j≠none){p:Pt}(ok:okN n p):∀{r},r≠none->∀c,(sem O p r).1 c≠none:=by
 have sv:∀{s:Int},0<=s/\s<n->O.v s≠none:=λh=>sg _ (by omega)
 induction p with
 |rest k=>exact @λ_ hr c=>Eu (L8 (B2 hr k_s)) (L8 (B2 hr k_s))
 |thn p q i1 i2=>exact @λ_ hr c=>have h:=λc=>i1 ok.1 (B2 hr (E9 k_s)) c;Eu (Hc h) (Hc (i2 ok.2 (Eu (B2 hr k_s) (h 0))))
 |iff s p q i1 i2=>exact @λ_ hr c=>have g:=B2 hr (E9 (Eu k_s k_s));Eu (Hc (i1 ok.2.1 (Eu (B2 hr k_s) (B2 g (sv ok.1))))) (Hc (i2 ok.2.2 (Eu (B2 hr k_s) (B2 g (E9 (sv ok.1))))))
 |bes p q i1 i2=>exact @λ_ hr c=>have g:∀{a b:Bool},an3 (some a) (nt3 (some b))≠none:=B2 k_s (E9 k_s);by simp[sem];exact Ahy (λc=>Eu (Hc (i1 ok.1 (B2 hr (E9 g)))) (L8 (B2 hr g))) (λc=>Eu (Hc (i2 ok.2 (B2 hr (E9 g)))) (L8 (B2 hr g)))
 |again k p i=>exact @λ_ hr c=>by simp[sem];exact Hc (i ok hr)
 |trap p i=>exact @λ_ hr c=>by simp[sem];exact Hc (i ok hr)
 |hold s p i=>exact @λ_ hr c=>Eu (Hc (i ok.2 (B2 hr (Eu (E9 k_s) (E9 (sv ok.1)))))) (L8 (B2 hr (B2 k_s (sv ok.1))))
 |watch s p i=>exact @λ_ hr c=>Eu (Hc (i ok.2 (B2 hr (Eu (E9 k_s) (E9 (sv ok.1)))))) (L8 (B2 hr (B2 k_s (sv ok.1))))
 |stay _=>exact @λ_ _ _=>absurd ok id
 |_=>exact @λ_ hr c=>L8 hr
def w3(r:Wr):List Int:=[r.runs,r.runs+1,r.runs+2]
def kn3{O:Vn}{r:Wr}(h1:O.v r.runs≠none)(h2:O.v (r.runs+1)≠none)(h3:O.v (r.runs+2)≠none):KnL O (w3 r):=λg z=>by
 unfold w3 at z;simp[or_false]at z;rcases z with rfl|rfl|rfl<;>assumption
def Agz{O:Vn}(sg:∀j:Nat,j<n->O.k j≠none){p p1 p2:Pt}(ok:okN n p)(hp:isPr p)(e:kids p=[p1,p2]){x r:Int}{a b:Wr}{cs:Cd}(fa:fW p1 a O)(fb:fW p2 b O)(f:fPk p x r a b cs O)(z:O.v x≠none)(hk:O.v (x+1)≠none)(hs:O.v (x+2)≠none):KnL O (w3 a)/\KnL O (w3 b):=by
 have hc:∀c,cvl _ O c≠none:=λc=>by rw[(Abt hp e fa fb f).1.2 c];exact Abi sg ok z c
 have sv:∀{s:Int},0<=s/\s<n->O.v s≠none:=λh=>sg _ (by omega)
 obtain⟨a1,a2⟩:=fa;obtain⟨b1,_⟩:=fb;obtain⟨⟨f0,f⟩,⟨k1,k2⟩,k3,k4⟩:=f;have ka:O.v a.rests≠none:=by rw[a1];exact k_s
 have kb:O.v b.rests≠none:=by rw[b1];exact k_s
 have kv:kvP p x cs O≠none:=by cases p<;>first|exact hk|exact B2 hk (hc 1)
 rw[<-k2]at hs;have a4:=hs;rw[k2,<-k4]at a4
 have a3:O.v a.runs≠none/\O.v b.runs≠none:=by
  cases p with
  |thn _ _=>
   cases e
   obtain⟨e1,e2,_⟩:=f;have ra:O.v a.runs≠none:=by rw[e1];exact B2 z (E9 kb)
   exact⟨ra,by rw[e2,a2];exact Eu (B2 z kb) (Abi sg ok.1 ra 0)⟩
  |iff s _ _=>
   obtain⟨e1,e2,_⟩:=f;have g:an3 (O.v x) (nt3 (O.v r))≠none:=by rw[f0];exact B2 z (E9 (Eu ka kb))
   exact⟨by rw[e1];exact Eu (B2 z ka) (B2 g (sv ok.1)),by rw[e2];exact Eu (B2 z kb) (B2 g (E9 (sv ok.1)))⟩
  |bes _ _=>
   obtain⟨e1,e2,_⟩:=f;exact⟨by rw[e1];exact B2 z (E9 (B2 kb (E9 ka))),by rw[e2];exact B2 z (E9 (B2 ka (E9 kb)))⟩
  |_=>cases hp
 exact⟨kn3 a3.1 (by rwa[k1]) hs,kn3 a3.2 (by rwa[k3]) a4⟩
def Ag1{O:Vn}(sg:∀j:Nat,j<n->O.k j≠none){p p1:Pt}(ok:okN n p)(hp:isRd p)(e:kids p=[p1]){x r:Int}{a:Wr}{cs:Cd}(fa:fW p1 a O)(f:fRd p x r a cs O)(z:O.v x≠none)(hk:O.v (x+1)≠none)(hs:O.v (x+2)≠none):KnL O (w3 a):=by
 have sv:∀{s:Int},0<=s/\s<n->O.v s≠none:=λh=>sg _ (by omega)
 obtain⟨a1,_⟩:=fa;obtain⟨k1,f⟩:=f;have ka:O.v a.rests≠none:=by rw[a1];exact k_s
 have a3:=hk;rw[<-k1]at hk;cases p with
 |again k q=>exact kn3 (by rwa[f.1]) hk (by rwa[f.2.1])
 |trap q=>exact kn3 (by rwa[f.1]) hk (by rwa[f.2.1])
 |hold s q=>
  obtain⟨_,e1,_,k2⟩:=f;exact kn3 (by rw[e1];exact B2 z (Eu (E9 ka) (E9 (sv ok.1)))) hk (by rw[k2];exact Eu hs (B2 (B2 z (B2 ka (sv ok.1))) a3))
 |watch s q=>
  obtain⟨_,e1,_,k2⟩:=f;exact kn3 (by rw[e1];exact B2 z (Eu (E9 ka) (E9 (sv ok.1)))) hk (by rw[k2];exact Eu hs k_s)
 |_=>cases hp
def cbL(l:List Dv):Dv:=l.foldr cb nz
def Ael(l m:List Dv):cbL (l++m)=cb (cbL l) (cbL m):=by
 induction l with
 |nil=>rfl
 |cons a l z=>exact(congrArg _ z).trans (AcO _ _ _).symm
def eQ(p:Pt)(r:Wr):Eff:=⟨[],fW p r,dP p r,w3 r⟩
def eK(ks:List Pt)(rs:List Wr):Eff:=⟨[],λO=>∀z∈ks.zip rs,fW z.1 z.2 O,λO i=>cbL ((ks.zip rs).map λz=>dP z.1 z.2 O i),rs.flatMap w3⟩
inductive AaZ(p:Pt):Prop
 |pr (p1 p2:Pt) (e:kids p=[p1,p2]) (h:isPr p=true):AaZ p
 |rd (p1:Pt) (e:kids p=[p1]) (h:isRd p=true):AaZ p
 |lf (e:kids p=[]) (h:E5 p=true):AaZ p
def Adu(p:Pt):AaZ p:=by
 cases p with
 |iff i p q=>exact .pr p q rfl rfl
 |thn p q=>exact .pr p q rfl rfl
 |bes p q=>exact .pr p q rfl rfl
 |again k p=>exact .rd p rfl rfl
 |hold k p=>exact .rd p rfl rfl
 |watch k p=>exact .rd p rfl rfl
 |trap p=>exact .rd p rfl rfl
 |_=>exact .lf rfl rfl
def Aev(p:Pt):p.sz=szs (kids p)+1:=by cases p<;>simp[Pt.sz,kids,szs]
def Ad8(ok:okN n p):∀q∈kids p,okN n q:=by
 cases p<;>intro q hq<;>simp[kids]at hq<;>simp[okN]at ok<;>first|(rcases hq with z|z<;>rw[z]<;>first|exact ok.1|exact ok.2|exact ok.2.1|exact ok.2.2)|(rw[hq];first|exact ok|exact ok.2)|skip
def AeG(h:p.hg<=m+1):∀q∈kids p,q.hg<=m:=by
 cases p<;>intro q hq<;>simp[kids]at hq<;>simp[Pt.hg]at h<;>first|(rcases hq with z|z<;>rw[z]<;>omega)|(rw[hq];omega)|skip
def Aa2{k:Int}(h:k∈rsP p):E5 p\/k∈rdK p\/∃q∈kids p,k∈rsP q:=by
 cases p<;>simp[rsP,rdK,kids,E5]at h ⊢ <;> first|exact h.symm|exact h
def Ae9{k:Int}(z:q∈kids p)(h:k∈rsP q):k∈rsP p:=by
 cases p<;>simp[kids]at z<;>simp[rsP]<;>first|(rcases z with rfl|rfl<;>simp[h])|(subst z;simp)
def AfJ{k:Int}(h:k∈rdK p):k∈rsP p:=by
 cases p<;>first|(cases h;done)|(rw[mS h];exact vH)
def Afx(h:isPr p):rdK p=[]:=by cases p<;>first|rfl|cases h
def Adz(p:Pt):(kids p).length<=2:=by cases p<;>simp[kids]
def AhN{p:Pt}(hk:isPr p)(z:E5 p):False:=by cases p<;>cases hk<;>cases z
def AhD{p:Pt}(hk:isRd p)(z:E5 p):False:=by cases p<;>cases hk<;>cases z
inductive Td(K:FA)(C CP:Addr)(b:Nat)(vs:List V)(H:Hp)(Q:VK):Prop
 |mk(o:Addr)(v:V)(p:Pt)(L:Lc)(n m:Nat)(s:Ws)(_:vs=[.ref o,v])(_:Hv C o L n m H s (50*p.sz))(_:PAt K H p.nd v)(_:p.hg<=b)(_:okN n p)(_:(∀k∈rsP p,0<=k/\k<m))(_:∀a H' s' r,Nw C o L n m L.S H s H' s' (50*p.sz) (eQ p r)->H a=none->WdAt CP H' a r->WI s' r->Op3 s' r.runs->s.nx<=r.runs->(∀k∈rsP p,k∈s'.lv.map (·.1))->Q (.ref a) H')
def L0(K:FA)(C CP:Addr)(b:Nat):Sp:=λvs H Q _=>Td K C CP b vs H Q
def Ahq(CP:Addr)(H:Hp)(r:Wr)(v:V):Prop:=∃b,v=.ref b/\WdAt CP H b r
section
variable{CP:Addr}
seal PSs PS PE PA PT
def Acw(F:Ao K mg "wire_part" ["wiring","part"] G6)(T:Cn K mg C CP)(bM:A4 P w K mg base 3 C "new_part" ["self"] (AaF C CP))(aT:Ae P w K mg base 1 "inner_parts" ["part"] (Ob K))(bK:Ae P w K mg base 5 "wire_pair" ["wiring","part","whole","first","second"] (Rt K C CP))(bE:Ae P w K mg base 5 "wire_round" ["wiring","part","whole","inner"] (O9 K C CP))(bL:Ae P w K mg base 5 "wire_leaf" ["wiring","part","whole"] (Rz K C CP))(bR:Ae P w K mg base (m+6) "wire_part" ["wiring","part"] (L0 K C CP m)):Ae P w K mg base (m+7) "wire_part" ["wiring","part"] (L0 K C CP (m+1)):=by
 refine F.ok Hr (λvs H Q E h=>?_) (λfn _ A _ _ H _ Q E hr h=>?_)
 .obtain⟨o,v,p,L,n,m,s,rfl⟩:=h;rfl
 obtain⟨o,v,p,L,n,m,s,rfl,hv,hp,hh,ok,rk,q⟩:=h
 refine⟨_,(Ab (pst 2 Hr.nd (Jr bM hr Ax (pv 0)))
  (Ab (pst 3 Hr.nd (An Bm))
  (Ab (Fj PassesOwn.never rfl (Cf (pcl aT (pa1 (pv 1)))) (Aq (i:=4) Hr.nd rfl (Or.inl rfl))
   (Ad (A6 (F2 uG uK uJ Da (pv 3) (pa1 (pcl bR (pa2 (pv 0) (pv 4))))))))
  (Ab (Az (pce (Bs C9 rfl T.n_len PySem.boot_len (pa1 (pv 3))) Am)
   (Ad (A6 (pcl bK (Ba (pv 0) (Ba (pv 1) (pa3 (pv 2) (pil (pv 3)) (pil (pv 3))))))))
   (Ad (Az (pce (Bs C9 rfl T.n_len PySem.boot_len (pa1 (pv 3))) Am)
   (Ad (A6 (pcl bE (Ba (pv 0) (pa3 (pv 1) (pv 2) (pil (pv 3)))))))
   (Ad (A6 (pcl bL (pa3 (pv 0) (pv 1) (pv 2))))))))
  (Ad (Ag (pv 2))))))),?_⟩
 have ez:=Aev p;refine⟨hv.w.ho,Z,o,L,n,_,s,Z,(hv.nw (S:=L.S)).hv hv (by omega),λa dx cv x H1 s1 U1 na ha a7 d9=>?_⟩;have r3:R3 s1 x:=⟨U1.f.op _ a7.1,U1.f.op _ a7.2.1,U1.f.op _ a7.2.2⟩;refine⟨zN0,λli a6=>?_⟩;have c5:=U1.w.offN4 a6;have c3:=c5.2.2.2;have U2:=U1.new a6 (.lst []);have c9:=(Ac a6 (.lst [])) _ _ ha;have c8:=qa (H:=H1) (a:=li) (o:=.lst []);have c4:=hp.mono (hv.w.tp U2.k);generalize upd H1 li (.lst [])=H2 at *;obtain⟨xs,ex,lx,ix⟩:=AeS ok;refine⟨v,xs,Z,ex▸c4,lx,λr ws b1 hw=>?_⟩;rw[ix]at hw;have g3:=Ac b1 (.lst ws);have U3:=U2.new b1 (.lst ws);have c7:=g3 _ _ c8;have e6:=c4.mono g3.tp;have b8:=qa (H:=H2) (a:=r) (o:=.lst ws);have rS:=U2.w.offN b1;have d7:=(ne_of_none c8 b1).symm;have b7:=A3.mono g3.tp hw;generalize upd H2 r (.lst ws)=H3 at *;have lw:=b7.len;rw[vE]at lw;have a2:Hv C o L n m H3 s1 (50*szs (kids p)+47):=U3.hv hv (by omega)
 have c6:∀{H':Hp},KpS (li::L.S) H3 H'->Tp H3 H':=λk b xs e=>k b _ (λz=>by
  rcases zM.mp z with z|z
  .rw[z,c7]at e;cases e
  exact U3.w.off e (λ_ z=>nomatch z) (λ_ z=>nomatch z) z) e
 have f0:=Adz p
 have d2:=λi=>by
  have:szs (kids p)=szs ((kids p).take i)+szs ((kids p).drop i):=by unfold szs;rw[<-List.sum_append,<-vQ,List.take_append_drop]
  omega
 refine⟨r,Z,⟨_,Ai b8⟩,F9 (λi Y H'=>∃x4 s' a5 rs,Y=[some (.ref o),some v,some (.ref a),some (.ref li),x4]/\Nw C o L n m (li::L.S) H3 s1 H' s' (50*szs ((kids p).take i)) (eK ((kids p).take i) rs)/\H' li=some (.lst a5)/\PySem.Paired (Ahq CP H') rs a5/\(∀r∈rs,WI s' r/\Op3 s' r.runs/\s1.nx<=r.runs)/\rs.Pairwise (λa b=>a.runs+3<=b.runs)/\rs.length=i/\∀q∈(kids p).take i,∀k∈rsP q,k∈s'.lv.map (·.1)) ⟨none,s1,[],[],Z,a2.nw.wk (zB _) a2.f.op (λ_ z=>nomatch z) (λO _=>⟨λz h=>(by cases h),λi=>rfl⟩),c7,.nil,(λ_ h=>nomatch h),.nil,Z,λ_ h=>nomatch h⟩ (λi Y H' _ ⟨_,_,_,_,_,U,_⟩=>Ai (U.k _ _ (λz=>(zM.mp z).elim d7 rS) b8)) ?_ ?_⟩
 .rintro i xx Y H4 hi ⟨x4,s4,a5,rs,rfl,U4,a1,a4,a3,pw,lr,a8⟩
  have b4:i<(kids p).length:=by have:=(uA.mp hi).1;omega
  obtain⟨_,en,hx⟩:=b7.at hi;rw[vJ,vD b4]at en;cases en
  have mk:=zL b4;have tk:(kids p).take (i+1)=(kids p).take i++[(kids p)[i]]:=by rw[vZ,vD b4];rfl
  have b9:szs ((kids p).take (i+1))=szs ((kids p).take i)+((kids p)[i]).sz:=by rw[tk];unfold szs;rw[vQ];simp
  have:=d2 (i+1);rw[tk];rw[tk]at b9;refine⟨.inl ⟨Z,_,Ai a1⟩,o,xx,(kids p)[i],L,n,m,s4,Z,U4.hv a2 (by rw[tk]at this;omega),hx.mono (c6 U4.k),AeG hh _ mk,Ad8 ok _ mk,λk h=>rk k (Ae9 mk h),λb H5 s5 rb V5 nb D5 w5 d5 d6 e8=>?_⟩;have a9:=V5.k _ _ c3 a1;have U5:=U4.then V5
  have keep:∀(b':Addr)(r:Wr),WdAt CP H5 b' r->WdAt CP (upd H5 li (.lst (a5++[.ref b]))) b' r:=λb' r D=>by
   obtain⟨e1,e2,e3,e4,e5⟩:=D;exact⟨e1,e2,e3,by rwa[upd_ne (Bu e4 a9 (by intro z;cases z))],by rwa[upd_ne (Bu e5 a9 (by intro z;cases z))]⟩
  refine⟨li,a5,.ref b,Z,Z,a9,by rw[<-uC a4,lr];exact zE (by omega:i<=8) (by decide),_,s5,_,rs++[rb],Z,?_,qa,Dl (Bh a4 λr v ⟨b',eb,D⟩=>⟨b',eb,keep b' r (D.kp U4.w V5.k)⟩) (.cons ⟨b,Z,keep b _ D5⟩ .nil),λr h=>?_,?_,by rw[vF,lr];rfl,λq h k hk=>?_⟩
  .rw[b9,Nat.mul_add]
   have U5:=U5.wk (E':=eK ((kids p).take i++[(kids p)[i]]) (rs++[rb])) (zB _) a2.f.op (λ_ z=>nomatch z) (λO ⟨f,g⟩=>⟨λz h=>?_,λj=>?_⟩) λO _ _ h g m=>h g (by show g∈(rs++[rb]).flatMap w3;rwa[List.flatMap_append])
   rotate_left
   .rw[List.zip_append (by rw[lr,zH];omega)]at h
    rcases vY.mp h with h|h
    .exact f z h
    rwa[mS h]
   .show cb (cbL _) _=cbL _
    rw[List.zip_append (by rw[lr,zH];omega),vQ,Ael];exact congrArg _ (J0 _).symm
   exact {U5 with k:=U5.k.trans (kpsUp vH),w:=U5.w.keep [li] (kpsUp vH) (tpLs a9) λb d3=>(by rwa[mS d3])}
  .rcases vY.mp h with z|z
   .obtain⟨w1,w2,w3⟩:=a3 r z
    exact⟨w1.up V5.lo,w2.kp V5 λg z=>(by cases z),w3⟩
   rw[mS z];exact⟨w5,d5,Int.le_trans (by have:=U4.lo;unfold Ws.nx;omega) d6⟩
  .exact List.pairwise_append.mpr ⟨pw,pairwise_singleton _ _,λr h r' h'=>by
    rw[mS h'];have:=(a3 r h).1.1.2.2.2;omega⟩
  rcases vY.mp h with z|z
  .exact V5.lv k (a8 q z k hk)
  rw[mS z]at hk;exact e8 k hk
 rintro Y H4 ⟨x4,s4,a5,rs,rfl,U4,a1,a4,a3,pw,lr,a8⟩
 rw[<-lw,take_length]at U4 a8;rw[<-lw]at lr;have b5:=U4.k _ _ (λz=>(zM.mp z).elim (Ne.symm ((ne_of_none ha a6).symm)) ((U1.w.objOff ha).2)) (g3 _ _ c9);have b2:=e6.mono (c6 U4.k);have rx:=R3.up r3 U4.lo;have e7:=a7.kp U4 λg z=>by cases z
 have b3:∀{d:Nat}{ks:List Int}{E:Int->Cd->Eff},d<=46->(∀k∈rsP p,(k∈ks\/∃q∈kids p,k∈rsP q))->(∀r cs,∀g∈(E r cs).A,s1.nx<=g)->(∀r cs,(E r cs).W=[])->(∀r cs O,(eK (kids p) rs).F O->(E r cs).F O->(fPt p x r cs O/\∀i,cb ((eK (kids p) rs).D O i) ((E r cs).D O i)=dX p x O i)/\((∀j:Nat,j<n->O.k j≠none)->O.v x≠none->O.v (x+1)≠none->O.v (x+2)≠none->KnL O (rs.flatMap w3)))->Fil C CP o a L n m (λ_ H'=>Q (.ref a) H') H4 s4 x d ks E:=λhd hk hA hE hF H' s' r cs V D hr hc hl=>by
  refine q a H' s' ⟨x,r,cs⟩ (((((((U3.more λb hb=>vI li hb).trans U4).drop (U1.k.nil a6 c3)).more λb hb=>vI a hb).trans V).drop na).wk (by omega) hv.f.op (λg z=>.inr ?_) (λO ⟨⟨_,f⟩,g⟩=>(hF r cs O f g).1) λO ⟨⟨_,f⟩,g⟩ kw h g' m=>?_) na D ⟨rx.up V.lo,hr,hc⟩ (e7.kp V λg z=>.inr (by have:=hA r cs g z;have:=r3.2.2.2;omega)) d9 λk h=>?_
  .have:=hA r cs g z
   have:=U1.lo;unfold Ws.nx at *;omega
  .rcases vY.mp m with m|m
   .rcases vY.mp m with m|m
    .exact h g' m
    exact(hF r cs O f g).2 (λj hj=>kw j (zD hj hv.nl)) (h _ vH) (h _ (vI _ vH)) (h _ (vI _ (vI _ vH))) g' m
   rw[hE]at m;cases m
  rcases hk k h with z|⟨q,hq,z⟩
  .exact hl k z
  exact V.lv k (a8 q hq k z)
 cases Adu p with
 |pr p1 p2 e hk=>
  rw[e]at lr;obtain⟨ra,rb,rfl⟩:∃ra rb,rs=[ra,rb]:=match rs,lr with | [a,b],_=>⟨a,b,rfl⟩
  cases a4 with
  |cons o1 t1=>
  cases t1 with
  |cons o2 t2=>
  cases t2 with
  |nil=>
  obtain⟨f,rfl,D1⟩:=o1;obtain⟨g,rfl,D2⟩:=o2;have w1:=a3 _ vH;have w2:=a3 _ (vI _ vH);refine⟨li,_,Z,.inl (Ai a1),Z,Dg ⟨Ai a1,Aa rfl,Ai a1,Aa rfl,?_⟩⟩
  exact⟨o,a,dx,f,g,v,p,x,cv,_,_,L,n,m,_,rfl,U4.hv a2 (by omega),b2,hk,ok,b5,D1,D2,rx,w1.1,w2.1,⟨w1.2.1,w2.2.1,(zR.mp pw).1 _ vH⟩,λH' s' r cs V D hr hc hl=>(b3 (E:=λr cs=>eC [ra.runs,rb.runs,ra.runs+1,ra.runs+2,rb.runs+1,rb.runs+2] (fPk p x r ra rb cs)) (zB _) (λk h=>(Aa2 h).elim (λz=>(AhN hk z).elim) λz=>z.imp (λz=>by rwa[Afx hk]at z) id) (λr cs g z=>by simp at z;have:=w1.2.2;have:=w2.2.2;omega) (λ_ _=>rfl) (λr cs O f g=>by
   rw[e]at f ⊢;have f1:=f (p1,_) vH;have f2:=f (p2,_) (vI _ vH);obtain⟨a,b⟩:=Abt hk e f1 f2 g
   exact⟨⟨a,λi=>(J0 _).trans ((congrArg _ (J0 _)).trans (b i))⟩,λsg hx b6 hs=>by
    obtain⟨m1,m2⟩:=Agz sg ok hk e f1 f2 g hx b6 hs;exact λg z=>(vY.mp z).elim (m1 g) (m2 g)⟩) H' s' r cs V D hr hc hl)⟩
 |rd p1 e hk=>
  rw[e]at lr;obtain⟨ra,rfl⟩:=List.length_eq_one_iff.mp lr;cases a4 with
  |cons o1 t1=>
  cases t1 with
  |nil=>
  obtain⟨f,rfl,D1⟩:=o1;have w1:=a3 _ vH;refine⟨li,_,Z,.inl (Ai a1),Z,Fh ⟨li,_,Z,.inl (Ai a1),Z,Dg ⟨Ai a1,Aa rfl,?_⟩⟩⟩
  exact⟨o,a,dx,f,v,p,x,cv,_,L,n,m,_,rfl,U4.hv a2 (by omega),b2,hk,ok,λk h=>rk k (AfJ h),b5,D1,rx,w1.1,w1.2.1,λH' s' r cs V D hr hc hl=>(b3 (E:=λr cs=>⟨[ra.runs,ra.runs+1,ra.runs+2],fRd p x r ra cs,λO i=>(some false,rdL p x ra O i.2),[]⟩) (by decide) (λk h=>(Aa2 h).elim (λz=>(AhD hk z).elim) id) (λr cs g z=>by simp at z;have:=w1.2.2;omega) (λ_ _=>rfl) (λr cs O f g=>by
   rw[e]at f ⊢;have f1:=f (p1,_) vH;obtain⟨a,b⟩:=Afo hk e f1 g
   exact⟨⟨a,λi=>(congrArg (cb · _) (J0 _)).trans (b i)⟩,λsg hx b6 hs=>by
    have m1:=Ag1 sg ok hk e f1 g hx b6 hs;exact λg z=>m1 g (by simpa using z)⟩) H' s' r cs V D hr hc hl)⟩
 |lf e hk=>
  rw[e]at lr;cases a4 with
  |cons _ _=>cases lr
  |nil=>
  refine⟨li,_,Z,.inl (Ai a1),Z,Fh ⟨li,_,Z,.inl (Ai a1),Z,Fh (?_)⟩⟩;exact⟨o,a,dx,v,p,x,.non,cv,L,n,m,_,Z,U4.hv a2 (by omega),b2,hk,ok,rk,b5,rx,λH' s' r cs V D hr hc hl=>(b3 (by decide) (λk h=>.inl h) (λr cs g z=>(by cases z)) (λ_ _=>rfl) (λr cs O f g=>⟨⟨g,λi=>by rw[e];rfl⟩,λ_ _ _ _ g z=>(by cases z)⟩) H' s' r cs V D hr hc hl)⟩
def AcI(F:Ao K mg "wire_part" ["wiring","part"] G6)(T:Cn K mg C CP)(bM:A4 P w K mg base 3 C "new_part" ["self"] (AaF C CP))(aT:Ae P w K mg base 1 "inner_parts" ["part"] (Ob K))(z:Ae P w K mg base 5 "wire_pair" ["wiring","part","whole","first","second"] (Rt K C CP))(bE:Ae P w K mg base 5 "wire_round" ["wiring","part","whole","inner"] (O9 K C CP))(bL:Ae P w K mg base 5 "wire_leaf" ["wiring","part","whole"] (Rz K C CP)) :
  ∀m,Ae P w K mg base (m+6) "wire_part" ["wiring","part"] (L0 K C CP m)
 |0=>(F.zero λvs H Q E h=>by obtain⟨o,v,p,L,n,m,s,_,_,_,hh⟩:=h;exact absurd hh (not_le_of_gt (Pt.hg_pos p))).mono (by decide)
 |m+1=>Acw F T bM aT z bE bL (AcI F T bM aT z bE bL m)
def AdF:Ak ["self","signs"] ["self","signs"] (Af Ow):=Ay (by trivial)
inductive Tm(C:Addr)(vs:List V)(H:Hp)(Q:VK):Prop
 |mk(o nl' dx gl:Addr)(w:Str)(ns:List Int)(fs:List (Str×V))(gvs:List V)(_:vs=[.ref o,.str w,.ref nl'])(_:H o=some (.ins C dx fs))(_:fs.lookup ("gates": Str)=some (.ref gl))(_:H gl=some (.lst gvs))(_:H nl'=some (.lst (ns.map V.int)))(_:gvs.length<=1000000)(_:∀v H',KpS [gl] H H'->H' gl=some (.lst (gvs++[v]))->GwAt H' (w,ns) v->Q (.int (gvs.length:Int)) H')
def Zc(C:Addr):Sp:=λvs H Q _=>Tm C vs H Q
inductive Qz(C:Addr)(vs:List V)(H:Hp)(Q:VK):Prop
 |mk(o dx gl:Addr)(fs:List (Str×V))(gvs:List V)(_:vs=[.ref o])(_:H o=some (.ins C dx fs))(_:fs.lookup ("gates": Str)=some (.ref gl))(_:fs.lookup ("gate": Str)=none)(_:H gl=some (.lst gvs))(_:gvs.length<=1000000)(_:∀v H',KpS [gl] H H'->H' gl=some (.lst (gvs++[v]))->GwAt H' ("some",[]) v->Q (.int (gvs.length:Int)) H')
def O7(C:Addr):Sp:=λvs H Q _=>Qz C vs H Q
def wf1(gl:Addr):List (Str×V):=[("gates",.ref gl)]
def wf2(gl sl:Addr):List (Str×V):=[("gates",.ref gl),("signs",.ref sl)]
def wf3(gl sl nl:Addr):List (Str×V):=[("gates",.ref gl),("signs",.ref sl),("senders",.ref nl)]
def ws0(n:Nat):Ws:=⟨List.replicate n ("some",[]),List.replicate n [],[],(List.range n).map λ(i:Nat)=>(i:Int)⟩
inductive S4(C:Addr)(vs:List V)(H:Hp)(Q:VK):Prop
 |mk(o dx:Addr)(n:Nat)(_:vs=[.ref o,.int n])(_:H o=some (.ins C dx []))(_:n<=1000)(_:∀L H',KpS [o] H H'->Bd C H' o L n (ws0 n)->(∀b∈L.S,H b=none)->H L.sl=none->Q .non H')
def Xx(C:Addr):Sp:=λvs H Q _=>S4 C vs H Q
def Ahk(F:Fun K "gate" "Wiring.gate" Xf f fd)(T:Cn K mg C CP):Cc P w K mg base CX0 1 f fd ["self","word","numbers"] (Zc C):=by
 refine F.ok Zm (λvs H Q E h=>?_) (λcdv A _ _ H _ Q E _ h=>?_)
 .obtain⟨o,nl',dx,gl,w,ns,fs,gvs,rfl,_⟩:=h;rfl
 obtain⟨o,nl',dx,gl,w,ns,fs,gvs,rfl,ho,hf,hg,a6,hb,q⟩:=h
 refine⟨_,(Ab (A6 (F2 uG uK uJ Da (pfd (pv 0)) (pa1 (Ap (pa2 (pv 1) (Dp Hd rfl T.n_tuple (by trivial) (pa1 (pv 2))))))))
  (Ad (Ag (Au W8 (Bs C9 rfl T.n_len PySem.boot_len (pa1 (pfd (pv 0)))) Am)))),?_⟩
 refine⟨ho,T.cl,T.nG,hf,.inl ⟨Z,_,Ai hg⟩,nl',_,Z,.inl ⟨Ai a6,λt2 a1=>⟨zN2,λt1 a3=>?_⟩⟩⟩;have g1:=Ac a1 (.tup (ns.map V.int));have g2:=Ac a3 (.tup [V.str w,.ref t2]);have a2:=g1.trans g2;refine⟨gl,gvs,.ref t1,Z,Z,(a2 _ _ hg),Ac3 (by omega),?_⟩
 have a7:(upd (upd (upd H t2 (.tup (ns.map V.int))) t1 (.tup [V.str w,.ref t2])) gl (.lst (gvs++[.ref t1]))) o=some (.ins C dx fs):=by
  rw[upd_ne (Bu ho hg (by simp))];exact a2 _ _ ho
 refine⟨a7,T.cl,T.nG,hf,gl,_,Z,.inl (Ai qa),_,_,Z,Z,?_⟩
 have e:(((gvs++[V.ref t1]).length))-1=(gvs.length:Int):=by
  simp
 rw[e];have a4:t1≠gl:=λz=>by rw[z,g1 _ _ hg]at a3;cases a3
 have a8:t2≠gl:=λz=>by simp_all
 exact q (.ref t1) _ ((sameKp a2).trans (kpsUp vH)) qa ⟨t1,t2,Z,by rw[upd_ne a4];exact qa,by rw[upd_ne a8];exact g2 _ _ qa⟩
def AhX(F:Fun K "later" "Wiring.later" Sb f fd)(T:Cn K mg C CP)(aL:A4 P w K mg base 1 C "gate" ["self","word","numbers"] (Zc C)):Cc P w K mg base CX0 2 f fd ["self"] (O7 C):=by
 refine F.ok Ui (λvs H Q E h=>?_) (λcdv A _ _ H _ Q E hr h=>?_)
 .obtain⟨o,dx,gl,fs,gvs,rfl⟩:=h;rfl
 obtain⟨o,dx,gl,fs,gvs,rfl,ho,hf,z,hg,hb,q⟩:=h;refine⟨_,(Ad (Ag (Al aL hr Ax (pv 0) (pa2 Ah (An Bm))))),?_⟩;refine⟨ho,z,zN0,λl hl=>?_⟩;have g:=Ac hl (.lst []);exact⟨o,l,dx,gl,"some",[],fs,gvs,Z,g _ _ ho,hf,g _ _ hg,qa,hb,λv _ k e1 e2=>q v _ ((sameKp g).trans k) e1 e2⟩
def Ah2(F:Fun K "__init__" "Wiring.__init__" Ow f fd)(T:Cn K mg C CP)(iV:A4 P w K mg base 2 C "later" ["self"] (O7 C)):Cc P w K mg base CX0 3 f fd ["self","signs"] (Xx C):=by
 refine F.ok AdF (λvs H Q E h=>?_) (λcdv A outer s0 H vs Q E hr h=>?_)
 .obtain⟨o,dx,n,rfl,_⟩:=h;rfl
 obtain⟨o,dx,n,rfl,ho,hn,q⟩:=h
 refine⟨_,(Ab (Cg (pv 0) (An Bm) rfl)
  (Ab (Cg (pv 0) (Cp (g:=(Bn 0)) (tc:=Ex) (te:=(Qq C "later" (O7 C) [] E0 (Aw 1) Cs)) ["sign"] [("self",0)] rfl (Bx (Af Ow) ["self","signs"] (by trivial)) (Fn rfl T.n_range (pa1 (pv 1))) (λs2 H2 fp cl C=>Aq (i:=0) (show Nodup [("sign": Str),("self": Str)] from by trivial) rfl (Or.inl rfl)) (A9 (by decide)) (λs2 H2 fp cl C=>Fg) (λs2 H2 fp cl C=>(Jr iV hr Ax (pv 1)))) rfl)
  (Ab (Cg (pv 0) (Cp (g:=(Bn 0)) (tc:=Ex) (te:=(Z8 Cs)) ["sign"] [] rfl (Bx (Af Ow) ["self","signs"] (by trivial)) (Fn rfl T.n_range (pa1 (pv 1))) (λs2 H2 fp cl C=>Aq (i:=0) (show Nodup [("sign": Str)] from by trivial) rfl (Or.inl rfl)) (A9 (by decide)) (λs2 H2 fp cl C=>Fg) (λs2 H2 fp cl C=>(An Bm))) rfl)
  (Ad (Cg (pv 0) Mh rfl))))),?_⟩
 refine⟨zN0,λgl hgl=>?_⟩;have g1:=Ac hgl (.lst []);have go:gl≠o:=λz=>by simp_all
 refine⟨g1 _ _ ho,T.cl,T.nG,(by simp),?_⟩;have c9:(upd (upd H gl (.lst [])) o (.ins C dx (wf1 gl))) gl=some (.lst []):=by rw[upd_ne go];exact qa
 have c4:(upd (upd H gl (.lst [])) o (.ins C dx (wf1 gl))) o=some (.ins C dx (wf1 gl)):=qa;have k1:KpS [o] H (upd (upd H gl (.lst [])) o (.ins C dx (wf1 gl))):=(sameKp g1).trans (kpsUp vH);have d2:Dy "gates" (V.ref gl) ([]:List (Str×V))=(wf1 gl):=rfl;rw[d2];generalize upd (upd H gl (.lst [])) o (.ins C dx (wf1 gl))=H1 at *;refine⟨n,Z,by omega,Int.lt_of_le_of_lt (Int.ofNat_le.mpr hn) (by decide),?_⟩;rw[uI];refine Fq (lo:=0) (n:=n) (λi ys H'=>KpS [gl] H1 H'/\ys=(List.range i).map (λ(i:Nat)=>V.int (i:Int))/\∃gvs,H' gl=some (.lst gvs)/\PySem.Paired (GwAt H') (List.replicate i ("some",[])) gvs) ⟨KpS.refl _ _,Z,[],c9,.nil⟩ (zA hn (by decide)) ?_ ?_
 .rintro i ys H2 N hi ⟨k2,rfl,gvs,a6,a9⟩ hN b8
  have lg:=uC a9;rw[vU]at lg;have a3:=k2 _ _ (λz=>go (mS z).symm) c4;refine⟨a3,Z,o,dx,gl,_,gvs,Z,a3,Z,Z,a6,by omega,λv H3 k3 e3 w3=>?_⟩;refine hN _ _ (by simp) ⟨k2.trans k3,?_,_,e3,?_⟩
  .rw[range_succ,vQ,<-lg];rfl
  .rw[List.replicate_succ']
   exact Dl (Bh a9 λ_ _ a=>a.mono (λb xs e=>k3 b _ (λz=>by simp_all) e)) (.cons w3 .nil)
 rintro ys H2 b8 ⟨k2,rfl,gvs,a6,a9⟩ sl a4;have a3:=k2 _ _ (λz=>go (mS z).symm) c4;have g3:=Ac a4 (.lst ((List.range n).map (λ(i:Nat)=>V.int (i:Int))));refine⟨g3 _ _ a3,T.cl,T.nS,(by show 1<1000;decide),?_⟩;have so:sl≠o:=λz=>by simp_all
 have sg:sl≠gl:=λz=>by simp_all
 have c6:Dy "signs" (V.ref sl) (wf1 gl)=wf2 gl sl:=rfl;rw[c6];have b6:(upd (upd H2 sl (.lst ((List.range n).map (λ(i:Nat)=>V.int (i:Int))))) o (.ins C dx (wf2 gl sl))) sl=some (.lst ((List.range n).map (λ(i:Nat)=>V.int (i:Int)))):=by rw[upd_ne so];exact qa
 have a5:(upd (upd H2 sl (.lst ((List.range n).map (λ(i:Nat)=>V.int (i:Int))))) o (.ins C dx (wf2 gl sl))) o=some (.ins C dx (wf2 gl sl)):=qa;have b5:(upd (upd H2 sl (.lst ((List.range n).map (λ(i:Nat)=>V.int (i:Int))))) o (.ins C dx (wf2 gl sl))) gl=some (.lst gvs):=by rw[upd_ne go,upd_ne (Ne.symm sg)];exact a6
 have k3:KpS [o] H2 (upd (upd H2 sl (.lst ((List.range n).map (λ(i:Nat)=>V.int (i:Int))))) o (.ins C dx (wf2 gl sl))):=(sameKp g3).trans (kpsUp vH);generalize upd (upd H2 sl (.lst ((List.range n).map (λ(i:Nat)=>V.int (i:Int))))) o (.ins C dx (wf2 gl sl))=H3 at *;have b4:∀{A B:Hp}{c:Addr}{u:HO},KpS [c] A B->A c=u->(∀xs,u≠.tup xs)->Tp A B:=λk e h b xs eb=>k b _ (λz=>by rw[mS z,e]at eb;exact h xs (uH eb)) eb
 refine⟨n,Z,by omega,Int.lt_of_le_of_lt (Int.ofNat_le.mpr hn) (by decide),?_⟩;rw[uI];refine Fq (lo:=0) (n:=n) (λi ys H'=>Same H3 H'/\∃rs:List Addr,ys=rs.map V.ref/\rs.length=i/\rs.Nodup/\∀r∈rs,H3 r=none/\H' r=some (.lst [])) ⟨Bv _,[],Z,Z,nodup_nil,λr hr=>nomatch hr⟩ (zA hn (by decide)) ?_ ?_
 .rintro i ys H4 N hi ⟨k4,rs,rfl,lr,nd,a2⟩ hN b8
  refine⟨zN0,λr hr=>?_⟩;have g:=Ac hr (.lst []);refine hN _ _ (by rw[vF,vG];omega) ⟨k4.trans g,rs++[r],by rw[vQ];rfl,by rw[vF,vG,lr],?_,?_⟩
  .refine nodup_append.mpr ⟨nd,zS.mpr ⟨λz=>(nomatch z),nodup_nil⟩,λa ha b hb e=>?_⟩
   simp_all
  .intro b hb
   rcases vY.mp hb with z|z
   .exact⟨(a2 b z).1,g _ _ (a2 b z).2⟩
   .rw[mS z]
    refine⟨?_,qa⟩;cases e:H3 r with
    |none=>rfl
    |some u=>rw[k4 _ _ e]at hr;cases hr
 rintro ys H4 b8 ⟨k4,rs,rfl,lr,nd,a2⟩ nl a1;have g5:=Ac a1 (.lst (rs.map V.ref));refine⟨g5 _ _ (k4 _ _ a5),T.cl,T.nN,(by show 2<1000;decide),?_⟩;have d3:Dy "senders" (V.ref nl) (wf2 gl sl)=wf3 gl sl nl:=rfl;rw[d3];have no:nl≠o:=λz=>by rw[z,k4 _ _ a5]at a1;cases a1
 have ng:nl≠gl:=λz=>by rw[z,k4 _ _ b5]at a1;cases a1
 have ns:nl≠sl:=λz=>by rw[z,k4 _ _ b6]at a1;cases a1
 have nr:nl∉rs:=λz=>by simp_all
 have k5:KpS [o] H3 (upd (upd H4 nl (.lst (rs.map V.ref))) o (.ins C dx (wf3 gl sl nl))):=((sameKp k4).trans (sameKp g5)).trans (kpsUp vH);have c8:(upd (upd H4 nl (.lst (rs.map V.ref))) o (.ins C dx (wf3 gl sl nl))) nl=some (.lst (rs.map V.ref)):=by rw[upd_ne no];exact qa
 have b7:(upd (upd H4 nl (.lst (rs.map V.ref))) o (.ins C dx (wf3 gl sl nl))) o=some (.ins C dx (wf3 gl sl nl)):=qa;have b1:∀r∈rs,H3 r=none/\(upd (upd H4 nl (.lst (rs.map V.ref))) o (.ins C dx (wf3 gl sl nl))) r=some (.lst []):=λr hr=>⟨(a2 r hr).1,by rw[upd_ne (λz=>by simp_all)];exact g5 _ _ (a2 r hr).2⟩
 generalize upd (upd H4 nl (.lst (rs.map V.ref))) o (.ins C dx (wf3 gl sl nl))=H5 at *;refine λld b2=>?_
 have g6:=Ac b2 (.dK []);refine⟨g6 _ _ b7,T.cl,T.nL,(by show 3<1000;decide),?_⟩;have lo:ld≠o:=λz=>by simp_all
 have k6:KpS [o] H5 (upd (upd H5 ld (.dK [])) o (.ins C dx (wsF ⟨dx,gl,sl,nl,ld,rs⟩))):=(sameKp g6).trans (kpsUp vH);have a7:∀{c:Addr},c≠o->c∉[o]:=λh z=>h (mS z)
 have ro:∀r∈rs,r≠o:=λr hr z=>by simp_all
 have c5:KpS [o] H H2:=λb u nb e=>k2 b u (λz=>by simp_all) (k1 b u nb e)
 have c3:=c5.trans k3;have b9:=c3.trans k5
 have a8:∀{A:Hp}{b:Addr},KpS [o] H A->A b=none->b≠o->H b=none:=λ{A b}k e nb=>by
  cases eb:H b with
  |none=>rfl
  |some u=>rw[k b u (a7 nb) eb]at e;cases e
 refine q ⟨dx,gl,sl,nl,ld,rs⟩ _ (b9.trans k6) ⟨gvs,qa,k6 _ _ (a7 go) (k5 _ _ (λz=>go (mS z)) b5),Bh (Bh (Bh a9 λ_ _ a=>a.mono (b4 k3 a3 (λ_ z=>nomatch z))) λ_ _ a=>a.mono (b4 k5 a5 (λ_ z=>nomatch z))) λ_ _ a=>a.mono (b4 k6 b7 (λ_ z=>nomatch z)),k6 _ _ (a7 so) (k5 _ _ (λz=>so (mS z)) b6),k6 _ _ (a7 no) c8,?_,?_,?_⟩ ?_ (a8 c5 a4 so)
 .refine D9 (by show(List.replicate n []).length=rs.length;rw[vU,lr]) λj x e=>?_
  have hj:=(uA.mp e).1;have hj:j<n:=by have h:j<(List.replicate n ([]:List Int)).length:=hj;rwa[vU]at h
  have b3:j<rs.length:=by omega
  refine⟨rs[j],vD b3,?_⟩;rw[(List.eq_of_mem_replicate (vR e))];exact k6 _ _ (a7 (ro _ (zL b3))) (b1 _ (zL b3)).2
 .show(upd (upd H5 ld (.dK [])) o (.ins C dx (wsF ⟨dx,gl,sl,nl,ld,rs⟩))) ld=some (.dK [])
  rw[upd_ne lo];exact qa
 .have rn:∀{c:Addr}{u:HO},H3 c=u->c∉rs:=λe z=>by rw[(b1 _ z).1]at e;cases e
  refine zS.mpr ⟨?_,zS.mpr ⟨?_,zS.mpr ⟨nr,nd⟩⟩⟩
  .intro z
   rcases zM.mp z with z|z
   .exact sg z.symm
   .rcases zM.mp z with z|z
    .exact ng z.symm
    .exact rn b5 z
  .intro z
   rcases zM.mp z with z|z
   .exact ns z.symm
   .exact rn b6 z
 .intro b hb
  rcases zM.mp hb with z|z
  .rwa[z]
  .rcases zM.mp z with z|z
   .rw[z];exact a8 b9 b2 lo
   .exact a8 c3 (b1 b z).1 (ro b z)
end
inductive Y5(K:FA)(vs:List V)(H:Hp)(Q:VK):Prop
 |mk(v)(n:_)(_:vs=[v])(_:PAt K H n v)(_:isT n=true)(_:E7 n=true)(_:cnt n<=900)(_:∀r ws H',Same H H'->H' r=some (.lst ws)->A3 K H' (pre n) ws->Q (.ref r) H')
def Adc(K:FA):Sp:=λvs H Q _=>Y5 K vs H Q
def Ah5(F:Ao K mg "every_part" ["part"] Ir)(aT:Ae P w K mg base 1 "inner_parts" ["part"] (Ob K)):Ae P w K mg base 2 "every_part" ["part"] (Adc K):=by
 refine F.ok G8 (λvs H Q E h=>?_) (λf _ A _ s H _ Q E hr h=>?_)
 .obtain⟨v,n,rfl⟩:=h
  rfl
 obtain⟨v,n,rfl,hv,hT,hs,_,q⟩:=h
 refine⟨_,Ab (Q4 (i:=1) G8.nd rfl (Or.inl rfl) (An Bm))
  (Ab (Q4 (i:=2) G8.nd rfl (Or.inl rfl) (An (Ba (pv 0) Bm)))
  (Ab (Mq PassesOwn.never (Ek (pv 2) (λ_=>rfl))
   (Ab (Q4 (i:=3) G8.nd rfl (Or.inl rfl) (No uG uZ uY Nh (pv 2)))
   (Ab (A6 (F2 uG uK uJ Da (pv 1) (Ba (pv 3) Bm)))
   (Ad (A6 (F2 uG PySem.F.slot_list_extend PySem.F.type_list_extend Aby (pv 2) (Ba (U0 aT hr rfl Ax (Ba (pv 3) Bm)) Bm)))))))
  (Ad (Ag (pv 1))))),?_⟩
 refine⟨zN0,λfo b3=>⟨zN1,λwa a5=>?_⟩⟩
 have a4:wa≠fo:=by
  rintro rfl;rw[qa]at a5;cases a5
 have a8:=by rw[upd_ne a4]at a5;exact a5
 dsimp only[Bn,tSeq]
 refine Ph (λY H1=>∃fs st us ws c3,Y=[some v,some (.ref fo),some (.ref wa),c3]/\Same H H1/\H1 fo=some (.lst us)/\H1 wa=some (.lst ws)/\A3 K H1 fs us/\A3 K H1 st ws/\fs++Eg st=pre n/\(∀x∈st,isT x=true)/\A5 st=true)
  (λY H1=>match H1 fo with|some (.lst us)=>1000-us.length|_=>0) ?_ ?_ ?_
 .refine⟨[],[n],[],[v],none,Z,(Ac b3 _).trans (Ac a5 _),?_,qa,.nil,?_,?_,?_,?_⟩
  .rw[upd_ne a4.symm,qa]
  .exact .cons (hv.mono ((Ac b3 _).trans (Ac a5 _)).tp) .nil
  .show Eg [n]=pre n
   rw[Av,B9,nil_append]
  .intro x hx
   rw[mS hx];exact hT
  exact J9 hs S7
 .rintro Y H1 ⟨fs,st,us,ws,c3,rfl,g0,hf,hw,aF,aS,e,b2,c8⟩
  refine⟨_,.inl ⟨ws,Ai hw,Z⟩,?_⟩;refine As (λc=>?_) (λc=>?_)
  ·
   have b9:st≠[]:=by
    rintro rfl;have:=aS.len;cases ws with
    |nil=>simp at c
    |cons _ _=>simp at this
   obtain⟨a2,x,rfl⟩:∃a2 x,st=a2++[x]:=⟨st.dropLast,st.getLast b9,(List.dropLast_concat_getLast b9).symm⟩;obtain⟨a1,wx,rfl,c6,aX⟩:=aS.split;obtain⟨y,rfl,aY⟩:=aX.one;have hx:=b2 x (by simp)
   obtain⟨ns,rfl⟩:∃ns,x=.t ns:=by
    cases x with
    |t ns=>exact⟨ns,rfl⟩
    |s _=>cases hx
    |i _=>cases hx
   have a9:fs.length+(Eg (a2++[.t ns])).length=cnt n:=by
    have:=congrArg length e;rw[vF]at this;exact this
   have b8:Eg (a2++[.t ns])=.t ns::(Eg ns++Eg a2):=by
    rw[Lh,Av,B9,D3];rfl
   have d2:=aF.len;have sl:=Ms c8;have b7:=Aci sl.2;have c9:fs.length<1000:=by rw[b8]at a9;simp at a9;omega
   have c5:(a1++[y]).length<=900:=by
    have h1:=aS.len
    have h2:=by
     have:∀l:List Nd,(∀x∈l,isT x=true)->l.length<=(Eg l).length:=by
      intro l
      induction l with
      |nil=>exact λ_=>zZ _
      |cons z r ih=>
       intro h;rw[Av,vF,vX];have hz:=h z vH;have:=ih λx hx=>h x (vI _ hx)
       cases z with
       |t zs=>rw[D3,vX];omega
       |s _=>cases hz
       |i _=>cases hz
     exact this _ b2
    omega
   refine⟨.inl ⟨Z,_,Ai hw⟩,wa,_,y,Z,Z,hw,by simp,?_⟩;have b1:=a4.symm;have b4:(upd H1 wa (.lst (a1++[y]).dropLast)) fo=some (.lst us):=by rwa[upd_ne b1]
   refine⟨.inl ⟨Z,_,Ai b4⟩,fo,_,_,Z,Z,b4,Hk (by omega),?_⟩;have T2:=(tpLs hw).trans (tpLs (o:=.lst (us++[y])) b4);have a6:(upd (upd H1 wa (.lst (a1++[y]).dropLast)) fo (.lst (us++[y]))) wa=some (.lst a1):=by rw[upd_ne a4,qa];simp
   have b5:(upd (upd H1 wa (.lst (a1++[y]).dropLast)) fo (.lst (us++[y]))) fo=some (.lst (us++[y])):=qa;refine⟨.inl ⟨Z,_,Ai a6⟩,y,ns,Z,aY.mono T2,Uw b7,λr zs a3 hz=>?_⟩;have a7:=ne_of_none a6 a3;have b6:=ne_of_none b5 a3;have zl:=hz.len;have il:(inner ns).length<=ns.length:=length_filter_le _ _;refine⟨wa,r,a1,zs,Z,Z,by rwa[upd_ne a7],qa,?_,?_⟩
   .have:=Uw b7
    simp at c5;exact Cq (by omega)
   have T4:=(T2.trans (Tp.new (o:=.lst zs) a3)).trans (tpLs (o:=.lst (a1++zs)) (by rwa[upd_ne a7]));refine⟨⟨fs++[.t ns],a2++inner ns,us++[y],a1++zs,_,Z,?_,?_,qa,?_,?_,?_,?_,?_⟩,?_⟩
   .have c4:H r=none:=by
     cases e:H r with
     |none=>rfl
     |some o=>
      rw[upd_ne b6.symm,upd_ne a7.symm]at a3;rw[(g0 r o e)]at a3;cases a3
    exact(((g0.young a8 _).young b3 _).young c4 _).young a8 _
   .rw[upd_ne b1,upd_ne b6]
    exact b5
   .exact(aF.mono T4).append (.cons (aY.mono T4) .nil)
   .have T5:=
     (Tp.new (o:=.lst zs) a3).trans (tpLs (o:=.lst (a1++zs)) (by rwa[upd_ne a7]))
    exact(c6.mono T4).append (hz.mono T5)
   .rw[Lh,Qr,<-e,b8]
    simp
   .intro x hx
    rcases vY.mp hx with z|z
    .exact b2 x (zY _ z)
    exact Aeu x z
   .exact Nv sl.1 (Lg (Ae1 b7))
   show(match (upd (upd (upd (upd H1 wa (.lst (a1++[y]).dropLast)) fo (.lst (us++[y]))) r (.lst zs)) wa (.lst (a1++zs))) fo with|some (.lst us)=>1000-us.length|_=>0)<(match H1 fo with|some (.lst us)=>1000-us.length|_=>0)
   rw[upd_ne b1,upd_ne b6,b5,hf];show 1000-(us++[y]).length<1000-us.length;rw[vF,vG];omega
  ·
   have c7:ws=[]:=by
    cases ws with
    |nil=>rfl
    |cons _ _=>simp at c
   subst c7;have:st=[]:=length_eq_zero_iff.mp aS.len;subst this;rw[B9,zK]at e;subst e;exact(q fo us H1 g0 hf aF)
 exact λY H Q Q' h=>Jx λv H ⟨k,t,q⟩=>⟨k,t,h _ _ q⟩
def Du:Nd->Option Int
 |.t (.s w::.i k::_)=>if w ="rest" \/ w ="again" then some k else none
 |_=>none
def Vj:Nd->Bool
 |.t (.s _::.i _::_)=>true
 |.t (.s w::_)=>decide (¬w ="rest" /\ ¬w ="again")
 |_=>false
def okA(n:Nd):Bool:=(pre n).all Vj
def rests(n:Nd):List Int:=(pre n).filterMap Du
structure Aap(K:FA)(H:Hp)(n:Nd)(v:V):Prop where
 at':PAt K H n v
 ti:isT n=true
 sl:E7 n=true
 ct:cnt n<=900
 ok:okA n=true
 rl:(rests n).length<64
inductive Sr(K:FA)(vs:List V)(H:Hp)(Q:VK):Prop
 |mk(v)(n:_)(_:vs=[v])(_:Aap K H n v)(_:∀r(ms:List Int)H',Same H H'->H' r=some (.lst (ms.map V.int))->ms.Perm (rests n)->ms.Pairwise (·<=·)->Q (.ref r) H')
def Zl(K:FA):Sp:=λvs H Q _=>Sr K vs H Q
def Abm{x:Nd}(h:Vj x):∃(w:Str)(ys:List Nd),x=.t (.s w::ys)/\((w ="rest" \/ w ="again")->∃k zs,ys=.i k::zs):=by
 cases x with
 |s _=>cases h
 |i _=>cases h
 |t xs=>
  cases xs with
  |nil=>cases h
  |cons a r=>
   cases a with
   |i _=>cases h
   |t _=>cases h
   |s w=>
    refine⟨w,r,Z,λhw=>?_⟩;cases r with
    |nil=>
     have h:=vN h;rcases hw with z|z
     .exact absurd z h.1
     exact absurd z h.2
    |cons b r'=>
     cases b with
     |i k=>exact⟨k,r',rfl⟩
     |s _=>
      have h:=h;have h:=vN h;rcases hw with z|z
      .exact absurd z h.1
      exact absurd z h.2
     |t _=>
      have h:=h;have h:=vN h;rcases hw with z|z
      .exact absurd z h.1
      exact absurd z h.2
def AiA(F:Ao K mg "rests_of" ["part"] Iw)(T:Txt mg)(eG:Ae P w K mg base 2 "every_part" ["part"] (Adc K)):Ae P w K mg base 3 "rests_of" ["part"] (Zl K):=by
 refine F.ok Xj (λvs H Q E h=>?_) (λf _ A _ s H vs Q E _ h=>?_)
 .obtain⟨v,n,rfl⟩:=h
  rfl
 obtain⟨v,n,rfl,N,q⟩:=h;refine⟨_,(Ad (Ag (Bs O3 rfl T.n_sorted (by trivial) (pa1 (Cp (tc:=(tOr (Ff (tOp rEq (tOp (E3 K) (Aw 0) (tC (.int 0))) (tC (.str "rest")))) (Ff (tOp rEq (tOp (E3 K) (Aw 0) (tC (.int 0))) (tC (.str "again")))))) (te:=(tOp (E3 K) (Aw 0) (tC (.int 1)))) ["inner"] [] rfl (Bx (Af Iw) ["part"] (by trivial)) (Cf (pcl eG (pa1 (pv 0)))) (λs2 H2 fp cl C=>Aq (i:=0) (show Nodup [("inner": Str)] from by trivial) rfl (Or.inl rfl)) (A9 (by decide)) (λs2 H2 fp cl C=>Dj (PW.pt (Ha (pce (pix (pv 0)) Ah) (F8 (pce (pix (pv 0)) Ah))))) (λs2 H2 fp cl C=>(pix (pv 0)))))))),?_⟩;refine⟨v,n,Z,N.at',N.ti,N.sl,N.ct,λr ws H1 g1 a2 aP=>?_⟩;refine⟨r,Z,⟨_,Ai a2⟩,?_⟩;have _:=aP.len;have b1:(pre n).length<=900:=N.ct;refine Db (K:=K) (xs:=ws) (λi ys H'=>H'=H1/\ys=(((pre n).take i).filterMap Du).map V.int) ⟨Z,by simp⟩ (Cq (by omega)) (λi ys H' ⟨e,_⟩=>by rw[e];exact Ai a2) ?_ ?_
 .rintro i x ys H' Nx hi ⟨rfl,rfl⟩ hN a6
  obtain⟨nd,hn,a4⟩:=aP.at hi;obtain⟨wd,zs,rfl,hw⟩:=Abm (all_eq_true.mp N.ok nd (vR hn));obtain⟨a,vs,rfl,ha,hx⟩:=a4.get;unfold A3 at hx;obtain⟨v1,b2,rfl,aX,aY⟩:=hx;cases aX.str
  have a3:((pre n).take (i+1)).filterMap Du=((pre n).take i).filterMap Du++(Du (.t (.s wd::zs))).toList:=by
   rw[take_add_one,hn];cases e:Du (.t (.s wd::zs))<;>simp[e]
  have yes:(wd ="rest" \/ wd ="again")->tOp (E3 K) (Aw 0) (tC (.int 1)) ((Lo 1 [] (L2.start ["part"] [v])).set 0 (some (.ref a))) H' λy H4=>Nx ((((pre n).take i).filterMap Du).map V.int++[y]) H4:=by
   intro a1;obtain⟨k,a7,rfl⟩:=hw a1;unfold A3 at aY;obtain⟨v2,a9,rfl,aZ,_⟩:=aY;cases aZ.int
   refine⟨ha.sq,Aa rfl,hN _ _ ?_ ⟨Z,?_⟩⟩
   .rw[vF,vG];omega
   rw[a3]
   have:Du (.t (.s wd::.i k::a7))=some k:=if_pos a1;rw[this];simp
  have no:¬(wd ="rest" \/ wd ="again")->Nx ((((pre n).take i).filterMap Du).map V.int) H':=by
   intro a1;refine hN _ _ (by omega) ⟨Z,?_⟩;rw[a3]
   have:Du (.t (.s wd::zs))=none:=by
    unfold Du;split
    .rename_i e
     cases e
     exact if_neg a1
    rfl
   rw[this];simp
  refine⟨ha.sq,Aa rfl,Z,?_⟩;refine As (λc=>?_) (λc=>?_)
  .exact Dg (yes (.inl (V.str.inj (vN c))))
  refine⟨ha.sq,Aa rfl,Z,?_⟩
  refine As (λc2=>?_) (λc2=>?_)
  .exact yes (.inr (V.str.inj (vN c2)))
  refine no λz=>?_
  rcases z with z|z
  .exact c (vK (congrArg V.str z))
  exact c2 (vK (congrArg V.str z))
 rintro ys H' a6 ⟨rfl,rfl⟩ D hD
 have e:((pre n).take ws.length).filterMap Du=rests n:=by
  rw[vT (by omega)];rfl
 rw[e];exact⟨D,rests n,Z,Ai qa,N.rl,λr2 ms a5 hp hs=>q r2 ms _ ((g1.trans (Ac hD _)).trans (Ac a5 _)) qa hp hs⟩
def AaA{w:Str}(h:¬(w ="rest" \/ w ="again"))(k:Int)(r:List Nd):Du (.t (.s w::.i k::r))=none:=by rw[Du,if_neg h]
def AfE{w:Str}(h:w ="rest" \/ w ="again")(k:Int)(r:List Nd):Du (.t (.s w::.i k::r))=k:=by rw[Du,if_pos h]
def AfI{w:Str}(h:¬w ="rest" /\ ¬w ="again")(xs r:List Nd):Vj (.t (.s w::.t xs::r)):=vK h
def Ahh{w:Str}(h:¬w ="rest" /\ ¬w ="again"):Vj (.t [.s w]):=vK h
def AfA(p:Pt):∃xs,p.nd=.t xs:=by cases p<;>exact⟨_,Z⟩
structure NdF(p:Pt):Prop where
 rs:rests p.nd=rsP p
 ct:cnt p.nd=p.sz
 sl:E7 p.nd=true
 ok:okA p.nd=true
def ndF:∀{p:Pt},okN n p->NdF p:=by
 have z:∀(x:Nd),Eg [x]=pre x:=λx=>by rfl
 have one:∀(w:Str)(k:Int)(p:Pt),¬(w ="rest" \/ w ="again")->NdF p->rests (.t [.s w,.i k,p.nd])=rsP p/\cnt (.t [.s w,.i k,p.nd])=p.sz+1/\E7 (.t [.s w,.i k,p.nd])/\okA (.t [.s w,.i k,p.nd]):=λw k p h f=>by
  have e:pre (.t [.s w,.i k,p.nd])=.t [.s w,.i k,p.nd]::pre p.nd:=by rw[D3,Av,Av,z,Et,Gn,zK,zK]
  refine⟨?_,?_,Hs (by show 3<=8;decide) ?_,?_⟩
  .unfold rests;rw[e,filterMap_cons_none (AaA h _ _)];exact f.rs
  .unfold cnt;rw[e,vX];exact congrArg (· + 1) f.ct
  .rw[A5,A5,A5,A5,f.sl];rfl
  .unfold okA;rw[e,all_cons];exact f.ok
 have two:∀(w:Str)(p q:Pt),(¬w ="rest" /\ ¬w ="again")->NdF p->NdF q->rests (.t [.s w,p.nd,q.nd])=rsP q++rsP p/\cnt (.t [.s w,p.nd,q.nd])=p.sz+q.sz+1/\E7 (.t [.s w,p.nd,q.nd])/\okA (.t [.s w,p.nd,q.nd]):=λw p q h f g=>by
  have e:pre (.t [.s w,p.nd,q.nd])=.t [.s w,p.nd,q.nd]::(pre q.nd++pre p.nd):=by rw[D3,Av,Av,z,Et,zK]
  obtain⟨xs,ex⟩:=AfA p;refine⟨?_,?_,Hs (by show 3<=8;decide) ?_,?_⟩
  .unfold rests
   rw[e,filterMap_cons_none (by rw[ex];rfl),filterMap_append,<-f.rs,<-g.rs];rfl
  .unfold cnt;rw[e,vX,vF];have:=f.ct;have:=g.ct;unfold cnt at *;omega
  .rw[A5,A5,A5,A5,f.sl,g.sl];rfl
  .unfold okA
   rw[e,all_cons,List.all_append];have h1:=f.ok;have h2:=g.ok;unfold okA at h1 h2;rw[h1,h2,ex,AfI h];rfl
 intro p
 induction p with
 |nothing=>exact λ_=>⟨by rfl,by rfl,by rfl,by rfl⟩
 |rest k=>exact λ_=>⟨by rfl,by rfl,by rfl,by rfl⟩
 |send k=>exact λ_=>⟨by rfl,by rfl,by rfl,by rfl⟩
 |exit k=>exact λ_=>⟨by rfl,by rfl,by rfl,by rfl⟩
 |stay ks=>exact λok=>absurd ok id
 |iff i p q a1 a2=>
  intro ok;have f:=a1 ok.2.1;have g:=a2 ok.2.2;have e:pre (.t [.s "if",.i i,p.nd,q.nd])=.t [.s "if",.i i,p.nd,q.nd]::(pre q.nd++pre p.nd):=by rw[D3,Av,Av,Av,z,Et,Gn,zK,zK]
  refine⟨?_,?_,?_,?_⟩
  .rw[Pt.nd];unfold rests
   rw[e,filterMap_cons_none (AaA (by trivial) _ _),filterMap_append,rsP,<-f.rs,<-g.rs];rfl
  .rw[Pt.nd];unfold cnt;rw[e,vX,vF];have:=f.ct;have:=g.ct;unfold cnt at *;rw[Pt.sz];omega
  .exact Hs (by show 4<=8;decide) (by rw[A5,A5,A5,A5,A5,f.sl,g.sl];rfl)
  .rw[Pt.nd];unfold okA
   rw[e,all_cons,List.all_append];have h1:=f.ok;have h2:=g.ok;unfold okA at h1 h2;rw[h1,h2];rfl
 |again k p ih=>
  intro ok;have f:=ih ok;have e:pre (.t [.s "again",.i k,p.nd])=.t [.s "again",.i k,p.nd]::pre p.nd:=by rw[D3,Av,Av,z,Et,Gn,zK,zK]
  refine⟨?_,?_,?_,?_⟩
  .rw[Pt.nd];unfold rests
   rw[e,List.filterMap_cons_some (AfE (.inr rfl) _ _),rsP,<-f.rs];rfl
  .rw[Pt.nd];unfold cnt;rw[e,vX];exact congrArg (· + 1) f.ct
  .rw[Pt.nd];exact Hs (by show 3<=8;decide) (by rw[A5,A5,A5,A5,f.sl];rfl)
  .rw[Pt.nd];unfold okA;rw[e,all_cons];exact f.ok
 |hold i p ih=>exact λok=>by obtain⟨h1,h2,h3,h4⟩:=one "hold" i p (by trivial) (ih ok.2);exact⟨h1,h2,h3,h4⟩
 |watch i p ih=>exact λok=>by obtain⟨h1,h2,h3,h4⟩:=one "watch" i p (by trivial) (ih ok.2);exact⟨h1,h2,h3,h4⟩
 |trap p ih=>
  intro ok;have f:=ih ok;have e:pre (.t [.s "trap",p.nd])=.t [.s "trap",p.nd]::pre p.nd:=by rw[D3,Av,z,Et,zK]
  obtain⟨xs,ex⟩:=AfA p;refine⟨?_,?_,?_,?_⟩
  .rw[Pt.nd];unfold rests
   rw[e,filterMap_cons_none (by rw[ex];rfl),rsP,<-f.rs];rfl
  .rw[Pt.nd];unfold cnt;rw[e,vX];exact congrArg (· + 1) f.ct
  .rw[Pt.nd];exact Hs (by show 2<=8;decide) (by rw[A5,A5,A5,f.sl];rfl)
  .rw[Pt.nd];unfold okA
   have h1:=f.ok;unfold okA at h1;rw[e,all_cons,h1,ex,AfI (by trivial)];rfl
 |thn p q a1 a2=>exact λok=>by obtain⟨h1,h2,h3,h4⟩:=two "then" p q (by trivial) (a1 ok.1) (a2 ok.2);exact⟨h1,h2,h3,h4⟩
 |bes p q a1 a2=>exact λok=>by obtain⟨h1,h2,h3,h4⟩:=two "beside" p q (by trivial) (a1 ok.1) (a2 ok.2);exact⟨h1,h2,h3,h4⟩
def Aeh(h:PAt K H p.nd v)(ok:okN n p)(hz:p.sz<=900)(hr:(rsP p).length<64):Aap K H p.nd v:=
 ⟨h,Jq p,(ndF ok).sl,by rwa[(ndF ok).ct],(ndF ok).ok,by rwa[(ndF ok).rs]⟩
structure Ahr(n m:Nat)(s:Ws)(nx:List Int)(l d:Nat):Prop where
 g:∀g∈s.gs,FmG n m s.gs.length g/\g.2.length<=1000
 nr:RL s nx
 ln:nx.length=l
 hi:s.gs.length<=d
 lo:n<=s.gs.length
structure Agq(C:Addr)(H0 H:Hp)(v:V)(n:Nat)(s:Ws)(nx:List Int)(e0 e1:Int):Prop where
 h:∃o L t te ln,v=.ref t/\(H0 L.gl=none/\H0 L.sl=none/\H0 ln=none)/\H t=some (.tup [.ref L.gl,.ref L.sl,.ref te,.ref ln])/\Bd C H o L n s/\H ln=some (.lst (nx.map V.int))/\H te=some (.tup [.int e0,.int e1])
def Ac5(n:Nat)(p:Pt)(s:Ws):Prop:=∀O:Vn,(∀(i:Nat)g,s.gs[i]?=some g->n<=i->O.k i=O.g g)->∀j,j<n->∃g,s.gs[j]?=some g/\O.g g=or3 (some (decide ((j:Int)∈O.co))) ((sem O p (some (O.st.isNone || rsB O p))).2 j)
def SgI(s2 s':Ws)(i:Nat):Prop:=∀j,j<i->∃g,s'.gs[j]?=some g/\∀O,Sat s' O->O.g g=or3 (some (decide ((j:Int)∈O.co))) (s2.sv O (j,0)).1
def SgI.kp{E:Eff}(h:SgI s2 s i)(V:Nw C o L n m S H s H' s' d E)(f:∀j:Nat,j<i->(j:Int)∉E.A):SgI s2 s' i:=λj hj=>by
 obtain⟨g,e,hg⟩:=h j hj;exact⟨g,V.ct j g e (f j hj),λO z=>hg O (V.sat O z).1⟩
def Afr(r:Wr)(O:Vn):Prop:=O.v r.runs=or3 (some O.st.isNone) (O.v r.rests)/\O.v (r.runs+1)=some true/\O.v (r.runs+2)=some false
def eS(r:Wr)(i:Nat):Eff:=eC (r.runs::(r.runs+1)::(r.runs+2)::(List.range i).map λ(j:Nat)=>(j:Int)) (Afr r)
def SgO(n:Nat)(s:Ws):Prop:=∀j:Nat,j<n->(j:Int)∈s.op
def SgO.kp{E:Eff}(h:SgO n s)(V:Nw C o L n' m S H s H' s' d E)(e:∀g∈E.A,(n:Int)<=g):SgO n s':=λj hj=>V.op _ (h j hj) λz=>by have:=e _ z;omega
abbrev Xd(O:Vn)(p:Pt):Option Bool:=some (O.st.isNone || rsB O p)
def Ac6(n:Nat)(p:Pt)(s:Ws)(lk:Int->Int)(e0 e1:Int):Prop:=∀O:Vn,(∀(i:Nat)g,s.gs[i]?=some g->n<=i->O.k i=O.g g)->O.v e0=(sem O p (Xd O p)).1 0/\O.v e1=(sem O p (Xd O p)).1 1/\(∀k∈rsP p,some (O.v (lk k))=Bb O p (Xd O p) (some true) (some false) k)/\((∀j:Nat,j<n->O.k j≠none)->∀i,i<s.gs.length->O.k i≠none)
def Ad9{o:Addr}{L:Lc}{m d d':Nat}{S:List Addr}{H0:Hp}{s2 s:Ws}{p:Pt}{r:Wr}{e0 e1:Int}(U:Nw C o L n m S H0 (ws0 n) H2 s2 d (eQ p r))(V:Nw C o L n m S H2 s2 H s d' (((eS r n).cat (eF λO=>O.v e0=cvl r.codes O 0)).cat (eF λO=>O.v e1=cvl r.codes O 1)))(h:SgI s2 s n)(ho:SgO n s)(hl:∀k∈rsP p,∃g,s.lv.lookup k=some g):Ac5 n p s/\Ac6 n p s (λk=>(s.lv.lookup k).getD 0) e0 e1:=by
 have sat:∀{O:Vn},(∀(i:Nat)g,s.gs[i]?=some g->n<=i->O.k i=O.g g)->Sat s O:=λa1 i g e y=>a1 i g e (Nat.le_of_not_lt λw=>y (ho i w))
 have run:∀{O:Vn},O.v _=some (rsB O p)->Afr r O->O.v _=Xd O p:=λ{O}f1 fr=>fr.1.trans (by rw[f1];show _=some _;cases O.st.isNone<;>cases rsB O p<;>rfl)
 have a3:∀{O:Vn}i,(ws0 n).sv O i=nz:=λi=>by
  unfold Ws.sv ws0;rw[getD_eq_getElem?_getD,getElem?_replicate];split<;>rfl
 have a2:∀{O:Vn},Sat _ O->∀i,s2.sv O i=dP p r O i:=λz i=>((U.sat _ z).2.2 i).trans (by rw[a3];rfl)
 refine⟨λO a1 j hj=>?_,λO a1=>?_⟩
 .obtain⟨g,e,hg⟩:=h j hj
  obtain⟨z2,⟨⟨fr⟩⟩,_⟩:=V.sat O (sat a1);refine⟨g,e,(hg O (sat a1)).trans (congrArg _ ?_)⟩;rw[a2 z2];show(sem O p _).2 j=_;rw[run (U.sat O z2).2.1.1 fr]
 obtain⟨z2,⟨⟨fr,f0⟩,f1⟩,sv⟩:=V.sat O (sat a1)
 obtain⟨_,⟨g1,g2⟩,_⟩:=U.sat O z2;have er:=run g1 fr;refine⟨f0.trans ((g2 0).trans (by rw[er])),f1.trans ((g2 1).trans (by rw[er])),λk hk=>?_,λsg=>V.kn O (sat a1) (λ_ z=>nomatch z) (U.kn O z2 (kn3 (by rw[er];exact k_s) (by rw[fr.2.1];exact k_s) (by rw[fr.2.2];exact k_s)) λi hi=>sg i (by rwa[show(ws0 n).gs.length=n from vU]at hi))⟩;obtain⟨g,eg⟩:=hl k hk;have e1:=congrArg Prod.snd (sv (0,k));rw[show(cb _ _).2=ov3 (s2.sv O _).2 none from rfl,P8,a2 z2]at e1;have e2:(s.lv.lookup k).map O.v=Bb O p _ _ _ k:=e1;rw[er,fr.2.1,fr.2.2,eg]at e2;show some (O.v ((s.lv.lookup k).getD 0))=_;rwa[eg]
inductive Y0(K:FA)(C:Addr)(b:Nat)(vs:List V)(H:Hp)(Q:VK):Prop
 |mk(a:Addr)(x0 x1 v:V)(n m:Nat)(p:Pt)(_:vs=[.ref a])(_:H a=some (.tup [x0,x1,.int n,v]))(_:PAt K H p.nd v)(_:p.hg<=b)(_:okN n p)(_:n<=100)(_:p.sz<=600)(_:(rsP p).length<64)(_:(∀k∈rsP p,0<=k/\k<m))(_:∀v' s lk(ms:List Int)e0 e1 H',Same H H'->Agq C H H' v' n s (ms.map lk) e0 e1->Ahr n m s (ms.map lk) (rsP p).length (50*p.sz+2*n+3)->Ac5 n p s/\Ac6 n p s lk e0 e1->Rng s e0/\Rng s e1->ms.Perm (rsP p)->ms.Pairwise (·<=·)->Q v' H')
def Adj(K:FA)(C:Addr)(b:Nat):Sp:=λvs H Q _=>Y0 K C b vs H Q
section
variable{CP:Addr}
seal PSs PS PE PA PT
def Ah1{m:Nat}{fW:Addr}{c5:FuncData}(F:Ao K mg "net_of" ["program"] K2)(T:Cn K mg C CP)(f0:Mk K C fW)(GW:Cc P w K mg base CX0 3 fW c5 ["self","signs"] (Xx C))(bW:Dm K c5 ["self","signs"] [])(aL:A4 P w K mg base 1 C "gate" ["self","word","numbers"] (Jo C))(aG:A4 P w K mg base 1 C "fill" ["self","number","word","numbers"] (Jt C))(aO:Ae P w K mg base 3 "code_gate" ["wiring","whole","code"] (We C CP))(iB:Ae P w K mg base 3 "rests_of" ["part"] (Zl K))(bR:Ae P w K mg base (m+6) "wire_part" ["wiring","part"] (L0 K C CP m)):Ae P w K mg base (m+7) "net_of" ["program"] (Adj K C m):=by
 refine F.ok Gd (λvs H Q E h=>?_) (λfn _ A _ _ H _ Q E hr h=>?_)
 .obtain⟨a,x0,x1,v,n,m,p,rfl⟩:=h;rfl
 obtain⟨pa,x0,x1,v,n,m,p,rfl,b2,hp,hh,ok,hn,hz,b6,hk,q⟩:=h;obtain⟨_,hE,rE⟩:=T.gE;obtain⟨_,hR,rR⟩:=T.gR;have hu:=zE (add_le_add_left (show 1<=64 by decide) _) hr.units
 refine⟨_,(Ab (pst 1 Gd.nd (Xt f0 GW (hr.mono (by omega)) rfl T.m_Wiring bW .nil Ax (pa1 (pix (pv 0)))))
  (Ab (pst 2 Gd.nd (pcl bR (pa2 (pv 1) (pix (pv 0)))))
  (Ab (A6 (Al aG hr Ax (pv 1) (pa3 (pfd (pv 2)) Ah (An (pa2 (Al aL hr Ax (pv 1) (pa2 Ah (An Bm))) (pfd (pv 2)))))))
  (Ab (A6 (Al aG hr Ax (pv 1) (pa3 (pfd (pv 2)) Ah (An Bm))))
  (Ab (A6 (Al aG hr Ax (pv 1) (pa3 (pfd (pv 2)) Ah (An Bm))))
  (Ab (Fj PassesOwn.never rfl (Y4 rfl T.n_enumerate (pa1 (pfd (pv 1)))) (Fi rfl (Bf (Aq (i:=3) Gd.nd rfl (Or.inl rfl)) (Bf (Aq (i:=4) Gd.nd rfl (Or.inl rfl)) Eb)))
   (Ad (A6 (Al aG hr Ax (pv 1) (pa3 (B7 B0 (pfd (pv 1)) (pv 3) (λ_ _=>rfl)) Ah (Au Ck (An (pa1 (Al aL hr Ax (pv 1) (pa2 Ah (An (pa1 (pv 3))))))) (pv 4)))))))
  (Ab (pst 5 Gd.nd (Ap (pa2 (pcl aO (pa3 (pv 1) (pv 2) (Bj rfl hE rE))) (pcl aO (pa3 (pv 1) (pv 2) (Bj rfl hR rR))))))
  (Ab (Dz (j:=6) (te:=(T9 (AdC K (Aw 1) "leavers") (Aw 0))) ["rest"] [("wiring",1)] Gd.nd rfl (Or.inl rfl) rfl (Bx (Af K2) ["program","wiring","body","sign","senders","ends","nexts"] (by trivial)) (Cf (pcl iB (pa1 (pix (pv 0))))) (λs2 H2 fp cl C=>Aq (i:=0) (show Nodup [("rest": Str),("wiring": Str)] from by trivial) rfl (Or.inl rfl)) (A9 (by decide)) (λs2 H2 fp cl C=>Fg) (λs2 H2 fp cl C=>(Oi hu (pfd (pv 1)) (pv 0) (λ_ _=>rfl))))
  (Ad (Ag (Ap (Ba (pfd (pv 1)) (pa3 (pfd (pv 1)) (pv 5) (pv 6)))))))))))))),?_⟩
 refine⟨Aj b2,Aa rfl,?_⟩;refine λo dx na nd _=>?_
 have sA:Same H (upd (upd H dx (.own o)) o (.ins C dx [])):=λb u e=>by
  rw[upd_ne (ne_of_none e na),upd_ne (ne_of_none e nd)];exact e
 refine⟨o,dx,n,Z,qa,zA hn (by decide),λL H1 k1 W1 fr fs=>⟨Z,?_⟩⟩;have g1:Same H H1:=λb u e=>k1 b u (λz=>by rw[mS z,na]at e;cases e) (sA b u e)
 have sm:∀{H':Hp},KpS L.S H1 H'->Same H H':=λk b u e=>k b u (λz=>by
  have:=fr b z;rw[sA b u e]at this;cases this) (g1 b u e)
 have l0:(ws0 n).gs.length=n:=vU;have c0:Cap (50*p.sz+2*n+3) (ws0 n) (50*p.sz+(n+3)):=⟨by omega,by show 0+_<=_;omega,λr hr=>by rw[List.eq_of_mem_replicate hr];show 0+_<=_;omega⟩;have a8:Hv C o L n m H1 (ws0 n) (50*p.sz+(n+3)):=⟨W1,⟨λg hg=>by rw[List.eq_of_mem_replicate hg];exact⟨.inr (.inr (.inr ⟨.inr (.inl rfl),λx hx=>nomatch hx⟩)),zZ _⟩,λr hr=>by rw[List.eq_of_mem_replicate hr];exact .nil,λp hp=>(nomatch hp),λx hx=>(by obtain⟨i,hi,rfl⟩:=zU.mp hx;have:=mem_range.mp hi;unfold Rng Ws.nx;omega)⟩,by omega,vU,⟨by have:=c0.1;omega,by have:=c0.2.1;omega,λr hr=>by have:=c0.2.2 r hr;omega⟩⟩;refine⟨Aj (g1 _ _ b2),Aa rfl,o,v,p,L,n,m,ws0 n,Z,a8.nw (S:=L.S) |>.hv a8 (by omega),hp.mono g1.tp,hh,ok,hk,λb H2 s2 rb U2 _ D2 w2 b1 c6 c8=>?_⟩;have c6:=by have:=c6;unfold Ws.nx at this;omega
 have c2:=U2.c _ _ c0;have a1:=U2.hv a8 (zB _);obtain⟨_,bd,bo,a3,g9⟩:=id D2;have bS:=(U2.w.objOff a3).2;have c3:=U2.w.ho;refine⟨c3,Z,a3,T.clP,T.nR,Z,c3,Z,zN0,λl3 h3=>?_⟩;have V3:=(a1.nw (S:=L.S)).new h3 (.lst []);have b8:Hv C o L n m _ s2 1:=V3.hv a1 (by omega);refine⟨o,l3,"start",[],L,n,m,_,Z,b8,qa,λH3 e7 W3=>?_⟩;obtain⟨V4,j3⟩:=b8.add e7 W3 (.inl ⟨rfl,rfl⟩) (zZ _);generalize s2.nx=i3 at V4 j3;generalize s2.add "start" []=s3 at V4 j3;have V3:=V3.trans V4;refine⟨V3.k _ _ bS a3,T.clP,T.nE,Z,zN2,λl4 h4=>?_⟩;have V4:=V3.new h4 (.lst [V.int i3,.int rb.rests]);refine⟨o,l4,rb.runs,"some",[i3,rb.rests],L,n,m,_,Z,V4.hv a1 (by omega),qa,V4.op _ b1.1 (λz=>nomatch z),.inr rfl,.two j3 (w2.2.1.up V4.lo),(by show 2<=1000;decide),λH5 s5 V5 _=>?_⟩;have V5:=V4.trans V5;refine⟨V5.w.ho,Z,V5.k _ _ bS a3,T.clP,T.nK,Z,zN0,λl6 h6=>?_⟩;have V6:=V5.new h6 (.lst []);refine⟨o,l6,(rb.runs+1),"all",[],L,n,m,_,Z,V6.hv a1 (by omega),qa,V6.op _ b1.2.1 (λz=>by have:=mS z;omega),.inl rfl,.nil,zZ _,λH7 s7 V7 _=>?_⟩;have V7:=V6.trans V7;refine⟨V7.w.ho,Z,V7.k _ _ bS a3,T.clP,T.nT,Z,zN0,λl8 h8=>?_⟩;have V8:=V7.new h8 (.lst []);refine⟨o,l8,(rb.runs+2),"some",[],L,n,m,_,Z,V8.hv a1 (by omega),qa,V8.op _ b1.2.2 (λz=>by have z:rb.runs+2∈[rb.runs,rb.runs+1]:=z;simp at z;omega),.inr rfl,.nil,zZ _,λH9 s9 V9 _=>?_⟩;have V9:=(V8.trans V9).wk (E':=eS rb 0) (zB _) a1.f.op (λg z=>.inl (z)) λO ⟨⟨⟨⟨_,f3⟩,f5⟩,f7⟩,f9⟩=>⟨⟨f5.trans ((Fa O _).trans (by show or3 (O.v i3) (or3 _ (some false))=_;rw[Bc,show O.v i3=some O.st.isNone from f3])),f7.trans (Mn O []),f9.trans (Fa O [])⟩,λ_=>rfl⟩
 have d9:=(SgO.kp (λj hj=>zU.mpr ⟨j,mem_range.mpr hj,Z⟩) U2 λg z=>(by cases z)).kp V9 λg z=>by have z:g∈[rb.runs,rb.runs+1,rb.runs+2]:=z;simp at z;omega
 obtain⟨g5,f6,k9,g4,j6,e9,e3,j9,k4⟩:=id V9.w;have e4:L.rs.length=n:=by rw[<-uC e3,V9.sl,a1.sl]
 refine⟨f6,T.cl,T.nN,Z,L.nl,Z,⟨_,Ai e9⟩,AcX (K:=K) (xs:=L.rs.map V.ref) (λi Y H'=>∃x3 x4 s',Y=[some (.ref pa),some (.ref o),some (.ref b),x3,x4,none,none]/\Nw C o L n m L.S H2 s2 H' s' (1+i) (eS rb i)/\SgI s2 s' i/\SgO n s') ⟨none,none,s9,Z,V9,(λj hj=>absurd hj (not_lt_zero j)),d9⟩ ?_ ?_ ?_⟩
 .rintro i Y H' _ ⟨_,_,_,_,U,_⟩
  obtain⟨_,_,_,_,_,d2,_⟩:=U.w;exact Ai d2
 .rintro i x t Y HA hi ⟨x3,x4,a6,rfl,VA,gA,oA⟩ ht
  have a2:=by have:=(uA.mp hi).1;rwa[vE]at this
  rw[vJ,vD a2]at hi;cases hi
  have VB:=VA.new ht (.tup [V.int (i:Int),V.ref L.rs[i]]);obtain⟨g6,a9,i6,i4,d3,j2,i8,k2,k7⟩:=id VB.w;refine⟨t,_,Z,Aj qa,Z,_,_,Z,_,_,Z,Z,a9,Z,a9,T.cl,T.nS,Z,Ai d3,Aa (by rw[vJ,getElem?_range (by omega)];rfl),a9,Z,zN1,λl1 h1=>?_⟩;have VC:=VB.new h1 (.lst [V.int (i:Int)]);have b7:Hv C o L n m _ a6 1:=VC.hv a1 (by omega);refine⟨o,l1,"given",[(i:Int)],L,n,m,_,Z,b7,qa,λHC kC WC=>⟨zN1,λl2 h2=>?_⟩⟩;obtain⟨a7,jC⟩:=b7.add kC WC (.inr (.inr (.inl ⟨rfl,(i:Int),rfl,by omega,by omega⟩))) (by show 1<=1000;decide);generalize a6.nx=iC at *;generalize a6.add "given" [(i:Int)]=sC at *;have b9:i<n:=by omega
  have oC:=oA.kp a7 λg z=>by cases z
  have VD:=(VC.trans a7).new h2 (.lst [V.int iC]);obtain⟨g8,j4,j7,g7,j5,k6,d6,k3,i9⟩:=id VD.w;have a5:i<sC.sn.length:=by rw[VD.sl,a1.sl];omega
  obtain⟨rr,f1,f2⟩:=Bo d6 (vD a5);rw[vD a2]at f1;cases f1
  have c9:(sC.sn[i]).length+1<=1000:=by
   have:=(VD.c _ 0 (c2.le (by omega))).2.2 _ (zL a5);omega
  refine⟨l2,L.rs[i],_,_,Z,Z,qa,f2,by rw[vE,vG];exact zA (by omega:_<=2000) (by decide),λl5 h5=>?_⟩;have VE:=VD.new h5 (.lst ([V.int iC]++(sC.sn[i]).map V.int));refine⟨o,l5,(i:Int),"some",iC::sC.sn[i],L,n,m,_,Z,VE.hv a1 (by omega),qa,oC i b9,.inr rfl,.cons jC (VD.f.sn _ (zL a5)),c9,λHE sE VF eE=>?_⟩;have VG:=VF.reop eE (oC i b9) VE.f.op;refine⟨_,_,_,Z,(VE.trans VG).wk (zB _) a1.f.op (λg z=>.inl (by have z:g∈((eS rb i).A++[])++[(i:Int)]:=z;rw[zK]at z;show g∈_::_::_::(List.range (i+1)).map _;rwa[range_succ,vQ])) (λO f=>⟨f.1.1,λ_=>rfl⟩),λj hj=>?_,oC⟩;rcases lt_or_ge j i with z|z
  .exact((gA.kp a7 λ_ _ z=>(by cases z)).kp VG λj hj z=>by have:=mS z;omega) j z
  have:j=i:=by omega
  subst this;refine⟨("some",iC::sC.sn[j]),?_,λO z=>?_⟩
  .show sE.gs[j]?=_
   rw[eE];show(sC.gs.set (j:Int).toNat _)[j]?=_;rw[uI,zQ (by have:=VE.lo;have:=a1.nl;omega)]
  have zC:=(VG.sat O z).1
  obtain⟨_,⟨_,fC⟩,sv⟩:=VE.sat O zC;refine(Fa O _).trans ?_;show or3 (O.v iC) (orL ((sC.sn[j]).map O.v))=_;rw[show O.v iC=some (decide ((j:Int)∈O.co)) from fC,show orL ((sC.sn[j]).map O.v)=(sC.sv O (j,0)).1 by unfold Ws.sv;rw[getD_eq_getElem?_getD,vD a5];rfl,sv (j,0)];exact congrArg _ (Bc _)
 rintro Y HA ⟨x3,x4,a6,rfl,VA,gA,oA⟩
 rw[vE,e4]at VA gA;have DA:=D2.kp U2.w VA.k;have c4:=w2.up VA.lo;refine⟨o,b,0,_,L,n,m,_,Z,VA.hv a1 (by omega),DA,c4.2.2.1,λHB sB i0 VB j0=>?_⟩;have b3:=VA.trans VB;refine⟨o,b,1,_,L,n,m,_,Z,b3.hv a1 (by omega),DA.kp VA.w VB.k,c4.2.2.1.up VB.lo,λHC sC i1 VC j1=>⟨zN2,λte d8=>?_⟩⟩;have VE:=(b3.trans VC).new d8 (.tup [V.int i0,.int i1]);have a4:=sm (U2.k.trans VE.k);have g0:=qa (H:=HC) (a:=te) (o:=.tup [V.int i0,.int i1]);generalize upd HC te (.tup [V.int i0,.int i1])=HE at *;refine⟨Aj (a4 _ _ b2),Aa rfl,v,p.nd,Z,Aeh (hp.mono a4.tp) ok (zA hz (by decide)) b6,λr ms HF gF eF pm rise=>?_⟩;rw[(ndF ok).rs]at pm;have VF:=VE.same gF;obtain⟨i5,f8,i7,h9,k8,k5,j8,f4,h7⟩:=id VF.w;refine⟨r,Z,⟨_,Ai eF⟩,Db (xs:=ms.map V.int) (λi ys H'=>H'=HF/\∃nx:List Int,ys=nx.map V.int/\RL sC nx/\nx=(ms.take i).map λk=>(sC.lv.lookup k).getD 0) ⟨Z,[],Z,.nil,Z⟩ (by rw[vE];exact zA (le_of_lt (by rwa[pm.length_eq])) (by decide)) (λi ys H' hh=>by rw[hh.1];exact Ai eF) ?_ ?_⟩
 .rintro i x ys H' N hi ⟨rfl,nx,rfl,rl,en⟩ hN e8
  have a2:=by have:=(uA.mp hi).1;rwa[vE]at this
  rw[vJ,vD a2]at hi;cases hi
  obtain⟨g,hg⟩:=Kc (VF.lv _ (c8 ms[i] (pm.mem_iff.mp (zL a2))));obtain⟨pq,d7,eg⟩:=N6 hg;have dg:Nk H' L.ld (.int ms[i]) ((sC.lv.lookup ms[i]).map V.int):=.inl ⟨_,Sum.inl ms[i],.inl f4,Z,(Pe _ _).symm⟩;rw[hg]at dg;exact⟨f8,T.cl,T.nL,Z,L.ld,.int g,Z,dg,hN _ _ (by rw[vF,vG];omega) ⟨Z,nx++[g],by rw[vQ];rfl,rl.snoc (eg▸VF.f.lv pq d7),by rw[vZ,vD a2,vQ,<-en];show _=_++[(sC.lv.lookup ms[i]).getD 0];rw[hg];rfl⟩⟩
 rintro ys H' e8 ⟨rfl,nx,rfl,rl,en⟩ b4 b5;rw[vE,take_length]at en;subst en;have gL:=Ac b5 (.lst ((ms.map λk=>(sC.lv.lookup k).getD 0).map V.int));have WG:=VF.w.same gL;have c7:=WG.ho;refine⟨c7,T.cl,T.nG,Z,c7,T.cl,T.nS,Z,zN4,λt ht=>?_⟩;have gT:=Ac ht (.tup [V.ref L.gl,.ref L.sl,.ref te,.ref b4]);exact q _ sC _ ms i0 i1 _ (((a4.trans gF).trans gL).trans gT) ⟨o,L,t,te,b4,Z,⟨sA.free (fr _ vH),sA.free fs,(a4.trans gF).free b5⟩,qa,WG.same gT,gT _ _ qa,((gF.trans gL).trans gT) _ _ g0⟩ ⟨VF.f.g,rl,by rw[vE,pm.length_eq],(VF.c _ 0 (c2.le (by omega))).1,zA a1.nl VF.lo⟩ (Ad9 U2 VF ((gA.kp VB λ_ _ z=>(by cases z)).kp VC λ_ _ z=>(by cases z)) ((oA.kp VB λ_ z=>(by cases z)).kp VC λ_ z=>(by cases z)) λk hk=>Kc (VF.lv _ (c8 k hk))) ⟨j0.up VC.lo,j1⟩ pm rise
end
end Dsk
namespace L2
open PySem PySem.Spec PyProof.Rows
section
variable{s:Shared}
end
section
variable{s:Shared}
end
section
variable{R:Result->Shared->Prop}{it S:Addr}{fp wr:List Addr}{P:Nat->Value->Prop}{St:Nat->Heap->Prop}{kw:List (Str×Value)}
def Rn(W:Walks prog w A.in1 it fp wr n P St)(bt:Nat->Nat->Bool)(cm:CmpOf prog w A.in1 .Gt P bt)(nS:S∉fp):∀(k j:Nat)(s:Shared)(vb:Value)(c:Nat),n-(j+1)=k->j+1<=n->St (j+1) s.heap->P (argBest bt j) vb ->
  s.heap.get? S=some {cls:=.type "list",dict:=none,data:=.seq #[vb,vb] c,slots:=#[]} ->
  (∀v h' tk,P (argBest bt (n-1)) v->(∀b o,b∉S::wr->s.heap.get? b=some o->h'.get? b=some o)->R (.ok (.ret v)) {s with heap:=h',toks:=tk})->codeAny (model prog w) A (.builtin "max.loop" ⟨[.ref it,.none,.ref S],kw⟩) R s
 |0,j,s,vb,c,hk,hj,st,hp,hS,hR=>by
  have nw:S∉wr:=λz=>nS (W.sub _ z)
  have ej:j+1=n:=by omega
  refine codeAny_builtin F.entry_max_loop ?_;refine vB (wpAny_seqItems hS rfl ?_);refine vB (wpAny_tryCatch (W.done s _ _ (ej▸st) λh' tk m=>?_));have a1:=m S _ nw hS;refine vB (wpAny_updateSeq a1 rfl (vB (wpAny_letGo (vC ?_))));exact hR vb _ tk (by rwa[<-ej]) λb o hb e=>(uN _ _ (λz:S=b=>hb (z▸vH))).trans (m b o (λz=>hb (vI _ z)) e)
 |k+1,j,s,vb,c,hk,hj,st,hp,hS,hR=>by
  have lt:j+1<n:=by omega
  refine codeAny_builtin F.entry_max_loop ?_;refine vB (wpAny_seqItems hS rfl ?_);refine vB (wpAny_tryCatch (W.item (j+1) s _ _ lt st λv h' tk pv a5 m=>?_));have a1:=m S _ (λz=>nS (W.sub _ z)) hS;show wpAny _ A.in1 (tryCatch (holding [v,v] (richCompare .Gt v vb>>=_)) _>>=_) _ _ _;refine vB (wpAny_tryCatch (zX (vB (cm (j+1) (argBest bt j) v vb _ _ _ pv hp (vB (zX (wpAny_truthy_bool (vB (wpAny_letGo (vC ?_))))))))));have nm:(toString "max" ++ toString ".loop": String) ="max.loop":=by decide
  cases hb:bt (j+1) (argBest bt j) with
  |true=>
   refine vB (wpAny_updateSeq a1 rfl (vB (wpAny_letGo ?_)));refine vC ⟨plainId_quiet F.plain_max_loop _,Rn W bt cm nS k (j+1) _ v _ (by omega) lt (W.frame _ _ _ a5 λb a6 o e=>?_) (by simp only[argBest,hb,if_true];exact pv) (uX _ a1 rfl) λv' a4 a3 p' a2=>?_⟩
   .exact(uN _ _ (λz:S=b=>nS (z▸a6))).trans e
   .exact hR v' a4 a3 p' λb o hb e=>a2 b o hb ((uN _ _ (λz:S=b=>hb (z▸vH))).trans (m b o (λz=>hb (vI _ z)) e))
  |false=>
   simp only[Bool.false_eq_true,if_false];refine vB (wpAny_letGo ?_);rw[nm];refine vC ⟨plainId_quiet F.plain_max_loop _,Rn W bt cm nS k (j+1) _ vb c (by omega) lt a5 (by simp only[argBest,hb,Bool.false_eq_true,if_false];exact hp) a1 λv' a4 a3 p' a2=>?_⟩;exact hR v' a4 a3 p' λb o hb e=>a2 b o hb (m b o (λz=>hb (vI _ z)) e)
def AcV(W:Walks prog w A.in1 it fp wr n P St)(bt:Nat->Nat->Bool)(cm:CmpOf prog w A.in1 .Gt P bt)(nS:S∉fp){d:Value}{s:Shared}{c:Nat}(st:St 0 s.heap)
  (hS:s.heap.get? S=some {cls:=.type "list",dict:=none,data:=.seq #[] c,slots:=#[]})
  (hR:∀v h' tk,(n=0/\v=d\/0<n/\P (argBest bt (n-1)) v)->(∀b o,b∉S::wr->s.heap.get? b=some o->h'.get? b=some o)->R (.ok (.ret v)) {s with heap:=h',toks:=tk}):codeAny (model prog w) A (.builtin "max.loop" ⟨[.ref it,.none,.ref S],[(x,d)]⟩) R s:=by
 have nm:(toString "max" ++ toString ".loop") ="max.loop":=by decide
 refine codeAny_builtin F.entry_max_loop ?_;refine vB (wpAny_seqItems hS rfl ?_)
 by_cases n0:n=0
 .refine vB (wpAny_tryCatch (W.done s _ _ (n0▸st) λh' tk m=>?_))
  exact vB (wpAny_rule (vC (hR d _ _ (.inl ⟨n0,Z⟩) λb o hb e=>m b o (λz=>hb (vI _ z)) e)))
 .have lt:=Nat.pos_of_ne_zero n0
  refine vB (wpAny_tryCatch (W.item 0 s _ _ lt st λv _ _ pv a3 m=>?_));have a1:=m S _ (λz=>nS (W.sub _ z)) hS;show wpAny _ _ (updateSeq S (λ_=>#[v,v])>>=_) _ _ _;refine vB (wpAny_updateSeq a1 rfl ?_);exact vC ⟨plainId_quiet F.plain_max_loop _,Rn W bt cm nS _ 0 _ v _ rfl lt (W.frame _ _ _ a3 λb a4 o e=>((uN _ _ (λz:S=b=>nS (z▸a4))).trans e)) pv (uX _ a1 rfl) λv' a6 a5 p' a2=>(hR v' a6 a5 (.inr ⟨lt,p'⟩) λb o hb e=>a2 b o hb ((uN _ _ (λz:S=b=>hb (z▸vH))).trans (m b o (λz=>hb (vI _ z)) e)))⟩
end
def Abb(a d:Value):argsOk "max" ⟨[a],[("default",d)]⟩:=by rfl
section
variable{s:Shared}
def AbG{xs:Array (Int×Tok)}{Q:Value->Shared->Prop}(hh:A.handled=none)(hl:s.heap.IsList l (intItems xs))
  (h:∀v h' tk,(xs.size=0/\v=d\/0<xs.size/\∃t,v=.int (numAt xs (argBest (λi j=>decide (numAt xs i>numAt xs j)) (xs.size-1))) t)->(∀b o,s.heap.get? b=some o->h'.get? b=some o)->Q v {s with heap:=h',toks:=tk}) :
  wpAny (model prog w) A (call (.builtin "max") [.ref l] [("default",d)]) Q E s:=by
 have nm:(toString "max" ++ toString ".loop") ="max.loop":=by decide
 have sz:(intItems xs).size=xs.size:=by simp[intItems]
 refine wpAny_call (codeAny_call_builtin F.plain_max F.entry_max ?_);have ha:=Abb (.ref l) d;simp only[checkBuiltinCall,F.kind_max]
 have go:wpAny (model prog w) A.in1 (Builtin.«max» ⟨[.ref l],[("default",d)]⟩) (λa2 s'=>match a2 with
   |.done f=>(match (Except.ok f:Result) with|.ok (.ret v)=>Q v s'|.ok _=>False|.error e=>E e s')
   |.again c'=>c'.quiet/\codeAny (model prog w) A c' (λr s'=>match r with|.ok (.ret v)=>Q v s'|.ok _=>False|.error e=>E e s') s') E s:=by
  refine vB (wpAny_of_eq (rfl) ?_);refine vB (vC (vB (wpAny_pyIter_list hl ?_)));refine vB (wpAny_newObj_type ?_);have b1:l<s.heap.objs.size:=by obtain⟨_,e,_⟩:=hl;exact uD e
  have hz:(s.heap.push {cls:=.type "list_iterator",data:=.fields #[.ref l,.int 0 0]}).objs.size=s.heap.objs.size+1:=uV ..;refine vC ⟨plainId_quiet F.plain_max_loop _,AcV (Walks.list (A:=A.in1) hh _ l (zF b1) _) _ (CmpOf.ints_gt _ (λ_ _=>intItems_at)) (λz=>?_) ⟨⟨_,uB _ (uF _ rfl),Z,Z⟩,(hl.push _).push _⟩ (uF _ rfl) λv h' tk pv m=>?_⟩
  .simp only[zM,zJ,or_false]at z
   rcases z with z|z
   .simp_all
   .exact ne_of_gt (lt_succ_of_lt b1) (hz.symm.trans z)
  .refine h v _ _ ?_ λb o e=>m b o (λz=>?_) (uB _ (uB _ e))
   .rw[sz]at pv
    rcases pv with pv|⟨q,pv⟩
    .exact .inl pv
    .exact .inr ⟨q,intItems_at pv⟩
   .have:=uD e
    simp only[zM,zJ,or_false]at z;rcases z with z|z
    .rw[z,hz]at this;exact lt_irrefl _ (Nat.lt_of_succ_lt this)
    .simp_all
 cases hsig:Manifest.signature? "max" with
 |none=>exact vC go
 |some a1=>
  simp only[argsOk,hsig]at ha;show wpAny _ A.in1 (Bind.checkArgs "max" a1 ⟨[.ref l],[("default",d)]⟩) _ _ s;rw[ha];exact vC go
end
def AaE(d:Int):List Int->Int
 |[]=>d
 |x::r=>r.foldl max x
def Aew{d M:Int}{ns:List Int}(ne:¬ns=[])(m:M∈ns)(h:∀a∈ns,a<=M):AaE d ns=M:=by
 cases ns with
 |nil=>exact absurd rfl ne
 |cons x r=>
  have z:∀(r:List _)x,(x<=M)->(∀a∈r,a<=M)->(x=M\/M∈r)->r.foldl max x=M:=by
   intro r
   induction r with
   |nil=>exact λx _ _ hx=>hx.resolve_right (by simp)
   |cons y r ih=>
    intro x _ hr hm;have _:=hr y vH;refine ih _ (by omega) (λa ha=>hr a (vI _ ha)) ?_;rcases hm with rfl|hm
    .exact .inl (by omega)
    rcases zM.mp hm with rfl|hm
    .exact .inl (by omega)
    exact .inr hm
  exact z r x (h x vH) (λa ha=>h a (vI _ ha)) (by rcases zM.mp m with rfl|m;exact .inl rfl;exact .inr m)
section
variable{p kp:Pos}{e1 e2:Expr}{t tk:TA}
def Agw(K:FA)(t tk:TA):TE:=λY H Q=>t Y H λvs H1=>tk Y H1 λzs H2=>∃a ns d,vs=[.ref a]/\zs=[.int d]/\SqL K H2 a ((ns:List Int).map V.int)/\Q (.int (AaE d ns)) H2
def Ad5(hc:X.calm=true)(hg:Gl X "max")(hm:X.mg "max"= none)(ha:PA X [e1] t)(a5:PK X [⟨some "default",e2,kp⟩] tk)(hs:starEach [e1] X.env=(false,eval e1 X.env)::starEach [] X.env:=by rfl)
  (a3:((backTo pos (starEach [e1] X.env)).any (·.1) || (backToKw pos (keywordEach [⟨some "default",e2,kp⟩] X.env)).any (·.1.isNone))=false:=by rfl) :
  PE X (.Call (.Name "max" p) [e1] [⟨some "default",e2,kp⟩] pos) (Agw X.K t tk):=by
 intro pins s Y H Q I h;refine wpAny_Call_Name_kw (Il (u:=.builtin "max") I hg hm (by trivial) ?_ (by decide) (by decide));refine PySem.W.callWith_of (P:=λ_=>True) a3 (λh _=>⟨.machine,.inr (.inl rfl),Looks.of_pure rfl⟩) (PyProof.Rows.evalArgs_kw2 (by rfl) (thn (ha pos pins s Y H _ I h) λus s1 ⟨vs,H1,I1,r1,q1⟩=>?_) hs);refine thn (a5 pos pins s1 Y H1 _ I1 q1) λws s2 ⟨zs,H2,I2,rz,q2⟩=>⟨trivial,?_⟩
 obtain⟨a,ns,d,rfl,rfl,hS,q⟩:=q2;obtain⟨u,rfl,ru⟩:=r1.one;obtain⟨u2,rfl,t,rfl⟩:=rz.one;cases ru
 obtain⟨a4,rv,pl,hz⟩:=I2.list hS;have hi:=L9 rv;obtain⟨ys,hx⟩:=hi.allInts.items;refine AbG (I2.ok.hd hc) (hx▸pl.isList) λv h' tk hv k=>?_
 have e1:ns=ys.toList.map (·.1):=by
  rw[<-nums_intItems,<-hx];exact(show numsOf a4.toArray.toList=ns from hi.numsOf).symm
 have I3:Inv X pins Y H2 {s2 with heap:=h',toks:=tk}:=I2.kept k;rcases hv with⟨h0,rfl⟩|⟨h0,t',rfl⟩
 .have:ns=[]:=by simp_all
  subst this;exact⟨.int d,H2,I3,⟨_,Z⟩,q⟩
 .have a1:∀i,i<ys.size->numAt ys i∈ns/\∃h:i<ns.length,ns[i]=numAt ys i:=λi hi=>by
   have hl:i<ns.length:=by simp_all
   have:ns[i]=numAt ys i:=by simp[e1,numAt,hi]
   exact⟨this▸zL hl,hl,this⟩
  obtain⟨b1,b2⟩:=argBest_gt (numAt ys) (ys.size-1);have a2:ns.length=ys.size:=by rw[e1];simp
  have em:AaE d ns=numAt ys (argBest (λi j=>decide (numAt ys i>numAt ys j)) (ys.size-1)):=by
   refine Aew (λz=>by simp_all) (a1 _ (by omega)).1 λx hx=>?_
   obtain⟨i,hi,rfl⟩:=List.getElem_of_mem hx;rw[(a1 i (by omega)).2.2];exact b2 i (by omega)
  rw[<-em];exact⟨.int (AaE d ns),H2,I3,⟨_,Z⟩,q⟩
end
section
variable{N:List Str}{qual:Str}{scope:Scope}{cd:Value}{outer:List Env}{s₀:Shared}{H₀:Hp}{E:XK}
end
section
variable{j:Nat}{p:Pos}{t:TA}
end
section
variable{N:List Str}{qual:Str}{scope:Scope}{cd:Value}{outer:List Env}{s₀:Shared}{H₀:Hp}{E:XK}
end
abbrev Cx.hold(X:Cx)(u:Value):Cx:={X with A:=X.A.mark (some u),calm:=false,xe:=λ_ _=>False}
section
variable{s:Shared}
end
section
variable{s s':Shared}{B:Heap}{ea:Addr}{a0:Value}
end
section
variable{np:Pos}{b0:Stmt}{suite:List Stmt}{hs:List ExceptHandler}{C0:Addr}{t:TS}{r:Addr->TS}
end
open PySem.Builtin.Str
def Its(x:Str):It:=⟨λi _=>i<x.cps.size,λi H v H'=>H'=H/\∃c,x.cps[i]?=some c/\v=.str ⟨#[c]⟩,λi _=>x.cps.size<=i⟩
section
variable{s:Shared}
end
end L2
namespace L2
open PySem PySem.Spec PyProof.Rows
open PySem.Builtin.Str PySem.StrLaws
def Qy(cur:List Nat):List (List Nat):=if cur=[] then [] else [cur]
def wd:List Nat->List Nat->List (List Nat)
 |cur,[]=>Qy cur
 |cur,c::l=>if Unicode.isSpace c=true then Qy cur++wd [] l else wd (cur++[c]) l
def isM(c:Nat):Bool:=c==123 || c==125 || c==59 || c==124
def tok:List Nat->List Nat->List (List Nat)
 |cur,[]=>Qy cur
 |cur,c::l=>if Unicode.isSpace c=true then Qy cur++tok [] l else if isM c=true then Qy cur++[c]::tok [] l else tok (cur++[c]) l
end L2
namespace L2
open PySem PySem.Spec PyProof.Rows
section
variable{N:List Str}{qual:Str}{scope:Scope}{cd:Value}{outer:List Env}{s₀:Shared}{H₀:Hp}{E:XK}
end
section
variable{CX:CXT}{D:Addr}{E:XK}{m:Str}{o:Expr}{t:TA}
end
end L2
namespace Dsk
open PySem L2 My
inductive Rp where
 |nothing
 |rest
 |send (s:Int)
 |exit (d:Int)
 |iff (s:Int) (p q:Rp)
 |again (p:Rp)
 |hold (s:Int) (p:Rp)
 |watch (s:Int) (p:Rp)
 |trap (p:Rp)
 |thn (p q:Rp)
 |bes (p q:Rp)
def Rp.nd:Rp->Nd
 |.nothing=>.t [.s "nothing"]
 |.rest=>.t [.s "rest"]
 |.send s=>.t [.s "send",.i s]
 |.exit d=>.t [.s "exit",.i d]
 |.iff s p q=>.t [.s "if",.i s,p.nd,q.nd]
 |.again p=>.t [.s "again",p.nd]
 |.hold s p=>.t [.s "hold",.i s,p.nd]
 |.watch s p=>.t [.s "watch",.i s,p.nd]
 |.trap p=>.t [.s "trap",p.nd]
 |.thn p q=>.t [.s "then",p.nd,q.nd]
 |.bes p q=>.t [.s "beside",p.nd,q.nd]
def Rp.hg:Rp->Nat
 |.iff _ p q=>max p.hg q.hg+1
 |.thn p q=>max p.hg q.hg+1
 |.bes p q=>max p.hg q.hg+1
 |.again p=>p.hg+1
 |.hold _ p=>p.hg+1
 |.watch _ p=>p.hg+1
 |.trap p=>p.hg+1
 |_=>1
def Rp.wt:Rp->Nat
 |.rest=>1
 |.send _=>1
 |.iff _ p q=>p.wt+q.wt
 |.thn p q=>p.wt+q.wt
 |.bes p q=>p.wt+q.wt
 |.again p=>p.wt+1
 |.hold _ p=>p.wt
 |.watch _ p=>p.wt
 |.trap p=>p.wt
 |_=>0
def Rp.ok(sg:Int):Rp->Prop
 |.send s=>0<=s/\s<sg
 |.exit d=>0<=d/\d<4
 |.iff s p q=>(0<=s/\s<sg)/\p.ok sg/\q.ok sg
 |.thn p q=>p.ok sg/\q.ok sg
 |.bes p q=>p.ok sg/\q.ok sg
 |.again p=>p.ok sg
 |.hold s p=>(0<=s/\s<sg)/\p.ok sg
 |.watch s p=>(0<=s/\s<sg)/\p.ok sg
 |.trap p=>p.ok sg
 |_=>True
def Rp.hg_pos(p:Rp):1<=p.hg:=by cases p<;>exact le_add_left 1 _
def num:Rp->Int->Pt×Int
 |.nothing,k=>(.nothing,k)
 |.rest,k=>(.rest k,k+1)
 |.send s,k=>(.send s,k)
 |.exit d,k=>(.exit d,k)
 |.iff s p q,k=>(.iff s (num p k).1 (num q (num p k).2).1,(num q (num p k).2).2)
 |.again p,k=>(.again (num p k).2 (num p k).1,(num p k).2+1)
 |.hold s p,k=>(.hold s (num p k).1,(num p k).2)
 |.watch s p,k=>(.watch s (num p k).1,(num p k).2)
 |.trap p,k=>(.trap (num p k).1,(num p k).2)
 |.thn p q,k=>(.thn (num p k).1 (num q (num p k).2).1,(num q (num p k).2).2)
 |.bes p q,k=>(.bes (num p k).1 (num q (num p k).2).1,(num q (num p k).2).2)
def Rp.sz:Rp->Nat
 |.iff _ p q=>p.sz+q.sz+1
 |.thn p q=>p.sz+q.sz+1
 |.bes p q=>p.sz+q.sz+1
 |.again p=>p.sz+1
 |.hold _ p=>p.sz+1
 |.watch _ p=>p.sz+1
 |.trap p=>p.sz+1
 |_=>1
structure Zw(n:Nat)(r:Rp)(k:Int)(q:Pt×Int):Prop where
 hg:q.1.hg=r.hg
 sz:q.1.sz=r.sz
 wt:(rsP q.1).length<=r.wt
 ok:r.ok n->okN n q.1
 rs:∀x∈rsP q.1,k<=x/\x<q.2
 ln:q.2=k+(rsP q.1).length
def Afe(n:Nat)(r:Rp):∀k,Zw n r k (num r k):=by
 have two:∀{p q:Rp}{k:Int}{a:Pt},Zw n p k (num p k)->Zw n q (num p k).2 _->rsP a=rsP (num q (num p k).2).1++rsP (num p k).1->(∀x∈rsP a,k<=x/\x<(num q (num p k).2).2)/\(num q (num p k).2).2=k+(rsP a).length/\(rsP a).length<=p.wt+q.wt:=λ{p q k a}h1 h2 e=>by
  have l1:=h1.ln;have l2:=h2.ln;rw[e];refine⟨λx hx=>?_,?_,?_⟩
  .rcases vY.mp hx with z|z
   .have:=h2.rs x z;omega
   .have:=h1.rs x z;omega
  .rw[vF];omega
  .rw[vF];have:=h1.wt;have:=h2.wt;omega
 induction r with
 |nothing=>exact λk=>⟨rfl,rfl,zB _,λ_=>trivial,λx hx=>(nomatch hx),(Int.add_zero _).symm⟩
 |rest=>exact λk=>⟨rfl,rfl,zB _,λ_=>trivial,λx hx=>(by rw[mS hx];show k<=k/\k<k+1;omega),rfl⟩
 |send s=>exact λk=>⟨rfl,rfl,zZ _,λh=>h,λx hx=>(nomatch hx),(Int.add_zero _).symm⟩
 |exit d=>exact λk=>⟨rfl,rfl,zB _,λh=>h,λx hx=>(nomatch hx),(Int.add_zero _).symm⟩
 |iff s p q a1 a2=>
  intro k;have a:=a1 k;have b:=a2 (num p k).2;obtain⟨t1,t2,t3⟩:=two (a:=(num (.iff s p q) k).1) a b rfl;exact⟨by simp only[num,Pt.hg,Rp.hg,a.hg,b.hg],by simp only[num,Pt.sz,Rp.sz,a.sz,b.sz],t3,λh=>⟨h.1,a.ok h.2.1,b.ok h.2.2⟩,t1,t2⟩
 |thn p q a1 a2=>
  intro k;have a:=a1 k;have b:=a2 (num p k).2;obtain⟨t1,t2,t3⟩:=two (a:=(num (.thn p q) k).1) a b rfl;exact⟨by simp only[num,Pt.hg,Rp.hg,a.hg,b.hg],by simp only[num,Pt.sz,Rp.sz,a.sz,b.sz],t3,λh=>⟨a.ok h.1,b.ok h.2⟩,t1,t2⟩
 |bes p q a1 a2=>
  intro k;have a:=a1 k;have b:=a2 (num p k).2;obtain⟨t1,t2,t3⟩:=two (a:=(num (.bes p q) k).1) a b rfl;exact⟨by simp only[num,Pt.hg,Rp.hg,a.hg,b.hg],by simp only[num,Pt.sz,Rp.sz,a.sz,b.sz],t3,λh=>⟨a.ok h.1,b.ok h.2⟩,t1,t2⟩
 |again p ih=>
  intro k;have a:=ih k;have l1:=a.ln;refine⟨by simp only[num,Pt.hg,Rp.hg,a.hg],by simp only[num,Pt.sz,Rp.sz,a.sz],succ_le_succ a.wt,λh=>a.ok h,λx hx=>?_,?_⟩
  .show k<=x/\x<(num p k).2+1
   rcases zM.mp hx with z|z
   .rw[z];omega
   .have:=a.rs x z;omega
  .show(num p k).2+1=k+(((num p k).2::rsP (num p k).1).length:Nat)
   rw[vX];omega
 |hold s p ih=>
  intro k;have a:=ih k;exact⟨by simp only[num,Pt.hg,Rp.hg,a.hg],by simp only[num,Pt.sz,Rp.sz,a.sz],a.wt,λh=>⟨h.1,a.ok h.2⟩,a.rs,a.ln⟩
 |watch s p ih=>
  intro k;have a:=ih k;exact⟨by simp only[num,Pt.hg,Rp.hg,a.hg],by simp only[num,Pt.sz,Rp.sz,a.sz],a.wt,λh=>⟨h.1,a.ok h.2⟩,a.rs,a.ln⟩
 |trap p ih=>
  intro k;have a:=ih k;exact⟨by simp only[num,Pt.hg,Rp.hg,a.hg],by simp only[num,Pt.sz,Rp.sz,a.sz],a.wt,λh=>a.ok h,a.rs,a.ln⟩
structure Its(r:Rp)(x:Str)(xs:List Nd):Prop where
 e:r.nd=.t (.s x::xs)
 l:xs.length<=3
 c:∀n∈xs,(∃k,n=.i k)\/∃r':Rp,n=r'.nd/\r'.hg+1<=r.hg
def Afu(r:Rp):∃x xs,Its r x xs:=by
 have i1:∀k,∀n∈[Nd.i k],(∃k,n=.i k)\/∃r':Rp,n=r'.nd/\r'.hg+1<=r.hg:=λk n hn=>.inl ⟨k,mS hn⟩
 cases r with
 |nothing=>exact⟨_,[],rfl,by decide,λn hn=>by cases hn⟩
 |rest=>exact⟨_,[],rfl,by decide,λn hn=>by cases hn⟩
 |send s=>exact⟨_,[.i s],rfl,by simp,i1 s⟩
 |exit d=>exact⟨_,[.i d],rfl,by simp,i1 d⟩
 |iff s p q=>
  refine⟨_,[.i s,p.nd,q.nd],Z,by simp,λn hn=>?_⟩;simp only[zM,zJ,or_false]at hn;rcases hn with rfl|rfl|rfl
  .exact .inl ⟨s,Z⟩
  .exact .inr ⟨p,Z,by simp only[Rp.hg];omega⟩
  exact .inr ⟨q,Z,by simp only[Rp.hg];omega⟩
 |thn p q=>
  refine⟨_,[p.nd,q.nd],Z,by simp,λn hn=>?_⟩;simp only[zM,zJ,or_false]at hn;rcases hn with rfl|rfl
  .exact .inr ⟨p,Z,by simp only[Rp.hg];omega⟩
  exact .inr ⟨q,Z,by simp only[Rp.hg];omega⟩
 |bes p q=>
  refine⟨_,[p.nd,q.nd],Z,by simp,λn hn=>?_⟩;simp only[zM,zJ,or_false]at hn;rcases hn with rfl|rfl
  .exact .inr ⟨p,Z,by simp only[Rp.hg];omega⟩
  exact .inr ⟨q,Z,by simp only[Rp.hg];omega⟩
 |again p=>
  refine⟨_,[p.nd],Z,by simp,λn hn=>?_⟩;rw[mS hn];exact .inr ⟨p,Z,by simp only[Rp.hg];omega⟩
 |trap p=>
  refine⟨_,[p.nd],Z,by simp,λn hn=>?_⟩;rw[mS hn];exact .inr ⟨p,Z,by simp only[Rp.hg];omega⟩
 |hold s p=>
  refine⟨_,[.i s,p.nd],Z,by simp,λn hn=>?_⟩;simp only[zM,zJ,or_false]at hn;rcases hn with rfl|rfl
  .exact .inl ⟨s,Z⟩
  exact .inr ⟨p,Z,by simp only[Rp.hg];omega⟩
 |_ s p=>
  refine⟨_,[.i s,p.nd],Z,by simp,λn hn=>?_⟩;simp only[zM,zJ,or_false]at hn;rcases hn with rfl|rfl
  .exact .inl ⟨s,Z⟩
  exact .inr ⟨p,Z,by simp only[Rp.hg];omega⟩
def Pb{tc:TT}{A B:TS}(z:Bool->Hp->Prop)(ht:∀Q:Bool->Hp->Prop,(∀b H',z b H'->Q b H')->tc Y H Q)(hA:∀H',z true H'->A D Y H')(hB:∀H',z false H'->B D Y H'):tIfS tc A B D Y H:=
 ht _ λb H' h=>by
  cases b with
  |true=>exact Dg (hA _ h)
  |false=>exact Fh (hB _ h)
def Ks(c:Int):Int:=(c%2147483647+11)*48271*69621%2147483629
def Pw(c:Int):0<=Ks c:=uW _ (by decide)
inductive Sl  (vs:List V) (H:Hp) (Q:VK):Prop
 |mk(c:Int)(_:vs=[.int c])(_:Q (.int (Ks c)) H):Sl  vs H Q
def L7:Sp:=λvs H Q _=>Sl  vs H Q
inductive AbN(K:FA)(vs:List V)(H:Hp)(Q:VK):Prop
 |mk(a:Addr)(ns:List Int)(k:Int)(_:vs=[.ref a,.int k])(_:SqL K H a (ns.map V.int))(_:0<=k)(_:∀m:Int,0<=m->Q (.int m) H)
def AfS(K:FA):Sp:=λvs H Q _=>AbN K vs H Q
inductive AbI(K:FA)(vs:List V)(H:Hp)(Q:VK):Prop
 |mk(seed sg:Int)(_:vs=[.int seed,.int sg])(_:0<sg)(_:∀v r H',Same H H'->PAt K H' (Rp.nd r) v->r.hg<=2->r.wt<=1->r.sz<=3->r.ok sg->Q v H')
def AgN(K:FA):Sp:=λvs H Q _=>AbI K vs H Q
inductive Vs(K:FA)(n:Nat)(vs:List V)(H:Hp)(Q:VK):Prop
 |mk(v:V)(r:Rp)(_:vs=[v])(_:PAt K H (Rp.nd r) v)(_:r.hg<=n)(_:∀(m:Int)H',Same H H'->Q (.int m) H')
def L3(K:FA)(n:Nat):Sp:=λvs H Q _=>Vs K n vs H Q
abbrev PrR(K:FA)(H:Hp)(l:List Rp)(vs:List V):Prop:=PySem.Paired (λp v=>PAt K H (Rp.nd p) v) l vs
def E8(T:Tp H H')(h:PrR K H l vs):PrR K H' l vs:=Bh h λ_ _ a=>a.mono T
def wH(l:List Rp):Nat:=(l.map Rp.hg).sum
def wR(l:List Rp):Nat:=(l.map Rp.wt).sum
def wS(l:List Rp):Nat:=(l.map Rp.sz).sum
def Iz(l:List Rp)(p:Rp):wS (l++[p])=wS l+p.sz:=by simp[wS]
def Hl(l:List Rp)(p:Rp):wH (l++[p])=wH l+p.hg:=by simp[wH]
def Jd(l:List Rp)(p:Rp):wR (l++[p])=wR l+p.wt:=by simp[wR]
theorem Jc{F:Rp->V->Prop}:∀{l:List Rp}{vs:List V},PySem.Paired F l vs->¬l=[]->∃z p ws v,l=z++[p]/\vs=ws++[v]/\PySem.Paired F z ws/\F p v
 |_,_,.nil,h=>absurd rfl h
 |_,_,.cons (a:=a) (b:=b) (l₁:=l1) (l₂:=l2) f t,_=>by
  cases t with
  |nil=>exact⟨[],a,[],b,rfl,rfl,.nil,f⟩
  |_ f' t'=>
   obtain⟨z,p,ws,v,e1,e2,t0,fp⟩:=Jc (.cons f' t') (by simp);exact⟨a::z,p,b::ws,v,by rw[e1];rfl,by rw[e2];rfl,.cons f t0,fp⟩
inductive Zi(K:FA)(vs:List V)(H:Hp)(Q:VK):Prop
 |mk(seed sg:Int)(r:Addr)(l:List Rp)(xs:List V)(_:vs=[.ref r,.int seed,.int sg])(_:0<sg)(_:H r=some (.lst xs))(_:PrR K H l xs)(_:¬l=[])(_:(∀p∈l,p.ok sg))(_:wH l<=60)(_:∀(v:V)(p:Rp)(l':List Rp)(xs':List V)(H':Hp),Kp r H H'->H' r=some (.lst xs')->PrR K H' l' xs'->PAt K H' (Rp.nd p) v->p.ok sg->(∀q∈l',q.ok sg)->wH l'+p.hg<=wH l+1->wR l'+p.wt<=wR l+1->l'.length+1<=l.length->wS l'+p.sz+l'.length<=wS l+l.length+1->Q v H')
def Ado(K:FA):Sp:=λvs H Q _=>Zi K vs H Q
inductive W9(K:FA)(vs:List V)(H:Hp)(Q:VK):Prop
 |mk(c:Addr)(cs:List Int)(sg:Int)(_:vs=[.ref c,.int sg])(_:SqL K H c (cs.map V.int))(_:cs.length<=30)(_:0<sg)(_:∀(v:V)(p:Rp)(H':Hp),Same H H'->PAt K H' (Rp.nd p) v->p.ok sg->p.hg<=2*cs.length+3->p.wt<=cs.length+1->p.sz<=4*cs.length+10->Q v H')
def AcA(K:FA):Sp:=λvs H Q _=>W9 K vs H Q
inductive Zn(K:FA)(n:Nat)(vs:List V)(H:Hp)(Q:VK):Prop
 |mk(v:V)(r:Rp)(k:Int)(_:vs=[v,.int k])(_:PAt K H (Rp.nd r) v)(_:r.hg<=n)(_:∀(t:Addr)(v':V)H',Same H H'->H' t=some (.tup [v',.int (num r k).2])->PAt K H' (Pt.nd (num r k).1) v'->Q (.ref t) H')
def Qb(K:FA)(n:Nat):Sp:=λvs H Q _=>Zn K n vs H Q
inductive Uj(K:FA)(vs:List V)(H:Hp)(Q:VK):Prop
 |mk(a:Addr)(ns:List Int)(j:Nat)(_:vs=[.ref a,.int j])(_:SqL K H a (ns.map V.int))(_:j<=30)(_:∀(t pr:Addr)(c n:Nat)(x1 v:V)(r:Rp)(H':Hp),Same H H'->H' t=some (.tup [.ref pr,.int (num r 0).2])->H' pr=some (.tup [.int c,x1,.int n,v])->c<=n->1<=n->n<=10->PAt K H' (num r 0).1.nd v->r.ok n->r.hg<=2*j+3->r.wt<=j+1->r.sz<=4*j+10->Q (.ref t) H')
def Abq(K:FA):Sp:=λvs H Q _=>Uj K vs H Q
def Ahf(F:Ao K mg "_law_mixed" ["_law_cell"] Iu):Ae P w K mg base 1 "_law_mixed" ["_law_cell"] L7:=by
 refine F.ok Tw (λvs H Q E h=>?_) (λf _ A _ s H _ Q E _ h=>?_)
 .obtain⟨c,rfl,_⟩:=h;rfl
 obtain⟨c,rfl,q⟩:=h;refine⟨_,(Ad (Ag (Au Cy (Au Aa5 (Au Aa5 (Au Ju (Au Cy (pv 0) Am) Am) Am) Am) Am))),?_⟩;refine⟨_,_,Z,Z,(by simp),_,_,Z,Z,_,_,Z,Z,.inr ⟨by decide,by decide⟩,_,_,Z,Z,.inr ⟨by decide,by decide⟩,_,_,Z,Z,(by simp),?_⟩;exact q
def Aib(F:Ao K mg "_law_at" ["_law_script","_law_k"] Ld)(T:Txt mg)(z:Ae P w K mg base 1 "_law_mixed" ["_law_cell"] L7):Ae P w K mg base 2 "_law_at" ["_law_script","_law_k"] (AfS K):=by
 refine F.ok Z6 (λvs H Q E h=>?_) (λf _ A _ s H _ Q E _ h=>?_)
 .obtain⟨a,ns,k,rfl,_⟩:=h;rfl
 obtain⟨a,ns,k,rfl,hS,h0,q⟩:=h
 refine⟨_,(Ab (Az (Bg Q3 (pv 1) (Bs C9 rfl T.n_len PySem.boot_len (pa1 (pv 0))) (B4 _))
   (Ad (Ag (pcl z (pa1 (B7 B0 (pv 0) (pv 1) (λ_ _=>rfl))))))
   Ar)
  (Ad (Ag (pcl z (pa1 Am))))),?_⟩
 refine⟨a,_,Z,.inl hS,_,_,Z,Z,?_⟩;refine As (λc=>?_) (λc=>?_)
 .have c':=vN c
  rw[vE]at c';have hk:k.toNat<ns.length:=by omega
  have e:atI (ns.map V.int) ((k.toNat:Nat):Int)=some (.int ns[k.toNat]):=Aa (by rw[vJ,vD hk]<;>rfl);rw[show((k.toNat:Nat):Int)=k by omega]at e;exact⟨hS,e,_,Z,q _ (Pw _)⟩
 .exact⟨_,Z,q _ (Pw _)⟩
def Aid(F:Ao K mg "_law_leaf" ["_law_seed","_law_signs"] Jh):Ae P w K mg base 1 "_law_leaf" ["_law_seed","_law_signs"] (AgN K):=by
 refine F.ok Nb (λvs H Q E h=>?_) (λf _ A _ s H _ Q E _ h=>?_)
 .obtain⟨n,sg,rfl⟩:=h;rfl
 obtain⟨n,sg,rfl,a1,q⟩:=h
 refine⟨_,(Ab (pst 2 Nb.nd (Au Cy (pv 0) Am))
  (Ab (Az (Bg Q3 (pv 2) Am (B4 _))
   (Ad (Ag (Ap (pa1 Ah))))
   Ar)
  (Ab (Az (Bg Q3 (pv 2) Am (B4 _))
   (Ad (Ag (Ap (pa2 Ah (Au Cy (Au Df (pv 0) Am) (pv 1))))))
   Ar)
  (Ab (Az (pce (pv 2) Am)
   (Ad (Ag (Ap (pa2 Ah (Au Cy (Au Df (pv 0) Am) Am)))))
   Ar)
  (Ab (Az (pce (Au Cy (Au Df (pv 0) Am) Am) Am)
   (Ad (Ag (Ap (pa1 Ah))))
   Ar)
  (Ad (Ag (Ap (Ba Ah (pa3 (Au Cy (Au Df (pv 0) Am) (pv 1)) (Ap (pa2 Ah (Au Cy (Au Df (pv 0) Am) (pv 1)))) (Ap (pa1 Ah)))))))))))),?_⟩
 have md:∀z:Int,0<=z%sg/\z%sg<sg:=λz=>⟨uW _ (by omega),uU _ a1⟩
 refine⟨_,_,Z,Z,(by show(0:Int)<7;decide),_,_,Z,Z,As (λc=>?_) λc=>⟨_,_,Z,Z,As (λc=>?_) λc=>⟨Z,As (λc=>?_) λc=>⟨_,_,Z,Z,⟨by decide,by decide⟩,_,_,Z,Z,(by show(0:Int)<2;decide),Z,As (λc=>?_) λc=>?_⟩⟩⟩⟩
 .exact⟨zN1,λt ht=>q _ .rest _ (Ac ht _) (.t (.inl qa) (.cons .s .nil)) (by simp[Rp.hg]) (by simp[Rp.wt]) (by simp[Rp.sz]) trivial⟩
 .exact⟨_,_,Z,Z,⟨by decide,by decide⟩,_,_,Z,Z,a1,zN2,λt ht=>q _ (.send (n/7%sg)) _ (Ac ht _) (.t (.inl qa) (.cons .s (.cons .i .nil))) (by simp[Rp.hg]) (by simp[Rp.wt]) (by simp[Rp.sz]) (md _)⟩
 .exact⟨_,_,Z,Z,⟨by decide,by decide⟩,_,_,Z,Z,(by show(0:Int)<2;decide),zN2,λt ht=>q _ (.exit (n/7%2)) _ (Ac ht _) (.t (.inl qa) (.cons .s (.cons .i .nil))) (by simp[Rp.hg]) (by simp[Rp.wt]) (by simp[Rp.sz]) ⟨uW _ (by decide),Int.lt_trans (uU _ (by decide)) (by decide)⟩⟩
 .exact⟨zN1,λt ht=>q _ .nothing _ (Ac ht _) (.t (.inl qa) (.cons .s .nil)) (by simp[Rp.hg]) (by simp[Rp.wt]) (by simp[Rp.sz]) trivial⟩
 refine⟨_,_,Z,Z,⟨by decide,by decide⟩,_,_,Z,Z,a1,_,_,Z,Z,⟨by decide,by decide⟩,_,_,Z,Z,a1,zN2,λt1 a3=>⟨zN1,λt2 a2=>⟨zN4,λt ht=>?_⟩⟩⟩
 obtain⟨g,n1,n2,n3⟩:=Afc a3 a2 ht;exact q _ (.iff (n/7%sg) (.send (n/1400%sg)) .nothing) _ g (.t (.inl n3) (.cons .s (.cons .i (.cons (.t (.inl n1) (.cons .s (.cons .i .nil))) (.cons (.t (.inl n2) (.cons .s .nil)) .nil))))) (by simp[Rp.hg]) (by simp[Rp.wt]) (by simp[Rp.sz]) ⟨md _,md _,trivial⟩
def AeF(F:Ao K mg "_law_deep" ["_law_part"] Fx)(T:Txt mg)(bT:Ae P w K mg base k "_law_deep" ["_law_part"] (L3 K n)):Ae P w K mg base (k+1) "_law_deep" ["_law_part"] (L3 K (n+1)):=by
 refine F.ok Ny (λvs H Q E h=>?_) (λf _ A _ s H vs Q E _ h=>?_)
 .obtain⟨v,r,rfl⟩:=h;rfl
 obtain⟨v,r,rfl,av,_,q⟩:=h
 refine⟨_,(Ab (Dz (j:=1) (tc:=(tB (tCB (Z3 K) (Bl (Aw 0) (Bl (tC (.ty "tuple")) Cs))))) ["_law_one"] [] Ny.nd rfl (Or.inl rfl) rfl (Bx (Af Fx) ["_law_part","_law_inner"] (by trivial)) (Ls (pv 0)) (λs2 H2 fp cl C=>Aq (i:=0) (show Nodup [("_law_one": Str)] from by trivial) rfl (Or.inl rfl)) (A9 (by decide)) (λs2 H2 fp cl C=>Dj (Nn (Bs N4 rfl T.n_isinstance PyProof.Rows.boot_isinstance (pa2 (pv 0) (Yu rfl T.n_tuple (by trivial) rfl))))) (λs2 H2 fp cl C=>(pcl bT (pa1 (pv 0)))))
  (Ad (Ag (Au Ju (Dp Ni rfl T.n_int (by trivial) (pa1 (Ew T7 (pix (pv 0)) Ah (B4 _)))) (Ad5 rfl rfl T.n_max (pa1 (pv 1)) (Aem Am Afw)))))),?_⟩
 obtain⟨x,xs,er,_,hc⟩:=Afu r;rw[er]at av;obtain⟨a,vs,rfl,ha,hx⟩:=av.get;have a3:=hx.len;rw[vX]at a3
 have a4:∃r0,vs=.str x::r0:=by
  unfold A3 at hx;obtain⟨_,r0,e,hs,_⟩:=hx;exact⟨r0,by rw[e,hs.str]⟩
 refine⟨a,Z,⟨_,ha.sq⟩,Ur (λi ys H'=>Same H H'/\∃ns:List Int,ys=ns.map V.int) ⟨Bv _,[],Z⟩ (Cq (by omega)) (λi ys H' h=>(ha.mono h.1.tp).sq) ?_ ?_⟩
 .rintro i y ys H2 M hi ⟨g2,ns,rfl⟩ a2 a1
  obtain⟨nd,hn,z⟩:=hx.at hi;have z:=z.mono g2.tp;obtain⟨ty,a5,ek⟩:=Ab9 z;refine⟨_,"tuple",ty,_,Z,a5,ek,?_⟩;refine As (λc=>?_) (λc=>?_)
  .rcases zM.mp (vR hn) with e|nm
   .rw[e]at c;cases c
   rcases hc nd nm with⟨k',e⟩|⟨r',e,a6⟩
   .rw[e]at c;cases c
   subst e;refine⟨y,r',Z,z,by omega,λm H3 g3=>?_⟩;exact a2 _ _ (by rw[vF,vG];exact succ_le_succ a1) ⟨g2.trans g3,ns++[m],by simp⟩
  exact a2 _ _ (Nat.le_succ_of_le a1) ⟨g2,ns,Z⟩
 rintro ys H2 a1 ⟨g2,ns,rfl⟩ D hD
 have kD:=Ac hD (.lst (ns.map V.int));obtain⟨r0,rfl⟩:=a4;refine⟨(ha.mono (g2.trans kD).tp).sq,Aa rfl,Z,.inr ⟨_,Z,D,ns,0,Z,Z,Ai qa,_,_,Z,Z,q _ _ (g2.trans kD)⟩⟩
theorem AdX(F:Ao K mg "_law_deep" ["_law_part"] Fx)(T:Txt mg):∀n:Nat,Ae P w K mg base n "_law_deep" ["_law_part"] (L3 K n)
 |0=>F.zero λvs H Q E ⟨v,r,_,_,z,_⟩=>absurd z (not_le_of_gt r.hg_pos)
 |n+1=>AeF F T (AdX F T n)
def Ahs{F:Rp->V->Prop}(h:PySem.Paired F l xs)(c:¬(xs.length:Int)=0):¬l=[]:=by
 rintro rfl;cases h
 exact c rfl
def Adn(m:Int):∃z,(z=x\/z=y)/\atI [V.str x,V.str y] (m%2)=some (.str z):=by
 have:m%2=0\/m%2=1:=by omega
 rcases this with e|e
 .exact⟨x,.inl rfl,by rw[e];rfl⟩
 exact⟨y,.inr rfl,by rw[e];rfl⟩
def AiX(F:Ao K mg "_law_grown" ["_law_stack","_law_seed","_law_signs"] Iq)(T:Txt mg)(bT:Ae P w K mg base 60 "_law_deep" ["_law_part"] (L3 K 60)):Ae P w K mg base 61 "_law_grown" ["_law_stack","_law_seed","_law_signs"] (Ado K):=by
 refine F.ok Fs (λvs H Q E h=>?_) (λf _ A _ s H _ Q E _ h=>?_)
 .obtain⟨seed,sg,r,l,xs,rfl⟩:=h;rfl
 obtain⟨seed,sg,r,l,xs,rfl,b7,hv,c6,c4,b4,b9,q⟩:=h
 refine⟨_,(Ab (pst 3 Fs.nd (Au Cy (pv 1) Am))
  (Ab (pst 4 Fs.nd (Au Cy (Au Df (pv 1) Am) (pv 2)))
  (Ab (pst 5 Fs.nd (No uG uZ uY Nh (pv 0)))
  (Ab (Az (pce (pv 3) Am)
   (Ad (Ag (Ap (pa2 Ah (pv 5)))))
   Ar)
  (Ab (Az (pce (pv 3) Am)
   (Ad (Ag (Ap (pa3 (B7 B0 (An (pa2 Ah Ah)) (Au Cy (Au Df (pv 1) Am) Am) (λ_ _=>rfl)) (pv 4) (pv 5)))))
   Ar)
  (Ab (Az (PW.pt (Nq (pce (pv 3) Am) (On (Bg Q3 (pcl bT (pa1 (pv 5))) Am (B4 _)))))
   (Ad (Ag (Ap (pa2 Ah (pv 5)))))
   Ar)
  (Ab (Az (PW.pt (Ha (pce (Bs C9 rfl T.n_len PySem.boot_len (pa1 (pv 0))) Am) (F8 (pce (pv 3) Am))))
   (Ad (Ag (Ap (Ba Ah (pa3 (pv 4) (pv 5) (Ap (pa1 Ah)))))))
   Ar)
  (Ab (pst 6 Fs.nd (No uG uZ uY Nh (pv 0)))
  (Ab (Az (pce (pv 3) Am)
   (Ad (Ag (Ap (Ba Ah (pa3 (pv 4) (pv 6) (pv 5))))))
   Ar)
  (Ab (Az (pce (pv 3) Am)
   (Ad (Ag (Ap (pa3 Ah (pv 6) (pv 5)))))
   Ar)
  (Ad (Ag (Ap (pa3 Ah (pv 6) (pv 5))))))))))))))),?_⟩
 obtain⟨l0,p,ws,v,rfl,rfl,c3,ap⟩:=Jc c6 c4;have op:=b4 p (by simp);have hm:0<=seed/16%sg/\seed/16%sg<sg:=⟨uW _ (by omega),uU _ b7⟩;have a7:=λq hq=>b4 q (zY _ hq)
 have pp:=Rp.hg_pos p;rw[Hl]at b9;rw[Hl,Jd,Iz]at q;refine⟨_,_,Z,Z,(by show(0:Int)<16;decide),_,_,Z,Z,⟨by decide,by decide⟩,_,_,Z,Z,b7,?_⟩;refine⟨.inl ⟨Z,_,Ai hv⟩,r,_,v,Z,Z,hv,by simp,?_⟩;have e0:(ws++[v]).dropLast=ws:=by simp
 have T0:Tp H (upd H r (.lst (ws++[v]).dropLast)):=tpLs hv;have k0:Kp r H (upd H r (.lst (ws++[v]).dropLast)):=Kp.upd;have b1:(upd H r (.lst (ws++[v]).dropLast)) r=some (.lst ws):=by rw[qa,e0]
 have a9:=E8 T0 c3;have a1:=ap.mono T0;generalize (upd H r (.lst (ws++[v]).dropLast))=H1 at b1 a9 a1 k0
 have one:∀(H2:Hp)(t:Addr)(o:List V)(p':Rp),Same H1 H2->H2 t=none->PAt K (upd H2 t (.tup o)) (Rp.nd p') (.ref t)->p'.ok sg->p'.hg<=p.hg+1->p'.wt<=p.wt+1->p'.sz<=p.sz+2->Q (.ref t) (upd H2 t (.tup o)):=by
  intro H2 t o p' g2 ht a o' h1 h2 h3;have g:=g2.trans (Ac ht (.tup o));exact q _ p' l0 ws _ (k0.trans (Same.kp g)) (g _ _ b1) (E8 g.tp a9) a o' a7 (by omega) (by omega) (by simp) (by rw[vF,vG];omega)
 refine⟨Z,As (λc=>?_) λc=>?_⟩
 .exact⟨zN2,λt ht=>one H1 t _ (.again p) (Bv _) ht (.t (.inl qa) (.cons .s (.cons (a1.mono (Ac ht _).tp) .nil))) op (by simp only[Rp.hg];omega) (by simp only[Rp.wt];omega) (by simp only[Rp.sz];omega)⟩
 refine⟨Z,As (λc=>?_) λc=>?_⟩
 .obtain⟨z,hz,ez⟩:=Adn (seed/500)
  refine⟨zN2,λl5 c5=>?_⟩;have k5:=Ac c5 (.lst [V.str "hold",.str "watch"]);refine⟨_,_,Z,Z,⟨by decide,by decide⟩,_,_,Z,Z,(by show(0:Int)<2;decide),Ai qa,ez,zN3,λt ht=>?_⟩;have ax:=a1.mono (k5.trans (Ac ht (.tup [V.str z,.int (seed/16%sg),v]))).tp;rcases hz with rfl|rfl
  .exact one _ t _ (.hold (seed/16%sg) p) k5 ht (.t (.inl qa) (.cons .s (.cons .i (.cons ax .nil)))) ⟨hm,op⟩ (by simp only[Rp.hg];omega) (by simp only[Rp.wt];omega) (by simp only[Rp.sz];omega)
  exact one _ t _ (.watch (seed/16%sg) p) k5 ht (.t (.inl qa) (.cons .s (.cons .i (.cons ax .nil)))) ⟨hm,op⟩ (by simp only[Rp.hg];omega) (by simp only[Rp.wt];omega) (by simp only[Rp.sz];omega)
 dsimp only[Bn,tSeq,Rm,tC,tNext];refine Pb (λb H'=>Same H1 H') (λQ' k=>?_) ?_ ?_
 .refine⟨Z,As (λc=>?_) λc=>k _ _ (Bv _)⟩
  exact⟨v,p,Z,a1,by omega,λm H2 g2=>⟨_,_,Z,Z,k _ _ g2⟩⟩
 .exact λH2 g2=>⟨zN2,λt ht=>one H2 t _ (.trap p) g2 ht (.t (.inl qa) (.cons .s (.cons (a1.mono (g2.trans (Ac ht _)).tp) .nil))) op (by simp only[Rp.hg];omega) (by simp only[Rp.wt];omega) (by simp only[Rp.sz];omega)⟩
 intro H2 g2;have a3:=g2 _ _ b1;have a8:=E8 g2.tp a9;have b3:=a1.mono g2.tp;have k1:=k0.trans (Same.kp g2);have d3:=uC a8;dsimp only[Bn,tSeq,Rm,tC,tNext];refine Pb (λb H'=>H'=H2/\(b=false->¬l0=[])) (λQ' k=>?_) ?_ ?_
 .refine⟨r,_,Z,.inl (Ai a3),Z,As (λc=>k _ _ ⟨Z,λz=>nomatch z⟩) λc=>?_⟩
  have a4:=Ahs a8 (λz=>c (vK (by rw[z])));exact⟨Z,k _ _ ⟨Z,λ_=>a4⟩⟩
 .rintro H3 ⟨rfl⟩
  refine⟨zN1,λt1 c9=>⟨zN4,λt ht=>?_⟩⟩;obtain⟨g,n1,n2⟩:=Jz c9 ht;exact q _ (.iff (seed/16%sg) p .nothing) l0 ws _ (k1.trans (Same.kp g)) (g _ _ a3) (E8 g.tp a8) (.t (.inl n2) (.cons .s (.cons .i (.cons (b3.mono g.tp) (.cons (.t (.inl n1) (.cons .s .nil)) .nil))))) ⟨hm,op,trivial⟩ a7 (by simp only[Rp.hg];omega) (by simp only[Rp.wt];omega) (by simp) (by simp only[Rp.sz,vF,vG];omega)
 rintro H3 ⟨rfl,a4⟩;obtain⟨l1,p2,a2,v2,rfl,rfl,c8,b8⟩:=Jc a8 (a4 rfl);have b2:=a7 p2 (by simp);have d2:=Rp.hg_pos p2;rw[Hl,Jd,Iz]at q;refine⟨.inl ⟨Z,_,Ai a3⟩,r,_,v2,Z,Z,a3,by simp,?_⟩;have T2:Tp H3 (upd H3 r (.lst (a2++[v2]).dropLast)):=tpLs a3;have k2:Kp r H3 (upd H3 r (.lst (a2++[v2]).dropLast)):=Kp.upd;have b6:(upd H3 r (.lst (a2++[v2]).dropLast)) r=some (.lst a2):=by rw[qa];simp
 have b5:=E8 T2 c8;have a6:=b3.mono T2;have a5:=b8.mono T2;have k3:=k1.trans k2;generalize (upd H3 r (.lst (a2++[v2]).dropLast))=H4 at b6 b5 a6 a5 k3
 have two:∀(t:Addr)(o:List V)(p':Rp)(ht:H4 t=none),PAt K (upd H4 t (.tup o)) (Rp.nd p') (.ref t)->p'.ok sg->p'.hg<=p.hg+p2.hg->p'.wt<=p.wt+p2.wt->p'.sz<=p.sz+p2.sz+1->Q (.ref t) (upd H4 t (.tup o)):=by
  intro t o p' ht a o' h1 h2 h3;have g:=Ac ht (.tup o);exact q _ p' l1 a2 _ (k3.trans (Same.kp g)) (g _ _ b6) (E8 g.tp b5) a o' (λq hq=>a7 q (zY _ hq)) (by omega) (by omega) (by simp) (by rw[vF,vF,vG,vG];omega)
 exact⟨Z,As (λc=>(by exact⟨zN4,λt ht=>two t _ (.iff (seed/16%sg) p2 p) ht (.t (.inl qa) (.cons .s (.cons .i (.cons (a5.mono (Ac ht _).tp) (.cons (a6.mono (Ac ht _).tp) .nil))))) ⟨hm,b2,op⟩ (by simp only[Rp.hg];omega) (by simp only[Rp.wt];omega) (by simp only[Rp.sz];omega)⟩)) λc=>⟨Z,As (λc=>(by exact⟨zN3,λt ht=>two t _ (.thn p2 p) ht (.t (.inl qa) (.cons .s (.cons (a5.mono (Ac ht _).tp) (.cons (a6.mono (Ac ht _).tp) .nil)))) ⟨b2,op⟩ (by simp only[Rp.hg];omega) (by simp only[Rp.wt];omega) (by simp only[Rp.sz];omega)⟩)) λc=>(by exact⟨zN3,λt ht=>two t _ (.bes p2 p) ht (.t (.inl qa) (.cons .s (.cons (a5.mono (Ac ht _).tp) (.cons (a6.mono (Ac ht _).tp) .nil)))) ⟨b2,op⟩ (by simp only[Rp.hg];omega) (by simp only[Rp.wt];omega) (by simp only[Rp.sz];omega)⟩)⟩⟩
def AiP(F:Ao K mg "_law_body" ["_law_cells","_law_signs"] Jg)(T:Txt mg)(aK:Ae P w K mg base 1 "_law_mixed" ["_law_cell"] L7)(fM:Ae P w K mg base 1 "_law_leaf" ["_law_seed","_law_signs"] (AgN K))(eI:Ae P w K mg base 61 "_law_grown" ["_law_stack","_law_seed","_law_signs"] (Ado K)):Ae P w K mg base 62 "_law_body" ["_law_cells","_law_signs"] (AcA K):=by
 refine F.ok Fm (λvs H Q E h=>?_) (λf _ A _ s H _ Q E _ h=>?_)
 .obtain⟨c,cs,sg,rfl⟩:=h;rfl
 obtain⟨c,cs,sg,rfl,hS,_,b4,q⟩:=h
 refine⟨_,(Ab (pst 2 Fm.nd (An (pa1 (Ap (pa1 Ah)))))
  (Ab (Fj PassesOwn.never rfl (Cf (pv 0)) (Aq (i:=3) Fm.nd rfl (Or.inl rfl))
   (Ab (pst 4 Fm.nd (pcl aK (pa1 (pv 3))))
  (Ad (Az (PW.pt (Ha (Bg Q3 (Au Cy (pv 4) Am) Am (B4 _)) (F8 (pce (Bs C9 rfl T.n_len PySem.boot_len (pa1 (pv 2))) Am))))
   (Ad (A6 (F2 uG uK uJ Da (pv 2) (pa1 (pcl fM (pa2 (Au Df (pv 4) Am) (pv 1)))))))
   (Ad (A6 (F2 uG uK uJ Da (pv 2) (pa1 (pcl eI (pa3 (pv 2) (pv 4) (pv 1)))))))))))
  (Ab (Mq PassesOwn.never (Bg Adg (Bs C9 rfl T.n_len PySem.boot_len (pa1 (pv 2))) Am (B4 _))
   (Ab (pst 5 Fm.nd (No uG uZ uY Nh (pv 2)))
  (Ab (pst 6 Fm.nd (No uG uZ uY Nh (pv 2)))
  (Ad (A6 (F2 uG uK uJ Da (pv 2) (pa1 (Ap (pa3 (B7 B0 (An (pa2 Ah Ah)) (Au Cy (Bs C9 rfl T.n_len PySem.boot_len (pa1 (pv 2))) Am) (λ_ _=>rfl)) (pv 6) (pv 5))))))))))
  (Ad (Ag (Ap (pa2 Ah (Ap (pa2 Ah (pil (pv 2))))))))))),?_⟩
 refine⟨zN1,λt0 b7=>⟨zN1,λr b3=>?_⟩⟩;obtain⟨g0,n0,nr⟩:=Jz b7 b3;have a6:=(Ac b7 _).free b3
 refine⟨c,rfl,⟨_,g0.seq hS⟩,F9 (a:=c) (xs:=cs.map V.int)
  (λi Y H1=>∃(l:List Rp)(xs:List V)(x3 x4:Option V),Y=[some (.ref c),some (.int sg),some (.ref r),x3,x4,none,none]/\Same H H1/\H1 r=some (.lst xs)/\PrR K H1 l xs/\¬l=[]/\(∀p∈l,p.ok sg)/\wH l<=2*i+1/\wR l<=i+1/\l.length<=i+1/\wS l+l.length<=4*i+2)
  ⟨[.rest],[.ref t0],none,none,Z,g0,nr,.cons (.t (.inl n0) (.cons .s .nil)) .nil,by simp,λp hp=>by rw[mS hp];trivial,by simp[wH,Rp.hg],by simp[wR,Rp.wt],by simp,by simp[wS,Rp.sz]⟩ (λi Y H1 _ ⟨_,_,_,_,_,g,_⟩=>g.seq hS) ?_ ?_⟩
 .rintro i y Y H1 hi ⟨l,xs,x3,x4,rfl,g1,hv,a3,a5,a2,h1,h2,h3,h4⟩
  have c4:=(uA.mp hi).1;rw[vE]at c4
  obtain⟨z,rfl⟩:∃z,y=V.int z:=by
   rw[vJ]at hi;cases e:cs[i]? with
   |none=>rw[e]at hi;cases hi
   |some z=>rw[e]at hi;exact⟨z,(uH hi).symm⟩
  refine⟨z,Z,?_⟩;have hm:=Pw z;generalize Ks z=m at hm;dsimp only[Bn];have d2:=uC a3;refine Pb (λb H'=>H'=H1) (λQ' k=>?_) ?_ ?_
  .exact⟨_,_,Z,Z,(by show(0:Int)<16;decide),_,_,Z,Z,As (λc=>k _ _ rfl) λc=>⟨r,_,Z,.inl (Ai hv),Z,k _ _ rfl⟩⟩
  .rintro H2 rfl
   refine⟨.inl ⟨Z,_,Ai hv⟩,_,_,Z,Z,⟨by decide,by decide⟩,m/16,sg,Z,b4,λv p H3 g3 P3 e1 e2 e4 e3=>?_⟩;have a4:=g3 _ _ hv;refine⟨r,_,_,Z,Z,a4,Hk (by omega),?_⟩;have T3:Tp H3 (upd H3 r (.lst (xs++[v]))):=tpLs a4;refine⟨l++[p],xs++[v],_,_,Z,(g1.trans g3).young a6 _,qa,(E8 T3 (E8 g3.tp a3)).snoc (P3.mono T3),by simp,λq hq=>?_,by rw[Hl];omega,by rw[Jd];omega,by simp;omega,by rw[Iz,vF,vG];omega⟩;rcases vY.mp hq with z|z
   .exact a2 q z
   rwa[mS z]
  rintro H2 rfl
  refine⟨.inl ⟨rfl,_,Ai hv⟩,m,sg,r,l,xs,Z,b4,hv,a3,a5,a2,by omega,λv p l' xs' H3 k3 a4 b5 P3 op c8 e1 e2 e3 e4=>?_⟩;have b9:=uC b5;refine⟨r,_,_,Z,Z,a4,Hk (by omega),?_⟩;have T3:Tp H3 (upd H3 r (.lst (xs'++[v]))):=tpLs a4;refine⟨l'++[p],xs'++[v],_,_,Z,(g1.byKp a6 k3).young a6 _,qa,(E8 T3 b5).snoc (P3.mono T3),by simp,λq hq=>?_,by rw[Hl];omega,by rw[Jd];omega,by simp;omega,by rw[Iz,vF,vG];omega⟩;rcases vY.mp hq with z|z
  .exact c8 q z
  rwa[mS z]
 rintro Y H1 ⟨l,xs,x3,x4,rfl,g1,hv,a3,a5,a2,h1,h2,h3,h4⟩
 rw[vE]at h1 h2 h3 h4
 refine Ph (λY H1=>∃(l:List Rp)(xs:List V)(x5 x6:Option V),Y=[some (.ref c),some (.int sg),some (.ref r),x3,x4,x5,x6]/\Same H H1/\H1 r=some (.lst xs)/\PrR K H1 l xs/\¬l=[]/\(∀p∈l,p.ok sg)/\wH l<=2*cs.length+1/\wR l<=cs.length+1/\l.length<=cs.length+1/\wS l+l.length<=4*cs.length+2)
   (λY H1=>match H1 r with|some (.lst us)=>us.length|_=>0) ⟨l,xs,none,none,Z,g1,hv,a3,a5,a2,h1,h2,h3,h4⟩ ?_ ?_
 .rintro Y H1 ⟨l,xs,x5,x6,rfl,g1,hv,a3,a5,a2,h1,h2,h3,h4⟩
  have d2:=uC a3;refine⟨r,_,Z,.inl (Ai hv),_,_,Z,Z,As (λc=>?_) λc=>?_⟩
  .have c3:2<=xs.length:=by have:=vN c;omega
   obtain⟨l0,p,ws,v,rfl,rfl,a8,ap⟩:=Jc a3 a5
   have b8:¬l0=[]:=by
    rintro rfl;cases a8
    simp at c3
   obtain⟨l1,p2,a1,v2,rfl,rfl,b6,b2⟩:=Jc a8 b8;rw[Hl,Hl]at h1;rw[Jd,Jd]at h2;rw[Iz,Iz,vF,vF,vG,vG]at h4;have d6:l1.length+1+1<=cs.length+1:=by simpa using h3
   have b9:=uC b6;have pp:=Rp.hg_pos p;have d4:=Rp.hg_pos p2;refine⟨.inl ⟨Z,_,Ai hv⟩,r,_,v,Z,Z,hv,by simp,?_⟩;have a9:(upd H1 r (.lst (a1++[v2]++[v]).dropLast)) r=some (.lst (a1++[v2])):=by rw[qa];simp
   refine⟨.inl ⟨Z,_,Ai a9⟩,r,_,v2,Z,Z,a9,by simp,?_⟩;have T1:=(tpLs hv).trans (tpLs (o:=.lst (a1++[v2]).dropLast) a9);have a7:(upd (upd H1 r (.lst (a1++[v2]++[v]).dropLast)) r (.lst (a1++[v2]).dropLast)) r=some (.lst a1):=by rw[qa];simp
   have b1:Same H (upd (upd H1 r (.lst (a1++[v2]++[v]).dropLast)) r (.lst (a1++[v2]).dropLast)):=(g1.young a6 _).young a6 _;generalize (upd (upd H1 r (.lst (a1++[v2]++[v]).dropLast)) r (.lst (a1++[v2]).dropLast))=H2 at a7 b1 T1;obtain⟨z,hz,ez⟩:=Adn (x:="then") (y:="beside") (a1.length:Int);refine⟨.inl ⟨rfl,_,Ai a7⟩,zN2,λl5 c6=>?_⟩;have k5:=Ac c6 (.lst [V.str "then",.str "beside"]);have c9:=k5 _ _ a7;refine⟨r,_,Z,.inl (Ai c9),_,_,Z,Z,(by show(0:Int)<2;decide),Ai qa,ez,zN3,λt ht=>?_⟩;have g3:=k5.trans (Ac ht (.tup [V.str z,v2,v]));have a4:=g3 _ _ a7;refine⟨r,_,_,Z,Z,a4,Hk (by omega),?_⟩;have T3:=tpLs (o:=.lst (a1++[.ref t])) a4;have T4:=T1.trans (g3.tp.trans T3)
   obtain⟨pz,az,oz,d5,d8,d7⟩:∃pz:Rp,PAt K (upd (upd (upd H2 l5 (.lst [V.str "then",.str "beside"])) t (.tup [V.str z,v2,v])) r (.lst (a1++[.ref t]))) (Rp.nd pz) (.ref t)/\pz.ok sg/\pz.hg<=p2.hg+p.hg/\pz.wt<=p2.wt+p.wt/\pz.sz<=p2.sz+p.sz+1:=by
    rcases hz with rfl|rfl
    .exact⟨.thn p2 p,.t (.inl (T3 _ _ qa)) (.cons .s (.cons (b2.mono T4) (.cons (ap.mono T4) .nil))),⟨a2 p2 (by simp),a2 p (by simp)⟩,by simp only[Rp.hg];omega,by simp only[Rp.wt];omega,by simp only[Rp.sz];omega⟩
    exact⟨.bes p2 p,.t (.inl (T3 _ _ qa)) (.cons .s (.cons (b2.mono T4) (.cons (ap.mono T4) .nil))),⟨a2 p2 (by simp),a2 p (by simp)⟩,by simp only[Rp.hg];omega,by simp only[Rp.wt];omega,by simp only[Rp.sz];omega⟩
   refine⟨⟨l1++[pz],a1++[.ref t],_,_,Z,(b1.trans g3).young a6 _,qa,PySem.Paired.snoc (a:=pz) (E8 T4 b6) az,by simp,λq hq=>?_,?_,?_,by simp;omega,?_⟩,?_⟩
   .rcases vY.mp hq with z|z
    .exact a2 q (by simp[z])
    rwa[mS z]
   .rw[Hl];omega
   .rw[Jd];omega
   .rw[Iz,vF,vG];omega
   show(match (upd (upd (upd H2 l5 (.lst [V.str "then",.str "beside"])) t (.tup [V.str z,v2,v])) r (.lst (a1++[.ref t]))) r with|some (.lst us)=>us.length|_=>0)<(match H1 r with|some (.lst us)=>us.length|_=>0)
   rw[qa,hv];simp
  have c7:¬1<xs.length:=λz=>c (vK (by omega))
  obtain⟨l0,p,ws,v,rfl,rfl,a8,ap⟩:=Jc a3 a5
  have e0:ws=[]:=by
   cases ws with
   |nil=>rfl
   |cons _ _=>simp at c7
  subst e0;cases a8
  refine⟨Ai hv,Aa (j:=0) rfl,zN2,λt1 d3=>⟨zN2,λt2 c5=>?_⟩⟩;obtain⟨g3,n1,n2⟩:=Jz (a:=.tup [V.str "trap",v]) (b:=.tup [V.str "trap",.ref t1]) d3 c5;have eH:wH ([]++[p])=p.hg:=by simp[wH]
  have eR:wR ([]++[p])=p.wt:=by simp[wR]
  rw[eH]at h1;rw[eR]at h2;have eS:wS ([]++[p])=p.sz:=by simp[wS]
  rw[eS]at h4;exact q _ (.trap (.trap p)) _ (g1.trans g3) (.t (.inl n2) (.cons .s (.cons (.t (.inl n1) (.cons .s (.cons (ap.mono g3.tp) .nil))) .nil))) (a2 p (by simp)) (by simp only[Rp.hg];omega) (by simp only[Rp.wt];omega) (by simp only[Rp.sz];omega)
 refine λY H Q Q' h=>Jx λv H=>?_
 rintro⟨p,xs,e2,s,i,j,e3,e4,q⟩;exact⟨p,xs,e2,s,i,j,e3,e4,Pr h q⟩
def Jv{rest:List Expr}{env:Env}:starEach (.Name x pos::rest) env=(false,eval (.Name x pos) env)::starEach rest env:=rfl
structure QE(X:Cx)(e:Expr)(t:TE):Prop where
 of:PE X e t
structure QA(X:Cx)(es:List Expr)(t:TA):Prop where
 of:PA X es t
def qe{t:TE}(h:PE X e t):QE X e t:=⟨h⟩
def Abc:QA X [] Cs:=⟨Bm⟩
def Kh{t:TA}(h:QE X e te)(hr:QA X es t)(hs:starEach (e::es) X.env=(false,eval e X.env)::starEach es X.env):QA X (e::es) (Bl te t):=⟨Ba h.of hr.of hs⟩
def Afq{t:TA}(h:QA X es t):QE X (.Tuple es x1 pos) (Mf t):=⟨Ap h.of⟩
def AeK{t:TA}(h:QA X es t):PE X (.Tuple es x1 pos) (Mf t):=Ap h.of
def Vl{rest:List Expr}{env:Env}:starEach (.Tuple es k pos::rest) env=(false,eval (.Tuple es k pos) env)::starEach rest env:=rfl
def Br{x:Nd}{xs:List Nd}(h:A3 K H (x::xs) vs):∃v r,vs=v::r/\PAt K H x v/\A3 K H xs r:=by assumption
def Ef(h:A3 K H [] vs):vs=[]:=by assumption
def Afv(F:Ao K mg "_law_numbered" ["_law_part","_law_k"] E2)(T:Txt mg)(aJ:Ae P w K mg base n "_law_numbered" ["_law_part","_law_k"] (Qb K n)):Ae P w K mg base (n+1) "_law_numbered" ["_law_part","_law_k"] (Qb K (n+1)):=by
 refine F.ok Bk (λvs H Q E h=>?_) (λf cdv A outer s H vs Q E hr h=>?_)
 .obtain⟨v,r,k,rfl,_⟩:=h;rfl
 obtain⟨v,r,k,rfl,av,hh,q⟩:=h
 refine⟨_,(Ab (pst 2 Bk.nd (pix (pv 0)))
  (Ab (Az (pce (pv 2) Ah)
   (Ad (Ag (Ap (pa2 (Ap (pa2 Ah (pv 1))) (Au Ju (pv 1) Am)))))
   Ar)
  (Ab (Az (PW.pt (Ha (pce (pv 2) Ah) (Ha (pce (pv 2) Ah) (F8 (pce (pv 2) Ah)))))
   (Ad (Ag (Ap (pa2 (pv 0) (pv 1)))))
   Ar)
  (Ab (Az (pce (pv 2) Ah)
   (Ab (Ft (pcl aJ (pa2 (pix (pv 0)) (pv 1))) (Fi rfl (Bf (Aq (i:=3) Bk.nd rfl (Or.inl rfl)) (Bf (Aq (i:=1) Bk.nd rfl (Or.inl rfl)) Eb))))
  (Ad (Ag (Ap (pa2 (Ap (pa3 Ah (pv 1) (pv 3))) (Au Ju (pv 1) Am))))))
   Ar)
  (Ab (Az (pce (pv 2) Ah)
   (Ab (Ft (pcl aJ (pa2 (pix (pv 0)) (pv 1))) (Fi rfl (Bf (Aq (i:=3) Bk.nd rfl (Or.inl rfl)) (Bf (Aq (i:=1) Bk.nd rfl (Or.inl rfl)) Eb))))
  (Ad (Ag (Ap (pa2 (Ap (pa2 Ah (pv 3))) (pv 1))))))
   Ar)
  (Ab (Az (PW.pt (Ha (pce (pv 2) Ah) (F8 (pce (pv 2) Ah))))
   (Ab (Ft (pcl aJ (pa2 (pix (pv 0)) (pv 1))) (Fi rfl (Bf (Aq (i:=3) Bk.nd rfl (Or.inl rfl)) (Bf (Aq (i:=1) Bk.nd rfl (Or.inl rfl)) Eb))))
  (Ad (Ag (Ap (pa2 (Ap (pa3 (pv 2) (pix (pv 0)) (pv 3))) (pv 1))))))
   Ar)
  (Ab (Ft (pcl aJ (pa2 (B7 Lr (pv 0) (Os Lz Am) (λ_ _=>rfl)) (pv 1))) (Fi rfl (Bf (Aq (i:=3) Bk.nd rfl (Or.inl rfl)) (Bf (Aq (i:=1) Bk.nd rfl (Or.inl rfl)) Eb))))
  (Ab (Ft (pcl aJ (pa2 (B7 Lr (pv 0) (Os Lz Am) (λ_ _=>rfl)) (pv 1))) (Fi rfl (Bf (Aq (i:=4) Bk.nd rfl (Or.inl rfl)) (Bf (Aq (i:=1) Bk.nd rfl (Or.inl rfl)) Eb))))
  (Ad (Ag (Ap (pa2 (Au Adx (Pu Af7 (pv 0) Yh (Of (Os Lz Am))) (Ap (pa2 (pv 3) (pv 4)))) (pv 1))))))))))))),?_⟩
 cases r with
 |nothing=>
  obtain⟨a,vs,rfl,ha,hx⟩:=av.get;obtain⟨v0,r0,rfl,h0,a1⟩:=Br hx;cases h0.str
  cases Ef a1
  refine⟨ha.sq,Aa (j:=0) rfl,?_⟩;refine⟨Z,As (λc=>absurd c (by trivial)) λ_=>⟨Z,As (λ_=>Dg ⟨zN2,λt ht=>?_⟩) λc=>absurd (by trivial) c⟩⟩;exact q t _ _ (Ac ht _) qa (.t (ha.mono (Ac ht _).tp) (.cons .s .nil))
 |rest=>
  obtain⟨a,vs,rfl,ha,hx⟩:=av.get;obtain⟨v0,r0,rfl,h0,a1⟩:=Br hx;cases h0.str
  cases Ef a1
  refine⟨ha.sq,Aa (j:=0) rfl,?_⟩;refine⟨Z,As (λ_=>⟨zN2,λt1 b2=>⟨_,_,Z,Z,zN2,λt ht=>?_⟩⟩) λc=>absurd (by trivial) c⟩;obtain⟨g,n1,n2⟩:=Jz (a:=.tup [V.str "rest",.int k]) (b:=.tup [.ref t1,.int (k+1)]) b2 ht;exact q t _ _ g n2 (.t (.inl n1) (.cons .s (.cons .i .nil)))
 |send s=>
  obtain⟨a,vs,rfl,ha,hx⟩:=av.get;obtain⟨v0,r0,rfl,h0,a1⟩:=Br hx;cases h0.str
  obtain⟨w1,r1,rfl,h1,a2⟩:=Br a1;cases h1.int
  cases Ef a2
  refine⟨ha.sq,Aa (j:=0) rfl,?_⟩;refine⟨Z,As (λc=>absurd c (by trivial)) λ_=>⟨Z,As (λc=>absurd c (by trivial)) λ_=>⟨Z,As (λ_=>Dg ⟨zN2,λt ht=>?_⟩) λc=>absurd (by trivial) c⟩⟩⟩;exact q t _ _ (Ac ht _) qa (.t (ha.mono (Ac ht _).tp) (.cons .s (.cons .i .nil)))
 |exit d=>
  obtain⟨a,vs,rfl,ha,hx⟩:=av.get;obtain⟨v0,r0,rfl,h0,a1⟩:=Br hx;cases h0.str
  obtain⟨w1,r1,rfl,h1,a2⟩:=Br a1;cases h1.int
  cases Ef a2
  refine⟨ha.sq,Aa (j:=0) rfl,?_⟩;refine⟨Z,As (λc=>absurd c (by trivial)) λ_=>⟨Z,As (λc=>absurd c (by trivial)) λ_=>⟨Z,As (λc=>absurd c (by trivial)) λ_=>⟨Z,As (λ_=>⟨zN2,λt ht=>?_⟩) λc=>absurd (by trivial) c⟩⟩⟩⟩;exact q t _ _ (Ac ht _) qa (.t (ha.mono (Ac ht _).tp) (.cons .s (.cons .i .nil)))
 |again p=>
  obtain⟨a,vs,rfl,ha,hx⟩:=av.get;obtain⟨v0,r0,rfl,h0,a1⟩:=Br hx;cases h0.str
  obtain⟨w1,r1,rfl,h1,a2⟩:=Br a1;cases Ef a2
  refine⟨ha.sq,Aa (j:=0) rfl,?_⟩;refine⟨Z,As (λc=>absurd c (by trivial)) λ_=>⟨Z,As (λc=>absurd c (by trivial)) λ_=>⟨Z,As (λc=>absurd c (by trivial)) λ_=>⟨Z,As (λc=>absurd c (by trivial)) λ_=>⟨Z,As (λ_=>⟨ha.sq,Aa (j:=1) rfl,_,p,k,Z,h1,(by simp only[Rp.hg]at hh;omega),λt1 u1 H1 g1 e1 P1=>?_⟩) λc=>absurd (by trivial) c⟩⟩⟩⟩⟩;refine⟨t1,_,Z,Aj e1,Z,_,_,Z,_,_,Z,Z,?_⟩;refine⟨zN3,λt2 a5=>⟨_,_,Z,Z,zN2,λt ht=>?_⟩⟩;obtain⟨g,n1,n2⟩:=Jz (a:=.tup [V.str "again",.int (num p k).2,u1]) (b:=.tup [.ref t2,.int ((num p k).2+1)]) a5 ht;exact q t _ _ (g1.trans g) n2 (.t (.inl n1) (.cons .s (.cons .i (.cons (P1.mono g.tp) .nil))))
 |trap p=>
  obtain⟨a,vs,rfl,ha,hx⟩:=av.get;obtain⟨v0,r0,rfl,h0,a1⟩:=Br hx;cases h0.str
  obtain⟨w1,r1,rfl,h1,a2⟩:=Br a1;cases Ef a2
  refine⟨ha.sq,Aa (j:=0) rfl,?_⟩;refine⟨Z,As (λc=>absurd c (by trivial)) λ_=>⟨Z,As (λc=>absurd c (by trivial)) λ_=>⟨Z,As (λc=>absurd c (by trivial)) λ_=>⟨Z,As (λc=>absurd c (by trivial)) λ_=>⟨Z,As (λc=>absurd c (by trivial)) λ_=>⟨Z,As (λ_=>⟨ha.sq,Aa (j:=1) rfl,_,p,k,Z,h1,(by simp only[Rp.hg]at hh;omega),λt1 u1 H1 g1 e1 P1=>?_⟩) λc=>absurd (by trivial) c⟩⟩⟩⟩⟩⟩;refine⟨t1,_,Z,Aj e1,Z,_,_,Z,_,_,Z,Z,?_⟩;refine⟨zN2,λt2 a5=>⟨zN2,λt ht=>?_⟩⟩;obtain⟨g,n1,n2⟩:=Jz (a:=.tup [V.str "trap",u1]) (b:=.tup [.ref t2,.int (num p k).2]) a5 ht;exact q t _ _ (g1.trans g) n2 (.t (.inl n1) (.cons .s (.cons (P1.mono g.tp) .nil)))
 |hold s p=>
  obtain⟨a,vs,rfl,ha,hx⟩:=av.get;obtain⟨v0,r0,rfl,h0,a1⟩:=Br hx;cases h0.str
  obtain⟨w1,r1,rfl,h1,a2⟩:=Br a1;cases h1.int
  obtain⟨w2,r2,rfl,h2,a4⟩:=Br a2;cases Ef a4
  refine⟨ha.sq,Aa (j:=0) rfl,?_⟩;refine⟨Z,As (λc=>absurd c (by trivial)) λ_=>⟨Z,As (λc=>absurd c (by trivial)) λ_=>⟨Z,As (λc=>absurd c (by trivial)) λ_=>⟨Z,As (λc=>absurd c (by trivial)) λ_=>⟨Z,As (λc=>absurd c (by trivial)) λ_=>⟨Z,As (λc=>absurd c (by trivial)) λ_=>⟨Z,As (λ_=>Dg ⟨ha.sq,Aa (j:=2) rfl,_,p,k,Z,h2,(by simp only[Rp.hg]at hh;omega),λt1 u1 H1 g1 e1 P1=>?_⟩) λc=>absurd (by trivial) c⟩⟩⟩⟩⟩⟩⟩;have a3:=ha.mono g1.tp;refine⟨t1,_,Z,Aj e1,Z,_,_,Z,_,_,Z,Z,?_⟩;refine⟨a3.sq,Aa (j:=1) rfl,zN3,λt2 a5=>⟨zN2,λt ht=>?_⟩⟩;obtain⟨g,n1,n2⟩:=Jz (a:=.tup [V.str "hold",.int s,u1]) (b:=.tup [.ref t2,.int (num p k).2]) a5 ht;exact q t _ _ (g1.trans g) n2 (.t (.inl n1) (.cons .s (.cons .i (.cons (P1.mono g.tp) .nil))))
 |watch s p=>
  obtain⟨a,vs,rfl,ha,hx⟩:=av.get;obtain⟨v0,r0,rfl,h0,a1⟩:=Br hx;cases h0.str
  obtain⟨w1,r1,rfl,h1,a2⟩:=Br a1;cases h1.int
  obtain⟨w2,r2,rfl,h2,a4⟩:=Br a2;cases Ef a4
  refine⟨ha.sq,Aa (j:=0) rfl,?_⟩;refine⟨Z,As (λc=>absurd c (by trivial)) λ_=>⟨Z,As (λc=>absurd c (by trivial)) λ_=>⟨Z,As (λc=>absurd c (by trivial)) λ_=>⟨Z,As (λc=>absurd c (by trivial)) λ_=>⟨Z,As (λc=>absurd c (by trivial)) λ_=>⟨Z,As (λc=>absurd c (by trivial)) λ_=>⟨Z,As (λc=>absurd c (by trivial)) λ_=>⟨Z,As (λ_=>⟨ha.sq,Aa (j:=2) rfl,_,p,k,Z,h2,(by simp only[Rp.hg]at hh;omega),λt1 u1 H1 g1 e1 P1=>?_⟩) λc=>absurd (by trivial) c⟩⟩⟩⟩⟩⟩⟩⟩;have a3:=ha.mono g1.tp;refine⟨t1,_,Z,Aj e1,Z,_,_,Z,_,_,Z,Z,?_⟩;refine⟨a3.sq,Aa (j:=1) rfl,zN3,λt2 a5=>⟨zN2,λt ht=>?_⟩⟩;obtain⟨g,n1,n2⟩:=Jz (a:=.tup [V.str "watch",.int s,u1]) (b:=.tup [.ref t2,.int (num p k).2]) a5 ht;exact q t _ _ (g1.trans g) n2 (.t (.inl n1) (.cons .s (.cons .i (.cons (P1.mono g.tp) .nil))))
 |iff s p p2=>
  obtain⟨a,vs,rfl,ha,hx⟩:=av.get;obtain⟨v0,r0,rfl,h0,a1⟩:=Br hx;cases h0.str
  obtain⟨w1,r1,rfl,h1,a2⟩:=Br a1;cases h1.int
  obtain⟨w2,r2,rfl,h2,a4⟩:=Br a2;obtain⟨w3,r3,rfl,h3,b1⟩:=Br a4;cases Ef b1
  refine⟨ha.sq,Aa (j:=0) rfl,?_⟩;refine⟨Z,As (λc=>absurd c (by trivial)) λ_=>⟨Z,As (λc=>absurd c (by trivial)) λ_=>⟨Z,As (λc=>absurd c (by trivial)) λ_=>⟨Z,As (λc=>absurd c (by trivial)) λ_=>⟨Z,As (λc=>absurd c (by trivial)) λ_=>⟨Z,As (λc=>absurd c (by trivial)) λ_=>⟨Z,As (λc=>absurd c (by trivial)) λ_=>⟨Z,As (λc=>absurd c (by trivial)) λ_=>⟨_,Z,ha.sq,Ja (v:=w2) (by show 2<=4;decide) rfl,_,p,k,Z,h2,(by simp only[Rp.hg]at hh;omega),λt1 u1 H1 g1 e1 P1=>?_⟩⟩⟩⟩⟩⟩⟩⟩⟩;have a3:=ha.mono g1.tp;refine⟨t1,_,Z,Aj e1,Z,_,_,Z,_,_,Z,Z,?_⟩;refine⟨_,Z,a3.sq,E6 (v:=w3) rfl,_,p2,(num p k).2,Z,h3.mono g1.tp,(by simp only[Rp.hg]at hh;omega),λt2 u2 H2 g2 e2 P2=>?_⟩;have a6:=a3.mono g2.tp;refine⟨t2,_,Z,Aj e2,Z,_,_,Z,_,_,Z,Z,?_⟩;refine⟨_,Z,_,Z,a,_,Z,a6.sq,(λz=>absurd (show HT.sIx 4 4 (some (-2))=4 from z.2) (by decide)),λp1 a9=>⟨zN2,λq1 a7=>?_⟩⟩;have k1:=Ac a9 (.tup (Hj [V.str "if",.int s,w2,w3] none (some (-2))));have k2:=Ac a7 (.tup [u1,u2]);refine⟨p1,q1,[V.str "if",.int s],[u1,u2],Z,Z,Aj (k2 _ _ qa),Aj qa,(λz=>nomatch z),zN4,(λz=>nomatch z),λ_ q2 a8=>⟨zN2,λt ht=>?_⟩⟩;have k3:=Ac a8 (.tup ([V.str "if",.int s]++[u1,u2]));have k4:=Ac ht (.tup [.ref q2,.int (num p2 (num p k).2).2]);have gg:=((k1.trans k2).trans k3).trans k4;exact q t _ _ ((g1.trans g2).trans gg) qa (.t (.inl (k4 _ _ qa)) (.cons .s (.cons .i (.cons ((P1.mono g2.tp).mono gg.tp) (.cons (P2.mono gg.tp) .nil)))))
 |thn p p2=>
  obtain⟨a,vs,rfl,ha,hx⟩:=av.get;obtain⟨v0,r0,rfl,h0,a1⟩:=Br hx;cases h0.str
  obtain⟨w1,r1,rfl,h1,a2⟩:=Br a1;obtain⟨w2,r2,rfl,h2,a4⟩:=Br a2;cases Ef a4
  refine⟨ha.sq,Aa (j:=0) rfl,?_⟩;refine⟨Z,As (λc=>absurd c (by trivial)) λ_=>⟨Z,As (λc=>absurd c (by trivial)) λ_=>⟨Z,As (λc=>absurd c (by trivial)) λ_=>⟨Z,As (λc=>absurd c (by trivial)) λ_=>⟨Z,As (λc=>absurd c (by trivial)) λ_=>⟨Z,As (λc=>absurd c (by trivial)) λ_=>⟨Z,As (λc=>absurd c (by trivial)) λ_=>⟨Z,As (λc=>absurd c (by trivial)) λ_=>⟨_,Z,ha.sq,Ja (v:=w1) (by show 2<=3;decide) rfl,_,p,k,Z,h1,(by simp only[Rp.hg]at hh;omega),λt1 u1 H1 g1 e1 P1=>?_⟩⟩⟩⟩⟩⟩⟩⟩⟩;have a3:=ha.mono g1.tp;refine⟨t1,_,Z,Aj e1,Z,_,_,Z,_,_,Z,Z,?_⟩;refine⟨_,Z,a3.sq,E6 (v:=w2) rfl,_,p2,(num p k).2,Z,h2.mono g1.tp,(by simp only[Rp.hg]at hh;omega),λt2 u2 H2 g2 e2 P2=>?_⟩;have a6:=a3.mono g2.tp;refine⟨t2,_,Z,Aj e2,Z,_,_,Z,_,_,Z,Z,?_⟩;refine⟨_,Z,_,Z,a,_,Z,a6.sq,(λz=>absurd (show HT.sIx 3 3 (some (-2))=3 from z.2) (by decide)),λp1 a9=>⟨zN2,λq1 a7=>?_⟩⟩;have k1:=Ac a9 (.tup (Hj [V.str "then",w1,w2] none (some (-2))));have k2:=Ac a7 (.tup [u1,u2]);refine⟨p1,q1,[V.str "then"],[u1,u2],Z,Z,Aj (k2 _ _ qa),Aj qa,(λz=>nomatch z),zN3,(λz=>nomatch z),λ_ q2 a8=>⟨zN2,λt ht=>?_⟩⟩;have k3:=Ac a8 (.tup ([V.str "then"]++[u1,u2]));have k4:=Ac ht (.tup [.ref q2,.int (num p2 (num p k).2).2]);have gg:=((k1.trans k2).trans k3).trans k4;exact q t _ _ ((g1.trans g2).trans gg) qa (.t (.inl (k4 _ _ qa)) (.cons .s (.cons ((P1.mono g2.tp).mono gg.tp) (.cons (P2.mono gg.tp) .nil))))
 |bes p p2=>
  obtain⟨a,vs,rfl,ha,hx⟩:=av.get;obtain⟨v0,r0,rfl,h0,a1⟩:=Br hx;cases h0.str
  obtain⟨w1,r1,rfl,h1,a2⟩:=Br a1;obtain⟨w2,r2,rfl,h2,a4⟩:=Br a2;cases Ef a4
  refine⟨ha.sq,Aa (j:=0) rfl,?_⟩;refine⟨Z,As (λc=>absurd c (by trivial)) λ_=>⟨Z,As (λc=>absurd c (by trivial)) λ_=>⟨Z,As (λc=>absurd c (by trivial)) λ_=>⟨Z,As (λc=>absurd c (by trivial)) λ_=>⟨Z,As (λc=>absurd c (by trivial)) λ_=>⟨Z,As (λc=>absurd c (by trivial)) λ_=>⟨Z,As (λc=>absurd c (by trivial)) λ_=>⟨Z,As (λc=>absurd c (by trivial)) λ_=>⟨_,Z,ha.sq,Ja (v:=w1) (by show 2<=3;decide) rfl,_,p,k,Z,h1,(by simp only[Rp.hg]at hh;omega),λt1 u1 H1 g1 e1 P1=>?_⟩⟩⟩⟩⟩⟩⟩⟩⟩;have a3:=ha.mono g1.tp;refine⟨t1,_,Z,Aj e1,Z,_,_,Z,_,_,Z,Z,?_⟩;refine⟨_,Z,a3.sq,E6 (v:=w2) rfl,_,p2,(num p k).2,Z,h2.mono g1.tp,(by simp only[Rp.hg]at hh;omega),λt2 u2 H2 g2 e2 P2=>?_⟩;have a6:=a3.mono g2.tp;refine⟨t2,_,Z,Aj e2,Z,_,_,Z,_,_,Z,Z,?_⟩;refine⟨_,Z,_,Z,a,_,Z,a6.sq,(λz=>absurd (show HT.sIx 3 3 (some (-2))=3 from z.2) (by decide)),λp1 a9=>⟨zN2,λq1 a7=>?_⟩⟩;have k1:=Ac a9 (.tup (Hj [V.str "beside",w1,w2] none (some (-2))));have k2:=Ac a7 (.tup [u1,u2]);refine⟨p1,q1,[V.str "beside"],[u1,u2],Z,Z,Aj (k2 _ _ qa),Aj qa,(λz=>nomatch z),zN3,(λz=>nomatch z),λ_ q2 a8=>⟨zN2,λt ht=>?_⟩⟩;have k3:=Ac a8 (.tup ([V.str "beside"]++[u1,u2]));have k4:=Ac ht (.tup [.ref q2,.int (num p2 (num p k).2).2]);have gg:=((k1.trans k2).trans k3).trans k4;exact q t _ _ ((g1.trans g2).trans gg) qa (.t (.inl (k4 _ _ qa)) (.cons .s (.cons ((P1.mono g2.tp).mono gg.tp) (.cons (P2.mono gg.tp) .nil))))
theorem AeR(F:Ao K mg "_law_numbered" ["_law_part","_law_k"] E2)(T:Txt mg):∀n:Nat,Ae P w K mg base n "_law_numbered" ["_law_part","_law_k"] (Qb K n)
 |0=>F.zero λvs H Q E ⟨v,r,k,_,_,z,_⟩=>absurd z (not_le_of_gt r.hg_pos)
 |n+1=>Afv F T (AeR F T n)
def Abu(xs:List V)(j:Nat):(Hj xs (some 1) (some (1+(j:Int))))=(xs.drop 1).take j:=by
 unfold Hj;rw[show(some 1)=some ((1:Nat):Int) from rfl,show(some _)=some ((1+j:Nat):Int) by simp,HT.AiW,HT.AiW];rcases le_total xs.length 1 with h|h
 .have e:=List.drop_eq_nil_of_le h
  rw[Nat.min_eq_right h,e];simp
 rw[Nat.min_eq_left h]
 rcases le_total _ _ with h2|h2
 .rw[Nat.min_eq_left h2,Nat.add_sub_cancel_left]
 rw[Nat.min_eq_right h2,vT (by simp),vT (by simp;omega)]
def AiQ(F:Ao K mg "_law_program" ["_law_script","_law_most"] Gs)(T:Txt mg)(iJ:Ae P w K mg base 2 "_law_at" ["_law_script","_law_k"] (AfS K))(fN:Ae P w K mg base 62 "_law_body" ["_law_cells","_law_signs"] (AcA K))(aJ:Ae P w K mg base 63 "_law_numbered" ["_law_part","_law_k"] (Qb K 63)):Ae P w K mg base 64 "_law_program" ["_law_script","_law_most"] (Abq K):=by
 refine F.ok Ct (λvs H Q E h=>?_) (λf _ A _ s H _ Q E _ h=>?_)
 .obtain⟨a,ns,j,rfl⟩:=h;rfl
 obtain⟨a,ns,j,rfl,hS,_,q⟩:=h
 refine⟨_,(Ab (pst 2 Ct.nd (pcl iJ (pa2 (pv 0) Am)))
  (Ab (pst 3 Ct.nd (Au Cy (pv 2) Am))
  (Ab (pst 4 Ct.nd (Au Cy (Au Df (pv 2) Am) Am))
  (Ab (pst 5 Ct.nd (Bs (Na rfl) rfl T.n_max (by trivial) (pa2 Am (Au Ju (Au Ju (pv 3) (pv 4)) (Au Cy (Au Df (pv 2) Am) Am)))))
  (Ab (Ft (pcl aJ (pa2 (pcl fN (pa2 (Pu Yv (pv 0) (Of Am) (Of (Au Ju Am (pv 1)))) (pv 5))) Am)) (Fi rfl (Bf (Aq (i:=6) Ct.nd rfl (Or.inl rfl)) (Bf (Aq (i:=7) Ct.nd rfl (Or.inl rfl)) Eb))))
  (Ad (Ag (AeK (Kh (Afq (Kh (qe (pv 3)) (Kh (qe (pv 4)) (Kh (qe (pv 5)) (Kh (qe (pv 6)) Abc Jv) Jv) Jv) Jv)) (Kh (qe (pv 7)) Abc Jv) Vl))))))))),?_⟩
 refine⟨a,ns,0,Z,hS,Int.le_refl _,λm _=>?_⟩;refine⟨_,_,Z,Z,(by show(0:Int)<4;decide),?_⟩;refine⟨_,_,Z,Z,⟨by decide,by decide⟩,_,_,Z,Z,(by show(0:Int)<3;decide),?_⟩;refine⟨_,_,Z,Z,_,_,Z,Z,⟨by decide,by decide⟩,_,_,Z,Z,(by show(0:Int)<3;decide),_,_,Z,Z,_,_,Z,?_⟩;obtain⟨c,ec⟩:=Int.eq_ofNat_of_zero_le (uW m (show(4:Int)≠0 by decide));have b1:=uU m (show(0:Int)<4 by decide);have b2:=uW (m/4) (show(3:Int)≠0 by decide);have b3:=uU (m/4) (show(0:Int)<3 by decide);have b4:=uW (m/12) (show(3:Int)≠0 by decide);have b5:=uU (m/12) (show(0:Int)<3 by decide)
 obtain⟨n,en,n1,n2,n3⟩:∃n:Nat,(if m%4+m/4%3+m/12%3>1 then m%4+m/4%3+m/12%3 else 1)=(n:Int)/\1<=n/\n<=10/\c<=n:=by
  split
  .exact⟨(m%4+m/4%3+m/12%3).toNat,by omega,by omega,by omega,by omega⟩
  exact⟨1,Z,by omega,by omega,by omega⟩
 rw[en];dsimp only[Bn];rw[ec];refine⟨_,Z,_,_,Z,Z,_,Z,a,_,Z,hS,λc1 z=>?_⟩;rw[show Hj (ns.map V.int) (some 1) (some (1+(j:Int)))=((ns.map V.int).drop 1).take j from Abu _ j,<-List.map_drop,<-map_take];refine⟨_,_,(n:Int),Z,Ai qa,by rw[zH];omega,by omega,λv r _ g1 P1 a4 h1 w1 z1=>?_⟩;have lj:(List.take j (List.drop 1 ns)).length<=j:=List.length_take_le ..;refine⟨v,r,0,Z,P1,by omega,λt1 u1 H2 g2 e2 P2=>?_⟩;refine⟨t1,_,Z,Aj e2,Z,_,_,Z,_,_,Z,Z,?_⟩;refine⟨zN4,λpr a3=>⟨zN2,λt ht=>?_⟩⟩;obtain⟨g,a1,a2⟩:=Jz a3 ht;exact q t pr c n _ u1 r _ ((Ac z (.lst (((ns.drop 1).take j).map V.int))).trans (g1.trans (g2.trans g))) a2 a1 n3 n1 n2 (P2.mono g.tp) a4 (by omega) (by omega) (by omega)
def AbB(h:n<=16000000):n<=sizeLine:=zA h (by decide)
def Kn.set(k:Kn)(g:Nat)(v:Bool):Kn:=λi=>if i=g then some v else k i
def Gt.nums:Gt->List Nat
 |.nt g=>[g]
 |.all gs=>gs
 |.som gs=>gs
 |_=>[]
def leN(k k':Kn):Prop:=∀g v,k g=some v->k' g=some v
def leO(a b:Option Bool):Prop:=∀v,a=some v->b=some v
def Acj{a:Option Bool}(h:leO a c)(k:leO b d):leO (or3 a b) (or3 c d):=by
 rcases a with _|_|_<;>rcases b with _|_|_<;>intro v e<;>first|(cases e;done)|(cases e;first|rw[h _ rfl,k _ rfl];rfl|rw[h _ rfl];rfl|(rw[k _ rfl,or3_c];rfl))
def Ac4{a:Option Bool}(h:leO a c)(k:leO b d):leO (an3 a b) (an3 c d):=by
 rcases a with _|_|_<;>rcases b with _|_|_<;>intro v e<;>first|(cases e;done)|(cases e;first|rw[h _ rfl,k _ rfl];rfl|rw[h _ rfl];rfl|(rw[k _ rfl];rcases c with _|_|_<;>rfl))
theorem Wm{z:Type}{f g:z->Option _}:∀{l:List z},(∀x∈l,leO (f x) (g x))->leO (orL (l.map f)) (orL (l.map g))
 |[],_=>λ_ e=>e
 |_::_,h=>Acj (h _ vH) (Wm λx hx=>h x (vI _ hx))
theorem Wy{z:Type}{f g:z->Option _}:∀{l:List z},(∀x∈l,leO (f x) (g x))->leO (anL (l.map f)) (anL (l.map g))
 |[],_=>λ_ e=>e
 |_::_,h=>Ac4 (h _ vH) (Wy λx hx=>h x (vI _ hx))
def Sw{st:Option (List Int)}{k:Kn}(h:leN k k')(e:Fy st co k g=some v):Fy st co k' g=v:=by
 cases g with
 |nt g=>
  simp only[Fy]at e ⊢;cases z:k g with
  |none=>rw[z]at e;cases e
  |some b=>rw[z]at e;rwa[h g b z]
 |all _=>exact Wy (λx _ v e=>h x v e) v e
 |som _=>exact Wm (λx _ v e=>h x v e) v e
 |_=>exact e
def AbW{k:Kn}(h:k g=none):leN k (k.set g v):=by
 intro i w e;unfold Kn.set;split
 .next z=>rw[z,h]at e;cases e
 exact e
inductive Der(gs:List Gt)(st:Option (List Int))(co:List Int):Kn->Prop
 |nil:Der gs st co λ_=>none
 |step {k:Kn} {g:Nat} {v:Bool} {G:Gt} (h:Der gs st co k) (hG:gs[g]?=some G) (hn:k g=none) (hv:Fy st co k G=some v):Der gs st co (k.set g v)
def Der.told{st:Option (List Int)}{k:Kn}(h:Der gs st co k):∀g v,k g=some v->∃G,gs[g]?=some G/\Fy st co k G=v:=by
 induction h with
 |nil=>intro g v e;cases e
 |_ h hG hn hv ih=>
  intro i w e;unfold Kn.set at e;split at e
  .next z=>
   subst z;cases e
   exact⟨_,hG,Sw (AbW hn) hv⟩
  obtain⟨G,e1,e2⟩:=ih i w e
  exact⟨G,e1,Sw (AbW hn) e2⟩
def Nr(gs:List Gt)(st:Option (List Int))(co:List Int)(k:Kn):Prop:=∀g G,gs[g]?=some G->k g=none->Fy st co k G=none
def AhZ(gs:List Gt)(st:Option (List Int))(co:List Int)(k:Kn):Prop:=∀g G,gs[g]?=some G->k g=Fy st co k G
def Der.fix{st:Option (List Int)}{k:Kn}(h:Der gs st co k)(c:Nr gs st co k):AhZ gs st co k:=λg G e=>by
 cases z:k g with
 |none=>exact(c g G e z).symm
 |some v=>
  obtain⟨_,_,_⟩:=h.told g v z;simp_all
def knL(l:List (Option Bool)):Kn:=λi=>(l[i]?).getD none
def Adw(h:g<l.length):knL (l.set g (some v))=(knL l).set g v:=by
 funext i
 unfold knL Kn.set
 by_cases e:g=i
 .subst e;simp[h]
 have e':¬i=g:=λz=>e z.symm
 simp[e,e']
def nns(l:List (Option Bool)):Nat:=l.countP (·.isNone)
def Ad6:∀{l:List (Option Bool)}(h:l[g]?=some none),nns (l.set g (some v))+1=nns l:=by
 induction g with
 |zero=>intro l h;cases l with
  |nil=>cases h
  |cons x l=>cases h;simp[nns]
 |succ g z=>intro l h;cases l with
  |nil=>cases h
  |cons x l=>
   have:=z (by simpa using h);simp only[nns,set_cons_succ,List.countP_cons]at this ⊢;omega
structure Rd(gs:List Gt)(st:Option (List Int))(co:List Int)(k0 k:List (Option Bool))(i:Nat)(b:Bool):Prop where
 der:Der gs st co (knL k)
 len:k.length=gs.length
 no:b=false->k=k0/\∀g G,g<i->gs[g]?=some G->knL k g=none->Fy st co (knL k) G=none
 yes:b=true->nns k<nns k0
 le:nns k<=nns k0
def Rd.nil{st:Option (List Int)}{k:List (Option Bool)}(d:Der gs st co (knL k))(h:k.length=gs.length):Rd gs st co k k 0 false:=
 ⟨d,h,λ_=>⟨rfl,λg G z=>absurd z (not_lt_zero _)⟩,λz=>(by cases z),zB _⟩
def Rd.skip{st:Option (List Int)}{k:List (Option Bool)}(h:Rd gs st co k0 k i b)(hk:¬knL k i=none):Rd gs st co k0 k (i+1) b:=
 ⟨h.der,h.len,λz=>⟨(h.no z).1,λg G _ hG hn=>by
  by_cases c:g=i
  .simp_all
  exact(h.no z).2 g G (by omega) hG hn⟩,h.yes,h.le⟩
def Rd.step{st:Option (List Int)}{k:List (Option Bool)}(h:Rd gs st co k0 k i b)(hG:gs[i]?=some G)(hk:knL k i=none):Rd gs st co k0 (k.set i (Fy st co (knL k) G)) (i+1) (b || (Fy st co (knL k) G).isSome):=by
 have hi:i<k.length:=by rw[h.len];exact(uA.mp hG).1
 have a2:k[i]?=some none:=by
  unfold knL at hk;rw[vD hi]at hk ⊢;exact congrArg _ hk
 cases e:Fy _ _ _ G with
 |none=>
  have es:k.set i none=k:=by
   refine ext_getElem (by simp) λj _ _=>?_
   rw[List.getElem_set];split
   .simp_all
   rfl
  rw[es];simp[Bool.or_false];refine⟨h.der,h.len,λz=>⟨(h.no z).1,λg _ _ a1 hn=>?_⟩,h.yes,h.le⟩
  by_cases c:g=i
  .simp_all
  exact(h.no z).2 g _ (by omega) a1 hn
 |some v=>
  have n:=Ad6 (v:=v) a2;have:=h.le;simp[Bool.or_true];exact⟨by rw[Adw hi];exact h.der.step hG hk e,by rw[zN];exact h.len,λz=>(by cases z),λ_=>by omega,by omega⟩
def Rd.closed{st:Option (List Int)}{k:List (Option Bool)}(h:Rd gs st co k0 k gs.length false):Nr gs st co (knL k):=λg G hG hn=>(h.no rfl).2 g G (uA.mp hG).1 hG hn
def Gt.word:Gt->Str
 |.start=> "start"
 |.mem _=> "memory"
 |.given _=> "given"
 |.nt _=> "not"
 |.all _=> "all"
 |.som _=> "some"
def Gt.args:Gt->List Int
 |.start=>[]
 |.mem k=>[k]
 |.given s=>[s]
 |.nt g=>[(g:Int)]
 |.all gs=>gs.map Int.ofNat
 |.som gs=>gs.map Int.ofNat
inductive Rk(K:FA)(H:Hp)(G:Gt)(v:V):Prop
 |mk(a b:Addr)(e:v=.ref a)(h1:SqT K H a [.str G.word,.ref b])(h2:SqT K H b (G.args.map V.int))
inductive Ru(K:FA)(H:Hp)(gl:Addr)(gs:List Gt):Prop
 |mk(vs:List V)(h:SqL K H gl vs)(l:vs.length=gs.length)(g:∀(i:Nat)v G,vs[i]?=some v->gs[i]?=some G->Rk K H G v)
def WfG(gs:List Gt):Prop:=∀(g:Nat)(G:Gt),gs[g]?=some G->∀c∈G.nums,c<gs.length
structure SmG(gs:List Gt):Prop where
 wf:WfG gs
 len:gs.length<=16000
def StG(K:FA)(H:Hp):Option (List Int)->V->Prop
 |none,v=>v=.non
 |some ns,v=>∃a,v=.ref a/\SqL K H a (ns.map V.int)
def AcS(g:Same H H'){st:Option (List Int)}(h:StG K H st v):StG K H' st v:=by
 cases st with
 |none=>exact h
 |some l=>obtain⟨a,e,s⟩:=h;exact⟨a,e,g.seq s⟩
def Aex{st:Option (List Int)}(h:StG K H st v):decide (v=.non)=st.isNone:=by
 cases st with
 |none=>cases h;exact vK rfl
 |some l=>obtain⟨a,e,s⟩:=h;subst e;exact vM (λz=>by cases z)
inductive Aa9(K:FA)(H:Hp)(nt:Addr)(gs:List Gt):Prop
 |mk(gl:Addr)(rest xs:List V)(h:SqT K H nt (.ref gl::rest))(G:Ru K H gl gs)(hgl:H gl=some (.lst xs))(sm:SmG gs)
structure Ahd(K:FA)(H:Hp)(sv:V)(cl:Addr)(st:Option (List Int))(co:List Int):Prop where
 hs:StG K H st sv
 ls:(st.getD []).length<=900
 hc:SqL K H cl (co.map V.int)
 lc:co.length<=900
def AdS{G:Gt}(e:G.word ="start"):G=.start:=by cases G<;>first|rfl|(dsimp only[Gt.word]at e;exact absurd e (by trivial))
def Afm{G:Gt}(e:G.word ="memory"):∃k,G=.mem k:=by cases G<;>first|exact⟨_,Z⟩|(dsimp only[Gt.word]at e;exact absurd e (by trivial))
def Af5{G:Gt}(e:G.word ="given"):∃k,G=.given k:=by cases G<;>first|exact⟨_,Z⟩|(dsimp only[Gt.word]at e;exact absurd e (by trivial))
def Acp:Gt->Bool
 |.nt _=>true
 |.all _=>true
 |.som _=>true
 |_=>false
def Aej(h:Acp G):G.args=G.nums.map Int.ofNat:=by cases G<;>first|rfl|cases h
def Qm(e:Same H H')(h:SqT K H a xs):SqT K H' a xs:=by
 rcases h with(h|⟨o,h⟩)|h
 .exact .inl (.inl (e _ _ h))
 .exact .inl (.inr ⟨o,e _ _ h⟩)
 exact .inr h
def Adv(n:Nat):knL (List.replicate n (none:Option Bool))=λ_=>none:=by
 funext i
 unfold knL
 by_cases c:i<n
 .rw[List.getElem?_replicate_of_lt c];rfl
 simp_all
def Kl(l:List (Option Bool)):(l.map vO).all G9:=by
 rw[all_eq_true];intro x z;obtain⟨o,_,rfl⟩:=zU.mp z;cases o<;>rfl
def Ab5(a b:Option Bool):eqV (vO a) (vO b)=decide (a=b):=by
 rcases a with _|_|_<;>rcases b with _|_|_<;>rfl
def Oa{o:Option Bool}{l:List (Option Bool)}:inV (vO o) (l.map vO)=decide (o∈l):=by
 unfold inV;rw[any_map]
 by_cases c:o∈l
 .rw[vK c,any_eq_true]
  exact⟨o,c,by show eqV _ _;rw[Ab5];exact vK rfl⟩
 rw[vM c,List.any_eq_false]
 intro g hg z;have z:eqV _ _:=z;rw[Ab5]at z;exact c (vN z▸hg)
def AfU(l:List (Option Bool)):anL l=if some false∈l then some false else if none∈l then none else some true:=by
 induction l with
 |nil=>rfl
 |cons a l ih=>
  show an3 a (anL l)=_
  rw[ih];rcases a with _|_|_<;>by_cases h:some false∈l<;>by_cases z:none∈l<;>simp[an3,h,z]
def AeC{G:Gt}(e:G.word ="not"):∃k,G=.nt k:=by cases G<;>first|exact⟨_,Z⟩|(dsimp only[Gt.word]at e;exact absurd e (by trivial))
def Afd{G:Gt}(e:G.word ="all"):∃k,G=.all k:=by cases G<;>first|exact⟨_,Z⟩|(dsimp only[Gt.word]at e;exact absurd e (by trivial))
def Agh{G:Gt}(n1:¬G.word ="start")(n2:¬G.word ="memory")(n3:¬G.word ="given"):Acp G:=by cases G<;>first|rfl|exact absurd rfl n1|exact absurd rfl n2|exact absurd rfl n3
def AfV(h:Acp G)(n1:¬G.word ="not")(n2:¬G.word ="all"):∃k,G=.som k:=by cases G<;>first|exact⟨_,Z⟩|exact absurd rfl n1|exact absurd rfl n2|cases h
inductive Sk(K:FA)(vs:List V)(H:Hp)(Q:VK):Prop
 |mk(gv sv:V)(cl kl:Addr)(G:Gt)(st:Option (List Int))(co:List Int)(k:List (Option Bool))(_:vs=[gv,sv,.ref cl,.ref kl])(_:Rk K H G gv)(_:StG K H st sv)(_:SqL K H cl (co.map V.int))(_:SqL K H kl (k.map vO))(_:(∀c∈G.nums,c<k.length))(_:G.nums.length<=1000)(_:∀H',Same H H'->Q (vO (Fy st co (knL k) G)) H')
def Xw(K:FA):Sp:=λvs H Q _=>Sk K vs H Q
section
variable{aN:Addr}
def AiF(F:Ao K mg "_law_value" ["_law_gate","_law_state","_law_coming_here","_law_known"] Gg)(T:Txt mg):Ae P w K mg base 1 "_law_value" ["_law_gate","_law_state","_law_coming_here","_law_known"] (Xw K):=by
 refine F.ok Hf (λvs H Q E h=>?_) (λf _ A _ s H _ Q E _ h=>?_)
 .obtain⟨gv,sv,cl,kl,G,st,co,k,rfl⟩:=h;rfl
 obtain⟨gv,sv,cl,kl,G,st,co,k,rfl,⟨a,b,rfl,h1,h2⟩,a3,a7,hk,hn,_,q⟩:=h
 refine⟨_,(Ab (Ft (pv 0) (Fi rfl (Bf (Aq (i:=4) Hf.nd rfl (Or.inl rfl)) (Bf (Aq (i:=5) Hf.nd rfl (Or.inl rfl)) Eb))))
  (Ab (Az (pce (pv 4) Ah)
   (Ad (Ag (Ew Ln (pv 1) B5 (B4 _))))
   Ar)
  (Ab (Az (pce (pv 4) Ah)
   (Ad (Ag (Wc (Ew R0 (pv 1) B5 (B4 _)) (Qg (Ew Bz (pix (pv 5)) (pv 1) (by rfl))))))
   Ar)
  (Ab (Az (pce (pv 4) Ah)
   (Ad (Ag (Ew Bz (pix (pv 5)) (pv 2) (by rfl))))
   Ar)
  (Ab (Dz (j:=6) (te:=(tOp (Ri K) (Aw 1) (Aw 0))) ["_law_number"] [("_law_known",3)] Hf.nd rfl (Or.inl rfl) rfl (Bx (Af Gg) ["_law_gate","_law_state","_law_coming_here","_law_known","_law_word","_law_numbers","_law_ahead"] (by trivial)) (Ls (pv 5)) (λs2 H2 fp cl C=>Aq (i:=0) (show Nodup [("_law_number": Str),("_law_known": Str)] from by trivial) rfl (Or.inl rfl)) (A9 (by decide)) (λs2 H2 fp cl C=>Fg) (λs2 H2 fp cl C=>(B7 B0 (pv 1) (pv 0) (λ_ _=>rfl))))
  (Ab (Az (pce (pv 4) Ah)
   (Ad (Ag (B7 B0 (An (pa3 B5 Do Do)) (F2 uG PySem.F.slot_list_index PySem.F.type_list_index Acf (An (pa3 B5 Do Do)) (pa1 (pil (pv 6)))) (λ_ _=>rfl))))
   Ar)
  (Ab (Az (pce (pv 4) Ah)
   (Ad (Ag (Bq (Bg Bz Do (pv 6) (by rfl)) Do (B7 B0 (An (pa2 Do B5)) (Dp Ni rfl T.n_int (by trivial) (pa1 (Ew Bz B5 (pv 6) (by rfl)))) (λ_ _=>rfl)))))
   Ar)
  (Ad (Ag (Bq (Bg Bz Do (pv 6) (by rfl)) Do (B7 B0 (An (pa2 Do B5)) (Dp Ni rfl T.n_int (by trivial) (pa1 (Ew Bz B5 (pv 6) (by rfl)))) (λ_ _=>rfl)))))))))))),?_⟩
 refine⟨a,_,Z,h1,Z,_,_,Z,_,_,Z,Z,?_⟩;refine⟨Z,Ci (λe=>?_) λn1=>⟨Z,Ci (λe=>?_) λn2=>⟨Z,Ci (λe=>?_) λn3=>?_⟩⟩⟩
 .cases AdS e
  refine⟨Z,?_⟩;rw[Aex a3];exact q H (Bv _)
 .obtain⟨n,rfl⟩:=Afm e
  cases st with
  |none=>
   cases a3
   refine⟨Z,_,Z,?_⟩;rw[if_neg (by simp)];exact q H (Bv _)
  |some l=>
   obtain⟨s',rfl,hs⟩:=a3;refine⟨Z,_,Z,?_⟩;rw[if_pos (by simp)];refine⟨h2,Aa rfl,s',_,Z,.inl hs,Z,Cb l,?_⟩;rw[Ej];exact q H (Bv _)
 .obtain⟨n,rfl⟩:=Af5 e
  refine⟨h2,Aa rfl,cl,_,Z,.inl a7,Z,Cb co,?_⟩;rw[Ej];exact q H (Bv _)
 have nm:=Agh n1 n2 n3;rw[Aej nm]at h2;refine⟨b,Z,⟨_,h2⟩,Ur (K:=K) (xs:=(G.nums.map Int.ofNat).map V.int) (λi ys H'=>H'=H/\ys=((G.nums.take i).map (knL k)).map vO) ⟨Z,Z⟩ (by rw[vE,vE];exact AbB (by omega)) (λi ys H' h=>by rwa[h.1]) ?_ ?_⟩
 .rintro j z ys H' M hj ⟨rfl,rfl⟩ hN a4
  rw[map_map,vJ]at hj;cases ej:G.nums[j]? with
  |none=>rw[ej]at hj;cases hj
  |some c=>
   rw[ej]at hj;cases hj
   have ek:(k.map vO)[c]?=some (vO (knL k c)):=by unfold knL;rw[vJ,vD (hn c (vR ej))];rfl
   refine⟨hk,Aa ek,hN _ _ (by rw[vF,vG];exact succ_le_succ a4) ⟨Z,?_⟩⟩;rw[take_add_one,ej,vQ,vQ];rfl
 rintro ys H' a4 ⟨rfl,rfl⟩ D b1
 rw[vT (by rw[vE,vE];exact zB _)];have g1:=Ac b1 (.lst ((G.nums.map (knL k)).map vO));have hD:=qa (H:=H') (a:=D) (o:=.lst ((G.nums.map (knL k)).map vO));generalize (upd H' D (.lst ((G.nums.map (knL k)).map vO)))=H1 at g1 hD;refine⟨Z,Ci (λe=>?_) λn4=>⟨Z,Ci (λe=>?_) λn5=>?_⟩⟩
 .obtain⟨c,rfl⟩:=AeC e
  refine⟨zN3,λl1 a1=>?_⟩;have k2:=Ac a1 (.lst [.non,.bl false,.bl true]);have e2:=qa (H:=H1) (a:=l1) (o:=.lst [.non,.bl false,.bl true]);have a6:=k2 _ _ hD;generalize (upd H1 l1 (.lst [.non,.bl false,.bl true]))=H2 at k2 e2 a6;refine⟨zN3,λl2 a9=>?_⟩;have k3:=Ac a9 (.lst [.non,.bl true,.bl false]);have e3:=qa (H:=H2) (a:=l2) (o:=.lst [.non,.bl true,.bl false]);have a5:=k3 _ _ a6;have a2:=k3 _ _ e2;generalize (upd H2 l2 (.lst [.non,.bl true,.bl false]))=H3 at k3 e3 a5 a2;refine⟨.inl ⟨Z,_,Ai e3⟩,Ai a5,Aa (j:=0) rfl,?_⟩;have q:=q _ (g1.trans (k2.trans k3));have eg:Fy st co (knL k) (.nt c)=(knL k c).map not:=rfl;rw[eg]at q;generalize knL k c=o at q;rcases o with _|_|_
  .exact⟨l2,_,_,0,_,Z,Z,e3,Z,Z,Z,Z,λm z' h=>absurd h (not_lt_zero _),Ai a2,Aa (j:=0) rfl,q⟩
  .exact⟨l2,_,_,2,_,Z,Z,e3,Z,Z,Z,Z,λm z' h e=>by(match m,h,e with|0,_,e=>cases e;rfl|1,_,e=>cases e;rfl),Ai a2,Aa (j:=2) rfl,q⟩
  exact⟨l2,_,_,1,_,Z,Z,e3,Z,Z,Z,Z,λm z' h e=>by(match m,h,e with|0,_,e=>cases e;rfl),Ai a2,Aa (j:=1) rfl,q⟩
 .obtain⟨l,el⟩:=Afd e
  have eg:Fy st co (knL k) G=anL (G.nums.map (knL k)):=by rw[el];rfl
  rw[eg,AfU]at q;refine⟨D,_,Z,.inl (Ai hD),Z,Kl _,?_⟩;rw[if_neg qc,show V.bl false=vO (some false) from rfl,Oa]
  by_cases c1:some false∈G.nums.map (knL k)
  .rw[if_pos c1]at q
   rw[vK c1];exact q _ g1
  rw[if_neg c1]at q
  rw[vM c1];refine⟨zN2,λl1 a1=>?_⟩;have k2:=Ac a1 (.lst [.bl true,.non]);refine⟨D,_,Z,.inl (Ai (k2 _ _ hD)),Z,Kl _,.inr ⟨_,Z,Ai qa,?_,q _ (g1.trans k2)⟩⟩;rw[if_neg qc,show V.non=vO none from rfl,Oa]
  by_cases c2:none∈G.nums.map (knL k)
  .rw[vK c2,if_pos c2];exact Aa (j:=1) rfl
  rw[vM c2,if_neg c2];exact Aa (j:=0) rfl
 obtain⟨l,el⟩:=AfV nm n4 n5
 have eg:Fy st co (knL k) G=orL (G.nums.map (knL k)):=by rw[el];rfl
 rw[eg,Nj]at q;refine⟨D,_,Z,.inl (Ai hD),Z,Kl _,?_⟩;rw[if_neg qc,show V.bl true=vO (some true) from rfl,Oa]
 by_cases c1:some true∈G.nums.map (knL k)
 .rw[if_pos c1]at q
  rw[vK c1];exact q _ g1
 rw[if_neg c1]at q
 rw[vM c1];refine⟨zN2,λl1 a1=>?_⟩;have k2:=Ac a1 (.lst [.bl false,.non]);refine⟨D,_,Z,.inl (Ai (k2 _ _ hD)),Z,Kl _,.inr ⟨_,Z,Ai qa,?_,q _ (g1.trans k2)⟩⟩;rw[if_neg qc,show V.non=vO none from rfl,Oa]
 by_cases c2:none∈G.nums.map (knL k)
 .rw[vK c2,if_pos c2];exact Aa (j:=1) rfl
 rw[vM c2,if_neg c2];exact Aa (j:=0) rfl
def Rk.same(k:Same H H')(h:Rk K H G v):Rk K H' G v:=by
 obtain⟨a,b,e,h1,h2⟩:=h;exact⟨a,b,e,Qm k h1,Qm k h2⟩
inductive AfW(H:Hp)(gs:List Gt)(st:Option (List Int))(co:List Int)(kl:Addr)(H':Hp):Prop
 |mk(k:List (Option Bool))(g:Same H H')(hk:H' kl=some (.lst (k.map vO)))(lk:k.length=gs.length)(d:Der gs st co (knL k))(c:Nr gs st co (knL k))
def AbK(k:List (Option Bool)):(k.map vO).countP (λv=>decide (v=V.non))=nns k:=by
 rw[List.countP_map]
 congr 1
 funext o
 cases o with
 |none=>show decide (V.non=V.non);exact vK rfl
 |some b=>show decide (V.bl b=V.non)=false;exact vM (λz=>by cases z)
inductive S6(K:FA)(vs:List V)(H:Hp)(Q:VK):Prop
 |mk(nt cl:Addr)(sv:V)(gs:List Gt)(st:Option (List Int))(co:List Int)(_:vs=[.ref nt,sv,.ref cl])(_:Aa9 K H nt gs)(_:Ahd K H sv cl st co)(_:(∀G∈gs,G.nums.length<=1000))(_:∀(kl:Addr)(H':Hp),AfW H gs st co kl H'->Q (.ref kl) H')
def Zu(K:FA):Sp:=λvs H Q _=>S6 K vs H Q
def AhY(F:Ao K mg "_law_least" ["_law_net","_law_state","_law_coming_here"] Gh)(T:Txt mg)(eJ:Ae P w K mg base 1 "_law_value" ["_law_gate","_law_state","_law_coming_here","_law_known"] (Xw K)):Ae P w K mg base 2 "_law_least" ["_law_net","_law_state","_law_coming_here"] (Zu K):=by
 refine F.ok Ey (λvs H Q E h=>?_) (λf _ A _ s H _ Q E _ h=>?_)
 .obtain⟨nt,cl,sv,gs,st,co,rfl⟩:=h;rfl
 obtain⟨nt,cl,sv,gs,st,co,rfl,⟨gl,_,xs,a8,G0,_,sm⟩,⟨b4,_,b2,_⟩,l9,q⟩:=h
 refine⟨_,(Ab (Dz (j:=3) ["_law_gate"] [] Ey.nd rfl (Or.inl rfl) rfl (Bx (Af Gh) ["_law_net","_law_state","_law_coming_here","_law_known","_law_changed","_law_number"] (by trivial)) (Cf (pix (pv 0))) (λs2 H2 fp cl C=>Aq (i:=0) (show Nodup [("_law_gate": Str)] from by trivial) rfl (Or.inl rfl)) (A9 (by decide)) (λs2 H2 fp cl C=>Fg) (λs2 H2 fp cl C=>B5))
  (Ab (pst 4 Ey.nd Do)
  (Ab (Mq PassesOwn.never (Nn (pv 4))
   (Ab (pst 4 Ey.nd Do)
  (Ad (Fj PassesOwn.never rfl (Fn rfl T.n_range (pa1 (Bs C9 rfl T.n_len PySem.boot_len (pa1 (pv 3))))) (Aq (i:=5) Ey.nd rfl (Or.inl rfl))
   (Ad (Az (Bg Ln (B7 B0 (pv 3) (pv 5) (λ_ _=>rfl)) B5 (B4 _))
   (Ab (Ft (pcl eJ (Ba (B7 B0 (pix (pv 0)) (pv 5) (λ_ _=>rfl)) (pa3 (pv 1) (pv 2) (pv 3)))) (V0 (pv 3) (pv 5) Pn))
  (Ad (pst 4 Ey.nd (Ag5 (pv 4) (Qg (Ew R0 (B7 B0 (pv 3) (pv 5) (λ_ _=>rfl)) B5 (B4 _)))))))
   Ar))))))
  (Ad (Ag (pv 3)))))),?_⟩
 have c3:=sm.len;obtain⟨gvs,a5,b8,b5⟩:=id G0;refine⟨a8,Aa rfl,gl,Z,⟨_,a5⟩,Db (xs:=gvs) (λi ys H'=>H'=H/\ys=(List.replicate i (none:Option Bool)).map vO) ⟨Z,Z⟩ (AbB (by omega)) (λi ys H' h=>by rw[h.1];exact a5) ?_ ?_⟩
 .rintro j z ys H' M hj ⟨rfl,rfl⟩ hN a9
  exact hN _ _ (by rw[vF,vG];exact succ_le_succ a9) ⟨Z,by rw[List.replicate_succ',vQ];rfl⟩
 rintro ys H0 a9 ⟨rfl,rfl⟩ kl a7;rw[b8];have g1:=Ac a7 (.lst ((List.replicate gs.length (none:Option Bool)).map vO));have ek:=qa (H:=H0) (a:=kl) (o:=.lst ((List.replicate gs.length (none:Option Bool)).map vO));generalize (upd H0 kl (.lst ((List.replicate gs.length (none:Option Bool)).map vO)))=H1 at g1 ek
 refine Ph (λY H'=>∃(b:Bool)(k:List (Option Bool))(x5:Option V),Y=[some (.ref nt),some sv,some (.ref cl),some (.ref kl),some (.bl b),x5]/\Same H0 H'/\H' kl=some (.lst (k.map vO))/\k.length=gs.length/\Der gs st co (knL k)/\(b=false->Nr gs st co (knL k)))
  (λ(Y:St)(H':Hp)=>match H' kl,Y[4]? with|some (HO.lst us),some (some (V.bl b))=>2*us.countP (λv=>decide (v=V.non))+(if b then 1 else 0)|_,_=>0) ⟨true,_,none,Z,g1,ek,vU,by rw[Adv];exact Der.nil,λz=>by cases z⟩ ?_ ?_
 .rintro Y H2 ⟨b,k,x5,rfl,g2,a4,lk,der,b6⟩
  cases b with
  |false=>exact q kl H2 ⟨k,g2,a4,lk,der,b6 rfl⟩
  |true=>
   refine⟨kl,_,Z,.inl (Ai a4),_,Z,by rw[vE];omega,by rw[vE];omega,?_⟩;rw[show(((k.map vO).length:Nat):Int).toNat=gs.length by rw[vE,uI,lk]];refine AbH (λi Y H'=>∃(b:Bool)(k':List (Option Bool))(x5:Option V),Y=[some (.ref nt),some sv,some (.ref cl),some (.ref kl),some (.bl b),x5]/\Same H0 H'/\H' kl=some (.lst (k'.map vO))/\Rd gs st co k k' i b) ⟨false,k,x5,Z,g2,a4,Rd.nil der lk⟩ ?_ ?_
   .rintro i Y H3 hi ⟨b,k',x5,rfl,g3,a1,rd⟩
    have b7:=rd.len;have ei:(k'.map vO)[i]?=some (vO (knL k' i)):=by unfold knL;rw[vJ,vD (by omega)];rfl
    obtain⟨G,hG⟩:∃G,gs[i]?=some G:=⟨_,vD hi⟩;obtain⟨gv,a6⟩:∃gv,gvs[i]?=some gv:=⟨_,vD (by omega)⟩;refine⟨Ai a1,(by rw[Int.zero_add];exact Aa ei),Z,?_⟩;cases e:knL k' i with
    |some v=>exact Fh ⟨b,k',_,rfl,g3,a1,rd.skip (by rw[e];exact λz=>by cases z)⟩
    |none=>
     have a2:=rd.step hG e;refine Dg ⟨Qm g3 a8,Aa rfl,g3.seq a5,(by rw[Int.zero_add];exact Aa a6),gv,sv,cl,kl,G,st,co,k',Z,(b5 i gv G a6 hG).same g3,AcS g3 b4,g3.seq b2,Ai a1,λc hc=>by rw[b7];exact sm.wf i G hG c hc,l9 G (vR hG),λH4 g4=>?_⟩;refine⟨kl,_,_,i,Z,Z,(g4 _ _ a1),?_,?_⟩
     .unfold ixN
      rw[vE,if_pos (by omega),if_pos (by omega),Int.zero_add,uI]
     generalize Fy st co (knL k') G=o at a2;have a3:(upd H4 kl (.lst ((k'.map vO).set i (vO o)))) kl=some (.lst ((k'.set i o).map vO)):=by rw[qa,map_set]
     have g5:Same H0 (upd H4 kl (.lst ((k'.map vO).set i (vO o)))):=(g3.trans g4).young a7 _;generalize (upd H4 kl (.lst ((k'.map vO).set i (vO o))))=H5 at a3 g5;cases b with
     |true=>exact⟨_,rfl,Dg ⟨true,_,_,rfl,g5,a3,a2⟩⟩
     |false=>
      refine⟨_,Z,Fh ⟨Ai a3,(by rw[Int.zero_add];exact Aa (by rw[vJ,zQ (by omega)];rfl)),Z,?_⟩⟩;refine⟨_,_,_,Z,g5,a3,?_⟩;have eb:(!decide (vO o=V.non))=(false || o.isSome):=by cases o<;>rfl
      first|(rw[eb];exact a2)|exact eb▸a2
   rintro Y H3 ⟨b,k',x5,rfl,g3,a1,rd⟩
   refine⟨⟨b,k',x5,Z,g3,a1,rd.len,rd.der,λz=>by subst z;exact rd.closed⟩,?_⟩;show(match H3 kl,(some (some (V.bl b))) with|some (HO.lst us),some (some (V.bl b))=>2*us.countP (λv=>decide (v=V.non))+(if b then 1 else 0)|_,_=>0)<(match H2 kl,(some (some (V.bl true))) with|some (HO.lst us),some (some (V.bl b))=>2*us.countP (λv=>decide (v=V.non))+(if b then 1 else 0)|_,_=>0);rw[a1,a4];dsimp only;rw[AbK,AbK];have le:=rd.le;cases b with
   |true=>have:=rd.yes rfl;show 2*nns k'+1<2*nns k+1;omega
   |false=>show 2*nns k'+0<2*nns k+1;omega
 exact λY H Q Q' h=>Jx λv H=>Pr h
end
end Dsk
namespace My
open PySem L2
def rsL:Pt->List Int
 |.rest k=>[k]
 |.again k p=>k::rsL p
 |.iff _ p q=>rsL p++rsL q
 |.thn p q=>rsL p++rsL q
 |.bes p q=>rsL p++rsL q
 |.hold _ p=>rsL p
 |.watch _ p=>rsL p
 |.trap p=>rsL p
 |.nothing=>[]
 |.send _=>[]
 |.exit _=>[]
 |.stay _=>[]
def Aam(st:List Int)(h:okE p):(rem st p).1=(rsL p).filter λk=>decide (k∈st):=by
 induction p with
 |nothing=>rfl
 |send s=>rfl
 |exit d=>rfl
 |stay _=>exact h.elim
 |rest k=>
  simp[rem,rsL]
  by_cases c:k∈st
  .simp_all
  simp_all
 |iff s p q z a1=>simp[rem,rsL,z h.1,a1 h.2]
 |thn p q z a1=>simp[rem,rsL,z h.1,a1 h.2]
 |bes p q z a1=>simp[rem,rsL,z h.1,a1 h.2]
 |again k p ih=>
  simp only[rem,rsL]
  by_cases c:k∈st
  .simp[c,ih h]
  simp[c,ih h]
 |hold s p ih=>exact ih h
 |watch s p ih=>exact ih h
 |trap p ih=>exact ih h
def A1(p:Pt):Option (List Int)->Bool
 |none=>false
 |some l=>(rsL p).any λk=>decide (k∈l)
def B8(h:okE p):A1 p (some l)↔¬(rem l p).1=[]:=by
 rw[Aam l h];show(rsL p).any _↔_;simp
def Cu{st:Option (List Int)}(h:okE p)(g:¬A1 p st):pb p st=p:=by
 cases st with
 |none=>rfl
 |some l=>exact L6 l p (uM λz=>g ((B8 h).mpr z))
def Og{st:Option (List Int)}(z:okE q)(g:A1 q st):pb (.thn p q) st=pb q st:=by
 cases st with
 |none=>cases g
 |some l=>
  show lp (.thn p q) _ _=_
  unfold lp;dsimp only;rw[if_neg ((B8 z).mp g)];rfl
def Op{st:Option (List Int)}(oq:okE q)(g:¬A1 q st):pb (.thn p q) st=.thn (pb p st) q:=by
 cases st with
 |none=>rfl
 |some l=>
  show lp (.thn p q) _ _=_
  unfold lp;dsimp only;rw[if_pos (uM λz=>g ((B8 oq).mpr z))];rfl
def Qt{st:Option (List Int)}(op:okE p)(oq:okE q):pb (.iff s p q) st=if A1 p st then pb p st else if A1 q st then pb q st else .iff s p q:=by
 cases st with
 |none=>rfl
 |some l=>
  show lp (.iff s p q) _ _=_
  unfold lp;dsimp only
  by_cases c1:A1 p (some l)
  .rw[if_pos ((B8 op).mp c1),if_pos c1];rfl
  rw[if_neg (λz=>c1 ((B8 op).mpr z)),if_neg c1]
  by_cases c2:A1 q (some l)
  .rw[if_pos ((B8 oq).mp c2),if_pos c2];rfl
  rw[if_neg (λz=>c2 ((B8 oq).mpr z)),if_neg c2]
def Q2{st:Option (List Int)}(op:okE p)(oq:okE q):pb (.bes p q) st=if (A1 p st↔A1 q st) then .bes (pb p st) (pb q st) else if A1 p st then pb p st else pb q st:=by
 cases st with
 |none=>rw[if_pos (show(A1 p _↔A1 q _) from Iff.rfl)];rfl
 |some l=>
  show lp (.bes p q) _ _=_
  unfold lp;dsimp only
  by_cases c1:A1 p (some l)
  .have d1:=(B8 op).mp c1
   by_cases c2:A1 q (some l)
   .have d2:=(B8 oq).mp c2
    rw[if_pos ⟨d1,d2⟩,if_pos ⟨λ_=>c2,λ_=>c1⟩];rfl
   have d2:=uM λz=>c2 ((B8 oq).mpr z)
   rw[if_neg (λz=>z.2 d2),if_pos d1,if_neg (λz=>c2 (z.mp c1)),if_pos c1];rfl
  have d1:=uM λz=>c1 ((B8 op).mpr z)
  by_cases c2:A1 q (some l)
  .have d2:=(B8 oq).mp c2
   rw[if_neg (λz=>z.1 d1),if_neg (λz=>z d1),if_pos d2,if_neg (λz=>c1 (z.mpr c2)),if_neg c1];rfl
  have d2:=uM λz=>c2 ((B8 oq).mpr z)
  rw[if_neg (λz=>z.1 d1),if_neg (λz=>z d1),if_neg (λz=>z d2),if_pos ⟨λz=>absurd z c1,λz=>absurd z c2⟩];show _=Pt.bes (rem l p).2 (rem l q).2;rw[L6 l p d1,L6 l q d2]
def Oo(p:Pt)(st:Option (List Int)):pb (.trap p) st=.trap (pb p st):=by
 cases st with
 |none=>rfl
 |some l=>
  show lr (.trap p) _=_
  unfold lr;split
  .rename_i c
   show _=Pt.trap (rem l p).2
   rw[L6 l p c]
  rfl
def He{st:Option (List Int)}(op:okE p):(¬A1 p st->pb (.hold s p) st=.hold s (pb p st)/\pb (.watch s p) st=.watch s (pb p st))/\∀l,st=some l->A1 p st->pb (.hold s p) st=.iff s (.stay ((rsL p).filter λk=>decide (k∈l))) (pb p st)/\pb (.watch s p) st=.iff s .nothing (pb p st):=by
 constructor
 .intro g
  rw[Cu op g];exact⟨Cu op (by cases st with|none=>exact λz=>nomatch z|some l=>exact g),Cu op (by cases st with|none=>exact λz=>nomatch z|some l=>exact g)⟩
 rintro l rfl g
 have ne:=(B8 op).mp g;rw[<-Aam l op];constructor
 .show lr (.hold s p) _=_
  unfold lr;rw[if_neg ne];rfl
 show lr (.watch s p) _=_
 unfold lr;rw[if_neg ne];rfl
def Vd:Pt->Option (List Int)->Prop
 |.iff _ p q,st=>Vd p st/\Vd q st/\¬(A1 p st=true/\A1 q st=true)
 |.thn p q,st=>Vd p st/\Vd q st
 |.bes p q,st=>Vd p st/\Vd q st
 |.again k p,st=>Vd p st/\∀l,st=some l->k∈l->¬A1 p st=true
 |.hold _ p,st=>Vd p st
 |.watch _ p,st=>Vd p st
 |.trap p,st=>Vd p st
 |_,_=>True
def AgE(p:Pt):Vd p none:=by
 induction p with
 |iff s p q a1 a2=>exact⟨a1,a2,λz=>nomatch z.1⟩
 |thn p q a1 a2=>exact⟨a1,a2⟩
 |bes p q a1 a2=>exact⟨a1,a2⟩
 |again k p ih=>exact⟨ih,λl e=>nomatch e⟩
 |hold s p ih=>exact ih
 |watch s p ih=>exact ih
 |trap p ih=>exact ih
 |_=>trivial
def Mx{k:Int}{st:Option (List Int)}(op:okE p)(v:∀l,st=some l->k∈l->¬A1 p st):pb (.again k p) st=.again k (pb p st):=by
 cases st with
 |none=>rfl
 |some l=>
  show(rem l _).2=.again k (rem l p).2
  simp only[rem]
  by_cases c:k∈l
  .rw[if_pos c]
   have:=Cu op (v l rfl c);show _=Pt.again k (pb p (some l));rw[this]
  rw[if_neg c]
  unfold lr;split
  .rename_i c2;rw[L6 l p c2]
  rfl
def Po(h:∀x∈rsL p,(x∈l↔x∈l')):A1 p (some l)=A1 p (some l'):=by
 show(rsL p).any _=(rsL p).any _
 rw[Bool.eq_iff_iff,any_eq_true,any_eq_true];constructor
 .rintro⟨k,h1,h2⟩;exact⟨k,h1,by simpa using (h k h1).mp (by simpa using h2)⟩
 rintro⟨k,h1,h2⟩;exact⟨k,h1,by simpa using (h k h1).mpr (by simp_all)⟩
def Oc(h:∀x∈rsL p,¬x∈l):¬A1 p (some l):=by
 intro g;obtain⟨k,h1,h2⟩:=any_eq_true.mp g;exact h k h1 (by simpa using h2)
def Qi(h:∀x∈rsL p,(x∈l↔x∈l'))(v:Vd p (some l)):Vd p (some l'):=by
 induction p with
 |iff s p q a1 a2=>
  have h1:=λx z=>h x (zY _ z)
  have h2:=λx z=>h x (vS _ z)
  refine⟨a1 h1 v.1,a2 h2 v.2.1,?_⟩;rw[<-Po h1,<-Po h2];exact v.2.2
 |thn p q a1 a2=>exact⟨a1 (λx z=>h x (zY _ z)) v.1,a2 (λx z=>h x (vS _ z)) v.2⟩
 |bes p q a1 a2=>exact⟨a1 (λx z=>h x (zY _ z)) v.1,a2 (λx z=>h x (vS _ z)) v.2⟩
 |again k p ih=>
  have h1:=λx z=>h x (vI _ z)
  refine⟨ih h1 v.1,λl2 e hk=>?_⟩;cases e
  rw[<-Po h1];exact v.2 l rfl ((h k vH).mpr hk)
 |hold s p ih=>exact ih h v
 |watch s p ih=>exact ih h v
 |trap p ih=>exact ih h v
 |_=>trivial
def Ip(h:∀x∈rsL p,¬x∈l):Vd p (some l):=by
 induction p with
 |iff s p q a1 a2=>
  have h1:=λx hx=>h x (zY _ hx)
  exact⟨a1 h1,a2 (λx hx=>h x (vS _ hx)),λz=>Oc h1 z.1⟩
 |thn p q a1 a2=>exact⟨a1 (λx hx=>h x (zY _ hx)),a2 (λx hx=>h x (vS _ hx))⟩
 |bes p q a1 a2=>exact⟨a1 (λx hx=>h x (zY _ hx)),a2 (λx hx=>h x (vS _ hx))⟩
 |again k p ih=>
  exact⟨ih (λx hx=>h x (vI _ hx)),λl2 e hk=>by cases e;exact absurd hk (h k vH)⟩
 |hold s p ih=>exact ih h
 |watch s p ih=>exact ih h
 |trap p ih=>exact ih h
 |_=>trivial
def rsX:Pt->List Int
 |.rest k=>[k]
 |.stay ks=>ks
 |.again k p=>k::rsX p
 |.iff _ p q=>rsX p++rsX q
 |.thn p q=>rsX p++rsX q
 |.bes p q=>rsX p++rsX q
 |.hold _ p=>rsX p
 |.watch _ p=>rsX p
 |.trap p=>rsX p
 |_=>[]
def Agv(h:okE p):rsX p=rsL p:=by
 induction p with
 |stay _=>exact h.elim
 |nothing=>rfl
 |send s=>rfl
 |exit d=>rfl
 |rest k=>rfl
 |iff s p q z a1=>simp[rsX,rsL,z h.1,a1 h.2]
 |thn p q z a1=>simp[rsX,rsL,z h.1,a1 h.2]
 |bes p q z a1=>simp[rsX,rsL,z h.1,a1 h.2]
 |again k p ih=>simp[rsX,rsL,ih h]
 |hold s p ih=>exact ih h
 |watch s p ih=>exact ih h
 |trap p ih=>exact ih h
def AgJ{x:Int}:x∈(beg th p).2.2->x∈rsX p:=by
 induction p with
 |nothing=>exact λh=>h
 |send s=>exact λh=>h
 |exit d=>exact λh=>h
 |stay _=>exact λh=>h
 |rest k=>exact λh=>h
 |iff s p q a1 a2=>
  simp[beg,rsX];split
  .exact λh=>.inl (a1 h)
  exact λh=>.inr (a2 h)
 |thn p q a1 a2=>
  simp[beg,rsX];split
  .exact λh=>.inr (a2 h)
  exact λh=>.inl (a1 h)
 |bes p q a1 a2=>
  simp only[beg,rsX,vY,Hw];generalize (if (beg _ q).1>(beg _ p).1 then(beg _ q).1 else(beg _ p).1)=c;split
  .intro h
   rcases vY.mp h with z|z
   .exact .inl (a1 z)
   exact .inr (a2 z)
  simp
 |again k p ih=>
  simp[beg,rsX,Pz];split
  .exact λh=>.inl (by simpa using h)
  exact λh=>.inr (ih h)
 |hold s p ih=>exact ih
 |watch s p ih=>exact ih
 |trap p ih=>exact ih
def Ad3{st:List Int}{x:Int}:x∈(rem st p).1->x∈rsX p/\x∈st:=by
 induction p with
 |nothing=>intro h;cases h
 |send s=>intro h;cases h
 |exit d=>intro h;cases h
 |stay _=>intro h;cases h
 |rest k=>
  simp[rem];split
  .rename_i c;intro h;rw[zG]at h;subst h;exact⟨by simp[rsX],c⟩
  simp
 |iff s p q a1 a2=>simp[rem,rsX];exact λh=>h.elim (λz=>⟨.inl (a1 z).1,(a1 z).2⟩) λz=>⟨.inr (a2 z).1,(a2 z).2⟩
 |thn p q a1 a2=>simp[rem,rsX];exact λh=>h.elim (λz=>⟨.inl (a1 z).1,(a1 z).2⟩) λz=>⟨.inr (a2 z).1,(a2 z).2⟩
 |bes p q a1 a2=>simp[rem,rsX];exact λh=>h.elim (λz=>⟨.inl (a1 z).1,(a1 z).2⟩) λz=>⟨.inr (a2 z).1,(a2 z).2⟩
 |again k p ih=>
  simp only[rem];split
  .rename_i c
   intro h;rcases vY.mp h with z|z
   .rw[zG]at z;subst z;exact⟨by simp[rsX],c⟩
   exact⟨vI _ (ih z).1,(ih z).2⟩
  exact λh=>⟨vI _ (ih h).1,(ih h).2⟩
 |hold s p ih=>exact ih
 |watch s p ih=>exact ih
 |trap p ih=>exact ih
def AfX{st:List Int}{x:Int}:x∈rsX (rem st p).2->x∈rsX p:=by
 have a3:∀p,∀x∈rsX (rem st p).2,x∈rsX p:=by
  intro p
  induction p with
  |nothing=>exact λx h=>h
  |send s=>exact λx h=>h
  |exit d=>exact λx h=>h
  |stay _=>exact λx h=>h
  |rest k=>
   intro x;simp[rem];split
   .intro h;cases h
   exact λh=>h
  |iff s p q a1 a2=>exact AaO (f:=λz=>∀x∈rsX z,x∈rsX _) (p:=.iff s p q) (λx h=>h) (λx h=>zY _ (a1 x h)) (λx h=>vS _ (a2 x h)) (λ_ _ e=>nomatch e) (λ_ _ e=>nomatch e)
  |thn p q a1 a2=>exact AaO (f:=λz=>∀x∈rsX z,x∈rsX _) (p:=.thn p q) (λx h=>h) (λx h=>zY _ (a1 x h)) (λx h=>vS _ (a2 x h)) (λ_ _ e=>by cases e;exact λx h=>(vY.mp h).elim (λz=>zY _ (a1 x z)) λz=>vS _ z) (λ_ _ e=>nomatch e)
  |bes p q a1 a2=>exact AaO (f:=λz=>∀x∈rsX z,x∈rsX _) (p:=.bes p q) (λx h=>h) (λx h=>zY _ (a1 x h)) (λx h=>vS _ (a2 x h)) (λ_ _ e=>nomatch e) (λ_ _ e=>by exact λx h=>(vY.mp h).elim (λz=>zY _ (a1 x z)) λz=>vS _ (a2 x z))
  |again k p ih=>
   intro x;simp only[rem];split
   .exact λh=>h
   unfold lr;split
   .exact λh=>h
   intro h
   rcases zM.mp h with z|z
   .exact zM.mpr (.inl z)
   exact zM.mpr (.inr (ih x z))
  |hold s p ih=>
   intro x;show x∈rsX (lr (.hold s p) _)->_;unfold lr;split
   .exact λh=>h
   intro h
   rcases vY.mp h with z|z
   .exact(Ad3 z).1
   exact ih x z
  |watch s p ih=>
   intro x;show x∈rsX (lr (.watch s p) _)->_;unfold lr;split
   .exact λh=>h
   intro h
   rcases vY.mp h with z|z
   .cases z
   exact ih x z
  |trap p ih=>
   intro x;show x∈rsX (lr (.trap p) _)->_;unfold lr;split
   .exact λh=>h
   exact ih x
 exact a3 p x
def C8{st:Option (List Int)}(h:okE p){x:Int}(z:x∈(beg th (pb p st)).2.2):x∈rsL p:=by
 have h2:=AgJ z;rw[<-Agv h];cases st with
 |none=>exact h2
 |some l=>exact AfX h2
def AeH{st:Option (List Int)}(h:okE p)(nd:(rsL p).Nodup)(v:Vd p st):Vd p (some (beg th (pb p st)).2.2):=by
 induction p with
 |nothing=>trivial
 |send s=>trivial
 |exit d=>trivial
 |stay _=>exact h.elim
 |rest k=>trivial
 |iff s p q a1 a2=>
  obtain⟨n1,n2,n3⟩:=nodup_append.mp nd;have i1:=a1 h.1 n1 v.1;have i2:=a2 h.2 n2 v.2.1
  have A:∀L:List _,(∀x∈L,x∈rsL p)->Vd p _->Vd (.iff s p q) _:=λL hL vL=>by
   have no:=λx hx z=>n3 x (hL x z) x hx rfl
   exact⟨vL,Ip no,λz=>Oc no z.2⟩
  have B:∀L:List _,(∀x∈L,x∈rsL q)->Vd q _->Vd (.iff s p q) _:=λL hL vL=>by
   have no:=λx hx z=>n3 x hx x (hL x z) rfl
   exact⟨Ip no,vL,λz=>Oc no z.1⟩
  rw[Qt h.1 h.2]
  by_cases c1:A1 p st
  .rw[if_pos c1];exact A _ (λx hx=>C8 h.1 hx) i1
  .rw[if_neg c1]
   by_cases c2:A1 q st
   .rw[if_pos c2];exact B _ (λx hx=>C8 h.2 hx) i2
   .rw[if_neg c2]
    rw[Cu h.1 c1]at i1;rw[Cu h.2 c2]at i2;simp[beg];split
    .exact A _ (λx hx=>C8 (st:=none) h.1 hx) i1
    .exact B _ (λx hx=>C8 (st:=none) h.2 hx) i2
 |thn p q a1 a2=>
  obtain⟨n1,n2,n3⟩:=nodup_append.mp nd;have i1:=a1 h.1 n1 v.1;have i2:=a2 h.2 n2 v.2;have A:∀L:List _,(∀x∈L,x∈rsL p)->Vd p _->Vd (.thn p q) _:=λL hL vL=>⟨vL,Ip λx hx z=>n3 x (hL x z) x hx rfl⟩
  have B:∀L:List _,(∀x∈L,x∈rsL q)->Vd q _->Vd (.thn p q) _:=λL hL vL=>⟨Ip λx hx z=>n3 x hx x (hL x z) rfl,vL⟩
  by_cases c:A1 q st
  .rw[Og h.2 c];exact B _ (λx hx=>C8 h.2 hx) i2
  .rw[Op h.2 c]
   rw[Cu h.2 c]at i2;simp[beg];split
   .exact B _ (λx hx=>C8 (st:=none) h.2 hx) i2
   .exact A _ (λx hx=>C8 h.1 hx) i1
 |bes p q a1 a2=>
  obtain⟨n1,n2,n3⟩:=nodup_append.mp nd;have i1:=a1 h.1 n1 v.1;have i2:=a2 h.2 n2 v.2;have A:∀L:List _,(∀x∈L,x∈rsL p)->Vd p _->Vd (.bes p q) _:=λL hL vL=>⟨vL,Ip λx hx z=>n3 x (hL x z) x hx rfl⟩
  have B:∀L:List _,(∀x∈L,x∈rsL q)->Vd q _->Vd (.bes p q) _:=λL hL vL=>⟨Ip λx hx z=>n3 x hx x (hL x z) rfl,vL⟩
  rw[Q2 h.1 h.2]
  by_cases c:(A1 p st↔A1 q st)
  .rw[if_pos c]
   show Vd _ (some (if _=1 then(beg _ _).2.2++(beg _ _).2.2 else []))
   generalize (if (beg _ _).1>(beg _ _).1 then(beg _ _).1 else(beg _ _).1)=c0;split
   .refine⟨Qi (λx hx=>?_) i1,Qi (λx hx=>?_) i2⟩
    .rw[vY]
     exact⟨.inl,λz=>z.elim id λz=>absurd rfl (n3 x hx x (C8 h.2 z))⟩
    .rw[vY]
     exact⟨.inr,λz=>z.elim (λz=>absurd rfl (n3 x (C8 h.1 z) x hx)) id⟩
   .exact⟨Ip λ_ _ z=>(by cases z),Ip λ_ _ z=>(by cases z)⟩
  .rw[if_neg c]
   by_cases c1:A1 p st
   .rw[if_pos c1];exact A _ (λx hx=>C8 h.1 hx) i1
   .rw[if_neg c1];exact B _ (λx hx=>C8 h.2 hx) i2
 |again k p ih=>
  have a3:=zS.mp nd;have i:=ih h a3.2 v.1;have o:okE p:=h;rw[Mx o v.2];show Vd _ (some (if (beg th (pb p st)).1=0 then [k] else(beg th (pb p st)).2.2));split
  .have no:∀x∈rsL p,¬x∈[k]:=λx hx z=>by simp_all
   exact⟨Ip no,λl e _=>by exact Oc no⟩
  .exact⟨i,λl e hk=>by cases e;exact absurd (C8 o hk) a3.1⟩
 |hold s p ih=>
  have i:=ih h nd v
  by_cases c:A1 p st
  .cases st with
   |none=>cases c
   |some l=>
    rw[((He (show okE p from h)).2 l rfl c).1];simp only[beg];split
    .show Vd p (some ((rsL p).filter λk=>decide (k∈l)))
     refine Qi (λx hx=>?_) v;rw[mem_filter];exact⟨λz=>⟨hx,by simpa using z⟩,λz=>by simp_all⟩
    .exact i
  .rw[((He (show okE p from h)).1 c).1];exact i
 |watch s p ih=>
  have i:=ih h nd v
  by_cases c:A1 p st
  .cases st with
   |none=>cases c
   |some l=>
    rw[((He (show okE p from h)).2 l rfl c).2];simp only[beg];split
    .exact Ip (p:=p) λ_ _ z=>(by cases z)
    .exact i
  .rwa[((He (show okE p from h)).1 c).2]
 |trap p ih=>
  rw[Oo];exact ih h nd v
end My
namespace Dsk
open PySem L2 My
def Be(h:okN n p):okE p:=by
 induction p with
 |exit d=>exact h.1
 |stay _=>exact h
 |iff s p q i1 i2=>exact⟨i1 h.2.1,i2 h.2.2⟩
 |thn p q i1 i2=>exact⟨i1 h.1,i2 h.2⟩
 |bes p q i1 i2=>exact⟨i1 h.1,i2 h.2⟩
 |again k p i=>exact i h
 |hold s p i=>exact i h.2
 |watch s p i=>exact i h.2
 |trap p i=>exact i h
 |_=>trivial
def K0(h:okN n p):okW n p:=by
 induction p with
 |send s=>exact h
 |exit d=>exact h
 |stay _=>exact trivial
 |iff s p q i1 i2=>exact⟨h.1,i1 h.2.1,i2 h.2.2⟩
 |thn p q i1 i2=>exact⟨i1 h.1,i2 h.2⟩
 |bes p q i1 i2=>exact⟨i1 h.1,i2 h.2⟩
 |again k p i=>exact i h
 |hold s p i=>exact⟨h.1,i h.2⟩
 |watch s p i=>exact⟨h.1,i h.2⟩
 |trap p i=>exact i h
 |_=>trivial
def Co(O:Vn)(p:Pt):rsB O p=A1 p O.st:=by
 cases e:O.st with
 |none=>
  induction p<;>simp_all[rsB,A1,Vn.m]
 |some l=>
  induction p<;>simp_all[rsB,A1,Vn.m,rsL]
def wv(w:Wk)(c:Int):Option Bool:=if c∈w.1 then(if w.2.1=true then some true else none) else some false
def wD(w:Wk)(i:Int):Option Bool:=if i∈w.2.2.1 then some true else if i∈w.2.2.2 then none else some false
def wK(kn:List (Option Bool)):Option Bool->Pt->Wk
 |some false,_=>([],false,[],[])
 |some true,q=>wbeg kn true q
 |none,q=>wbeg kn false q
def Er(a:Option Bool):an3 a (some false)=false:=by rcases a with _|_|_<;>rfl
def L5{w:Wk}(h:∀c∈w.1,0<=c/\c<=5)(P:Int->Bool):A7 P (wv w)=if ∃c∈w.1,P c then(if w.2.1 then some true else none) else some false:=by
 unfold A7;rw[Nj]
 have a1:∀v:Option _,v≠some _->(v∈((List.range 6).filter λ(i:Nat)=>P i).map (λ(i:Nat)=>wv w i)↔(∃c∈w.1,P c)/\v=if w.2.1 then some _ else none):=λv nv=>by
  constructor
  .intro hv
   obtain⟨i,hi,rfl⟩:=zU.mp hv;have hP:=(mem_filter.mp hi).2;unfold wv at nv ⊢
   by_cases c:(i:Int)∈w.1
   .rw[if_pos c];exact⟨⟨_,c,hP⟩,Z⟩
   rw[if_neg c]at nv;exact absurd rfl nv
  rintro⟨⟨c,hc,hP⟩,rfl⟩
  have b:=h c hc;have en:=uO b.1;exact zU.mpr ⟨c.toNat,mem_filter.mpr ⟨mem_range.mpr (by omega),by rw[en];exact hP⟩,by rw[en];unfold wv;rw[if_pos hc]⟩
 simp[a1 (some true) (by simp),a1 none (by simp)]
 by_cases c:∃c∈w.1,P c
 .rw[if_pos c]
  by_cases z:w.2.1
  .simp[z,c]
  simp[z,c]
 rw[if_neg c]
 simp[c]
def Cv{w:Wk}(h:∀c∈w.1,0<=c/\c<=5)(c:Int):A7 (isC c) (wv w)=wv w c:=by
 rw[L5 h];simp[wv,isC,vK]
def Up(a b:Wk)(l:List Int)(s:Bool)(i:Int):wD (l,s,a.2.2.1++b.2.2.1,a.2.2.2++b.2.2.2) i=or3 (wD a i) (wD b i):=by
 unfold wD
 by_cases h1:i∈a.2.2.1<;>by_cases h2:i∈b.2.2.1<;>by_cases h3:i∈a.2.2.2<;>by_cases z:i∈b.2.2.2<;>simp[h1,h2,h3,z,or3]
def Pk{a:List Int}(ha:0<a.length)(hb:0<b.length):c∈(nub (a++b)).filter (λc=>decide (mx (Bi a) (Bi b)<=c))↔(c∈a\/c∈b)/\(∃d∈a,decide (d<=c))/\∃d∈b,decide (d<=c):=by
 have lo:∀{l:List _},0<l.length->(Bi l<=c↔∃d∈l,decide (d<=c)):=λ{l}h=>⟨λz=>⟨_,(Fp h).1,vK z⟩,λ⟨d,hd,z⟩=>Int.le_trans ((Fp h).2 d hd) (vN z)⟩
 rw[mem_filter,A8,vY,decide_eq_true_iff,<-lo ha,<-lo hb];constructor
 .exact λ⟨x,y⟩=>⟨x,Int.le_trans (Ab0 _ _) y,Int.le_trans (AcH _ _) y⟩
 exact λ⟨x,y,z⟩=>⟨x,by rcases (Adm _ _) with e|e<;>rw[e]<;>assumption⟩
def Rh{a:Wk}(ha:Cw a.1)(z:Cw b.1)(c:Int):gtC (wv a) (wv b) c=wv (F1 a b) c:=by
 have bd:∀{l:List _},Cw l->∀c∈l,0<=c/\c<=5:=λh c hc=>by have:=h.bd c hc;omega
 unfold gtC;rw[L5 (bd ha),L5 (bd z)];unfold wv F1;simp only[(Pk ha.ne z.ne (c:=c))]
 by_cases h1:c∈a.1<;>by_cases h2:c∈b.1<;>by_cases h3:(∃d∈a.1,decide (d<=c))<;>by_cases h4:(∃d∈b.1,decide (d<=c))<;>cases h5:a.2.1<;>cases h6:b.2.1<;>simp only[h1,h2,h3,h4,↓reduceIte,or_true,true_or,or_self,and_false,false_and,and_self,Bool.false_eq_true]<;>rfl
def Ud{a:Wk}(ha:Cw a.1)(hs:a.2.1->s=true)(c:Int):wv (F1 a ([0],s,[],[])) c=wv a c/\wv (F1 ([0],s,[],[]) a) c=wv a c:=by
 have z1:0<([0]:List Int).length:=by decide
 have a1:((c∈a.1\/c∈[0])/\(∃d∈a.1,decide (d<=c))/\∃d∈[0],decide (d<=c))↔c∈a.1:=by
  constructor
  .rintro⟨h1,⟨d,hd,z⟩,_⟩
   rcases h1 with h1|h1
   .exact h1
   have e:=mS h1
   have:=ha.bd d hd;have z:=vN z;have:d=c:=by omega
   exact this▸hd
  exact λh=>⟨.inl h,⟨c,h,vK (Int.le_refl _)⟩,0,zG.mpr rfl,vK (ha.bd c h).1⟩
 unfold wv F1;constructor
 .simp only[(Pk ha.ne z1 (c:=c)),a1]
  cases e:a.2.1 with
  |false=>simp
  |true=>simp[hs e]
 simp only[(Pk z1 ha.ne (c:=c)),or_comm,and_comm (a:=∃d∈[0],decide (d<=c)),a1]
 cases e:a.2.1 with
 |false=>simp
 |true=>simp[hs e]
def Jf(h:okW n q)(r:Option Bool):∀c∈(wK kn r q).1,0<=c/\c<=5:=λc hc=>by
 have b:∀s,c∈(wbeg _ s q).1->0<=c/\c<=5:=λs z=>by have:=(Jp kn h s).bd c z;omega
 rcases r with _|_|_
 .exact b _ hc
 .cases hc
 exact b _ hc
def Y3{w:Wk}(h:∀c∈w.1,0<=c/\c<=5)(f:Int->Int)(c:Int):A7 (λi=>isC c (f i)) (wv w)=wv (Lk f w) c:=by
 rw[L5 h];unfold wv Lk isC
 have:(∃d∈w.1,decide (f d=c))↔c∈nub (w.1.map f):=by
  rw[A8];simp
 simp only[this]
def Af0(c:Int):wv ([],false,[],[]) c=false:=rfl
def AfN(i:Int):wD ([],false,[],[]) i=false:=rfl
def Ot(st:Option (List Int))(h:∀l,(rem l p).2=p):pb p st=p:=by
 cases st with
 |none=>rfl
 |some l=>exact h l
def SW(O:Vn)(kn:List (Option Bool))(p:Pt):Prop:=∀r,(sem O p r).1=wv (wK kn r (pb p O.st))/\∀i:Nat,(sem O p r).2 i=wD (wK kn r (pb p O.st)) i
def SW.off(h:SW O kn p):(sem O p (some false)).1=(λ_=>some false)/\∀i,(sem O p (some false)).2 i=false:=⟨(h _).1.trans (funext Af0),λi=>((h _).2 i).trans (AfN _)⟩
def Ho(P:Int->Bool):A7 P (λ_=>some false)=false:=by
 unfold A7;rw[Nj,if_neg (by simp),if_neg (by simp)]
def Act{a:Wk}(bd:∀c∈a.1,0<=c/\c<=5)(h0:0∈a.1)(hs:b.2.1->a.2.1)(h1:a.2.1->∃c,a.1=[c])(c:Int):or3 (A7 (λi=>!decide (i=0)&&isC c i) (wv a)) (wv b c)=wv (Ik a b) c:=by
 have m:c∈nub (a.1.filter (λc=>!decide (c=0))++b.1)↔(∃d∈a.1,(!decide (d=0)&&isC c d))\/c∈b.1:=by
  rw[A8,vY,mem_filter];refine or_congr_left ⟨λ⟨x,y⟩=>⟨c,x,by simp[y,isC]⟩,λ⟨d,x,y⟩=>?_⟩;simp[isC]at y;rw[<-y.2];exact⟨x,by simp[y.1]⟩
 rw[L5 bd];unfold wv Ik;simp only[m];cases e:a.2.1 with
 |true=>
  obtain⟨d,_⟩:=h1 e
  have no:¬ ∃d∈a.1,(!decide (d=0)&&isC c d):=by
   rintro⟨x,_,_⟩;simp_all
  simp only[no,false_or];rfl
 |false=>
  have eb:b.2.1=false:=by simp_all
  by_cases x:(∃d∈a.1,(!decide (d=0)&&isC c d))<;>by_cases y:c∈b.1<;>simp only[x,y,eb,or_true,or_false,Bool.false_eq_true]<;>rfl
def Yp{a:Wk}(ea:a.2.1=false)(z:b.2.1=false)(c:Int):or3 (wv a c) (wv b c)=wv (Je a b) c:=by
 have m:c∈nub (a.1++b.1)↔c∈a.1\/c∈b.1:=by rw[A8,vY]
 unfold wv Je;simp[m,ea,z]
 by_cases x:c∈a.1<;>by_cases y:c∈b.1<;>simp[x,y,or_self]<;>rfl
def Adi{a:Wk}(ea:a.2.2.1=[])(z:b.2.2.1=[])(i:Int):or3 (wD a i) (wD b i)=wD (Je a b) i:=by
 have:=Up a b (nub (a.1++b.1)) false i;rw[ea,z]at this;exact this.symm
def X5(hk:∀x:Int,0<=x->x<n->O.v x=(kn[x.toNat]?).getD none){f:Pt}{x k:Int}{g:List Int->Pt}(ox:0<=x/\x<n)(oe:okE p)(ob:okW n (pb p O.st))(I1:SW O kn p)
  (es:∀r,sem O f r=(λc=>or3 (A7 (isC c) (sem O p (an3 r (or3 (nt3 (some (rsB O p))) (nt3 (O.v x))))).1) (one k (an3 r (an3 (some (rsB O p)) (O.v x))) c),(sem O p (an3 r (or3 (nt3 (some (rsB O p))) (nt3 (O.v x))))).2)) (er:rsB O f=rsB O p)
  (ef:∀s,wbeg kn s f=wbeg kn s p) (h1:¬A1 p O.st=true->pb f O.st=f) (h2:∀l,O.st=some l->A1 p O.st=true->∃l',pb f O.st=.iff x (g l') (pb p O.st)) (eg:∀l s,wbeg kn s (g l)=([k],s,[],[])):SW O kn f:=by
 intro r;rw[es];have e1:=Co O p;have bd:=λr=>Jf (kn:=kn) ob r
 cases g1:A1 p _ with
 |false=>
  rw[g1]at e1;have a3:¬A1 p O.st=true:=by rw[g1];exact qc
  rw[h1 a3,e1];obtain⟨a,b⟩:=I1 r;have e0:∀u,an3 r (or3 (nt3 (some false)) u)=r:=λu=>Bt r
  have a4:∀u,one k (an3 r (an3 _ u))=λ_=>some _:=λu=>by
   rw[show an3 (some false) u=false from rfl,Er];exact funext λc=>ite_self _
  rw[e0,a4];have e:wK kn r f=wK kn r (pb p O.st):=by rw[(Cu oe a3)];rcases r with _|_|_<;>first|rfl|exact ef _
  rw[e];refine⟨funext λc=>?_,b⟩;show or3 _ _=_;rw[Bc,a,Cv (bd r)]
 |true=>
  rw[g1]at e1
  obtain⟨l,el⟩:∃l,O.st=some l:=by
   cases z:O.st with
   |none=>rw[z]at g1;cases g1
   |some l=>exact⟨l,rfl⟩
  obtain⟨l',eh⟩:=h2 l el g1;rw[eh,e1,hk x ox.1 ox.2]
  have ew:∀s,wbeg _ s (.iff x _ _)=match (kn[x.toNat]?).getD none with
   |none=>Je _ _
   |some true=>wbeg _ s (g l')
   |some false=>wbeg _ s (pb p O.st):=λs=>rfl
  have a1:∀s c,one k (if s=true then some true else none) c=wv ([k],s,[],[]) c:=λs c=>by unfold one wv;simp
  cases hx:(kn[x.toNat]?).getD none with
  |none=>
   rw[hx]at ew;obtain⟨n2,m2⟩:=Lx _ _
   have a2:(λc=>or3 (A7 (isC c) (sem O p none).1) (one k none c))=wv (Je ([k],false,[],[]) (wbeg kn false (pb p O.st)))/\∀i:Nat,(sem O p none).2 i=wD (Je ([k],false,[],[]) (wbeg kn false (pb p O.st))) i:=by
    obtain⟨a,b⟩:=I1 _;refine⟨funext λc=>?_,λi=>?_⟩
    .rw[a,Cv (bd _),or3_c,show one k none c=wv _ c from a1 false c]
     exact Yp rfl n2 c
    rw[b,<-Adi rfl m2]
    rfl
   rcases r with _|_|_
   .show _=wv (wbeg _ _ _)/\∀i:Nat,_=wD (wbeg _ _ _) i
    rw[ew,eg];exact a2
   .obtain⟨f1,f2⟩:=I1.off
    refine⟨funext λc=>?_,f2⟩;show or3 (A7 _ (sem O p (some _)).1) (one k (some _) c)=false;rw[f1,Ho,show one k _ c=false from ite_self _];rfl
   show _=wv (wbeg _ _ _)/\∀i:Nat,_=wD (wbeg _ _ _) i
   rw[ew,eg];exact a2
  |some y=>
   rw[hx]at ew;cases y with
   |true=>
    show(λc=>or3 (A7 _ (sem O p (an3 r (some false))).1) _)=_/\∀i:Nat,(sem O p (an3 r (some false))).2 i=_
    obtain⟨f1,f2⟩:=I1.off;rw[Er,f1];have e:wK kn r (.iff x (g l') (pb p O.st))=wK kn r (g l'):=by rcases r with _|_|_<;>first|rfl|exact ew _
    rw[e];refine⟨funext λc=>?_,λi=>?_⟩
    .rw[Ho]
     rcases r with _|_|_
     .show or3 _ _=wv (wbeg _ _ _) c;rw[eg];exact a1 false c
     .exact(ite_self _)
     show or3 _ _=wv (wbeg _ _ _) c;rw[eg];exact a1 true c
    rw[f2]
    rcases r with _|_|_
    .show _=wD (wbeg _ _ _) i;rw[eg];rfl
    .rfl
    show _=wD (wbeg _ _ _) i;rw[eg];rfl
   |false=>
    show(λc=>or3 (A7 _ (sem O p (an3 r (some true))).1) (one k (an3 r (some _)) c))=_/\∀i:Nat,(sem O p (an3 r (some true))).2 i=_
    rw[Er,Bt];obtain⟨a,b⟩:=I1 r;have e:wK kn r (.iff x (g l') (pb p O.st))=wK kn r (pb p O.st):=by rcases r with _|_|_<;>first|rfl|exact ew _
    rw[e];refine⟨funext λc=>?_,b⟩;rw[show one k _ c=false from ite_self _,Bc,a,Cv (bd r)]
def Vu{O:Vn}{kn:List (Option Bool)}(hk:∀x:Int,0<=x->x<n->O.v x=(kn[x.toNat]?).getD none)(ok:okN n p)(vd:Vd p O.st):SW O kn p:=by
 have a4:∀{q:Pt},okN n q->okW n (pb q O.st):=λ{q}h=>by
  cases O.st with
  |none=>exact K0 h
  |some l=>exact Yr l (K0 h)
 have lf:∀{q:Pt}{k:Int},(∀s,wbeg kn s q=([k],s,[],[]))->∀r,one k r=wv (wK kn r q)/\∀i:Nat,some false=wD (wK kn r q) i:=λ{q k}e r=>by
  exact⟨funext λc=>(by rcases r with _|_|_<;>simp[one,wv,wK,e]),λi=>(by rcases r with _|_|_<;>simp[wD,wK,e])⟩
 induction p with
 |nothing=>intro r;rw[Ot _ λ_=>rfl];exact lf (λ_=>rfl) r
 |send x=>
  intro r;rw[Ot _ λ_=>rfl];exact⟨funext λc=>(by rcases r with _|_|_<;>simp[sem,one,wv,wK,wbeg]),λi=>(by rcases r with _|_|_<;>simp[sem,one,wD,wK,wbeg]<;>split<;>simp_all)⟩
 |exit d=>intro r;rw[Ot _ λ_=>rfl];exact lf (λ_=>rfl) r
 |stay _=>cases ok
 |rest k=>
  intro r
  have a0:∀c,Rq O k r c=if O.m k=true then one 0 r c else one 1 r c:=λc=>by
   unfold Rq one;cases O.m k
   .show or3 (if c=0 then an3 r (some false) else some false) (if c=1 then an3 r (some true) else some false)=if c=1 then r else some false
    rw[Er,Bt,ite_self];rfl
   .show or3 (if c=0 then an3 r (some true) else some false) (if c=1 then an3 r (some false) else some false)=if c=0 then r else some false
    rw[Er,Bt,ite_self,Bc]
  have e:pb (.rest k) O.st=if O.m k=true then .nothing else .rest k:=by
   unfold Vn.m;cases O.st with
   |none=>rfl
   |some l=>by_cases h:k∈l<;>simp[pb,rem,h]
  rw[e];cases hm:O.m k with
  |true=>
   obtain⟨x,y⟩:=lf (q:=.nothing) (k:=0) (λ_=>rfl) r;exact⟨(funext λc=>(a0 c).trans (by rw[hm];rfl)).trans x,y⟩
  |false=>
   obtain⟨x,y⟩:=lf (q:=.rest k) (k:=1) (λ_=>rfl) r;exact⟨(funext λc=>(a0 c).trans (by rw[hm];rfl)).trans x,y⟩
 |thn p q i1 i2=>
  have I1:=i1 ok.1 vd.1;have I2:=i2 ok.2 vd.2;intro r;have eq:=Co O q;cases g:A1 q O.st with
  |true=>
   rw[g]at eq;rw[Og (Be ok.2) g];obtain⟨f1,f2⟩:=I1.off;obtain⟨x,y⟩:=I2 r;simp only[sem,eq,nt3,Option.map_some,Bool.not_true,Er,Bt,f1,f2,Bc,Ho];refine⟨funext λc=>?_,λi=>y i⟩;show A7 (isC c) _=_;rw[x,Cv (Jf (a4 ok.2) r)]
  |false=>
   rw[g]at eq;have g':¬A1 q O.st=true:=by rw[g];exact qc
   rw[Op (Be ok.2) g'];obtain⟨x,y⟩:=I1 r;have eb:=Cu (Be ok.2) g';simp only[sem,eq,nt3,Option.map_some,Bool.not_false,Er,Bt];obtain⟨x',y'⟩:=I2 ((sem O p r).1 0);rw[eb]at x' y';have e0:or3 (some false) ((sem O p r).1 0)=(sem O p r).1 0:=rfl;simp only[e0,x',y',y];rw[x];have b1:=Jf (kn:=kn) (a4 ok.1) r;have b2:=Jf (kn:=kn) (K0 ok.2) (wv (wK kn r (pb p O.st)) 0);simp only[Cv b2]
   have a3:∀s:Bool,r=(if s=true then some true else none)->(λc=>or3 (A7 (λi=>!decide (i=0)&&isC c i) (wv (wK kn r (pb p O.st)))) (wv (wK kn (wv (wK kn r (pb p O.st)) 0) q) c))=wv (wK kn r (.thn (pb p O.st) q))/\∀i:Nat,or3 (wD (wK kn r (pb p O.st)) i) (wD (wK kn (wv (wK kn r (pb p O.st)) 0) q) i)=wD (wK kn r (.thn (pb p O.st) q)) i:=λs hr=>by
    have ew:∀q',wK kn r q'=wbeg kn s q':=λq'=>by rw[hr];cases s<;>rfl
    rw[ew,ew];rw[ew]at b1
    by_cases c0:0∈(wbeg kn s (pb p O.st)).1
    .have ev:wK kn (wv (wbeg kn s (pb p O.st)) 0) q=wbeg kn (wbeg kn s (pb p O.st)).2.1 q:=by
      unfold wv;rw[if_pos c0];cases (wbeg kn s (pb p O.st)).2.1<;>rfl
     rw[ev];have et:wbeg kn s (.thn (pb p O.st) q)=Ik (wbeg kn s (pb p O.st)) (wbeg kn (wbeg kn s (pb p O.st)).2.1 q):=if_pos c0;rw[et];exact⟨funext λc=>Act b1 c0 (λz=>Om z) (Vt kn (a4 ok.1) s) c,λi=>(Up _ _ _ _ _).symm⟩
    .have ev:wv (wbeg kn s (pb p O.st)) 0=false:=if_neg c0
     have et:wbeg kn s (.thn (pb p O.st) q)=wbeg kn s (pb p O.st):=if_neg c0;rw[ev,et];refine⟨funext λc=>?_,λi=>Bc _⟩;show or3 _ (some false)=_;rw[Bc,L5 b1];unfold wv
     by_cases hc:c∈(wbeg kn s (pb p O.st)).1
     .rw[if_pos hc,if_pos ⟨c,hc,by simp[isC];exact λz=>c0 (z▸hc)⟩]
     .rw[if_neg hc,if_neg]
      rintro⟨d,hd,hy⟩;simp[isC]at hy;simp_all
   rcases r with _|_|_
   .exact a3 false rfl
   .refine⟨funext λc=>?_,λi=>rfl⟩
    show or3 (A7 _ (wv ([],false,[],[]))) (some false)=false
    rw[Bc,show wv ([],false,[],[])=λ_=>some false from rfl,Ho]
   .exact a3 true rfl
 |iff x p q i1 i2=>
  obtain⟨ox,o1,o2⟩:=ok;obtain⟨v1,v2,v3⟩:=vd;have I1:=i1 o1 v1;have I2:=i2 o2 v2;intro r;rw[Qt (Be o1) (Be o2)];have e1:=Co O p;have e2:=Co O q;have b1:=λr=>Jf (kn:=kn) (a4 o1) r
  have b2:=λr=>Jf (kn:=kn) (a4 o2) r
  cases g1:A1 p O.st with
  |true=>
   have g2:A1 q O.st=false:=by simp_all
   rw[g1]at e1;rw[g2]at e2;rw[if_pos rfl];obtain⟨f1,f2⟩:=I2.off;obtain⟨a,b⟩:=I1 r;have z1:or3 (an3 r (some true)) (an3 (an3 r (some false)) (O.v x))=r:=by rw[Er,Bt];exact Bc r
   have z2:or3 (an3 r (some false)) (an3 (an3 r (some false)) (nt3 (O.v x)))=false:=by rw[Er];rfl
   refine⟨funext λc=>?_,λi=>?_⟩
   .simp only[sem,e1,e2]
    show or3 (A7 (isC c) (sem O p (or3 (an3 r (some true)) (an3 (an3 r (some false)) (O.v x)))).1) (A7 (isC c) (sem O q (or3 (an3 r (some false)) (an3 (an3 r (some false)) (nt3 (O.v x))))).1)=_
    rw[z1,z2,f1,Ho,Bc,a,Cv (b1 r)]
   .simp only[sem,e1,e2]
    show or3 ((sem O p (or3 (an3 r (some true)) (an3 (an3 r (some false)) (O.v x)))).2 i) ((sem O q (or3 (an3 r (some false)) (an3 (an3 r (some false)) (nt3 (O.v x))))).2 i)=_
    rw[z1,z2,f2,Bc,b]
  |false=>
   rw[g1]at e1;rw[if_neg qc];cases g2:A1 q O.st with
   |true=>
    rw[g2]at e2;rw[if_pos rfl];obtain⟨f1,f2⟩:=I1.off;obtain⟨a,b⟩:=I2 r;have z1:or3 (an3 r (some false)) (an3 (an3 r (some false)) (O.v x))=false:=by rw[Er];rfl
    have z2:or3 (an3 r (some true)) (an3 (an3 r (some false)) (nt3 (O.v x)))=r:=by rw[Er,Bt];exact Bc r
    refine⟨funext λc=>?_,λi=>?_⟩
    .simp only[sem,e1,e2]
     show or3 (A7 (isC c) (sem O p (or3 (an3 r (some false)) (an3 (an3 r (some false)) (O.v x)))).1) (A7 (isC c) (sem O q (or3 (an3 r (some true)) (an3 (an3 r (some false)) (nt3 (O.v x))))).1)=_
     rw[z1,z2,f1,Ho,a,Cv (b2 r)];rfl
    .simp only[sem,e1,e2]
     show or3 ((sem O p (or3 (an3 r (some false)) (an3 (an3 r (some false)) (O.v x)))).2 i) ((sem O q (or3 (an3 r (some true)) (an3 (an3 r (some false)) (nt3 (O.v x))))).2 i)=_
     rw[z1,z2,f2,b];rfl
   |false=>
    rw[g2]at e2;rw[if_neg qc];have p1:=Cu (Be o1) (by rw[g1];exact qc);have p2:=Cu (Be o2) (by rw[g2];exact qc);unfold SW at I1 I2;rw[p1]at I1 b1;rw[p2]at I2 b2;have z1:∀u,or3 (an3 r (some false)) (an3 (an3 r (some true)) u)=an3 r u:=λu=>by rw[Er,Bt];rfl
    have es:sem O (.iff x p q) r=(λc=>or3 (A7 (isC c) (sem O p (an3 r (O.v x))).1) (A7 (isC c) (sem O q (an3 r (nt3 (O.v x)))).1),λi=>or3 ((sem O p (an3 r (O.v x))).2 i) ((sem O q (an3 r (nt3 (O.v x)))).2 i)):=by
     simp only[sem,e1,e2];show(λc=>or3 (A7 (isC c) (sem O p (or3 (an3 r (some false)) (an3 (an3 r (some true)) (O.v x)))).1) (A7 (isC c) (sem O q (or3 (an3 r (some false)) (an3 (an3 r (some true)) (nt3 (O.v x))))).1),λi=>or3 ((sem O p (or3 (an3 r (some false)) (an3 (an3 r (some true)) (O.v x)))).2 i) ((sem O q (or3 (an3 r (some false)) (an3 (an3 r (some true)) (nt3 (O.v x))))).2 i))=_;rw[z1,z1]
    rw[es];rw[(hk x ox.1 ox.2)]
    have ew:∀s,wbeg kn s (.iff x p q)=match (kn[x.toNat]?).getD none with
     |none=>Je (wbeg kn false p) (wbeg kn false q)
     |some true=>wbeg kn s p
     |some false=>wbeg kn s q:=λs=>rfl
    cases hx:(kn[x.toNat]?).getD none with
    |none=>
     rw[hx]at ew;obtain⟨a1,d1⟩:=I1 none;obtain⟨a2,d2⟩:=I2 none;obtain⟨n1,m1⟩:=Lx kn p;obtain⟨n2,m2⟩:=Lx kn q
     have a3:(λc=>or3 (A7 (isC c) (sem O p none).1) (A7 (isC c) (sem O q none).1))=wv (Je (wbeg kn false p) (wbeg kn false q))/\∀i:Nat,or3 ((sem O p none).2 i) ((sem O q none).2 i)=wD (Je (wbeg kn false p) (wbeg kn false q)) i:=by
      refine⟨funext λc=>?_,λi=>by rw[d1,d2];exact Adi m1 m2 i⟩;rw[a1,a2,Cv (b1 none),Cv (b2 none)];exact Yp n1 n2 c
     have off:(λc=>or3 (A7 (isC c) (sem O p (some false)).1) (A7 (isC c) (sem O q (some false)).1))=wv ([],false,[],[])/\∀i:Nat,or3 ((sem O p (some false)).2 i) ((sem O q (some false)).2 i)=wD ([],false,[],[]) i:=by
      obtain⟨a1,d1⟩:=I1 (some false);obtain⟨a2,d2⟩:=I2 (some false);refine⟨funext λc=>?_,λi=>by rw[d1,d2];rfl⟩;rw[a1,a2,Cv (b1 _),Cv (b2 _)];rfl
     rcases r with _|_|_
     .show _=wv (wbeg kn false _)/\∀i:Nat,_=wD (wbeg kn false _) i
      rw[ew];exact a3
     .exact off
     .show _=wv (wbeg kn true _)/\∀i:Nat,_=wD (wbeg kn true _) i
      rw[ew];exact a3
    |some y=>
     rw[hx]at ew;cases y with
     |true=>
      show(λc=>or3 (A7 (isC c) (sem O p (an3 r (some true))).1) (A7 (isC c) (sem O q (an3 r (some false))).1))=_/\∀i:Nat,or3 ((sem O p (an3 r (some true))).2 i) ((sem O q (an3 r (some false))).2 i)=_
      rw[Bt,Er];obtain⟨a1,d1⟩:=I1 r;obtain⟨a2,d2⟩:=I2 (some false);have e:wK kn r (.iff x p q)=wK kn r p:=by rcases r with _|_|_<;>first|rfl|exact ew _
      rw[e];refine⟨funext λc=>?_,λi=>by rw[d1,d2];exact Bc _⟩;rw[a1,a2,Cv (b1 _),Cv (b2 _)];exact Bc _
     |false=>
      show(λc=>or3 (A7 (isC c) (sem O p (an3 r (some false))).1) (A7 (isC c) (sem O q (an3 r (some true))).1))=_/\∀i:Nat,or3 ((sem O p (an3 r (some false))).2 i) ((sem O q (an3 r (some true))).2 i)=_
      rw[Bt,Er];obtain⟨a1,d1⟩:=I1 (some false);obtain⟨a2,d2⟩:=I2 r;have e:wK kn r (.iff x p q)=wK kn r q:=by rcases r with _|_|_<;>first|rfl|exact ew _
      rw[e];refine⟨funext λc=>?_,λi=>by rw[d1,d2];rfl⟩;rw[a1,a2,Cv (b1 _),Cv (b2 _)];rfl
 |again k p i1=>
  have I1:=i1 ok vd.1;intro r;rw[Mx (p:=p) (Be (n:=n) (p:=p) ok) vd.2];obtain⟨a,b⟩:=I1 r;have bd:=Jf (kn:=kn) (a4 (q:=p) ok) r;have e:wv (wK kn r (.again k (pb p O.st)))=wv (Lk agC (wK kn r (pb p O.st)))/\wD (wK kn r (.again k (pb p O.st)))=wD (wK kn r (pb p O.st)):=by rcases r with _|_|_<;>exact⟨Z,Z⟩
  rw[e.1,e.2];refine⟨funext λc=>?_,b⟩;show A7 (λi=>isC c (agC i)) (sem O p r).1=_;rw[a,Y3 bd]
 |trap p i1=>
  have I1:=i1 ok vd;intro r;rw[Oo];obtain⟨a,b⟩:=I1 r;have e:wv (wK kn r (.trap (pb p O.st)))=wv (Lk Ch (wK kn r (pb p O.st)))/\wD (wK kn r (.trap (pb p O.st)))=wD (wK kn r (pb p O.st)):=by rcases r with _|_|_<;>exact⟨Z,Z⟩
  rw[e.1,e.2];refine⟨funext λc=>?_,b⟩;show A7 (λi=>isC c (Ch i)) (sem O p r).1=_;rw[a,Y3 (Jf (kn:=kn) (a4 (q:=p) ok) r)]
 |bes p q i1 i2=>
  have I1:=i1 ok.1 vd.1;have I2:=i2 ok.2 vd.2;intro r;have e1:=Co O p;have e2:=Co O q;have b1:=λr=>Jf (kn:=kn) (a4 ok.1) r
  have b2:=λr=>Jf (kn:=kn) (a4 ok.2) r
  rw[Q2 (Be ok.1) (Be ok.2)]
  have es:∀a b:Bool,rsB O p=a->rsB O q=b->sem O (.bes p q) r=(gtC (λc=>or3 (A7 (isC c) (sem O p (an3 r (nt3 (an3 (some b) (nt3 (some a)))))).1) (one 0 (an3 r (an3 (some b) (nt3 (some a)))) c)) (λc=>or3 (A7 (isC c) (sem O q (an3 r (nt3 (an3 (some a) (nt3 (some b)))))).1) (one 0 (an3 r (an3 (some a) (nt3 (some b)))) c)),λi=>or3 ((sem O p (an3 r (nt3 (an3 (some b) (nt3 (some a)))))).2 i) ((sem O q (an3 r (nt3 (an3 (some a) (nt3 (some b)))))).2 i)):=λa b ha hb=>by
   simp only[sem,ha,hb]
  have o0:∀c,one 0 (some false) c=false:=λc=>ite_self _
  have a7:∀s,Cw (wbeg kn s (pb p O.st)).1:=λs=>Jp kn (a4 ok.1) s
  have a6:∀s,Cw (wbeg kn s (pb q O.st)).1:=λs=>Jp kn (a4 ok.2) s
  have a5:(gtC (λc=>or3 (A7 (isC c) (sem O p r).1) (some false)) (λc=>or3 (A7 (isC c) (sem O q r).1) (some false)),λi=>or3 ((sem O p r).2 i) ((sem O q r).2 i))=((wv (wK kn r (.bes (pb p O.st) (pb q O.st))),λi=>wD (wK kn r (.bes (pb p O.st) (pb q O.st))) (i:Int)):Sm):=by
   obtain⟨x1,y1⟩:=I1 r;obtain⟨x2,y2⟩:=I2 r;simp only[x1,x2,y1,y2,Cv (b1 r),Cv (b2 r),Bc];have a3:∀s,((gtC (wv (wbeg kn s (pb p O.st))) (wv (wbeg kn s (pb q O.st))),λ(i:Nat)=>or3 (wD (wbeg kn s (pb p O.st)) i) (wD (wbeg kn s (pb q O.st)) i)):Sm)=(wv (wbeg kn s (.bes (pb p O.st) (pb q O.st))),λ(i:Nat)=>wD (wbeg kn s (.bes (pb p O.st) (pb q O.st))) i):=λs=>Prod.ext (funext λc=>Rh (a7 s) (a6 s) c) (funext λi=>(Up _ _ _ _ _).symm)
   rcases r with _|_|_
   .exact a3 false
   .rfl
   .exact a3 true
  cases g1:A1 p O.st<;>cases g2:A1 q O.st<;>rw[g1]at e1<;>rw[g2]at e2<;>rw[es _ _ e1 e2]
  .rw[if_pos (by simp)]
   simp only[nt3,Option.map_some,Bool.not_true,Bool.not_false,Bt,Er,o0];exact⟨congrArg (·.1) a5,λi=>congrFun (congrArg (·.2) a5) i⟩
  .rw[if_neg (by simp),if_neg (by simp)]
   obtain⟨f1,f2⟩:=I1.off;obtain⟨x2,y2⟩:=I2 r;simp only[nt3,Option.map_some,Bool.not_true,Bool.not_false,Bt,Er,o0,f1,f2,Ho,x2,y2,Cv (b2 r),Bc];refine⟨funext λc=>?_,λi=>rfl⟩
   have a3:∀s,gtC (λc=>or3 (some false) (one 0 (if s=true then some true else none) c)) (wv (wbeg kn s (pb q O.st))) c=wv (wbeg kn s (pb q O.st)) c:=λs=>by
    have e:(λc=>or3 (some false) (one 0 (if s=true then some true else none) c))=wv ([0],s,[],[]):=funext λc=>by unfold wv one;simp[or3]
    rw[e,Rh (a:=([0],s,[],[])) ⟨pairwise_singleton _ _,by simp,by simp⟩ (a6 s),(Ud (a6 s) (λz=>Om z) c).2]
   rcases r with _|_|_
   .exact a3 false
   .show gtC (λc=>or3 (some false) (one 0 (some false) c)) (λ_=>some false) c=false
    simp only[o0];rfl
   .exact a3 true
  .rw[if_neg (by simp),if_pos (by simp)]
   obtain⟨f1,f2⟩:=I2.off;obtain⟨x1,y1⟩:=I1 r;simp only[nt3,Option.map_some,Bool.not_true,Bool.not_false,Bt,Er,o0,f1,f2,Ho,x1,y1,Cv (b1 r),Bc];refine⟨funext λc=>?_,λi=>trivial⟩
   have a3:∀s,gtC (wv (wbeg kn s (pb p O.st))) (λc=>or3 (some false) (one 0 (if s=true then some true else none) c)) c=wv (wbeg kn s (pb p O.st)) c:=λs=>by
    have e:(λc=>or3 (some false) (one 0 (if s=true then some true else none) c))=wv ([0],s,[],[]):=funext λc=>by unfold wv one;simp[or3]
    rw[e,Rh (b:=([0],s,[],[])) (a7 s) ⟨pairwise_singleton _ _,by simp,by simp⟩,(Ud (a7 s) (λz=>Om z) c).1]
   rcases r with _|_|_
   .exact a3 false
   .show gtC (λ_=>some false) (λc=>or3 (some false) (one 0 (some false) c)) c=false
    simp only[o0];rfl
   .exact a3 true
  .rw[if_pos (by simp)]
   simp only[nt3,Option.map_some,Bool.not_true,Bool.not_false,Bt,Er,o0];exact⟨congrArg (·.1) a5,λi=>congrFun (congrArg (·.2) a5) i⟩
 |hold x p i1=>exact X5 hk ok.1 (Be ok.2) (a4 ok.2) (i1 ok.2 vd) (k:=1) (g:=.stay) (λr=>rfl) rfl (λs=>rfl) (λh=>(((He (Be ok.2)).1 h).1).trans (by rw[Cu (Be ok.2) h])) (λl e h=>⟨_,((He (Be ok.2)).2 l e h).1⟩) λ_ _=>rfl
 |watch x p i1=>exact X5 hk ok.1 (Be ok.2) (a4 ok.2) (i1 ok.2 vd) (k:=0) (g:=λ_=>.nothing) (λr=>rfl) rfl (λs=>rfl) (λh=>(((He (Be ok.2)).1 h).2).trans (by rw[Cu (Be ok.2) h])) (λl e h=>⟨[],((He (Be ok.2)).2 l e h).2⟩) λ_ _=>rfl
def mV(m:List Int×List Int)(i:Int):Option Bool:=if i∈m.1 then some true else if i∈m.2 then none else some false
def opV(co:List Int)(m:List Int×List Int)(j:Nat):Option Bool:=or3 (some (decide ((j:Int)∈co))) (mV m j)
def Afj{O:Vn}{kn:List (Option Bool)}(hk:∀x:Int,0<=x->x<n->O.v x=(kn[x.toNat]?).getD none)(ok:okN n p)(vd:Vd p O.st)(j:Nat):(sem O p (some (O.st.isNone || rsB O p))).2 j=mV (mcB kn (Es p O.st)) j:=by
 have nb:∀b:Pt,wD (wbeg kn true b) j=mV (mcB kn (some b)) j:=λb=>by
  have e1:∀x,x∈(mcB _ (some b)).1↔x∈(wbeg kn _ b).2.2.1:=λx=>A8
  have e2:∀x,x∈(mcB _ (some b)).2↔x∈(wbeg kn _ b).2.2.2:=λx=>A8
  unfold wD mV;simp_all
 rw[Co,(Vu hk ok vd _).2 j];cases e:O.st with
 |none=>exact nb p
 |some l=>
  have g:=B8 (l:=l) (Be ok);cases z:A1 p _ with
  |true=>
   rw[show Es p (some l)=some _ from if_neg (g.mp z)];exact nb _
  |false=>
   rw[show Es p (some l)=none from if_pos (uM λw=>by simp_all)];rfl
theorem Sq{co:List Int}{o:Option Pt}{kk:List (Option Bool)}(ob:okB n o)(hk:∀i:Nat,i<n->(kk[i]?).getD none=opV co (mcB kk o) i):∀(f:Nat){kn:List (Option Bool)},SI n co o kn->leK kn kk->leK (Kz o f kn) kk
 |0,_,_,h=>h
 |f+1,kn,si,h=>by
  rw[Sd];split
  .exact h
  refine Sq ob hk f (si.next ob) λi b e=>?_
  unfold My.stepK at e;rw[K8]at e;split at e
  .next z=>
   obtain⟨⟨⟨_,b2⟩,hn⟩,c⟩:=Ki.mp z;rw[uI]at hn;have hi:i<n:=by rw[si.len]at b2;omega
   have ml:=Aau h ob;have nc:¬(i:Int)∈co:=λw=>by rw[si.i1 i hi w]at hn;cases hn
   rw[hk i hi];unfold opV mV;rw[vM nc];cases e
   by_cases m:(i:Int)∈(mcB kn o).1
   .rw[if_pos (ml.1 _ m),vK m];rfl
   have c:=c.resolve_left m
   rw[vM m,if_neg,if_neg λw=>c (ml.2 _ w)]
   .rfl
   intro w
   refine c (ml.2 _ ?_);cases o with
   |none=>cases w
   |some q=>exact A8.mpr (AcY _ q _ _ (A8.mp w))
  exact h i b e
def gtsOf(s:Ws):List Gt:=s.gs.map gtOf
def Fb{A B:List Int}{j:Int}{a b c:Option Bool}(h1:j∈A->¬j∈B->a=c)(h2:j∈B->b=c):ov3 (if j∈A then some a else none) (if j∈B then some b else none)=if j∈A++B then some c else none:=by
 by_cases z:j∈B
 .rw[if_pos (vS _ z),h2 z]
  split<;>rfl
 rw[if_neg z,P8]
 by_cases y:j∈A
 .rw[if_pos y,if_pos (zY _ y),h1 y z]
 rw[if_neg y,if_neg λw=>(vY.mp w).elim y z]
section
variable{O:Vn}{th:List Int}
def Kk(hk:∀x:Int,0<=x->x<n->O.v x=some (decide (x∈th))){p:Pt}(ok:okN n p)(vd:Vd p O.st):(∀c,(sem O p (some true)).1 c=some (decide (c=(beg th (pb p O.st)).1)))/\∀c,(sem O p (some false)).1 c=false:=by
 have z:∀x:Int,0<=x->x<n->O.v x=((knF _ n)[x.toNat]?).getD none:=λx h0 h1=>by rw[hk x h0 h1,AcC _ n x h0 h1];rfl
 have S:=Vu z ok vd;refine⟨λc=>?_,λc=>by rw[S.off.1]⟩;rw[(S _).1];show wv (wbeg _ _ _) c=_;rw[AaD (λx h0 h1=>AcC _ n x h0 h1) (N7 (K0 ok) _)];unfold wv
 by_cases h:c=(beg th (pb p O.st)).1<;>simp[h]
def Ee(hk:∀x:Int,0<=x->x<n->O.v x=some (decide (x∈th))){p:Pt}(ok:okN n p)(vd:Vd p O.st):∀(kp:Option Bool)(v:Bool)(j:Int),Bb O p (some false) kp (some v) j=if j∈rsL p then some (some (O.m j&&v)) else none:=by
 have z:∀{a b:Bool},an3 (some a) (some b)=some (a&&b):=λ{a b}=>by cases a<;>cases b<;>rfl
 induction p with
 |rest k=>
  intro kp v j;show(if j=k then some (an3 _ _) else none)=_;rw[z]
  by_cases h:j=k<;>simp[h,rsL]
 |thn p q i1 i2=>
  intro kp v j;show ov3 (Bb O p (some _) _ _ j) (Bb O q ((sem O p (some _)).1 0) _ _ j)=_;rw[(Kk hk ok.1 vd.1).2,i1 ok.1 vd.1,i2 ok.2 vd.2];exact Fb (λ_ _=>rfl) λ_=>rfl
 |iff s p q i1 i2=>
  intro kp v j;show ov3 (Bb O p (some _) _ _ j) (Bb O q (some _) _ _ j)=_;rw[i1 ok.2.1 vd.1,i2 ok.2.2 vd.2.1];exact Fb (λ_ _=>rfl) λ_=>rfl
 |bes p q i1 i2=>
  intro kp v j;show ov3 (Bb O p (some _) _ _ j) (Bb O q (some _) _ _ j)=_;rw[i1 ok.1 vd.1,i2 ok.2 vd.2];exact Fb (λ_ _=>rfl) λ_=>rfl
 |again k p i=>
  intro kp v j;have ok:okN n p:=ok;show ov3 _ _=_;rw[(Kk hk ok vd.1).2,i ok vd.1];show ov3 _ (if j=k then some (an3 _ _) else none)=_;rw[z];have:=Fb (A:=rsL p) (j:=j) (b:=some (O.m k&&v)) (c:=some (O.m j&&v)) (λ_ _=>rfl) λh=>by rw[mS h]
  simp only[zG,vY]at this;rw[this];simp[rsL,or_comm]
 |trap p i=>exact i ok vd
 |hold s p i=>
  intro kp v j;show Bb O p (some _) _ (or3 _ (some _)) j=_;rw[(Bc _)];exact i ok.2 vd _ v j
 |watch s p i=>exact i ok.2 vd
 |stay _=>cases ok
 |_=>exact λ_ _ _=>rfl
def AeE(hk:∀x:Int,0<=x->x<n->O.v x=some (decide (x∈th))){p:Pt}(ok:okN n p)(vd:Vd p O.st)(nd:(rsL p).Nodup):∀(u v:Bool)(j:Int),Bb O p (some true) (some u) (some v) j=if j∈rsL p then some (some ((u&&decide (j∈(beg th (pb p O.st)).2.2)) || (O.m j&&v))) else none:=by
 have nl:∀{p:Pt},okN n p->∀{j},¬j∈rsL p->decide (j∈(beg th (pb p O.st)).2.2)=false:=λok j h=>vM λz=>h (C8 (Be ok) z)
 have n1:∀{p:Pt}{j:Int},¬(beg th p).1=1->decide (j∈(beg th p).2.2)=false:=λh=>vM λz=>by rw[P5 th _ h]at z;cases z
 have dj:∀{A B:List Int},(A++B).Nodup->∀{j},j∈B->¬j∈A:=λnd j hb ha=>(nodup_append.mp nd).2.2 _ ha _ hb rfl
 have uf:∀{u x:Bool},x=((u&&false) || x):=λ{u x}=>by cases u<;>rfl
 induction p with
 |rest k=>
  intro u v j;show(if j=k then some (lvS (some !(O.m k)) (some u) (some (O.m k)) (some v)) else none)=_
  have e:pb (.rest k) O.st=if O.m k=true then .nothing else .rest k:=by
   unfold Vn.m;cases O.st with
   |none=>rfl
   |some l=>by_cases h:k∈l<;>simp[pb,rem,h]
  rw[e]
  by_cases h:j=k
  .subst h
   rw[if_pos rfl,if_pos (show j∈rsL (.rest j) from vH)];cases O.m j<;>cases u<;>cases v<;>simp[lvS,or3,an3,beg]
  .rw[if_neg h,if_neg (show ¬j∈rsL (.rest k) from λz=>h (mS z))]
 |thn p q i1 i2=>
  intro u v j;have a1:=nodup_append.mp nd;have eq:=Co O q;have J1:=i1 ok.1 vd.1 a1.1;have J2:=i2 ok.2 vd.2 a1.2.1;cases g:A1 q O.st with
  |true=>
   rw[g]at eq;rw[Og (Be ok.2) g];simp only[Bb,eq];show ov3 (Bb O p (some false) _ _ j) (Bb O q (some true) _ _ j)=_;rw[Ee hk ok.1 vd.1,J2];exact Fb (λ_ h=>by rw[nl ok.2 h];exact congrArg some uf) λ_=>rfl
  |false=>
   rw[g]at eq;have g':¬A1 q O.st=true:=by rw[g];exact qc
   have eb:=Cu (Be ok.2) g';rw[Op (Be ok.2) g'];simp only[Bb,eq];show ov3 (Bb O p (some true) _ _ j) (Bb O q ((sem O p (some true)).1 0) _ _ j)=_;rw[(Kk hk ok.1 vd.1).1,J1];rw[eb]at J2;have nq:∀{j},¬j∈rsL q->decide (j∈(beg th q).2.2)=false:=λh=>by have:=nl ok.2 h;rwa[eb]at this
   by_cases c0:(beg th (pb p O.st)).1=0
   .rw[vK c0.symm,J2,show beg th (.thn (pb p O.st) q)=Md _ _ from if_pos c0]
    exact Fb (λ_ h=>by rw[n1 (by omega)];show some _=some ((u&&decide (j∈(beg th q).2.2)) || _);rw[nq h]) λ_=>rfl
   .rw[vM (Ne.symm c0),Ee hk ok.2 vd.2,show beg th (.thn (pb p O.st) q)=beg th (pb p O.st) from if_neg c0]
    exact Fb (λ_ _=>rfl) λh=>by rw[nl ok.1 (dj nd h)];exact congrArg some uf
 |iff s p q i1 i2=>
  intro u v j;have a1:=nodup_append.mp nd;have J1:=i1 ok.2.1 vd.1 a1.1;have J2:=i2 ok.2.2 vd.2.1 a1.2.1;have e1:=Co O p;have e2:=Co O q;rw[Qt (Be ok.2.1) (Be ok.2.2)];cases g1:A1 p O.st with
  |true=>
   have g2:A1 q O.st=false:=by cases z:A1 q O.st with|false=>rfl|true=>exact absurd ⟨g1,z⟩ vd.2.2
   rw[g1]at e1;rw[g2]at e2;rw[if_pos rfl];simp only[Bb,e1,e2];show ov3 (Bb O p (some true) _ _ j) (Bb O q (some false) _ _ j)=_;rw[J1,Ee hk ok.2.2 vd.2.1];exact Fb (λ_ _=>rfl) λh=>by rw[nl ok.2.1 (dj nd h)];exact congrArg some uf
  |false=>
   rw[g1]at e1;rw[if_neg qc];cases g2:A1 q O.st with
   |true=>
    rw[g2]at e2;rw[if_pos rfl];simp only[Bb,e1,e2];show ov3 (Bb O p (some false) _ _ j) (Bb O q (some true) _ _ j)=_;rw[Ee hk ok.2.1 vd.1,J2];exact Fb (λ_ h=>by rw[nl ok.2.2 h];exact congrArg some uf) λ_=>rfl
   |false=>
    rw[g2]at e2;rw[if_neg qc];have a4:=λ{j}h=>nl ok.2.1 (j:=j) h
    have a3:=λ{j}h=>nl ok.2.2 (j:=j) h
    rw[(Cu (Be ok.2.1) (by rw[g1];exact qc))]at J1 a4;rw[(Cu (Be ok.2.2) (by rw[g2];exact qc))]at J2 a3;simp only[Bb,e1,e2,hk s ok.1.1 ok.1.2]
    by_cases c:s∈th
    .rw[vK c,show beg th (.iff s p q)=beg th p from if_pos c]
     show ov3 (Bb O p (some true) _ _ j) (Bb O q (some false) _ _ j)=_
     rw[J1,Ee hk ok.2.2 vd.2.1];exact Fb (λ_ _=>rfl) λh=>by rw[a4 (dj nd h)];exact congrArg some uf
    .rw[vM c,show beg th (.iff s p q)=beg th q from if_neg c]
     show ov3 (Bb O p (some false) _ _ j) (Bb O q (some true) _ _ j)=_
     rw[Ee hk ok.2.1 vd.1,J2];exact Fb (λ_ h=>by rw[a3 h];exact congrArg some uf) λ_=>rfl
 |bes p q i1 i2=>
  intro u v j;have a1:=nodup_append.mp nd;have J1:=i1 ok.1 vd.1 a1.1;have J2:=i2 ok.2 vd.2 a1.2.1;have e1:=Co O p;have ka:∀{a:Bool},an3 (some u) (some a)=some (u&&a):=λ{a}=>by cases u<;>cases a<;>rfl
  have c1:∀{p:Pt},(u&&decide (1=(beg th p).1)&&decide (j∈(beg th p).2.2))=(u&&decide (j∈(beg th p).2.2)):=λ{p}=>by
   by_cases c:(beg th p).1=1
   .simp_all
   .rw[n1 c,Bool.and_false,Bool.and_false]
  simp only[Bb];rw[((Kk hk (p:=.bes p q) ok vd).1 1),ka,Q2 (Be ok.1) (Be ok.2),<-e1,<-(Co O q)]
  have a2:ov3 (Bb O p (some true) (some (u&&decide (1=(beg th (.bes (pb p O.st) (pb q O.st))).1))) (some v) j) (Bb O q (some true) (some (u&&decide (1=(beg th (.bes (pb p O.st) (pb q O.st))).1))) (some v) j)=if j∈rsL p++rsL q then some (some ((u&&decide (j∈(beg th (.bes (pb p O.st) (pb q O.st))).2.2)) || (O.m j&&v))) else none:=by
   rw[J1,J2]
   by_cases c:(beg th (.bes (pb p O.st) (pb q O.st))).1=1
   .have el:(beg th (.bes (pb p O.st) (pb q O.st))).2.2=(beg th (pb p O.st)).2.2++(beg th (pb q O.st)).2.2:=if_pos c
    rw[el,vK c.symm,Bool.and_true];have md:∀{a b:List Int},decide (j∈a++b)=(decide (j∈a) || decide (j∈b)):=λ{a b}=>by simp
    exact Fb (λ_ h=>by rw[md,nl ok.2 h,Bool.or_false]) λh=>by rw[md,nl ok.1 (dj nd h),Bool.false_or]
   .have el:=P5 th _ c
    rw[el,vM (Ne.symm c),Bool.and_false];exact Fb (λ_ _=>by simp) λ_=>by simp
  cases rsB O p<;>cases rsB O q
  .rwa[if_pos Iff.rfl]
  .rw[if_neg (by simp),if_neg qc]
   show ov3 (Bb O p (some false) _ _ j) (Bb O q (some true) _ _ j)=_
   rw[Ee hk ok.1 vd.1,J2];exact Fb (λ_ h=>by rw[nl ok.2 h];exact congrArg some uf) λ_=>by rw[c1]
  .rw[if_neg (by simp),if_pos rfl]
   show ov3 (Bb O p (some true) _ _ j) (Bb O q (some false) _ _ j)=_
   rw[J1,Ee hk ok.2 vd.2];exact Fb (λ_ _=>by rw[c1]) λh=>by rw[nl ok.1 (dj nd h)];exact congrArg some uf
  .rwa[if_pos Iff.rfl]
 |again k p i=>
  intro u v j;have ok:okN n p:=ok;have a1:=zS.mp nd;rw[Mx (Be ok) vd.2];show ov3 (Bb O p (some true) _ _ j) (if j=k then some (lvS ((sem O p (some true)).1 0) (some u) (some (O.m k)) (some v)) else none)=if j∈k::rsL p then some (some ((u&&decide (j∈(if (beg th (pb p O.st)).1=0 then [k] else(beg th (pb p O.st)).2.2))) || _)) else none
  rw[(Kk hk ok vd.1).1,i ok vd.1 a1.2];have:=Fb (A:=rsL p) (B:=[k]) (j:=j) (a:=some ((u&&decide (j∈(beg th (pb p O.st)).2.2)) || (O.m j&&v))) (b:=lvS (some (decide (0=(beg th (pb p O.st)).1))) (some u) (some (O.m k)) (some v)) (c:=some ((u&&decide (j∈(if (beg th (pb p O.st)).1=0 then [k] else(beg th (pb p O.st)).2.2))) || (O.m j&&v))) (λ_ h=>?_) λh=>?_
  .simp only[zG,vY]at this
   rw[this];simp only[zM,or_comm]
  .split
   .next c=>rw[n1 (by omega),vM h]
   .rfl
  .rw[mS h]
   by_cases c:(beg th (pb p O.st)).1=0
   .rw[vK c.symm,if_pos c,vK vH]
    cases u<;>cases O.m k<;>cases v<;>rfl
   .rw[vM (Ne.symm c),if_neg c,nl ok a1.1]
    cases u<;>cases O.m k<;>cases v<;>rfl
 |trap p i=>intro u v j;rw[Oo];exact i ok vd nd u v j
 |hold s p i=>
  intro u v j;have e1:=Co O p;obtain⟨h1,h2⟩:=He (s:=s) (p:=p) (st:=O.st) (Be ok.2);cases g:A1 p O.st with
  |false=>
   rw[g]at e1;rw[(h1 (by rw[g];exact qc)).1];simp only[Bb,e1];show Bb O p (some true) _ (or3 (some v) (some false)) j=_;rw[Bc];exact i ok.2 vd nd u v j
  |true=>
   rw[g]at e1
   obtain⟨l,el⟩:∃l,O.st=some l:=by
    cases z:O.st with
    |none=>rw[z]at g;cases g
    |some l=>exact⟨l,rfl⟩
   rw[(h2 l el g).1];simp only[Bb,e1,hk s ok.1.1 ok.1.2]
   by_cases c:s∈th
   .rw[vK c,show ∀a b,beg th (.iff s a b)=beg th a from λa b=>if_pos c]
    have e:or3 (some v) (an3 (an3 (some true) (an3 (some true) (some true))) (some u))=some (v || u):=by cases v<;>cases u<;>rfl
    rw[e];show Bb O p (some false) _ _ j=_;rw[Ee hk ok.2 vd]
    by_cases hj:j∈rsL p
    .have em:O.m j=decide (j∈l):=by unfold Vn.m;rw[el]
     rw[if_pos hj,if_pos (show j∈rsL (.hold s p) from hj),em];show some (some _)=some (some ((u&&decide (j∈(rsL p).filter λk=>decide (k∈l))) || _))
     by_cases z:j∈l
     .rw[vK z,vK (mem_filter.mpr ⟨hj,vK z⟩)]
      cases u<;>cases v<;>rfl
     .rw[vM z,vM (show ¬j∈(rsL p).filter (λk=>decide (k∈l)) from λy=>z (vN (mem_filter.mp y).2))]
      cases u<;>rfl
    .rw[if_neg hj,if_neg (show ¬j∈rsL (.hold s p) from hj)]
   .rw[vM c,show ∀a b,beg th (.iff s a b)=beg th b from λa b=>if_neg c]
    show Bb O p (some true) _ (or3 (some v) (some false)) j=_
    rw[Bc];exact i ok.2 vd nd u v j
 |watch s p i=>
  intro u v j;have e1:=Co O p;obtain⟨h1,h2⟩:=He (s:=s) (p:=p) (st:=O.st) (Be ok.2);cases g:A1 p O.st with
  |false=>
   rw[g]at e1;rw[(h1 (by rw[g];exact qc)).2];simp only[Bb,e1];exact i ok.2 vd nd u v j
  |true=>
   rw[g]at e1
   obtain⟨l,el⟩:∃l,O.st=some l:=by
    cases z:O.st with
    |none=>rw[z]at g;cases g
    |some l=>exact⟨l,rfl⟩
   rw[(h2 l el g).2];simp only[Bb,e1,hk s ok.1.1 ok.1.2]
   by_cases c:s∈th
   .rw[vK c,show ∀a b,beg th (.iff s a b)=beg th a from λa b=>if_pos c]
    show Bb O p (some false) _ _ j=if j∈rsL p then some (some ((u&&decide (j∈[])) || _)) else none
    rw[Ee hk ok.2 vd,vM (λz=>nomatch z),<-uf]
   .rw[vM c,show ∀a b,beg th (.iff s a b)=beg th b from λa b=>if_neg c]
    exact i ok.2 vd nd u v j
 |stay _=>cases ok
 |_=>exact λ_ _ _=>rfl
end
def Wq{p:Pt}(ok:okN n p)(x:Int):x∈rsP p↔x∈rsL p:=by
 induction p with
 |iff s p q i1 i2=>simp[rsP,rsL,i1 ok.2.1,i2 ok.2.2,or_comm]
 |thn p q i1 i2=>simp only[rsP,rsL,vY,i1 ok.1,i2 ok.2,or_comm]
 |bes p q i1 i2=>simp only[rsP,rsL,vY,i1 ok.1,i2 ok.2,or_comm]
 |again k p i=>simp[rsP,rsL,i (ok)]
 |hold s p i=>exact i ok.2
 |watch s p i=>exact i ok.2
 |trap p i=>exact i ok
 |_=>exact Iff.rfl
def Acl{p:Pt}{s:Ws}{lk:Int->Int}{e0 e1:Int}{st:Option (List Int)}{co th:List Int}{k:Kn}(M:Ac5 n p s)(N:Ac6 n p s lk e0 e1)(ok:okN n p)(vd:Vd p st)(nd:(rsL p).Nodup)(d:Der (gtsOf s) st co k)(c:Nr (gtsOf s) st co k)(hs:∀i:Nat,i<n->((Kz (Es p st) (n+1) (Bw n co))[i]?).getD none=some (decide ((i:Int)∈th)))(a5:∀l,st=some l->∀x∈l,x∈rsL p) :
  (∀i,i<s.gs.length->k i≠none)/\k e0.toNat=some (decide ((instD p st th).1=0/\¬st=some []))/\k e1.toNat=some (decide ((instD p st th).1=1))/\∀j∈rsP p,k (lk j).toNat=some (decide (j∈(instD p st th).2.2)):=by
 have a3:∀{i:Nat}{g},s.gs[i]?=some g->(gtsOf s)[i]?=some _:=λh=>by unfold gtsOf;rw[vJ,h];rfl
 have fx:=d.fix c;have a4:∀(i:Nat)g,s.gs[i]?=some g->n<=i->k i=Fy _ _ k _:=λi g h _=>fx i _ (a3 h)
 have a2:∀i:Nat,i<n->(((List.range n).map k)[i]?).getD none=k i:=λi hi=>by rw[vJ,getElem?_range hi];rfl
 have op:∀j,j<n->k j=opV co _ j:=λj hj=>by
  obtain⟨g,e1,e2⟩:=M ⟨st,co,k⟩ a4 j hj;exact(fx j _ (a3 e1)).trans (e2.trans (congrArg _ (Afj (O:=⟨st,co,k⟩) (λx _ _=>(a2 _ (by omega)).symm) ok vd j)))
 have l1:leK (Kz (Es p st) (n+1) (Bw n co)) ((List.range n).map k):=by
  refine Sq (O5 (K0 ok) _) (λi hi=>?_) _ (SI.first n _ _) λi b e=>?_
  .rw[a2 i hi];exact op i hi
  .rw[J8]at e
   split at e
   .next z=>
    cases e
    rw[a2 i z.1,op i z.1];unfold opV;rw[vK z.2];rfl
   .cases e
 have hn:∀i:Nat,i<n->k i=some _:=λi hi=>by rw[<-a2 i hi];exact l1 i _ (hs i hi)
 have hk:∀x:Int,0<=x->x<n->(⟨st,co,k⟩:Vn).v x=some _:=λx h0 _=>by
  have:=hn x.toNat (by omega)
  rwa[uO h0]at this
 obtain⟨f0,f1,f2,f3⟩:=N ⟨st,co,k⟩ a4;have er:Xd ⟨st,co,k⟩ p=some (st.isNone || A1 p st):=congrArg (λb=>some _) (Co ⟨st,co,k⟩ p);rw[er]at f0 f1 f2;obtain⟨C1,C2⟩:=Kk (O:=⟨st,co,k⟩) hk ok vd;refine⟨f3 λj hj=>by show k j≠none;rw[hn j hj];exact k_s,?_⟩;cases z:(st.isNone || A1 p st) with
 |true=>
  have no:¬Hb p st:=by
   cases st with
   |none=>exact id
   |some l=>exact λw=>absurd w ((B8 (Be ok)).mp z)
  have ns:¬st=some []:=λe=>by rw[e]at z;simp[A1]at z
  rw[z]at f0 f1 f2;rw[Ea.2 no];refine⟨f0.trans ((C1 0).trans ?_),f1.trans ((C1 1).trans ?_),λj hj=>uH ((f2 j hj).trans ?_)⟩
  .exact congrArg _ (decide_eq_decide.mpr ⟨λe=>⟨e.symm,ns⟩,λe=>e.1.symm⟩)
  .exact congrArg _ (decide_eq_decide.mpr eq_comm)
  .rw[AeE (O:=⟨st,co,k⟩) hk ok vd nd,if_pos ((Wq ok j).mp hj),Bool.and_false,Bool.or_false,Bool.true_and]
   simp[Rs,(Gp _).mem_iff]
 |false=>
  obtain⟨l,rfl⟩:∃l,st=some l:=by
   cases st with
   |none=>cases z
   |some l=>exact⟨l,rfl⟩
  have g:A1 p (some l)=false:=z
  have ll:=List.eq_nil_iff_forall_not_mem.mpr λx hx=>by
   have:A1 p (some l):=any_eq_true.mpr ⟨x,a5 l rfl x hx,vK hx⟩;simp_all
  subst ll;have ov:Hb p (some []):=uM λw=>by rw[(B8 (Be ok)).mpr w]at g;cases g
  rw[z]at f0 f1 f2;rw[Ea.1 ov];refine⟨f0.trans ((C2 0).trans (by simp)),f1.trans ((C2 1).trans (by simp)),λj hj=>uH ((f2 j hj).trans ?_)⟩;rw[Ee (O:=⟨some [],co,k⟩) hk ok vd,if_pos ((Wq ok j).mp hj),Bool.and_false];simp
def Aar(r:Rp):∀k,k<=(num r k).2/\(rsL (num r k).1).Nodup/\∀x∈rsL (num r k).1,k<=x/\x<(num r k).2:=by
 have two:∀{p q:Rp}{k:Int},(k<=(num p k).2/\(rsL (num p k).1).Nodup/\∀x∈rsL (num p k).1,k<=x/\x<(num p k).2)->(∀k,k<=(num q k).2/\(rsL (num q k).1).Nodup/\∀x∈rsL (num q k).1,k<=x/\x<(num q k).2)->k<=(num q (num p k).2).2/\(rsL (num p k).1++rsL (num q (num p k).2).1).Nodup/\∀x∈rsL (num p k).1++rsL (num q (num p k).2).1,k<=x/\x<(num q (num p k).2).2:=λ{p q k}a b=>by
  have b:=b (num p k).2;refine⟨Int.le_trans a.1 b.1,nodup_append.mpr ⟨a.2.1,b.2.1,λx hx y hy e=>?_⟩,λx hx=>?_⟩
  .have:=a.2.2 x hx;have:=b.2.2 y hy;omega
  rcases vY.mp hx with z|z
  .have:=a.2.2 x z;omega
  have:=b.2.2 x z;omega
 induction r with
 |rest=>exact λk=>⟨by show k<=k+1;omega,zS.mpr ⟨λz=>(nomatch z),nodup_nil⟩,λx hx=>by rw[mS hx];show k<=k/\k<k+1;omega⟩
 |iff s p q a1 a2=>exact λk=>two (a1 k) a2
 |thn p q a1 a2=>exact λk=>two (a1 k) a2
 |bes p q a1 a2=>exact λk=>two (a1 k) a2
 |again p ih=>
  intro k;have a:=ih k;refine⟨by show k<=(num p k).2+1;omega,zS.mpr ⟨λz=>by have:=a.2.2 _ z;omega,a.2.1⟩,λx hx=>?_⟩;show k<=x/\x<(num p k).2+1;rcases zM.mp hx with z|z
  .omega
  have:=a.2.2 x z;omega
 |hold s p ih=>exact ih
 |watch s p ih=>exact ih
 |trap p ih=>exact ih
 |_=>exact λk=>⟨Int.le_refl _,nodup_nil,λx hx=>nomatch hx⟩
def Ag4(h:okN n p):p.rc=(rsP p).length:=by
 induction p with
 |stay _=>cases h
 |iff s p q i1 i2=>simp[Pt.rc,rsP,i1 h.2.1,i2 h.2.2];omega
 |thn p q i1 i2=>simp[Pt.rc,rsP,i1 h.1,i2 h.2];omega
 |bes p q i1 i2=>simp[Pt.rc,rsP,i1 h.1,i2 h.2];omega
 |again k p i=>simp[Pt.rc,rsP,i h]
 |hold s p i=>exact i h.2
 |watch s p i=>exact i h.2
 |trap p i=>exact i h
 |_=>rfl
def Agt(p:Pt):2*p.sc<=p.sz+1:=by
 induction p<;>simp[Pt.sc,Pt.sz]<;>omega
def AgH{st:Option (List Int)}(h:Hu K H st v):StG K H st v:=by
 assumption
def Aee{st:Option (List Int)}(ok:okN n p)(nd:(rsL p).Nodup)(vd:Vd p st):Vd p (some (instD p st th).2.2):=by
 by_cases o:Hb p st
 .rw[Ea.1 o]
  exact Ip λx _ z=>nomatch z
 rw[Ea.2 o]
 exact Qi (λx _=>(Gp _).mem_iff.symm) (AeH (Be ok) nd vd)
def Acz{st:Option (List Int)}(h1:p.sc<64)(h2:p.rc<64):(instD p st th).2.2.length<=900:=by
 by_cases o:Hb p st
 .rw[Ea.1 o];exact zZ _
 rw[Ea.2 o];exact(AbS h1 h2).2
def AeA{st:Option (List Int)}(th:List Int){p:Pt}(h:okE p)(nd:(rsL p).Nodup)(v:Vd p st):(beg th (pb p st)).2.2.Nodup:=by
 induction p with
 |nothing=>rw[Ot _ λ_=>rfl];exact .nil
 |send _=>rw[Ot _ λ_=>rfl];exact .nil
 |exit _=>rw[Ot _ λ_=>rfl];exact .nil
 |stay _=>exact h.elim
 |rest k=>
  have e:pb (.rest k) st=.nothing\/pb (.rest k) st=.rest k:=by
   cases st with
   |none=>exact .inr rfl
   |some l=>by_cases c:k∈l<;>simp[pb,rem,c]
  rcases e with e|e<;>rw[e]
  .exact .nil
  assumption
 |thn p q i1 i2=>
  have a1:=nodup_append.mp nd
  by_cases g:A1 q st
  .rw[Og h.2 g];exact i2 h.2 a1.2.1 v.2
  rw[Op h.2 g]
  have:=i2 h.2 a1.2.1 v.2;rw[Cu h.2 g]at this;show(if (beg _ _).1=0 then Md _ _ else beg _ _).2.2.Nodup;split
  .exact this
  exact i1 h.1 a1.1 v.1
 |iff s p q i1 i2=>
  have a1:=nodup_append.mp nd;have a:=i1 h.1 a1.1 v.1;have b:=i2 h.2 a1.2.1 v.2.1;rw[Qt h.1 h.2];split
  .exact a
  next g1=>
  split
  .exact b
  next g2=>
  rw[Cu h.1 g1]at a;rw[Cu h.2 g2]at b;show(if s∈th then beg _ p else beg _ q).2.2.Nodup;split<;>assumption
 |bes p q i1 i2=>
  have a1:=nodup_append.mp nd;have a:=i1 h.1 a1.1 v.1;have b:=i2 h.2 a1.2.1 v.2;rw[Q2 h.1 h.2];split
  .by_cases c:(beg th (.bes (pb p st) (pb q st))).1=1
   .rw[show(beg _ (.bes _ _)).2.2=(beg _ _).2.2++(beg _ _).2.2 from if_pos c]
    exact nodup_append.mpr ⟨a,b,λx hx y hy=>a1.2.2 x (C8 h.1 hx) y (C8 h.2 hy)⟩
   rw[P5 _ _ c];exact .nil
  split<;>assumption
 |again k p i=>
  have h:okE p:=h;rw[Mx h v.2];show(if (beg _ _).1=0 then [k] else(beg _ _).2.2).Nodup;split
  .simp
  exact i h (zS.mp nd).2 v.1
 |trap p i=>rw[Oo];exact i h nd v
 |hold s p i=>
  obtain⟨h1,h2⟩:=He (p:=p) h
  by_cases g:A1 p st
  .obtain⟨l,el⟩:∃l,st=some l:=by
    cases st with
    |none=>cases g
    |some l=>exact⟨l,rfl⟩
   rw[(h2 l el g).1];show(if s∈th then _ else beg _ _).2.2.Nodup;split
   .exact Pairwise.filter _ nd
   exact i h nd v
  rw[(h1 g).1];exact i h nd v
 |watch s p i=>
  obtain⟨h1,h2⟩:=He (p:=p) h
  by_cases g:A1 p st
  .obtain⟨l,el⟩:∃l,st=some l:=by
    cases st with
    |none=>cases g
    |some l=>exact⟨l,rfl⟩
   rw[(h2 l el g).2];show(if s∈th then _ else beg _ _).2.2.Nodup;split
   .exact .nil
   exact i h nd v
  rw[(h1 g).2];exact i h nd v
def Tc{p:Pt}{st:Option (List Int)}{th:List Int}(ok:okN n p)(nd:(rsL p).Nodup)(vd:Vd p st):(instD p st th).2.2.Nodup/\(instD p st th).2.2.Pairwise (·<=·)/\∀x∈(instD p st th).2.2,x∈rsL p:=by
 by_cases o:Hb p st
 .rw[Ea.1 o];exact⟨.nil,.nil,λx z=>nomatch z⟩
 rw[Ea.2 o]
 exact⟨(Gp _).nodup_iff.mpr (AeA _ (Be ok) nd vd),Qv _,λx z=>C8 (Be ok) ((Gp _).mem_iff.mp z)⟩
def X7{m:Nat}{a:List Int}{P:Int->Bool}(h1:a.Nodup)(h2:a.Pairwise (·<=·))(h3:∀x,x∈a↔(0<=x/\x<m)/\P x):((List.range m).map λ(i:Nat)=>(i:Int)).filter P=a:=by
 have r:((List.range m).map λ(i:Nat)=>(i:Int)).Pairwise _:=List.pairwise_map.mpr (Pairwise.imp (λh=>Int.ofNat_lt.mpr h) List.pairwise_lt_range);refine Uf ((List.perm_ext_iff_of_nodup ((r.imp λh=>Int.ne_of_lt h).filter _) h1).mpr λx=>?_) ((r.imp Int.le_of_lt).filter _) h2;rw[h3,mem_filter,zU];refine and_congr_left λ_=>⟨?_,λh=>⟨x.toNat,mem_range.mpr (by omega),by omega⟩⟩
 rintro⟨i,hi,rfl⟩;have:=mem_range.mp hi;omega
def Ru.same(k:Same H H')(h:Ru K H gl gs):Ru K H' gl gs:=by
 obtain⟨vs,h,l,g⟩:=h;exact⟨vs,k.seq h,l,λi v G e1 e2=>by obtain⟨a,b,e,h1,h2⟩:=g i v G e1 e2;exact⟨a,b,e,Qm k h1,Qm k h2⟩⟩
def AfL(K:FA)(t:TE):TT:=λY H Q=>t Y H λx H1=>∃k,Z0 K x H1 k/\Q k H1
def Yb{l:List Int}(h:∀x∈l,0<=x):(l.map Int.toNat).map Int.ofNat=l:=by
 rw[map_map]
 conv=>rhs;rw[<-map_id l]
 refine List.map_congr_left λx z=>?_
 have:=h x z;show(x.toNat)=x;omega
structure Ah3(c:Nat)(g:Gw):Prop where
 w:(gtOf g).word=g.1
 a:(gtOf g).args=g.2
 l:(gtOf g).nums.length<=g.2.length
 b:∀x∈(gtOf g).nums,x<c
def R9{m c:Nat}{g:Gw}(h:FmG n m c g):Ah3 c g:=by
 obtain⟨w,ns⟩:=g;have wf:∀{ns:List Int},(∀x∈ns,0<=x/\x<c)->(ns.map Int.toNat).length<=ns.length/\∀x∈ns.map Int.toNat,x<c:=λh=>⟨by rw[vE];exact zB _,λx hx=>by obtain⟨y,_,rfl⟩:=zU.mp hx;simp_all⟩
 rcases h with⟨e,e2⟩|⟨e,k,e2,_⟩|⟨e,k,e2,_⟩|⟨e|e|⟨e,e3⟩,e2⟩
 .cases (show w ="start" from e)
  cases (e2)
  have z:gtOf (("start"),([]))=.start:=by rfl
  exact⟨by rfl,by rfl,by exact zB _,by exact λx hx=>nomatch hx⟩
 .cases (show w ="memory" from e)
  cases (show ns=[k] from e2)
  have z:gtOf (("memory"),[k])=.mem k:=by rfl
  exact⟨by rfl,by rfl,by exact zZ _,by rw[z];exact λx hx=>nomatch hx⟩
 .cases (show w ="given" from e)
  cases (e2)
  have z:gtOf (("given"),[k])=.given k:=by rfl
  exact⟨by rfl,by rfl,by exact zZ _,by rw[z];exact λx hx=>nomatch hx⟩
 .cases (show w ="all" from e)
  have z:gtOf (("all"),ns)=.all (ns.map Int.toNat):=by rfl
  exact⟨by rfl,by exact Yb λx hx=>(e2 x hx).1,by exact(wf e2).1,by exact(wf e2).2⟩
 .cases (show w ="some" from e)
  have z:gtOf (("some"),ns)=.som (ns.map Int.toNat):=by rfl
  exact⟨by rfl,by exact Yb λx hx=>(e2 x hx).1,by exact(wf e2).1,by exact(wf e2).2⟩
 cases (show w ="not" from e)
 obtain⟨k,rfl⟩:∃k,ns=[k]:=by
  cases ns with
  |nil=>cases e3
  |cons a r=>cases r with
   |nil=>exact⟨a,rfl⟩
   |cons _ _=>simp at e3
 have hk:=e2 k vH;have z:gtOf (("not"),[k])=.nt k.toNat:=by rfl
 exact⟨by rfl,by show [(k.toNat:Int)]=[k];rw[show(k.toNat)=k by omega],by exact zB _,by rw[z];intro x hx;rw[mS hx];omega⟩
def AgB{m:Nat}{s:Ws}(h:∀g∈s.gs,FmG n m s.gs.length g/\g.2.length<=1000)(hl:s.gs.length<=16000):SmG (gtsOf s)/\∀G∈gtsOf s,G.nums.length<=1000:=by
 have le:(gtsOf s).length=s.gs.length:=vE _
 have z:∀G∈gtsOf s,G.nums.length<=1000:=λG hG=>by
  obtain⟨g,hg,rfl⟩:=zU.mp hG;exact zA (R9 (h g hg).1).l (h g hg).2
 refine⟨⟨λi G e c hc=>?_,by rwa[le]⟩,z⟩;obtain⟨g,hg,rfl⟩:=zU.mp (vR e);rw[le];exact(R9 (h g hg).1).b c hc
def Ad4(h:∀g∈s.gs,FmG n m s.gs.length g/\g.2.length<=1000)(hg:H gl=some (.lst gvs))(hp:PySem.Paired (GwAt H) s.gs gvs):Ru K H gl (gtsOf s):=by
 refine⟨gvs,Ai hg,?_,λi v G e1 e2=>?_⟩
 .rw[<-uC hp];exact(vE _).symm
 unfold gtsOf at e2
 rw[vJ]at e2;cases e:s.gs[i]? with
 |none=>rw[e]at e2;cases e2
 |some g=>
  rw[e]at e2;cases e2
  obtain⟨y,z,t,u,rfl,h1,h2⟩:=Bo hp e;rw[e1]at z;cases z
  have ok:=R9 (h g (vR e)).1;exact⟨t,u,Z,by rw[ok.w];exact Aj h1,by rw[ok.a];exact Aj h2⟩
def Mt(z:Int)(i:Nat):Bool:=decide (V.int (z/7/(1*2^((0:Int)+(i:Int)).toNat)%2)=V.int 1)
def Mj(c:Int)(n:Nat):List Int:=((List.range n).filter (Mt (Ks c))).map λ(i:Nat)=>(i:Int)
def AbP(c:Int)(n:Nat):(Mj c n).length<=n:=by
 unfold Mj;rw[vE];exact zA (length_filter_le _ _) (by rw[zI];exact zB _)
inductive Wt  (vs:List V) (H:Hp) (Q:VK):Prop
 |mk(m:Int)(n:Nat)(_:vs=[.int m,.int n])(_:n<=30)(_:∀r,H r=none->Q (.ref r) (upd H r (.lst ((Mj m n).map V.int)))):Wt  vs H Q
def Aai:Sp:=λvs H Q _=>Wt  vs H Q
def AfZ(xs:List V)(j:Nat):Hj xs none (some (j:Int))=xs.take j:=by
 simp[Hj,HT.Aha,HT.AiW]
def Aav{k:List (Option Bool)}(h:g<k.length):(k.map vO)[g]?=some (vO (knL k g)):=by unfold knL;rw[vJ,vD h];rfl
def Aak(o:Option Bool):Z0 K (vO o) H (o.getD false):=by cases o<;>rfl
section
seal PSs PS PE PA PT
def AiS(F:Ao K mg "_law_coming" ["_law_cell","_law_came"] Fv)(T:Txt mg)(aK:Ae P w K mg base 1 "_law_mixed" ["_law_cell"] L7):Ae P w K mg base 2 "_law_coming" ["_law_cell","_law_came"] Aai:=by
 refine F.ok Lv (λvs H Q E h=>?_) (λf _ A _ s H _ Q E _ h=>?_)
 .obtain⟨m,n,rfl,_⟩:=h;rfl
 obtain⟨m,n,rfl,hn,q⟩:=h
 refine⟨_,(Ab (pst 2 Lv.nd (pcl aK (pa1 (pv 0))))
  (Ad (Ag (Cp ["_law_sign"] [("_law_seed",2)] rfl (Bx (Af Fv) ["_law_cell","_law_came","_law_seed"] (by trivial)) (Fn rfl T.n_range (pa1 (pv 1))) (λs2 H2 fp cl C=>Aq (i:=0) (show Nodup [("_law_sign": Str),("_law_seed": Str)] from by trivial) rfl (Or.inl rfl)) (A9 (by decide)) (λs2 H2 fp cl C=>Dj (pce (Au Cy (Au Df (Au Df (pv 1) Am) (Au AbQ Am (pv 0))) Am) Am)) (λs2 H2 fp cl C=>(pv 0)))))),?_⟩
 refine⟨m,Z,?_⟩;refine⟨_,Z,by omega,by omega,?_⟩;rw[uI];refine Fq (λi ys H'=>H'=H/\ys=((List.range i).filter (Mt (Ks m))).map λ(i:Nat)=>V.int (i:Int)) ⟨Z,Z⟩ (Cq (by omega)) ?_ ?_
 .rintro i ys H' N hi ⟨rfl,rfl⟩ hN z
  have p1:(0:Int)<1*2^((0:Int)+(i:Int)).toNat:=by
   rw[Int.one_mul];exact Int.pow_pos (by decide)
  have p2:(1:Int)*2^((0:Int)+(i:Int)).toNat<1073741824:=by
   rw[Int.one_mul,show((0:Int)+(i:Int)).toNat=i by omega];have h1:(2:Nat)^i<1073741824:=zD (Nat.pow_lt_pow_right (by decide) (show i<30 by omega)) (by decide);have h2:=Int.ofNat_lt.mpr h1;exact h2
  refine⟨_,_,Z,Z,⟨by decide,by decide⟩,_,_,Z,Z,⟨by omega,by omega,by decide⟩,_,_,Z,Z,⟨p1,p2⟩,_,_,Z,Z,(by simp),Z,?_⟩
  have fl:(List.range (i+1)).filter (Mt (Ks m))=(List.range i).filter (Mt (Ks m))++(if Mt (Ks m) i then [i] else []):=by
   rw[range_succ,zO];simp only[filter_cons,filter_nil]
  refine As (λc=>?_) (λc=>?_)
  .refine(hN _ _ ?_ ⟨Z,?_⟩)
   .rw[vF,vG];omega
   .rw[fl,if_pos (show Mt (Ks m) i from c),vQ]
    simp
  .refine hN _ _ (by omega) ⟨Z,?_⟩
   rw[fl,if_neg (show ¬Mt (Ks m) i from c),zK]
 .rintro ys H' z ⟨rfl,rfl⟩ D hD
  have:=q D hD;unfold Mj at this;rwa[map_map]at this
end
def Ae5(z:X.A.units<cLine):OpR X (compareOp .NotEq) (λx y H Q=>∃q xs,x=.non/\y=.ref q/\SqL X.K H q xs/\Q (.bl true) H):=by
 intro _ s Y H x y v u Q I rx ry h;obtain⟨q,xs,rfl,rfl,h2,hq⟩:=h;cases rx
 cases ry
 obtain⟨_,_,p2,_⟩:=I.list h2;exact PySem.SeqAt.RcNeAt.none_list p2.isList z _ _ _ _ ⟨.bl true,H,I,Z,hq⟩
def Agk{c d:Bool}{H1:Hp}(h1:∀Q:VK,(∀H',Same H1 H'->Q (.bl d) H')->tb Y H1 Q)(q:∀H',Same H1 H'->Q (.bl (c&&d)) H'):if c then tb Y H1 Q else Q (.bl false) H1:=by
 cases c with
 |false=>exact q _ (Bv _)
 |true=>exact h1 Q q
def AgP(r:Rp):∀k x,k<=x->x<(num r k).2->x∈rsL (num r k).1:=by
 have two:∀{p q:Rp}{k x:Int},(x<(num p k).2->x∈rsL (num p k).1)->((num p k).2<=x->x∈rsL (num q (num p k).2).1)->x∈rsL (num p k).1++rsL (num q (num p k).2).1:=λ{p q k x}a b=>(Int.lt_or_le x (num p k).2).elim (λz=>zY _ (a z)) λz=>vS _ (b z)
 induction r with
 |rest=>exact λk x _ h2=>zG.mpr (by have h2:x<k+1:=h2;omega)
 |iff s p q i1 i2=>exact λk x h1 h2=>two (i1 k x h1) λz=>i2 _ x z h2
 |thn p q i1 i2=>exact λk x h1 h2=>two (i1 k x h1) λz=>i2 _ x z h2
 |bes p q i1 i2=>exact λk x h1 h2=>two (i1 k x h1) λz=>i2 _ x z h2
 |again p i=>
  intro k x h1 h2;have h2:x<(num p k).2+1:=h2
  by_cases c:x=(num p k).2
  .rw[c];exact vH
  exact vI _ (i k x h1 (by omega))
 |hold s p i=>exact i
 |watch s p i=>exact i
 |trap p i=>exact i
 |_=>exact λk x h1 h2=>absurd h2 (Int.not_lt.mpr h1)
def Zr{p:Pt}(ok:okN n p):(rsP p).Perm (rsL p):=by
 induction p with
 |iff s p q i1 i2=>exact((i2 ok.2.2).append (i1 ok.2.1)).trans List.perm_append_comm
 |thn p q i1 i2=>exact((i2 ok.2).append (i1 ok.1)).trans List.perm_append_comm
 |bes p q i1 i2=>exact((i2 ok.2).append (i1 ok.1)).trans List.perm_append_comm
 |again k p i=>exact(i (ok)).cons k
 |hold s p i=>exact i ok.2
 |watch s p i=>exact i ok.2
 |trap p i=>exact i ok
 |_=>exact .refl _
def AhC{st:Option (List Int)}{sv:V}{z:Addr}(hs:Hu K H st sv)(hz:SqL K H z [])(q:Q (.bl (decide (¬st=some []))) H):(∃q xs,sv=.non/\V.ref z=.ref q/\SqL K H q xs/\Q (.bl true) H)\/AfR K true sv (.ref z) H Q:=by
 cases st with
 |none=>exact .inl ⟨z,[],hs,rfl,hz,q⟩
 |some l=>
  obtain⟨pl,rfl,hl⟩:=hs;refine .inr ⟨pl,z,l,[],Z,Z,hl,hz,?_⟩;rw[show decide _ = !decide (l=[]) by simp]at q;exact q
inductive LpI(K:FA)(H3:Hp)(a pr t2:Addr)(p:Pt)(rs:Int)(Y:St)(H':Hp):Prop
 |mk(st:Option (List Int))(sv:V)(x5 x6 x7 x8 x9 x10 x11 x12 x13:Option V)(e:Y=[some (.ref a),some (.ref pr),some (.int rs),some (.ref t2),some sv,x5,x6,x7,x8,x9,x10,x11,x12,x13])(g:Same H3 H')(hs:Hu K H' st sv)(vd:Vd p st)(ln:(st.getD []).length<=900)(sb:∀l,st=some l->∀x∈l,x∈rsL p)
section
seal PSs PS PE PA PT
def Aia(F:Fun K "law" "law" Jm f fd)(T:Txt mg)(dH:Ae P w K mg base 64 "_law_program" ["_law_script","_law_most"] (Abq K))(iW:Ae P w K mg base 70 "net_of" ["program"] (Adj K C 63))(aK:Ae P w K mg base 1 "_law_mixed" ["_law_cell"] L7)(dU:Ae P w K mg base 2 "_law_coming" ["_law_cell","_law_came"] Aai)(eM:Ae P w K mg base 2 "_law_least" ["_law_net","_law_state","_law_coming_here"] (Zu K))(iK:Ae P w K mg base 47 "settled" ["program","state","coming"] (Adq K))(cG:Ae P w K mg base 45 "instant" ["program","state","there"] (Q9 K 40)):Cc P w K mg base CX0 71 f fd ["_law_script"] (Ty K):=by
 refine F.ok Dq (λvs H Q E h=>?_) (λcdv A _ _ H _ Q E hr h=>?_)
 .obtain⟨a,ns,rfl⟩:=h;rfl
 obtain⟨a,ns,rfl,hS,_,q⟩:=h
 refine⟨_,(Ab (Ft (pcl dH (pa2 (pv 0) Am)) (Fi rfl (Bf (Aq (i:=1) Dq.nd rfl (Or.inl rfl)) (Bf (Aq (i:=2) Dq.nd rfl (Or.inl rfl)) Eb))))
  (Ab (pst 3 Dq.nd (pcl iW (pa1 (pv 1))))
  (Ab (pst 4 Dq.nd B5)
  (Ab (Fj PassesOwn.never rfl (Cf (Au Ck (An (pa1 Am)) (Pu Yv (pv 0) Yh (Of Am)))) (Aq (i:=5) Dq.nd rfl (Or.inl rfl))
   (Ab (pst 6 Dq.nd (pcl dU (pa2 (pv 5) (pix (pv 1)))))
  (Ab (pst 7 Dq.nd (pcl iK (pa3 (pv 1) (pv 4) (pv 6))))
  (Ab (pst 8 Dq.nd (Au Df (pcl aK (pa1 (pv 5))) Am))
  (Ab (Dz (j:=9) (g:=(Bn 0)) (tc:=(Ff (tOp rEq (tOp (rI (λ_ j=>0<j) λi j=>.int (i%j)) (tOp (rI Xb λi j=>.int (i/j)) (tOp (rI Xb λi j=>.int (i/j)) (Aw 1) (tC (.int 4))) (tOp (rI AdB λi j=>.int (i*2^j.toNat)) (tC (.int 1)) (Aw 0))) (tC (.int 2))) (tC (.int 1))))) (te:=(Aw 0)) ["_law_sign"] [("_law_seed",8)] Dq.nd rfl (Or.inl rfl) rfl (Bx (Af Jm) ["_law_script","_law_program_here","_law_rests","_law_net","_law_state","_law_cell","_law_coming_here","_law_due","_law_seed","_law_some","_law_known","_law_code","_law_sent","_law_behind"] (by trivial)) (Fn rfl T.n_range (pa1 (pix (pv 1)))) (λs2 H2 fp cl C=>Aq (i:=0) (show Nodup [("_law_sign": Str),("_law_seed": Str)] from by trivial) rfl (Or.inl rfl)) (A9 (by decide)) (λs2 H2 fp cl C=>Dj (pce (Au Cy (Au Df (Au Df (pv 1) Am) (Au AbQ Am (pv 0))) Am) Am)) (λs2 H2 fp cl C=>(pv 0)))
  (Ab (Az (Bg Bz B5 (pv 7) (by rfl))
   (Ab (pst 4 Dq.nd (pix (pcl cG (pa3 (pv 1) (pv 4) (pv 9)))))
  (Ad Xk))
   Ar)
  (Ab (pst 10 Dq.nd (pcl eM (pa3 (pv 3) (pv 4) (pv 6))))
  (Ab (Az (Bg Bz B5 (pv 10) (by rfl))
   (Ad (Ag Do))
   Ar)
  (Ab (Ft (pcl cG (pa3 (pv 1) (pv 4) (Cp (g:=(Bn 0)) (tc:=(AfL K (tOp (Ri K) (Aw 1) (Aw 0)))) (te:=(Aw 0)) ["_law_sign"] [("_law_due",7)] rfl (Bx (Af Jm) ["_law_script","_law_program_here","_law_rests","_law_net","_law_state","_law_cell","_law_coming_here","_law_due","_law_seed","_law_some","_law_known","_law_code","_law_sent","_law_behind"] (by trivial)) (Fn rfl T.n_range (pa1 (Bs C9 rfl T.n_len PySem.boot_len (pa1 (pv 7))))) (λs2 H2 fp cl C=>Aq (i:=0) (show Nodup [("_law_sign": Str),("_law_due": Str)] from by trivial) rfl (Or.inl rfl)) (A9 (by decide)) (λs2 H2 fp cl C=>Dj (Ek (B7 B0 (pv 1) (pv 0) (λ_ _=>rfl)) (λ_=>rfl))) (λs2 H2 fp cl C=>(pv 0))))) (Fi rfl (Bf (Aq (i:=11) Dq.nd rfl (Or.inl rfl)) (Bf (Aq (i:=12) Dq.nd rfl (Or.inl rfl)) (Bf (Aq (i:=13) Dq.nd rfl (Or.inl rfl)) Eb)))))
  (Ab (Az (PW.pt (Ha (pcn (B7 B0 (pv 10) (pix (pix (pv 3))) (λ_ _=>rfl)) (Wc (Ew T7 (pv 11) Am (B4 _)) (Qg (Ew (OpR.or (Ae5 hr.units0) (AbT hr.units0)) (pv 4) (An Bm) (B4 _))))) (F8 (pcn (B7 B0 (pv 10) (pix (pix (pv 3))) (λ_ _=>rfl)) (Ew T7 (pv 11) Am (B4 _))))))
   (Ad (Ag Do))
   Ar)
  (Ab (Az (Bg (AbT hr.units0) (Cp (g:=(Bn 0)) (tc:=(AfL K (tOp (Ri K) (Aw 1) (tOp (Ri K) (tOp (E3 K) (Aw 2) (tC (.int 3))) (Aw 0))))) (te:=(Aw 0)) ["_law_rest"] [("_law_known",10),("_law_net",3)] rfl (Bx (Af Jm) ["_law_script","_law_program_here","_law_rests","_law_net","_law_state","_law_cell","_law_coming_here","_law_due","_law_seed","_law_some","_law_known","_law_code","_law_sent","_law_behind"] (by trivial)) (Fn rfl T.n_range (pa1 (pv 2))) (λs2 H2 fp cl C=>Aq (i:=0) (show Nodup [("_law_rest": Str),("_law_known": Str),("_law_net": Str)] from by trivial) rfl (Or.inl rfl)) (A9 (by decide)) (λs2 H2 fp cl C=>Dj (Ek (B7 B0 (pv 1) (B7 B0 (pix (pv 2)) (pv 0) (λ_ _=>rfl)) (λ_ _=>rfl)) (λ_=>rfl))) (λs2 H2 fp cl C=>(pv 0))) (pv 13) (B4 _))
   (Ad (Ag Do))
   Ar)
  (Ab (pst 4 Dq.nd (pv 13))
  (Ad (Az (pce (Au Cy (pv 8) Am) Am)
   (Ad (pst 4 Dq.nd (pix (pcl cG (pa3 (pv 1) (pv 4) (pv 9))))))
   Ar))))))))))))))
  (Ad (Ag Do)))))),?_⟩
 refine⟨a,ns,14,Z,hS,by decide,λt pr c n _ v r _ g1 e1 e2 _ _ g7 hp ok hh hw hz=>?_⟩;refine⟨t,_,Z,Aj e1,Z,_,_,Z,_,_,Z,Z,?_⟩;have N:=Afe n r 0;have a2:=N.ok ok;have i5:=N.sz;have ml:=N.ln;rw[Int.zero_add]at ml;have h7:=N.hg;have wt:=N.wt;have h5:=Ag4 a2;have g9:=Agt (num r 0).1;have nd:=(Aar r 0).2.1;refine⟨pr,_,_,v,n,(rsP (num r 0).1).length,(num r 0).1,Z,e2,hp,by omega,a2,by omega,by omega,by omega,λk hk=>(by have:=N.rs k hk;rw[ml]at this;exact this),λv' sN lk ms e0 e1 H2 g2 N2 R M rg pm rise=>?_⟩;obtain⟨oW,L,t2,te,ln,rfl,_,b1,W,d7,c5⟩:=N2.h;obtain⟨gvs,_,hgl,c8,i0,_⟩:=id W;have h9:=R.hi;obtain⟨f9,b9⟩:=AgB R.g (by omega);have GS:=Ad4 (K:=K) R.g hgl c8;have PG:Pm K H2 pr n (num r 0).1:=⟨⟨_,_,v,g2 _ _ e2,hp.mono g2.tp⟩,by omega,by omega,by omega,K0 a2,by omega⟩;have a8:=g2 _ _ e2;have f5:=(g1.trans g2).seq hS;have f4:=hp.mono g2.tp;have sl:=R.lo;have em:((List.range (rsP (num r 0).1).length).map λ(i:Nat)=>(i:Int))=ms:=(filter_eq_self.mpr λ_ _=>rfl).symm.trans (X7 (P:=λ_=>true) ((pm.trans (Zr a2)).nodup_iff.mpr nd) rise λx=>(pm.trans (Zr a2)).mem_iff.trans ⟨λz=>⟨by have:=(Aar r 0).2.2 x z;rw[ml]at this;exact this,rfl⟩,λz=>AgP r 0 x z.1.1 (by rw[ml];exact z.1.2)⟩);have eP:∀x,x∈rsP (num r 0).1↔0<=x/\x<((rsP (num r 0).1).length:Int):=λx=>by rw[<-pm.mem_iff,<-em,zU];exact⟨λ⟨i,hi,e⟩=>by have:=mem_range.mp hi;omega,λh=>⟨x.toNat,mem_range.mpr (by omega),by omega⟩⟩
 generalize (num r 0).1=p at *;generalize (num r 0).2=rs at *;clear e1 e2 g1 N2 N c8 W hp pm;refine⟨zN1,λl0 e4=>?_⟩;have k0:=Ac e4 (.lst [V.int 0]);refine⟨_,Z,a,_,Z,k0.seq f5,λl1 f6=>?_⟩;rw[show Hj (ns.map V.int) none (some 8)=(ns.map V.int).take 8 from AfZ _ 8,<-map_take];have k1:=Ac f6 (.lst ((ns.take 8).map V.int));have g4:(ns.take 8).length<=8:=by rw[zH];omega
 refine⟨l0,l1,_,_,Z,Z,k1 _ _ (qa (H:=H2) (a:=l0) (o:=.lst [V.int 0])),qa,Cq (by rw[vE];show 1+_<=_;omega),λl2 d9=>?_⟩;have g3:=(k0.trans k1).trans (Ac d9 (.lst ([V.int 0]++(ns.take 8).map V.int)));have hl:(upd (upd (upd H2 l0 (.lst [V.int 0])) l1 (.lst ((ns.take 8).map V.int))) l2 (.lst ([V.int 0]++(ns.take 8).map V.int))) l2=some (.lst ((0::ns.take 8).map V.int)):=qa;generalize (upd (upd (upd H2 l0 (.lst [V.int 0])) l1 (.lst ((ns.take 8).map V.int))) l2 (.lst ([V.int 0]++(ns.take 8).map V.int)))=H3 at hl g3;refine⟨l2,Z,⟨_,Ai hl⟩,F9 (K:=K) (a:=l2) (xs:=(0::ns.take 8).map V.int) (λi Y H'=>LpI K H3 a pr t2 p rs Y H') ⟨none,.non,none,none,none,none,none,none,none,none,none,Z,Bv _,Z,AgE _,zZ _,λ_ z=>(by cases z)⟩ (λi Y H' _ ⟨_,_,_,_,_,_,_,_,_,_,_,_,g,_,_,_,_⟩=>Ai (g _ _ hl)) ?_ ?_⟩;rotate_left
 .rintro Y H' _
  exact q H'
 rintro i y Y HA hi ⟨st,sv,x5,x6,x7,x8,x9,x10,x11,x12,x13,rfl,gA,hs,vd,lst,sb⟩
 obtain⟨cl,rfl⟩:∃c,y=V.int c:=by
  rw[vJ]at hi;cases e:(0::ns.take 8)[i]? with
  |none=>rw[e]at hi;cases hi
  |some z=>rw[e]at hi;cases hi;exact⟨z,rfl⟩
 have c6:=g3.trans gA;refine⟨Aj (c6 _ _ a8),Aa (j:=0) rfl,cl,c,Z,by omega,λco d5=>?_⟩;have gB:=Ac d5 (.lst ((Mj cl c).map V.int));have b7:=qa (H:=HA) (a:=co) (o:=.lst ((Mj cl c).map V.int));have h4:=AbP cl c;generalize Mj cl c=cs at *;generalize upd HA co (.lst (cs.map V.int))=HB at *;have c9:=c6.trans gB;refine⟨pr,sv,co,n,p,st,cs,Z,PG.mono c9,Ge gB hs,Ai b7,λdu HC gC a4=>?_⟩;refine⟨cl,Z,_,_,Z,Z,⟨by decide,by decide⟩,?_⟩;generalize Ks cl/77=sd;have c7:=c9.trans gC;refine⟨Aj (c7 _ _ a8),Aa (j:=2) rfl,_,Z,by omega,by omega,?_⟩;rw[uI];refine Fq (lo:=0) (n:=n) (λi ys H2=>H2=HC/\∃th:List Int,ys=th.map V.int/\th.length<=i) ⟨Z,[],Z,zB _⟩ (Cq (by omega)) ?_ ?_
 .rintro i ys H2 N hi ⟨rfl,th,rfl,e3⟩ hN a7
  have p1:(0:Int)<1*2^((0:Int)+(i:Int)).toNat:=by
   rw[Int.one_mul];exact Int.pow_pos (by decide)
  have p2:(1:Int)*2^((0:Int)+(i:Int)).toNat<1073741824:=by
   rw[Int.one_mul,show((0:Int)+(i:Int)).toNat=i by omega];have h2:((2^i:Nat):Int)<((1073741824:Nat):Int):=Int.ofNat_lt.mpr (zD (Nat.pow_lt_pow_right (by decide) (show i<30 by omega)) (by decide));rw[Int.natCast_pow]at h2;exact h2
  exact⟨_,_,Z,Z,⟨by decide,by decide⟩,_,_,Z,Z,⟨by show(0:Int)<=0+i;omega,by show(0:Int)+i<=1000000;omega,by decide⟩,_,_,Z,Z,⟨p1,p2⟩,_,_,Z,Z,(by show(0:Int)<2;decide),Z,As (λ_=>(hN _ _ (by rw[vF,vG];omega) ⟨Z,th++[0+(i:Int)],by rw[vQ];rfl,by rw[vF,vG];omega⟩)) λ_=>hN _ _ (by omega) ⟨Z,th,Z,by omega⟩⟩
 rintro ys H2 a7 ⟨rfl,th,rfl,e3⟩ tb f3;have gT:=Ac f3 (.lst (th.map V.int));have b8:=qa (H:=H2) (a:=tb) (o:=.lst (th.map V.int));have a4:=gT _ _ a4;generalize upd H2 tb (.lst (th.map V.int))=HT at *;have a6:=c7.trans gT;have a3:=(gB.trans gC).trans gT;have f8:=(SI.set (O5 (K0 a2) st) (n+1) (SI.first n cs (Es p st))).len;have lG:(gtsOf sN).length=sN.gs.length:=vE ..
 have a9:∀{th:List Int}{tb:Addr}{st:Option (List Int)}{sv:V}{H':Hp}{Q:VK},Vd p st->Same HT H'->Hu K H' st sv->SqL K H' tb (th.map V.int)->(∀t5 H5 l5 l6,Same H' H5->H5 t5=some (.tup [.int (instD p st th).1,.ref l5,.ref l6])->Hu K H5 (some (instD p st th).2.2) (.ref l6)->Vd p (some (instD p st th).2.2)->(instD p st th).2.2.length<=900->(∀x∈(instD p st th).2.2,x∈rsL p)->Q (.ref t5) H5)->Q9 K 40 [.ref pr,sv,.ref tb] H' Q E0:=λ{th tb st sv H' Q}vd g hs ht k=>⟨pr,_,_,_,v,p,sv,st,tb,th,rfl,Aj ((a6.trans g) _ _ a8),f4.mono (a6.trans g).tp,hs,ht,PG.hg,by have:=PG.sc;omega,by have:=PG.rc;omega,λt5 HH gH dd=>by
  obtain⟨l5,l6,d1,d2,d3,_⟩:=dd;exact k t5 HH l5 l6 gH d1 ⟨l6,Z,Ai d3⟩ (Aee a2 nd vd) (Acz (by have:=PG.sc;omega) (by have:=PG.rc;omega)) (Tc a2 nd vd).2.2⟩
 refine⟨du,_,Z,.inl (Ai a4),Z,Kl _,As (λz=>?_) λz=>?_⟩
 .exact a9 vd (Bv _) (Ge a3 hs) (Ai b8) λt5 H5 l5 l6 g5 e5 s5 v5 n5 r5=>⟨Aj e5,Aa (j:=2) rfl,some _,.ref l6,_,_,_,_,_,_,_,_,_,Z,gA.trans (a3.trans g5),s5,v5,n5,λl e x hx=>by cases e;exact r5 x hx⟩
 rw[if_neg qc,show V.non=vO none from rfl,Oa]at z;refine⟨t2,co,sv,gtsOf sN,st,cs,Z,⟨L.gl,_,gvs,Aj (a6 _ _ b1),GS.same a6,a6 _ _ hgl,f9⟩,⟨AgH (Ge a3 hs),lst,(gC.trans gT).seq (Ai b7),by omega⟩,b9,λkl HD vq=>?_⟩;obtain⟨k,gD,a5,i4,der,e8⟩:=vq;have F:=λhh=>Acl (th:=((List.range n).map λ(i:Nat)=>(i:Int)).filter λx=>decide (knL (Kz (Es p st) (n+1) (Bw n cs)) x.toNat=true)) M.1 M.2 a2 vd nd der e8 hh sb
 generalize Kz (Es p st) (n+1) (Bw n cs)=kS at *
 have F:=F λi hi=>by
  have c3:i<kS.length:=by omega
  have e:knL kS i=true\/knL kS i=false:=by
   unfold knL;rw[vD c3];cases e:kS[i] with
   |none=>exact absurd (vK (e▸zL c3)) z
   |some b=>cases b<;>simp
  show knL kS i=_
  have m:((i:Int)∈((List.range n).map λ(i:Nat)=>(i:Int)).filter λx=>decide (knL kS x.toNat=true))↔knL kS i=true:=by
   rw[mem_filter,decide_eq_true_iff,uI];exact and_iff_right (zU.mpr ⟨i,mem_range.mpr hi,Z⟩)
  rcases e with e|e
  .rw[vK (m.mpr e),e]
  rw[vM (λw=>by rw[m.mp w]at e;cases e),e]
 refine⟨kl,_,Z,.inl (Ai a5),Z,Kl _,As (λz=>?_) λ_=>?_⟩
 .rw[if_neg qc,show V.non=vO none from rfl,Oa]at z
  obtain⟨i,hi⟩:=getElem?_of_mem (vN z);exact absurd (show knL k i=none by unfold knL;rw[hi];rfl) (F.1 i (by have:=(uA.mp hi).1;omega))
 have a4:=gD _ _ a4;refine⟨du,_,Z,.inl (Ai a4),_,Z,by rw[vE];omega,by rw[vE];omega,?_⟩;rw[show(((kS.map vO).length:Nat):Int).toNat=n by rw[vE,uI,f8]];refine Fq (lo:=0) (n:=n) (λi ys H'=>H'=HD/\ys=(((List.range i).map λ(i:Nat)=>(i:Int)).filter λx=>decide (knL kS x.toNat=true)).map V.int) ⟨Z,Z⟩ (Cq (by omega)) ?_ ?_
 .rintro j ys H' N hj ⟨rfl,rfl⟩ hN a7
  rw[Int.zero_add];refine⟨Ai a4,Aa (Aav (by omega)),_,Aak _,As (λc=>hN _ _ (by rw[vF,vG];omega) ⟨Z,?_⟩) λc=>hN _ _ (by omega) ⟨Z,?_⟩⟩
  .have e:knL kS j=true:=by cases e:knL kS j with|none=>(rw[e]at c;cases c)|some b=>(rw[e]at c;exact congrArg some c)
   rw[range_succ,vQ,zO,vQ];simp[e]
  have e:¬knL kS j=true:=λe=>by rw[e]at c;exact c rfl
  rw[range_succ,vQ,zO,vQ];simp[e]
 rintro ys H' a7 ⟨rfl,rfl⟩ tl d8;generalize (((List.range n).map λ(i:Nat)=>(i:Int)).filter λx=>decide (knL kS x.toNat=true))=tS at *;have gF:=Ac d8 (.lst (tS.map V.int));have g0:=qa (H:=H') (a:=tl) (o:=.lst (tS.map V.int));generalize upd H' tl (.lst (tS.map V.int))=HF at *;have b4:=gD.trans gF;show Q9 K 40 [.ref pr,sv,.ref tl] HF _ E0;refine a9 vd b4 (Ge (a3.trans b4) hs) (Ai g0) λt5 H5 l5 l6 g5 e5 s5 v5 n5 r5=>?_
 refine⟨t5,_,Z,Aj e5,Z,_,_,Z,_,_,Z,_,_,Z,Z,?_⟩;obtain⟨f0,f1,f2⟩:=F.2;have b5:=b4.trans g5;have a5:=(gF.trans g5) _ _ a5
 have at':∀{e:Int}{b:Bool},Rng sN e->knL k e.toNat=b->atI (k.map vO) e=some (V.bl b):=λ{e b}r h=>by
  have r2:=r.2;unfold Ws.nx at r2;rw[<-uO r.1];exact Aa (by rw[Aav (by omega),h];rfl)
 have b6:=a6.trans b5;refine⟨Aj (b6 _ _ b1),Aa (j:=2) rfl,Aj (b6 _ _ c5),Aa (j:=0) rfl,Ai a5,(at' rg.1 f0),Z,_,Z,Agk (d:=decide (¬st=some [])) (λQ' kk=>⟨zN0,λlz c4=>AhC (Q:=Q') (Ge ((a3.trans b5).trans (Ac c4 _)) hs) (Ai qa) (kk _ (Ac c4 _))⟩) λH8 g8=>⟨Z,As (λz=>absurd z (by simp)) λ_=>?_⟩⟩;have b2:=b6.trans g8;refine⟨Aj (b2 _ _ b1),Aa (j:=2) rfl,Aj (b2 _ _ c5),Aa (j:=1) rfl,Ai (g8 _ _ a5),(at' rg.2 f1),Z,Z,As (λz=>absurd z (by simp)) λ_=>?_⟩;subst ml;refine⟨_,Z,by omega,by omega,?_⟩;rw[uI];obtain⟨n1,n2,n3⟩:=Tc (th:=tS) a2 nd vd;generalize (instD p st tS).2.2=lf at *;refine Fq (lo:=0) (n:=(rsP p).length) (λi ys H'=>H'=H8/\ys=(((List.range i).map λ(i:Nat)=>(i:Int)).filter λx=>decide (x∈lf)).map V.int) ⟨Z,Z⟩ (Cq (by omega)) ?_ ?_
 .rintro j ys H' N hj ⟨rfl,rfl⟩ hN a7
  have el:((ms.map lk).map V.int)[j]?=some (V.int (lk j)):=by
   rw[<-em,vJ,vJ,vJ,getElem?_range hj];rfl
  rw[Int.zero_add];refine⟨Aj (b2 _ _ b1),Aa (j:=3) rfl,Ai (b2 _ _ d7),Aa el,Ai (g8 _ _ a5),at' (R.nr _ (mem_map_of_mem (by rw[<-em];exact zU.mpr ⟨j,mem_range.mpr hj,Z⟩))) (f2 j ((eP j).mpr (by omega))),_,Aak (some _),As (λc=>hN _ _ (by rw[vF,vG];omega) ⟨Z,?_⟩) λc=>hN _ _ (by omega) ⟨Z,?_⟩⟩
  .have c:decide ((j:Int)∈lf):=c
   rw[range_succ,vQ,zO,vQ];simp only[zT,map_nil,filter_cons,c,if_true,filter_nil]
  have c:¬decide ((j:Int)∈lf):=c
  rw[range_succ,vQ,zO,vQ];simp only[zT,map_nil,filter_cons,c,filter_nil];simp
 rintro ys H' a7 ⟨rfl,rfl⟩ fl f7;rw[X7 n1 n2 λx=>⟨λz=>⟨(eP x).mp ((Wq a2 x).mpr (n3 x z)),vK z⟩,λz=>vN z.2⟩];have gL:=Ac f7 (.lst (lf.map V.int));have d6:=qa (H:=H') (a:=fl) (o:=.lst (lf.map V.int));generalize upd H' fl (.lst (lf.map V.int))=HL at *;obtain⟨l7,e7,s7⟩:=id s5;cases e7
 refine⟨fl,l6,lf,lf,Z,Z,Ai d6,(g8.trans gL).seq s7,As (λz=>absurd z (by simp)) λ_=>?_⟩;have b3:=(b5.trans g8).trans gL;have s9:=Ge (g8.trans gL) s5;refine⟨_,_,Z,Z,(by show(0:Int)<4;decide),Z,As (λ_=>?_) λ_=>?_⟩
 .exact a9 v5 b3 s9 (b3.seq (Ai b8)) λt6 H6 l8 l9 g6 e6 s6 v6 n6 r6=>⟨Aj e6,Aa (j:=2) rfl,some _,.ref l9,_,_,_,_,_,_,_,_,_,Z,gA.trans ((a3.trans b3).trans g6),s6,v6,n6,λl e x hx=>by cases e;exact r6 x hx⟩
 exact⟨some _,.ref l6,_,_,_,_,_,_,_,_,_,Z,gA.trans (a3.trans b3),s9,v5,n5,λl e x hx=>by cases e;exact r5 x hx⟩
end
end Dsk
namespace My
open PySem L2
def ln0(h:us.length=0):us=[]:=length_eq_zero_iff.mp h
def ln1(h:us.length=1):∃a0,us=[a0]:=by
 cases us with
 |nil=>cases h
 |cons a0 r=>
  obtain rfl:=ln0 (Nat.succ.inj h);exact⟨a0,Z⟩
def ln2(h:us.length=2):∃a0 z,us=[a0,z]:=by
 cases us with
 |nil=>cases h
 |cons a0 r=>
  obtain⟨z,rfl⟩:=ln1 (Nat.succ.inj h);exact⟨a0,z,Z⟩
def ln3(h:us.length=3):∃a0 a1 z,us=[a0,a1,z]:=by
 cases us with
 |nil=>cases h
 |cons a0 r=>
  obtain⟨a1,z,rfl⟩:=ln2 (Nat.succ.inj h);exact⟨a0,a1,z,Z⟩
def ln4(h:us.length=4):∃a0 a1 z a3,us=[a0,a1,z,a3]:=by
 cases us with
 |nil=>cases h
 |cons a0 r=>
  obtain⟨a1,z,a3,rfl⟩:=ln3 (Nat.succ.inj h);exact⟨a0,a1,z,a3,Z⟩
def ln5(h:us.length=5):∃a0 a1 a2 a3 z,us=[a0,a1,a2,a3,z]:=by
 cases us with
 |nil=>cases h
 |cons a0 r=>
  obtain⟨a1,a2,a3,z,rfl⟩:=ln4 (Nat.succ.inj h);exact⟨a0,a1,a2,a3,z,Z⟩
def bd1(F:Fun K x qual st f fd)(h:∀(kV doc pm:Value)(an:Option Addr)(cdv ct x0:Value),bindArgs (fnOf x qual (Ce st) (B1 st) (Af st) .none kV doc pm an cdv ct) ⟨[x0],[]⟩=pure (([p0]:List Str).zip ([x0]:List Value))):Dm K fd [p0] []:=F.binds λ_ _ _ _ _ _ _ hl=>by
 obtain⟨_,rfl⟩:=ln1 hl;exact h _ _ _ _ _ _ _
def bd2(F:Fun K x qual st f fd)(h:∀(kV doc pm:Value)(an:Option Addr)(cdv ct x0 x1:Value),bindArgs (fnOf x qual (Ce st) (B1 st) (Af st) .none kV doc pm an cdv ct) ⟨[x0,x1],[]⟩=pure (([p0,p1]:List Str).zip ([x0,x1]:List Value))):Dm K fd [p0,p1] []:=F.binds λ_ _ _ _ _ _ _ hl=>by
 obtain⟨_,z,rfl⟩:=ln2 hl;exact h _ _ _ _ _ _ _ _
def bd3(F:Fun K x qual st f fd)(h:∀(kV doc pm:Value)(an:Option Addr)(cdv ct x0 x1 x2:Value),bindArgs (fnOf x qual (Ce st) (B1 st) (Af st) .none kV doc pm an cdv ct) ⟨[x0,x1,x2],[]⟩=pure (([p0,p1,p2]:List Str).zip ([x0,x1,x2]:List Value))):Dm K fd [p0,p1,p2] []:=F.binds λ_ _ _ _ _ _ _ hl=>by
 obtain⟨_,z,_,rfl⟩:=ln3 hl;exact h _ _ _ _ _ _ _ _ _
def bd4(F:Fun K x qual st f fd)(h:∀(kV doc pm:Value)(an:Option Addr)(cdv ct x0 x1 x2 z:Value),bindArgs (fnOf x qual (Ce st) (B1 st) (Af st) .none kV doc pm an cdv ct) ⟨[x0,x1,x2,z],[]⟩=pure (([p0,p1,p2,p3]:List Str).zip ([x0,x1,x2,z]:List Value))):Dm K fd [p0,p1,p2,p3] []:=F.binds λ_ _ _ _ _ _ _ hl=>by
 obtain⟨_,_,_,_,rfl⟩:=ln4 hl;exact h _ _ _ _ _ _ _ _ _ _
def bd5(F:Fun K x qual st f fd)(h:∀(kV doc pm:Value)(an:Option Addr)(cdv ct x0 x1 x2 x3 x4:Value),bindArgs (fnOf x qual (Ce st) (B1 st) (Af st) .none kV doc pm an cdv ct) ⟨[x0,x1,x2,x3,x4],[]⟩=pure (([p0,p1,p2,p3,z]:List Str).zip ([x0,x1,x2,x3,x4]:List Value))):Dm K fd [p0,p1,p2,p3,z] []:=F.binds λ_ _ _ _ _ _ _ hl=>by
 obtain⟨_,_,_,_,_,rfl⟩:=ln5 hl;exact h _ _ _ _ _ _ _ _ _ _ _
inductive FI(K:FA)(x:Str)(st:Stmt):Prop
 |mk{f:Addr}{oc kV dc pm cd ct:Value}{od an:Option Addr}{sl:Array (Option Value)}(a:nsIn K mainGlobals x=some (some (.ref f)))(l:K.lookup f=some ⟨oc,od,.func (fnOf x x (Ce st) (B1 st) (Af st) .none kV dc pm an cd ct),sl⟩)(c:codeIn K cd x=true)(k:keepIn K (.ref f)=true)
inductive MI(K:FA)(C:Addr)(x q:Str)(st:Stmt)(h:Addr):Prop
 |mk{oc kV dc pm cd ct:Value}{od an:Option Addr}{sl:Array (Option Value)}(a:findIn K (.ref C) x=some (some (.ref h)))(i:isFn K (.ref h)=true)(l:K.lookup h=some ⟨oc,od,.func (fnOf x q (Ce st) (B1 st) (Af st) .none kV dc pm an cd ct),sl⟩)(c:codeIn K cd q=true)(k:keepIn K (.ref h)=true)
inductive CI(K:FA)(C:Addr):Prop
 |mk(pg:plainGet K C Str.empty=true)(hd:hasDictIn K C=true)(po:plainOver K C=true)(sa:findIn K (.ref C) "__setattr__"= some (some (.builtin "object.__setattr__")))(mk:makesIn K C=true)(kc:keepIn K (.ref C)=true)
inductive FJ(K:FA)(x q:Str)(st:Stmt):Prop
 |mk{f:Addr}{oc kV dc pm cd ct:Value}{od an:Option Addr}{sl:Array (Option Value)}(a:nsIn K mainGlobals x=some (some (.ref f)))(l:K.lookup f=some ⟨oc,od,.func (fnOf q q (Ce st) (B1 st) (Af st) .none kV dc pm an cd ct),sl⟩)(c:codeIn K cd q=true)(k:keepIn K (.ref f)=true)
def fJ(X:K.In hp)(G:hp.Ns mainGlobals mg)(I:FJ K x q st)(h:∀{f:Addr}{fd:FuncData},Fun K q q st f fd->Dm K fd ps []):El K mg x q ps st:=by
 obtain⟨a,l,c,k⟩:=I;exact⟨_,_,Ca l c k,mg_of X G a,h (Ca l c k)⟩
def fI1(X:K.In hp)(G:hp.Ns mainGlobals mg)(I:FI K x st)(h:∀(kV doc pm:Value)(an:Option Addr)(cdv ct x0:Value),bindArgs (fnOf x x (Ce st) (B1 st) (Af st) .none kV doc pm an cdv ct) ⟨[x0],[]⟩=pure (([p0]:List Str).zip ([x0]:List Value))):Ao K mg x [p0] st:=by
 obtain⟨a,l,c,k⟩:=I;exact⟨_,_,Ca l c k,mg_of X G a,bd1 (Ca l c k) h⟩
def fI2(X:K.In hp)(G:hp.Ns mainGlobals mg)(I:FI K x st)(h:∀(kV doc pm:Value)(an:Option Addr)(cdv ct x0 x1:Value),bindArgs (fnOf x x (Ce st) (B1 st) (Af st) .none kV doc pm an cdv ct) ⟨[x0,x1],[]⟩=pure (([p0,p1]:List Str).zip ([x0,x1]:List Value))):Ao K mg x [p0,p1] st:=by
 obtain⟨a,l,c,k⟩:=I;exact⟨_,_,Ca l c k,mg_of X G a,bd2 (Ca l c k) h⟩
def fI3(X:K.In hp)(G:hp.Ns mainGlobals mg)(I:FI K x st)(h:∀(kV doc pm:Value)(an:Option Addr)(cdv ct x0 x1 x2:Value),bindArgs (fnOf x x (Ce st) (B1 st) (Af st) .none kV doc pm an cdv ct) ⟨[x0,x1,x2],[]⟩=pure (([p0,p1,p2]:List Str).zip ([x0,x1,x2]:List Value))):Ao K mg x [p0,p1,p2] st:=by
 obtain⟨a,l,c,k⟩:=I;exact⟨_,_,Ca l c k,mg_of X G a,bd3 (Ca l c k) h⟩
def fI4(X:K.In hp)(G:hp.Ns mainGlobals mg)(I:FI K x st)(h:∀(kV doc pm:Value)(an:Option Addr)(cdv ct x0 x1 x2 z:Value),bindArgs (fnOf x x (Ce st) (B1 st) (Af st) .none kV doc pm an cdv ct) ⟨[x0,x1,x2,z],[]⟩=pure (([p0,p1,p2,p3]:List Str).zip ([x0,x1,x2,z]:List Value))):Ao K mg x [p0,p1,p2,p3] st:=by
 obtain⟨a,l,c,k⟩:=I;exact⟨_,_,Ca l c k,mg_of X G a,bd4 (Ca l c k) h⟩
def fI5(X:K.In hp)(G:hp.Ns mainGlobals mg)(I:FI K x st)(h:∀(kV doc pm:Value)(an:Option Addr)(cdv ct x0 x1 x2 x3 x4:Value),bindArgs (fnOf x x (Ce st) (B1 st) (Af st) .none kV doc pm an cdv ct) ⟨[x0,x1,x2,x3,x4],[]⟩=pure (([p0,p1,p2,p3,z]:List Str).zip ([x0,x1,x2,x3,x4]:List Value))):Ao K mg x [p0,p1,p2,p3,z] st:=by
 obtain⟨a,l,c,k⟩:=I;exact⟨_,_,Ca l c k,mg_of X G a,bd5 (Ca l c k) h⟩
abbrev NsR(K:FA)(x:Str)(a:Addr):Prop:=nsIn K mainGlobals x=some (some (.ref a))
abbrev NsN(K:FA)(x:Str):Prop:=nsIn K mainGlobals x=some none
abbrev KpR(K:FA)(a:Addr):Prop:=keepIn K (.ref a)=true
abbrev IfR(K:FA)(a:Addr):Prop:=isFn K (.ref a)=true
abbrev CdR(K:FA)(c:Value)(x:Str):Prop:=codeIn K c x=true
abbrev FnR(K:FA)(f:Addr)(x y:Str)(st:Stmt)(oc:Value)(od:Option Addr)(kV dc pm:Value)(an:Option Addr)(cd ct:Value)(sl:Array (Option Value)):Prop:=K.lookup f=some ⟨oc,od,.func (fnOf x y (Ce st) (B1 st) (Af st) .none kV dc pm an cd ct),sl⟩
def all_mk{l:PySem.W.OpenLaw}{w:World}{K:FA}{h:Heap}{mg:Str->Option Value}{fa nA C h0 h1 h2 h3 h4 h5 h6 h7 h8 c4 jP jO CP hP:Addr}{qD pB k8 mG lZ:Option Addr}{p7 lH mJ mH:Array (Option Value)}{p9 o9 m8 nH mI pJ:Value}{d5 kF kG:Array Value}{lR mM mO:Nat}{kK kJ jM:Tok}(X:K.In h)(G:h.Ns mainGlobals mg)(qQ:mg "law"= some (.ref fa))(a0:FI K "net_of" K2)(a1:FI K "wire_part" G6)(a2:FI K "wire_leaf" Jj)(a3:FI K "wire_rest" Jn)(a4:FI K "wire_leaving" Gv)(a5:FI K "wire_pair" Ji)(a6:FI K "wire_then" G7)(a7:FI K "wire_if" Le)(a8:FI K "wire_beside" Hg)(a9:FI K "greater_codes" Ds)(n8:FI K "wire_round" Gi)(oN:FI K "wire_again" Gf)(nI:FI K "wire_skipping" F5)(mT:FI K "code_gate" Jk)(oJ:FI K "leaf_code" Jl)(oV:FI K "code_of_again" F3)(nM:FI K "code_of_trap" Gu)(nY:FI K "inner_parts" Fu)(oS:FI K "every_part" Ir)(oP:FI K "rests_of" Iw)(mX:FI K "part_to_begin" F7)(nP:FI K "remaining" G5)(oG:FI K "left_of_pair" Gr)(n9:FI K "left_of_round" F4)(nV:FI K "ran" Ub)(oI:FJ K "begun_instants" "begun" En)(o5:FJ K "begun_leaf_instants" "begun_leaf" Dr)(oX:FI K "rests_left" Iv)(oZ:FJ K "in_turn_instants" "in_turn" E1)(mU:FJ K "side_by_side_instants" "side_by_side" De)(nB:FI K "repeated" Ke)(pE:FI K "walked" Mz)(oK:FJ K "begun_walking" "begun" Cz)(nZ:FJ K "begun_leaf_walking" "begun_leaf" D8)(mY:FJ K "in_turn_walking" "in_turn" Dw)(mW:FJ K "side_by_side_walking" "side_by_side" Cm)(oE:FI K "one_of" M4)(nU:FI K "recoded" Lb)(oR:FI K "body_to_begin" F6)(o8:FI K "instant" La)(oO:FI K "rounds" M3)(m5:FI K "settled" K9)(m6:FI K "signs_that_are" Ep)(pD:FI K "known_at_first" Eo)(oY:FI K "known_behind" Gx)(oM:FI K "changes_by" Gj)(mZ:FI K "_law_mixed" Iu)(oT:FI K "_law_at" Ld)(oU:FI K "_law_leaf" Jh)(nW:FI K "_law_deep" Fx)(m7:FI K "_law_grown" Iq)(nJ:FI K "_law_body" Jg)(pA:FI K "_law_numbered" E2)(nO:FI K "_law_program" Gs)(oH:FI K "_law_coming" Fv)(m9:FI K "_law_value" Gg)(o7:FI K "_law_least" Gh)(m4:NsR K "law" nA)(o6:FnR K nA "law" "law" Jm p9 qD o9 m8 nH pB mI pJ p7)(o4:CdR K mI "law")(pG:KpR K nA)(aC:NsR K "Wiring" C)(lI:MI K C "__init__" "Wiring.__init__" Dsk.Ow h0)(lO:MI K C "gate" "Wiring.gate" Dsk.Xf h1)(lL:MI K C "later" "Wiring.later" Dsk.Sb h2)(lT:MI K C "fill" "Wiring.fill" Dsk.AcL h3)(lS:MI K C "opposite" "Wiring.opposite" Dsk.Ra h4)(lQ:MI K C "every_of" "Wiring.every_of" Dsk.Rb h5)(lY:MI K C "some_of" "Wiring.some_of" Dsk.Tr h6)(lW:MI K C "joined" "Wiring.joined" Dsk.M0 h7)(lP:MI K C "new_part" "Wiring.new_part" Dsk.Rc h8)(pg:CI K C)(jW:findIn K (.ref C) "gates"= some none)(kH:findIn K (.ref C) "signs"= some none)(d8:findIn K (.ref C) "senders"= some none)(d4:findIn K (.ref C) "leavers"= some none)(c7:NsR K "NOTHING" c4)(jK:K.lookup c4=some ⟨Value.type "tuple",k8,.seq d5 lR,lH⟩)(c8:d5.size<=sizeLine)(d6:A0 [V.str "nothing"] d5.toList)(kB:NsR K "PAIRS" jP)(jS:K.lookup jP=some ⟨Value.type "tuple",mG,.seq kF mM,mJ⟩)(jU:kF.size<=sizeLine)(kL:A0 [V.str "then",V.str "if",V.str "beside"] kF.toList)(kE:NsR K "ROUND" jO)(kI:K.lookup jO=some ⟨Value.type "tuple",lZ,.seq kG mO,mH⟩)(jT:kG.size<=sizeLine)(jZ:A0 [V.str "again",V.str "hold",V.str "watch",V.str "trap"] kG.toList)(jQ:nsIn K mainGlobals "ENDED"= some (some (.int 0 kK)))(jY:nsIn K mainGlobals "RESTS"= some (some (.int 1 kJ)))(jL:nsIn K mainGlobals "LEAVES"= some (some (.int 2 jM)))(nQ:NsR K "Wired" CP)(lN:MI K CP "__init__" "Wired.__init__" Dsk.Zv hP)(lX:CI K CP)(kM:findIn K (.ref CP) "runs"= some none)(kO:findIn K (.ref CP) "kept"= some none)(jR:findIn K (.ref CP) "stays"= some none)(jX:findIn K (.ref CP) "rests"= some none)(kA:findIn K (.ref CP) "codes"= some none)(c5:NsN K "enumerate")(lB:NsN K "int")(b6:NsN K "isinstance")(k7:NsN K "len")(kU:NsN K "list")(kZ:NsN K "max")(k9:NsN K "min")(kP:NsN K "range")(lF:NsN K "set")(jV:NsN K "sorted")(kN:NsN K "tuple"):∃fd:FuncData,(∀(s:Shared)(v:Value),BindsTo s fd ⟨[v],[]⟩ [("_law_script",v)])/\∀base:Heap,K.In base->base.Ns mainGlobals mg->Cc l.prog w K mg base CX0 71 fa fd ["_law_script"] (Ty K):=by
 obtain⟨lI,q9,rK,rC,rT⟩:=lI;obtain⟨lO,rO,r8,rY,pV⟩:=lO;obtain⟨lL,qT,rP,qM,pW⟩:=lL;obtain⟨lT,qN,qI,qU,pU⟩:=lT;obtain⟨lS,qV,rW,rF,pY⟩:=lS;obtain⟨lQ,rX,qL,qX,pP⟩:=lQ;obtain⟨lY,qW,qJ,r9,pZ⟩:=lY;obtain⟨lW,qO,rJ,qS,p5⟩:=lW;obtain⟨lP,sD,rG,rV,pQ⟩:=lP;obtain⟨lN,rH,qR,rA,rL⟩:=lN;obtain⟨pg,hd,po,sa,mk,kc⟩:=pg;obtain⟨lX,rM,qK,qY,rD,rZ⟩:=lX;have e:=qQ.symm.trans (mg_of X G m4);cases e
 have T:Txt mg:=⟨mg_none_of X G c5,mg_none_of X G lB,mg_none_of X G b6,mg_none_of X G k7,mg_none_of X G kU,mg_none_of X G kZ,mg_none_of X G k9,mg_none_of X G kP,mg_none_of X G lF,mg_none_of X G jV,mg_none_of X G kN⟩;have Cl:Cls K C:=⟨pg,hd,po,sa⟩;have mC:=mg_of X G aC;have kY:=mg_of X G c7;have kX:Nt K c4 [V.str "nothing"]:=⟨_,_,_,jK,Z,Z,c8,d6⟩;have mB:=mg_of X G kB;have lK:Nt K jP [V.str "then",V.str "if",V.str "beside"]:=⟨_,_,_,jS,Z,Z,jU,kL⟩;have mF:=mg_of X G kE;have lV:Nt K jO [V.str "again",V.str "hold",V.str "watch",V.str "trap"]:=⟨_,_,_,kI,Z,Z,jT,jZ⟩;have kT:=mg_of X G jQ;have kR:=mg_of X G jY;have kQ:=mg_of X G jL;have gX:=Ca (st:=Dsk.Ow) rK rC rT;have jD:=bd2 (p0:="self") (p1:="signs") gX λ_ _ _ _ _ _ _ _=>rfl
 have qZ:Mk K C h0:=⟨mk,lI,q9,kc⟩;have dI:=Ca (st:=Dsk.Xf) r8 rY pV;have gY:=bd3 (p0:="self") (p1:="word") (p2:="numbers") dI λ_ _ _ _ _ _ _ _ _=>rfl
 have hJ:J3 K C "gate" h1:=⟨lO,rO,pV⟩;have cO:=Ca (st:=Dsk.Sb) rP qM pW;have eO:=bd1 (p0:="self") cO λ_ _ _ _ _ _ _=>rfl
 have eT:J3 K C "later" h2:=⟨lL,qT,pW⟩;have hX:=Ca (st:=Dsk.AcL) qI qU pU;have jE:=bd4 (p0:="self") (p1:="number") (p2:="word") (p3:="numbers") hX λ_ _ _ _ _ _ _ _ _ _=>rfl
 have jF:J3 K C "fill" h3:=⟨lT,qN,pU⟩;have cK:=Ca (st:=Dsk.Ra) rW rF pY;have fO:=bd2 (p0:="self") (p1:="number") cK λ_ _ _ _ _ _ _ _=>rfl
 have fP:J3 K C "opposite" h4:=⟨lS,qV,pY⟩;have cL:=Ca (st:=Dsk.Rb) qL qX pP;have fR:=bd2 (p0:="self") (p1:="numbers") cL λ_ _ _ _ _ _ _ _=>rfl
 have fU:J3 K C "every_of" h5:=⟨lQ,rX,pP⟩;have cV:=Ca (st:=Dsk.Tr) qJ r9 pZ;have iD:=bd2 (p0:="self") (p1:="numbers") cV λ_ _ _ _ _ _ _ _=>rfl
 have iE:J3 K C "some_of" h6:=⟨lY,qW,pZ⟩;have dQ:=Ca (st:=Dsk.M0) rJ qS p5;have iL:=bd2 (p0:="self") (p1:="pairs") dQ λ_ _ _ _ _ _ _ _=>rfl
 have iM:J3 K C "joined" h7:=⟨lW,qO,p5⟩;have cM:=Ca (st:=Dsk.Rc) rG rV pQ;have fZ:=bd1 (p0:="self") cM λ_ _ _ _ _ _ _=>rfl
 have gG:J3 K C "new_part" h8:=⟨lP,sD,pQ⟩;have iX:Ao K mg "net_of" ["program"] K2:=fI1 X G a0 λ_ _ _ _ _ _ _=>rfl
 have gI:Ao K mg "wire_part" ["wiring","part"] G6:=fI2 X G a1 λ_ _ _ _ _ _ _ _=>rfl
 have gJ:Ao K mg "wire_leaf" ["wiring","part","whole"] Jj:=fI3 X G a2 λ_ _ _ _ _ _ _ _ _=>rfl
 have gK:Ao K mg "wire_rest" ["wiring","rest","whole"] Jn:=fI3 X G a3 λ_ _ _ _ _ _ _ _ _=>rfl
 have dJ:Ao K mg "wire_leaving" ["wiring","rest","whole","memory","comes"] Gv:=fI5 X G a4 λ_ _ _ _ _ _ _ _ _ _ _=>rfl
 have gM:Ao K mg "wire_pair" ["wiring","part","whole","first","second"] Ji:=fI5 X G a5 λ_ _ _ _ _ _ _ _ _ _ _=>rfl
 have gN:Ao K mg "wire_then" ["wiring","whole","first","second"] G7:=fI4 X G a6 λ_ _ _ _ _ _ _ _ _ _=>rfl
 have iN:Ao K mg "wire_if" ["wiring","sign","whole","first","second"] Le:=fI5 X G a7 λ_ _ _ _ _ _ _ _ _ _ _=>rfl
 have dW:Ao K mg "wire_beside" ["wiring","whole","first","second"] Hg:=fI4 X G a8 λ_ _ _ _ _ _ _ _ _ _=>rfl
 have cW:Ao K mg "greater_codes" ["wiring","sides"] Ds:=fI2 X G a9 λ_ _ _ _ _ _ _ _=>rfl
 have eU:Ao K mg "wire_round" ["wiring","part","whole","inner"] Gi:=fI4 X G n8 λ_ _ _ _ _ _ _ _ _ _=>rfl
 have eV:Ao K mg "wire_again" ["wiring","rest","whole","inner"] Gf:=fI4 X G oN λ_ _ _ _ _ _ _ _ _ _=>rfl
 have cX:Ao K mg "wire_skipping" ["wiring","part","whole","inner"] F5:=fI4 X G nI λ_ _ _ _ _ _ _ _ _ _=>rfl
 have gO:Ao K mg "code_gate" ["wiring","whole","code"] Jk:=fI3 X G mT λ_ _ _ _ _ _ _ _ _=>rfl
 have bU:Ao K mg "leaf_code" ["part"] Jl:=fI1 X G oJ λ_ _ _ _ _ _ _=>rfl
 have bF:Ao K mg "code_of_again" ["code"] F3:=fI1 X G oV λ_ _ _ _ _ _ _=>rfl
 have bJ:Ao K mg "code_of_trap" ["code"] Gu:=fI1 X G nM λ_ _ _ _ _ _ _=>rfl
 have dY:Ao K mg "inner_parts" ["part"] Fu:=fI1 X G nY λ_ _ _ _ _ _ _=>rfl
 have eX:Ao K mg "every_part" ["part"] Ir:=fI1 X G oS λ_ _ _ _ _ _ _=>rfl
 have iF:Ao K mg "rests_of" ["part"] Iw:=fI1 X G oP λ_ _ _ _ _ _ _=>rfl
 have cY:Ao K mg "part_to_begin" ["part","state"] F7:=fI2 X G mX λ_ _ _ _ _ _ _ _=>rfl
 have gP:Ao K mg "remaining" ["part","state"] G5:=fI2 X G nP λ_ _ _ _ _ _ _ _=>rfl
 have dL:Ao K mg "left_of_pair" ["part","first","second"] Gr:=fI3 X G oG λ_ _ _ _ _ _ _ _ _=>rfl
 have cZ:Ao K mg "left_of_round" ["part","inner"] F4:=fI2 X G n9 λ_ _ _ _ _ _ _ _=>rfl
 have jI:Ao K mg "ran" ["part","state","there"] Ub:=fI3 X G nV λ_ _ _ _ _ _ _ _ _=>rfl
 have cP:El K mg "begun_instants" "begun" ["part","there"] En:=fJ X G oI λF=>bd2 (p0:="part") (p1:="there") F λ_ _ _ _ _ _ _ _=>rfl
 have bY:El K mg "begun_leaf_instants" "begun_leaf" ["part"] Dr:=fJ X G o5 λF=>bd1 (p0:="part") F λ_ _ _ _ _ _ _=>rfl
 have eY:Ao K mg "rests_left" ["part"] Iv:=fI1 X G oX λ_ _ _ _ _ _ _=>rfl
 have cH:El K mg "in_turn_instants" "in_turn" ["first","second"] E1:=fJ X G oZ λF=>bd2 (p0:="first") (p1:="second") F λ_ _ _ _ _ _ _ _=>rfl
 have bO:El K mg "side_by_side_instants" "side_by_side" ["first","second"] De:=fJ X G mU λF=>bd2 (p0:="first") (p1:="second") F λ_ _ _ _ _ _ _ _=>rfl
 have iH:Ao K mg "repeated" ["rest","inner"] Ke:=fI2 X G nB λ_ _ _ _ _ _ _ _=>rfl
 have iY:Ao K mg "walked" ["part","state","sure","known"] Mz:=fI4 X G pE λ_ _ _ _ _ _ _ _ _ _=>rfl
 have dB:El K mg "begun_walking" "begun" ["part","sure","known"] Cz:=fJ X G oK λF=>bd3 (p0:="part") (p1:="sure") (p2:="known") F λ_ _ _ _ _ _ _ _ _=>rfl
 have cC:El K mg "begun_leaf_walking" "begun_leaf" ["part","sure"] D8:=fJ X G nZ λF=>bd2 (p0:="part") (p1:="sure") F λ_ _ _ _ _ _ _ _=>rfl
 have cJ:El K mg "in_turn_walking" "in_turn" ["first","second"] Dw:=fJ X G mY λF=>bd2 (p0:="first") (p1:="second") F λ_ _ _ _ _ _ _ _=>rfl
 have bV:El K mg "side_by_side_walking" "side_by_side" ["first","second"] Cm:=fJ X G mW λF=>bd2 (p0:="first") (p1:="second") F λ_ _ _ _ _ _ _ _=>rfl
 have iZ:Ao K mg "one_of" ["first","second"] M4:=fI2 X G oE λ_ _ _ _ _ _ _ _=>rfl
 have iO:Ao K mg "recoded" ["inner","codes"] Lb:=fI2 X G nU λ_ _ _ _ _ _ _ _=>rfl
 have dC:Ao K mg "body_to_begin" ["program","state"] F6:=fI2 X G oR λ_ _ _ _ _ _ _ _=>rfl
 have iP:Ao K mg "instant" ["program","state","there"] La:=fI3 X G o8 λ_ _ _ _ _ _ _ _ _=>rfl
 have jB:Ao K mg "rounds" ["program","state","coming"] M3:=fI3 X G oO λ_ _ _ _ _ _ _ _ _=>rfl
 have iQ:Ao K mg "settled" ["program","state","coming"] K9:=fI3 X G m5 λ_ _ _ _ _ _ _ _ _=>rfl
 have cQ:Ao K mg "signs_that_are" ["value","known"] Ep:=fI2 X G m6 λ_ _ _ _ _ _ _ _=>rfl
 have cR:Ao K mg "known_at_first" ["program","coming"] Eo:=fI2 X G pD λ_ _ _ _ _ _ _ _=>rfl
 have dM:Ao K mg "known_behind" ["known","changes"] Gx:=fI2 X G oY λ_ _ _ _ _ _ _ _=>rfl
 have fB:Ao K mg "changes_by" ["body","known"] Gj:=fI2 X G oM λ_ _ _ _ _ _ _ _=>rfl
 have fD:Ao K mg "_law_mixed" ["_law_cell"] Iu:=fI1 X G mZ λ_ _ _ _ _ _ _=>rfl
 have iR:Ao K mg "_law_at" ["_law_script","_law_k"] Ld:=fI2 X G oT λ_ _ _ _ _ _ _ _=>rfl
 have gQ:Ao K mg "_law_leaf" ["_law_seed","_law_signs"] Jh:=fI2 X G oU λ_ _ _ _ _ _ _ _=>rfl
 have gU:Ao K mg "_law_deep" ["_law_part"] Fx:=fI1 X G nW λ_ _ _ _ _ _ _=>rfl
 have fE:Ao K mg "_law_grown" ["_law_stack","_law_seed","_law_signs"] Iq:=fI3 X G m7 λ_ _ _ _ _ _ _ _ _=>rfl
 have gW:Ao K mg "_law_body" ["_law_cells","_law_signs"] Jg:=fI2 X G nJ λ_ _ _ _ _ _ _ _=>rfl
 have dD:Ao K mg "_law_numbered" ["_law_part","_law_k"] E2:=fI2 X G pA λ_ _ _ _ _ _ _ _=>rfl
 have dN:Ao K mg "_law_program" ["_law_script","_law_most"] Gs:=fI2 X G nO λ_ _ _ _ _ _ _ _=>rfl
 have dZ:Ao K mg "_law_coming" ["_law_cell","_law_came"] Fv:=fI2 X G oH λ_ _ _ _ _ _ _ _=>rfl
 have fF:Ao K mg "_law_value" ["_law_gate","_law_state","_law_coming_here","_law_known"] Gg:=fI4 X G m9 λ_ _ _ _ _ _ _ _ _ _=>rfl
 have fG:Ao K mg "_law_least" ["_law_net","_law_state","_law_coming_here"] Gh:=fI3 X G o7 λ_ _ _ _ _ _ _ _ _=>rfl
 have jJ:=Ca (st:=Jm) o6 o4 pG;refine⟨fnOf "law" "law" (Ce Jm) (B1 Jm) (Af Jm) .none o9 m8 nH pB mI pJ,λs v=>.of_eq rfl,λbase _ _=>?_⟩;have mE:A2 (.int 0) (Value.int 0 kK):=⟨_,Z⟩;have mD:A2 (.int 1) (Value.int 1 kJ):=⟨_,Z⟩;have lM:A2 (.int 2) (Value.int 2 jM):=⟨_,Z⟩;have TR:Dk K mg c4 jP jO (Value.int 0 kK) (Value.int 1 kJ) (Value.int 2 jM):={toTxt:=T,m_ENDED:=kT,r_ENDED:=mE,m_RESTS:=kR,r_RESTS:=mD,m_LEAVES:=kQ,r_LEAVES:=lM,m_NOTHING:=kY,r_NOTHING:=rfl,mN:=kX,m_PAIRS:=mB,r_PAIRS:=rfl,mP:=lK,m_ROUND:=mF,r_ROUND:=rfl,mR:=lV};have nD:=Yj (P:=l.prog) (w:=w) (base:=base) gP TR (AgZ dL TR) (AhS cZ TR) 40;have qG:=X2 (P:=l.prog) (w:=w) (base:=base) cP TR (Agm bY TR (Li bU TR) (Agp eY TR)) (Aed cH TR) (AeU bO TR) (Afh iH TR (Uu bF TR)) (Vh bJ TR) 40;have mQ:=Af8 cY TR nD;have pM:=Adt jI TR mQ qG;have qP:=Abo (P:=l.prog) (w:=w) (base:=base) dB TR (AdU cC TR (Li bU TR)) (Acb cJ TR) (AcP bV TR) (Aet iZ TR) (Ad1 iO TR) (Uu bF TR) (Vh bJ TR) 40;have pF:=AcN iY TR mQ qP;have oQ:=AfG (P:=l.prog) (w:=w) (base:=base) dC TR nD;have pK:=AeZ iP TR oQ (AeV pM);have pI:=AdE pF;have lJ:=AdN (P:=l.prog) (w:=w) (base:=base) cR T;have oB:=AfY (P:=l.prog) (w:=w) (base:=base) dM T;have qH:=Ae7 jB T oQ lJ oB (AgL fB T pI (Afk cQ T));have qE:=Ae6 iQ T lJ oB qH;have rN:Cls K CP:=⟨lX,rM,qK,qY⟩;have TW:Dsk.Cn K mg C CP:={toTxt:=T,cl:=Cl,nG:=jW,nS:=kH,nN:=d8,nL:=d4,clP:=rN,nR:=kM,nK:=kO,nT:=jR,nE:=jX,nC:=kA,m_Wired:=mg_of X G nQ,m_Wiring:=mC,m_EN:=⟨_,kT⟩,m_RE:=⟨_,kR⟩,m_LE:=⟨_,kQ⟩};have FP:=Ca (st:=Dsk.Zv) qR rA rL;have bP:=bd4 (p0:="self") (p1:="runs") (p2:="kept") (p3:="stays") FP λ_ _ _ _ _ _ _ _ _ _=>rfl
 have MkP:Mk K CP hP:=⟨rD,lN,rH,rZ⟩;have GP:=Dsk.Ahp (P:=l.prog) (w:=w) (base:=base) FP TW;have i9:A4 l.prog w K mg base 1 C "gate" ["self","word","numbers"] (Dsk.Jo C):=⟨_,_,Dsk.AiR dI TW,gY,hJ,Cl⟩;have o3:A4 l.prog w K mg base 2 C "later" ["self"] (Dsk.Zk C):=⟨_,_,Dsk.Ah9 cO TW i9,eO,eT,Cl⟩;have d9:A4 l.prog w K mg base 1 C "fill" ["self","number","word","numbers"] (Dsk.Jt C):=⟨_,_,Dsk.AiT hX TW,jE,jF,Cl⟩;have kW:A4 l.prog w K mg base 2 C "opposite" ["self","number"] (Dsk.Oe C):=⟨_,_,Dsk.AgT cK TW i9,fO,fP,Cl⟩;have b7:A4 l.prog w K mg base 2 C "every_of" ["self","numbers"] (Dsk.Hn C):=⟨_,_,Dsk.Agx cL TW i9,fR,fU,Cl⟩;have b8:A4 l.prog w K mg base 2 C "some_of" ["self","numbers"] (Dsk.Ie C):=⟨_,_,Dsk.AhW cV TW i9,iD,iE,Cl⟩;have jN:A4 l.prog w K mg base 3 C "joined" ["self","pairs"] (Dsk.Kt C):=⟨_,_,Dsk.AhT dQ TW b8,iL,iM,Cl⟩;have qF:A4 l.prog w K mg base 3 C "new_part" ["self"] (Dsk.AaF C CP):=⟨_,_,Dsk.AhL cM TW MkP GP bP o3,fZ,gG,Cl⟩;have nX:A4 l.prog w K mg base 1 C "gate" ["self","word","numbers"] (Dsk.Zc C):=⟨_,_,Dsk.Ahk dI TW,gY,hJ,Cl⟩;have mL:A4 l.prog w K mg base 2 C "later" ["self"] (Dsk.O7 C):=⟨_,_,Dsk.AhX cO TW nX,eO,eT,Cl⟩;have GW:=Dsk.Ah2 gX TW mL;have pX:=Dsk.Aga dJ TW b7 b8;have mK:=Dsk.AgU gO TW b8;have pO:=Dsk.AiH gJ TW b8 (Li bU TR) (Dsk.Ahu gK TW i9 kW b7 pX);have pL:=Dsk.AiL gM TW d9 b8 mK (Dsk.AiM gN TW d9 kW b7 jN mK) (Dsk.AiY iN TW d9 kW b7 jN) (Dsk.AiU dW TW d9 kW b7 jN (Dsk.Ag3 cW TW b7 b8));have pH:=Dsk.AhU eU TW d9 jN (Vh bJ TR) (Dsk.AiG cX TW d9 kW b7 b8 jN) (Dsk.AhV eV TW i9 b8 jN (Uu bF TR) mK pX);have pR:=Dsk.Ah4 (P:=l.prog) (w:=w) (base:=base) dY T;have rQ:=Dsk.AcI gI TW qF pR pL pH pO 63;have qA:=Dsk.Ah1 iX TW qZ GW jD i9 d9 mK (Dsk.AiA iF T (Dsk.Ah5 eX pR)) rQ;have lA:=Dsk.Ahf (P:=l.prog) (w:=w) (base:=base) fD;have pN:=Dsk.AiQ dN T (Dsk.Aib iR T lA) (Dsk.AiP gW T lA (Dsk.Aid gQ) (Dsk.AiX fE T (Dsk.AdX gU T 60))) (Dsk.AeR dD T 63);exact Dsk.Aia jJ T pN qA lA (Dsk.AiS dZ T lA) (Dsk.AhY fG T (Dsk.AiF fF T)) qE pK
def walk{l:PySem.W.OpenLaw}{q:Program}{a1:List Str}{XP:(Str->Option Value)->Heap->Prop}{YP:World->Heap->Prop}{d:DefRec}{K:Params->FA}(hn:l.most=some 63)(a2:d.params.defaults=[])
  (hY:∀(w:World)(h:Heap),YP w h->(K w.params).In h)
  (F:∀(w:World)(mg:Str->Option Value)(fa:Addr)(h:Heap),(K w.params).In h->h.Ns mainGlobals mg->mg d.name=some (.ref fa) ->
   ∃fd:FuncData,(∀(s:Shared)(u:Value),BindsTo s fd ⟨[u],[]⟩ [("_law_script",u)])/\∀base:Heap,(K w.params).In base->base.Ns mainGlobals mg->Cc l.prog w (K w.params) mg base CX0 71 fa fd ["_law_script"] (Ty (K w.params))) :
  PySem.W.WalkO q a1 XP YP l.row.toRowW d [] (λf vs=>PySem.call f vs):=
 L2.AiO (n:=63) (k:=71) (x:="_law_script") (CX:=λ_=>CX0) (sp:=λw=>Ty (K w.params)) hn (by decide) a2 ⟨Z,by decide,by decide⟩ hY F (λ_ _ a ns hl _ hS=>⟨a,ns,Z,hS,hl,λ_=>rfl⟩) λ_ _ _ _ _ z=>z
end My
open PySem PySem.W PyProof.Rows L2
def PySem.W.Fast.tw17633379580762105180:PySem.Program:=PySem.Challenge.pw_signalwise_k46_whole_net_instant
theorem PySem.W.Fast.te17633379580762105180:PySem.Challenge.pw_signalwise_k46_whole_net_instant=PySem.W.Fast.tw17633379580762105180:=rfl
namespace PySem.W.Fast
def tw10424668216474748261:=()
def tw16402367717555782184:=()
def tw17398134736595797302:=()
def tw10825496231036503213:=()
def tw699429373826350262:=()
def tw17514316740205080886:=()
def tw3303468916302162378:=()
def tw3604884351014532311:=()
def tw11609523055570762223:=()
def tw12677914691838012448:=()
def tw3630293315952943882:=()
def tw5064198922485171220:=()
def tw16789488460253017250:=()
def tw14939915249619223151:=()
def tw2969106482435126097:=()
def tw13258937574619528677:=()
def tw7341975393463402600:=()
def tw9353284284514502125:=()
def tw2461156088620090217:=()
def tw4311072819589149594:=()
def tw3599976391892549746:=()
def tw976007339300312257:=()
def tw374021822404803248:=()
def tw13873671278627094801:=()
def tw5356106136812003283:=()
def tw2516170843260346342:=()
def tw2167041751269663304:=()
def tw13177634720369392356:=()
def tw4850403803464985689:=()
def tw11780829428234835919:=()
def tw3475010690990757678:=()
def tw6119314393863173978:=()
def tw1549168016893269425:=()
def tw12484475950961947217:=()
def tw15811546361817338359:=()
def tw10860115666902047825:=()
def tw1532140704184635473:=()
def tw10770504810645656669:=()
def tw12310806179850625892:=()
def tw4312195531297750975:=()
def tw8481632076491529862:=()
def tw13932473651887474586:=()
def tw10146935372528951830:=()
def tw8276123459577336292:=()
def tw3807619102678001940:=()
def tw14401960032169345846:=()
def tw7529292287606093117:=()
def tw11062337012801852084:=()
def tw1800377250701756954:=()
def tw17494769146895528014:=()
def tw11110127908380394528:=()
def tw3239683256088581422:=()
def tw987113183769484782:=()
def tw8787497136042848216:=()
def tw6606700270564771558:=()
def tw4266447574932624130:=()
def tw12560262421177737698:=()
def tw737286484504834673:=()
def tw15602122572788104502:=()
def tw16416405075701722907:=()
def tw16589845249867061571:=()
def tw9448225261485458915:=()
def tw3098686050836091473:=()
def tw8124132752554514489:=()
def tw6474704106852816348:=()
def tw4370023650215858735:=()
def tw14586156209238459310:=()
def tw4159946834401520723:=()
def tw9052459582219439814:=()
def tw2408969989087120164:=()
def tw8299777851551200450:=()
def tw10059070979595274170:=()
def tw6451136420389801995:=()
def tw124731537907171187:=()
def tw11195700531533250046:=()
def tw1229661204687035341:=()
def tw569929927531548806:=()
def tw3886175585096973900:=()
def tw10080359430474231271:=()
def tw3291350044842329026:=()
def tw7817713025344319081:=()
def tw12710109569989865885:=()
def tw713440184016850586:=()
def tw13881035548635675571:=()
def tw16016732526588072891:=()
def tw739365358741071911:=()
def tw2277471825015886253:=()
def tw6903329211180769776:=()
def tw10608476837935944115:=()
def tw6254827383281394710:=()
def tw17325178421302866459:=()
def tw1222120509589346493:=()
def tw12876651544227818660:=()
def tw9261871568595349435:=()
def tw1843470994814024172:=()
def tw16667093359724868842:=()
def tw3482770327558997822:=()
def tw1115014869282963965:=()
def tw16190964717060412246:=()
def tw13424088218763975492:=()
def tw6476248353728882125:=()
def tw14783864250755795932:=()
def tw14685202312442996220:=()
def tw13716738391333086328:=()
def tw14062688170771103215:=()
def tw8118307507686722488:=()
def tw10947891041030116752:=()
def tw7585467771656979458:=()
def tw4201591146920782761:=()
def tw5354840393749437756:=()
def tw2805539840916904741:=()
def tw16682599332888872185:=()
def tw17597259571651723674:=()
def tw637584932028433070:=()
def tw14914171900607558894:=()
def tw9275289918525377568:=()
def tw13008825750698073373:=()
def tw2222017516178708988:=()
def tw16216735217617235389:=()
def tw7965349480552696596:=()
def tw11867923147423980805:=()
def tw1823456390134070720:=()
def tw15290703380843436528:=()
def tw10276076930063698700:=()
def tw16995819913930228724:=()
def tw2464605689035538131:=()
def tw5571842721238026455:=()
def tw2760615998051123405:=()
def tw14447999318773786721:=()
def tw13968264100314335079:=()
def tw1036848847542225711:=()
def tw5032120713572264952:=()
def tw6378283280468173255:=()
def tw5548487972584014191:=()
def tw10166655546446336580:=()
def tw10275579767102360820:=()
def tw9491748911274096727:=()
def tw112097747435766155:=()
def tw11345373280948106053:=()
def tw17730077639836805954:=()
def tw6857330798660244948:=()
def tw254055176549669770:=()
def tw15031807932728124194:=()
def tw4905285388332474655:=()
def tw8937932461814230741:=()
def tw10882623872222449568:=()
def tw13013336877880280188:=()
def tw2265949165560234685:=()
def tw9095916476538667953:=()
def tw10084308598121369267:=()
def tw12841703444755544907:=()
def tw10002389469546018533:=()
def tw9597059929634397900:=()
def tw1764698514687592440:=()
def tw9522974291496781997:=()
def tw18290645579964124235:=()
def tw6630126403882672266:=()
def tw13949285993931672438:=()
def tw12267273572248269119:=()
def tw7077224605988852878:=()
def tw11459937975682462104:=()
def tw4075551960514038182:=()
def tw15206269729235008997:=()
def tw15843457773646016092:=()
def tw18163119826875482991:=()
def tw14855654534140113599:=()
def tw3100998408195397200:=()
def tw1007562970508686566:=()
def tw4447730256565722120:=()
def tw11246869740541106163:=()
def tw9104631485031915658:=()
def tw10238287457105419741:=()
def tw846412195814426213:=()
def tw14355973901825004508:=()
def tw11693872848722597523:=()
def tw17529345372684580981:=()
def tw8675066865973929343:=()
def tw11358208115099442569:=()
def tw5536622040817203821:=()
def tw4939719790090880197:=()
def tw10676137613036704771:=()
def tw3907967756699700207:=()
def tw13247121985514264208:=()
def tw9783525423833809371:=()
def tw11320190312086222819:=()
def tw4492088348460721298:=()
def tw14146001615304762076:=()
def tw2723663619221495483:=()
def tw17822568119050709259:=()
def tw3410949459625046810:=()
def tw5273839364795449240:=()
def tw7293114519923027301:=()
def tw3264782167423644447:=()
def tw10127589625953970683:=()
def tw4021987244096413340:=()
def tw18023641424956441273:=()
def tw11286147274108602641:=()
def tw17891806436837219741:=()
def tw2686669913368028871:=()
def tw16820316357641255778:=()
def tw12690242862910031823:=()
def tw15902018264529242164:=()
def tw7870687699977074084:=()
def tw9104219265221565576:=()
def tw13486150643918481289:=()
def tw8857786423975418721:=()
def tw13556890024596511886:=()
def tw1652729119427133755:=()
def tw14010148014380154068:=()
def tw7972513642938814788:=()
def tw10684106810404734750:=()
def tw6886180841441088931:=()
def tw7477883480888374191:=()
def tw11989578333739793557:=()
def tw13680153915352165717:=()
def tw17079102912008769774:=()
def tw6608343594020496875:=()
def tw16525814132110278875:=()
def tw13256739657819196612:=()
def tw888086869804700695:=()
def tw3967514683328951558:=()
def tw14222634047903656861:=()
def tw6875240784328651360:=()
def tw7129781260036195018:=()
def tw802633684523457527:=()
def tw4644882059085862182:=()
def tw12295372326737611741:=()
def tw6940985812969249247:=()
def tw13670842013288396637:=()
def tw18008909915619525932:=()
def tw15325149428931113036:=()
def tw10024556974169305608:=()
def tw7572766882397181630:=()
def tw2424197080991970259:=()
def tw3972929869385853643:=()
def tw8946140844632892917:=()
def tw18152867613484030341:=()
def tw7499549403762799065:=()
def tw2933021281380220319:=()
def tw13371868073484325323:=()
def tw1221149665924554382:=()
def tw5229479924726462746:=()
def tw1866453631490848981:=()
def tw9873489996696841161:=()
def tw17499117579250703093:=()
def tw12756648838784194471:=()
def tw18373834601227407020:=()
def tw5208255301808398438:=()
def tw7180853894642349696:=()
def tw10313943929667055882:=()
def tw10615163534000954616:=()
def tw1339216109984627852:=()
def tw3980981069499818190:=()
def tw7975763496476642699:=()
def tw3730636108205803204:=()
def tw12354132128621001050:=()
def tw12414137971910779100:=()
def tw7720109745477155953:=()
def tw2572145622491095499:=()
end PySem.W.Fast
set_option maxHeartbeats 0 in
theorem PySem.Challenge.cw_signalwise_k46_whole_net_instant_holds : PySem.Challenge.rw_signalwise_k46_whole_net_instant.Holds := by
 w_on; o_law; k_head; (case hw=>w_witness2)
 k_fill
 refine My.walk (l:=PySem.Challenge.rw_signalwise_k46_whole_net_instant) rfl rfl (λ w h Y=>kIn_of Y) ?F
 case F =>
  intro w mg fa h KX G hmg;refine' My.all_mk KX G hmg ?a0 ?a1 ?a2 ?a3 ?a4 ?a5 ?a6 ?a7 ?a8 ?a9 ?n8 ?oN ?nI ?mT ?oJ ?oV ?nM ?nY ?oS ?oP ?mX ?nP ?oG ?n9 ?nV ?oI ?o5 ?oX ?oZ ?mU ?nB ?pE ?oK ?nZ ?mY ?mW ?oE ?nU ?oR ?o8 ?oO ?m5 ?m6 ?pD ?oY ?oM ?mZ ?oT ?oU ?nW ?m7 ?nJ ?pA ?nO ?oH ?m9 ?o7 ?m4 ?o6 ?o4 ?pG ?aC ?lI ?lO ?lL ?lT ?lS ?lQ ?lY ?lW ?lP ?pg ?jW ?kH ?d8 ?d4 ?c7 ?jK ?c8 ?d6 ?kB ?jS ?jU ?kL ?kE ?kI ?jT ?jZ ?jQ ?jY ?jL ?nQ ?lN ?lX ?kM ?kO ?jR ?jX ?kA ?c5 ?lB ?b6 ?k7 ?kU ?kZ ?k9 ?kP ?lF ?jV ?kN
  (case a0|a1|a2|a3|a4|a5|a6|a7|a8|a9|n8|oN|nI|mT|oJ|oV|nM|nY|oS|oP|mX|nP|oG|n9|nV=>apply My.FI.mk <;> k_is)
  (case oI|o5=>apply My.FJ.mk <;> k_is)
  (case oX=>apply My.FI.mk <;> k_is)
  (case oZ|mU=>apply My.FJ.mk <;> k_is)
  (case nB|pE=>apply My.FI.mk <;> k_is)
  (case oK|nZ|mY|mW=>apply My.FJ.mk <;> k_is)
  (case oE|nU|oR|o8|oO|m5|m6|pD|oY|oM|mZ|oT|oU|nW|m7|nJ|pA|nO|oH|m9|o7=>apply My.FI.mk <;> k_is)
  (case m4|o6|o4|pG|aC=>show _ = _;k_is)
  (case lI|lO|lL|lT|lS|lQ|lY|lW|lP=>apply My.MI.mk <;> k_is)
  (case pg=>apply My.CI.mk <;> k_is)
  (case jW|kH|d8|d4|c7|jK=>show _ = _;k_is)
  (case c8=>decide)
  (case d6=>exact .cons ⟨_,Z⟩ (.nil))
  (case kB|jS=>show _ = _;k_is)
  (case jU=>decide)
  (case kL=>exact .cons ⟨_,Z⟩ (.cons ⟨_,Z⟩ (.cons ⟨_,Z⟩ (.nil))))
  (case kE|kI=>show _ = _;k_is)
  (case jT=>decide)
  (case jZ=>exact .cons ⟨_,Z⟩ (.cons ⟨_,Z⟩ (.cons ⟨_,Z⟩ (.cons ⟨_,Z⟩ (.nil)))))
  (case jQ|jY|jL|nQ=>show _ = _;k_is)
  (case lN=>apply My.MI.mk <;> k_is)
  (case lX=>apply My.CI.mk <;> k_is)
  (case kM|kO|jR|jX|kA|c5|lB|b6|k7|kU|kZ|k9|kP|lF|jV|kN=>show _ = _;k_is)
#print axioms PySem.Challenge.cw_signalwise_k46_whole_net_instant_holds

