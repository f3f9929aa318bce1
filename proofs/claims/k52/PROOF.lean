import PyProof.Rows.All
import Wide.All
import OpenK.AllK
import Wide.FinOn
import Lean
import PyProof.EqAt
import PyProof.EqKinds
import PyProof.TupleCall
import PyProof.StrLawsRepr
import KE.KItemsList
import KE.KPairComp
import KE.KDictOf
import PyProof.AttrMissHeap
import KE.LcSums
import KE.RegKTryMore
import PySem.Challenge.RW_signalwise_k52_netted
open List (Nodup Pairwise all_cons all_eq_true any_cons any_eq_true any_map append_assoc append_nil countP_cons count_append count_cons count_pos_iff ext_getElem ext_getElem? filterMap_cons filterMap_cons_none filter_append filter_cons find?_cons flatten_cons foldl foldl_cons getElem?_append_left getElem?_append_right getElem?_eq_getElem getElem?_eq_none getElem?_map getElem?_of_mem getElem?_range getElem?_set getElem?_set_ne getElem?_set_self getElem_inj getElem_mem length length_append length_cons length_drop length_eq_zero_iff length_filter_le length_map length_nil length_range length_replicate length_reverse length_set length_singleton length_take lookup_cons map_append map_cons map_map map_nil map_set map_take mem_append mem_append_left mem_append_right mem_cons mem_cons_of_mem mem_cons_self mem_filter mem_filterMap mem_map mem_nil_iff mem_of_getElem? mem_of_mem_take mem_range mem_singleton nil_append nodup_append nodup_cons nodup_nil not_mem_nil of_mem_zip pairwise_cons range_succ replicate_succ size_toArray sum_append sum_cons take_add_one take_length take_of_length_le take_succ)
open Nat (add_assoc add_le_add_left le_of_eq le_of_lt le_refl le_succ le_total le_trans lt_irrefl lt_of_le_of_lt lt_of_lt_of_le lt_or_ge lt_succ_of_lt lt_succ_self lt_trans mod_lt ne_of_gt ne_of_lt not_lt not_lt_zero succ_le_succ zero_le)
open PySem.W (KdxIt Looks callWith_K cellsFrom_some codeIn emptyDict excIn exmOne exm_one findCls findIn fnOf handedIn hasDictIn hideAll hideAll_get instObj isFn kIn_of keepIn kia_one kitOne kitx_dict kitx_list kitx_tuple lookIn makesIn methodCall_KW methodObj mg_none_of mg_of mroIn nsIn of_hideAll plainGet plainGet_of plainOver readsIn specialIn takerIn takesIn typeIn)
theorem Z{α:Sort _}{a:α}:a = a:=rfl
set_option Elab.async false
set_option linter.all false
set_option maxRecDepth 100000
namespace L2
open PySem PySem.Spec PyProof.Rows
def hJ:=@wpAny_bind
def hW:=@wpAny_pure
def hX:=@List.getElem?_eq_getElem
def hZ:=@List.length_map
def iB:=@List.length_append
def iD:=@List.length_singleton
def iE:=@List.mem_cons_self
def iF:=@List.mem_cons_of_mem
def iH:=@List.getElem?_map
def iI:=@decide_eq_true
def iJ:=@decide_eq_false
def iK:=@of_decide_eq_true
def iL:=@List.size_toArray
def iM:=@List.map_append
def iN:=@List.mem_of_getElem?
def iO:=@List.mem_append_right
def iP:=@List.take_of_length_le
def iQ:=@List.length_replicate
def iR:=@List.getElem?_append_left
def iS:=@List.getElem?_append_right
def iT:=@List.length_cons
def iU:=@List.mem_append
def iV:=@List.take_succ
def iW:=@Nat.le_trans
def iX:=@Nat.le_refl
def iY:=@Nat.lt_of_lt_of_le
def iZ:=@Nat.lt_of_le_of_lt
def jB:=@Nat.ne_of_lt
def jD:=@List.mem_singleton
def jE:=@List.length_take
def jF:=@List.length_range
def jH:=@List.not_mem_nil
def jI:=@List.append_nil
def jJ:=@List.getElem_mem
def jK:=@List.mem_cons
def jL:=@List.length_set
def jM:=@List.filter_append
def jN:=@List.getElem?_set_ne
def jO:=@List.getElem?_set_self
def jP:=@List.pairwise_cons
def jQ:=@List.nodup_cons
def jR:=@List.map_cons
def jS:=@List.mem_map
def jT:=@List.lookup_cons
def jU:=@wpAny_mono
def jV:=@wpAny_holding
def jW:=@List.mem_append_left
def jX:=@Nat.zero_le
def jY:=@wpAny_call_entry
def jZ:=@wpAny_setField_rec
theorem mS {α:Type _} {a b:α} (h:a∈[b]):a = b:=jD.mp h
theorem zN0:0≤sizeLine:=by decide
theorem zN1:1≤sizeLine:=by decide
theorem zN2:2≤sizeLine:=by decide
theorem zN3:3≤sizeLine:=by decide
theorem zN4:4≤sizeLine:=by decide
abbrev Key:=Sum Int Str
def Kd:Key→Value→Bool
 | .inl k,v=>Value.isInt k v
 | .inr x,v=>Value.isStrOf x v
def Ae1 (w:World):Key→Int
 | .inl k=>hashInt k
 | .inr x=>hashStr w x
theorem Cf:∀ {k:Key} {v:Value},Kd k v = true→(∃ i t,k = Sum.inl i∧v = Value.int i t)∨(∃ x t,k = Sum.inr x∧v = Value.str x t)
 | .inl i,v,h=>by
  obtain ⟨t,e⟩:=Value.isInt_shape (k:=i) (v:=v) h
  exact .inl ⟨i,t,Z,e⟩
 | .inr x,v,h=>by
  obtain ⟨t,e⟩:=Value.isStrOf_shape (x:=x) (v:=v) h
  exact .inr ⟨x,t,Z,e⟩
theorem Xc (i:Int) (t:Tok):Kd (.inl i) (.int i t) = true:=by simp [Kd,Value.isInt]
theorem Y6 (x:Str) (t:Tok):Kd (.inr x) (.str x t) = true:=by simp [Kd,Value.isStrOf]
theorem Acf (a b:Int):decide ((Sum.inl a:Key) = Sum.inl b) = (a == b):=by
 by_cases e:a = b
 ·subst e; simp
 ·have h:¬ (Sum.inl a:Key) = Sum.inl b:=λ q=>e (Sum.inl.inj q)
  rw [iJ h]
  exact (beq_eq_false_iff_ne.mpr e).symm
theorem Adp (a b:Str):decide ((Sum.inr a:Key) = Sum.inr b) = decide (a = b):=by
 by_cases e:a = b
 ·subst e; simp
 ·have h:¬ (Sum.inr a:Key) = Sum.inr b:=λ q=>e (Sum.inr.inj q)
  rw [iJ h,iJ e]
theorem Acw (a:Int) (b:Str):decide ((Sum.inl a:Key) = Sum.inr b) = false:=iJ (λ q=>nomatch q)
theorem AdM (a:Str) (b:Int):decide ((Sum.inr a:Key) = Sum.inl b) = false:=iJ (λ q=>nomatch q)
def mixKind (prog:Program) (w:World):PySem.KeyKind prog w Key where
 is:=Kd
 hash:=Ae1 w
 inj:=λ v a b ha hb=>by
  rcases Cf ha with ⟨i,t,rfl,rfl⟩ | ⟨x,t,rfl,rfl⟩
  ·rcases Cf hb with ⟨j,u,rfl,e⟩ | ⟨y,u,rfl,e⟩
   ·injection e with e1 _; rw [e1]
   ·exact nomatch e
  ·rcases Cf hb with ⟨j,u,rfl,e⟩ | ⟨y,u,rfl,e⟩
   ·exact nomatch e
   ·injection e with e1 _; rw [e1]
 byValue:=λ k v h=>by
  rcases Cf h with ⟨i,t,rfl,rfl⟩ | ⟨x,t,rfl,rfl⟩ <;> rfl
 pyHash:=λ hv h=>by
  rcases Cf hv with ⟨i,t,rfl,rfl⟩ | ⟨x,t,rfl,rfl⟩
  ·exact wpAny_pyHash_int h
  ·exact wpAny_pyHash_str h
 eqBool:=λ hu hv h=>by
  rcases Cf hu with ⟨i,t,rfl,rfl⟩ | ⟨x,t,rfl,rfl⟩
  ·rcases Cf hv with ⟨j,u,rfl,rfl⟩ | ⟨y,u,rfl,rfl⟩
   ·rw [Acf] at h; exact wpAny_eqBool_int h
   ·rw [Acw] at h; exact SeqAt.EqAt.int_str i t y u _ _ _ _ h
  ·rcases Cf hv with ⟨j,u,rfl,rfl⟩ | ⟨y,u,rfl,rfl⟩
   ·rw [AdM] at h; exact SeqAt.EqAt.str_int x t j u _ _ _ _ h
   ·rw [Adp] at h; exact wpAny_eqBool_str h
 «strs»:=λ k x t v h=>by
  rcases Cf h with ⟨i,u,rfl,e⟩ | ⟨y,u,rfl,e⟩
  ·exact nomatch e
  ·injection e with e1 _
   subst e1
   cases v <;> rfl
theorem Vq (prog:Program) (w:World) (k:Key) (v:Value):(mixKind prog w).is k v = Kd k v:=rfl
theorem Sn (prog:Program) (w:World) (i:Int) (t:Tok):(mixKind prog w).is (.inl i) (.int i t) = true:=Xc i t
theorem Sm (prog:Program) (w:World) (x:Str) (t:Tok):(mixKind prog w).is (.inr x) (.str x t) = true:=Y6 x t
end L2
namespace L2
open PySem PySem.Spec PyProof.Rows
inductive V where
 | non | bl (b:Bool) | int (i:Int) | str (x:Str) | byt (b:Array UInt8) | flt (b:UInt64) | ref (a:Addr) | ty (n:String)
 deriving DecidableEq
def A6:V→Value→Prop
 | .non,u=>u = Value.none
 | .bl b,u=>u = Value.bool b
 | .int i,u=>∃ t,u = Value.int i t
 | .str x,u=>∃ t,u = Value.str x t
 | .byt b,u=>∃ t,u = Value.bytes b t
 | .flt b,u=>∃ t,u = Value.float b t
 | .ref a,u=>u = Value.ref a
 | .ty n,u=>u = Value.type n
abbrev Az:List V→List Value→Prop:=Paired A6
theorem Az.length {xs:List V} {us:List Value} (r:Az xs us):xs.length = us.length:=Paired.length r
theorem Az.get:∀ {xs:List V} {us:List Value} {i:Nat} {x:V},Az xs us→xs[i]? = some x→∃ u,us[i]? = some u∧A6 x u
 | _,_,_,_,.nil,e=>by simp at e
 | _,_,0,_,.cons r _,e=>by simp at e; subst e; exact ⟨_,rfl,r⟩
 | _,_,i + 1,x,.cons _ t,e=>by
  obtain ⟨u,h1,h2⟩:=Az.get (i:=i) (x:=x) t (by simpa using e)
  exact ⟨u,by simpa using h1,h2⟩
theorem Az.set {x:V} {u:Value} (r:A6 x u):∀ {xs:List V} {us:List Value} (i:Nat),Az xs us→Az (xs.set i x) (us.set i u)
 | _,_,_,.nil=>.nil
 | _,_,0,.cons _ t=>.cons r t
 | _,_,i + 1,.cons q t=>.cons q (Az.set r i t)
theorem Az.append:∀ {xs ys:List V} {us ws:List Value},Az xs us→Az ys ws→Az (xs ++ ys) (us ++ ws)
 | _,_,_,_,.nil,s=>s
 | _,_,_,_,.cons r t,s=>.cons r (Az.append t s)
theorem Az.take:∀ {xs:List V} {us:List Value} (n:Nat),Az xs us→Az (xs.take n) (us.take n)
 | _,_,0,_=>.nil
 | _,_,_ + 1,.nil=>.nil
 | _,_,n + 1,.cons r t=>.cons r (Az.take n t)
theorem Az.drop:∀ {xs:List V} {us:List Value} (n:Nat),Az xs us→Az (xs.drop n) (us.drop n)
 | _,_,0,r=>r
 | _,_,_ + 1,.nil=>.nil
 | _,_,n + 1,.cons _ t=>Az.drop n t
def Fd:Option V→Option Value→Prop
 | some v,some u=>A6 v u
 | none,none=>True
 | _,_=>False
def KV {κ:Type}:List (κ× V)→List (κ× Value)→Prop:=Paired λ (p:κ× V) (q:κ× Value)=>p.1 = q.1∧A6 p.2 q.2
def kV:Key→V
 | .inl i=>.int i
 | .inr x=>.str x
inductive HO where
 | lst (xs:List V)
 | tup (xs:List V)
 | dK (kvs:List (Key× V)) | dT (kvs:List (List Key× V))
 | set (S:Int→Bool) (n:Nat)
 | ins (C dx:Addr) (fs:List (Str× V))
 | own (x:Addr)
 | xd (fs:List (Str× V))
 | met (f x:Addr)
 | rng (lo hi:Int)
 | frz (o:Obj) (u:HO)
 | tbl (ps:Array Value)
 | ext (φ:Heap→Prop)
abbrev Hp:=Addr→Option HO
def upd (H:Hp) (a:Addr) (o:HO):Hp:=λ b=>if b = a then some o else H b
theorem upd_same {H:Hp} {a:Addr} {o:HO}:upd H a o a = some o:=by unfold upd; rw [if_pos rfl]
theorem upd_ne {H:Hp} {a b:Addr} {o:HO} (h:b≠a):upd H a o b = H b:=by unfold upd; rw [if_neg h]
theorem Bd {H:Hp} {a b:Addr} {o u:HO} (h:H a = some o) (h':H b = some u) (d:o≠u):a≠b:=by
 intro e; subst e; rw [h] at h'; exact d (Option.some.inj h')
theorem ne_of_none {H:Hp} {a b:Addr} {o:HO} (h:H a = some o) (h':H b = none):a≠b:=by
 intro e; subst e; rw [h] at h'; cases h'
section
variable (P:Program) (w:World)
def Bt (H:Hp) (h:Heap) (a:Addr):HO→Prop
 | .lst xs=>xs.length≤sizeLine∧∃ (its:List Value) (n:Nat),Az xs its∧h.get? a = some { cls:=.type "list", data:=.seq its.toArray n }
 | .tup xs=>xs.length≤sizeLine∧∃ its:List Value,Az xs its∧IsTup h a its.toArray
 | .dK kvs=>kvs.length≤sizeLine∧(a == sysModules) = false∧∃ vs,KV kvs vs∧h.DictOf (mixKind P w) a vs
 | .dT kvs=>kvs.length≤sizeLine∧(a == sysModules) = false∧∃ xs:List (List Key× Addr× Value),
   Paired (λ (p:List Key× V) (q:List Key× Addr× Value)=>p.1 = q.1∧H q.2.1 = some (.tup (p.1.map kV))∧A6 p.2 q.2.2) kvs xs ∧
   ∃ o es ep,h.get? a = some o∧o.ExactDict∧o.data = .dict es ep∧es.toList = xs.map (entryOfKey (tupleKind (mixKind P w)))∧(xs.map (·.1)).Nodup
 | .set S n=>h.SetOf (intKind P w) a S n
 | .ins C dx fs=>H dx = some (.own a)∧fs.length≤1000∧dx≠a∧h.get? a = some (instObj C dx) ∧
   ∃ mA,h.Ns1 dx mA∧(∀ f,Fd (fs.lookup f) (mA f))∧PySem.Within mA (fs.map (·.1))
 | .own _=>∃ o,h.get? a = some o
 | .xd fs=>∃ mA,h.Ns1 a mA∧∀ f,Fd (fs.lookup f) (mA f)
 | .rng lo hi=>∃ t u v,h.get? a = some { cls:=.type "range", data:=.fields #[.int lo t,.int hi u,.int 1 v] }
 | .frz o u=>h.get? a = some o∧Bt H h a u
 | .tbl ps=>h.get? a = some { cls:=.none,data:=.fields ps }
 | .met f x=>h.get? a = some (methodObj (.ref f) (.ref x))
 | .ext φ=>φ h∧(∃ o,h.get? a = some o)∧∀ h1 h2:Heap,φ h1→(∀ o,h1.get? a = some o→h2.get? a = some o)→φ h2
def HOk (H:Hp) (h:Heap):Prop:=∀ a o,H a = some o→Bt P w H h a o
end
section
variable {P:Program} {w:World} {H H':Hp} {h h':Heap} {a:Addr} {o:HO}
theorem Bt.lt (x:Bt P w H h a o):a < h.objs.size:=by
 cases o with
 | lst xs=>obtain ⟨_,_,_,_,e⟩:=x; exact Heap.lt_size e
 | tup xs=>obtain ⟨_,_,_,p⟩:=x; exact p.lt
 | dK kvs=>obtain ⟨_,_,_,_,o,_,_,e,_⟩:=x; exact Heap.lt_size e
 | dT kvs=>obtain ⟨_,_,_,_,o,_,_,e,_⟩:=x; exact Heap.lt_size e
 | set S n=>obtain ⟨o,_,_,_,e,_⟩:=x; exact Heap.lt_size e
 | ins C dx fs=>obtain ⟨_,_,_,e,_⟩:=x; exact Heap.lt_size e
 | own y=>obtain ⟨_,e⟩:=x; exact Heap.lt_size e
 | xd fs=>obtain ⟨_,⟨_,_,_,e,_⟩,_⟩:=x; exact Heap.lt_size e
 | rng lo hi=>obtain ⟨_,_,_,e⟩:=x; exact Heap.lt_size e
 | frz ob u=>obtain ⟨e,_⟩:=x; exact Heap.lt_size e
 | tbl ps=>exact Heap.lt_size (show h.get? a = some _ from x)
 | met f y=>exact Heap.lt_size (show h.get? a = some _ from x)
 | ext φ=>obtain ⟨_,⟨_,e⟩,_⟩:=x; exact Heap.lt_size e
theorem Paired.mapP {α β:Type} {F G:α→β→Prop}:∀ {l₁:List α} {l₂:List β},Paired F l₁ l₂→(∀ a b,F a b→G a b)→Paired G l₁ l₂
 | _,_,.nil,_=>.nil
 | _,_,.cons r t,f=>.cons (f _ _ r) (Paired.mapP t f)
theorem Bt.stay (x:Bt P w H h a o) (k:∀ b u,(b = a∨H b = some (.own a))→h.get? b = some u→h'.get? b = some u)
  (ho:∀ b,H b = some (.own a)→H' b = some (.own a)) (ht:∀ b xs,H b = some (.tup xs)→H' b = some (.tup xs)):Bt P w H' h' a o:=by
 induction o with
 | lst xs=>obtain ⟨z,a1,n,r,e⟩:=x; exact ⟨z,a1,n,r,k _ _ (.inl rfl) e⟩
 | tup xs=>obtain ⟨z,a1,r,ob,e,c⟩:=x; exact ⟨z,a1,r,ob,k _ _ (.inl rfl) e,c⟩
 | dK kvs=>obtain ⟨z,y,vs,r,ob,es,ep,e,c⟩:=x; exact ⟨z,y,vs,r,ob,es,ep,k _ _ (.inl rfl) e,c⟩
 | dT kvs =>
  obtain ⟨z,y,xs,r,ob,es,ep,e,c⟩:=x
  exact ⟨z,y,xs,Paired.mapP r λ p q z=>⟨z.1,ht _ _ z.2.1,z.2.2⟩,ob,es,ep,k _ _ (.inl rfl) e,c⟩
 | set S n=>obtain ⟨ob,es,ep,t,e,c⟩:=x; exact ⟨ob,es,ep,t,k _ _ (.inl rfl) e,c⟩
 | ins C dx fs =>
  obtain ⟨d,z,ne,e,mA,⟨od,es,ep,e2,c⟩,r⟩:=x
  exact ⟨ho _ d,z,ne,k _ _ (.inl rfl) e,mA,⟨od,es,ep,k _ _ (.inr d) e2,c⟩,r⟩
 | own y=>obtain ⟨ob,e⟩:=x; exact ⟨ob,k _ _ (.inl rfl) e⟩
 | xd fs=>obtain ⟨mA,⟨od,es,ep,e,c⟩,r⟩:=x; exact ⟨mA,⟨od,es,ep,k _ _ (.inl rfl) e,c⟩,r⟩
 | rng lo hi=>obtain ⟨t,u,v,e⟩:=x; exact ⟨t,u,v,k _ _ (.inl rfl) e⟩
 | frz ob u ih=>obtain ⟨e,q⟩:=x; exact ⟨k _ _ (.inl rfl) e,ih q⟩
 | tbl ps =>
  have e:h.get? a = some { cls:=.none,data:=.fields ps }:=x
  show h'.get? a = some { cls:=.none,data:=.fields ps }
  exact k a _ (.inl rfl) e
 | met f y =>
  have e:h.get? a = some (methodObj (.ref f) (.ref y)):=x
  show h'.get? a = some (methodObj (.ref f) (.ref y))
  exact k a _ (.inl rfl) e
 | ext φ=>obtain ⟨p,⟨o,e⟩,st⟩:=x; exact ⟨st _ _ p λ o q=>k _ _ (.inl rfl) q,⟨o,k _ _ (.inl rfl) e⟩,st⟩
theorem HOk.lt (x:HOk P w H h) (e:H a = some o):a < h.objs.size:=(x a o e).lt
theorem HOk.fresh (x:HOk P w H h) (e:h.objs.size≤a):H a = none:=by
 cases q:H a with
 | none=>rfl
 | some u=>exact absurd (iY (x.lt q) e) (lt_irrefl _)
theorem HOk.kept (x:HOk P w H h) (k:∀ b u,h.get? b = some u→h'.get? b = some u):HOk P w H h':=λ a o e =>
 (x a o e).stay (λ b u _ q=>k b u q) (λ _ q=>q) λ _ _ q=>q
theorem HOk.laid (x:HOk P w H h) (k:∀ b u,h.get? b = some u→h'.get? b = some u) (hp:h.objs.size≤a) (new:Bt P w (upd H a o) h' a o):HOk P w (upd H a o) h':=λ b u e=>by
 have hn:=x.fresh hp
 by_cases hb:b = a
 ·subst hb; rw [upd_same] at e; cases e; exact new
 ·rw [upd_ne hb] at e
  exact (x b u e).stay (λ c v _ q=>k c v q) (λ c q=>by rw [upd_ne (ne_of_none q hn)]; exact q) λ c xs q=>by rw [upd_ne (ne_of_none q hn)]; exact q
end
def Rd (H:Hp) (a:Addr) (u:HO):Prop:=H a = some u∨∃ o,H a = some (.frz o u)
theorem Rd.ok {P:Program} {w:World} {H:Hp} {h:Heap} {a:Addr} {u:HO} (r:Rd H a u) (x:HOk P w H h):Bt P w H h a u:=by
 rcases r with r | ⟨o,r⟩
 ·exact x a u r
 ·obtain ⟨_,q⟩:=x a _ r
  exact q
def Mut:Option HO→Prop
 | some (.lst _)=>True
 | some (.dK _)=>True
 | some (.dT _)=>True
 | some (.set _ _)=>True
 | some (.ins _ _ _)=>True
 | some (.ext _)=>True
 | _=>False
section
variable {P:Program} {w:World} {H:Hp} {h h':Heap} {x e:Addr} {o':HO}
theorem HOk.write (ok:HOk P w H h) (mu:Mut (H x)) (he:e = x∨H e = some (.own x)) (k:∀ b u,b≠e→h.get? b = some u→h'.get? b = some u) (a4:∃ u,h'.get? e = some u)
  (new:Bt P w (upd H x o') h' x o'):HOk P w (upd H x o') h':=λ b u q=>by
 have a2:∀ c y,H c = some (.own y)→c≠x:=λ c y r z=>by subst z; rw [r] at mu; exact mu
 have a3:∀ c xs,H c = some (.tup xs)→c≠x:=λ c xs r z=>by subst z; rw [r] at mu; exact mu
 by_cases hb:b = x
 ·subst hb; rw [upd_same] at q; cases q; exact new
 ·rw [upd_ne hb] at q
  by_cases a1:b = e
  ·have q':H b = some (.own x):=by
    rcases he with z | z
    ·exact absurd (a1.trans z) hb
    ·rw [a1]; exact z
   rw [q] at q'; cases q'
   obtain ⟨v,hv⟩:=a4
   exact ⟨v,by rw [a1]; exact hv⟩
  ·refine (ok b u q).stay (λ c v hc r=>k c v ?_ r) (λ c r=>by rw [upd_ne (a2 c b r)]; exact r) λ c xs r=>by rw [upd_ne (a3 c xs r)]; exact r
   rcases hc with rfl | hc
   ·exact a1
   ·rintro rfl
    rcases he with z | z
    ·exact a2 c b hc z
    ·rw [hc] at z; cases z; exact hb rfl
end
structure Un (fs ex:List Addr) (H H':Hp) (h h':Heap):Prop where
 keep:∀ b o,h.get? b = some o→H b = none→b∉fs→b∉ex→h'.get? b = some o
 slot:∀ b o,h.get? b = some o→H b = none→b∈fs→b∉ex→∃ sl,h'.get? b = some { o with slots:=sl }
 free:∀ b o,h.get? b = some o→H b = none→b∉ex→H' b = none
 there:∀ b o,h.get? b = some o→b∉ex→∃ o',h'.get? b = some o'
 tups:∀ b xs,H b = some (.tup xs)→H' b = some (.tup xs)
 frzs:∀ b o u,H b = some (.frz o u)→H' b = some (.frz o u)
 tbls:∀ b ps,H b = some (.tbl ps)→∃ more,H' b = some (.tbl (ps ++ more))
section
variable {fs fs' ex ex':List Addr} {H H1 H2:Hp} {h h1 h2 h':Heap} {a x e:Addr} {o:HO}
theorem Un.any (u:Un fs ex H H1 h h1) {b:Addr} {ob:Obj} (q:h.get? b = some ob) (n:H b = none) (hx:b∉ex):∃ sl,h1.get? b = some { ob with slots:=sl }:=by
 by_cases hb:b∈fs
 ·exact u.slot b ob q n hb hx
 ·exact ⟨ob.slots,u.keep b ob q n hb hx⟩
theorem Un.kept (k:∀ b u,h.get? b = some u→h'.get? b = some u):Un fs ex H H h h' :=
 ⟨λ b ob q _ _ _=>k b ob q,λ b ob q _ _ _=>⟨ob.slots,k b ob q⟩,λ _ _ _ n _=>n,λ b ob q _=>⟨ob,k b ob q⟩,λ _ _ q=>q,λ _ _ _ q=>q,λ _ ps q=>⟨#[],by rw [q]; simp⟩⟩
theorem Un.refl:Un fs ex H H h h:=Un.kept λ _ _ q=>q
theorem Un.laid (k:∀ b u,h.get? b = some u→h'.get? b = some u) (hp:h.objs.size≤a) (hn:H a = none):Un fs ex H (upd H a o) h h' where
 keep:=λ b u q _ _ _=>k b u q
 slot:=λ b u q _ _ _=>⟨u.slots,k b u q⟩
 free:=λ b u q n _=>by rw [upd_ne (jB (iY (Heap.lt_size q) hp))]; exact n
 there:=λ b u q _=>⟨u,k b u q⟩
 tups:=λ b xs q=>by rw [upd_ne (ne_of_none q hn)]; exact q
 frzs:=λ b u xs q=>by rw [upd_ne (ne_of_none q hn)]; exact q
 tbls:=λ b ps q=>⟨#[],by rw [upd_ne (ne_of_none q hn),q]; simp⟩
theorem Un.write (mu:Mut (H x)) (he:e = x∨H e = some (.own x)) (k:∀ b u,b≠e→h.get? b = some u→h'.get? b = some u) (a2:∃ u,h'.get? e = some u):Un fs ex H (upd H x o) h h':=by
 have hx:∀ b,H b = none→b≠x:=λ b n z=>by subst z; rw [n] at mu; exact mu
 have hb:∀ b,H b = none→b≠e:=λ b n z=>by
  subst z
  rcases he with r | r
  ·exact hx b n r
  ·rw [n] at r; cases r
 have hm:∀ b u,H b = some u→¬ Mut (some u)→b≠x:=λ b u q nm z=>by subst z; rw [q] at mu; exact nm mu
 refine ⟨λ b u q n _ _=>k b u (hb b n) q,λ b u q n _ _=>⟨u.slots,k b u (hb b n) q⟩,λ b u q n _=>by rw [upd_ne (hx b n)]; exact n,λ b u q _=>?_,
  λ b xs q=>by rw [upd_ne (hm b _ q λ z=>z)]; exact q,λ b u xs q=>by rw [upd_ne (hm b _ q λ z=>z)]; exact q,λ b ps q=>⟨#[],by rw [upd_ne (hm b _ q λ z=>z),q]; simp⟩⟩
 by_cases a1:b = e
 ·subst a1; exact a2
 ·exact ⟨u,k b u a1 q⟩
end
def trk (h:Heap) (H:Hp):List Addr:=(List.range h.objs.size).filter λ a=>(H a).isSome
def J8 (h:Heap) (H:Hp):Heap:=hideAll h (trk h H)
theorem X0 (h:Heap) (H:Hp):(J8 h H).objs.size = h.objs.size:=PySem.W.hideAll_size _ _
theorem Aak {h:Heap} {H:Hp} {b:Addr} {o:Obj} (e:h.get? b = some o) (n:H b = none):(J8 h H).get? b = some o :=
 hideAll_get _ e λ hm=>by
  have q:(H b).isSome = true:=(mem_filter.mp hm).2
  rw [n] at q; simp at q
theorem Abm {h:Heap} {H:Hp} {b:Addr} {o:Obj} (e:(J8 h H).get? b = some o):h.get? b = some o∧H b = none:=by
 have e':h.get? b = some o:=of_hideAll (trk h H) e
 refine ⟨e',?_⟩
 cases q:H b with
 | none=>rfl
 | some x =>
  have hm:b∈trk h H:=mem_filter.mpr ⟨mem_range.mpr (Heap.lt_size e'),by simp [q]⟩
  have z:(J8 h H).get? b = none:=PySem.W.hideAll_none (trk h H) hm
  rw [z] at e; cases e
def Acd (g h:Heap) (L:Addr):List (Addr× Obj):=(List.range h.objs.size).filterMap λ a=>if a = L∨(g.get? a).isSome = true then none else (h.get? a).map λ o=>(a,o)
def rest (g h:Heap) (L d:Addr):List (Addr× Obj):=(Acd g h L).filter λ p=>decide (p.1≠d)
end L2
namespace L2
open PySem PySem.Spec PyProof.Rows
structure Mod (K:PySem.W.Frag) (mg:Str→Option Value) (base:Heap):Prop where
 kin:K.In base
 glob:base.Ns mainGlobals mg
 blt:∃ mb,base.Ns builtinsNs mb∧∀ x:Str,x≠ "__name__" → mb x = bootBuiltins x
 nolimit:base.NoLimit
structure Cx where
 prog:Program
 w:World
 K:PySem.W.Frag
 mg:Str→Option Value
 base:Heap
 A:Around
 N:List Str
 s₀:Shared
 H₀:Hp
 env:Env
 outer:List Env
 stack:List Env
 ex:List Addr
 fn:Str→Bool
 calm:Bool
 pn:List (Addr× Obj)
 xe:Value→Shared→Prop
def frs (l:List Env):List Addr:=l.filterMap (·.frame)
abbrev Cx.fs (X:Cx):List Addr:=frs X.outer
def Vis (sc:Scope) (x:Str):Prop:=sc.names.lookup x = some .local∨sc.names.lookup x = some .cell∨sc.names.lookup x = some .free
def Loc (sc:Scope) (x:Str):Prop:=sc.names.lookup x = some .local∨sc.names.lookup x = some .cell
def Ac6 (env:Env) (h:Heap) (m:Str→Option Value) (x:Str) (u:Value):Prop :=
 (env.kindOf x = some .local∧m x = some u)∨((env.kindOf x = some .cell∨env.kindOf x = some .free)∧∃ c,env.cells.lookup x = some c∧h.IsCell c (some u))
structure Cx.Ok (X:Cx):Prop where
 mod:Mod X.K X.mg X.base
 kind:X.env.scope.kind = .function
 glob:X.env.globals = mainGlobals
 blt:X.env.builtins = builtinsNs
 above:X.s₀.heap.objs.size≤X.env.locals
 inj:∀ x y c,X.env.cells.lookup x = some c→X.env.cells.lookup y = some c→x = y
 has:∀ x,(X.env.kindOf x = some .cell∨X.env.kindOf x = some .free)→∃ c,X.env.cells.lookup x = some c
 cab:∀ x c,X.fn x = true→X.env.cells.lookup x = some c→X.s₀.heap.objs.size≤c
 hd:X.calm = true→X.A.handled = none
 frames:X.A.frames = some X.stack
 stk:X.stack = X.outer∨(X.stack = X.env :: X.outer∧X.env.frame = some X.env.locals)
 exf:∀ b∈X.ex,b≠X.env.locals∧∀ x c,X.env.cells.lookup x = some c→c≠b
 bs:∀ b o,X.base.get? b = some o→X.s₀.heap.get? b = some o∧X.H₀ b = none
 bsz:X.base.objs.size≤X.s₀.heap.objs.size
 noex:∀ b o,X.base.get? b = some o→b∉X.ex
 exfs:∀ b∈X.ex,b∉X.fs
 funs:X.s₀.heap.FunFrames X.base X.outer
 frf:∀ b∈X.fs,X.H₀ b = none
structure Inv (X:Cx) (pins:List (Addr× Obj)) (σ:List (Option V)) (H:Hp) (s:Shared):Prop where
 ok:X.Ok
 os:s.os = X.s₀.os
 bare:AllBare s.gens
 base:Un X.fs X.ex X.H₀ H X.s₀.heap s.heap
 loc:∃ m,s.heap.Ns X.env.locals m∧∀ (i:Nat) (x:Str) (v:V),X.N[i]? = some x→σ[i]? = some (some v)→Vis X.env.scope x→∃ u,A6 v u∧Ac6 X.env s.heap m x u
 cell:∀ x c,X.env.cells.lookup x = some c→∃ v,s.heap.IsCell c v
 free:H X.env.locals = none
 freeC:∀ x c,X.env.cells.lookup x = some c→H c = none
 pin:∀ p∈X.pn ++ pins,s.heap.get? p.1 = some p.2∧H p.1 = none∧p.1≠X.env.locals∧p.1∉X.fs∧∀ v,p.2.data≠.cell v
 hok:HOk X.prog X.w H s.heap
 len:σ.length = X.N.length
section
variable {X:Cx} {pins:List (Addr× Obj)} {σ:List (Option V)} {H H':Hp} {s:Shared} {h':Heap}
theorem Cx.Ok.nofr (ok:X.Ok) {b:Addr} {o:Obj} (e:X.base.get? b = some o):b∉X.fs:=λ hb=>by
 have:=(ok.funs.mem hb).1
 rw [e] at this; cases this
theorem Inv.bs (I:Inv X pins σ H s):∀ b o,X.base.get? b = some o→s.heap.get? b = some o∧H b = none:=λ b o e =>
 ⟨I.base.keep b o (I.ok.bs b o e).1 (I.ok.bs b o e).2 (I.ok.nofr e) (I.ok.noex b o e),I.base.free b o (I.ok.bs b o e).1 (I.ok.bs b o e).2 (I.ok.noex b o e)⟩
theorem Inv.bk (I:Inv X pins σ H s):∀ b o,X.base.get? b = some o→s.heap.get? b = some o:=λ b o e=>(I.bs b o e).1
theorem Inv.mod (I:Inv X pins σ H s):Mod X.K X.mg X.base:=I.ok.mod
theorem Inv.kIn (I:Inv X pins σ H s):X.K.In s.heap:=I.ok.mod.kin.keeps I.bk
theorem Inv.lt (I:Inv X pins σ H s):X.env.locals < s.heap.objs.size:=let ⟨_,hn,_⟩:=I.loc; hn.lt
theorem Inv.sz (I:Inv X pins σ H s):X.s₀.heap.objs.size≤s.heap.objs.size:=iW I.ok.above (le_of_lt I.lt)
theorem Inv.nofs (I:Inv X pins σ H s) {a:Addr} (h:s.heap.objs.size≤a):a∉X.fs:=λ hb=>by
 obtain ⟨_,o,ho,_⟩:=I.ok.funs.mem hb
 exact absurd (iY (Heap.lt_size ho) (iW I.sz h)) (lt_irrefl _)
theorem Inv.cne (I:Inv X pins σ H s):∀ x c,X.env.cells.lookup x = some c→c≠X.env.locals:=λ x c e z=>by
 obtain ⟨v,o,ho,hd⟩:=I.cell x c e
 obtain ⟨m,⟨o',es,ep,a1,a2,_⟩,_⟩:=I.loc
 rw [z,a1] at ho; cases ho; rw [a2] at hd; cases hd
theorem Inv.funs (I:Inv X pins σ H s):s.heap.FunFrames X.base X.outer:=by
 have all:∀ (l:List Env),(∀ b∈frs l,b∈X.fs)→X.s₀.heap.FunFrames X.base l→s.heap.FunFrames X.base l:=by
  intro l
  induction l with
  | nil=>intro _ _; trivial
  | cons env r ih =>
   intro hs hl
   obtain ⟨hk,⟨L,o,hf,hn,ho,hd⟩,hr⟩:=hl
   have hL:L∈X.fs:=hs L (by unfold frs; rw [filterMap_cons,hf]; exact iE)
   obtain ⟨sl,e⟩:=I.base.slot L o ho (I.ok.frf L hL) hL λ z=>I.ok.exfs L z hL
   exact ⟨hk,⟨L,_,hf,hn,e,hd⟩,ih (λ b hb=>hs b (by unfold frs; rw [filterMap_cons,hf]; exact iF _ hb)) hr⟩
 exact all X.outer (λ _ hb=>hb) I.ok.funs
theorem Inv.stack (I:Inv X pins σ H s):s.heap.FunFrames X.base X.stack:=by
 rcases I.ok.stk with e | ⟨e,hf⟩
 ·rw [e]; exact I.funs
 ·rw [e]
  obtain ⟨m,hn,_⟩:=I.loc
  refine .cons (by rw [I.ok.kind]; decide) hf hn ?_ I.funs
  exact Heap.get?_none_of_le (iW I.ok.bsz I.ok.above)
theorem Inv.stkSub (I:Inv X pins σ H s):∀ b∈frs X.stack,b∈X.env.locals :: X.fs:=λ b hb=>by
 rcases I.ok.stk with e | ⟨e,hf⟩
 ·rw [e] at hb; exact iF _ hb
 ·rw [e] at hb
  unfold frs at hb
  rw [filterMap_cons,hf] at hb
  exact hb
theorem Inv.stkFree (I:Inv X pins σ H s):∀ b∈frs X.stack,H b = none:=λ b hb=>by
 rcases jK.mp (I.stkSub b hb) with e | hb
 ·rw [e]; exact I.free
 ·obtain ⟨_,o,ho,_⟩:=I.ok.funs.mem hb
  exact I.base.free b o ho (I.ok.frf b hb) λ z=>I.ok.exfs b z hb
theorem Inv.step {g':Array GenState} {t':Nat} {d':Drawn} {ch:List Addr} (I:Inv X pins σ H s)
  (a2:∀ b∈ch,(b∈X.ex∨X.s₀.heap.objs.size≤b)∧b≠X.env.locals∧(∀ x c,X.env.cells.lookup x = some c→c≠b)∧∀ p∈X.pn ++ pins,p.1≠b)
  (keep:∀ b o,b≠X.env.locals→b∉X.fs→b∉ch→s.heap.get? b = some o→H b = none→h'.get? b = some o)
  (slot:∀ b o,b≠X.env.locals→b∈X.fs→b∉ch→s.heap.get? b = some o→H b = none→∃ sl,h'.get? b = some { o with slots:=sl }) (free:∀ b o,b∉ch→s.heap.get? b = some o→H b = none→H' b = none)
  (there:∀ b o,b∉ch→s.heap.get? b = some o→∃ o',h'.get? b = some o')
  (tups:∀ b xs,H b = some (.tup xs)→H' b = some (.tup xs)) (frzs:∀ b o u,H b = some (.frz o u)→H' b = some (.frz o u)) (tbls:∀ b ps,H b = some (.tbl ps)→∃ more,H' b = some (.tbl (ps ++ more)))
  (ns:∀ m,s.heap.Ns X.env.locals m→h'.Ns X.env.locals m) (hok:HOk X.prog X.w H' h') (hg:AllBare g') :
  Inv X pins σ H' { s with heap:=h',gens:=g',drawn:=d',toks:=t' }:=by
 have a5:∀ b o,X.s₀.heap.get? b = some o→b≠X.env.locals:=λ b o e=>jB (iY (Heap.lt_size e) I.ok.above)
 have a4:∀ b o,X.s₀.heap.get? b = some o→b∉X.ex→b∉ch:=λ b o e hx hb=>by
  rcases (a2 b hb).1 with z | z
  ·exact hx z
  ·exact absurd (iY (Heap.lt_size e) z) (lt_irrefl _)
 have a3:∀ x c,X.env.cells.lookup x = some c→∀ v,s.heap.IsCell c v→h'.IsCell c v:=λ x c e v ⟨o,ho,hd⟩=>by
  have a1:c∉ch:=λ z=>(a2 c z).2.2.1 x c e rfl
  by_cases hc:c∈X.fs
  ·obtain ⟨sl,q⟩:=slot c o (I.cne x c e) hc a1 ho (I.freeC x c e)
   exact ⟨_,q,hd⟩
  ·exact ⟨o,keep c o (I.cne x c e) hc a1 ho (I.freeC x c e),hd⟩
 refine ⟨I.ok,I.os,hg,⟨λ b o e n hb hx=>?_,λ b o e n hb hx=>?_,λ b o e n hx=>?_,λ b o e hx=>?_,λ b xs e=>tups b xs (I.base.tups b xs e),λ b o xs e=>frzs b o xs (I.base.frzs b o xs e),λ b ps e=>?_⟩,?_,λ x c e=>?_,?_,λ x c e=>?_,λ p hp=>?_,hok,I.len⟩
 ·exact keep b o (a5 b o e) hb (a4 b o e hx) (I.base.keep b o e n hb hx) (I.base.free b o e n hx)
 ·obtain ⟨sl,e1⟩:=I.base.slot b o e n hb hx
  obtain ⟨sl',e2⟩:=slot b _ (a5 b o e) hb (a4 b o e hx) e1 (I.base.free b o e n hx)
  exact ⟨sl',e2⟩
 ·obtain ⟨o',e1⟩:=I.base.there b o e hx
  exact free b o' (a4 b o e hx) e1 (I.base.free b o e n hx)
 ·obtain ⟨o',e1⟩:=I.base.there b o e hx
  exact there b o' (a4 b o e hx) e1
 ·obtain ⟨m1,e1⟩:=I.base.tbls b ps e
  obtain ⟨m2,e2⟩:=tbls b _ e1
  exact ⟨m1 ++ m2,by rw [e2,Array.append_assoc]⟩
 ·obtain ⟨m,hn,hl⟩:=I.loc
  refine ⟨m,ns m hn,λ i x v e1 e2 e3=>?_⟩
  obtain ⟨u,r,l⟩:=hl i x v e1 e2 e3
  refine ⟨u,r,?_⟩
  rcases l with l | ⟨k,c,e,z⟩
  ·exact .inl l
  ·exact .inr ⟨k,c,e,a3 x c e _ z⟩
 ·obtain ⟨v,z⟩:=I.cell x c e
  exact ⟨v,a3 x c e v z⟩
 ·obtain ⟨m,⟨o,_,_,ho,_⟩,_⟩:=I.loc
  exact free _ o (λ z=>(a2 _ z).2.1 rfl) ho I.free
 ·obtain ⟨v,o,ho,hd⟩:=I.cell x c e
  exact free c o (λ z=>(a2 c z).2.2.1 x c e rfl) ho (I.freeC x c e)
 ·obtain ⟨e,n,ne,nf,d⟩:=I.pin p hp
  have a1:p.1∉ch:=λ z=>(a2 p.1 z).2.2.2 p hp rfl
  exact ⟨keep p.1 p.2 ne nf a1 e n,free p.1 p.2 a1 e n,ne,nf,d⟩
theorem Inv.un {t':Nat} (I:Inv X pins σ H s) (u:Un X.fs [] H H' s.heap h') (hok:HOk X.prog X.w H' h'):Inv X pins σ H' { s with heap:=h',toks:=t' }:=by
 obtain ⟨m,⟨o,es,ep,ho,r⟩,_⟩:=id I.loc
 obtain ⟨sl,hL⟩:=u.any ho I.free (by simp)
 exact I.step (g':=s.gens) (d':=s.drawn) (ch:=[]) (λ _ z=>nomatch z) (λ b o _ hb _ e n=>u.keep b o e n hb (by simp)) (λ b o _ hb _ e n=>u.slot b o e n hb (by simp)) (λ b o _ e n=>u.free b o e n (by simp)) (λ b o _ e=>u.there b o e (by simp)) u.tups u.frzs u.tbls (λ m' hm=>by
  obtain ⟨o',a3,a2,a1,r'⟩:=hm
  rw [ho] at a1; cases a1
  exact ⟨_,a3,a2,hL,r'⟩) hok I.bare
theorem Inv.call {g':Array GenState} {t':Nat} {d':Drawn} {ch:List Addr} (I:Inv X pins σ H s) (u:Un (frs X.stack) ch H H' s.heap h') (hok:HOk X.prog X.w H' h') (hg:AllBare g')
  (a2:∀ b∈ch,(b∈X.ex∨X.s₀.heap.objs.size≤b)∧b≠X.env.locals∧(∀ x c,X.env.cells.lookup x = some c→c≠b)∧∀ p∈X.pn ++ pins,p.1≠b) :
  Inv X pins σ H' { s with heap:=h',gens:=g',drawn:=d',toks:=t' }:=by
 obtain ⟨m,⟨o,es,ep,ho,r⟩,_⟩:=id I.loc
 obtain ⟨sl,hL⟩:=u.any ho I.free λ z=>(a2 _ z).2.1 rfl
 exact I.step (ch:=ch) a2 (λ b o hL hb hc e n=>u.keep b o e n (λ z=>(jK.mp (I.stkSub b z)).elim hL hb) hc) (λ b o _ _ hc e n=>u.any e n hc) (λ b o hc e n=>u.free b o e n hc) (λ b o hc e=>u.there b o e hc) u.tups u.frzs u.tbls (λ m' hm=>by
  obtain ⟨o',a4,a3,a1,r'⟩:=hm
  rw [ho] at a1; cases a1
  exact ⟨_,a4,a3,hL,r'⟩) hok hg
theorem Inv.turned {t':Nat} {it:Addr} (I:Inv X pins σ H s) (k:∀ b o,b≠it→s.heap.get? b = some o→h'.get? b = some o) (hn:H it = none) (hL:it≠X.env.locals)
  (h1:it∈X.ex∨X.s₀.heap.objs.size≤it) (h2:∀ x c,X.env.cells.lookup x = some c→c≠it) (h3:∀ p∈X.pn ++ pins,p.1≠it):Inv X pins σ H { s with heap:=h',toks:=t' }:=by
 have a1:∀ b u,H b = some u→b≠it:=λ b u e z=>by rw [z,hn] at e; cases e
 refine I.step (g':=s.gens) (d':=s.drawn) (ch:=[it]) (λ b hb=>?_) (λ b o _ _ hc e _=>k b o (λ z=>hc (by simp [z])) e) (λ b o _ _ hc e _=>⟨o.slots,k b o (λ z=>hc (by simp [z])) e⟩) (λ _ _ _ _ n=>n)
  (λ b o hc e=>⟨o,k b o (λ z=>hc (by simp [z])) e⟩) (λ _ _ e=>e) (λ _ _ _ e=>e) (λ b ps e=>⟨#[],by rw [e]; simp⟩) (λ m hm=>?_) (λ b u e=>?_) I.bare
 ·have e:b = it:=by simpa using hb
  subst e
  exact ⟨h1,hL,h2,h3⟩
 ·obtain ⟨o,es,ep,ho,r⟩:=hm
  exact ⟨o,es,ep,k _ o (Ne.symm hL) ho,r⟩
 ·refine (I.hok b u e).stay (λ c v hc q=>k c v ?_ q) (λ _ q=>q) λ _ _ q=>q
  rcases hc with z | z
  ·rw [z]; exact a1 b u e
  ·exact a1 c _ z
theorem Inv.tok (I:Inv X pins σ H s) (t:Nat):Inv X pins σ H { s with toks:=t }:=I.un (h':=s.heap) (t':=t) Un.refl I.hok
theorem Inv.kept {t':Nat} (I:Inv X pins σ H s) (k:∀ b u,s.heap.get? b = some u→h'.get? b = some u):Inv X pins σ H { s with heap:=h',toks:=t' }:=I.un (Un.kept k) (I.hok.kept k)
theorem Inv.laid {a:Addr} {o:HO} {t':Nat} (I:Inv X pins σ H s) (k:∀ b u,s.heap.get? b = some u→h'.get? b = some u) (hp:s.heap.objs.size≤a) (new:Bt X.prog X.w (upd H a o) h' a o) :
  Inv X pins σ (upd H a o) { s with heap:=h',toks:=t' }:=I.un (Un.laid k hp (I.hok.fresh hp)) (I.hok.laid k hp new)
theorem Inv.write {x e:Addr} {o:HO} {t':Nat} (I:Inv X pins σ H s) (mu:Mut (H x)) (he:e = x∨H e = some (.own x)) (k:∀ b u,b≠e→s.heap.get? b = some u→h'.get? b = some u) (a1:∃ u,h'.get? e = some u)
  (new:Bt X.prog X.w (upd H x o) h' x o):Inv X pins σ (upd H x o) { s with heap:=h',toks:=t' }:=I.un (Un.write mu he k a1) (I.hok.write mu he k a1 new)
theorem Inv.weak {a1:List (Option V)} (I:Inv X pins σ H s) (hl:a1.length = σ.length) (w:∀ (i:Nat) v,a1[i]? = some (some v)→σ[i]? = some (some v)):Inv X pins a1 H s :=
 ⟨I.ok,I.os,I.bare,I.base,let ⟨m,hn,hl'⟩:=I.loc; ⟨m,hn,λ i x v e1 e2 e3=>hl' i x v e1 (w i v e2) e3⟩,I.cell,I.free,I.freeC,I.pin,I.hok,hl.trans I.len⟩
theorem Inv.pins_of {a1:List (Addr× Obj)} (I:Inv X pins σ H s) (h:∀ p∈a1,s.heap.get? p.1 = some p.2∧H p.1 = none∧p.1≠X.env.locals∧p.1∉X.fs∧∀ v,p.2.data≠.cell v):Inv X a1 σ H s :=
 ⟨I.ok,I.os,I.bare,I.base,I.loc,I.cell,I.free,I.freeC,λ p hp=>(iU.mp hp).elim (λ z=>I.pin p (jW _ z)) (h p),I.hok,I.len⟩
theorem Qv {N:List Str} (hN:N.Nodup) {i j:Nat} {x:Str} (a:N[i]? = some x) (b:N[j]? = some x):i = j:=by
 obtain ⟨h1,e1⟩:=List.getElem?_eq_some_iff.mp a
 obtain ⟨h2,e2⟩:=List.getElem?_eq_some_iff.mp b
 exact (getElem_inj hN).mp (e1.trans e2.symm)
theorem Yn {M:Model} {A:Around} {E:Value→Shared→Prop} {i:Nat} {x:Str} {v:V} {u:Value} {Q:Unit→Shared→Prop} (I:Inv X pins σ H s) (hN:X.N.Nodup) (hi:X.N[i]? = some x) (hx:Loc X.env.scope x) (r:A6 v u)
  (h:∀ s',Inv X pins (σ.set i (some v)) H s'→(∃ a,Heap.SameBut a s.heap s'.heap∧(a = X.env.locals∨X.env.cells.lookup x = some a))→Q () s') (hf:X.fn x = true∨X.env.scope.names.lookup x = some .local:=by first | exact .inl rfl | exact .inr rfl | assumption):wpAny M A (storeName X.env x u) Q E s:=by
 obtain ⟨m,hn,hl⟩:=id I.loc
 have a8:(X.env.scope.kind == .class || (X.env.scope.kind == .module && X.env.locals != X.env.globals)) = false:=by rw [I.ok.kind]; rfl
 have a3:i < σ.length:=by rw [I.len]; exact (List.getElem?_eq_some_iff.mp hi).1
 have cne:=I.cne
 have a1:∀ {a:Addr} {h':Heap},(∃ o,s.heap.get? a = some o∧H a = none)→Heap.SameBut a s.heap h'→HOk X.prog X.w H h':=λ {a h'} ha hs b ob e=>by
  obtain ⟨_,_,a2⟩:=ha
  refine (I.hok b ob e).stay (λ c w' hc q=>(hs.2 c ?_).trans q) (λ _ q=>q) λ _ _ q=>q
  rintro rfl
  rcases hc with rfl | hc
  ·rw [a2] at e; cases e
  ·rw [a2] at hc; cases hc
 rcases hx with hk | hk
 ·refine wpAny_storeName_local hk hn (λ h' b2 hs=>?_) a8
  obtain ⟨oL,_,_,b1,_⟩:=id hn
  refine h _ ⟨I.ok,I.os,I.bare,⟨λ b o e n hb hx=>?_,λ b o e n hb hx=>?_,I.base.free,λ b o e hx=>?_,I.base.tups,I.base.frzs,I.base.tbls⟩,⟨_,b2,λ j y v' e1 e2 e3=>?_⟩,λ y c e=>?_,I.free,I.freeC,λ p hp=>?_,a1 ⟨oL,b1,I.free⟩ hs,by simpa using I.len⟩ ⟨_,hs,.inl rfl⟩
  ·exact (hs.2 b (jB (iY (Heap.lt_size e) I.ok.above))).trans (I.base.keep b o e n hb hx)
  ·obtain ⟨sl,e1⟩:=I.base.slot b o e n hb hx
   exact ⟨sl,(hs.2 b (jB (iY (Heap.lt_size e) I.ok.above))).trans e1⟩
  ·obtain ⟨o',e1⟩:=I.base.there b o e hx
   exact ⟨o',(hs.2 b (jB (iY (Heap.lt_size e) I.ok.above))).trans e1⟩
  ·by_cases hj:j = i
   ·subst hj
    rw [hi] at e1; cases e1
    rw [jO a3] at e2
    cases e2
    exact ⟨u,r,.inl ⟨hk,by simp⟩⟩
   ·rw [jN (Ne.symm hj)] at e2
    obtain ⟨u',r',q⟩:=hl j y v' e1 e2 e3
    refine ⟨u',r',?_⟩
    rcases q with ⟨k,e⟩ | ⟨k,c,e,z⟩
    ·refine .inl ⟨k,?_⟩
     have:y≠x:=λ e=>hj (Qv hN e1 (e ▸ hi))
     simp [this,e]
    ·exact .inr ⟨k,c,e,z.sameBut hs (cne y c e)⟩
  ·obtain ⟨w',z⟩:=I.cell y c e
   exact ⟨w',z.sameBut hs (cne y c e)⟩
  ·obtain ⟨e,n,ne,nf,d⟩:=I.pin p hp
   exact ⟨(hs.2 p.1 ne).trans e,n,ne,nf,d⟩
 ·have a4:X.fn x = true:=by
   rcases hf with z | z
   ·exact z
   ·rw [z] at hk; cases hk
  obtain ⟨c,hc⟩:=I.ok.has x (.inl hk)
  obtain ⟨w',z⟩:=I.cell x c hc
  refine wpAny_storeName_cell I.ok.kind hk hc z (λ h' a7 hs=>?_)
  obtain ⟨oc,a6,a9⟩:=id z
  refine h { s with heap:=h' } ⟨I.ok,I.os,I.bare,⟨λ b o e n hb hx=>?_,λ b o e n hb hx=>?_,I.base.free,λ b o e hx=>?_,I.base.tups,I.base.frzs,I.base.tbls⟩,⟨m,hn.sameBut hs (Ne.symm (cne x c hc)),λ j y v' e1 e2 e3=>?_⟩,λ y c' e=>?_,I.free,I.freeC,λ p hp=>?_,a1 ⟨oc,a6,I.freeC x c hc⟩ hs,by simpa using I.len⟩ ⟨c,hs,.inr hc⟩
  ·exact (hs.2 b (jB (iY (Heap.lt_size e) (I.ok.cab x c a4 hc)))).trans (I.base.keep b o e n hb hx)
  ·obtain ⟨sl,e1⟩:=I.base.slot b o e n hb hx
   exact ⟨sl,(hs.2 b (jB (iY (Heap.lt_size e) (I.ok.cab x c a4 hc)))).trans e1⟩
  ·obtain ⟨o',e1⟩:=I.base.there b o e hx
   exact ⟨o',(hs.2 b (jB (iY (Heap.lt_size e) (I.ok.cab x c a4 hc)))).trans e1⟩
  ·by_cases hj:j = i
   ·subst hj
    rw [hi] at e1; cases e1
    rw [jO a3] at e2
    cases e2
    exact ⟨u,r,.inr ⟨.inl hk,c,hc,a7⟩⟩
   ·rw [jN (Ne.symm hj)] at e2
    obtain ⟨u',r',q⟩:=hl j y v' e1 e2 e3
    refine ⟨u',r',?_⟩
    rcases q with q | ⟨k,c',e,z'⟩
    ·exact .inl q
    ·refine .inr ⟨k,c',e,z'.sameBut hs ?_⟩
     rintro rfl
     exact hj (Qv hN e1 (I.ok.inj _ _ _ e hc ▸ hi))
  ·by_cases a5:c' = c
   ·subst a5; exact ⟨_,a7⟩
   ·obtain ⟨w2,z2⟩:=I.cell y c' e
    exact ⟨w2,z2.sameBut hs a5⟩
  ·obtain ⟨e,n,ne,nf,d⟩:=I.pin p hp
   refine ⟨(hs.2 p.1 ?_).trans e,n,ne,nf,d⟩
   intro q
   rw [q,a6] at e
   have q':oc = p.2:=Option.some.inj e
   exact d w' (by rw [← q']; exact a9)
theorem Jy {M:Model} {A:Around} {E:Value→Shared→Prop} {i:Nat} {x:Str} {v:V} {u:Value} {Q:Unit→Shared→Prop} (I:Inv X pins σ H s) (hN:X.N.Nodup) (hi:X.N[i]? = some x) (hx:Loc X.env.scope x) (r:A6 v u)
  (h:∀ s',Inv X pins (σ.set i (some v)) H s'→Q () s') (hf:X.fn x = true∨X.env.scope.names.lookup x = some .local:=by first | exact .inl rfl | exact .inr rfl | assumption):wpAny M A (storeName X.env x u) Q E s :=
 Yn I hN hi hx r (λ s' I' _=>h s' I') hf
theorem Inv.call' {s':Shared} {ch:List Addr} (I:Inv X pins σ H s) (ho:s'.os = s.os) (u:Un (frs X.stack) ch H H' s.heap s'.heap) (hok:HOk X.prog X.w H' s'.heap) (hg:AllBare s'.gens)
  (a1:∀ b∈ch,(b∈X.ex∨X.s₀.heap.objs.size≤b)∧b≠X.env.locals∧(∀ x c,X.env.cells.lookup x = some c→c≠b)∧∀ p∈X.pn ++ pins,p.1≠b):Inv X pins σ H' s':=by
 obtain ⟨h',g',d',t',o'⟩:=s'
 have e:o' = s.os:=ho
 subst e
 exact I.call (g':=g') (t':=t') (d':=d') u hok hg a1
end
abbrev XK:=Value→Option Addr→Hp→Prop
abbrev St:=List (Option V)
abbrev VK:=V→Hp→Prop
abbrev TE:=St→Hp→VK→Prop
abbrev TT:=St→Hp→(Bool→Hp→Prop)→Prop
abbrev TA:=St→Hp→(List V→Hp→Prop)→Prop
structure F3 where
 nx:St→Hp→Prop
 rt:VK
 bk:St→Hp→Prop:=λ _ _=>False
 ct:St→Hp→Prop:=λ _ _=>False
abbrev TS:=F3→St→Hp→Prop
def EP (X:Cx) (pins:List (Addr× Obj)) (σ:St) (Q:VK) (u:Value) (s':Shared):Prop:=∃ v H',Inv X pins σ H' s'∧A6 v u∧Q v H'
def TP (X:Cx) (pins:List (Addr× Obj)) (σ:St) (Q:Bool→Hp→Prop) (b:Bool) (s':Shared):Prop:=∃ H',Inv X pins σ H' s'∧Q b H'
def AP (X:Cx) (pins:List (Addr× Obj)) (σ:St) (Q:List V→Hp→Prop) (us:List Value) (s':Shared):Prop:=∃ vs H',Inv X pins σ H' s'∧Az vs us∧Q vs H'
def SP (X:Cx) (pins:List (Addr× Obj)) (D:F3) (f:Flow) (s':Shared):Prop :=
 match f with
 | .next=>∃ σ' H',Inv X pins σ' H' s'∧D.nx σ' H'
 | .brk=>∃ σ' H',Inv X pins σ' H' s'∧D.bk σ' H'
 | .cont=>∃ σ' H',Inv X pins σ' H' s'∧D.ct σ' H'
 | .ret u=>∃ v σ' H',Inv X pins σ' H' s'∧A6 v u∧D.rt v H'
def PE (X:Cx) (e:Expr) (t:TE):Prop :=
 ∀ (pins:List (Addr× Obj)) (s:Shared) (σ:St) (H:Hp) (Q:VK),Inv X pins σ H s→t σ H Q→wpAny (model X.prog X.w) X.A (eval e X.env) (EP X pins σ Q) X.xe s
def PT (X:Cx) (e:Expr) (t:TT):Prop :=
 ∀ (pins:List (Addr× Obj)) (s:Shared) (σ:St) (H:Hp) (Q:Bool→Hp→Prop),Inv X pins σ H s→t σ H Q→wpAny (model X.prog X.w) X.A (isTrue e X.env (eval e X.env)) (TP X pins σ Q) X.xe s
def PW (X:Cx) (e:Expr) (t:TT):Prop :=
 ∀ (whole:Sem Value) (pins:List (Addr× Obj)) (s:Shared) (σ:St) (H:Hp) (Q:Bool→Hp→Prop),Inv X pins σ H s→t σ H Q→wpAny (model X.prog X.w) X.A (isTrue e X.env whole) (TP X pins σ Q) X.xe s
theorem PW.pt {X:Cx} {e:Expr} {t:TT} (h:PW X e t):PT X e t:=h _
def PA (X:Cx) (es:List Expr) (t:TA):Prop :=
 ∀ (pos:Pos) (pins:List (Addr× Obj)) (s:Shared) (σ:St) (H:Hp) (Q:List V→Hp→Prop),Inv X pins σ H s→t σ H Q→wpAny (model X.prog X.w) X.A (spliced (backTo pos (starEach es X.env))) (AP X pins σ Q) X.xe s
def PS (X:Cx) (st:Stmt) (t:TS):Prop :=
 ∀ (pins:List (Addr× Obj)) (s:Shared) (σ:St) (H:Hp) (D:F3),Inv X pins σ H s→t D σ H→wpAny (model X.prog X.w) X.A (exec st X.env) (SP X pins D) X.xe s
def PSs (X:Cx) (st:List Stmt) (t:TS):Prop :=
 ∀ (pins:List (Addr× Obj)) (s:Shared) (σ:St) (H:Hp) (D:F3),Inv X pins σ H s→t D σ H→wpAny (model X.prog X.w) X.A (execs st X.env) (SP X pins D) X.xe s
theorem thn {α:Type} {t:Sem α} {Q Q':α→Shared→Prop} {M:Model} {A:Around} {E:Value→Shared→Prop} {s:Shared} (h:wpAny M A t Q E s) (hQ:∀ a s,Q a s→Q' a s):wpAny M A t Q' E s:=jU h hQ λ _ _ x=>x
end L2
namespace L2
open PySem PySem.Spec PyProof.Rows
section
variable {X:Cx}
inductive Yu (i:Nat) (σ:St) (H:Hp) (Q:VK):Prop
 | mk (v:V) (_:σ[i]? = some (some v)) (_:Q v H):Yu i σ H Q
def Bh (i:Nat):TE:=λ σ H Q=>Yu i σ H Q
def tC (v:V):TE:=λ _ H Q=>Q v H
theorem Acp {i:Nat} {x:Str} {pos:Pos} (hN:X.N[i]? = some x) (hv:Vis X.env.scope x) (hd:(x == ("__debug__" : Str)) = false:=by decide) (a3:(x == ("__classdict__" : Str)) = false:=by decide):PE X (.Name x pos) (Bh i):=by
 intro pins s σ H Q I h
 obtain ⟨v,e,h⟩:=h
 obtain ⟨m,hn,hl⟩:=I.loc
 obtain ⟨u,r,l⟩:=hl i x v hN e hv
 have a2:EP X pins σ Q u s:=⟨v,H,I,r,h⟩
 rcases l with ⟨hk,hm⟩ | ⟨hk,c,hc,a1⟩
 ·exact wpAny_Name (wpAny_loadName_local I.ok.kind hk hn hm a2) hd
 ·rcases hk with hk | hk
  ·exact wpAny_Name (wpAny_loadName_cell I.ok.kind hk hc a1 a2) hd
  ·exact wpAny_Name (wpAny_loadName_free I.ok.kind hk hc a1 a2 a3) hd
theorem Af {i j pos}:PE X (.Constant (.int i) j pos) (tC (.int i)):=λ _ _ _ H _ I h=>wpAny_Constant_int ⟨.int i,H,I.tok _,⟨_,Z⟩,h⟩
theorem Ct {b j pos}:PE X (.Constant (.bool b) j pos) (tC (.bl b)):=λ _ _ _ H _ I h=>Constant_bool ⟨.bl b,H,I,Z,h⟩
theorem B3 {j pos}:PE X (.Constant .none j pos) (tC .non):=λ _ _ _ H _ I h=>Constant_none ⟨.non,H,I,Z,h⟩
theorem Ao {x j pos}:PE X (.Constant (.str x) j pos) (tC (.str x)):=λ _ _ _ H _ I h=>Calls.Constant_str ⟨.str x,H,I.tok _,⟨_,Z⟩,h⟩
def Gl (X:Cx) (x:Str):Prop:=X.env.kindOf x = some .globalImplicit
theorem Jg {E:Value→Shared→Prop} {pins:List (Addr× Obj)} {s:Shared} {σ:St} {H:Hp} {x:Str} {u:Value} {pos:Pos} {Q:Value→Shared→Prop} (I:Inv X pins σ H s) (hg:Gl X x) (hm:X.mg x = some u) (h:Q u s)
  (hd:(x == ("__debug__" : Str)) = false:=by decide):wpAny (model X.prog X.w) X.A (eval (.Name x pos) X.env) Q E s :=
 Calls.Name_function_global I.ok.kind hg (Calls.loadGlobal_global (by rw [I.ok.glob]; exact I.mod.glob.keeps I.bk) hm h) hd
theorem F1 {E:Value→Shared→Prop} {pins:List (Addr× Obj)} {s:Shared} {σ:St} {H:Hp} {x:Str} {u:Value} {pos:Pos} {Q:Value→Shared→Prop} (I:Inv X pins σ H s) (hg:Gl X x) (hm:X.mg x = none) (hv:bootBuiltins x = some u) (h:Q u s)
  (hn:x≠ "__name__" := by decide) (hd:(x == ("__debug__" : Str)) = false:=by decide):wpAny (model X.prog X.w) X.A (eval (.Name x pos) X.env) Q E s:=by
 obtain ⟨mb,h1,h2⟩:=I.mod.blt
 exact Calls.Name_function_global I.ok.kind hg (Calls.loadGlobal_builtin (by rw [I.ok.glob]; exact I.mod.glob.keeps I.bk) hm (by rw [I.ok.blt]; exact h1.keeps I.bk) ((h2 x hn).trans hv) h) hd
theorem Bx {x:Str} {v:V} {u:Value} {pos:Pos} (hg:Gl X x) (hm:X.mg x = some u) (r:A6 v u) (hd:(x == ("__debug__" : Str)) = false:=by decide):PE X (.Name x pos) (tC v) :=
 λ _ _ _ H _ I h=>Jg I hg hm ⟨v,H,I,r,h⟩ hd
theorem N1 {x:Str} {v:V} {u:Value} {pos:Pos} (hg:Gl X x) (hm:X.mg x = none) (hv:bootBuiltins x = some u) (r:A6 v u) (hn:x≠ "__name__" := by decide) (hd:(x == ("__debug__" : Str)) = false:=by decide):PE X (.Name x pos) (tC v) :=
 λ _ _ _ H _ I h=>F1 I hg hm hv ⟨v,H,I,r,h⟩ hn hd
variable {a b:Expr} {ta tb:TE} {pos:Pos}
def PC (X:Cx) (op:CmpOp) (a b:Expr) (t:TE):Prop :=
 ∀ (pins:List (Addr× Obj)) (s:Shared) (σ:St) (H:Hp) (Q:VK),Inv X pins σ H s→t σ H Q →
  wpAny (model X.prog X.w) X.A (eval a X.env) (λ v s₁=>wpAny (model X.prog X.w) X.A (eval b X.env) (λ u s₂=>wpAny (model X.prog X.w) X.A (compareOp op v u) (EP X pins σ Q) X.xe s₂) X.xe s₁) X.xe s
inductive Aa3 (x:V) (H1:Hp) (Q:Bool→Hp→Prop):Prop
 | mk (c:Bool) (_:x = .bl c) (_:Q c H1):Aa3 x H1 Q
def tB (t:TE):TT:=λ σ H Q=>t σ H λ x H1=>Aa3 x H1 Q
theorem Y9 {op:CmpOp} {t:TE} (h:PC X op a b t) (h1:behindInMarks op b = false:=by first | exact nobehind _ (by decide) (by decide) | rfl):PE X (.Compare a [op] [b] pos) t:=λ pins s σ H Q I hw=>wpAny_Compare1 (h pins s σ H Q I hw) h1
theorem Yr {op:CmpOp} {t:TE} (h:PC X op a b t) (h1:behindInMarks op b = false:=by first | exact nobehind _ (by decide) (by decide) | rfl):PT X (.Compare a [op] [b] pos) (tB t):=by
 intro pins s σ H Q I hw
 refine wpAny_isTrue_Compare1 (thn (h pins s σ H _ I hw) λ v s1 h1=>thn h1 λ u s2 h2=>thn h2 λ c s3 ⟨x,H1,I1,r1,q1⟩=>?_) h1
 obtain ⟨d,rfl,q⟩:=q1
 cases r1
 exact wpAny_truthy_bool ⟨H1,I1,q⟩
theorem Kv {e:Expr} {t:TE} (h:PE X e t) (he:∀ a1,isTrue e X.env a1 = (do let v ← a1; standAt e.pos; holding [v] (truthy v)):=by intro _; rfl):PT X e (tB t):=by
 intro pins s σ H Q I hw
 refine isTrue_plain (thn (h pins s σ H _ I hw) λ v s1 ⟨x,H1,I1,r1,q1⟩=>?_) (he _)
 obtain ⟨d,rfl,q⟩:=q1
 cases r1
 exact wpAny_truthy_bool ⟨H1,I1,q⟩
variable {tA tB':TT} {rest:List Expr}
def Ae3 (t u:TT):TT:=λ σ H Q=>t σ H λ c H1=>if c = true then u σ H1 Q else Q false H1
def tOr (t u:TT):TT:=λ σ H Q=>t σ H λ c H1=>if c = true then Q true H1 else u σ H1 Q
def Aem (t:TT):TT:=λ σ H Q=>t σ H λ c H1=>Q (!c) H1
theorem Tg (ha:PT X a tA):PW X (.BoolOp .And [a] pos) tA:=by
 intro wh pins s σ H Q I h
 refine isTrue_and (thn (ha pins s σ H Q I h) λ c s1 e=>?_)
 cases c with
 | true=>exact isTrue_and_nil e
 | false=>exact e
theorem Ft (ha:PT X a tA):PW X (.BoolOp .Or [a] pos) tA:=by
 intro wh pins s σ H Q I h
 refine isTrue_or (thn (ha pins s σ H Q I h) λ c s1 e=>?_)
 cases c with
 | false=>exact isTrue_or_nil e
 | true=>exact e
theorem Yh (ha:PT X a tA) (hb:PW X (.BoolOp .And (b :: rest) pos) tB'):PW X (.BoolOp .And (a :: b :: rest) pos) (Ae3 tA tB'):=by
 intro wh pins s σ H Q I h
 refine isTrue_and (thn (ha pins s σ H _ I h) λ c s1 ⟨H1,I1,q1⟩=>?_)
 cases c with
 | true=>exact hb wh pins s1 σ H1 Q I1 q1
 | false=>exact ⟨H1,I1,q1⟩
theorem Fu (ha:PT X a tA) (hb:PW X (.BoolOp .Or (b :: rest) pos) tB'):PW X (.BoolOp .Or (a :: b :: rest) pos) (tOr tA tB'):=by
 intro wh pins s σ H Q I h
 refine isTrue_or (thn (ha pins s σ H _ I h) λ c s1 ⟨H1,I1,q1⟩=>?_)
 cases c with
 | true=>exact ⟨H1,I1,q1⟩
 | false=>exact hb wh pins s1 σ H1 Q I1 q1
theorem Xu (ha:PT X a tA):PT X (.UnaryOp .Not a pos) (Aem tA):=by
 intro pins s σ H Q I h
 exact isTrue_not (ha pins s σ H (λ c H1=>Q (!c) H1) I h)
def Ady (ta tb:TE):TE:=λ σ H Q=>ta σ H λ x H1=>∃ c,x = .bl c∧if c = true then tb σ H1 Q else Q (.bl false) H1
def Aec (ta tb:TE):TE:=λ σ H Q=>ta σ H λ x H1=>∃ c,x = .bl c∧if c = true then Q (.bl true) H1 else tb σ H1 Q
def AeQ (ta:TE):TE:=λ σ H Q=>ta σ H λ x H1=>∃ c,x = .bl c∧Q (.bl (!c)) H1
theorem Q5 {op} {t:TE} (h:PE X a t):PE X (.BoolOp op [a] pos) t:=λ pins s σ H Q I hw=>BoolOp_one (h pins s σ H Q I hw)
theorem AdJ (ha:PE X a ta) (hb:PE X (.BoolOp .And (b :: rest) pos) tb):PE X (.BoolOp .And (a :: b :: rest) pos) (Ady ta tb):=by
 intro pins s σ H Q I h
 refine BoolOp_and (thn (ha pins s σ H _ I h) λ v s1 ⟨x,H1,I1,r1,q1⟩=>?_)
 obtain ⟨c,rfl,q1⟩:=q1
 cases r1
 refine wpAny_truthy_bool ?_
 cases c with
 | true=>exact hb pins s1 σ H1 Q I1 q1
 | false=>exact ⟨.bl false,H1,I1,rfl,q1⟩
theorem Adw (ha:PE X a ta) (hb:PE X (.BoolOp .Or (b :: rest) pos) tb):PE X (.BoolOp .Or (a :: b :: rest) pos) (Aec ta tb):=by
 intro pins s σ H Q I h
 refine BoolOp_or (thn (ha pins s σ H _ I h) λ v s1 ⟨x,H1,I1,r1,q1⟩=>?_)
 obtain ⟨c,rfl,q1⟩:=q1
 cases r1
 refine wpAny_truthy_bool ?_
 cases c with
 | false=>exact hb pins s1 σ H1 Q I1 q1
 | true=>exact ⟨.bl true,H1,I1,rfl,q1⟩
theorem Ac0 (ha:PE X a ta):PE X (.UnaryOp .Not a pos) (AeQ ta):=by
 intro pins s σ H Q I h
 refine UnaryOp_ (thn (ha pins s σ H _ I h) λ v s1 ⟨x,H1,I1,r1,q1⟩=>?_)
 obtain ⟨c,rfl,q1⟩:=q1
 cases r1
 exact not_of (wpAny_truthy_bool ⟨.bl (!c),H1,I1,Z,q1⟩)
def tIf (t:TT) (ta tb:TE):TE:=λ σ H Q=>t σ H λ c H1=>if c = true then ta σ H1 Q else tb σ H1 Q
theorem Dy {c:Expr} (hc:PT X c tA) (ha:PE X a ta) (hb:PE X b tb):PE X (.IfExp c a b pos) (tIf tA ta tb):=by
 intro pins s σ H Q I h
 refine wpAny_IfExp (thn (hc pins s σ H _ I h) λ d s1 ⟨H1,I1,q1⟩=>?_)
 cases d with
 | true=>exact ha pins s1 σ H1 Q I1 q1
 | false=>exact hb pins s1 σ H1 Q I1 q1
end
end L2
namespace L2
open PySem PySem.Spec PyProof.Rows
def SqL (K:PySem.W.Frag) (H:Hp) (a:Addr) (xs:List V):Prop :=
 Rd H a (.lst xs) ∨
  ∃ (o:Obj) (its:Array Value) (n:Nat),K.lookup a = some o∧o.cls = .type "list" ∧ o.dict = none∧o.data = .seq its n∧its.size≤sizeLine∧Az xs its.toList
def SqT (K:PySem.W.Frag) (H:Hp) (a:Addr) (xs:List V):Prop :=
 Rd H a (.tup xs) ∨
  ∃ (o:Obj) (its:Array Value) (n:Nat),K.lookup a = some o∧o.cls = .type "tuple" ∧ o.data = .seq its n∧its.size≤sizeLine∧Az xs its.toList
def Aey:Value→Option V
 | .none=>some .non
 | .bool b=>some (.bl b)
 | .int i _=>some (.int i)
 | .str x _=>some (.str x)
 | .bytes b _=>some (.byt b)
 | .float b _=>some (.flt b)
 | .ref a=>some (.ref a)
 | .type n=>some (.ty n)
 | _=>none
theorem A6.abs {x:V} {u:Value} (r:A6 x u):Aey u = some x:=by
 cases x with
 | non=>cases r; rfl
 | bl _=>cases r; rfl
 | int _=>obtain ⟨t,rfl⟩:=r; rfl
 | str _=>obtain ⟨t,rfl⟩:=r; rfl
 | byt _=>obtain ⟨t,rfl⟩:=r; rfl
 | flt _=>obtain ⟨t,rfl⟩:=r; rfl
 | ref _=>cases r; rfl
 | ty _=>cases r; rfl
theorem A6.inj {x y:V} {u:Value} (r:A6 x u) (q:A6 y u):x = y:=Option.some.inj (r.abs.symm.trans q.abs)
theorem Az.inj:∀ {xs ys:List V} {us:List Value},Az xs us→Az ys us→xs = ys
 | _,_,_,.nil,.nil=>rfl
 | _,_,_,.cons r t,.cons r' t'=>by rw [r.inj r',Az.inj t t']
section
variable {X:Cx} {pins:List (Addr× Obj)} {σ:St} {H:Hp} {s:Shared} {a:Addr} {xs ys:List V}
theorem SqL.of {K:PySem.W.Frag} (h:H a = some (.lst xs)):SqL K H a xs:=.inl (.inl h)
theorem SqT.of {K:PySem.W.Frag} (h:H a = some (.tup xs)):SqT K H a xs:=.inl (.inl h)
theorem Inv.list (I:Inv X pins σ H s) (h:SqL X.K H a xs):∃ a1:List Value,Az xs a1∧PlainL s.heap a a1.toArray∧xs.length≤sizeLine:=by
 rcases h with h | ⟨o,a1,n,hk,hc,hd,hs,hz,r⟩
 ·obtain ⟨z,a1,n,r,e⟩:=h.ok I.hok
  exact ⟨a1,r,⟨_,n,e,Z,Z,Z⟩,z⟩
 ·refine ⟨a1.toList,r,⟨o,n,I.kIn a o hk,hc,hd,by simpa using hs⟩,?_⟩
  have e:=r.length
  simp only [Array.length_toList] at e
  omega
theorem Inv.tuple (I:Inv X pins σ H s) (h:SqT X.K H a xs):∃ a1:List Value,Az xs a1∧IsTup s.heap a a1.toArray∧xs.length≤sizeLine:=by
 rcases h with h | ⟨o,a1,n,hk,hc,hs,hz,r⟩
 ·obtain ⟨z,a1,r,p⟩:=h.ok I.hok
  exact ⟨a1,r,p,z⟩
 ·refine ⟨a1.toList,r,⟨o,I.kIn a o hk,hc,n,by simpa using hs⟩,?_⟩
  have e:=r.length
  simp only [Array.length_toList] at e
  omega
theorem Inv.list_inj (I:Inv X pins σ H s) (h:SqL X.K H a xs) (h':SqL X.K H a ys):xs = ys:=by
 obtain ⟨a1,r,⟨o,n,e,_,_,d⟩,_⟩:=I.list h
 obtain ⟨its',r',⟨o',n',e',_,_,d'⟩,_⟩:=I.list h'
 rw [e] at e'; cases e'
 rw [d] at d'
 injection d' with d1 _
 have:a1 = its':=by simpa using congrArg Array.toList d1
 subst this
 exact r.inj r'
theorem Inv.tuple_inj (I:Inv X pins σ H s) (h:SqT X.K H a xs) (h':SqT X.K H a ys):xs = ys:=by
 obtain ⟨a1,r,⟨o,e,_,n,d⟩,_⟩:=I.tuple h
 obtain ⟨its',r',⟨o',e',_,n',d'⟩,_⟩:=I.tuple h'
 rw [e] at e'; cases e'
 rw [d] at d'
 injection d' with d1 _
 have:a1 = its':=by simpa using congrArg Array.toList d1
 subst this
 exact r.inj r'
end
abbrev Cx.wish (X:Cx) (E:Value→Shared→Prop):Cx:={ X with xe:=E }
abbrev Cx.nox (X:Cx):Cx:=X.wish λ _ _=>False
theorem Cx.Ok.wish {X:Cx} (ok:X.Ok) (E:Value→Shared→Prop):(X.wish E).Ok :=
 ⟨ok.mod,ok.kind,ok.glob,ok.blt,ok.above,ok.inj,ok.has,ok.cab,ok.hd,ok.frames,ok.stk,ok.exf,ok.bs,ok.bsz,ok.noex,ok.exfs,ok.funs,ok.frf⟩
theorem Cx.Ok.unwish {X:Cx} {E:Value→Shared→Prop} (ok:(X.wish E).Ok):X.Ok :=
 ⟨ok.mod,ok.kind,ok.glob,ok.blt,ok.above,ok.inj,ok.has,ok.cab,ok.hd,ok.frames,ok.stk,ok.exf,ok.bs,ok.bsz,ok.noex,ok.exfs,ok.funs,ok.frf⟩
section
variable {X:Cx} {pins:List (Addr× Obj)} {σ:St} {H:Hp} {s:Shared} {E:Value→Shared→Prop}
theorem Inv.wish (I:Inv X pins σ H s) (E:Value→Shared→Prop):Inv (X.wish E) pins σ H s:=⟨I.ok.wish E,I.os,I.bare,I.base,I.loc,I.cell,I.free,I.freeC,I.pin,I.hok,I.len⟩
theorem Inv.unwish (I:Inv (X.wish E) pins σ H s):Inv X pins σ H s:=⟨I.ok.unwish,I.os,I.bare,I.base,I.loc,I.cell,I.free,I.freeC,I.pin,I.hok,I.len⟩
theorem SP.unwish {D:F3} {f:Flow} {s':Shared} (h:SP (X.wish E) pins D f s'):SP X pins D f s':=by
 cases f with
 | next=>obtain ⟨a1,H',I,q⟩:=h; exact ⟨a1,H',I.unwish,q⟩
 | brk=>obtain ⟨a1,H',I,q⟩:=h; exact ⟨a1,H',I.unwish,q⟩
 | cont=>obtain ⟨a1,H',I,q⟩:=h; exact ⟨a1,H',I.unwish,q⟩
 | ret u=>obtain ⟨v,a1,H',I,r,q⟩:=h; exact ⟨v,a1,H',I.unwish,r,q⟩
theorem PSs.nox {st:List Stmt} {t:TS} (h:PSs X.nox st t):PSs X st t:=λ pins s σ H D I hw =>
 jU (h pins s σ H D (I.wish _) hw) (λ _ _ q=>q.unwish) λ _ _ z=>False.elim z
end
section
variable {X:Cx} {st:Stmt} {rest:List Stmt} {t u:TS} {e:Expr} {te:TE} {pos:Pos}
def Vp:TS:=λ D σ H=>D.nx σ H
def Vf (t u:TS):TS:=λ D σ H=>t { D with nx:=u D } σ H
theorem A7:PSs X [] Vp:=λ _ _ σ H _ I h=>wpAny_execs_nil ⟨σ,H,I,h⟩
theorem Ad (h1:PS X st t) (h2:PSs X rest u):PSs X (st :: rest) (Vf t u):=by
 intro pins s σ H D I h
 refine wpAny_execs_cons (thn (h1 pins s σ H { D with nx:=u D } I h) λ f s1 q=>?_)
 cases f with
 | next =>
  obtain ⟨a1,H',I',q⟩:=q
  exact h2 pins s1 a1 H' D I' q
 | ret v=>exact q
 | brk=>exact q
 | cont=>exact q
theorem Ae (h1:PS X st t):PSs X [st] t:=by
 intro pins s σ H D I h
 refine wpAny_execs_cons (thn (h1 pins s σ H D I h) λ f s1 q=>?_)
 cases f with
 | next=>exact wpAny_execs_nil q
 | ret v=>exact q
 | brk=>exact q
 | cont=>exact q
def Adx:TS:=λ D σ H=>D.ct σ H
theorem So:PS X (.Continue pos) Adx:=λ _ _ σ H _ I h=>wpAny_Continue ⟨σ,H,I,h⟩
theorem Inv.quiet {pins:List (Addr× Obj)} {σ:St} {H:Hp} {s:Shared} (I:Inv X pins σ H s):interactive X.env = false:=by simp [interactive,I.ok.kind]
def AeA (te:TE):TS:=λ D σ H=>te σ H λ _ H1=>D.nx σ H1
theorem A0 (he:PE X e te) (hs:swapsWith e none pos.line X.env = pure false:=by rfl):PS X (.Expr e pos) (AeA te):=by
 intro pins s σ H D I h
 exact wpAny_Expr_any (thn (he pins s σ H _ I h) λ v s1 ⟨x,H1,I1,r1,q1⟩=>⟨σ,H1,I1,q1⟩) I.quiet hs
def Ael (te:TE):TS:=λ D σ H=>te σ H D.rt
theorem Au (he:PE X e te):PS X (.Return (some e) pos) (Ael te):=by
 intro pins s σ H D I h
 exact wpAny_Return_some (thn (he pins s σ H _ I h) λ v s1 ⟨x,H1,I1,r1,q1⟩=>⟨x,σ,H1,I1,r1,q1⟩)
def AeX:TS:=λ D _ H=>D.rt .non H
theorem Ui:PS X (.Return none pos) AeX:=λ _ _ σ H _ I h=>wpAny_Return_none ⟨.non,σ,H,I,Z,h⟩
def Ac5 (c:TT) (t u:TS):TS:=λ D σ H=>c σ H λ b H1=>if b = true then t D σ H1 else u D σ H1
theorem Bg {c:Expr} {a b:List Stmt} {tc:TT} (hc:PT X c tc) (ha:PSs X a t) (hb:PSs X b u):PS X (.If c a b pos) (Ac5 tc t u):=by
 intro pins s σ H D I h
 refine wpAny_If (thn (hc pins s σ H _ I h) λ d s1 ⟨H1,I1,q1⟩=>?_)
 cases d with
 | true=>exact ha pins s1 σ H1 D I1 q1
 | false=>exact hb pins s1 σ H1 D I1 q1
end
abbrev TG:=V→St→Hp→(St→Hp→Prop)→Prop
abbrev TGs:=List V→St→Hp→(St→Hp→Prop)→Prop
def PG (X:Cx) (target:Expr) (t:TG):Prop :=
 ∀ (pins:List (Addr× Obj)) (s:Shared) (σ:St) (H:Hp) (v:V) (u:Value) (Q:St→Hp→Prop),Inv X pins σ H s→A6 v u→t v σ H Q →
  wpAny (model X.prog X.w) X.A (assign target X.env u) (λ _ s'=>∃ σ' H',Inv X pins σ' H' s'∧Q σ' H') X.xe s
def PGs (X:Cx) (ts:List Expr) (t:TGs):Prop :=
 ∀ (pins:List (Addr× Obj)) (s:Shared) (σ:St) (H:Hp) (vs:List V) (us:List Value) (Q:St→Hp→Prop),Inv X pins σ H s→Az vs us→t vs σ H Q →
  wpAny (model X.prog X.w) X.A (assignInOrder ((assignEach ts X.env).map (·.2)) us) (λ _ s'=>∃ σ' H',Inv X pins σ' H' s'∧Q σ' H') X.xe s
abbrev AaM:=V→V→V→Hp→(Hp→Prop)→Prop
def Acx (X:Cx) (t:AaM):Prop :=
 ∀ (pins:List (Addr× Obj)) (s:Shared) (σ:St) (H:Hp) (o i v:V) (ov iv u:Value) (Q:Hp→Prop),Inv X pins σ H s→A6 o ov→A6 i iv→A6 v u→t o i v H Q →
  wpAny (model X.prog X.w) X.A (setItem ov iv u) (λ _ s'=>∃ H',Inv X pins σ H' s'∧Q H') X.xe s
section
variable {X:Cx} {pos:Pos}
def Bo (i:Nat):TG:=λ v σ H Q=>Q (σ.set i (some v)) H
theorem Aq {i:Nat} {x:Str} (hN:X.N.Nodup) (hi:X.N[i]? = some x) (hx:Loc X.env.scope x) (hf:X.fn x = true∨X.env.scope.names.lookup x = some .local:=by first | exact .inl rfl | exact .inr rfl | assumption):PG X (.Name x pos) (Bo i):=by
 intro pins s σ H v u Q I r h
 exact wpAny_assign_Name (Jy I hN hi hx r (λ s' I'=>⟨_,H,I',h⟩) hf)
def Vz:TGs:=λ vs σ H Q=>vs = []∧Q σ H
def Ka (t:TG) (u:TGs):TGs:=λ vs σ H Q=>∃ v r,vs = v :: r∧t v σ H λ σ' H'=>u r σ' H' Q
theorem Ch:PGs X [] Vz:=by
 intro pins s σ H vs us Q I r h
 obtain ⟨e,h⟩:=h
 subst e
 cases r
 exact assignInOrder_nil ⟨σ,H,I,h⟩
theorem Bc {e:Expr} {es:List Expr} {t:TG} {u:TGs} (h1:PG X e t) (h2:PGs X es u)
  (hs:(assignEach (e :: es) X.env).map (·.2) = assign e X.env :: (assignEach es X.env).map (·.2):=by rfl):PGs X (e :: es) (Ka t u):=by
 intro pins s σ H vs us Q I r h
 obtain ⟨v,vr,e1,h⟩:=h
 subst e1
 cases r with
 | cons r rr =>
  rw [hs]
  refine assignInOrder_cons (thn (h1 pins s σ H _ _ _ I r h) λ _ s1 ⟨a1,H1,I1,q1⟩=>?_)
  exact h2 pins s1 a1 H1 _ _ Q I1 rr q1
inductive Yb (K:PySem.W.Frag) (n:Nat) (v:V) (H:Hp) (R:List V→Prop):Prop
 | mk (a:Addr) (xs:List V) (_:v = .ref a) (_:SqT K H a xs) (_:xs.length = n) (_:R xs):Yb K n v H R
def Wu (K:PySem.W.Frag) (n:Nat) (t:TGs):TG:=λ v σ H Q=>Yb K n v H λ xs=>t xs σ H Q
theorem C1 {es:List Expr} {k:Nat} {t:TGs} {n:Nat} (hc:X.calm = true) (h:PGs X es t)
  (hn:(assignEach es X.env).length = n:=by rfl) (a1:(assignEach es X.env).findIdx? (·.1) = none:=by rfl):PG X (.Tuple es k pos) (Wu X.K n t):=by
 intro pins s σ H v u Q I r hw
 obtain ⟨a,xs,e1,hq,hl,hw⟩:=hw
 subst e1
 cases r
 obtain ⟨a2,rv,ht,hz⟩:=I.tuple hq
 refine assign_Tuple_tuple (I.ok.hd hc) ht (by simp [hn,← hl,rv.length]) a1 λ h' hx=>?_
 have I1:Inv X pins σ H { s with heap:=h' }:=I.kept (t':=s.toks) λ b o e=>hx b o (jB (Heap.lt_size e)) e
 exact h pins _ σ H xs _ Q I1 (by simpa using rv) hw
def Aex (to ti:TE) (t:AaM):TG:=λ v σ H Q=>to σ H λ o H1=>ti σ H1 λ i H2=>t o i v H2 λ H3=>Q σ H3
theorem M0 {o i:Expr} {to ti:TE} {t:AaM} (ho:PE X o to) (hi:PE X i ti) (hs:Acx X t)
  (ha:∀ v,assign (.Subscript o i pos) X.env v = (do
   let ov ← holding [v] (eval o X.env)
   let iv ← holding [v,ov] (eval i X.env)
   standAt pos
   holding [v,ov,iv] (setItem ov iv v)
   release [v,ov,iv] []):=by intro _; rfl):PG X (.Subscript o i pos) (Aex to ti t):=by
 intro pins s σ H v u Q I r h
 rw [ha]
 refine hJ (jV (thn (ho pins s σ H _ I h) λ ov s1 ⟨x,H1,I1,r1,q1⟩=>?_))
 refine hJ (jV (thn (hi pins s1 σ H1 _ I1 q1) λ iv s2 ⟨y,H2,I2,r2,q2⟩=>?_))
 refine hJ (wpAny_standAt (hJ (jV (thn (hs pins s2 σ H2 x y v ov iv u _ I2 r1 r2 r q2) λ _ s3 ⟨H3,I3,q3⟩=>?_))))
 exact wpAny_release ⟨σ,H3,I3,q3⟩
def Rg (te:TE) (g:TG):TS:=λ D σ H=>te σ H λ x H1=>g x σ H1 D.nx
theorem D9 {tg e:Expr} {te:TE} {g:TG} (he:PE X e te) (hg:PG X tg g) (hs:swapsWithSole [tg] e pos.line X.env = pure false:=by rfl) (hw:swappedStores [tg] e X.env = pure none:=by rfl)
  (h1:(assignEach [tg] X.env).map (·.2) = [assign tg X.env]:=by rfl):PS X (.Assign [tg] e pos) (Rg te g):=by
 intro pins s σ H D I h
 refine wpAny_Assign_stores (thn (he pins s σ H _ I h) λ v s1 ⟨x,H1,I1,r1,q1⟩=>?_) hs hw
 rw [h1]
 exact thn (hg pins s1 σ H1 x v _ I1 r1 q1) λ _ s2 q=>q
theorem Aw {i:Nat} {x:Str} {e:Expr} {te:TE} {pos':Pos} (hN:X.N.Nodup) (hi:X.N[i]? = some x) (hx:Loc X.env.scope x) (he:PE X e te) (hs:swapsWith e (some (.Name x pos')) pos.line X.env = pure false:=by rfl) (hf:X.fn x = true∨X.env.scope.names.lookup x = some .local:=by first | exact .inl rfl | exact .inr rfl | assumption) :
  PS X (.Assign [.Name x pos'] e pos) (Rg te (Bo i)):=by
 intro pins s σ H D I h
 refine wpAny_Assign_Name (thn (he pins s σ H _ I h) λ v s1 ⟨y,H1,I1,r1,q1⟩=>?_) hs
 exact Jy I1 hN hi hx r1 (λ s2 I2=>⟨_,H1,I2,q1⟩) hf
end
section
variable {X:Cx} {pos:Pos}
def Yi (c:TT) (tb:TS):TS:=λ D σ H=>∃ W:Nat→St→Hp→Prop,(∃ m,W m σ H)∧∀ m σ H,W m σ H →
 c σ H λ b H1=>if b = true then ∃ N:St→Hp→Prop,(∀ σ' H',N σ' H'→∃ m',m' < m∧W m' σ' H')∧tb { D with nx:=N,ct:=N,bk:=D.nx } σ H1 else D.nx σ H1
theorem J1 {c:Expr} {a3:List Stmt} {tc:TT} {tb:TS} (hp:PassesOwn (model X.prog X.w) X.A X.env X.xe) (hc:PT X c tc) (hb:PSs X a3 tb):PS X (.While c a3 [] pos) (Yi tc tb):=by
 intro pins s σ H D I h
 obtain ⟨W,⟨m0,w0⟩,a5⟩:=h
 refine wpAny_While (codeAny_whileLoop (λ n s'=>∃ a4 H',Inv X pins a4 H' s'∧W n a4 H') ?_ m0 ⟨σ,H,I,w0⟩)
 rintro n s1 ⟨a2,H1,I1,w1⟩
 refine wpAny_passesOwn hp (thn (hc pins s1 a2 H1 _ I1 (a5 n a2 H1 w1)) λ b s2 ⟨H2,I2,q2⟩=>?_)
 cases b with
 | true =>
  obtain ⟨N,hN,q2⟩:=q2
  rw [if_pos rfl]
  refine wpAny_passesOwn hp (thn (hb pins s2 a2 H2 _ I2 q2) λ f s3 q3=>?_)
  cases f with
  | next =>
   obtain ⟨a1,H3,I3,n3⟩:=q3
   obtain ⟨m',hm,w3⟩:=hN a1 H3 n3
   exact ⟨m',hm,a1,H3,I3,w3⟩
  | cont =>
   obtain ⟨a1,H3,I3,n3⟩:=q3
   obtain ⟨m',hm,w3⟩:=hN a1 H3 n3
   exact ⟨m',hm,a1,H3,I3,w3⟩
  | brk=>exact q3
  | ret v=>exact q3
 | false =>
  rw [if_neg Bool.false_ne_true]
  exact wpAny_execs_nil ⟨a2,H2,I2,q2⟩
end
structure It where
 go:Nat→Hp→Prop
 yld:Nat→Hp→V→Hp→Prop
 stop:Nat→Hp→Prop
def Ht (X:Cx) (pins:List (Addr× Obj)) (H:Hp) (b:Addr):Prop :=
 H b = none∧b≠X.env.locals∧b∉X.fs∧(b∈X.ex∨X.s₀.heap.objs.size≤b)∧(∀ x c,X.env.cells.lookup x = some c→c≠b)∧∀ p∈X.pn ++ pins,p.1≠b
theorem Inv.fpOk {X:Cx} {pins:List (Addr× Obj)} {σ:St} {H H':Hp} {s:Shared} {b:Addr} (I:Inv X pins σ H s) (hb:s.heap.objs.size≤b) (hn:H' b = none):Ht X pins H' b:=by
 refine ⟨hn,ne_of_gt (iY I.lt hb),I.nofs hb,.inr (iW I.sz hb),λ x c e z=>?_,λ p hp z=>?_⟩
 ·obtain ⟨v,q⟩:=I.cell x c e
  exact absurd (iY q.lt (by rw [z]; exact hb)) (lt_irrefl _)
 ·exact absurd (iY (Heap.lt_size (I.pin p hp).1) (by rw [z]; exact hb)) (lt_irrefl _)
structure K5 (P:Program) (w:World) (K:PySem.W.Frag) (tg:Expr) (J:It) (fp:List Addr) (it:Addr) (tn:Nat→Heap→Prop):Prop where
 mem:it∈fp
 obj:∀ i h,tn i h→∀ b∈fp,∃ o,h.get? b = some o∧∀ v,o.data≠.cell v
 keep:∀ i h h',tn i h→(∀ b∈fp,∀ o,h.get? b = some o→h'.get? b = some o)→tn i h'
 item:∀ (X:Cx),X.prog = P→X.w = w→X.K = K→X.calm = true→∀ (i:Nat) (pins:List (Addr× Obj)) (s:Shared) (σ:St) (H:Hp) (E:Value→Shared→Prop),Inv X pins σ H s→(∀ b∈fp,Ht X pins H b)→tn i s.heap→J.go i H →
  wpAny (model P w) X.A (pyNext (.ref it)) (λ r s1=>∃ u,r = some u ∧
   wpAny (model P w) X.A (letOwnedTupleGo tg (.ref it) u) (λ _ s2=>∃ x H',Inv X pins σ H' s2∧A6 x u∧J.yld i H x H'∧tn (i + 1) s2.heap∧∀ b∈fp,H' b = none) E s1) E s
 done:∀ (X:Cx),X.prog = P→X.w = w→X.K = K→X.calm = true→∀ (i:Nat) (pins:List (Addr× Obj)) (s:Shared) (σ:St) (H:Hp) (E:Value→Shared→Prop),Inv X pins σ H s→(∀ b∈fp,Ht X pins H b)→tn i s.heap→J.stop i H →
  wpAny (model P w) X.A (pyNext (.ref it)) (λ r s1=>r = none∧Inv X pins σ H s1) E s
 self:∀ (A:Around) (i:Nat) (s:Shared) (Q:Value→Shared→Prop) (E:Value→Shared→Prop),tn i s.heap→Q (.ref it) s→wpAny (model P w) A (pyIter (.ref it)) Q E s
abbrev TI:=St→Hp→(It→Hp→Prop)→Prop
def PIE (X:Cx) (pins:List (Addr× Obj)) (σ:St) (tg:Expr) (R:It→Hp→Prop) (itv:Value) (s2:Shared):Prop :=
 ∃ (it:Addr) (fp:List Addr) (tn:Nat→Heap→Prop) (J:It) (H':Hp),itv = .ref it∧Inv X pins σ H' s2∧K5 X.prog X.w X.K tg J fp it tn∧tn 0 s2.heap∧(∀ b∈fp,Ht X pins H' b)∧R J H'
def PI (X:Cx) (tg iter:Expr) (wi:TI):Prop :=
 ∀ (pins:List (Addr× Obj)) (s:Shared) (σ:St) (H:Hp) (R:It→Hp→Prop),Inv X pins σ H s→wi σ H R →
  wpAny (model X.prog X.w) X.A (eval iter X.env) (λ v s1=>wpAny (model X.prog X.w) X.A (pyIter v) (PIE X pins σ tg R) X.xe s1) X.xe s
theorem P4 {M:Model} {A:Around} {E:Value→Shared→Prop} {s:Shared} {tg:Expr} {it:Addr} {u:Value} {o:Obj} {n:String} {vs:Array Value} {Q:Unit→Shared→Prop} (ho:s.heap.get? it = some o) (hc:o.cls = .type n) (hd:o.data = .fields vs)
  (hn:["enumerate", "zip", "dict_itemiterator", "dict_reverseitemiterator", "odict_iterator", "itertools.zip_longest", "itertools.pairwise"].contains n = false) (hQ:Q () s):wpAny M A (letOwnedTupleGo tg (.ref it) u) Q E s:=by
 unfold letOwnedTupleGo
 cases tg <;> first
  | exact hW hQ
  | (cases u <;> first
    | exact hW hQ
    | (refine hJ (wpAny_load ho ?_)
       rw [hc,hd]
       show wpAny M A (if (["enumerate", "zip", "dict_itemiterator", "dict_reverseitemiterator", "odict_iterator", "itertools.zip_longest", "itertools.pairwise"].contains n && vs[0]? == some (rawInt _)) = true then _ else _) Q E s
       rw [if_neg (by intro h; rw [hn,Bool.false_and] at h; cases h)]
       exact hW hQ))
def Itl (K:PySem.W.Frag) (a:Addr):It :=
 ⟨λ i H=>∃ xs x,SqL K H a xs∧xs[i]? = some x,λ i H x H'=>H' = H∧∀ xs,SqL K H a xs→xs[i]? = some x,λ i H=>∃ xs,SqL K H a xs∧xs.length≤i⟩
def Itt (K:PySem.W.Frag) (a:Addr):It :=
 ⟨λ i H=>∃ xs x,SqT K H a xs∧xs[i]? = some x,λ i H x H'=>H' = H∧∀ xs,SqT K H a xs→xs[i]? = some x,λ i H=>∃ xs,SqT K H a xs∧xs.length≤i⟩
def Itr (lo:Int) (n:Nat):It:=⟨λ i _=>i < n,λ i H x H'=>H' = H∧x = .int (lo + i),λ i _=>n≤i⟩
theorem Xi {P:Program} {w:World} {K:PySem.W.Frag} {tg:Expr} (a it:Addr):K5 P w K tg (Itl K a) [it] it (λ i h=>h.IsListIter it a i) where
 mem:=by simp
 obj:=λ i h st b hb=>by
  have e:b = it:=by simpa using hb
  subst e
  obtain ⟨o,e,c,d⟩:=st
  exact ⟨o,e,λ v z=>by rw [d] at z; cases z⟩
 keep:=λ i h h' st k=>st.at λ o e=>k it (by simp) o e
 item:=by
  intro X hP hw hK hc i pins s σ H E I hf st hg
  subst hP hw hK
  obtain ⟨xs,x,hq,hx⟩:=hg
  obtain ⟨a2,rv,p,hz⟩:=I.list hq
  obtain ⟨u,hu,ru⟩:=rv.get hx
  obtain ⟨f0,f1,f2,f3,f4,f5⟩:=hf it (by simp)
  refine wpAny_pyNext_list_item st p.isList (x:=u) (by simpa using hu) λ h' a1 sb=>?_
  have I1:Inv X pins σ H { s with heap:=h' }:=I.turned (t':=s.toks) (λ b o hb e=>(sb.2 b hb).trans e) f0 f1 f3 f4 f5
  obtain ⟨o,e,c,d⟩:=id a1
  exact ⟨u,Z,P4 (s:={ s with heap:=h' }) e c d (by decide) ⟨x,H,I1,ru,⟨rfl,λ ys hy=>by rw [I.list_inj hy hq]; exact hx⟩,a1,λ b hb=>(hf b hb).1⟩⟩
 done:=by
  intro X hP hw hK hc i pins s σ H E I hf st hg
  subst hP hw hK
  obtain ⟨xs,hq,hx⟩:=hg
  obtain ⟨a2,rv,p,hz⟩:=I.list hq
  obtain ⟨f0,f1,f2,f3,f4,f5⟩:=hf it (by simp)
  have hl:=rv.length
  exact wpAny_pyNext_list_end (I.ok.hd hc) st p.isList (by simp; omega) λ h' eb=>⟨Z,I.turned (t':=s.toks) (λ b o hb e=>eb b o hb e) f0 f1 f3 f4 f5⟩
 self:=λ _ _ _ _ _ st h=>wpAny_pyIter_listiter st h
theorem Vt {P:Program} {w:World} {K:PySem.W.Frag} {tg:Expr} (a it:Addr):K5 P w K tg (Itt K a) [it] it (λ i h=>h.IsTupleIter it a i) where
 mem:=by simp
 obj:=λ i h st b hb=>by
  have e:b = it:=by simpa using hb
  subst e
  obtain ⟨o,e,c,d⟩:=st
  exact ⟨o,e,λ v z=>by rw [d] at z; cases z⟩
 keep:=λ i h h' st k=>st.at λ o e=>k it (by simp) o e
 item:=by
  intro X hP hw hK hc i pins s σ H E I hf st hg
  subst hP hw hK
  obtain ⟨xs,x,hq,hx⟩:=hg
  obtain ⟨a1,rv,p,hz⟩:=I.tuple hq
  obtain ⟨u,hu,ru⟩:=rv.get hx
  obtain ⟨f0,f1,f2,f3,f4,f5⟩:=hf it (by simp)
  refine wpAny_pyNext_tuple_item st (show s.heap.IsTuple a a1.toArray from p) (x:=u) (by simpa using hu) λ h' a2 sb=>?_
  have I1:Inv X pins σ H { s with heap:=h' }:=I.turned (t':=s.toks) (λ b o hb e=>(sb.2 b hb).trans e) f0 f1 f3 f4 f5
  obtain ⟨o,e,c,d⟩:=id a2
  exact ⟨u,Z,P4 (s:={ s with heap:=h' }) e c d (by decide) ⟨x,H,I1,ru,⟨rfl,λ ys hy=>by rw [I.tuple_inj hy hq]; exact hx⟩,a2,λ b hb=>(hf b hb).1⟩⟩
 done:=by
  intro X hP hw hK hc i pins s σ H E I hf st hg
  subst hP hw hK
  obtain ⟨xs,hq,hx⟩:=hg
  obtain ⟨a1,rv,p,hz⟩:=I.tuple hq
  obtain ⟨f0,f1,f2,f3,f4,f5⟩:=hf it (by simp)
  have hl:=rv.length
  exact wpAny_pyNext_tuple_end (I.ok.hd hc) st (show s.heap.IsTuple a a1.toArray from p) (by simp; omega) λ h' eb=>⟨Z,I.turned (t':=s.toks) (λ b o hb e=>eb b o hb e) f0 f1 f3 f4 f5⟩
 self:=λ _ _ _ _ _ st h=>wpAny_pyIter_tupleiter st h
theorem Vm {P:Program} {w:World} {K:PySem.W.Frag} {tg:Expr} (it:Addr) (lo:Int) (n:Nat):K5 P w K tg (Itr lo n) [it] it (λ i h=>IsRangeIter h it (lo + (i:Nat) * 1) ((n:Int) - (i:Nat)) 1) where
 mem:=by simp
 obj:=λ i h st b hb=>by
  have e:b = it:=by simpa using hb
  subst e
  exact ⟨_,st,λ v z=>by
   have z':Data.fields _ = Data.cell v:=z
   cases z'⟩
 keep:=λ i h h' st k=>k it (by simp) _ st
 item:=by
  intro X hP hw hK hc i pins s σ H E I hf st hg
  subst hP hw hK
  obtain ⟨f0,f1,f2,f3,f4,f5⟩:=hf it (by simp)
  have W:=Walks.range (prog:=X.prog) (w:=X.w) (I.ok.hd hc) it lo 1 n
  refine W.item i s _ _ hg st λ v h' tk hv a1 kk=>?_
  obtain ⟨t,rfl⟩:=hv
  have I1:Inv X pins σ H { s with heap:=h',toks:=tk }:=I.turned (λ b o hb e=>kk b o (by simpa using hb) e) f0 f1 f3 f4 f5
  refine ⟨_,Z,P4 (s:={ s with heap:=h',toks:=tk }) (n:= "range_iterator") a1 rfl rfl (by decide) ⟨.int (lo + i),H,I1,⟨t,?_⟩,⟨rfl,rfl⟩,a1,λ b hb=>(hf b hb).1⟩⟩
  rw [Int.mul_one]
 done:=by
  intro X hP hw hK hc i pins s σ H E I hf st hg
  subst hP hw hK
  obtain ⟨f0,f1,f2,f3,f4,f5⟩:=hf it (by simp)
  exact wpAny_pyNext_range_end (I.ok.hd hc) st (by have:n≤i:=hg; omega) λ h' eb=>⟨Z,I.turned (t':=s.toks) (λ b o hb e=>eb b o hb e) f0 f1 f3 f4 f5⟩
 self:=λ _ _ _ _ _ st h=>wpAny_pyIter_rangeiter st h
end L2
namespace L2
open PySem PySem.Spec PyProof.Rows
section
variable {X:Cx} {tg:Expr}
def Ad4 (K:PySem.W.Frag) (tl:TE):TI:=λ σ H R=>tl σ H λ x H1=>∃ a,x = .ref a∧(∃ xs,SqL K H1 a xs)∧R (Itl K a) H1
def Aef (K:PySem.W.Frag) (tl:TE):TI:=λ σ H R=>tl σ H λ x H1=>∃ a,x = .ref a∧(∃ xs,SqT K H1 a xs)∧R (Itt K a) H1
theorem B9 {l:Expr} {tl:TE} (hl:PE X l tl):PI X tg l (Ad4 X.K tl):=by
 intro pins s σ H R I h
 refine thn (hl pins s σ H _ I h) λ v s1 ⟨x,H1,I1,r1,q1⟩=>?_
 obtain ⟨a,e,⟨xs,hq⟩,q⟩:=q1
 subst e
 cases r1
 obtain ⟨a1,rv,p,hz⟩:=I1.list hq
 refine wpAny_pyIter_list p.isList ?_
 refine ⟨s1.heap.objs.size,[s1.heap.objs.size],_,_,H1,Z,I1.kept (t':=s1.toks) λ b o e=>Heap.get?_push_of_some _ e,Xi a _,⟨_,Heap.get?_push_size _ rfl,rfl,rfl⟩,λ b hb=>?_,q⟩
 have e:b = s1.heap.objs.size:=by simpa using hb
 subst e
 exact I1.fpOk (iX _) (I1.hok.fresh (iX _))
theorem Hq {l:Expr} {tl:TE} (hl:PE X l tl):PI X tg l (Aef X.K tl):=by
 intro pins s σ H R I h
 refine thn (hl pins s σ H _ I h) λ v s1 ⟨x,H1,I1,r1,q1⟩=>?_
 obtain ⟨a,e,⟨xs,hq⟩,q⟩:=q1
 subst e
 cases r1
 obtain ⟨a1,rv,p,hz⟩:=I1.tuple hq
 refine wpAny_pyIter_tuple (show s1.heap.IsTuple a a1.toArray from p) ?_
 refine ⟨s1.heap.objs.size,[s1.heap.objs.size],_,_,H1,Z,I1.kept (t':=s1.toks) λ b o e=>Heap.get?_push_of_some _ e,Vt a _,⟨_,Heap.get?_push_size _ rfl,rfl,rfl⟩,λ b hb=>?_,q⟩
 have e:b = s1.heap.objs.size:=by simpa using hb
 subst e
 exact I1.fpOk (iX _) (I1.hok.fresh (iX _))
theorem Aar {pins:List (Addr× Obj)} {σ:St} {H:Hp} {s:Shared} {R:It→Hp→Prop} {E:Value→Shared→Prop} {lo hi:Int} {t u v:Tok} {tk:Nat} (I:Inv X pins σ H s) (h1:-(2 ^ 62)≤lo) (h2:lo < 2 ^ 62) (h3:-(2 ^ 62)≤hi) (h4:hi < 2 ^ 62)
  (q:R (Itr lo (hi - lo).toNat) H):wpAny (model X.prog X.w) X.A (pyIter (.ref s.heap.objs.size)) (PIE X pins σ tg R) E { s with heap:=s.heap.push { cls:=.type "range", data:=.fields #[.int lo t,.int hi u,.int 1 v] },toks:=tk }:=by
 refine wpAny_pyIter_range (IsRange.new ..) (small_one h1 h2 h3 h4) ?_
 have I1:Inv X pins σ H { s with heap:=s.heap.push { cls:=.type "range", data:=.fields #[.int lo t,.int hi u,.int 1 v] },toks:=tk }:=I.kept λ b o e=>Heap.get?_push_of_some _ e
 refine ⟨(s.heap.push { cls:=.type "range", data:=.fields #[.int lo t,.int hi u,.int 1 v] }).objs.size,[(s.heap.push { cls:=.type "range", data:=.fields #[.int lo t,.int hi u,.int 1 v] }).objs.size],_,_,H,rfl,
  I1.kept (t':=tk) λ b o e=>Heap.get?_push_of_some _ e,Vm _ lo (hi - lo).toNat,?_,λ b hb=>?_,q⟩
 ·have e1:lo + ((0:Nat):Int) * 1 = lo:=by simp
  have e2:(((hi - lo).toNat:Nat):Int) - ((0:Nat):Int) = Builtin.Range.rangeSize lo hi 1:=by rw [rangeSize_one]; split <;> omega
  show IsRangeIter _ _ (lo + ((0:Nat):Int) * 1) ((((hi - lo).toNat:Nat):Int) - ((0:Nat):Int)) 1
  rw [e1,e2]
  exact Heap.get?_push_size _ rfl
 ·have e:b = (s.heap.push { cls:=.type "range", data:=.fields #[.int lo t,.int hi u,.int 1 v] }).objs.size:=by simpa using hb
  subst e
  exact I1.fpOk (iX _) (I1.hok.fresh (iX _))
def AeK (ta:TA):TI:=λ σ H R=>ta σ H λ vs H1=>∃ j:Int,vs = [.int j]∧-(2 ^ 62)≤j∧j < 2 ^ 62∧R (Itr 0 j.toNat) H1
theorem Fp {a:Expr} {ta:TA} {p pos:Pos} (hg:Gl X "range") (hm:X.mg "range" = none) (ha:PA X [a] ta) (hs:starEach [a] X.env = [(false,eval a X.env)]:=by rfl):PI X tg (.Call (.Name "range" p) [a] [] pos) (AeK ta):=by
 intro pins s σ H R I h
 refine Call_ (F1 I hg hm boot_range (PyProof.Rows.callWith_type1 (thn (ha pos pins s σ H _ I h) λ us s1 ⟨vs,H1,I1,r1,q1⟩=>?_) hs rfl))
 obtain ⟨j,e,q1,q2,q⟩:=q1
 subst e
 cases r1 with
 | cons r rr =>
  cases rr
  obtain ⟨t,rfl⟩:=r
  exact call_range_1 (Aar I1 (by omega) (by omega) q1 q2 (by simpa using q))
def Aek (wi:TI) (g:TG) (tb:TS):TS:=λ D σ H=>wi σ H λ J H1=>∃ W:Nat→Nat→St→Hp→Prop,(∃ m,W 0 m σ H1)∧∀ i m σ H,W i m σ H →
 (J.stop i H∧D.nx σ H)∨(J.go i H∧∃ N:St→Hp→Prop,(∀ σ' H',N σ' H'→∃ m',m' < m∧W (i + 1) m' σ' H')∧∀ x H',J.yld i H x H'→g x σ H' λ σ2 H2=>tb { D with nx:=N,ct:=N,bk:=D.nx } σ2 H2)
def Fr (fp:List Addr) (h:Heap):List (Addr× Obj):=fp.filterMap λ b=>(h.get? b).map λ o=>(b,o)
theorem He {fp:List Addr} {h:Heap} {b:Addr} {o:Obj} (hb:b∈fp) (e:h.get? b = some o):(b,o)∈Fr fp h:=mem_filterMap.mpr ⟨b,hb,by rw [e]; rfl⟩
theorem Pa {fp:List Addr} {h:Heap} {p:Addr× Obj} (hp:p∈Fr fp h):p.1∈fp∧h.get? p.1 = some p.2:=by
 obtain ⟨b,hb,e⟩:=mem_filterMap.mp hp
 cases q:h.get? b with
 | none=>rw [q] at e; cases e
 | some o =>
  rw [q] at e
  have e':(b,o) = p:=Option.some.inj e
  subst e'
  exact ⟨hb,q⟩
theorem Inv.pinned {pins:List (Addr× Obj)} {σ:St} {H:Hp} {s:Shared} {fp:List Addr} (I:Inv X pins σ H s) (hf:∀ b∈fp,Ht X pins H b) (ho:∀ b∈fp,∃ o,s.heap.get? b = some o∧∀ v,o.data≠.cell v):Inv X (pins ++ Fr fp s.heap) σ H s :=
 I.pins_of λ p hp=>(iU.mp hp).elim (λ z=>I.pin p (iO _ z)) λ z=>by
  obtain ⟨hb,e⟩:=Pa z
  obtain ⟨f0,f1,f2,_⟩:=hf p.1 hb
  obtain ⟨o,e',d⟩:=ho p.1 hb
  rw [e] at e'; cases e'
  exact ⟨e,f0,f1,f2,d⟩
theorem Inv.unpinned {pins pl:List (Addr× Obj)} {σ:St} {H:Hp} {s:Shared} (I:Inv X (pins ++ pl) σ H s):Inv X pins σ H s:=I.pins_of λ p hp=>I.pin p (iO _ (jW _ hp))
theorem De {iter:Expr} {a5:List Stmt} {wi:TI} {g:TG} {tb:TS} {pos:Pos} (hp:PassesOwn (model X.prog X.w) X.A X.env X.xe) (hc:X.calm = true) (hi:PI X tg iter wi) (hg:PG X tg g) (hb:PSs X a5 tb)
  (hs:∀ x,foldedSetIterable iter X.env x = pure x:=by intro _; rfl):PS X (.For tg iter a5 [] pos) (Aek wi g tb):=by
 intro pins s σ H D I h
 refine wpAny_For (thn (hi pins s σ H _ I h) λ v s1 h1=>thn h1 λ b5 s2 h2=>?_) hs
 obtain ⟨it,fp,tn,J,H2,e,I2,T,b4,f2,W,⟨m0,w0⟩,a9⟩:=h2
 subst e
 have a4:∀ {H':Hp},(∀ b∈fp,H' b = none)→∀ b∈fp,Ht X pins H' b:=λ hn b hb=>⟨hn b hb,(f2 b hb).2⟩
 refine codeAny_forLoop_any (λ n s'=>∃ i a2 H',Inv X pins a2 H' s'∧tn i s'.heap∧(∀ b∈fp,H' b = none)∧W i n a2 H') ?_ m0 ⟨0,σ,H2,I2,b4,λ b hb=>(f2 b hb).1,w0⟩
 rintro n s3 ⟨i,a3,H3,I3,a8,a7,w3⟩
 rcases a9 i n a3 H3 w3 with ⟨stop,qn⟩ | ⟨go,N,hN,step⟩
 ·refine wpAny_passesOwn hp (thn (T.done X rfl rfl rfl hc i pins s3 a3 H3 X.xe I3 (a4 a7) a8 stop) λ r s4 ⟨hr,I4⟩=>?_)
  subst hr
  exact wpAny_execs_nil ⟨a3,H3,I4,qn⟩
 ·refine wpAny_passesOwn hp (thn (T.item X rfl rfl rfl hc i pins s3 a3 H3 X.xe I3 (a4 a7) a8 go) λ r s4 ⟨u,hr,h4⟩=>?_)
  subst hr
  refine wpAny_passesOwn hp (thn h4 λ _ s5 ⟨x,H5,I5,r5,y5,a6,b2⟩=>?_)
  have b1:=I5.pinned (a4 b2) (T.obj _ _ a6)
  refine wpAny_passesOwn hp (thn (hg _ s5 a3 H5 x u _ b1 r5 (step x H5 y5)) λ _ s6 ⟨b3,H6,I6,q6⟩=>?_)
  refine wpAny_passesOwn hp (thn (hb _ s6 b3 H6 _ I6 q6) λ f s7 q7=>?_)
  have again:∀ {a1:St} {H7:Hp},Inv X (pins ++ Fr fp s5.heap) a1 H7 s7→N a1 H7→∃ m,m < n∧∃ i a2 H',Inv X pins a2 H' s7∧tn i s7.heap∧(∀ b∈fp,H' b = none)∧W i m a2 H':=λ {a1 H7} I7 n7=>by
   obtain ⟨m',hm,w7⟩:=hN a1 H7 n7
   refine ⟨m',hm,i + 1,a1,H7,I7.unpinned,T.keep _ _ _ a6 λ b hb o e=>(I7.pin (b,o) (iO _ (iO _ (He hb e)))).1,λ b hb=>?_,w7⟩
   obtain ⟨o,e,d⟩:=T.obj _ _ a6 b hb
   exact (I7.pin (b,o) (iO _ (iO _ (He hb e)))).2.1
  cases f with
  | next=>obtain ⟨a1,H7,I7,n7⟩:=q7; exact again I7 n7
  | cont=>obtain ⟨a1,H7,I7,n7⟩:=q7; exact again I7 n7
  | brk=>obtain ⟨a1,H7,I7,q7⟩:=q7; exact ⟨a1,H7,I7.unpinned,q7⟩
  | ret v=>obtain ⟨x7,a1,H7,I7,r7,q7⟩:=q7; exact ⟨x7,a1,H7,I7.unpinned,r7,q7⟩
end
theorem Fn {K:PySem.W.Frag} {a:Addr} {xs:List V} {g:TG} {tb:TS} {D:F3} {σ:St} {H:Hp} (Pv:Nat→St→Hp→Prop) (h0:Pv 0 σ H) (hl:∀ i σ H,i≤xs.length→Pv i σ H→SqL K H a xs)
  (hs:∀ i x σ H,xs[i]? = some x→Pv i σ H→g x σ H λ a2 H2=>tb { D with nx:=Pv (i + 1),ct:=Pv (i + 1),bk:=D.nx } a2 H2) (hd:∀ σ H,Pv xs.length σ H→D.nx σ H) :
  ∃ W:Nat→Nat→St→Hp→Prop,(∃ m,W 0 m σ H)∧∀ i m σ H,W i m σ H →
   ((Itl K a).stop i H∧D.nx σ H)∨((Itl K a).go i H∧∃ N:St→Hp→Prop,(∀ a1 H',N a1 H'→∃ m',m' < m∧W (i + 1) m' a1 H')∧∀ x H',(Itl K a).yld i H x H'→g x σ H' λ a2 H2=>tb { D with nx:=N,ct:=N,bk:=D.nx } a2 H2):=by
 refine ⟨λ i m σ H=>m = xs.length - i∧i≤xs.length∧Pv i σ H,⟨xs.length,by simp,jX _,h0⟩,?_⟩
 rintro i m σ H ⟨rfl,hi,p⟩
 have q:=hl i σ H hi p
 by_cases a3:i < xs.length
 ·refine .inr ⟨⟨xs,xs[i],q,by simp [a3]⟩,Pv (i + 1),λ a1 H' p'=>⟨xs.length - (i + 1),by omega,rfl,a3,p'⟩,λ x H' y=>?_⟩
  obtain ⟨e,y⟩:=y
  subst e
  exact hs i x σ _ (y xs q) p
 ·have e:i = xs.length:=by omega
  subst e
  exact .inl ⟨⟨xs,q,iX _⟩,hd σ H p⟩
theorem Lf {K:PySem.W.Frag} {a:Addr} {xs:List V} {g:TG} {tb:TS} {D:F3} {σ:St} {H:Hp} (Pv:Nat→St→Hp→Prop) (h0:Pv 0 σ H) (hl:∀ i σ H,i≤xs.length→Pv i σ H→SqT K H a xs)
  (hs:∀ i x σ H,xs[i]? = some x→Pv i σ H→g x σ H λ a2 H2=>tb { D with nx:=Pv (i + 1),ct:=Pv (i + 1),bk:=D.nx } a2 H2) (hd:∀ σ H,Pv xs.length σ H→D.nx σ H) :
  ∃ W:Nat→Nat→St→Hp→Prop,(∃ m,W 0 m σ H)∧∀ i m σ H,W i m σ H →
   ((Itt K a).stop i H∧D.nx σ H)∨((Itt K a).go i H∧∃ N:St→Hp→Prop,(∀ a1 H',N a1 H'→∃ m',m' < m∧W (i + 1) m' a1 H')∧∀ x H',(Itt K a).yld i H x H'→g x σ H' λ a2 H2=>tb { D with nx:=N,ct:=N,bk:=D.nx } a2 H2):=by
 refine ⟨λ i m σ H=>m = xs.length - i∧i≤xs.length∧Pv i σ H,⟨xs.length,by simp,jX _,h0⟩,?_⟩
 rintro i m σ H ⟨rfl,hi,p⟩
 have q:=hl i σ H hi p
 by_cases a3:i < xs.length
 ·refine .inr ⟨⟨xs,xs[i],q,by simp [a3]⟩,Pv (i + 1),λ a1 H' p'=>⟨xs.length - (i + 1),by omega,rfl,a3,p'⟩,λ x H' y=>?_⟩
  obtain ⟨e,y⟩:=y
  subst e
  exact hs i x σ _ (y xs q) p
 ·have e:i = xs.length:=by omega
  subst e
  exact .inl ⟨⟨xs,q,iX _⟩,hd σ H p⟩
theorem Xs {lo:Int} {n:Nat} {g:TG} {tb:TS} {D:F3} {σ:St} {H:Hp} (Pv:Nat→St→Hp→Prop) (h0:Pv 0 σ H)
  (hs:∀ i σ H,i < n→Pv i σ H→g (.int (lo + i)) σ H λ a2 H2=>tb { D with nx:=Pv (i + 1),ct:=Pv (i + 1),bk:=D.nx } a2 H2) (hd:∀ σ H,Pv n σ H→D.nx σ H) :
  ∃ W:Nat→Nat→St→Hp→Prop,(∃ m,W 0 m σ H)∧∀ i m σ H,W i m σ H →
   ((Itr lo n).stop i H∧D.nx σ H)∨((Itr lo n).go i H∧∃ N:St→Hp→Prop,(∀ a1 H',N a1 H'→∃ m',m' < m∧W (i + 1) m' a1 H')∧∀ x H',(Itr lo n).yld i H x H'→g x σ H' λ a2 H2=>tb { D with nx:=N,ct:=N,bk:=D.nx } a2 H2):=by
 refine ⟨λ i m σ H=>m = n - i∧i≤n∧Pv i σ H,⟨n,by simp,jX _,h0⟩,?_⟩
 rintro i m σ H ⟨rfl,hi,p⟩
 by_cases a3:i < n
 ·refine .inr ⟨a3,Pv (i + 1),λ a1 H' p'=>⟨n - (i + 1),by omega,rfl,a3,p'⟩,λ x H' y=>?_⟩
  obtain ⟨e,y⟩:=y
  subst e y
  exact hs i σ _ a3 p
 ·have e:i = n:=by omega
  subst e
  exact .inl ⟨iX _,hd σ H p⟩
theorem J0 {c:TT} {tb:TS} {D:F3} {σ:St} {H:Hp} (Pv:St→Hp→Prop) (μ:St→Hp→Nat) (h0:Pv σ H)
  (hs:∀ σ H,Pv σ H→c σ H λ b H1=>if b = true then tb { D with nx:=λ a1 H'=>Pv a1 H'∧μ a1 H' < μ σ H,ct:=λ a1 H'=>Pv a1 H'∧μ a1 H' < μ σ H,bk:=D.nx } σ H1 else D.nx σ H1)
  (mono:∀ σ H Q Q',(∀ b H1,Q b H1→Q' b H1)→c σ H Q→c σ H Q'):Yi c tb D σ H:=by
 refine ⟨λ m σ H=>m = μ σ H∧Pv σ H,⟨_,Z,h0⟩,?_⟩
 rintro m σ H ⟨rfl,p⟩
 refine mono σ H _ _ (λ b H1 q=>?_) (hs σ H p)
 cases b with
 | true=>exact ⟨_,λ a1 H' ⟨p',l⟩=>⟨_,l,rfl,p'⟩,q⟩
 | false=>exact q
end L2
namespace L2
open PySem PySem.Spec PyProof.Rows
abbrev R2:=V→V→Hp→VK→Prop
def OpR (X:Cx) (f:Value→Value→Sem Value) (r:R2):Prop :=
 ∀ (pins:List (Addr× Obj)) (s:Shared) (σ:St) (H:Hp) (x y:V) (v u:Value) (Q:VK),Inv X pins σ H s→A6 x v→A6 y u→r x y H Q →
  wpAny (model X.prog X.w) X.A (f v u) (EP X pins σ Q) X.xe s
def UnR (X:Cx) (f:Value→Sem Value) (r:V→Hp→VK→Prop):Prop :=
 ∀ (pins:List (Addr× Obj)) (s:Shared) (σ:St) (H:Hp) (x:V) (v:Value) (Q:VK),Inv X pins σ H s→A6 x v→r x H Q →
  wpAny (model X.prog X.w) X.A (f v) (EP X pins σ Q) X.xe s
def Es (X:Cx) (f:Value) (r:List V→Hp→VK→Prop):Prop :=
 ∀ (pins:List (Addr× Obj)) (s:Shared) (σ:St) (H:Hp) (xs:List V) (us:List Value) (Q:VK),Inv X pins σ H s→Az xs us→r xs H Q →
  wpAny (model X.prog X.w) X.A (call f us) (EP X pins σ Q) X.xe s
def Aeb (X:Cx) (r:V→Hp→(Bool→Hp→Prop)→Prop):Prop :=
 ∀ (pins:List (Addr× Obj)) (s:Shared) (σ:St) (H:Hp) (x:V) (v:Value) (Q:Bool→Hp→Prop),Inv X pins σ H s→A6 x v→r x H Q →
  wpAny (model X.prog X.w) X.A (truthy v) (TP X pins σ Q) X.xe s
def tOp (r:R2) (ta tb:TE):TE:=λ σ H Q=>ta σ H λ x H1=>tb σ H1 λ y H2=>r x y H2 Q
def tUn (r:V→Hp→VK→Prop) (ta:TE):TE:=λ σ H Q=>ta σ H λ x H1=>r x H1 Q
inductive Adt (C:Int→Int→Prop) (g:Int→Int→V) (x y:V) (H:Hp) (Q:VK):Prop
 | mk (i) (j) (_:x = .int i) (_:y = .int j) (_:C i j) (_:Q (g i j) H):Adt C g x y H Q
def rI (C:Int→Int→Prop) (g:Int→Int→V):R2:=λ x y H Q=>Adt C g x y H Q
inductive AbO (g:Int→Int→V) (x y:V) (H:Hp) (Q:VK):Prop
 | mk (i) (j) (_:x = .int i) (_:y = .int j) (_:Q (g i j) H):AbO g x y H Q
def rI0 (g:Int→Int→V):R2:=λ x y H Q=>AbO g x y H Q
def rU (g:Int→V):V→Hp→VK→Prop:=λ x H Q=>∃ i,x = .int i∧Q (g i) H
section
variable {X:Cx} {a b c:Expr} {ta tb tc:TE} {pos:Pos}
theorem Z3 (ha:PE X a ta) (hb:PE X b tb) {pins:List (Addr× Obj)} {s:Shared} {σ:St} {H:Hp} {R:V→V→Hp→Prop} (I:Inv X pins σ H s)
  (h:ta σ H λ x H1=>tb σ H1 λ y H2=>R x y H2) {Q:Value→Shared→Prop} {f:Value→Value→Sem Value}
  (hf:∀ v u s2 x y H2,Inv X pins σ H2 s2→A6 x v→A6 y u→R x y H2→wpAny (model X.prog X.w) X.A (f v u) Q X.xe s2) :
  wpAny (model X.prog X.w) X.A (eval a X.env) (λ v a1=>wpAny (model X.prog X.w) X.A (eval b X.env) (λ u a2=>wpAny (model X.prog X.w) X.A (f v u) Q X.xe a2) X.xe a1) X.xe s:=by
 refine thn (ha pins s σ H _ I h) λ v s1 ⟨x,H1,I1,r1,q1⟩=>?_
 refine thn (hb pins s1 σ H1 _ I1 q1) λ u s2 ⟨y,H2,I2,r2,q2⟩=>?_
 exact hf v u s2 x y H2 I2 r1 r2 q2
theorem A8 {op:Operator} {r:R2} (ho:OpR X (binaryOp op) r) (ha:PE X a ta) (hb:PE X b tb):PE X (.BinOp a op b pos) (tOp r ta tb):=by
 intro pins s σ H Q I h
 exact wpAny_BinOp (Z3 ha hb I h λ v u s2 x y H2 I2 rx ry q=>ho pins s2 σ H2 x y v u Q I2 rx ry q)
theorem Lm {op:UnaryOp} {r:V→Hp→VK→Prop} (ho:UnR X (unaryOp op) r) (ha:PE X a ta):PE X (.UnaryOp op a pos) (tUn r ta):=by
 intro pins s σ H Q I h
 exact UnaryOp_ (thn (ha pins s σ H _ I h) λ v s1 ⟨x,H1,I1,r1,q1⟩=>ho pins s1 σ H1 x v Q I1 r1 q1)
theorem opI {f:Value→Value→Sem Value} {C:Int→Int→Prop} {g:Int→Int→Int}
  (a1:∀ (i j:Int) (t u:Tok) (s:Shared) (Q:Value→Shared→Prop) (E:Value→Shared→Prop),C i j→Q (.int (g i j) s.toks) { s with toks:=s.toks + 1 }→wpAny (model X.prog X.w) X.A (f (.int i t) (.int j u)) Q E s) :
  OpR X f (rI C λ i j=>.int (g i j)):=by
 intro pins s σ H x y v u Q I rx ry h
 obtain ⟨i,j,rfl,rfl,hc,q⟩:=h
 obtain ⟨t,rfl⟩:=rx
 obtain ⟨t',rfl⟩:=ry
 exact a1 i j t t' s _ _ hc ⟨.int (g i j),H,I.tok _,⟨_,Z⟩,q⟩
theorem AdT {f:Value→Value→Sem Value} {g:Int→Int→Int}
  (a1:∀ (i j:Int) (t u:Tok) (s:Shared) (Q:Value→Shared→Prop) (E:Value→Shared→Prop),Q (.int (g i j) s.toks) { s with toks:=s.toks + 1 }→wpAny (model X.prog X.w) X.A (f (.int i t) (.int j u)) Q E s) :
  OpR X f (rI0 λ i j=>.int (g i j)):=by
 intro pins s σ H x y v u Q I rx ry h
 obtain ⟨i,j,rfl,rfl,q⟩:=h
 obtain ⟨t,rfl⟩:=rx
 obtain ⟨t',rfl⟩:=ry
 exact a1 i j t t' s _ _ ⟨.int (g i j),H,I.tok _,⟨_,Z⟩,q⟩
theorem Aam {f:Value→Value→Sem Value} {g:Int→Int→Bool}
  (a1:∀ (i j:Int) (t u:Tok) (s:Shared) (Q:Value→Shared→Prop) (E:Value→Shared→Prop),Q (.bool (g i j)) s→wpAny (model X.prog X.w) X.A (f (.int i t) (.int j u)) Q E s) :
  OpR X f (rI0 λ i j=>.bl (g i j)):=by
 intro pins s σ H x y v u Q I rx ry h
 obtain ⟨i,j,rfl,rfl,q⟩:=h
 obtain ⟨t,rfl⟩:=rx
 obtain ⟨t',rfl⟩:=ry
 exact a1 i j t t' s _ _ ⟨.bl (g i j),H,I,Z,q⟩
def Aat (i j:Int):Prop:=0 < j∧j < 1073741824
def Aco (i j:Int):Prop:=0≤j∧j≤1000000∧i.natAbs < 2 ^ 64
def Aaj (i j:Int):Prop:=(-(2 ^ 64) < i∧i < 2 ^ 64)∨(-(2 ^ 64) < j∧j < 2 ^ 64)
theorem Aaj.ok {i j:Int} (h:Aaj i j):IntMulOk i j:=by
 rcases h with ⟨h1,h2⟩ | ⟨h1,h2⟩
 ·exact .of_left (intBits_le_64 h1 h2)
 ·exact .of_right (intBits_le_64 h1 h2)
theorem F5:OpR X (binaryOp .Add) (rI0 λ i j=>.int (i + j)):=AdT λ _ _ _ _ _ _ _ q=>add_int q
theorem M1:OpR X (binaryOp .Sub) (rI0 λ i j=>.int (i - j)):=AdT λ _ _ _ _ _ _ _ q=>sub_int q
theorem Xw:OpR X (binaryOp .Mult) (rI Aaj λ i j=>.int (i * j)):=opI λ _ _ _ _ _ _ _ hc q=>mul_int q hc.ok
theorem Do:OpR X (binaryOp .FloorDiv) (rI Aat λ i j=>.int (i / j)):=opI λ i j _ _ _ _ _ hc q=>by
 have h1:(0:Int) < j:=hc.1
 have h2:j < 1073741824:=hc.2
 exact floordiv_int (by omega) (by rw [Int.fdiv_eq_ediv_of_nonneg i (by omega)]; exact q) (.inl (PyProof.noPylong_small (by omega)))
theorem Ck:OpR X (binaryOp .Mod) (rI (λ _ j=>0 < j) λ i j=>.int (i % j)):=opI λ i j _ _ _ _ _ hc q=>by
 have h1:(0:Int) < j:=hc
 exact mod_int' (by omega) (by rw [Int.fmod_eq_emod_of_nonneg i (by omega)]; exact q)
theorem Acs:OpR X (binaryOp .LShift) (rI Aco λ i j=>.int (i * 2 ^ j.toNat)):=opI λ _ _ _ _ _ _ _ hc q=>lshift_int_small hc.1 hc.2.1 hc.2.2 q
theorem unI {f:Value→Sem Value} {g:Int→Int}
  (a1:∀ (i:Int) (t:Tok) (s:Shared) (Q:Value→Shared→Prop) (E:Value→Shared→Prop),Q (.int (g i) s.toks) { s with toks:=s.toks + 1 }→wpAny (model X.prog X.w) X.A (f (.int i t)) Q E s) :
  UnR X f (rU λ i=>.int (g i)):=by
 intro pins s σ H x v Q I rx h
 obtain ⟨i,rfl,q⟩:=h
 obtain ⟨t,rfl⟩:=rx
 exact a1 i t s _ _ ⟨.int (g i),H,I.tok _,⟨_,Z⟩,q⟩
theorem Jn:UnR X (unaryOp .USub) (rU λ i=>.int (-i)):=unI λ _ _ _ _ _ q=>neg_int q
end
def Zo:V→V→Bool
 | .non,.non=>true | .non,.int _=>true | .int _,.non=>true | .non,.bl _=>true | .bl _,.non=>true | .non,.str _=>true | .str _,.non=>true
 | .int _,.int _=>true | .bl _,.bl _=>true | .str _,.str _=>true | .byt _,.byt _=>true
 | .int _,.str _=>true | .str _,.int _=>true | .bl _,.str _=>true | .str _,.bl _=>true
 | _,_=>false
def rEq:R2:=λ x y H Q=>Zo x y = true∧Q (.bl (decide (x = y))) H
def rNe:R2:=λ x y H Q=>Zo x y = true∧Q (.bl (!decide (x = y))) H
theorem Tw {i j:Int}:decide (V.int i = V.int j) = (i == j):=by
 rw [Bool.eq_iff_iff]
 simp
theorem W6 {i j:Bool}:decide (V.bl i = V.bl j) = (i == j):=by
 rw [Bool.eq_iff_iff]
 simp
theorem S8 {i j:Str}:decide (V.str i = V.str j) = (i == j):=by
 rw [Bool.eq_iff_iff]
 simp
theorem Us {i j:Array UInt8}:decide (V.byt i = V.byt j) = (i.toList == j.toList):=by
 rw [Bool.eq_iff_iff]
 cases i
 cases j
 simp
section
variable {X:Cx} {a b c:Expr} {ta tb tc:TE} {pos:Pos}
theorem Bm {pins:List (Addr× Obj)} {σ:St} {H:Hp} {s:Shared} {Q:VK} {k k':Bool} (I:Inv X pins σ H s) (q:Q (.bl k) H) (e:k = k'):EP X pins σ Q (.bool k') s:=by
 subst e
 exact ⟨.bl k,H,I,Z,q⟩
theorem A9:OpR X (compareOp .Eq) rEq:=by
 intro pins s σ H x y v u Q I rx ry h
 obtain ⟨hs,q⟩:=h
 cases x with
 | non =>
  cases rx
  cases y with
  | non=>cases ry; exact PySem.EqNone.eq_none_none (Bm I q (by simp))
  | bl j=>cases ry; exact PySem.EqNone.eq_none_bool (Bm I q (by simp))
  | int j=>obtain ⟨t',rfl⟩:=ry; exact PySem.EqNone.eq_none_int (Bm I q (by simp))
  | str j=>obtain ⟨t',rfl⟩:=ry; exact PySem.EqNone.eq_none_str (Bm I q (by simp))
  | _=>exact absurd (show false = true from hs) Bool.false_ne_true
 | bl i =>
  cases rx
  cases y with
  | non=>cases ry; exact PySem.EqNone.eq_bool_none (Bm I q (by simp))
  | bl j=>cases ry; exact eq_bool (Bm I q W6)
  | str j=>obtain ⟨t',rfl⟩:=ry; exact PySem.EqMixed.eq_bool_str (Bm I q (by simp))
  | _=>exact absurd (show false = true from hs) Bool.false_ne_true
 | int i =>
  obtain ⟨t,rfl⟩:=rx
  cases y with
  | non=>cases ry; exact PySem.EqNone.eq_int_none (Bm I q (by simp))
  | int j=>obtain ⟨t',rfl⟩:=ry; exact eq_int (Bm I q Tw)
  | str j=>obtain ⟨t',rfl⟩:=ry; exact PySem.EqMixed.eq_int_str (Bm I q (by simp))
  | _=>exact absurd (show false = true from hs) Bool.false_ne_true
 | str i =>
  obtain ⟨t,rfl⟩:=rx
  cases y with
  | non=>cases ry; exact PySem.EqNone.eq_str_none (Bm I q (by simp))
  | bl j=>cases ry; exact PySem.EqMixed.eq_str_bool (Bm I q (by simp))
  | int j=>obtain ⟨t',rfl⟩:=ry; exact PySem.EqMixed.eq_str_int (Bm I q (by simp))
  | str j=>obtain ⟨t',rfl⟩:=ry; exact eq_str (Bm I q S8)
  | _=>exact absurd (show false = true from hs) Bool.false_ne_true
 | byt i =>
  obtain ⟨t,rfl⟩:=rx
  cases y with
  | byt j=>obtain ⟨t',rfl⟩:=ry; exact PySem.W.eq_bytes (Bm I q Us)
  | _=>exact absurd (show false = true from hs) Bool.false_ne_true
 | _=>cases y <;> exact absurd (show false = true from hs) Bool.false_ne_true
theorem Nb:OpR X (compareOp .NotEq) rNe:=by
 intro pins s σ H x y v u Q I rx ry h
 obtain ⟨hs,q⟩:=h
 cases x with
 | non =>
  cases rx
  cases y with
  | non=>cases ry; exact PySem.EqNone.ne_none_none (Bm I q (by simp))
  | bl j=>cases ry; exact PySem.EqNone.ne_none_bool (Bm I q (by simp))
  | int j=>obtain ⟨t',rfl⟩:=ry; exact PySem.EqNone.ne_none_int (Bm I q (by simp))
  | str j=>obtain ⟨t',rfl⟩:=ry; exact PySem.EqNone.ne_none_str (Bm I q (by simp))
  | _=>exact absurd (show false = true from hs) Bool.false_ne_true
 | bl i =>
  cases rx
  cases y with
  | non=>cases ry; exact PySem.EqNone.ne_bool_none (Bm I q (by simp))
  | bl j=>cases ry; exact ne_bool (Bm I q (congrArg not W6))
  | str j=>obtain ⟨t',rfl⟩:=ry; exact PySem.EqMixed.ne_bool_str (Bm I q (by simp))
  | _=>exact absurd (show false = true from hs) Bool.false_ne_true
 | int i =>
  obtain ⟨t,rfl⟩:=rx
  cases y with
  | non=>cases ry; exact PySem.EqNone.ne_int_none (Bm I q (by simp))
  | int j=>obtain ⟨t',rfl⟩:=ry; exact ne_int (Bm I q (congrArg not Tw))
  | str j=>obtain ⟨t',rfl⟩:=ry; exact PySem.EqMixed.ne_int_str (Bm I q (by simp))
  | _=>exact absurd (show false = true from hs) Bool.false_ne_true
 | str i =>
  obtain ⟨t,rfl⟩:=rx
  cases y with
  | non=>cases ry; exact PySem.EqNone.ne_str_none (Bm I q (by simp))
  | bl j=>cases ry; exact PySem.EqMixed.ne_str_bool (Bm I q (by simp))
  | int j=>obtain ⟨t',rfl⟩:=ry; exact PySem.EqMixed.ne_str_int (Bm I q (by simp))
  | str j=>obtain ⟨t',rfl⟩:=ry; exact ne_str (Bm I q (congrArg not S8))
  | _=>exact absurd (show false = true from hs) Bool.false_ne_true
 | byt i =>
  obtain ⟨t,rfl⟩:=rx
  cases y with
  | byt j=>obtain ⟨t',rfl⟩:=ry; exact PySem.W.ne_bytes (Bm I q (congrArg not Us))
  | _=>exact absurd (show false = true from hs) Bool.false_ne_true
 | _=>cases y <;> exact absurd (show false = true from hs) Bool.false_ne_true
theorem Li:OpR X (compareOp .Lt) (rI0 λ i j=>.bl (decide (i < j))):=Aam λ _ _ _ _ _ _ _ q=>lt_int q
theorem Ad8:OpR X (compareOp .LtE) (rI0 λ i j=>.bl (decide (i≤j))):=Aam λ _ _ _ _ _ _ _ q=>le_int q
theorem AbE:OpR X (compareOp .Gt) (rI0 λ i j=>.bl (decide (j < i))):=Aam λ _ _ _ _ _ _ _ q=>gt_int q
theorem Ky:OpR X (compareOp .Is) (λ x y H Q=>y = .non∧Q (.bl (decide (x = .non))) H):=by
 intro pins s σ H x y v u Q I rx ry h
 obtain ⟨rfl,q⟩:=h
 cases ry
 refine is_none_gen (Bm I q ?_)
 cases x <;> first
  | (cases rx; rfl)
  | (obtain ⟨t,rfl⟩:=rx; rfl)
theorem Nz:OpR X (compareOp .IsNot) (λ x y H Q=>y = .non∧Q (.bl (!decide (x = .non))) H):=by
 intro pins s σ H x y v u Q I rx ry h
 obtain ⟨rfl,q⟩:=h
 cases ry
 refine isnot_none_gen (Bm I q ?_)
 cases x <;> first
  | (cases rx; rfl)
  | (obtain ⟨t,rfl⟩:=rx; rfl)
theorem OpR.or {f:Value→Value→Sem Value} {r r':R2} (h:OpR X f r) (h':OpR X f r'):OpR X f (λ x y H Q=>r x y H Q∨r' x y H Q):=by
 intro pins s σ H x y v u Q I rx ry q
 rcases q with q | q
 ·exact h pins s σ H x y v u Q I rx ry q
 ·exact h' pins s σ H x y v u Q I rx ry q
theorem Ap (b:Expr) {op:CmpOp} (h:op≠.In:=by decide) (h2:op≠.NotIn:=by decide):behindInMarks op b = false:=by
 have e1:(op == CmpOp.In) = false:=by cases op <;> first | rfl | exact absurd rfl h
 have e2:(op == CmpOp.NotIn) = false:=by cases op <;> first | rfl | exact absurd rfl h2
 cases b <;> simp [behindInMarks,e1,e2]
theorem Dp {op:CmpOp} {r:R2} (ho:OpR X (compareOp op) r) (ha:PE X a ta) (hb:PE X b tb) (hm:behindInMarks op b = false):PE X (.Compare a [op] [b] pos) (tOp r ta tb):=by
 intro pins s σ H Q I h
 exact wpAny_Compare1 (Z3 ha hb I h λ v u s2 x y H2 I2 rx ry q=>ho pins s2 σ H2 x y v u Q I2 rx ry q) hm
def Ip (t:TE):TT:=λ σ H Q=>t σ H λ x H'=>Aa3 x H' Q
theorem Am {op:CmpOp} {r:R2} (ho:OpR X (compareOp op) r) (ha:PE X a ta) (hb:PE X b tb) (hm:behindInMarks op b = false):PT X (.Compare a [op] [b] pos) (Ip (tOp r ta tb)):=by
 intro pins s σ H Q I h
 refine wpAny_isTrue_Compare1 (thn (ha pins s σ H _ I h) λ v s1 ⟨x,H1,I1,r1,q1⟩=>thn (hb pins s1 σ H1 _ I1 q1) λ u s2 ⟨y,H2,I2,r2,q2⟩ =>
  thn (ho pins s2 σ H2 x y v u _ I2 r1 r2 q2) λ c s3 ⟨z,H3,I3,r3,k,e,q3⟩=>?_) hm
 subst e
 cases r3
 exact wpAny_truthy_bool ⟨H3,I3,q3⟩
def Vo (K:PySem.W.Frag) (x:V) (H:Hp) (k:Bool):Prop :=
 match x with
 | .non=>k = false
 | .bl b=>k = b
 | .int i=>k = (i != 0)
 | .str y=>y.length≤sizeLine∧k = ((y.length:Int) != 0)
 | .byt y=>y.size≤sizeLine∧k = ((y.size:Int) != 0)
 | .ref p=>(∃ xs,SqL K H p xs∧k = !xs.isEmpty)∨(∃ xs,SqT K H p xs∧k = !xs.isEmpty)∨∃ kvs,H p = some (.dK kvs)∧k = !kvs.isEmpty
 | _=>False
theorem Vl {κ:Type} {kvs:List (κ× V)} {vs:List (κ× Value)} (r:KV kvs vs):(!vs.isEmpty) = !kvs.isEmpty:=by
 cases r <;> rfl
theorem Ms {xs:List V} {a1:List Value} (r:Az xs a1):(!a1.toArray.isEmpty) = !xs.isEmpty:=by
 cases r <;> simp
theorem Jv:(sizeLine:Nat) < 2 ^ 63:=by rw [sizeLine_eq]; decide
theorem Acr:Aeb X (λ x H Q=>∃ k,Vo X.K x H k∧Q k H):=by
 intro pins s σ H x v Q I rx h
 obtain ⟨k,e,q⟩:=h
 have hl:=Jv
 have hs:sizeLine = 16777216:=sizeLine_eq
 cases x with
 | non =>
  cases rx
  have e':k = false:=e
  subst e'
  exact truthy_none ⟨H,I,q⟩
 | bl b =>
  cases rx
  have e':k = b:=e
  subst e'
  exact wpAny_truthy_bool ⟨H,I,q⟩
 | int i =>
  obtain ⟨t,rfl⟩:=rx
  have e':k = (i != 0):=e
  subst e'
  exact PySem.P.truthy_int ⟨H,I,q⟩
 | str y =>
  obtain ⟨t,rfl⟩:=rx
  obtain ⟨hy,e'⟩:y.length≤sizeLine∧k = ((y.length:Int) != 0):=e
  subst e'
  exact PySem.P.truthy_str (by omega) ⟨H,I.tok _,q⟩
 | byt y =>
  obtain ⟨t,rfl⟩:=rx
  obtain ⟨hy,e'⟩:y.size≤sizeLine∧k = ((y.size:Int) != 0):=e
  subst e'
  exact PySem.W.truthy_bytes (by omega) ⟨H,I.tok _,q⟩
 | ref p =>
  cases rx
  have e':(∃ xs,SqL X.K H p xs∧k = !xs.isEmpty)∨(∃ xs,SqT X.K H p xs∧k = !xs.isEmpty)∨∃ kvs,H p = some (.dK kvs)∧k = !kvs.isEmpty:=e
  rcases e' with ⟨xs,hx,e'⟩ | ⟨xs,hx,e'⟩ | ⟨kvs,hx,e'⟩
  ·subst e'
   obtain ⟨a2,r,pl,hz⟩:=I.list hx
   have a1:=r.length
   exact wpAny_truthy_list pl.isList (by simp only [iL]; omega) ⟨H,I.tok _,by rw [Ms r]; exact q⟩
  ·subst e'
   obtain ⟨a2,r,pl,hz⟩:=I.tuple hx
   have a1:=r.length
   exact truthy_tuple pl (by simp only [iL]; omega) ⟨H,I.tok _,by rw [Ms r]; exact q⟩
  ·subst e'
   obtain ⟨hz,hS,vs,r,m⟩:kvs.length≤sizeLine∧(p == sysModules) = false∧∃ vs,KV kvs vs∧s.heap.DictOf (mixKind X.prog X.w) p vs:=I.hok p _ hx
   have a1:kvs.length = vs.length:=Paired.length r
   exact wpAny_truthy_dict hS m (by omega) ⟨H,I.tok _,by rw [Vl r]; exact q⟩
 | _=>exact (show False from e).elim
theorem Ii (ha:PE X a ta) (he:∀ a1,isTrue a X.env a1 = (do let v ← a1; standAt a.pos; holding [v] (truthy v))) :
  PT X a (λ σ H Q=>ta σ H λ x H'=>∃ k,Vo X.K x H' k∧Q k H'):=by
 intro pins s σ H Q I h
 exact isTrue_plain (thn (ha pins s σ H _ I h) λ v s1 ⟨x,H1,I1,r1,q1⟩=>Acr pins s1 σ H1 x v Q I1 r1 q1) (he _)
theorem Nj {x:V} {us:List Value} (r:Az [x] us):∃ u,us = [u]∧A6 x u:=by
 cases r with
 | cons r1 r2=>cases r2; exact ⟨_,rfl,r1⟩
theorem AeV {x y:V} {us:List Value} (r:Az [x,y] us):∃ u w',us = [u,w']∧A6 x u∧A6 y w':=by
 cases r with
 | cons r1 r2 =>
  cases r2 with
  | cons r3 r4=>cases r4; exact ⟨_,_,rfl,r1,r3⟩
theorem Xk (hc:X.calm = true):Es X (.builtin "max") (λ xs H Q=>∃ i j,xs = [.int i,.int j]∧Q (.int (if j > i then j else i)) H):=by
 intro pins s σ H xs us Q I r h
 obtain ⟨i,j,rfl,q⟩:=h
 obtain ⟨u,w',rfl,⟨t,rfl⟩,⟨t',rfl⟩⟩:=AeV r
 refine max_two_ints (I.ok.hd hc) λ h' tk k=>⟨_,H,I.kept k,?_,q⟩
 by_cases hj:j > i
 ·rw [if_pos hj,if_pos hj]; exact ⟨_,Z⟩
 ·rw [if_neg hj,if_neg hj]; exact ⟨_,Z⟩
theorem Xx:Es X (.type "int") (λ xs H Q=>(∃ i,xs = [.int i]∧Q (.int i) H)∨∃ k,xs = [.bl k]∧Q (.int (if k then 1 else 0)) H):=by
 intro pins s σ H xs us Q I r h
 rcases h with ⟨i,rfl,q⟩ | ⟨k,rfl,q⟩
 ·obtain ⟨u,rfl,t,rfl⟩:=Nj r
  exact call_int_int ⟨.int i,H,I,⟨_,Z⟩,q⟩
 ·obtain ⟨u,rfl,r1⟩:=Nj r
  cases r1
  exact call_int_bool ⟨.int (if k then 1 else 0),H,I.tok _,⟨_,Z⟩,q⟩
end
end L2
namespace L2
open PySem PySem.Spec PyProof.Rows
structure Mb (h:Heap) (x dx C:Addr) (mA:Str→Option Value):Prop where
 obj:h.get? x = some (instObj C dx)
 ns:h.Ns1 dx mA
 ne:dx≠x
theorem Y7 {h:Heap} {dx:Addr} {mA:Str→Option Value} (n:h.Ns1 dx mA):∃ od,h.get? dx = some od∧∀ name,lookIn name od = some (mA name):=by
 obtain ⟨o,es,ep,ho,hd,hk,_,hm⟩:=n
 refine ⟨o,ho,λ name=>?_⟩
 have e:=hm name
 unfold nsFind findBy at e
 rw [← Array.find?_toList] at e
 unfold lookIn
 rw [hd]
 dsimp only
 split
 ·rename_i y q
  rw [q] at e
  exact congrArg some e
 ·rename_i q
  rw [q] at e
  have a:es.toList.any (·.refKey) = false:=by
   rw [List.any_eq_false]
   intro y hy
   obtain ⟨z,t,a1⟩:=hk y (Array.mem_toList_iff.mp hy)
   simp [DictEntry.refKey,a1]
  have a':¬ es.toList.any (·.refKey) = true:=by rw [a]; exact Bool.false_ne_true
  rw [if_neg a']
  exact congrArg some e
theorem Mb.look {h:Heap} {x dx C:Addr} {mA:Str→Option Value} (I:Mb h x dx C mA):∃ od,PySem.W.InstAt h x (instObj C dx) C (some od)∧∀ name,lookIn name od = some (mA name) :=
 let ⟨od,ho,hl⟩:=Y7 I.ns
 ⟨od,⟨I.obj,Z,Z,ho⟩,hl⟩
section
variable {prog:Program} {w:World} {A:Around} {E:Value→Shared→Prop} {s:Shared} {K:PySem.W.Frag} {x dx C f:Addr} {mA:Str→Option Value} {name:Str} {v:Value}
theorem Ab3 {a1:Bool} {Q:Value→Shared→Prop} (X:K.In s.heap) (I:Mb s.heap x dx C mA) (hg:plainGet K C name = true) (hh:hasDictIn K C = true)
  (ha:findIn K (.ref C) name = some none) (hv:mA name = some v) (a2:handedIn v = true) (h:Q v { s with toks:=s.toks + 1 }) :
  wpAny (model prog w) A (getAttr (.ref x) name a1) Q E s:=by
 obtain ⟨od,J,hl⟩:=I.look
 exact PySem.W.get_value X J (plainGet_of hg).1 (PySem.W.findObj_own hh ha rfl (by rw [hl,hv])) a2 h
theorem Aan {pl:Sem Bool} {Q:Value× List Value→Shared→Prop} (X:K.In s.heap) (I:Mb s.heap x dx C mA) (hg:plainGet K C name = true)
  (hf:findIn K (.ref C) name = some (some (.ref f))) (ht:isFn K (.ref f) = true) (hv:mA name = none) (h:Q (.ref f,[.ref x]) s) :
  wpAny (model prog w) A (getMethod (.ref x) name pl) Q E s:=by
 obtain ⟨od,J,hl⟩:=I.look
 exact PySem.W.method_fn X J (plainGet_of hg).1 (plainGet_of hg).2 hf (beq_iff_eq.mp ht) (by show (lookIn name od).map (·.isSome) = some false; rw [hl,hv]; rfl) h
theorem AcN {ns:List Str} {Q:Unit→Shared→Prop} (X:K.In s.heap) (I:Mb s.heap x dx C mA)
  (hs:findIn K (.ref C) "__setattr__" = some (some (.builtin "object.__setattr__"))) (hp:plainOver K C = true) (ht:takerIn K C name = some none) (hh:hasDictIn K C = true)
  (hw:PySem.Within mA ns) (hsz:ns.length≤sizeLine)
  (h:∀ h',Mb h' x dx C (λ y=>if y = name then some v else mA y)→Heap.SameBut dx s.heap h'→Q () { s with heap:=h',toks:=s.toks + 2 }) :
  wpAny (model prog w) A (setAttr (.ref x) name v) Q E s:=by
 obtain ⟨od,J,hl⟩:=I.look
 refine PySem.W.set_plain X J hs (PySem.W.osa_open (s:={ s with toks:=s.toks + 1 }) (r:=none) X J hp ht λ b=>?_)
 obtain ⟨cd,hc,a4⟩:=PySem.W.any_some hh
 have hx:s.heap.get? x = some ⟨.ref C,some dx,.plain,#[]⟩:=I.obj
 refine hJ (hW (hJ (hJ (wpAny_loadPart hx (hJ (Looks.here (s:={ s with toks:=s.toks + 1 }) (PySem.W.looks_clsIn X hc) ?_))))))
 rw [a4]
 refine hW (a:=some dx) (hJ (hW (hJ ?_)))
 refine wpAny_nsSet1 (s:={ s with toks:=s.toks + 1 }) I.ns λ h' a2 a1=>?_
 obtain ⟨oD,a7,a8,a5,a6,a3⟩:=a2.count (PySem.Within.cons name v hw)
 refine hJ (wpAny_lookBehind a5 (by rw [a6]; exact pastItsLine_dict (iW a3 (by rw [iT]; omega))) ?_)
 exact hW (h _ ⟨(a1.2 _ (Ne.symm I.ne)).trans I.obj,a2,I.ne⟩ a1)
theorem Z8 {R:Result→Shared→Prop} {vs:List Value} {kw:List (Str× Value)} (X:K.In s.heap) (hm:makesIn K C = true)
  (hi:findIn K (.ref C) "__init__" = some (some (.ref f))) (hf:typeIn K (.ref f) = some (.type "function"))
  (h:codeAny (model prog w) (A.under (.builtin "type.__call__" ⟨.ref C :: vs,kw⟩)) (.call (.ref f) ⟨.ref (s.heap.objs.size + 1) :: vs,kw⟩) (PySem.W.InitBack (s.heap.objs.size + 1) R)
   { s with heap:=(s.heap.push emptyDict).push (instObj C s.heap.objs.size) }) :
  codeAny (model prog w) A (.call (.ref C) ⟨vs,kw⟩) R s:=by
 obtain ⟨hh,g,d,t,os⟩:=s
 exact PySem.W.make_core (PySem.W.makes_of X hm) (PySem.W.looks_findIn X hi) (λ self=>PySem.W.bind_fn X self hf) (.inl rfl) h
end
def A5 (f:Str) (v:V):List (Str× V)→List (Str× V)
 | []=>[(f,v)]
 | (g,x) :: r=>if g = f then (g,v) :: r else (g,x) :: A5 f v r
theorem L3 (f g:Str) (v:V):∀ fs:List (Str× V),(A5 f v fs).lookup g = if g = f then some v else fs.lookup g
 | []=>by
  show List.lookup g [(f,v)] = _
  by_cases h:g = f
  ·have hb:(g == f) = true:=beq_iff_eq.mpr h
   simp only [List.lookup,hb,if_pos h]
  ·have hb:(g == f) = false:=beq_eq_false_iff_ne.mpr h
   simp only [List.lookup,hb,if_neg h]
 | (k,x) :: r=>by
  have ih:=L3 f g v r
  rw [show A5 f v ((k,x) :: r) = (if k = f then (k,v) :: r else (k,x) :: A5 f v r) from rfl]
  by_cases hk:k = f
  ·rw [if_pos hk]
   by_cases h:g = k
   ·have hb:(g == k) = true:=beq_iff_eq.mpr h
    simp only [List.lookup,hb,if_pos (h.trans hk)]
   ·have hb:(g == k) = false:=beq_eq_false_iff_ne.mpr h
    simp only [List.lookup,hb,if_neg (λ e:g = f=>h (e.trans hk.symm))]
  ·rw [if_neg hk]
   by_cases h:g = k
   ·have hb:(g == k) = true:=beq_iff_eq.mpr h
    simp only [List.lookup,hb,if_neg (λ e:g = f=>hk (h.symm.trans e))]
   ·have hb:(g == k) = false:=beq_eq_false_iff_ne.mpr h
    simp only [List.lookup,hb]
    exact ih
theorem K7 (f:Str) (v:V):∀ fs:List (Str× V),f∈(A5 f v fs).map (·.1)∧∀ g,g∈fs.map (·.1)→g∈(A5 f v fs).map (·.1)
 | []=>⟨by simp [A5],λ g h=>by simp at h⟩
 | (k,x) :: r=>by
  obtain ⟨i1,i2⟩:=K7 f v r
  rw [show A5 f v ((k,x) :: r) = (if k = f then (k,v) :: r else (k,x) :: A5 f v r) from rfl]
  by_cases hk:k = f
  ·rw [if_pos hk]
   subst hk
   exact ⟨by simp,λ g h=>by simpa using h⟩
  ·rw [if_neg hk]
   refine ⟨?_,λ g h=>?_⟩
   ·rw [jR]
    exact iF _ i1
   ·rw [jR] at h ⊢
    rcases jK.mp h with e | e
    ·exact jK.mpr (.inl e)
    ·exact iF _ (i2 g e)
theorem L4 (f:Str) (v:V):∀ fs:List (Str× V),(A5 f v fs).length≤fs.length + 1
 | []=>by simp [A5]
 | (k,x) :: r=>by
  have ih:=L4 f v r
  rw [show A5 f v ((k,x) :: r) = (if k = f then (k,v) :: r else (k,x) :: A5 f v r) from rfl]
  by_cases hk:k = f
  ·rw [if_pos hk,iT,iT]; omega
  ·rw [if_neg hk,iT,iT]; omega
theorem Fd.some_of {v:V} {o:Option Value} (r:Fd (some v) o):∃ u,o = some u∧A6 v u:=by
 cases o with
 | none=>exact (show False from r).elim
 | some u=>exact ⟨u,rfl,r⟩
theorem Fd.none_of {o:Option Value} (r:Fd none o):o = none:=by
 cases o with
 | none=>rfl
 | some u=>exact (show False from r).elim
theorem Yk {v:V} {u:Value} (r:A6 v u):handedIn u = true:=by
 cases v with
 | non=>cases (show u = Value.none from r); rfl
 | bl b=>cases (show u = Value.bool b from r); rfl
 | int i=>obtain ⟨t,e⟩:=(show ∃ t,u = Value.int i t from r); cases e; rfl
 | str x=>obtain ⟨t,e⟩:=(show ∃ t,u = Value.str x t from r); cases e; rfl
 | byt b=>obtain ⟨t,e⟩:=(show ∃ t,u = Value.bytes b t from r); cases e; rfl
 | flt b=>obtain ⟨t,e⟩:=(show ∃ t,u = Value.float b t from r); cases e; rfl
 | ref a=>cases (show u = Value.ref a from r); rfl
 | ty n=>cases (show u = Value.type n from r); rfl
section
variable {P:Program} {w:World} {H H':Hp} {h h':Heap} {a C dx:Addr} {fs fs':List (Str× V)}
theorem Lg (hok:HOk P w H h) (e:H a = some (.ins C dx fs)):∃ mA,Mb h a dx C mA∧(∀ f,Fd (fs.lookup f) (mA f))∧PySem.Within mA (fs.map (·.1))∧fs.length≤1000∧H dx = some (.own a):=by
 obtain ⟨d,z,ne,ob,mA,n,r,q⟩:=(show Bt P w H h a (.ins C dx fs) from hok a _ e)
 exact ⟨mA,⟨ob,n,ne⟩,r,q,z,d⟩
end
structure Cls (K:PySem.W.Frag) (C:Addr):Prop where
 pg:plainGet K C Str.empty = true
 hd:hasDictIn K C = true
 po:plainOver K C = true
 sa:findIn K (.ref C) "__setattr__" = some (some (.builtin "object.__setattr__"))
theorem Cls.get {K:PySem.W.Frag} {C:Addr} (c:Cls K C) (f:Str):plainGet K C f = true:=c.pg
def Ca (K:PySem.W.Frag) (C:Addr) (f:Str):Prop:=findIn K (.ref C) f = some none
theorem Ca.taker {K:PySem.W.Frag} {C:Addr} {f:Str} (n:Ca K C f):takerIn K C f = some none:=by
 unfold takerIn
 rw [show findIn K (.ref C) f = some none from n]
 rfl
structure Eh (K:PySem.W.Frag) (C:Addr) (m:Str) (f:Addr):Prop where
 at_:findIn K (.ref C) m = some (some (.ref f))
 fn:isFn K (.ref f) = true
 kp:keepIn K (.ref f) = true
section
variable {X:Cx} {pins:List (Addr× Obj)} {σ:St} {H:Hp} {s:Shared} {a C dx:Addr} {fs:List (Str× V)} {f:Str} {v:V} {A:Around} {E:Value→Shared→Prop}
theorem V0 {b:Bool} {Q:Value→Shared→Prop} (I:Inv X pins σ H s) (e:H a = some (.ins C dx fs)) (c:Cls X.K C) (n:Ca X.K C f) (l:fs.lookup f = some v)
  (h:∀ u s',Inv X pins σ H s'→A6 v u→Q u s'):wpAny (model X.prog X.w) A (getAttr (.ref a) f b) Q E s:=by
 obtain ⟨mA,O,r,_,_,_⟩:=Lg I.hok e
 obtain ⟨u,hu,ru⟩:=Fd.some_of (v:=v) (o:=mA f) (by rw [← l]; exact r f)
 exact Ab3 I.kIn O (c.get f) c.hd n hu (Yk ru) (h u _ (I.tok _) ru)
theorem Ko {m:Str} {g:Addr} {pl:Sem Bool} {Q:Value× List Value→Shared→Prop} (I:Inv X pins σ H s) (e:H a = some (.ins C dx fs)) (c:Cls X.K C) (k:Eh X.K C m g) (l:fs.lookup m = none)
  (h:Q (.ref g,[.ref a]) s):wpAny (model X.prog X.w) A (getMethod (.ref a) m pl) Q E s:=by
 obtain ⟨mA,O,r,_,_,_⟩:=Lg I.hok e
 have hn:mA m = none:=Fd.none_of (by rw [← l]; exact r m)
 exact Aan I.kIn O (c.get m) k.at_ k.fn hn h
theorem Wk {y:V} {u:Value} {Q:Unit→Shared→Prop} (I:Inv X pins σ H s) (e:H a = some (.ins C dx fs)) (c:Cls X.K C) (n:Ca X.K C f) (hl:fs.length < 1000) (ry:A6 y u)
  (h:∀ s',Inv X pins σ (upd H a (.ins C dx (A5 f y fs))) s'→Q () s'):wpAny (model X.prog X.w) A (setAttr (.ref a) f u) Q E s:=by
 obtain ⟨mA,O,r,wi,_,ho⟩:=Lg I.hok e
 have hz:(fs.map (·.1)).length≤sizeLine:=by rw [hZ,sizeLine_eq]; omega
 refine AcN I.kIn O c.sa c.po n.taker c.hd wi hz λ h' O' sb=>h _ ?_
 have hd:∃ o,h'.get? dx = some o:=let ⟨o,_,_,e',_⟩:=O'.ns; ⟨o,e'⟩
 refine I.write (x:=a) (e:=dx) (by rw [e]; exact True.intro) (.inr ho) (λ b q hb z=>(sb.2 b hb).trans z) hd ?_
 refine ⟨by rw [upd_ne O.ne]; exact ho,?_,O.ne,O'.obj,_,O'.ns,λ g=>?_,λ g hg=>?_⟩
 ·have:=L4 f y fs; omega
 ·show Fd ((A5 f y fs).lookup g) (if g = f then some u else mA g)
  rw [L3]
  by_cases q:g = f
  ·rw [if_pos q,if_pos q]; exact ry
  ·rw [if_neg q,if_neg q]; exact r g
 ·by_cases q:g = f
  ·rw [q]; exact (K7 f y fs).1
  ·refine (K7 f y fs).2 g (wi g λ z=>hg ?_)
   show (if g = f then some u else mA g) = none
   rw [if_neg q]; exact z
theorem Inv.made (I:Inv X pins σ H s):Inv X pins σ (upd (upd H s.heap.objs.size (.own (s.heap.objs.size + 1))) (s.heap.objs.size + 1) (.ins C s.heap.objs.size []))
  { s with heap:=(s.heap.push emptyDict).push (instObj C s.heap.objs.size) }:=by
 have e1:(s.heap.push emptyDict).get? s.heap.objs.size = some emptyDict:=Heap.get?_push_size s.heap rfl
 have e2:((s.heap.push emptyDict).push (instObj C s.heap.objs.size)).get? (s.heap.objs.size + 1) = some (instObj C s.heap.objs.size):=by
  have:=Heap.get?_push_size (s.heap.push emptyDict) (o:=instObj C s.heap.objs.size) rfl
  rwa [Heap.size_push] at this
 have e3:(s.heap.push emptyDict).Ns s.heap.objs.size (λ _=>none):=⟨emptyDict,#[],_,e1,Z,(λ e he=>absurd he (by simp)),λ _=>rfl⟩
 have I1:=I.laid (a:=s.heap.objs.size) (o:=.own (s.heap.objs.size + 1)) (h':=s.heap.push emptyDict) (t':=s.toks) (λ b u q=>Heap.get?_push_of_some _ q) (iX _) ⟨_,e1⟩
 refine I1.laid (a:=s.heap.objs.size + 1) (o:=.ins C s.heap.objs.size []) (t':=s.toks) (λ b u q=>Heap.get?_push_of_some _ q) (le_of_eq (Heap.size_push _ _)) ?_
 have ne:s.heap.objs.size≠s.heap.objs.size + 1:=jB (lt_succ_self _)
 refine ⟨by rw [upd_ne ne,upd_same],jX _,ne,e2,λ _=>none,(Heap.Ns1.of_empty e3).at λ o q=>Heap.get?_push_of_some _ q,λ _=>True.intro,λ y hy=>absurd rfl hy⟩
theorem AcO {prog:Program} {w:World} {env:Env} {e:Expr} {f:Str} {pos:Pos} {s:Shared} {Q:Value→Shared→Prop} (hb:attributeBase e f env (eval e env) = eval e env)
  (h:wpAny (model prog w) A (eval e env) (λ o a1=>wpAny (model prog w) A (getAttr o f true) Q E a1) E s):wpAny (model prog w) A (eval (.Attribute e f pos) env) Q E s :=
 Attribute_any_ h (by rw [arm_eval_Attribute,hb])
end
inductive Y4 (K:PySem.W.Frag) (f:Str) (x:V) (H1:Hp) (Q:VK):Prop
 | mk (a C dx:Addr) (fs:List (Str× V)) (v:V) (_:x = .ref a) (_:H1 a = some (.ins C dx fs)) (_:Cls K C) (_:Ca K C f) (_:fs.lookup f = some v) (_:Q v H1):Y4 K f x H1 Q
def Acq (K:PySem.W.Frag) (ta:TE) (f:Str):TE:=λ σ H Q=>ta σ H λ x H1=>Y4 K f x H1 Q
inductive Zd (K:PySem.W.Frag) (f:Str) (y x:V) (H2:Hp) (R:Hp→Prop):Prop
 | mk (a C dx:Addr) (fs:List (Str× V)) (_:x = .ref a) (_:H2 a = some (.ins C dx fs)) (_:Cls K C) (_:Ca K C f) (_:fs.length < 1000) (_:R (upd H2 a (.ins C dx (A5 f y fs)))):Zd K f y x H2 R
def Aer (K:PySem.W.Frag) (ta tv:TE) (f:Str):TS:=λ D σ H=>tv σ H λ y H1=>ta σ H1 λ x H2=>Zd K f y x H2 (D.nx σ)
section
variable {X:Cx} {o e value:Expr} {f:Str} {pos pos' tpos:Pos} {ta tv:TE}
theorem Al (he:PE X e ta) (hb:attributeBase e f X.env (eval e X.env) = eval e X.env):PE X (.Attribute e f pos) (Acq X.K ta f):=by
 intro pins s σ H Q I h
 refine AcO hb (thn (he pins s σ H _ I h) λ u s1 ⟨x,H1,I1,rx,a,C,dx,fs,v,ex,ea,c,n,l,q⟩=>?_)
 subst ex
 obtain rfl:u = Value.ref a:=rx
 exact V0 I1 ea c n l λ u' s2 I2 ru=>⟨v,H1,I2,ru,q⟩
theorem Br (ha:PE X o ta) (hv:PE X value tv) (hs:swapsWith value (some (.Attribute o f pos')) pos.line X.env = pure false):PS X (.Assign [.Attribute o f pos'] value pos) (Aer X.K ta tv f):=by
 intro pins s σ H D I h
 refine plainObj_wpAny_Assign_Attribute (thn (hv pins s σ H _ I h) λ u s1 ⟨y,H1,I1,ry,q⟩=>thn (ha pins s1 σ H1 _ I1 q) λ ov s2 ⟨x,H2,I2,rx,a,C,dx,fs,ex,ea,c,n,l,q2⟩=>?_) hs
 subst ex
 obtain rfl:ov = Value.ref a:=rx
 exact Wk I2 ea c n l ry λ s3 I3=>⟨σ,_,I3,q2⟩
end
section
variable {X:Cx} {pins:List (Addr× Obj)} {σ:St} {H:Hp} {s:Shared} {A:Around} {E:Value→Shared→Prop} {Q:Value→Shared→Prop} {c:Value} {b:Bool}
inductive F4 (K:PySem.W.Frag) (H:Hp):V→Value→Prop where
 | non:F4 K H .non (.type "NoneType")
 | bl (x:Bool):F4 K H (.bl x) (.type "bool")
 | int (i:Int):F4 K H (.int i) (.type "int")
 | str (x:Str):F4 K H (.str x) (.type "str")
 | flt (x:UInt64):F4 K H (.flt x) (.type "float")
 | lst {a:Addr} {xs:List V} (e:H a = some (.lst xs)):F4 K H (.ref a) (.type "list")
 | frz {a:Addr} {o:Obj} {xs:List V} (e:H a = some (.frz o (.lst xs))):F4 K H (.ref a) (.type "list")
 | tup {a:Addr} {xs:List V} (e:H a = some (.tup xs)):F4 K H (.ref a) (.type "tuple")
 | dK {a:Addr} {kvs:List (Key× V)} (e:H a = some (.dK kvs)):F4 K H (.ref a) (.type "dict")
 | dT {a:Addr} {kvs:List (List Key× V)} (e:H a = some (.dT kvs)):F4 K H (.ref a) (.type "dict")
 | ins {a C dx:Addr} {fs:List (Str× V)} (e:H a = some (.ins C dx fs)) (cl:Cls K C) (ha:findIn K (.ref C) "__class__" = some (some (.builtin "object.__class__")))
   (hn:specialIn K (.builtin "object.__class__") "__get__" = some (some (.builtin "getset_descriptor.__get__"))) (htk:takesIn K (.builtin "object.__class__") = some true)
   (hm:mroIn K C (.type "object") = some true):F4 K H (.ref a) (.ref C)
theorem Pb {x:V} {u t:Value} (I:Inv X pins σ H s) (rx:A6 x u) (ty:F4 X.K H x t) (e:kitOne X.K t c = some b) (h:∀ tk,Q (.bool b) { s with toks:=tk }) :
  wpAny (model X.prog X.w) A (call (.builtin "isinstance") [u,c]) Q E s:=by
 cases ty with
 | non=>cases (show u = Value.none from rx); exact kia_one PySem.W.kitx_none I.kIn True.intro e (λ z=>nomatch z) h
 | bl y=>cases (show u = Value.bool y from rx); exact kia_one PySem.W.kitx_bool I.kIn True.intro e (λ z=>nomatch z) h
 | int i=>obtain ⟨t,q⟩:=(show ∃ t,u = Value.int i t from rx); cases q; exact kia_one PySem.W.kitx_int I.kIn True.intro e (λ z=>nomatch z) h
 | str y=>obtain ⟨t,q⟩:=(show ∃ t,u = Value.str y t from rx); cases q; exact kia_one PySem.W.kitx_str I.kIn True.intro e (λ z=>nomatch z) h
 | flt y=>obtain ⟨t,q⟩:=(show ∃ t,u = Value.float y t from rx); cases q; exact kia_one PySem.W.kitx_float I.kIn True.intro e (λ z=>nomatch z) h
 | @lst a xs ea =>
  cases (show u = Value.ref a from rx)
  obtain ⟨_,_,n,_,h1⟩:=(show Bt X.prog X.w H s.heap a (.lst xs) from I.hok a _ ea)
  exact kia_one kitx_list I.kIn ⟨_,h1,Z⟩ e (λ z=>nomatch z) h
 | @frz a ob xs ea =>
  cases (show u = Value.ref a from rx)
  obtain ⟨_,_,_,n,_,h1⟩:=(show Bt X.prog X.w H s.heap a (.frz ob (.lst xs)) from I.hok a _ ea)
  exact kia_one kitx_list I.kIn ⟨_,h1,Z⟩ e (λ z=>nomatch z) h
 | @tup a xs ea =>
  cases (show u = Value.ref a from rx)
  obtain ⟨_,_,_,p⟩:=(show Bt X.prog X.w H s.heap a (.tup xs) from I.hok a _ ea)
  obtain ⟨o,h1,h2,_⟩:=p
  exact kia_one kitx_tuple I.kIn ⟨o,h1,h2⟩ e (λ z=>nomatch z) h
 | @dK a kvs ea =>
  cases (show u = Value.ref a from rx)
  obtain ⟨_,_,vs,_,p⟩:=(show Bt X.prog X.w H s.heap a (.dK kvs) from I.hok a _ ea)
  obtain ⟨o,es,ep,h1,h2,_⟩:=p
  exact kia_one kitx_dict I.kIn ⟨o,h1,h2.1⟩ e (λ z=>nomatch z) h
 | @dT a kvs ea =>
  cases (show u = Value.ref a from rx)
  obtain ⟨_,_,xs,_,o,es,ep,h1,h2,_⟩:=(show Bt X.prog X.w H s.heap a (.dT kvs) from I.hok a _ ea)
  exact kia_one kitx_dict I.kIn ⟨o,h1,h2.1⟩ e (λ z=>nomatch z) h
 | @ins a C dx fs ea cl ha hn htk hm =>
  cases (show u = Value.ref a from rx)
  obtain ⟨mA,O,_⟩:=Lg I.hok ea
  obtain ⟨od,J,_⟩:=O.look
  exact kia_one (PySem.W.kitx_own (cl.get _) cl.hd ha hn htk hm) I.kIn J e (λ z=>nomatch z) h
end
end L2
namespace L2
open PySem PySem.Spec PyProof.Rows
structure Bz (k:Nat) (A:Around):Prop where
 hd:A.handled = none
 dp:A.depth + 3 * k + 5 < recursionLimit
 un:A.units + 16 * k + 200 < cLine
theorem Bz.mono {j k:Nat} {A:Around} (r:Bz k A) (h:j≤k):Bz j A:=⟨r.hd,by have:=r.dp; omega,by have:=r.un; omega⟩
theorem Bz.deeper {k:Nat} {A:Around} (r:Bz (k + 1) A) (env:Env):Bz k (A.deeper env) :=
 ⟨r.hd,by have:=r.dp; show A.depth + 1 + 3 * k + 5 < _; omega,by have:=r.un; show A.units + 3 + 16 * k + 200 < _; omega⟩
theorem Ww {A:Around} {C:Addr} {us:List Value} {kw:List (Str× Value)}:(A.under (.builtin "type.__call__" ⟨.ref C :: us,kw⟩)).depth = A.depth + 1:=by
 first | rfl | simp [Around.under,Code.weight,Code.isCreation,Code.isGuard,Code.isCaller,Code.frames,Code.isFrame,guardIds]
theorem Vy {A:Around} {C:Addr} {us:List Value} {kw:List (Str× Value)}:(A.under (.builtin "type.__call__" ⟨.ref C :: us,kw⟩)).units = A.units + 1:=by
 first | rfl | simp [Around.under,Code.cUnits,Code.frames,Code.isFrame]
theorem Bz.make {k:Nat} {A:Around} (r:Bz (k + 1) A) (C:Addr) (us:List Value) (kw:List (Str× Value)):Bz k (A.under (.builtin "type.__call__" ⟨.ref C :: us,kw⟩)) :=
 ⟨r.hd,by have:=r.dp; rw [Ww]; omega,by have:=r.un; rw [Vy]; omega⟩
theorem Bz.depth {k:Nat} {A:Around} (r:Bz k A):A.depth < recursionLimit:=by have:=r.dp; omega
theorem Bz.units {k:Nat} {A:Around} (r:Bz k A):A.units + 64 < cLine:=by have:=r.un; omega
theorem Bz.units0 {k:Nat} {A:Around} (r:Bz k A):A.units < cLine:=by have:=r.un; omega
def Ef:TA:=λ _ H Q=>Q [] H
def C6 (ta:TE) (tr:TA):TA:=λ σ H Q=>ta σ H λ x H1=>tr σ H1 λ xs H2=>Q (x :: xs) H2
section
variable {X:Cx} {e:Expr} {es:List Expr} {te:TE} {t:TA} {pos:Pos}
theorem Ab:PA X [] Ef:=λ _ _ _ _ H Q I h=>Calls.spliced_nil ⟨[],H,I,.nil,h⟩
theorem Aa (ha:PE X e te) (hr:PA X es t) (hs:starEach (e :: es) X.env = (false,eval e X.env) :: starEach es X.env:=by rfl):PA X (e :: es) (C6 te t):=by
 intro pos pins s σ H Q I h
 rw [hs]
 show wpAny _ _ (spliced ((false,eval e X.env) :: backTo pos (starEach es X.env))) _ _ s
 refine Calls.spliced_cons (thn (ha pins s σ H _ I h) λ u s1 ⟨x,H1,I1,r1,q1⟩=>?_)
 exact thn (hr pos pins s1 σ H1 _ I1 q1) λ us s2 ⟨xs,H2,I2,r2,q2⟩=>⟨x :: xs,H2,I2,.cons r1 r2,q2⟩
def Mp (t:TA):TE:=λ σ H Q=>t σ H λ xs H1=>xs.length≤sizeLine∧∀ p,H1 p = none→Q (.ref p) (upd H1 p (.tup xs))
def Vd (t:TA):TE:=λ σ H Q=>t σ H λ xs H1=>xs.length≤sizeLine∧∀ p,H1 p = none→Q (.ref p) (upd H1 p (.lst xs))
theorem A3 {x1} (h:PA X es t):PE X (.Tuple es x1 pos) (Mp t):=by
 intro pins s σ H Q I hq
 refine wpAny_Tuple_spliced (thn (h pos pins s σ H _ I hq) λ us s1 ⟨xs,H1,I1,r,z,q⟩=>⟨by rw [← r.length]; exact z,?_⟩)
 have hf:H1 s1.heap.objs.size = none:=I1.hok.fresh (iX _)
 refine ⟨.ref s1.heap.objs.size,upd H1 s1.heap.objs.size (.tup xs),I1.laid (t':=s1.toks) (λ b u e=>Heap.get?_push_of_some _ e) (iX _) ?_,Z,q _ hf⟩
 exact ⟨z,us,r,⟨_,Heap.get?_push_size _ rfl,Z,_,Z⟩⟩
theorem Ax (h:PA X es t):PE X (.List es pos) (Vd t):=by
 intro pins s σ H Q I hq
 refine wpAny_List_spliced (thn (h pos pins s σ H _ I hq) λ us s1 ⟨xs,H1,I1,r,z,q⟩=>⟨by rw [← r.length]; exact z,?_⟩)
 have hf:H1 s1.heap.objs.size = none:=I1.hok.fresh (iX _)
 refine ⟨.ref s1.heap.objs.size,upd H1 s1.heap.objs.size (.lst xs),I1.laid (t':=s1.toks) (λ b u e=>Heap.get?_push_of_some _ e) (iX _) ?_,Z,q _ hf⟩
 exact ⟨z,us,0,r,Heap.get?_push_size _ rfl⟩
end
abbrev Sp:=List V→Hp→VK→XK→Prop
abbrev CXT:=List Env→Hp→Shared→XK→Value→Shared→Prop
structure Ml (P:Program) (w:World) (K:PySem.W.Frag) (mg:Str→Option Value) (base:Heap) (A:Around) (outer:List Env) (s:Shared) (H:Hp):Prop where
 frames:A.frames = some outer
 mod:Mod K mg base
 bs:∀ b o,base.get? b = some o→s.heap.get? b = some o∧H b = none
 bsz:base.objs.size≤s.heap.objs.size
 funs:s.heap.FunFrames base outer
 frf:∀ b∈frs outer,H b = none
 hok:HOk P w H s.heap
 bare:AllBare s.gens
def CE (outer:List Env) (P:Program) (w:World) (H:Hp) (s:Shared) (Q:VK) (u:Value) (s':Shared):Prop :=
 ∃ v H',s'.os = s.os∧AllBare s'.gens∧Un (frs outer) [] H H' s.heap s'.heap∧HOk P w H' s'.heap∧A6 v u∧Q v H'
def CR (CX:CXT) (outer:List Env) (P:Program) (w:World) (H:Hp) (s:Shared) (Q:VK) (E:XK) (r:Result) (s':Shared):Prop :=
 match r with
 | .ok (.ret u)=>CE outer P w H s Q u s'
 | .ok _=>False
 | .error e=>CX outer H s E e s'
structure Bl (P:Program) (w:World) (K:PySem.W.Frag) (mg:Str→Option Value) (base:Heap) (CX:CXT) (k:Nat) (f:Addr) (fd:FuncData) (ps:List Str) (sp:Sp):Prop where
 len:∀ vs H Q E,sp vs H Q E→vs.length = ps.length
 run:∀ (A:Around) (outer:List Env) (s:Shared) (H:Hp) (args:Args) (us:List Value) (vs:List V) (Q:VK) (E:XK),Bz k A→Ml P w K mg base A outer s H→BindsTo s fd args (ps.zip us)→Az vs us→sp vs H Q E →
  codeAny (model P w) A (.call (.ref f) args) (CR CX outer P w H s Q E) s
theorem Bl.mono {P:Program} {w:World} {K:PySem.W.Frag} {mg:Str→Option Value} {base:Heap} {CX:CXT} {j k:Nat} {f:Addr} {fd:FuncData} {ps:List Str} {sp:Sp} (F:Bl P w K mg base CX j f fd ps sp) (h:j≤k) :
  Bl P w K mg base CX k f fd ps sp:=⟨F.len,λ A outer s H args us vs Q E hr=>F.run A outer s H args us vs Q E (hr.mono h)⟩
theorem Ml.make {P:Program} {w:World} {K:PySem.W.Frag} {mg:Str→Option Value} {base:Heap} {A:Around} {outer:List Env} {s:Shared} {H:Hp} (e:Ml P w K mg base A outer s H) (C:Addr) (us:List Value) (kw:List (Str× Value)) :
  Ml P w K mg base (A.under (.builtin "type.__call__" ⟨.ref C :: us,kw⟩)) outer s H:=⟨by first | exact e.frames | (simpa [Around.under,Code.envs,Code.isFrame,pushEnvs] using e.frames),e.mod,e.bs,e.bsz,e.funs,e.frf,e.hok,e.bare⟩
section
variable {X:Cx} {pins:List (Addr× Obj)} {σ:St} {H:Hp} {s s':Shared}
theorem Inv.env0 (I:Inv X pins σ H s):Ml X.prog X.w X.K X.mg X.base X.A X.stack s H :=
 ⟨I.ok.frames,I.ok.mod,I.bs,iW I.ok.bsz I.sz,I.stack,I.stkFree,I.hok,I.bare⟩
theorem Inv.after {Q:VK} {u:Value} (I:Inv X pins σ H s) (h:CE X.stack X.prog X.w H s Q u s'):EP X pins σ Q u s':=by
 obtain ⟨v,H',os,bare,un,hok,r,q⟩:=h
 obtain ⟨hh,g,d,t,a1⟩:=s'
 obtain rfl:a1 = s.os:=os
 exact ⟨v,H',I.call (h':=hh) (g':=g) (d':=d) (t':=t) (ch:=[]) un hok bare (λ b z=>absurd z (by simp)),r,q⟩
end
def Lp (sp:Sp) (dvs:List V) (E:XK) (t:TA):TE:=λ σ H Q=>t σ H λ vs H1=>sp (vs ++ dvs) H1 Q E
inductive Uf (C:Addr) (m:Str) (x:V) (H1:Hp) (R:Prop):Prop
 | mk (a dx:Addr) (fs:List (Str× V)) (_:x = .ref a) (_:H1 a = some (.ins C dx fs)) (_:fs.lookup m = none) (_:R):Uf C m x H1 R
def J7 (C:Addr) (m:Str) (sp:Sp) (dvs:List V) (E:XK) (ta:TE) (t:TA):TE:=λ σ H Q=>ta σ H λ x H1=>Uf C m x H1 (t σ H1 λ vs H2=>sp (x :: (vs ++ dvs)) H2 Q E)
def AeM (C:Addr) (sp:Sp) (dvs:List V) (E:XK) (t:TA):TE:=λ σ H Q=>t σ H λ vs H1=>∀ x dx,H1 x = none→H1 dx = none→dx≠x →
 sp (.ref x :: (vs ++ dvs)) (upd (upd H1 dx (.own x)) x (.ins C dx [])) (λ v H2=>v = .non∧Q (.ref x) H2) E
def Bi (K:PySem.W.Frag) (fd:FuncData) (ps:List Str) (ds:List Value):Prop :=
 ∀ (s:Shared) (us:List Value),K.In s.heap→(us ++ ds).length = ps.length→BindsTo s fd ⟨us,[]⟩ (ps.zip (us ++ ds))
theorem Bi.all {K:PySem.W.Frag} {fd:FuncData} {ps:List Str} (h:∀ us:List Value,us.length = ps.length→bindArgs fd ⟨us,[]⟩ = pure (ps.zip us)):Bi K fd ps []:=λ s us _ hl=>by
 rw [jI] at hl ⊢
 exact .of_eq (h us hl)
def Ek (CX:CXT) (X:Cx) (E:XK):Prop:=∀ (pins:List (Addr× Obj)) (σ:St) (H:Hp) (s:Shared) (e:Value) (s':Shared),Inv X pins σ H s→CX X.stack H s E e s'→X.xe e s'
section
variable {X:Cx} {CX:CXT} {k:Nat} {f C:Addr} {fd:FuncData} {ps:List Str} {sp:Sp} {dvs:List V} {ds:List Value} {E:XK} {x m:Str} {p pos apos:Pos} {e o:Expr} {es:List Expr} {ta:TE} {t:TA}
theorem M8 {pins:List (Addr× Obj)} {σ:St} {H:Hp} {s:Shared} {Q:VK} {us:List Value} {vs:List V} (F:Bl X.prog X.w X.K X.mg X.base CX k f fd ps sp) (hr:Bz k X.A) (hb:Bi X.K fd ps ds) (hd:Az dvs ds) (hx:Ek CX X E)
  (I:Inv X pins σ H s) (r:Az vs us) (h:sp (vs ++ dvs) H Q E):wpAny (model X.prog X.w) X.A (call (.ref f) us) (EP X pins σ Q) X.xe s:=by
 have r2:Az (vs ++ dvs) (us ++ ds):=r.append hd
 have hl:(us ++ ds).length = ps.length:=by rw [← r2.length]; exact F.len _ _ _ _ h
 refine wpAny_call (codeAny_mono (F.run X.A X.stack s H ⟨us,[]⟩ (us ++ ds) (vs ++ dvs) Q E hr I.env0 (hb s us I.kIn hl) r2 h) λ r s' hq=>?_)
 cases r with
 | error e=>exact hx pins σ H s e s' I hq
 | ok fl =>
  cases fl with
  | ret u=>exact I.after hq
  | next=>exact False.elim hq
  | brk=>exact False.elim hq
  | cont=>exact False.elim hq
theorem Uc (F:Bl X.prog X.w X.K X.mg X.base CX k f fd ps sp) (hr:Bz k X.A) (hg:Gl X x) (hm:X.mg x = some (.ref f)) (hk:keepIn X.K (.ref f) = true) (hb:Bi X.K fd ps ds) (hd:Az dvs ds) (hx:Ek CX X E)
  (ha:PA X (e :: es) t) (a2:(x == ("__debug__" : Str)) = false:=by decide) (he:starEach (e :: es) X.env = (false,eval e X.env) :: starEach es X.env:=by rfl) (a1:(backTo pos (starEach es X.env)).any (·.1) = false:=by rfl) :
  PE X (.Call (.Name x p) (e :: es) [] pos) (Lp sp dvs E t):=by
 intro pins s σ H Q I h
 refine wpAny_Call_Name_kw (Jg I hg hm ?_ a2)
 refine callWith_K (h₀:=X.base) I.ok.mod.kin hk (thn (ha pos pins s σ H _ I h) λ us s1 ⟨vs,H1,I1,r,q⟩=>⟨I1.kIn,?_⟩) he a1
 exact M8 F hr hb hd hx I1 r q
theorem Ug {pl:Sem Bool} (he:PE X o ta) (c:Cls X.K C) (hm:Eh X.K C m f) (F:Bl X.prog X.w X.K X.mg X.base CX k f fd ps sp) (hr:Bz k X.A) (hb:Bi X.K fd ps ds) (hd:Az dvs ds) (hx:Ek CX X E) (ha:PA X (e :: es) t)
  (a1:starEach (e :: es) X.env = (false,eval e X.env) :: starEach es X.env:=by rfl) (a2:(backTo pos (starEach es X.env)).any (·.1) = false:=by rfl)
  (ht:eval (.Call (.Attribute o m apos) (e :: es) [] pos) X.env = (do
   let ov ← eval o X.env
   standAt apos.atName
   let (f,first) ← holding [ov] (getMethod ov m pl)
   callWith pos f first (backTo pos (starEach (e :: es) X.env)) (backToKw pos (keywordEach [] X.env))):=by rfl) :
  PE X (.Call (.Attribute o m apos) (e :: es) [] pos) (J7 C m sp dvs E ta t):=by
 intro pins s σ H Q I h
 refine methodCall_KW (pl:=pl) (thn (he pins s σ H _ I h) λ u s1 ⟨x,H1,I1,rx,a,dx,fs,ex,ea,l,q⟩=>?_) ht
 subst ex
 obtain rfl:u = Value.ref a:=rx
 refine Ko I1 ea c hm l ?_
 refine callWith_K (first:=[.ref a]) (h₀:=X.base) I.ok.mod.kin hm.kp (thn (ha pos pins s1 σ H1 _ I1 q) λ us s2 ⟨vs,H2,I2,r,q2⟩=>⟨I2.kIn,?_⟩) a1 a2
 exact M8 (us:=.ref a :: us) (vs:=.ref a :: vs) F hr hb hd hx I2 (.cons rfl r) q2
theorem Aad {pl:Sem Bool} (he:PE X o ta) (c:Cls X.K C) (hm:Eh X.K C m f) (F:Bl X.prog X.w X.K X.mg X.base CX k f fd ps sp) (hr:Bz k X.A) (hb:Bi X.K fd ps ds) (hd:Az dvs ds) (hx:Ek CX X E)
  (ht:eval (.Call (.Attribute o m apos) [] [] pos) X.env = (do
   let ov ← eval o X.env
   standAt apos.atName
   let (f,first) ← holding [ov] (getMethod ov m pl)
   callWith pos f first (backTo pos (starEach [] X.env)) (backToKw pos (keywordEach [] X.env))):=by rfl) :
  PE X (.Call (.Attribute o m apos) [] [] pos) (J7 C m sp dvs E ta Ef):=by
 intro pins s σ H Q I h
 refine methodCall_KW (pl:=pl) (thn (he pins s σ H _ I h) λ u s1 ⟨x,H1,I1,rx,a,dx,fs,ex,ea,l,q⟩=>?_) ht
 subst ex
 obtain rfl:u = Value.ref a:=rx
 refine Ko I1 ea c hm l ?_
 exact PySem.W.callWith_K0 (first:=[.ref a]) I1.kIn hm.kp (M8 (us:=[.ref a]) (vs:=[.ref a]) F hr hb hd hx I1 (.cons rfl .nil) q)
structure Mk (K:PySem.W.Frag) (C f:Addr):Prop where
 makes:makesIn K C = true
 init:findIn K (.ref C) "__init__" = some (some (.ref f))
 fn:isFn K (.ref f) = true
 kp:keepIn K (.ref C) = true
theorem Zx {pins:List (Addr× Obj)} {σ:St} {H:Hp} {s:Shared} {Q:VK} {us:List Value} {vs:List V} (M:Mk X.K C f) (F:Bl X.prog X.w X.K X.mg X.base CX k f fd ps sp) (hr:Bz (k + 1) X.A) (hb:Bi X.K fd ps ds) (hd:Az dvs ds)
  (hx:Ek CX X E) (I:Inv X pins σ H s) (r:Az vs us)
  (h:∀ x dx,H x = none→H dx = none→dx≠x→sp (.ref x :: (vs ++ dvs)) (upd (upd H dx (.own x)) x (.ins C dx [])) (λ v H2=>v = .non∧Q (.ref x) H2) E) :
  wpAny (model X.prog X.w) X.A (call (.ref C) us) (EP X pins σ Q) X.xe s:=by
 have hq:=h (s.heap.objs.size + 1) s.heap.objs.size (I.hok.fresh (le_succ _)) (I.hok.fresh (iX _)) (jB (lt_succ_self _))
 have I2:=Inv.made (C:=C) I
 have r2:Az (V.ref (s.heap.objs.size + 1) :: (vs ++ dvs)) (Value.ref (s.heap.objs.size + 1) :: (us ++ ds)):=.cons rfl (r.append hd)
 have hl:(Value.ref (s.heap.objs.size + 1) :: us ++ ds).length = ps.length:=by
  have e:=r2.length
  rw [F.len _ _ _ _ hq] at e
  exact e.symm
 refine wpAny_call (Z8 (f:=f) I.kIn M.makes M.init (beq_iff_eq.mp M.fn) (codeAny_mono (F.run _ X.stack _ _ ⟨Value.ref (s.heap.objs.size + 1) :: us,[]⟩ (Value.ref (s.heap.objs.size + 1) :: (us ++ ds)) _ _ E (hr.make C us [])
  (I2.env0.make C us []) (hb _ (Value.ref (s.heap.objs.size + 1) :: us) I2.kIn hl) r2 hq) λ r s' a1=>?_))
 cases r with
 | error e=>exact hx pins σ _ _ e s' I2 a1
 | ok fl =>
  cases fl with
  | ret u =>
   obtain ⟨v,H',I3,rv,ev,q3⟩:=I2.after a1
   subst ev
   exact ⟨rv,⟨V.ref (s.heap.objs.size + 1),H',I3,Z,q3⟩⟩
  | next=>exact False.elim a1
  | brk=>exact False.elim a1
  | cont=>exact False.elim a1
theorem Lh (M:Mk X.K C f) (F:Bl X.prog X.w X.K X.mg X.base CX k f fd ps sp) (hr:Bz (k + 1) X.A) (hg:Gl X x) (hm:X.mg x = some (.ref C)) (hb:Bi X.K fd ps ds) (hd:Az dvs ds) (hx:Ek CX X E)
  (ha:PA X (e :: es) t) (a2:(x == ("__debug__" : Str)) = false:=by decide) (he:starEach (e :: es) X.env = (false,eval e X.env) :: starEach es X.env:=by rfl) (a1:(backTo pos (starEach es X.env)).any (·.1) = false:=by rfl) :
  PE X (.Call (.Name x p) (e :: es) [] pos) (AeM C sp dvs E t):=by
 intro pins s σ H Q I h
 refine wpAny_Call_Name_kw (Jg I hg hm ?_ a2)
 refine callWith_K (h₀:=X.base) I.ok.mod.kin M.kp (thn (ha pos pins s σ H _ I h) λ us s1 ⟨vs,H1,I1,r,q⟩=>⟨I1.kIn,?_⟩) he a1
 exact Zx M F hr hb hd hx I1 r q
end
def PK (X:Cx) (kws:List Keyword) (t:TA):Prop :=
 ∀ (pos:Pos) (pins:List (Addr× Obj)) (s:Shared) (σ:St) (H:Hp) (Q:List V→Hp→Prop),Inv X pins σ H s→t σ H Q→wpAny (model X.prog X.w) X.A (evalAll ((backToKw pos (keywordEach kws X.env)).map (·.2))) (AP X pins σ Q) X.xe s
section
variable {X:Cx} {CX:CXT} {k:Nat} {f C:Addr} {fd:FuncData} {ps ks:List Str} {sp:Sp} {E:XK} {x m:Str} {p pos apos kpos:Pos} {e o:Expr} {es:List Expr} {kws:List Keyword} {te ta:TE} {t tk:TA} {nm:Option Str}
theorem AdQ:PK X [] Ef:=λ _ _ _ _ H Q I h=>wpAny_evalAll_nil ⟨[],H,I,.nil,h⟩
theorem Ab1 (ha:PE X e te) (hr:PK X kws t):PK X (⟨nm,e,kpos⟩ :: kws) (C6 te t):=by
 intro pos pins s σ H Q I h
 show wpAny _ _ (evalAll ((do let v ← eval e X.env; standAt pos; pure v) :: (backToKw pos (keywordEach kws X.env)).map (·.2))) _ _ s
 refine wpAny_evalAll_cons (hJ (thn (ha pins s σ H _ I h) λ u s1 ⟨x,H1,I1,r1,q1⟩=>hJ (wpAny_standAt (hW ?_))))
 exact thn (hr pos pins s1 σ H1 _ I1 q1) λ us s2 ⟨xs,H2,I2,r2,q2⟩=>⟨x :: xs,H2,I2,.cons r1 r2,q2⟩
variable {g:List Value→List Value→List Value} {gV:List V→List V→List V}
end
structure As (N P:List Str) (sc:Scope):Prop where
 kind:sc.kind = .function
 co:sc.isCoroutine = false
 gen:sc.isGenerator = false
 nd:N.Nodup
 pre:N.take P.length = P
 par:∀ x∈P,sc.names.lookup x = some .local∨sc.names.lookup x = some .cell
 nofree:∀ y∈sc.names,y.2≠.free
theorem O8 {a1:Str→Option NameKind} {x:Str}:∀ {binds:List (Str× Value)} {m:Str→Option Value},(∀ v,(x,v)∉binds)→bindL a1 binds m x = m x
 | [],_,_=>rfl
 | (n,v) :: r,m,h=>by
  unfold bindL
  rw [O8 λ w hw=>h w (iF _ hw)]
  split
  ·have:x≠n:=by rintro rfl; exact h v iE
   simp [this]
  ·rfl
theorem Pk {a1:Str→Option NameKind} {x:Str}:∀ {binds:List (Str× Value)} {m:Str→Option Value},(∀ v,(x,v)∉binds)→bindC a1 binds m x = m x
 | [],_,_=>rfl
 | (n,v) :: r,m,h=>by
  unfold bindC
  rw [Pk λ w hw=>h w (iF _ hw)]
  split
  ·rfl
  ·have:x≠n:=by rintro rfl; exact h v iE
   simp [this]
theorem Ov {a1:Str→Option NameKind} {x:Str} {v:Value}:∀ {P:List Str} {vs:List Value} {i:Nat} {m:Str→Option Value},P.Nodup→P[i]? = some x→vs[i]? = some v→a1 x = some .local →
  bindL a1 (P.zip vs) m x = some v
 | [],_,_,_,_,h,_,_=>by simp at h
 | _ :: _,[],_,_,_,_,h,_=>by simp at h
 | p :: P,w :: vs,0,m,nd,h1,h2,hk=>by
  simp at h1 h2; subst h1; subst h2
  show bindL a1 ((p,w) :: P.zip vs) m p = _
  unfold bindL
  rw [O8 λ v hv=>(jQ.mp nd).1 (of_mem_zip hv).1,if_pos hk]
  simp
 | p :: P,w :: vs,i + 1,m,nd,h1,h2,hk=>by
  show bindL a1 ((p,w) :: P.zip vs) m x = _
  unfold bindL
  exact Ov (i:=i) (jQ.mp nd).2 (by simpa using h1) (by simpa using h2) hk
theorem Pd {a1:Str→Option NameKind} {x:Str} {v:Value}:∀ {P:List Str} {vs:List Value} {i:Nat} {m:Str→Option Value},P.Nodup→P[i]? = some x→vs[i]? = some v→a1 x≠some .local →
  bindC a1 (P.zip vs) m x = some v
 | [],_,_,_,_,h,_,_=>by simp at h
 | _ :: _,[],_,_,_,_,h,_=>by simp at h
 | p :: P,w :: vs,0,m,nd,h1,h2,hk=>by
  simp at h1 h2; subst h1; subst h2
  show bindC a1 ((p,w) :: P.zip vs) m p = _
  unfold bindC
  rw [Pk λ v hv=>(jQ.mp nd).1 (of_mem_zip hv).1,if_neg hk]
  simp
 | p :: P,w :: vs,i + 1,m,nd,h1,h2,hk=>by
  show bindC a1 ((p,w) :: P.zip vs) m x = _
  unfold bindC
  exact Pd (i:=i) (jQ.mp nd).2 (by simpa using h1) (by simpa using h2) hk
def start (N:List Str) (vs:List V):St:=vs.map some ++ List.replicate (N.length - vs.length) none
def K4 (CX:CXT) (P:Program) (w:World) (K:PySem.W.Frag) (mg:Str→Option Value) (base:Heap) (N:List Str) (qual:Str) (scope:Scope) (f:Addr) (cd:Value) (A:Around) (outer:List Env) (s:Shared) (H:Hp) (E:XK):Cx where
 prog:=P
 w:=w
 K:=K
 mg:=mg
 base:=base
 A:=A.deeper (envOfC qual scope s.heap.objs.size f cd)
 N:=N
 s₀:=s
 H₀:=H
 env:=envOfC qual scope s.heap.objs.size f cd
 outer:=outer
 stack:=envOfC qual scope s.heap.objs.size f cd :: outer
 ex:=[]
 calm:=true
 fn:=λ _=>true
 pn:=[]
 xe:=λ e s'=>wpAny (model P w) (A.deeper (envOfC qual scope s.heap.objs.size f cd)) (leaving (envOfC qual scope s.heap.objs.size f cd) e) (λ _ s''=>CX outer H s E e s'') (λ e' s''=>CX outer H s E e' s'') s'
theorem Sa {sc:Scope} {n:Nat} {x:Str} (h:sc.names.lookup x = some .cell):∃ c,(cellsFrom n sc.names []).lookup x = some c:=by
 have q:=cellsFrom_some sc.names n [] (.inl h)
 exact Option.isSome_iff_exists.mp q
theorem Yc {CX:CXT} {P:Program} {w:World} {K:PySem.W.Frag} {mg:Str→Option Value} {base:Heap} {N ps:List Str} {qual:Str} {scope:Scope} {f:Addr} {cd:Value} {A:Around} {outer:List Env} {s s1:Shared} {H:Hp} {E:XK} {us:List Value} {vs:List V}
  (S:As N ps scope) (hd:A.handled = none) (e0:Ml P w K mg base A outer s H) (hl:vs.length = ps.length) (r:Az vs us)
  (x:InCallC s s.heap.objs.size (bindL (envOfC qual scope s.heap.objs.size f cd).kindOf (ps.zip us) λ _=>none) (cellsFrom (s.heap.objs.size + 1) scope.names []) (bindC (envOfC qual scope s.heap.objs.size f cd).kindOf (ps.zip us) λ _=>none) s1) :
  Inv (K4 CX P w K mg base N qual scope f cd A outer s H E) [] (start N vs) H s1:=by
 have a3:ps.length≤N.length:=by have:=congrArg length S.pre; rw [jE] at this; omega
 obtain ⟨h1,tk,rfl,hk⟩:=x.done
 have a1:∀ b:Addr,b∉(K4 CX P w K mg base N qual scope f cd A outer s H E).ex:=λ b z=>absurd (show b∈([]:List Addr) from z) (by simp)
 refine ⟨⟨e0.mod,S.kind,Z,Z,iX _,λ y z c h1 h2=>?_,λ y hy=>?_,λ y c _ h=>?_,λ _=>hd,Around.frames_deeper e0.frames,.inr ⟨rfl,rfl⟩,λ b z=>absurd z (a1 b),e0.bs,e0.bsz,λ b _ _=>a1 b,λ b z=>absurd z (a1 b),e0.funs,e0.frf⟩,
  rfl,e0.bare,Un.kept hk,⟨_,x.toInCall.ns,λ i y v h1 h2 h3=>?_⟩,λ y c h=>⟨_,x.cell y c h⟩,e0.hok.fresh (iX _),λ y c h=>?_,λ p hp=>absurd (show p∈([]:List (Addr× Obj)) from hp) (by simp),e0.hok.kept hk,?_⟩
 ·exact name_of_addr x.apart (PySem.mem_of_lookup h1) (PySem.mem_of_lookup h2)
 ·have hy:scope.names.lookup y = some .cell∨scope.names.lookup y = some .free:=hy
  rcases hy with hy | hy
  ·exact Sa hy
  ·exact absurd rfl (S.nofree _ (PySem.mem_of_lookup hy))
 ·exact le_of_lt (x.above y c (PySem.mem_of_lookup h))
 ·have hi:i < vs.length:=by
   unfold start at h2
   by_cases hi:i < vs.length
   ·exact hi
   ·rw [iS (by simpa using hi)] at h2
    rw [List.getElem?_replicate] at h2
    split at h2 <;> cases h2
  have ha:vs[i]? = some v:=by
   unfold start at h2
   rw [iR (by simpa using hi),iH] at h2
   cases e:vs[i]? with
   | none=>rw [e] at h2; cases h2
   | some a=>rw [e] at h2; cases h2; rfl
  obtain ⟨u,hu,rv⟩:=r.get ha
  have hp:ps[i]? = some y:=by
   rw [← S.pre,List.getElem?_take_of_lt (by omega)]; exact h1
  have a2:ps.Nodup:=by rw [← S.pre]; exact S.nd.sublist (List.take_sublist _ _)
  refine ⟨u,rv,?_⟩
  rcases S.par y (iN hp) with k | k
  ·exact .inl ⟨k,Ov a2 hp hu k⟩
  ·obtain ⟨c,e⟩:=Sa (n:=s.heap.objs.size + 1) k
   refine .inr ⟨.inl k,c,e,?_⟩
   have q:=x.cell y c e
   rw [Pd a2 hp hu (by show scope.names.lookup y≠_; rw [k]; decide)] at q
   exact q
 ·exact e0.hok.fresh (le_of_lt (x.above y c (PySem.mem_of_lookup h)))
 ·unfold start
  show _ = N.length
  rw [iB,hZ,iQ]
  omega
theorem Vg {CX:CXT} {P:Program} {w:World} {K:PySem.W.Frag} {mg:Str→Option Value} {base:Heap} {k:Nat} {f:Addr} {name qual:Str} {a1:Arguments} {a2:List Stmt} {scope:Scope} {dV kV doc pm cdv ct oc:Value} {an od:Option Addr}
  {osl:Array (Option Value)} {N ps:List Str} {sp:Sp} (lk:K.lookup f = some ⟨oc,od,.func (fnOf name qual a1 a2 scope dV kV doc pm an cdv ct),osl⟩) (a8:codeIn K cdv qual = true) (S:As N ps scope)
  (len:∀ vs H Q E,sp vs H Q E→vs.length = ps.length)
  (a4:∀ (A:Around) (outer:List Env) (s:Shared) (H:Hp) (vs:List V) (Q:VK) (E:XK),Bz k (A.deeper (envOfC qual scope s.heap.objs.size f cdv))→sp vs H Q E →
   ∃ t,PSs (K4 CX P w K mg base N qual scope f cdv A outer s H E) a2 t∧t { nx:=λ _ H'=>Q .non H',rt:=Q } (start N vs) H) :
  Bl P w K mg base CX (k + 1) f (fnOf name qual a1 a2 scope dV kV doc pm an cdv ct) ps sp:=by
 refine ⟨len,λ A outer s H args us vs Q E hr e0 hb r a6=>?_⟩
 have hl:=len _ _ _ _ a6
 have KX:K.In s.heap:=e0.mod.kin.keeps λ b o e=>(e0.bs b o e).1
 have a9:s.heap.NoLimit:=e0.mod.nolimit.keeps λ b o e=>(e0.bs b o e).1
 have a5:∀ y∈ps.zip us,scope.names.lookup y.1 = some .local∨(scope.names.lookup y.1 = some .cell∧((cellsFrom (s.heap.objs.size + 1) scope.names []).lookup y.1).isSome = true):=λ ⟨n,v⟩ hy=>by
  rcases S.par n (of_mem_zip hy).1 with q | q
  ·exact .inl q
  ·exact .inr ⟨q,cellsFrom_some _ _ _ (.inl q)⟩
 refine codeAny_call_function hr.depth (KX _ _ lk) rfl S.co S.gen rfl (PySem.W.codeRec_of KX a8) (hb _ _ _ _ ?_)
 refine wpAny_newFunctionEnv_cells S.kind a5 λ env he s1 x=>?_
 subst he
 refine ⟨a9.keeps x.toInCall.keep,codeAny_func ?_⟩
 obtain ⟨t,ht,hq⟩:=a4 A outer s H vs Q E (hr.deeper _) a6
 have I:Inv (K4 CX P w K mg base N qual scope f cdv A outer s H E) [] (start N vs) H s1:=Yc S hr.hd e0 hl r x
 refine jU (ht [] s1 (start N vs) H _ I hq) (λ fl s' hs=>?_) λ e s' hs=>hs
 have a7:∀ {a3:St} {H':Hp} {v:V} {u:Value},Inv (K4 CX P w K mg base N qual scope f cdv A outer s H E) [] a3 H' s'→A6 v u→Q v H'→CE outer P w H s Q u s' :=
  λ {a3 H' v u} J rv q=>⟨v,H',J.os,J.bare,J.base,J.hok,rv,q⟩
 cases fl with
 | ret u =>
  obtain ⟨v,a3,H',J,rv,q⟩:=hs
  exact a7 J rv q
 | next =>
  obtain ⟨a3,H',J,q⟩:=hs
  exact a7 (v:=V.non) (u:=Value.none) J rfl q
 | brk =>
  obtain ⟨_,_,_,q⟩:=hs
  exact False.elim q
 | cont =>
  obtain ⟨_,_,_,q⟩:=hs
  exact False.elim q
end L2
namespace L2
open PySem PySem.Spec PyProof.Rows
section
variable {X:Cx} {x:Str} {p pos:Pos} {e:Expr} {es:List Expr} {t:TA} {id T:String} {r:List V→Hp→VK→Prop}
def tCB (r:List V→Hp→VK→Prop) (t:TA):TE:=λ σ H Q=>t σ H λ vs H1=>r vs H1 Q
theorem Bs (hc:Es X (.builtin id) r) (hg:Gl X x) (hm:X.mg x = none) (hv:bootBuiltins x = some (.builtin id)) (ha:PA X (e :: es) t) (hn:x≠ "__name__" := by decide) (a2:(x == ("__debug__" : Str)) = false:=by decide)
  (he:starEach (e :: es) X.env = (false,eval e X.env) :: starEach es X.env:=by rfl) (a1:(backTo pos (starEach es X.env)).any (·.1) = false:=by rfl):PE X (.Call (.Name x p) (e :: es) [] pos) (tCB r t):=by
 intro pins s σ H Q I h
 refine wpAny_Call_Name_kw (F1 I hg hm hv ?_ hn a2)
 exact PyProof.Rows.callWith_builtin1 (thn (ha pos pins s σ H _ I h) λ us s1 ⟨vs,H1,I1,r1,q1⟩=>hc pins s1 σ H1 vs us Q I1 r1 q1) he a1
theorem Bu (hc:Es X (.type T) r) (hg:Gl X x) (hm:X.mg x = none) (hv:bootBuiltins x = some (.type T)) (ha:PA X (e :: es) t) (hn:x≠ "__name__" := by decide) (a2:(x == ("__debug__" : Str)) = false:=by decide)
  (he:starEach (e :: es) X.env = (false,eval e X.env) :: starEach es X.env:=by rfl) (a1:(backTo pos (starEach es X.env)).any (·.1) = false:=by rfl):PE X (.Call (.Name x p) (e :: es) [] pos) (tCB r t):=by
 intro pins s σ H Q I h
 refine wpAny_Call_Name_kw (F1 I hg hm hv ?_ hn a2)
 exact PyProof.Rows.callWith_type1 (thn (ha pos pins s σ H _ I h) λ us s1 ⟨vs,H1,I1,r1,q1⟩=>hc pins s1 σ H1 vs us Q I1 r1 q1) he a1
end
end L2
namespace HT
open PySem PyProof.Rows
section
open PySem.SeqAt
open PySem.AutoSeq1 (wpAny_loadPart')
open PySem.MeetsSeq PySem.MeetsSeq2 PySem.MeetsSeq3
end
section
variable {prog:Program} {w:World} {A:Around} {E:Value→Shared→Prop} {s:Shared}
theorem Ae7 {t b:Addr} {vs ws:List Value} {Q:Value→Shared→Prop} (ht:IsTup s.heap t vs.toArray) (hb:IsTup s.heap b ws.toArray) (hv:vs≠[])
  (h1:ws = []→Q (.ref t) s) (h2:ws≠[]→Q (.ref s.heap.objs.size) { s with heap:=s.heap.push { cls:=.type "tuple", data:=.seq (vs ++ ws).toArray } })
  (hsz:vs.length + ws.length≤sizeLine):wpAny (model prog w) A (binaryOp .Add (.ref t) (.ref b)) Q E s:=by
 obtain ⟨⟨cls,dd,data,sl⟩,ho,hc,n,hd⟩:=id ht
 obtain ⟨⟨a7,a4,a6,a5⟩,a1,a2,n2,a3⟩:=id hb
 simp only at hc hd a2 a3
 subst hc hd a2 a3
 have e:vs.toArray ++ ws.toArray = (vs ++ ws).toArray:=by simp
 by_cases hw:ws = []
 ·exact concat_meets ⟨_,ho,Z⟩ ⟨_,a1,Z⟩ noFill_tuple_add seq_tuple_add PySem.F.slot_tuple_add PySem.F.entry_tuple_add (PySem.F.args_tuple_add_2 _ _)
   (tuple_addW1 t b vs.toArray ws.toArray n n2 dd a4 sl a5 (by simpa using hv) (by simp [hw])) ⟨ho,a1,h1 hw⟩
 ·refine concat_meets ⟨_,ho,Z⟩ ⟨_,a1,Z⟩ noFill_tuple_add seq_tuple_add PySem.F.slot_tuple_add PySem.F.entry_tuple_add (PySem.F.args_tuple_add_2 _ _)
   (tuple_addW2 t b vs.toArray ws.toArray n n2 dd a4 sl a5 (by simpa using hv) (by simpa using hw) (by rw [size_toArray,size_toArray]; exact hsz)) ⟨ho,a1,?_⟩
  rw [e]
  exact h2 hw
def sIx (n d:Nat):Option Int→Nat
 | none=>d
 | some v=>if v < 0 then (v + (n:Int)).toNat else min v.toNat n
theorem Aed (n d:Nat):sIx n d none = d:=rfl
theorem Ae8 (n d k:Nat):sIx n d (some (k:Int)) = min k n:=by
 show (if (k:Int) < 0 then ((k:Int) + (n:Int)).toNat else min (k:Int).toNat n) = min k n
 rw [if_neg (by omega),Int.toNat_natCast]
theorem AdV (n d:Nat) (hd:d≤n) (o:Option Int):sIx n d o≤n:=by
 cases o with
 | none=>exact hd
 | some v =>
  show (if v < 0 then (v + (n:Int)).toNat else min v.toNat n)≤n
  by_cases hv:v < 0
  ·rw [if_pos hv]; omega
  ·rw [if_neg hv]; exact Nat.min_le_right _ _
theorem Ul (v:Int) (n d:Nat):(if v < 0 then max (v + (n:Int)) 0 else min v (n:Int)) = ((sIx n d (some v):Nat):Int):=by
 show (if v < 0 then max (v + (n:Int)) 0 else min v (n:Int)) = (((if v < 0 then (v + (n:Int)).toNat else min v.toNat n):Nat):Int)
 by_cases hv:v < 0
 ·simp only [if_pos hv]; omega
 ·simp only [if_neg hv]; omega
theorem Wp (lo hi:Option Int) (n:Nat):Builtin.Slice.sliceAdjust lo hi 1 (n:Int) = (((sIx n 0 lo:Nat):Int),((sIx n n hi:Nat):Int)):=by
 have h1:¬ ((1:Int) < 0):=by omega
 unfold Builtin.Slice.sliceAdjust
 simp only [h1,if_false]
 refine Prod.ext ?_ ?_
 ·cases lo with
  | none=>rfl
  | some v=>exact Ul v n 0
 ·cases hi with
  | none=>rfl
  | some v=>exact Ul v n n
theorem W4 (i j:Nat):Builtin.Slice.slicePlaces (i:Int) (j:Int) 1 = j - i:=by
 unfold Builtin.Slice.slicePlaces
 have h1:(1:Int) > 0:=by omega
 simp only [h1,if_true,Int.ediv_one]
 split <;> omega
theorem Nm {v:Value} {o:Option Int} {Q:Option Int→Shared→Prop} (p:IsPart v o) (h:Q o s):wpAny (model prog w) A (Builtin.Slice.slicePartIndex v) Q E s:=by
 cases p with
 | none=>exact slicePart_none h
 | int i t=>exact slicePart_int h
theorem Mi {sl:Addr} {vl vu:Value} {lo hi:Option Int} {n:Nat} {Q:Int× Int× Nat→Shared→Prop} (hs:s.heap.IsSliceOf sl vl vu .none) (pl:IsPart vl lo) (pu:IsPart vu hi)
  (h:Q (((sIx n 0 lo:Nat):Int),1,sIx n n hi - sIx n 0 lo) s):wpAny (model prog w) A (Builtin.Slice.sliceApplied (.ref sl) (pure (n:Int))) Q E s:=by
 obtain ⟨os,a1,a3,a2⟩:=id hs
 unfold Builtin.Slice.sliceApplied Builtin.Slice.sliceFields
 refine wpAny_bind (wpAny_bind (wpAny_field a1 a2 (x:=vl) rfl (wpAny_bind (wpAny_field a1 a2 (x:=vu) rfl (wpAny_bind (wpAny_field a1 a2 (x:=.none) rfl (wpAny_pure ?_)))))))
 refine wpAny_bind (slicePart_none ?_)
 show wpAny _ _ (if ((1:Int) == 0) = true then _ else _) _ _ s
 rw [if_neg (by decide)]
 refine wpAny_bind (Nm pl (wpAny_bind (Nm pu (wpAny_bind (wpAny_pure ?_)))))
 show wpAny _ _ (match Builtin.Slice.sliceAdjust lo hi 1 (n:Int) with | (lo,hi)=>pure (lo,(1:Int),Builtin.Slice.slicePlaces lo hi 1)) _ _ s
 rw [Wp lo hi n]
 show wpAny _ _ (pure (((sIx n 0 lo:Nat):Int),(1:Int),Builtin.Slice.slicePlaces ((sIx n 0 lo:Nat):Int) ((sIx n n hi:Nat):Int) 1)) _ _ s
 rw [W4]
 exact wpAny_pure h
theorem Aa5 (xs:Array Value) (i k:Nat):((List.range k).filterMap λ (m:Nat)=>xs[((i:Int) + (m:Int) * 1).toNat]?).toArray = ((xs.toList.drop i).take k).toArray:=by
 have e:(λ (m:Nat)=>xs[((i:Int) + (m:Int) * 1).toNat]?) = λ m=>xs[i + m]?:=by
  funext m
  have:((i:Int) + (m:Int) * 1).toNat = i + m:=by omega
  rw [this]
 rw [e]
 have:=pick_run xs i k
 rw [List.filterMap_map] at this
 have e2:((λ x=>xs[x]?) ∘ λ x=>i + x) = λ m=>xs[i + m]?:=rfl
 rw [e2] at this
 rw [this]
theorem Zk {t sl:Addr} {a1:Array Value} {vl vu:Value} {lo hi:Option Int} {Q:Value→Shared→Prop} (ht:IsTup s.heap t a1) (hs:s.heap.IsSliceOf sl vl vu .none) (pl:IsPart vl lo) (pu:IsPart vu hi)
  (hw:¬ (sIx a1.size 0 lo = 0∧sIx a1.size a1.size hi = a1.size))
  (h:Q (.ref s.heap.objs.size) { s with heap:=s.heap.push { cls:=.type "tuple", data:=.seq ((a1.toList.drop (sIx a1.size 0 lo)).take (sIx a1.size a1.size hi - sIx a1.size 0 lo)).toArray } })
  (hsz:a1.size≤sizeLine):wpAny (model prog w) A (getItem (.ref t) (.ref sl)) Q E s:=by
 have a2:sizeOk (.seq ((a1.toList.drop (sIx a1.size 0 lo)).take (sIx a1.size a1.size hi - sIx a1.size 0 lo)).toArray):=by
  show ((a1.toList.drop (sIx a1.size 0 lo)).take (sIx a1.size a1.size hi - sIx a1.size 0 lo)).toArray.size≤sizeLine
  rw [size_toArray,length_take,length_drop,Array.length_toList]
  omega
 have hj:sIx a1.size a1.size hi≤a1.size:=AdV _ _ (le_refl _) hi
 obtain ⟨os,a6,a4,a7⟩:=id hs
 have a3:s.TypeIs (.ref sl) "slice" := ⟨os,a6,a4⟩
 unfold getItem
 try with_reducible refine wpAny_holding ?_
 first | refine wpAny_bind (wpAny_pure ?_) | skip
 refine wpAny_bind (wpAny_sequenceKey ht.typeIs (by decide) ?_)
 refine wpAny_bind (wpAny_callSpecial?_slot (name:=Str.ofString "__getitem__") ht.typeIs PyProof.Rows.slot_tuple_getitem
  (wpAny_call_entry PyProof.Rows.slot_tuple_getitem ht.typeIs entry_tuple_getitem ?_ (args_tuple_getitem _ _)))
 show wpAny _ _ (Builtin.Tuple.tupleItemsOf (.ref t) >>= _) _ _ s
 refine wpAny_bind (tupleItemsOf_ ht ?_)
 refine wpAny_bind (wpAny_typeOf a3 ?_)
 rw [if_pos (by decide)]
 refine wpAny_bind (Mi hs pl pu ?_)
 have a5:¬ ((((sIx a1.size 0 lo:Nat):Int) == 0 && (1:Int) == 1 && (sIx a1.size a1.size hi - sIx a1.size 0 lo) == a1.size) = true):=by
  intro q
  rw [Bool.and_eq_true,Bool.and_eq_true] at q
  have q1:((sIx a1.size 0 lo:Nat):Int) = 0:=eq_of_beq q.1.1
  have q2:sIx a1.size a1.size hi - sIx a1.size 0 lo = a1.size:=eq_of_beq q.2
  exact hw ⟨by omega,by omega⟩
 show wpAny _ _ (if (((sIx a1.size 0 lo:Nat):Int) == 0 && (1:Int) == 1 && (sIx a1.size a1.size hi - sIx a1.size 0 lo) == a1.size) = true then _ else _) _ _ s
 rw [if_neg a5,Aa5]
 first
  | exact wpAny_bind (m:=Builtin.Tuple.tupleExact _) (wpAny_newObj_type (wpAny_pure ⟨_,rfl,wpAny_pure h⟩) a2)
  | exact wpAny_bind (m:=Builtin.Tuple.tupleExact _) (wpAny_newObj_type (wpAny_bind (wpAny_pure (wpAny_pure ⟨_,rfl,wpAny_pure h⟩))) a2)
  | exact wpAny_bind (wpAny_bind (m:=Builtin.Tuple.tupleExact _) (wpAny_newObj_type (wpAny_pure (wpAny_pure ⟨_,rfl,wpAny_pure h⟩)) a2))
  | exact wpAny_bind (wpAny_bind (m:=Builtin.Tuple.tupleExact _) (wpAny_newObj_type (wpAny_pure ⟨_,rfl,wpAny_pure h⟩) a2))
end
end HT
namespace L2
open PySem PySem.Spec PyProof.Rows
abbrev TO:=St→Hp→(Option Int→Hp→Prop)→Prop
def PO (X:Cx) (e:Option Expr) (t:TO):Prop :=
 ∀ (pins:List (Addr× Obj)) (s:Shared) (σ:St) (H:Hp) (Q:Option Int→Hp→Prop),Inv X pins σ H s→t σ H Q →
  wpAny (model X.prog X.w) X.A (evalPart e X.env) (λ u s'=>∃ o H',Inv X pins σ H' s'∧IsPart u o∧Q o H') X.xe s
def Acb:TO:=λ _ H Q=>Q none H
def AeW (t:TE):TO:=λ σ H Q=>t σ H λ x H1=>∃ i,x = .int i∧Q (some i) H1
theorem J5 {ns:List Int}:∀ {us:List Value},Az (ns.map V.int) us→IntsAre us ns:=by
 induction ns with
 | nil=>intro us r; rw [map_nil] at r; cases r; exact .nil
 | cons n ns ih =>
  intro us r
  rw [jR] at r
  cases r with
  | cons r1 r2 =>
   obtain ⟨t,e⟩:=r1
   subst e
   exact .cons n t (ih r2)
section
variable {X:Cx} {e:Expr} {te:TE} {lo hi:Option Expr} {tl th:TO} {pos p2:Pos}
theorem Of:PO X none Acb:=by
 intro pins s σ H Q I h
 rw [evalPart_none]
 exact hW ⟨none,H,I,.none,h⟩
theorem Hl (h:PE X e te):PO X (some e) (AeW te):=by
 intro pins s σ H Q I hw
 rw [evalPart_some]
 refine thn (h pins s σ H _ I hw) λ u s1 ⟨x,H1,I1,r1,q1⟩=>?_
 obtain ⟨i,rfl,q⟩:=q1
 obtain ⟨t,rfl⟩:=r1
 exact ⟨some i,H1,I1,.int i t,q⟩
def SlR (X:Cx) (r:V→Option Int→Option Int→Hp→VK→Prop):Prop :=
 ∀ (pins:List (Addr× Obj)) (s:Shared) (σ:St) (H:Hp) (x:V) (v vl vu:Value) (lo hi:Option Int) (sl:Addr) (Q:VK),Inv X pins σ H s→A6 x v→s.heap.IsSliceOf sl vl vu .none→IsPart vl lo→IsPart vu hi→r x lo hi H Q →
  ∃ T id,typeLookup (.type T) "__getitem__" = pure (some (.builtin id))∧s.TypeIs v T∧wpAny (model X.prog X.w) X.A (getItem v (.ref sl)) (EP X pins σ Q) X.xe s
def tSl (r:V→Option Int→Option Int→Hp→VK→Prop) (te:TE) (tl th:TO):TE:=λ σ H Q=>te σ H λ x H1=>tl σ H1 λ l H2=>th σ H2 λ u H3=>r x l u H3 Q
theorem Kh {r:V→Option Int→Option Int→Hp→VK→Prop} (hr:SlR X r) (he:PE X e te) (hl:PO X lo tl) (hu:PO X hi th):PE X (.Subscript e (.Slice lo hi none p2) pos) (tSl r te tl th):=by
 intro pins s σ H Q I h
 refine Subscript_ (thn (he pins s σ H _ I h) λ v s1 ⟨x,H1,I1,r1,q1⟩=>?_)
 refine wpAny_Slice (thn (hl pins s1 σ H1 _ I1 q1) λ vl s2 ⟨l,H2,I2,pl,q2⟩=>thn (hu pins s2 σ H2 _ I2 q2) λ vu s3 ⟨u,H3,I3,pu,q3⟩=>?_)
 rw [evalPart_none]
 refine hW ?_
 have I4:Inv X pins σ H3 { s3 with heap:=s3.heap.push { cls:=.type "slice", data:=.fields #[vl,vu,.none] } }:=I3.kept (t':=s3.toks) λ b ob q=>Heap.get?_push_of_some _ q
 obtain ⟨T,id,hT,ht,hg⟩:=hr pins { s3 with heap:=s3.heap.push { cls:=.type "slice", data:=.fields #[vl,vu,.none] } } σ H3 x v vl vu l u s3.heap.objs.size Q I4 r1 (Heap.IsSliceOf.new ..) pl pu q3
 show wpAny (model X.prog X.w) X.A (subscriptTail e (.Slice lo hi none p2) v (.ref s3.heap.objs.size)) (EP X pins σ Q) X.xe { s3 with heap:=s3.heap.push { cls:=.type "slice", data:=.fields #[vl,vu,.none] } }
 exact tail_any (ops:=[.ref s3.heap.objs.size,v]) ht hT hg (by with_unfolding_all rfl)
def Fm (xs:List V) (lo hi:Option Int):List V:=(xs.drop (HT.sIx xs.length 0 lo)).take (HT.sIx xs.length xs.length hi - HT.sIx xs.length 0 lo)
theorem L5 (xs:List V) (lo hi:Option Int):(Fm xs lo hi).length≤xs.length:=by
 unfold Fm
 rw [jE,length_drop]
 omega
def Aeq (K:PySem.W.Frag):V→Option Int→Option Int→Hp→VK→Prop:=λ x lo hi H Q=>∃ a xs,x = .ref a∧SqT K H a xs ∧
 ¬ (HT.sIx xs.length 0 lo = 0∧HT.sIx xs.length xs.length hi = xs.length)∧∀ p,H p = none→Q (.ref p) (upd H p (.tup (Fm xs lo hi)))
theorem AdZ:SlR X (Aeq X.K):=by
 intro pins s σ H x v vl vu lo hi sl Q I rx hs pl pu h
 obtain ⟨a,xs,rfl,hx,hw,q⟩:=h
 cases rx
 obtain ⟨a2,r,ht,hz⟩:=I.tuple hx
 have a1:a2.toArray.size = xs.length:=by rw [iL]; exact r.length.symm
 refine ⟨"tuple", _,PyProof.Rows.slot_tuple_getitem.lookup,ht.typeIs,?_⟩
 refine HT.Zk ht hs pl pu (by rw [a1]; exact hw) ?_ (by rw [a1]; exact hz)
 rw [a1]
 refine ⟨.ref s.heap.objs.size,_,I.laid (t':=s.toks) (o:=.tup (Fm xs lo hi)) (λ b ob q=>Heap.get?_push_of_some _ q) (iX _) ?_,Z,q _ (I.hok.fresh (iX _))⟩
 exact ⟨iW (L5 xs lo hi) hz,_,(r.drop (HT.sIx xs.length 0 lo)).take (HT.sIx xs.length xs.length hi - HT.sIx xs.length 0 lo),IsTup.new _ _⟩
def Ad2 (K:PySem.W.Frag):R2:=λ x y H Q=>∃ a b xs ys,x = .ref a∧y = .ref b∧SqT K H a xs∧SqT K H b ys∧xs≠[]∧xs.length + ys.length≤sizeLine ∧
 (ys = []→Q (.ref a) H)∧(ys≠[]→∀ p,H p = none→Q (.ref p) (upd H p (.tup (xs ++ ys))))
theorem Az.nil_iff {xs:List V} {us:List Value} (r:Az xs us):us = []↔xs = []:=by
 cases r with
 | nil=>simp
 | cons _ _=>simp
theorem Abi:OpR X (binaryOp .Add) (Ad2 X.K):=by
 intro pins s σ H x y v u Q I rx ry h
 obtain ⟨a,b,xs,ys,rfl,rfl,ha,hb,hx,hz,q1,q2⟩:=h
 cases rx
 cases ry
 obtain ⟨a2,r1,p1,_⟩:=I.tuple ha
 obtain ⟨a1,r2,p2,_⟩:=I.tuple hb
 refine HT.Ae7 p1 p2 (λ z=>hx (r1.nil_iff.mp z)) (λ z=>⟨.ref a,H,I,Z,q1 (r2.nil_iff.mp z)⟩) (λ z=>?_) (by rw [← r1.length,← r2.length]; exact hz)
 refine ⟨.ref s.heap.objs.size,_,I.laid (t':=s.toks) (o:=.tup (xs ++ ys)) (λ b ob q=>Heap.get?_push_of_some _ q) (iX _) ?_,Z,q2 (λ w=>z (r2.nil_iff.mpr w)) _ (I.hok.fresh (iX _))⟩
 exact ⟨by rw [iB]; exact hz,_,r1.append r2,IsTup.new _ _⟩
end
end L2
namespace L2
open PySem PySem.Spec PyProof.Rows
def ixN (n:Nat) (i:Int):Option Nat:=if 0≤i then (if i < n then some i.toNat else none) else if -(n:Int)≤i then some (i + n).toNat else none
def atI {α:Type} (xs:List α) (i:Int):Option α:=(ixN xs.length i).bind λ j=>xs[j]?
theorem Uu {n:Nat} {i:Int} {j:Nat} (h:ixN n i = some j):seqIndex? i n = some j∧j < n∧-(n:Int)≤i∧i < n:=by
 unfold ixN at h
 by_cases h0:0≤i
 ·rw [if_pos h0] at h
  by_cases h1:i < n
  ·rw [if_pos h1] at h
   have e:i.toNat = j:=Option.some.inj h
   exact ⟨by rw [seqIndex_of h0 h1,e],by omega,by omega,h1⟩
  ·rw [if_neg h1] at h; cases h
 ·rw [if_neg h0] at h
  by_cases h1:-(n:Int)≤i
  ·rw [if_pos h1] at h
   have e:(i + n).toNat = j:=Option.some.inj h
   exact ⟨by rw [seqIndex_neg (by omega) h1,e],by omega,h1,by omega⟩
  ·rw [if_neg h1] at h; cases h
theorem Tx {α:Type} {xs:List α} {i:Int} {v:α} (h:atI xs i = some v):∃ j,seqIndex? i xs.length = some j∧xs[j]? = some v∧j < xs.length∧-(xs.length:Int)≤i∧i < xs.length:=by
 unfold atI at h
 cases e:ixN xs.length i with
 | none=>rw [e] at h; cases h
 | some j =>
  rw [e] at h
  obtain ⟨h1,h2,h3,h4⟩:=Uu e
  exact ⟨j,h1,h,h2,h3,h4⟩
theorem Ah {α:Type} {xs:List α} {j:Nat} {v:α} (h:xs[j]? = some v):atI xs (j:Int) = some v:=by
 have hj:j < xs.length:=(List.getElem?_eq_some_iff.mp h).1
 have e:ixN xs.length (j:Int) = some j:=by
  unfold ixN
  rw [if_pos (by omega),if_pos (by omega)]; simp
 unfold atI; rw [e]; exact h
def AcB (b:Expr):Prop:=∀ o i,subscripted b false o i = operate [o,i] (getItem o i)
def IxR (X:Cx) (r:R2):Prop :=
 ∀ (value slice:Expr) (pins:List (Addr× Obj)) (s:Shared) (σ:St) (H:Hp) (x y:V) (v u:Value) (Q:VK),Inv X pins σ H s→A6 x v→A6 y u→r x y H Q →
  subscripted slice false v u = operate [v,u] (getItem v u)→wpAny (model X.prog X.w) X.A (subscriptTail value slice v u) (EP X pins σ Q) X.xe s
def MtR (X:Cx) (id:String) (r:V→List V→Hp→VK→Prop):Prop :=
 ∀ (pins:List (Addr× Obj)) (s:Shared) (σ:St) (H:Hp) (x:V) (xs:List V) (v:Value) (us:List Value) (Q:VK),Inv X pins σ H s→A6 x v→Az xs us→r x xs H Q →
  wpAny (model X.prog X.w) X.A (call (.builtin id) (v :: us)) (EP X pins σ Q) X.xe s
section
variable {X:Cx} {a b:Expr} {ta tb:TE} {pos:Pos}
theorem Ak {r:R2} (hr:IxR X r) (ha:PE X a ta) (hb:PE X b tb) (hs:AcB b):PE X (.Subscript a b pos) (tOp r ta tb):=by
 intro pins s σ H Q I h
 exact Subscript_ (Z3 ha hb I h λ v u s2 x y H2 I2 rx ry q=>hr a b pins s2 σ H2 x y v u Q I2 rx ry q (hs _ _))
inductive Y5 (K:PySem.W.Frag) (x y:V) (H:Hp) (Q:VK):Prop
 | mk (p) (xs) (i) (v) (_:x = .ref p) (_:y = .int i) (_:SqL K H p xs) (_:atI xs i = some v) (_:Q v H):Y5 K x y H Q
def Kt (K:PySem.W.Frag):R2:=λ x y H Q=>Y5 K x y H Q
inductive Yz (K:PySem.W.Frag) (x y:V) (H:Hp) (Q:VK):Prop
 | mk (p) (xs) (i) (v) (_:x = .ref p) (_:y = .int i) (_:SqT K H p xs) (_:atI xs i = some v) (_:Q v H):Yz K x y H Q
def Fo (K:PySem.W.Frag):R2:=λ x y H Q=>Yz K x y H Q
theorem Be:IxR X (Kt X.K):=by
 intro value a4 pins s σ H x y v u Q I rx ry h hs
 obtain ⟨p,xs,i,z,rfl,rfl,hq,he,q⟩:=h
 cases rx
 obtain ⟨t,rfl⟩:=ry
 obtain ⟨a3,r,pl,hz⟩:=I.list hq
 obtain ⟨j,h1,h2,h3,h4,h5⟩:=Tx he
 obtain ⟨w,ew,a2⟩:=r.get h2
 have hl:=r.length
 have hn:=Jv
 have a1:EP X pins σ Q w s:=⟨z,H,I,a2,q⟩
 by_cases h0:0≤i
 ·have hj:i.toNat = j:=by
   rw [seqIndex_of h0 h5] at h1
   exact Option.some.inj h1
  exact item_listR pl.isList h0 (by omega) (by rw [hj]; simpa using ew) a1 hs
 ·have hj:(i + (a3.toArray.size:Int)).toNat = j:=by
   rw [seqIndex_neg (by omega) h4] at h1
   rw [iL,← hl]
   exact Option.some.inj h1
  exact subscriptTail_builtinR (x:=w) pl.isList.typeIs slot_list_getitem.lookup
   (wpAny_getItem_list_neg (Q:=λ r s'=>r = w∧EP X pins σ Q r s') pl.isList (by omega) (by rw [iL] <;> omega) (by omega) (by rw [hj]; simpa using ew) ⟨Z,a1⟩) hs
theorem Ar:IxR X (Fo X.K):=by
 intro value a3 pins s σ H x y v u Q I rx ry h hs
 obtain ⟨p,xs,i,z,rfl,rfl,hq,he,q⟩:=h
 cases rx
 obtain ⟨t,rfl⟩:=ry
 obtain ⟨a4,r,pl,hz⟩:=I.tuple hq
 obtain ⟨j,h1,h2,h3,h4,h5⟩:=Tx he
 obtain ⟨w,ew,a1⟩:=r.get h2
 have hl:=r.length
 have hn:=Jv
 have a2:EP X pins σ Q w s:=⟨z,H,I,a1,q⟩
 exact subscriptTail_builtinR (x:=w) pl.typeIs slot_tuple_getitem.lookup
  (getItem_tuple (j:=j) (Q:=λ r s'=>r = w∧EP X pins σ Q r s') pl (by omega) (by omega) (by rw [iL,← hl]; exact h1) (by simpa using ew) ⟨Z,a2⟩) hs
theorem Wq (a1:List Value) (n j:Nat) (u:Value):Obj.mapSeq (·.setIfInBounds j u) { cls:=.type "list", data:=.seq a1.toArray n } = { cls:=.type "list", data:=.seq (a1.set j u).toArray n }:=by
 simp [Obj.mapSeq]
theorem Inv.lst {pins:List (Addr× Obj)} {σ:St} {H:Hp} {s:Shared} {p:Addr} {xs:List V} (I:Inv X pins σ H s) (h:H p = some (.lst xs)) :
  ∃ (a1:List Value) (n:Nat),Az xs a1∧s.heap.get? p = some { cls:=.type "list", data:=.seq a1.toArray n }∧xs.length≤sizeLine:=by
 obtain ⟨z,a1,n,r,e⟩:=I.hok p _ h
 exact ⟨a1,n,r,e,z⟩
theorem Inv.lstUpd {pins:List (Addr× Obj)} {σ:St} {H:Hp} {s:Shared} {p:Addr} {xs ys:List V} {a1 its':List Value} {n n':Nat} {f:Obj→Obj} (I:Inv X pins σ H s) (h:H p = some (.lst xs))
  (ho:s.heap.get? p = some { cls:=.type "list", data:=.seq a1.toArray n }) (hf:f { cls:=.type "list", data:=.seq a1.toArray n } = { cls:=.type "list", data:=.seq its'.toArray n' }) (r:Az ys its') (hz:ys.length≤sizeLine) (t:Nat) :
  Inv X pins σ (upd H p (.lst ys)) { s with heap:=s.heap.update p f,toks:=t }:=by
 have e:(s.heap.update p f).get? p = some { cls:=.type "list", data:=.seq its'.toArray n' }:=by
  rw [Heap.get?_update_self f ho (by rw [hf] <;> rfl),hf]
 refine I.write (x:=p) (e:=p) (by rw [h]; trivial) (.inl rfl) (λ b u hb q=>(Heap.get?_update_other _ _ (Ne.symm hb)).trans q) ⟨_,e⟩ ?_
 exact ⟨hz,its',n',r,e⟩
inductive Sx (o i v:V) (H:Hp) (Q:Hp→Prop):Prop
 | mk (p:Addr) (xs:List V) (k:Int) (j:Nat) (_:o = .ref p) (_:i = .int k) (_:H p = some (.lst xs)) (_:ixN xs.length k = some j) (_:Q (upd H p (.lst (xs.set j v)))):Sx o i v H Q
def AeZ:V→V→V→Hp→(Hp→Prop)→Prop:=λ o i v H Q=>Sx o i v H Q
theorem Kl:Acx X AeZ:=by
 intro pins s σ H o i v ov iv u Q I ro ri rv h
 obtain ⟨p,xs,k,j,rfl,rfl,hp,hj,q⟩:=h
 cases ro
 obtain ⟨t,rfl⟩:=ri
 obtain ⟨a1,n,r,ho,hz⟩:=I.lst hp
 obtain ⟨h1,h2,h3,h4⟩:=Uu hj
 have hl:=r.length
 have hn:=Jv
 have I':Inv X pins σ (upd H p (.lst (xs.set j v))) { s with heap:=s.heap.update p (Obj.mapSeq (·.setIfInBounds j u)) } :=
  I.lstUpd hp ho (Wq a1 n j u) (r.set rv j) (by rw [jL]; exact hz) s.toks
 by_cases h0:0≤k
 ·have hk:k.toNat = j:=by
   rw [seqIndex_of h0 h4] at h1
   exact Option.some.inj h1
  exact PySem.W.ki_setAt ho h0 (by omega) (by rw [iL,← hl]; exact h4) (by rw [hk]; exact ⟨_,I',q⟩)
 ·have hk:(k + (a1.toArray.size:Int)).toNat = j:=by
   rw [seqIndex_neg (by omega) h3] at h1
   rw [iL,← hl]
   exact Option.some.inj h1
  exact PySem.W.ki_setBack ho (by omega) (by rw [iL,← hl]; exact h3) (by omega) (by rw [hk]; exact ⟨_,I',q⟩)
theorem Qg (lo hi:Option Int) (n:Nat):(sliceBounds lo hi none n).1 = ((HT.sIx n 0 lo:Nat):Int)∧(sliceBounds lo hi none n).2.1 = ((HT.sIx n n hi:Nat):Int)∧(sliceBounds lo hi none n).2.2 = 1:=by
 refine ⟨?_,?_,Z⟩
 ·cases lo with
  | none=>simp [sliceBounds,HT.sIx]
  | some i =>
   simp only [sliceBounds,HT.sIx,Option.getD_none,show (1:Int) > 0 by decide,if_true]
   by_cases h:i < 0
   ·simp only [h,if_true] <;> omega
   ·simp only [h,if_false] <;> omega
 ·cases hi with
  | none=>simp [sliceBounds,HT.sIx]
  | some i =>
   simp only [sliceBounds,HT.sIx,Option.getD_none,show (1:Int) > 0 by decide,if_true]
   by_cases h:i < 0
   ·simp only [h,if_true] <;> omega
   ·simp only [h,if_false] <;> omega
theorem Py (a1:List Value) (lo hi:Option Int):slicePick a1.toArray lo hi none = ((a1.drop (HT.sIx a1.length 0 lo)).take (HT.sIx a1.length a1.length hi - HT.sIx a1.length 0 lo)).toArray:=by
 obtain ⟨h1,h2,h3⟩:=Qg lo hi a1.toArray.size
 unfold slicePick
 rw [h1,h2,h3]
 simp only [sliceRange_one,pick_run,iL] <;> rfl
def Aee (K:PySem.W.Frag):V→Option Int→Option Int→Hp→VK→Prop:=λ x lo hi H Q=>∃ a xs,x = .ref a∧SqL K H a xs∧∀ p,H p = none→Q (.ref p) (upd H p (.lst (Fm xs lo hi)))
theorem N8:SlR X (Aee X.K):=by
 intro pins s σ H x v vl vu lo hi sl Q I rx hs pl pu h
 obtain ⟨a,xs,rfl,hx,q⟩:=h
 cases rx
 obtain ⟨a2,r,ht,hz⟩:=I.list hx
 have a1:=r.length
 refine ⟨"list", _,slot_list_getitem.lookup,ht.isList.typeIs,?_⟩
 refine wpAny_getItem_list_slice ht.isList hs pl pu .none (by simp) ?_ (by rw [iL] <;> omega)
 rw [Py,← a1]
 refine ⟨.ref s.heap.objs.size,_,I.laid (t':=s.toks) (o:=.lst (Fm xs lo hi)) (λ b ob q=>Heap.get?_push_of_some _ q) (iX _) ?_,Z,q _ (I.hok.fresh (iX _))⟩
 exact ⟨iW (L5 xs lo hi) hz,_,0,(r.drop (HT.sIx xs.length 0 lo)).take (HT.sIx xs.length xs.length hi - HT.sIx xs.length 0 lo),Heap.get?_push_size _ rfl⟩
def E7:V→Bool
 | .non=>true
 | .bl _=>true
 | .int _=>true
 | .str _=>true
 | _=>false
def eqV:V→V→Bool
 | .non,.non=>true
 | .bl a,.bl b=>a == b
 | .bl a,.int b=>(if a then 1 else 0) == b
 | .int a,.bl b=>a == (if b then 1 else 0)
 | .int a,.int b=>a == b
 | .str a,.str b=>a == b
 | _,_=>false
theorem Ze {A:Around} {s:Shared} {y x:V} {u v:Value} (ry:A6 y u) (rx:A6 x v) (fy:E7 y = true) (fx:E7 x = true):SeqAt.EqAt A s u v (eqV y x):=by
 cases y with
 | non =>
  cases ry
  cases x with
  | non=>cases rx; exact SeqAt.EqAt.same _
  | bl b=>cases rx; exact SeqAt.EqAt.none_bool b
  | int b=>obtain ⟨t,rfl⟩:=rx; exact SeqAt.EqAt.none_int b t
  | str b=>obtain ⟨t,rfl⟩:=rx; exact SeqAt.EqAt.none_str b t
  | _=>exact absurd (show false = true from fx) Bool.false_ne_true
 | bl a =>
  cases ry
  cases x with
  | non=>cases rx; exact SeqAt.EqAt.bool_none a
  | bl b=>cases rx; exact SeqAt.EqAt.bool_bool a b
  | int b=>obtain ⟨t,rfl⟩:=rx; exact SeqAt.EqAt.bool_int a b t
  | str b=>obtain ⟨t,rfl⟩:=rx; exact SeqAt.EqAt.bool_str a b t
  | _=>exact absurd (show false = true from fx) Bool.false_ne_true
 | int a =>
  obtain ⟨t',rfl⟩:=ry
  cases x with
  | non=>cases rx; exact SeqAt.EqAt.int_none a t'
  | bl b=>cases rx; exact SeqAt.EqAt.int_bool a t' b
  | int b=>obtain ⟨t,rfl⟩:=rx; exact SeqAt.EqAt.int_int a t' b t
  | str b=>obtain ⟨t,rfl⟩:=rx; exact SeqAt.EqAt.int_str a t' b t
  | _=>exact absurd (show false = true from fx) Bool.false_ne_true
 | str a =>
  obtain ⟨t',rfl⟩:=ry
  cases x with
  | non=>cases rx; exact SeqAt.EqAt.str_none a t'
  | bl b=>cases rx; exact SeqAt.EqAt.str_bool a t' b
  | int b=>obtain ⟨t,rfl⟩:=rx; exact SeqAt.EqAt.str_int a t' b t
  | str b=>obtain ⟨t,rfl⟩:=rx; exact SeqAt.EqAt.str_str a t' b t
  | _=>exact absurd (show false = true from fx) Bool.false_ne_true
 | _=>exact absurd (show false = true from fy) Bool.false_ne_true
def eqU (x:V) (u:Value):Bool:=match u with
 | .none=>eqV .non x
 | .bool b=>eqV (.bl b) x
 | .int i _=>eqV (.int i) x
 | .str z _=>eqV (.str z) x
 | _=>false
theorem Qo {x y:V} {u:Value} (r:A6 y u) (f:E7 y = true):eqU x u = eqV y x:=by
 cases y with
 | non=>cases r; rfl
 | bl b=>cases r; rfl
 | int i=>obtain ⟨t,rfl⟩:=r; rfl
 | str z=>obtain ⟨t,rfl⟩:=r; rfl
 | _=>exact absurd (show false = true from f) Bool.false_ne_true
theorem Op {x:V}:∀ {xs:List V} {us:List Value},Az xs us→xs.all E7 = true→us.any (eqU x) = xs.any λ y=>eqV y x
 | _,_,.nil,_=>rfl
 | y :: xs,u :: us,.cons r t,f=>by
  rw [all_cons,Bool.and_eq_true] at f
  rw [any_cons,any_cons,Qo r f.1,Op t f.2]
theorem Ke {A:Around} {s:Shared} {x:V} {v:Value} (rx:A6 x v) (fx:E7 x = true):∀ {xs:List V} {us:List Value},Az xs us→xs.all E7 = true→∀ u∈us,SeqAt.EqAt A s u v (eqU x u)
 | _,_,.nil,_=>λ u hu=>by cases hu
 | y :: xs,u :: us,.cons r t,f=>λ u' hu=>by
  rw [all_cons,Bool.and_eq_true] at f
  rcases jK.mp hu with rfl | hu
  ·rw [Qo r f.1]; exact Ze r rx f.1 fx
  ·exact Ke rx fx t f.2 u' hu
def inV (x:V) (xs:List V):Bool:=xs.any λ y=>eqV y x
inductive AbH (K:PySem.W.Frag) (neg:Bool) (x y:V) (H:Hp) (Q:VK):Prop
 | mk (p) (xs) (_:y = .ref p) (_:(SqL K H p xs∨SqT K H p xs)) (_:E7 x = true) (_:xs.all E7 = true) (_:Q (.bl (if neg then !inV x xs else inV x xs)) H):AbH K neg x y H Q
def rIn (K:PySem.W.Frag) (neg:Bool):R2:=λ x y H Q=>AbH K neg x y H Q
theorem Dr:OpR X (compareOp .In) (rIn X.K false):=by
 intro pins s σ H x y v u Q I rx ry h
 obtain ⟨p,xs,rfl,hq,fx,fs,q⟩:=h
 cases ry
 rcases hq with hq | hq
 ·obtain ⟨a1,r,pl,hz⟩:=I.list hq
  refine SeqAt.in_listAt (eqU x) pl.isList (λ w hw=>Ke rx fx r fs w (by simpa using hw)) ⟨.bl _,H,I,Z,?_⟩
  rw [show a1.toArray.any (eqU x) = a1.any (eqU x) by simp,Op r fs]
  exact q
 ·obtain ⟨a1,r,pl,hz⟩:=I.tuple hq
  refine SeqAt.in_tupleAt (eqU x) pl (λ w hw=>Ke rx fx r fs w (by simpa using hw)) ⟨.bl _,H,I,Z,?_⟩
  rw [show a1.toArray.any (eqU x) = a1.any (eqU x) by simp,Op r fs]
  exact q
theorem Rm:Es X (.builtin "len") (λ xs H Q=>∃ p ys,xs = [.ref p]∧(SqL X.K H p ys∨SqT X.K H p ys)∧Q (.int ys.length) H):=by
 intro pins s σ H xs us Q I r h
 obtain ⟨p,ys,rfl,hq,q⟩:=h
 obtain ⟨u,rfl,rx⟩:=Nj r
 cases rx
 have hn:=Jv
 rcases hq with hq | hq
 ·obtain ⟨a2,r',pl,hz⟩:=I.list hq
  have a1:=r'.length
  exact Calls.call_len_list pl.isList (by simp only [iL] <;> omega) ⟨.int ys.length,H,I.tok _,⟨s.toks + 1,by rw [iL,a1]⟩,q⟩
 ·obtain ⟨a2,r',pl,hz⟩:=I.tuple hq
  have a1:=r'.length
  exact len_tuple pl (by simp only [iL] <;> omega) ⟨.int ys.length,H,I.tok _,⟨s.toks + 1,by rw [iL,a1]⟩,q⟩
theorem Df:Es X (.type "list") (λ xs H Q=>∃ p ys,xs = [.ref p]∧(SqL X.K H p ys∨SqT X.K H p ys)∧∀ l,H l = none→Q (.ref l) (upd H l (.lst ys))):=by
 intro pins s σ H xs us Q I r h
 obtain ⟨p,ys,rfl,hq,q⟩:=h
 obtain ⟨u,rfl,rx⟩:=Nj r
 cases rx
 have a2:∀ (a1:List Value),Az ys a1→ys.length≤sizeLine→∀ (h':Heap) (c':Nat),(∀ b o',s.heap.get? b = some o'→h'.get? b = some o') →
   h'.get? s.heap.objs.size = some { cls:=.type "list", dict:=none,data:=.seq a1.toArray c',slots:=#[] }→EP X pins σ Q (.ref s.heap.objs.size) { s with heap:=h' }:=λ a1 r' hz h' c' kp e =>
  ⟨.ref s.heap.objs.size,_,I.laid (t':=s.toks) kp (iX _) (show Bt X.prog X.w _ h' _ (.lst ys) from ⟨hz,a1,c',r',e⟩),Z,q _ (I.hok.fresh (iX _))⟩
 rcases hq with hq | hq
 ·obtain ⟨a1,r',pl,hz⟩:=I.list hq
  have a3:=r'.length
  obtain ⟨o,ho,hc,n,hd⟩:=pl.isList
  exact call_list_seq p (.inl rfl) ho hc hd (λ h' c' kp e=>a2 a1 r' hz h' c' kp e) (by simp only [iL] <;> omega)
 ·obtain ⟨a1,r',pl,hz⟩:=I.tuple hq
  have a3:=r'.length
  obtain ⟨o,ho,hc,n,hd⟩:=pl
  exact call_list_seq p (.inr rfl) ho hc hd (λ h' c' kp e=>a2 a1 r' hz h' c' kp e) (by simp only [iL] <;> omega)
theorem Hb:Es X (.type "tuple") (λ xs H Q=>∃ p ys,xs = [.ref p]∧((SqL X.K H p ys∧∀ l,H l = none→Q (.ref l) (upd H l (.tup ys)))∨(SqT X.K H p ys∧Q (.ref p) H))):=by
 intro pins s σ H xs us Q I r h
 obtain ⟨p,ys,rfl,h⟩:=h
 obtain ⟨u,rfl,rx⟩:=Nj r
 cases rx
 rcases h with ⟨hq,q⟩ | ⟨hq,q⟩
 ·obtain ⟨a1,r',pl,hz⟩:=I.list hq
  have a2:=r'.length
  refine call_tuple_list pl.isList (λ h' kp=>?_) (by simp only [iL] <;> omega)
  have I1:Inv X pins σ H { s with heap:=h' }:=I.kept (t':=s.toks) kp
  have I2:Inv X pins σ (upd H h'.objs.size (.tup ys)) { s with heap:=h'.push { cls:=.type "tuple", data:=.seq a1.toArray } } :=
   I1.laid (t':=s.toks) (λ b o e=>Heap.get?_push_of_some _ e) (iX _) (show Bt X.prog X.w _ _ _ (.tup ys) from ⟨hz,a1,r',IsTup.new _ _⟩)
  exact ⟨.ref h'.objs.size,_,I2,Z,q _ (I1.hok.fresh (iX _))⟩
 ·obtain ⟨a1,r',pl,hz⟩:=I.tuple hq
  exact call_tuple_same pl ⟨.ref p,H,I,Z,q⟩
def tyV (K:PySem.W.Frag) (T:String) (x:V) (H:Hp):Prop:=match x with
 | .str _=>T = "str"
 | .int _=>T = "int"
 | .ref p=>(T = "list" ∧ ∃ xs,SqL K H p xs)∨(T = "tuple" ∧ ∃ o,K.lookup p = some o∧o.cls = .type "tuple" ∧ o.dict = none) ∨
   (T = "dict" ∧ ((∃ kvs,H p = some (.dK kvs))∨∃ kvs,H p = some (.dT kvs)))∨(T = "set" ∧ ∃ S n,H p = some (.set S n))
 | _=>False
theorem Xb {pins:List (Addr× Obj)} {σ:St} {H:Hp} {s:Shared} {T:String} {x:V} {v:Value} (I:Inv X pins σ H s) (r:A6 x v) (ty:tyV X.K T x H) :
  s.TypeIs v T∧∀ a,v = .ref a→∃ ob,s.heap.get? a = some ob∧ob.dict = none:=by
 cases x with
 | str z =>
  obtain ⟨t,rfl⟩:=r
  cases (show T = "str" from ty)
  exact ⟨typeIs_str s z t,λ _ e=>nomatch e⟩
 | int i =>
  obtain ⟨t,rfl⟩:=r
  cases (show T = "int" from ty)
  exact ⟨typeIs_int s i t,λ _ e=>nomatch e⟩
 | ref p =>
  cases r
  rcases ty with ⟨rfl,xs,hq⟩ | ⟨rfl,o,hk,hc,hd⟩ | ⟨rfl,hk⟩ | ⟨rfl,S,n,hk⟩
  ·obtain ⟨a1,_,pl,_⟩:=I.list hq
   refine ⟨pl.isList.typeIs,λ a e=>?_⟩
   cases e
   obtain ⟨o,n,e,c,hd,_⟩:=pl
   exact ⟨o,e,hd⟩
  ·refine ⟨⟨o,I.kIn p o hk,hc⟩,λ a e=>?_⟩
   cases e
   exact ⟨o,I.kIn _ o hk,hd⟩
  ·have z:∃ o,s.heap.get? p = some o∧o.ExactDict:=by
    rcases hk with ⟨kvs,hk⟩ | ⟨kvs,hk⟩
    ·obtain ⟨_,_,_,_,o,_,_,e,ex,_⟩:=I.hok p _ hk
     exact ⟨o,e,ex⟩
    ·obtain ⟨_,_,_,_,o,_,_,e,ex,_⟩:=I.hok p _ hk
     exact ⟨o,e,ex⟩
   obtain ⟨o,e,ex⟩:=z
   refine ⟨⟨o,e,ex.1⟩,λ a e2=>?_⟩
   cases e2
   exact ⟨o,e,ex.2.1⟩
  ·obtain ⟨o,_,_,_,e,ex,_⟩:=I.hok p _ hk
   refine ⟨⟨o,e,ex.1⟩,λ a e2=>?_⟩
   cases e2
   exact ⟨o,e,ex.2.1⟩
 | _=>exact False.elim ty
def Ae5 (K:PySem.W.Frag) (T:String) (r:V→List V→Hp→VK→Prop) (to:TE):TE:=λ σ H Q=>to σ H λ x H1=>tyV K T x H1∧r x [] H1 Q
def tBM (K:PySem.W.Frag) (T:String) (r:V→List V→Hp→VK→Prop) (to:TE) (t:TA):TE:=λ σ H Q=>to σ H λ x H1=>tyV K T x H1∧t σ H1 λ xs H2=>r x xs H2 Q
variable {o e:Expr} {es:List Expr} {to:TE} {t:TA} {name:Str} {apos cpos:Pos} {T id:String} {r:V→List V→Hp→VK→Prop}
theorem Gz (pa:PlainAttrs T) (slot:Slot T name id) (a3:typeOf (.builtin id) = pure (.type "method_descriptor")) (hm:MtR X id r) (ho:PE X o to)
  (a2:attributeBase o name X.env (eval o X.env) = eval o X.env:=by rfl) (a1:(apos.endLine == cpos.line) = true:=by rfl):PE X (.Call (.Attribute o name apos) [] [] cpos) (Ae5 X.K T r to):=by
 intro pins s σ H Q I h
 refine wpAny_Call_method0_late a2 a1 (thn (ho pins s σ H _ I h) λ v s1 ⟨x,H1,I1,r1,ty,q1⟩=>?_)
 obtain ⟨h1,h2⟩:=Xb I1 r1 ty
 exact ⟨T,id,pa,slot,a3,h1,h2,Calls.callWith_builtin rfl (PySem.evalArgs_none (hm pins s1 σ H1 x [] v [] Q I1 r1 .nil q1))⟩
theorem Dt (pa:PlainAttrs T) (slot:Slot T name id) (a5:typeOf (.builtin id) = pure (.type "method_descriptor")) (hm:MtR X id r) (ho:PE X o to) (ha:PA X (e :: es) t)
  (a3:attributeBase o name X.env (eval o X.env) = eval o X.env:=by rfl)
  (a4:((backTo cpos (starEach (e :: es) X.env)).all (λ x=>!x.1) && (backToKw cpos (keywordEach [] X.env)).all (λ x=>x.1.isSome)
   && decide ((e :: es).length + ([]:List Keyword).length + (if ([]:List Keyword).isEmpty then 0 else 1) < 30)) = true:=by rfl)
  (a2:(apos.endLine == cpos.line) = true:=by rfl) (hs:starEach (e :: es) X.env = (false,eval e X.env) :: starEach es X.env:=by rfl) (a1:(backTo cpos (starEach es X.env)).any (·.1) = false:=by rfl) :
  PE X (.Call (.Attribute o name apos) (e :: es) [] cpos) (tBM X.K T r to t):=by
 intro pins s σ H Q I h
 refine wpAny_Call_method_late a3 a4 a2 rfl (thn (ho pins s σ H _ I h) λ v s1 ⟨x,H1,I1,r1,ty,q1⟩=>?_)
 obtain ⟨h1,h2⟩:=Xb I1 r1 ty
 refine ⟨T,id,pa,slot,a5,h1,h2,?_⟩
 have hA:=ha cpos pins s1 σ H1 _ I1 q1
 rw [hs] at hA ⊢
 refine Calls.callWith_builtin (by show (false || (backTo cpos (starEach es X.env)).any (·.1)) = false; rw [a1] <;> rfl) (Calls.evalArgs_plain ?_)
 exact thn hA λ us s2 ⟨vs,H2,I2,r2,q2⟩=>hm pins s2 σ H2 x vs v us Q I2 r1 r2 q2
end
end L2
namespace L2
open PySem PySem.Spec PyProof.Rows
def MtM (X:Cx) (id:String) (r:V→List V→Hp→VK→Prop):Prop :=
 ∀ (pins:List (Addr× Obj)) (s:Shared) (σ:St) (H:Hp) (x:V) (xs:List V) (v:Value) (us:List Value) (Q:VK),Inv X pins σ H s→A6 x v→Az xs us→r x xs H Q →
  wpAny (model X.prog X.w) X.A (call (.builtin id) (v :: us)) (EP X pins σ Q) X.xe s
theorem Az.one:∀ {x:V} {us:List Value},Az [x] us→∃ u,us = [u]∧A6 x u
 | _,_,.cons r .nil=>⟨_,rfl,r⟩
theorem Az.two:∀ {x y:V} {us:List Value},Az [x,y] us→∃ u v,us = [u,v]∧A6 x u∧A6 y v
 | _,_,_,.cons r (.cons q .nil)=>⟨_,_,rfl,r,q⟩
theorem Az.zero:∀ {us:List Value},Az [] us→us = []
 | _,.nil=>rfl
theorem Az.dropLast {xs:List V} {us:List Value} (h:Az xs us):Az xs.dropLast us.dropLast:=by
 induction h with
 | nil=>exact .nil
 | cons r t ih =>
  cases t with
  | nil=>exact .nil
  | cons q t'=>exact .cons r ih
theorem Az.reverse {xs:List V} {us:List Value} (h:Az xs us):Az xs.reverse us.reverse:=by
 induction h with
 | nil=>exact .nil
 | cons r t ih=>rw [List.reverse_cons,List.reverse_cons]; exact Az.append ih (.cons r .nil)
theorem Az.rep {xs:List V} {us:List Value} (h:Az xs us):∀ k:Nat,Az (List.replicate k xs).flatten (List.replicate k us).flatten
 | 0=>.nil
 | k + 1=>by
  rw [replicate_succ,replicate_succ,flatten_cons,flatten_cons]
  exact Az.append h (Az.rep h k)
theorem We {α:Type} (l:List α):l.eraseIdx (l.length - 1) = l.dropLast:=by
 induction l with
 | nil=>rfl
 | cons a r ih =>
  cases r with
  | nil=>rfl
  | cons b r =>
   have e:(a :: b :: r).length - 1 = ((b :: r).length - 1) + 1:=by
    have h1:(a :: b :: r).length = r.length + 2:=rfl
    have h2:(b :: r).length = r.length + 1:=rfl
    omega
   rw [e,List.eraseIdx_cons_succ,ih]
   all_goals rfl
theorem Pp (a2:List Value):∀ (k:Nat) (a1:List Value),
  foldl (λ x1 x2=>x1 ++ x2) a1.toArray (List.replicate k a2.toArray) = (a1 ++ (List.replicate k a2).flatten).toArray
 | 0,a1=>by simp
 | k + 1,a1=>by
  have e:a1.toArray ++ a2.toArray = (a1 ++ a2).toArray:=by simp
  have e2:(a1 ++ a2) ++ (List.replicate k a2).flatten = a1 ++ (List.replicate (k + 1) a2).flatten:=by
   rw [replicate_succ,flatten_cons,append_assoc]
  rw [← e2,← Pp a2 k (a1 ++ a2),← e,replicate_succ,foldl_cons]
section
variable {X:Cx} {pins:List (Addr× Obj)} {σ:St} {H:Hp} {s:Shared} {l b:Addr} {xs ys zs:List V}
theorem Inv.lset {a1 its':List Value} {n:Nat} {f:Array Value→Array Value} {t':Nat} (I:Inv X pins σ H s) (hH:H l = some (.lst xs))
  (e:s.heap.get? l = some { cls:=.type "list", data:=.seq a1.toArray n }) (hf:f a1.toArray = its'.toArray) (hv:Az ys its') (hz:ys.length≤sizeLine) :
  Inv X pins σ (upd H l (.lst ys)) { s with heap:=s.heap.update l (Obj.mapSeq f),toks:=t' }:=by
 have q:=PySem.IsL.update e f
 rw [hf] at q
 refine I.write (x:=l) (e:=l) (by rw [hH]; exact trivial) (.inl rfl) (λ b' u hb hu=>(Heap.get?_update_other s.heap (Obj.mapSeq f) (Ne.symm hb)).trans hu) ⟨_,q⟩ ?_
 exact ⟨hz,its',_,hv,q⟩
theorem Inv.lnew {a1:List Value} {t':Nat} (I:Inv X pins σ H s) (hv:Az ys a1) (hz:ys.length≤sizeLine) :
  Inv X pins σ (upd H s.heap.objs.size (.lst ys)) { s with heap:=s.heap.push { cls:=.type "list", data:=.seq a1.toArray },toks:=t' } :=
 I.laid (λ _ _ q=>Heap.get?_push_of_some _ q) (iX _) ⟨hz,a1,0,hv,Heap.get?_push_size _ rfl⟩
theorem Inv.fresh (I:Inv X pins σ H s):H s.heap.objs.size = none:=I.hok.fresh (iX _)
theorem Inv.lstM (I:Inv X pins σ H s) (hH:H l = some (.lst xs)):xs.length≤sizeLine∧∃ (a1:List Value) (n:Nat),Az xs a1∧xs.length = a1.length∧s.heap.get? l = some { cls:=.type "list", data:=.seq a1.toArray n }:=by
 obtain ⟨z,a1,n,r,e⟩:=I.hok l _ hH
 exact ⟨z,a1,n,r,r.length,e⟩
theorem Q6 {n:Nat} (h:n≤sizeLine):Builtin.List.listTooLong n = false:=by
 unfold Builtin.List.listTooLong
 exact iJ (by omega)
end
section
variable {X:Cx}
inductive O9 (x:V) (vs:List V) (H:Hp) (Q:VK):Prop
 | mk (l:Addr) (xs:List V) (y:V) (_:x = .ref l) (_:vs = [y]) (_:H l = some (.lst xs)) (_:xs.length < sizeLine) (_:Q .non (upd H l (.lst (xs ++ [y])))):O9 x vs H Q
def Aca:V→List V→Hp→VK→Prop:=λ x vs H Q=>O9 x vs H Q
theorem B6:MtM X "list.append" Aca:=by
 intro pins s σ H x vs v us Q I rx rv h
 obtain ⟨l,xs,y,rfl,rfl,hH,hz,q⟩:=h
 cases rx
 obtain ⟨u,rfl,ru⟩:=rv.one
 obtain ⟨z,a1,n,r,hl,e⟩:=I.lstM hH
 refine call_meets F.slot_list_append ⟨_,e,Z⟩ F.entry_list_append (F.args_list_append_2 _ _) (PySem.list_append l a1.toArray n u (by rw [iL]; omega)) ⟨e,?_⟩
 refine ⟨.non,_,I.lset (its':=a1 ++ [u]) hH e (by simp) (r.append (.cons ru .nil)) ?_,Z,q⟩
 rw [iB,iD]
 omega
def AcP:V→List V→Hp→VK→Prop:=λ x vs H Q=>∃ l b xs zs,x = .ref l∧vs = [.ref b]∧H l = some (.lst xs)∧H b = some (.lst zs)∧xs.length + zs.length≤sizeLine∧Q .non (upd H l (.lst (xs ++ zs)))
theorem Xp:MtM X "list.extend" AcP:=by
 intro pins s σ H x vs v us Q I rx rv h
 obtain ⟨l,b,xs,zs,rfl,rfl,hH,hB,hz,q⟩:=h
 cases rx
 obtain ⟨u,rfl,ru⟩:=rv.one
 cases ru
 obtain ⟨z,a2,n,r,hl,e⟩:=I.lstM hH
 obtain ⟨z2,a1,n2,r2,a4,e2⟩:=I.lstM hB
 have hsz:a2.toArray.size + a1.toArray.size≤sizeLine:=by rw [iL,iL]; omega
 have a3:¬ (!a2.toArray.isEmpty && Builtin.List.listTooLong (a2.toArray.size + a1.toArray.size)) = true:=by
  rw [Q6 hsz,Bool.and_false]
  exact Bool.false_ne_true
 refine call_meets F.slot_list_extend ⟨_,e,Z⟩ F.entry_list_extend (F.args_list_extend_2 _ _)
  (AutoSeq1.list_extend_list_list_0 l a2.toArray n b a1.toArray n2 a3 (by rw [iL]; omega) (by omega)) ⟨e,e2,?_⟩
 refine ⟨.non,_,I.lset (its':=a2 ++ a1) hH e (by simp) (r.append r2) ?_,Z,q⟩
 rw [iB]
 omega
def Aep:V→List V→Hp→VK→Prop:=λ x vs H Q=>∃ l xs y,x = .ref l∧vs = []∧H l = some (.lst xs)∧xs[xs.length - 1]? = some y∧Q y (upd H l (.lst xs.dropLast))
theorem K2:MtM X "list.pop" Aep:=by
 intro pins s σ H x vs v us Q I rx rv h
 obtain ⟨l,xs,y,rfl,rfl,hH,hy,q⟩:=h
 cases rx
 have a2:=rv.zero
 subst a2
 obtain ⟨z,a1,n,r,hl,e⟩:=I.lstM hH
 obtain ⟨u,hu,ru⟩:=r.get hy
 have a3:a1.toArray[a1.toArray.size - 1]? = some u:=by
  show a1.toArray[a1.length - 1]? = some u
  rw [← Array.getElem?_toList,← hl]
  exact hu
 refine call_meets F.slot_list_pop ⟨_,e,Z⟩ F.entry_list_pop (F.args_list_pop_1 _) (MeetsSeq.list_pop_last l a1.toArray n u a3 (by rw [iL]; omega)) ⟨e,?_⟩
 refine ⟨y,_,I.lset (its':=a1.dropLast) hH e ?_ r.dropLast ?_,ru,q⟩
 ·show a1.toArray.eraseIdxIfInBounds (a1.toArray.size - 1) = a1.dropLast.toArray
  rw [iL,List.eraseIdxIfInBounds_toArray,We]
 ·rw [List.length_dropLast]
  omega
def Acy:V→List V→Hp→VK→Prop:=λ x vs H Q=>∃ l xs,x = .ref l∧vs = []∧H l = some (.lst xs)∧Q .non (upd H l (.lst []))
theorem Mg:MtM X "list.clear" Acy:=by
 intro pins s σ H x vs v us Q I rx rv h
 obtain ⟨l,xs,rfl,rfl,hH,q⟩:=h
 cases rx
 have a1:=rv.zero
 subst a1
 obtain ⟨z,a2,n,r,hl,e⟩:=I.lstM hH
 refine call_meets F.slot_list_clear ⟨_,e,Z⟩ F.entry_list_clear (F.args_list_clear_1 _) (AutoSeq1.list_clear_list_0 l a2.toArray n (by rw [iL]; omega)) ⟨e,?_⟩
 exact ⟨.non,_,I.lset (its':=[]) (ys:=[]) hH e rfl .nil (jX _),Z,q⟩
inductive Xd  (x y:V) (H:Hp) (Q:VK):Prop
 | mk (l) (b) (xs) (zs) (_:x = .ref l) (_:y = .ref b) (_:H l = some (.lst xs)) (_:H b = some (.lst zs)) (_:xs.length + zs.length≤sizeLine) (_:∀ p,H p = none→Q (.ref p) (upd H p (.lst (xs ++ zs)))):Xd  x y H Q
def Aev:R2:=λ x y H Q=>Xd  x y H Q
theorem Fw:OpR X (binaryOp .Add) Aev:=by
 intro pins s σ H x y v u Q I rx ry h
 obtain ⟨l,b,xs,zs,rfl,rfl,hH,hB,hz,q⟩:=h
 cases rx
 cases ry
 obtain ⟨z,a2,n,r,hl,e⟩:=I.lstM hH
 obtain ⟨z2,a1,n2,r2,a3,e2⟩:=I.lstM hB
 refine PySem.P.add_list e e2 ?_ (by rw [iL,iL]; omega)
 have ea:a2.toArray ++ a1.toArray = (a2 ++ a1).toArray:=by simp
 rw [ea]
 exact ⟨.ref _,_,I.lnew (t':=s.toks) (r.append r2) (by rw [iB]; omega),Z,q _ I.fresh⟩
def Ae0:R2:=λ x y H Q=>∃ l k xs,x = .ref l∧y = .int k∧H l = some (.lst xs)∧-(2 ^ 63)≤k∧k < 2 ^ 63∧xs.length * k.toNat≤sizeLine ∧
 ∀ p,H p = none→Q (.ref p) (upd H p (.lst (List.replicate k.toNat xs).flatten))
theorem Abg {α:Type} (xs:List α) (k:Nat):(List.replicate k xs).flatten.length = k * xs.length:=by
 induction k with
 | zero=>simp
 | succ k ih=>rw [replicate_succ,flatten_cons,iB,ih,Nat.succ_mul,Nat.add_comm]
theorem Ac7:OpR X (binaryOp .Mult) Ae0:=by
 intro pins s σ H x y v u Q I rx ry h
 obtain ⟨l,k,xs,rfl,rfl,hH,h1,h2,hz,q⟩:=h
 cases rx
 obtain ⟨t,rfl⟩:=ry
 obtain ⟨z,a1,n,r,hl,e⟩:=I.lstM hH
 have a5:a1.toArray.size * k.toNat≤sizeLine:=by rw [iL,← hl]; exact hz
 have a6:¬ a1.toArray.size * k.toNat > (2 ^ 63 - 1) / 8:=by
  have:(sizeLine:Nat)≤(2 ^ 63 - 1) / 8:=by decide
  omega
 have a3:¬ (!Builtin.List.listFitsIndex k) = true:=by
  rw [fitsIndex_both h1 h2]
  exact Bool.false_ne_true
 have a2:¬ Builtin.List.listTooLong (a1.toArray.size * k.toNat) = true:=by
  rw [Q6 a5]
  exact Bool.false_ne_true
 have a4:foldl (λ x1 x2=>x1 ++ x2) #[] (List.replicate (if a1.toArray.isEmpty = true then 0 else k.toNat) a1.toArray) = (List.replicate k.toNat a1).flatten.toArray:=by
  have f0:∀ m:Nat,foldl (λ x1 x2=>x1 ++ x2) #[] (List.replicate m a1.toArray) = (List.replicate m a1).flatten.toArray:=λ m=>by
   have:=Pp a1 m []
   rw [nil_append] at this
   exact this
  rw [f0]
  cases a1 with
  | nil=>simp
  | cons a r'=>rw [if_neg (by simp)]
 refine wpAny_binaryOp_repeat_ref (T:= "list") (U:= "int") (by decide) ⟨_,e,Z⟩ (λ s'=>typeIs_int s' k t) noFill_list_mul F.fills_int_mul F.slot_int_rmul repeat_list F.slot_int_index.lookup
  (call_meets F.slot_int_rmul (typeIs_int s k t) F.entry_int_rmul (F.args_int_rmul_2 _ _) (int___rmul___int_list k t l a1.toArray n)
   ⟨e,Z,⟨_,e,Z⟩,call_meets F.slot_list_mul ⟨_,e,Z⟩ F.entry_list_mul (F.args_list_mul_2 _ _) (AutoListH.list___mul___list_int_3 l a1.toArray n k t a3 a6 a2) ⟨e,?_⟩⟩)
 rw [a4]
 exact ⟨.ref _,_,I.lnew (t':=s.toks) (r.rep k.toNat) (by rw [Abg,Nat.mul_comm]; exact hz),Z,q _ I.fresh⟩
end
section
variable {prog:Program} {w:World} {A:Around} {E:Value→Shared→Prop} {s:Shared}
end
section
variable {X:Cx}
end
end L2
namespace Att
open PySem PySem.W PySem.Calls PyProof.Rows
theorem Na {P:Params} {h:Heap}:∀ (ns:List Int) (vs:List Value),WellAll P h vs (ns.map WData.int)→IntsAre vs ns:=by
 intro ns
 induction ns with
 | nil =>
  intro vs w
  rw [map_nil] at w
  cases w
  exact .nil
 | cons n ns ih =>
  intro vs w
  rw [map_cons] at w
  cases w with
  | cons a b =>
   cases a
   exact .cons _ _ (ih _ b)
theorem Yd {l:OpenLaw} {n:Nat} (hn:l.most = some n) {P:Params} {h:Heap} {args:List WData} {a2:List Value}
  (a1:l.row.toRowW.claim.pre args = true) (a5:WellAll P h a2 args) :
  ∃ a vs ns,a2 = [Value.ref a]∧args = [WData.list (ns.map WData.int)]∧h.get? a = some { cls:=.type "list", data:=.seq vs.toArray }∧IntsAre vs ns∧ns.length≤n:=by
 have a6:WShape.hasAll [] args [.list .int] = true:=(pre_splitW a1).1
 have hc:l.pre.holds [] { args:=args } = true:=(pre_splitW a1).2
 obtain ⟨d,r,rfl,h1,h2⟩:=hasAllW_cons a6
 obtain rfl:=hasAllW_nil h2
 obtain ⟨xs,rfl,h3⟩:=hasW_list h1
 obtain ⟨ns,rfl⟩:=items_int h3
 have a3:ns.length≤n:=by
  unfold OpenLaw.pre at hc
  have h4:(WTm.not (.lt (.lit (.int (n:Int))) (.len (.arg 0)))).holds [] { args:=[.list (ns.map .int)] } = true:=by
   have h4:=(holds_andW hc).1
   rw [hn] at h4
   exact h4
  have h5:=condW_of h4 (w_not (w_lt w_lit (w_len_list (w_arg rfl))))
  rw [length_map] at h5
  refine Nat.le_of_not_lt λ q=>?_
  have q':(n:Int) < ((ns.length:Nat):Int):=by omega
  first
   | (rw [decide_eq_true q'] at h5; exact absurd h5 (by decide))
   | (simp at h5; omega)
 cases a5 with
 | cons w1 w2 =>
  cases w2
  cases w1 with
  | list ho a4=>exact ⟨_,_,ns,rfl,rfl,ho,Na ns _ a4,a3⟩
theorem X7 (l:OpenLaw) (args:List WData):l.row.toRowW.claim.post args (.bool true) args = true :=
 postW_of (r:=l.row.toRowW) (X:=(true == true))
  (show WShape.has [] (.bool true) .bool = true by first | rfl | decide | simp [WShape.has,WShape.arms,WShape.armsAll])
  (show (WTm.eq .res (.lit (.bool true))).value [] { args:=args,res:=some (.bool true),after:=args } = some (.bool (true == true)) from w_eq_bool (w_res rfl) w_lit) rfl
theorem Adv {l:OpenLaw} {n:Nat} {q:Program} {a2:List Str} {XP:(Str→Option Value)→Heap→Prop} {YP:World→Heap→Prop} {d:DefRec}
  (hn:l.most = some n) (b1:d.params.defaults = [])
  (call:∀ (w:World) (s₀ a1:Shared) (mg mb:Str→Option Value) (fa:Addr) (o:Obj) (pm cd doc:Value) (a:Addr) (vs:List Value) (ns:List Int),
   Ground q a2 [] XP w s₀ mg mb a1.heap→YP w a1.heap →
   a1.heap.get? fa = some o→o.data = .func (docDef d.name d.params d.body d.scope pm cd doc)→a1.heap.CodeRec cd d.name→mg d.name = some (.ref fa) →
   a1.heap.get? a = some { cls:=.type "list", data:=.seq vs.toArray }→IntsAre vs ns→ns.length≤n→a1.gens = #[] →
   codeAny (model l.prog w) callerA (.call (.ref fa) ⟨[.ref a],[]⟩) (λ r s'=>r = .ok (.ret (.bool true))∧OldK a1.heap s'.heap∧s'.os = a1.os∧AllBare s'.gens) a1) :
  WalkO q a2 XP YP l.row.toRowW d [] (λ f vs=>PySem.call f vs):=by
 intro w s₀ a1 mg mb G Y fa o pm cd doc dV kV ho hd a7 hD a9 hg args b2 as a6 b3 b4 a8 b5
 obtain rfl:dV = .none:=Dflts.none hD b1
 obtain rfl:kV = .none:=Dflts.noKw hD
 obtain ⟨a,vs,ns,rfl,rfl,a5,a3,a4⟩:=Yd hn a6 a8
 refine enter_call (codeAny_mono (call w s₀ a1 mg mb fa o pm cd doc a vs ns G Y ho (fd_plain hd) a7 a9 a5 a3 a4 hg) λ r s' hq=>?_)
 obtain ⟨rfl,h2,h3,h4⟩:=hq
 exact ⟨.inl ⟨.bool true,.bool true,[],Z,λ _=>rfl,.bool true,X7 l _,λ _=>⟨Pairwise.nil,λ _ hm=>(nomatch hm)⟩⟩,h2,h3,h4⟩
section
variable {prog:Program} {w:World} {A:Around} {E:Value→Shared→Prop} {s:Shared} {K:Frag}
def AfA (h:Heap) (L d:Addr):List (Addr× Obj):=(List.range h.objs.size).filterMap λ a=>if a = L∨a = d then none else (h.get? a).map λ o=>(a,o)
end
end Att
namespace L2
open PySem PySem.Spec PyProof.Rows
theorem Io:∀ {vs:List Value} {ns:List Int},IntsAre vs ns→Az (ns.map V.int) vs
 | _,_,.nil=>.nil
 | _,_,.cons n t h=>.cons ⟨t,rfl⟩ (Io h)
def AaF (H:Hp):Prop:=∀ b,H b = none∨∃ o xs,H b = some (.frz o (.lst xs))
theorem Aaz {P:Program} {w:World} {K:PySem.W.Frag} {mg mb:Str→Option Value} {CX:CXT} {k:Nat} {fa a:Addr} {fd:FuncData} {x:Str} {sp:Sp} {a1:Shared} {vs:List Value} {ns:List Int}
  (KX:K.In a1.heap) (a7:a1.heap.Ns mainGlobals mg) (hb:a1.heap.Ns builtinsNs mb) (b5:∀ x:Str,x≠ "__name__" → mb x = bootBuiltins x) (b1:a1.heap.NoLimit) (hg:a1.gens = #[])
  (ha:a1.heap.get? a = some { cls:=.type "list", data:=.seq vs.toArray }) (hi:IntsAre vs ns) (hl:ns.length≤sizeLine) (hr:Bz k callerA)
  (F:∀ base:Heap,K.In base→base.Ns mainGlobals mg→Bl P w K mg base CX k fa fd [x] sp) (a5:∀ (s:Shared) (u:Value),BindsTo s fd ⟨[u],[]⟩ [(x,u)])
  (b3:∀ H:Hp,AaF H→SqL K H a (ns.map V.int)→sp [.ref a] H (λ v _=>v = .bl true) λ _ _ _=>False)
  (b2:∀ H e s',CX [] H a1 (λ _ _ _=>False) e s'→False) :
  codeAny (model P w) callerA (.call (.ref fa) ⟨[.ref a],[]⟩) (λ r s'=>r = .ok (.ret (.bool true))∧OldK a1.heap s'.heap∧s'.os = a1.os∧AllBare s'.gens) a1:=by
 have rv:=Io hi
 have a8:=hi.length
 have a4:∀ H:Hp,AaF H→SqL K H a (ns.map V.int)→HOk P w H a1.heap→(∀ b,H b≠none→b = a)→(H a≠none→K.lookup a = none) →
   codeAny (model P w) callerA (.call (.ref fa) ⟨[.ref a],[]⟩) (λ r s'=>r = .ok (.ret (.bool true))∧OldK a1.heap s'.heap∧s'.os = a1.os∧AllBare s'.gens) a1:=by
  intro H hO hS hok hA hK
  have a2:∀ {b:Addr} {o:Obj},a1.heap.get? b = some o→H b = none→(J8 a1.heap H).get? b = some o:=λ e n=>Aak e n
  have b4:∀ {b:Addr} {o:Obj} {es:Array DictEntry} {ep:Nat},a1.heap.get? b = some o→o.data = .dict es ep→H b = none:=λ {b o es ep} e d=>by
   cases q:H b with
   | none=>rfl
   | some u =>
    have e':b = a:=hA b (by rw [q]; simp)
    subst e'
    rw [ha] at e; cases e
    have d':Data.seq vs.toArray _ = Data.dict es ep:=d
    cases d'
  have a3:∀ {b:Addr} {m:Str→Option Value},a1.heap.Ns b m→(J8 a1.heap H).Ns b m:=λ {b m} ⟨o,es,ep,e,d,r⟩=>⟨o,es,ep,a2 e (b4 e d),d,r⟩
  have a6:K.In (J8 a1.heap H):=λ b o e=>a2 (KX b o e) (by
   cases q:H b with
   | none=>rfl
   | some u =>
    have e':b = a:=hA b (by rw [q]; simp)
    subst e'
    rw [hK (by rw [q]; simp)] at e; cases e)
  have hM:Mod K mg (J8 a1.heap H):=⟨a6,a3 a7,⟨mb,a3 hb,b5⟩,let ⟨mc,h1,h2⟩:=b1; ⟨mc,a3 h1,h2⟩⟩
  have e0:Ml P w K mg (J8 a1.heap H) callerA [] a1 H:=⟨Z,hM,λ b o e=>Abm e,le_of_eq (X0 _ _),trivial,λ b hb=>absurd (show b∈([]:List Addr) from hb) (by simp),hok,.of_eq hg⟩
  refine codeAny_mono ((F _ a6 (a3 a7)).run callerA [] a1 H ⟨[.ref a],[]⟩ [.ref a] [.ref a] _ _ hr e0 (a5 a1 (.ref a)) (.cons rfl .nil) (b3 H hO hS)) λ r s' h=>?_
  cases r with
  | error e=>exact (b2 H e s' h).elim
  | ok fl =>
   cases fl with
   | next=>exact False.elim h
   | brk=>exact False.elim h
   | cont=>exact False.elim h
   | ret u =>
    obtain ⟨v,H',os,bare,un,a9,r',q⟩:=h
    have q':v = .bl true:=q
    subst q'
    obtain rfl:u = Value.bool true:=r'
    refine ⟨Z,OldK.of_keep λ b o e=>?_,os,bare⟩
    cases q:H b with
    | none=>exact un.keep b o e q (by intro z; exact absurd (show b∈([]:List Addr) from z) (by simp)) (by simp)
    | some u =>
     rcases hO b with z | ⟨ob,xs,z⟩
     ·rw [q] at z; cases z
     ·have z2:=un.frzs b ob _ z
      obtain ⟨e1,_⟩:=hok b _ z
      obtain ⟨e2,_⟩:=a9 b _ z2
      rw [e] at e1; cases e1
      exact e2
 cases hk:K.lookup a with
 | some o =>
  have e:=KX a o hk
  rw [ha] at e
  cases e
  refine a4 (λ _=>none) (λ _=>.inl rfl) (.inr ⟨_,vs.toArray,_,hk,Z,Z,Z,by rw [iL,a8]; exact hl,by simpa using rv⟩) (λ b u z=>by have z':(none:Option HO) = some u:=z; cases z') (λ b z=>absurd rfl z) λ z=>absurd rfl z
 | none =>
  refine a4 (λ b=>if b = a then some (.frz { cls:=.type "list", data:=.seq vs.toArray } (.lst (ns.map V.int))) else none) (λ b=>?_) (.inl (.inr ⟨{ cls:=.type "list", data:=.seq vs.toArray },if_pos rfl⟩)) (λ b u z=>?_) (λ b z=>?_) λ _=>hk
  ·by_cases hb:b = a
   ·exact .inr ⟨_,_,if_pos hb⟩
   ·exact .inl (if_neg hb)
  ·by_cases hb:b = a
   ·have z':=(if_pos hb).symm.trans z
    cases z'
    subst hb
    exact ⟨ha,by rw [hZ]; exact hl,vs,_,rv,ha⟩
   ·have z':=(if_neg hb).symm.trans z
    cases z'
  ·by_cases hb:b = a
   ·exact hb
   ·exact absurd (if_neg hb) z
end L2
namespace L2
open PySem PySem.Spec PyProof.Rows
abbrev KOf {K:PySem.W.Frag} {h:Heap} (_:K.In h):PySem.W.Frag:=K
theorem Ae9 {l:PySem.W.OpenLaw} {n k:Nat} {q:Program} {a3:List Str} {XP:(Str→Option Value)→Heap→Prop} {YP:World→Heap→Prop} {d:DefRec} {K:Params→PySem.W.Frag} {CX:World→CXT} {sp:World→Sp} {x:Str}
  (hn:l.most = some n) (b1:n≤sizeLine) (a9:d.params.defaults = []) (hr:Bz k callerA)
  (hY:∀ (w:World) (h:Heap),YP w h→(K w.params).In h)
  (F:∀ (w:World) (mg:Str→Option Value) (fa:Addr) (h:Heap),(K w.params).In h→h.Ns mainGlobals mg→mg d.name = some (.ref fa) →
   ∃ fd:FuncData,(∀ (s:Shared) (u:Value),BindsTo s fd ⟨[u],[]⟩ [(x,u)]) ∧
    ∀ base:Heap,(K w.params).In base→base.Ns mainGlobals mg→Bl l.prog w (K w.params) mg base (CX w) k fa fd [x] (sp w))
  (a7:∀ (w:World) (H:Hp) (a:Addr) (ns:List Int),ns.length≤n→AaF H→SqL (K w.params) H a (ns.map V.int)→sp w [.ref a] H (λ v _=>v = .bl true) λ _ _ _=>False)
  (a6:∀ (w:World) (H:Hp) (s:Shared) (e:Value) (s':Shared),CX w [] H s (λ _ _ _=>False) e s'→False) :
  PySem.W.WalkO q a3 XP YP l.row.toRowW d [] (λ f vs=>PySem.call f vs):=by
 refine Att.Adv hn a9 λ w s₀ a4 mg mb fa o pm cd doc a vs ns G Y ho hd b2 a8 a5 a2 a1 hg=>?_
 have KX:=hY w _ Y
 obtain ⟨fd,hb,hF⟩:=F w mg fa _ KX G.T.g a8
 exact Aaz KX G.T.g G.T.b G.T.builtins G.T.nolimit hg a5 a2 (iW a1 b1) hr hF hb (λ H hO hS=>a7 w H a ns a1 hO hS) λ H e s'=>a6 w H a4 e s'
end L2
namespace L2
open PySem PySem.Spec PyProof.Rows
def B8 (s:Stmt) (j:Nat):Stmt:=match s with
 | .ClassDef _ _ _ body _ _ _ _ _ _ _=>body.getD j (.Pass ⟨0,0,0,0⟩)
 | _=>.Pass ⟨0,0,0,0⟩
def Ce (s:Stmt):Arguments:=match s with
 | .FunctionDef _ a _ _ _ _ _ _ _ _=>a
 | _=>{ posonlyargs:=[],args:=[],vararg:=none,kwonlyargs:=[],kw_defaults:=[],kwarg:=none,defaults:=[] }
def B0 (s:Stmt):List Stmt:=match s with
 | .FunctionDef _ _ b _ _ _ _ _ _ _=>b
 | _=>[]
def Ag (s:Stmt):Scope:=match s with
 | .FunctionDef _ _ _ _ _ _ sc _ _ _=>sc
 | _=>{ kind:=.function,names:=[],isGenerator:=false,isCoroutine:=false }
abbrev CX0:CXT:=λ _ _ _ _ _ _=>False
abbrev E0:XK:=λ _ _ _=>False
theorem Ai {X:Cx}:Ek CX0 X E0:=λ _ _ _ _ _ _ _ h=>h.elim
structure Fun (K:PySem.W.Frag) (x qual:Str) (st:Stmt) (f:Addr) (fd:FuncData):Prop where
 ex:∃ (oc:Value) (od:Option Addr) (kV doc pm:Value) (an:Option Addr) (cdv ct:Value) (osl:Array (Option Value)),
  fd = fnOf x qual (Ce st) (B0 st) (Ag st) .none kV doc pm an cdv ct∧K.lookup f = some ⟨oc,od,.func fd,osl⟩∧codeIn K cdv qual = true
 kp:keepIn K (.ref f) = true
section
variable {P:Program} {w:World} {K:PySem.W.Frag} {mg:Str→Option Value} {base:Heap}
theorem Fun.ok {x qual:Str} {st:Stmt} {f:Addr} {fd:FuncData} {N ps:List Str} {k:Nat} {sp:Sp} (F:Fun K x qual st f fd) (S:As N ps (Ag st)) (len:∀ vs H Q E,sp vs H Q E→vs.length = ps.length)
  (a1:∀ (cdv:Value) (A:Around) (outer:List Env) (s:Shared) (H:Hp) (vs:List V) (Q:VK) (E:XK),Bz k (A.deeper (envOfC qual (Ag st) s.heap.objs.size f cdv))→sp vs H Q E →
   ∃ t,PSs (K4 CX0 P w K mg base N qual (Ag st) f cdv A outer s H E).nox (B0 st) t∧t { nx:=λ _ H'=>Q .non H',rt:=Q } (start N vs) H):Bl P w K mg base CX0 (k + 1) f fd ps sp:=by
 obtain ⟨oc,od,kV,doc,pm,an,cdv,ct,osl,rfl,lk,a2⟩:=F.ex
 refine Vg lk a2 S len λ A outer s H vs Q E hr a3=>?_
 obtain ⟨t,h,q⟩:=a1 cdv A outer s H vs Q E hr a3
 exact ⟨t,h.nox,q⟩
theorem Fun.binds {x qual:Str} {st:Stmt} {f:Addr} {fd:FuncData} {ps:List Str} (F:Fun K x qual st f fd)
  (h:∀ (kV doc pm:Value) (an:Option Addr) (cdv ct:Value) (us:List Value),us.length = ps.length→bindArgs (fnOf x qual (Ce st) (B0 st) (Ag st) .none kV doc pm an cdv ct) ⟨us,[]⟩ = pure (ps.zip us)):Bi K fd ps []:=by
 obtain ⟨oc,od,kV,doc,pm,an,cdv,ct,osl,rfl,lk,a1⟩:=F.ex
 exact .all (h kV doc pm an cdv ct)
theorem Bq {x qual:Str} {st:Stmt} {f:Addr} {oc:Value} {od an:Option Addr} {osl:Array (Option Value)} {kV doc pm cdv ct:Value} (l:K.lookup f = some ⟨oc,od,.func (fnOf x qual (Ce st) (B0 st) (Ag st) .none kV doc pm an cdv ct),osl⟩)
  (c:codeIn K cdv qual = true) (k:keepIn K (.ref f) = true):Fun K x qual st f (fnOf x qual (Ce st) (B0 st) (Ag st) .none kV doc pm an cdv ct):=⟨⟨oc,od,kV,doc,pm,an,cdv,ct,osl,Z,l,c⟩,k⟩
end
theorem AbB {A:Around} {k:Nat} (hr:Bz k A):A.units + 1 < cLine:=iZ (add_le_add_left (by decide:1≤64) _) hr.units
theorem Ex {n:Nat} (h:n≤1000):n < sizeLine:=iZ h (by decide)
section
variable {X:Cx}
theorem pv (i:Nat) {x:Str} {pos:Pos} (hN:X.N[i]? = some x:=by rfl) (hv:Vis X.env.scope x:=by first | exact Or.inl rfl | exact Or.inr (Or.inl rfl) | exact Or.inr (Or.inr rfl)) (hd:(x == ("__debug__" : Str)) = false:=by decide)
  (a1:(x == ("__classdict__" : Str)) = false:=by decide):PE X (.Name x pos) (Bh i):=Acp hN hv hd a1
end
theorem Eb {A B:Prop} (h:B):if false = true then A else B:=by
 rw [if_neg Bool.false_ne_true]
 exact h
theorem Dv {A B:Prop} (h:A):if true = true then A else B:=by
 rw [if_pos rfl]
 exact h
theorem Ay {c A B:Prop} [Decidable c] (h1:c→A) (h2:¬ c→B):if c then A else B:=by
 by_cases h:c
 ·rw [if_pos h]
  exact h1 h
 ·rw [if_neg h]
  exact h2 h
def Same (H H':Hp):Prop:=∀ b o,H b = some o→H' b = some o
theorem Same.refl (H:Hp):Same H H:=λ _ _ h=>h
theorem Same.trans {H H1 H2:Hp} (a:Same H H1) (b:Same H1 H2):Same H H2:=λ c o h=>b c o (a c o h)
theorem Same.free {H H':Hp} (e:Same H H') {l:Addr} (h:H' l = Option.none):H l = Option.none:=by
 cases q:H l with
 | none=>rfl
 | some o =>
  rw [e l o q] at h
  cases h
theorem Same.seq {K:PySem.W.Frag} {H H':Hp} {a:Addr} {xs:List V} (e:Same H H') (h:SqL K H a xs):SqL K H' a xs:=by
 rcases h with (h | ⟨o,h⟩) | h
 ·exact .inl (.inl (e _ _ h))
 ·exact .inl (.inr ⟨o,e _ _ h⟩)
 ·exact .inr h
end L2
section
set_option Elab.async false
set_option linter.all false
set_option maxRecDepth 100000
set_option maxHeartbeats 64000000
namespace L2
open PySem PySem.Spec PyProof.Rows
theorem Yp {prog:Program} {w:World} {A:Around} {R:Result→Shared→Prop} {s:Shared} {elt a1 iter:Expr} {ifs:List Expr} {scope:Scope} {pos:Pos} {it a9:Value} {env:Env} (I:Nat→Shared→Prop)
  (b1:∀ n s,I n s→wpAny (model prog w) A (pyNext it) (λ r a2=>match r with
   | none=>R (.ok .next) a2
   | some v=>wpAny (model prog w) A (letOwnedTupleGo a1 it v) (λ _ s₀=>wpAny (model prog w) A (assign a1 env v) (λ _ a6 =>
     wpAny (model prog w) A (forIn ifs true λ c r=>if r = true then do let ok ← isTrue c env (eval c env); pure (ForInStep.yield ok) else pure (ForInStep.yield r)) (λ ok a3 =>
      if ok = true then wpAny (model prog w) A (eval elt env) (λ x a7 =>
       wpAny (model prog w) A (call (.builtin "list.append") [a9,x]) (λ _ a4=>∃ m,m < n∧I m a4) (λ _ _=>False) a7) (λ _ _=>False) a3
      else ∃ m,m < n∧I m a3) (λ _ _=>False) a6) (λ _ _=>False) s₀) (λ _ _=>False) a2) (λ _ _=>False) s)
  (n:Nat) (h:I n s) :
  codeAny (model prog w) A (.compLoop (.ListComp elt [⟨a1,iter,ifs,0⟩] scope pos) 0 it a9 env) R s:=by
 refine codeAny_loop rfl I (λ n s hI=>?_) n h
 show wpAny _ A ((compTurn (.ListComp elt [⟨a1,iter,ifs,0⟩] scope pos) 0 it a9 env).onRaise (λ x=>do noteFrame x env; theTreesLotGoes x)) _ _ s
 refine wpAny_noted ?_
 rw [compTurn_list]
 refine hJ (wpAny_standAt (hJ (jU (b1 n s hI) (λ r a2 a8=>?_) λ _ _ h'=>h'.elim)))
 cases r with
 | none=>exact hW a8
 | some v =>
  refine hJ (jU a8 (λ _ s₀ h₀=>?_) λ _ _ h'=>h'.elim)
  refine hJ (jU h₀ (λ _ a6 b3=>hJ (jU b3 (λ ok a3 a5=>?_) λ _ _ h'=>h'.elim)) λ _ _ h'=>h'.elim)
  cases ok with
  | false=>exact hW ⟨rfl,a5⟩
  | true =>
   exact hJ (hJ (jU a5 (λ x a7 b2=>hJ (jU b2 (λ _ a4 b4=>hW (hW ⟨Z,b4⟩)) λ _ _ h'=>h'.elim)) λ _ _ h'=>h'.elim))
theorem Mt {scope:Scope} {env:Env} (hf:∀ y∈scope.names,y.2 = .free→∃ c,env.cells.lookup y.1 = some c) :
  ∃ cl,closureFor scope env = pure cl∧(∀ x c,cl.lookup x = some c→env.cells.lookup x = some c)∧∀ x,(x,NameKind.free)∈scope.names→∃ c,cl.lookup x = some c:=by
 have go:∀ (l:List (Str× NameKind)) (a1:List (Str× Addr)),(∀ y∈l,y.2 = .free→∃ c,env.cells.lookup y.1 = some c)→(∀ x c,a1.lookup x = some c→env.cells.lookup x = some c) →
   ∃ cl:List (Str× Addr),(forIn l a1 (λ x (r:List (Str× Addr))=>match x with | (name,kind)=>if (kind == NameKind.free) = true then do let a ← cellOf env name; pure (ForInStep.yield ((name,a) :: r)) else pure (ForInStep.yield r)):Sem (List (Str× Addr))) = pure cl ∧
    (∀ x c,cl.lookup x = some c→env.cells.lookup x = some c)∧(∀ x,(x,NameKind.free)∈l→∃ c,cl.lookup x = some c)∧∀ x c,a1.lookup x = some c→∃ c',cl.lookup x = some c':=by
  intro l
  induction l with
  | nil=>intro a1 _ ha; exact ⟨a1,rfl,ha,λ x h=>absurd h (by simp),λ x c h=>⟨c,h⟩⟩
  | cons y r ih =>
   intro a1 hl ha
   obtain ⟨name,kind⟩:=y
   by_cases hk:kind = .free
   ·subst hk
    obtain ⟨c,hc⟩:=hl (name,.free) iE rfl
    have a2:∀ x c',((name,c) :: a1).lookup x = some c'→env.cells.lookup x = some c':=λ x c' h=>by
     rw [jT] at h
     cases e:x == name with
     | true=>rw [e] at h; cases h; rw [eq_of_beq e]; exact hc
     | false=>rw [e] at h; exact ha x c' h
    obtain ⟨cl,e,h1,h2,h3⟩:=ih ((name,c) :: a1) (λ y hy=>hl y (iF _ hy)) a2
    refine ⟨cl,?_,h1,λ x hx=>?_,λ x c' h=>?_⟩
    ·rw [List.forIn_cons,← e]
     have ec:cellOf env name = pure c:=by unfold cellOf; rw [hc]
     show (if (NameKind.free == NameKind.free) = true then _ else _) >>= _ = _
     rw [if_pos (by rfl),ec]
     rfl
    ·rcases jK.mp hx with z | z
     ·cases z
      exact h3 name c (by rw [jT]; simp)
     ·exact h2 x z
    ·cases e:x == name with
     | true=>exact h3 x c (by rw [jT,e])
     | false=>exact h3 x c' (by rw [jT,e]; exact h)
   ·have hb:(kind == NameKind.free) = false:=by simpa using hk
    obtain ⟨cl,e,h1,h2,h3⟩:=ih a1 (λ y hy=>hl y (iF _ hy)) ha
    refine ⟨cl,?_,h1,λ x hx=>?_,h3⟩
    ·rw [List.forIn_cons,← e]
     show (if (kind == NameKind.free) = true then _ else _) >>= _ = _
     rw [if_neg (by rw [hb]; decide)]
     rfl
    ·rcases jK.mp hx with z | z
     ·cases z; exact absurd rfl hk
     ·exact h2 x z
 obtain ⟨cl,e,h1,h2,_⟩:=go scope.names [] hf (λ x c h=>by simp at h)
 refine ⟨cl,?_,h1,h2⟩
 unfold closureFor
 show (forIn scope.names [] _ >>= λ cs=>pure cs) = _
 refine Eq.trans (congrArg (λ t=>t >>= λ cs=>pure cs) e) ?_
 rfl
theorem Gc {env:Env}:∀ {names:List (Str× NameKind)} {x:Str} {k':NameKind},
  (names.map λ (n,k)=>if (k == NameKind.free && env.scope.kind == .function && env.kindOf n == some .cell) then (n,NameKind.cell) else (n,k)).lookup x = some k' →
  ∃ k,names.lookup x = some k∧(k' = k∨(k = .free∧k' = .cell))
 | [],_,_,h=>by simp at h
 | (n,k) :: r,x,k',h=>by
  have ih:=@Gc env r x k'
  have h:List.lookup x ((if (k == NameKind.free && env.scope.kind == .function && env.kindOf n == some .cell) = true then (n,NameKind.cell) else (n,k)) :: r.map λ (n,k)=>if (k == NameKind.free && env.scope.kind == .function && env.kindOf n == some .cell) then (n,NameKind.cell) else (n,k)) = some k':=h
  by_cases hc:(k == NameKind.free && env.scope.kind == .function && env.kindOf n == some .cell) = true
  ·rw [if_pos hc,jT] at h
   rw [jT]
   cases e:x == n with
   | true =>
    rw [e] at h
    cases h
    refine ⟨k,Z,.inr ⟨?_,Z⟩⟩
    simp only [Bool.and_eq_true,beq_iff_eq] at hc
    exact hc.1.1
   | false=>rw [e] at h; exact ih h
  ·rw [if_neg hc,jT] at h
   rw [jT]
   cases e:x == n with
   | true=>rw [e] at h; cases h; exact ⟨k,rfl,.inl rfl⟩
   | false=>rw [e] at h; exact ih h
def Ea (X:Cx) (s2:Shared) (H2:Hp) (fp:List Addr) (N:List Str) (scope:Scope) (cl:List (Str× Addr)) (C:Addr):Cx where
 prog:=X.prog
 w:=X.w
 K:=X.K
 mg:=X.mg
 base:=X.base
 A:=X.A
 N:=N
 s₀:=s2
 H₀:=H2
 env:=compEnvC scope cl C X.env
 outer:=X.stack
 stack:=X.stack
 ex:=fp
 fn:=λ _=>false
 calm:=X.calm
 pn:=[]
 xe:=λ _ _=>False
def Nc (k:Nat) (g:TG):Prop:=∀ x σ H Q,g x σ H Q→g x σ H λ σ2 H2=>(∀ i,k≤i→σ2[i]? = σ[i]?)∧Q σ2 H2
theorem Bf {k i:Nat} (h:i < k):Nc k (Bo i):=λ x σ H Q q=>⟨λ j hj=>by rw [jN (by omega)],q⟩
theorem M7 {K:PySem.W.Frag} {k i j n:Nat} (hi:i < k) (hj:j < k):Nc k (Wu K n (Ka (Bo i) (Ka (Bo j) Vz))):=by
 rintro x σ H Q ⟨a,xs,e1,hq,hl,v,r,e2,v',r',e3,e4,q⟩
 exact ⟨a,xs,e1,hq,hl,v,r,e2,v',r',e3,e4,λ l hl=>by rw [jN (by omega),jN (by omega)],q⟩
def Q9 (X:Cx) (ifs:List Expr) (t:TT):Prop :=
 ∀ (pins:List (Addr× Obj)) (s:Shared) (σ:St) (H:Hp) (Q:Bool→Hp→Prop),Inv X pins σ H s→t σ H Q →
  wpAny (model X.prog X.w) X.A (forIn ifs true λ c r=>if r = true then do let ok ← isTrue c X.env (eval c X.env); pure (ForInStep.yield ok) else pure (ForInStep.yield r)) (TP X pins σ Q) X.xe s
def Cn:TT:=λ _ H Q=>Q true H
theorem Cs {X:Cx}:Q9 X [] Cn:=λ pins s σ H Q I h=>wpAny_tests_nil ⟨H,I,h⟩
theorem Dm {X:Cx} {c:Expr} {t:TT} (h:PT X c t):Q9 X [c] t:=λ pins s σ H Q I q=>wpAny_tests_one (h pins s σ H Q I q)
def Js (k:Nat) (js:List Nat) (σ:St):St:=List.replicate k none ++ js.map λ j=>(σ[j]?).join
def AbF (k:Nat) (js:List Nat) (wi:TI) (g:TG) (tc:TT) (te:TE):TE:=λ σ H Q=>wi σ H λ J H1=>∃ W:Nat→Nat→List V→Hp→Prop,(∃ m,W 0 m [] H1)∧∀ i m ys H,W i m ys H →
 (J.stop i H∧∀ D,H D = none→Q (.ref D) (upd H D (.lst ys))) ∨
 (J.go i H∧ys.length < sizeLine∧∀ x H',J.yld i H x H'→g x (Js k js σ) H' λ σ2 H2=>tc σ2 H2 λ b H3=>if b = true then te σ2 H3 λ y H4=>∃ m',m' < m∧W (i + 1) m' (ys ++ [y]) H4 else ∃ m',m' < m∧W (i + 1) m' ys H3)
theorem Un.later {P:Program} {w:World} {fs ex:List Addr} {H H1 H2:Hp} {h h1 h2:Heap} (u:Un fs ex H H1 h h1) (ok:HOk P w H h) (ag:∀ b,b < h.objs.size→H2 b = H1 b) (k:∀ b o,b < h.objs.size→h1.get? b = some o→h2.get? b = some o):Un fs ex H H2 h h2 where
 keep:=λ b o e n hb hx=>k b o (Heap.lt_size e) (u.keep b o e n hb hx)
 slot:=λ b o e n hb hx=>let ⟨sl,q⟩:=u.slot b o e n hb hx; ⟨sl,k b _ (Heap.lt_size e) q⟩
 free:=λ b o e n hx=>by rw [ag b (Heap.lt_size e)]; exact u.free b o e n hx
 there:=λ b o e hx=>let ⟨o',q⟩:=u.there b o e hx; ⟨o',k b _ (Heap.lt_size e) q⟩
 tups:=λ b xs e=>by rw [ag b (ok.lt e)]; exact u.tups b xs e
 frzs:=λ b o x e=>by rw [ag b (ok.lt e)]; exact u.frzs b o x e
 tbls:=λ b ps e=>by rw [ag b (ok.lt e)]; exact u.tbls b ps e
section
variable {X:Cx} {elt tg iter:Expr} {ifs:List Expr} {scope:Scope} {pos:Pos} {wi:TI} {g:TG} {tc:TT} {te:TE}
structure K6 (X:Cx) (scope:Scope) (own:List Str) (fr:List (Str× Nat)):Prop where
 kind:scope.kind = .function
 cell:∀ y∈scope.names,y.2≠.cell
 loc:∀ y∈scope.names,y.2 = .local→scope.names.lookup y.1 = some .local
 free:∀ y∈scope.names,y.2 = .free→X.env.kindOf y.1 = some .cell
 fr:∀ p∈fr,scope.names.lookup p.1 = some .free∧X.N[p.2]? = some p.1
def T7 (sc scope:Scope) (N:List Str) (fr:List (Str× Nat)):Bool :=
 (decide (scope.kind = .function) && scope.names.all (λ y=>decide (y.2≠.cell)) && scope.names.all (λ y=>decide (y.2 = .local→scope.names.lookup y.1 = some .local)) &&
  scope.names.all (λ y=>decide (y.2 = .free→sc.names.lookup y.1 = some .cell)) && fr.all λ p=>decide (scope.names.lookup p.1 = some .free) && decide (N[p.2]? = some p.1))
theorem Bw {own:List Str} {fr:List (Str× Nat)} (sc:Scope) (N:List Str) (h:T7 sc scope N fr = true) (hs:X.env.scope = sc:=by rfl) (hN:X.N = N:=by rfl):K6 X scope own fr:=by
 subst hs hN
 unfold T7 at h
 simp only [Bool.and_eq_true,all_eq_true,decide_eq_true_eq] at h
 obtain ⟨⟨⟨⟨h1,h2⟩,h3⟩,h4⟩,h5⟩:=h
 exact ⟨h1,h2,h3,h4,h5⟩
theorem O3 {own:List Str} {fr:List (Str× Nat)} {pins:List (Addr× Obj)} {s2:Shared} {σ:St} {H2:Hp} {it:Addr} {fp:List Addr} {tn:Nat→Heap→Prop} {J:It} {cl:List (Str× Addr)} {E:Value→Shared→Prop}
  {W:Nat→Nat→List V→Hp→Prop} {m0:Nat} {RR:Value→Addr→Result→Shared→Prop} {Fin:Addr→List V→Hp→Prop}
  (hc:X.calm = true) (S:K6 X scope own fr) (a6:∀ x c,cl.lookup x = some c→X.env.cells.lookup x = some c) (e5:∀ x,(x,NameKind.free)∈scope.names→∃ c,cl.lookup x = some c)
  (hg:∀ s2 H2 fp cl C,PG (Ea X s2 H2 fp (own ++ fr.map (·.1)) scope cl C) tg g) (hk:Nc own.length g)
  (hi:∀ s2 H2 fp cl C,Q9 (Ea X s2 H2 fp (own ++ fr.map (·.1)) scope cl C) ifs tc) (he:∀ s2 H2 fp cl C,PE (Ea X s2 H2 fp (own ++ fr.map (·.1)) scope cl C) elt te)
  (I2:Inv X pins σ H2 s2) (T:K5 X.prog X.w X.K tg J fp it tn) (d4:tn 0 s2.heap) (f2:∀ b∈fp,Ht X pins H2 b) (w0:W 0 m0 [] H2)
  (f6:∀ i m ys H,W i m ys H →
   (J.stop i H∧∀ D,H D = none→Fin D ys H) ∨
   (J.go i H∧ys.length < sizeLine∧∀ x H',J.yld i H x H'→g x (Js own.length (fr.map (·.2)) σ) H' λ e6 H2=>tc e6 H2 λ b H3=>if b = true then te e6 H3 λ y H4=>∃ m',m' < m∧W (i + 1) m' (ys ++ [y]) H4 else ∃ m',m' < m∧W (i + 1) m' ys H3))
  (h3:∀ D C oC mC s4 H4 ys,Fin D ys H4→Inv X (pins ++ [(C,oC)]) σ (upd H4 D (.lst ys)) s4→s4.heap.Ns C mC→Ht X pins (upd H4 D (.lst ys)) C→RR (.ref D) C (.ok .next) s4) :
  wpAny (model X.prog X.w) X.A (newList []) (λ e9 a7=>wpAny (model X.prog X.w) X.A (newFunctionEnv scope X.env.globals cl [] X.env.qual none .none (some X.env)) (λ c6 f7 =>
   codeAny (model X.prog X.w) X.A (.compStart (.ListComp elt [⟨tg,iter,ifs,0⟩] scope pos) 0 (.ref it) e9 { c6 with scope:=relabel scope X.env }) (RR e9 c6.locals) f7) E a7) E s2:=by
 refine wpAny_newObj_type (wpAny_newFunctionEnv S.cell (by intro y hy; simp at hy) (λ a9 a5 a2=>?_) S.kind)
 dsimp only at a5 a2 ⊢
 generalize c9:s2.heap.push { cls:=.type "list", dict:=none,data:=.seq ([]:List Value).toArray } = Hh at a5 a2 ⊢
 have hC:Hh.objs.size = s2.heap.objs.size + 1:=by rw [← c9,Heap.size_push]
 have b3:s2.heap.objs.size≠Hh.objs.size:=by rw [hC]; exact jB (lt_succ_self _)
 have a3:s2.heap.objs.size≤Hh.objs.size:=by rw [hC]; exact le_succ _
 have b2:∀ b o,s2.heap.get? b = some o→a9.get? b = some o:=λ b o e=>a2.extBut b o (jB (iY (Heap.lt_size e) a3)) (Heap.get?_push_of_some _ (c9 ▸ Heap.get?_push_of_some _ e))
 have g2:a9.get? s2.heap.objs.size = some (LCg.lst []):=a2.extBut _ _ b3 (Heap.get?_push_of_some _ (c9 ▸ Heap.get?_push_size _ rfl))
 let Y:Cx:=Ea X s2 H2 fp (own ++ fr.map (·.1)) scope cl Hh.objs.size
 let D:=s2.heap.objs.size
 let σY:St:=Js own.length (fr.map (·.2)) σ
 have b6:∀ b∈fp,b < s2.heap.objs.size:=λ b hb=>let ⟨o,e,_⟩:=T.obj 0 _ d4 b hb; Heap.lt_size e
 have f1:∀ b,s2.heap.objs.size≤b→b∉Y.fs:=λ b hb z=>by
  rcases jK.mp (I2.stkSub b z) with e | e
  ·rw [e] at hb; exact absurd I2.lt (not_lt.mpr hb)
  ·exact I2.nofs hb e
 have h6:∀ x,(Y.env.kindOf x = some .cell∨Y.env.kindOf x = some .free)→scope.names.lookup x = some .free:=λ x hx=>by
  have q:∃ k',(relabel scope X.env).names.lookup x = some k'∧(k' = .cell∨k' = .free):=by
   rcases hx with z | z
   ·exact ⟨_,z,.inl rfl⟩
   ·exact ⟨_,z,.inr rfl⟩
  obtain ⟨k',e,g9⟩:=q
  obtain ⟨k,e',h'⟩:=Gc e
  have nc:k≠.cell:=S.cell (x,k) (PySem.mem_of_lookup e')
  rcases h' with z | ⟨z,_⟩
  ·subst z
   rcases g9 with z | z
   ·exact absurd z nc
   ·rw [z] at e'; exact e'
  ·rw [z] at e'; exact e'
 have f5:Y.Ok:=by
  refine ⟨I2.ok.mod,S.kind,I2.ok.glob,I2.ok.blt,a3,λ x y c h1 h2=>I2.ok.inj x y c (a6 x c h1) (a6 y c h2),λ x hx=>e5 x (PySem.mem_of_lookup (h6 x hx)),(λ x c z _=>nomatch z),I2.ok.hd,I2.ok.frames,.inl rfl,λ b hb=>⟨?_,λ x c e=>(f2 b hb).2.2.2.2.1 x c (a6 x c e)⟩,
   λ b o e=>I2.bs b o e,iW I2.ok.bsz I2.sz,λ b o e hb=>?_,λ b hb z=>?_,I2.stack,I2.stkFree⟩
  ·exact jB (iY (b6 b hb) a3)
  ·rcases (f2 b hb).2.2.2.1 with z | z
   ·exact I2.ok.noex b o e z
   ·exact absurd (iY (Heap.lt_size e) (iW I2.ok.bsz z)) (lt_irrefl _)
  ·rcases jK.mp (I2.stkSub b z) with e | e
   ·exact (f2 b hb).2.1 e
   ·exact (f2 b hb).2.2.1 e
 have c7:σY.length = Y.N.length:=by
  show (Js own.length (fr.map (·.2)) σ).length = (own ++ fr.map (·.1)).length
  unfold Js
  rw [iB,iB,iQ,hZ,hZ,hZ]
 have d9:∀ (h:Heap) (m:Str→Option Value),(∀ c v,(∃ x,X.env.cells.lookup x = some c)→s2.heap.IsCell c v→h.IsCell c v)→∀ (i:Nat) (x:Str) (v:V),Y.N[i]? = some x→σY[i]? = some (some v)→Vis Y.env.scope x→∃ u,A6 v u∧Ac6 Y.env h m x u:=by
  intro h m b9 i x v hN a1 hv
  have hN:(own ++ fr.map (·.1))[i]? = some x:=hN
  have a1:(List.replicate own.length none ++ (fr.map (·.2)).map λ j=>(σ[j]?).join)[i]? = some (some v):=a1
  by_cases b7:i < own.length
  ·rw [iR (by simpa using b7),List.getElem?_replicate,if_pos b7] at a1
   cases a1
  ·rw [iS (by simpa using b7)] at a1
   rw [iS (by simpa using b7)] at hN
   rw [iQ] at a1
   rw [iH] at hN
   rw [iH,iH] at a1
   cases ep:fr[i - own.length]? with
   | none=>rw [ep] at hN; cases hN
   | some p =>
    rw [ep] at hN a1
    cases hN
    have a1:(σ[p.2]?).join = some v:=Option.some.inj a1
    obtain ⟨a8,h5⟩:=S.fr p (iN ep)
    have f3:X.env.kindOf p.1 = some .cell:=S.free (p.1,.free) (PySem.mem_of_lookup a8) rfl
    obtain ⟨m',i1,h7⟩:=I2.loc
    have g0:σ[p.2]? = some (some v):=by
     cases e:σ[p.2]? with
     | none=>rw [e] at a1; cases a1
     | some o=>rw [e] at a1; cases o with
      | none=>cases a1
      | some v'=>cases a1; rfl
    obtain ⟨u,r,l⟩:=h7 p.2 p.1 v h5 g0 (.inr (.inl f3))
    refine ⟨u,r,?_⟩
    rcases l with ⟨l,_⟩ | ⟨_,c,f4,d7⟩
    ·rw [f3] at l; cases l
    ·obtain ⟨c',e7⟩:=e5 p.1 (PySem.mem_of_lookup a8)
     have e2:=a6 _ _ e7
     rw [f4] at e2
     cases e2
     refine .inr ⟨?_,c,e7,b9 c _ ⟨_,f4⟩ d7⟩
     rcases hv with z | z | z
     ·obtain ⟨k,e1,e3⟩:=Gc z
      rw [a8] at e1
      cases e1
      rcases e3 with e3 | ⟨_,e3⟩
      ·exact .inr (by cases e3)
      ·exact .inr (by cases e3)
     ·exact .inl z
     ·exact .inr z
 have IY:Inv Y [(D,LCg.lst [])] σY H2 { s2 with heap:=a9,toks:=s2.toks + ([]:List (Str× Value)).length }:=by
  refine ⟨f5,Z,I2.bare,Un.kept b2,⟨_,a5,d9 _ _ λ c v _ ⟨o,e,d⟩=>⟨o,b2 c o e,d⟩⟩,λ x c e=>?_,I2.hok.fresh a3,λ x c e=>I2.freeC x c (a6 x c e),λ p hp=>?_,I2.hok.kept b2,c7⟩
  ·obtain ⟨v,o,e1,d⟩:=I2.cell x c (a6 x c e)
   exact ⟨v,o,b2 c o e1,d⟩
  ·have hp:p∈[(D,LCg.lst [])]:=by simpa [Y,Ea] using hp
   rw [mS hp]
   exact ⟨g2,I2.hok.fresh (iX _),b3,f1 _ (iX _),λ v z=>nomatch z⟩
 have b4:∀ {us:List Value} {H':Hp},(∀ b∈fp,H' b = none)→∀ b∈fp,Ht Y [(D,LCg.lst us)] H' b:=λ {us H'} hn b hb=>by
  refine ⟨hn b hb,jB (iY (b6 b hb) a3),λ z=>?_,.inl hb,λ x c e=>(f2 b hb).2.2.2.2.1 x c (a6 x c e),λ p hp=>?_⟩
  ·exact f5.exfs b hb z
  ·have hp:p∈[(D,LCg.lst us)]:=by simpa [Y,Ea] using hp
   rw [mS hp]
   exact λ z=>absurd (b6 b hb) (by rw [← z]; exact lt_irrefl _)
 have c5:∀ a7:Shared,a7 = { s2 with heap:=a9,toks:=s2.toks + ([]:List (Str× Value)).length } →
   codeAny (model X.prog X.w) X.A (.compLoop (.ListComp elt [⟨tg,iter,ifs,0⟩] scope pos) 0 (.ref it) (.ref s2.heap.objs.size) (compEnvC scope cl Hh.objs.size X.env))
    (RR (.ref s2.heap.objs.size) Hh.objs.size) a7:=by
  rintro a7 rfl
  refine Yp (λ n s'=>∃ i ys us H',Inv Y [(D,LCg.lst us)] σY H' s'∧Az ys us∧ys.length≤sizeLine∧tn i s'.heap∧(∀ b∈fp,H' b = none)∧W i n ys H') ?_ m0
   ⟨0,[],[],H2,IY,.nil,jX _,T.keep _ _ _ d4 λ b _ o e=>b2 b o e,λ b hb=>(f2 b hb).1,w0⟩
  rintro n s3 ⟨i,ys,us,H3,I3,rv,hsz,e4,e0,w3⟩
  rcases f6 i n ys H3 w3 with ⟨stop,qn⟩ | ⟨go,i0,step⟩
  ·refine thn (T.done Y rfl rfl rfl hc i _ s3 σY H3 _ I3 (b4 e0) e4 stop) λ r s4 ⟨hr,I4⟩=>?_
   subst hr
   have a4:=I4.pin (D,LCg.lst us) (iO _ (jD.mpr rfl))
   obtain ⟨mC,e8,_⟩:=I4.loc
   obtain ⟨oC,i2,h9,g8,g4,h8⟩:=id e8
   have d5:H3 D = none:=a4.2.1
   have ag:∀ b,b < s2.heap.objs.size→(upd H3 D (.lst ys)) b = H3 b:=λ b hb=>upd_ne (jB hb)
   have g3:HOk X.prog X.w (upd H3 D (.lst ys)) s4.heap:=λ a o e=>by
    by_cases ha:a = D
    ·subst ha
     rw [upd_same] at e
     cases e
     exact ⟨hsz,us,_,rv,a4.1⟩
    ·rw [upd_ne ha] at e
     refine (I4.hok a o e).stay (λ _ _ _ q=>q) (λ b q=>?_) (λ b xs q=>?_)
     ·rw [upd_ne (ne_of_none q d5)]; exact q
     ·rw [upd_ne (ne_of_none q d5)]; exact q
   have IX:Inv X pins σ (upd H3 D (.lst ys)) s4:=I2.call' (ch:=fp) I4.os (I4.base.later I2.hok ag λ b o _ e=>e) g3 I4.bare λ b hb=>⟨(f2 b hb).2.2.2.1,(f2 b hb).2.1,(f2 b hb).2.2.2.2.1,(f2 b hb).2.2.2.2.2⟩
   have f0:(upd H3 D (.lst ys)) Hh.objs.size = none:=by rw [upd_ne (Ne.symm b3)]; exact I4.free
   have fC:Ht X pins (upd H3 D (.lst ys)) Hh.objs.size:=I2.fpOk a3 f0
   refine h3 D Hh.objs.size oC mC s4 H3 ys (qn D d5) (IX.pins_of λ p hp=>?_) e8 fC
   rcases iU.mp hp with z | z
   ·exact IX.pin p (iO _ z)
   ·rw [mS z]
    exact ⟨g8,f0,fC.2.1,fC.2.2.1,λ v z=>by rw [g4] at z; cases z⟩
  ·refine thn (T.item Y rfl rfl rfl hc i _ s3 σY H3 _ I3 (b4 e0) e4 go) λ r s4 ⟨u,hr,h4⟩=>?_
   subst hr
   refine thn h4 λ _ s5 ⟨x,H5,I5,r5,y5,d3,g6⟩=>?_
   have g5:=I5.pinned (b4 g6) (T.obj _ _ d3)
   refine thn (hg _ _ _ _ _ _ s5 σY H5 x u _ g5 r5 (hk _ _ _ _ (step x H5 y5))) λ _ s6 ⟨b1,H6,I6,g1,q6⟩=>?_
   refine thn (hi _ _ _ _ _ _ s6 b1 H6 _ I6 q6) λ b s7 ⟨H7,I7,q7⟩=>?_
   have c8:∀ {s8:Shared} {H8:Hp} {d2:List Value},Inv Y ([(D,LCg.lst d2)] ++ Fr fp s5.heap) b1 H8 s8→Inv Y [(D,LCg.lst d2)] σY H8 s8∧tn (i + 1) s8.heap∧∀ b∈fp,H8 b = none:=λ {s8 H8 d2} I8=>by
    refine ⟨I8.unpinned.weak (c7.trans I8.len.symm) λ j v hj=>?_,T.keep _ _ _ d3 λ b hb o e=>(I8.pin (b,o) (iO _ (iO _ (He hb e)))).1,λ b hb=>?_⟩
    ·have g7:own.length≤j:=by
      rcases lt_or_ge j own.length with z | z
      ·have hj:(List.replicate own.length none ++ (fr.map (·.2)).map λ j=>(σ[j]?).join)[j]? = some (some v):=hj
       rw [iR (by simpa using z),List.getElem?_replicate,if_pos z] at hj
       cases hj
      ·exact z
     rw [g1 j g7]
     exact hj
    ·obtain ⟨o,e,d⟩:=T.obj _ _ d3 b hb
     exact (I8.pin (b,o) (iO _ (iO _ (He hb e)))).2.1
   cases b with
   | false =>
    rw [if_neg Bool.false_ne_true] at q7 ⊢
    obtain ⟨m',hm,w7⟩:=q7
    obtain ⟨I8,t8,f8⟩:=c8 I7
    exact ⟨m',hm,i + 1,ys,us,H7,I8,rv,hsz,t8,f8,w7⟩
   | true =>
    rw [if_pos rfl] at q7 ⊢
    refine thn (he _ _ _ _ _ _ s7 b1 H7 _ I7 q7) λ vy s8 ⟨y,H8,I8,ry,m',hm,w8⟩=>?_
    have a4:=I8.pin (D,LCg.lst us) (iO _ (jW _ (jD.mpr rfl)))
    refine append_at (hsz:=by rw [iL,← rv.length]; exact hsz) a4.1 λ b5 d8 d6=>?_
    have b8:b5.get? D = some (LCg.lst (us ++ [vy])):=d6.trans (congrArg some (LCg.lst_snoc us vy))
    have Ia:Inv Y (Fr fp s5.heap) b1 H8 s8:=I8.pins_of λ p hp=>I8.pin p (iO _ (iO _ hp))
    have Ib:Inv Y (Fr fp s5.heap) b1 H8 { s8 with heap:=b5 }:=Ia.turned (it:=D) (t':=s8.toks) (λ b o hb e=>d8.extBut b o hb e) a4.2.1 b3 (.inr (iX _))
     (λ x c e z=>by
      obtain ⟨v,q⟩:=I2.cell x c (a6 x c e)
      exact absurd q.lt (by rw [z]; exact lt_irrefl _))
     (λ p hp=>by
      have hp:p∈Fr fp s5.heap:=by simpa [Y,Ea] using hp
      exact λ z=>absurd (b6 p.1 (Pa hp).1) (by rw [z]; exact lt_irrefl _))
    have Ic:Inv Y ([(D,LCg.lst (us ++ [vy]))] ++ Fr fp s5.heap) b1 H8 { s8 with heap:=b5 }:=Ib.pins_of λ p hp=>by
     rcases iU.mp hp with z | z
     ·rw [mS z]
      exact ⟨b8,a4.2.1,b3,f1 _ (iX _),λ v z=>nomatch z⟩
     ·exact Ib.pin p (iO _ z)
    obtain ⟨I9,t9,f9⟩:=c8 Ic
    exact ⟨m',hm,i + 1,ys ++ [y],us ++ [vy],H8,I9,rv.append (.cons ry .nil),by rw [iB,iD]; omega,t9,f9,w8⟩
 exact codeAny_compStart_list (c5 _ rfl) (T.self X.A 0 _ _ _ (T.keep _ _ _ d4 λ b _ o e=>b2 b o e) (c5 _ rfl))
theorem M3 {own:List Str} {fr:List (Str× Nat)} {pins:List (Addr× Obj)} {s:Shared} {σ:St} {H:Hp} (S:K6 X scope own fr) (I:Inv X pins σ H s):∀ y∈scope.names,y.2 = .free→∃ c,X.env.cells.lookup y.1 = some c :=
 λ y hy e=>I.ok.has y.1 (.inl (S.free y hy e))
theorem Cb (own:List Str) (fr:List (Str× Nat)) (hc:X.calm = true) (S:K6 X scope own fr) (a9:PI X tg iter wi)
  (hg:∀ s2 H2 fp cl C,PG (Ea X s2 H2 fp (own ++ fr.map (·.1)) scope cl C) tg g) (hk:Nc own.length g)
  (hi:∀ s2 H2 fp cl C,Q9 (Ea X s2 H2 fp (own ++ fr.map (·.1)) scope cl C) ifs tc) (he:∀ s2 H2 fp cl C,PE (Ea X s2 H2 fp (own ++ fr.map (·.1)) scope cl C) elt te)
  (hs:∀ x,foldedSetIterable iter X.env x = pure x:=by intro _; rfl) :
  PE X (.ListComp elt [⟨tg,iter,ifs,0⟩] scope pos) (AbF own.length (fr.map (·.2)) wi g tc te):=by
 intro pins s σ H Q I h
 obtain ⟨cl,a1,a8,a3⟩:=Mt (M3 S I)
 rw [eval_ListComp]
 refine wpAny_comprehension_free (use:=none) rfl hs a1 S.kind S.loc (thn (a9 pins s σ H _ I h) λ v s1 h1=>thn h1 λ b1 s2 h2=>?_)
 obtain ⟨it,fp,tn,J,H2,e,I2,T,a6,f2,W,⟨m0,w0⟩,a2⟩:=h2
 subst e
 refine O3 (RR:=λ a5 C=>compPost (model X.prog X.w) X.A X.xe none (EP X pins σ Q) a5 C) (Fin:=λ D ys H=>Q (.ref D) (upd H D (.lst ys))) hc S a8 a3 hg hk hi he I2 T a6 f2 w0 a2 ?_
 intro D C oC mC s4 H4 ys a7 IC hn fC
 refine ⟨mC,hn,λ h' a4=>⟨.ref D,_,?_,Z,a7⟩⟩
 exact IC.unpinned.turned (t':=s4.toks) (λ b o hb e=>a4.extBut b o hb e) fC.1 fC.2.1 fC.2.2.2.1 fC.2.2.2.2.1 fC.2.2.2.2.2
def AaQ (j k:Nat) (js:List Nat) (wi:TI) (g:TG) (tc:TT) (te:TE):TS:=λ D σ H=>AbF k js wi g tc te σ H λ v H'=>D.nx (σ.set j (some v)) H'
theorem Ds {j:Nat} {y:Str} {py a1:Pos} (own:List Str) (fr:List (Str× Nat)) (hN:X.N.Nodup) (hj:X.N[j]? = some y) (hy:Loc X.env.scope y) (hc:X.calm = true) (S:K6 X scope own fr) (b2:PI X tg iter wi)
  (hg:∀ s2 H2 fp cl C,PG (Ea X s2 H2 fp (own ++ fr.map (·.1)) scope cl C) tg g) (hk:Nc own.length g)
  (hi:∀ s2 H2 fp cl C,Q9 (Ea X s2 H2 fp (own ++ fr.map (·.1)) scope cl C) ifs tc) (he:∀ s2 H2 fp cl C,PE (Ea X s2 H2 fp (own ++ fr.map (·.1)) scope cl C) elt te)
  (a7:swapsWith (.ListComp elt [⟨tg,iter,ifs,0⟩] scope pos) (some (.Name y py)) a1.line X.env = pure true:=by rfl)
  (hs:∀ x,foldedSetIterable iter X.env x = pure x:=by intro _; rfl)
  (hf:X.fn y = true∨X.env.scope.names.lookup y = some .local:=by first | exact .inl rfl | exact .inr rfl | assumption) :
  PS X (.Assign [.Name y py] (.ListComp elt [⟨tg,iter,ifs,0⟩] scope pos) a1) (AaQ j own.length (fr.map (·.2)) wi g tc te):=by
 intro pins s σ H Dn I h
 obtain ⟨cl,a2,b1,a4⟩:=Mt (M3 S I)
 rw [exec_Assign_Name_used _ _ _ _ a7]
 refine hJ (wpAny_standAt (hJ ?_))
 show wpAny _ X.A (do let _ ← comprehension (.ListComp elt [⟨tg,iter,ifs,0⟩] scope pos) scope X.env _ (newList []) false (eval iter X.env) (some (assign (.Name y py) X.env))) _ _ s
 refine hJ (jU (wpAny_comprehension_free (use:=some (assign (.Name y py) X.env)) (Q:=λ _ s'=>SP X pins Dn .next s') rfl hs a2 S.kind S.loc
  (thn (b2 pins s σ H _ I h) λ v s1 h1=>thn h1 λ b4 s2 h2=>?_)) (λ _ s' hq=>hW (hW hq)) λ _ _ e=>e)
 obtain ⟨it,fp,tn,J,H2,e,I2,T,a8,f2,W,⟨m0,w0⟩,a3⟩:=h2
 subst e
 refine O3 (RR:=λ a6 C=>compPost (model X.prog X.w) X.A X.xe (some (assign (.Name y py) X.env)) (λ _ s'=>SP X pins Dn .next s') a6 C) (Fin:=λ D ys H=>Dn.nx (σ.set j (some (.ref D))) (upd H D (.lst ys))) hc S b1 a4 hg hk hi he I2 T a8 f2 w0 a3 ?_
 intro D C oC mC s4 H4 ys a9 IC hn fC
 show wpAny _ X.A (assign (.Name y py) X.env (.ref D)) _ _ _
 refine wpAny_assign_Name (Jy (v:=.ref D) IC hN hj hy rfl (λ s5 I5=>?_) hf)
 have pC:=I5.pin (C,oC) (iO _ (iO _ (jD.mpr rfl)))
 have b3:=IC.pin (C,oC) (iO _ (iO _ (jD.mpr rfl)))
 refine ⟨mC,hn.at' λ o e=>?_,λ h' a5=>⟨_,_,?_,a9⟩⟩
 ·have e':=b3.1
  rw [e] at e'
  cases e'
  exact pC.1
 ·exact I5.unpinned.turned (t':=s5.toks) (λ b o hb e=>a5.extBut b o hb e) fC.1 fC.2.1 fC.2.2.2.1 fC.2.2.2.2.1 fC.2.2.2.2.2
end
theorem AcD {J:It} {xs:List V} {g:TG} {tc:TT} {te:TE} {a5:St} {H:Hp} {F:Addr→List V→Hp→Prop} (Pv:Nat→List V→Hp→Prop) (h0:Pv 0 [] H) (hz:xs.length≤sizeLine)
  (a6:∀ i ys H,i < xs.length→Pv i ys H→J.go i H) (a7:∀ ys H,Pv xs.length ys H→J.stop xs.length H)
  (hy:∀ i ys H x H',Pv i ys H→J.yld i H x H'→H' = H∧xs[i]? = some x)
  (hs:∀ i x ys H,xs[i]? = some x→Pv i ys H→g x a5 H λ a1 H2=>tc a1 H2 λ b H3=>if b = true then te a1 H3 λ y H4=>Pv (i + 1) (ys ++ [y]) H4 else Pv (i + 1) ys H3)
  (mono:∀ x σ H Q Q',(∀ a1 H2,Q a1 H2→Q' a1 H2)→g x σ H Q→g x σ H Q')
  (a4:∀ σ H Q Q',(∀ b H1,Q b H1→Q' b H1)→tc σ H Q→tc σ H Q') (a3:∀ σ H Q Q',(∀ v H1,Q v H1→Q' v H1)→te σ H Q→te σ H Q')
  (hd:∀ ys H,Pv xs.length ys H→∀ D,H D = none→F D ys H) :
  ∃ W:Nat→Nat→List V→Hp→Prop,(∃ m,W 0 m [] H)∧∀ i m ys H,W i m ys H →
   (J.stop i H∧∀ D,H D = none→F D ys H) ∨
   (J.go i H∧ys.length < sizeLine∧∀ x H',J.yld i H x H'→g x a5 H' λ a1 H2=>tc a1 H2 λ b H3=>if b = true then te a1 H3 λ y H4=>∃ m',m' < m∧W (i + 1) m' (ys ++ [y]) H4 else ∃ m',m' < m∧W (i + 1) m' ys H3):=by
 refine ⟨λ i m ys H=>m = xs.length - i∧i≤xs.length∧ys.length≤i∧Pv i ys H,⟨xs.length,by simp,jX _,iX _,h0⟩,?_⟩
 rintro i m ys H ⟨rfl,hi,a8,p⟩
 by_cases a2:i < xs.length
 ·refine .inr ⟨a6 i ys H a2 p,by omega,λ x H' y=>?_⟩
  obtain ⟨e,hx⟩:=hy i ys H x H' p y
  subst e
  refine mono _ _ _ _ _ (λ a1 H2 q=>a4 _ _ _ _ (λ b H3 q2=>?_) q) (hs i x ys _ hx p)
  cases b with
  | true =>
   rw [if_pos rfl] at q2 ⊢
   exact a3 _ _ _ _ (λ v H4 q4=>⟨xs.length - (i + 1),by omega,Z,a2,by rw [iB,iD]; omega,q4⟩) q2
  | false =>
   rw [if_neg Bool.false_ne_true] at q2 ⊢
   exact ⟨xs.length - (i + 1),by omega,Z,a2,by omega,q2⟩
 ·have e:i = xs.length:=by omega
  subst e
  exact .inl ⟨a7 ys H p,hd ys H p⟩
section
variable {X:Cx} {pins:List (Addr× Obj)} {σ:St} {H H':Hp} {s:Shared} {h':Heap}
theorem Inv.turnedL {a1:List Addr} {t':Nat} (I:Inv X pins σ H s) (hf:∀ b∈a1,Ht X pins H b) (k:∀ b o,b∉a1→s.heap.get? b = some o→h'.get? b = some o)
  (ag:∀ b,b < s.heap.objs.size→H' b = H b) (hok:HOk X.prog X.w H' h'):Inv X pins σ H' { s with heap:=h',toks:=t' }:=by
 refine I.step (g':=s.gens) (d':=s.drawn) (ch:=a1) (λ b hb=>⟨(hf b hb).2.2.2.1,(hf b hb).2.1,(hf b hb).2.2.2.2.1,(hf b hb).2.2.2.2.2⟩) (λ b o _ _ hc e _=>k b o hc e) (λ b o _ _ hc e _=>⟨o.slots,k b o hc e⟩)
  (λ b o _ e n=>by rw [ag b (Heap.lt_size e)]; exact n) (λ b o hc e=>⟨o,k b o hc e⟩) (λ b xs e=>by rw [ag b (I.hok.lt e)]; exact e) (λ b o u e=>by rw [ag b (I.hok.lt e)]; exact e)
  (λ b ps e=>⟨#[],by rw [ag b (I.hok.lt e),e]; simp⟩) (λ m hm=>?_) hok I.bare
 obtain ⟨o,es,ep,ho,r⟩:=hm
 exact ⟨o,es,ep,k _ o (λ z=>(hf _ z).2.1 rfl) ho,r⟩
theorem HOk.turned {a1:List Addr} (ok:HOk X.prog X.w H s.heap) (hf:∀ b∈a1,H b = none) (k:∀ b o,b∉a1→s.heap.get? b = some o→h'.get? b = some o):HOk X.prog X.w H h':=λ b u e=>by
 refine (ok b u e).stay (λ c v hc q=>k c v (λ z=>?_) q) (λ _ q=>q) λ _ _ q=>q
 rcases hc with y | y
 ·rw [← y,hf c z] at e; cases e
 ·rw [hf c z] at y; cases y
theorem HOk.turnedNew {a1:List Addr} {T:Addr} {o:HO} (ok:HOk X.prog X.w H s.heap) (hf:∀ b∈a1,H b = none) (k:∀ b o,b∉a1→s.heap.get? b = some o→h'.get? b = some o) (hT:s.heap.objs.size≤T)
  (new:Bt X.prog X.w (upd H T o) h' T o):HOk X.prog X.w (upd H T o) h':=λ b u e=>by
 by_cases hb:b = T
 ·subst hb
  rw [upd_same] at e
  cases e
  exact new
 ·rw [upd_ne hb] at e
  have hn:H T = none:=ok.fresh hT
  refine (HOk.turned (s:=s) ok hf k b u e).stay (λ _ _ _ q=>q) (λ c q=>?_) λ c xs q=>?_
  ·rw [upd_ne (ne_of_none q hn)]; exact q
  ·rw [upd_ne (ne_of_none q hn)]; exact q
end
def Ite (K:PySem.W.Frag) (l:Addr):It :=
 ⟨λ i H=>∃ xs x,SqL K H l xs∧xs[i]? = some x,
  λ i H v H'=>∃ T x,v = .ref T∧H T = none∧H' = upd H T (.tup [.int i,x])∧∀ xs,SqL K H l xs→xs[i]? = some x,
  λ i H=>∃ xs,SqL K H l xs∧xs.length≤i⟩
theorem Ye {P:Program} {w:World} {K:PySem.W.Frag} {elts:List Expr} {x1} {tp:Pos} {e it l:Addr} (a9:e≠it) :
  K5 P w K (.Tuple elts x1 tp) (Ite K l) [e,it] e (λ i h=>(∃ a2,IsEnum h e it i a2)∧h.IsListIter it l i) where
 mem:=by simp
 obj:=λ i h ⟨⟨a2,h1⟩,h4⟩ c hc=>by
  simp only [jK,mem_nil_iff,or_false] at hc
  rcases hc with rfl | rfl
  ·exact ⟨_,h1,λ v z=>nomatch z⟩
  ·obtain ⟨o,e,c,d⟩:=h4
   exact ⟨o,e,λ v z=>by rw [d] at z; cases z⟩
 keep:=λ i h h' ⟨⟨a2,h1⟩,h4⟩ k=>⟨⟨a2,k _ (by simp) _ h1⟩,h4.at λ o e=>k _ (by simp) o e⟩
 item:=by
  intro X hP hw hK hc i pins s σ H E I hf st hg
  subst hP hw hK
  obtain ⟨⟨a2,h1⟩,h4⟩:=st
  obtain ⟨xs,x,q1,e1⟩:=hg
  obtain ⟨b3,a8,p1,b5⟩:=I.list q1
  obtain ⟨u,hu,ru⟩:=a8.get e1
  refine wpAny_pyNext_enum_item h1 h4 p1.isList (x:=u) (by simpa using hu) a9 λ h' a1 a3 a5 a6 a7=>?_
  refine ⟨_,Z,wpAny_letOwnedTupleGo_enum (s:={ s with heap:=h',toks:=s.toks + 1 }) a1 λ a4 b1 b2=>?_⟩
  have b2:Heap.SameBut e h' a4:=b2
  have zl:e < s.heap.objs.size:=Heap.lt_size h1
  have Tz:s.heap.objs.size≠e:=ne_of_gt zl
  have k:∀ b o,b∉[e,it]→s.heap.get? b = some o→a4.get? b = some o:=λ b o hb q=>by
   simp only [jK,mem_nil_iff,or_false,not_or] at hb
   exact b2.extBut b o hb.1 (a7 b o hb.1 hb.2 q)
  have pT:a4.get? s.heap.objs.size = some { cls:=.type "tuple", data:=.seq #[.int i s.toks,u] }:=b2.extBut _ _ Tz a5
  have hn:H s.heap.objs.size = none:=I.hok.fresh (iX _)
  have b4:∀ b∈[e,it],s.heap.objs.size≠b:=λ b hb=>by
   simp only [jK,mem_nil_iff,or_false] at hb
   rcases hb with rfl | rfl
   ·exact Tz
   ·obtain ⟨o,q,_⟩:=h4; exact ne_of_gt (Heap.lt_size q)
  have hok:HOk X.prog X.w (upd H s.heap.objs.size (.tup [.int i,x])) a4:=HOk.turnedNew (s:=s) I.hok (λ b hb=>(hf b hb).1) k (iX _) ⟨zN2,[.int i s.toks,u],.cons ⟨_,Z⟩ (.cons ru .nil),_,pT,Z,_,Z⟩
  have I1:Inv X pins σ (upd H s.heap.objs.size (.tup [.int i,x])) { s with heap:=a4,toks:=s.toks + 1 }:=I.turnedL (t':=s.toks + 1) hf k (λ b hb=>upd_ne (jB hb)) hok
  refine ⟨.ref s.heap.objs.size,_,I1,Z,⟨_,x,Z,hn,Z,λ zs hz=>by rw [I.list_inj hz q1]; exact e1⟩,?_,λ b hb=>by rw [upd_ne (Ne.symm (b4 b hb))]; exact (hf b hb).1⟩
  exact ⟨⟨_,b1⟩,a3.extBut b2.extBut a9.symm⟩
 done:=by
  intro X hP hw hK hc i pins s σ H E I hf st hg
  subst hP hw hK
  obtain ⟨⟨a2,h1⟩,h4⟩:=st
  obtain ⟨xs,q1,hx⟩:=hg
  obtain ⟨b3,a8,p1,b5⟩:=I.list q1
  have l1:=a8.length
  refine wpAny_pyNext_enum_end (I.ok.hd hc) h1 h4 p1.isList (by simp; omega) λ h' a7=>?_
  have k:∀ b o,b∉[e,it]→s.heap.get? b = some o→h'.get? b = some o:=λ b o hb q=>by
   simp only [jK,mem_nil_iff,or_false,not_or] at hb
   exact a7 b o hb.2 q
  exact ⟨Z,I.turnedL (t':=s.toks) hf k (λ _ _=>rfl) (HOk.turned (s:=s) I.hok (λ b hb=>(hf b hb).1) k)⟩
 self:=λ _ _ _ _ _ st h=>by
  obtain ⟨⟨a2,h1⟩,_⟩:=st
  refine wpAny_pyIter_slot (T:= "enumerate") ⟨_,h1,Z⟩ F.slot_enumerate_iter (jY F.slot_enumerate_iter ⟨_,h1,Z⟩ F.entry_enumerate_iter ?_ (F.args_enumerate_iter_1 _))
  show wpAny _ _ (ret (.ref _)) _ _ _
  exact hW ⟨_,Z, "enumerate", _,⟨_,h1,Z⟩,F.slot_enumerate_next.lookup,h⟩
section
variable {X:Cx}
def Ad1 (K:PySem.W.Frag) (ta:TA):TI:=λ σ H R=>ta σ H λ vs H1=>∃ l,vs = [.ref l]∧(∃ xs,SqL K H1 l xs)∧R (Ite K l) H1
theorem Jm {elts:List Expr} {x1} {tp:Pos} {a:Expr} {ta:TA} {p pos:Pos} (hg:Gl X "enumerate") (hm:X.mg "enumerate" = none) (ha:PA X [a] ta) (hs:starEach [a] X.env = [(false,eval a X.env)]:=by rfl) :
  PI X (.Tuple elts x1 tp) (.Call (.Name "enumerate" p) [a] [] pos) (Ad1 X.K ta):=by
 intro pins s σ H R I h
 refine Call_ (F1 I hg hm boot_enumerate (PyProof.Rows.callWith_type1 (thn (ha pos pins s σ H _ I h) λ us s1 ⟨vs,H1,I1,r1,q1⟩=>?_) hs rfl))
 obtain ⟨l,e,⟨xs,hx⟩,q⟩:=q1
 subst e
 obtain ⟨u,rfl,ru⟩:=r1.one
 cases ru
 obtain ⟨a2,a3,p1,a5⟩:=I1.list hx
 refine call_enumerate_list p1.isList λ h' a1 a4 a6 a7=>?_
 have I2:Inv X pins σ H1 { s1 with heap:=h' }:=I1.kept (t':=s1.toks) a7
 have T:=Ye (P:=X.prog) (w:=X.w) (K:=X.K) (elts:=elts) (x1:=x1) (tp:=tp) (e:=s1.heap.objs.size + 1) (it:=s1.heap.objs.size) (l:=l) (ne_of_gt (lt_succ_self _))
 refine T.self X.A 0 { s1 with heap:=h' } _ _ ⟨⟨_,a1⟩,a4⟩ ?_
 refine ⟨_,_,_,_,H1,Z,I2,T,⟨⟨_,a1⟩,a4⟩,λ b hb=>?_,q⟩
 have hb:s1.heap.objs.size≤b:=by
  simp only [jK,mem_nil_iff,or_false] at hb
  rcases hb with rfl | rfl
  ·exact Nat.le_add_right _ 1
  ·exact iX _
 exact I1.fpOk hb (I1.hok.fresh hb)
end
theorem Mo {K:PySem.W.Frag} {l:Addr} {xs:List V} {g:TG} {tb:TS} {D:F3} {σ:St} {H:Hp} (Pv:Nat→St→Hp→Prop) (h0:Pv 0 σ H) (hl:∀ i σ H,i≤xs.length→Pv i σ H→SqL K H l xs)
  (hs:∀ i x T σ H,xs[i]? = some x→Pv i σ H→H T = none→g (.ref T) σ (upd H T (.tup [.int i,x])) λ a2 H2=>tb { D with nx:=Pv (i + 1),ct:=Pv (i + 1),bk:=D.nx } a2 H2) (hd:∀ σ H,Pv xs.length σ H→D.nx σ H) :
  ∃ W:Nat→Nat→St→Hp→Prop,(∃ m,W 0 m σ H)∧∀ i m σ H,W i m σ H →
   ((Ite K l).stop i H∧D.nx σ H)∨((Ite K l).go i H∧∃ N:St→Hp→Prop,(∀ a1 H',N a1 H'→∃ m',m' < m∧W (i + 1) m' a1 H')∧∀ x H',(Ite K l).yld i H x H'→g x σ H' λ a2 H2=>tb { D with nx:=N,ct:=N,bk:=D.nx } a2 H2):=by
 refine ⟨λ i m σ H=>m = xs.length - i∧i≤xs.length∧Pv i σ H,⟨xs.length,by simp,jX _,h0⟩,?_⟩
 rintro i m σ H ⟨rfl,hi,p⟩
 have q1:=hl i σ H hi p
 by_cases a3:i < xs.length
 ·refine .inr ⟨⟨xs,xs[i],q1,by simp [a3]⟩,Pv (i + 1),λ a1 H' p'=>⟨xs.length - (i + 1),by omega,rfl,a3,p'⟩,λ x H' y=>?_⟩
  obtain ⟨T,a,rfl,hT,rfl,y1⟩:=y
  exact hs i a T σ H (y1 xs q1) p hT
 ·have e:i = xs.length:=by omega
  subst e
  exact .inl ⟨⟨xs,q1,iX _⟩,hd σ H p⟩
inductive Nd where
 | s (x:Str)
 | i (n:Int)
 | t (xs:List Nd)
def Tp (H H':Hp):Prop:=∀ b xs,H b = some (.tup xs)→H' b = some (.tup xs)
theorem Tp.trans {H H1 H2:Hp} (a:Tp H H1) (b:Tp H1 H2):Tp H H2:=λ c xs h=>b c xs (a c xs h)
theorem Same.tp {H H':Hp} (h:Same H H'):Tp H H':=λ b xs e=>h b _ e
theorem Tp.new {H:Hp} {a:Addr} {o:HO} (h:H a = none):Tp H (upd H a o):=λ b xs e=>by rw [upd_ne (ne_of_none e h)]; exact e
theorem Tp.lst {H:Hp} {a:Addr} {o:HO} {ys:List V} (h:H a = some (.lst ys)):Tp H (upd H a o):=λ b xs e=>by rw [upd_ne (Bd e h (by intro z; cases z))]; exact e
theorem Ac {H:Hp} {p:Addr} (h:H p = none) (o:HO):Same H (upd H p o):=λ b u q=>by rw [upd_ne (ne_of_none q h)]; exact q
theorem Same.young {H H1:Hp} {p:Addr} (g:Same H H1) (h:H p = none) (o:HO):Same H (upd H1 p o):=λ b u q=>by rw [upd_ne (ne_of_none q h)]; exact g b u q
def isT:Nd→Bool
 | .t _=>true
 | _=>false
mutual
def pre:Nd→List Nd
 | .t xs=>.t xs :: Dh xs
 | .s _=>[]
 | .i _=>[]
def Dh:List Nd→List Nd
 | []=>[]
 | x :: r=>Dh r ++ pre x
end
mutual
def Dw:Nd→Bool
 | .t xs=>decide (xs.length≤8) && Bb xs
 | .s _=>true
 | .i _=>true
def Bb:List Nd→Bool
 | []=>true
 | x :: r=>Dw x && Bb r
end
def cnt (n:Nd):Nat:=(pre n).length
theorem C5 (xs:List Nd):pre (.t xs) = .t xs :: Dh xs:=by rw [pre]
theorem Dk (x:Str):pre (.s x) = []:=by rw [pre]
theorem E6 (x:Int):pre (.i x) = []:=by rw [pre]
theorem B5:Dh [] = []:=by rw [Dh]
theorem A1 (x:Nd) (r:List Nd):Dh (x :: r) = Dh r ++ pre x:=by rw [Dh]
theorem Ja:∀ (a b:List Nd),Dh (a ++ b) = Dh b ++ Dh a
 | [],b=>by rw [B5]; simp
 | x :: a,b=>by
  show Dh (x :: (a ++ b)) = _
  rw [A1,A1,Ja a b,append_assoc]
theorem Aba {n:Nd} (h:isT n = false):pre n = []:=by
 cases n with
 | s x=>exact Dk x
 | i x=>exact E6 x
 | t xs=>cases h
def inner (xs:List Nd):List Nd:=xs.filter isT
theorem M2:∀ xs:List Nd,Dh (inner xs) = Dh xs
 | []=>rfl
 | x :: r=>by
  unfold inner
  rw [filter_cons,A1]
  have ih:=M2 r
  unfold inner at ih
  cases e:isT x with
  | true=>rw [if_pos rfl,A1,ih]
  | false=>rw [if_neg Bool.false_ne_true,ih,Aba e,jI]
theorem Fv {xs:List Nd} (h1:xs.length≤8) (h2:Bb xs = true):Dw (.t xs) = true:=by rw [Dw]; simp [h1,h2]
theorem Rb {xs:List Nd} (h:Dw (.t xs) = true):xs.length≤8:=by
 rw [Dw,Bool.and_eq_true] at h
 exact iK h.1
theorem AcX {xs:List Nd} (h:Dw (.t xs) = true):Bb xs = true:=by
 rw [Dw,Bool.and_eq_true] at h
 exact h.2
theorem Pn:Bb [] = true:=by rw [Bb]
theorem Hd {x:Nd} {r:List Nd} (h1:Dw x = true) (h2:Bb r = true):Bb (x :: r) = true:=by rw [Bb]; simp [h1,h2]
theorem K8:∀ {a b:List Nd},Bb a = true→Bb b = true→Bb (a ++ b) = true
 | [],b,_,h=>h
 | x :: a,b,h,h'=>by
  rw [Bb,Bool.and_eq_true] at h
  exact Hd h.1 (K8 h.2 h')
theorem J4:∀ {a b:List Nd},Bb (a ++ b) = true→Bb a = true∧Bb b = true
 | [],b,h=>⟨Pn,h⟩
 | x :: a,b,h=>by
  have h:Bb (x :: (a ++ b)) = true:=h
  rw [Bb,Bool.and_eq_true] at h
  exact ⟨Hd h.1 (J4 h.2).1,(J4 h.2).2⟩
theorem AaY {x:Nd} (h:Bb [x] = true):Dw x = true:=by
 rw [Bb,Bool.and_eq_true] at h
 exact h.1
theorem Jd:∀ {xs:List Nd},Bb xs = true→Bb (inner xs) = true
 | [],h=>h
 | x :: r,h=>by
  rw [Bb,Bool.and_eq_true] at h
  unfold inner
  rw [filter_cons]
  split
  ·exact Hd h.1 (Jd h.2)
  ·exact Jd h.2
theorem Abb {xs:List Nd}:∀ x∈inner xs,isT x = true:=λ x h=>(mem_filter.mp h).2
theorem Eg {n:Nat} (h:n≤1000):n≤sizeLine:=le_of_lt (Ex h)
theorem Mh {α:Type} {xs:List α} {v:α} (h:xs[xs.length - 1]? = some v):atI xs (-1) = some v:=by
 have hl:0 < xs.length:=by
  rcases Nat.eq_zero_or_pos xs.length with z | z
  ·rw [length_eq_zero_iff.mp z] at h; simp at h
  ·exact z
 unfold atI ixN
 rw [if_neg (by omega),if_pos (by omega)]
 show xs[((-1:Int) + xs.length).toNat]? = some v
 rw [show ((-1:Int) + (xs.length:Int)).toNat = xs.length - 1 by omega]
 exact h
theorem Ma {α:Type} {xs:List α} {v:α} (h1:2≤xs.length) (h:xs[xs.length - 2]? = some v):atI xs (-2) = some v:=by
 unfold atI ixN
 rw [if_neg (by omega),if_pos (by omega)]
 show xs[((-2:Int) + xs.length).toNat]? = some v
 rw [show ((-2:Int) + (xs.length:Int)).toNat = xs.length - 2 by omega]
 exact h
theorem Jz {H:Hp} {p q:Addr} {a b:HO} (h:H p = none) (h2:(upd H p a) q = none):Same H (upd (upd H p a) q b)∧(upd (upd H p a) q b) p = some a∧(upd (upd H p a) q b) q = some b :=
 ⟨(Ac h a).trans (Ac h2 b),Ac h2 b _ _ upd_same,upd_same⟩
theorem Aeg {H:Hp} {p q r:Addr} {a b c:HO} (h:H p = none) (h2:(upd H p a) q = none) (h3:(upd (upd H p a) q b) r = none) :
  Same H (upd (upd (upd H p a) q b) r c)∧(upd (upd (upd H p a) q b) r c) p = some a∧(upd (upd (upd H p a) q b) r c) q = some b∧(upd (upd (upd H p a) q b) r c) r = some c :=
 ⟨((Ac h a).trans (Ac h2 b)).trans (Ac h3 c),Ac h3 c _ _ (Ac h2 b _ _ upd_same),Ac h3 c _ _ upd_same,upd_same⟩
def A2 (K:PySem.W.Frag) (mg:Str→Option Value) (x:Str) (ps:List Str) (st:Stmt):Prop:=∃ f fd,Fun K x x st f fd∧mg x = some (.ref f)∧Bi K fd ps []
def Aj (P:Program) (w:World) (K:PySem.W.Frag) (mg:Str→Option Value) (base:Heap) (k:Nat) (x:Str) (ps:List Str) (sp:Sp):Prop :=
 ∃ f fd,Bl P w K mg base CX0 k f fd ps sp∧Bi K fd ps []∧keepIn K (.ref f) = true∧mg x = some (.ref f)
section
variable {P:Program} {w:World} {K:PySem.W.Frag} {mg:Str→Option Value} {base:Heap}
theorem Aj.mono {j k:Nat} {x:Str} {ps:List Str} {sp:Sp} (C:Aj P w K mg base j x ps sp) (h:j≤k):Aj P w K mg base k x ps sp:=by
 obtain ⟨f,fd,F,b,kp,m⟩:=C
 exact ⟨f,fd,F.mono h,b,kp,m⟩
theorem A2.ok {x:Str} {st:Stmt} {N ps:List Str} {k:Nat} {sp:Sp} (F:A2 K mg x ps st) (S:As N ps (Ag st)) (len:∀ vs H Q E,sp vs H Q E→vs.length = ps.length)
  (a1:∀ (f:Addr) (cdv:Value) (A:Around) (outer:List Env) (s:Shared) (H:Hp) (vs:List V) (Q:VK) (E:XK),Bz k (A.deeper (envOfC x (Ag st) s.heap.objs.size f cdv))→sp vs H Q E →
   ∃ t,PSs (K4 CX0 P w K mg base N x (Ag st) f cdv A outer s H E).nox (B0 st) t∧t { nx:=λ _ H'=>Q .non H',rt:=Q } (start N vs) H):Aj P w K mg base (k + 1) x ps sp:=by
 obtain ⟨f,fd,F,m,b⟩:=F
 exact ⟨f,fd,F.ok S len (a1 f),b,F.kp,m⟩
theorem A2.zero {x:Str} {st:Stmt} {ps:List Str} {sp:Sp} (F:A2 K mg x ps st) (no:∀ vs H Q E,¬ sp vs H Q E):Aj P w K mg base 0 x ps sp:=by
 obtain ⟨f,fd,F,m,b⟩:=F
 exact ⟨f,fd,⟨λ vs H Q E h=>absurd h (no vs H Q E),λ A outer s H args us vs Q E _ _ _ _ h=>absurd h (no vs H Q E)⟩,b,F.kp,m⟩
end
section
variable {X:Cx} {x:Str} {p pos:Pos} {e:Expr} {es:List Expr} {t:TA} {k j:Nat} {ps:List Str} {sp:Sp} {E:XK}
theorem Av (C:Aj X.prog X.w X.K X.mg X.base j x ps sp) (hr:Bz k X.A) (hg:Gl X x) (hx:Ek CX0 X E) (ha:PA X (e :: es) t) (hj:j≤k:=by first | decide | omega)
  (a1:(x == ("__debug__" : Str)) = false:=by decide) (he:starEach (e :: es) X.env = (false,eval e X.env) :: starEach es X.env:=by rfl) (a2:(backTo pos (starEach es X.env)).any (·.1) = false:=by rfl) :
  PE X (.Call (.Name x p) (e :: es) [] pos) (Lp sp [] E t):=by
 obtain ⟨f,fd,F,b,kp,m⟩:=C
 exact Uc (F.mono hj) hr hg m kp b .nil hx ha a1 he a2
end
section
variable {X:Cx}
def AdP (K:PySem.W.Frag):List V→Hp→VK→Prop:=λ xs H Q=>∃ p ys,xs = [.ref p]∧(SqL K H p ys∨SqT K H p ys)∧Q (.int ys.length) H
theorem B4:Es X (.builtin "len") (AdP X.K):=Rm
def Ad9:List V→Hp→VK→Prop:=λ xs H Q=>(∃ i,xs = [.int i]∧Q (.int i) H)∨∃ k,xs = [.bl k]∧Q (.int (if k then 1 else 0)) H
theorem La:Es X (.type "int") Ad9:=Xx
theorem Sg:Es X (.builtin "sorted") (λ xs H Q=>∃ p ns,xs = [.ref p]∧SqL X.K H p ((ns:List Int).map V.int)∧ns.length < 64 ∧
  ∀ r (ms:List Int),H r = none→ms.Perm ns→ms.Pairwise (·≤·)→Q (.ref r) (upd H r (.lst (ms.map V.int)))):=by
 intro pins s σ H xs us Q I r h
 obtain ⟨p,ns,rfl,hS,hl,q⟩:=h
 obtain ⟨u,rfl,ru⟩:=r.one
 cases ru
 obtain ⟨a6,rv,pl,hz⟩:=I.list hS
 have hI:=J5 rv
 have el:=rv.length
 rw [hZ] at el
 refine sorted_ints pl.isList hI (by omega) λ a5 a4 a1 a2 a3=>?_
 obtain ⟨e,he⟩:=sortedAll_at s.heap a6 a5
 have a7:=a2.length_eq
 have hn:H (s.heap.objs.size + 1) = none:=I.hok.fresh (le_succ _)
 refine ⟨.ref (s.heap.objs.size + 1),_,I.laid (t':=s.toks) (o:=.lst (a4.map V.int)) (λ b o e=>sortedAll_old e) (le_succ _) ?_,Z,q _ a4 hn a2 a3⟩
 refine ⟨by rw [hZ]; exact Eg (by omega),a5.toList,e,Io a1,?_⟩
 rw [he]
theorem R1 {ns ms:List Int} (h:ns.length = ms.length):((List.range ns.length).all λ j=>decide (ns[j]? = ms[j]?)) = decide (ns = ms):=by
 by_cases e:ns = ms
 ·subst e; simp
 ·rw [iJ e]
  refine Bool.eq_false_iff.mpr λ z=>e ?_
  rw [all_eq_true] at z
  refine ext_getElem? λ i=>?_
  by_cases hi:i < ns.length
  ·exact iK (z i (mem_range.mpr hi))
  ·rw [List.getElem?_eq_none_iff.mpr (by omega),List.getElem?_eq_none_iff.mpr (by omega)]
theorem Ti {A:Around} {s:Shared} {ns ms:List Int} {us ws:List Value} (r:Az (ns.map V.int) us) (r':Az (ms.map V.int) ws):∀ j (h1:j < us.toArray.size) (h2:j < ws.toArray.size),SeqAt.EqAt A s us.toArray[j] ws.toArray[j] (decide (ns[j]? = ms[j]?)):=by
 intro j h1 h2
 have l1:=r.length
 have l2:=r'.length
 rw [hZ] at l1 l2
 have a1:j < ns.length:=by simpa [l1] using h1
 have a2:j < ms.length:=by simpa [l2] using h2
 obtain ⟨u,eu,ru⟩:=r.get (i:=j) (x:=V.int ns[j]) (by rw [iH,hX a1]; rfl)
 obtain ⟨v,ev,rv⟩:=r'.get (i:=j) (x:=V.int ms[j]) (by rw [iH,hX a2]; rfl)
 have e1:us.toArray[j] = u:=by
  have:us[j]? = some us.toArray[j]:=by simp
  rw [eu] at this
  exact (Option.some.inj this).symm
 have e2:ws.toArray[j] = v:=by
  have:ws[j]? = some ws.toArray[j]:=by simp
  rw [ev] at this
  exact (Option.some.inj this).symm
 rw [e1,e2]
 have z:=Ze (A:=A) (s:=s) ru rv rfl rfl
 have e3:eqV (V.int ns[j]) (V.int ms[j]) = decide (ns[j]? = ms[j]?):=by
  rw [hX a1,hX a2]
  show (ns[j] == ms[j]) = _
  by_cases q:ns[j] = ms[j]
  ·rw [q]; simp
  ·rw [iJ λ z=>q (Option.some.inj z)]; simpa using q
 rw [← e3]
 exact z
inductive Xv (K:PySem.W.Frag) (neg:Bool) (x y:V) (H:Hp) (Q:VK):Prop
 | mk (p) (q) (ns) (ms) (_:x = .ref p) (_:y = .ref q) (_:SqL K H p ((ns:List Int).map V.int)) (_:SqL K H q ((ms:List Int).map V.int)) (_:Q (.bl (if neg then !decide (ns = ms) else decide (ns = ms))) H):Xv K neg x y H Q
def Wj (K:PySem.W.Frag) (neg:Bool):R2:=λ x y H Q=>Xv K neg x y H Q
theorem AdH (hu:X.A.units < cLine):OpR X (compareOp .Eq) (Wj X.K false):=by
 intro pins s σ H x y v u Q I rx ry h
 obtain ⟨p,q,ns,ms,rfl,rfl,h1,h2,hq⟩:=h
 cases rx
 cases ry
 obtain ⟨us,r1,p1,z1⟩:=I.list h1
 obtain ⟨ws,r2,p2,z2⟩:=I.list h2
 have l1:=r1.length
 have l2:=r2.length
 rw [hZ] at l1 l2
 by_cases e:ns.length = ms.length
 ·refine SeqAt.eq_listAt p1.isList p2.isList (by simp; omega) hu (Ti r1 r2) ?_
  rw [iL,← l1,R1 e]
  exact ⟨.bl _,H,I,Z,hq⟩
 ·refine SeqAt.eq_list_lengthsAt p1.isList p2.isList (by simp; omega) hu ?_
  have d:decide (ns = ms) = false:=iJ λ z=>e (by rw [z])
  rw [d] at hq
  exact ⟨.bl _,H,I,Z,hq⟩
theorem R0 (hu:X.A.units < cLine):OpR X (compareOp .NotEq) (Wj X.K true):=by
 intro pins s σ H x y v u Q I rx ry h
 obtain ⟨p,q,ns,ms,rfl,rfl,h1,h2,hq⟩:=h
 cases rx
 cases ry
 obtain ⟨us,r1,p1,z1⟩:=I.list h1
 obtain ⟨ws,r2,p2,z2⟩:=I.list h2
 have l1:=r1.length
 have l2:=r2.length
 rw [hZ] at l1 l2
 by_cases e:ns.length = ms.length
 ·refine SeqAt.RcNeAt.lists p1.isList p2.isList (by simp; omega) hu (Ti r1 r2) X.prog X.w X.xe _ ?_
  rw [iL,← l1,R1 e]
  exact ⟨.bl _,H,I,Z,hq⟩
 ·refine SeqAt.RcNeAt.lists_lengths p1.isList p2.isList (by simp; omega) hu X.prog X.w X.xe _ ?_
  have d:decide (ns = ms) = false:=iJ λ z=>e (by rw [z])
  rw [d] at hq
  exact ⟨.bl _,H,I,Z,hq⟩
theorem Q0 {n:Int} {ns:List Int}:inV (.int n) (ns.map V.int) = decide (n∈ns):=by
 unfold inV
 rw [any_map]
 by_cases e:n∈ns
 ·rw [iI e,any_eq_true]
  exact ⟨n,e,by show (n == n) = true; simp⟩
 ·rw [iJ e]
  refine Bool.eq_false_iff.mpr λ z=>e ?_
  rw [any_eq_true] at z
  obtain ⟨m,hm,h⟩:=z
  have:(m == n) = true:=h
  rw [← eq_of_beq this]
  exact hm
theorem Ph (ns:List Int):(ns.map V.int).all E7 = true:=by
 rw [all_eq_true]
 intro x hx
 obtain ⟨n,_,rfl⟩:=jS.mp hx
 rfl
end
abbrev J6 (J:It) (g:TG) (tc:TT) (te:TE) (σY:St) (F:Addr→List V→Hp→Prop) (H:Hp):Prop :=
 ∃ W:Nat→Nat→List V→Hp→Prop,(∃ m,W 0 m [] H)∧∀ i m ys H,W i m ys H →
   (J.stop i H∧∀ D,H D = none→F D ys H) ∨
   (J.go i H∧ys.length < sizeLine∧∀ x H',J.yld i H x H'→g x σY H' λ σ2 H2=>tc σ2 H2 λ b H3=>if b = true then te σ2 H3 λ y H4=>∃ m',m' < m∧W (i + 1) m' (ys ++ [y]) H4 else ∃ m',m' < m∧W (i + 1) m' ys H3)
theorem Gg {J:It} {k:Nat} {g:TG} {tc:TT} {te:TE} {a3:St} {H:Hp} {F:Addr→List V→Hp→Prop} (Pv:Nat→List V→Hp→Prop) (h0:Pv 0 [] H) (hz:k≤sizeLine)
  (a6:∀ i ys H,i < k→Pv i ys H→J.go i H) (a7:∀ ys H,Pv k ys H→J.stop k H)
  (hs:∀ i x ys H H' (N:List V→Hp→Prop),i < k→Pv i ys H→J.yld i H x H'→ys.length≤i→(∀ a1 H',a1.length≤i + 1→Pv (i + 1) a1 H'→N a1 H')→g x a3 H' λ a5 H2=>tc a5 H2 λ b H3=>if b = true then te a5 H3 λ y H4=>N (ys ++ [y]) H4 else N ys H3)
  (hd:∀ ys H,ys.length≤k→Pv k ys H→∀ D,H D = none→F D ys H):J6 J g tc te a3 F H:=by
 refine ⟨λ i m ys H=>m = k - i∧i≤k∧ys.length≤i∧Pv i ys H,⟨k,by simp,jX _,iX _,h0⟩,?_⟩
 rintro i m ys H ⟨rfl,hi,a4,p⟩
 by_cases a2:i < k
 ·refine .inr ⟨a6 i ys H a2 p,by omega,λ x H' y=>?_⟩
  exact hs i x ys H H' (λ a1 H4=>∃ m',m' < k - i∧m' = k - (i + 1)∧i + 1≤k∧a1.length≤i + 1∧Pv (i + 1) a1 H4) a2 p y a4 λ a1 H4 l q=>⟨k - (i + 1),by omega,Z,a2,l,q⟩
 ·have e:i = k:=by omega
  subst e
  exact .inl ⟨a7 ys H p,hd ys H a4 p⟩
theorem Ci {K:PySem.W.Frag} {a:Addr} {xs:List V} {g:TG} {tc:TT} {te:TE} {a2:St} {H:Hp} {F:Addr→List V→Hp→Prop} (Pv:Nat→List V→Hp→Prop) (h0:Pv 0 [] H) (hz:xs.length≤sizeLine) (hl:∀ i ys H,Pv i ys H→SqL K H a xs)
  (hs:∀ i x ys H (N:List V→Hp→Prop),xs[i]? = some x→Pv i ys H→(∀ a1 H',a1.length≤i + 1→Pv (i + 1) a1 H'→N a1 H')→ys.length≤i→g x a2 H λ a3 H2=>tc a3 H2 λ b H3=>if b = true then te a3 H3 λ y H4=>N (ys ++ [y]) H4 else N ys H3)
  (hd:∀ ys H,ys.length≤xs.length→Pv xs.length ys H→∀ D,H D = none→F D ys H):J6 (Itl K a) g tc te a2 F H :=
 Gg Pv h0 hz (λ i ys H hi p=>⟨xs,xs[i],hl i ys H p,by simp [hi]⟩) (λ ys H p=>⟨xs,hl _ ys H p,iX _⟩)
  (λ i x ys H H' N hi p ⟨e,y⟩ a4 k=>by subst e; exact hs i x ys _ N (y xs (hl i ys _ p)) p k a4) hd
theorem Qt {K:PySem.W.Frag} {a:Addr} {xs:List V} {g:TG} {tc:TT} {te:TE} {a2:St} {H:Hp} {F:Addr→List V→Hp→Prop} (Pv:Nat→List V→Hp→Prop) (h0:Pv 0 [] H) (hz:xs.length≤sizeLine) (hl:∀ i ys H,Pv i ys H→SqT K H a xs)
  (hs:∀ i x ys H (N:List V→Hp→Prop),xs[i]? = some x→Pv i ys H→(∀ a1 H',a1.length≤i + 1→Pv (i + 1) a1 H'→N a1 H')→ys.length≤i→g x a2 H λ a3 H2=>tc a3 H2 λ b H3=>if b = true then te a3 H3 λ y H4=>N (ys ++ [y]) H4 else N ys H3)
  (hd:∀ ys H,ys.length≤xs.length→Pv xs.length ys H→∀ D,H D = none→F D ys H):J6 (Itt K a) g tc te a2 F H :=
 Gg Pv h0 hz (λ i ys H hi p=>⟨xs,xs[i],hl i ys H p,by simp [hi]⟩) (λ ys H p=>⟨xs,hl _ ys H p,iX _⟩)
  (λ i x ys H H' N hi p ⟨e,y⟩ a4 k=>by subst e; exact hs i x ys _ N (y xs (hl i ys _ p)) p k a4) hd
theorem Fy {lo:Int} {n:Nat} {g:TG} {tc:TT} {te:TE} {a2:St} {H:Hp} {F:Addr→List V→Hp→Prop} (Pv:Nat→List V→Hp→Prop) (h0:Pv 0 [] H) (hz:n≤sizeLine)
  (hs:∀ i ys H (N:List V→Hp→Prop),i < n→Pv i ys H→(∀ a1 H',a1.length≤i + 1→Pv (i + 1) a1 H'→N a1 H')→ys.length≤i→g (.int (lo + i)) a2 H λ a3 H2=>tc a3 H2 λ b H3=>if b = true then te a3 H3 λ y H4=>N (ys ++ [y]) H4 else N ys H3)
  (hd:∀ ys H,ys.length≤n→Pv n ys H→∀ D,H D = none→F D ys H):J6 (Itr lo n) g tc te a2 F H :=
 Gg Pv h0 hz (λ i ys H hi p=>hi) (λ ys H p=>iX _)
  (λ i x ys H H' N hi p ⟨e,y⟩ a4 k=>by subst e y; exact hs i ys _ N hi p k a4) hd
theorem Pi {K:PySem.W.Frag} {a:Addr} {xs:List V} {g:TG} {tc:TT} {te:TE} {a2:St} {H:Hp} {F:Addr→List V→Hp→Prop} (Pv:Nat→List V→Hp→Prop) (h0:Pv 0 [] H) (hz:xs.length≤sizeLine) (hl:∀ i ys H,Pv i ys H→SqL K H a xs)
  (hs:∀ i x T ys H (N:List V→Hp→Prop),xs[i]? = some x→Pv i ys H→H T = none→(∀ a1 H',a1.length≤i + 1→Pv (i + 1) a1 H'→N a1 H')→ys.length≤i→g (.ref T) a2 (upd H T (.tup [.int i,x])) λ a3 H2=>tc a3 H2 λ b H3=>if b = true then te a3 H3 λ y H4=>N (ys ++ [y]) H4 else N ys H3)
  (hd:∀ ys H,ys.length≤xs.length→Pv xs.length ys H→∀ D,H D = none→F D ys H):J6 (Ite K a) g tc te a2 F H :=
 Gg Pv h0 hz (λ i ys H hi p=>⟨xs,xs[i],hl i ys H p,by simp [hi]⟩) (λ ys H p=>⟨xs,hl _ ys H p,iX _⟩)
  (λ i x ys H H' N hi p ⟨T,z,e1,hT,e2,y⟩ a4 k=>by subst e1 e2; exact hs i z T ys _ N (y xs (hl i ys _ p)) p hT k a4) hd
end L2
end
section
set_option Elab.async false
set_option linter.all false
set_option maxRecDepth 100000
namespace L2
open PySem PySem.Spec PyProof.Rows
section
variable {κ:Type} [DecidableEq κ]
def Cm (kvs:List (κ× V)) (k:κ):Option V:=(kvs.find? λ kv=>decide (kv.1 = k)).map (·.2)
def Dl (kvs:List (κ× V)) (k:κ) (v:V):List (κ× V) :=
 if (kvs.any λ kv=>decide (kv.1 = k)) = true then kvs.map (λ kv=>if kv.1 = k then (kv.1,v) else kv) else kvs ++ [(k,v)]
theorem Cw {p:κ× V} {r:List (κ× V)} {k:κ} (e:p.1 = k):Cm (p :: r) k = some p.2:=by simp [Cm,find?_cons,e]
theorem Cz {p:κ× V} {r:List (κ× V)} {k:κ} (e:¬ p.1 = k):Cm (p :: r) k = Cm r k:=by simp [Cm,find?_cons,e]
theorem Kj (k:κ):∀ kvs:List (κ× V),(kvs.any λ kv=>decide (kv.1 = k)) = (Cm kvs k).isSome
 | []=>rfl
 | p :: r=>by
  rw [any_cons]
  by_cases e:p.1 = k
  ·simp only [Cw e,iI e,Bool.true_or,Option.isSome_some]
  ·rw [Cz e,iJ e,Bool.false_or]; exact Kj k r
theorem Rh (k j:κ) (y:V):∀ kvs:List (κ× V),Cm (kvs.map λ kv=>if kv.1 = k then (kv.1,y) else kv) j = (Cm kvs j).map λ x=>if j = k then y else x
 | []=>rfl
 | p :: r=>by
  have ih:=Rh k j y r
  rw [jR]
  by_cases h:p.1 = k
  ·rw [if_pos h]
   by_cases e:p.1 = j
   ·rw [Cw (p:=(p.1,y)) e,Cw e,Option.map_some,if_pos (e.symm.trans h)]
   ·rw [Cz (p:=(p.1,y)) e,Cz e,ih]
  ·rw [if_neg h]
   by_cases e:p.1 = j
   ·rw [Cw (p:=p) e,Cw e,Option.map_some,if_neg (λ z=>h (e.trans z))]
   ·rw [Cz (p:=p) e,Cz e,ih]
theorem Os (k j:κ) (y:V):∀ kvs:List (κ× V),Cm kvs k = none→Cm (kvs ++ [(k,y)]) j = if j = k then some y else Cm kvs j
 | [],_=>by
  by_cases e:k = j
  ·rw [if_pos e.symm]; exact Cw (p:=(k,y)) e
  ·rw [if_neg (λ z=>e z.symm)]; exact Cz (p:=(k,y)) e
 | p :: r,hn=>by
  rw [List.cons_append]
  have hk:¬ p.1 = k:=λ z=>by rw [Cw z] at hn; cases hn
  rw [Cz hk] at hn
  have ih:=Os k j y r hn
  by_cases e:p.1 = j
  ·rw [Cw e,Cw e,if_neg (λ z=>hk (e.trans z))]
  ·rw [Cz e,Cz e,ih]
theorem AaH (kvs:List (κ× V)) (k j:κ) (y:V):Cm (Dl kvs k y) j = if j = k then some y else Cm kvs j:=by
 unfold Dl
 by_cases a:(kvs.any λ kv=>decide (kv.1 = k)) = true
 ·rw [if_pos a,Rh]
  rw [Kj] at a
  by_cases e:j = k
  ·obtain ⟨x,hx⟩:=Option.isSome_iff_exists.mp a
   rw [if_pos e,e,hx,Option.map_some,if_pos rfl]
  ·rw [if_neg e]
   cases Cm kvs j with
   | none=>rfl
   | some x=>rw [Option.map_some,if_neg e]
 ·rw [if_neg a]
  refine Os k j y kvs ?_
  rw [Kj] at a
  cases q:Cm kvs k with
  | none=>rfl
  | some x=>rw [q] at a; exact (a rfl).elim
theorem Jf (kvs:List (κ× V)) (k:κ) (v:V):(Dl kvs k v).length≤kvs.length + 1:=by
 unfold Dl
 split
 ·rw [hZ]; omega
 ·rw [iB,iT,length_nil]; omega
theorem Fd.isSome_eq {o:Option V} {u:Option Value} (r:Fd o u):o.isSome = u.isSome:=by
 cases o with
 | none=>cases u with
  | none=>rfl
  | some _=>exact (show False from r).elim
 | some _=>cases u with
  | none=>exact (show False from r).elim
  | some _=>rfl
theorem KV.val {kvs:List (κ× V)} {vs:List (κ× Value)} (r:KV kvs vs) (k:κ):Fd (Cm kvs k) (valueAt vs k):=by
 unfold KV at r
 induction r with
 | nil=>exact True.intro
 | @cons p q ps qs h t ih =>
  obtain ⟨h1,h2⟩:=h
  by_cases e:p.1 = k
  ·have e':q.1 = k:=h1.symm.trans e
   have b:valueAt (q :: qs) k = some q.2:=by simp [valueAt,find?_cons,e']
   rw [Cw e,b]; exact h2
  ·have e':¬ q.1 = k:=λ z=>e (h1.trans z)
   have b:valueAt (q :: qs) k = valueAt qs k:=by simp [valueAt,find?_cons,e']
   rw [Cz e,b]; exact ih
theorem KV.any {kvs:List (κ× V)} {vs:List (κ× Value)} (r:KV kvs vs) (k:κ):(kvs.any λ kv=>decide (kv.1 = k)) = vs.any λ kv=>decide (kv.1 = k):=by
 unfold KV at r
 induction r with
 | nil=>rfl
 | cons h t ih=>rw [any_cons,any_cons,ih,h.1]
theorem KV.repl {kvs:List (κ× V)} {vs:List (κ× Value)} (r:KV kvs vs) (k:κ) {y:V} {u:Value} (ry:A6 y u) :
  KV (kvs.map λ kv=>if kv.1 = k then (kv.1,y) else kv) (vs.map λ kv=>if kv.1 = k then (kv.1,u) else kv):=by
 unfold KV at r ⊢
 induction r with
 | nil=>exact .nil
 | @cons p q ps qs h t ih =>
  rw [jR,jR]
  refine .cons ?_ ih
  obtain ⟨h1,h2⟩:=h
  by_cases e:p.1 = k
  ·rw [if_pos e,if_pos (h1.symm.trans e)]; exact ⟨h1,ry⟩
  ·rw [if_neg e,if_neg (λ z=>e (h1.trans z))]; exact ⟨h1,h2⟩
theorem KV.put {kvs:List (κ× V)} {vs:List (κ× Value)} (r:KV kvs vs) (k:κ) {y:V} {u:Value} (ry:A6 y u):KV (Dl kvs k y) (stored vs k u):=by
 unfold Dl stored
 rw [r.any k]
 by_cases e:(vs.any λ kv=>decide (kv.1 = k)) = true
 ·rw [if_pos e,if_pos e]; exact r.repl k ry
 ·rw [if_neg e,if_neg e]; exact Paired.snoc r ⟨Z,ry⟩
theorem KV.length {kvs:List (κ× V)} {vs:List (κ× Value)} (r:KV kvs vs):kvs.length = vs.length:=Paired.length r
end
theorem Lk {P:Program} {w:World} {k:Key} {u:Value} (r:A6 (kV k) u):(mixKind P w).is k u = true:=by
 cases k with
 | inl i=>obtain ⟨t,e⟩:=(show ∃ t,u = Value.int i t from r); subst e; exact Sn P w i t
 | inr x=>obtain ⟨t,e⟩:=(show ∃ t,u = Value.str x t from r); subst e; exact Sm P w x t
theorem Ox {P:Program} {w:World}:∀ {ks:List Key} {us:List Value},Az (ks.map kV) us→ItemsAre (mixKind P w) ks us
 | [],_,r=>by rw [map_nil] at r; cases r; exact .nil
 | k :: ks,_,r=>by
  rw [jR] at r
  cases r with
  | cons h t=>exact .cons (Lk h) (Ox t)
abbrev KT (H:Hp):List (List Key× V)→List (List Key× Addr× Value)→Prop:=Paired λ p q=>p.1 = q.1∧H q.2.1 = some (.tup (p.1.map kV))∧A6 p.2 q.2.2
theorem KT.val {H:Hp} {kvs:List (List Key× V)} {xs:List (List Key× Addr× Value)} (r:KT H kvs xs) (k:List Key):Fd (Cm kvs k) ((atKey xs k).map (·.2)):=by
 induction r with
 | nil=>exact True.intro
 | @cons p q ps qs h t ih =>
  obtain ⟨h1,_,h2⟩:=h
  by_cases e:p.1 = k
  ·have e':q.1 = k:=h1.symm.trans e
   have b:atKey (q :: qs) k = some q.2:=by simp [atKey,find?_cons,e']
   rw [Cw e,b]; exact h2
  ·have e':¬ q.1 = k:=λ z=>e (h1.trans z)
   have b:atKey (q :: qs) k = atKey qs k:=by simp [atKey,find?_cons,e']
   rw [Cz e,b]; exact ih
theorem KT.repl {H:Hp} {kvs:List (List Key× V)} {xs:List (List Key× Addr× Value)} (r:KT H kvs xs) (k:List Key) {y:V} {u:Value} (ry:A6 y u) :
  KT H (kvs.map λ kv=>if kv.1 = k then (kv.1,y) else kv) (xs.map (putAt k u)):=by
 induction r with
 | nil=>exact .nil
 | @cons p q ps qs h t ih =>
  rw [jR,jR]
  refine .cons ?_ ih
  obtain ⟨h1,h2,h3⟩:=h
  unfold putAt
  by_cases e:p.1 = k
  ·rw [if_pos e,if_pos (h1.symm.trans e)]; exact ⟨h1,h2,ry⟩
  ·rw [if_neg e,if_neg (λ z=>e (h1.trans z))]; exact ⟨h1,h2,h3⟩
theorem KT.put {H:Hp} {kvs:List (List Key× V)} {xs:List (List Key× Addr× Value)} (r:KT H kvs xs) (k:List Key) {b:Addr} {y:V} {u:Value} (hb:H b = some (.tup (k.map kV))) (ry:A6 y u) :
  KT H (Dl kvs k y) (storedH xs k b u):=by
 have e:(kvs.any λ kv=>decide (kv.1 = k)) = (atKey xs k).isSome:=by
  rw [Kj,(r.val k).isSome_eq,Option.isSome_map]
 unfold Dl storedH
 rw [e]
 by_cases q:(atKey xs k).isSome = true
 ·rw [if_pos q,if_pos q]; exact r.repl k ry
 ·rw [if_neg q,if_neg q]; exact Paired.snoc r ⟨Z,hb,ry⟩
theorem KT.keeps {H H':Hp} {kvs:List (List Key× V)} {xs:List (List Key× Addr× Value)} (r:KT H kvs xs) (ht:∀ b ys,H b = some (.tup ys)→H' b = some (.tup ys)):KT H' kvs xs :=
 Paired.mapP r λ _ _ z=>⟨z.1,ht _ _ z.2.1,z.2.2⟩
section
variable {P:Program} {w:World} {H:Hp} {h:Heap} {a:Addr}
theorem AbT {u:HO} (ok:HOk P w H h) (e:Rd H a u):Bt P w H h a u:=e.ok ok
theorem Lr {kvs:List (Key× V)} (ok:HOk P w H h) (e:Rd H a (.dK kvs)):kvs.length≤sizeLine∧(a == sysModules) = false∧∃ vs,KV kvs vs∧h.DictOf (mixKind P w) a vs :=
 show Bt P w H h a (.dK kvs) from AbT ok e
theorem AbG {kvs:List (Key× V)} (ok:HOk P w H h) (e:H a = some (.dK kvs)):kvs.length≤sizeLine∧(a == sysModules) = false∧∃ vs,KV kvs vs∧h.DictOf (mixKind P w) a vs:=Lr ok (.inl e)
theorem Jq {ks:List Key} (ok:HOk P w H h) (e:H a = some (.tup (ks.map kV))):(tupleKind (mixKind P w)).is h ks a:=by
 obtain ⟨_,a1,r,o,h1,h2,n,h3⟩:=(show Bt P w H h a (.tup (ks.map kV)) from ok a _ e)
 exact ⟨o,a1.toArray,n,h1,h2,h3,by simpa using Ox r⟩
theorem P0 {kvs:List (List Key× V)} (ok:HOk P w H h) (e:Rd H a (.dT kvs)):kvs.length≤sizeLine∧(a == sysModules) = false ∧
  ∃ xs,KT H kvs xs∧h.DictOfH (tupleKind (mixKind P w)) a xs:=by
 obtain ⟨z,y,xs,r,o,es,ep,h1,h2,h3,h4,h5⟩:=(show Bt P w H h a (.dT kvs) from AbT ok e)
 refine ⟨z,y,xs,r,o,es,ep,h1,h2,h3,h4,λ x hx=>?_,h5⟩
 have all:∀ {l:List (List Key× V)} {m:List (List Key× Addr× Value)},KT H l m→∀ x∈m,(tupleKind (mixKind P w)).is h x.1 x.2.1:=by
  intro l m q
  induction q with
  | nil=>intro x hx; exact nomatch hx
  | @cons p q ps qs hq t ih =>
   intro x hx
   rcases jK.mp hx with e | hx
   ·subst e
    exact Jq ok (by rw [← hq.1]; exact hq.2.1)
   ·exact ih x hx
 exact all r x hx
theorem Ad7 {kvs:List (List Key× V)} (ok:HOk P w H h) (e:H a = some (.dT kvs)):kvs.length≤sizeLine∧(a == sysModules) = false ∧
  ∃ xs,KT H kvs xs∧h.DictOfH (tupleKind (mixKind P w)) a xs:=P0 ok (.inl e)
end
def Ha (H:Hp) (a:Addr) (y:V) (r:Option V):Prop :=
 (∃ kvs k,Rd H a (.dK kvs)∧y = kV k∧r = Cm kvs k)∨∃ kvs k b,Rd H a (.dT kvs)∧y = .ref b∧H b = some (.tup (k.map kV))∧r = Cm kvs k
def Acz (H:Hp) (a:Addr) (y v:V) (H':Hp):Prop :=
 (∃ kvs k,H a = some (.dK kvs)∧y = kV k∧kvs.length < sizeLine∧H' = upd H a (.dK (Dl kvs k v))) ∨
 ∃ kvs k b,H a = some (.dT kvs)∧y = .ref b∧H b = some (.tup (k.map kV))∧kvs.length < sizeLine∧H' = upd H a (.dT (Dl kvs k v))
theorem Ha.k {H:Hp} {a:Addr} {kvs:List (Key× V)} {k:Key} (e:H a = some (.dK kvs)):Ha H a (kV k) (Cm kvs k):=.inl ⟨kvs,k,.inl e,Z,Z⟩
section
variable {X:Cx} {pins:List (Addr× Obj)} {σ:St} {H:Hp} {s:Shared} {a:Addr} {y v:V} {u r:Value} {o:Option V} {A:Around} {E:Value→Shared→Prop}
theorem Inv.big (I:Inv X pins σ H s):sysModules < s.heap.objs.size:=by
 have h:mainGlobals < s.heap.objs.size:=(I.mod.glob.keeps I.bk).lt
 exact lt_trans (by decide) h
theorem Yq {Q:Value→Shared→Prop} (hu:A.units + 1 < cLine) (I:Inv X pins σ H s) (g:Ha H a y (some v)) (ry:A6 y u) (h:∀ w' s',Inv X pins σ H s'→A6 v w'→Q w' s') :
  wpAny (model X.prog X.w) A (getItem (.ref a) u) Q E s:=by
 rcases g with ⟨kvs,k,e,ey,l⟩ | ⟨kvs,k,b,e,ey,eb,l⟩
 ·subst ey
  obtain ⟨z,hd,vs,a2,dd⟩:=Lr I.hok e
  obtain ⟨w',hw,a1⟩:=Fd.some_of (v:=v) (o:=valueAt vs k) (by rw [l]; exact a2.val k)
  exact wpAny_getItem_of (Lk ry) dd.mapOf hw (h w' _ (I.tok _) a1)
 ·subst ey
  cases (show u = Value.ref b from ry)
  obtain ⟨z,hd,xs,a2,dd⟩:=P0 I.hok e
  obtain ⟨w',hw,a1⟩:=Fd.some_of (v:=v) (o:=(atKey xs k).map (·.2)) (by rw [l]; exact a2.val k)
  obtain ⟨p,hp,a3⟩:=Option.map_eq_some_iff.mp hw
  refine wpAny_getItem_heap (tupleKind_room_in1 hu) (Jq I.hok eb) dd hp ?_
  rw [a3]
  exact h w' _ (I.tok _) a1
theorem Ae6 {Q:Value→Shared→Prop} (hu:A.units + 1 < cLine) (I:Inv X pins σ H s) (g:Ha H a y o) (ry:A6 y u) (h:∀ s',Inv X pins σ H s'→Q (.bool o.isSome) s') :
  wpAny (model X.prog X.w) A (compareOp .In u (.ref a)) Q E s:=by
 rcases g with ⟨kvs,k,e,ey,l⟩ | ⟨kvs,k,b,e,ey,eb,l⟩
 ·subst ey
  obtain ⟨z,hd,vs,a1,dd⟩:=Lr I.hok e
  refine wpAny_in_of (Lk ry) hd dd.mapOf ?_
  rw [← (a1.val k).isSome_eq,← l]
  exact h _ (I.tok _)
 ·subst ey
  cases (show u = Value.ref b from ry)
  obtain ⟨z,hd,xs,a1,dd⟩:=P0 I.hok e
  refine wpAny_in_heap (tupleKind_room_in1 hu) (Jq I.hok eb) hd dd ?_
  have q:=(a1.val k).isSome_eq
  rw [Option.isSome_map] at q
  rw [← q,← l]
  exact h _ (I.tok _)
theorem Ol {h':Heap} {t':Nat} {ob:HO} (I:Inv X pins σ H s) (mu:Mut (H a)) (hs:Heap.SameBut a s.heap h') (he:∃ q,h'.get? a = some q) (new:Bt X.prog X.w (upd H a ob) h' a ob) :
  Inv X pins σ (upd H a ob) { s with heap:=h',toks:=t' } :=
 I.write (x:=a) (e:=a) mu (.inl rfl) (λ b q hb z=>(hs.2 b hb).trans z) he new
theorem Ql {P:Program} {w:World} {H':Hp} {h':Heap} {kvs:List (Key× V)} {vs:List (Key× Value)} (z:kvs.length≤sizeLine) (hd:(a == sysModules) = false) (a1:KV kvs vs) (dd:h'.DictOf (mixKind P w) a vs) :
  Bt P w H' h' a (.dK kvs):=⟨z,hd,vs,a1,dd⟩
theorem Yf {H':Hp} {Q:Unit→Shared→Prop} (hu:A.units + 1 < cLine) (I:Inv X pins σ H s) (g:Acz H a y v H') (ry:A6 y u) (rv:A6 v r) (h:∀ s',Inv X pins σ H' s'→Q () s') :
  wpAny (model X.prog X.w) A (setItem (.ref a) u r) Q E s:=by
 rcases g with ⟨kvs,k,e,ey,l,eH⟩ | ⟨kvs,k,b,e,ey,eb,l,eH⟩
 ·subst ey eH
  obtain ⟨z,hd,vs,a1,dd⟩:=AbG I.hok e
  have hz:vs.length≤sizeLine:=by rw [← a1.length]; exact z
  have hl:(Dl kvs k v).length≤sizeLine:=by have:=Jf kvs k v; omega
  refine wpAny_setItem_pairs (hsz:=hz) (Lk ry) dd λ h' a2 hs=>h _ ?_
  have he:∃ q,h'.get? a = some q:=let ⟨q,_,_,hq,_⟩:=a2; ⟨q,hq⟩
  exact Ol I (by rw [e]; exact True.intro) hs he (Ql hl hd (a1.put k rv) a2)
 ·subst ey eH
  cases (show u = Value.ref b from ry)
  obtain ⟨z,hd,xs,a1,dd⟩:=Ad7 I.hok e
  have hz:xs.length≤sizeLine:=by rw [← Paired.length a1]; exact z
  have hl:(Dl kvs k v).length≤sizeLine:=by have:=Jf kvs k v; omega
  refine wpAny_setItem_heap (hsz:=hz) (tupleKind_room_in1 hu) (Jq I.hok eb) dd λ h' a2 hs=>h _ ?_
  obtain ⟨q,es,ep,hq,h2,h3,h4,_,h5⟩:=a2
  refine Ol I (by rw [e]; exact True.intro) hs ⟨q,hq⟩ ⟨hl,hd,_,(a1.put k eb rv).keeps λ c ys ec=>?_,q,es,ep,hq,h2,h3,h4,h5⟩
  rw [upd_ne (Bd ec e (λ z=>nomatch z))]
  exact ec
end
section
variable {X:Cx} {pins:List (Addr× Obj)} {σ:St} {H:Hp} {s:Shared} {a:Addr} {kvs:List (Key× V)} {k:Key} {u:Value} {A:Around} {E:Value→Shared→Prop}
end
def Ac3 (i:Expr):Prop:=∀ ov iv,subscripted i false ov iv = operate [ov,iv] (getItem ov iv)
theorem Abp {prog:Program} {w:World} {A:Around} {E:Value→Shared→Prop} {s:Shared} {env:Env} {value a1:Expr} {pos:Pos} {T id:String} {Q:Value→Shared→Prop}
  (hl:typeLookup (.type T) "__getitem__" = pure (some (.builtin id))) (hs:Ac3 a1)
  (h:wpAny (model prog w) A (eval value env) (λ o a4=>wpAny (model prog w) A (eval a1 env) (λ i a2=>a2.TypeIs o T∧wpAny (model prog w) A (getItem o i) Q E a2) E a4) E s) :
  wpAny (model prog w) A (eval (.Subscript value a1 pos) env) Q E s:=by
 refine Subscript_ (jU h (λ o a4 a8=>jU a8 (λ i a2 a3=>?_) λ _ _ x=>x) λ _ _ x=>x)
 obtain ⟨hT,a3⟩:=a3
 unfold subscriptTail
 refine hJ ?_
 rw [getitemInPython_of_ne hT.not_modules]
 refine hJ (wpAny_specialOf hT hl ?_)
 have a6:wpAny (model prog w) A (subscripted a1 false o i) (λ r a5=>wpAny (model prog w) A (letTemporaryGo value o r >>= λ _=>pure r) Q E a5) E a2:=by
  rw [hs o i]
  exact wpAny_operating (jU a3 (λ r a5 a7=>hJ (wpAny_letTemporaryGo (hW a7))) λ _ _ x=>x)
 first
  | exact hW (hJ a6)
  | exact hJ (hW (hJ a6))
  | exact hJ a6
theorem Si {X:Cx} {pins:List (Addr× Obj)} {σ:St} {H:Hp} {s:Shared} {a:Addr} {y:V} {o:Option V} (I:Inv X pins σ H s) (g:Ha H a y o):s.TypeIs (.ref a) "dict" := by
 rcases g with ⟨kvs,k,e,_,_⟩ | ⟨kvs,k,b,e,_,_,_⟩
 ·obtain ⟨_,_,vs,_,dd⟩:=Lr I.hok e
  exact dd.typeIs
 ·obtain ⟨_,_,xs,_,dd⟩:=P0 I.hok e
  exact dd.typeIs
inductive Uo (x y:V) (H2:Hp) (Q:VK):Prop
 | mk (a:Addr) (v:V) (_:x = .ref a) (_:Ha H2 a y (some v)) (_:Q v H2):Uo x y H2 Q
def P6 (td ty:TE):TE:=λ σ H Q=>td σ H λ x H1=>ty σ H1 λ y H2=>Uo x y H2 Q
def Ach (ty td:TE):TE:=λ σ H Q=>ty σ H λ y H1=>td σ H1 λ x H2=>∃ a o,x = .ref a∧Ha H2 a y o∧Q (.bl o.isSome) H2
def Ad3 (td ty tv:TE):TS:=λ D σ H=>tv σ H λ v H1=>td σ H1 λ x H2=>ty σ H2 λ y H3=>∃ a H4,x = .ref a∧Acz H3 a y v H4∧D.nx σ H4
section
variable {X:Cx} {o i e value:Expr} {pos pos' tpos:Pos} {td ty tv:TE}
theorem Ls (hu:X.A.units + 1 < cLine) (ho:PE X o td) (hi:PE X i ty) (hs:Ac3 i):PE X (.Subscript o i pos) (P6 td ty):=by
 intro pins s σ H Q I h
 refine Abp PySem.F.slot_dict_getitem.lookup hs (thn (ho pins s σ H _ I h) λ u s1 ⟨x,H1,I1,rx,q1⟩=>thn (hi pins s1 σ H1 _ I1 q1) λ iv s2 ⟨y,H2,I2,ry,a,v,ex,g,q2⟩=>?_)
 subst ex
 obtain rfl:u = Value.ref a:=rx
 exact ⟨Si I2 g,Yq hu I2 g ry λ w' s3 I3 a1=>⟨v,H2,I3,a1,q2⟩⟩
theorem Ni (hu:X.A.units + 1 < cLine) (hi:PE X i ty) (ho:PE X o td):PC X .In i o (Ach ty td):=by
 intro pins s σ H Q I h
 refine thn (hi pins s σ H _ I h) λ iv s1 ⟨y,H1,I1,ry,q1⟩=>thn (ho pins s1 σ H1 _ I1 q1) λ u s2 ⟨x,H2,I2,rx,a,ov,ex,g,q2⟩=>?_
 subst ex
 obtain rfl:u = Value.ref a:=rx
 exact Ae6 hu I2 g ry λ s3 I3=>⟨.bl ov.isSome,H2,I3,Z,q2⟩
theorem Oe (hu:X.A.units + 1 < cLine) (ho:PE X o td) (hi:PE X i ty) (hv:PE X value tv) (hs:swapsWith value (some (.Subscript o i pos')) pos.line X.env = pure false) :
  PS X (.Assign [.Subscript o i pos'] value pos) (Ad3 td ty tv):=by
 intro pins s σ H D I h
 refine wpAny_Assign_Subscript (thn (hv pins s σ H _ I h) λ r s1 ⟨v,H1,I1,rv,q1⟩=>thn (ho pins s1 σ H1 _ I1 q1) λ u s2 ⟨x,H2,I2,rx,q2⟩=>thn (hi pins s2 σ H2 _ I2 q2) λ iv s3 ⟨y,H3,I3,ry,a,H4,ex,g,q3⟩=>?_) hs
 subst ex
 obtain rfl:u = Value.ref a:=rx
 exact Yf hu I3 g ry rv λ s4 I4=>⟨σ,H4,I4,q3⟩
end
theorem Qc {P:Program} {w:World} {H:Hp} (h:Heap) (hb:sysModules < h.objs.size):Bt P w H (h.push { cls:=.type "dict", data:=.dict #[] }) h.objs.size (.dK []) :=
 ⟨jX _,beq_eq_false_iff_ne.mpr (Ne.symm (jB hb)),[],.nil,Heap.DictOf.new h⟩
def Ac9:TE:=λ _ H Q=>∀ p,H p = none→Q (.ref p) (upd H p (.dK []))
section
variable {X:Cx} {pos:Pos}
theorem J9:PE X (.Dict [] [] pos) Ac9:=λ pins s σ H Q I h =>
 wpAny_Dict_empty ⟨.ref s.heap.objs.size,_,I.laid (a:=s.heap.objs.size) (o:=.dK []) (t':=s.toks) (λ _ _ q=>Heap.get?_push_of_some _ q) (iX _) (Qc s.heap I.big),Z,h _ (I.hok.fresh (iX _))⟩
end
def Rx:List (TE× TE)→St→Hp→(List (V× V)→Hp→Prop)→Prop
 | [],_,H,Q=>Q [] H
 | (tk,tv) :: r,σ,H,Q=>tk σ H λ x H1=>tv σ H1 λ y H2=>Rx r σ H2 λ ps H3=>Q ((x,y) :: ps) H3
abbrev VV:List (V× V)→List (Value× Value)→Prop:=Paired λ p q=>A6 p.1 q.1∧A6 p.2 q.2
def PPs (X:Cx) (pos:Pos) (keys:List (Option Expr)) (values:List Expr) (trs:List (TE× TE)):Prop :=
 ∀ (pins:List (Addr× Obj)) (s:Shared) (σ:St) (H:Hp) (Q:List (V× V)→Hp→Prop),Inv X pins σ H s→Rx trs σ H Q →
  wpAny (model X.prog X.w) X.A (evalPairs (pairTrees keys values X.env pos)) (λ vs s'=>∃ ps H',Inv X pins σ H' s'∧VV ps vs∧Q ps H') X.xe s
theorem Tr {X:Cx} {pos:Pos}:PPs X pos [] [] []:=λ pins s σ H Q I h=>pairTrees_nil_walk ⟨[],H,I,.nil,h⟩
theorem Md {X:Cx} {pos:Pos} {k v:Expr} {ks:List (Option Expr)} {vs:List Expr} {tk tv:TE} {a1:List (TE× TE)} (hk:PE X k tk) (hv:PE X v tv) (hr:PPs X pos ks vs a1) :
  PPs X pos (some k :: ks) (v :: vs) ((tk,tv) :: a1):=λ pins s σ H Q I h =>
 pairTrees_cons_walk (thn (hk pins s σ H _ I h) λ u s1 ⟨x,H1,I1,rx,q1⟩=>thn (hv pins s1 σ H1 _ I1 q1) λ w2 s2 ⟨y,H2,I2,ry,q2⟩ =>
  thn (hr pins s2 σ H2 _ I2 q2) λ ws s3 ⟨ps,H3,I3,a2,q3⟩=>⟨(x,y) :: ps,H3,I3,.cons ⟨rx,ry⟩ a2,q3⟩)
def Bv (kvs more:List (Key× V)):List (Key× V):=more.foldl (λ acc kv=>Dl acc kv.1 kv.2) kvs
theorem KV.merge:∀ {more:List (Key× V)} {rs:List (Key× Value)} {kvs:List (Key× V)} {vs:List (Key× Value)},KV more rs→KV kvs vs→KV (Bv kvs more) (merged vs rs):=by
 intro more rs kvs vs r
 unfold KV at r
 induction r generalizing kvs vs with
 | nil=>intro q; exact q
 | @cons p q ps qs h t ih =>
  intro r0
  have e:KV (Dl kvs p.1 p.2) (stored vs q.1 q.2):=by
   have:=r0.put p.1 h.2
   rw [← h.1]; exact this
  exact ih e
theorem G9:∀ (more kvs:List (Key× V)),(Bv kvs more).length≤kvs.length + more.length
 | [],kvs=>by show kvs.length≤kvs.length + 0; omega
 | p :: r,kvs=>by
  have h1:=G9 r (Dl kvs p.1 p.2)
  have h2:=Jf kvs p.1 p.2
  show (Bv (Dl kvs p.1 p.2) r).length≤_
  rw [iT]; omega
theorem M4 {P:Program} {w:World}:∀ {kvs:List (Key× V)} {ws:List (Value× Value)},VV (kvs.map λ kv=>(kV kv.1,kv.2)) ws→∃ rs,Carries (mixKind P w) ws rs∧KV kvs rs
 | [],_,r=>by rw [map_nil] at r; cases r; exact ⟨[],True.intro,.nil⟩
 | p :: kvs,_,r=>by
  rw [jR] at r
  cases r with
  | @cons a b as bs h t =>
   obtain ⟨rs,c,q⟩:=M4 (P:=P) (w:=w) t
   obtain ⟨b1,b2⟩:=b
   exact ⟨(p.1,b2) :: rs,⟨Lk h.1,Z,c⟩,.cons ⟨Z,h.2⟩ q⟩
def AeG (trs:List (TE× TE)):TE:=λ σ H Q=>∀ p,H p = none→Rx trs σ (upd H p (.dK [])) λ ps H2=>H2 p = some (.dK [])∧∃ kvs:List (Key× V),ps = kvs.map (λ kv=>(kV kv.1,kv.2))∧kvs.length≤15∧Q (.ref p) (upd H2 p (.dK (Bv [] kvs)))
theorem Tk {X:Cx} {pos:Pos} {a1:List (Option Expr)} {a2:List Expr} {a4:List (TE× TE)} (h:PPs X pos a1 a2 a4) (a5:a1.all (·.isSome) = true) (hl:a1.length = a2.length) (h0:a1≠[])
  (a6:a1.length≤15):PE X (.Dict a1 a2 pos) (AeG a4):=by
 intro pins s σ H Q I q
 have hn:=I.hok.fresh (iX s.heap.objs.size)
 have I1:=I.laid (a:=s.heap.objs.size) (o:=.dK []) (h':=s.heap.push { cls:=.type "dict", data:=.dict #[] }) (t':=s.toks) (λ _ _ q=>Heap.get?_push_of_some _ q) (iX _) (Qc s.heap I.big)
 refine wpAny_Dict_walk (knd:=mixKind X.prog X.w) a5 hl h0 a6 (thn (h pins _ σ _ _ I1 (q _ hn)) λ ws s2 ⟨ps,H2,I2,a7,e,kvs,ep,lk,q2⟩=>?_)
 subst ep
 obtain ⟨rs,c,rk⟩:=M4 (P:=X.prog) (w:=X.w) a7
 obtain ⟨z,hd,a8,r0,dd⟩:=AbG I2.hok e
 cases r0
 refine ⟨rs,c,dd,λ h' a3 hs=>⟨.ref s.heap.objs.size,_,?_,Z,q2⟩⟩
 have hz:(Bv [] kvs).length≤sizeLine:=by
  have h1:=G9 kvs []
  rw [length_nil] at h1
  rw [sizeLine_eq]; omega
 have he:∃ q,h'.get? s.heap.objs.size = some q:=let ⟨q,_,_,hq,_⟩:=a3; ⟨q,hq⟩
 exact Ol I2 (by rw [e]; exact True.intro) hs he (Ql hz hd (rk.merge .nil) a3)
section
variable {X:Cx} {pins:List (Addr× Obj)} {σ:St} {H:Hp} {s:Shared} {a:Addr} {y d:V} {u r:Value} {o:Option V} {A:Around} {E:Value→Shared→Prop}
end
section
variable {X:Cx} {o e f:Expr} {apos cpos:Pos} {td ty tx:TE}
end
section
variable {X:Cx} {pins:List (Addr× Obj)} {σ:St} {H:Hp} {s:Shared} {a:Addr} {kvs:List (Key× V)} {A:Around} {E:Value→Shared→Prop}
end
section
variable {X:Cx} {pins:List (Addr× Obj)} {σ:St} {H:Hp} {s:Shared} {a:Addr} {y:V} {u:Value} {A:Around} {E:Value→Shared→Prop}
end
end L2
namespace L2
open PySem PySem.Spec PyProof.Rows
section
variable {X:Cx}
end
end L2
namespace L2
open PySem PySem.Spec PyProof.Rows
section
variable {κ:Type} [DecidableEq κ]
theorem Lu:∀ {l:List κ} {k:κ},l.Nodup→¬ k∈l→(l ++ [k]).Nodup
 | [],k,_,_=>by simp
 | a :: r,k,h,hk=>by
  obtain ⟨h1,h2⟩:=jQ.mp h
  show (a :: (r ++ [k])).Nodup
  refine jQ.mpr ⟨λ m=>?_,Lu h2 λ m=>hk (jK.mpr (Or.inr m))⟩
  rcases iU.mp m with q | q
  ·exact h1 q
  ·exact hk (jK.mpr (Or.inl (mS q).symm))
end
end L2
end
section
set_option Elab.async false
set_option linter.all false
set_option maxRecDepth 100000
set_option maxHeartbeats 64000000
namespace L2
open PySem PySem.Spec PyProof.Rows
def Wn (K:PySem.W.Frag) (a:Addr) (vs:List V):Prop:=∃ (o:Obj) (its:Array Value) (n:Nat),K.lookup a = some o∧o.cls = .type "tuple" ∧ o.data = .seq its n∧its.size≤sizeLine∧Az vs its.toList
def Gj (K:PySem.W.Frag) (H:Hp) (a:Addr) (vs:List V):Prop:=H a = some (.tup vs)∨Wn K a vs
theorem Gj.mono {K:PySem.W.Frag} {H H':Hp} (T:Tp H H') {a:Addr} {vs:List V} (h:Gj K H a vs):Gj K H' a vs:=h.elim (λ z=>.inl (T a vs z)) .inr
theorem Gj.sq {K:PySem.W.Frag} {H:Hp} {a:Addr} {vs:List V} (h:Gj K H a vs):SqT K H a vs:=h.elim SqT.of .inr
mutual
def PAt (K:PySem.W.Frag) (H:Hp):Nd→V→Prop
 | .s x,v=>v = .str x
 | .i n,v=>v = .int n
 | .t xs,v=>∃ a vs,v = .ref a∧Gj K H a vs∧Ba K H xs vs
def Ba (K:PySem.W.Frag) (H:Hp):List Nd→List V→Prop
 | [],vs=>vs = []
 | x :: xs,vs=>∃ v r,vs = v :: r∧PAt K H x v∧Ba K H xs r
end
mutual
theorem PAt.mono {K:PySem.W.Frag} {H H':Hp} (T:Tp H H'):∀ {n:Nd} {v:V},PAt K H n v→PAt K H' n v
 | .s x,v,h=>h
 | .i n,v,h=>h
 | .t xs,v,h=>by
  obtain ⟨a,vs,e,q,r⟩:=h
  exact ⟨a,vs,e,q.mono T,Ba.mono T r⟩
theorem Ba.mono {K:PySem.W.Frag} {H H':Hp} (T:Tp H H'):∀ {xs:List Nd} {vs:List V},Ba K H xs vs→Ba K H' xs vs
 | [],vs,h=>h
 | x :: xs,vs,h=>by
  obtain ⟨v,r,e,q,l⟩:=h
  exact ⟨v,r,e,PAt.mono T q,Ba.mono T l⟩
end
theorem Ba.nil {K:PySem.W.Frag} {H:Hp}:Ba K H [] []:=by unfold Ba; rfl
theorem Ba.cons {K:PySem.W.Frag} {H:Hp} {x:Nd} {xs:List Nd} {v:V} {r:List V} (a:PAt K H x v) (l:Ba K H xs r):Ba K H (x :: xs) (v :: r):=by unfold Ba; exact ⟨v,r,Z,a,l⟩
theorem PAt.s {K:PySem.W.Frag} {H:Hp} {x:Str}:PAt K H (.s x) (.str x):=by unfold PAt; rfl
theorem PAt.i {K:PySem.W.Frag} {H:Hp} {x:Int}:PAt K H (.i x) (.int x):=by unfold PAt; rfl
theorem PAt.t {K:PySem.W.Frag} {H:Hp} {a:Addr} {xs:List Nd} {vs:List V} (h:Gj K H a vs) (l:Ba K H xs vs):PAt K H (.t xs) (.ref a):=by unfold PAt; exact ⟨a,vs,Z,h,l⟩
theorem PAt.get {K:PySem.W.Frag} {H:Hp} {xs:List Nd} {v:V} (h:PAt K H (.t xs) v):∃ a vs,v = .ref a∧Gj K H a vs∧Ba K H xs vs:=by unfold PAt at h; exact h
theorem PAt.str {K:PySem.W.Frag} {H:Hp} {x:Str} {v:V} (h:PAt K H (.s x) v):v = .str x:=by unfold PAt at h; exact h
theorem PAt.int {K:PySem.W.Frag} {H:Hp} {x:Int} {v:V} (h:PAt K H (.i x) v):v = .int x:=by unfold PAt at h; exact h
theorem Ba.len {K:PySem.W.Frag} {H:Hp}:∀ {xs:List Nd} {vs:List V},Ba K H xs vs→xs.length = vs.length
 | [],vs,h=>by unfold Ba at h; subst h; rfl
 | x :: xs,vs,h=>by
  unfold Ba at h
  obtain ⟨v,r,rfl,q,l⟩:=h
  simp [Ba.len l]
theorem Ba.append {K:PySem.W.Frag} {H:Hp}:∀ {xs ys:List Nd} {vs ws:List V},Ba K H xs vs→Ba K H ys ws→Ba K H (xs ++ ys) (vs ++ ws)
 | [],ys,vs,ws,h,l=>by unfold Ba at h; subst h; exact l
 | x :: xs,ys,vs,ws,h,l=>by
  unfold Ba at h
  obtain ⟨v,r,rfl,q,l'⟩:=h
  exact .cons q (Ba.append l' l)
theorem Ba.at {K:PySem.W.Frag} {H:Hp}:∀ {xs:List Nd} {vs:List V} {i:Nat} {v:V},Ba K H xs vs→vs[i]? = some v→∃ x,xs[i]? = some x∧PAt K H x v
 | [],vs,i,v,h,e=>by unfold Ba at h; subst h; simp at e
 | x :: xs,vs,i,v,h,e=>by
  unfold Ba at h
  obtain ⟨w,r,rfl,q,l⟩:=h
  cases i with
  | zero=>simp at e; subst e; exact ⟨x,rfl,q⟩
  | succ i =>
   obtain ⟨y,e',q'⟩:=Ba.at (i:=i) l (by simpa using e)
   exact ⟨y,by simpa using e',q'⟩
theorem Ba.split {K:PySem.W.Frag} {H:Hp}:∀ {xs ys:List Nd} {vs:List V},Ba K H (xs ++ ys) vs→∃ us ws,vs = us ++ ws∧Ba K H xs us∧Ba K H ys ws
 | [],ys,vs,h=>⟨[],vs,rfl,.nil,h⟩
 | x :: xs,ys,vs,h=>by
  have h:Ba K H (x :: (xs ++ ys)) vs:=h
  unfold Ba at h
  obtain ⟨v,r,rfl,q,l⟩:=h
  obtain ⟨us,ws,rfl,a,b⟩:=Ba.split l
  exact ⟨v :: us,ws,Z,.cons q a,b⟩
theorem Ba.one {K:PySem.W.Frag} {H:Hp} {x:Nd} {vs:List V} (h:Ba K H [x] vs):∃ v,vs = [v]∧PAt K H x v:=by
 unfold Ba at h
 obtain ⟨v,r,rfl,q,l⟩:=h
 unfold Ba at l
 subst l
 exact ⟨v,Z,q⟩
theorem Ba.two {K:PySem.W.Frag} {H:Hp} {x y:Nd} {vs:List V} (h:Ba K H [x,y] vs):∃ v w,vs = [v,w]∧PAt K H x v∧PAt K H y w:=by
 unfold Ba at h
 obtain ⟨v,r,rfl,q,l⟩:=h
 obtain ⟨w,rfl,q'⟩:=l.one
 exact ⟨v,w,Z,q,q'⟩
def TyK (K:PySem.W.Frag) (H:Hp) (x:V) (t:Value):Prop:=F4 K H x t∨∃ a vs,x = .ref a∧Wn K a vs∧t = .type "tuple"
theorem Xr {K:PySem.W.Frag} {H:Hp} {n:Nd} {v:V} (h:PAt K H n v):∃ t,TyK K H v t∧kitOne K t (.type "tuple") = some (isT n):=by
 cases n with
 | s x=>cases h.str; exact ⟨_,.inl (.str x),rfl⟩
 | i x=>cases h.int; exact ⟨_,.inl (.int x),rfl⟩
 | t xs =>
  obtain ⟨a,vs,rfl,q,_⟩:=h.get
  rcases q with q | q
  ·exact ⟨_,.inl (.tup q),Z⟩
  ·exact ⟨_,.inr ⟨a,vs,Z,q,Z⟩,Z⟩
inductive S0 (K:PySem.W.Frag) (xs:List V) (H:Hp) (Q:VK):Prop
 | mk (x:V) (T:String) (t:Value) (b:Bool) (_:xs = [x,.ty T]) (_:TyK K H x t) (_:kitOne K t (.type T) = some b) (_:Q (.bl b) H):S0 K xs H Q
def Vx (K:PySem.W.Frag):List V→Hp→VK→Prop:=λ xs H Q=>S0 K xs H Q
section
variable {X:Cx}
theorem Ih:Es X (.builtin "isinstance") (Vx X.K):=by
 intro pins s σ H xs us Q I r h
 obtain ⟨x,T,t,b,rfl,ty,e,q⟩:=h
 obtain ⟨u,v,rfl,ru,rv⟩:=r.two
 cases rv
 rcases ty with ty | ⟨a,vs,rfl,⟨o,a1,n,lk,hc,hd,hz,rr⟩,rfl⟩
 ·exact Pb I ru ty e λ tk=>⟨.bl b,H,I.tok _,Z,q⟩
 ·cases ru
  exact kia_one kitx_tuple I.kIn ⟨o,I.kIn _ _ lk,hc⟩ e (λ z=>nomatch z) λ tk=>⟨.bl b,H,I.tok _,Z,q⟩
def AdF:V→List V→Hp→VK→Prop:=λ x vs H Q=>∃ l xs y j z,x = .ref l∧vs = [y]∧H l = some (.lst xs)∧E7 y = true∧xs.all E7 = true∧xs[j]? = some z∧eqV z y = true∧(∀ m z',m < j→xs[m]? = some z'→eqV z' y = false)∧Q (.int (j:Nat)) H
theorem Aax:MtM X "list.index" AdF:=by
 intro pins s σ H x vs v us Q I rx rv h
 obtain ⟨l,xs,y,j,z,rfl,rfl,hH,fy,fx,hj,hz,a6,q⟩:=h
 cases rx
 obtain ⟨u,rfl,ru⟩:=rv.one
 obtain ⟨hl,a1,n,r,a2,e⟩:=I.lstM hH
 have a4:j < a1.length:=by rw [← a2]; exact (List.getElem?_eq_some_iff.mp hj).1
 have at':∀ (m:Nat) (hm:m < a1.toArray.size),∃ z',xs[m]? = some z'∧eqU y a1.toArray[m] = eqV z' y:=by
  intro m hm
  have a3:m < xs.length:=by rw [a2]; simpa using hm
  refine ⟨xs[m],hX a3,?_⟩
  obtain ⟨w',ew,a5⟩:=r.get (i:=m) (x:=xs[m]) (hX a3)
  have e2:a1.toArray[m] = w':=by
   have:a1[m]? = some a1.toArray[m]:=by simp
   rw [ew] at this
   exact (Option.some.inj this).symm
  rw [e2]
  exact Qo a5 (all_eq_true.mp fx _ (jJ a3))
 refine call_meets F.slot_list_index ⟨_,e,Z⟩ F.entry_list_index (F.args_list_index_2 _ _) (SeqAt.list_indexAt l a1.toArray n none #[] u (eqU y) j (by simpa using a4) ?_ ?_ ?_) ⟨e,?_,?_⟩
 ·have:=Jv
  omega
 ·obtain ⟨z',e1,e2⟩:=at' j (by simpa using a4)
  rw [hj] at e1
  cases e1
  rw [e2]
  exact hz
 ·intro m hm a8
  obtain ⟨z',e1,e2⟩:=at' m hm
  rw [e2]
  exact a6 m z' a8 e1
 ·intro w' a7
  exact Ke ru fy r fx w' (by simpa using a7)
 ·exact ⟨.int (j:Nat),H,I.tok _,⟨_,Z⟩,q⟩
end
def A4 (P:Program) (w:World) (K:PySem.W.Frag) (mg:Str→Option Value) (base:Heap) (k:Nat) (C:Addr) (m:Str) (ps:List Str) (sp:Sp):Prop :=
 ∃ f fd,Bl P w K mg base CX0 k f fd ps sp∧Bi K fd ps []∧Eh K C m f∧Cls K C
section
variable {X:Cx} {o e:Expr} {es:List Expr} {m:Str} {apos pos:Pos} {k j:Nat} {ps:List Str} {sp:Sp} {E:XK} {C:Addr} {ta:TE} {t:TA}
theorem Ec {pl:Sem Bool} (M:A4 X.prog X.w X.K X.mg X.base j C m ps sp) (hr:Bz k X.A) (hx:Ek CX0 X E) (he:PE X o ta) (hj:j≤k:=by first | decide | omega)
  (ht:eval (.Call (.Attribute o m apos) [] [] pos) X.env = (do
   let ov ← eval o X.env
   standAt apos.atName
   let (f,first) ← holding [ov] (getMethod ov m pl)
   callWith pos f first (backTo pos (starEach [] X.env)) (backToKw pos (keywordEach [] X.env))):=by rfl):PE X (.Call (.Attribute o m apos) [] [] pos) (J7 C m sp [] E ta Ef):=by
 obtain ⟨f,fd,F,b,me,c⟩:=M
 exact Aad he c me (F.mono hj) hr b .nil hx ht
end
def Kp (r:Addr) (H H':Hp):Prop:=∀ b o,b≠r→H b = some o→H' b = some o
theorem Kp.refl {r:Addr} (H:Hp):Kp r H H:=λ _ _ _ h=>h
theorem Kp.trans {r:Addr} {H H1 H2:Hp} (a:Kp r H H1) (b:Kp r H1 H2):Kp r H H2:=λ c o h e=>b c o h (a c o h e)
theorem Same.kp {r:Addr} {H H':Hp} (g:Same H H'):Kp r H H':=λ b o _ e=>g b o e
theorem Kp.upd {r:Addr} {H:Hp} {o:HO}:Kp r H (L2.upd H r o):=λ b u h e=>by rw [upd_ne h]; exact e
theorem Kp.sq {K:PySem.W.Frag} {r C dx:Addr} {H H':Hp} {fs:List (Str× V)} (k:Kp r H H') (h:H r = some (.ins C dx fs)) {a:Addr} {xs:List V} (s:SqL K H a xs):SqL K H' a xs:=by
 rcases s with (s | ⟨o,s⟩) | s
 ·exact .inl (.inl (k _ _ (Bd s h (by intro z; cases z)) s))
 ·exact .inl (.inr ⟨o,k _ _ (Bd s h (by intro z; cases z)) s⟩)
 ·exact .inr s
theorem Same.byKp {r:Addr} {H H1 H2:Hp} (g:Same H H1) (h:H r = none) (k:Kp r H1 H2):Same H H2:=λ b o e=>k b o (ne_of_none e h) (g b o e)
theorem AeY {x y:Str} {A B:Prop} (h:¬ x = y) (hB:B):if decide (V.str x = V.str y) = true then A else B:=by
 rw [iJ λ z=>h (V.str.inj z),if_neg Bool.false_ne_true]; exact hB
theorem Ad6 {x:Str} {A B:Prop} (hA:A):if decide (V.str x = V.str x) = true then A else B:=by
 rw [iI rfl,if_pos rfl]; exact hA
theorem Ba.three {K:PySem.W.Frag} {H:Hp} {x y z:Nd} {vs:List V} (h:Ba K H [x,y,z] vs):∃ v w u,vs = [v,w,u]∧PAt K H x v∧PAt K H y w∧PAt K H z u:=by
 unfold Ba at h
 obtain ⟨v,r,rfl,q,l⟩:=h
 obtain ⟨w,u,rfl,q',a1⟩:=l.two
 exact ⟨v,w,u,Z,q,q',a1⟩
theorem Ba.four {K:PySem.W.Frag} {H:Hp} {x y z z':Nd} {vs:List V} (h:Ba K H [x,y,z,z'] vs):∃ v w u u',vs = [v,w,u,u']∧PAt K H x v∧PAt K H y w∧PAt K H z u∧PAt K H z' u':=by
 unfold Ba at h
 obtain ⟨v,r,rfl,q,l⟩:=h
 obtain ⟨w,u,u',rfl,q',a1,q3⟩:=l.three
 exact ⟨v,w,u,u',Z,q,q',a1,q3⟩
section
variable {X:Cx}
end
section
variable {X:Cx}
end
def Fc (xs:Array Nat):Prop:=xs.toList.Pairwise (· < ·)
structure Dz (led:Bool) (t:SetTable):Prop where
 led:t.led = led
 dum:t.dummies = #[]
 rise:Fc t.place
theorem Fc.lt {xs:Array Nat} (h:Fc xs) {i j:Nat} (hj:j < xs.size) (a1:i < j):xs[i]'(by omega) < xs[j]:=by
 have z:=List.pairwise_iff_getElem.mp h i j (by simp; omega) (by simpa using hj) a1
 simpa using z
theorem Aay {xs:Array Nat} {j:Nat} (h:Fc xs):∀ (a1 lo hi:Nat),lo≤hi→hi≤xs.size→hi - lo≤a1→(∀ i (q:i < xs.size),i < lo→xs[i] < j)→(∀ i (q:i < xs.size),hi≤i→j≤xs[i]) →
  SetTable.below.go xs j a1 lo hi≤xs.size∧(∀ i (q:i < xs.size),i < SetTable.below.go xs j a1 lo hi→xs[i] < j)∧(∀ i (q:i < xs.size),SetTable.below.go xs j a1 lo hi≤i→j≤xs[i]):=by
 intro a1
 induction a1 with
 | zero =>
  intro lo hi h1 h2 h3 h4 h5
  have e:lo = hi:=by omega
  subst e
  unfold SetTable.below.go
  exact ⟨h2,h4,h5⟩
 | succ a1 ih =>
  intro lo hi h1 h2 h3 h4 h5
  unfold SetTable.below.go
  by_cases c:lo < hi
  ·rw [if_pos c]
   dsimp only
   have hm:(lo + hi) / 2 < xs.size:=by omega
   have eg:xs.getD ((lo + hi) / 2) j = xs[(lo + hi) / 2]:=by simp [Array.getD,hm]
   by_cases d:xs.getD ((lo + hi) / 2) j < j
   ·rw [if_pos d]
    rw [eg] at d
    refine ih _ _ (by omega) h2 (by omega) (λ i a2 hl=>?_) h5
    rcases lt_or_ge i ((lo + hi) / 2) with z | z
    ·exact lt_trans (h.lt hm z) d
    ·have:i = (lo + hi) / 2:=by omega
     subst this
     exact d
   ·rw [if_neg d]
    rw [eg] at d
    refine ih _ _ (by omega) (by omega) (by omega) h4 (λ i a2 hl=>?_)
    rcases lt_or_ge ((lo + hi) / 2) i with z | z
    ·have:=h.lt a2 z; omega
    ·have:i = (lo + hi) / 2:=by omega
     subst this
     omega
  ·rw [if_neg c]
   have e:lo = hi:=by omega
   subst e
   exact ⟨h2,h4,h5⟩
theorem Mj {xs:Array Nat} (h:Fc xs) (j:Nat):SetTable.below xs j≤xs.size∧(∀ i (hi:i < xs.size),i < SetTable.below xs j→xs[i] < j)∧(∀ i (a1:i < xs.size),SetTable.below xs j≤i→j≤xs[i]) :=
 Aay h xs.size 0 xs.size (jX _) (iX _) (by omega) (λ _ _ z=>by omega) (λ i hi z=>by omega)
theorem Vw {xs:Array Nat} (h:Fc xs) {i:Nat} (hi:i < xs.size):SetTable.below xs (xs[i] + 1) = i + 1:=by
 obtain ⟨h1,h2,h3⟩:=Mj h (xs[i] + 1)
 rcases Nat.lt_trichotomy (SetTable.below xs (xs[i] + 1)) (i + 1) with z | z | z
 ·have:=h3 i hi (by omega); omega
 ·exact z
 ·have a:=h2 (i + 1) (by omega) (by omega)
  have b:=h.lt (i:=i) (j:=i + 1) (by omega) (by omega)
  omega
theorem Vn {xs:Array Nat} (h:Fc xs):SetTable.below xs 0 = 0:=by
 obtain ⟨h1,h2,h3⟩:=Mj h 0
 rcases Nat.eq_zero_or_pos (SetTable.below xs 0) with z | z
 ·exact z
 ·have:=h2 0 (by omega) z; omega
theorem Vu (n:Nat):Fc (Array.range n):=by
 unfold Fc
 rw [Array.toList_range]
 exact List.pairwise_lt_range
theorem Zv {xs:Array Nat} {j:Nat} (h:Fc xs) (hn:xs[SetTable.below xs j]?≠some j):Fc (SetTable.insertAt xs (SetTable.below xs j) j):=by
 obtain ⟨h1,h2,h3⟩:=Mj h j
 unfold Fc
 rw [SetTable.toList_insertAt,List.pairwise_append]
 refine ⟨Pairwise.sublist (List.take_sublist _ _) h,?_,?_⟩
 ·rw [jP]
  refine ⟨λ y hy=>?_,Pairwise.sublist (List.drop_sublist _ _) h⟩
  obtain ⟨i,hi,rfl⟩:=List.mem_iff_getElem.mp hy
  rw [length_drop,Array.length_toList] at hi
  rw [List.getElem_drop,Array.getElem_toList]
  have a:=h3 (SetTable.below xs j + i) (by omega) (by omega)
  rcases Nat.eq_zero_or_pos i with z | z
  ·subst z
   rcases lt_or_ge j (xs[SetTable.below xs j + 0]'(by omega)) with y | y
   ·exact y
   ·exact absurd (by rw [Array.getElem?_eq_getElem (by omega)]; congr 1; simp at a y ⊢; omega) hn
  ·have b:=h3 (SetTable.below xs j) (by omega) (iX _)
   have c:=h.lt (i:=SetTable.below xs j) (j:=SetTable.below xs j + i) (by omega) (by omega)
   omega
 ·intro a ha b hb
  obtain ⟨i,hi,rfl⟩:=List.mem_iff_getElem.mp ha
  rw [jE,Array.length_toList] at hi
  rw [List.getElem_take,Array.getElem_toList]
  have q:=h2 i (by omega) (by omega)
  rcases jK.mp hb with z | z
  ·omega
  ·obtain ⟨l,hl,rfl⟩:=List.mem_iff_getElem.mp z
   rw [length_drop,Array.length_toList] at hl
   rw [List.getElem_drop,Array.getElem_toList]
   have:=h3 (SetTable.below xs j + l) (by omega) (by omega)
   omega
theorem Oz (j:Nat):SetTable.has #[] j = false:=by
 unfold SetTable.has
 simp
theorem Aa1 {t:SetTable} {f:Nat→Int} {h:Int} (hd:t.dummies = #[]):∀ (a1:Nat) (p:SetTable.Probe) (j:Nat) (d:Option Nat),p.dummy = none→SetTable.probe.go t f h a1 p = some (.empty j d)→d = none∧t.place[SetTable.below t.place j]?≠some j:=by
 intro a1
 induction a1 with
 | zero=>intro p j d _ e; unfold SetTable.probe.go at e; cases e
 | succ a1 ih =>
  intro p j d hp e
  unfold SetTable.probe.go at e
  have hs:t.slot p.j = (if t.place[SetTable.below t.place p.j]? == some p.j then SetTable.Slot.live (SetTable.below t.place p.j) else SetTable.Slot.empty):=by
   unfold SetTable.slot
   dsimp only
   rw [hd,Oz]
   rfl
  rw [hs] at e
  have a2:(t.advance p).dummy = none:=by
   unfold SetTable.advance
   split
   ·exact hp
   ·exact hp
  by_cases c:(t.place[SetTable.below t.place p.j]? == some p.j) = true
  ·rw [if_pos c] at e
   dsimp only at e
   split at e
   ·cases e
   ·exact ih _ _ _ a2 e
  ·rw [if_neg c] at e
   dsimp only at e
   cases e
   exact ⟨hp,λ z=>c (by rw [z]; simp)⟩
theorem Abu {t:SetTable} {h:Int} {j:Nat} {b:Bool} (hd:t.dummies = #[]) (e:t.freeSlot h = some (j,b)):t.place[SetTable.below t.place j]?≠some j:=by
 unfold SetTable.freeSlot SetTable.probe at e
 split at e
 ·rename_i j' d hq
  obtain ⟨rfl,z⟩:=Aa1 hd _ _ _ _ rfl hq
  cases e
  exact z
 ·cases e
theorem Dz.standIn {led:Bool} {t:SetTable} (h:Dz led t) (n:Nat):Dz led (t.standIn n):=⟨h.led,Z,Vu n⟩
theorem Dz.plainOff {led:Bool} {t:SetTable} (h:Dz led t):Dz led { t with plain:=false }:=⟨h.led,h.dum,h.rise⟩
theorem Dz.layNew {led:Bool} {t:SetTable} (h:Dz led t) (es:Array (Int× Value)) (k:Int) (x:Value):Dz led (layNew t es k x).2.1:=by
 unfold PySem.layNew
 split
 ·rename_i j b e
  dsimp only
  have z:=Abu h.dum e
  have q:Dz led (t.put j).1:=by
   unfold SetTable.put
   refine ⟨h.led,?_,Zv h.rise z⟩
   dsimp only
   rw [h.dum,Oz]
   rfl
  unfold SetTable.orStandIn
  split
  ·exact q
  ·exact q.standIn _
 ·exact h.standIn _
theorem Zg (owner:Array (Option Nat)) (m:Nat):Fc (((List.range m).filterMap λ j=>(owner.getD j none).map (j,·)).map (·.1)).toArray:=by
 unfold Fc
 have e:((List.range m).filterMap λ j=>(owner.getD j none).map (j,·)).map (·.1) = (List.range m).filter λ j=>(owner.getD j none).isSome:=by
  induction List.range m with
  | nil=>rfl
  | cons a l ih =>
   rw [filterMap_cons,filter_cons]
   cases q:owner.getD a none with
   | none=>simpa [q] using ih
   | some y=>simpa [q] using ih
 simp only [e]
 exact Pairwise.sublist List.filter_sublist List.pairwise_lt_range
theorem Dz.relay {led:Bool} {t:SetTable} (h:Dz led t) (es:Array (Int× Value)) (n:Nat):Dz led (relayAll t es n).2.1:=by
 unfold relayAll
 split
 ·rename_i t' a1 e
  dsimp only
  split
  ·unfold SetTable.relaid SetTable.laid at e
   simp only [Option.bind_eq_bind,Option.bind_eq_some_iff] at e
   obtain ⟨owner,_,e2⟩:=e
   cases e2
   exact ⟨h.led,Z,Zg owner _⟩
  ·exact h.standIn _
 ·exact h.standIn _
theorem Kb {α:Type}:∀ (l:List α) (i:Nat) (h:i < l.length),(l[i] :: l.eraseIdx i).Perm l
 | [],i,h=>by simp at h
 | a :: l,0,h=>by simp
 | a :: l,i + 1,h=>by
  have hi:i < l.length:=by simpa using h
  have:=Kb l i hi
  simp only [List.getElem_cons_succ,List.eraseIdx_cons_succ]
  exact (List.Perm.swap _ _ _).trans (this.cons a)
theorem AcE {α:Type} (next:Nat→Nat):∀ (a1 k:Nat) (left:List α) (a2:Array α),left.length = a1→(pickOrder.go next a1 k left a2).toList.Perm (a2.toList ++ left):=by
 intro a1
 induction a1 with
 | zero =>
  intro k left a2 hl
  rw [length_eq_zero_iff.mp hl]
  unfold pickOrder.go
  simp
 | succ a1 ih =>
  intro k left a2 hl
  have hi:next k % left.length < left.length:=mod_lt _ (by omega)
  unfold pickOrder.go
  rw [hX hi]
  dsimp only
  refine (ih _ _ _ (by rw [List.length_eraseIdx_of_lt hi]; omega)).trans ?_
  rw [Array.toList_push,append_assoc]
  refine List.Perm.append_left _ ?_
  exact Kb _ _ hi
theorem Kw {α:Type} (next:Nat→Nat) (xs:Array α):(pickOrder next xs).toList.Perm xs.toList:=by
 have:=AcE next xs.size 0 xs.toList #[] (by simp)
 unfold pickOrder
 simpa using this
theorem Abc {M:Model} {A:Around} {E:Value→Shared→Prop} {α:Type}:∀ (n:Nat) (xs:List α) (s:Shared) (Q:List α→Shared→Prop),xs.length = n →
  (∀ ys d,List.Perm ys xs→Q ys { s with drawn:=d })→wpAny M A (drawOrder n xs) Q E s:=by
 intro n
 induction n with
 | zero =>
  intro xs s Q hl h
  unfold drawOrder
  have e:xs = []:=length_eq_zero_iff.mp hl
  subst e
  exact hW (h [] s.drawn .nil)
 | succ n ih =>
  intro xs s Q hl h
  cases xs with
  | nil=>cases hl
  | cons x r =>
   unfold drawOrder
   refine hJ (m:=choose .order (x :: r).length) ?_
   intro Γ p a1
   show Sem.wp M Γ (.choose .order (x :: r).length .pure) _ _ p s
   rw [Sem.wp_choose]
   refine ⟨by simp,?_⟩
   generalize hg:M.w.draws .order (s.drawn.get .order) % (x :: r).length = i
   have hi:i < (x :: r).length:=by rw [← hg]; exact mod_lt _ (by simp)
   have g:wpAny M A (do
     match (x :: r)[i]? with
     | some y=>return y :: (← drawOrder n ((x :: r).eraseIdx i))
     | none=>unsupported "internal:drawOrder") Q E { s with drawn:=s.drawn.bump .order }:=by
    rw [hX hi]
    dsimp only
    refine hJ (ih _ _ _ (by rw [List.length_eraseIdx_of_lt hi]; simp at hl ⊢; omega) λ ys d hp=>hW ?_)
    exact h _ d ((List.Perm.cons _ hp).trans (Kb _ _ hi))
   trace_state
   exact g
theorem Jc {α β:Type} {F:α→β→Prop} {l l':List α} (p:List.Perm l' l):∀ {ms:List β},PySem.Paired F l ms→∃ a1,List.Perm a1 ms∧PySem.Paired F l' a1:=by
 replace p:=p.symm
 induction p with
 | nil=>intro ms h; exact ⟨ms,.refl _,h⟩
 | cons x _ ih =>
  intro ms h
  cases h with
  | cons f t =>
   obtain ⟨a1,q,r⟩:=ih t
   exact ⟨_ :: a1,q.cons _,.cons f r⟩
 | swap x y l =>
  intro ms h
  cases h with
  | cons f t =>
   cases t with
   | cons g u=>exact ⟨_,List.Perm.swap _ _ _,.cons g (.cons f u)⟩
 | trans _ _ a2 a3 =>
  intro ms h
  obtain ⟨m1,p1,r1⟩:=a2 h
  obtain ⟨m2,p2,r2⟩:=a3 r1
  exact ⟨m2,p2.trans p1,r2⟩
theorem Ir {κ:Type} [DecidableEq κ]:∀ {l l':List κ},l.Nodup→(∀ x∈l,x∈l')→l.length≤l'.length
 | [],_,_,_=>jX _
 | a :: t,l',n,h=>by
  have n:=jQ.mp n
  have ha:=h a iE
  have:=Ir (l:=t) (l':=l'.erase a) n.2 λ x hx=>(List.mem_erase_of_ne (show x≠a from λ e=>n.1 (e ▸ hx))).mpr (h x (iF _ hx))
  rw [List.length_erase_of_mem ha] at this
  have hp:0 < l'.length:=List.length_pos_of_mem ha
  rw [iT]
  omega
section
variable {prog:Program} {w:World} {κ:Type} [DecidableEq κ] (knd:PySem.KeyKind prog w κ)
structure C4 (h:Heap) (a:Addr) (ks:List κ) (o:Obj) (es:Array (Int× Value)) (ep:Nat) (t:SetTable) (ms:List κ):Prop where
 at':h.get? a = some o
 ex:o.ExactSet
 dat:o.data = .set es ep t
 el:ElemsOf knd es.toList
 pr:PySem.Paired (λ e k=>knd.is k e.2 = true) es.toList ms
 nd:ms.Nodup
 mem:∀ k,k∈ms↔k∈ks
 sm:es.size < scanBound
 fit:t.fits es.size = true
 tab:Dz (!w.params.followText "set-order") t
def SetT (h:Heap) (a:Addr) (ks:List κ):Prop:=∃ o es ep t ms,C4 knd h a ks o es ep t ms
variable {knd}
variable {A:Around} {E:Value→Shared→Prop} {s:Shared} {a:Addr} {ks:List κ} {k:κ} {x:Value}
theorem C4.keep {h h':Heap} {o es ep t ms} (S:C4 knd h a ks o es ep t ms) (k:h'.get? a = some o):C4 knd h' a ks o es ep t ms:=⟨k,S.ex,S.dat,S.el,S.pr,S.nd,S.mem,S.sm,S.fit,S.tab⟩
theorem SetT.keep {h h':Heap} (S:SetT knd h a ks) (k:∀ o,h.get? a = some o→h'.get? a = some o):SetT knd h' a ks:=by
 obtain ⟨o,es,ep,t,ms,D⟩:=S
 exact ⟨o,es,ep,t,ms,D.keep (k o D.at')⟩
theorem SetT.congr {h:Heap} {a1:List κ} (S:SetT knd h a ks) (e:∀ k,k∈ks↔k∈a1):SetT knd h a a1:=by
 obtain ⟨o,es,ep,t,ms,D⟩:=S
 exact ⟨o,es,ep,t,ms,⟨D.at',D.ex,D.dat,D.el,D.pr,D.nd,λ k=>(D.mem k).trans (e k),D.sm,D.fit,D.tab⟩⟩
theorem C4.size {h:Heap} {o es ep t ms} (S:C4 knd h a ks o es ep t ms):es.size = ms.length:=by rw [← PySem.Paired.length S.pr]; simp
theorem C4.put {h:Heap} {o es ep t ms} (S:C4 knd h a ks o es ep t ms) {a1:Array (Int× Value)} {t':SetTable} {a2 a3:List κ} (e1:ElemsOf knd a1.toList) (e2:PySem.Paired (λ e k=>knd.is k e.2 = true) a1.toList a2) (e3:a2.Nodup)
  (e4:∀ k,k∈a2↔k∈a3) (e5:a1.size < scanBound) (e6:t'.fits a1.size = true) (e7:Dz (!w.params.followText "set-order") t') :
  ∃ o',C4 knd (h.update a (Obj.putSet a1 t')) a a3 o' a1 (ep + 1) t' a2:=by
 have hg:=Heap.get?_update_self (Obj.putSet a1 t') S.at' (by rw [putSet_of a1 t' S.dat]; rfl)
 rw [putSet_of a1 t' S.dat] at hg
 exact ⟨_,hg,S.ex,Z,e1,e2,e3,e4,e5,e6,e7⟩
theorem AbN {l:List (Int× Value)} {ms:List κ} (p:PySem.Paired (λ e k=>knd.is k e.2 = true) l ms):k∈ms↔∃ e∈l,knd.is k e.2 = true:=by
 induction p with
 | nil=>simp
 | cons f _ ih =>
  rename_i e m l ms _
  rw [jK,ih]
  constructor
  ·rintro (rfl | ⟨e',h1,h2⟩)
   ·exact ⟨e,iE,f⟩
   ·exact ⟨e',iF _ h1,h2⟩
  ·rintro ⟨e',h1,h2⟩
   rcases jK.mp h1 with rfl | h1
   ·exact .inl (knd.inj _ _ _ h2 f)
   ·exact .inr ⟨e',h1,h2⟩
theorem Qw {g:Bool→Sem Unit} (hg:∀ (b:Bool) (a2:Shared) (Q':Unit→Shared→Prop),Q' () a2→wpAny (model prog w) A (g b) Q' E a2) {o es ep t ms} (S:C4 knd s.heap a ks o es ep t ms)
  {a1:Array (Int× Value)} {t1:SetTable} {a3 a4:List κ} (e1:ElemsOf knd a1.toList) (e2:PySem.Paired (λ e k=>knd.is k e.2 = true) a1.toList a3) (e3:a3.Nodup)
  (e4:∀ k,k∈a3↔k∈a4) (e5:a1.size < scanBound) (e6:t1.fits a1.size = true) (e7:Dz (!w.params.followText "set-order") t1) {dm:Bool} {R:Option Bool→Shared→Prop}
  (h:∀ h',Heap.SameBut a s.heap h'→SetT knd h' a a4→R (some true) { s with heap:=h' }) :
  wpAny (model prog w) A (do
   storeSet a a1 t1
   if (!dm && t1.tooFull) = true then do
    g (relayAll t1 a1 (SetTable.grown a1.size)).2.2
    storeSet a (relayAll t1 a1 (SetTable.grown a1.size)).1 (relayAll t1 a1 (SetTable.grown a1.size)).2.1
    pure (some true)
   else pure (some true)) R E s:=by
 refine hJ (wpAny_storeSet_of S.at' S.dat ?_ (fits_of_scanBound e5))
 obtain ⟨o1,S1⟩:=S.put e1 e2 e3 e4 e5 e6 e7
 have b1:=Heap.SameBut.update s.heap a (Obj.putSet a1 t1)
 by_cases c:(!dm && t1.tooFull) = true
 ·rw [if_pos c]
  have p2:=relayAll_perm t1 a1 (SetTable.grown a1.size)
  have f2:=relayAll_fits t1 a1 (SetTable.grown a1.size)
  have q2:=e7.relay a1 (SetTable.grown a1.size)
  generalize relayAll t1 a1 (SetTable.grown a1.size) = Rl at p2 f2 q2 ⊢
  obtain ⟨a5,t2,gv⟩:=Rl
  dsimp only at p2 f2 q2 ⊢
  obtain ⟨a6,pm,r2⟩:=Jc p2 e2
  have hz:a5.size = a1.size:=by have:=p2.length_eq; simpa using this
  refine hJ (hg _ _ _ ?_)
  refine hJ (wpAny_storeSet_of S1.at' S1.dat ?_ (fits_of_scanBound (by omega)))
  obtain ⟨o2,S2⟩:=S1.put (e1.perm p2) r2 (pm.nodup_iff.mpr e3) (λ k=>pm.mem_iff.trans (e4 k)) (by omega) f2 q2
  exact hW (h _ (b1.trans (Heap.SameBut.update _ a _)) ⟨_,_,_,_,_,S2⟩)
 ·rw [if_neg c]
  exact hW (h _ b1 ⟨_,_,_,_,_,S1⟩)
theorem Wx {Q:Bool→Shared→Prop} (hk:knd.is k x = true) (hx:x.scannable = true) (S:SetT knd s.heap a ks) (hr:ks.length + 1 < scanBound)
  (h:∀ b h',Heap.SameBut a s.heap h'→SetT knd h' a (ks ++ [k])→Q b { s with heap:=h' }):wpAny (model prog w) A (setAddHashed a x (knd.hash k)) Q E s:=by
 obtain ⟨o,es,ep,t,ms,D⟩:=S
 have hz:=D.size
 have a7:ms.length≤ks.length:=Ir D.nd λ k hk=>(D.mem k).mp hk
 unfold setAddHashed setAddHashedIn
 refine jV (hJ (wpAny_setState_of D.at' D.dat D.fit ?_))
 dsimp only
 rw [byScan_of hx D.sm D.el,if_pos rfl]
 unfold setAddByScan
 refine hJ (hJ (wpAny_rule (hJ (wpAny_setScan_of hk D.at' D.dat D.fit D.el ?_))))
 cases hf:List.findIdx? (λ e=>knd.is k e.2) es.toList with
 | some j =>
  dsimp only
  obtain ⟨hj,pj,_⟩:=List.findIdx?_eq_some_iff_getElem.mp hf
  have a6:k∈ms:=(AbN D.pr).mpr ⟨_,jJ hj,pj⟩
  refine hW (hW ?_)
  have q:=h false s.heap (Heap.SameBut.refl a s.heap) (SetT.congr ⟨o,es,ep,t,ms,D⟩ λ k'=>?_)
  ·cases s; exact q
  ·rw [iU,jD]
   exact ⟨.inl,λ z=>z.elim id λ z=>by subst z; exact (D.mem _).mp a6⟩
 | none =>
  dsimp only
  have a4:¬ k∈ms:=λ z=>by
   obtain ⟨e,he,q⟩:=(AbN D.pr).mp z
   have:=List.findIdx?_eq_none_iff.mp hf e he
   rw [q] at this; cases this
  have p1:=layNew_perm t es (knd.hash k) x
  have f1:=layNew_fits t es (knd.hash k) x
  have q1:=D.tab.layNew es (knd.hash k) x
  generalize layNew t es (knd.hash k) x = L at p1 f1 q1 ⊢
  obtain ⟨a5,t1,dm,gv⟩:=L
  dsimp only at p1 f1 q1 ⊢
  rw [Array.toList_push] at p1
  have e1:=(D.el.push hk hx).perm p1
  obtain ⟨a2,pm,r1⟩:=Jc p1 (D.pr.snoc (F:=λ (e:Int× Value) k=>knd.is k e.2 = true) hk)
  have z1:a5.size = es.size + 1:=by have:=p1.length_eq; simpa using this
  have e3:a2.Nodup:=pm.nodup_iff.mpr (nodup_append.mpr ⟨D.nd,by simp,λ y hy z hz=>by rw [jD] at hz; subst hz; exact λ e=>a4 (e ▸ hy)⟩)
  have e4:∀ k',k'∈a2↔k'∈ks ++ [k]:=λ k'=>by rw [pm.mem_iff,iU,iU,D.mem]
  have gw:∀ (b:Bool) (a1:Shared) (Q':Unit→Shared→Prop),Q' () a1→wpAny (model prog w) A (match b with | true=>rule "set.scan.the-table-gave-way" | false=>pure ()) Q' E a1:=λ b a1 Q' q=>by
   cases b
   ·exact hW q
   ·exact wpAny_rule q
  refine hJ (gw _ _ _ ?_)
  have a3:∀ h',Heap.SameBut a s.heap h'→SetT knd h' a (ks ++ [k])→wpAny (model prog w) A (pure true) Q E { s with heap:=h' }:=λ h' b S'=>hW (h true h' b S')
  split
  ·refine hJ ?_
   rw [hashByValue_scannable 8 hx]
   refine hW ?_
   refine Qw gw D e1 r1 e3 e4 (by omega) (by split; exact f1; exact SetTable.fits_plain_off f1) (by split; exact q1; exact q1.plainOff) ?_
   intro h' b S'
   exact a3 h' b S'
  ·refine hJ (hW ?_)
   rw [if_pos rfl]
   refine Qw gw D e1 r1 e3 e4 (by omega) f1 q1 ?_
   intro h' b S'
   exact a3 h' b S'
end
section
variable {prog:Program} {w:World} {κ:Type} [DecidableEq κ] {knd:PySem.KeyKind prog w κ}
theorem Zz {A:Around} {R:Result→Shared→Prop} {I:Addr} {fp wr:List Addr} {G:Array GenState→Array GenState→Prop} {n:Nat} {P:Nat→Value→Prop} {St:Nat→Shared→Prop} (W:WalksS prog w A.in1 I fp wr G n P St) (S:Addr) (a1:S∉fp)
  (ks:List κ) (hn:ks.length = n) (hv:∀ i v,P i v→∃ k,ks[i]? = some k∧knd.is k v = true∧v.scannable = true) (hb:n + 1 < scanBound) :
  ∀ (j i:Nat) (s:Shared),n - i = j→i≤n→St i s→SetT knd s.heap S (ks.take i)→(∀ s',Moved (S :: wr) G s s'→SetT knd s'.heap S ks→R (.ok (.ret .none)) s') →
   codeAny (model prog w) A (.builtin "set.update.loop" ⟨[.ref S,.ref I],[]⟩) R s:=by
 have a2:S∉wr:=λ h=>a1 (W.sub _ h)
 have sub:∀ b∈wr,b∈S :: wr:=λ b hb=>iF _ hb
 intro j
 induction j with
 | zero =>
  intro i s hj hi st hS hR
  have e:i = n:=by omega
  subst e
  refine codeAny_builtin PyProof.Rows.F.entry_set_update_loop ?_
  rw [Around.under_plainId PyProof.Rows.F.plain_set_update_loop _]
  refine hJ (m:=pyNext (.ref I)) (W.done s _ _ st λ s' mv=>?_)
  refine hW (hR s' (mv.mono sub) ?_)
  rw [iP (by omega)] at hS
  exact hS.keep λ o q=>mv.heap S o a2 q
 | succ j ih =>
  intro i s hj hi st hS hR
  have a3:i < n:=by omega
  refine codeAny_builtin PyProof.Rows.F.entry_set_update_loop ?_
  rw [Around.under_plainId PyProof.Rows.F.plain_set_update_loop _]
  refine hJ (m:=pyNext (.ref I)) (W.item i s _ _ a3 st λ v s' hP a7 mv=>?_)
  obtain ⟨k,ek,hk,hx⟩:=hv i v hP
  have a8:SetT knd s'.heap S (ks.take i):=hS.keep λ o q=>mv.heap S o a2 q
  show wpAny _ A.in1 (holding [v] (setAdd S v) >>= _) _ _ s'
  refine hJ (jV ?_)
  unfold setAdd
  refine jV (hJ (knd.pyHash (k:=k) hk ?_))
  refine Wx (s:={ s' with toks:=s'.toks + 1 }) hk hx a8 (by rw [jE]; omega) λ b h' sb S2=>?_
  have et:ks.take (i + 1) = ks.take i ++ [k]:=by rw [take_add_one,ek]; rfl
  refine hW ⟨plainId_quiet PyProof.Rows.F.plain_set_update_loop _,ih (i + 1) _ (by omega) a3 (W.frame _ s' _ _ a7 (le_succ _) λ b hb o q=>?_) (by rw [et]; exact S2) λ a6 a4 a5=>?_⟩
  ·exact (sb.2 b (λ z:b = S=>a1 (z ▸ hb))).trans q
  ·refine hR a6 (Moved.trans W.gtrans ((mv.mono sub).then_heap (le_succ _) λ b o hb q=>?_) a4) a5
   exact (sb.2 b (λ z:b = S=>hb (by rw [z]; exact iE))).trans q
variable {A:Around} {E:Value→Shared→Prop} {s:Shared}
abbrev setNew (w:World):Obj:={ cls:=.type "set", dict:=none,data:=.set #[] 0 (.fresh 0 0 (!w.params.followText "set-order")) }
theorem Ss (a:Value) {Q:Value→Shared→Prop} (h:Q (.ref s.heap.objs.size) { s with heap:=s.heap.push (setNew w) }) :
  codeAny (model prog w) A (.call (.builtin "set.__new__") ⟨[.type "set", a],[]⟩) (wants Q E) s:=by
 refine codeAny_of_tree ?_
 refine hJ (m:=checkBuiltinCall "set.__new__" ⟨[.type "set", a],[]⟩) (wpAny_of_eq (PySem.F.newCall_set_1 a) (hW ⟨plainId_quiet PySem.F.plain_set_new _,codeAny_builtin PySem.F.entry_set_new ?_⟩))
 rw [Around.under_plainId PySem.F.plain_set_new _]
 unfold Builtin.«set.__new__» Builtin.Frozenset.newClass
 have a1:=sub_set_self
 obtain ⟨hp,g,d,tk,os⟩:=s
 dsimp only
 wp_walk
 refine wpAny_askSetting (hW ?_)
 dsimp only
 simp only [newObj]
 refine hJ (wpAny_alloc (hW ?_))
 exact hW h
theorem W7 {h:Heap} {a:Addr} (e:h.get? a = some (setNew w)):SetT knd h a [] :=
 ⟨_,#[],0,_,[],e,⟨rfl,rfl,rfl⟩,Z,λ e he=>by simp at he,.nil,by simp,λ k=>Iff.rfl,by decide,Z,⟨Z,Z,by unfold Fc; exact .nil⟩⟩
end
section
variable {prog:Program} {w:World} {κ:Type} [DecidableEq κ] {knd:PySem.KeyKind prog w κ} {A:Around} {E:Value→Shared→Prop} {s:Shared}
def Jp (knd:PySem.KeyKind prog w κ) (s:Shared) (ks:List κ) (s2:Shared):Prop:=∃ h' tk,s2 = { s with heap:=h',toks:=tk }∧SetT knd h' s.heap.objs.size ks∧∀ b o,b < s.heap.objs.size→s.heap.get? b = some o→h'.get? b = some o
theorem Zn {l:Addr} {a1:Array Value} {ks:List κ} (hh:A.handled = none) (hl:s.heap.IsList l a1) (hn:ks.length = a1.size) (hv:∀ (i:Nat) (v:Value),a1[i]? = some v→∃ k,ks[i]? = some k∧knd.is k v = true∧v.scannable = true) (hb:a1.size + 1 < scanBound)
  {Q:Unit→Shared→Prop} (h:∀ s2,Jp knd s ks s2→Q () s2) :
  wpAny (model prog w) A (Builtin.Frozenset.updateFrom "set.__init__" s.heap.objs.size (.ref l)) Q E { s with heap:=s.heap.push (setNew w) }:=by
 obtain ⟨ol,hol,a4,nl,a9⟩:=id hl
 have a2:=Heap.get?_push_of_some (setNew w) hol
 have ty:Shared.TypeIs { s with heap:=s.heap.push (setNew w) } (.ref l) "list" := ⟨ol,a2,a4⟩
 have a3:l < s.heap.objs.size:=Heap.lt_size hol
 have a5:(s.heap.push (setNew w)).IsList l a1:=⟨_,a2,a4,nl,a9⟩
 have f1:=PySem.F.sub_list_set
 have f2:=PySem.F.sub_list_frozenset
 unfold Builtin.Frozenset.updateFrom
 refine hJ (m:=Builtin.Frozenset.isAnySet (.ref l)) ?_
 have e0:Builtin.Frozenset.isAnySet (.ref l) = (isInstance (.ref l) (.type "set") >>= λ b=>if b = true then pure true else isInstance (.ref l) (.type "frozenset")):=by
  unfold Builtin.Frozenset.isAnySet orM toBool
  congr 1
  funext b
  cases b <;> rfl
 rw [e0]
 refine hJ (wpAny_isInstance ty f1 ?_)
 rw [if_neg Bool.false_ne_true]
 refine wpAny_isInstance ty f2 ?_
 rw [if_neg Bool.false_ne_true]
 refine hJ (wpAny_typeOf ty ?_)
 rw [if_neg (by decide)]
 refine hJ (wpAny_pyIter_list a5 ?_)
 refine hJ (wpAny_runValue ?_)
 have b1:A.in1.handled = none:=hh
 have a8:l≠(s.heap.push (setNew w)).objs.size:=by rw [Heap.size_push]; exact jB (lt_succ_of_lt a3)
 have a6:s.heap.objs.size∉[(s.heap.push (setNew w)).objs.size,l]:=by
  rw [Heap.size_push]
  simp only [jK,jH,or_false,not_or]
  exact ⟨jB (lt_succ_self _),ne_of_gt a3⟩
 refine Zz (knd:=knd) ((Walks.list b1 _ l a8 a1).toS) s.heap.objs.size a6 ks hn hv hb (a1.size - 0) 0 _ (by omega) (jX _) ⟨⟨_,Heap.get?_push_size _ rfl,Z,Z⟩,a5.push _⟩ ?_ ?_
 ·exact W7 (Heap.get?_push_of_some _ (Heap.get?_push_size _ rfl))
 ·intro s' mv S'
  refine hW (h _ ⟨s'.heap,s'.toks,?_,S',λ b o hb e=>?_⟩)
  ·obtain ⟨h',g',d',b2,a7⟩:=s'
   have eg:g' = s.gens:=mv.gens
   have ed:d' = s.drawn:=mv.drawn
   have eo:a7 = s.os:=mv.os
   subst eg ed eo
   rfl
  ·refine mv.heap b o ?_ (Heap.get?_push_of_some _ (Heap.get?_push_of_some _ e))
   rw [Heap.size_push]
   simp only [jK,jH,or_false,not_or]
   exact ⟨jB hb,jB (lt_succ_of_lt hb)⟩
theorem Xg {l:Addr} {a1:Array Value} {ks:List κ} {Q:Value→Shared→Prop} (hh:A.handled = none) (hl:s.heap.IsList l a1) (hn:ks.length = a1.size) (hv:∀ (i:Nat) (v:Value),a1[i]? = some v→∃ k,ks[i]? = some k∧knd.is k v = true∧v.scannable = true)
  (hb:a1.size + 1 < scanBound) (h:∀ s2,Jp knd s ks s2→Q (.ref s.heap.objs.size) s2):wpAny (model prog w) A (call (.type "set") [.ref l]) Q E s:=by
 obtain ⟨c,tl,hm⟩:=PySem.F.called_set.mro
 have q1:=PySem.F.called_set.made
 have q2:=PySem.F.called_set.sub
 refine wpAny_call (codeAny_of_tree ?_)
 refine hW ⟨Code.quiet_builtin _ (by decide +kernel),codeAny_builtin PySem.F.entry_type_call ?_⟩
 rw [Around.under_plain (weight_type_call_type "set" [.ref l] []) rfl]
 have q3:=PySem.F.called_set.notType
 have q4:=PySem.F.called_set.canCreate
 have q5:=PySem.F.typeCall_set_1 (.ref l)
 repeat any_goals (first | wp_step | assumption)
 refine codeAny_mono (Ss (w:=w) (.ref l) (E:=E) (Q:=λ obj a4=>obj = .ref s.heap.objs.size∧a4 = { s with heap:=s.heap.push (setNew w) }) ⟨Z,Z⟩) λ r a4 hr=>?_
 cases r with
 | error e=>exact hr
 | ok fl =>
  cases fl with
  | ret obj =>
   obtain ⟨rfl,rfl⟩:=hr
   have hS:(s.heap.push (setNew w)).get? s.heap.objs.size = some (setNew w):=Heap.get?_push_size _ rfl
   have ty:Shared.TypeIs { s with heap:=s.heap.push (setNew w) } (.ref s.heap.objs.size) "set" := ⟨_,hS,Z⟩
   have q6:=PySem.F.called_set.init.lookup
   have q7:=PySem.F.called_set.init.bind (.ref s.heap.objs.size)
   repeat any_goals (first | wp_step | assumption)
   refine codeAny_mono (codeAny_call_builtin (R:=wants (λ r a3=>r = .none∧Jp knd s ks a3) E) PySem.F.called_set.init.plain PySem.F.entry_set_init (check_set_init_1 ty ?_)) λ a7 a3 a2=>?_
   ·unfold Builtin.«set.__init__» noKeywords
    generalize hU:Builtin.Frozenset.updateFrom = U
    have a6:wpAny (model prog w) A.in1.in1 (U "set.__init__" s.heap.objs.size (.ref l)) (λ _ s2=>Jp knd s ks s2) (λ e s'=>wants (λ r a3=>r = .none∧Jp knd s ks a3) E (.error e) s') { s with heap:=s.heap.push (setNew w) }:=by
     rw [← hU]
     exact Zn (A:=A.in1.in1) hh hl hn hv hb λ s2 m=>m
    wp_walk
    refine jU a6 (λ _ s2 m=>?_) λ _ _ q=>q
    exact hW ⟨Z,m⟩
   ·cases a7 with
    | error e=>exact a2
    | ok a5 =>
     cases a5 with
     | ret r =>
      obtain ⟨rfl,m⟩:=a2
      have z:=h _ m
      repeat any_goals (first | wp_step | assumption)
     | _=>exact a2.elim
  | _=>exact hr.elim
end
theorem B1:Slot "set_iterator" "__next__" "set_iterator.__next__" :=
 .of (owner:= "set_iterator") (n:= "__next__") (by rw [typeLookup_type,builtinLookup_eq_fast]; kernel_rfl) (by decide +kernel) (by decide +kernel) (by decide +kernel)
  (by first | exact .inl (by decide +kernel) | exact .inr (by decide +kernel)) (by rw [isSubtype_type]; kernel_rfl)
theorem Er:entryFor table "set_iterator.__next__" = some Builtin.«set_iterator.__next__»:=entryFor_of_tree (by kernel_rfl)
theorem M5:Manifest.owners.lookup (String.ofList ['r', 'o', 't', 'a', 'r', 'e', 't', 'i', '_', 't', 'e', 's'].reverse) = some Manifest.sig_set_iterator:=by kernel_rfl
theorem E5 (a:Value):argsOk "set_iterator.__next__" ⟨[a],[]⟩:=by
 unfold argsOk
 rw [signature?_of (id:= "set_iterator.__next__") (n:=['_', '_', 't', 'x', 'e', 'n', '_', '_']) (o:=['r', 'o', 't', 'a', 'r', 'e', 't', 'i', '_', 't', 'e', 's']) (by kernel_rfl) M5]
 kernel_rfl
theorem Oa:entryFor table "set.__iter__" = some Builtin.«frozenset.__iter__» :=
 entryFor_alias (id':= "frozenset.__iter__") (by kernel_rfl) rfl (by decide +kernel) (by kernel_rfl)
abbrev itObj (first:Value) (i:Nat) (a:Addr) (n ep:Nat):Obj:={ cls:=.type "set_iterator", dict:=none,data:=.fields #[first,.int i 0,.ref a,.int n 0,.int ep 0],slots:=#[] }
section
variable {prog:Program} {w:World} {A:Around} {E:Value→Shared→Prop} {s:Shared} {I a:Addr} {i n ep:Nat} {Q:Option Value→Shared→Prop}
theorem Rq {o:Obj} {vs:Array Value} {m:Nat} (hh:A.handled = none) (ho:s.heap.get? I = some o) (hd:o.data = .fields vs) (hm:m < vs.size) {R:PySem.Fin→Shared→Prop} {E':Value→Shared→Prop}
  (h:∀ x h',(⟨h',s.gens,s.drawn,s.toks,s.os⟩:Shared).TypeIs x "StopIteration" → Heap.ExtBut I s.heap h'→E' x { s with heap:=h' }) :
  wpAny (model prog w) A (do setField (.ref I) m .none; raiseNew (← newExc (.type "StopIteration") [])) R E' s:=by
 refine hJ (wpAny_setField ho hd hm ?_)
 refine hJ (m:=newExc (.type "StopIteration") []) ?_
 simp only [newExc,newTuple]
 refine hJ (wpAny_newObj_type ?_ (by size_fits))
 refine hJ (m:=firstArgMember _ _) (wpAny_of_eq (a:=Value.none) (by first | rfl | (simp only [firstArgMember]; rfl)) ?_)
 refine wpAny_newObj_type ?_ (by size_fits)
 simp only [raiseNew]
 refine hJ (wpAny_handled ?_)
 rw [hh]
 refine hJ (hW (wpAny_throw ?_))
 exact h _ _ ⟨_,Heap.get?_push_size _ rfl,Z⟩ (((Heap.SameBut.update ..).extBut.push _).push _)
theorem R5 {slot nx:Nat} {x:Value} (ho:s.heap.get? I = some (itObj (.int slot 0) i a n ep)) (hz:∀ (A:Around) (E:Value→Shared→Prop) (Q:Array (Int× Value)→Shared→Prop),(∀ es,es.size = n→Q es s)→wpAny (model prog w) A (setEntries a) Q E s)
  (hN:∀ (A:Around) (E:Value→Shared→Prop) (Q:Option (Value× Nat)→Shared→Prop),Q (some (x,nx)) s→wpAny (model prog w) A (setNext a slot i ep) Q E s)
  (hQ:∀ h',h'.get? I = some (itObj (.int nx 0) (i + 1) a n ep)→Heap.SameBut I s.heap h'→Q (some x) { s with heap:=h' }):wpAny (model prog w) A (pyNext (.ref I)) Q E s:=by
 have ty:s.TypeIs (.ref I) "set_iterator" := ⟨_,ho,Z⟩
 unfold pyNext
 refine hJ (wpAny_attempt (wpAny_callSpecial?_slot (name:=Str.ofString "__next__") ty B1 (jY B1 ty Er ?_ (E5 _))))
 unfold Builtin.«set_iterator.__next__»
 refine hJ (m:=slotArgs "__next__" 0 _) (hW ?_)
 refine hJ (wpAny_fieldsOf ho rfl ?_)
 show wpAny _ _ (setEntries a >>= _) _ _ s
 refine hJ (hz _ _ _ λ es e=>?_)
 rw [if_neg (by rw [e]; simp)]
 show wpAny _ _ (setNext a (slot:Int).toNat (i:Int).toNat (ep:Int).toNat >>= _) _ _ s
 simp only [Int.toNat_natCast]
 refine hJ (hN _ _ _ ?_)
 dsimp only
 refine hJ (jZ ho (by simp) λ h1 e1 b1=>?_)
 refine hJ (jZ (s:={ s with heap:=h1 }) e1 (by simp) λ h2 e2 b2=>?_)
 refine hW ⟨_,Z,hW (hQ h2 ?_ (b1.trans b2))⟩
 rw [e2]
 simp [rawInt]
theorem R8 {slot:Nat} (hh:A.handled = none) (ho:s.heap.get? I = some (itObj (.int slot 0) i a n ep)) (hz:∀ (A:Around) (E:Value→Shared→Prop) (Q:Array (Int× Value)→Shared→Prop),(∀ es,es.size = n→Q es s)→wpAny (model prog w) A (setEntries a) Q E s)
  (hN:∀ (A:Around) (E:Value→Shared→Prop) (Q:Option (Value× Nat)→Shared→Prop),Q none s→wpAny (model prog w) A (setNext a slot i ep) Q E s)
  (hQ:∀ h',Heap.ExtBut I s.heap h'→Q none { s with heap:=h' }):wpAny (model prog w) A (pyNext (.ref I)) Q E s:=by
 have ty:s.TypeIs (.ref I) "set_iterator" := ⟨_,ho,Z⟩
 unfold pyNext
 refine hJ (wpAny_attempt (wpAny_callSpecial?_slot (name:=Str.ofString "__next__") ty B1 (jY B1 ty Er ?_ (E5 _))))
 unfold Builtin.«set_iterator.__next__»
 refine hJ (m:=slotArgs "__next__" 0 _) (hW ?_)
 refine hJ (wpAny_fieldsOf ho rfl ?_)
 show wpAny _ _ (setEntries a >>= _) _ _ s
 refine hJ (hz _ _ _ λ es e=>?_)
 rw [if_neg (by rw [e]; simp)]
 show wpAny _ _ (setNext a (slot:Int).toNat (i:Int).toNat (ep:Int).toNat >>= _) _ _ s
 simp only [Int.toNat_natCast]
 refine hJ (hN _ _ _ ?_)
 dsimp only
 refine Rq (A:=A.in1) hh ho rfl (by simp) λ x h' a1 b=>?_
 refine hJ (wpAny_isInstance (T:= "StopIteration") (b:=true) a1 isSubtype_stop ?_)
 exact hW (hQ h' b)
theorem AaO {tp:Addr} {pl:List Nat} {q:Nat} {x:Value} {h0:Int} {a1:Array (Int× Value)} {t:SetTable} (ho:s.heap.get? I = some (itObj (.ref tp) i a n ep)) (a2:s.heap.get? tp = some { cls:=.type "tuple", data:=.seq (pl.map λ (p:Nat)=>rawInt p).toArray }) (hz:∀ (A:Around) (E:Value→Shared→Prop) (Q:Array (Int× Value)→Shared→Prop),(∀ es,es.size = n→Q es s)→wpAny (model prog w) A (setEntries a) Q E s)
  (hS:∀ (A:Around) (E:Value→Shared→Prop) (Q:Array (Int× Value)× Nat× SetTable→Shared→Prop),Q (a1,ep,t) s→wpAny (model prog w) A (setState a) Q E s)
  (hp:pl[i]? = some q) (hx:a1[q]? = some (h0,x)) (hQ:∀ h',h'.get? I = some (itObj (.ref tp) (i + 1) a n ep)→Heap.SameBut I s.heap h'→Q (some x) { s with heap:=h' }):wpAny (model prog w) A (pyNext (.ref I)) Q E s:=by
 have ty:s.TypeIs (.ref I) "set_iterator" := ⟨_,ho,Z⟩
 unfold pyNext
 refine hJ (wpAny_attempt (wpAny_callSpecial?_slot (name:=Str.ofString "__next__") ty B1 (jY B1 ty Er ?_ (E5 _))))
 unfold Builtin.«set_iterator.__next__»
 refine hJ (m:=slotArgs "__next__" 0 _) (hW ?_)
 refine hJ (wpAny_fieldsOf ho rfl ?_)
 show wpAny _ _ (setEntries a >>= _) _ _ s
 refine hJ (hz _ _ _ λ es e=>?_)
 rw [if_neg (by rw [e]; simp)]
 show wpAny _ _ (seqItems? (.ref tp) >>= _) _ _ s
 refine hJ (wpAny_seqItems a2 rfl ?_)
 dsimp only
 have hq:(pl.map λ (p:Nat)=>rawInt p).toArray[(i:Int).toNat]? = some (rawInt q):=by simp [hp]
 rw [hq]
 show wpAny _ _ (setNextDrawn a (q:Int).toNat (ep:Int).toNat >>= _) _ _ s
 simp only [Int.toNat_natCast]
 unfold setNextDrawn
 refine hJ (hJ (hS _ _ _ ?_))
 dsimp only
 rw [if_neg (by simp),hx]
 refine hW ?_
 refine hJ (jZ ho (by simp) λ h1 e1 b1=>?_)
 refine hW ⟨_,Z,hW (hQ h1 ?_ b1)⟩
 rw [e1]
 simp [rawInt]
theorem AaV {tp:Addr} {pl:List Nat} (hh:A.handled = none) (ho:s.heap.get? I = some (itObj (.ref tp) i a n ep)) (a1:s.heap.get? tp = some { cls:=.type "tuple", data:=.seq (pl.map λ (p:Nat)=>rawInt p).toArray }) (hz:∀ (A:Around) (E:Value→Shared→Prop) (Q:Array (Int× Value)→Shared→Prop),(∀ es,es.size = n→Q es s)→wpAny (model prog w) A (setEntries a) Q E s)
  (hp:pl[i]? = none) (hQ:∀ h',Heap.ExtBut I s.heap h'→Q none { s with heap:=h' }):wpAny (model prog w) A (pyNext (.ref I)) Q E s:=by
 have ty:s.TypeIs (.ref I) "set_iterator" := ⟨_,ho,Z⟩
 unfold pyNext
 refine hJ (wpAny_attempt (wpAny_callSpecial?_slot (name:=Str.ofString "__next__") ty B1 (jY B1 ty Er ?_ (E5 _))))
 unfold Builtin.«set_iterator.__next__»
 refine hJ (m:=slotArgs "__next__" 0 _) (hW ?_)
 refine hJ (wpAny_fieldsOf ho rfl ?_)
 show wpAny _ _ (setEntries a >>= _) _ _ s
 refine hJ (hz _ _ _ λ es e=>?_)
 rw [if_neg (by rw [e]; simp)]
 show wpAny _ _ (seqItems? (.ref tp) >>= _) _ _ s
 refine hJ (wpAny_seqItems a1 rfl ?_)
 dsimp only
 have hq:(pl.map λ (p:Nat)=>rawInt p).toArray[(i:Int).toNat]? = none:=by simpa using hp
 rw [hq]
 dsimp only
 refine hJ (jZ ho (by simp) λ h1 e1 b1=>?_)
 refine Rq (s:={ s with heap:=h1 }) (A:=A.in1) hh e1 rfl (by simp) λ x h' a2 b=>?_
 refine hJ (wpAny_isInstance (T:= "StopIteration") (b:=true) a2 isSubtype_stop ?_)
 exact hW (hQ h' λ b' o' hb e=>b b' o' hb (b1.extBut b' o' hb e))
end
theorem Jk:Slot "set_iterator" "__iter__" "set_iterator.__iter__" :=
 .of (owner:= "set_iterator") (n:= "__iter__") (by rw [typeLookup_type,builtinLookup_eq_fast]; kernel_rfl) (by decide +kernel) (by decide +kernel) (by decide +kernel)
  (by first | exact .inl (by decide +kernel) | exact .inr (by decide +kernel)) (by rw [isSubtype_type]; kernel_rfl)
theorem Mu:entryFor table "set_iterator.__iter__" = some Builtin.«dict_keyiterator.__iter__» :=
 entryFor_alias (id':= "dict_keyiterator.__iter__") (by kernel_rfl) rfl (by decide +kernel) (by kernel_rfl)
theorem Oi (a:Value):argsOk "set_iterator.__iter__" ⟨[a],[]⟩:=by
 unfold argsOk
 rw [signature?_of (id:= "set_iterator.__iter__") (n:=['_', '_', 'r', 'e', 't', 'i', '_', '_']) (o:=['r', 'o', 't', 'a', 'r', 'e', 't', 'i', '_', 't', 'e', 's']) (by kernel_rfl) M5]
 kernel_rfl
section
variable {prog:Program} {w:World} {κ:Type} [DecidableEq κ] {knd:PySem.KeyKind prog w κ} {A:Around} {E:Value→Shared→Prop} {s:Shared} {a I:Addr} {ks:List κ} {o:Obj} {es:Array (Int× Value)} {ep:Nat} {t:SetTable} {ms:List κ}
theorem K1 {Q:Value→Shared→Prop} (ty:s.TypeIs (.ref I) "set_iterator") (h:Q (.ref I) s):wpAny (model prog w) A (pyIter (.ref I)) Q E s:=by
 refine wpAny_pyIter_slot ty Jk (jY Jk ty Mu ?_ (Oi _))
 show wpAny _ _ (ret (.ref I)) _ _ s
 exact hW ⟨_,Z, "set_iterator", _,ty,B1.lookup,h⟩
theorem Lj {Q:Bool→Shared→Prop} (h:Q (w.params.followText "set-order") s):wpAny (model prog w) A setsByText Q E s:=by
 unfold setsByText
 exact hJ (wpAny_askSetting (hW h))
theorem C4.state (D:C4 knd s.heap a ks o es ep t ms) {Q:Array (Int× Value)× Nat× SetTable→Shared→Prop} (h:Q (es,ep,t) s):wpAny (model prog w) A (setState a) Q E s:=wpAny_setState_of D.at' D.dat D.fit h
theorem C4.entries (D:C4 knd s.heap a ks o es ep t ms) {Q:Array (Int× Value)→Shared→Prop} (h:Q es s):wpAny (model prog w) A (setEntries a) Q E s:=by
 unfold setEntries
 exact hJ (D.state (hW h))
theorem Pl (D:C4 knd s.heap a ks o es ep t ms) (ft:w.params.followText "set-order" = true) {slot given:Nat} {Q:Option (Value× Nat)→Shared→Prop} (h:Q (((pickOrder (w.params.setOrder a ep) es)[given]?).map λ e=>(e.2,slot)) s) :
  wpAny (model prog w) A (setNext a slot given ep) Q E s:=by
 unfold setNext
 refine hJ (D.state ?_)
 dsimp only
 refine hJ (Lj ?_)
 rw [if_pos ft,if_neg (by simp)]
 refine hJ ?_
 unfold setWalk
 refine hJ (D.state ?_)
 dsimp only
 refine hJ (Lj ?_)
 rw [if_pos ft]
 refine hJ (wpAny_askSetting (hW ?_))
 exact hW h
theorem Nl (D:C4 knd s.heap a ks o es ep t ms) (ft:w.params.followText "set-order" = false) (hd:(!t.plain && decide (es.size > 1)) = false) {slot given:Nat} {Q:Option (Value× Nat)→Shared→Prop}
  (h:Q (match es[SetTable.below t.place slot]?,t.place[SetTable.below t.place slot]? with | some (_,x),some j=>some (x,j + 1) | _,_=>none) s) :
  wpAny (model prog w) A (setNext a slot given ep) Q E s:=by
 have hl:t.led = true:=by rw [D.tab.led,ft]; rfl
 unfold setNext
 refine hJ (D.state ?_)
 dsimp only
 refine hJ (Lj ?_)
 rw [if_neg (by rw [ft]; exact Bool.false_ne_true)]
 show wpAny _ _ (if (!t.plain && decide (es.size > 1)) = true then _ else _) _ _ s
 rw [hd,if_neg Bool.false_ne_true]
 refine hJ ?_
 show wpAny _ _ (if (!t.led && !es.isEmpty) = true then _ else _) _ _ s
 rw [hl]
 exact hW (hW h)
end
def Ld (pl:Array Nat):Nat→Nat
 | 0=>0
 | i + 1=>pl.getD i 0 + 1
theorem Nq {pl:Array Nat} (h:Fc pl) {i:Nat} (hi:i≤pl.size):SetTable.below pl (Ld pl i) = i:=by
 cases i with
 | zero=>exact Vn h
 | succ i =>
  have e:pl.getD i 0 = pl[i]:=by simp [Array.getD,show i < pl.size by omega]
  show SetTable.below pl (pl.getD i 0 + 1) = i + 1
  rw [e]
  exact Vw h (by omega)
section
variable {prog:Program} {w:World} {κ:Type} [DecidableEq κ] {knd:PySem.KeyKind prog w κ} {A:Around} {E:Value→Shared→Prop} {s:Shared} {a I:Addr} {ks:List κ} {o:Obj} {es:Array (Int× Value)} {ep:Nat} {t:SetTable} {ms:List κ}
theorem Hm (D:C4 knd s.heap a ks o es ep t ms):∀ (A:Around) (E:Value→Shared→Prop) (Q:Array (Int× Value)→Shared→Prop),(∀ a1,a1.size = es.size→Q a1 s)→wpAny (model prog w) A (setEntries a) Q E s:=λ _ _ _ q=>D.entries (q es rfl)
theorem Zf {h0:Heap} (D:C4 knd h0 a ks o es ep t ms) (ft:w.params.followText "set-order" = true) (hh:A.handled = none) (a1:a≠I) :
  Walks prog w A I [I,a] [I] es.size (λ i v=>((pickOrder (w.params.setOrder a ep) es).toList.map (·.2))[i]? = some v) (λ i h=>h.get? I = some (itObj (.int (0:Nat) 0) i a es.size ep)∧h.get? a = some o) where
 sub:=λ b hb=>by simp at hb; simp [hb]
 frame:=λ _ _ _ st hk=>⟨hk I (by simp) _ st.1,hk a (by simp) _ st.2⟩
 item:=λ i s Q E hi st hQ=>by
  have D':=D.keep st.2
  have hp:=(Kw (w.params.setOrder a ep) es).length_eq
  have hl:i < (pickOrder (w.params.setOrder a ep) es).size:=by simp at hp; omega
  refine R5 (x:=((pickOrder (w.params.setOrder a ep) es)[i]).2) (nx:=0) st.1 (Hm D') (λ _ _ _ q=>Pl D' ft (by rw [Array.getElem?_eq_getElem hl]; exact q)) λ h' e1 b1=>?_
  exact hQ _ h' s.toks (by simp [hl]) ⟨e1,(b1.2 a a1).trans st.2⟩ λ b u hb e=>b1.extBut b u (λ z=>hb (by simp [z])) e
 done:=λ s Q E st hQ=>by
  have D':=D.keep st.2
  have hp:=(Kw (w.params.setOrder a ep) es).length_eq
  have hl:¬ es.size < (pickOrder (w.params.setOrder a ep) es).size:=by simp at hp; omega
  refine R8 hh st.1 (Hm D') (λ _ _ _ q=>Pl D' ft (by rw [Array.getElem?_eq_none (by omega)]; exact q)) λ h' b1=>?_
  exact hQ h' s.toks λ b u hb e=>b1 b u (λ z=>hb (by simp [z])) e
 self:=λ _ s _ _ st hQ=>K1 ⟨_,st.1,Z⟩ hQ
theorem Vv {h0:Heap} (D:C4 knd h0 a ks o es ep t ms) (ft:w.params.followText "set-order" = false) (hd:(!t.plain && decide (es.size > 1)) = false) (hh:A.handled = none) (a1:a≠I) :
  Walks prog w A I [I,a] [I] es.size (λ i v=>(es.toList.map (·.2))[i]? = some v) (λ i h=>i≤es.size∧h.get? I = some (itObj (.int (Ld t.place i) 0) i a es.size ep)∧h.get? a = some o) where
 sub:=λ b hb=>by simp at hb; simp [hb]
 frame:=λ _ _ _ st hk=>⟨st.1,hk I (by simp) _ st.2.1,hk a (by simp) _ st.2.2⟩
 item:=λ i s Q E hi st hQ=>by
  have D':=D.keep st.2.2
  have hz:t.place.size = es.size:=by have:=D.fit; simp only [SetTable.fits,Bool.and_eq_true,beq_iff_eq] at this; exact this.1
  refine R5 (x:=es[i].2) (nx:=Ld t.place (i + 1)) st.2.1 (Hm D') (λ _ _ _ q=>Nl D' ft hd (by
   rw [Nq D.tab.rise (by omega),Array.getElem?_eq_getElem hi,Array.getElem?_eq_getElem (by omega)]
   have e:Ld t.place (i + 1) = t.place[i]'(by omega) + 1:=by simp [Ld,Array.getD,show i < t.place.size by omega]
   rw [e] at q
   exact q)) λ h' e1 b1=>?_
  exact hQ _ h' s.toks (by simp [hi]) ⟨hi,e1,(b1.2 a a1).trans st.2.2⟩ λ b u hb e=>b1.extBut b u (λ z=>hb (by simp [z])) e
 done:=λ s Q E st hQ=>by
  have D':=D.keep st.2.2
  have hz:t.place.size = es.size:=by have:=D.fit; simp only [SetTable.fits,Bool.and_eq_true,beq_iff_eq] at this; exact this.1
  refine R8 hh st.2.1 (Hm D') (λ _ _ _ q=>Nl D' ft hd (by
   rw [Nq D.tab.rise (by omega),Array.getElem?_eq_none (by omega)]
   exact q)) λ h' b1=>?_
  exact hQ h' s.toks λ b u hb e=>b1 b u (λ z=>hb (by simp [z])) e
 self:=λ _ s _ _ st hQ=>K1 ⟨_,st.2.1,Z⟩ hQ
abbrev Mr (pl:List Nat):Obj:={ cls:=.type "tuple", data:=.seq (pl.map λ (p:Nat)=>rawInt p).toArray }
theorem Wz {h0:Heap} {tp:Addr} {pl:List Nat} (D:C4 knd h0 a ks o es ep t ms) (hp:pl.Perm (List.range es.size)) (hh:A.handled = none) (a1:a≠I) (a2:tp≠I) :
  Walks prog w A I [I,a,tp] [I] es.size (λ i v=>(pl.map λ p=>((es[p]?).map (·.2)).getD .none)[i]? = some v) (λ i h=>h.get? I = some (itObj (.ref tp) i a es.size ep)∧h.get? a = some o∧h.get? tp = some (Mr pl)) where
 sub:=λ b hb=>by simp at hb; simp [hb]
 frame:=λ _ _ _ st hk=>⟨hk I (by simp) _ st.1,hk a (by simp) _ st.2.1,hk tp (by simp) _ st.2.2⟩
 item:=λ i s Q E hi st hQ=>by
  have D':=D.keep st.2.1
  have hl:i < pl.length:=by rw [hp.length_eq,jF]; exact hi
  have hm:pl[i] < es.size:=by have:=hp.mem_iff.mp (jJ hl); simpa using this
  refine AaO (q:=pl[i]) (h0:=(es[pl[i]]).1) (x:=(es[pl[i]]).2) st.1 st.2.2 (Hm D') (λ _ _ _ q=>D'.state q) (hX hl) (by rw [Array.getElem?_eq_getElem hm]) λ h' e1 b1=>?_
  refine hQ _ h' s.toks ?_ ⟨e1,(b1.2 a a1).trans st.2.1,(b1.2 tp a2).trans st.2.2⟩ λ b u hb e=>b1.extBut b u (λ z=>hb (by simp [z])) e
  rw [iH,hX hl,Option.map_some,Array.getElem?_eq_getElem hm]
  rfl
 done:=λ s Q E st hQ=>by
  have D':=D.keep st.2.1
  refine AaV hh st.1 st.2.2 (Hm D') (getElem?_eq_none (by rw [hp.length_eq,jF]; exact iX _)) λ h' b1=>?_
  exact hQ h' s.toks λ b u hb e=>b1 b u (λ z=>hb (by simp [z])) e
 self:=λ _ s _ _ st hQ=>K1 ⟨_,st.1,Z⟩ hQ
theorem Ve {pl:List Nat} (hp:pl.Perm (List.range es.size)):(pl.map λ p=>((es[p]?).map (·.2)).getD .none).Perm (es.toList.map (·.2)):=by
 refine (hp.map _).trans ?_
 rw [show (List.range es.size).map (λ p=>((es[p]?).map (·.2)).getD Value.none) = es.toList.map (·.2) from ?_]
 refine ext_getElem (by simp) λ i h1 h2=>?_
 simp at h1
 simp [h1]
theorem Zs {Q:Value→Shared→Prop} (D:C4 knd s.heap a ks o es ep t ms)
  (h:∀ (h':Heap) (d:Drawn) (I:Addr) (fp:List Addr) (vs:List Value) (St:Nat→Heap→Prop),(∀ b u,s.heap.get? b = some u→h'.get? b = some u)→vs.Perm (es.toList.map (·.2))→s.heap.objs.size≤I→(∀ b∈fp,b = a∨s.heap.objs.size≤b) →
   (∀ A':Around,A'.handled = none→Walks prog w A' I fp [I] es.size (λ i v=>vs[i]? = some v) St)→St 0 h'→Q (.ref I) { s with heap:=h',drawn:=d }):wpAny (model prog w) A (pyIter (.ref a)) Q E s:=by
 have ty:s.TypeIs (.ref a) "set" := ⟨o,D.at',D.ex.1⟩
 have a3:a < s.heap.objs.size:=Heap.lt_size D.at'
 have a2:a≠s.heap.objs.size:=jB a3
 refine wpAny_pyIter_slot ty PySem.F.slot_set_iter (jY PySem.F.slot_set_iter ty Oa ?_ (PySem.F.args_set_iter_1 _))
 unfold Builtin.«frozenset.__iter__» Builtin.Frozenset.slot0
 refine hJ (hJ (m:=slotArgs "__iter__" 0 _) (hW ?_))
 refine wpAny_of_eq (a:=a) rfl ?_
 refine hJ (m:=Builtin.Frozenset.sizeOf a) ?_
 unfold Builtin.Frozenset.sizeOf
 refine hJ (D.entries (hW ?_))
 refine hJ (m:=setDrawn a) ?_
 unfold setDrawn
 refine hJ (D.state ?_)
 dsimp only
 refine hJ (Lj (hW ?_))
 have a1:∀ (first:Value) (s1:Shared) (D1:C4 knd s1.heap a ks o es ep t ms) (hk:Q (.ref s1.heap.objs.size) { s1 with heap:=s1.heap.push (itObj first 0 a es.size ep) }),wpAny (model prog w) A.in1 (do
   ret (← newFields "set_iterator" [first,rawInt 0,.ref a,rawInt es.size,rawInt (← setEpoch a)])) (λ a1 s'=>∃ v,a1 = .done (.ret v)∧∃ T' r,s'.TypeIs v T'∧typeLookup (.type T') "__next__" = pure (some r)∧Q v s') E s1:=by
  intro first s1 D1 hk
  refine hJ (wpAny_setEpoch_of D1.at' D1.dat D1.fit ?_)
  refine hJ (wpAny_newObj_type ?_ (by size_fits))
  exact hW ⟨_,Z, "set_iterator", _,⟨_,Heap.get?_push_size _ rfl,Z⟩,B1.lookup,hk⟩
 cases ft:w.params.followText "set-order" with
 | true =>
  rw [show (!true && _) = false from rfl,if_neg Bool.false_ne_true]
  refine hJ (hW ?_)
  refine a1 _ s D ?_
  exact h _ s.drawn s.heap.objs.size _ _ _ (λ b u e=>Heap.get?_push_of_some _ e) ((Kw (w.params.setOrder a ep) es).map _) (iX _) (λ b hb=>by simp at hb; rcases hb with z | z; exact .inr (le_of_eq z.symm); exact .inl z)
   (λ A' hA=>Zf D ft hA a2) ⟨Heap.get?_push_size _ rfl,Heap.get?_push_of_some _ D.at'⟩
 | false =>
  cases hd:(!t.plain && decide (es.size > 1)) with
  | false =>
   show wpAny _ _ (if (!false && (!t.plain && decide (es.size > 1))) = true then _ else _) _ _ s
   rw [hd,show (!false && false) = false from rfl,if_neg Bool.false_ne_true]
   refine hJ (hW ?_)
   refine a1 _ s D ?_
   exact h _ s.drawn s.heap.objs.size _ _ _ (λ b u e=>Heap.get?_push_of_some _ e) (.refl _) (iX _) (λ b hb=>by simp at hb; rcases hb with z | z; exact .inr (le_of_eq z.symm); exact .inl z)
    (λ A' hA=>Vv D ft hd hA a2) ⟨jX _,Heap.get?_push_size _ rfl,Heap.get?_push_of_some _ D.at'⟩
  | true =>
   show wpAny _ _ (if (!false && (!t.plain && decide (es.size > 1))) = true then _ else _) _ _ s
   rw [hd,show (!false && true) = true from rfl,if_pos rfl]
   refine hJ (Abc es.size (List.range es.size) s _ (by simp) λ pl d hp=>?_)
   have a4:pl.length = es.size:=by rw [hp.length_eq,jF]
   refine hJ (wpAny_newTuple ?_ (by rw [hZ,a4]; exact fits_of_scanBound D.sm))
   refine a1 _ ⟨s.heap.push (Mr pl),s.gens,d,s.toks,s.os⟩ (D.keep (Heap.get?_push_of_some _ D.at')) ?_
   have hI:(s.heap.push (Mr pl)).objs.size = s.heap.objs.size + 1:=Heap.size_push _ _
   refine h _ d (s.heap.push (Mr pl)).objs.size _ _ _ (λ b u e=>Heap.get?_push_of_some _ (Heap.get?_push_of_some _ e)) (Ve hp) (by rw [hI]; exact le_succ _) (λ b hb=>?_)
    (λ A' hA=>Wz (tp:=s.heap.objs.size) D hp hA (by rw [hI]; exact jB (lt_succ_of_lt a3)) (by rw [hI]; exact jB (lt_succ_self _))) ⟨Heap.get?_push_size _ rfl,Heap.get?_push_of_some _ (Heap.get?_push_of_some _ D.at'),Heap.get?_push_of_some _ (Heap.get?_push_size _ rfl)⟩
   simp at hb
   rcases hb with z | z | z
   ·exact .inr (by rw [z]; exact le_succ _)
   ·exact .inl z
   ·exact .inr (le_of_eq z.symm)
end
section
variable {prog:Program} {w:World} {κ:Type} [DecidableEq κ] {knd:PySem.KeyKind prog w κ} {A:Around} {E:Value→Shared→Prop} {s:Shared} {a I:Addr} {ks:List κ} {o:Obj} {es:Array (Int× Value)} {ep:Nat} {t:SetTable} {ms:List κ}
theorem Z9 {Q:Bool→Shared→Prop} (ty:s.TypeIs (.ref a) "set") (h:Q false s):wpAny (model prog w) A (Builtin.List.listLengthHint (.ref a)) Q E s:=by
 unfold Builtin.List.listLengthHint
 refine hJ (wpAny_specialOf ty PySem.F.slot_set_len.lookup ?_)
 generalize e:("set.__len__" : String) = nm
 wp_delta
 rw [show splitId nm = some ("set", "__len__") from by subst e; decide +kernel]
 subst e
 refine hJ (wpAny_isInstance (T:= "set") (b:=true) ty sub_set_self ?_)
 refine wpAny_ite_split (λ c=>absurd c (by decide)) λ _=>?_
 refine wpAny_ite_split (λ _=>?_) λ c=>absurd (by decide +kernel) c
 exact hJ (wpAny_typeOf ty (hW h))
theorem Aa0 {vs:List Value} {a1:Array Value} {n:Nat} (hn:vs.length = n) (h:ItemsOf (λ i v=>vs[i]? = some v) a1 n):a1.toList = vs:=by
 refine ext_getElem (by rw [Array.length_toList,h.1,hn]) λ i h1 h2=>?_
 have q:vs[i]? = some (a1.toList[i]):=h.2 i (a1.toList[i]) (by simp at h1; simp [h1])
 rw [hX h2] at q
 exact (Option.some.inj q).symm
theorem Wt {R:Result→Shared→Prop} (D:C4 knd s.heap a ks o es ep t ms) (hh:A.handled = none) (S:Addr) (a5:S≠a) (res:Value) (hS:s.heap.get? S = some { cls:=.type "list", data:=.seq #[] })
  (h:∀ h' tk d a1 c',(∀ b u,b≠S→s.heap.get? b = some u→h'.get? b = some u)→h'.get? S = some { cls:=.type "list", dict:=none,data:=.seq a1 c',slots:=#[] }→a1.toList.Perm (es.toList.map (·.2))→R (.ok (.ret res)) { s with heap:=h',drawn:=d,toks:=tk }) :
  wpAny (model prog w) A.in1 (Builtin.List.listExtendWith (.ref S) (.ref a) res)
   (λ b3 s'=>match b3 with | .done f=>R (.ok f) s' | .again c'=>c'.quiet = true∧codeAny (model prog w) A c' R s') (λ e s'=>R (.error e) s') s:=by
 have ty:s.TypeIs (.ref a) "set" := ⟨o,D.at',D.ex.1⟩
 have b2:S < s.heap.objs.size:=Heap.lt_size hS
 unfold Builtin.List.listExtendWith
 refine hJ (wpAny_typeOf ty ?_)
 have e1:Builtin.List.listSameRef (.ref S) (.ref a) = false:=by simp [Builtin.List.listSameRef,a5]
 rw [e1]
 rw [if_neg (by decide)]
 refine hJ (Zs D λ h1 d I fp vs St k1 pv hI b7 W st=>?_)
 have a4:S∉fp:=λ z=>by
  rcases b7 S z with q | q
  ·exact a5 q
  ·exact absurd q (Nat.not_le.mpr b2)
 have a9:vs.length = es.size:=by rw [pv.length_eq]; simp
 have go:∀ (h2:Heap) (c tk:Nat),St 0 h2→(∀ b u,b≠S→s.heap.get? b = some u→h2.get? b = some u)→h2.get? S = some { cls:=.type "list", data:=.seq #[] c } →
   codeAny (model prog w) A (.builtin "list.extend.loop" ⟨[.ref S,.ref I,res],[]⟩) R { s with heap:=h2,drawn:=d,toks:=tk }:=by
  intro h2 c tk b1 k2 a2
  refine codeAny_extend_loopS (W A.in1 hh).toS (fits_of_scanBound D.sm) S a4 res es.size 0 _ #[] c rfl (jX _) b1 a2 (ItemsOf.nil _) λ s' a1 c' mv b6 a7=>?_
  have ee:=Aa0 a9 a7
  obtain ⟨h',g',d',b5,a8⟩:=s'
  have eg:g' = s.gens:=mv.gens
  have ed:d' = d:=mv.drawn
  have eo:a8 = s.os:=mv.os
  subst eg ed eo
  refine h h' b5 _ a1 c' (λ b u hb e=>mv.heap b u (λ z=>?_) (k2 b u hb e)) b6 (by rw [ee]; exact pv)
  rcases jK.mp z with z | z
  ·exact hb z
  ·rw [jD] at z
   exact absurd (Heap.lt_size e) (by rw [z]; exact not_lt.mpr hI)
 have a3:=k1 _ _ hS
 refine hJ (jV (Z9 ⟨o,k1 _ _ D.at',D.ex.1⟩ ?_))
 refine wpAny_ite_split (λ _=>?_) λ _=>hW ⟨plainId_quiet PySem.F.plain_extend_loop _,go _ _ _ st (λ b u _ e=>k1 b u e) a3⟩
 refine hJ (wpAny_rule ?_)
 refine hJ ?_
 show wpAny _ _ (updateSeq S (·.push .none) >>= λ _=>updateSeq S (·.pop)) _ _ _
 refine hJ (wpAny_updateSeq a3 rfl ?_)
 have a2:=Heap.get?_update_self (Obj.mapSeq (·.push Value.none)) a3 rfl
 refine wpAny_updateSeq (hz:=by seq_fits) a2 rfl ?_
 have b4:=Heap.get?_update_self (Obj.mapSeq (·.pop)) a2 rfl
 have a6:∀ b u,b≠S→h1.get? b = some u→((h1.update S (Obj.mapSeq (·.push Value.none))).update S (Obj.mapSeq (·.pop))).get? b = some u:=λ b u hb e =>
  (Heap.get?_update_other _ _ (Ne.symm hb)).trans ((Heap.get?_update_other _ _ (Ne.symm hb)).trans e)
 exact hW ⟨plainId_quiet PySem.F.plain_extend_loop _,go _ _ _ ((W A.in1 hh).frame 0 _ _ st λ b hb u e=>a6 b u (λ z=>a4 (z ▸ hb)) e) (λ b u hb e=>a6 b u hb (k1 b u e)) b4⟩
theorem Sf {R:List Value→Shared→Prop} (D:C4 knd s.heap a ks o es ep t ms) (hh:A.handled = none)
  (h:∀ (h':Heap) (tk:Nat) (d:Drawn) (vs:List Value),(∀ b u,s.heap.get? b = some u→h'.get? b = some u)→s.heap.objs.size≤h'.objs.size→vs.Perm (es.toList.map (·.2))→R vs { s with heap:=h',drawn:=d,toks:=tk }) :
  wpAny (model prog w) A (collect (.ref a)) R E s:=by
 unfold collect
 refine hJ (wpAny_runValue (codeAny_builtin entry_proto_collect' ?_))
 rw [Around.under_plainId PySem.F.plain_proto_collect _]
 refine hJ (m:=newList []) (wpAny_newObj_type ?_)
 refine hW ⟨plainId_quiet PySem.F.plain_list_iadd _,codeAny_builtin entry_list_iadd' ?_⟩
 rw [Around.under_plainId PySem.F.plain_list_iadd _]
 have hS:(s.heap.push { cls:=.type "list", data:=.seq ([]:List Value).toArray }).get? s.heap.objs.size = some { cls:=.type "list", data:=.seq #[] }:=Heap.get?_push_size _ rfl
 show wpAny _ A.in1 (Builtin.List.listExtendWith (.ref s.heap.objs.size) (.ref a) (.ref s.heap.objs.size)) _ _ _
 have a2:=Wt (A:=A) (s:={ s with heap:=s.heap.push { cls:=.type "list", data:=.seq ([]:List Value).toArray } })
  (R:=λ (q:Result) (s':Shared)=>∃ h' tk d a1 c',q = .ok (.ret (.ref s.heap.objs.size))∧s' = { s with heap:=h',drawn:=d,toks:=tk }∧(∀ b u,s.heap.get? b = some u→h'.get? b = some u) ∧
   h'.get? s.heap.objs.size = some { cls:=.type "list", dict:=none,data:=.seq a1 c',slots:=#[] }∧a1.toList.Perm (es.toList.map (·.2)))
  (D.keep (Heap.get?_push_of_some _ D.at')) hh s.heap.objs.size (ne_of_gt (Heap.lt_size D.at')) (.ref s.heap.objs.size) hS
  (λ h' tk d a1 c' k1 e1 p1=>⟨h',tk,d,a1,c',Z,Z,λ b u e=>k1 b u (jB (Heap.lt_size e)) (Heap.get?_push_of_some _ e),e1,p1⟩)
 refine jU a2 (λ a3 s' x=>?_) λ e s' x=>?_
 ·cases a3 with
  | done f =>
   obtain ⟨h',tk,d,a1,c',e,rfl,k1,e1,p1⟩:=x
   cases e
   exact hJ (m:=load s.heap.objs.size) (wpAny_load e1 (hW (h h' tk d a1.toList k1 (le_of_lt (Heap.lt_size e1)) p1)))
  | again a4 =>
   refine ⟨x.1,codeAny_mono x.2 λ q a5 y=>?_⟩
   obtain ⟨h',tk,d,a1,c',rfl,rfl,k1,e1,p1⟩:=y
   exact hJ (m:=load s.heap.objs.size) (wpAny_load e1 (hW (h h' tk d a1.toList k1 (le_of_lt (Heap.lt_size e1)) p1)))
 ·obtain ⟨_,_,_,_,_,z,_⟩:=x
  cases z
end
section
variable {prog:Program} {w:World} {A:Around} {E:Value→Shared→Prop} {s:Shared} {a:Addr} {ks:List Int}
theorem AcJ {vs:List Value} {ns:List Int} (h:PySem.Paired (λ v n=>∃ t,v = Value.int n t) vs ns):IntsAre vs ns:=by
 induction h with
 | nil=>exact .nil
 | cons f _ ih =>
  obtain ⟨t,rfl⟩:=f
  exact .cons _ t ih
theorem Wg {Q:Value→Shared→Prop} (S:SetT (intKind prog w) s.heap a ks) (hh:A.handled = none) (a8:ks.length < 64)
  (h:∀ (h':Heap) (tk:Nat) (d:Drawn) (L:Addr) (a4:Array Value) (c:Nat) (ns:List Int),(∀ b u,s.heap.get? b = some u→h'.get? b = some u)→s.heap.objs.size≤L→h'.get? L = some (seqObj "list" a4 c)→IntsAre a4.toList ns→ns.Pairwise (· < ·)→(∀ k,k∈ns↔k∈ks) →
   Q (.ref L) { s with heap:=h',drawn:=d,toks:=tk }):wpAny (model prog w) A (call (.builtin "sorted") [.ref a]) Q E s:=by
 obtain ⟨o,es,ep,t,ms,D⟩:=S
 refine Calls.call_function_entry kind_sorted plain_sorted entry_sorted (args_sorted1 _) ?_
 unfold Builtin.«sorted»
 refine hJ (m:=checkCount "sorted" 1 1 _) (hW ?_)
 refine hJ (Sf (A:=A.in1) D hh λ h1 tk d vs k1 hsz pv=>?_)
 have pr:PySem.Paired (λ v n=>∃ t,v = Value.int n t) (es.toList.map (·.2)) ms:=by
  have:=D.pr
  generalize es.toList = l at this
  clear pv D
  induction this with
  | nil=>exact .nil
  | cons f _ ih=>exact .cons (Value.isInt_shape f) ih
 obtain ⟨ns,pn,r1⟩:=Jc pv pr
 have hI:=AcJ r1
 have a6:vs.length < 64:=by
  have h1:ms.length≤ks.length:=Ir D.nd λ k hk=>(D.mem k).mp hk
  have h2:=pv.length_eq
  have h3:=D.size
  simp at h2
  omega
 refine hJ (wpAny_newList ?_ (by rw [sizeLine_eq]; omega))
 have hL:(h1.push (seqObj "list" vs.toArray 0)).get? h1.objs.size = some (seqObj "list" vs.toArray 0):=Heap.get?_push_size _ rfl
 refine hJ (jV (jY slot_list_sort ⟨_,hL,Z⟩ entry_list_sort (list_sort_tree hL hI a6 λ a4 a5 a1 a2 a3=>⟨_,Z,?_⟩) (args_list_sort _)))
 have a7:h1.objs.size < (h1.push (seqObj "list" vs.toArray 0)).objs.size:=Heap.lt_size hL
 obtain ⟨c,hc⟩:∃ c,(sortedHeap (h1.push (seqObj "list" vs.toArray 0)) h1.objs.size vs a4).get? h1.objs.size = some (seqObj "list" a4 c):=sortedHeap_at hL
 have p3:=a2.trans pn
 refine hW ⟨_,Z,h _ tk d h1.objs.size a4 c a5 (λ b u e=>?_) ?_ hc a1 ?_ λ k=>p3.mem_iff.trans (D.mem k)⟩
 ·have hb:=Heap.lt_size (k1 b u e)
  rw [sortedHeap_old (jB hb) (lt_trans hb a7)]
  exact Heap.get?_push_of_some _ (k1 b u e)
 ·exact hsz
 ·have nd:a5.Nodup:=p3.nodup_iff.mpr D.nd
  exact (Pairwise.and a3 nd).imp λ {x y} z=>by omega
end
theorem Q3:∀ {a b:List Int},a.Pairwise (· < ·)→b.Pairwise (· < ·)→(∀ k,k∈a↔k∈b)→a = b
 | [],[],_,_,_=>rfl
 | [],y :: b,_,_,h=>by simpa using (h y).mpr iE
 | x :: a,[],_,_,h=>by simpa using (h x).mp iE
 | x :: a,y :: b,ha,hb,h=>by
  have a2:=jP.mp ha
  have a1:=jP.mp hb
  have e:x = y:=by
   rcases jK.mp ((h x).mp iE) with z | z
   ·exact z
   ·rcases jK.mp ((h y).mpr iE) with z' | z'
    ·exact z'.symm
    ·have:=a2.1 y z'; have:=a1.1 x z; omega
  subst e
  congr 1
  refine Q3 a2.2 a1.2 λ k=>⟨λ z=>?_,λ z=>?_⟩
  ·rcases jK.mp ((h k).mp (iF _ z)) with q | q
   ·have:=a2.1 k z; omega
   ·exact q
  ·rcases jK.mp ((h k).mpr (iF _ z)) with q | q
   ·have:=a1.1 k z; omega
   ·exact q
def ins (k:Int):List Int→List Int
 | []=>[k]
 | x :: r=>if k < x then k :: x :: r else if k = x then x :: r else x :: ins k r
def nub:List Int→List Int
 | []=>[]
 | x :: r=>ins x (nub r)
theorem N9 {k j:Int}:∀ {l:List Int},j∈ins k l↔j = k∨j∈l
 | []=>by simp [ins]
 | x :: r=>by
  unfold ins
  split
  ·simp
  ·split
   ·rename_i h; subst h; simp
   ·rw [jK,N9,jK]
    constructor
    ·rintro (z | z | z)
     ·exact .inr (.inl z)
     ·exact .inl z
     ·exact .inr (.inr z)
    ·rintro (z | z | z)
     ·exact .inr (.inl z)
     ·exact .inl z
     ·exact .inr (.inr z)
theorem Qi {k:Int}:∀ {l:List Int},l.Pairwise (· < ·)→(ins k l).Pairwise (· < ·)
 | [],_=>by simp [ins]
 | x :: r,h=>by
  have h':=jP.mp h
  unfold ins
  split
  ·rename_i c
   refine jP.mpr ⟨λ y hy=>?_,h⟩
   rcases jK.mp hy with z | z
   ·omega
   ·have:=h'.1 y z; omega
  ·split
   ·exact h
   ·refine jP.mpr ⟨λ y hy=>?_,Qi h'.2⟩
    rcases N9.mp hy with z | z
    ·omega
    ·exact h'.1 y z
theorem Jj {j:Int}:∀ {l:List Int},j∈nub l↔j∈l
 | []=>by simp [nub]
 | x :: r=>by unfold nub; rw [N9,Jj,jK]
theorem Hw:∀ (l:List Int),(nub l).Pairwise (· < ·)
 | []=>.nil
 | x :: r=>Qi (Hw r)
theorem Yj {l ms:List Int} (h:ms.Pairwise (· < ·)) (m:∀ k,k∈ms↔k∈l):ms = nub l:=Q3 h (Hw l) λ k=>(m k).trans Jj.symm
theorem Ty:∀ (l:List Int),(nub l).length≤l.length:=λ l=>Ir ((Hw l).imp λ {a b} h=>by omega) λ x hx=>Jj.mp hx
section
variable {X:Cx}
def tSS (K:PySem.W.Frag) (te:TE):TE:=λ σ H Q=>te σ H λ x H1=>∃ l ns,x = .ref l∧SqL K H1 l ((ns:List Int).map V.int)∧ns.length < 64∧∀ r,H1 r = none→Q (.ref r) (upd H1 r (.lst ((nub ns).map V.int)))
theorem Xn:bootBuiltins "set" = some (.type "set"):=by decide +kernel
theorem Oc {e:Expr} {te:TE} {p p2 pos a2:Pos} (hc:X.calm = true) (hg:Gl X "sorted") (hm:X.mg "sorted" = none) (b1:Gl X "set") (a9:X.mg "set" = none) (he:PE X e te)
  (h1:starEach [e] X.env = [(false,eval e X.env)]:=by rfl) (h2:starEach [.Call (.Name "set" p2) [e] [] a2] X.env = [(false,eval (.Call (.Name "set" p2) [e] [] a2) X.env)]:=by rfl) :
  PE X (.Call (.Name "sorted" p) [.Call (.Name "set" p2) [e] [] a2] [] pos) (tSS X.K te):=by
 intro pins s σ H Q I h
 refine wpAny_Call_Name_kw (F1 I hg hm boot_sorted ?_ (by decide) (by decide))
 refine PyProof.Rows.callWith_builtin1 ?_ h2 rfl
 rw [h2]
 refine Calls.spliced_cons ?_
 refine wpAny_Call_Name_kw (F1 I b1 a9 Xn ?_ (by decide) (by decide))
 refine PyProof.Rows.callWith_type1 ?_ h1 rfl
 rw [h1]
 refine Calls.spliced_cons (thn (he pins s σ H _ I h) λ u s1 ⟨x,H1,I1,r1,q1⟩=>Calls.spliced_nil ?_)
 obtain ⟨l,ns,rfl,hS,hl,q⟩:=q1
 cases r1
 obtain ⟨a4,rv,pl,hz⟩:=I1.list hS
 have a1:=rv.length
 rw [hZ] at a1
 have hi:=J5 rv
 have hsz:a4.toArray.size = a4.length:=by simp
 refine Xg (knd:=intKind X.prog X.w) (ks:=ns) (I1.ok.hd hc) pl.isList (by rw [hsz]; exact a1) (λ i v hv=>?_) (by rw [hsz]; show a4.length + 1 < 4096; omega) λ s2 m=>Calls.spliced_nil ?_
 ·obtain ⟨t,e⟩:=IntsAre.int_at hi i v (by simpa using hv)
  have b2:i < ns.length:=by
   rw [a1]
   have:=Array.getElem?_eq_some_iff.mp hv
   obtain ⟨z,_⟩:=this
   simpa using z
  subst e
  refine ⟨ns.getD i 0,?_,intKind_is _ _ _ _,Z⟩
  rw [List.getD_eq_getElem?_getD,hX b2]
  rfl
 obtain ⟨h',tk,rfl,S,k1⟩:=m
 have a3:s1.heap.objs.size < h'.objs.size:=by
  obtain ⟨o,es,ep,t,ms,D⟩:=S
  exact Heap.lt_size D.at'
 refine Wg (s:={ s1 with heap:=h',toks:=tk }) S (I1.ok.hd hc) hl λ h2 a7 d L a8 c b3 k2 hL eL aI aP aM=>?_
 have a5:H1 L = none:=I1.hok.fresh (iW (le_of_lt a3) hL)
 have en:=Yj aP aM
 subst en
 have kp:∀ b u,s1.heap.get? b = some u→h2.get? b = some u:=λ b u e=>k2 b u (k1 b u (Heap.lt_size e) e)
 have a6:s1.heap.objs.size≤L:=iW (le_of_lt a3) hL
 have nl:=Ty ns
 have I2:Inv X pins σ (upd H1 L (.lst ((nub ns).map V.int))) { s1 with heap:=h2,gens:=s1.gens,drawn:=d,toks:=a7 } :=
  I1.call (ch:=[]) (Un.laid kp a6 a5) (I1.hok.laid kp a6 ⟨by rw [hZ]; exact Eg (by omega),a8.toList,c,Io aI,by rw [eL]⟩) I1.bare (λ _ z=>nomatch z)
 exact ⟨.ref L,_,I2,Z,q L a5⟩
end
theorem Bn {α β:Type} {F:α→β→Prop}:∀ {l:List α} {m:List β} {j:Nat} {x:α},PySem.Paired F l m→l[j]? = some x→∃ y,m[j]? = some y∧F x y
 | _,_,j,x,.nil,e=>by simp at e
 | _,_,0,x,.cons f t,e=>by
  simp at e; subst e
  exact ⟨_,Z,f⟩
 | _,_,j + 1,x,.cons f t,e=>by
  obtain ⟨y,e1,e2⟩:=Bn (j:=j) t (by simpa using e)
  exact ⟨y,by simpa using e1,e2⟩
theorem C9 {α β:Type} {F:α→β→Prop}:∀ {l:List α} {m:List β},l.length = m.length→(∀ (j:Nat) (x:α),l[j]? = some x→∃ y,m[j]? = some y∧F x y)→PySem.Paired F l m
 | [],[],_,_=>.nil
 | [],_ :: _,h,_=>by simp at h
 | _ :: _,[],h,_=>by simp at h
 | x :: l,y :: m,h,k=>by
  obtain ⟨y',e,f⟩:=k 0 x rfl
  simp at e; subst e
  exact .cons f (C9 (by simpa using h) λ j z hz=>by simpa using k (j + 1) z (by simpa using hz))
section
variable {X:Cx}
end
section
variable {X:Cx}
end
section
variable {X:Cx}
end
section
variable {X:Cx}
theorem Qu {es:List Expr} {k:Nat} {pos:Pos} {rest:List Expr} {env:Env}:starEach (.Tuple es k pos :: rest) env = (false,eval (.Tuple es k pos) env) :: starEach rest env:=rfl
end
theorem Y8 {f:Nat→Option Value} {g:Nat→Value}:∀ {l:List Nat},(∀ k∈l,f k = some (g k))→l.filterMap f = l.map g
 | [],_=>rfl
 | x :: r,h=>by rw [filterMap_cons,h x iE,Y8 λ k hk=>h k (iF _ hk)]; rfl
theorem Yy (a1:List Value):slicePick a1.toArray none none (some (-1)) = a1.reverse.toArray:=by
 unfold slicePick sliceBounds
 simp only [Option.getD_some,iL]
 rw [if_neg (by omega),if_neg (by omega)]
 unfold sliceRange
 congr 1
 simp only
 rw [if_neg (by omega)]
 have hc:(if (a1.length:Int) - 1 > -1 then ((a1.length:Int) - 1 - -1 - -1 - 1) / (- -1) else 0).toNat = a1.length:=by
  by_cases h:(a1.length:Int) - 1 > -1
  ·rw [if_pos h,show (- -1:Int) = 1 from rfl,Int.ediv_one]
   omega
  ·rw [if_neg h]
   omega
 rw [hc,List.filterMap_map]
 apply ext_getElem?
 intro i
 have e:(List.filterMap ((λ x:Nat=>a1.toArray[x]?) ∘ λ k:Nat=>((a1.length:Int) - 1 + -1 * (k:Int)).toNat) (List.range a1.length)) = (List.range a1.length).map (λ k=>(a1.reverse)[k]?.getD .none):=by
  apply Y8
  intro k hk
  have hk:=mem_range.mp hk
  have e1:((a1.length:Int) - 1 + -1 * (k:Int)).toNat = a1.length - 1 - k:=by omega
  show a1.toArray[((a1.length:Int) - 1 + -1 * (k:Int)).toNat]? = _
  rw [e1,List.getElem?_toArray,List.getElem?_reverse hk,hX (by omega)]
  rfl
 rw [e,iH]
 by_cases h:i < a1.length
 ·rw [getElem?_range h]
  show some (a1.reverse[i]?.getD .none) = _
  rw [hX (l:=a1.reverse) (by rw [length_reverse]; exact h)]
  rfl
 ·rw [getElem?_eq_none (l:=a1.reverse) (by rw [length_reverse]; omega),getElem?_eq_none (by rw [jF]; omega)]
  rfl
section
variable {X:Cx}
def Aeo (K:PySem.W.Frag) (te:TE) (ts:TO):TE:=λ σ H Q=>te σ H λ x H1=>ts σ H1 λ k H2=>k = some (-1)∧∃ a xs,x = .ref a∧SqL K H2 a xs∧∀ p,H2 p = none→Q (.ref p) (upd H2 p (.lst xs.reverse))
theorem Ac2 {e st:Expr} {p2 pos:Pos} {te:TE} {ts:TO} (he:PE X e te) (hs:PO X (some st) ts):PE X (.Subscript e (.Slice none none (some st) p2) pos) (Aeo X.K te ts):=by
 intro pins s σ H Q I h
 refine Subscript_ (thn (he pins s σ H _ I h) λ v s1 ⟨x,H1,I1,r1,q1⟩=>?_)
 refine wpAny_Slice ?_
 rw [evalPart_none]
 refine hW ?_
 refine hW ?_
 refine thn (hs pins s1 σ H1 _ I1 q1) λ vs s3 ⟨k,H3,I3,ps,ek,q3⟩=>?_
 subst ek
 obtain ⟨a,xs,rfl,hx,q⟩:=q3
 cases r1
 have I4:Inv X pins σ H3 { s3 with heap:=s3.heap.push { cls:=.type "slice", data:=.fields #[.none,.none,vs] } }:=I3.kept (t':=s3.toks) λ b ob q=>Heap.get?_push_of_some _ q
 obtain ⟨a2,r,ht,hz⟩:=I4.list hx
 have a1:=r.length
 show wpAny (model X.prog X.w) X.A (subscriptTail e (.Slice none none (some st) p2) (.ref a) (.ref s3.heap.objs.size)) (EP X pins σ Q) X.xe { s3 with heap:=s3.heap.push { cls:=.type "slice", data:=.fields #[.none,.none,vs] } }
 refine tail_any (ops:=[.ref a,.ref s3.heap.objs.size]) ht.isList.typeIs slot_list_getitem.lookup ?_ (by with_unfolding_all rfl)
 refine wpAny_getItem_list_slice ht.isList (Heap.IsSliceOf.new ..) .none .none ps (by simp) ?_ (by rw [iL] <;> omega)
 rw [Yy]
 refine ⟨.ref _,_,I4.laid (t':=s3.toks) (o:=.lst xs.reverse) (λ b ob q=>Heap.get?_push_of_some _ q) (iX _) ?_,Z,q _ (I4.hok.fresh (iX _))⟩
 exact ⟨by rw [length_reverse]; exact hz,_,0,r.reverse,Heap.get?_push_size _ rfl⟩
end
section
variable {X:Cx}
end
end L2
end
section
set_option Elab.async false
set_option linter.all false
set_option maxRecDepth 100000
namespace L2
open PySem PySem.Spec PyProof.Rows
section
variable {P:Program} {w:World} {K:PySem.W.Frag} {mg:Str→Option Value} {base:Heap}
end
end L2
end
section
set_option Elab.async false
set_option linter.all false
set_option maxRecDepth 100000
set_option maxHeartbeats 64000000
namespace L2
open PySem PySem.Spec PyProof.Rows
def CX1 (P:Program) (w:World):CXT:=λ outer H s E e s'=>∃ (ea C:Addr) (a0:Value) (H':Hp) (B:Heap),
 e = .ref ea∧E (.ref C) none H'∧s'.os = s.os∧AllBare s'.gens∧Un (frs outer) [] H H' s.heap s'.heap∧HOk P w H' s'.heap∧Heap.FlyingW B outer ea (.ref C) a0 s'.heap ∧
 (∀ b o,s.heap.get? b = some o→b∉frs outer→∃ o',B.get? b = some o')∧(∀ b u,H' b = some u→∃ o,B.get? b = some o)∧H' ea = none
theorem Bt.some' {P:Program} {w:World} {H:Hp} {h:Heap} {a:Addr} {o:HO} (x:Bt P w H h a o):∃ ob,h.get? a = some ob:=by
 cases o with
 | lst xs=>obtain ⟨_,_,_,_,e⟩:=x; exact ⟨_,e⟩
 | tup xs=>obtain ⟨_,_,_,ob,e,_⟩:=x; exact ⟨ob,e⟩
 | dK kvs=>obtain ⟨_,_,_,_,ob,_,_,e,_⟩:=x; exact ⟨ob,e⟩
 | dT kvs=>obtain ⟨_,_,_,_,ob,_,_,e,_⟩:=x; exact ⟨ob,e⟩
 | set S n=>obtain ⟨ob,_,_,_,e,_⟩:=x; exact ⟨ob,e⟩
 | ins C dx fs=>obtain ⟨_,_,_,e,_⟩:=x; exact ⟨_,e⟩
 | own y=>exact x
 | xd fs=>obtain ⟨_,⟨ob,_,_,e,_⟩,_⟩:=x; exact ⟨ob,e⟩
 | rng lo hi=>obtain ⟨_,_,_,e⟩:=x; exact ⟨_,e⟩
 | frz ob u=>exact ⟨ob,x.1⟩
 | tbl ps=>exact ⟨_,x⟩
 | met f y=>exact ⟨_,x⟩
 | ext φ=>obtain ⟨_,⟨ob,e⟩,_⟩:=x; exact ⟨ob,e⟩
theorem HOk.fly {P:Program} {w:World} {H:Hp} {h h' B:Heap} (ok:HOk P w H h) (tr:∀ b u,H b = some u→∃ o,B.get? b = some o) (s1:B.StaysIn h) (s2:B.StaysIn h'):HOk P w H h':=λ a o e =>
 (ok a o e).stay (λ b u hb q=>by
  obtain ⟨v,hv⟩:∃ v,H b = some v:=hb.elim (λ z=>⟨o,by rw [z]; exact e⟩) λ z=>⟨_,z⟩
  obtain ⟨o',a1⟩:=tr b v hv
  have e1:=s1 b o' a1
  rw [q] at e1
  cases e1
  exact s2 b _ a1) (λ _ q=>q) λ _ _ q=>q
theorem Un.fly {fs:List Addr} {H H':Hp} {h₀ h h' B:Heap} (u:Un fs [] H H' h₀ h) (a2:∀ b o,h₀.get? b = some o→b∉fs→∃ o',B.get? b = some o') (s1:B.StaysIn h) (s2:B.StaysIn h')
  (sl:∀ b∈fs,∀ o,h.get? b = some o→∃ z,h'.get? b = some { o with slots:=z }):Un fs [] H H' h₀ h' where
 keep:=λ b ob q n hb hx=>by
  have e:=u.keep b ob q n hb hx
  obtain ⟨o',a1⟩:=a2 b ob q hb
  have e1:=s1 b o' a1
  rw [e] at e1
  cases e1
  exact s2 b _ a1
 slot:=λ b ob q n hb hx=>by
  obtain ⟨z,e⟩:=u.slot b ob q n hb hx
  obtain ⟨z',e'⟩:=sl b hb _ e
  exact ⟨z',e'⟩
 free:=u.free
 there:=λ b ob q hx=>by
  by_cases hb:b∈fs
  ·obtain ⟨o1,e⟩:=u.there b ob q hx
   obtain ⟨z,e'⟩:=sl b hb o1 e
   exact ⟨_,e'⟩
  ·obtain ⟨o',a1⟩:=a2 b ob q hb
   exact ⟨o',s2 b o' a1⟩
 tups:=u.tups
 frzs:=u.frzs
 tbls:=u.tbls
section
variable {P:Program} {w:World} {K:PySem.W.Frag} {mg:Str→Option Value} {base:Heap} {N:List Str} {qual:Str} {scope:Scope} {f:Addr} {cd:Value} {A:Around} {outer:List Env} {s₀:Shared} {H₀:Hp} {E:XK}
abbrev cxX (P:Program) (w:World) (K:PySem.W.Frag) (mg:Str→Option Value) (base:Heap) (N:List Str) (qual:Str) (scope:Scope) (f:Addr) (cd:Value) (A:Around) (outer:List Env) (s₀:Shared) (H₀:Hp) (E:XK):Cx:=K4 (CX1 P w) P w K mg base N qual scope f cd A outer s₀ H₀ E
theorem Qj {pins:List (Addr× Obj)} {σ:St} {H:Hp} {s:Shared} (I:Inv (cxX P w K mg base N qual scope f cd A outer s₀ H₀ E) pins σ H s) {b:Addr} {o:Obj} (e:s₀.heap.get? b = some o) (hb:b∉frs outer) :
  b∉frs (cxX P w K mg base N qual scope f cd A outer s₀ H₀ E).stack:=λ z=>by
 rcases jK.mp (I.stkSub b z) with q | q
 ·exact absurd (Heap.lt_size e) (by rw [q]; exact lt_irrefl _)
 ·exact hb q
theorem AbA:Ek (CX1 P w) (cxX P w K mg base N qual scope f cd A outer s₀ H₀ E) E:=by
 intro pins σ H s e s' I h
 obtain ⟨ea,C,a0,H',B,rfl,hE,os,bare,un,hok,fl,a6,a3,a5⟩:=h
 have I0:Inv (cxX P w K mg base N qual scope f cd A outer s₀ H₀ E) [] σ H s:=I.pins_of λ p hp=>absurd hp (by simp)
 have I1:Inv (cxX P w K mg base N qual scope f cd A outer s₀ H₀ E) [] σ H' s':=I0.call' (ch:=[]) os un hok bare λ b hb=>absurd hb (by simp)
 show wpAny _ _ (leaving _ (.ref ea)) _ _ s'
 refine wpAny_leaves_onW (base:=B) (L:=s₀.heap.objs.size) I.ok.frames rfl fl λ h' a1 up=>?_
 have a2:∀ b o,s₀.heap.get? b = some o→b∉frs outer→∃ o',B.get? b = some o':=λ b o q hb=>by
  obtain ⟨o1,e1⟩:=I.base.there b o q (λ z=>absurd z (show b∉([]:List Addr) by simp))
  exact a6 b o1 e1 (Qj I q hb)
 refine ⟨ea,C,a0,H',B,Z,hE,I1.os,bare,?_,hok.fly a3 fl.1 a1.1,a1,a2,a3,a5⟩
 refine Un.fly (B:=B) I1.base a2 fl.1 a1.1 λ b hb o q=>?_
 obtain ⟨_,o2,q2,nf⟩:=a1.2.2.1.mem hb
 have a4:∀ vs,o.data≠.fields vs:=λ vs z=>by
  obtain ⟨_,o3,q3,n3⟩:=I1.funs.mem hb
  rw [q] at q3
  cases q3
  exact n3 vs z
 exact up b o q a4
theorem AcW {pins:List (Addr× Obj)} {σ:St} {H:Hp} {s:Shared} {h':Heap} {ea C:Addr} {vs:List Value} (I:Inv (cxX P w K mg base N qual scope f cd A outer s₀ H₀ E) pins σ H s) (hx:Heap.MadeExcOf s.heap h' ea (.ref C) vs) (hE:E (.ref C) none H) :
  (cxX P w K mg base N qual scope f cd A outer s₀ H₀ E).xe (.ref ea) { s with heap:=h' }:=by
 show wpAny _ _ (leaving _ (.ref ea)) _ _ _
 have a3:∀ env∈(cxX P w K mg base N qual scope f cd A outer s₀ H₀ E).stack,∀ a,env.frame = some a→a∈frs (cxX P w K mg base N qual scope f cd A outer s₀ H₀ E).stack:=λ env he a ha=>mem_filterMap.mpr ⟨env,he,ha⟩
 refine wpAny_leaves_madeW (base:=hideAll s.heap (frs (cxX P w K mg base N qual scope f cd A outer s₀ H₀ E).stack)) (L:=s₀.heap.objs.size) I.ok.frames rfl (λ b o q=>of_hideAll _ q) (PySem.W.funFrames_hide I.stack a3) hx λ a6 t fl tup tn up=>?_
 have st:(hideAll s.heap (frs (cxX P w K mg base N qual scope f cd A outer s₀ H₀ E).stack)).StaysIn s.heap:=λ b o q=>of_hideAll _ q
 have a2:∀ b o,s₀.heap.get? b = some o→b∉frs outer→∃ o',(hideAll s.heap (frs (cxX P w K mg base N qual scope f cd A outer s₀ H₀ E).stack)).get? b = some o':=λ b o q hb=>by
  obtain ⟨o1,e1⟩:=I.base.there b o q (λ z=>absurd z (show b∉([]:List Addr) by simp))
  exact ⟨o1,hideAll_get _ e1 (Qj I q hb)⟩
 have a1:∀ b u,H b = some u→∃ o,(hideAll s.heap (frs (cxX P w K mg base N qual scope f cd A outer s₀ H₀ E).stack)).get? b = some o:=λ b u q=>by
  obtain ⟨o,e⟩:=(I.hok b u q).some'
  exact ⟨o,hideAll_get _ e λ z=>by rw [I.stkFree b z] at q; cases q⟩
 have a4:H ea = none:=by
  cases z:H ea with
  | none=>rfl
  | some u =>
   obtain ⟨o,e⟩:=(I.hok ea u z).some'
   rw [hx.new] at e
   cases e
 refine ⟨ea,C,.ref t,H,_,Z,hE,I.os,I.bare,?_,I.hok.fly a1 st fl.1,fl,a2,a1,a4⟩
 refine Un.fly I.base a2 st fl.1 λ b hb o q=>?_
 have a5:∀ vs,o.data≠.fields vs:=λ vs z=>by
  obtain ⟨_,o3,q3,n3⟩:=I.funs.mem hb
  rw [q] at q3
  cases q3
  exact n3 vs z
 exact up b o (hx.keeps b o q) a5
abbrev veM:List Value:=[.type "ValueError", .type "Exception", .type "BaseException", .type "object"]
def Qx (K:PySem.W.Frag) (C:Addr):Prop:=excIn K C veM "ValueError.__new__" = true
theorem Qx.obj {K:PySem.W.Frag} {C:Addr} (q:Qx K C) {h:Heap} (X:K.In h):∃ bm N nm qn bs hd sn sub ab col dd k0 k1 k2 k3 k5 mN,h.get? C = some (excClassObj nm qn C N bs bm hd sn sub ab col dd k0 k1 k2 k3 k5 "ValueError.__new__") ∧
  h.Ns N mN∧mN "__init__" = none∧OwnTail h veM bm:=by
 unfold Qx excIn at q
 split at q
 case h_2=>cases q
 rename_i d1 c1 l1 hl
 split at q
 case h_2=>cases q
 rename_i C2 b2 j0 j1 j2 j3 nn j5 a1 a2
 have q1:=Bool.and_eq_true_iff.mp q
 have q2:=Bool.and_eq_true_iff.mp q1.1
 have q3:=Bool.and_eq_true_iff.mp q2.1
 have q4:=Bool.and_eq_true_iff.mp q3.1
 have q5:=Bool.and_eq_true_iff.mp q4.1
 have ho:=X _ _ hl
 have eC:C2 = C:=eq_of_beq q5.1
 have en:nn = "ValueError.__new__" := eq_of_beq q5.2
 have T:=PySem.W.tail_of_in (h:=h) X q3.2
 have NS:h.Ns c1.ns (h.nsMap c1.ns):=.of_isNs (PySem.W.isNs_of_in X q2.2)
 have hi:=PySem.W.nsMap_none_of_in X q2.2 (eq_of_beq q1.2)
 have ed:c1.hasDel = false:=by
  cases z:c1.hasDel with
  | false=>rfl
  | true=>rw [z] at q4; exact absurd q4.2 (by decide)
 have es:l1 = #[j0,j1,j2,j3,some (.builtin "ValueError.__new__"),j5]:=by rw [← en]; exact Array.toList_inj.mp a2
 rw [es] at ho
 rw [eC] at a1
 obtain ⟨nm,bs,mr,ns,qn,a3,sn,sub,ab,col,dl⟩:=c1
 have e1:mr = Value.ref C :: b2:=a1
 have e2:dl = false:=ed
 rw [e1,e2] at ho
 exact ⟨b2,ns,nm,qn,bs,a3,sn,sub,ab,col,d1,j0,j1,j2,j3,j5,_,ho,NS,hi,T⟩
def Ac8 (C:Addr) (E:XK) (t:TA):TS:=λ _ σ H=>t σ H λ vs H'=>vs.length≤sizeLine∧E (.ref C) none H'
theorem AaK {x:Str} {C:Addr} {np cpos pos:Pos} {e:Expr} {es:List Expr} {t:TA} (hq:Qx K C) (hm:mg x = some (.ref C)) (hg:Gl (cxX P w K mg base N qual scope f cd A outer s₀ H₀ E) x)
  (ha:PA (cxX P w K mg base N qual scope f cd A outer s₀ H₀ E) (e :: es) t)
  (a3:(x == ("__debug__" : Str)) = false:=by decide) (he:starEach (e :: es) (cxX P w K mg base N qual scope f cd A outer s₀ H₀ E).env = (false,eval e (cxX P w K mg base N qual scope f cd A outer s₀ H₀ E).env) :: starEach es (cxX P w K mg base N qual scope f cd A outer s₀ H₀ E).env:=by rfl)
  (a2:(backTo cpos (starEach es (cxX P w K mg base N qual scope f cd A outer s₀ H₀ E).env)).any (·.1) = false:=by rfl) :
  PS (cxX P w K mg base N qual scope f cd A outer s₀ H₀ E) (.Raise (some (.Call (.Name x np) (e :: es) [] cpos)) none pos) (Ac8 C E t):=by
 intro pins s σ H D I h
 obtain ⟨bm,Nn,nm,qn,bs,hd,sn,sub,ab,col,dd,k0,k1,k2,k3,k5,mN,hC,hN,a4,TL⟩:=hq.obj I.ok.mod.kin
 have a1:=ha cpos pins s σ H _ I h
 refine wpAny_Raise_call_subT (C:=C) (N:=Nn) (nm:=nm) (q:=qn) (bs:=bs) (bm:=bm) (hdct:=hd) (sn:=sn) (sub:=sub) (ab:=ab) (col:=col) (dd:=dd) (k0:=k0) (k1:=k1) (k2:=k2) (k3:=k3) (k5:=k5) (mN:=mN) PySem.F.excBase_ValueError (TL.hasType (by decide)) (I.ok.hd rfl) ?_ a4 (Jg I hg hm ⟨Z,?_⟩ a3)
 ·rw [he]
  show (false || (backTo cpos (starEach es (cxX P w K mg base N qual scope f cd A outer s₀ H₀ E).env)).any (·.1)) = false
  rw [a2]; rfl
 ·rw [he] at a1 ⊢
  refine Calls.evalArgs_plain (thn a1 λ us s1 ⟨vs,H1,I1,r,hl,q⟩=>⟨Z,?_,I1.bk _ _ hC,hN.keeps I1.bk,TL.keeps I1.bk,λ h' ea hx=>AcW I1 hx q⟩)
  rw [← r.length]
  exact hl
end
def PX (X:Cx) (e:Expr) (t:XK→TE):Prop:=∀ (pins:List (Addr× Obj)) (s:Shared) (σ:St) (H:Hp) (Q:VK) (E:XK) (xe:Value→Shared→Prop),Inv X pins σ H s→t E σ H Q →
 (∀ H1 s1 e' s',Inv X pins σ H1 s1→CX1 X.prog X.w X.stack H1 s1 E e' s'→xe e' s')→wpAny (model X.prog X.w) X.A (eval e X.env) (EP X pins σ Q) xe s
def PXs (X:Cx) (sts:List Stmt) (t:XK→TS):Prop:=∀ (pins:List (Addr× Obj)) (s:Shared) (σ:St) (H:Hp) (D:F3) (E:XK) (xe:Value→Shared→Prop),Inv X pins σ H s→t E D σ H →
 (∀ H1 s1 e' s',Inv X pins σ H1 s1→CX1 X.prog X.w X.stack H1 s1 E e' s'→xe e' s')→wpAny (model X.prog X.w) X.A (execs sts X.env) (SP X pins D) xe s
def Lq (P:Program) (w:World) (K:PySem.W.Frag) (mg:Str→Option Value) (base:Heap) (k:Nat) (x:Str) (ps:List Str) (sp:Sp):Prop :=
 ∃ f fd,Bl P w K mg base (CX1 P w) k f fd ps sp∧Bi K fd ps []∧keepIn K (.ref f) = true∧mg x = some (.ref f)
section
variable {X:Cx} {k j:Nat} {f:Addr} {fd:FuncData} {ps:List Str} {sp:Sp} {x:Str} {p pos:Pos} {e:Expr} {es:List Expr} {t:TA}
theorem Ab8 {pins:List (Addr× Obj)} {σ:St} {H:Hp} {s:Shared} {Q:VK} {E:XK} {xe:Value→Shared→Prop} {us:List Value} {vs:List V} (F:Bl X.prog X.w X.K X.mg X.base (CX1 X.prog X.w) k f fd ps sp) (hr:Bz k X.A) (hb:Bi X.K fd ps [])
  (I:Inv X pins σ H s) (r:Az vs us) (h:sp vs H Q E) (hx:∀ H1 s1 e' s',Inv X pins σ H1 s1→CX1 X.prog X.w X.stack H1 s1 E e' s'→xe e' s'):wpAny (model X.prog X.w) X.A (call (.ref f) us) (EP X pins σ Q) xe s:=by
 have hl:us.length = ps.length:=by rw [← r.length]; exact F.len _ _ _ _ h
 have a1:=hb s us I.kIn (by rw [jI]; exact hl)
 rw [jI] at a1
 refine wpAny_call (codeAny_mono (F.run X.A X.stack s H ⟨us,[]⟩ us vs Q E hr I.env0 a1 r h) λ r s' hq=>?_)
 cases r with
 | error e=>exact hx H s e s' I hq
 | ok fl =>
  cases fl with
  | ret u=>exact I.after hq
  | next=>exact False.elim hq
  | brk=>exact False.elim hq
  | cont=>exact False.elim hq
theorem AcY {i:Nat} {te:XK→TE} {pos':Pos} (he:PX X e te) (hN:X.N.Nodup) (hi:X.N[i]? = some x) (hx:Loc X.env.scope x) (hs:swapsWith e (some (.Name x pos')) pos.line X.env = pure false:=by rfl) (hf:X.fn x = true∨X.env.scope.names.lookup x = some .local:=by first | exact .inl rfl | exact .inr rfl | assumption) :
  PXs X [.Assign [.Name x pos'] e pos] (λ E=>Rg (te E) (Bo i)):=by
 intro pins s σ H D E xe I h a1
 refine wpAny_execs_cons (wpAny_Assign_Name (thn (he pins s σ H _ E xe I h a1) λ v s1 ⟨y,H1,I1,r1,q1⟩=>?_) hs)
 exact Jy I1 hN hi hx r1 (λ s2 I2=>wpAny_execs_nil ⟨_,H1,I2,q1⟩) hf
end
section
variable {P:Program} {w:World} {K:PySem.W.Frag} {mg:Str→Option Value} {base:Heap}
theorem A2.okX {x:Str} {st:Stmt} {N ps:List Str} {k:Nat} {sp:Sp} (F:A2 K mg x ps st) (S:As N ps (Ag st)) (len:∀ vs H Q E,sp vs H Q E→vs.length = ps.length)
  (a1:∀ (f:Addr) (cdv:Value) (A:Around) (outer:List Env) (s:Shared) (H:Hp) (vs:List V) (Q:VK) (E:XK),Bz k (A.deeper (envOfC x (Ag st) s.heap.objs.size f cdv))→sp vs H Q E →
   ∃ t,PSs (cxX P w K mg base N x (Ag st) f cdv A outer s H E) (B0 st) t∧t { nx:=λ _ H'=>Q .non H',rt:=Q } (start N vs) H):Lq P w K mg base (k + 1) x ps sp:=by
 obtain ⟨f,fd,F,m,b⟩:=F
 have kp:=F.kp
 obtain ⟨oc,od,kV,doc,pm,an,cdv,ct,osl,rfl,lk,a2⟩:=F.ex
 exact ⟨f,_,Vg lk a2 S len λ A outer s H vs Q E hr a3=>a1 f cdv A outer s H vs Q E hr a3,b,kp,m⟩
end
section
variable {P:Program} {w:World} {K:PySem.W.Frag} {mg:Str→Option Value} {base:Heap} {N:List Str} {qual:Str} {scope:Scope} {f:Addr} {cd:Value} {A:Around} {outer:List Env} {s₀:Shared} {H₀:Hp} {E:XK}
theorem Aas {x:Str} {p pos:Pos} {e:Expr} {es:List Expr} {t:TA} {k j:Nat} {ps:List Str} {sp:Sp} (C:Lq P w K mg base j x ps sp) (hr:Bz k (cxX P w K mg base N qual scope f cd A outer s₀ H₀ E).A) (hg:Gl (cxX P w K mg base N qual scope f cd A outer s₀ H₀ E) x)
  (ha:PA (cxX P w K mg base N qual scope f cd A outer s₀ H₀ E) (e :: es) t) (hj:j≤k:=by first | decide | omega)
  (a2:(x == ("__debug__" : Str)) = false:=by decide) (he:starEach (e :: es) (cxX P w K mg base N qual scope f cd A outer s₀ H₀ E).env = (false,eval e (cxX P w K mg base N qual scope f cd A outer s₀ H₀ E).env) :: starEach es (cxX P w K mg base N qual scope f cd A outer s₀ H₀ E).env:=by rfl)
  (a1:(backTo pos (starEach es (cxX P w K mg base N qual scope f cd A outer s₀ H₀ E).env)).any (·.1) = false:=by rfl) :
  PE (cxX P w K mg base N qual scope f cd A outer s₀ H₀ E) (.Call (.Name x p) (e :: es) [] pos) (Lp sp [] E t):=by
 obtain ⟨f,fd,F,b,kp,m⟩:=C
 exact Uc (F.mono hj) hr hg m kp b .nil AbA ha a2 he a1
end
abbrev Cx.hold (X:Cx) (u:Value):Cx:={ X with A:=X.A.mark (some u),calm:=false,xe:=λ _ _=>False }
section
variable {X:Cx} {pins:List (Addr× Obj)} {σ:St} {H:Hp} {s:Shared} {u:Value}
theorem Inv.hold (I:Inv X pins σ H s) (u:Value):Inv (X.hold u) pins σ H s :=
 ⟨⟨I.ok.mod,I.ok.kind,I.ok.glob,I.ok.blt,I.ok.above,I.ok.inj,I.ok.has,I.ok.cab,λ z=>(by cases z),I.ok.frames,I.ok.stk,I.ok.exf,I.ok.bs,I.ok.bsz,I.ok.noex,I.ok.exfs,I.ok.funs,I.ok.frf⟩,
  I.os,I.bare,I.base,I.loc,I.cell,I.free,I.freeC,I.pin,I.hok,I.len⟩
theorem Inv.unhold (ok:X.Ok) (I:Inv (X.hold u) pins σ H s):Inv X pins σ H s:=⟨ok,I.os,I.bare,I.base,I.loc,I.cell,I.free,I.freeC,I.pin,I.hok,I.len⟩
theorem SP.unhold (ok:X.Ok) {D:F3} {f:Flow} {s':Shared} (h:SP (X.hold u) pins D f s'):SP X pins D f s':=by
 cases f with
 | next=>obtain ⟨a1,H',I,q⟩:=h; exact ⟨a1,H',I.unhold ok,q⟩
 | brk=>obtain ⟨a1,H',I,q⟩:=h; exact ⟨a1,H',I.unhold ok,q⟩
 | cont=>obtain ⟨a1,H',I,q⟩:=h; exact ⟨a1,H',I.unhold ok,q⟩
 | ret v=>obtain ⟨v',a1,H',I,r,q⟩:=h; exact ⟨v',a1,H',I.unhold ok,r,q⟩
end
structure Ae2 (X:Cx) (pins:List (Addr× Obj)) (σ:St) (H:Hp) (B:Heap) (ea C:Addr) (a0:Value) (s:Shared):Prop where
 inv:Inv X pins σ H s
 fly:Heap.FlyingW B X.stack ea (.ref C) a0 s.heap
 go:∀ h',B.StaysIn h'→s.heap.UpToSlots h'→Inv X pins σ H { s with heap:=h' }
section
variable {X:Cx} {pins:List (Addr× Obj)} {σ:St} {H H':Hp} {s s':Shared} {B:Heap} {ea C:Addr} {a0:Value}
theorem Aci (I:Inv X pins σ H s) (os:s'.os = s.os) (bare:AllBare s'.gens) (un:Un (frs X.stack) [] H H' s.heap s'.heap) (hok:HOk X.prog X.w H' s'.heap) (fl:Heap.FlyingW B X.stack ea (.ref C) a0 s'.heap)
  (a2:∀ b o,s.heap.get? b = some o→b∉frs X.stack→∃ o',B.get? b = some o') (a1:∀ b u,H' b = some u→∃ o,B.get? b = some o) {h':Heap} (st:B.StaysIn h') (up:s'.heap.UpToSlots h'):Inv X pins σ H' { s' with heap:=h' }:=by
 have nf:∀ b∈frs X.stack,∀ o,s'.heap.get? b = some o→∃ z,h'.get? b = some { o with slots:=z }:=λ b hb o q=>by
  refine up b o q λ vs z=>?_
  obtain ⟨_,o3,q3,n3⟩:=fl.2.2.1.mem hb
  rw [q] at q3
  cases q3
  exact n3 vs z
 exact I.call' (ch:=[]) (s':={ s' with heap:=h' }) os (Un.fly un a2 fl.1 st nf) (hok.fly a1 fl.1 st) bare λ b hb=>absurd hb (by simp)
end
def PH (X:Cx) (hs:List ExceptHandler) (th:Addr→TS):Prop:=∀ (pins:List (Addr× Obj)) (s:Shared) (σ:St) (H:Hp) (D:F3) (B:Heap) (ea C:Addr) (a0:Value),Ae2 X pins σ H B ea C a0 s→th C D σ H →
 wpAny (model X.prog X.w) X.A (handleBy (.ref ea) X.env hs) (SP X pins D) X.xe s
def AeS (K:PySem.W.Frag) (C0:Addr) (t:TS) (r:Addr→TS):Addr→TS:=λ C D σ H=>(exmOne K (.ref C) (.ref C0) = some true∧t D σ H)∨(exmOne K (.ref C) (.ref C0) = some false∧r C D σ H)
def AeU:Addr→TS:=λ _ _ _ _=>False
section
variable {X:Cx} {x:Str} {np pos:Pos} {b0:Stmt} {suite:List Stmt} {hs:List ExceptHandler} {C0:Addr} {t:TS} {r:Addr→TS}
theorem Acn:PH X hs AeU:=λ _ _ _ _ _ _ _ _ _ _ h=>h.elim
theorem Abl (hm:X.mg x = some (.ref C0)) (hg:Gl X x) (ht:∀ u,PSs (X.hold u) (b0 :: suite) t) (hr:PH X hs r) (a4:(x == ("__debug__" : Str)) = false:=by decide) :
  PH X (.ExceptHandler (some (.Name x np)) none (b0 :: suite) pos :: hs) (AeS X.K C0 t r):=by
 intro pins s σ H D B ea C a0 L h
 refine wpAny_handleBy_cons (codeAny_handlers_test (Jg (X:=X.hold (.ref ea)) (L.inv.hold _) hg hm ?_ a4)) (by intro q; cases q)
 have LT:Looks (model X.prog X.w) s.heap (typeOf (.ref ea)) (.ref C):=by
  obtain ⟨ob,a5,a1⟩:=L.fly.there
  rw [← a1]
  exact Looks.ld a5 |>.andThen .now
 rcases h with ⟨hx,h⟩ | ⟨hx,h⟩
 ·refine (exm_one L.inv.kIn LT hx).here ?_
  refine codeAny_handlers_suite ?_
  refine lands_againW L.fly λ h6 a2 a3=>?_
  have I6:=(L.go h6 a2.1 a3).hold (.ref ea)
  exact jU (ht (.ref ea) pins _ σ H D I6 h) (λ f s2 q=>q.unhold L.inv.ok) λ _ _ z=>False.elim z
 ·refine (exm_one L.inv.kIn LT hx).here ?_
  exact hr pins s σ H D B ea C a0 L h
def Aeh (th:Addr→TS) (tb:XK→TS):TS:=λ D σ H=>tb (λ cv _ H'=>∃ C,cv = .ref C∧th C D σ H') D σ H
theorem Adm {a1:List Stmt} {h0:ExceptHandler} {tb:XK→TS} {th:Addr→TS} (hb:PXs X a1 tb) (hh:PH X (h0 :: hs) th) (a2:X.stack = X.env :: X.outer) (hf:X.env.frame = some X.env.locals):PS X (.Try a1 (h0 :: hs) [] [] pos) (Aeh th tb):=by
 intro pins s σ H D I h
 refine wpAny_Try_except (jU (hb pins s σ H D _ (λ e a8=>wpAny (model X.prog X.w) X.A (noteFrame e X.env) (λ _ b1=>wpAny (model X.prog X.w) X.A (setFlight e none) (λ _ b2=>wpAny (model X.prog X.w) X.A (handleBy e X.env (h0 :: hs)) (SP X pins D) X.xe b2) X.xe b1) X.xe a8) I h ?_) (λ f s1 q=>?_) λ _ _ z=>z)
 ·intro H1 s1 e' s' I1 hc
  obtain ⟨ea,C,a0,H',B,rfl,⟨C',e1,hE⟩,os,bare,un,hok,fl,a7,a5,b7⟩:=hc
  cases e1
  have a4:=fl
  rw [a2] at a4
  refine wpAny_looks_onW (I1.ok.frames.trans (by rw [a2])) hf a4 λ h4 a3 b5=>?_
  refine wpAny_landsW a3 λ h5 a6 b3=>?_
  have a9:Heap.FlyingW B X.stack ea (.ref C) a0 h5:=by rw [a2]; exact a6
  have up:=b5.trans b3
  refine hh pins _ σ H' D B ea C a0 ⟨Aci I1 os bare un hok fl a7 a5 a6.1 up,a9,λ h' b6 b4=>?_⟩ hE
  exact Aci I1 os bare un hok fl a7 a5 b6 (up.trans b4)
 ·cases f with
  | next=>exact wpAny_execs_nil q
  | brk=>exact q
  | cont=>exact q
  | ret v=>exact q
end
end L2
end
section
set_option Elab.async false
set_option linter.all false
set_option maxRecDepth 100000
set_option maxHeartbeats 64000000
namespace L2
open PySem PySem.Spec PyProof.Rows
open PySem.Builtin.Str
section
variable {X:Cx}
end
section
variable {X:Cx}
end
def Its (x:Str):It:=⟨λ i _=>i < x.cps.size,λ i H v H'=>H' = H∧∃ c,x.cps[i]? = some c∧v = .str ⟨#[c]⟩,λ i _=>x.cps.size≤i⟩
section
variable {X:Cx} {pins:List (Addr× Obj)} {σ:St} {H:Hp} {s:Shared}
end
section
variable {X:Cx}
end
end L2
end
section
set_option Elab.async false
set_option linter.all false
set_option maxRecDepth 100000
set_option maxHeartbeats 64000000
namespace L2
open PySem PySem.Spec PyProof.Rows
open PySem.Builtin.Str PySem.StrLaws
def Mw (cur:List Nat):List (List Nat):=if cur = [] then [] else [cur]
def wd:List Nat→List Nat→List (List Nat)
 | cur,[]=>Mw cur
 | cur,c :: l=>if Unicode.isSpace c = true then Mw cur ++ wd [] l else wd (cur ++ [c]) l
def isM (c:Nat):Bool:=c == 123 || c == 125 || c == 59 || c == 124
def tok:List Nat→List Nat→List (List Nat)
 | cur,[]=>Mw cur
 | cur,c :: l=>if Unicode.isSpace c = true then Mw cur ++ tok [] l else if isM c = true then Mw cur ++ [c] :: tok [] l else tok (cur ++ [c]) l
end L2
end
section
set_option Elab.async false
set_option linter.all false
set_option maxRecDepth 100000
set_option maxHeartbeats 64000000
namespace L2
open PySem PySem.Spec PyProof.Rows
def Lo (P:Program) (w:World) (K:PySem.W.Frag) (mg:Str→Option Value) (base:Heap) (k:Nat) (C:Addr) (m:Str) (ps:List Str) (sp:Sp):Prop :=
 ∃ f fd,Bl P w K mg base (CX1 P w) k f fd ps sp∧Bi K fd ps []∧Eh K C m f∧Cls K C
theorem Fun.okX {P:Program} {w:World} {K:PySem.W.Frag} {mg:Str→Option Value} {base:Heap} {x qual:Str} {st:Stmt} {f:Addr} {fd:FuncData} {N ps:List Str} {k:Nat} {sp:Sp} (F:Fun K x qual st f fd) (S:As N ps (Ag st)) (len:∀ vs H Q E,sp vs H Q E→vs.length = ps.length)
  (a1:∀ (cdv:Value) (A:Around) (outer:List Env) (s:Shared) (H:Hp) (vs:List V) (Q:VK) (E:XK),Bz k (A.deeper (envOfC qual (Ag st) s.heap.objs.size f cdv))→sp vs H Q E →
   ∃ t,PSs (cxX P w K mg base N qual (Ag st) f cdv A outer s H E) (B0 st) t∧t { nx:=λ _ H'=>Q .non H',rt:=Q } (start N vs) H):Bl P w K mg base (CX1 P w) (k + 1) f fd ps sp:=by
 obtain ⟨oc,od,kV,doc,pm,an,cdv,ct,osl,rfl,lk,a2⟩:=F.ex
 exact Vg lk a2 S len λ A outer s H vs Q E hr a3=>a1 cdv A outer s H vs Q E hr a3
section
variable {P:Program} {w:World} {K:PySem.W.Frag} {mg:Str→Option Value} {base:Heap} {N:List Str} {qual:Str} {scope:Scope} {f:Addr} {cd:Value} {A:Around} {outer:List Env} {s₀:Shared} {H₀:Hp} {E:XK}
theorem Aa6 {o e:Expr} {es:List Expr} {m:Str} {apos pos:Pos} {k j:Nat} {ps:List Str} {sp:Sp} {C:Addr} {ta:TE} {t:TA} {pl:Sem Bool} (M:Lo P w K mg base j C m ps sp) (hr:Bz k (cxX P w K mg base N qual scope f cd A outer s₀ H₀ E).A) (he:PE (cxX P w K mg base N qual scope f cd A outer s₀ H₀ E) o ta) (ha:PA (cxX P w K mg base N qual scope f cd A outer s₀ H₀ E) (e :: es) t) (hj:j≤k:=by first | decide | omega)
  (a1:starEach (e :: es) (cxX P w K mg base N qual scope f cd A outer s₀ H₀ E).env = (false,eval e (cxX P w K mg base N qual scope f cd A outer s₀ H₀ E).env) :: starEach es (cxX P w K mg base N qual scope f cd A outer s₀ H₀ E).env:=by rfl) (a2:(backTo pos (starEach es (cxX P w K mg base N qual scope f cd A outer s₀ H₀ E).env)).any (·.1) = false:=by rfl)
  (ht:eval (.Call (.Attribute o m apos) (e :: es) [] pos) (cxX P w K mg base N qual scope f cd A outer s₀ H₀ E).env = (do
   let ov ← eval o (cxX P w K mg base N qual scope f cd A outer s₀ H₀ E).env
   standAt apos.atName
   let (f',first) ← holding [ov] (getMethod ov m pl)
   callWith pos f' first (backTo pos (starEach (e :: es) (cxX P w K mg base N qual scope f cd A outer s₀ H₀ E).env)) (backToKw pos (keywordEach [] (cxX P w K mg base N qual scope f cd A outer s₀ H₀ E).env))):=by rfl):PE (cxX P w K mg base N qual scope f cd A outer s₀ H₀ E) (.Call (.Attribute o m apos) (e :: es) [] pos) (J7 C m sp [] E ta t):=by
 obtain ⟨f,fd,F,b,me,c⟩:=M
 exact Ug he c me (F.mono hj) hr b .nil AbA ha a1 a2 ht
end
section
variable {X:Cx}
theorem Inv.freeze {pins:List (Addr× Obj)} {σ:St} {H:Hp} {s:Shared} {d:Addr} {kvs:List (Key× V)} (I:Inv X pins σ H s) (h:H d = some (.dK kvs)):∃ o,Inv X pins σ (upd H d (.frz o (.dK kvs))) s:=by
 have hk:=I.hok d _ h
 obtain ⟨z1,z2,vs,r,o,es,ep,e,rest⟩:=id hk
 have ne:∀ {b:Addr} {u:HO},H b = some u→u≠.dK kvs→b≠d:=λ hb hu hz=>by
  rw [hz,h] at hb
  exact hu (Option.some.inj hb).symm
 have nn:∀ {b:Addr},H b = none→b≠d:=λ hb hz=>by rw [hz,h] at hb; cases hb
 refine ⟨o,I.un (h':=s.heap) (t':=s.toks) ⟨λ b ob q _ _ _=>q,λ b ob q _ _ _=>⟨ob.slots,q⟩,λ b ob q n _=>by rw [upd_ne (nn n)]; exact n,λ b ob q _=>⟨ob,q⟩,λ b xs q=>by rw [upd_ne (ne q (by intro z; cases z))]; exact q,λ b ob u q=>by rw [upd_ne (ne q (by intro z; cases z))]; exact q,λ b ps q=>⟨#[],by rw [upd_ne (ne q (by intro z; cases z)),Array.append_empty]; exact q⟩⟩ λ b u q=>?_⟩
 have stay:∀ {b:Addr} {u:HO},Bt X.prog X.w H s.heap b u→Bt X.prog X.w (upd H d (.frz o (.dK kvs))) s.heap b u:=λ x=>x.stay (λ _ _ _ q=>q) (λ c hc=>by rw [upd_ne (ne hc (by intro z; cases z))]; exact hc) λ c xs hc=>by rw [upd_ne (ne hc (by intro z; cases z))]; exact hc
 by_cases hb:b = d
 ·subst hb
  rw [upd_same] at q
  cases q
  exact ⟨e,stay hk⟩
 ·rw [upd_ne hb] at q
  exact stay (I.hok b u q)
def Aei (t:TE):TE:=λ σ H Q=>t σ H λ v H1=>∃ d kvs,v = .ref d∧H1 d = some (.dK kvs)∧∀ o,Q v (upd H1 d (.frz o (.dK kvs)))
theorem Np {e:Expr} {t:TE} (he:PE X e t):PE X e (Aei t):=by
 intro pins s σ H Q I h
 refine thn (he pins s σ H _ I h) λ u s1 ⟨v,H1,I1,r1,d,kvs,e,hd,q⟩=>?_
 obtain ⟨o,I2⟩:=I1.freeze hd
 exact ⟨v,_,I2,r1,q o⟩
theorem Qa {P:Program} {w:World} {k:Key} {v:Value} (h:(mixKind P w).is k v = true):A6 (kV k) v:=by
 rw [Vq] at h
 rcases Cf h with ⟨i,t,rfl,rfl⟩ | ⟨x,t,rfl,rfl⟩
 ·exact ⟨t,Z⟩
 ·exact ⟨t,Z⟩
theorem Jo (hc:X.calm = true):Es X (.type "list") (λ xs H Q=>∃ (a:Addr) (kvs:List (Key× V)),xs = [.ref a]∧Rd H a (.dK kvs)∧∀ r,H r = none→Q (.ref r) (upd H r (.lst (kvs.map λ p=>kV p.1)))):=by
 intro pins s σ H xs us Q I r h
 obtain ⟨a,kvs,rfl,ha,q⟩:=h
 obtain ⟨u,rfl,ru⟩:=r.one
 cases ru
 obtain ⟨z,hd,vs,a3,dd⟩:=Lr I.hok ha
 obtain ⟨ep,a4⟩:=dd.dictAt
 have a6:=PySem.Paired.length a3
 refine PySem.W.kdl_call (PySem.W.kdl_dict (knd:=mixKind X.prog X.w) (kvs:=vs) (ep:=ep) hd) (I.ok.hd hc) a4 (by omega) λ h1 tk a1 c k1 e1 a2=>?_
 have a5:a1.toList.length = vs.length:=by rw [Array.length_toList]; exact a2.1
 have hV:Az (kvs.map λ p=>kV p.1) a1.toList:=by
  refine C9 (by rw [hZ,a5]; omega) λ j x e=>?_
  rw [iH] at e
  cases ej:kvs[j]? with
  | none=>rw [ej] at e; cases e
  | some p =>
   rw [ej] at e
   cases e
   have hj:j < a1.toList.length:=by have:=(List.getElem?_eq_some_iff.mp ej).1; omega
   refine ⟨a1.toList[j],hX hj,?_⟩
   obtain ⟨k,x,e1,e2⟩:=a2.2 j a1.toList[j] (by rw [← Array.getElem?_toList]; exact hX hj)
   obtain ⟨y,e4,e5,_⟩:=Bn a3 ej
   rw [e1] at e4
   cases e4
   show A6 (kV p.1) _
   rw [show p.1 = k from e5]
   exact Qa e2
 exact ⟨.ref s.heap.objs.size,_,I.laid (t':=tk) (o:=.lst (kvs.map λ p=>kV p.1)) k1 (iX _) ⟨by rw [hZ]; exact z,a1.toList,c,hV,by rw [e1]⟩,Z,q _ (I.hok.fresh (iX _))⟩
def Itk (d:Addr) (o:Obj) (kvs:List (Key× V)):It :=
 ⟨λ i H=>H d = some (.frz o (.dK kvs))∧i < kvs.length,
  λ i H v H'=>H' = H∧∃ p,kvs[i]? = some p∧v = kV p.1,
  λ i H=>H d = some (.frz o (.dK kvs))∧kvs.length≤i⟩
theorem Jt {P:Program} {w:World} {H:Hp} {h:Heap} {d:Addr} {o:Obj} {kvs:List (Key× V)} (ok:HOk P w H h) (e:H d = some (.frz o (.dK kvs))):h.get? d = some o∧∃ vs ep,KV kvs vs∧h.DictAt (mixKind P w) d vs ep∧(d == sysModules) = false∧∃ es,o.data = .dict es ep:=by
 obtain ⟨e1,z,sm,vs,a1,o',es,ep,e2,r⟩:=(show Bt P w H h d (.frz o (.dK kvs)) from ok d _ e)
 have:o' = o:=Option.some.inj (e2.symm.trans e1)
 subst this
 exact ⟨e1,vs,ep,a1,⟨o',es,e2,r⟩,sm,es,r.2.1⟩
theorem P7 {o:Obj} {es a2:Array DictEntry} {ep a1:Nat} (h:o.data = .dict es ep) (h':o.data = .dict a2 a1):a1 = ep:=by
 rw [h] at h'
 cases h'
 rfl
theorem Xq {P:Program} {w:World} {K:PySem.W.Frag} {tg:Expr} {it d:Addr} {o:Obj} {kvs:List (Key× V)} {ep:Nat} (a7:∃ es,o.data = .dict es ep):K5 P w K tg (Itk d o kvs) [it] it (λ i h=>h.IsKeyIter it d i kvs.length ep) where
 mem:=by simp
 obj:=λ i h st b hb=>by
  cases mS hb
  obtain ⟨ob,e,c,dt⟩:=st
  exact ⟨ob,e,λ v z=>by rw [dt] at z; cases z⟩
 keep:=λ i h h' st k=>by
  obtain ⟨ob,e,c,dt⟩:=st
  exact ⟨ob,k _ (by simp) _ e,c,dt⟩
 item:=by
  intro X hP hw hK hc i pins s σ H E I hf st hg
  subst hP hw hK
  obtain ⟨hd,hi⟩:=hg
  obtain ⟨e1,vs,a5,a1,a3,sm,b3,de⟩:=Jt I.hok hd
  obtain ⟨es,a6⟩:=a7
  have:a5 = ep:=P7 a6 de
  subst this
  have a4:=PySem.Paired.length a1
  have b4:i < vs.length:=by omega
  obtain ⟨⟨k,x⟩,hp⟩:∃ p,vs[i] = p:=⟨_,rfl⟩
  have hx:vs[i]? = some (k,x):=by rw [hX b4,hp]
  obtain ⟨y,e4,e5,_⟩:=Bn a1 (hX hi)
  rw [hx] at e4
  cases e4
  rw [a4] at st ⊢
  refine wpAny_pyNext_dict_item st a3 hx λ b2 h' a8 a2 b1=>?_
  obtain ⟨oi,ei,ci,di⟩:=id a2
  refine ⟨b2,Z,P4 (s:={ s with heap:=h' }) ei ci di (by decide) ?_⟩
  have k1:∀ b ob,b∉[it]→s.heap.get? b = some ob→h'.get? b = some ob:=λ b ob hb q=>b1.extBut b ob (λ z=>hb (by simp [z])) q
  have I1:Inv X pins σ H { s with heap:=h' }:=I.turnedL (t':=s.toks) hf k1 (λ _ _=>rfl) (HOk.turned (s:=s) I.hok (λ b hb=>(hf b hb).1) k1)
  exact ⟨kV k,H,I1,Qa a8,⟨rfl,_,hX hi,by rw [show (kvs[i]).1 = k from e5]⟩,a2,λ b hb=>(hf b hb).1⟩
 done:=by
  intro X hP hw hK hc i pins s σ H E I hf st hg
  subst hP hw hK
  obtain ⟨hd,hi⟩:=hg
  obtain ⟨e1,vs,a5,a1,a3,sm,b3,de⟩:=Jt I.hok hd
  obtain ⟨es,a6⟩:=a7
  have:a5 = ep:=P7 a6 de
  subst this
  have a4:=PySem.Paired.length a1
  rw [a4] at st
  refine wpAny_pyNext_dict_end (I.ok.hd hc) st a3 (getElem?_eq_none (by omega)) λ h' a9=>?_
  have k1:∀ b ob,b∉[it]→s.heap.get? b = some ob→h'.get? b = some ob:=λ b ob hb q=>a9 b ob (λ z=>hb (by simp [z])) q
  exact ⟨Z,I.turnedL (t':=s.toks) hf k1 (λ _ _=>rfl) (HOk.turned (s:=s) I.hok (λ b hb=>(hf b hb).1) k1)⟩
 self:=λ _ _ _ _ _ st h=>wpAny_pyIter_keyiter st h
def AeH (te:TE):TI:=λ σ H R=>te σ H λ x H1=>∃ d o kvs,x = .ref d∧H1 d = some (.frz o (.dK kvs))∧R (Itk d o kvs) H1
theorem AcS {tg l:Expr} {te:TE} (hl:PE X l te):PI X tg l (AeH te):=by
 intro pins s σ H R I h
 refine thn (hl pins s σ H _ I h) λ u s1 ⟨x,H1,I1,r1,d,o,kvs,e,hd,q⟩=>?_
 subst e
 cases r1
 obtain ⟨e1,vs,ep,a3,a1,sm,es,de⟩:=Jt I1.hok hd
 have a2:=PySem.Paired.length a3
 refine wpAny_pyIter_dict sm a1 ?_
 have I2:Inv X pins σ H1 { s1 with heap:=s1.heap.push { cls:=.type "dict_keyiterator", data:=.fields #[.ref d,.int 0 0,.int vs.length 0,.int ep 0] } }:=I1.kept (t':=s1.toks) λ b ob q=>Heap.get?_push_of_some _ q
 refine ⟨_,_,_,_,H1,Z,I2,Xq ⟨es,de⟩,⟨_,Heap.get?_push_size _ rfl,rfl,by rw [a2]; rfl⟩,λ b hb=>?_,q⟩
 cases mS hb
 exact I1.fpOk (iX _) (I1.hok.fresh (iX _))
def J3:Hp→List (Addr× Key× V)→Hp
 | H,[]=>H
 | H,p :: r=>J3 (upd H p.1 (.tup [kV p.2.1,p.2.2])) r
theorem Mc:∀ {l:List (Addr× Key× V)} {H:Hp} {b:Addr},b∉l.map (·.1)→J3 H l b = H b
 | [],_,_,_=>rfl
 | p :: r,H,b,h=>by
  rw [jR,jK,not_or] at h
  show J3 (upd H p.1 _) r b = _
  rw [Mc h.2,upd_ne h.1]
theorem Up:∀ {l:List (Addr× Key× V)} {H:Hp} {p:Addr× Key× V},(l.map (·.1)).Nodup→p∈l→J3 H l p.1 = some (.tup [kV p.2.1,p.2.2])
 | q :: r,H,p,nd,h=>by
  rw [jR,jQ] at nd
  show J3 (upd H q.1 _) r p.1 = _
  rcases jK.mp h with z | z
  ·subst z
   rw [Mc nd.1,upd_same]
  ·exact Up nd.2 z
inductive Z2 (H:Hp) (kvs:List (Key× V)) (l:Addr) (ts:List Addr) (H':Hp):Prop
 | mk (g:∀ b u,H b = some u→H' b = some u) (fl:H l = none) (el:H' l = some (.lst (ts.map V.ref))) (le:ts.length = kvs.length) (ft:∀ t∈ts,H t = none∧t≠l) (nd:ts.Nodup) (et:∀ (j:Nat) (t:Addr) (p:Key× V),ts[j]? = some t→kvs[j]? = some p→H' t = some (.tup [kV p.1,p.2])):Z2 H kvs l ts H'
def Abf (to:TE):TE:=λ σ H Q=>to σ H λ x H1=>∃ a kvs,x = .ref a∧Rd H1 a (.dK kvs)∧∀ l ts H2,Z2 H1 kvs l ts H2→Q (.ref l) H2
theorem G2 {o:Expr} {to:TE} {p ap cp pos:Pos} (hc:X.calm = true) (hg:Gl X "list") (hm:X.mg "list" = none) (ho:PE X o to)
  (a8:attributeBase o "items" X.env (eval o X.env) = eval o X.env:=by rfl) (a9:(ap.endLine == cp.line) = true:=by rfl)
  (h1:starEach [.Call (.Attribute o "items" ap) [] [] cp] X.env = [(false,eval (.Call (.Attribute o "items" ap) [] [] cp) X.env)]:=by rfl) :
  PE X (.Call (.Name "list" p) [.Call (.Attribute o "items" ap) [] [] cp] [] pos) (Abf to):=by
 intro pins s σ H Q I h
 refine wpAny_Call_Name_kw (F1 I hg hm (show bootBuiltins "list" = some (.type "list") by decide +kernel) ?_ (by decide) (by decide))
 refine PyProof.Rows.callWith_type1 ?_ h1 rfl
 rw [h1]
 refine Calls.spliced_cons (wpAny_Call_method0_late a8 a9 (thn (ho pins s σ H _ I h) λ u s1 ⟨x,H1,I1,r1,a,kvs,e,ha,q⟩=>?_))
 subst e
 cases r1
 obtain ⟨z,sm,vs,b1,dd⟩:=Lr I1.hok ha
 obtain ⟨ep,b4⟩:=dd.dictAt
 obtain ⟨od,es,b7,b9,c5⟩:=id b4
 have c6:=PySem.Paired.length b1
 refine ⟨"dict", "dict.items", PySem.F.plainAttrs_dict,PySem.F.slot_dict_items,PySem.F.type_dict_items,dd.typeIs,λ b eb=>by cases eb; exact ⟨od,b7,b9.2.1⟩,Calls.callWith_builtin rfl (PySem.evalArgs_none ?_)⟩
 refine call_meetsIn PySem.F.slot_dict_items dd.typeIs PySem.F.entry_dict_items (PySem.F.args_dict_items_1 _) (meets_dict_items (mixKind X.prog X.w) a sm) ⟨⟨vs,dd⟩,?_⟩
 refine Calls.spliced_nil ?_
 have vw:(s1.heap.push { cls:=.type "dict_items", data:=.fields #[.ref a] }).IsItemsView s1.heap.objs.size a:=⟨_,Heap.get?_push_size _ rfl,Z,Z⟩
 refine PySem.W.kdx_call (s:={ s1 with heap:=s1.heap.push { cls:=.type "dict_items", data:=.fields #[.ref a] } }) (knd:=mixKind X.prog X.w) (kvs:=vs) (ep:=ep) (I1.ok.hd hc) vw (b4.push _) (by omega) λ h' tk b2 c as k1 e1 hl hG a6=>?_
 have sz:(s1.heap.push { cls:=.type "dict_items", data:=.fields #[.ref a] }).objs.size = s1.heap.objs.size + 1:=Heap.size_push _ _
 have kp:∀ b ob,s1.heap.get? b = some ob→h'.get? b = some ob:=λ b ob e=>k1 b ob (Heap.get?_push_of_some _ e)
 have a3:∀ t∈as,s1.heap.objs.size + 1 < t:=λ t ht=>by have:=hG.above t ht; rw [← sz]; exact this
 have a5:as.Nodup:=hG.rise.imp λ h=>jB h
 have zl:as.length = kvs.length:=by omega
 have zm:(as.zip kvs).map (·.1) = as:=by rw [List.map_fst_zip (by omega)]
 have fr:∀ {b:Addr},s1.heap.objs.size≤b→H1 b = none:=λ hb=>I1.hok.fresh hb
 have off:∀ {b:Addr} {ob:Obj},s1.heap.get? b = some ob→b≠s1.heap.objs.size + 1∧b∉as:=λ e=>by
  have hb:@LT.lt Nat _ _ s1.heap.objs.size:=Heap.lt_size e
  exact ⟨jB (lt_succ_of_lt hb),λ hm=>absurd (lt_trans (lt_succ_of_lt hb) (a3 _ hm)) (lt_irrefl _)⟩
 have a1:∀ {b:Addr} {ub:HO},H1 b = some ub→b≠s1.heap.objs.size + 1∧b∉as:=λ e=>by
  have hb:@LT.lt Nat _ _ s1.heap.objs.size:=I1.hok.lt e
  exact ⟨jB (lt_succ_of_lt hb),λ hm=>absurd (lt_trans (lt_succ_of_lt hb) (a3 _ hm)) (lt_irrefl _)⟩
 have a2:∀ {b:Addr},b≠s1.heap.objs.size + 1→b∉as→(upd (J3 H1 (as.zip kvs)) (s1.heap.objs.size + 1) (.lst (as.map V.ref))) b = H1 b:=λ n1 n2=>by
  rw [upd_ne n1,Mc (by rw [zm]; exact n2)]
 have a7:∀ (j:Nat) (t:Addr) (p:Key× V),as[j]? = some t→kvs[j]? = some p→(upd (J3 H1 (as.zip kvs)) (s1.heap.objs.size + 1) (.lst (as.map V.ref))) t = some (.tup [kV p.1,p.2]):=λ j t p hj hp=>by
  have ht:t∈as:=iN hj
  have nt:t≠s1.heap.objs.size + 1:=ne_of_gt (a3 t ht)
  rw [upd_ne nt]
  refine Up (l:=as.zip kvs) (p:=(t,p)) (by rw [zm]; exact a5) ?_
  refine iN (i:=j) ?_
  rw [List.getElem?_zip_eq_some]
  exact ⟨hj,hp⟩
 have b6:HOk X.prog X.w (upd (J3 H1 (as.zip kvs)) (s1.heap.objs.size + 1) (.lst (as.map V.ref))) h':=λ b ub eb=>by
  by_cases n1:b = s1.heap.objs.size + 1
  ·subst n1
   rw [upd_same] at eb
   cases eb
   have b3:h'.get? (s1.heap.objs.size + 1) = some { cls:=.type "list", dict:=none,data:=.seq b2 c,slots:=#[] }:=by rw [← sz]; exact e1
   refine ⟨by rw [hZ]; omega,b2.toList,c,?_,by rw [b3]⟩
   rw [a6]
   clear a6 e1 b3 hl hG a3 a5 zl zm off a1 a2 a7
   induction as with
   | nil=>exact .nil
   | cons t r ih=>exact .cons rfl ih
  ·by_cases n2:b∈as
   ·obtain ⟨j,hj⟩:=getElem?_of_mem n2
    have b8:j < kvs.length:=by have:=(List.getElem?_eq_some_iff.mp hj).1; omega
    have hp:kvs[j]? = some kvs[j]:=hX b8
    rw [a7 j b _ hj hp] at eb
    cases eb
    obtain ⟨b5,k,x,e3,e4,e5⟩:=hG.pairs j b hj
    obtain ⟨y,e6,e7,e8⟩:=Bn b1 hp
    rw [e3] at e6
    cases e6
    refine ⟨by show 2≤sizeLine; decide,[b5,x],.cons (by rw [show (kvs[j]).1 = k from e7]; exact Qa e4) (.cons e8 .nil),_,e5,Z,_,Z⟩
   ·rw [a2 n1 n2] at eb
    exact (I1.hok b ub eb).stay (λ c ob _ e=>kp c ob e) (λ c a4=>by obtain ⟨m1,m2⟩:=a1 a4; rw [a2 m1 m2]; exact a4) λ c xs a4=>by obtain ⟨m1,m2⟩:=a1 a4; rw [a2 m1 m2]; exact a4
 have I2:=I1.un (h':=h') (t':=tk) (H':=upd (J3 H1 (as.zip kvs)) (s1.heap.objs.size + 1) (.lst (as.map V.ref))) ⟨λ b ob e _ _ _=>kp b ob e,λ b ob e _ _ _=>⟨ob.slots,kp b ob e⟩,λ b ob e n _=>by obtain ⟨m1,m2⟩:=off e; rw [a2 m1 m2]; exact n,λ b ob e _=>⟨ob,kp b ob e⟩,λ b xs e=>by obtain ⟨m1,m2⟩:=a1 e; rw [a2 m1 m2]; exact e,λ b ob ux e=>by obtain ⟨m1,m2⟩:=a1 e; rw [a2 m1 m2]; exact e,λ b ps e=>⟨#[],by obtain ⟨m1,m2⟩:=a1 e; rw [a2 m1 m2,Array.append_empty]; exact e⟩⟩ b6
 refine ⟨.ref (s1.heap.objs.size + 1),_,I2,by rw [sz]; rfl,q _ as _ ⟨λ b ub e=>by obtain ⟨m1,m2⟩:=a1 e; rw [a2 m1 m2]; exact e,fr (le_succ _),upd_same,zl,λ t ht=>⟨fr (le_of_lt (Nat.lt_of_succ_lt (a3 t ht))),ne_of_gt (a3 t ht)⟩,a5,a7⟩⟩
abbrev ItO (h:Heap) (it d:Addr) (i n ep:Nat) (c0 c1 ok ov:Value):Prop :=
 h.get? it = some { cls:=.type "dict_itemiterator", dict:=none,data:=.fields #[c0,c1,.ref d,.int i 0,.int n 0,.int ep 0,ok,ov],slots:=#[] }
theorem Aez {P:Program} {w:World} {A:Around} {E:Value→Shared→Prop} {s:Shared} {a:Addr} {Q:Option Obj→Shared→Prop} (ha:s.heap.get? a = none) (h:Q none s):wpAny (model P w) A (loadIfAlive a) Q E s:=by
 have q:Q (s.heap.get? a) s:=by rw [ha]; exact h
 exact λ _ _ _=>q
theorem Aap {P:Program} {w:World} {κ:Type} [DecidableEq κ] {knd:KeyKind P w κ} {A:Around} {E:Value→Shared→Prop} {s:Shared} {it d a:Addr} {f:Bool} {i ep:Nat} {vs:List (κ× Value)} {k:κ} {x ok ov:Value} {Q:Option Value→Shared→Prop}
  (a1:KdxIt s.heap it d i vs.length ep ok ov a f) (b3:s.heap.DictAt knd d vs ep) (hx:vs[i]? = some (k,x))
  (hQ:∀ a8 h',knd.is k a8 = true→(∃ a4 a2 a' f',KdxIt h' it d (i + 1) vs.length ep a4 a2 a' f')→h'.get? s.heap.objs.size = some { cls:=.type "tuple", data:=.seq #[a8,x] } →
   (∀ b o,b≠it→s.heap.get? b = some o→h'.get? b = some o)→Q (some (.ref s.heap.objs.size)) { s with heap:=h' }) :
  wpAny (model P w) A (pyNext (.ref it)) Q E s:=by
 obtain ⟨hp,gn,dr,tk,os⟩:=s
 obtain ⟨od,es,b1,_,a6,_,a5,_⟩:=id b3
 have ty:Shared.TypeIs ⟨hp,gn,dr,tk,os⟩ (.ref it) "dict_itemiterator" := ⟨_,a1,Z⟩
 have b2:es.size = vs.length:=by rw [← a5.length]; simp
 have il:i < es.size:=by rw [b2]; exact (List.getElem?_eq_some_iff.mp hx).1
 obtain ⟨ky,vl⟩:=a5.get? (e:=es[i]) (by simp [il]) hx
 have b5:it < hp.objs.size:=Heap.lt_size a1
 unfold pyNext
 refine hJ (wpAny_attempt (wpAny_callSpecial?_slot (name:=Str.ofString "__next__") ty PySem.F.slot_dict_itemiterator_next (jY PySem.F.slot_dict_itemiterator_next ty PySem.F.entry_dict_itemiterator_next ?_ (PySem.F.args_dict_itemiterator_next_1 _))))
 refine hJ (hW (hJ (hJ (hJ (wpAny_typeNameOfWhole_itemiter ty (hW ?_))))))
 refine hJ (wpAny_fieldsOf a1 rfl ?_)
 simp only [show Builtin.Dict_items.ownsTuple "dict_itemiterator" = true by decide,if_true]
 show wpAny _ _ (if (Value.ref d == Value.none) = true then _ else _) _ _ (⟨hp,gn,dr,tk,os⟩:Shared)
 rw [if_neg (show ¬ (Value.ref d == Value.none) = true from λ z=>nomatch z)]
 refine hJ (hW (hJ (wpAny_dictEntries b1 a6 ?_)))
 rw [if_neg (by rw [b2]; simp)]
 refine hJ (hW (hJ (wpAny_dictEpoch b1 a6 ?_)))
 rw [if_neg (by simp)]
 refine hW ?_
 simp only [show ¬ (i:Int) < 0 by omega,if_false,Int.toNat_natCast,Array.getElem?_eq_getElem il]
 refine hJ (hJ (wpAny_typeNameOfWhole_itemiter ty (hW (hJ (wpAny_isOneOf_itemiter ty ?_)))))
 show wpAny _ _ (setField (.ref it) 3 (rawInt ((i:Int) + 1)) >>= _) _ _ (⟨hp,gn,dr,tk,os⟩:Shared)
 refine hJ (jZ a1 (by simp) λ k1 e1 s1=>?_)
 have s1:Heap.SameBut it hp k1:=s1
 have e1:KdxIt k1 it d (i + 1) vs.length ep ok ov a f:=by
  unfold KdxIt
  rw [show ((i + 1:Nat):Int) = (i:Int) + 1 by omega]
  simpa [rawInt] using e1
 have a9:Shared.TypeIs ⟨k1,gn,dr,tk,os⟩ (.ref it) "dict_itemiterator" := ⟨_,e1,Z⟩
 refine hJ (jV (hJ (wpAny_isOneOf_itemiter a9 (hJ (wpAny_isOneOf_itemiter a9 ?_)))))
 show wpAny _ _ (Builtin.Dict_items.pairFromOwner (.ref it) 6 es[i].key es[i].val) _ _ (⟨k1,gn,dr,tk,os⟩:Shared)
 unfold Builtin.Dict_items.pairFromOwner
 refine hJ (wpAny_newTuple ?_)
 have z1:k1.objs.size = hp.objs.size:=s1.1
 have e2:KdxIt (k1.push { cls:=.type "tuple", data:=.seq #[es[i].key,es[i].val] }) it d (i + 1) vs.length ep ok ov a f:=Heap.get?_push_of_some _ e1
 have t2:(k1.push { cls:=.type "tuple", data:=.seq #[es[i].key,es[i].val] }).get? hp.objs.size = some { cls:=.type "tuple", data:=.seq #[es[i].key,es[i].val] }:=by rw [← z1]; exact Heap.get?_push_size _ rfl
 have a7:∀ b o,b≠it→hp.get? b = some o→(k1.push { cls:=.type "tuple", data:=.seq #[es[i].key,es[i].val] }).get? b = some o:=λ b o hb e=>Heap.get?_push_of_some _ (s1.extBut b o hb e)
 have b4:hp.objs.size≠it:=ne_of_gt b5
 rw [z1]
 generalize k1.push { cls:=.type "tuple", data:=.seq #[es[i].key,es[i].val] } = k2 at e2 t2 a7 ⊢
 have a3:∀ k3:Heap,(∃ a4 a2 a' f',KdxIt k3 it d (i + 1) vs.length ep a4 a2 a' f')→Heap.SameBut it k2 k3→Q (some (.ref hp.objs.size)) ⟨k3,gn,dr,tk,os⟩:=λ k3 e3 s3 =>
  hQ es[i].key k3 ky e3 (by rw [← vl]; exact s3.extBut _ _ b4 t2) λ b o hb e=>s3.extBut b o hb (a7 b o hb e)
 show wpAny _ _ (Builtin.Dict_items.ownedTupleIsFree (.ref it) >>= _) _ _ (⟨k2,gn,dr,tk,os⟩:Shared)
 refine hJ ?_
 unfold Builtin.Dict_items.ownedTupleIsFree
 refine hJ (wpAny_field e2 rfl (x:=rawInt a) rfl ?_)
 show wpAny _ _ (loadIfAlive (a:Int).toNat >>= _) _ _ (⟨k2,gn,dr,tk,os⟩:Shared)
 rw [Int.toNat_natCast]
 cases hk:k2.get? a with
 | none =>
  refine hJ (Aez hk ?_)
  simp only [Option.isNone_none,if_true]
  refine hW ?_
  simp only [if_true]
  refine hJ (wpAny_field e2 rfl (x:=ok) rfl (hJ (wpAny_field e2 rfl (x:=ov) rfl ?_)))
  refine hJ (jZ e2 (by simp) λ k3 e3 s3=>?_)
  refine hJ (jZ e3 (by simp) λ k4 e4 s4=>?_)
  refine hJ (jZ e4 (by simp) λ k5 e5 s5=>?_)
  refine hJ (jZ e5 (by simp) λ k6 e6 s6=>?_)
  have s3:Heap.SameBut it k2 k3:=s3
  have s4:Heap.SameBut it k3 k4:=s4
  have s5:Heap.SameBut it k4 k5:=s5
  have s6:Heap.SameBut it k5 k6:=s6
  have e6:KdxIt k6 it d (i + 1) vs.length ep es[i].key es[i].val hp.objs.size false:=e6
  refine hJ (wpAny_letGo (hW (hW ⟨_,Z,hW (a3 k6 ⟨_,_,_,_,e6⟩ (((s3.trans s4).trans s5).trans s6))⟩)))
 | some oa =>
  refine hJ (PySem.W.kdx_alive hk ?_)
  simp only [Option.isNone_some,Bool.false_eq_true,if_false]
  refine hJ (wpAny_field e2 rfl (x:=.bool f) rfl ?_)
  cases f with
  | true =>
   rw [if_neg (show ¬ (Value.bool true != Value.bool true) = true from λ z=>nomatch z)]
   refine hW ?_
   simp only [Bool.false_eq_true,if_false]
   exact hW (hW ⟨_,Z,hW (a3 k2 ⟨_,_,_,_,e2⟩ (Heap.SameBut.refl _ _))⟩)
  | false =>
   rw [if_pos (show (Value.bool false != Value.bool true) = true by rfl)]
   refine hJ (jZ e2 (by simp) λ k3 e3 s3=>hW ?_)
   have s3:Heap.SameBut it k2 k3:=s3
   have e3:KdxIt k3 it d (i + 1) vs.length ep ok ov a true:=e3
   simp only [Bool.false_eq_true,if_false]
   exact hW (hW ⟨_,Z,hW (a3 k3 ⟨_,_,_,_,e3⟩ s3)⟩)
def Iti (d:Addr) (o:Obj) (kvs:List (Key× V)):It :=
 ⟨λ i H=>H d = some (.frz o (.dK kvs))∧i < kvs.length,
  λ i H v H'=>∃ T p,v = .ref T∧H T = none∧kvs[i]? = some p∧H' = upd H T (.tup [kV p.1,p.2]),
  λ i H=>H d = some (.frz o (.dK kvs))∧kvs.length≤i⟩
def TnI (it d:Addr) (n ep:Nat) (i:Nat) (h:Heap):Prop:=(∃ ok ov,IsItemIter h it d i n ep ok ov)∨∃ ok ov a f,KdxIt h it d i n ep ok ov a f
theorem TnI.at {it d:Addr} {n ep i:Nat} {h:Heap} (x:TnI it d n ep i h):∃ c0 c1 ok ov,ItO h it d i n ep c0 c1 ok ov:=by
 rcases x with ⟨ok,ov,e⟩ | ⟨ok,ov,a,f,e⟩
 ·exact ⟨_,_,ok,ov,e⟩
 ·exact ⟨_,_,ok,ov,e⟩
theorem Vr {P:Program} {w:World} {K:PySem.W.Frag} {x:Str} {np:Pos} {it d:Addr} {o:Obj} {kvs:List (Key× V)} {ep:Nat} (b1:∃ es,o.data = .dict es ep):K5 P w K (.Name x np) (Iti d o kvs) [it] it (TnI it d kvs.length ep) where
 mem:=by simp
 obj:=λ i h st b hb=>by
  cases mS hb
  obtain ⟨c0,c1,ok,ov,e⟩:=st.at
  exact ⟨_,e,λ v z=>nomatch z⟩
 keep:=λ i h h' st k=>by
  rcases st with ⟨ok,ov,e⟩ | ⟨ok,ov,a,f,e⟩
  ·exact .inl ⟨ok,ov,k _ (by simp) _ e⟩
  ·exact .inr ⟨ok,ov,a,f,k _ (by simp) _ e⟩
 item:=by
  intro X hP hw hK hc i pins s σ H E I hf st hg
  subst hP hw hK
  obtain ⟨hd,hi⟩:=hg
  obtain ⟨e1,vs,a4,a7,a5,sm,b4,de⟩:=Jt I.hok hd
  obtain ⟨es,a8⟩:=b1
  have:a4 = ep:=P7 a8 de
  subst this
  have a3:=PySem.Paired.length a7
  have b7:i < vs.length:=by omega
  obtain ⟨⟨k,y⟩,hp⟩:∃ p,vs[i] = p:=⟨_,rfl⟩
  have hx:vs[i]? = some (k,y):=by rw [hX b7,hp]
  obtain ⟨z,e4,e5,e6⟩:=Bn a7 (hX hi)
  rw [hx] at e4
  cases e4
  have b6:it < s.heap.objs.size:=by obtain ⟨_,_,_,_,e⟩:=st.at; exact Heap.lt_size e
  have go:∀ (a1:Value) (h':Heap),(mixKind X.prog X.w).is k a1 = true→TnI it d kvs.length a4 (i + 1) h'→h'.get? s.heap.objs.size = some { cls:=.type "tuple", data:=.seq #[a1,y] }→(∀ b ob,b≠it→s.heap.get? b = some ob→h'.get? b = some ob) →
    ∃ u,some (Value.ref s.heap.objs.size) = some u∧wpAny (model X.prog X.w) X.A (letOwnedTupleGo (.Name x np) (.ref it) u) (λ _ s2=>∃ x H',Inv X pins σ H' s2∧A6 x u∧(Iti d o kvs).yld i H x H'∧TnI it d kvs.length a4 (i + 1) s2.heap∧∀ b∈[it],H' b = none) E { s with heap:=h' }:=by
   intro a1 h' a2 b2 tT kp
   refine ⟨_,Z,hW ?_⟩
   have k1:∀ b ob,b∉[it]→s.heap.get? b = some ob→h'.get? b = some ob:=λ b ob hb q=>kp b ob (λ z=>hb (by simp [z])) q
   have hn:H s.heap.objs.size = none:=I.hok.fresh (iX _)
   have hok:HOk X.prog X.w (upd H s.heap.objs.size (.tup [kV (kvs[i]).1,(kvs[i]).2])) h':=HOk.turnedNew (s:=s) I.hok (λ b hb=>(hf b hb).1) k1 (iX _) ⟨zN2,[a1,y],.cons (by rw [show (kvs[i]).1 = k from e5]; exact Qa a2) (.cons e6 .nil),_,tT,Z,_,Z⟩
   have I1:Inv X pins σ (upd H s.heap.objs.size (.tup [kV (kvs[i]).1,(kvs[i]).2])) { s with heap:=h' }:=I.turnedL (t':=s.toks) hf k1 (λ b hb=>upd_ne (jB hb)) hok
   refine ⟨.ref s.heap.objs.size,_,I1,Z,⟨_,_,rfl,hn,hX hi,rfl⟩,b2,λ b hb=>?_⟩
   cases mS hb
   rw [upd_ne (jB b6)]
   exact (hf it (by simp)).1
  rcases st with ⟨ok,ov,e⟩ | ⟨ok,ov,a,f,e⟩
  ·rw [a3] at e
   refine wpAny_pyNext_items_item e a5 hx λ a1 h' a2 a6 tT _ kp=>go a1 h' a2 (.inr ⟨a1,y,_,false,by rw [a3]; exact a6⟩) tT kp
  ·rw [a3] at e
   refine Aap e a5 hx λ a1 h' a2 ⟨b3,b8,a',f',a6⟩ tT kp=>go a1 h' a2 (.inr ⟨b3,b8,a',f',by rw [a3]; exact a6⟩) tT kp
 done:=by
  intro X hP hw hK hc i pins s σ H E I hf st hg
  subst hP hw hK
  obtain ⟨hd,hi⟩:=hg
  obtain ⟨e1,vs,a4,a7,a5,sm,b4,de⟩:=Jt I.hok hd
  obtain ⟨es,a8⟩:=b1
  have:a4 = ep:=P7 a8 de
  subst this
  have a3:=PySem.Paired.length a7
  have a9:∀ h',Heap.ExtBut it s.heap h'→(none:Option Value) = none∧Inv X pins σ H { s with heap:=h' }:=λ h' b5=>by
   have k1:∀ b ob,b∉[it]→s.heap.get? b = some ob→h'.get? b = some ob:=λ b ob hb q=>b5 b ob (λ z=>hb (by simp [z])) q
   exact ⟨Z,I.turnedL (t':=s.toks) hf k1 (λ _ _=>rfl) (HOk.turned (s:=s) I.hok (λ b hb=>(hf b hb).1) k1)⟩
  rcases st with ⟨ok,ov,e⟩ | ⟨ok,ov,a,f,e⟩
  ·rw [a3] at e
   exact wpAny_pyNext_items_end (I.ok.hd hc) e a5 (getElem?_eq_none (by omega)) a9
  ·rw [a3] at e
   exact PySem.W.kdx_end_out (I.ok.hd hc) e a5 (getElem?_eq_none (by omega)) a9
 self:=λ _ _ _ _ _ st h=>by
  obtain ⟨c0,c1,ok,ov,e⟩:=st.at
  refine wpAny_pyIter_slot (T:= "dict_itemiterator") ⟨_,e,Z⟩ PySem.F.slot_dict_itemiterator_iter (jY PySem.F.slot_dict_itemiterator_iter ⟨_,e,Z⟩ PySem.W.kcp_entry ?_ (PySem.F.args_dict_itemiterator_iter_1 _))
  show wpAny _ _ (ret (.ref it)) _ _ _
  exact hW ⟨_,Z, "dict_itemiterator", _,⟨_,e,Z⟩,PySem.F.slot_dict_itemiterator_next.lookup,h⟩
def Adn (to:TE):TI:=λ σ H R=>to σ H λ x H1=>∃ d o kvs,x = .ref d∧H1 d = some (.frz o (.dK kvs))∧R (Iti d o kvs) H1
theorem Me {x:Str} {np:Pos} {o:Expr} {to:TE} {ap cp:Pos} (ho:PE X o to) (a2:attributeBase o "items" X.env (eval o X.env) = eval o X.env:=by rfl) (a3:(ap.endLine == cp.line) = true:=by rfl) :
  PI X (.Name x np) (.Call (.Attribute o "items" ap) [] [] cp) (Adn to):=by
 intro pins s σ H R I h
 refine wpAny_Call_method0_late a2 a3 (thn (ho pins s σ H _ I h) λ u s1 ⟨y,H1,I1,r1,d,ob,kvs,e,hd,q⟩=>?_)
 subst e
 cases r1
 obtain ⟨e1,vs,ep,a6,a1,sm,es,de⟩:=Jt I1.hok hd
 obtain ⟨od,a9,a4,a7,a8⟩:=id a1
 have dd:=a1.dictOf
 have a5:=PySem.Paired.length a6
 refine ⟨"dict", "dict.items", PySem.F.plainAttrs_dict,PySem.F.slot_dict_items,PySem.F.type_dict_items,dd.typeIs,λ b eb=>by cases eb; exact ⟨od,a4,a7.2.1⟩,Calls.callWith_builtin rfl (PySem.evalArgs_none ?_)⟩
 refine call_meetsIn PySem.F.slot_dict_items dd.typeIs PySem.F.entry_dict_items (PySem.F.args_dict_items_1 _) (meets_dict_items (mixKind X.prog X.w) d sm) ⟨⟨vs,dd⟩,?_⟩
 refine wpAny_pyIter_items (s:={ s1 with heap:=s1.heap.push { cls:=.type "dict_items", data:=.fields #[.ref d] } }) (knd:=mixKind X.prog X.w) (kvs:=vs) (ep:=ep) (v:=s1.heap.objs.size) ⟨_,Heap.get?_push_size _ rfl,Z,Z⟩ (a1.push _) ?_
 have kp:∀ b oo,s1.heap.get? b = some oo→((s1.heap.push { cls:=.type "dict_items", data:=.fields #[.ref d] }).push { cls:=.type "dict_itemiterator", data:=.fields #[.none,.bool false,.ref d,.int 0 0,.int vs.length 0,.int ep 0,.none,.none] }).get? b = some oo:=λ b oo e=>Heap.get?_push_of_some _ (Heap.get?_push_of_some _ e)
 have I2:=I1.kept (t':=s1.toks) kp
 have sz:(s1.heap.push { cls:=.type "dict_items", data:=.fields #[.ref d] }).objs.size = s1.heap.objs.size + 1:=Heap.size_push _ _
 have le:s1.heap.objs.size≤(s1.heap.push { cls:=.type "dict_items", data:=.fields #[.ref d] }).objs.size:=by rw [sz]; exact le_succ _
 refine ⟨_,_,_,_,H1,Z,I2,Vr ⟨es,de⟩,.inl ⟨.none,.none,?_⟩,λ b hb=>?_,q⟩
 ·rw [a5]; exact Heap.get?_push_size _ rfl
 ·cases mS hb
  exact I1.fpOk le (I1.hok.fresh le)
theorem An {o e:Expr} {es:List Expr} {m:Str} {apos pos:Pos} {k j:Nat} {ps:List Str} {sp:Sp} {E:XK} {C:Addr} {ta:TE} {t:TA} {pl:Sem Bool} (M:A4 X.prog X.w X.K X.mg X.base j C m ps sp) (hr:Bz k X.A) (hx:Ek CX0 X E) (he:PE X o ta) (ha:PA X (e :: es) t) (hj:j≤k:=by first | decide | omega)
  (a1:starEach (e :: es) X.env = (false,eval e X.env) :: starEach es X.env:=by rfl) (a2:(backTo pos (starEach es X.env)).any (·.1) = false:=by rfl)
  (ht:eval (.Call (.Attribute o m apos) (e :: es) [] pos) X.env = (do
   let ov ← eval o X.env
   standAt apos.atName
   let (f,first) ← holding [ov] (getMethod ov m pl)
   callWith pos f first (backTo pos (starEach (e :: es) X.env)) (backToKw pos (keywordEach [] X.env))):=by rfl):PE X (.Call (.Attribute o m apos) (e :: es) [] pos) (J7 C m sp [] E ta t):=by
 obtain ⟨f,fd,F,b,me,c⟩:=M
 exact Ug he c me (F.mono hj) hr b .nil hx ha a1 a2 ht
end
theorem Iq:entryFor table "dict.update.loop" = some Builtin.«dict.update.loop»:=entryFor_of_tree (by kernel_rfl)
theorem Et:plainId "dict.update.loop" = true:=by decide +kernel
section
variable {prog:Program} {w:World} {κ:Type} [DecidableEq κ] {knd:PySem.KeyKind prog w κ}
theorem Rz {M:Model} {A:Around} {E:Value→Shared→Prop} {s:Shared} {t:Addr} {o:Obj} {a1:Array Value} {n:Nat} {Q:List Value→Shared→Prop} (ho:s.heap.get? t = some o) (hc:o.cls = .type "tuple") (hd:o.data = .seq a1 n) (h:Q a1.toList s):wpAny M A (Builtin.Dict.pairItems (.ref t)) Q E s:=by
 unfold Builtin.Dict.pairItems
 refine hJ (wpAny_typeOf (T:= "tuple") ⟨o,ho,hc⟩ ?_)
 rw [if_pos (by decide)]
 refine hJ (wpAny_seqItems ho hd ?_)
 exact hW h
theorem Pw (kvs:List (κ× Value)) (k:κ) (v:Value):(stored kvs k v).length≤kvs.length + 1:=by
 unfold stored
 split
 ·rw [hZ]; exact le_succ _
 ·rw [iB]; exact iX _
theorem Ju:∀ (l:List (κ× Value)) (a1:List (κ× Value)),(l.foldl (λ a1 kv=>stored a1 kv.1 kv.2) a1).length≤a1.length + l.length
 | [],a1=>iX _
 | x :: l,a1=>by
  have h1:=Ju l (stored a1 x.1 x.2)
  have h2:=Pw a1 x.1 x.2
  rw [foldl_cons,iT]
  omega
theorem Ya {A:Around} {R:Result→Shared→Prop} {I:Addr} {fp wr:List Addr} {G:Array GenState→Array GenState→Prop} {n:Nat} {P:Nat→Value→Prop} {St:Nat→Shared→Prop} (W:WalksS prog w A.in1 I fp wr G n P St) (d:Addr) (a4:d∉fp)
  (kvs:List (κ× Value)) (hn:kvs.length = n) (hsz:n≤sizeLine) (h0:Heap) (hv:∀ i v,P i v→∃ k u t o a2 m,kvs[i]? = some (k,u)∧v = .ref t∧t≠d∧t∉wr∧h0.get? t = some o∧o.cls = .type "tuple" ∧ o.data = .seq #[a2,u] m∧knd.is k a2 = true) :
  ∀ (j i:Nat) (s:Shared),n - i = j→i≤n→St i s→(∀ b o,b≠d→b∉wr→h0.get? b = some o→s.heap.get? b = some o)→s.heap.DictOf knd d ((kvs.take i).foldl (λ a1 kv=>stored a1 kv.1 kv.2) [])→(∀ s',Moved (d :: wr) G s s'→s'.heap.DictOf knd d (kvs.foldl (λ a1 kv=>stored a1 kv.1 kv.2) [])→R (.ok (.ret .none)) s') →
   codeAny (model prog w) A (.builtin "dict.update.loop" ⟨[.ref d,.ref I,rawInt i,.none],[]⟩) R s:=by
 have a5:d∉wr:=λ h=>a4 (W.sub _ h)
 have sub:∀ b∈wr,b∈d :: wr:=λ b hb=>iF _ hb
 intro j
 induction j with
 | zero =>
  intro i s hj hi st kp hS hR
  have e:i = n:=by omega
  subst e
  refine codeAny_builtin Iq ?_
  rw [Around.under_plainId Et _]
  refine hJ (m:=pyNext (.ref I)) (W.done s _ _ st λ s' mv=>?_)
  show wpAny _ _ (Builtin.Dict.addKeywords d [] >>= _) _ _ _
  refine hJ (hW (hW (hR s' (mv.mono sub) ?_)))
  rw [iP (by omega)] at hS
  obtain ⟨o,es,ep,ho,r⟩:=hS
  exact ⟨o,es,ep,mv.heap d o a5 ho,r⟩
 | succ j ih =>
  intro i s hj hi st kp hS hR
  have a6:i < n:=by omega
  refine codeAny_builtin Iq ?_
  rw [Around.under_plainId Et _]
  refine hJ (m:=pyNext (.ref I)) (W.item i s _ _ a6 st λ v s' hP b3 mv=>?_)
  obtain ⟨k,u,t,o,a2,m,ek,rfl,b1,a3,ho,hc,hd,hk⟩:=hv i v hP
  have b4:s'.heap.DictOf knd d ((kvs.take i).foldl (λ a1 kv=>stored a1 kv.1 kv.2) []):=by
   obtain ⟨o,es,ep,ho,r⟩:=hS
   exact ⟨o,es,ep,mv.heap d o a5 ho,r⟩
  have a8:s'.heap.get? t = some o:=mv.heap t o a3 (kp t o b1 a3 ho)
  have et:(kvs.take (i + 1)).foldl (λ a1 kv=>stored a1 kv.1 kv.2) [] = stored ((kvs.take i).foldl (λ a1 kv=>stored a1 kv.1 kv.2) []) k u:=by
   rw [take_add_one,ek,List.foldl_append]; rfl
  refine hJ (jV ?_)
  refine hJ (wpAny_tryCatch (Rz a8 hc hd ?_))
  show wpAny _ _ (holding [a2,u] (dictSet d a2 u)) _ _ _
  refine jV (wpAny_dictSet_pairs (hsz:=?_) hk b4 λ h' dd sb=>?_)
  ·refine hW ⟨plainId_quiet Et _,ih (i + 1) _ (by omega) a6 (W.frame _ s' _ _ b3 (le_succ _) λ b hb o q=>?_) (λ b o hb hw q=>?_) (by rw [et]; exact dd) λ b2 a7 a9=>?_⟩
   ·exact (sb.2 b (λ z:b = d=>a4 (z ▸ hb))).trans q
   ·exact (sb.2 b hb).trans (mv.heap b o hw (kp b o hb hw q))
   ·refine hR b2 (Moved.trans W.gtrans ((mv.mono sub).then_heap (le_succ _) λ b o hb q=>?_) a7) a9
    exact (sb.2 b (λ z:b = d=>hb (by rw [z]; exact iE))).trans q
  ·have:=Ju (kvs.take i) []
   rw [jE,length_nil] at this
   omega
variable {A:Around} {E:Value→Shared→Prop} {s:Shared}
theorem Yw:typeLookup (.type "list") ("keys" : Str) = pure none:=by rw [typeLookup_type,builtinLookup_eq_fast]; kernel_rfl
theorem Q1 {l:Addr} {o:Obj} {a1:Array Value} {n:Nat} {Q:Option Value→Shared→Prop} (ho:s.heap.get? l = some o) (hc:o.cls = .type "list") (hi:o.data = .seq a1 n) (hd:o.dict = none) (hh:A.handled = none)
  (h:∀ h' tk e,Heap.NewExcOf s.heap h' e "AttributeError" → Q none { s with heap:=h',toks:=tk }):wpAny (model prog w) A (getAttr? (.ref l) "keys") Q E s:=by
 obtain ⟨c0,d0,i0,a2⟩:=o
 dsimp only at hc hi hd
 subst hc hi hd
 obtain ⟨hp,gn,dr,a3,os⟩:=s
 have ty:∀ t,(⟨hp,gn,dr,t,os⟩:Shared).TypeIs (.ref l) "list" := λ _=>⟨_,ho,Z⟩
 have z1:=sub_AttributeError
 have z2:=PySem.F.slot_list_getattribute.lookup
 have z3:=PySem.F.slot_list_getattribute.bind (.ref l)
 have z4:=am_list_getattr_none
 unfold getAttr? getAttrBy? getAttrBy
 repeat
  any_goals
   first
   | assumption
   | exact ty _
   | (with_reducible show wpAny _ _ (call (.builtin "list.__getattribute__") _ _) _ _ _
      refine call_meets PySem.F.slot_list_getattribute (ty _) am_entry_list_getattribute (PySem.F.args_list_getattribute_2 _ _) (meets_getattribute_miss_list l a1 n a2 "keys" _ Yw (by decide +kernel) (by size_fits)) ⟨ho,hh,λ h1 t1 e1 x1=>?_⟩)
   | wp_step
 obtain ⟨c1,u1,he⟩:=x1.there
 show wpAny _ _ (getattributeRaised _ _ _ _ _ _ _) _ _ _
 unfold getattributeRaised
 repeat any_goals (first | assumption | wp_step)
 exact h _ _ _ x1.of
def Aa4 (knd:PySem.KeyKind prog w κ) (s:Shared) (kvs:List (κ× Value)) (s2:Shared):Prop:=∃ h' tk,s2 = { s with heap:=h',toks:=tk }∧h'.DictOf knd s.heap.objs.size (kvs.foldl (λ acc kv=>stored acc kv.1 kv.2) [])∧∀ b o,b < s.heap.objs.size→s.heap.get? b = some o→h'.get? b = some o
theorem Wc {l:Addr} {ol:Obj} {a1:Array Value} {n:Nat} {kvs:List (κ× Value)} {Q:Value→Shared→Prop} (hh:A.handled = none) (ho:s.heap.get? l = some ol) (hc:ol.cls = .type "list") (hi:ol.data = .seq a1 n) (hd:ol.dict = none) (hn:kvs.length = a1.size) (hsz:a1.size≤sizeLine)
  (hv:∀ (i:Nat) (v:Value),a1[i]? = some v→∃ k u t o a3 m,kvs[i]? = some (k,u)∧v = .ref t∧s.heap.get? t = some o∧o.cls = .type "tuple" ∧ o.data = .seq #[a3,u] m∧knd.is k a3 = true)
  (h:∀ s2,Aa4 knd s kvs s2→Q (.ref s.heap.objs.size) s2):wpAny (model prog w) A (call (.type "dict") [.ref l]) Q E s:=by
 have a5:l < s.heap.objs.size:=Heap.lt_size ho
 refine callType_codes (Q₁:=λ x s1=>x = .ref s.heap.objs.size∧s1 = { s with heap:=s.heap.push { cls:=.type "dict", data:=.dict #[] } }) PySem.F.kt_called_dict (PySem.F.kt_typeCall_dict_1 _) PySem.F.entry_dict_init (kt_code_dict_new _ ⟨Z,Z⟩) ?_
 rintro x s1 ⟨rfl,rfl⟩
 have hN:(s.heap.push { cls:=.type "dict", data:=.dict #[] }).DictOf knd s.heap.objs.size []:=Heap.DictOf.new s.heap
 have a4:=Heap.get?_push_of_some { cls:=.type "dict", data:=.dict #[] } ho
 refine ⟨hN.typeIs,PySem.F.args_dict_init_2 _ _,?_⟩
 unfold Builtin.«dict.__init__»
 refine hJ ?_
 unfold Builtin.Dict.selfAndRest
 refine hJ (wpAny_notOrdered_dict hN.typeIs ?_)
 show wpAny _ _ (pure (s.heap.objs.size,[Value.ref l])) _ _ _
 refine hW ?_
 show wpAny _ _ (Builtin.Dict.updateFrom "dict.__init__" s.heap.objs.size (.ref l) [] .none) _ _ _
 unfold Builtin.Dict.updateFrom
 refine hJ (wpAny_typeOf (T:= "list") ⟨ol,a4,hc⟩ ?_)
 rw [if_pos (by decide)]
 refine hJ (Q1 (A:=A.in1.in1) a4 hc hi hd hh λ h1 t1 e1 x1=>?_)
 rw [if_pos (show (none:Option Value).isNone = true from rfl)]
 have kp:∀ b o,(s.heap.push { cls:=.type "dict", data:=.dict #[] }).get? b = some o→h1.get? b = some o:=x1.keeps
 have a6:h1.DictOf knd s.heap.objs.size []:=by
  obtain ⟨o,es,ep,ho,r⟩:=hN
  exact ⟨o,es,ep,kp _ _ ho,r⟩
 have a7:h1.IsList l a1:=⟨ol,kp _ _ a4,hc,n,hi⟩
 have a2:s.heap.objs.size < h1.objs.size:=by
  obtain ⟨o,es,ep,ho,r⟩:=a6
  exact Heap.lt_size ho
 refine hJ (wpAny_rule ?_)
 refine hJ (wpAny_pyIter_list a7 ?_)
 have a9:l≠h1.objs.size:=jB (lt_trans a5 a2)
 have b2:s.heap.objs.size∉[h1.objs.size,l]:=by
  simp only [jK,jH,or_false,not_or]
  exact ⟨jB a2,ne_of_gt a5⟩
 have b1:A.in1.in1.handled = none:=hh
 refine hW ⟨plainId_quiet Et _,Ya (knd:=knd) ((Walks.list b1 _ l a9 a1).toS) s.heap.objs.size b2 kvs hn hsz s.heap (λ i v hP=>?_) (a1.size - 0) 0 _ (by omega) (jX _) ⟨⟨_,Heap.get?_push_size _ rfl,Z,Z⟩,a7.push _⟩ (λ b o hb hw q=>?_) ?_ ?_⟩
 ·obtain ⟨k,u,t,o,a3,m,e1,e2,e3,e4,e5,e6⟩:=hv i v hP
  have tl:=Heap.lt_size e3
  exact ⟨k,u,t,o,a3,m,e1,e2,jB tl,by simp only [jK,jH,or_false]; exact jB (lt_trans tl a2),e3,e4,e5,e6⟩
 ·exact Heap.get?_push_of_some _ (kp _ _ (Heap.get?_push_of_some _ q))
 ·exact a6.push _
 ·intro s' mv S'
  refine ⟨Z,h _ ⟨s'.heap,s'.toks,?_,S',λ b o hb e=>?_⟩⟩
  ·obtain ⟨h',g',d',b3,a8⟩:=s'
   have eg:g' = s.gens:=mv.gens
   have ed:d' = s.drawn:=mv.drawn
   have eo:a8 = s.os:=mv.os
   subst eg ed eo
   rfl
  ·refine mv.heap b o ?_ (Heap.get?_push_of_some _ (kp _ _ (Heap.get?_push_of_some _ e)))
   simp only [jK,jH,or_false,not_or]
   exact ⟨jB hb,jB (lt_trans hb a2)⟩
end
section
variable {X:Cx} {pins:List (Addr× Obj)} {σ:St} {H:Hp} {s:Shared}
theorem Qp (I:Inv X pins σ H s):∀ (ts:List Addr) (kvs:List (Key× V)),ts.length = kvs.length→(∀ (i:Nat) t k v,ts[i]? = some t→kvs[i]? = some (k,v)→SqT X.K H t [kV k,v]) →
  ∃ rs:List (Key× Value),KV kvs rs∧∀ (i:Nat) t,ts[i]? = some t→∃ k u o a1 m,rs[i]? = some (k,u)∧s.heap.get? t = some o∧o.cls = .type "tuple" ∧ o.data = .seq #[a1,u] m∧(mixKind X.prog X.w).is k a1 = true
 | [],[],_,_=>⟨[],.nil,λ i t h=>by cases h⟩
 | [],_ :: _,h,_=>by cases h
 | _ :: _,[],h,_=>by cases h
 | t :: ts,(k,v) :: kvs,hl,ht=>by
  obtain ⟨rs,a2,hr⟩:=Qp I ts kvs (by simpa using hl) λ i t k v h1 h2=>ht (i + 1) t k v (by simpa using h1) (by simpa using h2)
  obtain ⟨a3,r,⟨o,ho,hc,n,hd⟩,hz⟩:=I.tuple (ht 0 t k v rfl rfl)
  cases r with
  | cons r1 r2 =>
   cases r2 with
   | cons r2 r3 =>
    cases r3
    refine ⟨(k,_) :: rs,.cons ⟨rfl,r2⟩ a2,λ i t' h=>?_⟩
    cases i with
    | zero =>
     cases h
     exact ⟨k,_,o,_,n,Z,ho,hc,hd,Lk r1⟩
    | succ i=>exact hr i t' (by simpa using h)
inductive R4 (K:PySem.W.Frag) (xs:List V) (H:Hp) (Q:VK):Prop
 | mk (a:Addr) (ts:List Addr) (kvs:List (Key× V)) (c0:xs = [.ref a]) (c1:SqL K H a (ts.map V.ref)) (c2:ts.length = kvs.length) (c3:∀ (i:Nat) t k v,ts[i]? = some t→kvs[i]? = some (k,v)→SqT K H t [kV k,v]) (c4:∀ p,H p = none→Q (.ref p) (upd H p (.dK (Bv [] kvs)))):R4 K xs H Q
def Adj (K:PySem.W.Frag):List V→Hp→VK→Prop:=λ xs H Q=>R4 K xs H Q
theorem Nr (hc:X.calm = true):Es X (.type "dict") (Adj X.K):=by
 intro pins s σ H xs us Q I r h
 obtain ⟨a,ts,kvs,rfl,hS,hl,ht,q⟩:=h
 obtain ⟨u,rfl,ru⟩:=r.one
 cases ru
 obtain ⟨a6,rv,⟨o,n,ho,a4,hd,hi⟩,hz⟩:=I.list hS
 obtain ⟨rs,a2,hr⟩:=Qp I ts kvs hl ht
 have a3:=rv.length
 rw [hZ] at a3 hz
 have a7:kvs.length = rs.length:=a2.length
 refine Wc (knd:=mixKind X.prog X.w) (kvs:=rs) (I.ok.hd hc) ho a4 hi hd (by rw [iL]; omega) (by rw [iL]; omega) (λ i v hv=>?_) λ s2 m=>?_
 ·have hv:a6[i]? = some v:=by simpa using hv
  have hi:i < ts.length:=by
   have:=(List.getElem?_eq_some_iff.mp hv).1
   omega
  obtain ⟨v',a1,rr⟩:=rv.get (i:=i) (x:=V.ref ts[i]) (by rw [iH,hX hi]; rfl)
  rw [hv] at a1
  cases a1
  cases rr
  obtain ⟨k,u,o,a5,m,e1,e2,e3,e4,e5⟩:=hr i ts[i] (hX hi)
  exact ⟨k,u,ts[i],o,a5,m,e1,Z,e2,e3,e4,e5⟩
 ·obtain ⟨h',tk,rfl,dd,keep⟩:=m
  have ml:=G9 kvs []
  rw [length_nil] at ml
  exact ⟨.ref s.heap.objs.size,_,I.laid (a:=s.heap.objs.size) (o:=.dK (Bv [] kvs)) (t':=tk) (λ b u hb=>keep b u (Heap.lt_size hb) hb) (iX _) (Ql (by omega) (beq_eq_false_iff_ne.mpr (Ne.symm (jB I.big))) (KV.merge a2 .nil) dd),Z,q _ (I.hok.fresh (iX _))⟩
def Ack (K:PySem.W.Frag) (ta tb:TE):TE:=λ σ H Q=>ta σ H λ x H1=>(x = .non∧tb σ H1 Q)∨∃ l xs,x = .ref l∧SqL K H1 l xs∧(xs = []→tb σ H1 Q)∧(¬ xs = []→Q x H1)
theorem AdO {a b:Expr} {rest:List Expr} {pos:Pos} {ta tb:TE} (ha:PE X a ta) (hb:PE X (.BoolOp .Or (b :: rest) pos) tb):PE X (.BoolOp .Or (a :: b :: rest) pos) (Ack X.K ta tb):=by
 intro pins s σ H Q I h
 refine BoolOp_or (thn (ha pins s σ H _ I h) λ v s1 ⟨x,H1,I1,r1,q1⟩=>?_)
 rcases q1 with ⟨rfl,q⟩ | ⟨l,xs,rfl,hS,qe,qn⟩
 ·cases r1
  exact truthy_none (hb pins s1 σ H1 Q I1 q)
 ·cases r1
  obtain ⟨a1,rv,pl,hz⟩:=I1.list hS
  have hl:=rv.length
  refine wpAny_truthy_list pl.isList (by simp only [iL]; have hs:sizeLine = 16777216:=sizeLine_eq; omega) ?_
  cases a1 with
  | nil =>
   have e:xs = []:=length_eq_zero_iff.mp (by rw [hl]; rfl)
   exact hb pins _ σ H1 Q (I1.tok _) (qe e)
  | cons y ys =>
   have e:¬ xs = []:=λ z=>by rw [z] at hl; cases hl
   exact ⟨.ref l,H1,I1.tok _,Z,qn e⟩
end
end L2
end
section
set_option Elab.async false
set_option linter.all false
set_option maxRecDepth 100000
set_option maxHeartbeats 64000000
namespace My
open PySem L2
def top (i:Nat):Stmt:=PySem.Challenge.pw_signalwise_k52_netted.main.body.getD i (.Pass ⟨0,0,0,0⟩)
abbrev Cu:Stmt:=top 5
theorem B7:As ["net", "state", "coming", "settler", "rests", "signs", "number", "gate", "heard"] ["net", "state", "coming"] (Ag Cu):=⟨Z,Z,Z,by decide +kernel,Z,by decide +kernel,by decide +kernel⟩
abbrev Ei:Stmt:=top 6
theorem Hc:As ["gate", "starts", "rests", "signs", "word"] ["gate", "starts", "rests", "signs"] (Ag Ei):=⟨Z,Z,Z,by decide +kernel,Z,by decide +kernel,by decide +kernel⟩
abbrev Fh:Stmt:=top 7
theorem Ew:As ["gates", "namers", "number", "gate", "named"] ["gates"] (Ag Fh):=⟨Z,Z,Z,by decide +kernel,Z,by decide +kernel,by decide +kernel⟩
abbrev Gn:Stmt:=top 13
theorem Ri:As ["part"] ["part"] (Ag Gn):=⟨Z,Z,Z,by decide +kernel,Z,by decide +kernel,by decide +kernel⟩
abbrev Ev:Stmt:=top 14
theorem L7:As ["code"] ["code"] (Ag Ev):=⟨Z,Z,Z,by decide +kernel,Z,by decide +kernel,by decide +kernel⟩
abbrev Fb:Stmt:=top 15
theorem Mv:As ["code"] ["code"] (Ag Fb):=⟨Z,Z,Z,by decide +kernel,Z,by decide +kernel,by decide +kernel⟩
abbrev Dj:Stmt:=top 17
theorem L1:As ["value", "known"] ["value", "known"] (Ag Dj):=⟨Z,Z,Z,by decide +kernel,Z,by decide +kernel,by decide +kernel⟩
abbrev Fk:Stmt:=top 21
theorem Ob:As ["known"] ["known"] (Ag Fk):=⟨Z,Z,Z,by decide +kernel,Z,by decide +kernel,by decide +kernel⟩
abbrev Em:Stmt:=top 23
theorem Om:As ["part"] ["part"] (Ag Em):=⟨Z,Z,Z,by decide +kernel,Z,by decide +kernel,by decide +kernel⟩
abbrev F9:Stmt:=top 24
theorem Fj:As ["part", "found", "waiting", "here"] ["part"] (Ag F9):=⟨Z,Z,Z,by decide +kernel,Z,by decide +kernel,by decide +kernel⟩
abbrev Ga:Stmt:=top 26
theorem Sr:As ["part"] ["part"] (Ag Ga):=⟨Z,Z,Z,by decide +kernel,Z,by decide +kernel,by decide +kernel⟩
abbrev Ik:Stmt:=top 31
theorem Ey:As ["program", "wiring", "body", "sign", "senders", "ends", "nexts"] ["program"] (Ag Ik):=⟨Z,Z,Z,by decide +kernel,Z,by decide +kernel,by decide +kernel⟩
abbrev Ff:Stmt:=top 32
theorem F7:As ["wiring", "part", "whole", "inner", "piece"] ["wiring", "part"] (Ag Ff):=⟨Z,Z,Z,by decide +kernel,Z,by decide +kernel,by decide +kernel⟩
abbrev Gm:Stmt:=top 33
theorem Qr:As ["wiring", "part", "whole"] ["wiring", "part", "whole"] (Ag Gm):=⟨Z,Z,Z,by decide +kernel,Z,by decide +kernel,by decide +kernel⟩
abbrev Gr:Stmt:=top 34
theorem Lb:As ["wiring", "rest", "whole", "begun"] ["wiring", "rest", "whole"] (Ag Gr):=⟨Z,Z,Z,by decide +kernel,Z,by decide +kernel,by decide +kernel⟩
abbrev E9:Stmt:=top 35
theorem F6:As ["wiring", "rest", "whole", "memory", "comes", "coming", "staying"] ["wiring", "rest", "whole", "memory", "comes"] (Ag E9):=⟨Z,Z,Z,by decide +kernel,Z,by decide +kernel,by decide +kernel⟩
abbrev Gp:Stmt:=top 36
theorem Hr:As ["wiring", "part", "whole", "first", "second", "kept", "inner"] ["wiring", "part", "whole", "first", "second"] (Ag Gp):=⟨Z,Z,Z,by decide +kernel,Z,by decide +kernel,by decide +kernel⟩
abbrev Fg:Stmt:=top 37
theorem Ij:As ["wiring", "whole", "first", "second", "going_on", "going_past"] ["wiring", "whole", "first", "second"] (Ag Fg):=⟨Z,Z,Z,by decide +kernel,Z,by decide +kernel,by decide +kernel⟩
abbrev Iu:Stmt:=top 38
theorem Fz:As ["wiring", "sign", "whole", "first", "second", "begun", "inner", "asked", "going_on"] ["wiring", "sign", "whole", "first", "second"] (Ag Iu):=⟨Z,Z,Z,by decide +kernel,Z,by decide +kernel,by decide +kernel⟩
abbrev Fl:Stmt:=top 39
theorem Db:As ["wiring", "whole", "first", "second", "sides", "inner", "other", "idle", "ended"] ["wiring", "whole", "first", "second"] (Ag Fl):=⟨Z,Z,Z,by decide +kernel,Z,by decide +kernel,by decide +kernel⟩
abbrev Cv:Stmt:=top 40
theorem Co:As ["wiring", "sides", "codes", "code", "here", "needed", "side"] ["wiring", "sides"] (Ag Cv):=⟨Z,Z,Z,by decide +kernel,Z,by decide +kernel,by decide +kernel⟩
abbrev E1:Stmt:=top 41
theorem Px:As ["wiring", "part", "whole", "inner"] ["wiring", "part", "whole", "inner"] (Ag E1):=⟨Z,Z,Z,by decide +kernel,Z,by decide +kernel,by decide +kernel⟩
abbrev E3:Stmt:=top 42
theorem Kq:As ["wiring", "rest", "whole", "inner", "memory"] ["wiring", "rest", "whole", "inner"] (Ag E3):=⟨Z,Z,Z,by decide +kernel,Z,by decide +kernel,by decide +kernel⟩
abbrev Eu:Stmt:=top 43
theorem Cp:As ["wiring", "part", "whole", "inner", "sign", "skips", "goes", "held", "code"] ["wiring", "part", "whole", "inner"] (Ag Eu):=⟨Z,Z,Z,by decide +kernel,Z,by decide +kernel,by decide +kernel⟩
abbrev Gs:Stmt:=top 44
theorem Qz:As ["wiring", "whole", "code"] ["wiring", "whole", "code"] (Ag Gs):=⟨Z,Z,Z,by decide +kernel,Z,by decide +kernel,by decide +kernel⟩
abbrev F8:Stmt:=top 46
theorem Pu:As ["_law_cell"] ["_law_cell"] (Ag F8):=⟨Z,Z,Z,by decide +kernel,Z,by decide +kernel,by decide +kernel⟩
abbrev Iv:Stmt:=top 47
theorem Wi:As ["_law_script", "_law_k"] ["_law_script", "_law_k"] (Ag Iv):=⟨Z,Z,Z,by decide +kernel,Z,by decide +kernel,by decide +kernel⟩
abbrev Gq:Stmt:=top 48
theorem Kr:As ["_law_seed", "_law_signs", "_law_lot"] ["_law_seed", "_law_signs"] (Ag Gq):=⟨Z,Z,Z,by decide +kernel,Z,by decide +kernel,by decide +kernel⟩
abbrev Ep:Stmt:=top 49
theorem Ku:As ["_law_part", "_law_inner"] ["_law_part"] (Ag Ep):=⟨Z,Z,Z,by decide +kernel,Z,by decide +kernel,by decide +kernel⟩
abbrev Gb:Stmt:=top 50
theorem El:As ["_law_stack", "_law_seed", "_law_signs", "_law_lot", "_law_sign", "_law_one", "_law_other"] ["_law_stack", "_law_seed", "_law_signs"] (Ag Gb):=⟨Z,Z,Z,by decide +kernel,Z,by decide +kernel,by decide +kernel⟩
abbrev Gu:Stmt:=top 51
theorem D8:As ["_law_cells", "_law_signs", "_law_stack", "_law_cell", "_law_seed", "_law_one", "_law_other"] ["_law_cells", "_law_signs"] (Ag Gu):=⟨Z,Z,Z,by decide +kernel,Z,by decide +kernel,by decide +kernel⟩
abbrev Du:Stmt:=top 52
theorem Bj:As ["_law_part", "_law_k", "_law_word", "_law_one", "_law_other"] ["_law_part", "_law_k"] (Ag Du):=⟨Z,Z,Z,by decide +kernel,Z,by decide +kernel,by decide +kernel⟩
abbrev Fa:Stmt:=top 53
theorem Cg:As ["_law_script", "_law_most", "_law_seed", "_law_came", "_law_outs", "_law_signs", "_law_body_here", "_law_many"] ["_law_script", "_law_most"] (Ag Fa):=⟨Z,Z,Z,by decide +kernel,Z,by decide +kernel,by decide +kernel⟩
abbrev En:Stmt:=top 54
theorem Ji:As ["_law_cell", "_law_came", "_law_seed"] ["_law_cell", "_law_came"] (Ag En):=⟨Z,Z,Z,by decide +kernel,Z,by decide +kernel,by decide +kernel⟩
abbrev E4:Stmt:=top 55
theorem Fi:As ["_law_gate", "_law_state", "_law_coming_here", "_law_known", "_law_word", "_law_numbers", "_law_ahead"] ["_law_gate", "_law_state", "_law_coming_here", "_law_known"] (Ag E4):=⟨Z,Z,Z,by decide +kernel,Z,by decide +kernel,by decide +kernel⟩
abbrev E2:Stmt:=top 56
theorem Dq:As ["_law_net", "_law_state", "_law_coming_here", "_law_known", "_law_changed", "_law_number"] ["_law_net", "_law_state", "_law_coming_here"] (Ag E2):=⟨Z,Z,Z,by decide +kernel,Z,by decide +kernel,by decide +kernel⟩
abbrev Gv:Stmt:=top 57
theorem Ez:As ["_law_runner", "_law_coming_here", "_law_word", "_law_found"] ["_law_runner", "_law_coming_here"] (Ag Gv):=⟨Z,Z,Z,by decide +kernel,Z,by decide +kernel,by decide +kernel⟩
abbrev Go:Stmt:=top 58
theorem Dc:As ["_law_script", "_law_program_here", "_law_rests", "_law_net", "_law_same", "_law_runner", "_law_state", "_law_cell", "_law_coming_here", "_law_word", "_law_found", "_law_known", "_law_signs", "_law_kept"] ["_law_script"] (Ag Go):=⟨Z,Z,Z,by decide +kernel,Z,by decide +kernel,by decide +kernel⟩
abbrev Ix:Stmt:=top 8
abbrev Mq:Stmt:=top 19
abbrev Sd:Stmt:=top 20
abbrev Ace:Stmt:=top 28
abbrev Ej:Stmt:=top 29
structure Txt (mg:Str→Option Value):Prop where
 n_ValueError:mg "ValueError" = none
 n_dict:mg "dict" = none
 n_enumerate:mg "enumerate" = none
 n_int:mg "int" = none
 n_isinstance:mg "isinstance" = none
 n_len:mg "len" = none
 n_list:mg "list" = none
 n_max:mg "max" = none
 n_range:mg "range" = none
 n_set:mg "set" = none
 n_sorted:mg "sorted" = none
 n_tuple:mg "tuple" = none
abbrev Gw:=Str× List Int
structure Ws where
 gs:List Gw
 sn:List (List Int)
 lv:List (Int× Int)
def Ws.nx (s:Ws):Int:=(s.gs.length:Int)
def Ws.add (s:Ws) (w:Str) (ns:List Int):Ws:=⟨s.gs ++ [(w,ns)],s.sn,s.lv⟩
def Ws.fil (s:Ws) (n:Int) (w:Str) (ns:List Int):Ws:=⟨s.gs.set n.toNat (w,ns),s.sn,s.lv⟩
def Ws.som (s:Ws) (ns:List Int):Int× Ws:=if ns.length = 1 then (ns.headD 0,s) else (s.nx,s.add "some" ns)
def Gd (l:List (Int× Int)) (k v:Int):List (Int× Int):=if (l.any λ p=>decide (p.1 = k)) = true then l.map (λ p=>if p.1 = k then (p.1,v) else p) else l ++ [(k,v)]
def Ws.lev (s:Ws) (k v:Int):Ws:=⟨s.gs,s.sn,Gd s.lv k v⟩
def Ws.sen (s:Ws) (x:Int) (g:Int):Ws:=⟨s.gs,s.sn.set x.toNat (s.sn.getD x.toNat [] ++ [g]),s.lv⟩
def kvI (p:Int× Int):Key× V:=(Sum.inl p.1,V.int p.2)
theorem putI_map (l:List (Int× Int)) (k v:Int):(Gd l k v).map kvI = Dl (l.map kvI) (Sum.inl k) (V.int v):=by
 have e:((l.map kvI).any λ kv=>decide (kv.1 = (Sum.inl k:Key))) = l.any λ p=>decide (p.1 = k):=by
  rw [any_map]
  congr 1
  funext p
  show decide ((Sum.inl p.1:Key) = Sum.inl k) = _
  by_cases h:p.1 = k
  ·rw [iI h,iI (congrArg Sum.inl h)]
  ·rw [iJ h,iJ (λ z=>h (Sum.inl.inj z))]
 unfold Gd Dl
 rw [e]
 split
 ·rw [map_map,map_map]
  congr 1
  funext p
  show kvI (if p.1 = k then (p.1,v) else p) = if (Sum.inl p.1:Key) = Sum.inl k then ((Sum.inl p.1:Key),V.int v) else kvI p
  by_cases h:p.1 = k
  ·rw [if_pos h,if_pos (congrArg Sum.inl h)]; rfl
  ·rw [if_neg h,if_neg (λ z=>h (Sum.inl.inj z))]
 ·rw [iM]; rfl
theorem putI_new {l:List (Int× Int)} {k v:Int} (h:∀ p∈l,¬ p.1 = k):Gd l k v = l ++ [(k,v)]:=by
 unfold Gd
 rw [if_neg]
 intro z
 obtain ⟨p,hp,e⟩:=any_eq_true.mp z
 exact h p hp (iK e)
structure Lc where
 dx:Addr
 gl:Addr
 sl:Addr
 nl:Addr
 ld:Addr
 rs:List Addr
def Lc.S (L:Lc):List Addr:=L.gl :: L.ld :: L.rs
def wsF (L:Lc):List (Str× V):=[("gates", .ref L.gl),("signs", .ref L.sl),("senders", .ref L.nl),("leavers", .ref L.ld)]
def GwAt (H:Hp) (g:Gw) (v:V):Prop:=∃ t u,v = .ref t∧H t = some (.tup [.str g.1,.ref u])∧H u = some (.tup (g.2.map V.int))
theorem GwAt.mono {H H':Hp} {g:Gw} {v:V} (h:GwAt H g v) (T:Tp H H'):GwAt H' g v:=by
 obtain ⟨t,u,e,h1,h2⟩:=h
 exact ⟨t,u,e,T _ _ h1,T _ _ h2⟩
inductive Bk (C:Addr) (H:Hp) (o:Addr) (L:Lc) (n:Nat) (s:Ws):Prop
 | mk (gvs:List V) (ho:H o = some (.ins C L.dx (wsF L))) (hg:H L.gl = some (.lst gvs)) (hp:PySem.Paired (GwAt H) s.gs gvs) (hs:H L.sl = some (.lst ((List.range n).map λ (i:Nat)=>V.int (i:Int))))
   (hn:H L.nl = some (.lst (L.rs.map V.ref))) (hr:PySem.Paired (λ l r=>H r = some (.lst ((l:List Int).map V.int))) s.sn L.rs) (hl:H L.ld = some (.dK (s.lv.map kvI))) (nd:(L.gl :: L.sl :: L.nl :: L.rs).Nodup):Bk C H o L n s
def KpS (S:List Addr) (H H':Hp):Prop:=∀ b u,b∉S→H b = some u→H' b = some u
theorem KpS.refl (S:List Addr) (H:Hp):KpS S H H:=λ _ _ _ h=>h
theorem KpS.trans {S:List Addr} {H H1 H2:Hp} (a:KpS S H H1) (b:KpS S H1 H2):KpS S H H2:=λ c u h e=>b c u h (a c u h e)
theorem Same.kpS {S:List Addr} {H H':Hp} (g:Same H H'):KpS S H H':=λ b u _ e=>g b u e
theorem KpS.upd {S:List Addr} {r:Addr} {H:Hp} {u:HO} (h:r∈S):KpS S H (L2.upd H r u):=λ b v n e=>by
 have hb:b≠r:=λ z=>n (by rw [z]; exact h)
 rw [upd_ne hb]
 exact e
theorem KpS.more {S S':List Addr} {H H':Hp} (k:KpS S H H') (h:∀ b∈S,b∈S'):KpS S' H H':=λ b u n e=>k b u (λ z=>n (h b z)) e
theorem Bk.off {C o:Addr} {H:Hp} {L:Lc} {n:Nat} {s:Ws} (w:Bk C H o L n s) {b:Addr} {u:HO} (e:H b = some u) (h1:∀ xs,u≠.lst xs) (h2:∀ kvs,u≠.dK kvs):b∉L.S:=λ z=>by
 obtain ⟨gvs,ho,hg,hp,hs,hn,hr,hl,nd⟩:=w
 rcases jK.mp z with z | z
 ·rw [z,hg] at e; exact h1 _ (Option.some.inj e).symm
 ·rcases jK.mp z with z | z
  ·rw [z,hl] at e; exact h2 _ (Option.some.inj e).symm
  ·obtain ⟨j,hj⟩:=getElem?_of_mem z
   have a2:=PySem.Paired.length hr
   have a1:j < s.sn.length:=by have:=(List.getElem?_eq_some_iff.mp hj).1; omega
   obtain ⟨y,e1,e2⟩:=Bn hr (hX a1)
   rw [hj] at e1
   cases e1
   rw [e2] at e
   exact h1 _ (Option.some.inj e).symm
theorem Bk.tp {C o:Addr} {H H':Hp} {L:Lc} {n:Nat} {s:Ws} (w:Bk C H o L n s) (k:KpS L.S H H'):Tp H H':=λ b xs e=>k b _ (w.off e (λ _ z=>nomatch z) λ _ z=>nomatch z) e
theorem Bk.same {C o:Addr} {H H':Hp} {L:Lc} {n:Nat} {s:Ws} (w:Bk C H o L n s) (g:Same H H'):Bk C H' o L n s:=by
 obtain ⟨gvs,ho,hg,hp,hs,hn,hr,hl,nd⟩:=w
 exact ⟨gvs,g _ _ ho,g _ _ hg,Paired.mapP hp λ _ _ a=>a.mono g.tp,g _ _ hs,g _ _ hn,Paired.mapP hr λ _ _ a=>g _ _ a,g _ _ hl,nd⟩
theorem Bk.keep {C o:Addr} {H H':Hp} {L:Lc} {n:Nat} {s:Ws} (w:Bk C H o L n s) (T:List Addr) (g:KpS T H H') (tp:Tp H H') (h:∀ b∈T,b≠o∧b≠L.sl∧b≠L.nl∧b∉L.S):Bk C H' o L n s:=by
 obtain ⟨gvs,ho,hg,hp,hs,hn,hr,hl,nd⟩:=w
 refine ⟨gvs,g _ _ (λ z=>(h _ z).1 rfl) ho,g _ _ (λ z=>(h _ z).2.2.2 (iE)) hg,Paired.mapP hp λ _ _ a=>a.mono tp,g _ _ (λ z=>(h _ z).2.1 rfl) hs,g _ _ (λ z=>(h _ z).2.2.1 rfl) hn,?_,g _ _ (λ z=>(h _ z).2.2.2 (iF _ iE)) hl,nd⟩
 refine C9 (PySem.Paired.length hr) λ j x e=>?_
 obtain ⟨y,e1,e2⟩:=Bn hr e
 exact ⟨y,e1,g _ _ (λ z=>(h _ z).2.2.2 (iF _ (iF _ (iN e1)))) e2⟩
theorem Bk.gates {C o:Addr} {H:Hp} {L:Lc} {n:Nat} {s:Ws} (w:Bk C H o L n s) {gs:List Gw} {gvs:List V} (hp:PySem.Paired (GwAt H) gs gvs):Bk C (upd H L.gl (.lst gvs)) o L n ⟨gs,s.sn,s.lv⟩:=by
 obtain ⟨a1,ho,hg,a2,hs,hn,hr,hl,nd⟩:=w
 have tp:Tp H (upd H L.gl (.lst gvs)):=Tp.lst hg
 have ns:L.sl≠L.gl:=λ z=>by rw [z] at nd; simp at nd
 have nn:L.nl≠L.gl:=λ z=>by rw [z] at nd; simp at nd
 have nr:∀ r∈L.rs,r≠L.gl:=λ r hr z=>by rw [← z] at nd; simp [hr] at nd
 refine ⟨gvs,by rw [upd_ne (Bd ho hg (by intro z; cases z))]; exact ho,upd_same,Paired.mapP hp λ _ _ a=>a.mono tp,by rw [upd_ne ns]; exact hs,by rw [upd_ne nn]; exact hn,?_,by rw [upd_ne (Bd hl hg (by intro z; cases z))]; exact hl,nd⟩
 refine C9 (PySem.Paired.length hr) λ j x e=>?_
 obtain ⟨y,e1,e2⟩:=Bn hr e
 exact ⟨y,e1,by rw [upd_ne (nr y (iN e1))]; exact e2⟩
theorem AcV (s:Ws) (w:Str) (ns:List Int):(s.add w ns).gs.length = s.gs.length + 1:=by unfold Ws.add; rw [iB,iD]
theorem Abt (s:Ws) (g:Int) (w:Str) (ns:List Int):(s.fil g w ns).gs.length = s.gs.length:=by unfold Ws.fil; rw [jL]
abbrev Cd:=List (Int× Int)
def FmG (n m c:Nat) (g:Gw):Prop:=(g.1 = "start" ∧ g.2 = [])∨(g.1 = "memory" ∧ ∃ k:Int,g.2 = [k]∧0≤k∧k < m)∨(g.1 = "given" ∧ ∃ k:Int,g.2 = [k]∧0≤k∧k < n)∨((g.1 = "all" ∨ g.1 = "some" ∨ (g.1 = "not" ∧ g.2.length = 1))∧∀ x∈g.2,0≤x∧x < c)
theorem FmG.more {n m c c':Nat} {g:Gw} (h:FmG n m c g) (hc:c≤c'):FmG n m c' g:=by
 rcases h with h | h | h | ⟨h1,h2⟩
 ·exact .inl h
 ·exact .inr (.inl h)
 ·exact .inr (.inr (.inl h))
 ·exact .inr (.inr (.inr ⟨h1,λ x hx=>by have:=h2 x hx; omega⟩))
def Rng (s:Ws) (g:Int):Prop:=0≤g∧g < s.nx
theorem Rng.up {s s':Ws} {x:Int} (h:Rng s x) (l:s.gs.length≤s'.gs.length):Rng s' x:=by unfold Rng Ws.nx at *; omega
def RL (s:Ws) (l:List Int):Prop:=∀ x∈l,Rng s x
theorem RL.nil {s:Ws}:RL s []:=λ x hx=>nomatch hx
theorem RL.cons {s:Ws} {a:Int} {l:List Int} (h:Rng s a) (t:RL s l):RL s (a :: l):=λ x hx=>by
 rcases jK.mp hx with e | e
 ·rw [e]; exact h
 ·exact t x e
theorem RL.one {s:Ws} {a:Int} (h:Rng s a):RL s [a]:=.cons h .nil
theorem RL.two {s:Ws} {a b:Int} (h:Rng s a) (h':Rng s b):RL s [a,b]:=.cons h (.one h')
theorem RL.up {s s':Ws} {l:List Int} (h:RL s l) (le:s.gs.length≤s'.gs.length):RL s' l:=λ x hx=>(h x hx).up le
def CR (s:Ws) (cs:Cd):Prop:=∀ p∈cs,(0≤p.1∧p.1≤5)∧Rng s p.2
theorem CR.up {s s':Ws} {cs:Cd} (h:CR s cs) (l:s.gs.length≤s'.gs.length):CR s' cs:=λ p hp=>⟨(h p hp).1,(h p hp).2.up l⟩
theorem CR.app {s:Ws} {a b:Cd} (h:CR s a) (h':CR s b):CR s (a ++ b):=λ p hp=>(iU.mp hp).elim (h p) (h' p)
structure WO (n m:Nat) (s:Ws):Prop where
 g:∀ g∈s.gs,FmG n m s.gs.length g∧g.2.length≤1000
 sn:∀ r∈s.sn,RL s r
 lv:∀ p∈s.lv,Rng s p.2
def Cap (M:Nat) (s:Ws) (d:Nat):Prop:=s.gs.length + d≤M∧s.lv.length + d≤M∧∀ r∈s.sn,32 * r.length + d≤M
structure Hv (C o:Addr) (L:Lc) (n m:Nat) (H:Hp) (s:Ws) (d:Nat):Prop where
 w:Bk C H o L n s
 f:WO n m s
 nl:n≤s.gs.length
 sl:s.sn.length = n
 b:Cap 1000000 s d
structure Nw (C o:Addr) (L:Lc) (n m:Nat) (S:List Addr) (H:Hp) (s:Ws) (H':Hp) (s':Ws) (d:Nat):Prop where
 k:KpS S H H'
 w:Bk C H' o L n s'
 f:WO n m s'
 lo:s.gs.length≤s'.gs.length
 sl:s'.sn.length = s.sn.length
 lv:∀ k∈s.lv.map (·.1),k∈s'.lv.map (·.1)
 c:∀ M e,Cap M s (d + e)→Cap M s' e
section
variable {C CP o a dx:Addr} {L:Lc} {n m d e E:Nat} {S:List Addr} {H H' H1:Hp} {s s' s1:Ws} {x y z:Int} {rv cv:V} {u:HO}
theorem Hv.nw (h:Hv C o L n m H s E):Nw C o L n m S H s H s 0:=⟨KpS.refl _ _,h.w,h.f,iX _,Z,λ _ h=>h,λ M e h=>by rwa [Nat.zero_add] at h⟩
theorem Nw.trans (U:Nw C o L n m S H s H1 s1 d) (V:Nw C o L n m S H1 s1 H' s' e):Nw C o L n m S H s H' s' (d + e):=⟨U.k.trans V.k,V.w,V.f,iW U.lo V.lo,V.sl.trans U.sl,λ k h=>V.lv k (U.lv k h),λ M i h=>V.c M i (U.c M _ (by rwa [add_assoc] at h))⟩
theorem Nw.more {S':List Addr} (U:Nw C o L n m S H s H' s' d) (h:∀ b∈S,b∈S'):Nw C o L n m S' H s H' s' d:={ U with k:=U.k.more h }
theorem Nw.then (U:Nw C o L n m (a :: L.S) H s H1 s1 d) (V:Nw C o L n m L.S H1 s1 H' s' e):Nw C o L n m (a :: L.S) H s H' s' (d + e):=U.trans (V.more λ b h=>iF _ h)
theorem Cap.le {M:Nat} (h:Cap M s E) (l:e≤E):Cap M s e:=⟨by have:=h.1; omega,by have:=h.2.1; omega,λ r hr=>by have:=h.2.2 r hr; omega⟩
theorem Nw.hv (U:Nw C o L n m S H s H' s' d) (h:Hv C o L n m H s E) (l:d + e≤E):Hv C o L n m H' s' e:=⟨U.w,U.f,iW h.nl U.lo,U.sl.trans h.sl,U.c _ _ (h.b.le l)⟩
theorem Nw.le (U:Nw C o L n m S H s H' s' d) (l:d≤e):Nw C o L n m S H s H' s' e:={ U with c:=λ M i h=>U.c M i (h.le (by omega)) }
theorem Nw.same (U:Nw C o L n m S H s H' s' d) (g:Same H' H1):Nw C o L n m S H s H1 s' d:={ U with k:=U.k.trans (Same.kpS g),w:=U.w.same g }
theorem Nw.new (U:Nw C o L n m S H s H' s' d) (h:H' a = none) (u:HO):Nw C o L n m S H s (upd H' a u) s' d:=U.same (Ac h u)
theorem WO.of {w:Str} {ns:List Int} (h:WO n m s) (hs:s'.sn = s.sn) (hl:s'.lv = s.lv) (lo:s.gs.length≤s'.gs.length) (hf:FmG n m s.gs.length (w,ns)) (l:ns.length≤1000) (hg:∀ g∈s'.gs,g∈s.gs∨g = (w,ns)):WO n m s':=by
 refine ⟨λ g i=>?_,λ r hr x hx=>?_,λ p hp=>?_⟩
 ·rcases hg g i with z | z
  ·exact ⟨(h.g g z).1.more lo,(h.g g z).2⟩
  ·rw [z]; exact ⟨hf.more lo,l⟩
 ·rw [hs] at hr; exact (h.sn r hr x hx).up lo
 ·rw [hl] at hp; exact (h.lv p hp).up lo
theorem Hv.add {w:Str} {ns:List Int} (h:Hv C o L n m H s 1) (k:KpS L.S H H') (W:Bk C H' o L n (s.add w ns)) (hf:FmG n m s.gs.length (w,ns)) (l:ns.length≤1000):Nw C o L n m L.S H s H' (s.add w ns) 1∧Rng (s.add w ns) s.nx:=by
 have la:=AcV s w ns
 refine ⟨⟨k,W,h.f.of rfl rfl (by omega) hf l λ g hg=>?_,by omega,Z,λ _ h=>h,λ M e h=>⟨by have:=h.1; omega,by have:=h.2.1; show s.lv.length + e≤M; omega,λ r hr=>by have:=h.2.2 r hr; omega⟩⟩,by unfold Rng Ws.nx; omega⟩
 exact (iU.mp (show g∈s.gs ++ [(w,ns)] from hg)).imp id jD.mp
theorem Hv.fil {w:Str} {ns:List Int} {g:Int} (h:Hv C o L n m H s E) (k:KpS L.S H H') (W:Bk C H' o L n (s.fil g w ns)) (hw:w = "all" ∨ w = "some") (hx:RL s ns) (l:ns.length≤1000):Nw C o L n m L.S H s H' (s.fil g w ns) 0:=by
 have la:=Abt s g w ns
 refine ⟨k,W,h.f.of rfl rfl (by omega) (.inr (.inr (.inr ⟨hw.elim .inl λ z=>.inr (.inl z),hx⟩))) l λ g' hg=>List.mem_or_eq_of_mem_set (show g'∈s.gs.set g.toNat (w,ns) from hg),by omega,Z,λ _ h=>h,λ M e h=>⟨by have:=h.1; omega,by have:=h.2.1; show s.lv.length + e≤M; omega,λ r hr=>by have:=h.2.2 r hr; omega⟩⟩
end
abbrev Hn:Stmt:=B8 Ej 0
abbrev Le:Stmt:=B8 Ej 1
abbrev Jx:Stmt:=B8 Ej 2
abbrev Nv:Stmt:=B8 Ej 3
abbrev Hi:Stmt:=B8 Ej 4
abbrev Hg:Stmt:=B8 Ej 5
abbrev Iy:Stmt:=B8 Ej 6
abbrev Gi:Stmt:=B8 Ej 7
abbrev Hj:Stmt:=B8 Ej 8
abbrev Lz:Stmt:=B8 Ace 0
theorem Um:As ["self", "word", "numbers"] ["self", "word", "numbers"] (Ag Le):=⟨Z,Z,Z,by decide +kernel,Z,by decide +kernel,by decide +kernel⟩
theorem Ra:As ["self"] ["self"] (Ag Jx):=⟨Z,Z,Z,by decide +kernel,Z,by decide +kernel,by decide +kernel⟩
theorem Abz:As ["self", "number", "word", "numbers"] ["self", "number", "word", "numbers"] (Ag Nv):=⟨Z,Z,Z,by decide +kernel,Z,by decide +kernel,by decide +kernel⟩
theorem Sj:As ["self", "number"] ["self", "number"] (Ag Hi):=⟨Z,Z,Z,by decide +kernel,Z,by decide +kernel,by decide +kernel⟩
theorem Sl:As ["self", "numbers"] ["self", "numbers"] (Ag Hg):=⟨Z,Z,Z,by decide +kernel,Z,by decide +kernel,by decide +kernel⟩
theorem Wf:As ["self", "numbers"] ["self", "numbers"] (Ag Iy):=⟨Z,Z,Z,by decide +kernel,Z,by decide +kernel,by decide +kernel⟩
theorem Sh:As ["self"] ["self"] (Ag Hj):=⟨Z,Z,Z,by decide +kernel,Z,by decide +kernel,by decide +kernel⟩
theorem Aav:As ["self", "runs", "kept", "stays"] ["self", "runs", "kept", "stays"] (Ag Lz):=⟨Z,Z,Z,by decide +kernel,Z,by decide +kernel,by decide +kernel⟩
structure B2 (K:PySem.W.Frag) (mg:Str→Option Value) (C CP:Addr):Prop extends Txt mg where
 cl:Cls K C
 nG:Ca K C "gates"
 nS:Ca K C "signs"
 nN:Ca K C "senders"
 nL:Ca K C "leavers"
 clP:Cls K CP
 nR:Ca K CP "runs"
 nK:Ca K CP "kept"
 nT:Ca K CP "stays"
 nE:Ca K CP "rests"
 nC:Ca K CP "codes"
 m_Wired:mg "Wired" = some (.ref CP)
 m_Wiring:mg "Wiring" = some (.ref C)
 m_EN:∃ t,mg "ENDED" = some (.int 0 t)
 m_RE:∃ t,mg "RESTS" = some (.int 1 t)
 m_LE:∃ t,mg "LEAVES" = some (.int 2 t)
def Num (C o:Addr) (L:Lc) (n m:Nat) (Q:VK) (H:Hp) (s:Ws):Prop:=∀ H' s' x,Nw C o L n m L.S H s H' s' 1→Rng s' x→Q (.int x) H'
inductive Qk (C:Addr) (vs:List V) (H:Hp) (Q:VK):Prop
 | mk (o nl':Addr) (w:Str) (ns:List Int) (L:Lc) (n m:Nat) (s:Ws) (_:vs = [.ref o,.str w,.ref nl']) (_:Hv C o L n m H s 1) (_:H nl' = some (.lst (ns.map V.int))) (_:FmG n m s.gs.length (w,ns)) (_:ns.length≤1000) (_:Num C o L n m Q H s):Qk C vs H Q
def F2 (C:Addr):Sp:=λ vs H Q _=>Qk C vs H Q
inductive O0 (C:Addr) (vs:List V) (H:Hp) (Q:VK):Prop
 | mk (o:Addr) (L:Lc) (n m:Nat) (s:Ws) (_:vs = [.ref o]) (_:Hv C o L n m H s 1) (_:Num C o L n m Q H s):O0 C vs H Q
def Ny (C:Addr):Sp:=λ vs H Q _=>O0 C vs H Q
inductive Q4 (C:Addr) (vs:List V) (H:Hp) (Q:VK):Prop
 | mk (o nl':Addr) (g:Int) (w:Str) (ns:List Int) (L:Lc) (n m:Nat) (s:Ws) (_:vs = [.ref o,.int g,.str w,.ref nl']) (_:Hv C o L n m H s 0) (_:H nl' = some (.lst (ns.map V.int))) (_:Rng s g) (_:(w = "all" ∨ w = "some")) (_:RL s ns) (_:ns.length≤1000) (_:∀ H' s',Nw C o L n m L.S H s H' s' 0→Q .non H'):Q4 C vs H Q
def F0 (C:Addr):Sp:=λ vs H Q _=>Q4 C vs H Q
inductive Ud (C:Addr) (vs:List V) (H:Hp) (Q:VK):Prop
 | mk (o:Addr) (g:Int) (L:Lc) (n m:Nat) (s:Ws) (_:vs = [.ref o,.int g]) (_:Hv C o L n m H s 1) (_:Rng s g) (_:Num C o L n m Q H s):Ud C vs H Q
def Kg (C:Addr):Sp:=λ vs H Q _=>Ud C vs H Q
inductive Ou (C:Addr) (vs:List V) (H:Hp) (Q:VK):Prop
 | mk (o nl':Addr) (ns:List Int) (L:Lc) (n m:Nat) (s:Ws) (_:vs = [.ref o,.ref nl']) (_:Hv C o L n m H s 1) (_:H nl' = some (.lst (ns.map V.int))) (_:RL s ns) (_:ns.length≤1000) (_:Num C o L n m Q H s):Ou C vs H Q
def Eo (C:Addr):Sp:=λ vs H Q _=>Ou C vs H Q
abbrev Fe (C:Addr):Sp:=Eo C
theorem Hv.same {C o:Addr} {L:Lc} {n m d:Nat} {H H':Hp} {s:Ws} (h:Hv C o L n m H s d) (g:Same H H'):Hv C o L n m H' s d:={ h with w:=h.w.same g }
theorem Num.same {C o:Addr} {L:Lc} {n m:Nat} {H H':Hp} {s:Ws} {Q:VK} (q:Num C o L n m Q H s) (g:Same H H'):Num C o L n m Q H' s:=λ H2 s2 x U=>q H2 s2 x { U with k:=(Same.kpS g).trans U.k }
theorem Aao {n:Nat} (h:n≤1000000):n < sizeLine:=iZ h (by decide)
section
variable {P:Program} {w:World} {K:PySem.W.Frag} {mg:Str→Option Value} {base:Heap} {C CP:Addr}
seal PSs PS PE PA PT
theorem AcG {f:Addr} {fd:FuncData} (F:Fun K "gate" "Wiring.gate" Le f fd) (T:B2 K mg C CP):Bl P w K mg base CX0 1 f fd ["self", "word", "numbers"] (F2 C):=by
 refine F.ok Um (λ vs H Q E h=>?_) (λ cdv A outer s0 H vs Q E hr h=>?_)
 ·obtain ⟨o,nl',w,ns,L,n,m,s,rfl,_⟩:=h; rfl
 obtain ⟨o,nl',w,ns,L,n,m,s,rfl,hv,a3,fm,hl,q⟩:=h
 have W:=hv.w
 have hb:=hv.b.1
 obtain ⟨gvs,ho,hg,hp,rest⟩:=id W
 have gl:=PySem.Paired.length hp
 refine ⟨_,(Ad (A0 (Dt PySem.F.plainAttrs_list PySem.F.slot_list_append PySem.F.type_list_append B6 (Al (pv 0) rfl) (Aa (A3 (Aa (pv 1) (Aa (Bu Hb rfl T.n_tuple (by decide +kernel) (Aa (pv 2) Ab)) Ab))) Ab)))
  (Ae (Au (A8 M1 (Bs B4 rfl T.n_len PySem.boot_len (Aa (Al (pv 0) rfl) Ab)) Af)))),?_⟩
 refine ⟨_,Z,o,C,L.dx,_,.ref L.gl,Z,ho,T.cl,T.nG,Z,.inl ⟨Z,_,SqL.of hg⟩,_,Z,_,Z,nl',_,Z,.inl ⟨SqL.of a3,λ t2 a6=>⟨zN2,λ t1 a5=>?_⟩⟩⟩
 have g1:=Ac a6 (.tup (ns.map V.int))
 have g2:=Ac a5 (.tup [V.str w,.ref t2])
 have a1:=g1.trans g2
 have W2:=W.same a1
 refine ⟨L.gl,gvs,.ref t1,Z,Z,a1 _ _ hg,Aao (by omega),?_⟩
 have pn:PySem.Paired (GwAt (upd (upd H t2 (.tup (ns.map V.int))) t1 (.tup [V.str w,.ref t2]))) (s.gs ++ [(w,ns)]) (gvs ++ [.ref t1]):=by
  refine C9 (by rw [iB,iB,gl]; rfl) λ j x e=>?_
  rcases lt_or_ge j s.gs.length with hj | hj
  ·rw [iR hj] at e
   obtain ⟨y,e1,e2⟩:=Bn hp e
   exact ⟨y,by rw [iR (by omega)]; exact e1,e2.mono a1.tp⟩
  ·rw [iS hj] at e
   have a4:j - s.gs.length = 0:=by
    have:=(List.getElem?_eq_some_iff.mp e).1
    rw [iD] at this
    omega
   rw [a4] at e
   cases e
   refine ⟨.ref t1,by rw [iS (by omega),show j - gvs.length = 0 by omega]; rfl,t1,t2,Z,upd_same,g2 _ _ upd_same⟩
 have W3:=W2.gates pn
 have a2:(upd (upd (upd H t2 (.tup (ns.map V.int))) t1 (.tup [V.str w,.ref t2])) L.gl (.lst (gvs ++ [.ref t1]))) o = some (.ins C L.dx (wsF L)):=by
  obtain ⟨_,a2,_⟩:=W3
  exact a2
 refine ⟨_,Z,o,C,L.dx,_,.ref L.gl,Z,a2,T.cl,T.nG,Z,L.gl,_,Z,.inl (SqL.of upd_same),_,_,Z,Z,?_⟩
 have e:(((gvs ++ [V.ref t1]).length:Nat):Int) - 1 = s.nx:=by
  unfold Ws.nx
  rw [iB,iD]
  omega
 dsimp only
 rw [e]
 obtain ⟨u1,u2⟩:=hv.add ((Same.kpS a1).trans (KpS.upd iE)) W3 fm hl
 exact q _ _ _ u1 u2
theorem AaL {f:Addr} {fd:FuncData} (F:Fun K "later" "Wiring.later" Jx f fd) (T:B2 K mg C CP) (aJ:A4 P w K mg base 1 C "gate" ["self", "word", "numbers"] (F2 C)):Bl P w K mg base CX0 2 f fd ["self"] (Ny C):=by
 refine F.ok Ra (λ vs H Q E h=>?_) (λ cdv A outer s0 H vs Q E hr h=>?_)
 ·obtain ⟨o,L,n,m,s,rfl,_⟩:=h; rfl
 obtain ⟨o,L,n,m,s,rfl,hv,q⟩:=h
 have W:=hv.w
 obtain ⟨gvs,ho,rest⟩:=id W
 refine ⟨_,(Ae (Au (An aJ hr Ai (pv 0) (Aa Ao (Aa (Ax Ab) Ab))))),?_⟩
 refine ⟨_,Z,o,L.dx,_,Z,ho,Z,zN0,λ l hl=>?_⟩
 have g:=Ac hl (.lst [])
 exact ⟨o,l, "some", [],L,n,m,s,Z,hv.same g,upd_same,.inr (.inr (.inr ⟨.inr (.inl rfl),RL.nil⟩)),jX _,q.same g⟩
theorem Su {f:Addr} {fd:FuncData} (F:Fun K "opposite" "Wiring.opposite" Hi f fd) (T:B2 K mg C CP) (aJ:A4 P w K mg base 1 C "gate" ["self", "word", "numbers"] (F2 C)):Bl P w K mg base CX0 2 f fd ["self", "number"] (Kg C):=by
 refine F.ok Sj (λ vs H Q E h=>?_) (λ cdv A outer s0 H vs Q E hr h=>?_)
 ·obtain ⟨o,g,L,n,m,s,rfl,_⟩:=h; rfl
 obtain ⟨o,g,L,n,m,s,rfl,hv,hg,q⟩:=h
 have W:=hv.w
 obtain ⟨gvs,ho,rest⟩:=id W
 refine ⟨_,(Ae (Au (An aJ hr Ai (pv 0) (Aa Ao (Aa (Ax (Aa (pv 1) Ab)) Ab))))),?_⟩
 refine ⟨_,Z,o,L.dx,_,Z,ho,Z,_,Z,zN1,λ l hl=>?_⟩
 have g1:=Ac hl (.lst [V.int g])
 exact ⟨o,l, "not", [g],L,n,m,s,Z,hv.same g1,upd_same,.inr (.inr (.inr ⟨.inr (.inr ⟨Z,Z⟩),RL.one hg⟩)),(by show 1≤1000; decide),q.same g1⟩
theorem Vs {f:Addr} {fd:FuncData} (F:Fun K "every_of" "Wiring.every_of" Hg f fd) (T:B2 K mg C CP) (aJ:A4 P w K mg base 1 C "gate" ["self", "word", "numbers"] (F2 C)):Bl P w K mg base CX0 2 f fd ["self", "numbers"] (Eo C):=by
 refine F.ok Sl (λ vs H Q E h=>?_) (λ cdv A outer s0 H vs Q E hr h=>?_)
 ·obtain ⟨o,nl',ns,L,n,m,s,rfl,_⟩:=h; rfl
 obtain ⟨o,nl',ns,L,n,m,s,rfl,hv,hn,rl,hl,q⟩:=h
 have W:=hv.w
 obtain ⟨gvs,ho,rest⟩:=id W
 refine ⟨_,(Ae (Au (An aJ hr Ai (pv 0) (Aa Ao (Aa (pv 1) Ab))))),?_⟩
 refine ⟨_,Z,o,L.dx,_,Z,ho,Z,_,Z,?_⟩
 exact ⟨o,nl', "all", ns,L,n,m,s,Z,hv,hn,.inr (.inr (.inr ⟨.inl rfl,rl⟩)),hl,q⟩
theorem Y0 {f:Addr} {fd:FuncData} (F:Fun K "some_of" "Wiring.some_of" Iy f fd) (T:B2 K mg C CP) (aJ:A4 P w K mg base 1 C "gate" ["self", "word", "numbers"] (F2 C)):Bl P w K mg base CX0 2 f fd ["self", "numbers"] (Fe C):=by
 refine F.ok Wf (λ vs H Q E h=>?_) (λ cdv A outer s0 H vs Q E hr h=>?_)
 ·obtain ⟨o,nl',ns,L,n,m,s,rfl,_⟩:=h; rfl
 obtain ⟨o,nl',ns,L,n,m,s,rfl,hv,hn,rl,hl,q⟩:=h
 have W:=hv.w
 obtain ⟨gvs,ho,rest⟩:=id W
 refine ⟨_,(Ae (Au (Dy (Am A9 (Bs B4 rfl T.n_len PySem.boot_len (Aa (pv 1) Ab)) Af (Ap _)) (Ak Be (pv 1) Af (λ _ _=>rfl)) (An aJ hr Ai (pv 0) (Aa Ao (Aa (pv 1) Ab)))))),?_⟩
 refine ⟨_,Z,nl',_,Z,.inl (SqL.of hn),Z,_,Z,Ay (λ c=>?_) λ c=>?_⟩
 ·have c:ns.length = 1:=by
   have:=V.int.inj (iK c)
   rw [hZ] at this
   omega
  obtain ⟨x,rfl⟩:∃ x,ns = [x]:=List.length_eq_one_iff.mp c
  refine ⟨_,Z,nl',_,_,.int x,Z,Z,SqL.of hn,Ah (j:=0) rfl,?_⟩
  exact q H s x (hv.nw.le (jX _)) (rl x iE)
 ·exact ⟨_,Z,o,L.dx,_,Z,ho,Z,_,Z,o,nl', "some", ns,L,n,m,s,Z,hv,hn,.inr (.inr (.inr ⟨.inr (.inl rfl),rl⟩)),hl,q⟩
theorem Ab5 {f:Addr} {fd:FuncData} (F:Fun K "fill" "Wiring.fill" Nv f fd) (T:B2 K mg C CP):Bl P w K mg base CX0 1 f fd ["self", "number", "word", "numbers"] (F0 C):=by
 refine F.ok Abz (λ vs H Q E h=>?_) (λ cdv A outer s0 H vs Q E hr h=>?_)
 ·obtain ⟨o,nl',g,w,ns,L,n,m,s,rfl,_⟩:=h; rfl
 obtain ⟨o,nl',g,w,ns,L,n,m,s,rfl,hv,a2,⟨g0,g1⟩,hw,rl,hl,q⟩:=h
 have W:=hv.w
 obtain ⟨gvs,ho,hg,hp,rest⟩:=id W
 have gl:=PySem.Paired.length hp
 refine ⟨_,(Ae (D9 (A3 (Aa (pv 2) (Aa (Bu Hb rfl T.n_tuple (by decide +kernel) (Aa (pv 3) Ab)) Ab))) (M0 (Al (pv 0) rfl) (pv 1) Kl))),?_⟩
 refine ⟨_,Z,_,Z,nl',_,Z,.inl ⟨SqL.of a2,λ t2 a4=>⟨zN2,λ t1 a3=>?_⟩⟩⟩
 have k1:=Ac a4 (.tup (ns.map V.int))
 have k2:=Ac a3 (.tup [V.str w,.ref t2])
 have a1:=k1.trans k2
 have W2:=W.same a1
 have gn:g.toNat < gvs.length:=by unfold Ws.nx at g1; omega
 refine ⟨_,Z,o,C,L.dx,_,.ref L.gl,Z,a1 _ _ ho,T.cl,T.nG,Z,_,Z,L.gl,gvs,g,g.toNat,Z,Z,a1 _ _ hg,?_,?_⟩
 ·unfold ixN; rw [if_pos g0,if_pos (by omega)]
 have pn:PySem.Paired (GwAt (upd (upd H t2 (.tup (ns.map V.int))) t1 (.tup [V.str w,.ref t2]))) (s.gs.set g.toNat (w,ns)) (gvs.set g.toNat (.ref t1)):=by
  refine C9 (by rw [jL,jL,gl]) λ j x e=>?_
  by_cases hj:j = g.toNat
  ·subst hj
   rw [jO (by omega)] at e
   cases e
   exact ⟨.ref t1,by rw [jO gn],t1,t2,Z,upd_same,k2 _ _ upd_same⟩
  ·rw [jN (Ne.symm hj)] at e
   obtain ⟨y,e1,e2⟩:=Bn hp e
   exact ⟨y,by rw [jN (Ne.symm hj)]; exact e1,e2.mono a1.tp⟩
 exact q _ _ (hv.fil ((Same.kpS a1).trans (KpS.upd iE)) (W2.gates pn) hw rl hl)
structure Wr where
 runs:Int
 kept:Int
 stays:Int
 rests:Int
 codes:List (Int× Int)
def wdV (x y z:Int) (rv cv:V):List (Str× V):=[("runs", .int x),("kept", .int y),("stays", .int z),("rests", rv),("codes", cv)]
inductive Cj (CP:Addr) (H:Hp) (a:Addr) (r:Wr):Prop
 | mk (dx d:Addr) (ob:Obj) (ha:H a = some (.ins CP dx (wdV r.runs r.kept r.stays (.int r.rests) (.ref d)))) (hd:H d = some (.frz ob (.dK (r.codes.map kvI)))):Cj CP H a r
theorem Bk.fresh {C o:Addr} {H H':Hp} {L:Lc} {n:Nat} {s:Ws} (w:Bk C H' o L n s) (k:KpS L.S H H') {a:Addr} (na:H' a = none):H a = none:=by
 cases e:H a with
 | none=>rfl
 | some u =>
  have:a∈L.S:=Classical.byContradiction λ z=>by rw [k a u z e] at na; cases na
  obtain ⟨a6,_,a5,_,_,_,a1,a2,_⟩:=w
  rcases jK.mp this with z | z
  ·rw [z,a5] at na; cases na
  ·rcases jK.mp z with z | z
   ·rw [z,a2] at na; cases na
   ·obtain ⟨j,hj⟩:=getElem?_of_mem z
    have a3:=PySem.Paired.length a1
    have a4:=(List.getElem?_eq_some_iff.mp hj).1
    obtain ⟨y,e1,e2⟩:=Bn a1 (hX (show j < _ by rw [a3]; exact a4))
    rw [hj] at e1
    cases e1
    rw [e2] at na
    cases na
theorem Mz {CP a dx:Addr} {fs:List (Str× V)} {H H':Hp} (ha:H a = some (.ins CP dx fs)) (k:KpS [a] H H'):Tp H H':=λ b xs e=>k b _ (λ z=>by rw [mS z,ha] at e; cases e) e
theorem Bk.obj {C CP o a dx:Addr} {H H':Hp} {L:Lc} {n:Nat} {s:Ws} {fs:List (Str× V)} (w:Bk C H o L n s) (ha:H a = some (.ins CP dx fs)) (ao:a≠o) (k:KpS [a] H H'):Bk C H' o L n s:=by
 refine w.keep [a] k (Mz ha k) λ b hb=>?_
 rw [mS hb]
 have off:=w.off ha (λ _ z=>nomatch z) λ _ z=>nomatch z
 obtain ⟨gvs,ho,hg,hp,hs,hn,hr,hl,nd⟩:=w
 exact ⟨ao,Bd ha hs (by intro z; cases z),Bd ha hn (by intro z; cases z),off⟩
inductive Pj (CP:Addr) (vs:List V) (H:Hp) (Q:VK):Prop
 | mk (a dx:Addr) (x y z:Int) (_:vs = [.ref a,.int x,.int y,.int z]) (_:H a = some (.ins CP dx [])) (_:∀ d H',KpS [a] H H'→H' a = some (.ins CP dx (wdV x y z .non (.ref d)))→Q .non H'):Pj CP vs H Q
def Vc (CP:Addr):Sp:=λ vs H Q _=>Pj CP vs H Q
inductive Tj (C CP:Addr) (vs:List V) (H:Hp) (Q:VK):Prop
 | mk (o:Addr) (L:Lc) (n m:Nat) (s:Ws) (_:vs = [.ref o]) (_:Hv C o L n m H s 3) (_:∀ a dx cv x y z H' s',Nw C o L n m L.S H s H' s' 3→H a = none→H' a = some (.ins CP dx (wdV x y z .non cv))→Rng s' x∧Rng s' y∧Rng s' z→Q (.ref a) H'):Tj C CP vs H Q
def Pz (C CP:Addr):Sp:=λ vs H Q _=>Tj C CP vs H Q
theorem Aaa {f:Addr} {fd:FuncData} (F:Fun K "__init__" "Wired.__init__" Lz f fd) (T:B2 K mg C CP):Bl P w K mg base CX0 1 f fd ["self", "runs", "kept", "stays"] (Vc CP):=by
 refine F.ok Aav (λ vs H Q E h=>?_) (λ cdv A outer s0 H vs Q E hr h=>?_)
 ·obtain ⟨a,dx,x,y,z,rfl,_⟩:=h; rfl
 obtain ⟨a,dx,x,y,z,rfl,ha,q⟩:=h
 refine ⟨_,(Ad (Br (pv 0) (pv 1) rfl)
  (Ad (Br (pv 0) (pv 2) rfl)
  (Ad (Br (pv 0) (pv 3) rfl)
  (Ad (Br (pv 0) B3 rfl)
  (Ae (Br (pv 0) J9 rfl)))))),?_⟩
 refine ⟨_,Z,_,Z,a,CP,dx,[],Z,ha,T.clP,T.nR,(by show 0 < 1000; decide),?_⟩
 refine ⟨_,Z,_,Z,a,CP,dx,_,Z,upd_same,T.clP,T.nK,(by show 1 < 1000; decide),?_⟩
 refine ⟨_,Z,_,Z,a,CP,dx,_,Z,upd_same,T.clP,T.nT,(by show 2 < 1000; decide),?_⟩
 refine ⟨_,Z,a,CP,dx,_,Z,upd_same,T.clP,T.nE,(by show 3 < 1000; decide),?_⟩
 refine λ d hd=>?_
 have a1:a≠d:=λ e=>by rw [← e,upd_same] at hd; cases hd
 refine ⟨_,Z,a,CP,dx,_,Z,(by rw [upd_ne a1]; exact upd_same),T.clP,T.nC,(by show 4 < 1000; decide),?_⟩
 refine q d _ ?_ upd_same
 have kk:∀ (H1:Hp) (u:HO),KpS [a] H1 (upd H1 a u):=λ H1 u=>KpS.upd iE
 exact ((((((kk _ _).trans (kk _ _)).trans (kk _ _)).trans (kk _ _)).trans (Same.kpS (Ac hd _)))).trans (kk _ _)
theorem Wm {f fI:Addr} {fd a1:FuncData} (F:Fun K "new_part" "Wiring.new_part" Hj f fd) (T:B2 K mg C CP) (a4:Mk K CP fI) (GI:Bl P w K mg base CX0 1 fI a1 ["self", "runs", "kept", "stays"] (Vc CP)) (bI:Bi K a1 ["self", "runs", "kept", "stays"] []) (cC:A4 P w K mg base 2 C "later" ["self"] (Ny C)):Bl P w K mg base CX0 3 f fd ["self"] (Pz C CP):=by
 refine F.ok Sh (λ vs H Q E h=>?_) (λ cdv A outer s0 H vs Q E hr h=>?_)
 ·obtain ⟨o,L,n,m,s,rfl,_⟩:=h; rfl
 obtain ⟨o,L,n,m,s,rfl,hv,q⟩:=h
 refine ⟨_,(Ae (Au (Lh a4 GI (hr.mono (by decide)) rfl T.m_Wired bI .nil Ai (Aa (Ec cC hr Ai (pv 0)) (Aa (Ec cC hr Ai (pv 0)) (Aa (Ec cC hr Ai (pv 0)) Ab)))))),?_⟩
 obtain ⟨_,ho,_⟩:=hv.w
 refine ⟨_,Z,o,L.dx,_,Z,ho,Z,o,L,n,m,s,Z,hv.nw (S:=L.S) |>.hv hv (by decide),λ H1 s1 x U1 hx=>?_⟩
 obtain ⟨_,a5,_⟩:=U1.w
 refine ⟨_,Z,o,L.dx,_,Z,a5,Z,o,L,n,m,s1,Z,U1.hv hv (by decide),λ H2 s2 y U2 hy=>?_⟩
 have V2:=U1.trans U2
 obtain ⟨_,a3,_⟩:=U2.w
 refine ⟨_,Z,o,L.dx,_,Z,a3,Z,o,L,n,m,s2,Z,V2.hv hv (by decide),λ H3 s3 z U3 hz=>?_⟩
 have V3:=V2.trans U3
 refine λ a dx na nd ne=>?_
 have sA:Same H3 (upd (upd H3 dx (.own a)) a (.ins CP dx [])):=λ b u e=>by
  rw [upd_ne (ne_of_none e na),upd_ne (ne_of_none e nd)]
  exact e
 refine ⟨a,dx,_,_,_,Z,upd_same,λ d H4 k4 e4=>⟨Z,?_⟩⟩
 have fa:=V3.w.fresh V3.k na
 have ao:a≠o:=λ z=>by obtain ⟨_,a2,_⟩:=V3.w; rw [z,a2] at na; cases na
 exact q a dx _ _ _ _ H4 s3 { V3 with k:=λ b u hb e=>k4 b u (λ z=>by rw [mS z,fa] at e; cases e) (sA b u (V3.k b u hb e)),w:=(V3.w.same sA).obj upd_same ao k4 } fa e4 ⟨hx.up (iW U2.lo U3.lo),hy.up U3.lo,hz⟩
def Iz (H:Hp) (p:Int× Int) (v:V):Prop:=∃ t,v = .ref t∧H t = some (.tup [.int p.1,.int p.2])
theorem Iz.mono {H H':Hp} {p:Int× Int} {v:V} (h:Iz H p v) (T:Tp H H'):Iz H' p v:=by
 obtain ⟨t,e,h1⟩:=h
 exact ⟨t,e,T _ _ h1⟩
theorem Bk.offN {C o:Addr} {H:Hp} {L:Lc} {n:Nat} {s:Ws} (w:Bk C H o L n s) {b:Addr} (e:H b = none):b∉L.S:=λ z=>by
 obtain ⟨a6,_,a5,_,_,_,a1,a2,_⟩:=w
 rcases jK.mp z with z | z
 ·rw [z,a5] at e; cases e
 ·rcases jK.mp z with z | z
  ·rw [z,a2] at e; cases e
  ·obtain ⟨j,hj⟩:=getElem?_of_mem z
   have a3:=PySem.Paired.length a1
   have a4:=(List.getElem?_eq_some_iff.mp hj).1
   obtain ⟨y,e1,e2⟩:=Bn a1 (hX (show j < _ by rw [a3]; exact a4))
   rw [hj] at e1
   cases e1
   rw [e2] at e
   cases e
theorem Bk.atD {C o d:Addr} {H:Hp} {L:Lc} {n:Nat} {s:Ws} {kvs:List (Key× V)} (w:Bk C H o L n s) (hd:H d = some (.dK kvs)) (dS:d∉L.S) (u:HO):Bk C (upd H d u) o L n s:=by
 refine w.keep [d] (KpS.upd iE) (λ b xs e=>by rw [upd_ne (Bd e hd (by intro z; cases z))]; exact e) λ b hb=>?_
 rw [mS hb]
 obtain ⟨gvs,ho,hg,hp,hs,hn,hr,hl,nd⟩:=w
 exact ⟨Bd hd ho (by intro z; cases z),Bd hd hs (by intro z; cases z),Bd hd hn (by intro z; cases z),dS⟩
def CO (s:Ws) (cs:Cd):Prop:=CR s cs∧(cs.map (·.1)).Pairwise (· < ·)
theorem Hf:∀ (l:List Int) (a b:Int),a≤b→l.Pairwise (· < ·)→(∀ x∈l,a≤x∧x < b)→(l.length:Int)≤b - a
 | [],a,b,h,_,_=>by simp; omega
 | x :: r,a,b,h,hp,hx=>by
  have h1:=hx x iE
  have h2:=jP.mp hp
  have:=Hf r (x + 1) b (by omega) h2.2 λ y hy=>⟨by have:=h2.1 y hy; omega,(hx y (iF _ hy)).2⟩
  rw [iT]
  omega
theorem CO.len {s:Ws} {cs:Cd} (h:CO s cs):cs.length≤6:=by
 have:=Hf (cs.map (·.1)) 0 6 (by decide) h.2 λ x hx=>by
  obtain ⟨p,hp,rfl⟩:=jS.mp hx
  have:=(h.1 p hp).1
  omega
 rw [hZ] at this
 omega
theorem KpS.drop {S:List Addr} {H H':Hp} {d:Addr} (k:KpS (d :: S) H H') (h:H d = none):KpS S H H':=λ b u nb e=>k b u (λ z=>(jK.mp z).elim (ne_of_none e h) nb) e
theorem CO.up {s s':Ws} {cs:Cd} (h:CO s cs) (l:s.gs.length≤s'.gs.length):CO s' cs:=⟨h.1.up l,h.2⟩
theorem Qe {cs:List Int} {co:Cd} {i:Nat} (rise:cs.Pairwise (· < ·)) (a1:i < cs.length) (ks:co.map (·.1) = cs.take i):∀ p∈co,¬ p.1 = cs[i]:=λ p hp z=>by
 have hm:p.1∈co.map (·.1):=List.mem_map_of_mem hp
 rw [ks] at hm
 obtain ⟨j,hj⟩:=getElem?_of_mem hm
 rw [List.getElem?_take] at hj
 split at hj
 ·rename_i a2
  obtain ⟨h1,h2⟩:=List.getElem?_eq_some_iff.mp hj
  have:=List.pairwise_iff_getElem.mp rise j i h1 a1 a2
  rw [h2,z] at this
  exact absurd this (Int.lt_irrefl _)
 ·cases hj
inductive Rv (C:Addr) (vs:List V) (H:Hp) (Q:VK):Prop
 | mk (o pl:Addr) (ps:Cd) (pvs:List V) (L:Lc) (n m:Nat) (s:Ws) (_:vs = [.ref o,.ref pl]) (_:Hv C o L n m H s 6) (_:H pl = some (.lst pvs)) (_:pl∉L.S) (_:PySem.Paired (Iz H) ps pvs) (_:ps.length < 64) (_:CR s ps) (_:∀ d ob H' s' cs,Nw C o L n m L.S H s H' s' 6→H d = none→H' d = some (.frz ob (.dK (cs.map kvI)))→CO s' cs→Q (.ref d) H'):Rv C vs H Q
def G6 (C:Addr):Sp:=λ vs H Q _=>Rv C vs H Q
theorem K9:As ["self", "pairs", "codes", "code"] ["self", "pairs"] (Ag Gi):=⟨Z,Z,Z,by decide +kernel,Z,by decide +kernel,by decide +kernel⟩
theorem Yg {f:Addr} {fd:FuncData} (F:Fun K "joined" "Wiring.joined" Gi f fd) (T:B2 K mg C CP) (aB:A4 P w K mg base 2 C "some_of" ["self", "numbers"] (Fe C)):Bl P w K mg base CX0 3 f fd ["self", "pairs"] (G6 C):=by
 refine F.ok K9 (λ vs H Q E h=>?_) (λ cdv A outer s0 H vs Q E hr h=>?_)
 ·obtain ⟨o,pl,ps,pvs,L,n,m,s,rfl,_⟩:=h; rfl
 obtain ⟨o,pl,ps,pvs,L,n,m,s,rfl,hv,a7,d2,a8,b4,b3,q⟩:=h
 have hu:=iZ (add_le_add_left (show 1≤64 by decide) _) hr.units
 have lp:=PySem.Paired.length a8
 have b7:pvs.length≤sizeLine:=by rw [← lp]; exact iW (le_of_lt b4) (by decide)
 refine ⟨_,(Ad (Aw (i:=2) K9.nd rfl (Or.inl rfl) J9)
  (Ad (De PassesOwn.never rfl (B9 (Oc rfl rfl T.n_sorted rfl T.n_set (Cb (g:=(Bo 0)) (tc:=Cn) (te:=(tOp (Fo K) (Bh 0) (tC (.int 0)))) ["pair"] [] rfl (Bw (Ag Gi) ["self", "pairs", "codes", "code"] (by decide +kernel)) (B9 (pv 1)) (λ s2 H2 fp cl C=>Aq (i:=0) (show Nodup [("pair" : Str)] from by decide +kernel) rfl (Or.inl rfl)) (Bf (by decide)) (λ s2 H2 fp cl C=>Cs) (λ s2 H2 fp cl C=>(Ak Ar (pv 0) Af (λ _ _=>rfl)))))) (Aq (i:=3) K9.nd rfl (Or.inr rfl))
   (Ae (Oe hu (pv 2) (pv 3) (An aB hr Ai (pv 0) (Aa (Cb (g:=(Bo 0)) (tc:=(Ip (tOp rEq (tOp (Fo K) (Bh 0) (tC (.int 0))) (Bh 1)))) (te:=(tOp (Fo K) (Bh 0) (tC (.int 1)))) ["pair"] [("code", 3)] rfl (Bw (Ag Gi) ["self", "pairs", "codes", "code"] (by decide +kernel)) (B9 (pv 1)) (λ s2 H2 fp cl C=>Aq (i:=0) (show Nodup [("pair" : Str),("code" : Str)] from by decide +kernel) rfl (Or.inl rfl)) (Bf (by decide)) (λ s2 H2 fp cl C=>Dm (Am A9 (Ak Ar (pv 0) Af (λ _ _=>rfl)) (pv 1) (Ap _))) (λ s2 H2 fp cl C=>(Ak Ar (pv 0) Af (λ _ _=>rfl)))) Ab)) rfl)))
  (Ae (Au (Np (pv 2)))))),?_⟩
 refine λ d hd=>?_
 have c6:pl∉d :: L.S:=λ z=>(jK.mp z).elim (ne_of_none a7 hd) d2
 have dS:=hv.w.offN hd
 have U1:=(hv.nw (S:=d :: L.S)).new hd (.dK [])
 have d3:=upd_same (H:=H) (a:=d) (o:=.dK [])
 have a5:=U1.k _ _ c6 a7
 have c7:PySem.Paired (Iz (upd H d (.dK []))) ps pvs:=Paired.mapP a8 λ _ _ a=>a.mono (Ac hd (.dK [])).tp
 generalize upd H d (.dK []) = H1 at *
 refine ⟨_,Z,pl,Z,⟨_,SqL.of a5⟩,Ci (K:=K) (xs:=pvs) (λ i ys H'=>H' = H1∧ys = ((ps.take i).map (·.1)).map V.int) ⟨Z,Z⟩ b7 (λ i ys H' hh=>by rw [hh.1]; exact SqL.of a5) ?_ ?_⟩
 ·rintro i x ys H' N hi ⟨rfl,rfl⟩ hN a2
  have a1:i < ps.length:=by have:=(List.getElem?_eq_some_iff.mp hi).1; omega
  obtain ⟨y,e1,t,rfl,et⟩:=Bn c7 (hX a1)
  rw [hi] at e1
  cases e1
  refine ⟨_,Z,t,_,_,.int (ps[i]).1,Z,Z,SqT.of et,Ah (j:=0) rfl,hN _ _ ?_ ⟨Z,?_⟩⟩
  ·rw [iB,iD]; omega
  ·rw [iV,hX a1,iM,iM]; rfl
 rintro ys H' a2 ⟨rfl,rfl⟩ D0 b8
 rw [iP (by omega)]
 have U2:=U1.new b8 (.lst ((ps.map (·.1)).map V.int))
 have b2:=(Ac b8 (.lst ((ps.map (·.1)).map V.int))) _ _ d3
 refine ⟨D0,ps.map (·.1),Z,SqL.of upd_same,by rw [hZ]; exact b4,λ l2 a3=>?_⟩
 have U3:=U2.new a3 (.lst ((nub (ps.map (·.1))).map V.int))
 have b1:=upd_same (H:=upd H' D0 (.lst ((ps.map (·.1)).map V.int))) (a:=l2) (o:=.lst ((nub (ps.map (·.1))).map V.int))
 have d4:=(Ac a3 (.lst ((nub (ps.map (·.1))).map V.int))) _ _ b2
 have d5:=U2.w.offN a3
 have c9:l2≠d:=(ne_of_none b2 a3).symm
 generalize upd (upd H' D0 (.lst ((ps.map (·.1)).map V.int))) l2 (.lst ((nub (ps.map (·.1))).map V.int)) = H3 at *
 have rise:(nub (ps.map (·.1))).Pairwise (· < ·):=Hw _
 have hk:∀ c∈nub (ps.map (·.1)),0≤c∧c≤5:=λ c hc=>by
  obtain ⟨p,hp,rfl⟩:=jS.mp (Jj.mp hc)
  exact (b3 p hp).1
 generalize nub (ps.map (·.1)) = cs at *
 have l6:cs.length≤6:=by
  have:=Hf cs 0 6 (by decide) rise λ x hx=>by have:=hk x hx; omega
  omega
 refine ⟨l2,Z,⟨_,SqL.of b1⟩,Fn (K:=K) (a:=l2) (xs:=cs.map V.int) (λ i σ H'=>∃ x3 s' co,σ = [some (.ref o),some (.ref pl),some (.ref d),x3]∧Nw C o L n m (d :: L.S) H s H' s' i∧H' l2 = some (.lst (cs.map V.int))∧H' d = some (.dK (co.map kvI))∧CR s' co∧co.map (·.1) = cs.take i) ⟨none,s,[],Z,U3,b1,d4,λ p hp=>(nomatch hp),Z⟩ (λ i σ H' _ ⟨_,_,_,_,_,h,_⟩=>SqL.of h) ?_ ?_⟩
 ·rintro i x σ H4 hi ⟨x3,s4,co,rfl,U4,b6,a4,a9,ks⟩
  have a1:i < cs.length:=by have:=(List.getElem?_eq_some_iff.mp hi).1; rwa [hZ] at this
  rw [iH,hX a1] at hi
  cases hi
  have a6:=U4.k _ _ c6 a7
  have c8:=Paired.mapP a8 λ _ _ a=>a.mono (hv.w.tp (U4.k.drop hd))
  obtain ⟨_,d6,_⟩:=id U4.w
  refine ⟨_,Z,o,L.dx,_,Z,d6,Z,?_⟩
  refine ⟨_,Z,pl,Z,⟨_,SqL.of a6⟩,Ci (K:=K) (xs:=pvs) (λ j ys H'=>H' = H4∧∃ ns:List Int,ys = ns.map V.int∧RL s ns) ⟨Z,[],Z,.nil⟩ b7 (λ i ys H' hh=>by rw [hh.1]; exact SqL.of a6) ?_ ?_⟩
  ·rintro j x ys H' N hj ⟨rfl,ns,rfl,rl⟩ hN a2
   have c5:j < ps.length:=by have:=(List.getElem?_eq_some_iff.mp hj).1; omega
   obtain ⟨y,e1,t,rfl,et⟩:=Bn c8 (hX c5)
   rw [hj] at e1
   cases e1
   refine ⟨_,Z,t,_,_,.int (ps[j]).1,Z,Z,SqT.of et,Ah (j:=0) rfl,_,Z,Z,_,Z,Ay (λ z=>?_) λ z=>hN _ _ (by omega) ⟨Z,ns,Z,rl⟩⟩
   refine ⟨_,Z,t,_,_,.int (ps[j]).2,Z,Z,SqT.of et,Ah (j:=1) rfl,hN _ _ (by rw [iB,iD]; omega) ⟨Z,ns ++ [(ps[j]).2],by rw [iM]; rfl,λ x hx=>(iU.mp hx).elim (rl x) λ z=>?_⟩⟩
   rw [mS z]
   exact (b3 _ (jJ c5)).2
  rintro ys H' a2 ⟨rfl,ns,rfl,rl⟩ D1 b5
  rw [hZ] at a2
  have U5:=U4.new b5 (.lst (ns.map V.int))
  have g5:=Ac b5 (.lst (ns.map V.int))
  refine ⟨o,D1,ns,L,n,m,s4,Z,U5.hv hv (by omega),upd_same,rl.up U4.lo,by omega,λ H6 s6 y U6 hy=>?_⟩
  have V6:=U5.then U6
  have b9:=U6.k _ _ dS (g5 _ _ a4)
  have nk:=Qe rise a1 ks
  have lc:co.length = i:=by
   have:=congrArg length ks
   rw [hZ,jE] at this
   omega
  refine ⟨_,Z,_,Z,d,_,Z,.inl ⟨_,Sum.inl cs[i],b9,Z,?_,Z⟩,?_⟩
  ·rw [hZ]
   exact iZ (show _≤64 by omega) (by decide)
  refine ⟨_,s6,co ++ [(cs[i],y)],Z,{ V6 with k:=V6.k.trans (KpS.upd iE),w:=V6.w.atD b9 dS _ },by rw [upd_ne c9]; exact U6.k _ _ d5 (g5 _ _ b6),by rw [upd_same,← putI_map,putI_new nk],(a9.up U6.lo).app λ p hp=>?_,?_⟩
  ·rw [mS hp]
   exact ⟨hk _ (jJ a1),hy⟩
  ·rw [iM,ks,iV,hX a1]
   rfl
 ·rintro σ H4 ⟨x3,s4,co,rfl,U4,b6,a4,a9,ks⟩
  rw [hZ,iP (iX _)] at ks
  rw [hZ] at U4
  refine ⟨_,Z,d,_,Z,a4,λ ob=>?_⟩
  exact q d ob _ s4 co { U4.le l6 with k:=(U4.k.trans (KpS.upd iE)).drop hd,w:=U4.w.atD a4 dS _ } hd upd_same ⟨a9,by rw [ks]; exact rise⟩
theorem Bk.lev {C o:Addr} {H:Hp} {L:Lc} {n:Nat} {s:Ws} (w:Bk C H o L n s) (k v:Int):Bk C (upd H L.ld (.dK (Dl (s.lv.map kvI) (Sum.inl k) (V.int v)))) o L n (s.lev k v):=by
 obtain ⟨gvs,ho,hg,hp,hs,hn,hr,hl,nd⟩:=w
 have tp:Tp H (upd H L.ld (.dK (Dl (s.lv.map kvI) (Sum.inl k) (V.int v)))):=λ b xs e=>by rw [upd_ne (Bd e hl (by intro z; cases z))]; exact e
 refine ⟨gvs,by rw [upd_ne (Bd ho hl (by intro z; cases z))]; exact ho,by rw [upd_ne (Bd hg hl (by intro z; cases z))]; exact hg,Paired.mapP hp λ _ _ a=>a.mono tp,by rw [upd_ne (Bd hs hl (by intro z; cases z))]; exact hs,by rw [upd_ne (Bd hn hl (by intro z; cases z))]; exact hn,Paired.mapP hr λ _ _ a=>by rw [upd_ne (Bd a hl (by intro z; cases z))]; exact a,?_,nd⟩
 rw [upd_same]
 show _ = some (HO.dK ((Gd s.lv k v).map kvI))
 rw [putI_map]
theorem Zu {l:Cd} {k v:Int} {p:Int× Int} (h:p∈Gd l k v):p∈l∨p.2 = v:=by
 unfold Gd at h
 split at h
 ·obtain ⟨q,hq,e⟩:=jS.mp h
  split at e
  ·exact .inr (by rw [← e])
  ·exact .inl (by rw [← e]; exact hq)
 ·exact (iU.mp h).imp id λ z=>by rw [mS z]
theorem Ro (l:Cd) (k v:Int):k∈(Gd l k v).map (·.1)∧(∀ j∈l.map (·.1),j∈(Gd l k v).map (·.1))∧(Gd l k v).length≤l.length + 1:=by
 unfold Gd
 split
 ·rename_i h
  obtain ⟨p,hp,e⟩:=any_eq_true.mp h
  have hk:∀ q∈l,q.1∈(l.map λ p=>if p.1 = k then (p.1,v) else p).map (·.1):=λ q hq=>by
   rw [map_map]
   refine jS.mpr ⟨q,hq,?_⟩
   show (if q.1 = k then (q.1,v) else q).1 = q.1
   split <;> rfl
  refine ⟨iK e ▸ hk p hp,λ j hj=>?_,by rw [hZ]; exact le_succ _⟩
  obtain ⟨q,hq,rfl⟩:=jS.mp hj
  exact hk q hq
 ·refine ⟨?_,λ j hj=>?_,by rw [iB]; exact iX _⟩
  ·rw [iM]; exact iO _ (jD.mpr rfl)
  ·rw [iM]; exact jW _ hj
theorem Bk.objOff {C CP o a dx:Addr} {H:Hp} {L:Lc} {n:Nat} {s:Ws} {x y z:Int} {rv cv:V} (w:Bk C H o L n s) (ha:H a = some (.ins CP dx (wdV x y z rv cv))):a≠o∧a∉L.S:=by
 refine ⟨?_,w.off ha (λ _ z=>nomatch z) λ _ z=>nomatch z⟩
 obtain ⟨gvs,ho,_⟩:=w
 refine Bd ha ho λ z=>?_
 have:=(HO.ins.inj z).2.2
 unfold wdV wsF at this
 simp at this
theorem Bk.setA {C CP o a dx:Addr} {H:Hp} {L:Lc} {n:Nat} {s:Ws} {x y z:Int} {rv cv:V} (w:Bk C H o L n s) (ha:H a = some (.ins CP dx (wdV x y z rv cv))) (u:HO):Bk C (upd H a u) o L n s :=
 w.obj ha (w.objOff ha).1 (KpS.upd iE)
theorem Bk.offF {C o d:Addr} {H:Hp} {L:Lc} {n:Nat} {s:Ws} {ob:Obj} {u:HO} (w:Bk C H o L n s) (e:H d = some (.frz ob u)):d∉L.S:=w.off e (λ _ z=>nomatch z) λ _ z=>nomatch z
theorem Nw.lev {C o:Addr} {L:Lc} {n m d:Nat} {S:List Addr} {H H':Hp} {s s':Ws} {k g:Int} (U:Nw C o L n m S H s H' s' d) (h:L.ld∈S) (hg:Rng s' g):Nw C o L n m S H s (upd H' L.ld (.dK (Dl (s'.lv.map kvI) (Sum.inl k) (V.int g)))) (s'.lev k g) (d + 1) :=
 have pk:=Ro s'.lv k g
 ⟨U.k.trans (KpS.upd h),U.w.lev k g,⟨U.f.g,U.f.sn,λ p hp=>(Zu hp).elim (U.f.lv p) λ e=>by rw [e]; exact hg⟩,U.lo,U.sl,λ j hj=>pk.2.1 j (U.lv j hj),λ M e c=>by
  have c:=U.c M (1 + e) (by rwa [add_assoc] at c)
  refine ⟨by have:=c.1; show s'.gs.length + e≤M; omega,by have:=c.2.1; have:=pk.2.2; show (Gd s'.lv k g).length + e≤M; omega,λ r hr=>by have:=c.2.2 r hr; omega⟩⟩
theorem Nw.setA {C CP o a dx:Addr} {L:Lc} {n m d:Nat} {S:List Addr} {H H':Hp} {s s':Ws} {x y z:Int} {rv cv:V} (U:Nw C o L n m (a :: S) H s H' s' d) (ha:H' a = some (.ins CP dx (wdV x y z rv cv))) (u:HO):Nw C o L n m (a :: S) H s (upd H' a u) s' d:={ U with k:=U.k.trans (KpS.upd iE),w:=U.w.setA ha u }
theorem Nw.ld {L:Lc}:L.ld∈L.S:=iF _ iE
inductive Rj (C CP:Addr) (vs:List V) (H:Hp) (Q:VK):Prop
 | mk (o a dx:Addr) (k mem comes x y z:Int) (rv cv:V) (L:Lc) (n m:Nat) (s:Ws) (_:vs = [.ref o,.int k,.ref a,.int mem,.int comes]) (_:Hv C o L n m H s 4) (_:H a = some (.ins CP dx (wdV x y z rv cv))) (_:(Rng s y∧Rng s z∧Rng s mem∧Rng s comes)) (_:∀ H' s',Nw C o L n m L.S H s H' s' 4→k∈s'.lv.map (·.1)→Q .non H'):Rj C CP vs H Q
def Rc (C CP:Addr):Sp:=λ vs H Q _=>Rj C CP vs H Q
inductive Zc (C CP:Addr) (vs:List V) (H:Hp) (Q:VK):Prop
 | mk (o a:Addr) (c:Int) (r:Wr) (L:Lc) (n m:Nat) (s:Ws) (_:vs = [.ref o,.ref a,.int c]) (_:Hv C o L n m H s 1) (_:Cj CP H a r) (_:CR s r.codes) (_:Num C o L n m Q H s):Zc C CP vs H Q
def Qb (C CP:Addr):Sp:=λ vs H Q _=>Zc C CP vs H Q
theorem L8 (l:List (Int× Int)) (c:Int):Cm (l.map kvI) (Sum.inl c) = (l.lookup c).map V.int:=by
 induction l with
 | nil=>rfl
 | cons p r ih =>
  rw [jR]
  by_cases h:p.1 = c
  ·rw [Cw (show (kvI p).1 = Sum.inl c by rw [← h]; rfl)]
   obtain ⟨p1,p2⟩:=p
   cases h
   rw [List.lookup_cons_self]
   rfl
  ·rw [Cz (show ¬ (kvI p).1 = Sum.inl c from λ z=>h (Sum.inl.inj z)),ih]
   obtain ⟨p1,p2⟩:=p
   have:(c == p1) = false:=by simpa using λ z=>h z.symm
   rw [jT,this]
theorem Kz {l:Cd} {k v:Int} (h:l.lookup k = some v):∃ p∈l,p.2 = v:=by
 induction l with
 | nil=>cases h
 | cons p r ih =>
  obtain ⟨p1,p2⟩:=p
  rw [jT] at h
  split at h
  ·cases h; exact ⟨_,iE,Z⟩
  ·obtain ⟨q,hq,e⟩:=ih h; exact ⟨q,iF _ hq,e⟩
theorem Wa (F:A2 K mg "wire_leaving" ["wiring", "rest", "whole", "memory", "comes"] E9) (T:B2 K mg C CP) (aA:A4 P w K mg base 2 C "every_of" ["self", "numbers"] (Eo C)) (aB:A4 P w K mg base 2 C "some_of" ["self", "numbers"] (Fe C)):Aj P w K mg base 3 "wire_leaving" ["wiring", "rest", "whole", "memory", "comes"] (Rc C CP):=by
 refine F.ok F6 (λ vs H Q E h=>?_) (λ f cdv A outer s0 H vs Q E hr h=>?_)
 ·obtain ⟨o,a,dx,k,mem,comes,x,y,z,rv,cv,L,n,m,s,rfl,_⟩:=h; rfl
 obtain ⟨o,a,dx,k,mem,comes,x,y,z,rv,cv,L,n,m,s,rfl,hv,ha,⟨hy,hz,hm,hc⟩,q⟩:=h
 have hu:=iZ (add_le_add_left (show 1≤64 by decide) _) hr.units
 have aS:=(hv.w.objOff ha).2
 refine ⟨_,(Ad (Aw (i:=5) F6.nd rfl (Or.inl rfl) (An aA hr Ai (pv 0) (Aa (Ax (Aa (pv 4) (Aa (Al (pv 2) rfl) Ab))) Ab)))
  (Ad (Aw (i:=6) F6.nd rfl (Or.inl rfl) (An aA hr Ai (pv 0) (Aa (Ax (Aa (pv 3) (Aa (Al (pv 2) rfl) Ab))) Ab)))
  (Ae (Oe hu (Al (pv 0) rfl) (pv 1) (An aB hr Ai (pv 0) (Aa (Ax (Aa (pv 5) (Aa (pv 6) Ab))) Ab)) rfl)))),?_⟩
 obtain ⟨_,ho,_⟩:=id hv.w
 refine ⟨_,Z,o,L.dx,_,Z,ho,Z,_,Z,_,Z,a,CP,dx,_,.int y,Z,ha,T.clP,T.nK,Z,zN2,λ l1 h1=>?_⟩
 have U1:=(hv.nw (S:=L.S)).new h1 (.lst [V.int comes,.int y])
 refine ⟨o,l1,[comes,y],L,n,m,s,Z,U1.hv hv (by decide),upd_same,.two hc hy,(by show 2≤1000; decide),λ H1 s1 i1 V1 r1=>?_⟩
 have U1:=U1.trans V1
 obtain ⟨_,a3,_⟩:=id V1.w
 refine ⟨_,Z,o,L.dx,_,Z,a3,Z,_,Z,_,Z,a,CP,dx,_,.int z,Z,U1.k _ _ aS ha,T.clP,T.nT,Z,zN2,λ l2 h2=>?_⟩
 have U2:=U1.new h2 (.lst [V.int mem,.int z])
 refine ⟨o,l2,[mem,z],L,n,m,s1,Z,U2.hv hv (by decide),upd_same,.two (hm.up U1.lo) (hz.up U1.lo),(by show 2≤1000; decide),λ H2 s2 i2 V2 r2=>?_⟩
 have U2:=U2.trans V2
 obtain ⟨_,a2,_⟩:=id V2.w
 refine ⟨_,Z,o,L.dx,_,Z,a2,Z,_,Z,_,Z,zN2,λ l3 h3=>?_⟩
 have U3:=U2.new h3 (.lst [V.int i1,.int i2])
 refine ⟨o,l3,[i1,i2],L,n,m,s2,Z,U3.hv hv (by decide),upd_same,.two (r1.up V2.lo) r2,(by show 2≤1000; decide),λ H3 s3 i3 V3 r3=>?_⟩
 have U3:=U3.trans V3
 obtain ⟨a5,a4,a7,b2,a9,a6,a8,a1,b1⟩:=id V3.w
 refine ⟨_,Z,o,C,L.dx,_,.ref L.ld,Z,a4,T.cl,T.nL,Z,_,Z,L.ld,_,Z,.inl ⟨_,Sum.inl k,a1,Z,?_,Z⟩,q _ _ (U3.lev Nw.ld r3) (Ro _ _ _).1⟩
 rw [hZ]
 exact iZ (show s3.lv.length≤1000000 by have:=(U3.hv (e:=1) hv (by decide)).b.2.1; omega) (by decide)
theorem Se (F:A2 K mg "code_gate" ["wiring", "whole", "code"] Gs) (T:B2 K mg C CP) (aB:A4 P w K mg base 2 C "some_of" ["self", "numbers"] (Fe C)):Aj P w K mg base 3 "code_gate" ["wiring", "whole", "code"] (Qb C CP):=by
 refine F.ok Qz (λ vs H Q E h=>?_) (λ f cdv A outer s0 H vs Q E hr h=>?_)
 ·obtain ⟨o,a,c,r,L,n,m,s,rfl,_⟩:=h; rfl
 obtain ⟨o,a,c,r,L,n,m,s,rfl,hv,D,cr,q⟩:=h
 have hu:=iZ (add_le_add_left (show 1≤64 by decide) _) hr.units
 obtain ⟨dx,d,ob,ha,hd⟩:=D
 obtain ⟨_,ho,_⟩:=id hv.w
 refine ⟨_,(Ae (Au (Dy (Yr (Ni hu (pv 2) (Al (pv 1) rfl)) (by rfl)) (Ls hu (Al (pv 1) rfl) (pv 2) (λ _ _=>rfl)) (An aB hr Ai (pv 0) (Aa (Ax Ab) Ab))))),?_⟩
 have dg:Ha H d (.int c) ((r.codes.lookup c).map V.int):=.inl ⟨_,Sum.inl c,.inr ⟨ob,hd⟩,Z,(L8 _ _).symm⟩
 refine ⟨_,Z,_,Z,a,CP,dx,_,.ref d,Z,ha,T.clP,T.nC,Z,d,_,Z,dg,_,Z,?_⟩
 cases e:r.codes.lookup c with
 | some g =>
  rw [e] at dg
  obtain ⟨p,hp,ep⟩:=Kz e
  exact Dv ⟨_,Z,a,CP,dx,_,.ref d,Z,ha,T.clP,T.nC,Z,_,Z,d,.int g,Z,dg,q H s g (hv.nw.le (jX _)) (ep ▸ (cr p hp).2)⟩
 | none =>
  refine Eb ⟨_,Z,o,L.dx,_,Z,ho,Z,zN0,λ l hl=>?_⟩
  have g1:=Ac hl (.lst [])
  exact ⟨o,l,[],L,n,m,s,Z,hv.same g1,upd_same,.nil,jX _,q.same g1⟩
end
inductive Pt where
 | nothing
 | rest (k:Int)
 | send (s:Int)
 | exit (d:Int)
 | stay (ks:List Int)
 | iff (s:Int) (p q:Pt)
 | again (k:Int) (p:Pt)
 | hold (s:Int) (p:Pt)
 | watch (s:Int) (p:Pt)
 | trap (p:Pt)
 | thn (p q:Pt)
 | bes (p q:Pt)
def Pt.nd:Pt→Nd
 | .nothing=>.t [.s "nothing"]
 | .rest k=>.t [.s "rest", .i k]
 | .send s=>.t [.s "send", .i s]
 | .exit d=>.t [.s "exit", .i d]
 | .stay ks=>.t [.s "stay", .t (ks.map Nd.i)]
 | .iff s p q=>.t [.s "if", .i s,p.nd,q.nd]
 | .again k p=>.t [.s "again", .i k,p.nd]
 | .hold s p=>.t [.s "hold", .i s,p.nd]
 | .watch s p=>.t [.s "watch", .i s,p.nd]
 | .trap p=>.t [.s "trap", p.nd]
 | .thn p q=>.t [.s "then", p.nd,q.nd]
 | .bes p q=>.t [.s "beside", p.nd,q.nd]
def Pt.hg:Pt→Nat
 | .iff _ p q=>max p.hg q.hg + 1
 | .thn p q=>max p.hg q.hg + 1
 | .bes p q=>max p.hg q.hg + 1
 | .again _ p=>p.hg + 1
 | .hold _ p=>p.hg + 1
 | .watch _ p=>p.hg + 1
 | .trap p=>p.hg + 1
 | .nothing=>1
 | .rest _=>1
 | .send _=>1
 | .exit _=>1
 | .stay _=>1
def Pt.rc:Pt→Nat
 | .rest _=>1
 | .stay ks=>ks.length
 | .iff _ p q=>p.rc + q.rc
 | .thn p q=>p.rc + q.rc
 | .bes p q=>p.rc + q.rc
 | .again _ p=>p.rc + 1
 | .hold _ p=>p.rc
 | .watch _ p=>p.rc
 | .trap p=>p.rc
 | .nothing=>0
 | .send _=>0
 | .exit _=>0
def Pt.sc:Pt→Nat
 | .send _=>1
 | .iff _ p q=>p.sc + q.sc
 | .thn p q=>p.sc + q.sc
 | .bes p q=>p.sc + q.sc
 | .again _ p=>p.sc
 | .hold _ p=>p.sc
 | .watch _ p=>p.sc
 | .trap p=>p.sc
 | .nothing=>0
 | .rest _=>0
 | .exit _=>0
 | .stay _=>0
def Pt.lc:Pt→Nat
 | .rest _=>1
 | .stay ks=>ks.length
 | .iff _ p q=>max p.lc q.lc
 | .thn p q=>max p.lc q.lc
 | .bes p q=>p.lc + q.lc
 | .again _ p=>max 1 p.lc
 | .hold _ p=>p.lc
 | .watch _ p=>p.lc
 | .trap p=>p.lc
 | .nothing=>0
 | .send _=>0
 | .exit _=>0
def lp (p:Pt) (a b:List Int× Pt):Pt :=
 match p with
 | .thn _ q=>if b.1 = [] then .thn a.2 q else b.2
 | .bes _ _=>if ¬ a.1 = []∧¬ b.1 = [] then .bes a.2 b.2 else if ¬ a.1 = [] then a.2 else if ¬ b.1 = [] then b.2 else p
 | _=>if ¬ a.1 = [] then a.2 else if ¬ b.1 = [] then b.2 else p
def lr (p:Pt) (a:List Int× Pt):Pt :=
 if a.1 = [] then p else
 match p with
 | .again k _=>.again k a.2
 | .trap _=>.trap a.2
 | .hold s _=>.iff s (.stay a.1) a.2
 | .watch s _=>.iff s .nothing a.2
 | _=>p
def Im (c:Int):Int:=if c = 2 then 0 else if 2 < c then c - 1 else c
def agC (c:Int):Int:=if c = 0 then 1 else c
abbrev Dd:=Int× List Int× List Int
def AeC (a b:Dd):Dd:=(b.1,a.2.1 ++ b.2.1,b.2.2)
def AeN (a b:Dd):Dd:=(if b.1 > a.1 then b.1 else a.1,a.2.1 ++ b.2.1,if (if b.1 > a.1 then b.1 else a.1) = 1 then a.2.2 ++ b.2.2 else [])
def Aen (k:Int) (a:Dd):Dd:=(agC a.1,a.2.1,if a.1 = 0 then [k] else a.2.2)
def beg (th:List Int):Pt→Dd
 | .thn p q=>if (beg th p).1 = 0 then AeC (beg th p) (beg th q) else beg th p
 | .bes p q=>AeN (beg th p) (beg th q)
 | .iff s p q=>if s∈th then beg th p else beg th q
 | .again k p=>Aen k (beg th p)
 | .hold _ p=>beg th p
 | .watch _ p=>beg th p
 | .trap p=>(Im (beg th p).1,(beg th p).2.1,(beg th p).2.2)
 | .nothing=>(0,[],[])
 | .send s=>(0,[s],[])
 | .exit d=>(2 + d,[],[])
 | .rest k=>(1,[],[k])
 | .stay ks=>(1,[],ks)
theorem Pt.hg_pos (p:Pt):1≤p.hg:=by cases p <;> exact Nat.le_add_left 1 _
theorem AeJ {b:Bool} {A B:Prop} (h:b = false) (hB:B):if b = true then A else B:=by rw [h,if_neg Bool.false_ne_true]; exact hB
theorem AeO {b:Bool} {A B:Prop} (h:b = true) (hA:A):if b = true then A else B:=by rw [h,if_pos rfl]; exact hA
theorem Aaf {i j:Int} {A B:Prop} (h1:i = j→A) (h2:¬ i = j→B):if decide (V.int i = V.int j) = true then A else B:=by
 by_cases c:i = j
 ·rw [iI (congrArg V.int c),if_pos rfl]; exact h1 c
 ·rw [iJ (λ z=>c (V.int.inj z)),if_neg Bool.false_ne_true]; exact h2 c
theorem Ee {x y:Str} {A B:Prop} (h1:x = y→A) (h2:¬ x = y→B):if decide (V.str x = V.str y) = true then A else B:=by
 by_cases c:x = y
 ·subst c; exact Ad6 (h1 rfl)
 ·exact AeY c (h2 c)
def wdP:Pt→Str
 | .nothing=> "nothing"
 | .rest _=> "rest"
 | .send _=> "send"
 | .exit _=> "exit"
 | .stay _=> "stay"
 | .iff _ _ _=> "if"
 | .again _ _=> "again"
 | .hold _ _=> "hold"
 | .watch _ _=> "watch"
 | .trap _=> "trap"
 | .thn _ _=> "then"
 | .bes _ _=> "beside"
theorem AeD (p:Pt):∃ r,Pt.nd p = .t (.s (wdP p) :: r):=by cases p <;> exact ⟨_,Z⟩
theorem P8 {K:PySem.W.Frag} {H:Hp} {p:Pt} {v:V} (h:PAt K H (Pt.nd p) v):∃ a vs,v = .ref a∧Gj K H a (.str (wdP p) :: vs):=by
 obtain ⟨r,e⟩:=AeD p
 rw [e] at h
 obtain ⟨a,vs,rfl,hs,hx⟩:=PAt.get h
 unfold Ba at hx
 obtain ⟨v,r',rfl,q,l⟩:=hx
 cases q.str
 exact ⟨a,r',Z,hs⟩
theorem AdI {p:Pt} (e:wdP p = "if"):∃ x p1 p2,p = .iff x p1 p2:=by cases p <;> first | exact ⟨_,_,_,Z⟩ | (dsimp only [wdP] at e; exact absurd e (by decide +kernel))
theorem AcA {p:Pt} (e:wdP p = "hold"):∃ x p1,p = .hold x p1:=by cases p <;> first | exact ⟨_,_,Z⟩ | (dsimp only [wdP] at e; exact absurd e (by decide +kernel))
theorem Aal {p:Pt} (e:wdP p = "watch"):∃ x p1,p = .watch x p1:=by cases p <;> first | exact ⟨_,_,Z⟩ | (dsimp only [wdP] at e; exact absurd e (by decide +kernel))
theorem Ab2 {p:Pt} (e:wdP p = "trap"):∃ p1,p = .trap p1:=by cases p <;> first | exact ⟨_,Z⟩ | (dsimp only [wdP] at e; exact absurd e (by decide +kernel))
theorem Ab0 {p:Pt} (e:wdP p = "exit"):∃ k,p = .exit k:=by cases p <;> first | exact ⟨_,Z⟩ | (dsimp only [wdP] at e; exact absurd e (by decide +kernel))
theorem Abq {p:Pt} (e:wdP p = "send"):∃ k,p = .send k:=by cases p <;> first | exact ⟨_,Z⟩ | (dsimp only [wdP] at e; exact absurd e (by decide +kernel))
theorem Abw {p:Pt} (e:wdP p = "stay"):∃ k,p = .stay k:=by cases p <;> first | exact ⟨_,Z⟩ | (dsimp only [wdP] at e; exact absurd e (by decide +kernel))
theorem Ub {p:Pt} (e:wdP p = "rest"):∃ k,p = .rest k:=by cases p <;> first | exact ⟨_,Z⟩ | (dsimp only [wdP] at e; exact absurd e (by decide +kernel))
def Mn:Pt→Bool
 | .nothing=>true
 | .rest _=>true
 | .send _=>true
 | .exit _=>true
 | .stay _=>true
 | _=>false
def Aaq:Pt→Bool
 | .iff _ _ _=>true
 | .thn _ _=>true
 | .bes _ _=>true
 | _=>false
def AdY:Pt→Bool
 | .again _ _=>true
 | .hold _ _=>true
 | .watch _ _=>true
 | .trap _=>true
 | _=>false
theorem AcI {p:Pt} (h:Mn p = true) (n1:¬ wdP p = "exit") (n2:¬ wdP p = "rest") (n3:¬ wdP p = "stay"):(beg [] p).1 = 0:=by cases p <;> first | rfl | exact absurd rfl n1 | exact absurd rfl n2 | exact absurd rfl n3 | cases h
inductive Oy (K:PySem.W.Frag) (vs:List V) (H:Hp) (Q:VK):Prop
 | mk (v) (p) (_:vs = [v]) (_:PAt K H (Pt.nd p) v) (_:Mn p = true) (_:Q (.int (beg [] p).1) H):Oy K vs H Q
def Uk (K:PySem.W.Frag):Sp:=λ vs H Q _=>Oy K vs H Q
inductive Tn  (vs:List V) (H:Hp) (Q:VK):Prop
 | mk (c:Int) (_:vs = [.int c]) (_:Q (.int (agC c)) H):Tn  vs H Q
def Vk:Sp:=λ vs H Q _=>Tn  vs H Q
inductive Uw  (vs:List V) (H:Hp) (Q:VK):Prop
 | mk (c:Int) (_:vs = [.int c]) (_:Q (.int (Im c)) H):Uw  vs H Q
def Vi:Sp:=λ vs H Q _=>Uw  vs H Q
theorem B2.gE {K:PySem.W.Frag} {mg:Str→Option Value} {C CP:Addr} (T:B2 K mg C CP):∃ u,mg "ENDED" = some u∧A6 (.int 0) u:=by
 obtain ⟨t,h⟩:=T.m_EN; exact ⟨_,h,t,rfl⟩
theorem B2.gR {K:PySem.W.Frag} {mg:Str→Option Value} {C CP:Addr} (T:B2 K mg C CP):∃ u,mg "RESTS" = some u∧A6 (.int 1) u:=by
 obtain ⟨t,h⟩:=T.m_RE; exact ⟨_,h,t,rfl⟩
theorem B2.gL {K:PySem.W.Frag} {mg:Str→Option Value} {C CP:Addr} (T:B2 K mg C CP):∃ u,mg "LEAVES" = some u∧A6 (.int 2) u:=by
 obtain ⟨t,h⟩:=T.m_LE; exact ⟨_,h,t,rfl⟩
section
variable {P:Program} {w:World} {K:PySem.W.Frag} {mg:Str→Option Value} {base:Heap} {C CP:Addr}
theorem Sk (F:A2 K mg "leaf_code" ["part"] Gn) (T:B2 K mg C CP):Aj P w K mg base 1 "leaf_code" ["part"] (Uk K):=by
 refine F.ok Ri (λ vs H Q E h=>?_) (λ f cdv A outer s H vs Q E hr h=>?_)
 ·obtain ⟨v,p,rfl,_⟩:=h; rfl
 obtain ⟨v,p,rfl,hp,lf,q⟩:=h
 obtain ⟨uE,hE,rE⟩:=T.gE
 obtain ⟨uR,hR,rR⟩:=T.gR
 obtain ⟨uL,hL,rL⟩:=T.gL
 refine ⟨_,(Ad (Bg (Am A9 (Ak Ar (pv 0) Af (λ _ _=>rfl)) Ao (Ap _))
   (Ae (Au (A8 F5 (Bx rfl hL rL) (Ak Ar (pv 0) Af (λ _ _=>rfl)))))
   A7)
  (Ad (Bg (PW.pt (Fu (Am A9 (Ak Ar (pv 0) Af (λ _ _=>rfl)) Ao (Ap _)) (Ft (Am A9 (Ak Ar (pv 0) Af (λ _ _=>rfl)) Ao (Ap _)))))
   (Ae (Au (Bx rfl hR rR)))
   A7)
  (Ae (Au (Bx rfl hE rE))))),?_⟩
 obtain ⟨a,vs,rfl,hs⟩:=P8 hp
 refine ⟨_,Z,a,_,_,_,Z,Z,hs.sq,Ah (j:=0) rfl,Z,_,Z,Ee (λ e=>?_) λ n1=>⟨_,Z,a,_,_,_,Z,Z,hs.sq,Ah (j:=0) rfl,Z,_,Z,Ee (λ e=>Dv ?_) λ n2=>⟨_,Z,a,_,_,_,Z,Z,hs.sq,Ah (j:=0) rfl,Z,_,Z,Ee (λ e=>?_) λ n3=>?_⟩⟩⟩
 ·obtain ⟨x,rfl⟩:=Ab0 e
  obtain ⟨a',a1,ev,hs,hx⟩:=PAt.get hp
  cases ev
  obtain ⟨x0,x1,rfl,h0,h1⟩:=hx.two
  cases h0.str
  cases h1.int
  exact ⟨_,Z,a,_,_,_,Z,Z,hs.sq,Ah (j:=1) rfl,_,_,Z,Z,q⟩
 ·obtain ⟨x,rfl⟩:=Ub e
  exact q
 ·obtain ⟨x,rfl⟩:=Abw e
  exact q
 ·rw [AcI lf n1 n2 n3] at q
  exact q
theorem Adc (F:A2 K mg "code_of_again" ["code"] Ev) (T:B2 K mg C CP):Aj P w K mg base 1 "code_of_again" ["code"] Vk:=by
 refine F.ok L7 (λ vs H Q E h=>?_) (λ f cdv A outer s H vs Q E hr h=>?_)
 ·obtain ⟨c,rfl,_⟩:=h; rfl
 obtain ⟨c,rfl,q⟩:=h
 obtain ⟨uE,hE,rE⟩:=T.gE
 obtain ⟨uR,hR,rR⟩:=T.gR
 obtain ⟨uL,hL,rL⟩:=T.gL
 refine ⟨_,(Ae (Au (Dy (Am A9 (pv 0) (Bx rfl hE rE) (Ap _)) (Bx rfl hR rR) (pv 0)))),?_⟩
 unfold agC at q
 refine ⟨_,Z,Z,_,Z,Aaf (λ c=>?_) λ c=>?_⟩
 ·rw [if_pos c] at q; exact q
 ·rw [if_neg c] at q; exact ⟨_,Z,q⟩
theorem AdD (F:A2 K mg "code_of_trap" ["code"] Fb) (T:B2 K mg C CP):Aj P w K mg base 1 "code_of_trap" ["code"] Vi:=by
 refine F.ok Mv (λ vs H Q E h=>?_) (λ f cdv A outer s H vs Q E hr h=>?_)
 ·obtain ⟨c,rfl,_⟩:=h; rfl
 obtain ⟨c,rfl,q⟩:=h
 obtain ⟨uE,hE,rE⟩:=T.gE
 obtain ⟨uR,hR,rR⟩:=T.gR
 obtain ⟨uL,hL,rL⟩:=T.gL
 refine ⟨_,(Ad (Bg (Am A9 (pv 0) (Bx rfl hL rL) (Ap _))
   (Ae (Au (Bx rfl hE rE)))
   A7)
  (Ae (Au (Dy (Am AbE (pv 0) (Bx rfl hL rL) (Ap _)) (A8 M1 (pv 0) Af) (pv 0))))),?_⟩
 unfold Im at q
 refine ⟨_,Z,Z,_,Z,Aaf (λ c=>?_) λ c=>?_⟩
 ·rw [if_pos c] at q; exact q
 ·rw [if_neg c] at q
  refine ⟨_,Z,_,_,Z,Z,_,Z,Ay (λ c=>?_) λ c=>?_⟩
  ·rw [if_pos (iK c)] at q; exact ⟨_,Z,_,_,Z,Z,q⟩
  ·rw [if_neg (λ z=>c (iI z))] at q; exact ⟨_,Z,q⟩
end
theorem upd2 {H:Hp} {p a:Addr} {u1 u2 x:HO} (h:H a = some x) (ap:a≠p):upd (upd H p u1) p u2 a = some x:=by rw [upd_ne ap,upd_ne ap]; exact h
theorem Bk.frz2 {C o d:Addr} {H:Hp} {L:Lc} {n:Nat} {s:Ws} {kvs:List (Key× V)} (w:Bk C H o L n s) (hd:H d = some (.dK kvs)) (dS:d∉L.S) (u:HO) (ob:Obj):Bk C (upd (upd H d u) d (.frz ob u)) o L n s:=by
 have e:upd (upd H d u) d (.frz ob u) = upd H d (.frz ob u):=by
  funext b
  by_cases h:b = d
  ·rw [h,upd_same,upd_same]
  ·rw [upd_ne h,upd_ne h,upd_ne h]
 rw [e]
 exact w.atD hd dS _
theorem Bk.senR {C o:Addr} {H:Hp} {L:Lc} {n:Nat} {s:Ws} (w:Bk C H o L n s) {i:Nat} {r:Addr} {a4:List Int} (hi:L.rs[i]? = some r) (hw:s.sn[i]? = some a4) (g:Int):Bk C (upd H r (.lst (a4.map V.int ++ [V.int g]))) o L n ⟨s.gs,s.sn.set i (a4 ++ [g]),s.lv⟩:=by
 obtain ⟨gvs,ho,hg,hp,hs,hn,hr,hl,nd⟩:=w
 obtain ⟨r',e1,e2⟩:=Bn hr hw
 rw [hi] at e1
 cases e1
 have tp:Tp H (upd H r (.lst (a4.map V.int ++ [V.int g]))):=Tp.lst e2
 have hm:r∈L.rs:=iN hi
 have n3:=(jQ.mp nd)
 have n4:=(jQ.mp n3.2)
 have n5:=(jQ.mp n4.2)
 have a1:L.gl≠r:=λ z=>n3.1 (by rw [z]; exact iF _ (iF _ hm))
 have a2:L.sl≠r:=λ z=>n4.1 (by rw [z]; exact iF _ hm)
 have a3:L.nl≠r:=λ z=>n5.1 (by rw [z]; exact hm)
 refine ⟨gvs,by rw [upd_ne (Bd ho e2 (by intro z; cases z))]; exact ho,by rw [upd_ne a1]; exact hg,Paired.mapP hp λ _ _ a=>a.mono tp,by rw [upd_ne a2]; exact hs,by rw [upd_ne a3]; exact hn,?_,by rw [upd_ne (Bd hl e2 (by intro z; cases z))]; exact hl,nd⟩
 refine C9 (by rw [jL]; exact PySem.Paired.length hr) λ j x e=>?_
 have hj:j < s.sn.length:=by have:=(List.getElem?_eq_some_iff.mp e).1; rwa [jL] at this
 rw [getElem?_set] at e
 by_cases a5:i = j
 ·subst a5
  rw [if_pos rfl,if_pos hj] at e
  cases e
  exact ⟨r,hi,by rw [upd_same,iM]; rfl⟩
 ·rw [if_neg a5] at e
  obtain ⟨y,f1,f2⟩:=Bn hr e
  refine ⟨y,f1,?_⟩
  rw [upd_ne]
  ·exact f2
  ·intro z
   rw [z] at f1
   have h1:=(List.getElem?_eq_some_iff.mp hi)
   have h2:=(List.getElem?_eq_some_iff.mp f1)
   exact a5 ((getElem_inj n5.2).mp (h1.2.trans h2.2.symm))
def Fil (C CP o a:Addr) (L:Lc) (n m:Nat) (Q:VK) (H:Hp) (s:Ws) (x y z:Int) (d:Nat) (ks:List Int):Prop:=∀ H' s' r cs,Nw C o L n m (a :: L.S) H s H' s' d→Cj CP H' a ⟨x,y,z,r,cs⟩→Rng s' r→CO s' cs→(∀ k∈ks,k∈s'.lv.map (·.1))→Q .non H'
def R3 (s:Ws) (x y z:Int):Prop:=Rng s x∧Rng s y∧Rng s z
theorem R3.up {s s':Ws} {x y z:Int} (h:R3 s x y z) (l:s.gs.length≤s'.gs.length):R3 s' x y z:=⟨h.1.up l,h.2.1.up l,h.2.2.up l⟩
theorem AcQ {b:Bool} {A:Prop} {R:Hp→Prop} {H:Hp} (a1:Hp→Prop) (a2:∀ H1,a1 H1→R H1) (h1:b = true→(∀ H1,a1 H1→R H1)→A) (h2:a1 H):if b = true then A else R H:=by
 cases b with
 | false=>exact a2 H h2
 | true=>exact h1 rfl a2
theorem Nw.sen {C o:Addr} {L:Lc} {n m d:Nat} {S:List Addr} {H H':Hp} {s s':Ws} (U:Nw C o L n m S H s H' s' d) {i:Nat} {r:Addr} {a1:List Int} (hS:r∈S) (hi:L.rs[i]? = some r) (hw:s'.sn[i]? = some a1) {g:Int} (hg:Rng s' g):Nw C o L n m S H s (upd H' r (.lst (a1.map V.int ++ [V.int g]))) ⟨s'.gs,s'.sn.set i (a1 ++ [g]),s'.lv⟩ (d + 32):=by
 have mr:=iN hw
 have hm:∀ q∈s'.sn.set i (a1 ++ [g]),q∈s'.sn∨q = a1 ++ [g]:=λ q hq=>List.mem_or_eq_of_mem_set hq
 refine ⟨U.k.trans (KpS.upd hS),U.w.senR hi hw g,⟨U.f.g,λ q hq x hx=>?_,U.f.lv⟩,U.lo,by rw [← U.sl]; exact jL,U.lv,λ M e c=>?_⟩
 ·rcases hm q hq with z | z
  ·exact U.f.sn q z x hx
  ·rw [z] at hx
   rcases iU.mp hx with z | z
   ·exact U.f.sn a1 mr x z
   ·rw [mS z]; exact hg
 ·have c:=U.c M (32 + e) (by rwa [add_assoc] at c)
  refine ⟨by have:=c.1; show s'.gs.length + e≤M; omega,by have:=c.2.1; show s'.lv.length + e≤M; omega,λ q hq=>?_⟩
  rcases hm q hq with z | z
  ·have:=c.2.2 q z; omega
  ·have:=c.2.2 a1 mr; rw [z,iB,iD]; omega
theorem KpS.nil {S:List Addr} {H H':Hp} {p:Addr} (k:KpS S H H') (h:H' p = none) (hs:p∉S):H p = none:=by
 cases e:H p with
 | none=>rfl
 | some u=>rw [k p u hs e] at h; cases h
theorem Nw.frz {C o p:Addr} {L:Lc} {n m d:Nat} {S:List Addr} {H H':Hp} {s s':Ws} {kvs:List (Key× V)} (U:Nw C o L n m S H s H' s' d) (hp:H' p = some (.dK kvs)) (pS:p∉L.S) (h0:H p = none) (u:HO) (ob:Obj):Nw C o L n m S H s (upd (upd H' p u) p (.frz ob u)) s' d:={ U with k:=λ b _ nb e=>upd2 (U.k b _ nb e) (ne_of_none e h0),w:=U.w.frz2 hp pS u ob }
inductive Oq (C CP:Addr) (vs:List V) (H:Hp) (Q:VK):Prop
 | mk (o a dx:Addr) (k x y z:Int) (rv cv:V) (L:Lc) (n m:Nat) (s:Ws) (_:vs = [.ref o,.int k,.ref a]) (_:Hv C o L n m H s 8) (_:H a = some (.ins CP dx (wdV x y z rv cv))) (_:R3 s x y z) (_:(0≤k∧k < m)) (_:Fil C CP o a L n m Q H s x y z 8 [k]):Oq C CP vs H Q
def Ts (C CP:Addr):Sp:=λ vs H Q _=>Oq C CP vs H Q
section
variable {P:Program} {w:World} {K:PySem.W.Frag} {mg:Str→Option Value} {base:Heap} {C CP:Addr}
seal PSs PS PE PA PT
theorem AaB (F:A2 K mg "wire_rest" ["wiring", "rest", "whole"] Gr) (T:B2 K mg C CP) (aJ:A4 P w K mg base 1 C "gate" ["self", "word", "numbers"] (F2 C)) (aE:A4 P w K mg base 2 C "opposite" ["self", "number"] (Kg C)) (aA:A4 P w K mg base 2 C "every_of" ["self", "numbers"] (Eo C)) (aR:Aj P w K mg base 3 "wire_leaving" ["wiring", "rest", "whole", "memory", "comes"] (Rc C CP)):Aj P w K mg base 4 "wire_rest" ["wiring", "rest", "whole"] (Ts C CP):=by
 refine F.ok Lb (λ vs H Q E h=>?_) (λ f cdv A outer s0 H vs Q E hr h=>?_)
 ·obtain ⟨o,a,dx,k,x,y,z,rv,cv,L,n,m,s,rfl,_⟩:=h; rfl
 obtain ⟨o,a,dx,k,x,y,z,rv,cv,L,n,m,s,rfl,hv,ha,r3,hk,q⟩:=h
 obtain ⟨uE,hE,rE⟩:=T.gE
 obtain ⟨uR,hR,rR⟩:=T.gR
 obtain ⟨ao,aS⟩:=hv.w.objOff ha
 refine ⟨_,(Ad (Br (pv 2) (An aJ hr Ai (pv 0) (Aa Ao (Aa (Ax (Aa (pv 1) Ab)) Ab))) rfl)
  (Ad (Aw (i:=3) Lb.nd rfl (Or.inl rfl) (An aA hr Ai (pv 0) (Aa (Ax (Aa (Al (pv 2) rfl) (Aa (An aE hr Ai (pv 0) (Aa (Al (pv 2) rfl) Ab)) Ab))) Ab)))
  (Ad (Br (pv 2) (Np (Tk (Md (Bx rfl hE rE) (An aA hr Ai (pv 0) (Aa (Ax (Aa (Al (pv 2) rfl) (Aa (Al (pv 2) rfl) Ab))) Ab)) (Md (Bx rfl hR rR) (pv 3) Tr)) rfl rfl (by simp) (by decide))) rfl)
  (Ae (A0 (Av aR hr rfl Ai (Aa (pv 0) (Aa (pv 1) (Aa (pv 2) (Aa (Al (pv 2) rfl) (Aa (pv 3) Ab))))))))))),?_⟩
 obtain ⟨_,ho,_⟩:=id hv.w
 refine ⟨_,Z,o,L.dx,_,Z,ho,Z,_,Z,zN1,λ l1 h1=>?_⟩
 have U1:=(hv.nw (S:=a :: L.S)).new h1 (.lst [V.int k])
 refine ⟨o,l1, "memory", [k],L,n,m,s,Z,U1.hv hv (by decide),upd_same,.inr (.inl ⟨Z,k,Z,hk⟩),(by show 1≤1000; decide),λ H1 s1 i1 V1 r1=>?_⟩
 have a7:=V1.k _ _ aS ((Ac h1 (.lst [V.int k])) _ _ ha)
 refine ⟨_,Z,a,CP,dx,_,Z,a7,T.clP,T.nE,(by show 5 < 1000; decide),?_⟩
 have U1:=(U1.then V1).setA a7 (.ins CP dx (wdV x y z (.int i1) cv))
 have a1:=upd_same (H:=H1) (a:=a) (o:=.ins CP dx (wdV x y z (.int i1) cv))
 have e1:=U1.lo
 generalize hH:upd H1 a (.ins CP dx (wdV x y z (.int i1) cv)) = G1 at U1 a1
 have b1:upd H1 a (.ins CP dx (A5 "rests" (V.int i1) (wdV x y z rv cv))) = G1:=hH
 rw [b1]
 obtain ⟨_,a4,_⟩:=id U1.w
 refine ⟨_,Z,o,L.dx,_,Z,a4,Z,_,Z,a,CP,dx,_,.int x,Z,a1,T.clP,T.nR,Z,_,Z,o,L.dx,_,Z,a4,Z,_,Z,a,CP,dx,_,.int i1,Z,a1,T.clP,T.nE,Z,?_⟩
 refine ⟨o,_,L,n,m,_,Z,U1.hv hv (by decide),r1,λ H2 s2 i2 V2 r2=>⟨zN2,λ l3 h3=>?_⟩⟩
 have U2:=(U1.then V2).new h3 (.lst [V.int x,.int i2])
 have a8:=(Ac h3 (.lst [V.int x,.int i2])) _ _ (V2.k _ _ aS a1)
 refine ⟨o,l3,[x,i2],L,n,m,_,Z,U2.hv hv (by decide),upd_same,.two (r3.1.up U2.lo) r2,(by show 2≤1000; decide),λ H3 s3 i3 V3 j3=>?_⟩
 have U3:=U2.then V3
 have a2:=V3.k _ _ aS a8
 refine λ p hp=>?_
 have pS:=U3.w.offN hp
 have gp:=Ac hp (.dK [])
 have U4:=U3.new hp (.dK [])
 obtain ⟨_,a9,_⟩:=id U4.w
 refine ⟨_,Z,o,L.dx,_,Z,a9,Z,_,Z,a,CP,dx,_,.int x,Z,gp _ _ a2,T.clP,T.nR,Z,_,Z,a,CP,dx,_,.int i1,Z,gp _ _ a2,T.clP,T.nE,Z,zN2,λ l4 h4=>?_⟩
 have g4:=Ac h4 (.lst [V.int x,.int i1])
 have U4:=U4.new h4 (.lst [V.int x,.int i1])
 refine ⟨o,l4,[x,i1],L,n,m,_,Z,U4.hv hv (by decide),upd_same,.two (r3.1.up U4.lo) (r1.up (iW V2.lo V3.lo)),(by show 2≤1000; decide),λ H4 s4 i4 V4 j4=>?_⟩
 have U4:=U4.then V4
 have a6:=V4.k _ _ aS (g4 _ _ (gp _ _ a2))
 have a3:H4 p = some (.dK []):=V4.k _ _ pS (g4 _ _ upd_same)
 refine ⟨_,Z,a3,[(Sum.inl 0,_),(Sum.inl 1,_)],Z,(by show 2≤15; decide),p,_,Z,upd_same,λ ob=>?_⟩
 have ap:a≠p:=Bd a6 a3 (by intro z; cases z)
 have U5:=U4.frz a3 pS (U3.k.nil hp λ z=>(jK.mp z).elim (Ne.symm ap) pS) (.dK (Bv [] [(Sum.inl 0,V.int i4),(Sum.inl 1,V.int i3)])) ob
 have a5:=upd2 (u1:=.dK (Bv [] [(Sum.inl 0,V.int i4),(Sum.inl 1,V.int i3)])) (u2:=.frz ob (.dK (Bv [] [(Sum.inl 0,V.int i4),(Sum.inl 1,V.int i3)]))) a6 ap
 have b2:upd (upd H4 p (.dK (Bv [] [(Sum.inl 0,V.int i4),(Sum.inl 1,V.int i3)]))) p (.frz ob (.dK (Bv [] [(Sum.inl 0,V.int i4),(Sum.inl 1,V.int i3)]))) p = _:=upd_same
 generalize upd (upd H4 p (.dK (Bv [] [(Sum.inl 0,V.int i4),(Sum.inl 1,V.int i3)]))) p (.frz ob (.dK (Bv [] [(Sum.inl 0,V.int i4),(Sum.inl 1,V.int i3)]))) = H5 at *
 refine ⟨_,Z,a,CP,dx,_,Z,a5,T.clP,T.nC,(by show 5 < 1000; decide),?_⟩
 have U6:=U5.setA a5 (.ins CP dx (wdV x y z (.int i1) (.ref p)))
 have l3:=iW V2.lo V3.lo
 refine ⟨_,Z,_,Z,_,Z,_,Z,a,CP,dx,_,.int i1,Z,upd_same,T.clP,T.nE,Z,_,Z,o,a,dx,k,_,_,x,y,z,_,_,L,n,m,_,Z,U6.hv hv (by decide),upd_same,⟨r3.2.1.up U6.lo,r3.2.2.up U6.lo,r1.up (iW l3 V4.lo),j3.up V4.lo⟩,λ H6 s6 V6 lk=>?_⟩
 refine q H6 s6 i1 [(0,i4),(1,i3)] (U6.then V6) ⟨dx,p,ob,V6.k _ _ aS upd_same,V6.k p _ pS (by rw [upd_ne (Ne.symm ap)]; exact b2)⟩ (r1.up (iW (iW l3 V4.lo) V6.lo)) ⟨λ c hc=>?_,(by show ([0,1]:List Int).Pairwise (· < ·); decide)⟩ λ j hj=>by rw [mS hj]; exact lk
 rcases jK.mp hc with z | z
 ·rw [z]; exact ⟨(by show (0:Int)≤0∧(0:Int)≤5; decide),j4.up V6.lo⟩
 ·rw [mS z]; exact ⟨(by show (0:Int)≤1∧(1:Int)≤5; decide),j3.up (iW V4.lo V6.lo)⟩
def okN (n:Nat):Pt→Prop
 | .nothing=>True
 | .rest _=>True
 | .send i=>0≤i∧i < n
 | .exit d=>0≤d∧d < 4
 | .stay _=>False
 | .iff i p q=>(0≤i∧i < n)∧okN n p∧okN n q
 | .again _ p=>okN n p
 | .hold i p=>(0≤i∧i < n)∧okN n p
 | .watch i p=>(0≤i∧i < n)∧okN n p
 | .trap p=>okN n p
 | .thn p q=>okN n p∧okN n q
 | .bes p q=>okN n p∧okN n q
def Pt.sz:Pt→Nat
 | .iff _ p q=>p.sz + q.sz + 1
 | .again _ p=>p.sz + 1
 | .hold _ p=>p.sz + 1
 | .watch _ p=>p.sz + 1
 | .trap p=>p.sz + 1
 | .thn p q=>p.sz + q.sz + 1
 | .bes p q=>p.sz + q.sz + 1
 | _=>1
def rsP:Pt→List Int
 | .rest k=>[k]
 | .again k p=>k :: rsP p
 | .iff _ p q=>rsP q ++ rsP p
 | .thn p q=>rsP q ++ rsP p
 | .bes p q=>rsP q ++ rsP p
 | .hold _ p=>rsP p
 | .watch _ p=>rsP p
 | .trap p=>rsP p
 | _=>[]
theorem Ad0 {n:Nat} {p:Pt} (h:okN n p) (lf:Mn p = true):0≤(beg [] p).1∧(beg [] p).1≤5:=by
 cases p with
 | exit d=>obtain ⟨h1,h2⟩:=h; show 0≤2 + d∧2 + d≤5; omega
 | stay _=>cases h
 | nothing=>exact (by show (0:Int)≤0∧(0:Int)≤5; decide)
 | send _=>exact (by show (0:Int)≤0∧(0:Int)≤5; decide)
 | rest _=>exact (by show (0:Int)≤1∧(1:Int)≤5; decide)
 | _=>cases lf
inductive Po (K:PySem.W.Frag) (C CP:Addr) (vs:List V) (H:Hp) (Q:VK):Prop
 | mk (o a dx:Addr) (v:V) (p:Pt) (x y z:Int) (rv cv:V) (L:Lc) (n m:Nat) (s:Ws) (_:vs = [.ref o,v,.ref a]) (_:Hv C o L n m H s 40) (_:PAt K H p.nd v) (_:Mn p = true) (_:okN n p) (_:(∀ k∈rsP p,0≤k∧k < m)) (_:H a = some (.ins CP dx (wdV x y z rv cv))) (_:R3 s x y z) (_:Fil C CP o a L n m Q H s x y z 40 (rsP p)):Po K C CP vs H Q
def On (K:PySem.W.Frag) (C CP:Addr):Sp:=λ vs H Q _=>Po K C CP vs H Q
theorem AaE (F:A2 K mg "wire_leaf" ["wiring", "part", "whole"] Gm) (T:B2 K mg C CP) (aB:A4 P w K mg base 2 C "some_of" ["self", "numbers"] (Fe C)) (dO:Aj P w K mg base 1 "leaf_code" ["part"] (Uk K)) (dP:Aj P w K mg base 4 "wire_rest" ["wiring", "rest", "whole"] (Ts C CP)):Aj P w K mg base 5 "wire_leaf" ["wiring", "part", "whole"] (On K C CP):=by
 refine F.ok Qr (λ vs H Q E h=>?_) (λ f cdv A outer s0 H vs Q E hr h=>?_)
 ·obtain ⟨o,a,dx,v,p,x,y,z,rv,cv,L,n,m,s,rfl,_⟩:=h; rfl
 obtain ⟨o,a,dx,v,p,x,y,z,rv,cv,L,n,m,s,rfl,hv,hp,lf,ok,rk,ha,r3,q⟩:=h
 refine ⟨_,(Ad (Bg (Am A9 (Ak Ar (pv 1) Af (λ _ _=>rfl)) Ao (Ap _))
   (Ad (A0 (Av dP hr rfl Ai (Aa (pv 0) (Aa (Ak Ar (pv 1) Af (λ _ _=>rfl)) (Aa (pv 2) Ab)))))
  (Ae (Ui)))
   A7)
  (Ad (Bg (Am A9 (Ak Ar (pv 1) Af (λ _ _=>rfl)) Ao (Ap _))
   (Ae (A0 (Dt PySem.F.plainAttrs_list PySem.F.slot_list_append PySem.F.type_list_append B6 (Ak Be (Al (pv 0) rfl) (Ak Ar (pv 1) Af (λ _ _=>rfl)) (λ _ _=>rfl)) (Aa (Al (pv 2) rfl) Ab))))
   A7)
  (Ad (Br (pv 2) (An aB hr Ai (pv 0) (Aa (Ax Ab) Ab)) rfl)
  (Ae (Br (pv 2) (Np (Tk (Md (Av dO hr rfl Ai (Aa (pv 1) Ab)) (Al (pv 2) rfl) Tr) rfl rfl (by simp) (by decide))) rfl))))),?_⟩
 obtain ⟨t,vs,rfl,hs⟩:=P8 hp
 obtain ⟨ao,aS⟩:=hv.w.objOff ha
 refine ⟨_,Z,t,_,_,_,Z,Z,hs.sq,Ah (j:=0) rfl,Z,_,Z,Ee (λ e=>?_) λ n1=>⟨_,Z,t,_,_,_,Z,Z,hs.sq,Ah (j:=0) rfl,Z,_,Z,AcQ (λ H1=>∃ s1,Nw C o L n m (a :: L.S) H s H1 s1 32∧H1 a = some (.ins CP dx (wdV x y z rv cv))∧PAt K H1 p.nd (.ref t)) ?_ (λ e a5=>?_) ⟨s,hv.nw.le (jX _),ha,hp⟩⟩⟩
 ·obtain ⟨k,rfl⟩:=Ub e
  obtain ⟨a',a9,ev,hs,hx⟩:=PAt.get hp
  cases ev
  obtain ⟨x0,x1,rfl,h0,h1⟩:=hx.two
  cases h0.str
  cases h1.int
  exact ⟨_,Z,_,Z,t,_,_,_,Z,Z,hs.sq,Ah (j:=1) rfl,_,Z,o,a,dx,k,x,y,z,rv,cv,L,n,m,s,Z,⟨hv.w,hv.f,hv.nl,hv.sl,hv.b.le (by decide)⟩,ha,r3,rk k iE,λ H' s' r cs U=>q H' s' r cs (U.le (by decide))⟩
 ·rintro H1 ⟨s1,U1,b4,a8⟩
  have b2:rsP p = []:=by cases p <;> first | rfl | exact absurd rfl n1 | cases lf
  obtain ⟨_,a6,_⟩:=id U1.w
  refine ⟨_,Z,o,L.dx,_,Z,a6,Z,zN0,λ l1 h1=>?_⟩
  have U2:=U1.new h1 (.lst [])
  refine ⟨o,l1,[],L,n,m,_,Z,U2.hv hv (by decide),upd_same,.nil,jX _,λ H2 s2 i V2 hi=>?_⟩
  have U2:=U2.then V2
  have a2:=V2.k _ _ aS ((Ac h1 (.lst [])) _ _ b4)
  have a7:=(a8.mono (Ac h1 (.lst [])).tp).mono ((U1.w.same (Ac h1 (.lst []))).tp V2.k)
  refine ⟨_,Z,a,CP,dx,_,Z,a2,T.clP,T.nE,(by show 5 < 1000; decide),?_⟩
  have U3:=U2.setA a2 (.ins CP dx (wdV x y z (.int i) cv))
  have a4:=a7.mono (Mz a2 (KpS.upd (u:=.ins CP dx (wdV x y z (.int i) cv)) iE))
  have a1:=upd_same (H:=H2) (a:=a) (o:=.ins CP dx (wdV x y z (.int i) cv))
  generalize hH:upd H2 a (.ins CP dx (wdV x y z (.int i) cv)) = H3 at U3 a4 a1
  have b1:upd H2 a (.ins CP dx (A5 "rests" (V.int i) (wdV x y z rv cv))) = H3:=hH
  rw [b1]
  refine λ d hd=>?_
  have dS:=U3.w.offN hd
  have gp:=Ac hd (.dK [])
  have U4:=U3.new hd (.dK [])
  have ad:a≠d:=ne_of_none a1 hd
  refine ⟨_,Z,_,p,Z,a4.mono gp.tp,lf,_,Z,a,CP,dx,_,.int x,Z,gp _ _ a1,T.clP,T.nR,Z,upd_same,[(Sum.inl (beg [] p).1,V.int x)],Z,(by show 1≤15; decide),d,_,Z,upd_same,λ ob=>?_⟩
  have U5:=U4.frz upd_same dS (U3.k.nil hd λ z=>(jK.mp z).elim (Ne.symm ad) dS) (.dK (Bv [] [(Sum.inl (beg [] p).1,V.int x)])) ob
  have a3:=upd2 (u1:=.dK (Bv [] [(Sum.inl (beg [] p).1,V.int x)])) (u2:=.frz ob (.dK (Bv [] [(Sum.inl (beg [] p).1,V.int x)]))) (gp _ _ a1) ad
  refine ⟨_,Z,a,CP,dx,_,Z,a3,T.clP,T.nC,(by show 5 < 1000; decide),?_⟩
  refine q _ s2 i [((beg [] p).1,x)] ((U5.setA a3 _).le (by decide)) ⟨dx,d,ob,upd_same,by rw [upd_ne (Ne.symm ad)]; exact upd_same⟩ hi ⟨λ c hc=>?_,List.pairwise_singleton _ _⟩ (by rw [b2]; intro k hk; cases hk)
  rw [mS hc]
  exact ⟨Ad0 ok lf,r3.1.up U2.lo⟩
 ·obtain ⟨i,rfl⟩:=Abq (V.str.inj (iK e))
  have b3:=hp
  obtain ⟨a',a9,ev,hs,hx⟩:=PAt.get hp
  cases ev
  obtain ⟨x0,x1,rfl,h0,h1⟩:=hx.two
  cases h0.str
  cases h1.int
  obtain ⟨gvs,ho,hg,b7,b6,hn,b5,hl,nd⟩:=id hv.w
  obtain ⟨i0,i1⟩:=ok
  obtain ⟨j,rfl⟩:∃ j:Nat,i = (j:Int):=⟨i.toNat,(Int.toNat_of_nonneg i0).symm⟩
  have hj:j < s.sn.length:=by rw [hv.sl]; omega
  obtain ⟨r,f1,f2⟩:=Bn b5 (hX hj)
  refine ⟨_,Z,o,C,L.dx,_,.ref L.nl,Z,ho,T.cl,T.nN,Z,_,Z,t,_,_,_,Z,Z,hs.sq,Ah (j:=1) rfl,L.nl,_,_,.ref r,Z,Z,SqL.of hn,Ah (by rw [iH,f1]; rfl),.inl ⟨Z,_,SqL.of f2⟩,_,Z,a,CP,dx,_,.int x,Z,ha,T.clP,T.nR,Z,r,_,.int x,Z,Z,f2,?_,?_⟩
  ·rw [hZ]
   exact Aao (by have:=hv.b.2.2 _ (jJ hj); omega)
  exact a5 _ ⟨_,(hv.nw (S:=a :: L.S)).sen (iF _ (iF _ (iF _ (iN f1)))) f1 (hX hj) r3.1,by rw [upd_ne (Bd ha f2 (by intro z; cases z))]; exact ha,b3.mono (Tp.lst f2)⟩
theorem Km {d:Addr} {o:Obj} {kvs:List (Key× V)} {g:TG} {tc:TT} {te:TE} {a2:St} {H:Hp} {F:Addr→List V→Hp→Prop} (Pv:Nat→List V→Hp→Prop) (h0:Pv 0 [] H) (hz:kvs.length≤sizeLine) (hl:∀ i ys H,Pv i ys H→H d = some (.frz o (.dK kvs)))
  (hs:∀ i p T ys H (N:List V→Hp→Prop),kvs[i]? = some p→Pv i ys H→H T = none→(∀ a1 H',a1.length≤i + 1→Pv (i + 1) a1 H'→N a1 H')→ys.length≤i→g (.ref T) a2 (upd H T (.tup [kV p.1,p.2])) λ a3 H2=>tc a3 H2 λ b H3=>if b = true then te a3 H3 λ y H4=>N (ys ++ [y]) H4 else N ys H3)
  (hd:∀ ys H,ys.length≤kvs.length→Pv kvs.length ys H→∀ D,H D = none→F D ys H):J6 (Iti d o kvs) g tc te a2 F H :=
 Gg Pv h0 hz (λ i ys H hi p=>⟨hl i ys H p,hi⟩) (λ ys H p=>⟨hl _ ys H p,iX _⟩)
  (λ i x ys H H' N hi p ⟨T,z,e1,hT,y,e2⟩ a4 k=>by subst e1 e2; exact hs i z T ys _ N y p hT k a4) hd
theorem Cj.kp {C CP o a:Addr} {H H':Hp} {L:Lc} {n:Nat} {s:Ws} {r:Wr} (D:Cj CP H a r) (W:Bk C H o L n s) (k:KpS L.S H H'):Cj CP H' a r:=by
 obtain ⟨dx,d,ob,ha,hd⟩:=D
 exact ⟨dx,d,ob,k _ _ (W.objOff ha).2 ha,k _ _ (W.offF hd) hd⟩
theorem Cj.same {CP a:Addr} {H H':Hp} {r:Wr} (D:Cj CP H a r) (g:Same H H'):Cj CP H' a r:=by
 obtain ⟨dx,d,ob,ha,hd⟩:=D
 exact ⟨dx,d,ob,g _ _ ha,g _ _ hd⟩
theorem K3 {H H':Hp} {l:Addr} {ts:List Addr} {codes:List (Int× Int)} (h:Z2 H (codes.map kvI) l ts H'):PySem.Paired (Iz H') codes (ts.map V.ref):=by
 obtain ⟨g,fl,el,le,ft,nd,et⟩:=h
 refine C9 (by rw [hZ,le,hZ]) λ j x e=>?_
 have hj:j < ts.length:=by rw [le,hZ]; exact (List.getElem?_eq_some_iff.mp e).1
 exact ⟨.ref ts[j],by rw [iH,hX hj]; rfl,ts[j],Z,et j ts[j] (kvI x) (hX hj) (by rw [iH,e]; rfl)⟩
theorem Cq {α β:Type} {F:α→β→Prop} {l1 l2:List α} {m1 m2:List β} (h1:PySem.Paired F l1 m1) (h2:PySem.Paired F l2 m2):PySem.Paired F (l1 ++ l2) (m1 ++ m2):=by
 have e1:=PySem.Paired.length h1
 have e2:=PySem.Paired.length h2
 refine C9 (by rw [iB,iB,e1,e2]) λ j x e=>?_
 rcases lt_or_ge j l1.length with hj | hj
 ·rw [iR hj] at e
  obtain ⟨y,f1,f2⟩:=Bn h1 e
  exact ⟨y,by rw [iR (by omega)]; exact f1,f2⟩
 ·rw [iS hj] at e
  obtain ⟨y,f1,f2⟩:=Bn h2 e
  exact ⟨y,by rw [iS (by omega),← e1]; exact f1,f2⟩
def WI (s:Ws) (r:Wr):Prop:=R3 s r.runs r.kept r.stays∧Rng s r.rests∧CO s r.codes
theorem WI.up {s s':Ws} {r:Wr} (h:WI s r) (l:s.gs.length≤s'.gs.length):WI s' r:=⟨h.1.up l,h.2.1.up l,h.2.2.up l⟩
inductive Pg (C CP:Addr) (vs:List V) (H:Hp) (Q:VK):Prop
 | mk (o a dx f g:Addr) (x y z rr:Int) (cv:V) (r1 r2:Wr) (L:Lc) (n m:Nat) (s:Ws) (_:vs = [.ref o,.ref a,.ref f,.ref g]) (_:Hv C o L n m H s 16) (_:H a = some (.ins CP dx (wdV x y z (.int rr) cv))) (_:Cj CP H f r1) (_:Cj CP H g r2) (_:R3 s x y z) (_:Rng s rr) (_:WI s r1) (_:WI s r2) (_:Fil C CP o a L n m Q H s x y z 16 []):Pg C CP vs H Q
def Te (C CP:Addr):Sp:=λ vs H Q _=>Pg C CP vs H Q
theorem Fil.cod {C CP o a dx d:Addr} {L:Lc} {n m E e:Nat} {Q:VK} {H H':Hp} {s s':Ws} {x y z r:Int} {cv:V} {ob:Obj} {cs:Cd} (q:Fil C CP o a L n m Q H s x y z E []) (U:Nw C o L n m (a :: L.S) H s H' s' e) (l:e≤E) (ha:H' a = some (.ins CP dx (wdV x y z (.int r) cv))) (hd:H' d = some (.frz ob (.dK (cs.map kvI)))) (hr:Rng s' r) (hc:CO s' cs):Q .non (upd H' a (.ins CP dx (wdV x y z (.int r) (.ref d)))):=by
 have ad:a≠d:=Bd ha hd (by intro z; cases z)
 exact q _ s' r cs ((U.setA ha _).le l) ⟨dx,d,ob,upd_same,by rw [upd_ne (Ne.symm ad)]; exact hd⟩ hr hc λ _ h=>nomatch h
theorem AaD (F:A2 K mg "wire_then" ["wiring", "whole", "first", "second"] Fg) (T:B2 K mg C CP) (aD:A4 P w K mg base 1 C "fill" ["self", "number", "word", "numbers"] (F0 C)) (aE:A4 P w K mg base 2 C "opposite" ["self", "number"] (Kg C)) (aA:A4 P w K mg base 2 C "every_of" ["self", "numbers"] (Eo C)) (aL:A4 P w K mg base 3 C "joined" ["self", "pairs"] (G6 C)) (aK:Aj P w K mg base 3 "code_gate" ["wiring", "whole", "code"] (Qb C CP)):Aj P w K mg base 4 "wire_then" ["wiring", "whole", "first", "second"] (Te C CP):=by
 refine F.ok Ij (λ vs H Q E h=>?_) (λ fn cdv A outer s0 H vs Q E hr h=>?_)
 ·obtain ⟨o,a,dx,f,g,x,y,z,rr,cv,r1,r2,L,n,m,s,rfl,_⟩:=h; rfl
 obtain ⟨o,a,dx,f,g,x,y,z,rr,cv,r1,r2,L,n,m,s,rfl,hv,ha,D1,D2,r3,b4,b1,b2,q⟩:=h
 obtain ⟨uE,hE,rE⟩:=T.gE
 have W:=hv.w
 have aS:=(W.objOff ha).2
 refine ⟨_,(Ad (Aw (i:=4) Ij.nd rfl (Or.inl rfl) (An aA hr Ai (pv 0) (Aa (Ax (Aa (Al (pv 1) rfl) (Aa (Al (pv 3) rfl) Ab))) Ab)))
  (Ad (A0 (An aD hr Ai (pv 0) (Aa (Al (pv 2) rfl) (Aa Ao (Aa (Ax (Aa (Al (pv 1) rfl) (Aa (An aE hr Ai (pv 0) (Aa (Al (pv 3) rfl) Ab)) Ab))) Ab)))))
  (Ad (A0 (An aD hr Ai (pv 0) (Aa (Al (pv 3) rfl) (Aa Ao (Aa (Ax (Aa (pv 4) (Aa (Av aK hr rfl Ai (Aa (pv 0) (Aa (pv 2) (Aa (Bx rfl hE rE) Ab)))) Ab))) Ab)))))
  (Ad (Ds (j:=5) (g:=(Bo 0)) (tc:=(Ip (tOp rNe (tOp (Fo K) (Bh 0) (tC (.int 0))) (tC (.int 0))))) (te:=(Bh 0)) ["pair"] [] Ij.nd rfl (Or.inl rfl) rfl (Bw (Ag Fg) ["wiring", "whole", "first", "second", "going_on", "going_past"] (by decide +kernel)) (Me (Al (pv 2) rfl)) (λ s2 H2 fp cl C=>Aq (i:=0) (show Nodup [("pair" : Str)] from by decide +kernel) rfl (Or.inl rfl)) (Bf (by decide)) (λ s2 H2 fp cl C=>Dm (Am Nb (Ak Ar (pv 0) Af (λ _ _=>rfl)) (Bx rfl hE rE) (Ap _))) (λ s2 H2 fp cl C=>(pv 0)))
  (Ae (Br (pv 1) (An aL hr Ai (pv 0) (Aa (A8 Fw (pv 5) (G2 rfl rfl T.n_list (Al (pv 3) rfl))) Ab)) rfl)))))),?_⟩
 obtain ⟨_,ho,_⟩:=id W
 obtain ⟨fx,d1,o1,hf,a7⟩:=id D1
 obtain ⟨gx,d2,o2,hg,a2⟩:=id D2
 have fS:=(W.objOff hf).2
 have gS:=(W.objOff hg).2
 refine ⟨_,Z,o,L.dx,_,Z,ho,Z,_,Z,a,CP,dx,_,.int x,Z,ha,T.clP,T.nR,Z,_,Z,g,CP,gx,_,.int r2.rests,Z,hg,T.clP,T.nE,Z,zN2,λ l1 h1=>?_⟩
 have U1:=(hv.nw (S:=L.S)).new h1 (.lst [V.int x,.int r2.rests])
 refine ⟨o,l1,[x,r2.rests],L,n,m,s,Z,U1.hv hv (by decide),upd_same,.two r3.1 b2.2.1,(by show 2≤1000; decide),λ H1 s1 i1 V1 j1=>?_⟩
 have U1:=U1.trans V1
 obtain ⟨_,a4,_⟩:=id V1.w
 refine ⟨_,Z,o,L.dx,_,Z,a4,Z,_,Z,f,CP,fx,_,.int r1.runs,Z,U1.k _ _ fS hf,T.clP,T.nR,Z,_,Z,a,CP,dx,_,.int x,Z,U1.k _ _ aS ha,T.clP,T.nR,Z,_,Z,o,L.dx,_,Z,a4,Z,_,Z,g,CP,gx,_,.int r2.rests,Z,U1.k _ _ gS hg,T.clP,T.nE,Z,?_⟩
 refine ⟨o,_,L,n,m,_,Z,U1.hv hv (by decide),b2.2.1.up U1.lo,λ H2 s2 i2 V2 j2=>⟨zN2,λ l2 h2=>?_⟩⟩
 have U2:=(U1.trans V2).new h2 (.lst [V.int x,.int i2])
 refine ⟨o,l2,r1.runs, "all", [x,i2],L,n,m,_,Z,U2.hv hv (by decide),upd_same,b1.1.1.up U2.lo,.inl rfl,.two (r3.1.up U2.lo) j2,(by show 2≤1000; decide),λ H3 s3 V3=>?_⟩
 have U3:=U2.trans V3
 obtain ⟨_,b3,_⟩:=id V3.w
 refine ⟨_,Z,o,L.dx,_,Z,b3,Z,_,Z,g,CP,gx,_,.int r2.runs,Z,U3.k _ _ gS hg,T.clP,T.nR,Z,_,Z,_,Z,_,Z,o,f,0,r1,L,n,m,_,Z,U3.hv hv (by decide),D1.kp W U3.k,(b1.up U3.lo).2.2.1,λ H4 s4 i4 V4 j4=>⟨zN2,λ l4 h4=>?_⟩⟩
 have U4:=(U3.trans V4).new h4 (.lst [V.int i1,.int i4])
 refine ⟨o,l4,r2.runs, "some", [i1,i4],L,n,m,_,Z,U4.hv hv (by decide),upd_same,b2.1.1.up U4.lo,.inr rfl,.two (j1.up (iW (iW V2.lo V3.lo) V4.lo)) j4,(by show 2≤1000; decide),λ H5 s5 V5=>?_⟩
 have U5:=U4.trans V5
 have a6:=U5.k _ _ (W.offF a7) a7
 have c1:=b1.2.2.len
 have c2:=b2.2.2.len
 refine ⟨_,Z,f,CP,fx,_,.ref d1,Z,U5.k _ _ fS hf,T.clP,T.nC,Z,d1,o1,_,Z,a6,Km (λ i ys H'=>Same H5 H'∧∃ ps,PySem.Paired (Iz H') ps ys∧CR s ps) ⟨Same.refl _,[],.nil,λ _ h=>nomatch h⟩ (by rw [hZ]; exact iW c1 (by decide)) (λ i ys H' hh=>hh.1 _ _ a6) ?_ ?_⟩
 ·rintro i p t ys H' N hi ⟨gg,ps,hy,cr⟩ ht hN a1
  have a9:i < r1.codes.length:=by have:=(List.getElem?_eq_some_iff.mp hi).1; rwa [hZ] at this
  rw [iH,hX a9] at hi
  cases hi
  have gt:=Ac ht (.tup [V.int (r1.codes[i]).1,V.int (r1.codes[i]).2])
  have a8:PySem.Paired (Iz (upd H' t (.tup [V.int (r1.codes[i]).1,V.int (r1.codes[i]).2]))) ps ys:=Paired.mapP hy λ _ _ a=>a.mono gt.tp
  refine ⟨_,Z,t,_,_,_,Z,Z,SqT.of upd_same,Ah (j:=0) rfl,Z,_,Z,Ay (λ _=>⟨_,Z,hN _ _ (by rw [iB,iD]; omega) ⟨gg.trans gt,ps ++ [r1.codes[i]],Cq a8 (.cons ⟨t,Z,upd_same⟩ .nil),cr.app λ p hp=>?_⟩⟩) λ _=>hN _ _ (by omega) ⟨gg.trans gt,ps,a8,cr⟩⟩
  rw [mS hp]
  exact b1.2.2.1 _ (jJ a9)
 rintro ys H6 a1 ⟨g6,ps,hy,cr⟩ D6 a3
 rw [hZ] at a1
 have gD:=Ac a3 (.lst ys)
 have U7:=(U5.same g6).new a3 (.lst ys)
 obtain ⟨_,b5,_⟩:=id U7.w
 refine ⟨_,Z,o,L.dx,_,Z,b5,Z,_,Z,_,Z,g,CP,gx,_,.ref d2,Z,U7.k _ _ gS hg,T.clP,T.nC,Z,d2,_,Z,.inr ⟨o2,U7.k _ _ (W.offF a2) a2⟩,λ l8 ts H8 q8=>?_⟩
 have p8:=K3 q8
 obtain ⟨g8,fl,el,le,_⟩:=q8
 have g8:Same _ H8:=g8
 have lp:=PySem.Paired.length hy
 rw [hZ] at le
 refine ⟨D6,l8,ys,_,Z,Z,g8 _ _ upd_same,el,by rw [hZ]; exact iW (by omega:ys.length + ts.length≤64) (by decide),λ l9 h9=>?_⟩
 have U9:=(U7.same g8).new h9 (.lst (ys ++ ts.map V.ref))
 refine ⟨o,l9,_,_,L,n,m,_,Z,U9.hv hv (by decide),upd_same,(U7.same g8).w.offN h9,Paired.mapP (Cq (Paired.mapP hy λ _ _ a=>a.mono (gD.trans g8).tp) p8) λ _ _ a=>a.mono (Ac h9 (.lst (ys ++ ts.map V.ref))).tp,by rw [iB]; omega,(cr.up U9.lo).app (b2.2.2.1.up U9.lo),λ d ob HA sA cs VA dA eA cA=>?_⟩
 have UA:=U9.trans VA
 have a5:=UA.k _ _ aS ha
 exact ⟨_,Z,a,CP,dx,_,Z,a5,T.clP,T.nC,(by show 5 < 1000; decide),q.cod (UA.more λ b h=>iF _ h) (by decide) a5 eA (b4.up UA.lo) cA⟩
inductive Uj (C CP:Addr) (vs:List V) (H:Hp) (Q:VK):Prop
 | mk (o a dx f g:Addr) (x y z rr sg:Int) (cv:V) (r1 r2:Wr) (L:Lc) (n m:Nat) (s:Ws) (_:vs = [.ref o,.int sg,.ref a,.ref f,.ref g]) (_:Hv C o L n m H s 16) (_:H a = some (.ins CP dx (wdV x y z (.int rr) cv))) (_:Cj CP H f r1) (_:Cj CP H g r2) (_:R3 s x y z) (_:Rng s rr) (_:Rng s sg) (_:WI s r1) (_:WI s r2) (_:Fil C CP o a L n m Q H s x y z 16 []):Uj C CP vs H Q
def Aa9 (C CP:Addr):Sp:=λ vs H Q _=>Uj C CP vs H Q
theorem Adk (F:A2 K mg "wire_if" ["wiring", "sign", "whole", "first", "second"] Iu) (T:B2 K mg C CP) (aD:A4 P w K mg base 1 C "fill" ["self", "number", "word", "numbers"] (F0 C)) (aE:A4 P w K mg base 2 C "opposite" ["self", "number"] (Kg C)) (aA:A4 P w K mg base 2 C "every_of" ["self", "numbers"] (Eo C)) (aL:A4 P w K mg base 3 C "joined" ["self", "pairs"] (G6 C)):Aj P w K mg base 4 "wire_if" ["wiring", "sign", "whole", "first", "second"] (Aa9 C CP):=by
 refine F.ok Fz (λ vs H Q E h=>?_) (λ fn cdv A outer s0 H vs Q E hr h=>?_)
 ·obtain ⟨o,a,dx,f,g,x,y,z,rr,sg,cv,r1,r2,L,n,m,s,rfl,_⟩:=h; rfl
 obtain ⟨o,a,dx,f,g,x,y,z,rr,sg,cv,r1,r2,L,n,m,s,rfl,hv,ha,D1,D2,r3,b5,a5,b1,b2,q⟩:=h
 have W:=hv.w
 have aS:=(W.objOff ha).2
 refine ⟨_,(Ad (Aw (i:=5) Fz.nd rfl (Or.inl rfl) (An aA hr Ai (pv 0) (Aa (Ax (Aa (Al (pv 2) rfl) (Aa (An aE hr Ai (pv 0) (Aa (Al (pv 2) rfl) Ab)) Ab))) Ab)))
  (Ad (De PassesOwn.never rfl (Hq (A3 (Aa (A3 (Aa (pv 3) (Aa (pv 1) Ab))) (Aa (A3 (Aa (pv 4) (Aa (An aE hr Ai (pv 0) (Aa (pv 1) Ab)) Ab))) Ab)))) (C1 rfl (Bc (Aq (i:=6) Fz.nd rfl (Or.inl rfl)) (Bc (Aq (i:=7) Fz.nd rfl (Or.inl rfl)) Ch)))
   (Ad (Aw (i:=8) Fz.nd rfl (Or.inl rfl) (An aA hr Ai (pv 0) (Aa (Ax (Aa (Al (pv 2) rfl) (Aa (Al (pv 6) rfl) Ab))) Ab)))
  (Ae (A0 (An aD hr Ai (pv 0) (Aa (Al (pv 6) rfl) (Aa Ao (Aa (Ax (Aa (pv 8) (Aa (An aA hr Ai (pv 0) (Aa (Ax (Aa (pv 5) (Aa (pv 7) Ab))) Ab)) Ab))) Ab))))))))
  (Ae (Br (pv 2) (An aL hr Ai (pv 0) (Aa (A8 Fw (G2 rfl rfl T.n_list (Al (pv 3) rfl)) (G2 rfl rfl T.n_list (Al (pv 4) rfl))) Ab)) rfl)))),?_⟩
 obtain ⟨_,ho,_⟩:=id W
 obtain ⟨fx,d1,o1,hf,a7⟩:=id D1
 obtain ⟨gx,d2,o2,hg,a3⟩:=id D2
 have fS:=(W.objOff hf).2
 have gS:=(W.objOff hg).2
 refine ⟨_,Z,o,L.dx,_,Z,ho,Z,_,Z,a,CP,dx,_,.int x,Z,ha,T.clP,T.nR,Z,_,Z,o,L.dx,_,Z,ho,Z,_,Z,a,CP,dx,_,.int rr,Z,ha,T.clP,T.nE,Z,?_⟩
 refine ⟨o,_,L,n,m,_,Z,hv.nw (S:=L.S) |>.hv hv (by decide),b5,λ H1 s1 i1 U1 j1=>⟨zN2,λ l1 h1=>?_⟩⟩
 have U1:=U1.new h1 (.lst [V.int x,.int i1])
 refine ⟨o,l1,[x,i1],L,n,m,_,Z,U1.hv hv (by decide),upd_same,.two (r3.1.up U1.lo) j1,(by show 2≤1000; decide),λ H2 s2 bg V2 jb=>?_⟩
 refine ⟨_,Z,_,Z,zN2,λ t1 c8=>?_⟩
 have U2:=(U1.trans V2).new c8 (.tup [V.ref f,.int sg])
 obtain ⟨_,b8,_⟩:=id U2.w
 refine ⟨_,Z,_,Z,o,L.dx,_,Z,b8,Z,_,Z,o,_,L,n,m,_,Z,U2.hv hv (by decide),a5.up U2.lo,λ H3 s3 i3 V3 j3=>⟨zN2,λ t2 b3=>⟨zN2,λ t3 b7=>?_⟩⟩⟩
 have b9:=Ac b3 (.tup [V.ref g,.int i3])
 have a8:=Ac b7 (.tup [V.ref t1,V.ref t2])
 have U4:=((U2.trans V3).new b3 (.tup [V.ref g,.int i3])).new b7 (.tup [V.ref t1,V.ref t2])
 have c5:=(b9.trans a8) _ _ (U2.w.tp V3.k _ _ upd_same)
 have c6:=a8 _ _ (upd_same (H:=H3) (a:=t2) (o:=.tup [V.ref g,.int i3]))
 have a9:=upd_same (H:=upd H3 t2 (.tup [V.ref g,.int i3])) (a:=t3) (o:=.tup [V.ref t1,V.ref t2])
 generalize upd (upd H3 t2 (.tup [V.ref g,.int i3])) t3 (.tup [V.ref t1,V.ref t2]) = H4 at *
 have a1:Hv C o L n m H4 s3 13:=U4.hv hv (by decide)
 refine ⟨t3,Z,⟨_,SqT.of a9⟩,Lf (K:=K) (a:=t3) (xs:=[V.ref t1,V.ref t2]) (λ i σ H'=>∃ x6 x7 x8 s',σ = [some (.ref o),some (.int sg),some (.ref a),some (.ref f),some (.ref g),some (.int bg),x6,x7,x8]∧Nw C o L n m L.S H4 s3 H' s' (2 * i)) ⟨none,none,none,s3,Z,a1.nw⟩ ?_ ?_ ?_⟩
 ·rintro i σ H' _ ⟨_,_,_,_,_,U⟩
  exact SqT.of (a1.w.tp U.k _ _ a9)
 ·rintro i v σ H' hi ⟨x6,x7,x8,s5,rfl,U5⟩
  have d4:i < 2:=(List.getElem?_eq_some_iff.mp hi).1
  obtain ⟨b,bx,db,rb,qb,t,rfl,e2,b4,a4,rg,hq⟩:∃ (b bx db:Addr) (rb:Wr) (qb:Int) (t:Addr),v = .ref t∧H4 t = some (.tup [V.ref b,.int qb])∧H4 b = some (.ins CP bx (wdV rb.runs rb.kept rb.stays (.int rb.rests) (.ref db)))∧b∉L.S∧WI s3 rb∧Rng s3 qb:=by
   match i,hi with
   | 0,hi=>cases hi; exact ⟨f,fx,d1,r1,sg,t1,rfl,c5,U4.k _ _ fS hf,fS,b1.up U4.lo,a5.up U4.lo⟩
   | 1,hi=>cases hi; exact ⟨g,gx,d2,r2,i3,t2,rfl,c6,U4.k _ _ gS hg,gS,b2.up U4.lo,j3⟩
   | (j + 2),hi=>cases hi
  obtain ⟨_,a2,_⟩:=id U5.w
  have rg:=rg.up U5.lo
  refine ⟨t,_,Z,SqT.of (a1.w.tp U5.k _ _ e2),Z,_,_,Z,_,_,Z,Z,_,Z,o,L.dx,_,Z,a2,Z,_,Z,a,CP,dx,_,.int x,Z,U5.k _ _ aS (U4.k _ _ aS ha),T.clP,T.nR,Z,_,Z,b,CP,bx,_,.int rb.rests,Z,U5.k _ _ a4 b4,T.clP,T.nE,Z,zN2,λ l6 h6=>?_⟩
  have U6:=U5.new h6 (.lst [V.int x,.int rb.rests])
  refine ⟨o,l6,[x,rb.rests],L,n,m,_,Z,U6.hv a1 (by omega),upd_same,.two (r3.1.up (iW U4.lo U5.lo)) rg.2.1,(by show 2≤1000; decide),λ H6 s6 i6 V6 j6=>?_⟩
  have U6:=U6.trans V6
  obtain ⟨_,b6,_⟩:=id V6.w
  refine ⟨_,Z,o,L.dx,_,Z,b6,Z,_,Z,b,CP,bx,_,.int rb.runs,Z,U6.k _ _ a4 b4,T.clP,T.nR,Z,_,Z,_,Z,o,L.dx,_,Z,b6,Z,_,Z,_,Z,zN2,λ l7 h7=>?_⟩
  have U7:=U6.new h7 (.lst [V.int bg,.int qb])
  refine ⟨o,l7,[bg,qb],L,n,m,_,Z,U7.hv a1 (by omega),upd_same,.two (jb.up (iW V3.lo U7.lo)) (hq.up U7.lo),(by show 2≤1000; decide),λ H8 s8 i8 V8 j8=>⟨zN2,λ l8 h8=>?_⟩⟩
  have U8:=(U7.trans V8).new h8 (.lst [V.int i6,.int i8])
  exact ⟨o,l8,rb.runs, "some", [i6,i8],L,n,m,_,Z,U8.hv a1 (by omega),upd_same,rg.1.1.up (iW V6.lo V8.lo),.inr rfl,.two (j6.up V8.lo) j8,(by show 2≤1000; decide),λ H9 s9 V9=>⟨_,_,_,s9,Z,(U8.trans V9).le (by omega)⟩⟩
 ·rintro σ H5 ⟨x6,x7,x8,s5,rfl,U5⟩
  have U5:=U4.trans (show Nw C o L n m L.S H4 s3 H5 s5 4 from U5)
  have c1:=b1.2.2.len
  have c2:=b2.2.2.len
  obtain ⟨_,a2,_⟩:=id U5.w
  refine ⟨_,Z,o,L.dx,_,Z,a2,Z,_,Z,f,CP,fx,_,.ref d1,Z,U5.k _ _ fS hf,T.clP,T.nC,Z,d1,_,Z,.inr ⟨o1,U5.k _ _ (W.offF a7) a7⟩,λ l6 us H6 q6=>?_⟩
  have p6:=K3 q6
  obtain ⟨g6,d3,c9,c7,_⟩:=q6
  have g6:Same _ H6:=g6
  have U6:=U5.same g6
  refine ⟨_,Z,g,CP,gx,_,.ref d2,Z,U6.k _ _ gS hg,T.clP,T.nC,Z,d2,_,Z,.inr ⟨o2,U6.k _ _ (W.offF a3) a3⟩,λ l8 ts H8 q8=>?_⟩
  have p8:=K3 q8
  obtain ⟨g8,fl,el,le,_⟩:=q8
  have g8:Same _ H8:=g8
  rw [hZ] at le c7
  refine ⟨l6,l8,_,_,Z,Z,g8 _ _ c9,el,by rw [hZ,hZ]; exact iW (by omega:us.length + ts.length≤64) (by decide),λ l9 h9=>?_⟩
  have U9:=(U6.same g8).new h9 (.lst (us.map V.ref ++ ts.map V.ref))
  refine ⟨o,l9,_,_,L,n,m,_,Z,U9.hv hv (by decide),upd_same,(U6.same g8).w.offN h9,Paired.mapP (Cq (Paired.mapP p6 λ _ _ a=>a.mono g8.tp) p8) λ _ _ a=>a.mono (Ac h9 (.lst (us.map V.ref ++ ts.map V.ref))).tp,by rw [iB]; omega,(b1.2.2.1.up U9.lo).app (b2.2.2.1.up U9.lo),λ d ob HA sA cs VA dA eA cA=>?_⟩
  have UA:=U9.trans VA
  have a6:=UA.k _ _ aS ha
  exact ⟨_,Z,a,CP,dx,_,Z,a6,T.clP,T.nC,(by show 5 < 1000; decide),q.cod (UA.more λ b h=>iF _ h) (by decide) a6 eA (b5.up UA.lo) cA⟩
theorem Xa {d:Addr} {o:Obj} {kvs:List (Key× V)} {g:TG} {tc:TT} {te:TE} {a2:St} {H:Hp} {F:Addr→List V→Hp→Prop} (Pv:Nat→List V→Hp→Prop) (h0:Pv 0 [] H) (hz:kvs.length≤sizeLine) (hl:∀ i ys H,Pv i ys H→H d = some (.frz o (.dK kvs)))
  (hs:∀ i p ys H (N:List V→Hp→Prop),kvs[i]? = some p→Pv i ys H→(∀ a1 H',a1.length≤i + 1→Pv (i + 1) a1 H'→N a1 H')→ys.length≤i→g (kV p.1) a2 H λ a3 H2=>tc a3 H2 λ b H3=>if b = true then te a3 H3 λ y H4=>N (ys ++ [y]) H4 else N ys H3)
  (hd:∀ ys H,ys.length≤kvs.length→Pv kvs.length ys H→∀ D,H D = none→F D ys H):J6 (Itk d o kvs) g tc te a2 F H :=
 Gg Pv h0 hz (λ i ys H hi p=>⟨hl i ys H p,hi⟩) (λ ys H p=>⟨hl _ ys H p,iX _⟩)
  (λ i x ys H H' N hi p ⟨e,z,y,e1⟩ a4 k=>by subst e e1; exact hs i z ys _ N y p k a4) hd
theorem Bk.offN4 {C o:Addr} {H:Hp} {L:Lc} {n:Nat} {s:Ws} (w:Bk C H o L n s) {b:Addr} (e:H b = none):b≠o∧b≠L.sl∧b≠L.nl∧b∉L.S:=by
 have off:=w.offN e
 obtain ⟨gvs,ho,hg,hp,hs,hn,hr,hl,nd⟩:=w
 exact ⟨λ z=>(by rw [z,ho] at e; cases e),λ z=>(by rw [z,hs] at e; cases e),λ z=>(by rw [z,hn] at e; cases e),off⟩
theorem Tl (l:Cd):((l.map kvI).map λ p=>kV p.1) = (l.map (·.1)).map V.int:=by rw [map_map,map_map]; rfl
theorem T9 {H:Hp} {d:Addr} {ob:Obj} {l:Cd} (h:H d = some (.frz ob (.dK (l.map kvI)))) (c:Int):Ha H d (.int c) ((l.lookup c).map V.int):=.inl ⟨_,Sum.inl c,.inr ⟨ob,h⟩,Z,(L8 _ _).symm⟩
theorem Nh {l:Cd} {k:Int} (h:k∈l.map (·.1)):∃ v,l.lookup k = some v:=by
 induction l with
 | nil=>cases h
 | cons p r ih =>
  obtain ⟨p1,p2⟩:=p
  rw [jT]
  by_cases e:k = p1
  ·subst e; exact ⟨p2,by rw [beq_self_eq_true]⟩
  ·have:(k == p1) = false:=by simpa using e
   rw [this]
   rcases jK.mp h with z | z
   ·exact absurd z e
   ·exact ih z
theorem Nw.own {C o l:Addr} {L:Lc} {n m d:Nat} {S:List Addr} {H H':Hp} {s s':Ws} {xs:List V} (U:Nw C o L n m S H s H' s' d) (h0:H l = none) (hl:H' l = some (.lst xs)) (off:l≠o∧l≠L.sl∧l≠L.nl∧l∉L.S) (u:HO):Nw C o L n m S H s (upd H' l u) s' d:={ U with k:=λ b v nb e=>(by rw [upd_ne (ne_of_none e h0)]; exact U.k b v nb e),w:=U.w.keep [l] (KpS.upd iE) (Tp.lst hl) λ b hb=>by rw [mS hb]; exact off }
theorem Nw.ownD {C o l:Addr} {L:Lc} {n m d:Nat} {S:List Addr} {H H':Hp} {s s':Ws} {kvs:List (Key× V)} (U:Nw C o L n m S H s H' s' d) (h0:H l = none) (hl:H' l = some (.dK kvs)) (off:l∉L.S) (u:HO):Nw C o L n m S H s (upd H' l u) s' d:={ U with k:=λ b v nb e=>(by rw [upd_ne (ne_of_none e h0)]; exact U.k b v nb e),w:=U.w.atD hl off u }
theorem Qq {s:Ws} {l:Cd} {k v:Int} (h:CR s l) (e:l.lookup k = some v):Rng s v:=by
 obtain ⟨p,hp,rfl⟩:=Kz e
 exact (h p hp).2
theorem RL.snoc {s:Ws} {l:List Int} {a:Int} (h:RL s l) (ha:Rng s a):RL s (l ++ [a]):=λ x hx=>(iU.mp hx).elim (h x) λ z=>by rw [mS z]; exact ha
inductive Xe (C:Addr) (vs:List V) (H:Hp) (Q:VK):Prop
 | mk (o sl d0 d1:Addr) (ob0 ob1:Obj) (c0 c1:Cd) (L:Lc) (n m:Nat) (s:Ws) (_:vs = [.ref o,.ref sl]) (_:Hv C o L n m H s 24) (_:H sl = some (.lst [.ref d0,.ref d1])) (_:sl∉L.S) (_:H d0 = some (.frz ob0 (.dK (c0.map kvI)))) (_:H d1 = some (.frz ob1 (.dK (c1.map kvI)))) (_:CO s c0) (_:CO s c1) (_:∀ d ob H' s' cs,Nw C o L n m L.S H s H' s' 24→H' d = some (.frz ob (.dK (cs.map kvI)))→CO s' cs→Q (.ref d) H'):Xe C vs H Q
def AdN (C:Addr):Sp:=λ vs H Q _=>Xe C vs H Q
theorem Wo (F:A2 K mg "greater_codes" ["wiring", "sides"] Cv) (T:B2 K mg C CP) (aA:A4 P w K mg base 2 C "every_of" ["self", "numbers"] (Eo C)) (aB:A4 P w K mg base 2 C "some_of" ["self", "numbers"] (Fe C)):Aj P w K mg base 3 "greater_codes" ["wiring", "sides"] (AdN C):=by
 refine F.ok Co (λ vs H Q E h=>?_) (λ fn cdv A outer s0 H vs Q E hr h=>?_)
 ·obtain ⟨o,sl,d0,d1,ob0,ob1,c0,c1,L,n,m,s,rfl,_⟩:=h; rfl
 obtain ⟨o,sl,d0,d1,ob0,ob1,c0,c1,L,n,m,s,rfl,hv,a2,a4,h0,h1,k0,k1,q⟩:=h
 have hu:=iZ (add_le_add_left (show 1≤64 by decide) _) hr.units
 have W:=hv.w
 have z0:=k0.len
 have z1:=k1.len
 refine ⟨_,(Ad (Aw (i:=2) Co.nd rfl (Or.inl rfl) J9)
  (Ad (De PassesOwn.never rfl (B9 (Oc rfl rfl T.n_sorted rfl T.n_set (A8 Fw (Bu (Jo rfl) rfl T.n_list (by decide +kernel) (Aa (Ak Be (pv 1) Af (λ _ _=>rfl)) Ab)) (Bu (Jo rfl) rfl T.n_list (by decide +kernel) (Aa (Ak Be (pv 1) Af (λ _ _=>rfl)) Ab))))) (Aq (i:=3) Co.nd rfl (Or.inr rfl))
   (Ad (Ds (j:=4) (g:=(Bo 0)) (tc:=(tB (Ach (Bh 1) (Bh 0)))) (te:=(P6 (Bh 0) (Bh 1))) ["side"] [("code", 3)] Co.nd rfl (Or.inl rfl) rfl (Bw (Ag Cv) ["wiring", "sides", "codes", "code", "here", "needed", "side"] (by decide +kernel)) (B9 (pv 1)) (λ s2 H2 fp cl C=>Aq (i:=0) (show Nodup [("side" : Str),("code" : Str)] from by decide +kernel) rfl (Or.inl rfl)) (Bf (by decide)) (λ s2 H2 fp cl C=>Dm (Yr (Ni hu (pv 1) (pv 0)) (by rfl))) (λ s2 H2 fp cl C=>(Ls hu (pv 0) (pv 1) (λ _ _=>rfl))))
  (Ad (Aw (i:=5) Co.nd rfl (Or.inl rfl) (Ax (Aa (An aB hr Ai (pv 0) (Aa (pv 4) Ab)) Ab)))
  (Ad (De PassesOwn.never rfl (B9 (pv 1)) (Aq (i:=6) Co.nd rfl (Or.inr rfl))
   (Ae (A0 (Dt PySem.F.plainAttrs_list PySem.F.slot_list_append PySem.F.type_list_append B6 (pv 5) (Aa (An aB hr Ai (pv 0) (Aa (Cb (g:=(Bo 0)) (tc:=(Ip (tOp (rI0 λ i j=>.bl (decide (i≤j))) (Bh 0) (Bh 2)))) (te:=(P6 (Bh 1) (Bh 0))) ["least"] [("side", 6),("code", 3)] rfl (Bw (Ag Cv) ["wiring", "sides", "codes", "code", "here", "needed", "side"] (by decide +kernel)) (AcS (pv 6)) (λ s2 H2 fp cl C=>Aq (i:=0) (show Nodup [("least" : Str),("side" : Str),("code" : Str)] from by decide +kernel) rfl (Or.inl rfl)) (Bf (by decide)) (λ s2 H2 fp cl C=>Dm (Am Ad8 (pv 0) (pv 2) (Ap _))) (λ s2 H2 fp cl C=>(Ls hu (pv 1) (pv 0) (λ _ _=>rfl)))) Ab)) Ab)))))
  (Ae (Oe hu (pv 2) (pv 3) (An aA hr Ai (pv 0) (Aa (pv 5) Ab)) rfl))))))
  (Ae (Au (Np (pv 2)))))),?_⟩
 refine λ d hd=>?_
 have dS:=W.offN hd
 have U1:=(hv.nw (S:=L.S)).new hd (.dK [])
 have g1:=Ac hd (.dK [])
 have d2:=upd_same (H:=H) (a:=d) (o:=.dK [])
 refine ⟨_,Z,sl,_,_,_,Z,Z,SqL.of (g1 _ _ a2),Ah (j:=0) rfl,d0,_,Z,.inr ⟨ob0,g1 _ _ h0⟩,λ r1 e7=>?_⟩
 rw [Tl]
 have g2:=Ac e7 (.lst ((c0.map (·.1)).map V.int))
 have d4:=g1.trans g2
 refine ⟨_,Z,sl,_,_,_,Z,Z,SqL.of (d4 _ _ a2),Ah (j:=1) rfl,d1,_,Z,.inr ⟨ob1,d4 _ _ h1⟩,λ r2 f3=>?_⟩
 rw [Tl]
 have g3:=Ac f3 (.lst ((c1.map (·.1)).map V.int))
 refine ⟨r1,r2,_,_,Z,Z,g3 _ _ upd_same,upd_same,?_,λ r3 f1=>?_⟩
 ·rw [hZ,hZ,hZ,hZ]
  exact iW (by omega:_≤64) (by decide)
 rw [← iM]
 have g4:=Ac f1 (.lst ((c0.map (·.1) ++ c1.map (·.1)).map V.int))
 refine ⟨r3,c0.map (·.1) ++ c1.map (·.1),Z,SqL.of upd_same,by rw [iB,hZ,hZ]; omega,λ l2 b4=>?_⟩
 have g5:=Ac b4 (.lst ((nub (c0.map (·.1) ++ c1.map (·.1))).map V.int))
 have U3:=U1.same (((g2.trans g3).trans g4).trans g5)
 have a9:=upd_same (H:=upd (upd (upd (upd H d (.dK [])) r1 (.lst ((c0.map (·.1)).map V.int))) r2 (.lst ((c1.map (·.1)).map V.int))) r3 (.lst ((c0.map (·.1) ++ c1.map (·.1)).map V.int))) (a:=l2) (o:=.lst ((nub (c0.map (·.1) ++ c1.map (·.1))).map V.int))
 have d8:=(((g2.trans g3).trans g4).trans g5) _ _ d2
 have b9:=(U1.same ((g2.trans g3).trans g4)).w.offN b4
 have e5:l2≠d:=(ne_of_none (((g2.trans g3).trans g4) _ _ d2) b4).symm
 generalize upd (upd (upd (upd (upd H d (.dK [])) r1 (.lst ((c0.map (·.1)).map V.int))) r2 (.lst ((c1.map (·.1)).map V.int))) r3 (.lst ((c0.map (·.1) ++ c1.map (·.1)).map V.int))) l2 (.lst ((nub (c0.map (·.1) ++ c1.map (·.1))).map V.int)) = H3 at U3 a9 d8
 have rise:(nub (c0.map (·.1) ++ c1.map (·.1))).Pairwise (· < ·):=Hw _
 have hk:∀ c∈nub (c0.map (·.1) ++ c1.map (·.1)),0≤c∧c≤5:=λ c hc=>by
  rcases iU.mp (Jj.mp hc) with z | z
  ·obtain ⟨p,hp,rfl⟩:=jS.mp z
   exact (k0.1 p hp).1
  ·obtain ⟨p,hp,rfl⟩:=jS.mp z
   exact (k1.1 p hp).1
 generalize nub (c0.map (·.1) ++ c1.map (·.1)) = cs at *
 have l6:cs.length≤6:=by
  have:=Hf cs 0 6 (by decide) rise λ x hx=>by have:=hk x hx; omega
  omega
 have c6:∀ (j:Nat) (v:V),[V.ref d0,V.ref d1][j]? = some v→∃ (e:Addr) (a5:Obj) (ce:Cd),v = .ref e∧H e = some (.frz a5 (.dK (ce.map kvI)))∧CO s ce:=by
  intro j v hv
  match j,hv with
  | 0,hv=>cases hv; exact ⟨d0,ob0,c0,rfl,h0,k0⟩
  | 1,hv=>cases hv; exact ⟨d1,ob1,c1,rfl,h1,k1⟩
  | (m + 2),hv=>cases hv
 refine ⟨l2,Z,⟨_,SqL.of a9⟩,Fn (K:=K) (a:=l2) (xs:=cs.map V.int) (λ i σ H'=>∃ x3 x4 x5 x6 s' co,σ = [some (.ref o),some (.ref sl),some (.ref d),x3,x4,x5,x6]∧Nw C o L n m L.S H s H' s' (4 * i)∧H' l2 = some (.lst (cs.map V.int))∧H' d = some (.dK (co.map kvI))∧CR s' co∧co.map (·.1) = cs.take i) ⟨none,none,none,none,s,[],Z,U3,a9,d8,(λ _ h=>nomatch h),Z⟩ (λ i σ H' _ ⟨_,_,_,_,_,_,_,_,h,_⟩=>SqL.of h) ?_ ?_⟩
 ·rintro i x σ H4 hi ⟨x3,x4,x5,x6,s4,co,rfl,U4,d3,a7,b6,ks⟩
  have a8:i < cs.length:=by have:=(List.getElem?_eq_some_iff.mp hi).1; rwa [hZ] at this
  rw [iH,hX a8] at hi
  cases hi
  have nk:=Qe rise a8 ks
  have f0:=hk _ (jJ a8)
  have lc:co.length = i:=by
   have:=congrArg length ks
   rw [hZ,jE] at this
   omega
  have e6:cs.take (i + 1) = cs.take i ++ [cs[i]]:=by rw [iV,hX a8]; rfl
  generalize cs[i] = c at *
  refine ⟨_,Z,sl,Z,⟨_,SqL.of (U4.k _ _ a4 a2)⟩,Ci (K:=K) (xs:=[V.ref d0,V.ref d1]) (λ j ys H'=>H' = H4∧∃ ns:List Int,ys = ns.map V.int∧RL s ns) ⟨Z,[],Z,.nil⟩ zN2 (λ i ys H' hh=>by rw [hh.1]; exact SqL.of (U4.k _ _ a4 a2)) ?_ ?_⟩
  ·rintro j x ys H' N hj ⟨rfl,ns,rfl,rl⟩ hN a1
   obtain ⟨e,a5,ce,rfl,he,ke⟩:=c6 j x hj
   have dg:=T9 (U4.k _ _ (W.offF he) he) c
   refine ⟨_,Z,_,Z,e,_,Z,dg,_,Z,?_⟩
   cases hl:ce.lookup c with
   | none=>exact AeJ rfl (hN _ _ (by omega) ⟨rfl,ns,rfl,rl⟩)
   | some v =>
    rw [hl] at dg
    exact AeO rfl ⟨_,Z,_,Z,e,.int v,Z,dg,hN _ _ (by rw [iB,iD]; omega) ⟨Z,ns ++ [v],by rw [iM]; rfl,rl.snoc (Qq ke.1 hl)⟩⟩
  rintro ys H' a1 ⟨rfl,ns,rfl,rl⟩ D1 c9
  rw [hZ] at a1
  have a1:ns.length≤2:=a1
  have g5:=Ac c9 (.lst (ns.map V.int))
  have U5:=U4.new c9 (.lst (ns.map V.int))
  obtain ⟨_,e4,_⟩:=id U5.w
  refine ⟨_,Z,o,L.dx,_,Z,e4,Z,_,Z,o,D1,ns,L,n,m,_,Z,U5.hv hv (by omega),upd_same,rl.up U5.lo,by omega,λ H6 s6 y6 V6 f2=>⟨zN1,λ l7 h7=>?_⟩⟩
  have U6:=U5.trans V6
  have d6:=V6.k _ _ dS (g5 _ _ a7)
  have d9:=V6.k _ _ b9 (g5 _ _ d3)
  have b5:=U6.w.offN4 h7
  have f4:=U6.k.nil h7 b5.2.2.2
  have g7:=Ac h7 (.lst [V.int y6])
  have d7:d≠l7:=ne_of_none d6 h7
  have e8:l2≠l7:=ne_of_none d9 h7
  have U7:=U6.new h7 (.lst [V.int y6])
  refine ⟨_,Z,sl,Z,⟨_,SqL.of (U7.k _ _ a4 a2)⟩,Fn (K:=K) (a:=sl) (xs:=[V.ref d0,V.ref d1]) (λ j σ H'=>∃ x6 s' ns,σ = [some (.ref o),some (.ref sl),some (.ref d),some (.int c),some (.ref D1),some (.ref l7),x6]∧Nw C o L n m L.S H s H' s' (4 * i + 1 + j)∧H' l2 = some (.lst (cs.map V.int))∧H' d = some (.dK (co.map kvI))∧H' l7 = some (.lst (ns.map V.int))∧RL s' ns∧ns.length = j + 1∧CR s' co) ⟨_,s6,[y6],Z,U7,g7 _ _ d9,g7 _ _ d6,upd_same,.one f2,Z,b6.up V6.lo⟩ (λ i σ H' _ ⟨_,_,_,_,U,_⟩=>SqL.of (U.k _ _ a4 a2)) ?_ ?_⟩
  ·rintro j v σ H8 hj ⟨e9,s8,ns,rfl,U8,b1,b2,a6,b7,a3,c5⟩
   have f6:j < 2:=(List.getElem?_eq_some_iff.mp hj).1
   obtain ⟨e,a5,ce,rfl,he,ke⟩:=c6 j v hj
   have b8:=U8.k _ _ (W.offF he) he
   have f5:=ke.len
   obtain ⟨_,b3,_⟩:=id U8.w
   refine ⟨_,Z,.inl ⟨Z,_,SqL.of a6⟩,_,Z,o,L.dx,_,Z,b3,Z,_,Z,e,a5,_,Z,b8,Xa (λ j ys H'=>H' = H8∧∃ ns:List Int,ys = ns.map V.int∧RL s ns) ⟨Z,[],Z,.nil⟩ (by rw [hZ]; exact iW f5 (by decide)) (λ i ys H' hh=>by rw [hh.1]; exact b8) ?_ ?_⟩
   ·rintro t p ys H' N ht ⟨rfl,ms,rfl,rl⟩ hN a1
    have c8:t < ce.length:=by have:=(List.getElem?_eq_some_iff.mp ht).1; rwa [hZ] at this
    rw [iH,hX c8] at ht
    cases ht
    obtain ⟨v,hv⟩:=Nh (l:=ce) (k:=(ce[t]).1) (List.mem_map_of_mem (jJ c8))
    have dg:=T9 b8 (ce[t]).1
    rw [hv] at dg
    exact ⟨_,Z,_,Z,_,_,Z,Z,_,Z,Ay (λ _=>⟨_,Z,_,Z,e,.int v,Z,dg,hN _ _ (by rw [iB,iD]; omega) ⟨Z,ms ++ [v],by rw [iM]; rfl,rl.snoc (Qq ke.1 hv)⟩⟩) λ _=>hN _ _ (by omega) ⟨Z,ms,Z,rl⟩⟩
   rintro ys H' a1 ⟨rfl,ms,rfl,rl⟩ D2 d5
   rw [hZ,hZ] at a1
   have g9:=Ac d5 (.lst (ms.map V.int))
   have U9:=U8.new d5 (.lst (ms.map V.int))
   refine ⟨o,D2,ms,L,n,m,_,Z,U9.hv hv (by omega),upd_same,rl.up U9.lo,by omega,λ HA sA yA VA jA=>?_⟩
   have UA:=U9.trans VA
   have c7:=VA.k _ _ b5.2.2.2 (g9 _ _ a6)
   exact ⟨l7,_,_,Z,Z,c7,by rw [hZ,a3]; exact iZ (by omega:_≤64) (by decide),_,sA,ns ++ [yA],Z,UA.own f4 c7 b5 _,by rw [upd_ne e8]; exact VA.k _ _ b9 (g9 _ _ b1),by rw [upd_ne d7]; exact VA.k _ _ dS (g9 _ _ b2),by rw [upd_same,iM]; rfl,(b7.up VA.lo).snoc jA,by rw [iB,a3]; rfl,c5.up VA.lo⟩
  ·rintro σ H8 ⟨e9,s8,ns,rfl,U8,b1,b2,a6,b7,a3,c5⟩
   have U8:Nw C o L n m L.S H s H8 s8 (4 * i + 3):=U8
   have a3:ns.length = 3:=a3
   obtain ⟨_,b3,_⟩:=id U8.w
   refine ⟨_,Z,o,L.dx,_,Z,b3,Z,_,Z,o,l7,ns,L,n,m,_,Z,U8.hv hv (by omega),a6,b7,by omega,λ H9 s9 y9 V9 j9=>?_⟩
   have U9:=U8.trans V9
   have e0:=V9.k _ _ dS b2
   refine ⟨_,Z,_,Z,d,_,Z,.inl ⟨_,Sum.inl c,e0,Z,?_,Z⟩,?_⟩
   ·rw [hZ]
    exact iZ (by omega:_≤64) (by decide)
   refine ⟨_,_,_,_,s9,co ++ [(c,y9)],Z,U9.ownD hd e0 dS _,by rw [upd_ne e5]; exact V9.k _ _ b9 b1,by rw [upd_same,← putI_map,putI_new nk],(c5.up V9.lo).app λ p hp=>?_,by rw [iM,ks,e6]; rfl⟩
   rw [mS hp]
   exact ⟨f0,j9⟩
 ·rintro σ H4 ⟨x3,x4,x5,x6,s4,co,rfl,U4,d3,a7,b6,ks⟩
  rw [hZ,iP (iX _)] at ks
  rw [hZ] at U4
  exact ⟨_,Z,d,_,Z,a7,λ ob=>q d ob _ s4 co ((U4.le (by omega)).ownD hd a7 dS _) upd_same ⟨b6,by rw [ks]; exact rise⟩⟩
def Aes (H:Hp) (c:Cd) (v:V):Prop:=∃ d ob,v = .ref d∧H d = some (.frz ob (.dK (c.map kvI)))
theorem Nw.drop {C o l:Addr} {L:Lc} {n m d:Nat} {S:List Addr} {H H':Hp} {s s':Ws} (U:Nw C o L n m (l :: S) H s H' s' d) (h:H l = none):Nw C o L n m S H s H' s' d:={ U with k:=U.k.drop h }
inductive R7 (C CP:Addr) (vs:List V) (H:Hp) (Q:VK):Prop
 | mk (o a dx f g:Addr) (x y z rr:Int) (cv:V) (r1 r2:Wr) (L:Lc) (n m:Nat) (s:Ws) (_:vs = [.ref o,.ref a,.ref f,.ref g]) (_:Hv C o L n m H s 44) (_:H a = some (.ins CP dx (wdV x y z (.int rr) cv))) (_:Cj CP H f r1) (_:Cj CP H g r2) (_:R3 s x y z) (_:Rng s rr) (_:WI s r1) (_:WI s r2) (_:Fil C CP o a L n m Q H s x y z 44 []):R7 C CP vs H Q
def X3 (C CP:Addr):Sp:=λ vs H Q _=>R7 C CP vs H Q
theorem Abd (F:A2 K mg "wire_beside" ["wiring", "whole", "first", "second"] Fl) (T:B2 K mg C CP) (aD:A4 P w K mg base 1 C "fill" ["self", "number", "word", "numbers"] (F0 C)) (aE:A4 P w K mg base 2 C "opposite" ["self", "number"] (Kg C)) (aA:A4 P w K mg base 2 C "every_of" ["self", "numbers"] (Eo C)) (aL:A4 P w K mg base 3 C "joined" ["self", "pairs"] (G6 C)) (bM:Aj P w K mg base 3 "greater_codes" ["wiring", "sides"] (AdN C)):Aj P w K mg base 4 "wire_beside" ["wiring", "whole", "first", "second"] (X3 C CP):=by
 refine F.ok Db (λ vs H Q E h=>?_) (λ fn cdv A outer s0 H vs Q E hr h=>?_)
 ·obtain ⟨o,a,dx,f,g,x,y,z,rr,cv,r1,r2,L,n,m,s,rfl,_⟩:=h; rfl
 obtain ⟨o,a,dx,f,g,x,y,z,rr,cv,r1,r2,L,n,m,s,rfl,hv,ha,D1,D2,r3,f7,b1,b2,q⟩:=h
 obtain ⟨uE,hE,rE⟩:=T.gE
 have W:=hv.w
 have aS:=(W.objOff ha).2
 refine ⟨_,(Ad (Aw (i:=4) Db.nd rfl (Or.inl rfl) (Ax Ab))
  (Ad (De PassesOwn.never rfl (Hq (A3 (Aa (A3 (Aa (pv 2) (Aa (pv 3) Ab))) (Aa (A3 (Aa (pv 3) (Aa (pv 2) Ab))) Ab)))) (C1 rfl (Bc (Aq (i:=5) Db.nd rfl (Or.inl rfl)) (Bc (Aq (i:=6) Db.nd rfl (Or.inl rfl)) Ch)))
   (Ad (Aw (i:=7) Db.nd rfl (Or.inl rfl) (An aA hr Ai (pv 0) (Aa (Ax (Aa (Al (pv 6) rfl) (Aa (An aE hr Ai (pv 0) (Aa (Al (pv 5) rfl) Ab)) Ab))) Ab)))
  (Ad (A0 (An aD hr Ai (pv 0) (Aa (Al (pv 5) rfl) (Aa Ao (Aa (Ax (Aa (Al (pv 1) rfl) (Aa (An aE hr Ai (pv 0) (Aa (pv 7) Ab)) Ab))) Ab)))))
  (Ad (Aw (i:=8) Db.nd rfl (Or.inl rfl) (A3 (Aa (Bx rfl hE rE) (Aa (An aA hr Ai (pv 0) (Aa (Ax (Aa (Al (pv 1) rfl) (Aa (pv 7) Ab))) Ab)) Ab))))
  (Ae (A0 (Dt PySem.F.plainAttrs_list PySem.F.slot_list_append PySem.F.type_list_append B6 (pv 4) (Aa (An aL hr Ai (pv 0) (Aa (A8 Fw (G2 rfl rfl T.n_list (Al (pv 5) rfl)) (Ax (Aa (pv 8) Ab))) Ab)) Ab))))))))
  (Ae (Br (pv 1) (Av bM hr rfl Ai (Aa (pv 0) (Aa (pv 4) Ab))) rfl)))),?_⟩
 obtain ⟨fx,d1,o1,hf,d9⟩:=id D1
 obtain ⟨gx,d2,o2,hg,d5⟩:=id D2
 refine ⟨zN0,λ ls a6=>?_⟩
 have gl:=Ac a6 (.lst [])
 have b6:=W.offN4 a6
 have b3:=b6.2.2.2
 refine ⟨_,Z,_,Z,zN2,λ t1 f6=>⟨_,Z,_,Z,zN2,λ t2 f3=>⟨zN2,λ t3 f9=>?_⟩⟩⟩
 have b9:=Ac f6 (.tup [V.ref f,.ref g])
 have b4:=Ac f3 (.tup [V.ref g,.ref f])
 have a3:=Ac f9 (.tup [V.ref t1,V.ref t2])
 have U4:=(hv.nw (S:=ls :: L.S)).same (((gl.trans b9).trans b4).trans a3)
 have e6:=(b4.trans a3) _ _ (upd_same (H:=upd H ls (.lst [])) (a:=t1) (o:=.tup [V.ref f,.ref g]))
 have f2:=a3 _ _ (upd_same (H:=upd (upd H ls (.lst [])) t1 (.tup [V.ref f,.ref g])) (a:=t2) (o:=.tup [V.ref g,.ref f]))
 have c5:=upd_same (H:=upd (upd (upd H ls (.lst [])) t1 (.tup [V.ref f,.ref g])) t2 (.tup [V.ref g,.ref f])) (a:=t3) (o:=.tup [V.ref t1,V.ref t2])
 have c9:=((b9.trans b4).trans a3) _ _ (upd_same (H:=H) (a:=ls) (o:=.lst []))
 generalize upd (upd (upd (upd H ls (.lst [])) t1 (.tup [V.ref f,.ref g])) t2 (.tup [V.ref g,.ref f])) t3 (.tup [V.ref t1,V.ref t2]) = H4 at *
 have d3:∀ {H':Hp},KpS (ls :: L.S) H4 H'→Tp H4 H':=λ k b xs e=>k b _ (λ z=>by
  rcases jK.mp z with z | z
  ·rw [z,c9] at e; cases e
  ·exact U4.w.off e (λ _ z=>nomatch z) (λ _ z=>nomatch z) z) e
 refine ⟨t3,Z,⟨_,SqT.of c5⟩,Lf (K:=K) (a:=t3) (xs:=[V.ref t1,V.ref t2]) (λ i σ H'=>∃ x5 x6 x7 x8 s' svs a2,σ = [some (.ref o),some (.ref a),some (.ref f),some (.ref g),some (.ref ls),x5,x6,x7,x8]∧Nw C o L n m (ls :: L.S) H4 s H' s' (10 * i)∧H' ls = some (.lst svs)∧PySem.Paired (Aes H') a2 svs∧(∀ c∈a2,CO s' c)∧a2.length = i) ⟨none,none,none,none,s,[],[],Z,(U4.hv (e:=0) hv (by decide)).nw,c9,.nil,(λ _ h=>nomatch h),Z⟩ ?_ ?_ ?_⟩
 ·rintro i σ H' _ ⟨_,_,_,_,_,_,_,_,U,_⟩
  exact SqT.of (d3 U.k _ _ c5)
 ·rintro i v σ H5 hi ⟨x5,x6,x7,x8,s5,svs,a2,rfl,V5,a4,a7,a5,lc⟩
  have e5:i < 2:=(List.getElem?_eq_some_iff.mp hi).1
  obtain ⟨b,bx,db,e,ex,de,ob,rb,re,t,rfl,e2,a9,b7,c8,wb,we⟩:∃ (b bx db e ex de:Addr) (ob:Obj) (rb re:Wr) (t:Addr),v = .ref t∧H4 t = some (.tup [V.ref b,.ref e])∧H b = some (.ins CP bx (wdV rb.runs rb.kept rb.stays (.int rb.rests) (.ref db)))∧H db = some (.frz ob (.dK (rb.codes.map kvI)))∧H e = some (.ins CP ex (wdV re.runs re.kept re.stays (.int re.rests) (.ref de)))∧WI s rb∧WI s re:=by
   match i,hi with
   | 0,hi=>cases hi; exact ⟨f,fx,d1,g,gx,d2,o1,r1,r2,t1,rfl,e6,hf,d9,hg,b1,b2⟩
   | 1,hi=>cases hi; exact ⟨g,gx,d2,f,fx,d1,o2,r2,r1,t2,rfl,f2,hg,d5,hf,b2,b1⟩
   | (j + 2),hi=>cases hi
  have U5:=(U4.trans V5).drop a6
  have lb:=wb.2.2.len
  have bS:=(W.objOff a9).2
  have e7:=W.offF b7
  obtain ⟨_,b5,_⟩:=id U5.w
  refine ⟨t,_,Z,SqT.of (d3 V5.k _ _ e2),Z,_,_,Z,_,_,Z,Z,_,Z,o,L.dx,_,Z,b5,Z,_,Z,e,CP,ex,_,.int re.rests,Z,U5.k _ _ (W.objOff c8).2 c8,T.clP,T.nE,Z,_,Z,o,L.dx,_,Z,b5,Z,_,Z,b,CP,bx,_,.int rb.rests,Z,U5.k _ _ bS a9,T.clP,T.nE,Z,?_⟩
  have a1:Hv C o L n m H5 s5 10:=U5.hv hv (by omega)
  refine ⟨o,_,L,n,m,_,Z,a1.nw (S:=L.S) |>.hv a1 (by decide),wb.2.1.up U5.lo,λ H6 s6 i6 V6 j6=>⟨zN2,λ l6 h6=>?_⟩⟩
  have V6:=V6.new h6 (.lst [V.int re.rests,.int i6])
  refine ⟨o,l6,[re.rests,i6],L,n,m,_,Z,V6.hv a1 (by decide),upd_same,.two (we.2.1.up (iW U5.lo V6.lo)) j6,(by show 2≤1000; decide),λ H7 s7 i7 V7 j7=>?_⟩
  have V7:=V6.trans V7
  have U7:=U5.trans V7
  obtain ⟨_,d4,_⟩:=id V7.w
  refine ⟨_,Z,o,L.dx,_,Z,d4,Z,_,Z,b,CP,bx,_,.int rb.runs,Z,U7.k _ _ bS a9,T.clP,T.nR,Z,_,Z,a,CP,dx,_,.int x,Z,U7.k _ _ aS ha,T.clP,T.nR,Z,_,Z,o,L.dx,_,Z,d4,Z,_,Z,o,_,L,n,m,_,Z,V7.hv a1 (by decide),j7,λ H8 s8 i8 V8 j8=>⟨zN2,λ l8 h8=>?_⟩⟩
  have V9:=(V7.trans V8).new h8 (.lst [V.int x,.int i8])
  refine ⟨o,l8,rb.runs, "all", [x,i8],L,n,m,_,Z,V9.hv a1 (by decide),upd_same,wb.1.1.up (iW U5.lo V9.lo),.inl rfl,.two (r3.1.up (iW U5.lo V9.lo)) j8,(by show 2≤1000; decide),λ H9 s9 VX=>?_⟩
  have V9:=V9.trans VX
  have U9:=U5.trans V9
  obtain ⟨_,d6,_⟩:=id V9.w
  refine ⟨_,Z,o,L.dx,_,Z,d6,Z,_,Z,a,CP,dx,_,.int x,Z,U9.k _ _ aS ha,T.clP,T.nR,Z,_,Z,zN2,λ la e8=>?_⟩
  have VA:=V9.new e8 (.lst [V.int x,.int i7])
  refine ⟨o,la,[x,i7],L,n,m,_,Z,VA.hv a1 (by decide),upd_same,.two (r3.1.up U9.lo) (j7.up (iW V8.lo VX.lo)),(by show 2≤1000; decide),λ HA sA iA VY jA=>⟨zN2,λ tA f5=>?_⟩⟩
  have VA:=(VA.trans VY).new f5 (.tup [V.int 0,.int iA])
  have f8:=upd_same (H:=HA) (a:=tA) (o:=.tup [V.int 0,.int iA])
  generalize upd HA tA (.tup [V.int 0,.int iA]) = HB at *
  have UA:=U5.trans VA
  obtain ⟨_,d8,_⟩:=id VA.w
  refine ⟨_,Z,.inl ⟨Z,_,SqL.of (VA.k _ _ b3 a4)⟩,_,Z,o,L.dx,_,Z,d8,Z,_,Z,b,CP,bx,_,.ref db,Z,UA.k _ _ bS a9,T.clP,T.nC,Z,db,_,Z,.inr ⟨ob,UA.k _ _ e7 b7⟩,λ lC ts HC qC=>⟨_,Z,zN1,λ lD hD=>?_⟩⟩
  have pC:=K3 qC
  obtain ⟨gC,g0,f4,d7,_⟩:=qC
  have gC:Same _ HC:=gC
  have gD:=Ac hD (.lst [V.ref tA])
  rw [hZ] at d7
  refine ⟨lC,lD,_,_,Z,Z,gD _ _ f4,upd_same,by rw [hZ,iD]; exact iW (by omega:_≤64) (by decide),λ lE c6=>?_⟩
  have gE:=Ac c6 (.lst (ts.map V.ref ++ [V.ref tA]))
  have c7:=(gC.trans gD).trans gE
  have VE:=VA.same c7
  refine ⟨o,lE,rb.codes ++ [(0,iA)],_,L,n,m,_,Z,VE.hv a1 (by decide),upd_same,(VA.same (gC.trans gD)).w.offN c6,Cq (Paired.mapP pC λ _ _ a=>a.mono (gD.trans gE).tp) (.cons ⟨tA,Z,c7 _ _ f8⟩ .nil),by rw [iB,iD]; omega,(wb.2.2.1.up UA.lo).app λ p hp=>(by rw [mS hp]; exact ⟨(by show (0:Int)≤0∧(0:Int)≤5; decide),jA⟩),λ dF oF HF sF cs VF nF eF cF=>?_⟩
  have VF:=VE.trans VF
  have a8:=VF.k _ _ b3 a4
  have UF:=V5.then VF
  refine ⟨ls,_,_,Z,Z,a8,by rw [← PySem.Paired.length a7,lc]; exact iY e5 (by decide),?_⟩
  refine ⟨_,_,_,_,sF,svs ++ [V.ref dF],a2 ++ [cs],Z,({ UF with k:=UF.k.trans (KpS.upd iE),w:=UF.w.keep [ls] (KpS.upd iE) (Tp.lst a8) λ b e9=>(by rw [mS e9]; exact b6) }:Nw C o L n m (ls :: L.S) H4 s _ sF (10 * i + 10)).le (by omega),upd_same,?_,λ c hc=>?_,by rw [iB,lc]; rfl⟩
  ·refine Cq (Paired.mapP a7 ?_) (.cons ⟨dF,oF,Z,?_⟩ .nil)
   ·rintro c v ⟨d,od,rfl,h⟩
    refine ⟨d,od,Z,?_⟩
    have:=VF.k _ _ (V5.w.offF h) h
    rw [upd_ne (Bd this a8 (by intro z; cases z))]
    exact this
   ·rw [upd_ne (Bd eF a8 (by intro z; cases z))]
    exact eF
  ·rcases iU.mp hc with z | z
   ·exact (a5 c z).up VF.lo
   ·rw [mS z]; exact cF
 ·rintro σ H5 ⟨x5,x6,x7,x8,s5,svs,a2,rfl,V5,a4,a7,a5,lc⟩
  have U5:Nw C o L n m L.S H s H5 s5 (0 + 20):=(U4.trans V5).drop a6
  cases a7 with
  | nil=>cases lc
  | cons p0 r0 =>
  cases r0 with
  | nil=>cases lc
  | cons p1 e4 =>
  cases e4 with
  | cons _ _=>cases lc
  | nil =>
  obtain ⟨e0,f0,rfl,q0⟩:=p0
  obtain ⟨e1,f1,rfl,q1⟩:=p1
  refine ⟨_,Z,_,Z,o,ls,e0,e1,f0,f1,_,_,L,n,m,s5,Z,U5.hv hv (by decide),a4,b3,q0,q1,a5 _ iE,a5 _ (iF _ iE),λ d ob HA sA cs VA eA cA=>?_⟩
  have UA:=U5.trans VA
  have b8:=UA.k _ _ aS ha
  exact ⟨_,Z,a,CP,dx,_,Z,b8,T.clP,T.nC,(by show 5 < 1000; decide),q.cod (UA.more λ b h=>iF _ h) (by decide) b8 eA (f7.up UA.lo) cA⟩
theorem Jq {A:Prop} {R:Hp→Prop} (a1:Hp→Prop) (h:(∀ H,a1 H→R H)→A) (k:∀ H,a1 H→R H):A:=h k
theorem Wy {CP a b dx bx:Addr} {H:Hp} {x y z x' y' z' r:Int} {cv a1:V} (ha:H a = some (.ins CP dx (wdV x y z .non cv))) (hb:H b = some (.ins CP bx (wdV x' y' z' (.int r) a1))):b≠a:=Bd hb ha (by intro z; have:=(HO.ins.inj z).2.2; unfold wdV at this; simp at this)
inductive Pe (K:PySem.W.Frag) (C CP:Addr) (vs:List V) (H:Hp) (Q:VK):Prop
 | mk (o a dx f g:Addr) (v:V) (p:Pt) (x y z:Int) (cv:V) (r1 r2:Wr) (L:Lc) (n m:Nat) (s:Ws) (_:vs = [.ref o,v,.ref a,.ref f,.ref g]) (_:Hv C o L n m H s 46) (_:PAt K H p.nd v) (_:Aaq p = true) (_:okN n p) (_:H a = some (.ins CP dx (wdV x y z .non cv))) (_:Cj CP H f r1) (_:Cj CP H g r2) (_:R3 s x y z) (_:WI s r1) (_:WI s r2) (_:Fil C CP o a L n m Q H s x y z 46 []):Pe K C CP vs H Q
def Og (K:PySem.W.Frag) (C CP:Addr):Sp:=λ vs H Q _=>Pe K C CP vs H Q
theorem Aai (F:A2 K mg "wire_pair" ["wiring", "part", "whole", "first", "second"] Gp) (T:B2 K mg C CP) (aD:A4 P w K mg base 1 C "fill" ["self", "number", "word", "numbers"] (F0 C)) (aB:A4 P w K mg base 2 C "some_of" ["self", "numbers"] (Fe C)) (aK:Aj P w K mg base 3 "code_gate" ["wiring", "whole", "code"] (Qb C CP)) (dQ:Aj P w K mg base 4 "wire_then" ["wiring", "whole", "first", "second"] (Te C CP)) (fO:Aj P w K mg base 4 "wire_if" ["wiring", "sign", "whole", "first", "second"] (Aa9 C CP)) (cM:Aj P w K mg base 4 "wire_beside" ["wiring", "whole", "first", "second"] (X3 C CP)):Aj P w K mg base 5 "wire_pair" ["wiring", "part", "whole", "first", "second"] (Og K C CP):=by
 refine F.ok Hr (λ vs H Q E h=>?_) (λ fn cdv A outer s0 H vs Q E hr h=>?_)
 ·obtain ⟨o,a,dx,f,g,v,p,x,y,z,cv,r1,r2,L,n,m,s,rfl,_⟩:=h; rfl
 obtain ⟨o,a,dx,f,g,v,p,x,y,z,cv,r1,r2,L,n,m,s,rfl,hv,hp,pr,ok,ha,D1,D2,r3,b1,b2,q⟩:=h
 obtain ⟨uE,hE,rE⟩:=T.gE
 obtain ⟨uR,hR,rR⟩:=T.gR
 have W:=hv.w
 have aS:=(W.objOff ha).2
 refine ⟨_,(Ad (Br (pv 2) (An aB hr Ai (pv 0) (Aa (Ax (Aa (Al (pv 3) rfl) (Aa (Al (pv 4) rfl) Ab))) Ab)) rfl)
  (Ad (Aw (i:=5) Hr.nd rfl (Or.inl rfl) (Ax (Aa (Al (pv 2) rfl) Ab)))
  (Ad (Bg (Am A9 (Ak Ar (pv 1) Af (λ _ _=>rfl)) Ao (Ap _))
   (Ae (A0 (Av dQ hr rfl Ai (Aa (pv 0) (Aa (pv 2) (Aa (pv 3) (Aa (pv 4) Ab)))))))
   (Ae (Bg (Am A9 (Ak Ar (pv 1) Af (λ _ _=>rfl)) Ao (Ap _))
   (Ae (A0 (Av fO hr rfl Ai (Aa (pv 0) (Aa (Ak Be (Al (pv 0) rfl) (Ak Ar (pv 1) Af (λ _ _=>rfl)) (λ _ _=>rfl)) (Aa (pv 2) (Aa (pv 3) (Aa (pv 4) Ab))))))))
   (Ad (A0 (Av cM hr rfl Ai (Aa (pv 0) (Aa (pv 2) (Aa (pv 3) (Aa (pv 4) Ab))))))
  (Ae (A0 (Dt PySem.F.plainAttrs_list PySem.F.slot_list_append PySem.F.type_list_append B6 (pv 5) (Aa (Av aK hr rfl Ai (Aa (pv 0) (Aa (pv 2) (Aa (Bx rfl hR rR) Ab)))) Ab))))))))
  (Ae (De PassesOwn.never rfl (Hq (A3 (Aa (pv 3) (Aa (pv 4) Ab)))) (Aq (i:=6) Hr.nd rfl (Or.inl rfl))
   (Ad (A0 (An aD hr Ai (pv 0) (Aa (Al (pv 6) rfl) (Aa Ao (Aa (pv 5) Ab)))))
  (Ae (A0 (An aD hr Ai (pv 0) (Aa (Al (pv 6) rfl) (Aa Ao (Aa (Ax (Aa (Al (pv 2) rfl) Ab)) Ab)))))))))))),?_⟩
 obtain ⟨fx,d1,o1,hf,b9⟩:=id D1
 obtain ⟨gx,d2,o2,hg,a9⟩:=id D2
 have off:∀ {b:Addr},b≠a→b∉L.S→b∉a :: L.S:=λ h1 h2 z=>(jK.mp z).elim h1 h2
 have fA:=off (Wy ha hf) (W.objOff hf).2
 have gA:=off (Wy ha hg) (W.objOff hg).2
 have d8:=off (Bd b9 ha (by intro z; cases z)) (W.offF b9)
 have e0:=off (Bd a9 ha (by intro z; cases z)) (W.offF a9)
 obtain ⟨_,ho,_⟩:=id W
 refine ⟨_,Z,o,L.dx,_,Z,ho,Z,_,Z,f,CP,fx,_,.int r1.rests,Z,hf,T.clP,T.nE,Z,_,Z,g,CP,gx,_,.int r2.rests,Z,hg,T.clP,T.nE,Z,zN2,λ l1 h1=>?_⟩
 have U1:=(hv.nw (S:=a :: L.S)).new h1 (.lst [V.int r1.rests,.int r2.rests])
 refine ⟨o,l1,[r1.rests,r2.rests],L,n,m,s,Z,U1.hv hv (by decide),upd_same,.two b1.2.1 b2.2.1,(by show 2≤1000; decide),λ H1 s1 i1 V1 j1=>?_⟩
 have c5:=V1.k _ _ aS ((Ac h1 (.lst [V.int r1.rests,.int r2.rests])) _ _ ha)
 refine ⟨_,Z,a,CP,dx,_,Z,c5,T.clP,T.nE,(by show 5 < 1000; decide),?_⟩
 have U2:=(U1.then V1).setA c5 (.ins CP dx (wdV x y z (.int i1) cv))
 have a7:=upd_same (H:=H1) (a:=a) (o:=.ins CP dx (wdV x y z (.int i1) cv))
 have d4:=(W.tp ((Same.kpS (Ac h1 (.lst [V.int r1.rests,.int r2.rests]))).trans V1.k)).trans (Mz c5 (KpS.upd (u:=.ins CP dx (wdV x y z (.int i1) cv)) iE))
 generalize hH:upd H1 a (.ins CP dx (wdV x y z (.int i1) cv)) = H2 at U2 a7 d4
 have e7:upd H1 a (.ins CP dx (A5 "rests" (V.int i1) (wdV x y z .non cv))) = H2:=hH
 rw [e7]
 refine ⟨_,Z,a,CP,dx,_,.int y,Z,a7,T.clP,T.nK,Z,zN1,λ lk a5=>?_⟩
 have a1:=U2.w.offN4 a5
 have a4:lk≠a:=(ne_of_none a7 a5).symm
 have e9:=U2.k.nil a5 (off a4 a1.2.2.2)
 have g3:=Ac a5 (.lst [V.int y])
 have U3:=U2.new a5 (.lst [V.int y])
 have b7:=g3 _ _ a7
 have b6:=upd_same (H:=H2) (a:=lk) (o:=.lst [V.int y])
 have d3:=hp.mono (d4.trans g3.tp)
 generalize upd H2 lk (.lst [V.int y]) = H3 at *
 have a8:Cj CP H3 f r1:=⟨fx,d1,o1,U3.k _ _ fA hf,U3.k _ _ d8 b9⟩
 have c7:Cj CP H3 g r2:=⟨gx,d2,o2,U3.k _ _ gA hg,U3.k _ _ e0 a9⟩
 have d5:Hv C o L n m H3 s1 45:=U3.hv hv (by decide)
 have c6:=b1.up U3.lo
 have b8:=b2.up U3.lo
 have a3:=r3.up U3.lo
 obtain ⟨t,vs,rfl,hs⟩:=P8 d3
 refine' Jq (λ H4=>∃ s4 kp r cs,Nw C o L n m (a :: L.S) H s H4 s4 46∧H4 lk = some (.lst (kp.map V.int))∧RL s4 kp∧kp.length≤1000∧Cj CP H4 a ⟨x,y,z,r,cs⟩∧Rng s4 r∧CO s4 cs) (λ b3=>?_) ?_
 rotate_left
 ·refine ⟨_,Z,t,_,_,_,Z,Z,hs.sq,Ah (j:=0) rfl,Z,_,Z,Ee (λ e=>?_) λ n1=>⟨_,Z,t,_,_,_,Z,Z,hs.sq,Ah (j:=0) rfl,Z,_,Z,Ee (λ e=>?_) λ n2=>?_⟩⟩
  ·exact ⟨_,Z,_,Z,_,Z,_,Z,o,a,dx,f,g,x,y,z,i1,cv,r1,r2,L,n,m,_,Z,U3.hv hv (by decide),b7,a8,c7,a3,j1,c6,b8,λ H4 s4 r cs U D hr hc _=>b3 H4 ⟨s4,[y],r,cs,(U3.trans U).le (by decide),U.k _ _ (off a4 a1.2.2.2) b6,.one (a3.2.1.up U.lo),(by show 1≤1000; decide),D,hr,hc⟩⟩
  ·obtain ⟨i,p1,p2,rfl⟩:=AdI e
   have hp:=d3
   obtain ⟨a',f5,ev,hs,hx⟩:=PAt.get hp
   cases ev
   obtain ⟨x0,x1,x2,x3,rfl,h0,h1,h2,h3⟩:=hx.four
   cases h0.str
   cases h1.int
   obtain ⟨⟨i0,f4⟩,_⟩:=ok
   obtain ⟨j,rfl⟩:∃ j:Nat,i = (j:Int):=⟨i.toNat,(Int.toNat_of_nonneg i0).symm⟩
   obtain ⟨_,e6,_,_,e8,_⟩:=id U3.w
   have hj:j < n:=by omega
   refine ⟨_,Z,_,Z,o,C,L.dx,_,.ref L.sl,Z,e6,T.cl,T.nS,Z,_,Z,t,_,_,_,Z,Z,hs.sq,Ah (j:=1) rfl,L.sl,_,_,.int (j:Int),Z,Z,SqL.of e8,Ah (by rw [iH,getElem?_range hj]; rfl),_,Z,_,Z,_,Z,o,a,dx,f,g,x,y,z,i1,_,cv,r1,r2,L,n,m,_,Z,U3.hv hv (by decide),b7,a8,c7,a3,j1,⟨Int.natCast_nonneg _,by have:=d5.nl; unfold Ws.nx; omega⟩,c6,b8,λ H4 s4 r cs U D hr hc _=>b3 H4 ⟨s4,[y],r,cs,(U3.trans U).le (by decide),U.k _ _ (off a4 a1.2.2.2) b6,.one (a3.2.1.up U.lo),(by show 1≤1000; decide),D,hr,hc⟩⟩
  ·refine ⟨_,Z,_,Z,_,Z,_,Z,o,a,dx,f,g,x,y,z,i1,cv,r1,r2,L,n,m,_,Z,U3.hv hv (by decide),b7,a8,c7,a3,j1,c6,b8,λ H4 s4 r cs V4 D hr hc _=>?_⟩
   have a6:=V4.k _ _ (off a4 a1.2.2.2) b6
   have U4:=U3.trans V4
   refine ⟨_,Z,.inl ⟨Z,_,SqL.of a6⟩,_,Z,_,Z,o,a,1,_,L,n,m,s4,Z,U4.hv hv (by decide),D,hc.1,λ H5 s5 i5 V5 j5=>?_⟩
   have b5:=V5.k _ _ a1.2.2.2 a6
   have U5:=U4.then V5
   refine ⟨lk,_,_,Z,Z,b5,(by show 1 < sizeLine; decide),b3 _ ⟨s5,[y,i5],r,cs,U5.own e9 b5 a1 _,upd_same,.two (r3.2.1.up U5.lo) j5,(by show 2≤1000; decide),?_,hr.up V5.lo,hc.up V5.lo⟩⟩
   obtain ⟨e1,e2,e3,e4,e5⟩:=D.kp V4.w V5.k
   exact ⟨e1,e2,e3,by rw [upd_ne (Ne.symm a4)]; exact e4,by rw [upd_ne (Bd e5 b5 (by intro z; cases z))]; exact e5⟩
 ·rintro H4 ⟨s4,kp,r,cs,U4,a6,f3,f1,D4,f0,d9⟩
  refine ⟨_,Z,_,Z,zN2,λ tZ c9=>?_⟩
  have gZ:=Ac c9 (.tup [V.ref f,.ref g])
  have UZ:=U4.new c9 (.tup [V.ref f,.ref g])
  have eZ:=upd_same (H:=H4) (a:=tZ) (o:=.tup [V.ref f,.ref g])
  have DZ:=D4.same gZ
  have f2:=gZ _ _ a6
  generalize upd H4 tZ (.tup [V.ref f,.ref g]) = HZ at *
  have a2:Hv C o L n m HZ s4 0:=UZ.hv hv (by decide)
  obtain ⟨ax,ad,ao,c8,_⟩:=id DZ
  refine ⟨tZ,Z,⟨_,SqT.of eZ⟩,Lf (K:=K) (a:=tZ) (xs:=[V.ref f,V.ref g]) (λ i σ H'=>∃ x6 s',σ = [some (.ref o),some (.ref t),some (.ref a),some (.ref f),some (.ref g),some (.ref lk),x6]∧Nw C o L n m L.S HZ s4 H' s' 0) ⟨none,s4,Z,a2.nw⟩ ?_ ?_ ?_⟩
  ·rintro i σ H' _ ⟨_,_,_,U⟩
   exact SqT.of (a2.w.tp U.k _ _ eZ)
  ·rintro i v σ HX hi ⟨x6,sX,rfl,UX⟩
   obtain ⟨b,bx,db,rb,rfl,b4,wb⟩:∃ (b bx db:Addr) (rb:Wr),v = .ref b∧HZ b = some (.ins CP bx (wdV rb.runs rb.kept rb.stays (.int rb.rests) (.ref db)))∧WI s rb:=by
    match i,hi with
    | 0,hi=>cases hi; exact ⟨f,fx,d1,r1,rfl,UZ.k _ _ fA hf,b1⟩
    | 1,hi=>cases hi; exact ⟨g,gx,d2,r2,rfl,UZ.k _ _ gA hg,b2⟩
    | (j + 2),hi=>cases hi
   have wb:=wb.up (iW UZ.lo UX.lo)
   have bS:=(a2.w.objOff b4).2
   obtain ⟨_,d7,_⟩:=id UX.w
   refine ⟨_,Z,o,L.dx,_,Z,d7,Z,_,Z,b,CP,bx,_,.int rb.kept,Z,UX.k _ _ bS b4,T.clP,T.nK,Z,_,Z,o,lk,rb.kept, "all", kp,L,n,m,_,Z,UX.hv a2 (by decide),UX.k _ _ a1.2.2.2 f2,wb.1.2.1,.inl rfl,f3.up UX.lo,f1,λ HV sV VV=>?_⟩
   have UV:=UX.trans VV
   obtain ⟨_,d6,_⟩:=id UV.w
   refine ⟨_,Z,o,L.dx,_,Z,d6,Z,_,Z,b,CP,bx,_,.int rb.stays,Z,UV.k _ _ bS b4,T.clP,T.nT,Z,_,Z,a,CP,ax,_,.int z,Z,UV.k _ _ (a2.w.objOff c8).2 c8,T.clP,T.nT,Z,zN1,λ lU hU=>?_⟩
   have UW:=UV.new hU (.lst [V.int z])
   exact ⟨o,lU,rb.stays, "some", [z],L,n,m,_,Z,UW.hv a2 (by decide),upd_same,wb.1.2.2.up VV.lo,.inr rfl,.one (r3.2.2.up (iW UZ.lo UV.lo)),(by show 1≤1000; decide),λ HT sT VT=>⟨_,sT,Z,UW.trans VT⟩⟩
  ·rintro σ HX ⟨x6,sX,rfl,UX⟩
   exact q HX sX r cs (UZ.then UX) (DZ.kp a2.w UX.k) (f0.up UX.lo) (d9.up UX.lo) λ _ h=>nomatch h
theorem AcU {α:Type} {A:Prop} {R:α→Hp→Prop} (a1:α→Hp→Prop) (h:(∀ b H,a1 b H→R b H)→A) (k:∀ b H,a1 b H→R b H):A:=h k
inductive M9 (C CP:Addr) (vs:List V) (H:Hp) (Q:VK):Prop
 | mk (o a dx f:Addr) (k x y z rr:Int) (cv:V) (ri:Wr) (L:Lc) (n m:Nat) (s:Ws) (_:vs = [.ref o,.int k,.ref a,.ref f]) (_:Hv C o L n m H s 16) (_:H a = some (.ins CP dx (wdV x y z (.int rr) cv))) (_:Cj CP H f ri) (_:f≠a) (_:R3 s x y z) (_:WI s ri) (_:(0≤k∧k < m)) (_:Fil C CP o a L n m Q H s x y z 16 [k]):M9 C CP vs H Q
def Rw (C CP:Addr):Sp:=λ vs H Q _=>M9 C CP vs H Q
theorem Ac1 {c:Int} (h:0≤c∧c≤5):0≤agC c∧agC c≤5:=by unfold agC; split <;> omega
theorem Z0 {c:Int} (h:0≤c∧c≤5):0≤Im c∧Im c≤5:=by unfold Im; split <;> (try split) <;> omega
theorem X8 (F:A2 K mg "wire_again" ["wiring", "rest", "whole", "inner"] E3) (T:B2 K mg C CP) (aJ:A4 P w K mg base 1 C "gate" ["self", "word", "numbers"] (F2 C)) (aB:A4 P w K mg base 2 C "some_of" ["self", "numbers"] (Fe C)) (aL:A4 P w K mg base 3 C "joined" ["self", "pairs"] (G6 C)) (bO:Aj P w K mg base 1 "code_of_again" ["code"] Vk) (aK:Aj P w K mg base 3 "code_gate" ["wiring", "whole", "code"] (Qb C CP)) (aR:Aj P w K mg base 3 "wire_leaving" ["wiring", "rest", "whole", "memory", "comes"] (Rc C CP)):Aj P w K mg base 4 "wire_again" ["wiring", "rest", "whole", "inner"] (Rw C CP):=by
 refine F.ok Kq (λ vs H Q E h=>?_) (λ fn cdv A outer s0 H vs Q E hr h=>?_)
 ·obtain ⟨o,a,dx,f,k,x,y,z,rr,cv,ri,L,n,m,s,rfl,_⟩:=h; rfl
 obtain ⟨o,a,dx,f,k,x,y,z,rr,cv,ri,L,n,m,s,rfl,hv,ha,D,fa,r3,b1,hk,q⟩:=h
 obtain ⟨uE,hE,rE⟩:=T.gE
 have W:=hv.w
 have aS:=(W.objOff ha).2
 refine ⟨_,(Ad (Aw (i:=4) Kq.nd rfl (Or.inl rfl) (An aJ hr Ai (pv 0) (Aa Ao (Aa (Ax (Aa (pv 1) Ab)) Ab))))
  (Ad (Br (pv 2) (An aB hr Ai (pv 0) (Aa (Ax (Aa (pv 4) (Aa (Al (pv 3) rfl) Ab))) Ab)) rfl)
  (Ad (Br (pv 2) (An aL hr Ai (pv 0) (Aa (Cb (g:=(Bo 0)) (tc:=Cn) (te:=(Mp (C6 (Lp Vk [] E0 (C6 (tOp (Fo K) (Bh 0) (tC (.int 0))) Ef)) (C6 (tOp (Fo K) (Bh 0) (tC (.int 1))) Ef)))) ["pair"] [] rfl (Bw (Ag E3) ["wiring", "rest", "whole", "inner", "memory"] (by decide +kernel)) (Me (Al (pv 3) rfl)) (λ s2 H2 fp cl C=>Aq (i:=0) (show Nodup [("pair" : Str)] from by decide +kernel) rfl (Or.inl rfl)) (Bf (by decide)) (λ s2 H2 fp cl C=>Cs) (λ s2 H2 fp cl C=>(A3 (Aa (Av bO hr rfl Ai (Aa (Ak Ar (pv 0) Af (λ _ _=>rfl)) Ab)) (Aa (Ak Ar (pv 0) Af (λ _ _=>rfl)) Ab))))) Ab)) rfl)
  (Ae (A0 (Av aR hr rfl Ai (Aa (pv 0) (Aa (pv 1) (Aa (pv 2) (Aa (pv 4) (Aa (Av aK hr rfl Ai (Aa (pv 0) (Aa (pv 3) (Aa (Bx rfl hE rE) Ab)))) Ab))))))))))),?_⟩
 obtain ⟨fx,d1,o1,hf,a2⟩:=id D
 have fA:f∉a :: L.S:=λ z=>(jK.mp z).elim fa (W.objOff hf).2
 have dA:d1∉a :: L.S:=λ z=>(jK.mp z).elim (Bd a2 ha (by intro z; cases z)) (W.offF a2)
 have c1:=b1.2.2.len
 obtain ⟨_,ho,_⟩:=id W
 refine ⟨_,Z,o,L.dx,_,Z,ho,Z,_,Z,zN1,λ l1 h1=>?_⟩
 have U1:=(hv.nw (S:=a :: L.S)).new h1 (.lst [V.int k])
 refine ⟨o,l1, "memory", [k],L,n,m,s,Z,U1.hv hv (by decide),upd_same,.inr (.inl ⟨Z,k,Z,hk⟩),(by show 1≤1000; decide),λ H1 s1 i1 V1 j1=>?_⟩
 have U1:=U1.then V1
 have c5:=V1.k _ _ aS ((Ac h1 (.lst [V.int k])) _ _ ha)
 obtain ⟨_,b5,_⟩:=id V1.w
 refine ⟨_,Z,o,L.dx,_,Z,b5,Z,_,Z,_,Z,f,CP,fx,_,.int ri.rests,Z,U1.k _ _ fA hf,T.clP,T.nE,Z,zN2,λ l2 h2=>?_⟩
 have U2:=U1.new h2 (.lst [V.int i1,.int ri.rests])
 refine ⟨o,l2,[i1,ri.rests],L,n,m,_,Z,U2.hv hv (by decide),upd_same,.two j1 (b1.2.1.up U2.lo),(by show 2≤1000; decide),λ H2 s2 i2 V2 j2=>?_⟩
 have b4:=V2.k _ _ aS ((Ac h2 (.lst [V.int i1,.int ri.rests])) _ _ c5)
 refine ⟨_,Z,a,CP,dx,_,Z,b4,T.clP,T.nE,(by show 5 < 1000; decide),?_⟩
 have U3:=(U2.then V2).setA b4 (.ins CP dx (wdV x y z (.int i2) cv))
 have a6:=upd_same (H:=H2) (a:=a) (o:=.ins CP dx (wdV x y z (.int i2) cv))
 generalize hH:upd H2 a (.ins CP dx (wdV x y z (.int i2) cv)) = H3 at U3 a6
 have b8:upd H2 a (.ins CP dx (A5 "rests" (V.int i2) (wdV x y z (.int rr) cv))) = H3:=hH
 rw [b8]
 obtain ⟨_,b7,_⟩:=id U3.w
 have b2:=U3.k _ _ dA a2
 refine ⟨_,Z,o,L.dx,_,Z,b7,Z,_,Z,f,CP,fx,_,.ref d1,Z,U3.k _ _ fA hf,T.clP,T.nC,Z,d1,o1,_,Z,b2,Km (λ i ys H'=>Same H3 H'∧∃ ps,PySem.Paired (Iz H') ps ys∧CR s ps) ⟨Same.refl _,[],.nil,λ _ h=>nomatch h⟩ (by rw [hZ]; exact iW c1 (by decide)) (λ i ys H' hh=>hh.1 _ _ b2) ?_ ?_⟩
 ·rintro i p t ys H' N hi ⟨gg,ps,hy,cr⟩ ht hN a4
  have b3:i < ri.codes.length:=by have:=(List.getElem?_eq_some_iff.mp hi).1; rwa [hZ] at this
  rw [iH,hX b3] at hi
  cases hi
  have gt:=Ac ht (.tup [V.int (ri.codes[i]).1,V.int (ri.codes[i]).2])
  refine ⟨_,Z,t,_,_,_,Z,Z,SqT.of upd_same,Ah (j:=0) rfl,_,Z,_,Z,t,_,_,_,Z,Z,SqT.of upd_same,Ah (j:=1) rfl,zN2,λ t2 b9=>?_⟩
  have a9:=Ac b9 (.tup [V.int (agC (ri.codes[i]).1),V.int (ri.codes[i]).2])
  refine hN _ _ (by rw [iB,iD]; omega) ⟨(gg.trans gt).trans a9,ps ++ [(agC (ri.codes[i]).1,(ri.codes[i]).2)],Cq (Paired.mapP hy λ _ _ a=>a.mono (gt.trans a9).tp) (.cons ⟨t2,Z,upd_same⟩ .nil),cr.app λ p hp=>?_⟩
  have:=b1.2.2.1 _ (jJ b3)
  rw [mS hp]
  exact ⟨Ac1 this.1,this.2⟩
 rintro ys H4 a4 ⟨g4,ps,hy,cr⟩ D4 a1
 rw [hZ] at a4
 have U5:=(U3.same g4).new a1 (.lst ys)
 have b6:=(g4.trans (Ac a1 (.lst ys))) _ _ a6
 have lp:=PySem.Paired.length hy
 refine ⟨o,D4,_,_,L,n,m,_,Z,U5.hv hv (by decide),upd_same,(U3.same g4).w.offN a1,Paired.mapP hy λ _ _ a=>a.mono (Ac a1 (.lst ys)).tp,by omega,cr.up U5.lo,λ d ob H6 s6 cs V6 c7 e6 c6=>?_⟩
 have U6:=U5.then V6
 have a3:=V6.k _ _ aS b6
 refine ⟨_,Z,a,CP,dx,_,Z,a3,T.clP,T.nC,(by show 5 < 1000; decide),?_⟩
 have ad:a≠d:=Bd a3 e6 (by intro z; cases z)
 have U7:=U6.setA a3 (.ins CP dx (wdV x y z (.int i2) (.ref d)))
 refine ⟨_,Z,_,Z,_,Z,_,Z,_,Z,_,Z,o,f,0,ri,L,n,m,_,Z,U7.hv hv (by decide),⟨fx,d1,o1,U7.k _ _ fA hf,U7.k _ _ dA a2⟩,b1.2.2.1.up U7.lo,λ H8 s8 i8 V8 j8=>?_⟩
 have U8:=U7.then V8
 have a8:=V8.k _ _ aS upd_same
 have a5:=V8.k d _ (U6.w.offF e6) (by rw [upd_ne (Ne.symm ad)]; exact e6)
 have a7:=iW V6.lo V8.lo
 refine ⟨o,a,dx,k,_,_,x,y,z,_,_,L,n,m,_,Z,U8.hv hv (by decide),a8,⟨r3.2.1.up U8.lo,r3.2.2.up U8.lo,j1.up (iW V2.lo a7),j8⟩,λ H9 s9 V9 lk=>?_⟩
 exact q _ s9 i2 cs ((U8.then V9).le (by decide)) ⟨dx,d,ob,V9.k _ _ aS a8,V9.k _ _ (U8.w.offF a5) a5⟩ (j2.up (iW a7 V9.lo)) (c6.up (iW V8.lo V9.lo)) λ j hj=>by rw [mS hj]; exact lk
theorem Ads {b:Bool} {i j:Int} {σ:St} {H:Hp} {Q:VK} (h:∀ c:Int,c = i∨c = j→Q (.int c) H):if b = true then tC (.int i) σ H Q else tC (.int j) σ H Q:=by
 cases b
 ·exact h j (.inr rfl)
 ·exact h i (.inl rfl)
def Ry:Pt→Bool
 | .hold _ _=>true
 | .watch _ _=>true
 | _=>false
def sgI:Pt→Int
 | .hold i _=>i
 | .watch i _=>i
 | _=>0
theorem Adz {K:PySem.W.Frag} {H:Hp} {p:Pt} {v:V} (h:PAt K H (Pt.nd p) v) (z:Ry p = true):∃ a vs,v = .ref a∧Gj K H a (.str (wdP p) :: .int (sgI p) :: vs):=by
 cases p with
 | hold i q =>
  obtain ⟨a,vs,rfl,hs,hx⟩:=PAt.get h
  obtain ⟨x0,x1,x2,rfl,h0,h1,h2⟩:=hx.three
  cases h0.str
  cases h1.int
  exact ⟨a,_,Z,hs⟩
 | watch i q =>
  obtain ⟨a,vs,rfl,hs,hx⟩:=PAt.get h
  obtain ⟨x0,x1,x2,rfl,h0,h1,h2⟩:=hx.three
  cases h0.str
  cases h1.int
  exact ⟨a,_,Z,hs⟩
 | _=>cases z
inductive O1 (K:PySem.W.Frag) (C CP:Addr) (vs:List V) (H:Hp) (Q:VK):Prop
 | mk (o a dx f:Addr) (v:V) (p:Pt) (x y z rr:Int) (cv:V) (ri:Wr) (L:Lc) (n m:Nat) (s:Ws) (_:vs = [.ref o,v,.ref a,.ref f]) (_:Hv C o L n m H s 16) (_:PAt K H p.nd v) (_:Ry p = true) (_:okN n p) (_:H a = some (.ins CP dx (wdV x y z (.int rr) cv))) (_:Cj CP H f ri) (_:R3 s x y z) (_:Rng s rr) (_:WI s ri) (_:Fil C CP o a L n m Q H s x y z 16 []):O1 K C CP vs H Q
def Va (K:PySem.W.Frag) (C CP:Addr):Sp:=λ vs H Q _=>O1 K C CP vs H Q
theorem Zq (F:A2 K mg "wire_skipping" ["wiring", "part", "whole", "inner"] Eu) (T:B2 K mg C CP) (aD:A4 P w K mg base 1 C "fill" ["self", "number", "word", "numbers"] (F0 C)) (aE:A4 P w K mg base 2 C "opposite" ["self", "number"] (Kg C)) (aA:A4 P w K mg base 2 C "every_of" ["self", "numbers"] (Eo C)) (aB:A4 P w K mg base 2 C "some_of" ["self", "numbers"] (Fe C)) (aL:A4 P w K mg base 3 C "joined" ["self", "pairs"] (G6 C)):Aj P w K mg base 4 "wire_skipping" ["wiring", "part", "whole", "inner"] (Va K C CP):=by
 refine F.ok Cp (λ vs H Q E h=>?_) (λ fn cdv A outer s0 H vs Q E hr h=>?_)
 ·obtain ⟨o,a,dx,f,v,p,x,y,z,rr,cv,ri,L,n,m,s,rfl,_⟩:=h; rfl
 obtain ⟨o,a,dx,f,v,p,x,y,z,rr,cv,ri,L,n,m,s,rfl,hv,hp,sk,ok,ha,D,r3,c9,b1,q⟩:=h
 obtain ⟨uE,hE,rE⟩:=T.gE
 obtain ⟨uR,hR,rR⟩:=T.gR
 have W:=hv.w
 have aS:=(W.objOff ha).2
 refine ⟨_,(Ad (Aw (i:=4) Cp.nd rfl (Or.inl rfl) (Ak Be (Al (pv 0) rfl) (Ak Ar (pv 1) Af (λ _ _=>rfl)) (λ _ _=>rfl)))
  (Ad (Aw (i:=5) Cp.nd rfl (Or.inl rfl) (An aA hr Ai (pv 0) (Aa (Ax (Aa (Al (pv 2) rfl) (Aa (Al (pv 3) rfl) (Aa (pv 4) Ab)))) Ab)))
  (Ad (Aw (i:=6) Cp.nd rfl (Or.inl rfl) (An aB hr Ai (pv 0) (Aa (Ax (Aa (An aE hr Ai (pv 0) (Aa (Al (pv 3) rfl) Ab)) (Aa (An aE hr Ai (pv 0) (Aa (pv 4) Ab)) Ab))) Ab)))
  (Ad (A0 (An aD hr Ai (pv 0) (Aa (Al (pv 3) rfl) (Aa Ao (Aa (Ax (Aa (Al (pv 2) rfl) (Aa (pv 6) Ab))) Ab)))))
  (Ad (Aw (i:=7) Cp.nd rfl (Or.inl rfl) (Dy (Am A9 (Ak Ar (pv 1) Af (λ _ _=>rfl)) Ao (Ap _)) (Ax (Aa (An aA hr Ai (pv 0) (Aa (Ax (Aa (pv 5) (Aa (Al (pv 2) rfl) Ab))) Ab)) Ab)) (Ax Ab)))
  (Ad (A0 (An aD hr Ai (pv 0) (Aa (Al (pv 3) rfl) (Aa Ao (Aa (A8 Fw (Ax (Aa (Al (pv 2) rfl) Ab)) (pv 7)) Ab)))))
  (Ad (Aw (i:=8) Cp.nd rfl (Or.inl rfl) (Dy (Am A9 (Ak Ar (pv 1) Af (λ _ _=>rfl)) Ao (Ap _)) (Bx rfl hR rR) (Bx rfl hE rE)))
  (Ae (Br (pv 2) (An aL hr Ai (pv 0) (Aa (A8 Fw (G2 rfl rfl T.n_list (Al (pv 3) rfl)) (Ax (Aa (A3 (Aa (pv 8) (Aa (pv 5) Ab))) Ab))) Ab)) rfl))))))))),?_⟩
 obtain ⟨fx,d1,o1,hf,a7⟩:=id D
 have fS:=(W.objOff hf).2
 have c1:=b1.2.2.len
 obtain ⟨t,vs,rfl,hs⟩:=Adz hp sk
 have a5:0≤sgI p∧sgI p < n:=by cases p <;> first | exact ok.1 | cases sk
 have a9:Rng s (sgI p):=⟨a5.1,by have:=hv.nl; unfold Ws.nx; omega⟩
 obtain ⟨j,ej⟩:∃ j:Nat,sgI p = (j:Int):=⟨(sgI p).toNat,(Int.toNat_of_nonneg a5.1).symm⟩
 obtain ⟨gvs,ho,hg,d3,b3,_⟩:=id W
 refine ⟨_,Z,o,C,L.dx,_,.ref L.sl,Z,ho,T.cl,T.nS,Z,_,Z,t,_,_,_,Z,Z,hs.sq,Ah (j:=1) rfl,L.sl,_,_,.int (sgI p),Z,Z,SqL.of b3,?_,?_⟩
 ·rw [ej]
  exact Ah (by rw [iH,getElem?_range (by omega)]; rfl)
 refine ⟨_,Z,o,L.dx,_,Z,ho,Z,_,Z,a,CP,dx,_,.int x,Z,ha,T.clP,T.nR,Z,_,Z,f,CP,fx,_,.int ri.rests,Z,hf,T.clP,T.nE,Z,_,Z,zN3,λ l1 h1=>?_⟩
 have U1:=(hv.nw (S:=L.S)).new h1 (.lst [V.int x,.int ri.rests,.int (sgI p)])
 refine ⟨o,l1,[x,ri.rests,sgI p],L,n,m,s,Z,U1.hv hv (by decide),upd_same,.cons r3.1 (.two b1.2.1 a9),(by show 3≤1000; decide),λ H1 s1 i1 V1 j1=>?_⟩
 have U1:=U1.trans V1
 obtain ⟨_,a6,_⟩:=id V1.w
 refine ⟨_,Z,o,L.dx,_,Z,a6,Z,_,Z,o,L.dx,_,Z,a6,Z,_,Z,f,CP,fx,_,.int ri.rests,Z,U1.k _ _ fS hf,T.clP,T.nE,Z,o,_,L,n,m,_,Z,U1.hv hv (by decide),b1.2.1.up U1.lo,λ H2 s2 i2 V2 j2=>?_⟩
 have U2:=U1.trans V2
 obtain ⟨_,b5,_⟩:=id V2.w
 refine ⟨_,Z,o,L.dx,_,Z,b5,Z,_,Z,o,_,L,n,m,_,Z,U2.hv hv (by decide),a9.up U2.lo,λ H3 s3 i3 V3 j3=>⟨zN2,λ l4 h4=>?_⟩⟩
 have U4:=(U2.trans V3).new h4 (.lst [V.int i2,.int i3])
 refine ⟨o,l4,[i2,i3],L,n,m,_,Z,U4.hv hv (by decide),upd_same,.two (j2.up V3.lo) j3,(by show 2≤1000; decide),λ H5 s5 i5 V5 j5=>?_⟩
 have U5:=U4.trans V5
 obtain ⟨_,b4,_⟩:=id V5.w
 refine ⟨_,Z,o,L.dx,_,Z,b4,Z,_,Z,f,CP,fx,_,.int ri.runs,Z,U5.k _ _ fS hf,T.clP,T.nR,Z,_,Z,a,CP,dx,_,.int x,Z,U5.k _ _ aS ha,T.clP,T.nR,Z,_,Z,zN2,λ l6 h6=>?_⟩
 have U6:=U5.new h6 (.lst [V.int x,.int i5])
 refine ⟨o,l6,ri.runs, "all", [x,i5],L,n,m,_,Z,U6.hv hv (by decide),upd_same,b1.1.1.up U6.lo,.inl rfl,.two (r3.1.up U6.lo) j5,(by show 2≤1000; decide),λ H7 s7 V7=>?_⟩
 have U7:=U6.trans V7
 have a1:=iW (iW V2.lo V3.lo) (iW V5.lo V7.lo)
 obtain ⟨_,d2,_⟩:=id V7.w
 refine' AcU (λ lh H8=>∃ s8 hl,Nw C o L n m L.S H s H8 s8 5∧s1.gs.length≤s8.gs.length∧H8 lh = some (.lst (hl.map V.int))∧RL s8 hl∧hl.length≤1) (λ a4=>?_) ?_
 rotate_left
 ·refine ⟨_,Z,t,_,_,_,Z,Z,(hs.mono (W.tp U7.k)).sq,Ah (j:=0) rfl,Z,_,Z,Ee (λ e=>?_) λ nh=>?_⟩
  ·refine ⟨_,Z,o,L.dx,_,Z,d2,Z,_,Z,_,Z,a,CP,dx,_,.int y,Z,U7.k _ _ aS ha,T.clP,T.nK,Z,zN2,λ l7 h7=>?_⟩
   have UG:=U7.new h7 (.lst [V.int i1,.int y])
   refine ⟨o,l7,[i1,y],L,n,m,_,Z,UG.hv hv (by decide),upd_same,.two (j1.up a1) (r3.2.1.up UG.lo),(by show 2≤1000; decide),λ HG sG iG VG jG=>⟨zN1,λ lh a2=>?_⟩⟩
   have UH:=(UG.trans VG).new a2 (.lst [V.int iG])
   have eH:=upd_same (H:=HG) (a:=lh) (o:=.lst [V.int iG])
   generalize upd HG lh (.lst [V.int iG]) = HJ at *
   exact a4 lh HJ ⟨sG,[iG],UH,iW a1 VG.lo,eH,.one jG,iX _⟩
  ·refine ⟨zN0,λ lh a2=>?_⟩
   exact a4 lh _ ⟨s7,[],(U7.new a2 (.lst [])).le (by decide),a1,upd_same,.nil,jX _⟩
 rintro lh HJ ⟨s8,hl,U8,c8,b7,c5,d4⟩
 obtain ⟨_,b9,_⟩:=id U8.w
 refine ⟨_,Z,o,L.dx,_,Z,b9,Z,_,Z,f,CP,fx,_,.int ri.stays,Z,U8.k _ _ fS hf,T.clP,T.nT,Z,_,Z,a,CP,dx,_,.int z,Z,U8.k _ _ aS ha,T.clP,T.nT,Z,zN1,λ lz b2=>⟨_,Z,lz,lh,_,_,Z,Z,upd_same,Ac b2 _ _ _ b7,?_,λ l8 h8=>?_⟩⟩
 ·rw [hZ]; exact iW (show 1 + hl.length≤2 by omega) (by decide)
 have U9:=(U8.new b2 (.lst [V.int z])).new h8 (.lst ([V.int z] ++ hl.map V.int))
 refine ⟨o,l8,ri.stays, "some", [z] ++ hl,L,n,m,_,Z,U9.hv hv (by decide),upd_same,b1.1.2.2.up U9.lo,.inr rfl,.cons (r3.2.2.up U9.lo) c5,(by show hl.length + 1≤1000; omega),λ H9 s9 V9=>?_⟩
 have U9:=U9.trans V9
 refine ⟨_,Z,t,_,_,_,Z,Z,(hs.mono (W.tp U9.k)).sq,Ah (j:=0) rfl,Z,_,Z,Ads λ c hc=>?_⟩
 have hc:0≤c∧c≤5:=by rcases hc with rfl | rfl <;> decide
 obtain ⟨_,b6,_⟩:=id U9.w
 refine ⟨_,Z,o,L.dx,_,Z,b6,Z,_,Z,f,CP,fx,_,.ref d1,Z,U9.k _ _ fS hf,T.clP,T.nC,Z,d1,_,Z,.inr ⟨o1,U9.k _ _ (W.offF a7) a7⟩,λ lC ts HC qC=>⟨_,Z,_,Z,zN2,λ tA c7=>⟨zN1,λ lD hD=>?_⟩⟩⟩
 have pC:=K3 qC
 obtain ⟨gC,d5,c6,b8,_⟩:=qC
 have gC:Same _ HC:=gC
 have gA:=Ac c7 (.tup [V.int c,.int i1])
 have gD:=Ac hD (.lst [V.ref tA])
 rw [hZ] at b8
 refine ⟨lC,lD,_,_,Z,Z,(gA.trans gD) _ _ c6,upd_same,by rw [hZ,iD]; exact iW (by omega:_≤64) (by decide),λ lE a8=>?_⟩
 have gE:=Ac a8 (.lst (ts.map V.ref ++ [V.ref tA]))
 have UD:=U9.same ((gC.trans gA).trans gD)
 have UE:=UD.same gE
 refine ⟨o,lE,ri.codes ++ [(c,i1)],_,L,n,m,_,Z,UE.hv hv (by decide),upd_same,UD.w.offN a8,Cq (Paired.mapP pC λ _ _ a=>a.mono ((gA.trans gD).trans gE).tp) (.cons ⟨tA,Z,(gD.trans gE) _ _ upd_same⟩ .nil),by rw [iB,iD]; omega,(b1.2.2.1.up UE.lo).app λ p hp=>(by rw [mS hp]; exact ⟨hc,j1.up (iW c8 V9.lo)⟩),λ d ob HF sF cs VF nF eF cF=>?_⟩
 have UF:=UE.trans VF
 have a3:=UF.k _ _ aS ha
 exact ⟨_,Z,a,CP,dx,_,Z,a3,T.clP,T.nC,(by show 5 < 1000; decide),q.cod (UF.more λ b h=>iF _ h) (by decide) a3 eF (c9.up UF.lo) cF⟩
def rdK:Pt→List Int
 | .again k _=>[k]
 | _=>[]
inductive Nf (K:PySem.W.Frag) (C CP:Addr) (vs:List V) (H:Hp) (Q:VK):Prop
 | mk (o a dx f:Addr) (v:V) (p:Pt) (x y z:Int) (cv:V) (ri:Wr) (L:Lc) (n m:Nat) (s:Ws) (_:vs = [.ref o,v,.ref a,.ref f]) (_:Hv C o L n m H s 16) (_:PAt K H p.nd v) (_:AdY p = true) (_:okN n p) (_:(∀ k∈rdK p,0≤k∧k < m)) (_:H a = some (.ins CP dx (wdV x y z .non cv))) (_:Cj CP H f ri) (_:R3 s x y z) (_:WI s ri) (_:Fil C CP o a L n m Q H s x y z 16 (rdK p)):Nf K C CP vs H Q
def L9 (K:PySem.W.Frag) (C CP:Addr):Sp:=λ vs H Q _=>Nf K C CP vs H Q
theorem W8 (F:A2 K mg "wire_round" ["wiring", "part", "whole", "inner"] E1) (T:B2 K mg C CP) (aD:A4 P w K mg base 1 C "fill" ["self", "number", "word", "numbers"] (F0 C)) (aL:A4 P w K mg base 3 C "joined" ["self", "pairs"] (G6 C)) (cD:Aj P w K mg base 1 "code_of_trap" ["code"] Vi) (bQ:Aj P w K mg base 4 "wire_skipping" ["wiring", "part", "whole", "inner"] (Va K C CP)) (cV:Aj P w K mg base 4 "wire_again" ["wiring", "rest", "whole", "inner"] (Rw C CP)):Aj P w K mg base 5 "wire_round" ["wiring", "part", "whole", "inner"] (L9 K C CP):=by
 refine F.ok Px (λ vs H Q E h=>?_) (λ fn cdv A outer s0 H vs Q E hr h=>?_)
 ·obtain ⟨o,a,dx,f,v,p,x,y,z,cv,ri,L,n,m,s,rfl,_⟩:=h; rfl
 obtain ⟨o,a,dx,f,v,p,x,y,z,cv,ri,L,n,m,s,rfl,hv,hp,rd,ok,rk,ha,D,r3,b1,q⟩:=h
 have W:=hv.w
 have aS:=(W.objOff ha).2
 refine ⟨_,(Ad (A0 (An aD hr Ai (pv 0) (Aa (Al (pv 3) rfl) (Aa Ao (Aa (Ax (Aa (Al (pv 2) rfl) Ab)) Ab)))))
  (Ad (Br (pv 2) (Al (pv 3) rfl) rfl)
  (Ad (Bg (PW.pt (Fu (Am A9 (Ak Ar (pv 1) Af (λ _ _=>rfl)) Ao (Ap _)) (Ft (Am A9 (Ak Ar (pv 1) Af (λ _ _=>rfl)) Ao (Ap _)))))
   (Ad (A0 (Av bQ hr rfl Ai (Aa (pv 0) (Aa (pv 1) (Aa (pv 2) (Aa (pv 3) Ab))))))
  (Ae (Ui)))
   A7)
  (Ad (A0 (An aD hr Ai (pv 0) (Aa (Al (pv 3) rfl) (Aa Ao (Aa (Ax (Aa (Al (pv 2) rfl) Ab)) Ab)))))
  (Ad (A0 (An aD hr Ai (pv 0) (Aa (Al (pv 3) rfl) (Aa Ao (Aa (Ax (Aa (Al (pv 2) rfl) Ab)) Ab)))))
  (Ae (Bg (Am A9 (Ak Ar (pv 1) Af (λ _ _=>rfl)) Ao (Ap _))
   (Ae (Br (pv 2) (An aL hr Ai (pv 0) (Aa (Cb (g:=(Bo 0)) (tc:=Cn) (te:=(Mp (C6 (Lp Vi [] E0 (C6 (tOp (Fo K) (Bh 0) (tC (.int 0))) Ef)) (C6 (tOp (Fo K) (Bh 0) (tC (.int 1))) Ef)))) ["pair"] [] rfl (Bw (Ag E1) ["wiring", "part", "whole", "inner"] (by decide +kernel)) (Me (Al (pv 3) rfl)) (λ s2 H2 fp cl C=>Aq (i:=0) (show Nodup [("pair" : Str)] from by decide +kernel) rfl (Or.inl rfl)) (Bf (by decide)) (λ s2 H2 fp cl C=>Cs) (λ s2 H2 fp cl C=>(A3 (Aa (Av cD hr rfl Ai (Aa (Ak Ar (pv 0) Af (λ _ _=>rfl)) Ab)) (Aa (Ak Ar (pv 0) Af (λ _ _=>rfl)) Ab))))) Ab)) rfl))
   (Ae (A0 (Av cV hr rfl Ai (Aa (pv 0) (Aa (Ak Ar (pv 1) Af (λ _ _=>rfl)) (Aa (pv 2) (Aa (pv 3) Ab)))))))))))))),?_⟩
 obtain ⟨fx,d1,o1,hf,a5⟩:=id D
 have fa:=Wy ha hf
 have fA:f∉a :: L.S:=λ z=>(jK.mp z).elim fa (W.objOff hf).2
 have dA:d1∉a :: L.S:=λ z=>(jK.mp z).elim (Bd a5 ha (by intro z; cases z)) (W.offF a5)
 obtain ⟨_,ho,_⟩:=id W
 refine ⟨_,Z,o,L.dx,_,Z,ho,Z,_,Z,f,CP,fx,_,.int ri.kept,Z,hf,T.clP,T.nK,Z,_,Z,a,CP,dx,_,.int y,Z,ha,T.clP,T.nK,Z,zN1,λ l1 h1=>?_⟩
 have U1:=(hv.nw (S:=a :: L.S)).new h1 (.lst [V.int y])
 refine ⟨o,l1,ri.kept, "some", [y],L,n,m,s,Z,U1.hv hv (by decide),upd_same,b1.1.2.1,.inr rfl,.one r3.2.1,(by show 1≤1000; decide),λ H1 s1 V1=>?_⟩
 have U1:=U1.then V1
 have k1:=(Same.kpS (Ac h1 (.lst [V.int y]))).trans V1.k
 have a7:=k1 _ _ aS ha
 refine ⟨_,Z,f,CP,fx,_,.int ri.rests,Z,U1.k _ _ fA hf,T.clP,T.nE,Z,_,Z,a,CP,dx,_,Z,a7,T.clP,T.nE,(by show 5 < 1000; decide),?_⟩
 have U2:=U1.setA a7 (.ins CP dx (wdV x y z (.int ri.rests) cv))
 have a3:=upd_same (H:=H1) (a:=a) (o:=.ins CP dx (wdV x y z (.int ri.rests) cv))
 have a4:=hp.mono ((W.tp k1).trans (Mz a7 (KpS.upd (u:=.ins CP dx (wdV x y z (.int ri.rests) cv)) iE)))
 generalize hH:upd H1 a (.ins CP dx (wdV x y z (.int ri.rests) cv)) = H2 at U2 a3 a4
 have c5:upd H1 a (.ins CP dx (A5 "rests" (V.int ri.rests) (wdV x y z .non cv))) = H2:=hH
 rw [c5]
 have D2:Cj CP H2 f ri:=⟨fx,d1,o1,U2.k _ _ fA hf,U2.k _ _ dA a5⟩
 obtain ⟨t,vs,rfl,hs⟩:=P8 a4
 have a2:Hv C o L n m H2 s1 16:=U2.hv hv (by decide)
 have b2:=b1.up U2.lo
 have r2:=r3.up U2.lo
 have skip:Ry p = true→Fil C CP o a L n m Q H2 s1 x y z 16 []:=λ a1 H' s' r cs U D hr hc _=>q H' s' r cs ((U2.trans U).le (by decide)) D hr hc (by cases p <;> first | (cases a1; done) | (intro _ h; cases h))
 refine ⟨_,Z,t,_,_,_,Z,Z,hs.sq,Ah (j:=0) rfl,Z,_,Z,Ee (λ e=>Dv ?_) λ n1=>⟨_,Z,t,_,_,_,Z,Z,hs.sq,Ah (j:=0) rfl,Z,_,Z,Ee (λ e=>?_) λ n2=>?_⟩⟩
 ·have a1:Ry p = true:=by obtain ⟨_,_,rfl⟩:=AcA e; rfl
  exact ⟨_,Z,_,Z,_,Z,_,Z,o,a,dx,f,_,p,x,y,z,ri.rests,cv,ri,L,n,m,_,Z,a2,a4,a1,ok,a3,D2,r2,b2.2.1,b2,skip a1⟩
 ·have a1:Ry p = true:=by obtain ⟨_,_,rfl⟩:=Aal e; rfl
  exact ⟨_,Z,_,Z,_,Z,_,Z,o,a,dx,f,_,p,x,y,z,ri.rests,cv,ri,L,n,m,_,Z,a2,a4,a1,ok,a3,D2,r2,b2.2.1,b2,skip a1⟩
 obtain ⟨_,b8,_⟩:=id U2.w
 refine ⟨_,Z,o,L.dx,_,Z,b8,Z,_,Z,f,CP,fx,_,.int ri.runs,Z,U2.k _ _ fA hf,T.clP,T.nR,Z,_,Z,a,CP,dx,_,.int x,Z,a3,T.clP,T.nR,Z,zN1,λ l3 h3=>?_⟩
 have V3:=(a2.nw (S:=L.S)).new h3 (.lst [V.int x])
 refine ⟨o,l3,ri.runs, "some", [x],L,n,m,_,Z,V3.hv a2 (by decide),upd_same,b2.1.1,.inr rfl,.one r2.1,(by show 1≤1000; decide),λ H4 s4 V4=>?_⟩
 have V4:=V3.trans V4
 obtain ⟨_,d2,_⟩:=id V4.w
 refine ⟨_,Z,o,L.dx,_,Z,d2,Z,_,Z,f,CP,fx,_,.int ri.stays,Z,(U2.then V4).k _ _ fA hf,T.clP,T.nT,Z,_,Z,a,CP,dx,_,.int z,Z,V4.k _ _ aS a3,T.clP,T.nT,Z,zN1,λ l5 h5=>?_⟩
 have V5:=V4.new h5 (.lst [V.int z])
 refine ⟨o,l5,ri.stays, "some", [z],L,n,m,_,Z,V5.hv a2 (by decide),upd_same,b2.1.2.2.up V5.lo,.inr rfl,.one (r2.2.2.up V5.lo),(by show 1≤1000; decide),λ H6 s6 V6=>?_⟩
 have V6:=V5.trans V6
 have U6:=U2.then V6
 have b4:=V6.k _ _ aS a3
 have c7:=a4.mono (U2.w.tp V6.k)
 refine ⟨_,Z,t,_,_,_,Z,Z,(hs.mono (U2.w.tp V6.k)).sq,Ah (j:=0) rfl,Z,_,Z,Ee (λ e=>?_) λ n3=>?_⟩
 ·obtain ⟨p1,rfl⟩:=Ab2 e
  obtain ⟨_,c8,_⟩:=id U6.w
  have b5:=U6.k _ _ dA a5
  have c1:=b1.2.2.len
  refine ⟨_,Z,o,L.dx,_,Z,c8,Z,_,Z,f,CP,fx,_,.ref d1,Z,U6.k _ _ fA hf,T.clP,T.nC,Z,d1,o1,_,Z,b5,Km (λ i ys H'=>Same H6 H'∧∃ ps,PySem.Paired (Iz H') ps ys∧CR s ps) ⟨Same.refl _,[],.nil,λ _ h=>nomatch h⟩ (by rw [hZ]; exact iW c1 (by decide)) (λ i ys H' hh=>hh.1 _ _ b5) ?_ ?_⟩
  ·rintro i p t ys H' N hi ⟨gg,ps,hy,cr⟩ ht hN a9
   have b6:i < ri.codes.length:=by have:=(List.getElem?_eq_some_iff.mp hi).1; rwa [hZ] at this
   rw [iH,hX b6] at hi
   cases hi
   have gt:=Ac ht (.tup [V.int (ri.codes[i]).1,V.int (ri.codes[i]).2])
   refine ⟨_,Z,t,_,_,_,Z,Z,SqT.of upd_same,Ah (j:=0) rfl,_,Z,_,Z,t,_,_,_,Z,Z,SqT.of upd_same,Ah (j:=1) rfl,zN2,λ t2 c6=>?_⟩
   have b3:=Ac c6 (.tup [V.int (Im (ri.codes[i]).1),V.int (ri.codes[i]).2])
   refine hN _ _ (by rw [iB,iD]; omega) ⟨(gg.trans gt).trans b3,ps ++ [(Im (ri.codes[i]).1,(ri.codes[i]).2)],Cq (Paired.mapP hy λ _ _ a=>a.mono (gt.trans b3).tp) (.cons ⟨t2,Z,upd_same⟩ .nil),cr.app λ p hp=>?_⟩
   have:=b1.2.2.1 _ (jJ b6)
   rw [mS hp]
   exact ⟨Z0 this.1,this.2⟩
  rintro ys H7 a9 ⟨g7,ps,hy,cr⟩ D7 a6
  rw [hZ] at a9
  have gD:=Ac a6 (.lst ys)
  have U8:=(U6.same g7).new a6 (.lst ys)
  have lp:=PySem.Paired.length hy
  refine ⟨o,D7,_,_,L,n,m,_,Z,U8.hv hv (by decide),upd_same,(U6.same g7).w.offN a6,Paired.mapP hy λ _ _ a=>a.mono gD.tp,by omega,cr.up U8.lo,λ d ob H9 s9 cs V9 d3 e9 c9=>?_⟩
  have a8:=V9.k _ _ aS ((g7.trans gD) _ _ b4)
  exact ⟨_,Z,a,CP,dx,_,Z,a8,T.clP,T.nC,(by show 5 < 1000; decide),Fil.cod q (U8.then V9) (by decide) a8 e9 (b2.2.1.up (iW V6.lo V9.lo)) c9⟩
 ·obtain ⟨k,p1,rfl⟩:∃ k p1,p = .again k p1:=by
   cases p <;> first | exact absurd rfl n1 | exact absurd rfl n2 | exact absurd rfl n3 | exact ⟨_,_,Z⟩ | cases rd
  obtain ⟨t',d4,ev,b7,hx⟩:=PAt.get c7
  cases ev
  obtain ⟨x0,x1,x2,rfl,h0,b9,h2⟩:=hx.three
  cases h0.str
  cases b9.int
  exact ⟨_,Z,_,Z,t,_,_,_,Z,Z,b7.sq,Ah (j:=1) rfl,_,Z,_,Z,o,a,dx,f,k,x,y,z,ri.rests,cv,ri,L,n,m,_,Z,V6.hv a2 (by decide),b4,⟨fx,d1,o1,U6.k _ _ fA hf,U6.k _ _ dA a5⟩,fa,r2.up V6.lo,b2.up V6.lo,rk k iE,λ H' s' r cs U=>q H' s' r cs ((U6.trans U).le (by decide))⟩
end
inductive Ow (K:PySem.W.Frag) (vs:List V) (H:Hp) (Q:VK):Prop
 | mk (v) (xs) (_:vs = [v]) (_:PAt K H (.t xs) v) (_:xs.length≤8) (_:∀ r ws,H r = none→Ba K H (inner xs) ws→Q (.ref r) (upd H r (.lst ws))):Ow K vs H Q
def Ln (K:PySem.W.Frag):Sp:=λ vs H Q _=>Ow K vs H Q
section
variable {P:Program} {w:World} {K:PySem.W.Frag} {mg:Str→Option Value} {base:Heap}
theorem AaX (F:A2 K mg "inner_parts" ["part"] Em) (T:Txt mg):Aj P w K mg base 1 "inner_parts" ["part"] (Ln K):=by
 refine F.ok Om (λ vs H Q E h=>?_) (λ f cdv A outer s H vs Q E hr h=>?_)
 ·obtain ⟨v,xs,rfl,_⟩:=h
  rfl
 obtain ⟨v,xs,rfl,hv,hl,q⟩:=h
 refine ⟨_,Ae (Au (Cb (tc:=tB (tCB (Vx K) (C6 (Bh 0) (C6 (tC (.ty "tuple")) Ef)))) ["piece"] [] rfl (Bw (Ag Em) ["part"] (by decide +kernel)) (Hq (pv 0))
  (λ s2 H2 fp cl C=>Aq (i:=0) (show Nodup [("piece" : Str)] from by decide +kernel) rfl (Or.inl rfl)) (Bf (by decide))
  (λ s2 H2 fp cl C=>Dm (Kv (Bs Ih rfl T.n_isinstance PyProof.Rows.boot_isinstance (Aa (pv 0) (Aa (N1 rfl T.n_tuple (by decide +kernel) (v:=.ty "tuple") rfl) Ab)))))
  (λ s2 H2 fp cl C=>pv 0))),?_⟩
 obtain ⟨a,vs,rfl,ha,hx⟩:=hv.get
 refine ⟨_,Z,a,Z,⟨_,ha.sq⟩,?_⟩
 have a3:=hx.len
 refine AcD (xs:=vs) (F:=λ D ys H=>Q (.ref D) (upd H D (.lst ys))) (λ i ys H'=>H' = H∧Ba K H (inner (xs.take i)) ys) ⟨Z,by simpa [inner] using Ba.nil⟩ (Eg (by omega))
  (λ i ys H' hi ⟨e,_⟩=>⟨vs,vs[i],by rw [e]; exact ha.sq,by simp [hi]⟩) (λ ys H' ⟨e,_⟩=>⟨vs,by rw [e]; exact ha.sq,iX _⟩)
  (λ i ys H1 x H2 ⟨e,_⟩ ⟨e',y⟩=>⟨e',y vs (by rw [e]; exact ha.sq)⟩) ?_ (λ x σ H Q Q' h q=>h _ _ q) ?_ ?_ ?_
 ·rintro i x ys H' hi ⟨rfl,hy⟩
  obtain ⟨n,hn,a1⟩:=hx.at hi
  obtain ⟨t,ty,ek⟩:=Xr a1
  have a2:xs.take (i + 1) = xs.take i ++ [n]:=by
   rw [take_add_one,hn]; rfl
  refine ⟨x,Z,_, "tuple", t,_,Z,ty,ek,_,Z,?_⟩
  refine Ay (λ c=>?_) (λ c=>?_)
  ·refine ⟨x,Z,Z,?_⟩
   have:inner (xs.take (i + 1)) = inner (xs.take i) ++ [n]:=by rw [a2]; simp [inner,c]
   rw [this]
   exact hy.append (.cons a1 .nil)
  ·refine ⟨Z,?_⟩
   have:inner (xs.take (i + 1)) = inner (xs.take i):=by rw [a2]; simp [inner,c]
   rw [this]
   exact hy
 ·rintro σ H Q Q' h ⟨v,e,x,T,t,b,e2,ty,ek,c,e3,q⟩
  exact ⟨v,e,x,T,t,b,e2,ty,ek,c,e3,h _ _ q⟩
 ·rintro σ H Q Q' h ⟨v,e,q⟩
  exact ⟨v,e,h _ _ q⟩
 ·rintro ys H' ⟨rfl,hy⟩ D hD
  refine q D ys hD ?_
  rw [iP (by omega)] at hy
  exact hy
end
def kids:Pt→List Pt
 | .iff _ p q=>[p,q]
 | .thn p q=>[p,q]
 | .bes p q=>[p,q]
 | .again _ p=>[p]
 | .hold _ p=>[p]
 | .watch _ p=>[p]
 | .trap p=>[p]
 | _=>[]
theorem Ho (x:Str):isT (.s x) = false:=rfl
theorem Ie (x:Int):isT (.i x) = false:=rfl
theorem Gy (p:Pt):isT p.nd = true:=by cases p <;> rfl
theorem Abe {n:Nat} {p:Pt} (ok:okN n p):∃ xs,p.nd = .t xs∧xs.length≤8∧inner xs = (kids p).map Pt.nd:=by
 cases p with
 | stay ks=>exact absurd ok id
 | iff i p q=>exact ⟨_,rfl,by show 4≤8; decide,by unfold inner; simp [Ho,Ie,Gy,kids]⟩
 | thn p q=>exact ⟨_,rfl,by show 3≤8; decide,by unfold inner; simp [Ho,Ie,Gy,kids]⟩
 | bes p q=>exact ⟨_,rfl,by show 3≤8; decide,by unfold inner; simp [Ho,Ie,Gy,kids]⟩
 | again k p=>exact ⟨_,rfl,by show 3≤8; decide,by unfold inner; simp [Ho,Ie,Gy,kids]⟩
 | hold k p=>exact ⟨_,rfl,by show 3≤8; decide,by unfold inner; simp [Ho,Ie,Gy,kids]⟩
 | watch k p=>exact ⟨_,rfl,by show 3≤8; decide,by unfold inner; simp [Ho,Ie,Gy,kids]⟩
 | trap p=>exact ⟨_,rfl,by show 2≤8; decide,by unfold inner; simp [Ho,Ie,Gy,kids]⟩
 | nothing=>exact ⟨_,rfl,by show 1≤8; decide,by unfold inner; simp [Ho,Ie,kids]⟩
 | rest k=>exact ⟨_,rfl,by show 2≤8; decide,by unfold inner; simp [Ho,Ie,kids]⟩
 | send k=>exact ⟨_,rfl,by show 2≤8; decide,by unfold inner; simp [Ho,Ie,kids]⟩
 | exit k=>exact ⟨_,rfl,by show 2≤8; decide,by unfold inner; simp [Ho,Ie,kids]⟩
def szs (ps:List Pt):Nat:=(ps.map Pt.sz).sum
inductive Vh (p:Pt):Prop
 | pr (p1 p2:Pt) (e:kids p = [p1,p2]) (h:Aaq p = true):Vh p
 | rd (p1:Pt) (e:kids p = [p1]) (h:AdY p = true):Vh p
 | lf (e:kids p = []) (h:Mn p = true):Vh p
theorem AcK (p:Pt):Vh p:=by
 cases p with
 | iff i p q=>exact .pr p q rfl rfl
 | thn p q=>exact .pr p q rfl rfl
 | bes p q=>exact .pr p q rfl rfl
 | again k p=>exact .rd p rfl rfl
 | hold k p=>exact .rd p rfl rfl
 | watch k p=>exact .rd p rfl rfl
 | trap p=>exact .rd p rfl rfl
 | _=>exact .lf rfl rfl
theorem AbV (p:Pt):p.sz = szs (kids p) + 1:=by cases p <;> simp [Pt.sz,kids,szs]
theorem Ab4 {n:Nat} {p:Pt} (ok:okN n p):∀ q∈kids p,okN n q:=by
 cases p <;> intro q hq <;> simp [kids] at hq <;> simp only [okN] at ok <;> first | (rcases hq with z | z <;> rw [z] <;> first | exact ok.1 | exact ok.2 | exact ok.2.1 | exact ok.2.2) | (rw [hq]; first | exact ok | exact ok.2) | skip
theorem AbY {m:Nat} {p:Pt} (h:p.hg≤m + 1):∀ q∈kids p,q.hg≤m:=by
 cases p <;> intro q hq <;> simp [kids] at hq <;> simp only [Pt.hg] at h <;> first | (rcases hq with z | z <;> rw [z] <;> omega) | (rw [hq]; omega) | skip
theorem X9 {p:Pt} {k:Int} (h:k∈rsP p):Mn p = true∨k∈rdK p∨∃ q∈kids p,k∈rsP q:=by
 cases p <;> simp [rsP,rdK,kids,Mn] at h ⊢ <;> first | exact h.symm | exact h
theorem AdS {p q:Pt} {k:Int} (hq:q∈kids p) (h:k∈rsP q):k∈rsP p:=by
 cases p <;> simp [kids] at hq <;> simp only [rsP] <;> first | (rcases hq with rfl | rfl <;> simp [h]) | (subst hq; simp [h])
theorem Adl {p:Pt} {k:Int} (h:k∈rdK p):k∈rsP p:=by
 cases p <;> first | (cases h; done) | (rw [mS h]; exact iE)
theorem Act {p:Pt} (h:Aaq p = true):rdK p = []:=by cases p <;> first | rfl | cases h
inductive Pm (K:PySem.W.Frag) (C CP:Addr) (b:Nat) (vs:List V) (H:Hp) (Q:VK):Prop
 | mk (o:Addr) (v:V) (p:Pt) (L:Lc) (n m:Nat) (s:Ws) (_:vs = [.ref o,v]) (_:Hv C o L n m H s (50 * p.sz)) (_:PAt K H p.nd v) (_:p.hg≤b) (_:okN n p) (_:(∀ k∈rsP p,0≤k∧k < m)) (_:∀ a H' s' r,Nw C o L n m L.S H s H' s' (50 * p.sz)→H a = none→Cj CP H' a r→WI s' r→(∀ k∈rsP p,k∈s'.lv.map (·.1))→Q (.ref a) H'):Pm K C CP b vs H Q
def Jh (K:PySem.W.Frag) (C CP:Addr) (b:Nat):Sp:=λ vs H Q _=>Pm K C CP b vs H Q
def Aew (CP:Addr) (H:Hp) (r:Wr) (v:V):Prop:=∃ b,v = .ref b∧Cj CP H b r
section
variable {P:Program} {w:World} {K:PySem.W.Frag} {mg:Str→Option Value} {base:Heap} {C CP:Addr}
seal PSs PS PE PA PT
theorem Aae {m:Nat} (F:A2 K mg "wire_part" ["wiring", "part"] Ff) (T:B2 K mg C CP) (aV:A4 P w K mg base 3 C "new_part" ["self"] (Pz C CP)) (aO:Aj P w K mg base 1 "inner_parts" ["part"] (Ln K)) (aT:Aj P w K mg base 5 "wire_pair" ["wiring", "part", "whole", "first", "second"] (Og K C CP)) (aQ:Aj P w K mg base 5 "wire_round" ["wiring", "part", "whole", "inner"] (L9 K C CP)) (aU:Aj P w K mg base 5 "wire_leaf" ["wiring", "part", "whole"] (On K C CP)) (aW:Aj P w K mg base (m + 6) "wire_part" ["wiring", "part"] (Jh K C CP m)):Aj P w K mg base (m + 7) "wire_part" ["wiring", "part"] (Jh K C CP (m + 1)):=by
 refine F.ok F7 (λ vs H Q E h=>?_) (λ fn cdv A outer s0 H vs Q E hr h=>?_)
 ·obtain ⟨o,v,p,L,n,m,s,rfl,_⟩:=h; rfl
 obtain ⟨o,v,p,L,n,m,s,rfl,hv,hp,hh,ok,rk,q⟩:=h
 refine ⟨_,(Ad (Aw (i:=2) F7.nd rfl (Or.inl rfl) (Ec aV hr Ai (pv 0)))
  (Ad (Aw (i:=3) F7.nd rfl (Or.inl rfl) (Ax Ab))
  (Ad (De PassesOwn.never rfl (B9 (Av aO hr rfl Ai (Aa (pv 1) Ab))) (Aq (i:=4) F7.nd rfl (Or.inl rfl))
   (Ae (A0 (Dt PySem.F.plainAttrs_list PySem.F.slot_list_append PySem.F.type_list_append B6 (pv 3) (Aa (Av aW hr rfl Ai (Aa (pv 0) (Aa (pv 4) Ab))) Ab)))))
  (Ad (Bg (Am A9 (Bs B4 rfl T.n_len PySem.boot_len (Aa (pv 3) Ab)) Af (Ap _))
   (Ae (A0 (Av aT hr rfl Ai (Aa (pv 0) (Aa (pv 1) (Aa (pv 2) (Aa (Ak Be (pv 3) Af (λ _ _=>rfl)) (Aa (Ak Be (pv 3) Af (λ _ _=>rfl)) Ab))))))))
   (Ae (Bg (Am A9 (Bs B4 rfl T.n_len PySem.boot_len (Aa (pv 3) Ab)) Af (Ap _))
   (Ae (A0 (Av aQ hr rfl Ai (Aa (pv 0) (Aa (pv 1) (Aa (pv 2) (Aa (Ak Be (pv 3) Af (λ _ _=>rfl)) Ab)))))))
   (Ae (A0 (Av aU hr rfl Ai (Aa (pv 0) (Aa (pv 1) (Aa (pv 2) Ab)))))))))
  (Ae (Au (pv 2))))))),?_⟩
 have ez:=AbV p
 obtain ⟨_,ho,_⟩:=id hv.w
 refine ⟨_,Z,o,L.dx,_,Z,ho,Z,o,L,n,_,s,Z,(hv.nw (S:=L.S)).hv hv (by omega),λ a dx cv x y z H1 s1 U1 na ha r3=>?_⟩
 have aS:=(U1.w.objOff ha).2
 refine ⟨zN0,λ li a5=>?_⟩
 have b6:=U1.w.offN4 a5
 have b8:=b6.2.2.2
 have d3:=U1.k.nil a5 b8
 have g2:=Ac a5 (.lst [])
 have U2:=U1.new a5 (.lst [])
 have d5:=g2 _ _ ha
 have c6:=upd_same (H:=H1) (a:=li) (o:=.lst [])
 have d7:li≠a:=(ne_of_none ha a5).symm
 have b7:=hp.mono (hv.w.tp U2.k)
 generalize upd H1 li (.lst []) = H2 at *
 obtain ⟨xs,ex,lx,ix⟩:=Abe ok
 refine ⟨_,Z,v,xs,Z,ex ▸ b7,lx,λ r ws a8 hw=>?_⟩
 rw [ix] at hw
 have g3:=Ac a8 (.lst ws)
 have U3:=U2.new a8 (.lst ws)
 have d4:=g3 _ _ d5
 have b4:=g3 _ _ c6
 have d6:=b7.mono g3.tp
 have c5:=upd_same (H:=H2) (a:=r) (o:=.lst ws)
 have rS:=U2.w.offN a8
 have c8:r≠li:=(ne_of_none c6 a8).symm
 have b5:=Ba.mono g3.tp hw
 generalize upd H2 r (.lst ws) = H3 at *
 have lw:=b5.len
 rw [hZ] at lw
 have a3:Hv C o L n m H3 s1 (50 * szs (kids p) + 47):=U3.hv hv (by omega)
 have b9:∀ {H':Hp},KpS (li :: L.S) H3 H'→Tp H3 H':=λ k b xs e=>k b _ (λ z=>by
  rcases jK.mp z with z | z
  ·rw [z,b4] at e; cases e
  ·exact U3.w.off e (λ _ z=>nomatch z) (λ _ z=>nomatch z) z) e
 have d9:(kids p).length≤2:=by cases p <;> simp [kids]
 have c9:∀ i,szs ((kids p).take i)≤szs (kids p):=λ i=>by
  have:szs (kids p) = szs ((kids p).take i) + szs ((kids p).drop i):=by unfold szs; rw [← sum_append,← iM,List.take_append_drop]
  omega
 refine ⟨r,Z,⟨_,SqL.of c5⟩,Fn (K:=K) (a:=r) (xs:=ws) (λ i σ H'=>∃ x4 s' svs rs,σ = [some (.ref o),some v,some (.ref a),some (.ref li),x4]∧Nw C o L n m (li :: L.S) H3 s1 H' s' (50 * szs ((kids p).take i))∧H' li = some (.lst svs)∧PySem.Paired (Aew CP H') rs svs∧(∀ r∈rs,WI s' r)∧rs.length = i∧∀ q∈(kids p).take i,∀ k∈rsP q,k∈s'.lv.map (·.1)) ⟨none,s1,[],[],Z,a3.nw,b4,.nil,(λ _ h=>nomatch h),Z,λ _ h=>nomatch h⟩ (λ i σ H' _ ⟨_,_,_,_,_,U,_⟩=>SqL.of (U.k _ _ (λ z=>(jK.mp z).elim c8 rS) c5)) ?_ ?_⟩
 ·rintro i x σ H4 hi ⟨x4,s4,svs,rs,rfl,U4,a1,a2,a4,lr,a6⟩
  have b3:i < (kids p).length:=by have:=(List.getElem?_eq_some_iff.mp hi).1; omega
  obtain ⟨nd,en,hx⟩:=b5.at hi
  rw [iH,hX b3] at en
  cases en
  have mk:=jJ b3
  have tk:(kids p).take (i + 1) = (kids p).take i ++ [(kids p)[i]]:=by rw [iV,hX b3]; rfl
  have c7:szs ((kids p).take (i + 1)) = szs ((kids p).take i) + ((kids p)[i]).sz:=by rw [tk]; unfold szs; rw [iM,sum_append]; simp
  have:=c9 (i + 1)
  rw [tk]
  rw [tk] at c7
  refine ⟨_,Z,.inl ⟨Z,_,SqL.of a1⟩,_,Z,_,Z,o,x,(kids p)[i],L,n,m,s4,Z,U4.hv a3 (by rw [tk] at this; omega),hx.mono (b9 U4.k),AbY hh _ mk,Ab4 ok _ mk,λ k h=>rk k (AdS mk h),λ b H5 s5 rb V5 nb D5 w5 d8=>?_⟩
  have a7:=V5.k _ _ b8 a1
  have U5:=U4.then V5
  have keep:∀ (b':Addr) (r:Wr),Cj CP H5 b' r→Cj CP (upd H5 li (.lst (svs ++ [.ref b]))) b' r:=λ b' r D=>by
   obtain ⟨e1,e2,e3,e4,e5⟩:=D
   exact ⟨e1,e2,e3,by rw [upd_ne (Bd e4 a7 (by intro z; cases z))]; exact e4,by rw [upd_ne (Bd e5 a7 (by intro z; cases z))]; exact e5⟩
  refine ⟨li,svs,.ref b,Z,Z,a7,by rw [← PySem.Paired.length a2,lr]; exact iZ (by omega:i≤8) (by decide),_,s5,_,rs ++ [rb],Z,?_,upd_same,Cq (Paired.mapP a2 λ r v ⟨b',eb,D⟩=>⟨b',eb,keep b' r (D.kp U4.w V5.k)⟩) (.cons ⟨b,Z,keep b _ D5⟩ .nil),λ r h=>?_,by rw [iB,lr]; rfl,λ q h k hk=>?_⟩
  ·rw [c7,Nat.mul_add]
   exact { U5 with k:=U5.k.trans (KpS.upd iE),w:=U5.w.keep [li] (KpS.upd iE) (Tp.lst a7) λ b d2=>(by rw [mS d2]; exact b6) }
  ·rcases iU.mp h with z | z
   ·exact (a4 r z).up V5.lo
   ·rw [mS z]; exact w5
  ·rcases iU.mp h with z | z
   ·exact V5.lv k (a6 q z k hk)
   ·rw [mS z] at hk; exact d8 k hk
 ·rintro σ H4 ⟨x4,s4,svs,rs,rfl,U4,a1,a2,a4,lr,a6⟩
  rw [← lw,take_length] at U4 a6
  rw [← lw] at lr
  have a9:=U4.k _ _ (λ z=>(jK.mp z).elim (Ne.symm d7) aS) d4
  have b2:=d6.mono (b9 U4.k)
  have rx:=R3.up r3 U4.lo
  have U:=((U3.more λ b hb=>iF li hb).trans U4).drop d3
  have b1:∀ {d:Nat} {ks:List Int},d≤46→(∀ k∈rsP p,(k∈ks∨∃ q∈kids p,k∈rsP q))→Fil C CP o a L n m (λ _ H'=>Q (.ref a) H') H4 s4 x y z d ks:=λ hd hk H' s' r cs V D hr hc hl=>by
   have V':=(U.more λ b hb=>iF a hb).trans V
   refine q a H' s' ⟨x,y,z,r,cs⟩ ((V'.drop na).le (by omega)) na D ⟨rx.up V.lo,hr,hc⟩ λ k h=>?_
   rcases hk k h with z | ⟨q,hq,z⟩
   ·exact hl k z
   ·exact V.lv k (a6 q hq k z)
  cases AcK p with
  | pr p1 p2 e hk =>
   rw [e] at lr
   cases a2 with
   | nil=>cases lr
   | cons o1 t1 =>
   cases t1 with
   | nil=>cases lr
   | cons o2 t2 =>
   cases t2 with
   | cons _ _=>cases lr
   | nil =>
   obtain ⟨f,rfl,D1⟩:=o1
   obtain ⟨g,rfl,D2⟩:=o2
   refine ⟨_,Z,li,_,Z,.inl (SqL.of a1),Z,_,Z,Dv ⟨_,Z,_,Z,_,Z,_,Z,li,_,_,.ref f,Z,Z,SqL.of a1,Ah (j:=0) rfl,_,Z,li,_,_,.ref g,Z,Z,SqL.of a1,Ah (j:=1) rfl,?_⟩⟩
   exact ⟨o,a,dx,f,g,v,p,x,y,z,cv,_,_,L,n,m,_,Z,U4.hv a3 (by omega),b2,hk,ok,a9,D1,D2,rx,a4 _ iE,a4 _ (iF _ iE),λ H' s' r cs V D hr hc hl=>⟨_,Z,b1 (iX _) (λ k h=>(X9 h).elim (λ z=>by cases p <;> cases hk <;> cases z) λ z=>z.imp (λ z=>by rw [Act hk] at z; exact z) id) H' s' r cs V D hr hc hl⟩⟩
  | rd p1 e hk =>
   rw [e] at lr
   cases a2 with
   | nil=>cases lr
   | cons o1 t1 =>
   cases t1 with
   | cons _ _=>cases lr
   | nil =>
   obtain ⟨f,rfl,D1⟩:=o1
   refine ⟨_,Z,li,_,Z,.inl (SqL.of a1),Z,_,Z,Eb ⟨_,Z,li,_,Z,.inl (SqL.of a1),Z,_,Z,Dv ⟨_,Z,_,Z,_,Z,_,Z,li,_,_,.ref f,Z,Z,SqL.of a1,Ah (j:=0) rfl,?_⟩⟩⟩
   exact ⟨o,a,dx,f,v,p,x,y,z,cv,_,L,n,m,_,Z,U4.hv a3 (by omega),b2,hk,ok,λ k h=>rk k (Adl h),a9,D1,rx,a4 _ iE,λ H' s' r cs V D hr hc hl=>⟨_,Z,b1 (by decide) (λ k h=>(X9 h).elim (λ z=>by cases p <;> cases hk <;> cases z) id) H' s' r cs V D hr hc hl⟩⟩
  | lf e hk =>
   rw [e] at lr
   cases a2 with
   | cons _ _=>cases lr
   | nil =>
   refine ⟨_,Z,li,_,Z,.inl (SqL.of a1),Z,_,Z,Eb ⟨_,Z,li,_,Z,.inl (SqL.of a1),Z,_,Z,Eb ⟨_,Z,_,Z,_,Z,?_⟩⟩⟩
   exact ⟨o,a,dx,v,p,x,y,z,.non,cv,L,n,m,_,Z,U4.hv a3 (by omega),b2,hk,ok,rk,a9,rx,λ H' s' r cs V D hr hc hl=>⟨_,Z,b1 (by decide) (λ k h=>.inl h) H' s' r cs V D hr hc hl⟩⟩
theorem O6 (F:A2 K mg "wire_part" ["wiring", "part"] Ff) (T:B2 K mg C CP) (aV:A4 P w K mg base 3 C "new_part" ["self"] (Pz C CP)) (aO:Aj P w K mg base 1 "inner_parts" ["part"] (Ln K)) (aT:Aj P w K mg base 5 "wire_pair" ["wiring", "part", "whole", "first", "second"] (Og K C CP)) (aQ:Aj P w K mg base 5 "wire_round" ["wiring", "part", "whole", "inner"] (L9 K C CP)) (aU:Aj P w K mg base 5 "wire_leaf" ["wiring", "part", "whole"] (On K C CP)) :
  ∀ m,Aj P w K mg base (m + 6) "wire_part" ["wiring", "part"] (Jh K C CP m)
 | 0=>(F.zero (sp:=Jh K C CP 0) λ vs H Q E h=>by obtain ⟨o,v,p,L,n,m,s,_,_,_,hh,_⟩:=h; exact absurd hh (Nat.not_le_of_gt (Pt.hg_pos p))).mono (by decide)
 | m + 1=>Aae F T aV aO aT aQ aU (O6 F T aV aO aT aQ aU m)
theorem Z1:As ["self", "signs"] ["self", "signs"] (Ag Hn):=⟨Z,Z,Z,by decide +kernel,Z,by decide +kernel,by decide +kernel⟩
inductive O7 (C:Addr) (vs:List V) (H:Hp) (Q:VK):Prop
 | mk (o nl' dx gl:Addr) (w:Str) (ns:List Int) (fs:List (Str× V)) (gvs:List V) (_:vs = [.ref o,.str w,.ref nl']) (_:H o = some (.ins C dx fs)) (_:fs.lookup ("gates" : Str) = some (.ref gl)) (_:H gl = some (.lst gvs)) (_:H nl' = some (.lst (ns.map V.int))) (_:gvs.length≤1000000) (_:∀ v H',KpS [gl] H H'→H' gl = some (.lst (gvs ++ [v]))→GwAt H' (w,ns) v→Q (.int (gvs.length:Int)) H'):O7 C vs H Q
def N7 (C:Addr):Sp:=λ vs H Q _=>O7 C vs H Q
inductive Ng (C:Addr) (vs:List V) (H:Hp) (Q:VK):Prop
 | mk (o dx gl:Addr) (fs:List (Str× V)) (gvs:List V) (_:vs = [.ref o]) (_:H o = some (.ins C dx fs)) (_:fs.lookup ("gates" : Str) = some (.ref gl)) (_:fs.lookup ("gate" : Str) = none) (_:H gl = some (.lst gvs)) (_:gvs.length≤1000000) (_:∀ v H',KpS [gl] H H'→H' gl = some (.lst (gvs ++ [v]))→GwAt H' ("some", []) v→Q (.int (gvs.length:Int)) H'):Ng C vs H Q
def J2 (C:Addr):Sp:=λ vs H Q _=>Ng C vs H Q
def wf1 (gl:Addr):List (Str× V):=[("gates", .ref gl)]
def wf2 (gl sl:Addr):List (Str× V):=[("gates", .ref gl),("signs", .ref sl)]
def wf3 (gl sl nl:Addr):List (Str× V):=[("gates", .ref gl),("signs", .ref sl),("senders", .ref nl)]
def ws0 (n:Nat):Ws:=⟨List.replicate n ("some", []),List.replicate n [],[]⟩
inductive O5 (C:Addr) (vs:List V) (H:Hp) (Q:VK):Prop
 | mk (o dx:Addr) (n:Nat) (_:vs = [.ref o,.int n]) (_:H o = some (.ins C dx [])) (_:n≤1000) (_:∀ L H',KpS [o] H H'→Bk C H' o L n (ws0 n)→(∀ b∈L.S,H b = none)→H L.sl = none→Q .non H'):O5 C vs H Q
def Sv (C:Addr):Sp:=λ vs H Q _=>O5 C vs H Q
theorem Zm {f:Addr} {fd:FuncData} (F:Fun K "gate" "Wiring.gate" Le f fd) (T:B2 K mg C CP):Bl P w K mg base CX0 1 f fd ["self", "word", "numbers"] (N7 C):=by
 refine F.ok Um (λ vs H Q E h=>?_) (λ cdv A outer s0 H vs Q E hr h=>?_)
 ·obtain ⟨o,nl',dx,gl,w,ns,fs,gvs,rfl,_⟩:=h; rfl
 obtain ⟨o,nl',dx,gl,w,ns,fs,gvs,rfl,ho,hf,hg,a4,hb,q⟩:=h
 refine ⟨_,(Ad (A0 (Dt PySem.F.plainAttrs_list PySem.F.slot_list_append PySem.F.type_list_append B6 (Al (pv 0) rfl) (Aa (A3 (Aa (pv 1) (Aa (Bu Hb rfl T.n_tuple (by decide +kernel) (Aa (pv 2) Ab)) Ab))) Ab)))
  (Ae (Au (A8 M1 (Bs B4 rfl T.n_len PySem.boot_len (Aa (Al (pv 0) rfl) Ab)) Af)))),?_⟩
 refine ⟨_,Z,o,C,dx,_,.ref gl,Z,ho,T.cl,T.nG,hf,.inl ⟨Z,_,SqL.of hg⟩,_,Z,_,Z,nl',_,Z,.inl ⟨SqL.of a4,λ t2 a3=>⟨zN2,λ t1 a2=>?_⟩⟩⟩
 have g1:=Ac a3 (.tup (ns.map V.int))
 have g2:=Ac a2 (.tup [V.str w,.ref t2])
 have a1:=g1.trans g2
 have a8:=a1 _ _ hg
 refine ⟨gl,gvs,.ref t1,Z,Z,a8,Aao (by omega),?_⟩
 have a5:(upd (upd (upd H t2 (.tup (ns.map V.int))) t1 (.tup [V.str w,.ref t2])) gl (.lst (gvs ++ [.ref t1]))) o = some (.ins C dx fs):=by
  rw [upd_ne (Bd ho hg (by intro z; cases z))]
  exact a1 _ _ ho
 refine ⟨_,Z,o,C,dx,_,.ref gl,Z,a5,T.cl,T.nG,hf,gl,_,Z,.inl (SqL.of upd_same),_,_,Z,Z,?_⟩
 have e:(((gvs ++ [V.ref t1]).length:Nat):Int) - 1 = (gvs.length:Int):=by
  rw [iB,iD]
  omega
 dsimp only
 rw [e]
 have a7:t1≠gl:=λ z=>by rw [z,g1 _ _ hg] at a2; cases a2
 have a6:t2≠gl:=λ z=>by rw [z,hg] at a3; cases a3
 exact q (.ref t1) _ ((Same.kpS a1).trans (KpS.upd iE)) upd_same ⟨t1,t2,Z,by rw [upd_ne a7]; exact upd_same,by rw [upd_ne a6]; exact g2 _ _ upd_same⟩
theorem Xf {f:Addr} {fd:FuncData} (F:Fun K "later" "Wiring.later" Jx f fd) (T:B2 K mg C CP) (aJ:A4 P w K mg base 1 C "gate" ["self", "word", "numbers"] (N7 C)):Bl P w K mg base CX0 2 f fd ["self"] (J2 C):=by
 refine F.ok Ra (λ vs H Q E h=>?_) (λ cdv A outer s0 H vs Q E hr h=>?_)
 ·obtain ⟨o,dx,gl,fs,gvs,rfl,_⟩:=h; rfl
 obtain ⟨o,dx,gl,fs,gvs,rfl,ho,hf,a1,hg,hb,q⟩:=h
 refine ⟨_,(Ae (Au (An aJ hr Ai (pv 0) (Aa Ao (Aa (Ax Ab) Ab))))),?_⟩
 refine ⟨_,Z,o,dx,_,Z,ho,a1,zN0,λ l hl=>?_⟩
 have g:=Ac hl (.lst [])
 exact ⟨o,l,dx,gl, "some", [],fs,gvs,Z,g _ _ ho,hf,g _ _ hg,upd_same,hb,λ v H' k e1 e2=>q v H' ((Same.kpS g).trans k) e1 e2⟩
theorem Aa2 {f:Addr} {fd:FuncData} (F:Fun K "__init__" "Wiring.__init__" Hn f fd) (T:B2 K mg C CP) (fY:A4 P w K mg base 2 C "later" ["self"] (J2 C)):Bl P w K mg base CX0 3 f fd ["self", "signs"] (Sv C):=by
 refine F.ok Z1 (λ vs H Q E h=>?_) (λ cdv A outer s0 H vs Q E hr h=>?_)
 ·obtain ⟨o,dx,n,rfl,_⟩:=h; rfl
 obtain ⟨o,dx,n,rfl,ho,hn,q⟩:=h
 refine ⟨_,(Ad (Br (pv 0) (Ax Ab) rfl)
  (Ad (Br (pv 0) (Cb (g:=(Bo 0)) (tc:=Cn) (te:=(J7 C "later" (J2 C) [] E0 (Bh 1) Ef)) ["sign"] [("self", 0)] rfl (Bw (Ag Hn) ["self", "signs"] (by decide +kernel)) (Fp rfl T.n_range (Aa (pv 1) Ab)) (λ s2 H2 fp cl C=>Aq (i:=0) (show Nodup [("sign" : Str),("self" : Str)] from by decide +kernel) rfl (Or.inl rfl)) (Bf (by decide)) (λ s2 H2 fp cl C=>Cs) (λ s2 H2 fp cl C=>(Ec fY hr Ai (pv 1)))) rfl)
  (Ad (Br (pv 0) (Cb (g:=(Bo 0)) (tc:=Cn) (te:=(Vd Ef)) ["sign"] [] rfl (Bw (Ag Hn) ["self", "signs"] (by decide +kernel)) (Fp rfl T.n_range (Aa (pv 1) Ab)) (λ s2 H2 fp cl C=>Aq (i:=0) (show Nodup [("sign" : Str)] from by decide +kernel) rfl (Or.inl rfl)) (Bf (by decide)) (λ s2 H2 fp cl C=>Cs) (λ s2 H2 fp cl C=>(Ax Ab))) rfl)
  (Ae (Br (pv 0) J9 rfl))))),?_⟩
 refine ⟨zN0,λ gl hgl=>?_⟩
 have g1:=Ac hgl (.lst [])
 have go:gl≠o:=λ z=>by rw [z,ho] at hgl; cases hgl
 refine ⟨_,Z,o,C,dx,[],Z,g1 _ _ ho,T.cl,T.nG,(by show 0 < 1000; decide),?_⟩
 have d8:(upd (upd H gl (.lst [])) o (.ins C dx (wf1 gl))) gl = some (.lst []):=by rw [upd_ne go]; exact upd_same
 have c5:(upd (upd H gl (.lst [])) o (.ins C dx (wf1 gl))) o = some (.ins C dx (wf1 gl)):=upd_same
 have k1:KpS [o] H (upd (upd H gl (.lst [])) o (.ins C dx (wf1 gl))):=(Same.kpS g1).trans (KpS.upd iE)
 have c8:A5 "gates" (V.ref gl) ([]:List (Str× V)) = (wf1 gl):=rfl
 rw [c8]
 generalize upd (upd H gl (.lst [])) o (.ins C dx (wf1 gl)) = H1 at *
 refine ⟨_,Z,n,Z,by omega,Int.lt_of_le_of_lt (Int.ofNat_le.mpr hn) (by decide),?_⟩
 rw [Int.toNat_natCast]
 refine Fy (lo:=0) (n:=n) (λ i ys H'=>KpS [gl] H1 H'∧ys = (List.range i).map (λ (i:Nat)=>V.int (i:Int))∧∃ gvs,H' gl = some (.lst gvs)∧PySem.Paired (GwAt H') (List.replicate i ("some", [])) gvs) ⟨KpS.refl _ _,Z,[],d8,.nil⟩ (iW hn (by decide)) ?_ ?_
 ·rintro i ys H2 N hi ⟨k2,rfl,gvs,a7,a9⟩ hN b3
  have lg:=PySem.Paired.length a9
  rw [iQ] at lg
  have a3:=k2 _ _ (λ z=>go (mS z).symm) c5
  refine ⟨_,Z,o,dx,_,Z,a3,Z,o,dx,gl,_,gvs,Z,a3,Z,Z,a7,by omega,λ v H3 k3 e3 w3=>?_⟩
  refine hN _ _ (by rw [iB,iD]; omega) ⟨k2.trans k3,?_,_,e3,?_⟩
  ·rw [range_succ,iM,← lg]; rfl
  ·rw [List.replicate_succ']
   exact Cq (Paired.mapP a9 λ _ _ a=>a.mono (λ b xs e=>k3 b _ (λ z=>by rw [mS z,a7] at e; cases e) e)) (.cons w3 .nil)
 rintro ys H2 b3 ⟨k2,rfl,gvs,a7,a9⟩ sl a4
 have a3:=k2 _ _ (λ z=>go (mS z).symm) c5
 have g3:=Ac a4 (.lst ((List.range n).map (λ (i:Nat)=>V.int (i:Int))))
 refine ⟨_,Z,o,C,dx,_,Z,g3 _ _ a3,T.cl,T.nS,(by show 1 < 1000; decide),?_⟩
 have so:sl≠o:=λ z=>by rw [z,a3] at a4; cases a4
 have sg:sl≠gl:=λ z=>by rw [z,a7] at a4; cases a4
 have d4:A5 "signs" (V.ref sl) (wf1 gl) = wf2 gl sl:=rfl
 rw [d4]
 have b6:(upd (upd H2 sl (.lst ((List.range n).map (λ (i:Nat)=>V.int (i:Int))))) o (.ins C dx (wf2 gl sl))) sl = some (.lst ((List.range n).map (λ (i:Nat)=>V.int (i:Int)))):=by rw [upd_ne so]; exact upd_same
 have a6:(upd (upd H2 sl (.lst ((List.range n).map (λ (i:Nat)=>V.int (i:Int))))) o (.ins C dx (wf2 gl sl))) o = some (.ins C dx (wf2 gl sl)):=upd_same
 have b5:(upd (upd H2 sl (.lst ((List.range n).map (λ (i:Nat)=>V.int (i:Int))))) o (.ins C dx (wf2 gl sl))) gl = some (.lst gvs):=by rw [upd_ne go,upd_ne (Ne.symm sg)]; exact a7
 have k3:KpS [o] H2 (upd (upd H2 sl (.lst ((List.range n).map (λ (i:Nat)=>V.int (i:Int))))) o (.ins C dx (wf2 gl sl))):=(Same.kpS g3).trans (KpS.upd iE)
 generalize upd (upd H2 sl (.lst ((List.range n).map (λ (i:Nat)=>V.int (i:Int))))) o (.ins C dx (wf2 gl sl)) = H3 at *
 have b8:∀ {A B:Hp} {c:Addr} {u:HO},KpS [c] A B→A c = some u→(∀ xs,u≠.tup xs)→Tp A B:=λ k e h b xs eb=>k b _ (λ z=>by rw [mS z,e] at eb; exact h xs (Option.some.inj eb)) eb
 have d7:=Paired.mapP a9 λ _ _ a=>a.mono (b8 k3 a3 (λ _ z=>nomatch z))
 refine ⟨_,Z,n,Z,by omega,Int.lt_of_le_of_lt (Int.ofNat_le.mpr hn) (by decide),?_⟩
 rw [Int.toNat_natCast]
 refine Fy (lo:=0) (n:=n) (λ i ys H'=>Same H3 H'∧∃ rs:List Addr,ys = rs.map V.ref∧rs.length = i∧rs.Nodup∧∀ r∈rs,H3 r = none∧H' r = some (.lst [])) ⟨Same.refl _,[],Z,Z,nodup_nil,λ r hr=>nomatch hr⟩ (iW hn (by decide)) ?_ ?_
 ·rintro i ys H4 N hi ⟨k4,rs,rfl,lr,nd,a2⟩ hN b3
  refine ⟨zN0,λ r hr=>?_⟩
  have g:=Ac hr (.lst [])
  refine hN _ _ (by rw [iB,iD]; omega) ⟨k4.trans g,rs ++ [r],by rw [iM]; rfl,by rw [iB,iD,lr],?_,?_⟩
  ·refine nodup_append.mpr ⟨nd,jQ.mpr ⟨λ z=>(nomatch z),nodup_nil⟩,λ a ha b hb e=>?_⟩
   rw [mS hb] at e
   rw [e] at ha
   rw [(a2 r ha).2] at hr
   cases hr
  ·intro b hb
   rcases iU.mp hb with z | z
   ·exact ⟨(a2 b z).1,g _ _ (a2 b z).2⟩
   ·rw [mS z]
    refine ⟨?_,upd_same⟩
    cases e:H3 r with
    | none=>rfl
    | some u=>rw [k4 _ _ e] at hr; cases hr
 rintro ys H4 b3 ⟨k4,rs,rfl,lr,nd,a2⟩ nl a1
 have g5:=Ac a1 (.lst (rs.map V.ref))
 refine ⟨_,Z,o,C,dx,_,Z,g5 _ _ (k4 _ _ a6),T.cl,T.nN,(by show 2 < 1000; decide),?_⟩
 have d3:A5 "senders" (V.ref nl) (wf2 gl sl) = wf3 gl sl nl:=rfl
 rw [d3]
 have no:nl≠o:=λ z=>by rw [z,k4 _ _ a6] at a1; cases a1
 have ng:nl≠gl:=λ z=>by rw [z,k4 _ _ b5] at a1; cases a1
 have ns:nl≠sl:=λ z=>by rw [z,k4 _ _ b6] at a1; cases a1
 have nr:nl∉rs:=λ z=>by rw [(a2 nl z).2] at a1; cases a1
 have k5:KpS [o] H3 (upd (upd H4 nl (.lst (rs.map V.ref))) o (.ins C dx (wf3 gl sl nl))):=((Same.kpS k4).trans (Same.kpS g5)).trans (KpS.upd iE)
 have d6:(upd (upd H4 nl (.lst (rs.map V.ref))) o (.ins C dx (wf3 gl sl nl))) nl = some (.lst (rs.map V.ref)):=by rw [upd_ne no]; exact upd_same
 have b4:(upd (upd H4 nl (.lst (rs.map V.ref))) o (.ins C dx (wf3 gl sl nl))) o = some (.ins C dx (wf3 gl sl nl)):=upd_same
 have b2:∀ r∈rs,H3 r = none∧(upd (upd H4 nl (.lst (rs.map V.ref))) o (.ins C dx (wf3 gl sl nl))) r = some (.lst []):=λ r hr=>⟨(a2 r hr).1,by rw [upd_ne (λ z=>by have h:=(a2 r hr).1; rw [z,a6] at h; cases h)]; exact g5 _ _ (a2 r hr).2⟩
 generalize upd (upd H4 nl (.lst (rs.map V.ref))) o (.ins C dx (wf3 gl sl nl)) = H5 at *
 have d2:=k5 _ _ (λ z=>go (mS z)) b5
 have c9:=k5 _ _ (λ z=>so (mS z)) b6
 have d5:=Paired.mapP d7 λ _ _ a=>a.mono (b8 k5 a6 (λ _ z=>nomatch z))
 refine λ ld b1=>?_
 have g6:=Ac b1 (.dK [])
 refine ⟨_,Z,o,C,dx,_,Z,g6 _ _ b4,T.cl,T.nL,(by show 3 < 1000; decide),?_⟩
 have lo:ld≠o:=λ z=>by rw [z,b4] at b1; cases b1
 have k6:KpS [o] H5 (upd (upd H5 ld (.dK [])) o (.ins C dx (wsF ⟨dx,gl,sl,nl,ld,rs⟩))):=(Same.kpS g6).trans (KpS.upd iE)
 have a5:∀ {c:Addr},c≠o→c∉[o]:=λ h z=>h (mS z)
 have ro:∀ r∈rs,r≠o:=λ r hr z=>by have:=(b2 r hr).1; rw [z,a6] at this; cases this
 have c6:KpS [o] H H2:=λ b u nb e=>k2 b u (λ z=>by rw [mS z,hgl] at e; cases e) (k1 b u nb e)
 have b9:=c6.trans k3
 have c7:=b9.trans k5
 have a8:∀ {A:Hp} {b:Addr},KpS [o] H A→A b = none→b≠o→H b = none:=λ {A b} k e nb=>by
  cases eb:H b with
  | none=>rfl
  | some u=>rw [k b u (a5 nb) eb] at e; cases e
 refine q ⟨dx,gl,sl,nl,ld,rs⟩ _ (c7.trans k6) ⟨gvs,upd_same,k6 _ _ (a5 go) d2,Paired.mapP d5 λ _ _ a=>a.mono (b8 k6 b4 (λ _ z=>nomatch z)),k6 _ _ (a5 so) c9,k6 _ _ (a5 no) d6,?_,?_,?_⟩ ?_ (a8 c6 a4 so)
 ·refine C9 (by show (List.replicate n []).length = rs.length; rw [iQ,lr]) λ j x e=>?_
  have hj:=(List.getElem?_eq_some_iff.mp e).1
  have hj:j < n:=by have h:j < (List.replicate n ([]:List Int)).length:=hj; rwa [iQ] at h
  have ex:x = []:=List.eq_of_mem_replicate (iN e)
  have b7:j < rs.length:=by omega
  refine ⟨rs[j],hX b7,?_⟩
  rw [ex]
  exact k6 _ _ (a5 (ro _ (jJ b7))) (b2 _ (jJ b7)).2
 ·show (upd (upd H5 ld (.dK [])) o (.ins C dx (wsF ⟨dx,gl,sl,nl,ld,rs⟩))) ld = some (.dK [])
  rw [upd_ne lo]
  exact upd_same
 ·have rn:∀ {c:Addr} {u:HO},H3 c = some u→c∉rs:=λ e z=>by rw [(b2 _ z).1] at e; cases e
  refine jQ.mpr ⟨?_,jQ.mpr ⟨?_,jQ.mpr ⟨nr,nd⟩⟩⟩
  ·intro z
   rcases jK.mp z with z | z
   ·exact sg z.symm
   ·rcases jK.mp z with z | z
    ·exact ng z.symm
    ·exact rn b5 z
  ·intro z
   rcases jK.mp z with z | z
   ·exact ns z.symm
   ·exact rn b6 z
 ·intro b hb
  rcases jK.mp hb with z | z
  ·rw [z]; exact hgl
  ·rcases jK.mp z with z | z
   ·rw [z]; exact a8 c7 b1 lo
   ·exact a8 b9 (b2 b z).1 (ro b z)
end
inductive Ur (K:PySem.W.Frag) (vs:List V) (H:Hp) (Q:VK):Prop
 | mk (v) (n) (_:vs = [v]) (_:PAt K H n v) (_:isT n = true) (_:Dw n = true) (_:cnt n≤900) (_:∀ r ws H',Same H H'→H' r = some (.lst ws)→Ba K H' (pre n) ws→Q (.ref r) H'):Ur K vs H Q
def AbM (K:PySem.W.Frag):Sp:=λ vs H Q _=>Ur K vs H Q
section
variable {P:Program} {w:World} {K:PySem.W.Frag} {mg:Str→Option Value} {base:Heap}
theorem AaW (F:A2 K mg "every_part" ["part"] F9) (aO:Aj P w K mg base 1 "inner_parts" ["part"] (Ln K)):Aj P w K mg base 2 "every_part" ["part"] (AbM K):=by
 refine F.ok Fj (λ vs H Q E h=>?_) (λ f cdv A outer s H vs Q E hr h=>?_)
 ·obtain ⟨v,n,rfl,_⟩:=h
  rfl
 obtain ⟨v,n,rfl,hv,hT,hs,hc,q⟩:=h
 refine ⟨_,Ad (Aw (i:=1) Fj.nd rfl (Or.inl rfl) (Ax Ab))
  (Ad (Aw (i:=2) Fj.nd rfl (Or.inl rfl) (Ax (Aa (pv 0) Ab)))
  (Ad (J1 PassesOwn.never (Ii (pv 2) (λ _=>rfl))
   (Ad (Aw (i:=3) Fj.nd rfl (Or.inl rfl) (Gz PySem.F.plainAttrs_list PySem.F.slot_list_pop PySem.F.type_list_pop K2 (pv 2)))
   (Ad (A0 (Dt PySem.F.plainAttrs_list PySem.F.slot_list_append PySem.F.type_list_append B6 (pv 1) (Aa (pv 3) Ab)))
   (Ae (A0 (Dt PySem.F.plainAttrs_list PySem.F.slot_list_extend PySem.F.type_list_extend Xp (pv 2) (Aa (Av aO hr rfl Ai (Aa (pv 3) Ab)) Ab)))))))
  (Ae (Au (pv 1))))),?_⟩
 refine ⟨zN0,λ fo b2=>⟨_,Z,zN1,λ wa a5=>?_⟩⟩
 have a4:wa≠fo:=by
  rintro rfl
  rw [upd_same] at a5
  cases a5
 have a9:H wa = none:=by rw [upd_ne a4] at a5; exact a5
 dsimp only [Bo,Vf]
 refine J0 (λ σ H1=>∃ fs st us ws b8,σ = [some v,some (.ref fo),some (.ref wa),b8]∧Same H H1∧H1 fo = some (.lst us)∧H1 wa = some (.lst ws)∧Ba K H1 fs us∧Ba K H1 st ws∧fs ++ Dh st = pre n∧(∀ x∈st,isT x = true)∧Bb st = true)
  (λ σ H1=>match H1 fo with | some (.lst us)=>1000 - us.length | _=>0) ?_ ?_ ?_
 ·refine ⟨[],[n],[],[v],none,Z,(Ac b2 _).trans (Ac a5 _),?_,upd_same,.nil,?_,?_,?_,?_⟩
  ·rw [upd_ne a4.symm,upd_same]
  ·exact .cons (hv.mono ((Ac b2 _).trans (Ac a5 _)).tp) .nil
  ·show Dh [n] = pre n
   rw [A1,B5,nil_append]
  ·intro x hx
   rw [mS hx]
   exact hT
  ·exact Hd hs Pn
 ·rintro σ H1 ⟨fs,st,us,ws,b8,rfl,g0,hf,hw,aF,aS,e,b7,c8⟩
  refine ⟨_,Z,_,.inl ⟨ws,SqL.of hw,Z⟩,?_⟩
  refine Ay (λ c=>?_) (λ c=>?_)
  ·
   have b9:st≠[]:=by
    rintro rfl
    have:=aS.len
    cases ws with
    | nil=>simp at c
    | cons _ _=>simp at this
   obtain ⟨a2,x,rfl⟩:∃ a2 x,st = a2 ++ [x]:=⟨st.dropLast,st.getLast b9,(List.dropLast_concat_getLast b9).symm⟩
   obtain ⟨a1,wx,rfl,c9,aX⟩:=aS.split
   obtain ⟨y,rfl,aY⟩:=aX.one
   have hx:isT x = true:=b7 x (by simp)
   obtain ⟨ns,rfl⟩:∃ ns,x = .t ns:=by
    cases x with
    | t ns=>exact ⟨ns,rfl⟩
    | s _=>cases hx
    | i _=>cases hx
   have a8:fs.length + (Dh (a2 ++ [.t ns])).length = cnt n:=by
    have:=congrArg length e
    rw [iB] at this
    exact this
   have c5:Dh (a2 ++ [.t ns]) = .t ns :: (Dh ns ++ Dh a2):=by
    rw [Ja,A1,B5,nil_append,C5]; rfl
   have d4:=aF.len
   have sl:=J4 c8
   have b5:=AaY sl.2
   have d3:fs.length < 1000:=by rw [c5] at a8; simp at a8; omega
   have d2:(a1 ++ [y]).length≤900:=by
    have h1:=aS.len
    have h2:(a2 ++ [Nd.t ns]).length≤(Dh (a2 ++ [.t ns])).length:=by
     have:∀ l:List Nd,(∀ x∈l,isT x = true)→l.length≤(Dh l).length:=by
      intro l
      induction l with
      | nil=>intro _; exact jX _
      | cons z r ih =>
       intro h
       rw [A1,iB,iT]
       have hz:=h z iE
       have:=ih λ x hx=>h x (iF _ hx)
       cases z with
       | t zs=>rw [C5,iT]; omega
       | s _=>cases hz
       | i _=>cases hz
     exact this _ b7
    omega
   refine ⟨_,Z,.inl ⟨Z,_,SqL.of hw⟩,wa,_,y,Z,Z,hw,by simp,?_⟩
   have b6:fo≠wa:=a4.symm
   have b3:(upd H1 wa (.lst (a1 ++ [y]).dropLast)) fo = some (.lst us):=by rw [upd_ne b6]; exact hf
   have T1:Tp H1 (upd H1 wa (.lst (a1 ++ [y]).dropLast)):=Tp.lst hw
   refine ⟨_,Z,.inl ⟨Z,_,SqL.of b3⟩,_,Z,fo,_,_,Z,Z,b3,Ex (by omega),?_⟩
   have T2:=T1.trans (Tp.lst (o:=.lst (us ++ [y])) b3)
   have a6:(upd (upd H1 wa (.lst (a1 ++ [y]).dropLast)) fo (.lst (us ++ [y]))) wa = some (.lst a1):=by rw [upd_ne a4,upd_same]; simp
   have b1:(upd (upd H1 wa (.lst (a1 ++ [y]).dropLast)) fo (.lst (us ++ [y]))) fo = some (.lst (us ++ [y])):=upd_same
   refine ⟨_,Z,.inl ⟨Z,_,SqL.of a6⟩,_,Z,y,ns,Z,aY.mono T2,Rb b5,λ r zs a3 hz=>?_⟩
   have a7:wa≠r:=ne_of_none a6 a3
   have b4:fo≠r:=ne_of_none b1 a3
   have T3:=T2.trans (Tp.new (o:=.lst zs) a3)
   have zl:=hz.len
   have il:(inner ns).length≤ns.length:=length_filter_le _ _
   refine ⟨wa,r,a1,zs,Z,Z,by rw [upd_ne a7]; exact a6,upd_same,?_,?_⟩
   ·have:=Rb b5
    simp at d2
    exact Eg (by omega)
   have T4:=T3.trans (Tp.lst (o:=.lst (a1 ++ zs)) (a:=wa) (ys:=a1) (by rw [upd_ne a7]; exact a6))
   refine ⟨⟨fs ++ [.t ns],a2 ++ inner ns,us ++ [y],a1 ++ zs,_,Z,?_,?_,upd_same,?_,?_,?_,?_,?_⟩,?_⟩
   ·have c6:H r = none:=by
     cases e:H r with
     | none=>rfl
     | some o =>
      have h1:=g0 r o e
      rw [upd_ne b4.symm,upd_ne a7.symm] at a3
      rw [h1] at a3
      cases a3
    exact (((g0.young a9 _).young b2 _).young c6 _).young a9 _
   ·rw [upd_ne b6,upd_ne b4]
    exact b1
   ·exact (aF.mono T4).append (.cons (aY.mono T4) .nil)
   ·have T5:Tp (upd (upd H1 wa (.lst (a1 ++ [y]).dropLast)) fo (.lst (us ++ [y]))) (upd (upd (upd (upd H1 wa (.lst (a1 ++ [y]).dropLast)) fo (.lst (us ++ [y]))) r (.lst zs)) wa (.lst (a1 ++ zs))) :=
     (Tp.new (o:=.lst zs) a3).trans (Tp.lst (o:=.lst (a1 ++ zs)) (a:=wa) (ys:=a1) (by rw [upd_ne a7]; exact a6))
    exact (c9.mono T4).append (hz.mono T5)
   ·rw [Ja,M2,← e,c5]
    simp
   ·intro x hx
    rcases iU.mp hx with z | z
    ·exact b7 x (jW _ z)
    ·exact Abb x z
   ·exact K8 sl.1 (Jd (AcX b5))
   ·show (match (upd (upd (upd (upd H1 wa (.lst (a1 ++ [y]).dropLast)) fo (.lst (us ++ [y]))) r (.lst zs)) wa (.lst (a1 ++ zs))) fo with | some (.lst us)=>1000 - us.length | _=>0) < (match H1 fo with | some (.lst us)=>1000 - us.length | _=>0)
    rw [upd_ne b6,upd_ne b4,b1,hf]
    show 1000 - (us ++ [y]).length < 1000 - us.length
    rw [iB,iD]
    omega
  ·
   have c7:ws = []:=by
    cases ws with
    | nil=>rfl
    | cons _ _=>simp at c
   subst c7
   have h0:=aS.len
   have:st = []:=length_eq_zero_iff.mp h0
   subst this
   rw [B5,jI] at e
   subst e
   exact ⟨_,Z,q fo us H1 g0 hf aF⟩
 ·rintro σ H Q Q' h ⟨v,e,k,t,q⟩
  exact ⟨v,e,k,t,h _ _ q⟩
def C3:Nd→Option Int
 | .t (.s w :: .i k :: _)=>if w = "rest" ∨ w = "again" then some k else none
 | _=>none
def Q8:Nd→Bool
 | .t (.s _ :: .i _ :: _)=>true
 | .t (.s w :: _)=>decide (¬ w = "rest" ∧ ¬ w = "again")
 | _=>false
def okA (n:Nd):Bool:=(pre n).all Q8
def rests (n:Nd):List Int:=(pre n).filterMap C3
structure Y1 (K:PySem.W.Frag) (H:Hp) (n:Nd) (v:V):Prop where
 at':PAt K H n v
 ti:isT n = true
 sl:Dw n = true
 ct:cnt n≤900
 ok:okA n = true
 rl:(rests n).length < 64
inductive Pq (K:PySem.W.Frag) (vs:List V) (H:Hp) (Q:VK):Prop
 | mk (v) (n) (_:vs = [v]) (_:Y1 K H n v) (_:∀ r (ms:List Int) H',Same H H'→H' r = some (.lst (ms.map V.int))→ms.Perm (rests n)→ms.Pairwise (·≤·)→Q (.ref r) H'):Pq K vs H Q
def Ue (K:PySem.W.Frag):Sp:=λ vs H Q _=>Pq K vs H Q
theorem Yo {x:Nd} (h:Q8 x = true):∃ (w:Str) (ys:List Nd),x = .t (.s w :: ys)∧((w = "rest" ∨ w = "again")→∃ k zs,ys = .i k :: zs):=by
 cases x with
 | s _=>cases h
 | i _=>cases h
 | t xs =>
  cases xs with
  | nil=>cases h
  | cons a r =>
   cases a with
   | i _=>cases h
   | t _=>cases h
   | s w =>
    refine ⟨w,r,Z,λ hw=>?_⟩
    cases r with
    | nil =>
     have h:decide (¬ w = "rest" ∧ ¬ w = "again") = true:=h
     have h:=iK h
     rcases hw with z | z
     ·exact absurd z h.1
     ·exact absurd z h.2
    | cons b r' =>
     cases b with
     | i k=>exact ⟨k,r',rfl⟩
     | s _ =>
      have h:decide (¬ w = "rest" ∧ ¬ w = "again") = true:=h
      have h:=iK h
      rcases hw with z | z
      ·exact absurd z h.1
      ·exact absurd z h.2
     | t _ =>
      have h:decide (¬ w = "rest" ∧ ¬ w = "again") = true:=h
      have h:=iK h
      rcases hw with z | z
      ·exact absurd z h.1
      ·exact absurd z h.2
theorem Aaw (F:A2 K mg "rests_of" ["part"] Ga) (T:Txt mg) (cX:Aj P w K mg base 2 "every_part" ["part"] (AbM K)):Aj P w K mg base 3 "rests_of" ["part"] (Ue K):=by
 refine F.ok Sr (λ vs H Q E h=>?_) (λ f cdv A outer s H vs Q E hr h=>?_)
 ·obtain ⟨v,n,rfl,_⟩:=h
  rfl
 obtain ⟨v,n,rfl,N,q⟩:=h
 refine ⟨_,(Ae (Au (Bs Sg rfl T.n_sorted (by decide +kernel) (Aa (Cb (g:=(Bo 0)) (tc:=(tOr (Ip (tOp rEq (tOp (Fo K) (Bh 0) (tC (.int 0))) (tC (.str "rest")))) (Ip (tOp rEq (tOp (Fo K) (Bh 0) (tC (.int 0))) (tC (.str "again")))))) (te:=(tOp (Fo K) (Bh 0) (tC (.int 1)))) ["inner"] [] rfl (Bw (Ag Ga) ["part"] (by decide +kernel)) (B9 (Av cX hr rfl Ai (Aa (pv 0) Ab))) (λ s2 H2 fp cl C=>Aq (i:=0) (show Nodup [("inner" : Str)] from by decide +kernel) rfl (Or.inl rfl)) (Bf (by decide)) (λ s2 H2 fp cl C=>Dm (PW.pt (Fu (Am A9 (Ak Ar (pv 0) Af (λ _ _=>rfl)) Ao (Ap _)) (Ft (Am A9 (Ak Ar (pv 0) Af (λ _ _=>rfl)) Ao (Ap _)))))) (λ s2 H2 fp cl C=>(Ak Ar (pv 0) Af (λ _ _=>rfl)))) Ab)))),?_⟩
 refine ⟨_,Z,v,n,Z,N.at',N.ti,N.sl,N.ct,λ r ws H1 g1 a2 aP=>?_⟩
 refine ⟨r,Z,⟨_,SqL.of a2⟩,?_⟩
 have a8:=aP.len
 have b1:(pre n).length≤900:=N.ct
 refine Ci (K:=K) (xs:=ws) (λ i ys H'=>H' = H1∧ys = (((pre n).take i).filterMap C3).map V.int) ⟨Z,by simp⟩ (Eg (by omega)) (λ i ys H' ⟨e,_⟩=>by rw [e]; exact SqL.of a2) ?_ ?_
 ·rintro i x ys H' Nx hi ⟨rfl,rfl⟩ hN a4
  obtain ⟨nd,hn,a7⟩:=aP.at hi
  have hok:Q8 nd = true:=all_eq_true.mp N.ok nd (iN hn)
  obtain ⟨wd,zs,rfl,hw⟩:=Yo hok
  obtain ⟨a,vs,rfl,ha,hx⟩:=a7.get
  unfold Ba at hx
  obtain ⟨v1,a9,rfl,aX,aY⟩:=hx
  cases aX.str
  have a3:((pre n).take (i + 1)).filterMap C3 = ((pre n).take i).filterMap C3 ++ (C3 (.t (.s wd :: zs))).toList:=by
   rw [take_add_one,hn,List.filterMap_append]
   cases e:C3 (.t (.s wd :: zs)) <;> simp [e]
  have yes:(wd = "rest" ∨ wd = "again")→tOp (Fo K) (Bh 0) (tC (.int 1)) ((Js 1 [] (L2.start ["part"] [v])).set 0 (some (.ref a))) H' λ y H4=>Nx ((((pre n).take i).filterMap C3).map V.int ++ [y]) H4:=by
   intro a1
   obtain ⟨k,a5,rfl⟩:=hw a1
   unfold Ba at aY
   obtain ⟨v2,b2,rfl,aZ,_⟩:=aY
   cases aZ.int
   refine ⟨_,Z,a,_,_,.int k,Z,Z,ha.sq,Ah (j:=1) rfl,hN _ _ ?_ ⟨Z,?_⟩⟩
   ·rw [iB,iD]; omega
   ·rw [a3]
    have:C3 (.t (.s wd :: .i k :: a5)) = some k:=if_pos a1
    rw [this]
    simp
  have no:¬ (wd = "rest" ∨ wd = "again")→Nx ((((pre n).take i).filterMap C3).map V.int) H':=by
   intro a1
   refine hN _ _ (by omega) ⟨Z,?_⟩
   rw [a3]
   have:C3 (.t (.s wd :: zs)) = none:=by
    unfold C3
    split
    ·rename_i e
     cases e
     exact if_neg a1
    ·rfl
   rw [this]
   simp
  refine ⟨_,Z,a,_,_,.str wd,Z,Z,ha.sq,Ah (j:=0) rfl,Z,_,Z,?_⟩
  refine Ay (λ c=>?_) (λ c=>?_)
  ·refine Dv ?_
   exact yes (.inl (V.str.inj (iK c)))
  ·refine ⟨_,Z,a,_,_,.str wd,Z,Z,ha.sq,Ah (j:=0) rfl,Z,_,Z,?_⟩
   refine Ay (λ c2=>?_) (λ c2=>?_)
   ·exact yes (.inr (V.str.inj (iK c2)))
   ·refine no λ z=>?_
    rcases z with z | z
    ·exact c (iI (congrArg V.str z))
    ·exact c2 (iI (congrArg V.str z))
 ·rintro ys H' a4 ⟨rfl,rfl⟩ D hD
  have e:((pre n).take ws.length).filterMap C3 = rests n:=by
   rw [iP (by omega)]; rfl
  rw [e]
  refine ⟨D,rests n,Z,SqL.of upd_same,N.rl,λ r2 ms a6 hp hs=>?_⟩
  exact q r2 ms _ ((g1.trans (Ac hD _)).trans (Ac a6 _)) upd_same hp hs
end
theorem Wv {w:Str} (h:¬ (w = "rest" ∨ w = "again")) (k:Int) (r:List Nd):C3 (.t (.s w :: .i k :: r)) = none:=by rw [C3,if_neg h]
theorem Adu {w:Str} (h:w = "rest" ∨ w = "again") (k:Int) (r:List Nd):C3 (.t (.s w :: .i k :: r)) = some k:=by rw [C3,if_pos h]
theorem Acj {w:Str} (h:¬ w = "rest" ∧ ¬ w = "again") (xs r:List Nd):Q8 (.t (.s w :: .t xs :: r)) = true:=iI h
theorem Aej {w:Str} (h:¬ w = "rest" ∧ ¬ w = "again"):Q8 (.t [.s w]) = true:=iI h
theorem Acu (p:Pt):∃ xs,p.nd = .t xs:=by cases p <;> exact ⟨_,Z⟩
structure NdF (p:Pt):Prop where
 rs:rests p.nd = rsP p
 ct:cnt p.nd = p.sz
 sl:Dw p.nd = true
 ok:okA p.nd = true
theorem ndF {n:Nat}:∀ {p:Pt},okN n p→NdF p:=by
 have a1:∀ (x:Nd),Dh [x] = pre x:=λ x=>by rw [A1,B5,nil_append]
 have one:∀ (w:Str) (k:Int) (p:Pt),¬ (w = "rest" ∨ w = "again")→NdF p→rests (.t [.s w,.i k,p.nd]) = rsP p∧cnt (.t [.s w,.i k,p.nd]) = p.sz + 1∧Dw (.t [.s w,.i k,p.nd]) = true∧okA (.t [.s w,.i k,p.nd]) = true:=λ w k p h f=>by
  have e:pre (.t [.s w,.i k,p.nd]) = .t [.s w,.i k,p.nd] :: pre p.nd:=by rw [C5,A1,A1,a1,Dk,E6,jI,jI]
  refine ⟨?_,?_,Fv (by show 3≤8; decide) ?_,?_⟩
  ·unfold rests; rw [e,filterMap_cons_none (Wv h _ _)]; exact f.rs
  ·unfold cnt; rw [e,iT]; exact congrArg (· + 1) f.ct
  ·rw [Bb,Bb,Bb,Bb,f.sl]; rfl
  ·unfold okA; rw [e,all_cons]; exact f.ok
 have two:∀ (w:Str) (p q:Pt),(¬ w = "rest" ∧ ¬ w = "again")→NdF p→NdF q→rests (.t [.s w,p.nd,q.nd]) = rsP q ++ rsP p∧cnt (.t [.s w,p.nd,q.nd]) = p.sz + q.sz + 1∧Dw (.t [.s w,p.nd,q.nd]) = true∧okA (.t [.s w,p.nd,q.nd]) = true:=λ w p q h f g=>by
  have e:pre (.t [.s w,p.nd,q.nd]) = .t [.s w,p.nd,q.nd] :: (pre q.nd ++ pre p.nd):=by rw [C5,A1,A1,a1,Dk,jI]
  obtain ⟨xs,ex⟩:=Acu p
  refine ⟨?_,?_,Fv (by show 3≤8; decide) ?_,?_⟩
  ·unfold rests
   rw [e,filterMap_cons_none (by rw [ex]; rfl),List.filterMap_append,← f.rs,← g.rs]; rfl
  ·unfold cnt; rw [e,iT,iB]; have:=f.ct; have:=g.ct; unfold cnt at *; omega
  ·rw [Bb,Bb,Bb,Bb,f.sl,g.sl]; rfl
  ·unfold okA
   rw [e,all_cons,List.all_append]
   have h1:=f.ok
   have h2:=g.ok
   unfold okA at h1 h2
   rw [h1,h2,ex,Acj h]; rfl
 intro p
 induction p with
 | nothing=>exact λ _=>⟨by unfold rests; rw [Pt.nd,C5,A1,B5,Dk]; rfl,by unfold cnt; rw [Pt.nd,C5,A1,B5,Dk]; rfl,by rw [Pt.nd]; exact Fv (by show 1≤8; decide) (by rw [Bb,Bb,Dw]; rfl),by unfold okA; rw [Pt.nd,C5,A1,B5,Dk,all_cons,Aej (by decide +kernel)]; rfl⟩
 | rest k=>exact λ _=>⟨by unfold rests; rw [Pt.nd,C5,A1,A1,B5,Dk,E6,List.filterMap_cons_some (Adu (.inl rfl) _ _)]; rfl,by unfold cnt; rw [Pt.nd,C5,A1,A1,B5,Dk,E6]; rfl,by rw [Pt.nd]; exact Fv (by show 2≤8; decide) (by rw [Bb,Bb,Bb,Dw,Dw]; rfl),by unfold okA; rw [Pt.nd,C5,A1,A1,B5,Dk,E6]; rfl⟩
 | send k=>exact λ _=>⟨by unfold rests; rw [Pt.nd,C5,A1,A1,B5,Dk,E6,filterMap_cons_none (Wv (by decide +kernel) _ _)]; rfl,by unfold cnt; rw [Pt.nd,C5,A1,A1,B5,Dk,E6]; rfl,by rw [Pt.nd]; exact Fv (by show 2≤8; decide) (by rw [Bb,Bb,Bb,Dw,Dw]; rfl),by unfold okA; rw [Pt.nd,C5,A1,A1,B5,Dk,E6]; rfl⟩
 | exit k=>exact λ _=>⟨by unfold rests; rw [Pt.nd,C5,A1,A1,B5,Dk,E6,filterMap_cons_none (Wv (by decide +kernel) _ _)]; rfl,by unfold cnt; rw [Pt.nd,C5,A1,A1,B5,Dk,E6]; rfl,by rw [Pt.nd]; exact Fv (by show 2≤8; decide) (by rw [Bb,Bb,Bb,Dw,Dw]; rfl),by unfold okA; rw [Pt.nd,C5,A1,A1,B5,Dk,E6]; rfl⟩
 | stay ks=>exact λ ok=>absurd ok id
 | iff i p q a3 a2 =>
  intro ok
  have f:=a3 ok.2.1
  have g:=a2 ok.2.2
  have e:pre (.t [.s "if", .i i,p.nd,q.nd]) = .t [.s "if", .i i,p.nd,q.nd] :: (pre q.nd ++ pre p.nd):=by rw [C5,A1,A1,A1,a1,Dk,E6,jI,jI]
  refine ⟨?_,?_,?_,?_⟩
  ·rw [Pt.nd]; unfold rests
   rw [e,filterMap_cons_none (Wv (by decide +kernel) _ _),List.filterMap_append,rsP,← f.rs,← g.rs]; rfl
  ·rw [Pt.nd]; unfold cnt; rw [e,iT,iB]; have:=f.ct; have:=g.ct; unfold cnt at *; rw [Pt.sz]; omega
  ·rw [Pt.nd]; exact Fv (by show 4≤8; decide) (by rw [Bb,Bb,Bb,Bb,Bb,f.sl,g.sl]; rfl)
  ·rw [Pt.nd]; unfold okA
   rw [e,all_cons,List.all_append]
   have h1:=f.ok
   have h2:=g.ok
   unfold okA at h1 h2
   rw [h1,h2]; rfl
 | again k p ih =>
  intro ok
  have f:=ih ok
  have e:pre (.t [.s "again", .i k,p.nd]) = .t [.s "again", .i k,p.nd] :: pre p.nd:=by rw [C5,A1,A1,a1,Dk,E6,jI,jI]
  refine ⟨?_,?_,?_,?_⟩
  ·rw [Pt.nd]; unfold rests
   rw [e,List.filterMap_cons_some (Adu (.inr rfl) _ _),rsP,← f.rs]; rfl
  ·rw [Pt.nd]; unfold cnt; rw [e,iT]; exact congrArg (· + 1) f.ct
  ·rw [Pt.nd]; exact Fv (by show 3≤8; decide) (by rw [Bb,Bb,Bb,Bb,f.sl]; rfl)
  ·rw [Pt.nd]; unfold okA; rw [e,all_cons]; exact f.ok
 | hold i p ih=>exact λ ok=>by obtain ⟨h1,h2,h3,h4⟩:=one "hold" i p (by decide +kernel) (ih ok.2); exact ⟨h1,h2,h3,h4⟩
 | watch i p ih=>exact λ ok=>by obtain ⟨h1,h2,h3,h4⟩:=one "watch" i p (by decide +kernel) (ih ok.2); exact ⟨h1,h2,h3,h4⟩
 | trap p ih =>
  intro ok
  have f:=ih ok
  have e:pre (.t [.s "trap", p.nd]) = .t [.s "trap", p.nd] :: pre p.nd:=by rw [C5,A1,a1,Dk,jI]
  obtain ⟨xs,ex⟩:=Acu p
  refine ⟨?_,?_,?_,?_⟩
  ·rw [Pt.nd]; unfold rests
   rw [e,filterMap_cons_none (by rw [ex]; rfl),rsP,← f.rs]; rfl
  ·rw [Pt.nd]; unfold cnt; rw [e,iT]; exact congrArg (· + 1) f.ct
  ·rw [Pt.nd]; exact Fv (by show 2≤8; decide) (by rw [Bb,Bb,Bb,f.sl]; rfl)
  ·rw [Pt.nd]; unfold okA
   have h1:=f.ok
   unfold okA at h1
   rw [e,all_cons,h1,ex,Acj (by decide +kernel)]; rfl
 | thn p q a3 a2=>exact λ ok=>by obtain ⟨h1,h2,h3,h4⟩:=two "then" p q (by decide +kernel) (a3 ok.1) (a2 ok.2); exact ⟨h1,h2,h3,h4⟩
 | bes p q a3 a2=>exact λ ok=>by obtain ⟨h1,h2,h3,h4⟩:=two "beside" p q (by decide +kernel) (a3 ok.1) (a2 ok.2); exact ⟨h1,h2,h3,h4⟩
theorem Abs {K:PySem.W.Frag} {H:Hp} {n:Nat} {p:Pt} {v:V} (h:PAt K H p.nd v) (ok:okN n p) (hz:p.sz≤900) (hr:(rsP p).length < 64):Y1 K H p.nd v :=
 ⟨h,Gy p,(ndF ok).sl,by rw [(ndF ok).ct]; exact hz,(ndF ok).ok,by rw [(ndF ok).rs]; exact hr⟩
structure AdE (n m:Nat) (s:Ws) (nx:List Int) (l d:Nat):Prop where
 g:∀ g∈s.gs,FmG n m s.gs.length g∧g.2.length≤1000
 nr:RL s nx
 ln:nx.length = l
 hi:s.gs.length≤d
 lo:n≤s.gs.length
structure Ad5 (C:Addr) (H0 H:Hp) (v:V) (n:Nat) (s:Ws) (nx:List Int):Prop where
 h:∃ o L t te ln,v = .ref t∧(H0 L.gl = none∧H0 L.sl = none∧H0 ln = none)∧H t = some (.tup [.ref L.gl,.ref L.sl,.ref te,.ref ln])∧Bk C H o L n s∧H ln = some (.lst (nx.map V.int))
inductive Sy (K:PySem.W.Frag) (C:Addr) (b:Nat) (vs:List V) (H:Hp) (Q:VK):Prop
 | mk (a:Addr) (x0 x1 v:V) (n m:Nat) (p:Pt) (_:vs = [.ref a]) (_:H a = some (.tup [x0,x1,.int n,v])) (_:PAt K H p.nd v) (_:p.hg≤b) (_:okN n p) (_:n≤100) (_:p.sz≤600) (_:(rsP p).length < 64) (_:(∀ k∈rsP p,0≤k∧k < m)) (_:∀ v' s nx H',Same H H'→Ad5 C H H' v' n s nx→AdE n m s nx (rsP p).length (50 * p.sz + 2 * n + 3)→Q v' H'):Sy K C b vs H Q
def AbP (K:PySem.W.Frag) (C:Addr) (b:Nat):Sp:=λ vs H Q _=>Sy K C b vs H Q
section
variable {P:Program} {w:World} {K:PySem.W.Frag} {mg:Str→Option Value} {base:Heap} {C CP:Addr}
seal PSs PS PE PA PT
theorem Zr {m:Nat} {fW:Addr} {b5:FuncData} (F:A2 K mg "net_of" ["program"] Ik) (T:B2 K mg C CP) (d5:Mk K C fW) (GW:Bl P w K mg base CX0 3 fW b5 ["self", "signs"] (Sv C)) (bW:Bi K b5 ["self", "signs"] []) (aJ:A4 P w K mg base 1 C "gate" ["self", "word", "numbers"] (F2 C)) (aD:A4 P w K mg base 1 C "fill" ["self", "number", "word", "numbers"] (F0 C)) (aK:Aj P w K mg base 3 "code_gate" ["wiring", "whole", "code"] (Qb C CP)) (fJ:Aj P w K mg base 3 "rests_of" ["part"] (Ue K)) (aW:Aj P w K mg base (m + 6) "wire_part" ["wiring", "part"] (Jh K C CP m)):Aj P w K mg base (m + 7) "net_of" ["program"] (AbP K C m):=by
 refine F.ok Ey (λ vs H Q E h=>?_) (λ fn cdv A outer s0 H vs Q E hr h=>?_)
 ·obtain ⟨a,x0,x1,v,n,m,p,rfl,_⟩:=h; rfl
 obtain ⟨pa,x0,x1,v,n,m,p,rfl,a5,hp,hh,ok,hn,hz,b6,hk,q⟩:=h
 obtain ⟨uE,hE,rE⟩:=T.gE
 obtain ⟨uR,hR,rR⟩:=T.gR
 have hu:=iZ (add_le_add_left (show 1≤64 by decide) _) hr.units
 refine ⟨_,(Ad (Aw (i:=1) Ey.nd rfl (Or.inr rfl) (Lh d5 GW (hr.mono (by omega)) rfl T.m_Wiring bW .nil Ai (Aa (Ak Ar (pv 0) Af (λ _ _=>rfl)) Ab)))
  (Ad (Aw (i:=2) Ey.nd rfl (Or.inl rfl) (Av aW hr rfl Ai (Aa (pv 1) (Aa (Ak Ar (pv 0) Af (λ _ _=>rfl)) Ab))))
  (Ad (A0 (An aD hr Ai (pv 1) (Aa (Al (pv 2) rfl) (Aa Ao (Aa (Ax (Aa (An aJ hr Ai (pv 1) (Aa Ao (Aa (Ax Ab) Ab))) (Aa (Al (pv 2) rfl) Ab))) Ab)))))
  (Ad (A0 (An aD hr Ai (pv 1) (Aa (Al (pv 2) rfl) (Aa Ao (Aa (Ax Ab) Ab)))))
  (Ad (A0 (An aD hr Ai (pv 1) (Aa (Al (pv 2) rfl) (Aa Ao (Aa (Ax Ab) Ab)))))
  (Ad (De PassesOwn.never rfl (Jm rfl T.n_enumerate (Aa (Al (pv 1) rfl) Ab)) (C1 rfl (Bc (Aq (i:=3) Ey.nd rfl (Or.inl rfl)) (Bc (Aq (i:=4) Ey.nd rfl (Or.inl rfl)) Ch)))
   (Ae (A0 (An aD hr Ai (pv 1) (Aa (Ak Be (Al (pv 1) rfl) (pv 3) (λ _ _=>rfl)) (Aa Ao (Aa (A8 Fw (Ax (Aa (An aJ hr Ai (pv 1) (Aa Ao (Aa (Ax (Aa (pv 3) Ab)) Ab))) Ab)) (pv 4)) Ab)))))))
  (Ad (Aw (i:=5) Ey.nd rfl (Or.inl rfl) (A3 (Aa (Av aK hr rfl Ai (Aa (pv 1) (Aa (pv 2) (Aa (Bx rfl hE rE) Ab)))) (Aa (Av aK hr rfl Ai (Aa (pv 1) (Aa (pv 2) (Aa (Bx rfl hR rR) Ab)))) Ab))))
  (Ad (Ds (j:=6) (g:=(Bo 0)) (tc:=Cn) (te:=(P6 (Acq K (Bh 1) "leavers") (Bh 0))) ["rest"] [("wiring", 1)] Ey.nd rfl (Or.inl rfl) rfl (Bw (Ag Ik) ["program", "wiring", "body", "sign", "senders", "ends", "nexts"] (by decide +kernel)) (B9 (Av fJ hr rfl Ai (Aa (Ak Ar (pv 0) Af (λ _ _=>rfl)) Ab))) (λ s2 H2 fp cl C=>Aq (i:=0) (show Nodup [("rest" : Str),("wiring" : Str)] from by decide +kernel) rfl (Or.inl rfl)) (Bf (by decide)) (λ s2 H2 fp cl C=>Cs) (λ s2 H2 fp cl C=>(Ls hu (Al (pv 1) rfl) (pv 0) (λ _ _=>rfl))))
  (Ae (Au (A3 (Aa (Al (pv 1) rfl) (Aa (Al (pv 1) rfl) (Aa (pv 5) (Aa (pv 6) Ab))))))))))))))),?_⟩
 refine ⟨_,Z,pa,_,_,_,Z,Z,SqT.of a5,Ah (j:=2) rfl,?_⟩
 refine λ o dx na nd ne=>?_
 have sA:Same H (upd (upd H dx (.own o)) o (.ins C dx [])):=λ b u e=>by
  rw [upd_ne (ne_of_none e na),upd_ne (ne_of_none e nd)]
  exact e
 refine ⟨o,dx,n,Z,upd_same,iW hn (by decide),λ L H1 k1 W1 fr fs=>⟨Z,?_⟩⟩
 have g1:Same H H1:=λ b u e=>k1 b u (λ z=>by rw [mS z,na] at e; cases e) (sA b u e)
 have sm:∀ {H':Hp},KpS L.S H1 H'→Same H H':=λ k b u e=>k b u (λ z=>by
  have:=fr b z
  rw [sA b u e] at this
  cases this) (g1 b u e)
 have l0:(ws0 n).gs.length = n:=iQ
 have c0:Cap (50 * p.sz + 2 * n + 3) (ws0 n) (50 * p.sz + (n + 3)):=⟨by omega,by show 0 + _≤_; omega,λ r hr=>by rw [List.eq_of_mem_replicate hr]; show 0 + _≤_; omega⟩
 have a6:Hv C o L n m H1 (ws0 n) (50 * p.sz + (n + 3)):=⟨W1,⟨λ g hg=>by rw [List.eq_of_mem_replicate hg]; exact ⟨.inr (.inr (.inr ⟨.inr (.inl rfl),λ x hx=>nomatch hx⟩)),jX _⟩,λ r hr=>by rw [List.eq_of_mem_replicate hr]; exact .nil,λ p hp=>nomatch hp⟩,by omega,iQ,⟨by have:=c0.1; omega,by have:=c0.2.1; omega,λ r hr=>by have:=c0.2.2 r hr; omega⟩⟩
 refine ⟨_,Z,_,Z,pa,_,_,_,Z,Z,SqT.of (g1 _ _ a5),Ah (j:=3) rfl,o,v,p,L,n,m,ws0 n,Z,a6.nw (S:=L.S) |>.hv a6 (by omega),hp.mono g1.tp,hh,ok,hk,λ b H2 s2 rb U2 nb D2 w2 d3=>?_⟩
 have c2:=U2.c _ _ c0
 have a1:Hv C o L n m H2 s2 (n + 3):=U2.hv a6 (iX _)
 obtain ⟨bx,bd,bo,a2,e9⟩:=id D2
 have bS:=(U2.w.objOff a2).2
 obtain ⟨_,a9,_⟩:=id U2.w
 refine ⟨_,Z,o,L.dx,_,Z,a9,Z,_,Z,b,CP,bx,_,.int rb.runs,Z,a2,T.clP,T.nR,Z,_,Z,o,L.dx,_,Z,a9,Z,zN0,λ l3 h3=>?_⟩
 have V3:=(a1.nw (S:=L.S)).new h3 (.lst [])
 refine ⟨o,l3, "start", [],L,n,m,_,Z,V3.hv a1 (by omega),upd_same,.inl ⟨Z,Z⟩,jX _,λ H3 s3 i3 V4 j3=>?_⟩
 have V3:=V3.trans V4
 refine ⟨_,Z,b,CP,bx,_,.int rb.rests,Z,V3.k _ _ bS a2,T.clP,T.nE,Z,zN2,λ l4 h4=>?_⟩
 have V4:=V3.new h4 (.lst [V.int i3,.int rb.rests])
 refine ⟨o,l4,rb.runs, "some", [i3,rb.rests],L,n,m,_,Z,V4.hv a1 (by omega),upd_same,w2.1.1.up V4.lo,.inr rfl,.two j3 (w2.2.1.up V4.lo),(by show 2≤1000; decide),λ H5 s5 V5=>?_⟩
 have V5:=V4.trans V5
 obtain ⟨_,c6,_⟩:=id V5.w
 refine ⟨_,Z,o,L.dx,_,Z,c6,Z,_,Z,b,CP,bx,_,.int rb.kept,Z,V5.k _ _ bS a2,T.clP,T.nK,Z,zN0,λ l6 h6=>?_⟩
 have V6:=V5.new h6 (.lst [])
 refine ⟨o,l6,rb.kept, "all", [],L,n,m,_,Z,V6.hv a1 (by omega),upd_same,w2.1.2.1.up V6.lo,.inl rfl,.nil,jX _,λ H7 s7 V7=>?_⟩
 have V7:=V6.trans V7
 obtain ⟨_,e6,_⟩:=id V7.w
 refine ⟨_,Z,o,L.dx,_,Z,e6,Z,_,Z,b,CP,bx,_,.int rb.stays,Z,V7.k _ _ bS a2,T.clP,T.nT,Z,zN0,λ l8 h8=>?_⟩
 have V8:=V7.new h8 (.lst [])
 refine ⟨o,l8,rb.stays, "some", [],L,n,m,_,Z,V8.hv a1 (by omega),upd_same,w2.1.2.2.up V8.lo,.inr rfl,.nil,jX _,λ H9 s9 V9=>?_⟩
 have V9:=V8.trans V9
 obtain ⟨f9,c7,i9,f3,g6,d4,d9,g8,i7⟩:=id V9.w
 have c8:L.rs.length = n:=by rw [← PySem.Paired.length d9,V9.sl,a1.sl]
 refine ⟨_,Z,o,C,L.dx,_,.ref L.nl,Z,c7,T.cl,T.nN,Z,L.nl,Z,⟨_,SqL.of d4⟩,Mo (K:=K) (l:=L.nl) (xs:=L.rs.map V.ref) (λ i σ H'=>∃ x3 x4 s',σ = [some (.ref pa),some (.ref o),some (.ref b),x3,x4,none,none]∧Nw C o L n m L.S H2 s2 H' s' (1 + i)) ⟨none,none,s9,Z,V9⟩ ?_ ?_ ?_⟩
 ·rintro i σ H' _ ⟨_,_,_,_,U⟩
  obtain ⟨_,_,_,_,_,d6,_⟩:=U.w
  exact SqL.of d6
 ·rintro i x t σ HA hi ⟨x3,x4,e0,rfl,VA⟩ ht
  have a3:i < L.rs.length:=by have:=(List.getElem?_eq_some_iff.mp hi).1; rwa [hZ] at this
  rw [iH,hX a3] at hi
  cases hi
  have VB:=VA.new ht (.tup [V.int (i:Int),V.ref L.rs[i]])
  obtain ⟨f7,a7,i4,f8,c9,g5,h7,g7,i2⟩:=id VB.w
  refine ⟨t,_,Z,SqT.of upd_same,Z,_,_,Z,_,_,Z,Z,_,Z,o,L.dx,_,Z,a7,Z,_,Z,o,C,L.dx,_,.ref L.sl,Z,a7,T.cl,T.nS,Z,_,Z,L.sl,_,_,.int (i:Int),Z,Z,SqL.of c9,Ah (by rw [iH,getElem?_range (by omega)]; rfl),_,Z,o,L.dx,_,Z,a7,Z,_,Z,zN1,λ l1 h1=>?_⟩
  have VC:=VB.new h1 (.lst [V.int (i:Int)])
  refine ⟨o,l1, "given", [(i:Int)],L,n,m,_,Z,VC.hv a1 (by omega),upd_same,.inr (.inr (.inl ⟨Z,(i:Int),Z,by omega,by omega⟩)),(by show 1≤1000; decide),λ HC sC iC VD jC=>⟨zN1,λ l2 h2=>?_⟩⟩
  have VD:=(VC.trans VD).new h2 (.lst [V.int iC])
  obtain ⟨f6,i6,j2,e7,h9,g3,d8,g4,i8⟩:=id VD.w
  have a8:i < sC.sn.length:=by rw [VD.sl,a1.sl]; omega
  obtain ⟨rr,f1,f2⟩:=Bn d8 (hX a8)
  rw [hX a3] at f1
  cases f1
  have b8:(sC.sn[i]).length + 1≤1000:=by
   have:=(VD.c _ 0 (c2.le (by omega))).2.2 _ (jJ a8)
   omega
  refine ⟨_,Z,l2,L.rs[i],_,_,Z,Z,upd_same,f2,by rw [hZ,iD]; exact iW (by omega:_≤2000) (by decide),λ l5 h5=>?_⟩
  have VE:=VD.new h5 (.lst ([V.int iC] ++ (sC.sn[i]).map V.int))
  exact ⟨o,l5,(i:Int), "some", iC :: sC.sn[i],L,n,m,_,Z,VE.hv a1 (by omega),upd_same,⟨Int.natCast_nonneg _,by have:=a1.nl; have:=VE.lo; unfold Ws.nx; omega⟩,.inr rfl,.cons jC (VD.f.sn _ (jJ a8)),b8,λ HE sE VF=>⟨_,_,sE,Z,VE.trans VF⟩⟩
 ·rintro σ HA ⟨x3,x4,e0,rfl,VA⟩
  rw [hZ,c8] at VA
  have DA:=D2.kp U2.w VA.k
  have b3:=w2.up VA.lo
  refine ⟨_,Z,_,Z,o,b,0,_,L,n,m,_,Z,VA.hv a1 (by omega),DA,b3.2.2.1,λ HB sB i0 VB j0=>?_⟩
  have b2:=VA.trans VB
  refine ⟨_,Z,_,Z,o,b,1,_,L,n,m,_,Z,b2.hv a1 (by omega),DA.kp VA.w VB.k,b3.2.2.1.up VB.lo,λ HC sC i1 VC j1=>⟨zN2,λ te e5=>?_⟩⟩
  have VE:=(b2.trans VC).new e5 (.tup [V.int i0,.int i1])
  have a4:=sm (U2.k.trans VE.k)
  generalize upd HC te (.tup [V.int i0,.int i1]) = HE at *
  refine ⟨_,Z,pa,_,_,_,Z,Z,SqT.of (a4 _ _ a5),Ah (j:=3) rfl,v,p.nd,Z,Abs (hp.mono a4.tp) ok (iW hz (by decide)) b6,λ r ms HF gF eF pm rise=>?_⟩
  rw [(ndF ok).rs] at pm
  have VF:=VE.same gF
  obtain ⟨f0,d2,i5,f5,g2,g0,g9,e4,f4⟩:=id VF.w
  have c5:ms.length < 64:=by rw [pm.length_eq]; exact b6
  refine ⟨r,Z,⟨_,SqL.of eF⟩,Ci (K:=K) (xs:=ms.map V.int) (λ i ys H'=>H' = HF∧∃ nx:List Int,ys = nx.map V.int∧RL sC nx∧nx.length = i) ⟨Z,[],Z,.nil,Z⟩ (by rw [hZ]; exact iW (le_of_lt c5) (by decide)) (λ i ys H' hh=>by rw [hh.1]; exact SqL.of eF) ?_ ?_⟩
  ·rintro i x ys H' N hi ⟨rfl,nx,rfl,rl,ln⟩ hN b9
   have a3:i < ms.length:=by have:=(List.getElem?_eq_some_iff.mp hi).1; rwa [hZ] at this
   rw [iH,hX a3] at hi
   cases hi
   obtain ⟨g,hg⟩:=Nh (VF.lv _ (d3 ms[i] (pm.mem_iff.mp (jJ a3))))
   obtain ⟨pq,d7,eg⟩:=Kz hg
   have dg:Ha H' L.ld (.int ms[i]) ((sC.lv.lookup ms[i]).map V.int):=.inl ⟨_,Sum.inl ms[i],.inl e4,Z,(L8 _ _).symm⟩
   rw [hg] at dg
   exact ⟨_,Z,o,C,L.dx,_,.ref L.ld,Z,d2,T.cl,T.nL,Z,_,Z,L.ld,.int g,Z,dg,hN _ _ (by rw [iB,iD]; omega) ⟨Z,nx ++ [g],by rw [iM]; rfl,rl.snoc (eg ▸ VF.f.lv pq d7),by rw [iB,ln]; rfl⟩⟩
  rintro ys H' b9 ⟨rfl,nx,rfl,rl,ln⟩ b4 b1
  rw [hZ] at ln
  have gL:=Ac b1 (.lst (nx.map V.int))
  have WG:=VF.w.same gL
  obtain ⟨e8,b7,_⟩:=id WG
  refine ⟨_,Z,o,C,L.dx,_,.ref L.gl,Z,b7,T.cl,T.nG,Z,_,Z,o,C,L.dx,_,.ref L.sl,Z,b7,T.cl,T.nS,Z,_,Z,_,Z,zN4,λ t ht=>?_⟩
  have gT:=Ac ht (.tup [V.ref L.gl,.ref L.sl,.ref te,.ref b4])
  exact q _ sC nx _ (((a4.trans gF).trans gL).trans gT) ⟨o,L,t,te,b4,Z,⟨sA.free (fr _ iE),sA.free fs,(a4.trans gF).free b1⟩,upd_same,WG.same gT,gT _ _ upd_same⟩ ⟨VF.f.g,rl,by rw [ln,pm.length_eq],(VF.c _ 0 (c2.le (by omega))).1,iW a1.nl VF.lo⟩
end
end My
end
section
set_option Elab.async false
set_option linter.all false
set_option maxRecDepth 100000
set_option maxHeartbeats 64000000
namespace L2
open PySem PySem.Spec PyProof.Rows
section
variable {prog:Program} {w:World} {A:Around} {s:Shared}
end
section
variable {prog:Program} {w:World} {A:Around} {E:Value→Shared→Prop} {s:Shared}
end
section
variable {X:Cx}
end
section
variable {prog:Program} {w:World} {A:Around} {R:Result→Shared→Prop} {it S:Addr} {fp wr:List Addr} {n:Nat} {P:Nat→Value→Prop} {St:Nat→Heap→Prop} {kw:List (Str× Value)}
theorem Oh (W:Walks prog w A.in1 it fp wr n P St) (bt:Nat→Nat→Bool) (cm:CmpOf prog w A.in1 .Gt P bt) (nS:S∉fp):∀ (k j:Nat) (s:Shared) (vb:Value) (c:Nat),n - (j + 1) = k→j + 1≤n→St (j + 1) s.heap→P (argBest bt j) vb →
  s.heap.get? S = some { cls:=.type "list", dict:=none,data:=.seq #[vb,vb] c,slots:=#[] } →
  (∀ v h' tk,P (argBest bt (n - 1)) v→(∀ b o,b∉S :: wr→s.heap.get? b = some o→h'.get? b = some o)→R (.ok (.ret v)) { s with heap:=h',toks:=tk })→codeAny (model prog w) A (.builtin "max.loop" ⟨[.ref it,.none,.ref S],kw⟩) R s
 | 0,j,s,vb,c,hk,hj,st,hp,hS,hR=>by
  have nw:S∉wr:=λ z=>nS (W.sub _ z)
  have ej:j + 1 = n:=by omega
  refine codeAny_builtin F.entry_max_loop ?_
  rw [Around.under_plainId F.plain_max_loop _]
  show wpAny _ A.in1 (seqItems? (.ref S) >>= _) _ _ _
  refine hJ (wpAny_seqItems hS rfl ?_)
  show wpAny _ A.in1 (tryCatch (pyNext (.ref it)) _ >>= _) _ _ _
  refine hJ (wpAny_tryCatch (W.done s _ _ (ej ▸ st) λ h' tk m=>?_))
  have a1:=m S _ nw hS
  show wpAny _ A.in1 (updateSeq S (λ _=>#[]) >>= _) _ _ _
  refine hJ (wpAny_updateSeq a1 rfl (hJ (wpAny_letGo (hW ?_))))
  exact hR vb _ tk (by rw [← ej]; exact hp) λ b o hb e=>(Heap.get?_update_other _ _ (λ z:S = b=>hb (z ▸ iE))).trans (m b o (λ z=>hb (iF _ z)) e)
 | k + 1,j,s,vb,c,hk,hj,st,hp,hS,hR=>by
  have nw:S∉wr:=λ z=>nS (W.sub _ z)
  have lt:j + 1 < n:=by omega
  refine codeAny_builtin F.entry_max_loop ?_
  rw [Around.under_plainId F.plain_max_loop _]
  show wpAny _ A.in1 (seqItems? (.ref S) >>= _) _ _ _
  refine hJ (wpAny_seqItems hS rfl ?_)
  show wpAny _ A.in1 (tryCatch (pyNext (.ref it)) _ >>= _) _ _ _
  refine hJ (wpAny_tryCatch (W.item (j + 1) s _ _ lt st λ v h' tk pv a5 m=>?_))
  have a1:=m S _ nw hS
  show wpAny _ A.in1 (tryCatch (holding [v,v] (richCompare .Gt v vb >>= _)) _ >>= _) _ _ _
  refine hJ (wpAny_tryCatch (jV (hJ (cm (j + 1) (argBest bt j) v vb _ _ _ pv hp (hJ (jV (wpAny_truthy_bool (hJ (wpAny_letGo (hW ?_))))))))))
  have nm:(toString "max" ++ toString ".loop" : String) = "max.loop" := by decide
  cases hb:bt (j + 1) (argBest bt j) with
  | true =>
   simp only [if_true]
   refine hJ (wpAny_updateSeq a1 rfl (hJ (wpAny_letGo ?_)))
   rw [nm]
   refine hW ⟨plainId_quiet F.plain_max_loop _,Oh W bt cm nS k (j + 1) _ v _ (by omega) lt (W.frame _ _ _ a5 λ b a6 o e=>?_) (by simp only [argBest,hb,if_true]; exact pv) (Heap.get?_update_self _ a1 rfl) λ v' a2 a3 p' a4=>?_⟩
   ·exact (Heap.get?_update_other _ _ (λ z:S = b=>nS (z ▸ a6))).trans e
   ·exact hR v' a2 a3 p' λ b o hb e=>a4 b o hb ((Heap.get?_update_other _ _ (λ z:S = b=>hb (z ▸ iE))).trans (m b o (λ z=>hb (iF _ z)) e))
  | false =>
   simp only [Bool.false_eq_true,if_false]
   refine hJ (wpAny_letGo ?_)
   rw [nm]
   refine hW ⟨plainId_quiet F.plain_max_loop _,Oh W bt cm nS k (j + 1) _ vb c (by omega) lt a5 (by simp only [argBest,hb,Bool.false_eq_true,if_false]; exact hp) a1 λ v' a2 a3 p' a4=>?_⟩
   exact hR v' a2 a3 p' λ b o hb e=>a4 b o hb (m b o (λ z=>hb (iF _ z)) e)
theorem Zl (W:Walks prog w A.in1 it fp wr n P St) (bt:Nat→Nat→Bool) (cm:CmpOf prog w A.in1 .Gt P bt) (nS:S∉fp) {d:Value} {x:Str} {s:Shared} {c:Nat} (st:St 0 s.heap)
  (hS:s.heap.get? S = some { cls:=.type "list", dict:=none,data:=.seq #[] c,slots:=#[] })
  (hR:∀ v h' tk,(n = 0∧v = d∨0 < n∧P (argBest bt (n - 1)) v)→(∀ b o,b∉S :: wr→s.heap.get? b = some o→h'.get? b = some o)→R (.ok (.ret v)) { s with heap:=h',toks:=tk }):codeAny (model prog w) A (.builtin "max.loop" ⟨[.ref it,.none,.ref S],[(x,d)]⟩) R s:=by
 have nw:S∉wr:=λ z=>nS (W.sub _ z)
 have nm:(toString "max" ++ toString ".loop" : String) = "max.loop" := by decide
 refine codeAny_builtin F.entry_max_loop ?_
 rw [Around.under_plainId F.plain_max_loop _]
 show wpAny _ A.in1 (seqItems? (.ref S) >>= _) _ _ _
 refine hJ (wpAny_seqItems hS rfl ?_)
 show wpAny _ A.in1 (tryCatch (pyNext (.ref it)) _ >>= _) _ _ _
 by_cases n0:n = 0
 ·refine hJ (wpAny_tryCatch (W.done s _ _ (n0 ▸ st) λ h' tk m=>?_))
  refine hJ (wpAny_rule (hW ?_))
  exact hR d h' tk (.inl ⟨n0,Z⟩) λ b o hb e=>m b o (λ z=>hb (iF _ z)) e
 ·have lt:0 < n:=Nat.pos_of_ne_zero n0
  refine hJ (wpAny_tryCatch (W.item 0 s _ _ lt st λ v h' tk pv a5 m=>?_))
  have a1:=m S _ nw hS
  show wpAny _ A.in1 (updateSeq S (λ _=>#[v,v]) >>= _) _ _ _
  refine hJ (wpAny_updateSeq a1 rfl ?_)
  rw [nm]
  refine hW ⟨plainId_quiet F.plain_max_loop _,Oh W bt cm nS _ 0 _ v _ rfl lt (W.frame _ _ _ a5 λ b a3 o e=>?_) pv (Heap.get?_update_self _ a1 rfl) λ v' a2 a4 p' a6=>?_⟩
  ·exact (Heap.get?_update_other _ _ (λ z:S = b=>nS (z ▸ a3))).trans e
  ·exact hR v' a2 a4 (.inr ⟨lt,p'⟩) λ b o hb e=>a6 b o hb ((Heap.get?_update_other _ _ (λ z:S = b=>hb (z ▸ iE))).trans (m b o (λ z=>hb (iF _ z)) e))
end
theorem Yl (a d:Value):argsOk "max" ⟨[a],[("default", d)]⟩:=by unfold argsOk; kernel_rfl
section
variable {prog:Program} {w:World} {A:Around} {E:Value→Shared→Prop} {s:Shared}
theorem Yv {l:Addr} {xs:Array (Int× Tok)} {d:Value} {Q:Value→Shared→Prop} (hh:A.handled = none) (hl:s.heap.IsList l (intItems xs))
  (h:∀ v h' tk,(xs.size = 0∧v = d∨0 < xs.size∧∃ t,v = .int (numAt xs (argBest (λ i j=>decide (numAt xs i > numAt xs j)) (xs.size - 1))) t)→(∀ b o,s.heap.get? b = some o→h'.get? b = some o)→Q v { s with heap:=h',toks:=tk }) :
  wpAny (model prog w) A (call (.builtin "max") [.ref l] [("default", d)]) Q E s:=by
 have nm:(toString "max" ++ toString ".loop" : String) = "max.loop" := by decide
 have sz:(intItems xs).size = xs.size:=by simp [intItems]
 refine wpAny_call (codeAny_call_builtin F.plain_max F.entry_max ?_)
 have hk:builtinKind "max" = none:=F.kind_max
 have ha:=Yl (.ref l) d
 simp only [checkBuiltinCall,hk]
 have go:wpAny (model prog w) A.in1 (Builtin.«max» ⟨[.ref l],[("default", d)]⟩) (λ a2 s'=>match a2 with
   | .done f=>(match (Except.ok f:Result) with | .ok (.ret v)=>Q v s' | .ok _=>False | .error e=>E e s')
   | .again c'=>c'.quiet = true∧codeAny (model prog w) A c' (λ r s'=>match r with | .ok (.ret v)=>Q v s' | .ok _=>False | .error e=>E e s') s') E s:=by
  show wpAny _ A.in1 (Builtin.Builtins.bindParams "max" ["key", "default"] 0 ⟨[],[("default", d)]⟩ >>= _) _ _ s
  refine hJ (wpAny_of_eq (show Builtin.Builtins.bindParams "max" ["key", "default"] 0 ⟨[],[("default", d)]⟩ = pure [none,some d] from rfl) ?_)
  refine hJ (hW (hJ (wpAny_pyIter_list hl ?_)))
  refine hJ (wpAny_newObj_type ?_)
  rw [nm]
  have b1:l < s.heap.objs.size:=by obtain ⟨_,e,_⟩:=hl; exact Heap.lt_size e
  have hz:(s.heap.push { cls:=.type "list_iterator", data:=.fields #[.ref l,.int 0 0] }).objs.size = s.heap.objs.size + 1:=Heap.size_push ..
  have W:=Walks.list (prog:=prog) (w:=w) (A:=A.in1) hh s.heap.objs.size l (jB b1) (intItems xs)
  refine hW ⟨plainId_quiet F.plain_max_loop _,Zl W _ (CmpOf.ints_gt (numAt xs) (λ _ _=>intItems_at)) (λ z=>?_) ⟨⟨_,Heap.get?_push_of_some _ (Heap.get?_push_size _ rfl),Z,Z⟩,(hl.push _).push _⟩ (Heap.get?_push_size _ rfl) λ v h' tk pv m=>?_⟩
  ·simp only [jK,jH,or_false] at z
   rcases z with z | z
   ·exact Nat.succ_ne_self _ (hz.symm.trans z)
   ·exact ne_of_gt (lt_succ_of_lt b1) (hz.symm.trans z)
  ·refine h v h' tk ?_ λ b o e=>m b o (λ z=>?_) (Heap.get?_push_of_some _ (Heap.get?_push_of_some _ e))
   ·rw [sz] at pv
    rcases pv with pv | ⟨q,pv⟩
    ·exact .inl pv
    ·exact .inr ⟨q,intItems_at pv⟩
   ·have:=Heap.lt_size e
    simp only [jK,jH,or_false] at z
    rcases z with z | z
    ·rw [z,hz] at this; exact lt_irrefl _ (Nat.lt_of_succ_lt this)
    ·rw [z] at this; exact lt_irrefl _ this
 cases hsig:Manifest.signature? "max" with
 | none=>exact hW go
 | some a1 =>
  simp only [argsOk,hsig] at ha
  have h2:Bind.checkArgs "max" a1 ⟨[.ref l],[("default", d)]⟩ = pure ():=ha
  show wpAny _ A.in1 (Bind.checkArgs "max" a1 ⟨[.ref l],[("default", d)]⟩) _ _ s
  rw [h2]; exact hW go
end
def Vj (d:Int):List Int→Int
 | []=>d
 | x :: r=>r.foldl max x
theorem Aby {d M:Int} {ns:List Int} (ne:¬ ns = []) (m:M∈ns) (h:∀ a∈ns,a≤M):Vj d ns = M:=by
 cases ns with
 | nil=>exact absurd rfl ne
 | cons x r =>
  show r.foldl max x = M
  have a1:∀ (r:List Int) (x:Int),(x≤M)→(∀ a∈r,a≤M)→(x = M∨M∈r)→r.foldl max x = M:=by
   intro r
   induction r with
   | nil=>intro x _ _ hx; exact hx.resolve_right (by simp)
   | cons y r ih =>
    intro x hx hr hm
    rw [foldl_cons]
    have hy:=hr y iE
    refine ih (max x y) (by omega) (λ a ha=>hr a (iF _ ha)) ?_
    rcases hm with rfl | hm
    ·exact .inl (by omega)
    ·rcases jK.mp hm with rfl | hm
     ·exact .inl (by omega)
     ·exact .inr hm
  exact a1 r x (h x iE) (λ a ha=>h a (iF _ ha)) (by rcases jK.mp m with rfl | m; exact .inl rfl; exact .inr m)
section
variable {X:Cx} {p pos kp:Pos} {e1 e2:Expr} {t tk:TA}
def AeI (K:PySem.W.Frag) (t tk:TA):TE:=λ σ H Q=>t σ H λ vs H1=>tk σ H1 λ zs H2=>∃ a ns d,vs = [.ref a]∧zs = [.int d]∧SqL K H2 a ((ns:List Int).map V.int)∧Q (.int (Vj d ns)) H2
theorem Ab7 (hc:X.calm = true) (hg:Gl X "max") (hm:X.mg "max" = none) (ha:PA X [e1] t) (a3:PK X [⟨some "default", e2,kp⟩] tk) (hs:starEach [e1] X.env = (false,eval e1 X.env) :: starEach [] X.env:=by rfl)
  (a5:((backTo pos (starEach [e1] X.env)).any (·.1) || (backToKw pos (keywordEach [⟨some "default", e2,kp⟩] X.env)).any (·.1.isNone)) = false:=by rfl) :
  PE X (.Call (.Name "max" p) [e1] [⟨some "default", e2,kp⟩] pos) (AeI X.K t tk):=by
 intro pins s σ H Q I h
 refine wpAny_Call_Name_kw (F1 (u:=.builtin "max") I hg hm (by decide +kernel) ?_ (by decide) (by decide))
 refine PySem.W.callWith_of (P:=λ _=>True) a5 (λ h _=>⟨.machine,.inr (.inl rfl),Looks.of_pure rfl⟩) (PyProof.Rows.evalArgs_kw2 (by rfl) (thn (ha pos pins s σ H _ I h) λ us s1 ⟨vs,H1,I1,r1,q1⟩=>?_) hs)
 refine thn (a3 pos pins s1 σ H1 _ I1 q1) λ ws s2 ⟨zs,H2,I2,rz,q2⟩=>⟨trivial,?_⟩
 obtain ⟨a,ns,d,rfl,rfl,hS,q⟩:=q2
 obtain ⟨u,rfl,ru⟩:=r1.one
 obtain ⟨u2,rfl,t,rfl⟩:=rz.one
 cases ru
 show wpAny _ _ (call (.builtin "max") [.ref a] [("default", .int d t)]) _ _ _
 obtain ⟨a6,rv,pl,hz⟩:=I2.list hS
 have hi:=J5 rv
 obtain ⟨ys,hx⟩:=hi.allInts.items
 have a4:s2.heap.IsList a (intItems ys):=hx ▸ pl.isList
 refine Yv (I2.ok.hd hc) a4 λ v h' tk hv k=>?_
 have e1:ns = ys.toList.map (·.1):=by
  rw [← nums_intItems,← hx]
  exact (show numsOf a6.toArray.toList = ns from hi.numsOf).symm
 have I3:Inv X pins σ H2 { s2 with heap:=h',toks:=tk }:=I2.kept k
 rcases hv with ⟨h0,rfl⟩ | ⟨h0,t',rfl⟩
 ·have:ns = []:=by rw [e1]; exact length_eq_zero_iff.mp (by simpa using h0)
  subst this
  exact ⟨.int d,H2,I3,⟨_,Z⟩,q⟩
 ·have a1:∀ i,i < ys.size→numAt ys i∈ns∧∃ h:i < ns.length,ns[i] = numAt ys i:=λ i hi=>by
   have hl:i < ns.length:=by rw [e1]; simpa using hi
   have:ns[i] = numAt ys i:=by simp [e1,numAt,hi]
   exact ⟨this ▸ jJ hl,hl,this⟩
  obtain ⟨b1,b2⟩:=argBest_gt (numAt ys) (ys.size - 1)
  have a2:ns.length = ys.size:=by rw [e1]; simp
  have em:Vj d ns = numAt ys (argBest (λ i j=>decide (numAt ys i > numAt ys j)) (ys.size - 1)):=by
   refine Aby (λ z=>by rw [z] at a2; simp at a2; omega) (a1 _ (by omega)).1 λ x hx=>?_
   obtain ⟨i,hi,rfl⟩:=List.getElem_of_mem hx
   rw [(a1 i (by omega)).2.2]
   exact b2 i (by omega)
  rw [← em]
  exact ⟨.int (Vj d ns),H2,I3,⟨_,Z⟩,q⟩
end
structure AbC (K:PySem.W.Frag) (D:Addr) (m:Str) (f:Addr):Prop where
 ga:specialIn K (.ref D) "__getattribute__" = some (some (.builtin "type.__getattribute__"))
 rd:readsIn K D (.type "type") = true
 fc:findCls K (.ref D) (.type "type") m = some (.val (.ref f))
 kp:keepIn K (.ref f) = true
def Adr (D:Addr) (sp:Sp) (E:XK) (ta:TE) (t:TA):TE:=λ σ H Q=>ta σ H λ x H1=>x = .ref D∧t σ H1 λ vs H2=>sp (vs ++ []) H2 Q E
section
variable {X:Cx} {CX:CXT} {k:Nat} {f D:Addr} {fd:FuncData} {ps:List Str} {sp:Sp} {E:XK} {m:Str} {pos apos:Pos} {e o:Expr} {es:List Expr} {ta:TE} {t:TA}
theorem Zw {pl:Sem Bool} (he:PE X o ta) (hm:AbC X.K D m f) (F:Bl X.prog X.w X.K X.mg X.base CX k f fd ps sp) (hr:Bz k X.A) (hb:Bi X.K fd ps []) (hx:Ek CX X E) (ha:PA X (e :: es) t)
  (a1:starEach (e :: es) X.env = (false,eval e X.env) :: starEach es X.env:=by rfl) (a2:(backTo pos (starEach es X.env)).any (·.1) = false:=by rfl)
  (ht:eval (.Call (.Attribute o m apos) (e :: es) [] pos) X.env = (do
   let ov ← eval o X.env
   standAt apos.atName
   let (f,first) ← holding [ov] (getMethod ov m pl)
   callWith pos f first (backTo pos (starEach (e :: es) X.env)) (backToKw pos (keywordEach [] X.env))):=by rfl) :
  PE X (.Call (.Attribute o m apos) (e :: es) [] pos) (Adr D sp E ta t):=by
 intro pins s σ H Q I h
 refine methodCall_KW (pl:=pl) (thn (he pins s σ H _ I h) λ u s1 ⟨x,H1,I1,rx,ex,q⟩=>?_) ht
 subst ex
 obtain rfl:u = Value.ref D:=rx
 refine PySem.W.method_cls I1.kIn hm.ga (PySem.W.cls_value I1.kIn hm.rd hm.fc rfl ?_)
 have I2:Inv X pins σ H1 { s1 with toks:=s1.toks + 1 }:=I1.tok _
 refine callWith_K (first:=[]) (h₀:=X.base) I.ok.mod.kin hm.kp (thn (ha pos pins _ σ H1 _ I2 q) λ us s2 ⟨vs,H2,I3,r,q2⟩=>⟨I3.kIn,?_⟩) a1 a2
 exact M8 (us:=us) (vs:=vs) F hr hb .nil hx I3 r q2
theorem AcC {j:Nat} {C:Addr} {pl:Sem Bool} (M:Lo X.prog X.w X.K X.mg X.base j C m ps sp) (hr:Bz k X.A) (he:PE X.nox o ta) (ha:PA X.nox (e :: es) t) (hj:j≤k:=by first | decide | omega)
  (a1:starEach (e :: es) X.env = (false,eval e X.env) :: starEach es X.env:=by rfl) (a2:(backTo pos (starEach es X.env)).any (·.1) = false:=by rfl)
  (ht:eval (.Call (.Attribute o m apos) (e :: es) [] pos) X.env = (do
   let ov ← eval o X.env
   standAt apos.atName
   let (f,first) ← holding [ov] (getMethod ov m pl)
   callWith pos f first (backTo pos (starEach (e :: es) X.env)) (backToKw pos (keywordEach [] X.env))):=by rfl) :
  PX X (.Call (.Attribute o m apos) (e :: es) [] pos) (λ E=>J7 C m sp [] E ta t):=by
 obtain ⟨f,fd,F,b,me,c⟩:=M
 intro pins s σ H Q E xe I h hx
 refine methodCall_KW (pl:=pl) (jU (he pins s σ H _ (I.wish _) h) (λ u s1 ⟨x,H1,I1,rx,a,dx,fs,ex,ea,l,q⟩=>?_) λ _ _ z=>False.elim z) ht
 subst ex
 obtain rfl:u = Value.ref a:=rx
 refine Ko I1.unwish ea c me l ?_
 refine callWith_K (first:=[.ref a]) (h₀:=X.base) I.ok.mod.kin me.kp (jU (ha pos pins s1 σ H1 _ I1 q) (λ us s2 ⟨vs,H2,I2,r,q2⟩=>⟨I2.unwish.kIn,?_⟩) λ _ _ z=>False.elim z) a1 a2
 have q3:sp (.ref a :: (vs ++ [])) H2 Q E:=q2
 rw [jI] at q3
 exact Ab8 (us:=.ref a :: us) (vs:=.ref a :: vs) (F.mono hj) hr b I2.unwish (.cons rfl r) q3 hx
end
end L2
end
section
set_option Elab.async false
set_option linter.all false
set_option maxRecDepth 100000
set_option maxHeartbeats 64000000
namespace My
open PySem L2
inductive Rp where
 | nothing
 | rest
 | send (s:Int)
 | exit (d:Int)
 | iff (s:Int) (p q:Rp)
 | again (p:Rp)
 | hold (s:Int) (p:Rp)
 | watch (s:Int) (p:Rp)
 | trap (p:Rp)
 | thn (p q:Rp)
 | bes (p q:Rp)
def Rp.nd:Rp→Nd
 | .nothing=>.t [.s "nothing"]
 | .rest=>.t [.s "rest"]
 | .send s=>.t [.s "send", .i s]
 | .exit d=>.t [.s "exit", .i d]
 | .iff s p q=>.t [.s "if", .i s,p.nd,q.nd]
 | .again p=>.t [.s "again", p.nd]
 | .hold s p=>.t [.s "hold", .i s,p.nd]
 | .watch s p=>.t [.s "watch", .i s,p.nd]
 | .trap p=>.t [.s "trap", p.nd]
 | .thn p q=>.t [.s "then", p.nd,q.nd]
 | .bes p q=>.t [.s "beside", p.nd,q.nd]
def Rp.hg:Rp→Nat
 | .iff _ p q=>max p.hg q.hg + 1
 | .thn p q=>max p.hg q.hg + 1
 | .bes p q=>max p.hg q.hg + 1
 | .again p=>p.hg + 1
 | .hold _ p=>p.hg + 1
 | .watch _ p=>p.hg + 1
 | .trap p=>p.hg + 1
 | _=>1
def Rp.wt:Rp→Nat
 | .rest=>1
 | .send _=>1
 | .iff _ p q=>p.wt + q.wt
 | .thn p q=>p.wt + q.wt
 | .bes p q=>p.wt + q.wt
 | .again p=>p.wt + 1
 | .hold _ p=>p.wt
 | .watch _ p=>p.wt
 | .trap p=>p.wt
 | _=>0
def Rp.ok (sg:Int):Rp→Prop
 | .send s=>0≤s∧s < sg
 | .exit d=>0≤d∧d < 4
 | .iff s p q=>(0≤s∧s < sg)∧p.ok sg∧q.ok sg
 | .thn p q=>p.ok sg∧q.ok sg
 | .bes p q=>p.ok sg∧q.ok sg
 | .again p=>p.ok sg
 | .hold s p=>(0≤s∧s < sg)∧p.ok sg
 | .watch s p=>(0≤s∧s < sg)∧p.ok sg
 | .trap p=>p.ok sg
 | _=>True
theorem Rp.hg_pos (p:Rp):1≤p.hg:=by cases p <;> exact Nat.le_add_left 1 _
def num:Rp→Int→Pt× Int
 | .nothing,k=>(.nothing,k)
 | .rest,k=>(.rest k,k + 1)
 | .send s,k=>(.send s,k)
 | .exit d,k=>(.exit d,k)
 | .iff s p q,k=>(.iff s (num p k).1 (num q (num p k).2).1,(num q (num p k).2).2)
 | .again p,k=>(.again (num p k).2 (num p k).1,(num p k).2 + 1)
 | .hold s p,k=>(.hold s (num p k).1,(num p k).2)
 | .watch s p,k=>(.watch s (num p k).1,(num p k).2)
 | .trap p,k=>(.trap (num p k).1,(num p k).2)
 | .thn p q,k=>(.thn (num p k).1 (num q (num p k).2).1,(num q (num p k).2).2)
 | .bes p q,k=>(.bes (num p k).1 (num q (num p k).2).1,(num q (num p k).2).2)
def Rp.sz:Rp→Nat
 | .iff _ p q=>p.sz + q.sz + 1
 | .thn p q=>p.sz + q.sz + 1
 | .bes p q=>p.sz + q.sz + 1
 | .again p=>p.sz + 1
 | .hold _ p=>p.sz + 1
 | .watch _ p=>p.sz + 1
 | .trap p=>p.sz + 1
 | _=>1
structure Wh (n:Nat) (r:Rp) (k:Int) (q:Pt× Int):Prop where
 hg:q.1.hg = r.hg
 sz:q.1.sz = r.sz
 wt:(rsP q.1).length≤r.wt
 ok:r.ok n→okN n q.1
 rs:∀ x∈rsP q.1,k≤x∧x < q.2
 ln:q.2 = k + (rsP q.1).length
theorem Adb (n:Nat) (r:Rp):∀ k,Wh n r k (num r k):=by
 have two:∀ {p q:Rp} {k:Int} {a:Pt},Wh n p k (num p k)→Wh n q (num p k).2 (num q (num p k).2)→rsP a = rsP (num q (num p k).2).1 ++ rsP (num p k).1→(∀ x∈rsP a,k≤x∧x < (num q (num p k).2).2)∧(num q (num p k).2).2 = k + (rsP a).length∧(rsP a).length≤p.wt + q.wt:=λ {p q k a} h1 h2 e=>by
  have l1:=h1.ln
  have l2:=h2.ln
  rw [e]
  refine ⟨λ x hx=>?_,?_,?_⟩
  ·rcases iU.mp hx with z | z
   ·have:=h2.rs x z; omega
   ·have:=h1.rs x z; omega
  ·rw [iB]; omega
  ·rw [iB]; have:=h1.wt; have:=h2.wt; omega
 induction r with
 | nothing=>intro k; exact ⟨rfl,rfl,iX _,λ _=>trivial,λ x hx=>(nomatch hx),(Int.add_zero _).symm⟩
 | rest=>intro k; exact ⟨rfl,rfl,iX _,λ _=>trivial,λ x hx=>(by rw [mS hx]; show k≤k∧k < k + 1; omega),rfl⟩
 | send s=>intro k; exact ⟨rfl,rfl,jX _,λ h=>h,λ x hx=>(nomatch hx),(Int.add_zero _).symm⟩
 | exit d=>intro k; exact ⟨rfl,rfl,iX _,λ h=>h,λ x hx=>(nomatch hx),(Int.add_zero _).symm⟩
 | iff s p q a1 a2 =>
  intro k
  have a:=a1 k
  have b:=a2 (num p k).2
  obtain ⟨t1,t2,t3⟩:=two (a:=(num (.iff s p q) k).1) a b rfl
  exact ⟨by simp only [num,Pt.hg,Rp.hg,a.hg,b.hg],by simp only [num,Pt.sz,Rp.sz,a.sz,b.sz],t3,λ h=>⟨h.1,a.ok h.2.1,b.ok h.2.2⟩,t1,t2⟩
 | thn p q a1 a2 =>
  intro k
  have a:=a1 k
  have b:=a2 (num p k).2
  obtain ⟨t1,t2,t3⟩:=two (a:=(num (.thn p q) k).1) a b rfl
  exact ⟨by simp only [num,Pt.hg,Rp.hg,a.hg,b.hg],by simp only [num,Pt.sz,Rp.sz,a.sz,b.sz],t3,λ h=>⟨a.ok h.1,b.ok h.2⟩,t1,t2⟩
 | bes p q a1 a2 =>
  intro k
  have a:=a1 k
  have b:=a2 (num p k).2
  obtain ⟨t1,t2,t3⟩:=two (a:=(num (.bes p q) k).1) a b rfl
  exact ⟨by simp only [num,Pt.hg,Rp.hg,a.hg,b.hg],by simp only [num,Pt.sz,Rp.sz,a.sz,b.sz],t3,λ h=>⟨a.ok h.1,b.ok h.2⟩,t1,t2⟩
 | again p ih =>
  intro k
  have a:=ih k
  have l1:=a.ln
  refine ⟨by simp only [num,Pt.hg,Rp.hg,a.hg],by simp only [num,Pt.sz,Rp.sz,a.sz],succ_le_succ a.wt,λ h=>a.ok h,λ x hx=>?_,?_⟩
  ·show k≤x∧x < (num p k).2 + 1
   rcases jK.mp hx with z | z
   ·rw [z]; omega
   ·have:=a.rs x z; omega
  ·show (num p k).2 + 1 = k + (((num p k).2 :: rsP (num p k).1).length:Nat)
   rw [iT]; omega
 | hold s p ih =>
  intro k
  have a:=ih k
  exact ⟨by simp only [num,Pt.hg,Rp.hg,a.hg],by simp only [num,Pt.sz,Rp.sz,a.sz],a.wt,λ h=>⟨h.1,a.ok h.2⟩,a.rs,a.ln⟩
 | watch s p ih =>
  intro k
  have a:=ih k
  exact ⟨by simp only [num,Pt.hg,Rp.hg,a.hg],by simp only [num,Pt.sz,Rp.sz,a.sz],a.wt,λ h=>⟨h.1,a.ok h.2⟩,a.rs,a.ln⟩
 | trap p ih =>
  intro k
  have a:=ih k
  exact ⟨by simp only [num,Pt.hg,Rp.hg,a.hg],by simp only [num,Pt.sz,Rp.sz,a.sz],a.wt,λ h=>a.ok h,a.rs,a.ln⟩
structure Its (r:Rp) (x:Str) (xs:List Nd):Prop where
 e:r.nd = .t (.s x :: xs)
 l:xs.length≤3
 c:∀ n∈xs,(∃ k,n = .i k)∨∃ r':Rp,n = r'.nd∧r'.hg + 1≤r.hg
theorem Ado (r:Rp):∃ x xs,Its r x xs:=by
 have i1:∀ (k:Int),∀ n∈[Nd.i k],(∃ k,n = .i k)∨∃ r':Rp,n = r'.nd∧r'.hg + 1≤r.hg:=λ k n hn=>.inl ⟨k,mS hn⟩
 cases r with
 | nothing=>exact ⟨_,[],rfl,by decide,λ n hn=>by cases hn⟩
 | rest=>exact ⟨_,[],rfl,by decide,λ n hn=>by cases hn⟩
 | send s=>exact ⟨_,[.i s],rfl,by simp,i1 s⟩
 | exit d=>exact ⟨_,[.i d],rfl,by simp,i1 d⟩
 | iff s p q =>
  refine ⟨_,[.i s,p.nd,q.nd],Z,by simp,λ n hn=>?_⟩
  simp only [jK,jH,or_false] at hn
  rcases hn with rfl | rfl | rfl
  ·exact .inl ⟨s,Z⟩
  ·exact .inr ⟨p,Z,by simp only [Rp.hg]; omega⟩
  ·exact .inr ⟨q,Z,by simp only [Rp.hg]; omega⟩
 | thn p q =>
  refine ⟨_,[p.nd,q.nd],Z,by simp,λ n hn=>?_⟩
  simp only [jK,jH,or_false] at hn
  rcases hn with rfl | rfl
  ·exact .inr ⟨p,Z,by simp only [Rp.hg]; omega⟩
  ·exact .inr ⟨q,Z,by simp only [Rp.hg]; omega⟩
 | bes p q =>
  refine ⟨_,[p.nd,q.nd],Z,by simp,λ n hn=>?_⟩
  simp only [jK,jH,or_false] at hn
  rcases hn with rfl | rfl
  ·exact .inr ⟨p,Z,by simp only [Rp.hg]; omega⟩
  ·exact .inr ⟨q,Z,by simp only [Rp.hg]; omega⟩
 | again p =>
  refine ⟨_,[p.nd],Z,by simp,λ n hn=>?_⟩
  rw [mS hn]
  exact .inr ⟨p,Z,by simp only [Rp.hg]; omega⟩
 | trap p =>
  refine ⟨_,[p.nd],Z,by simp,λ n hn=>?_⟩
  rw [mS hn]
  exact .inr ⟨p,Z,by simp only [Rp.hg]; omega⟩
 | hold s p =>
  refine ⟨_,[.i s,p.nd],Z,by simp,λ n hn=>?_⟩
  simp only [jK,jH,or_false] at hn
  rcases hn with rfl | rfl
  ·exact .inl ⟨s,Z⟩
  ·exact .inr ⟨p,Z,by simp only [Rp.hg]; omega⟩
 | watch s p =>
  refine ⟨_,[.i s,p.nd],Z,by simp,λ n hn=>?_⟩
  simp only [jK,jH,or_false] at hn
  rcases hn with rfl | rfl
  ·exact .inl ⟨s,Z⟩
  ·exact .inr ⟨p,Z,by simp only [Rp.hg]; omega⟩
theorem L6 {tc:TT} {A B:TS} {D:F3} {σ:St} {H:Hp} (Φ:Bool→Hp→Prop) (ht:∀ Q:Bool→Hp→Prop,(∀ b H',Φ b H'→Q b H')→tc σ H Q) (hA:∀ H',Φ true H'→A D σ H') (hB:∀ H',Φ false H'→B D σ H'):Ac5 tc A B D σ H :=
 ht _ λ b H' h=>by
  cases b with
  | true=>exact Dv (hA H' h)
  | false=>exact Eb (hB H' h)
def Hs (c:Int):Int:=(c % 2147483647 + 11) * 48271 * 69621 % 2147483629
theorem Mf (c:Int):0≤Hs c:=Int.emod_nonneg _ (by decide)
inductive Ot  (vs:List V) (H:Hp) (Q:VK):Prop
 | mk (c:Int) (_:vs = [.int c]) (_:Q (.int (Hs c)) H):Ot  vs H Q
def Jl:Sp:=λ vs H Q _=>Ot  vs H Q
inductive Zh (K:PySem.W.Frag) (vs:List V) (H:Hp) (Q:VK):Prop
 | mk (a:Addr) (ns:List Int) (k:Int) (_:vs = [.ref a,.int k]) (_:SqL K H a (ns.map V.int)) (_:0≤k) (_:∀ m:Int,0≤m→Q (.int m) H):Zh K vs H Q
def AdL (K:PySem.W.Frag):Sp:=λ vs H Q _=>Zh K vs H Q
inductive X5 (K:PySem.W.Frag) (vs:List V) (H:Hp) (Q:VK):Prop
 | mk (seed sg:Int) (_:vs = [.int seed,.int sg]) (_:0 < sg) (_:∀ v r H',Same H H'→PAt K H' (Rp.nd r) v→r.hg≤2→r.wt≤1→r.sz≤3→r.ok sg→Q v H'):X5 K vs H Q
def AdU (K:PySem.W.Frag):Sp:=λ vs H Q _=>X5 K vs H Q
inductive Qf (K:PySem.W.Frag) (n:Nat) (vs:List V) (H:Hp) (Q:VK):Prop
 | mk (v:V) (r:Rp) (_:vs = [v]) (_:PAt K H (Rp.nd r) v) (_:r.hg≤n) (_:∀ (m:Int) H',Same H H'→Q (.int m) H'):Qf K n vs H Q
def Jr (K:PySem.W.Frag) (n:Nat):Sp:=λ vs H Q _=>Qf K n vs H Q
abbrev PrR (K:PySem.W.Frag) (H:Hp) (l:List Rp) (vs:List V):Prop:=PySem.Paired (λ p v=>PAt K H (Rp.nd p) v) l vs
theorem Dx {K:PySem.W.Frag} {H H':Hp} (T:Tp H H') {l:List Rp} {vs:List V} (h:PrR K H l vs):PrR K H' l vs:=Paired.mapP h λ _ _ a=>a.mono T
def wH (l:List Rp):Nat:=(l.map Rp.hg).sum
def wR (l:List Rp):Nat:=(l.map Rp.wt).sum
def wS (l:List Rp):Nat:=(l.map Rp.sz).sum
theorem Gf (l:List Rp) (p:Rp):wS (l ++ [p]) = wS l + p.sz:=by simp [wS]
theorem Fq (l:List Rp) (p:Rp):wH (l ++ [p]) = wH l + p.hg:=by simp [wH]
theorem Gh (l:List Rp) (p:Rp):wR (l ++ [p]) = wR l + p.wt:=by simp [wR]
theorem Ge {F:Rp→V→Prop}:∀ {l:List Rp} {vs:List V},PySem.Paired F l vs→¬ l = []→∃ l0 p ws v,l = l0 ++ [p]∧vs = ws ++ [v]∧PySem.Paired F l0 ws∧F p v
 | _,_,.nil,h=>absurd rfl h
 | _,_,.cons (a:=a) (b:=b) (l₁:=l1) (l₂:=l2) f t,_=>by
  cases t with
  | nil=>exact ⟨[],a,[],b,rfl,rfl,.nil,f⟩
  | cons f' t' =>
   obtain ⟨l0,p,ws,v,e1,e2,t0,fp⟩:=Ge (.cons f' t') (by simp)
   exact ⟨a :: l0,p,b :: ws,v,by rw [e1]; rfl,by rw [e2]; rfl,.cons f t0,fp⟩
inductive Tf (K:PySem.W.Frag) (vs:List V) (H:Hp) (Q:VK):Prop
 | mk (seed sg:Int) (r:Addr) (l:List Rp) (xs:List V) (_:vs = [.ref r,.int seed,.int sg]) (_:0 < sg) (_:H r = some (.lst xs)) (_:PrR K H l xs) (_:¬ l = []) (_:(∀ p∈l,p.ok sg)) (_:wH l≤60) (_:∀ (v:V) (p:Rp) (l':List Rp) (xs':List V) (H':Hp),Kp r H H'→H' r = some (.lst xs')→PrR K H' l' xs'→PAt K H' (Rp.nd p) v→p.ok sg→(∀ q∈l',q.ok sg)→wH l' + p.hg≤wH l + 1→wR l' + p.wt≤wR l + 1→l'.length + 1≤l.length→wS l' + p.sz + l'.length≤wS l + l.length + 1→Q v H'):Tf K vs H Q
def AbD (K:PySem.W.Frag):Sp:=λ vs H Q _=>Tf K vs H Q
inductive Qs (K:PySem.W.Frag) (vs:List V) (H:Hp) (Q:VK):Prop
 | mk (c:Addr) (cs:List Int) (sg:Int) (_:vs = [.ref c,.int sg]) (_:SqL K H c (cs.map V.int)) (_:cs.length≤30) (_:0 < sg) (_:∀ (v:V) (p:Rp) (H':Hp),Same H H'→PAt K H' (Rp.nd p) v→p.ok sg→p.hg≤63→p.wt≤31→p.sz≤130→Q v H'):Qs K vs H Q
def Ym (K:PySem.W.Frag):Sp:=λ vs H Q _=>Qs K vs H Q
inductive Uh (K:PySem.W.Frag) (n:Nat) (vs:List V) (H:Hp) (Q:VK):Prop
 | mk (v:V) (r:Rp) (k:Int) (_:vs = [v,.int k]) (_:PAt K H (Rp.nd r) v) (_:r.hg≤n) (_:∀ (t:Addr) (v':V) H',Same H H'→H' t = some (.tup [v',.int (num r k).2])→PAt K H' (Pt.nd (num r k).1) v'→Q (.ref t) H'):Uh K n vs H Q
def Mx (K:PySem.W.Frag) (n:Nat):Sp:=λ vs H Q _=>Uh K n vs H Q
inductive R6 (K:PySem.W.Frag) (vs:List V) (H:Hp) (Q:VK):Prop
 | mk (a:Addr) (ns:List Int) (j:Nat) (_:vs = [.ref a,.int j]) (_:SqL K H a (ns.map V.int)) (_:j≤30) (_:∀ (t pr:Addr) (c n:Nat) (x1 v:V) (r:Rp) (H':Hp),Same H H'→H' t = some (.tup [.ref pr,.int (num r 0).2])→H' pr = some (.tup [.int c,x1,.int n,v])→c≤n→1≤n→n≤10→PAt K H' (num r 0).1.nd v→r.ok n→r.hg≤63→r.wt≤31→r.sz≤130→Q (.ref t) H'):R6 K vs H Q
def Xy (K:PySem.W.Frag):Sp:=λ vs H Q _=>R6 K vs H Q
section
variable {P:Program} {w:World} {K:PySem.W.Frag} {mg:Str→Option Value} {base:Heap}
theorem Zt (F:A2 K mg "_law_mixed" ["_law_cell"] F8):Aj P w K mg base 1 "_law_mixed" ["_law_cell"] Jl:=by
 refine F.ok Pu (λ vs H Q E h=>?_) (λ f cdv A outer s H vs Q E hr h=>?_)
 ·obtain ⟨c,rfl,_⟩:=h; rfl
 obtain ⟨c,rfl,q⟩:=h
 refine ⟨_,(Ae (Au (A8 Ck (A8 Xw (A8 Xw (A8 F5 (A8 Ck (pv 0) Af) Af) Af) Af) Af))),?_⟩
 refine ⟨_,Z,_,_,Z,Z,(by show (0:Int) < 2147483647; decide),_,_,Z,Z,_,_,Z,Z,.inr ⟨by decide,by decide⟩,_,_,Z,Z,.inr ⟨by decide,by decide⟩,_,_,Z,Z,(by show (0:Int) < 2147483629; decide),?_⟩
 exact q
theorem AeB (F:A2 K mg "_law_at" ["_law_script", "_law_k"] Iv) (T:Txt mg) (aH:Aj P w K mg base 1 "_law_mixed" ["_law_cell"] Jl):Aj P w K mg base 2 "_law_at" ["_law_script", "_law_k"] (AdL K):=by
 refine F.ok Wi (λ vs H Q E h=>?_) (λ f cdv A outer s H vs Q E hr h=>?_)
 ·obtain ⟨a,ns,k,rfl,_⟩:=h; rfl
 obtain ⟨a,ns,k,rfl,hS,h0,q⟩:=h
 refine ⟨_,(Ad (Bg (Am Li (pv 1) (Bs B4 rfl T.n_len PySem.boot_len (Aa (pv 0) Ab)) (Ap _))
   (Ae (Au (Av aH hr rfl Ai (Aa (Ak Be (pv 0) (pv 1) (λ _ _=>rfl)) Ab))))
   A7)
  (Ae (Au (Av aH hr rfl Ai (Aa Af Ab))))),?_⟩
 refine ⟨_,Z,_,Z,a,_,Z,.inl hS,_,_,Z,Z,_,Z,?_⟩
 refine Ay (λ c=>?_) (λ c=>?_)
 ·have c':k < (((ns.map V.int).length:Nat):Int):=iK c
  rw [hZ] at c'
  have hk:k.toNat < ns.length:=by omega
  have e:atI (ns.map V.int) ((k.toNat:Nat):Int) = some (.int ns[k.toNat]):=Ah (by rw [iH,hX hk] <;> rfl)
  rw [show ((k.toNat:Nat):Int) = k by omega] at e
  exact ⟨_,Z,_,Z,a,_,_,_,Z,Z,hS,e,_,Z,q _ (Mf _)⟩
 ·exact ⟨_,Z,q _ (Mf _)⟩
theorem AeT (F:A2 K mg "_law_leaf" ["_law_seed", "_law_signs"] Gq):Aj P w K mg base 1 "_law_leaf" ["_law_seed", "_law_signs"] (AdU K):=by
 refine F.ok Kr (λ vs H Q E h=>?_) (λ f cdv A outer s H vs Q E hr h=>?_)
 ·obtain ⟨n,sg,rfl,_⟩:=h; rfl
 obtain ⟨n,sg,rfl,a1,q⟩:=h
 refine ⟨_,(Ad (Aw (i:=2) Kr.nd rfl (Or.inl rfl) (A8 Ck (pv 0) Af))
  (Ad (Bg (Am Li (pv 2) Af (Ap _))
   (Ae (Au (A3 (Aa Ao Ab))))
   A7)
  (Ad (Bg (Am Li (pv 2) Af (Ap _))
   (Ae (Au (A3 (Aa Ao (Aa (A8 Ck (A8 Do (pv 0) Af) (pv 1)) Ab)))))
   A7)
  (Ad (Bg (Am A9 (pv 2) Af (Ap _))
   (Ae (Au (A3 (Aa Ao (Aa (A8 Ck (A8 Do (pv 0) Af) Af) Ab)))))
   A7)
  (Ad (Bg (Am A9 (A8 Ck (A8 Do (pv 0) Af) Af) Af (Ap _))
   (Ae (Au (A3 (Aa Ao Ab))))
   A7)
  (Ae (Au (A3 (Aa Ao (Aa (A8 Ck (A8 Do (pv 0) Af) (pv 1)) (Aa (A3 (Aa Ao (Aa (A8 Ck (A8 Do (pv 0) Af) (pv 1)) Ab))) (Aa (A3 (Aa Ao Ab)) Ab)))))))))))),?_⟩
 have md:∀ z:Int,0≤z % sg∧z % sg < sg:=λ z=>⟨Int.emod_nonneg _ (by omega),Int.emod_lt_of_pos _ a1⟩
 refine ⟨_,Z,_,_,Z,Z,(by show (0:Int) < 7; decide),_,Z,_,_,Z,Z,_,Z,Ay (λ c=>?_) λ c=>⟨_,Z,_,_,Z,Z,_,Z,Ay (λ c=>?_) λ c=>⟨_,Z,Z,_,Z,Ay (λ c=>?_) λ c=>⟨_,Z,_,_,Z,Z,⟨by decide,by decide⟩,_,_,Z,Z,(by show (0:Int) < 2; decide),Z,_,Z,Ay (λ c=>?_) λ c=>?_⟩⟩⟩⟩
 ·exact ⟨zN1,λ t ht=>q _ .rest _ (Ac ht _) (.t (.inl upd_same) (.cons .s .nil)) (by simp [Rp.hg]) (by simp [Rp.wt]) (by simp [Rp.sz]) trivial⟩
 ·exact ⟨_,Z,_,_,Z,Z,⟨by decide,by decide⟩,_,Z,_,_,Z,Z,a1,zN2,λ t ht=>q _ (.send (n / 7 % sg)) _ (Ac ht _) (.t (.inl upd_same) (.cons .s (.cons .i .nil))) (by simp [Rp.hg]) (by simp [Rp.wt]) (by simp [Rp.sz]) (md _)⟩
 ·exact ⟨_,Z,_,_,Z,Z,⟨by decide,by decide⟩,_,_,Z,Z,(by show (0:Int) < 2; decide),zN2,λ t ht=>q _ (.exit (n / 7 % 2)) _ (Ac ht _) (.t (.inl upd_same) (.cons .s (.cons .i .nil))) (by simp [Rp.hg]) (by simp [Rp.wt]) (by simp [Rp.sz]) ⟨Int.emod_nonneg _ (by decide),Int.lt_trans (Int.emod_lt_of_pos _ (by decide)) (by decide)⟩⟩
 ·exact ⟨zN1,λ t ht=>q _ .nothing _ (Ac ht _) (.t (.inl upd_same) (.cons .s .nil)) (by simp [Rp.hg]) (by simp [Rp.wt]) (by simp [Rp.sz]) trivial⟩
 ·refine ⟨_,Z,_,_,Z,Z,⟨by decide,by decide⟩,_,Z,_,_,Z,Z,a1,_,Z,_,_,Z,Z,⟨by decide,by decide⟩,_,Z,_,_,Z,Z,a1,zN2,λ t1 a2=>⟨zN1,λ t2 a3=>⟨zN4,λ t ht=>?_⟩⟩⟩
  obtain ⟨g,n1,n2,n3⟩:=Aeg (a:=.tup [V.str "send", .int (n / 1400 % sg)]) (b:=.tup [V.str "nothing"]) (c:=.tup [V.str "if", .int (n / 7 % sg),.ref t1,.ref t2]) a2 a3 ht
  exact q _ (.iff (n / 7 % sg) (.send (n / 1400 % sg)) .nothing) _ g (.t (.inl n3) (.cons .s (.cons .i (.cons (.t (.inl n1) (.cons .s (.cons .i .nil))) (.cons (.t (.inl n2) (.cons .s .nil)) .nil))))) (by simp [Rp.hg]) (by simp [Rp.wt]) (by simp [Rp.sz]) ⟨md _,md _,trivial⟩
theorem Abx {n k:Nat} (F:A2 K mg "_law_deep" ["_law_part"] Ep) (T:Txt mg) (bA:Aj P w K mg base k "_law_deep" ["_law_part"] (Jr K n)):Aj P w K mg base (k + 1) "_law_deep" ["_law_part"] (Jr K (n + 1)):=by
 refine F.ok Ku (λ vs H Q E h=>?_) (λ f cdv A outer s H vs Q E hr h=>?_)
 ·obtain ⟨v,r,rfl,_⟩:=h; rfl
 obtain ⟨v,r,rfl,av,hh,q⟩:=h
 refine ⟨_,(Ad (Ds (j:=1) (g:=(Bo 0)) (tc:=(tB (tCB (Vx K) (C6 (Bh 0) (C6 (tC (.ty "tuple")) Ef))))) (te:=(Lp (Jr K n) [] E0 (C6 (Bh 0) Ef))) ["_law_one"] [] Ku.nd rfl (Or.inl rfl) rfl (Bw (Ag Ep) ["_law_part", "_law_inner"] (by decide +kernel)) (Hq (pv 0)) (λ s2 H2 fp cl C=>Aq (i:=0) (show Nodup [("_law_one" : Str)] from by decide +kernel) rfl (Or.inl rfl)) (Bf (by decide)) (λ s2 H2 fp cl C=>Dm (Kv (Bs Ih rfl T.n_isinstance PyProof.Rows.boot_isinstance (Aa (pv 0) (Aa (N1 rfl T.n_tuple (by decide +kernel) (v:=.ty "tuple") rfl) Ab))))) (λ s2 H2 fp cl C=>(Av bA hr rfl Ai (Aa (pv 0) Ab))))
  (Ae (Au (A8 F5 (Bu La rfl T.n_int (by decide +kernel) (Aa (Dp A9 (Ak Ar (pv 0) Af (λ _ _=>rfl)) Ao (Ap _)) Ab)) (Ab7 rfl rfl T.n_max (Aa (pv 1) Ab) (Ab1 Af AdQ)))))),?_⟩
 obtain ⟨x,xs,er,l3,hc⟩:=Ado r
 rw [er] at av
 obtain ⟨a,vs,rfl,ha,hx⟩:=av.get
 have a4:=hx.len
 rw [iT] at a4
 have a6:∃ r0,vs = .str x :: r0:=by
  unfold Ba at hx
  obtain ⟨v0,r0,e,hs,_⟩:=hx
  exact ⟨r0,by rw [e,hs.str]⟩
 refine ⟨_,Z,a,Z,⟨_,ha.sq⟩,Qt (K:=K) (a:=a) (xs:=vs) (λ i ys H'=>Same H H'∧∃ ns:List Int,ys = ns.map V.int) ⟨Same.refl _,[],Z⟩ (Eg (by omega)) (λ i ys H' h=>(ha.mono h.1.tp).sq) ?_ ?_⟩
 ·rintro i y ys H2 M hi ⟨g2,ns,rfl⟩ a3 a2
  obtain ⟨nd,hn,a1⟩:=hx.at hi
  have a1:=a1.mono g2.tp
  obtain ⟨ty,a5,ek⟩:=Xr a1
  refine ⟨_,Z,_, "tuple", ty,_,Z,a5,ek,_,Z,?_⟩
  refine Ay (λ c=>?_) (λ c=>?_)
  ·rcases jK.mp (iN hn) with e | nm
   ·rw [e] at c; cases c
   rcases hc nd nm with ⟨k',e⟩ | ⟨r',e,a7⟩
   ·rw [e] at c; cases c
   subst e
   refine ⟨_,Z,y,r',Z,a1,by omega,λ m H3 g3=>?_⟩
   exact a3 _ _ (by rw [iB,iD]; exact succ_le_succ a2) ⟨g2.trans g3,ns ++ [m],by simp⟩
  ·exact a3 _ _ (Nat.le_succ_of_le a2) ⟨g2,ns,Z⟩
 ·rintro ys H2 a2 ⟨g2,ns,rfl⟩ D hD
  have kD:=Ac hD (.lst (ns.map V.int))
  obtain ⟨r0,rfl⟩:=a6
  refine ⟨_,Z,a,_,_,_,Z,Z,(ha.mono (g2.trans kD).tp).sq,Ah (j:=0) rfl,Z,.inr ⟨_,Z,_,Z,D,ns,0,Z,Z,SqL.of upd_same,_,_,Z,Z,q _ _ (g2.trans kD)⟩⟩
theorem Rt (F:A2 K mg "_law_deep" ["_law_part"] Ep) (T:Txt mg):∀ n:Nat,Aj P w K mg base n "_law_deep" ["_law_part"] (Jr K n)
 | 0=>F.zero (sp:=Jr K 0) λ vs H Q E ⟨v,r,_,_,hh,_⟩=>absurd hh (Nat.not_le_of_gt r.hg_pos)
 | n + 1=>Abx F T (Rt F T n)
theorem Aet {l:List Rp} {xs:List V} {F:Rp→V→Prop} (h:PySem.Paired F l xs) (c:¬ (xs.length:Int) = 0):¬ l = []:=by
 rintro rfl
 cases h
 exact c rfl
theorem Aa8 {x y:Str} (m:Int):∃ z,(z = x∨z = y)∧atI [V.str x,V.str y] (m % 2) = some (.str z):=by
 have h1:=Int.emod_nonneg m (show (2:Int)≠0 by decide)
 have h2:=Int.emod_lt_of_pos m (show (0:Int) < 2 by decide)
 have:m % 2 = 0∨m % 2 = 1:=by omega
 rcases this with e | e
 ·exact ⟨x,.inl rfl,by rw [e]; exact Ah (j:=0) rfl⟩
 ·exact ⟨y,.inr rfl,by rw [e]; exact Ah (j:=1) rfl⟩
theorem AdC (F:A2 K mg "_law_grown" ["_law_stack", "_law_seed", "_law_signs"] Gb) (T:Txt mg) (bA:Aj P w K mg base 60 "_law_deep" ["_law_part"] (Jr K 60)):Aj P w K mg base 61 "_law_grown" ["_law_stack", "_law_seed", "_law_signs"] (AbD K):=by
 refine F.ok El (λ vs H Q E h=>?_) (λ f cdv A outer s H vs Q E hr h=>?_)
 ·obtain ⟨seed,sg,r,l,xs,rfl,_⟩:=h; rfl
 obtain ⟨seed,sg,r,l,xs,rfl,b4,hv,c9,d2,b6,c7,q⟩:=h
 refine ⟨_,(Ad (Aw (i:=3) El.nd rfl (Or.inl rfl) (A8 Ck (pv 1) Af))
  (Ad (Aw (i:=4) El.nd rfl (Or.inl rfl) (A8 Ck (A8 Do (pv 1) Af) (pv 2)))
  (Ad (Aw (i:=5) El.nd rfl (Or.inl rfl) (Gz PySem.F.plainAttrs_list PySem.F.slot_list_pop PySem.F.type_list_pop K2 (pv 0)))
  (Ad (Bg (Am A9 (pv 3) Af (Ap _))
   (Ae (Au (A3 (Aa Ao (Aa (pv 5) Ab)))))
   A7)
  (Ad (Bg (Am A9 (pv 3) Af (Ap _))
   (Ae (Au (A3 (Aa (Ak Be (Ax (Aa Ao (Aa Ao Ab))) (A8 Ck (A8 Do (pv 1) Af) Af) (λ _ _=>rfl)) (Aa (pv 4) (Aa (pv 5) Ab))))))
   A7)
  (Ad (Bg (PW.pt (Yh (Am A9 (pv 3) Af (Ap _)) (Tg (Am Li (Av bA hr rfl Ai (Aa (pv 5) Ab)) Af (Ap _)))))
   (Ae (Au (A3 (Aa Ao (Aa (pv 5) Ab)))))
   A7)
  (Ad (Bg (PW.pt (Fu (Am A9 (Bs B4 rfl T.n_len PySem.boot_len (Aa (pv 0) Ab)) Af (Ap _)) (Ft (Am A9 (pv 3) Af (Ap _)))))
   (Ae (Au (A3 (Aa Ao (Aa (pv 4) (Aa (pv 5) (Aa (A3 (Aa Ao Ab)) Ab)))))))
   A7)
  (Ad (Aw (i:=6) El.nd rfl (Or.inl rfl) (Gz PySem.F.plainAttrs_list PySem.F.slot_list_pop PySem.F.type_list_pop K2 (pv 0)))
  (Ad (Bg (Am A9 (pv 3) Af (Ap _))
   (Ae (Au (A3 (Aa Ao (Aa (pv 4) (Aa (pv 6) (Aa (pv 5) Ab)))))))
   A7)
  (Ad (Bg (Am A9 (pv 3) Af (Ap _))
   (Ae (Au (A3 (Aa Ao (Aa (pv 6) (Aa (pv 5) Ab))))))
   A7)
  (Ae (Au (A3 (Aa Ao (Aa (pv 6) (Aa (pv 5) Ab)))))))))))))))),?_⟩
 obtain ⟨l0,p,ws,v,rfl,rfl,c5,ap⟩:=Ge c9 d2
 have op:p.ok sg:=b6 p (by simp)
 have hm:0≤seed / 16 % sg∧seed / 16 % sg < sg:=⟨Int.emod_nonneg _ (by omega),Int.emod_lt_of_pos _ b4⟩
 have a5:∀ q∈l0,q.ok sg:=λ q hq=>b6 q (jW _ hq)
 have pp:=Rp.hg_pos p
 rw [Fq] at c7
 rw [Fq,Gh,Gf] at q
 refine ⟨_,Z,_,_,Z,Z,(by show (0:Int) < 16; decide),_,Z,_,_,Z,Z,⟨by decide,by decide⟩,_,Z,_,_,Z,Z,b4,?_⟩
 refine ⟨_,Z,.inl ⟨Z,_,SqL.of hv⟩,r,_,v,Z,Z,hv,by simp,?_⟩
 have e0:(ws ++ [v]).dropLast = ws:=by simp
 have T0:Tp H (upd H r (.lst (ws ++ [v]).dropLast)):=Tp.lst hv
 have k0:Kp r H (upd H r (.lst (ws ++ [v]).dropLast)):=Kp.upd
 have a9:(upd H r (.lst (ws ++ [v]).dropLast)) r = some (.lst ws):=by rw [upd_same,e0]
 have b2:=Dx T0 c5
 have a2:=ap.mono T0
 generalize (upd H r (.lst (ws ++ [v]).dropLast)) = H1 at a9 b2 a2 k0
 have one:∀ (H2:Hp) (t:Addr) (o:List V) (p':Rp),Same H1 H2→H2 t = none→PAt K (upd H2 t (.tup o)) (Rp.nd p') (.ref t)→p'.ok sg→p'.hg≤p.hg + 1→p'.wt≤p.wt + 1→p'.sz≤p.sz + 2→Q (.ref t) (upd H2 t (.tup o)):=by
  intro H2 t o p' g2 ht a o' h1 h2 h3
  have g:=g2.trans (Ac ht (.tup o))
  exact q _ p' l0 ws _ (k0.trans (Same.kp g)) (g _ _ a9) (Dx g.tp b2) a o' a5 (by omega) (by omega) (by simp) (by rw [iB,iD]; omega)
 refine ⟨_,Z,Z,_,Z,Ay (λ c=>?_) λ c=>?_⟩
 ·exact ⟨_,Z,zN2,λ t ht=>one H1 t _ (.again p) (Same.refl _) ht (.t (.inl upd_same) (.cons .s (.cons (a2.mono (Ac ht _).tp) .nil))) op (by simp only [Rp.hg]; omega) (by simp only [Rp.wt]; omega) (by simp only [Rp.sz]; omega)⟩
 refine ⟨_,Z,Z,_,Z,Ay (λ c=>?_) λ c=>?_⟩
 ·obtain ⟨z,hz,ez⟩:=Aa8 (x:= "hold") (y:= "watch") (seed / 500)
  refine ⟨zN2,λ l5 c6=>?_⟩
  have k5:=Ac c6 (.lst [V.str "hold", .str "watch"])
  refine ⟨_,Z,_,_,Z,Z,⟨by decide,by decide⟩,_,_,Z,Z,(by show (0:Int) < 2; decide),l5,_,_,.str z,Z,Z,SqL.of upd_same,ez,_,Z,_,Z,zN3,λ t ht=>?_⟩
  have ax:=a2.mono (k5.trans (Ac ht (.tup [V.str z,.int (seed / 16 % sg),v]))).tp
  rcases hz with rfl | rfl
  ·exact one _ t _ (.hold (seed / 16 % sg) p) k5 ht (.t (.inl upd_same) (.cons .s (.cons .i (.cons ax .nil)))) ⟨hm,op⟩ (by simp only [Rp.hg]; omega) (by simp only [Rp.wt]; omega) (by simp only [Rp.sz]; omega)
  ·exact one _ t _ (.watch (seed / 16 % sg) p) k5 ht (.t (.inl upd_same) (.cons .s (.cons .i (.cons ax .nil)))) ⟨hm,op⟩ (by simp only [Rp.hg]; omega) (by simp only [Rp.wt]; omega) (by simp only [Rp.sz]; omega)
 dsimp only [Bo,Vf,Rg,tC,Vp]
 refine L6 (λ b H'=>Same H1 H') (λ Q' k=>?_) ?_ ?_
 ·refine ⟨_,Z,Z,_,Z,Ay (λ c=>?_) λ c=>k _ _ (Same.refl _)⟩
  exact ⟨_,Z,v,p,Z,a2,by omega,λ m H2 g2=>⟨_,_,Z,Z,_,Z,k _ _ g2⟩⟩
 ·intro H2 g2
  exact ⟨_,Z,zN2,λ t ht=>one H2 t _ (.trap p) g2 ht (.t (.inl upd_same) (.cons .s (.cons (a2.mono (g2.trans (Ac ht _)).tp) .nil))) op (by simp only [Rp.hg]; omega) (by simp only [Rp.wt]; omega) (by simp only [Rp.sz]; omega)⟩
 intro H2 g2
 have a3:=g2 _ _ a9
 have a8:=Dx g2.tp b2
 have b5:=a2.mono g2.tp
 have k1:=k0.trans (Same.kp g2)
 have d5:=PySem.Paired.length a8
 dsimp only [Bo,Vf,Rg,tC,Vp]
 refine L6 (λ b H'=>H' = H2∧(b = false→¬ l0 = [])) (λ Q' k=>?_) ?_ ?_
 ·refine ⟨_,Z,r,_,Z,.inl (SqL.of a3),Z,_,Z,Ay (λ c=>k _ _ ⟨Z,λ z=>nomatch z⟩) λ c=>?_⟩
  have a4:¬ l0 = []:=Aet a8 (λ z=>c (iI (by rw [z])))
  exact ⟨_,Z,Z,_,Z,k _ _ ⟨Z,λ _=>a4⟩⟩
 ·rintro H3 ⟨rfl,_⟩
  refine ⟨_,Z,_,Z,zN1,λ t1 d3=>⟨zN4,λ t ht=>?_⟩⟩
  obtain ⟨g,n1,n2⟩:=Jz (a:=.tup [V.str "nothing"]) (b:=.tup [V.str "if", .int (seed / 16 % sg),v,.ref t1]) d3 ht
  exact q _ (.iff (seed / 16 % sg) p .nothing) l0 ws _ (k1.trans (Same.kp g)) (g _ _ a3) (Dx g.tp a8) (.t (.inl n2) (.cons .s (.cons .i (.cons (b5.mono g.tp) (.cons (.t (.inl n1) (.cons .s .nil)) .nil))))) ⟨hm,op,trivial⟩ a5 (by simp only [Rp.hg]; omega) (by simp only [Rp.wt]; omega) (by simp) (by simp only [Rp.sz,iB,iD]; omega)
 rintro H3 ⟨rfl,a4⟩
 obtain ⟨l1,p2,a1,v2,rfl,rfl,b9,b8⟩:=Ge a8 (a4 rfl)
 have b1:p2.ok sg:=a5 p2 (by simp)
 have c8:∀ q∈l1,q.ok sg:=λ q hq=>a5 q (jW _ hq)
 have d4:=Rp.hg_pos p2
 rw [Fq,Gh,Gf] at q
 refine ⟨_,Z,.inl ⟨Z,_,SqL.of a3⟩,r,_,v2,Z,Z,a3,by simp,?_⟩
 have T2:Tp H3 (upd H3 r (.lst (a1 ++ [v2]).dropLast)):=Tp.lst a3
 have k2:Kp r H3 (upd H3 r (.lst (a1 ++ [v2]).dropLast)):=Kp.upd
 have b3:(upd H3 r (.lst (a1 ++ [v2]).dropLast)) r = some (.lst a1):=by rw [upd_same]; simp
 have b7:=Dx T2 b9
 have a7:=b5.mono T2
 have a6:=b8.mono T2
 have k3:=k1.trans k2
 generalize (upd H3 r (.lst (a1 ++ [v2]).dropLast)) = H4 at b3 b7 a7 a6 k3
 have two:∀ (t:Addr) (o:List V) (p':Rp) (ht:H4 t = none),PAt K (upd H4 t (.tup o)) (Rp.nd p') (.ref t)→p'.ok sg→p'.hg≤p.hg + p2.hg→p'.wt≤p.wt + p2.wt→p'.sz≤p.sz + p2.sz + 1→Q (.ref t) (upd H4 t (.tup o)):=by
  intro t o p' ht a o' h1 h2 h3
  have g:=Ac ht (.tup o)
  exact q _ p' l1 a1 _ (k3.trans (Same.kp g)) (g _ _ b3) (Dx g.tp b7) a o' c8 (by omega) (by omega) (by simp) (by rw [iB,iB,iD,iD]; omega)
 refine ⟨_,Z,Z,_,Z,Ay (λ c=>?_) λ c=>⟨_,Z,Z,_,Z,Ay (λ c=>?_) λ c=>?_⟩⟩
 ·exact ⟨_,Z,_,Z,_,Z,zN4,λ t ht=>two t _ (.iff (seed / 16 % sg) p2 p) ht (.t (.inl upd_same) (.cons .s (.cons .i (.cons (a6.mono (Ac ht _).tp) (.cons (a7.mono (Ac ht _).tp) .nil))))) ⟨hm,b1,op⟩ (by simp only [Rp.hg]; omega) (by simp only [Rp.wt]; omega) (by simp only [Rp.sz]; omega)⟩
 ·exact ⟨_,Z,_,Z,zN3,λ t ht=>two t _ (.thn p2 p) ht (.t (.inl upd_same) (.cons .s (.cons (a6.mono (Ac ht _).tp) (.cons (a7.mono (Ac ht _).tp) .nil)))) ⟨b1,op⟩ (by simp only [Rp.hg]; omega) (by simp only [Rp.wt]; omega) (by simp only [Rp.sz]; omega)⟩
 ·exact ⟨_,Z,_,Z,zN3,λ t ht=>two t _ (.bes p2 p) ht (.t (.inl upd_same) (.cons .s (.cons (a6.mono (Ac ht _).tp) (.cons (a7.mono (Ac ht _).tp) .nil)))) ⟨b1,op⟩ (by simp only [Rp.hg]; omega) (by simp only [Rp.wt]; omega) (by simp only [Rp.sz]; omega)⟩
theorem Abv (F:A2 K mg "_law_body" ["_law_cells", "_law_signs"] Gu) (T:Txt mg) (aH:Aj P w K mg base 1 "_law_mixed" ["_law_cell"] Jl) (dR:Aj P w K mg base 1 "_law_leaf" ["_law_seed", "_law_signs"] (AdU K)) (cY:Aj P w K mg base 61 "_law_grown" ["_law_stack", "_law_seed", "_law_signs"] (AbD K)):Aj P w K mg base 62 "_law_body" ["_law_cells", "_law_signs"] (Ym K):=by
 refine F.ok D8 (λ vs H Q E h=>?_) (λ f cdv A outer s H vs Q E hr h=>?_)
 ·obtain ⟨c,cs,sg,rfl,_⟩:=h; rfl
 obtain ⟨c,cs,sg,rfl,hS,hn,b4,q⟩:=h
 refine ⟨_,(Ad (Aw (i:=2) D8.nd rfl (Or.inl rfl) (Ax (Aa (A3 (Aa Ao Ab)) Ab)))
  (Ad (De PassesOwn.never rfl (B9 (pv 0)) (Aq (i:=3) D8.nd rfl (Or.inl rfl))
   (Ad (Aw (i:=4) D8.nd rfl (Or.inl rfl) (Av aH hr rfl Ai (Aa (pv 3) Ab)))
  (Ae (Bg (PW.pt (Fu (Am Li (A8 Ck (pv 4) Af) Af (Ap _)) (Ft (Am A9 (Bs B4 rfl T.n_len PySem.boot_len (Aa (pv 2) Ab)) Af (Ap _)))))
   (Ae (A0 (Dt PySem.F.plainAttrs_list PySem.F.slot_list_append PySem.F.type_list_append B6 (pv 2) (Aa (Av dR hr rfl Ai (Aa (A8 Do (pv 4) Af) (Aa (pv 1) Ab))) Ab))))
   (Ae (A0 (Dt PySem.F.plainAttrs_list PySem.F.slot_list_append PySem.F.type_list_append B6 (pv 2) (Aa (Av cY hr rfl Ai (Aa (pv 2) (Aa (pv 4) (Aa (pv 1) Ab)))) Ab))))))))
  (Ad (J1 PassesOwn.never (Am AbE (Bs B4 rfl T.n_len PySem.boot_len (Aa (pv 2) Ab)) Af (Ap _))
   (Ad (Aw (i:=5) D8.nd rfl (Or.inl rfl) (Gz PySem.F.plainAttrs_list PySem.F.slot_list_pop PySem.F.type_list_pop K2 (pv 2)))
  (Ad (Aw (i:=6) D8.nd rfl (Or.inl rfl) (Gz PySem.F.plainAttrs_list PySem.F.slot_list_pop PySem.F.type_list_pop K2 (pv 2)))
  (Ae (A0 (Dt PySem.F.plainAttrs_list PySem.F.slot_list_append PySem.F.type_list_append B6 (pv 2) (Aa (A3 (Aa (Ak Be (Ax (Aa Ao (Aa Ao Ab))) (A8 Ck (Bs B4 rfl T.n_len PySem.boot_len (Aa (pv 2) Ab)) Af) (λ _ _=>rfl)) (Aa (pv 6) (Aa (pv 5) Ab)))) Ab)))))))
  (Ae (Au (A3 (Aa Ao (Aa (A3 (Aa Ao (Aa (Ak Be (pv 2) Af (λ _ _=>rfl)) Ab))) Ab)))))))),?_⟩
 refine ⟨zN1,λ t0 b6=>⟨zN1,λ r b5=>?_⟩⟩
 obtain ⟨g0,n0,nr⟩:=Jz (a:=.tup [V.str "rest"]) (b:=.lst [.ref t0]) b6 b5
 have a5:H r = none:=(Ac b6 _).free b5
 refine ⟨_,rfl,c,rfl,⟨_,g0.seq hS⟩,Fn (K:=K) (a:=c) (xs:=cs.map V.int)
  (λ i σ H1=>∃ (l:List Rp) (xs:List V) (x3 x4:Option V),σ = [some (.ref c),some (.int sg),some (.ref r),x3,x4,none,none]∧Same H H1∧H1 r = some (.lst xs)∧PrR K H1 l xs∧¬ l = []∧(∀ p∈l,p.ok sg)∧wH l≤2 * i + 1∧wR l≤i + 1∧l.length≤i + 1∧wS l + l.length≤4 * i + 2)
  ⟨[.rest],[.ref t0],none,none,Z,g0,nr,.cons (.t (.inl n0) (.cons .s .nil)) .nil,by simp,λ p hp=>by rw [mS hp]; trivial,by simp [wH,Rp.hg],by simp [wR,Rp.wt],by simp,by simp [wS,Rp.sz]⟩ (λ i σ H1 _ ⟨_,_,_,_,_,g,_⟩=>g.seq hS) ?_ ?_⟩
 ·rintro i y σ H1 hi ⟨l,xs,x3,x4,rfl,g1,hv,a3,a6,a2,h1,h2,h3,h4⟩
  have d3:i < (cs.map V.int).length:=(List.getElem?_eq_some_iff.mp hi).1
  rw [hZ] at d3
  obtain ⟨z,rfl⟩:∃ z,y = V.int z:=by
   rw [iH] at hi
   cases e:cs[i]? with
   | none=>rw [e] at hi; cases hi
   | some z=>rw [e] at hi; exact ⟨z,(Option.some.inj hi).symm⟩
  refine ⟨_,Z,z,Z,?_⟩
  have hm:=Mf z
  generalize Hs z = m at hm
  dsimp only [Bo]
  have c7:=PySem.Paired.length a3
  refine L6 (λ b H'=>H' = H1) (λ Q' k=>?_) ?_ ?_
  ·exact ⟨_,Z,_,_,Z,Z,(by show (0:Int) < 16; decide),_,_,Z,Z,_,Z,Ay (λ c=>k _ _ rfl) λ c=>⟨_,Z,r,_,Z,.inl (SqL.of hv),Z,_,Z,k _ _ rfl⟩⟩
  ·rintro H2 rfl
   refine ⟨_,Z,.inl ⟨Z,_,SqL.of hv⟩,_,Z,_,_,Z,Z,⟨by decide,by decide⟩,_,Z,m / 16,sg,Z,b4,λ v p H3 g3 P3 e1 e2 e4 e3=>?_⟩
   have a4:=g3 _ _ hv
   refine ⟨r,_,_,Z,Z,a4,Ex (by omega),?_⟩
   have T3:Tp H3 (upd H3 r (.lst (xs ++ [v]))):=Tp.lst a4
   refine ⟨l ++ [p],xs ++ [v],_,_,Z,(g1.trans g3).young a5 _,upd_same,(Dx T3 (Dx g3.tp a3)).snoc (P3.mono T3),by simp,λ q hq=>?_,by rw [Fq]; omega,by rw [Gh]; omega,by simp; omega,by rw [Gf,iB,iD]; omega⟩
   rcases iU.mp hq with z | z
   ·exact a2 q z
   ·rw [mS z]; exact e3
  ·rintro H2 rfl
   refine ⟨_,Z,.inl ⟨rfl,_,SqL.of hv⟩,_,Z,_,Z,_,Z,m,sg,r,l,xs,Z,b4,hv,a3,a6,a2,by omega,λ v p l' xs' H3 k3 a4 b7 P3 op c9 e1 e2 e3 e4=>?_⟩
   have b9:=PySem.Paired.length b7
   refine ⟨r,_,_,Z,Z,a4,Ex (by omega),?_⟩
   have T3:Tp H3 (upd H3 r (.lst (xs' ++ [v]))):=Tp.lst a4
   refine ⟨l' ++ [p],xs' ++ [v],_,_,Z,(g1.byKp a5 k3).young a5 _,upd_same,(Dx T3 b7).snoc (P3.mono T3),by simp,λ q hq=>?_,by rw [Fq]; omega,by rw [Gh]; omega,by simp; omega,by rw [Gf,iB,iD]; omega⟩
   rcases iU.mp hq with z | z
   ·exact c9 q z
   ·rw [mS z]; exact op
 ·rintro σ H1 ⟨l,xs,x3,x4,rfl,g1,hv,a3,a6,a2,h1,h2,h3,h4⟩
  rw [hZ] at h1 h2 h3 h4
  refine J0 (λ σ H1=>∃ (l:List Rp) (xs:List V) (x5 x6:Option V),σ = [some (.ref c),some (.int sg),some (.ref r),x3,x4,x5,x6]∧Same H H1∧H1 r = some (.lst xs)∧PrR K H1 l xs∧¬ l = []∧(∀ p∈l,p.ok sg)∧wH l≤2 * cs.length + 1∧wR l≤cs.length + 1∧l.length≤cs.length + 1∧wS l + l.length≤4 * cs.length + 2)
    (λ σ H1=>match H1 r with | some (.lst us)=>us.length | _=>0) ⟨l,xs,none,none,Z,g1,hv,a3,a6,a2,h1,h2,h3,h4⟩ ?_ ?_
  ·rintro σ H1 ⟨l,xs,x5,x6,rfl,g1,hv,a3,a6,a2,h1,h2,h3,h4⟩
   have c7:=PySem.Paired.length a3
   refine ⟨_,Z,r,_,Z,.inl (SqL.of hv),_,_,Z,Z,_,Z,Ay (λ c=>?_) λ c=>?_⟩
   ·have c6:2≤xs.length:=by have:=iK c; omega
    obtain ⟨l0,p,ws,v,rfl,rfl,a8,ap⟩:=Ge a3 a6
    have b8:¬ l0 = []:=by
     rintro rfl
     cases a8
     simp at c6
    obtain ⟨l1,p2,a1,v2,rfl,rfl,b3,b1⟩:=Ge a8 b8
    rw [Fq,Fq] at h1
    rw [Gh,Gh] at h2
    rw [Gf,Gf,iB,iB,iD,iD] at h4
    have d7:l1.length + 1 + 1≤cs.length + 1:=by simpa using h3
    have b9:=PySem.Paired.length b3
    have pp:=Rp.hg_pos p
    have d6:=Rp.hg_pos p2
    refine ⟨_,Z,.inl ⟨Z,_,SqL.of hv⟩,r,_,v,Z,Z,hv,by simp,?_⟩
    have T0:Tp H1 (upd H1 r (.lst (a1 ++ [v2] ++ [v]).dropLast)):=Tp.lst hv
    have a9:(upd H1 r (.lst (a1 ++ [v2] ++ [v]).dropLast)) r = some (.lst (a1 ++ [v2])):=by rw [upd_same]; simp
    have gz:Same H (upd H1 r (.lst (a1 ++ [v2] ++ [v]).dropLast)):=g1.young a5 _
    refine ⟨_,Z,.inl ⟨Z,_,SqL.of a9⟩,r,_,v2,Z,Z,a9,by simp,?_⟩
    have T1:=T0.trans (Tp.lst (o:=.lst (a1 ++ [v2]).dropLast) a9)
    have a7:(upd (upd H1 r (.lst (a1 ++ [v2] ++ [v]).dropLast)) r (.lst (a1 ++ [v2]).dropLast)) r = some (.lst a1):=by rw [upd_same]; simp
    have b2:Same H (upd (upd H1 r (.lst (a1 ++ [v2] ++ [v]).dropLast)) r (.lst (a1 ++ [v2]).dropLast)):=gz.young a5 _
    generalize (upd (upd H1 r (.lst (a1 ++ [v2] ++ [v]).dropLast)) r (.lst (a1 ++ [v2]).dropLast)) = H2 at a7 b2 T1
    obtain ⟨z,hz,ez⟩:=Aa8 (x:= "then") (y:= "beside") (a1.length:Int)
    refine ⟨_,Z,.inl ⟨rfl,_,SqL.of a7⟩,zN2,λ l5 c8=>?_⟩
    have k5:=Ac c8 (.lst [V.str "then", .str "beside"])
    have c5:=k5 _ _ a7
    refine ⟨_,Z,r,_,Z,.inl (SqL.of c5),_,_,Z,Z,(by show (0:Int) < 2; decide),l5,_,_,.str z,Z,Z,SqL.of upd_same,ez,_,Z,_,Z,zN3,λ t ht=>?_⟩
    have g3:=k5.trans (Ac ht (.tup [V.str z,v2,v]))
    have a4:=g3 _ _ a7
    refine ⟨r,_,_,Z,Z,a4,Ex (by omega),?_⟩
    have T3:=Tp.lst (o:=.lst (a1 ++ [.ref t])) a4
    have T4:=T1.trans (g3.tp.trans T3)
    obtain ⟨pz,az,oz,e6,d8,d9⟩:∃ pz:Rp,PAt K (upd (upd (upd H2 l5 (.lst [V.str "then", .str "beside"])) t (.tup [V.str z,v2,v])) r (.lst (a1 ++ [.ref t]))) (Rp.nd pz) (.ref t)∧pz.ok sg∧pz.hg≤p2.hg + p.hg∧pz.wt≤p2.wt + p.wt∧pz.sz≤p2.sz + p.sz + 1:=by
     rcases hz with rfl | rfl
     ·exact ⟨.thn p2 p,.t (.inl (T3 _ _ upd_same)) (.cons .s (.cons (b1.mono T4) (.cons (ap.mono T4) .nil))),⟨a2 p2 (by simp),a2 p (by simp)⟩,by simp only [Rp.hg]; omega,by simp only [Rp.wt]; omega,by simp only [Rp.sz]; omega⟩
     ·exact ⟨.bes p2 p,.t (.inl (T3 _ _ upd_same)) (.cons .s (.cons (b1.mono T4) (.cons (ap.mono T4) .nil))),⟨a2 p2 (by simp),a2 p (by simp)⟩,by simp only [Rp.hg]; omega,by simp only [Rp.wt]; omega,by simp only [Rp.sz]; omega⟩
    refine ⟨⟨l1 ++ [pz],a1 ++ [.ref t],_,_,Z,(b2.trans g3).young a5 _,upd_same,PySem.Paired.snoc (a:=pz) (Dx T4 b3) az,by simp,λ q hq=>?_,?_,?_,by simp; omega,?_⟩,?_⟩
    ·rcases iU.mp hq with z | z
     ·exact a2 q (by simp [z])
     ·rw [mS z]; exact oz
    ·rw [Fq]; omega
    ·rw [Gh]; omega
    ·rw [Gf,iB,iD]; omega
    ·show (match (upd (upd (upd H2 l5 (.lst [V.str "then", .str "beside"])) t (.tup [V.str z,v2,v])) r (.lst (a1 ++ [.ref t]))) r with | some (.lst us)=>us.length | _=>0) < (match H1 r with | some (.lst us)=>us.length | _=>0)
     rw [upd_same,hv]
     simp
   ·have d5:¬ 1 < xs.length:=λ z=>c (iI (by omega))
    obtain ⟨l0,p,ws,v,rfl,rfl,a8,ap⟩:=Ge a3 a6
    have e0:ws = []:=by
     cases ws with
     | nil=>rfl
     | cons _ _=>simp at d5
    subst e0
    cases a8
    refine ⟨_,Z,r,_,_,v,Z,Z,SqL.of hv,Ah (j:=0) rfl,zN2,λ t1 d4=>⟨zN2,λ t2 d2=>?_⟩⟩
    obtain ⟨g3,n1,n2⟩:=Jz (a:=.tup [V.str "trap", v]) (b:=.tup [V.str "trap", .ref t1]) d4 d2
    have eH:wH ([] ++ [p]) = p.hg:=by simp [wH]
    have eR:wR ([] ++ [p]) = p.wt:=by simp [wR]
    rw [eH] at h1
    rw [eR] at h2
    have eS:wS ([] ++ [p]) = p.sz:=by simp [wS]
    rw [eS] at h4
    exact q _ (.trap (.trap p)) _ (g1.trans g3) (.t (.inl n2) (.cons .s (.cons (.t (.inl n1) (.cons .s (.cons (ap.mono g3.tp) .nil))) .nil))) (a2 p (by simp)) (by simp only [Rp.hg]; omega) (by simp only [Rp.wt]; omega) (by simp only [Rp.sz]; omega)
  ·rintro σ H Q Q' h ⟨v,e,p,xs,e2,s,i,j,e3,e4,k,e5,q⟩
   exact ⟨v,e,p,xs,e2,s,i,j,e3,e4,k,e5,h _ _ q⟩
theorem Gx {x:Str} {pos:Pos} {rest:List Expr} {env:Env}:starEach (.Name x pos :: rest) env = (false,eval (.Name x pos) env) :: starEach rest env:=rfl
structure QE (X:Cx) (e:Expr) (t:TE):Prop where
 of:PE X e t
structure QA (X:Cx) (es:List Expr) (t:TA):Prop where
 of:PA X es t
theorem qe {X:Cx} {e:Expr} {t:TE} (h:PE X e t):QE X e t:=⟨h⟩
theorem Xt {X:Cx}:QA X [] Ef:=⟨Ab⟩
theorem Hk {X:Cx} {e:Expr} {es:List Expr} {te:TE} {t:TA} (h:QE X e te) (hr:QA X es t) (hs:starEach (e :: es) X.env = (false,eval e X.env) :: starEach es X.env):QA X (e :: es) (C6 te t):=⟨Aa h.of hr.of hs⟩
theorem Acv {X:Cx} {es:List Expr} {x1:Nat} {pos:Pos} {t:TA} (h:QA X es t):QE X (.Tuple es x1 pos) (Mp t):=⟨A3 h.of⟩
theorem Abo {X:Cx} {es:List Expr} {x1:Nat} {pos:Pos} {t:TA} (h:QA X es t):PE X (.Tuple es x1 pos) (Mp t):=A3 h.of
theorem Qu {es:List Expr} {k:Nat} {pos:Pos} {rest:List Expr} {env:Env}:starEach (.Tuple es k pos :: rest) env = (false,eval (.Tuple es k pos) env) :: starEach rest env:=rfl
theorem Bp {K:PySem.W.Frag} {H:Hp} {x:Nd} {xs:List Nd} {vs:List V} (h:Ba K H (x :: xs) vs):∃ v r,vs = v :: r∧PAt K H x v∧Ba K H xs r:=by unfold Ba at h; exact h
theorem Dg {K:PySem.W.Frag} {H:Hp} {vs:List V} (h:Ba K H [] vs):vs = []:=by unfold Ba at h; exact h
theorem Adg {n:Nat} (F:A2 K mg "_law_numbered" ["_law_part", "_law_k"] Du) (T:Txt mg) (aG:Aj P w K mg base n "_law_numbered" ["_law_part", "_law_k"] (Mx K n)):Aj P w K mg base (n + 1) "_law_numbered" ["_law_part", "_law_k"] (Mx K (n + 1)):=by
 refine F.ok Bj (λ vs H Q E h=>?_) (λ f cdv A outer s H vs Q E hr h=>?_)
 ·obtain ⟨v,r,k,rfl,_⟩:=h; rfl
 obtain ⟨v,r,k,rfl,av,hh,q⟩:=h
 refine ⟨_,(Ad (Aw (i:=2) Bj.nd rfl (Or.inl rfl) (Ak Ar (pv 0) Af (λ _ _=>rfl)))
  (Ad (Bg (Am A9 (pv 2) Ao (Ap _))
   (Ae (Au (A3 (Aa (A3 (Aa Ao (Aa (pv 1) Ab))) (Aa (A8 F5 (pv 1) Af) Ab)))))
   A7)
  (Ad (Bg (PW.pt (Fu (Am A9 (pv 2) Ao (Ap _)) (Fu (Am A9 (pv 2) Ao (Ap _)) (Ft (Am A9 (pv 2) Ao (Ap _))))))
   (Ae (Au (A3 (Aa (pv 0) (Aa (pv 1) Ab)))))
   A7)
  (Ad (Bg (Am A9 (pv 2) Ao (Ap _))
   (Ad (D9 (Av aG hr rfl Ai (Aa (Ak Ar (pv 0) Af (λ _ _=>rfl)) (Aa (pv 1) Ab))) (C1 rfl (Bc (Aq (i:=3) Bj.nd rfl (Or.inl rfl)) (Bc (Aq (i:=1) Bj.nd rfl (Or.inl rfl)) Ch))))
  (Ae (Au (A3 (Aa (A3 (Aa Ao (Aa (pv 1) (Aa (pv 3) Ab)))) (Aa (A8 F5 (pv 1) Af) Ab))))))
   A7)
  (Ad (Bg (Am A9 (pv 2) Ao (Ap _))
   (Ad (D9 (Av aG hr rfl Ai (Aa (Ak Ar (pv 0) Af (λ _ _=>rfl)) (Aa (pv 1) Ab))) (C1 rfl (Bc (Aq (i:=3) Bj.nd rfl (Or.inl rfl)) (Bc (Aq (i:=1) Bj.nd rfl (Or.inl rfl)) Ch))))
  (Ae (Au (A3 (Aa (A3 (Aa Ao (Aa (pv 3) Ab))) (Aa (pv 1) Ab))))))
   A7)
  (Ad (Bg (PW.pt (Fu (Am A9 (pv 2) Ao (Ap _)) (Ft (Am A9 (pv 2) Ao (Ap _)))))
   (Ad (D9 (Av aG hr rfl Ai (Aa (Ak Ar (pv 0) Af (λ _ _=>rfl)) (Aa (pv 1) Ab))) (C1 rfl (Bc (Aq (i:=3) Bj.nd rfl (Or.inl rfl)) (Bc (Aq (i:=1) Bj.nd rfl (Or.inl rfl)) Ch))))
  (Ae (Au (A3 (Aa (A3 (Aa (pv 2) (Aa (Ak Ar (pv 0) Af (λ _ _=>rfl)) (Aa (pv 3) Ab)))) (Aa (pv 1) Ab))))))
   A7)
  (Ad (D9 (Av aG hr rfl Ai (Aa (Ak Ar (pv 0) (Lm Jn Af) (λ _ _=>rfl)) (Aa (pv 1) Ab))) (C1 rfl (Bc (Aq (i:=3) Bj.nd rfl (Or.inl rfl)) (Bc (Aq (i:=1) Bj.nd rfl (Or.inl rfl)) Ch))))
  (Ad (D9 (Av aG hr rfl Ai (Aa (Ak Ar (pv 0) (Lm Jn Af) (λ _ _=>rfl)) (Aa (pv 1) Ab))) (C1 rfl (Bc (Aq (i:=4) Bj.nd rfl (Or.inl rfl)) (Bc (Aq (i:=1) Bj.nd rfl (Or.inl rfl)) Ch))))
  (Ae (Au (A3 (Aa (A8 Abi (Kh AdZ (pv 0) Of (Hl (Lm Jn Af))) (A3 (Aa (pv 3) (Aa (pv 4) Ab)))) (Aa (pv 1) Ab))))))))))))),?_⟩
 cases r with
 | nothing =>
  obtain ⟨a,vs,rfl,ha,hx⟩:=av.get
  obtain ⟨v0,r0,rfl,h0,a1⟩:=Bp hx
  cases h0.str
  cases Dg a1
  refine ⟨_,Z,a,_,_,_,Z,Z,ha.sq,Ah (j:=0) rfl,?_⟩
  refine ⟨_,Z,Z,_,Z,Ay (λ c=>absurd c (by decide +kernel)) λ _=>⟨_,Z,Z,_,Z,Ay (λ _=>Dv ⟨_,Z,_,Z,zN2,λ t ht=>?_⟩) λ c=>absurd (by decide +kernel) c⟩⟩
  exact q t _ _ (Ac ht _) upd_same (.t (ha.mono (Ac ht _).tp) (.cons .s .nil))
 | rest =>
  obtain ⟨a,vs,rfl,ha,hx⟩:=av.get
  obtain ⟨v0,r0,rfl,h0,a1⟩:=Bp hx
  cases h0.str
  cases Dg a1
  refine ⟨_,Z,a,_,_,_,Z,Z,ha.sq,Ah (j:=0) rfl,?_⟩
  refine ⟨_,Z,Z,_,Z,Ay (λ _=>⟨_,Z,zN2,λ t1 b2=>⟨_,Z,_,_,Z,Z,zN2,λ t ht=>?_⟩⟩) λ c=>absurd (by decide +kernel) c⟩
  obtain ⟨g,n1,n2⟩:=Jz (a:=.tup [V.str "rest", .int k]) (b:=.tup [.ref t1,.int (k + 1)]) b2 ht
  exact q t _ _ g n2 (.t (.inl n1) (.cons .s (.cons .i .nil)))
 | send s =>
  obtain ⟨a,vs,rfl,ha,hx⟩:=av.get
  obtain ⟨v0,r0,rfl,h0,a1⟩:=Bp hx
  cases h0.str
  obtain ⟨w1,r1,rfl,h1,a2⟩:=Bp a1
  cases h1.int
  cases Dg a2
  refine ⟨_,Z,a,_,_,_,Z,Z,ha.sq,Ah (j:=0) rfl,?_⟩
  refine ⟨_,Z,Z,_,Z,Ay (λ c=>absurd c (by decide +kernel)) λ _=>⟨_,Z,Z,_,Z,Ay (λ c=>absurd c (by decide +kernel)) λ _=>⟨_,Z,Z,_,Z,Ay (λ _=>Dv ⟨_,Z,_,Z,zN2,λ t ht=>?_⟩) λ c=>absurd (by decide +kernel) c⟩⟩⟩
  exact q t _ _ (Ac ht _) upd_same (.t (ha.mono (Ac ht _).tp) (.cons .s (.cons .i .nil)))
 | exit d =>
  obtain ⟨a,vs,rfl,ha,hx⟩:=av.get
  obtain ⟨v0,r0,rfl,h0,a1⟩:=Bp hx
  cases h0.str
  obtain ⟨w1,r1,rfl,h1,a2⟩:=Bp a1
  cases h1.int
  cases Dg a2
  refine ⟨_,Z,a,_,_,_,Z,Z,ha.sq,Ah (j:=0) rfl,?_⟩
  refine ⟨_,Z,Z,_,Z,Ay (λ c=>absurd c (by decide +kernel)) λ _=>⟨_,Z,Z,_,Z,Ay (λ c=>absurd c (by decide +kernel)) λ _=>⟨_,Z,Z,_,Z,Ay (λ c=>absurd c (by decide +kernel)) λ _=>⟨_,Z,Z,_,Z,Ay (λ _=>⟨_,Z,_,Z,zN2,λ t ht=>?_⟩) λ c=>absurd (by decide +kernel) c⟩⟩⟩⟩
  exact q t _ _ (Ac ht _) upd_same (.t (ha.mono (Ac ht _).tp) (.cons .s (.cons .i .nil)))
 | again p =>
  obtain ⟨a,vs,rfl,ha,hx⟩:=av.get
  obtain ⟨v0,r0,rfl,h0,a1⟩:=Bp hx
  cases h0.str
  obtain ⟨w1,r1,rfl,h1,a2⟩:=Bp a1
  cases Dg a2
  refine ⟨_,Z,a,_,_,_,Z,Z,ha.sq,Ah (j:=0) rfl,?_⟩
  refine ⟨_,Z,Z,_,Z,Ay (λ c=>absurd c (by decide +kernel)) λ _=>⟨_,Z,Z,_,Z,Ay (λ c=>absurd c (by decide +kernel)) λ _=>⟨_,Z,Z,_,Z,Ay (λ c=>absurd c (by decide +kernel)) λ _=>⟨_,Z,Z,_,Z,Ay (λ c=>absurd c (by decide +kernel)) λ _=>⟨_,Z,Z,_,Z,Ay (λ _=>⟨_,Z,a,_,_,_,Z,Z,ha.sq,Ah (j:=1) rfl,_,Z,_,p,k,Z,h1,(by simp only [Rp.hg] at hh; omega),λ t1 u1 H1 g1 e1 P1=>?_⟩) λ c=>absurd (by decide +kernel) c⟩⟩⟩⟩⟩
  refine ⟨t1,_,Z,SqT.of e1,Z,_,_,Z,_,_,Z,Z,?_⟩
  refine ⟨_,Z,_,Z,zN3,λ t2 a5=>⟨_,Z,_,_,Z,Z,zN2,λ t ht=>?_⟩⟩
  obtain ⟨g,n1,n2⟩:=Jz (a:=.tup [V.str "again", .int (num p k).2,u1]) (b:=.tup [.ref t2,.int ((num p k).2 + 1)]) a5 ht
  exact q t _ _ (g1.trans g) n2 (.t (.inl n1) (.cons .s (.cons .i (.cons (P1.mono g.tp) .nil))))
 | trap p =>
  obtain ⟨a,vs,rfl,ha,hx⟩:=av.get
  obtain ⟨v0,r0,rfl,h0,a1⟩:=Bp hx
  cases h0.str
  obtain ⟨w1,r1,rfl,h1,a2⟩:=Bp a1
  cases Dg a2
  refine ⟨_,Z,a,_,_,_,Z,Z,ha.sq,Ah (j:=0) rfl,?_⟩
  refine ⟨_,Z,Z,_,Z,Ay (λ c=>absurd c (by decide +kernel)) λ _=>⟨_,Z,Z,_,Z,Ay (λ c=>absurd c (by decide +kernel)) λ _=>⟨_,Z,Z,_,Z,Ay (λ c=>absurd c (by decide +kernel)) λ _=>⟨_,Z,Z,_,Z,Ay (λ c=>absurd c (by decide +kernel)) λ _=>⟨_,Z,Z,_,Z,Ay (λ c=>absurd c (by decide +kernel)) λ _=>⟨_,Z,Z,_,Z,Ay (λ _=>⟨_,Z,a,_,_,_,Z,Z,ha.sq,Ah (j:=1) rfl,_,Z,_,p,k,Z,h1,(by simp only [Rp.hg] at hh; omega),λ t1 u1 H1 g1 e1 P1=>?_⟩) λ c=>absurd (by decide +kernel) c⟩⟩⟩⟩⟩⟩
  refine ⟨t1,_,Z,SqT.of e1,Z,_,_,Z,_,_,Z,Z,?_⟩
  refine ⟨_,Z,zN2,λ t2 a5=>⟨_,Z,zN2,λ t ht=>?_⟩⟩
  obtain ⟨g,n1,n2⟩:=Jz (a:=.tup [V.str "trap", u1]) (b:=.tup [.ref t2,.int (num p k).2]) a5 ht
  exact q t _ _ (g1.trans g) n2 (.t (.inl n1) (.cons .s (.cons (P1.mono g.tp) .nil)))
 | hold s p =>
  obtain ⟨a,vs,rfl,ha,hx⟩:=av.get
  obtain ⟨v0,r0,rfl,h0,a1⟩:=Bp hx
  cases h0.str
  obtain ⟨w1,r1,rfl,h1,a2⟩:=Bp a1
  cases h1.int
  obtain ⟨w2,r2,rfl,h2,a4⟩:=Bp a2
  cases Dg a4
  refine ⟨_,Z,a,_,_,_,Z,Z,ha.sq,Ah (j:=0) rfl,?_⟩
  refine ⟨_,Z,Z,_,Z,Ay (λ c=>absurd c (by decide +kernel)) λ _=>⟨_,Z,Z,_,Z,Ay (λ c=>absurd c (by decide +kernel)) λ _=>⟨_,Z,Z,_,Z,Ay (λ c=>absurd c (by decide +kernel)) λ _=>⟨_,Z,Z,_,Z,Ay (λ c=>absurd c (by decide +kernel)) λ _=>⟨_,Z,Z,_,Z,Ay (λ c=>absurd c (by decide +kernel)) λ _=>⟨_,Z,Z,_,Z,Ay (λ c=>absurd c (by decide +kernel)) λ _=>⟨_,Z,Z,_,Z,Ay (λ _=>Dv ⟨_,Z,a,_,_,_,Z,Z,ha.sq,Ah (j:=2) rfl,_,Z,_,p,k,Z,h2,(by simp only [Rp.hg] at hh; omega),λ t1 u1 H1 g1 e1 P1=>?_⟩) λ c=>absurd (by decide +kernel) c⟩⟩⟩⟩⟩⟩⟩
  have a3:=ha.mono g1.tp
  refine ⟨t1,_,Z,SqT.of e1,Z,_,_,Z,_,_,Z,Z,?_⟩
  refine ⟨_,Z,_,Z,a,_,_,_,Z,Z,a3.sq,Ah (j:=1) rfl,_,Z,zN3,λ t2 a5=>⟨_,Z,zN2,λ t ht=>?_⟩⟩
  obtain ⟨g,n1,n2⟩:=Jz (a:=.tup [V.str "hold", .int s,u1]) (b:=.tup [.ref t2,.int (num p k).2]) a5 ht
  exact q t _ _ (g1.trans g) n2 (.t (.inl n1) (.cons .s (.cons .i (.cons (P1.mono g.tp) .nil))))
 | watch s p =>
  obtain ⟨a,vs,rfl,ha,hx⟩:=av.get
  obtain ⟨v0,r0,rfl,h0,a1⟩:=Bp hx
  cases h0.str
  obtain ⟨w1,r1,rfl,h1,a2⟩:=Bp a1
  cases h1.int
  obtain ⟨w2,r2,rfl,h2,a4⟩:=Bp a2
  cases Dg a4
  refine ⟨_,Z,a,_,_,_,Z,Z,ha.sq,Ah (j:=0) rfl,?_⟩
  refine ⟨_,Z,Z,_,Z,Ay (λ c=>absurd c (by decide +kernel)) λ _=>⟨_,Z,Z,_,Z,Ay (λ c=>absurd c (by decide +kernel)) λ _=>⟨_,Z,Z,_,Z,Ay (λ c=>absurd c (by decide +kernel)) λ _=>⟨_,Z,Z,_,Z,Ay (λ c=>absurd c (by decide +kernel)) λ _=>⟨_,Z,Z,_,Z,Ay (λ c=>absurd c (by decide +kernel)) λ _=>⟨_,Z,Z,_,Z,Ay (λ c=>absurd c (by decide +kernel)) λ _=>⟨_,Z,Z,_,Z,Ay (λ c=>absurd c (by decide +kernel)) λ _=>⟨_,Z,Z,_,Z,Ay (λ _=>⟨_,Z,a,_,_,_,Z,Z,ha.sq,Ah (j:=2) rfl,_,Z,_,p,k,Z,h2,(by simp only [Rp.hg] at hh; omega),λ t1 u1 H1 g1 e1 P1=>?_⟩) λ c=>absurd (by decide +kernel) c⟩⟩⟩⟩⟩⟩⟩⟩
  have a3:=ha.mono g1.tp
  refine ⟨t1,_,Z,SqT.of e1,Z,_,_,Z,_,_,Z,Z,?_⟩
  refine ⟨_,Z,_,Z,a,_,_,_,Z,Z,a3.sq,Ah (j:=1) rfl,_,Z,zN3,λ t2 a5=>⟨_,Z,zN2,λ t ht=>?_⟩⟩
  obtain ⟨g,n1,n2⟩:=Jz (a:=.tup [V.str "watch", .int s,u1]) (b:=.tup [.ref t2,.int (num p k).2]) a5 ht
  exact q t _ _ (g1.trans g) n2 (.t (.inl n1) (.cons .s (.cons .i (.cons (P1.mono g.tp) .nil))))
 | iff s p p2 =>
  obtain ⟨a,vs,rfl,ha,hx⟩:=av.get
  obtain ⟨v0,r0,rfl,h0,a1⟩:=Bp hx
  cases h0.str
  obtain ⟨w1,r1,rfl,h1,a2⟩:=Bp a1
  cases h1.int
  obtain ⟨w2,r2,rfl,h2,a4⟩:=Bp a2
  obtain ⟨w3,r3,rfl,h3,b1⟩:=Bp a4
  cases Dg b1
  refine ⟨_,Z,a,_,_,_,Z,Z,ha.sq,Ah (j:=0) rfl,?_⟩
  refine ⟨_,Z,Z,_,Z,Ay (λ c=>absurd c (by decide +kernel)) λ _=>⟨_,Z,Z,_,Z,Ay (λ c=>absurd c (by decide +kernel)) λ _=>⟨_,Z,Z,_,Z,Ay (λ c=>absurd c (by decide +kernel)) λ _=>⟨_,Z,Z,_,Z,Ay (λ c=>absurd c (by decide +kernel)) λ _=>⟨_,Z,Z,_,Z,Ay (λ c=>absurd c (by decide +kernel)) λ _=>⟨_,Z,Z,_,Z,Ay (λ c=>absurd c (by decide +kernel)) λ _=>⟨_,Z,Z,_,Z,Ay (λ c=>absurd c (by decide +kernel)) λ _=>⟨_,Z,Z,_,Z,Ay (λ c=>absurd c (by decide +kernel)) λ _=>⟨_,Z,_,Z,a,_,_,_,Z,Z,ha.sq,Ma (v:=w2) (by show 2≤4; decide) rfl,_,Z,_,p,k,Z,h2,(by simp only [Rp.hg] at hh; omega),λ t1 u1 H1 g1 e1 P1=>?_⟩⟩⟩⟩⟩⟩⟩⟩⟩
  have a3:=ha.mono g1.tp
  refine ⟨t1,_,Z,SqT.of e1,Z,_,_,Z,_,_,Z,Z,?_⟩
  refine ⟨_,Z,_,Z,a,_,_,_,Z,Z,a3.sq,Mh (v:=w3) rfl,_,Z,_,p2,(num p k).2,Z,h3.mono g1.tp,(by simp only [Rp.hg] at hh; omega),λ t2 u2 H2 g2 e2 P2=>?_⟩
  have a9:=a3.mono g2.tp
  refine ⟨t2,_,Z,SqT.of e2,Z,_,_,Z,_,_,Z,Z,?_⟩
  refine ⟨_,Z,_,Z,_,Z,a,_,Z,a9.sq,(λ z=>absurd (show HT.sIx 4 4 (some (-2)) = 4 from z.2) (by decide)),λ p1 a8=>⟨_,Z,_,Z,zN2,λ q1 a7=>?_⟩⟩
  have k1:=Ac a8 (.tup (Fm [V.str "if", .int s,w2,w3] none (some (-2))))
  have k2:=Ac a7 (.tup [u1,u2])
  refine ⟨p1,q1,[V.str "if", .int s],[u1,u2],Z,Z,SqT.of (k2 _ _ upd_same),SqT.of upd_same,(λ z=>nomatch z),zN4,(λ z=>nomatch z),λ _ q2 a6=>⟨_,Z,zN2,λ t ht=>?_⟩⟩
  have k3:=Ac a6 (.tup ([V.str "if", .int s] ++ [u1,u2]))
  have k4:=Ac ht (.tup [.ref q2,.int (num p2 (num p k).2).2])
  have gg:=((k1.trans k2).trans k3).trans k4
  exact q t _ _ ((g1.trans g2).trans gg) upd_same (.t (.inl (k4 _ _ upd_same)) (.cons .s (.cons .i (.cons ((P1.mono g2.tp).mono gg.tp) (.cons (P2.mono gg.tp) .nil)))))
 | thn p p2 =>
  obtain ⟨a,vs,rfl,ha,hx⟩:=av.get
  obtain ⟨v0,r0,rfl,h0,a1⟩:=Bp hx
  cases h0.str
  obtain ⟨w1,r1,rfl,h1,a2⟩:=Bp a1
  obtain ⟨w2,r2,rfl,h2,a4⟩:=Bp a2
  cases Dg a4
  refine ⟨_,Z,a,_,_,_,Z,Z,ha.sq,Ah (j:=0) rfl,?_⟩
  refine ⟨_,Z,Z,_,Z,Ay (λ c=>absurd c (by decide +kernel)) λ _=>⟨_,Z,Z,_,Z,Ay (λ c=>absurd c (by decide +kernel)) λ _=>⟨_,Z,Z,_,Z,Ay (λ c=>absurd c (by decide +kernel)) λ _=>⟨_,Z,Z,_,Z,Ay (λ c=>absurd c (by decide +kernel)) λ _=>⟨_,Z,Z,_,Z,Ay (λ c=>absurd c (by decide +kernel)) λ _=>⟨_,Z,Z,_,Z,Ay (λ c=>absurd c (by decide +kernel)) λ _=>⟨_,Z,Z,_,Z,Ay (λ c=>absurd c (by decide +kernel)) λ _=>⟨_,Z,Z,_,Z,Ay (λ c=>absurd c (by decide +kernel)) λ _=>⟨_,Z,_,Z,a,_,_,_,Z,Z,ha.sq,Ma (v:=w1) (by show 2≤3; decide) rfl,_,Z,_,p,k,Z,h1,(by simp only [Rp.hg] at hh; omega),λ t1 u1 H1 g1 e1 P1=>?_⟩⟩⟩⟩⟩⟩⟩⟩⟩
  have a3:=ha.mono g1.tp
  refine ⟨t1,_,Z,SqT.of e1,Z,_,_,Z,_,_,Z,Z,?_⟩
  refine ⟨_,Z,_,Z,a,_,_,_,Z,Z,a3.sq,Mh (v:=w2) rfl,_,Z,_,p2,(num p k).2,Z,h2.mono g1.tp,(by simp only [Rp.hg] at hh; omega),λ t2 u2 H2 g2 e2 P2=>?_⟩
  have a9:=a3.mono g2.tp
  refine ⟨t2,_,Z,SqT.of e2,Z,_,_,Z,_,_,Z,Z,?_⟩
  refine ⟨_,Z,_,Z,_,Z,a,_,Z,a9.sq,(λ z=>absurd (show HT.sIx 3 3 (some (-2)) = 3 from z.2) (by decide)),λ p1 a8=>⟨_,Z,_,Z,zN2,λ q1 a7=>?_⟩⟩
  have k1:=Ac a8 (.tup (Fm [V.str "then", w1,w2] none (some (-2))))
  have k2:=Ac a7 (.tup [u1,u2])
  refine ⟨p1,q1,[V.str "then"],[u1,u2],Z,Z,SqT.of (k2 _ _ upd_same),SqT.of upd_same,(λ z=>nomatch z),zN3,(λ z=>nomatch z),λ _ q2 a6=>⟨_,Z,zN2,λ t ht=>?_⟩⟩
  have k3:=Ac a6 (.tup ([V.str "then"] ++ [u1,u2]))
  have k4:=Ac ht (.tup [.ref q2,.int (num p2 (num p k).2).2])
  have gg:=((k1.trans k2).trans k3).trans k4
  exact q t _ _ ((g1.trans g2).trans gg) upd_same (.t (.inl (k4 _ _ upd_same)) (.cons .s (.cons ((P1.mono g2.tp).mono gg.tp) (.cons (P2.mono gg.tp) .nil))))
 | bes p p2 =>
  obtain ⟨a,vs,rfl,ha,hx⟩:=av.get
  obtain ⟨v0,r0,rfl,h0,a1⟩:=Bp hx
  cases h0.str
  obtain ⟨w1,r1,rfl,h1,a2⟩:=Bp a1
  obtain ⟨w2,r2,rfl,h2,a4⟩:=Bp a2
  cases Dg a4
  refine ⟨_,Z,a,_,_,_,Z,Z,ha.sq,Ah (j:=0) rfl,?_⟩
  refine ⟨_,Z,Z,_,Z,Ay (λ c=>absurd c (by decide +kernel)) λ _=>⟨_,Z,Z,_,Z,Ay (λ c=>absurd c (by decide +kernel)) λ _=>⟨_,Z,Z,_,Z,Ay (λ c=>absurd c (by decide +kernel)) λ _=>⟨_,Z,Z,_,Z,Ay (λ c=>absurd c (by decide +kernel)) λ _=>⟨_,Z,Z,_,Z,Ay (λ c=>absurd c (by decide +kernel)) λ _=>⟨_,Z,Z,_,Z,Ay (λ c=>absurd c (by decide +kernel)) λ _=>⟨_,Z,Z,_,Z,Ay (λ c=>absurd c (by decide +kernel)) λ _=>⟨_,Z,Z,_,Z,Ay (λ c=>absurd c (by decide +kernel)) λ _=>⟨_,Z,_,Z,a,_,_,_,Z,Z,ha.sq,Ma (v:=w1) (by show 2≤3; decide) rfl,_,Z,_,p,k,Z,h1,(by simp only [Rp.hg] at hh; omega),λ t1 u1 H1 g1 e1 P1=>?_⟩⟩⟩⟩⟩⟩⟩⟩⟩
  have a3:=ha.mono g1.tp
  refine ⟨t1,_,Z,SqT.of e1,Z,_,_,Z,_,_,Z,Z,?_⟩
  refine ⟨_,Z,_,Z,a,_,_,_,Z,Z,a3.sq,Mh (v:=w2) rfl,_,Z,_,p2,(num p k).2,Z,h2.mono g1.tp,(by simp only [Rp.hg] at hh; omega),λ t2 u2 H2 g2 e2 P2=>?_⟩
  have a9:=a3.mono g2.tp
  refine ⟨t2,_,Z,SqT.of e2,Z,_,_,Z,_,_,Z,Z,?_⟩
  refine ⟨_,Z,_,Z,_,Z,a,_,Z,a9.sq,(λ z=>absurd (show HT.sIx 3 3 (some (-2)) = 3 from z.2) (by decide)),λ p1 a8=>⟨_,Z,_,Z,zN2,λ q1 a7=>?_⟩⟩
  have k1:=Ac a8 (.tup (Fm [V.str "beside", w1,w2] none (some (-2))))
  have k2:=Ac a7 (.tup [u1,u2])
  refine ⟨p1,q1,[V.str "beside"],[u1,u2],Z,Z,SqT.of (k2 _ _ upd_same),SqT.of upd_same,(λ z=>nomatch z),zN3,(λ z=>nomatch z),λ _ q2 a6=>⟨_,Z,zN2,λ t ht=>?_⟩⟩
  have k3:=Ac a6 (.tup ([V.str "beside"] ++ [u1,u2]))
  have k4:=Ac ht (.tup [.ref q2,.int (num p2 (num p k).2).2])
  have gg:=((k1.trans k2).trans k3).trans k4
  exact q t _ _ ((g1.trans g2).trans gg) upd_same (.t (.inl (k4 _ _ upd_same)) (.cons .s (.cons ((P1.mono g2.tp).mono gg.tp) (.cons (P2.mono gg.tp) .nil))))
theorem Tm (F:A2 K mg "_law_numbered" ["_law_part", "_law_k"] Du) (T:Txt mg):∀ n:Nat,Aj P w K mg base n "_law_numbered" ["_law_part", "_law_k"] (Mx K n)
 | 0=>F.zero (sp:=Mx K 0) λ vs H Q E ⟨v,r,k,_,_,hh,_⟩=>absurd hh (Nat.not_le_of_gt r.hg_pos)
 | n + 1=>Adg F T (Tm F T n)
theorem Y3 (xs:List V) (j:Nat):(Fm xs (some 1) (some (1 + (j:Int)))) = (xs.drop 1).take j:=by
 unfold Fm
 rw [show (some (1:Int)) = some ((1:Nat):Int) from rfl,show (some (1 + (j:Int))) = some ((1 + j:Nat):Int) by simp,HT.Ae8,HT.Ae8]
 rcases le_total xs.length 1 with h | h
 ·have e:xs.drop 1 = []:=List.drop_eq_nil_of_le h
  rw [Nat.min_eq_right h,List.drop_eq_nil_of_le (iX _),e]
  simp
 ·rw [Nat.min_eq_left h]
  rcases le_total (1 + j) xs.length with h2 | h2
  ·rw [Nat.min_eq_left h2,Nat.add_sub_cancel_left]
  ·rw [Nat.min_eq_right h2,iP (by simp),iP (by simp; omega)]
theorem AcZ (F:A2 K mg "_law_program" ["_law_script", "_law_most"] Fa) (T:Txt mg) (fP:Aj P w K mg base 2 "_law_at" ["_law_script", "_law_k"] (AdL K)) (dU:Aj P w K mg base 62 "_law_body" ["_law_cells", "_law_signs"] (Ym K)) (aG:Aj P w K mg base 63 "_law_numbered" ["_law_part", "_law_k"] (Mx K 63)):Aj P w K mg base 64 "_law_program" ["_law_script", "_law_most"] (Xy K):=by
 refine F.ok Cg (λ vs H Q E h=>?_) (λ f cdv A outer s H vs Q E hr h=>?_)
 ·obtain ⟨a,ns,j,rfl,_⟩:=h; rfl
 obtain ⟨a,ns,j,rfl,hS,hj,q⟩:=h
 refine ⟨_,(Ad (Aw (i:=2) Cg.nd rfl (Or.inl rfl) (Av fP hr rfl Ai (Aa (pv 0) (Aa Af Ab))))
  (Ad (Aw (i:=3) Cg.nd rfl (Or.inl rfl) (A8 Ck (pv 2) Af))
  (Ad (Aw (i:=4) Cg.nd rfl (Or.inl rfl) (A8 Ck (A8 Do (pv 2) Af) Af))
  (Ad (Aw (i:=5) Cg.nd rfl (Or.inl rfl) (Bs (Xk rfl) rfl T.n_max (by decide +kernel) (Aa Af (Aa (A8 F5 (A8 F5 (pv 3) (pv 4)) (A8 Ck (A8 Do (pv 2) Af) Af)) Ab))))
  (Ad (D9 (Av aG hr rfl Ai (Aa (Av dU hr rfl Ai (Aa (Kh N8 (pv 0) (Hl Af) (Hl (A8 F5 Af (pv 1)))) (Aa (pv 5) Ab))) (Aa Af Ab))) (C1 rfl (Bc (Aq (i:=6) Cg.nd rfl (Or.inl rfl)) (Bc (Aq (i:=7) Cg.nd rfl (Or.inl rfl)) Ch))))
  (Ae (Au (Abo (Hk (Acv (Hk (qe (pv 3)) (Hk (qe (pv 4)) (Hk (qe (pv 5)) (Hk (qe (pv 6)) Xt Gx) Gx) Gx) Gx)) (Hk (qe (pv 7)) Xt Gx) Qu))))))))),?_⟩
 refine ⟨_,Z,a,ns,0,Z,hS,Int.le_refl _,λ m hm=>?_⟩
 refine ⟨_,Z,_,_,Z,Z,(by show (0:Int) < 4; decide),?_⟩
 refine ⟨_,Z,_,_,Z,Z,⟨by decide,by decide⟩,_,_,Z,Z,(by show (0:Int) < 3; decide),?_⟩
 refine ⟨_,Z,_,Z,_,_,Z,Z,_,Z,_,_,Z,Z,⟨by decide,by decide⟩,_,_,Z,Z,(by show (0:Int) < 3; decide),_,_,Z,Z,_,_,Z,?_⟩
 obtain ⟨c,ec⟩:=Int.eq_ofNat_of_zero_le (Int.emod_nonneg m (show (4:Int)≠0 by decide))
 have b1:=Int.emod_lt_of_pos m (show (0:Int) < 4 by decide)
 have b2:=Int.emod_nonneg (m / 4) (show (3:Int)≠0 by decide)
 have b3:=Int.emod_lt_of_pos (m / 4) (show (0:Int) < 3 by decide)
 have b4:=Int.emod_nonneg (m / 12) (show (3:Int)≠0 by decide)
 have b5:=Int.emod_lt_of_pos (m / 12) (show (0:Int) < 3 by decide)
 obtain ⟨n,en,n1,n2,n3⟩:∃ n:Nat,(if m % 4 + m / 4 % 3 + m / 12 % 3 > 1 then m % 4 + m / 4 % 3 + m / 12 % 3 else 1) = (n:Int)∧1≤n∧n≤10∧c≤n:=by
  split
  ·exact ⟨(m % 4 + m / 4 % 3 + m / 12 % 3).toNat,by omega,by omega,by omega,by omega⟩
  ·exact ⟨1,Z,by omega,by omega,by omega⟩
 rw [en]
 dsimp only [Bo]
 rw [ec]
 refine ⟨_,Z,_,Z,_,Z,_,_,Z,Z,_,Z,a,_,Z,hS,λ c1 a5=>?_⟩
 rw [show Fm (ns.map V.int) (some 1) (some (1 + (j:Int))) = ((ns.map V.int).drop 1).take j from Y3 _ j,← List.map_drop,← map_take]
 have k1:=Ac a5 (.lst (((ns.drop 1).take j).map V.int))
 refine ⟨_,Z,c1,_,(n:Int),Z,SqL.of upd_same,by rw [jE]; omega,by omega,λ v r H1 g1 P1 a3 h1 w1 z1=>?_⟩
 refine ⟨v,r,0,Z,P1,by omega,λ t1 u1 H2 g2 e2 P2=>?_⟩
 refine ⟨t1,_,Z,SqT.of e2,Z,_,_,Z,_,_,Z,Z,?_⟩
 refine ⟨_,Z,_,Z,_,Z,_,Z,zN4,λ pr a4=>⟨_,Z,zN2,λ t ht=>?_⟩⟩
 obtain ⟨g,a1,a2⟩:=Jz (a:=.tup [.int (c:Int),.int (m / 4 % 3),.int (n:Int),u1]) (b:=.tup [.ref pr,.int (num r 0).2]) a4 ht
 have gg:=k1.trans (g1.trans (g2.trans g))
 exact q t pr c n _ u1 r _ gg a2 a1 n3 n1 n2 (P2.mono g.tp) a3 h1 w1 z1
end
theorem Hz {n:Nat} (h:n≤16000000):n≤sizeLine:=iW h (by decide)
theorem Ua {n:Nat} (h:n≤16000000):n < sizeLine:=iZ h (by decide)
inductive Gt where
 | start
 | mem (k:Int)
 | given (s:Int)
 | nt (g:Nat)
 | all (gs:List Nat)
 | som (gs:List Nat)
abbrev Kn:=Nat→Option Bool
def Kn.set (k:Kn) (g:Nat) (v:Bool):Kn:=λ i=>if i = g then some v else k i
def Gt.nums:Gt→List Nat
 | .nt g=>[g]
 | .all gs=>gs
 | .som gs=>gs
 | _=>[]
def Jb (t:Bool) (k:Kn) (gs:List Nat):Option Bool :=
 if ∃ g∈gs,k g = some t then some t else if ∀ g∈gs,k g = some (!t) then some (!t) else none
def Cy (st:Option (List Int)) (co:List Int) (k:Kn):Gt→Option Bool
 | .start=>some st.isNone
 | .mem n=>some (match st with | none=>false | some l=>decide (n∈l))
 | .given s=>some (decide (s∈co))
 | .nt g=>(k g).map not
 | .all gs=>Jb false k gs
 | .som gs=>Jb true k gs
def leN (k k':Kn):Prop:=∀ g v,k g = some v→k' g = some v
theorem Ed {t:Bool} {k:Kn} {gs:List Nat} {v:Bool}:Jb t k gs = some v↔(v = t∧∃ g∈gs,k g = some t)∨(v = !t∧∀ g∈gs,k g = some (!t)):=by
 unfold Jb
 split
 ·next h =>
  constructor
  ·intro e; cases e; exact .inl ⟨rfl,h⟩
  ·rintro (⟨rfl,_⟩ | ⟨rfl,h2⟩)
   ·rfl
   ·obtain ⟨g,hg,e⟩:=h
    have:=h2 g hg
    rw [e] at this
    cases t <;> cases this
 ·next h =>
  split
  ·next h2 =>
   constructor
   ·intro e; cases e; exact .inr ⟨rfl,h2⟩
   ·rintro (⟨rfl,h3⟩ | ⟨rfl,_⟩)
    ·exact absurd h3 h
    ·rfl
  ·next h2 =>
   constructor
   ·intro e; cases e
   ·rintro (⟨_,h3⟩ | ⟨_,h3⟩)
    ·exact absurd h3 h
    ·exact absurd h3 h2
theorem Ks {st:Option (List Int)} {co:List Int} {k k':Kn} (h:leN k k') {g:Gt} {v:Bool} (e:Cy st co k g = some v):Cy st co k' g = some v:=by
 cases g with
 | start=>exact e
 | mem n=>exact e
 | given s=>exact e
 | nt g =>
  simp only [Cy] at e ⊢
  cases z:k g with
  | none=>rw [z] at e; cases e
  | some b=>rw [z] at e; rw [h g b z]; exact e
 | all gs =>
  simp only [Cy] at e ⊢
  rw [Ed] at e ⊢
  exact e.imp (λ ⟨a,g,hg,z⟩=>⟨a,g,hg,h _ _ z⟩) λ ⟨a,z⟩=>⟨a,λ g hg=>h _ _ (z g hg)⟩
 | som gs =>
  simp only [Cy] at e ⊢
  rw [Ed] at e ⊢
  exact e.imp (λ ⟨a,g,hg,z⟩=>⟨a,g,hg,h _ _ z⟩) λ ⟨a,z⟩=>⟨a,λ g hg=>h _ _ (z g hg)⟩
theorem Y2 {k:Kn} {g:Nat} {v:Bool} (h:k g = none):leN k (k.set g v):=by
 intro i w e
 unfold Kn.set
 split
 ·next z=>rw [z,h] at e; cases e
 ·exact e
inductive Der (gs:List Gt) (st:Option (List Int)) (co:List Int):Kn→Prop
 | nil:Der gs st co λ _=>none
 | step {k:Kn} {g:Nat} {v:Bool} {G:Gt} (h:Der gs st co k) (hG:gs[g]? = some G) (hn:k g = none) (hv:Cy st co k G = some v):Der gs st co (k.set g v)
theorem Der.told {gs:List Gt} {st:Option (List Int)} {co:List Int} {k:Kn} (h:Der gs st co k):∀ g v,k g = some v→∃ G,gs[g]? = some G∧Cy st co k G = some v:=by
 induction h with
 | nil=>intro g v e; cases e
 | step h hG hn hv ih =>
  intro i w e
  unfold Kn.set at e
  split at e
  ·next z =>
   subst z
   cases e
   exact ⟨_,hG,Ks (Y2 hn) hv⟩
  ·obtain ⟨G,e1,e2⟩:=ih i w e
   exact ⟨G,e1,Ks (Y2 hn) e2⟩
def G8 (gs:List Gt) (st:Option (List Int)) (co:List Int) (k:Kn):Prop:=∀ g G,gs[g]? = some G→k g = none→Cy st co k G = none
theorem Der.le {gs:List Gt} {st:Option (List Int)} {co:List Int} {k k':Kn} (h:Der gs st co k) (h':Der gs st co k') (c:G8 gs st co k'):leN k k':=by
 induction h with
 | nil=>intro g v e; cases e
 | step h hG hn hv ih =>
  intro i w e
  unfold Kn.set at e
  split at e
  ·next z =>
   subst z
   cases e
   have hv:=Ks ih hv
   rename_i k g v G
   cases z:k' i with
   | none=>rw [c i _ hG z] at hv; cases hv
   | some u =>
    obtain ⟨G',e1,e2⟩:=h'.told i u z
    rw [hG] at e1
    cases e1
    rw [hv] at e2
    exact e2.symm ▸ rfl
  ·exact ih i w e
theorem Der.unique {gs:List Gt} {st:Option (List Int)} {co:List Int} {k k':Kn} (h:Der gs st co k) (h':Der gs st co k') (c:G8 gs st co k) (c':G8 gs st co k'):k = k':=by
 funext g
 cases e:k g with
 | some v=>exact (h.le h' c' g v e).symm
 | none =>
  cases e':k' g with
  | none=>rfl
  | some v=>rw [h'.le h c g v e'] at e; cases e
def namers (gs:List Gt) (c:Nat):List Nat:=(List.range gs.length).flatMap λ g=>List.replicate ((((gs[g]?).map Gt.nums).getD []).count c) g
def numsAt (gs:List Gt) (g:Nat):List Nat:=((gs[g]?).map Gt.nums).getD []
theorem M6 {g:Nat} {f:Nat→Nat}:∀ l:List Nat,l.Nodup→(l.flatMap λ x=>List.replicate (f x) x).count g = if g∈l then f g else 0
 | [],_=>rfl
 | x :: l,h=>by
  have h':=jQ.mp h
  rw [List.flatMap_cons,count_append,M6 l h'.2,List.count_replicate]
  by_cases e:x = g
  ·subst e
   simp [h'.1]
  ·have e':¬ g = x:=λ z=>e z.symm
   simp [e,e',beq_iff_eq]
theorem count_namers {gs:List Gt} {c g:Nat}:(namers gs c).count g = (numsAt gs g).count c:=by
 unfold namers
 rw [M6 (f:=λ g=>(((gs[g]?).map Gt.nums).getD []).count c) _ List.nodup_range]
 split
 ·rfl
 ·next h =>
  unfold numsAt
  rw [getElem?_eq_none (by rw [mem_range] at h; omega)]
  rfl
structure Wl (gs:List Gt) (st:Option (List Int)) (co:List Int) (k:Kn) (ord:List (Nat× Bool)) (m:Nat) (ds:List Nat) (u:Nat→Int):Prop where
 der:Der gs st co k
 mem:∀ g v,k g = some v↔(g,v)∈ord
 nd:(ord.map Prod.fst).Nodup
 un:∀ g,¬ numsAt gs g = []→u g + ((numsAt gs g).countP (λ c=>decide (c∈(ord.take m).map Prod.fst)):Int) + (ds.count g:Int) = ((numsAt gs g).length:Int)
 hd:∀ g G c v,gs[g]? = some G→c∈G.nums→(c,v)∈ord.take m→k g = none→(∃ l,G = .all l∧v = true)∨∃ l,G = .som l∧v = false
 hc:∀ g G c v,gs[g]? = some G→g∈ds→ord[m]? = some (c,v)→k g = none→(∃ l,G = .all l∧v = true)∨∃ l,G = .som l∧v = false
 fs:∀ g G,gs[g]? = some G→k g = none→¬ G.nums = []∧¬ u g = 0
theorem Wl.val {gs:List Gt} {st:Option (List Int)} {co:List Int} {k:Kn} {ord:List (Nat× Bool)} {m:Nat} {u:Nat→Int} (h:Wl gs st co k ord m [] u) (hm:ord.length≤m):G8 gs st co k:=by
 intro g G hG hn
 obtain ⟨n1,n2⟩:=h.fs g G hG hn
 have tk:ord.take m = ord:=iP hm
 have hd:=λ c v hc hv=>h.hd g G c v hG hc (by rw [tk]; exact (h.mem c v).mp hv) hn
 have ng:numsAt gs g = G.nums:=by unfold numsAt; rw [hG]; rfl
 have un:=h.un g (by rw [ng]; exact n1)
 rw [tk] at un
 have a1:¬ ∀ c∈G.nums,∃ v,k c = some v:=λ z=>by
  have:(numsAt gs g).countP (λ c=>decide (c∈ord.map Prod.fst)) = (numsAt gs g).length:=by
   rw [List.countP_eq_length]
   intro c hc
   rw [ng] at hc
   obtain ⟨v,hv⟩:=z c hc
   exact iI (jS.mpr ⟨(c,v),(h.mem c v).mp hv,Z⟩)
  rw [this] at un
  simp at un
  omega
 cases G with
 | start=>exact absurd rfl n1
 | mem n=>exact absurd rfl n1
 | given s=>exact absurd rfl n1
 | nt c =>
  simp only [Cy]
  cases e:k c with
  | none=>rfl
  | some v =>
   rcases hd c v (jD.mpr rfl) e with ⟨l,z,_⟩ | ⟨l,z,_⟩ <;> cases z
 | all l =>
  simp only [Cy]
  cases e:Jb false k l with
  | none=>rfl
  | some v =>
   exfalso
   rcases Ed.mp e with ⟨rfl,c,hc,e⟩ | ⟨_,e⟩
   ·rcases hd c _ hc e with ⟨l,z,y⟩ | ⟨l,z,_⟩
    ·cases y
    ·cases z
   ·exact a1 λ c hc=>⟨_,e c hc⟩
 | som l =>
  simp only [Cy]
  cases e:Jb true k l with
  | none=>rfl
  | some v =>
   exfalso
   rcases Ed.mp e with ⟨rfl,c,hc,e⟩ | ⟨_,e⟩
   ·rcases hd c _ hc e with ⟨l,z,_⟩ | ⟨l,z,y⟩
    ·cases z
    ·cases y
   ·exact a1 λ c hc=>⟨_,e c hc⟩
theorem Pr {ord:List (Nat× Bool)} {m:Nat} {x:Nat× Bool} (h:ord[m]? = some x):ord.take (m + 1) = ord.take m ++ [x]:=by
 rw [take_add_one,h]; rfl
theorem Th {ord:List (Nat× Bool)} {m:Nat} {c:Nat} {v:Bool} (nd:(ord.map Prod.fst).Nodup) (h:ord[m]? = some (c,v)):¬ c∈(ord.take m).map Prod.fst:=by
 have e:ord = ord.take m ++ (c,v) :: ord.drop (m + 1):=by
  have hl:m < ord.length:=(List.getElem?_eq_some_iff.mp h).1
  have:=List.drop_eq_getElem_cons hl
  rw [(List.getElem?_eq_some_iff.mp h).2] at this
  rw [← this,List.take_append_drop]
 rw [e,iM,jR] at nd
 intro z
 exact (nodup_append.mp nd).2.2 c z c (by simp) rfl
theorem Wl.next {gs:List Gt} {st:Option (List Int)} {co:List Int} {k:Kn} {ord:List (Nat× Bool)} {m c:Nat} {v:Bool} {u:Nat→Int} (h:Wl gs st co k ord m (namers gs c) u) (hm:ord[m]? = some (c,v)):Wl gs st co k ord (m + 1) [] u:=by
 have nt:=Th h.nd hm
 refine ⟨h.der,h.mem,h.nd,λ g a1=>?_,λ g G c' v' hG hc hv hn=>?_,λ g G c v hG z=>(by cases z),h.fs⟩
 ·have:=h.un g a1
  clear a1
  rw [count_namers] at this
  rw [← this,Pr hm,iM]
  generalize (ord.take m).map Prod.fst = A at nt
  have e:(numsAt gs g).countP (λ x=>decide (x∈A ++ [(c,v)].map Prod.fst)) = (numsAt gs g).countP (λ x=>decide (x∈A)) + (numsAt gs g).count c:=by
   induction numsAt gs g with
   | nil=>rfl
   | cons x l ih =>
    rw [countP_cons,countP_cons,count_cons,ih]
    by_cases e:x = c
    ·subst e
     simp [nt]
     omega
    ·simp [e]
     omega
  rw [e]
  simp
  omega
 ·rw [Pr hm] at hv
  rcases iU.mp hv with hv | hv
  ·exact h.hd g G c' v' hG hc hv hn
  ·cases mS hv
   refine h.hc g G c v hG ?_ hm hn
   refine count_pos_iff.mp ?_
   rw [count_namers]
   unfold numsAt
   rw [hG]
   exact count_pos_iff.mpr hc
def D3 (k:Kn) (ord:List (Nat× Bool)) (g:Nat) (o:Option Bool):Kn× List (Nat× Bool) :=
 match k g,o with
 | none,some v=>(k.set g v,ord ++ [(g,v)])
 | _,_=>(k,ord)
def E8 (G:Gt) (w:Int) (v:Bool):Option Bool :=
 match G with
 | .nt _=>some !v
 | .all _=>if v = false∨w = 0 then some v else none
 | .som _=>if v = true∨w = 0 then some v else none
 | _=>none
theorem AaU {k:Kn} {ord:List (Nat× Bool)} {g:Nat} {o:Option Bool} (h:¬ k g = none):D3 k ord g o = (k,ord):=by
 unfold D3
 cases e:k g with
 | none=>exact absurd e h
 | some w=>rfl
theorem Rn {k:Kn} {ord:List (Nat× Bool)} {g:Nat} {v:Bool} (mem:∀ g v,k g = some v↔(g,v)∈ord) (hn:k g = none):∀ i w,(k.set g v) i = some w↔(i,w)∈ord ++ [(g,v)]:=by
 intro i w
 rw [iU,jD]
 unfold Kn.set
 split
 ·next e =>
  subst e
  constructor
  ·intro z; cases z; exact .inr rfl
  ·rintro (z | z)
   ·rw [(mem i w).mpr z] at hn; cases hn
   ·cases z; rfl
 ·next e =>
  constructor
  ·intro z; exact .inl ((mem i w).mp z)
  ·rintro (z | z)
   ·exact (mem i w).mpr z
   ·cases z; exact absurd rfl e
theorem Lu {k:Kn} {ord:List (Nat× Bool)} {g:Nat} {v:Bool} (mem:∀ g v,k g = some v↔(g,v)∈ord) (nd:(ord.map Prod.fst).Nodup) (hn:k g = none):((ord ++ [(g,v)]).map Prod.fst).Nodup:=by
 rw [iM]
 refine nodup_append.mpr ⟨nd,by simp,λ a ha b hb e=>?_⟩
 obtain ⟨⟨x,y⟩,hx,rfl⟩:=jS.mp ha
 have hb:b = g:=by simpa using hb
 subst hb
 have e:x = b:=e
 subst e
 rw [(mem x y).mpr hx] at hn
 cases hn
theorem Hu {k:Kn} {g i:Nat} {v:Bool} (h:(k.set g v) i = none):k i = none∧¬ i = g:=by
 unfold Kn.set at h
 split at h
 ·cases h
 ·next e=>exact ⟨h,e⟩
theorem Wl.hear {gs:List Gt} {st:Option (List Int)} {co:List Int} {k:Kn} {ord:List (Nat× Bool)} {m c g:Nat} {v:Bool} {ds rs:List Nat} {u:Nat→Int} {G:Gt} (h:Wl gs st co k ord m ds u) (hm:ord[m]? = some (c,v)) (hd:ds ++ g :: rs = namers gs c) (hG:gs[g]? = some G) :
  Wl gs st co (D3 k ord g (E8 G (u g - 1) v)).1 (D3 k ord g (E8 G (u g - 1) v)).2 m (ds ++ [g]) (λ i=>if i = g then u g - 1 else u i):=by
 have ng:numsAt gs g = G.nums:=by unfold numsAt; rw [hG]; rfl
 have cnt:∀ i,(ds ++ [g]).count i≤(numsAt gs i).count c:=λ i=>by
  rw [← count_namers,← hd,show ds ++ g :: rs = (ds ++ [g]) ++ rs by simp,count_append (l₁:=ds ++ [g])]
  omega
 have a1:c∈G.nums:=by
  rw [← ng]
  refine count_pos_iff.mp ?_
  have:=cnt g
  rw [count_append,List.count_singleton] at this
  simp at this
  omega
 have kc:k c = some v:=(h.mem c v).mpr (iN hm)
 have nt:=Th h.nd hm
 have un:∀ i,¬ numsAt gs i = []→(if i = g then u g - 1 else u i) + ((numsAt gs i).countP (λ c=>decide (c∈(ord.take m).map Prod.fst)):Int) + ((ds ++ [g]).count i:Int) = ((numsAt gs i).length:Int):=λ i a5=>by
  have:=h.un i a5
  rw [count_append,List.count_singleton]
  generalize (numsAt gs i).countP (λ c=>decide (c∈(ord.take m).map Prod.fst)) = cp at this
  by_cases e:i = g
  ·subst e; simp; omega
  ·have e':¬ g = i:=λ z=>e z.symm
   simp [e,e']; omega
 have a2:u g - 1 = 0→∀ x∈G.nums,x∈(ord.take m).map Prod.fst∨x = c:=λ z=>by
  have e:=un g (by rw [ng]; intro z; rw [z] at a1; cases a1)
  have cg:=cnt g
  rw [if_pos rfl,z] at e
  generalize (ord.take m).map Prod.fst = A at e nt
  have f:(numsAt gs g).countP (λ x=>decide (x∈A∨x = c)) = (numsAt gs g).countP (λ x=>decide (x∈A)) + (numsAt gs g).count c:=by
   clear e cg
   induction numsAt gs g with
   | nil=>rfl
   | cons x l ih =>
    rw [countP_cons,countP_cons,count_cons,ih]
    by_cases e:x = c
    ·subst e
     simp [nt]
     omega
    ·simp [e]
     omega
  have le:=List.countP_le_length (p:=λ x=>decide (x∈A∨x = c)) (l:=numsAt gs g)
  have f2:(numsAt gs g).countP (λ x=>decide (x∈A∨x = c)) = (numsAt gs g).length:=by omega
  rw [List.countP_eq_length] at f2
  intro x hx
  exact iK (f2 x (ng ▸ hx))
 by_cases hn:k g = none
 ·
  have told:∀ w,E8 G (u g - 1) v = some w→Cy st co k G = some w:=by
   intro w hw
   have a4:∀ x y,x∈G.nums→x∈(ord.take m).map Prod.fst→k x = some y→(∃ l,G = .all l∧y = true)∨∃ l,G = .som l∧y = false:=λ x y hx hA hy=>by
    obtain ⟨⟨x',y'⟩,hp,e⟩:=jS.mp hA
    have e:x' = x:=e
    subst e
    have:k x' = some y':=(h.mem x' y').mpr (mem_of_mem_take hp)
    rw [hy] at this
    cases this
    exact h.hd g G x' y hG hx hp hn
   cases G with
   | start=>cases hw
   | mem n=>cases hw
   | given s=>cases hw
   | nt x =>
    cases hw
    have:c = x:=mS a1
    subst this
    simp only [Cy]
    rw [kc]; rfl
   | all l =>
    simp only [E8] at hw
    simp only [Cy]
    split at hw
    ·next z =>
     cases hw
     rw [Ed]
     cases v with
     | false=>exact .inl ⟨rfl,c,a1,kc⟩
     | true =>
      refine .inr ⟨Z,λ x hx=>?_⟩
      have z:=z.resolve_left (λ z=>by cases z)
      rcases a2 z x hx with hA | rfl
      ·obtain ⟨⟨x',y'⟩,hp,e⟩:=jS.mp hA
       have e:x' = x:=e
       subst e
       have ky:k x' = some y':=(h.mem x' y').mpr (mem_of_mem_take hp)
       rcases a4 x' y' hx hA ky with ⟨_,_,rfl⟩ | ⟨_,z,_⟩
       ·exact ky
       ·cases z
      ·exact kc
    ·cases hw
   | som l =>
    simp only [E8] at hw
    simp only [Cy]
    split at hw
    ·next z =>
     cases hw
     rw [Ed]
     cases v with
     | true=>exact .inl ⟨rfl,c,a1,kc⟩
     | false =>
      refine .inr ⟨Z,λ x hx=>?_⟩
      have z:=z.resolve_left (λ z=>by cases z)
      rcases a2 z x hx with hA | rfl
      ·obtain ⟨⟨x',y'⟩,hp,e⟩:=jS.mp hA
       have e:x' = x:=e
       subst e
       have ky:k x' = some y':=(h.mem x' y').mpr (mem_of_mem_take hp)
       rcases a4 x' y' hx hA ky with ⟨_,z,_⟩ | ⟨_,_,rfl⟩
       ·cases z
       ·exact ky
      ·exact kc
    ·cases hw
  cases ho:E8 G (u g - 1) v with
  | some w =>
   have e:D3 k ord g (some w) = (k.set g w,ord ++ [(g,w)]):=by unfold D3; rw [hn]
   rw [e]
   have hl:m < ord.length:=(List.getElem?_eq_some_iff.mp hm).1
   have tk:(ord ++ [(g,w)]).take m = ord.take m:=List.take_append_of_le_length (by omega)
   have gm:(ord ++ [(g,w)])[m]? = some (c,v):=by rw [iR hl]; exact hm
   refine ⟨h.der.step hG hn (told w ho),Rn h.mem hn,Lu h.mem h.nd hn,by rw [tk]; exact un,λ i I x y hI hx hy hi=>?_,λ i I x y hI hx hy hi=>?_,λ i I hI hi=>?_⟩
   ·rw [tk] at hy
    exact h.hd i I x y hI hx hy (Hu hi).1
   ·rw [gm] at hy
    rcases iU.mp hx with hx | hx
    ·exact h.hc i I x y hI hx (by rw [hm]; exact hy) (Hu hi).1
    ·exact absurd (mS hx) (Hu hi).2
   ·obtain ⟨a,b⟩:=Hu hi
    obtain ⟨n1,n2⟩:=h.fs i I hI a
    refine ⟨n1,?_⟩
    show ¬ (if i = g then u g - 1 else u i) = 0
    rw [if_neg b]; exact n2
  | none =>
   have e:D3 k ord g none = (k,ord):=by unfold D3; split <;> first | rfl | (next z=>cases z)
   rw [e]
   have a3:¬ u g - 1 = 0∧((∃ l,G = .all l∧v = true)∨∃ l,G = .som l∧v = false):=by
    cases G with
    | start=>cases a1
    | mem n=>cases a1
    | given s=>cases a1
    | nt x=>cases ho
    | all l =>
     simp only [E8] at ho
     split at ho
     ·cases ho
     ·next z=>exact ⟨λ y=>z (.inr y),.inl ⟨l,rfl,by cases v <;> simp at z ⊢⟩⟩
    | som l =>
     simp only [E8] at ho
     split at ho
     ·cases ho
     ·next z=>exact ⟨λ y=>z (.inr y),.inr ⟨l,rfl,by cases v <;> simp at z ⊢⟩⟩
   refine ⟨h.der,h.mem,h.nd,un,h.hd,λ i I x y hI hx hy hi=>?_,λ i I hI hi=>?_⟩
   ·rcases iU.mp hx with hx | hx
    ·exact h.hc i I x y hI hx hy hi
    ·cases mS hx
     rw [hG] at hI
     cases hI
     rw [hm] at hy
     cases hy
     exact a3.2
   ·obtain ⟨n1,n2⟩:=h.fs i I hI hi
    refine ⟨n1,?_⟩
    show ¬ (if i = g then u g - 1 else u i) = 0
    split
    ·exact a3.1
    ·exact n2
 ·rw [AaU hn]
  refine ⟨h.der,h.mem,h.nd,un,h.hd,λ i I x y hI hx hy hi=>?_,λ i I hI hi=>?_⟩
  ·rcases iU.mp hx with hx | hx
   ·exact h.hc i I x y hI hx hy hi
   ·cases mS hx
    exact absurd hi hn
  ·obtain ⟨n1,n2⟩:=h.fs i I hI hi
   refine ⟨n1,?_⟩
   show ¬ (if i = g then u g - 1 else u i) = 0
   split
   ·next e=>subst e; exact absurd hi hn
   ·exact n2
def Da (st:Option (List Int)) (co:List Int):Gt→Option Bool
 | .start=>some st.isNone
 | .mem n=>some (match st with | none=>false | some l=>decide (n∈l))
 | .given s=>some (decide (s∈co))
 | .nt _=>none
 | .all gs=>if gs = [] then some true else none
 | .som gs=>if gs = [] then some false else none
theorem Yx {st:Option (List Int)} {co:List Int} {k:Kn} {G:Gt} {v:Bool} (h:Da st co G = some v):Cy st co k G = some v:=by
 cases G with
 | start=>exact h
 | mem n=>exact h
 | given s=>exact h
 | nt g=>cases h
 | all gs =>
  simp only [Da] at h
  split at h
  ·next z=>subst z; cases h; exact Ed.mpr (.inr ⟨rfl,λ g hg=>by cases hg⟩)
  ·cases h
 | som gs =>
  simp only [Da] at h
  split at h
  ·next z=>subst z; cases h; exact Ed.mpr (.inr ⟨rfl,λ g hg=>by cases hg⟩)
  ·cases h
theorem W5 {st:Option (List Int)} {co:List Int} {G:Gt} (h:Da st co G = none):¬ G.nums = []:=by
 cases G with
 | start=>cases h
 | mem n=>cases h
 | given s=>cases h
 | nt g=>intro z; cases z
 | all gs =>
  simp only [Da] at h
  split at h
  ·cases h
  ·assumption
 | som gs =>
  simp only [Da] at h
  split at h
  ·cases h
  ·assumption
structure Fs (gs:List Gt) (st:Option (List Int)) (co:List Int) (k:Kn) (ord:List (Nat× Bool)) (i:Nat):Prop where
 der:Der gs st co k
 mem:∀ g v,k g = some v↔(g,v)∈ord
 nd:(ord.map Prod.fst).Nodup
 fs:∀ g G,g < i→gs[g]? = some G→k g = none→¬ G.nums = []
 up:∀ g,i≤g→k g = none
theorem Fs.nil {gs:List Gt} {st:Option (List Int)} {co:List Int}:Fs gs st co (λ _=>none) [] 0 :=
 ⟨.nil,λ g v=>⟨λ z=>(by cases z),λ z=>(by cases z)⟩,nodup_nil,λ g G z=>absurd z (not_lt_zero _),λ _ _=>rfl⟩
theorem Fs.step {gs:List Gt} {st:Option (List Int)} {co:List Int} {k:Kn} {ord:List (Nat× Bool)} {i:Nat} {G:Gt} (h:Fs gs st co k ord i) (hG:gs[i]? = some G):Fs gs st co (D3 k ord i (Da st co G)).1 (D3 k ord i (Da st co G)).2 (i + 1):=by
 have hn:=h.up i (iX _)
 cases e:Da st co G with
 | none =>
  rw [show D3 k ord i none = (k,ord) by unfold D3; split <;> first | rfl | (next z=>cases z)]
  refine ⟨h.der,h.mem,h.nd,λ g G' hg a1 hk=>?_,λ g hg=>h.up g (by omega)⟩
  by_cases c:g = i
  ·subst c
   rw [hG] at a1
   cases a1
   exact W5 e
  ·exact h.fs g G' (by omega) a1 hk
 | some v =>
  rw [show D3 k ord i (some v) = (k.set i v,ord ++ [(i,v)]) by unfold D3; rw [hn]]
  refine ⟨h.der.step hG hn (Yx e),Rn h.mem hn,Lu h.mem h.nd hn,λ g G' hg a1 hk=>?_,λ g hg=>?_⟩
  ·obtain ⟨a,b⟩:=Hu hk
   exact h.fs g G' (by omega) a1 a
  ·show (k.set i v) g = none
   unfold Kn.set
   rw [if_neg (by omega)]
   exact h.up g (by omega)
theorem Fs.wl {gs:List Gt} {st:Option (List Int)} {co:List Int} {k:Kn} {ord:List (Nat× Bool)} {u:Nat→Int} (h:Fs gs st co k ord gs.length) (hu:∀ g,¬ numsAt gs g = []→u g = (numsAt gs g).length):Wl gs st co k ord 0 [] u:=by
 refine ⟨h.der,h.mem,h.nd,λ g a1=>?_,λ g G c v _ _ z=>(by cases z),λ g G c v _ z=>(by cases z),λ g G hG hk=>?_⟩
 ·rw [hu g a1]
  simp
 ·have n1:=h.fs g G (List.getElem?_eq_some_iff.mp hG).1 hG hk
  have ng:numsAt gs g = G.nums:=by unfold numsAt; rw [hG]; rfl
  refine ⟨n1,?_⟩
  rw [hu g (by rw [ng]; exact n1),ng]
  intro z
  exact n1 (length_eq_zero_iff.mp (by omega))
def knL (l:List (Option Bool)):Kn:=λ i=>(l[i]?).getD none
theorem Sw {l:List (Option Bool)} {g:Nat} {v:Bool} (h:g < l.length):knL (l.set g (some v)) = (knL l).set g v:=by
 funext i
 unfold knL Kn.set
 rw [getElem?_set]
 by_cases e:g = i
 ·subst e; simp [h]
 ·have e':¬ i = g:=λ z=>e z.symm
  simp [e,e']
def nns (l:List (Option Bool)):Nat:=l.countP (·.isNone)
theorem Abh {g:Nat} {v:Bool}:∀ {l:List (Option Bool)} (h:l[g]? = some none),nns (l.set g (some v)) + 1 = nns l:=by
 induction g with
 | zero=>intro l h; cases l with
  | nil=>cases h
  | cons x l=>cases h; simp [nns]
 | succ g ih=>intro l h; cases l with
  | nil=>cases h
  | cons x l =>
   have:=ih (l:=l) (by simpa using h)
   simp only [nns,List.set_cons_succ,countP_cons] at this ⊢
   omega
structure Rd (gs:List Gt) (st:Option (List Int)) (co:List Int) (k0 k:List (Option Bool)) (i:Nat) (b:Bool):Prop where
 der:Der gs st co (knL k)
 len:k.length = gs.length
 no:b = false→k = k0∧∀ g G,g < i→gs[g]? = some G→knL k g = none→Cy st co (knL k) G = none
 yes:b = true→nns k < nns k0
 le:nns k≤nns k0
theorem Rd.nil {gs:List Gt} {st:Option (List Int)} {co:List Int} {k:List (Option Bool)} (d:Der gs st co (knL k)) (h:k.length = gs.length):Rd gs st co k k 0 false :=
 ⟨d,h,λ _=>⟨rfl,λ g G z=>absurd z (not_lt_zero _)⟩,λ z=>(by cases z),iX _⟩
theorem Rd.skip {gs:List Gt} {st:Option (List Int)} {co:List Int} {k0 k:List (Option Bool)} {i:Nat} {b:Bool} (h:Rd gs st co k0 k i b) (hk:¬ knL k i = none):Rd gs st co k0 k (i + 1) b :=
 ⟨h.der,h.len,λ z=>⟨(h.no z).1,λ g G hg hG hn=>by
  by_cases c:g = i
  ·subst c; exact absurd hn hk
  ·exact (h.no z).2 g G (by omega) hG hn⟩,h.yes,h.le⟩
theorem Rd.step {gs:List Gt} {st:Option (List Int)} {co:List Int} {k0 k:List (Option Bool)} {i:Nat} {b:Bool} {G:Gt} (h:Rd gs st co k0 k i b) (hG:gs[i]? = some G) (hk:knL k i = none):Rd gs st co k0 (k.set i (Cy st co (knL k) G)) (i + 1) (b || (Cy st co (knL k) G).isSome):=by
 have hi:i < k.length:=by rw [h.len]; exact (List.getElem?_eq_some_iff.mp hG).1
 have a2:k[i]? = some none:=by
  unfold knL at hk
  rw [hX hi] at hk ⊢
  exact congrArg some hk
 cases e:Cy st co (knL k) G with
 | none =>
  have es:k.set i none = k:=by
   refine ext_getElem (by simp) λ j h1 h2=>?_
   rw [List.getElem_set]
   split
   ·next z =>
    subst z
    have:=a2
    rw [hX hi] at this
    exact (Option.some.inj this).symm
   ·rfl
  rw [es]
  simp only [Option.isSome_none,Bool.or_false]
  refine ⟨h.der,h.len,λ z=>⟨(h.no z).1,λ g G' hg a1 hn=>?_⟩,h.yes,h.le⟩
  by_cases c:g = i
  ·subst c
   rw [hG] at a1
   cases a1
   exact e
  ·exact (h.no z).2 g G' (by omega) a1 hn
 | some v =>
  have n:=Abh (v:=v) a2
  have:=h.le
  simp only [Option.isSome_some,Bool.or_true]
  exact ⟨by rw [Sw hi]; exact h.der.step hG hk e,by rw [jL]; exact h.len,λ z=>(by cases z),λ _=>by omega,by omega⟩
theorem Rd.closed {gs:List Gt} {st:Option (List Int)} {co:List Int} {k0 k:List (Option Bool)} (h:Rd gs st co k0 k gs.length false):G8 gs st co (knL k):=λ g G hG hn=>(h.no rfl).2 g G (List.getElem?_eq_some_iff.mp hG).1 hG hn
def vO:Option Bool→V
 | none=>.non
 | some b=>.bl b
def Gt.word:Gt→Str
 | .start=> "start"
 | .mem _=> "memory"
 | .given _=> "given"
 | .nt _=> "not"
 | .all _=> "all"
 | .som _=> "some"
def Gt.args:Gt→List Int
 | .start=>[]
 | .mem k=>[k]
 | .given s=>[s]
 | .nt g=>[(g:Int)]
 | .all gs=>gs.map Int.ofNat
 | .som gs=>gs.map Int.ofNat
inductive Ig (K:PySem.W.Frag) (H:Hp) (G:Gt) (v:V):Prop
 | mk (a b:Addr) (e:v = .ref a) (h1:SqT K H a [.str G.word,.ref b]) (h2:SqT K H b (G.args.map V.int)):Ig K H G v
def KpL (rs:List Addr) (H H':Hp):Prop:=∀ b o,b∉rs→H b = some o→H' b = some o
abbrev Ae4 (gl kl ol nl ul:Addr):List (Str× V):=[("gates", .ref gl),("known", .ref kl),("order", .ref ol),("namers", .ref nl),("unheard", .ref ul)]
inductive AbL (H:Hp) (ol:Addr) (ord:List (Nat× Bool)):Prop
 | mk (ts:List Addr) (h:H ol = some (.lst (ts.map V.ref))) (l:ts.length = ord.length) (t:∀ (i:Nat) a g v,ts[i]? = some a→ord[i]? = some (g,v)→H a = some (.tup [.int (g:Nat),.bl v])):AbL H ol ord
inductive C8 (C:Addr) (H:Hp) (o gl kl ol nl ul:Addr) (k:List (Option Bool)) (ord:List (Nat× Bool)) (u:List Int):Prop
 | mk (dx:Addr) (ho:H o = some (.ins C dx (Ae4 gl kl ol nl ul))) (hk:H kl = some (.lst (k.map vO))) (hol:AbL H ol ord) (hu:H ul = some (.lst (u.map V.int))) (n1:kl≠ol) (n2:kl≠ul) (n3:ol≠ul):C8 C H o gl kl ol nl ul k ord u
structure K0 (K:PySem.W.Frag) (mg:Str→Option Value) (C aN:Addr):Prop extends Txt mg where
 cl:Cls K C
 nG:Ca K C "gates"
 nK:Ca K C "known"
 nO:Ca K C "order"
 nN:Ca K C "namers"
 nU:Ca K C "unheard"
 m_Settler:mg "Settler" = some (.ref C)
 m_NAMING_GATES:mg "NAMING_GATES" = some (.ref aN)
 r_NAMING_GATES:A6 (.ref aN) (Value.ref aN)
 mN:Wn K aN [.str "not", .str "all", .str "some"]
def Cc (k:List (Option Bool)) (ord:List (Nat× Bool)) (g:Nat) (w:Option Bool):List (Option Bool)× List (Nat× Bool) :=
 match (k[g]?).getD none,w with
 | none,some v=>(k.set g (some v),ord ++ [(g,v)])
 | _,_=>(k,ord)
inductive O4 (C:Addr) (vs:List V) (H:Hp) (Q:VK):Prop
 | mk (o gl kl ol nl ul:Addr) (g:Nat) (w:Option Bool) (k:List (Option Bool)) (ord:List (Nat× Bool)) (u:List Int) (_:vs = [.ref o,.int g,vO w]) (_:C8 C H o gl kl ol nl ul k ord u) (_:g < k.length) (_:ord.length≤16000000) (_:∀ H',KpL [kl,ol] H H'→C8 C H' o gl kl ol nl ul (Cc k ord g w).1 (Cc k ord g w).2 u→Q .non H'):O4 C vs H Q
def Lv (C:Addr):Sp:=λ vs H Q _=>O4 C vs H Q
abbrev Il:Stmt:=B8 Ix 0
abbrev Lw:Stmt:=B8 Ix 1
abbrev Iw:Stmt:=B8 Ix 2
abbrev Nu:Stmt:=B8 Ix 3
theorem X4:As ["self", "gates"] ["self", "gates"] (Ag Il):=⟨Z,Z,Z,by decide +kernel,Z,by decide +kernel,by decide +kernel⟩
theorem Aac:As ["self", "gate", "value"] ["self", "gate", "value"] (Ag Lw):=⟨Z,Z,Z,by decide +kernel,Z,by decide +kernel,by decide +kernel⟩
theorem Nk:As ["self", "step", "namer"] ["self", "step"] (Ag Iw):=⟨Z,Z,Z,by decide +kernel,Z,by decide +kernel,by decide +kernel⟩
theorem Tu:As ["self", "gate", "value", "word"] ["self", "gate", "value"] (Ag Nu):=⟨Z,Z,Z,by decide +kernel,Z,by decide +kernel,by decide +kernel⟩
section
variable {P:Program} {w:World} {K:PySem.W.Frag} {mg:Str→Option Value} {base:Heap} {C aN:Addr}
theorem AaS {f:Addr} {fd:FuncData} (F:Fun K "learn" "Settler.learn" Lw f fd) (T:K0 K mg C aN):Bl P w K mg base CX0 1 f fd ["self", "gate", "value"] (Lv C):=by
 refine F.ok Aac (λ vs H Q E h=>?_) (λ cdv A outer s H vs Q E hr h=>?_)
 ·obtain ⟨o,gl,kl,ol,nl,ul,g,v,k,ord,u,rfl,_⟩:=h; rfl
 obtain ⟨o,gl,kl,ol,nl,ul,g,v,k,ord,u,rfl,S,hg,lo,q⟩:=h
 obtain ⟨dx,ho,hk,⟨ts,hol,tl,tt⟩,hu,n1,n2,n3⟩:=id S
 refine ⟨_,(Ae (Bg (PW.pt (Yh (Am Ky (Ak Be (Al (pv 0) rfl) (pv 1) (λ _ _=>rfl)) B3 (Ap _)) (Tg (Am Nz (pv 2) B3 (Ap _)))))
   (Ad (D9 (pv 2) (M0 (Al (pv 0) rfl) (pv 1) Kl))
  (Ae (A0 (Dt PySem.F.plainAttrs_list PySem.F.slot_list_append PySem.F.type_list_append B6 (Al (pv 0) rfl) (Aa (A3 (Aa (pv 1) (Aa (pv 2) Ab))) Ab)))))
   A7)),?_⟩
 have ek:(k.map vO)[g]? = some (vO ((k[g]?).getD none)):=by
  rw [iH,hX hg]; rfl
 refine ⟨_,Z,o,C,dx,_,_,Z,ho,T.cl,T.nK,Z,_,Z,kl,_,_,_,Z,Z,SqL.of hk,Ah ek,Z,_,Z,?_⟩
 cases e1:(k[g]?).getD none with
 | some b =>
  have el:Cc k ord g v = (k,ord):=by unfold Cc; rw [e1]
  rw [el] at q
  exact Eb (Eb (q H (λ b o _ h=>h) S))
 | none =>
  refine Dv ⟨_,Z,Z,_,Z,?_⟩
  cases v with
  | none =>
   have el:Cc k ord g none = (k,ord):=by unfold Cc; rw [e1]
   rw [el] at q
   exact Eb (q H (λ b o _ h=>h) S)
  | some b =>
   have el:Cc k ord g (some b) = (k.set g (some b),ord ++ [(g,b)]):=by unfold Cc; rw [e1]
   rw [el] at q
   refine Dv ⟨_,Z,_,Z,o,C,dx,_,_,Z,ho,T.cl,T.nK,Z,_,Z,kl,_,_,g,Z,Z,hk,?_,?_⟩
   ·unfold ixN
    rw [hZ,if_pos (by omega),if_pos (by omega),Int.toNat_natCast]
   have a8:kl≠o:=λ e=>by rw [e,ho] at hk; cases hk
   have a6:ol≠o:=λ e=>by rw [e,ho] at hol; cases hol
   have tk:∀ (i:Nat) (a:Addr),ts[i]? = some a→a≠kl∧a≠ol:=λ i a h=>by
    have hi:i < ord.length:=by rw [← tl]; exact (List.getElem?_eq_some_iff.mp h).1
    have z:=tt i a ord[i].1 ord[i].2 h (hX hi)
    exact ⟨(λ e=>by rw [e,hk] at z; cases z),(λ e=>by rw [e,hol] at z; cases z)⟩
   have a2:(upd H kl (.lst ((k.map vO).set g (vO (some b))))) kl = some (.lst ((k.set g (some b)).map vO)):=by rw [upd_same,map_set]
   have k1:∀ c x,c≠kl→H c = some x→(upd H kl (.lst ((k.map vO).set g (vO (some b))))) c = some x:=λ c x hc h=>by rw [upd_ne hc]; exact h
   generalize (upd H kl (.lst ((k.map vO).set g (vO (some b))))) = H1 at a2 k1
   have a3:=k1 _ _ a8.symm ho
   have a1:=k1 _ _ n1.symm hol
   have a7:=k1 _ _ n2.symm hu
   refine ⟨_,Z,o,C,dx,_,_,Z,a3,T.cl,T.nO,Z,.inl ⟨rfl,_,SqL.of a1⟩,_,Z,_,Z,zN2,λ t ht=>?_⟩
   have k2:=Ac ht (.tup [.int (g:Int),vO (some b)])
   have tn:=upd_same (H:=H1) (a:=t) (o:=.tup [.int (g:Int),vO (some b)])
   have a5:t≠ol:=(ne_of_none a1 ht).symm
   generalize (upd H1 t (.tup [.int (g:Int),vO (some b)])) = H2 at k2 tn
   refine ⟨ol,_,_,Z,Z,k2 _ _ a1,by rw [hZ,tl]; exact Ua (by omega),?_⟩
   have k3:∀ c x,c≠ol→H2 c = some x→(upd H2 ol (.lst (ts.map V.ref ++ [.ref t]))) c = some x:=λ c x hc h=>by rw [upd_ne hc]; exact h
   have a4:(upd H2 ol (.lst (ts.map V.ref ++ [.ref t]))) ol = some (.lst ((ts ++ [t]).map V.ref)):=by rw [upd_same,iM]; rfl
   generalize (upd H2 ol (.lst (ts.map V.ref ++ [.ref t]))) = H3 at k3 a4
   refine q H3 (λ c x hc h=>?_) ⟨dx,k3 _ _ a6.symm (k2 _ _ a3),k3 _ _ n1 (k2 _ _ a2),⟨ts ++ [t],a4,by rw [iB,iB,tl]; rfl,λ i a g' v' h1 h2=>?_⟩,k3 _ _ n3.symm (k2 _ _ a7),n1,n2,n3⟩
   ·simp only [jK,jH,or_false,not_or] at hc
    exact k3 _ _ hc.2 (k2 _ _ (k1 _ _ hc.1 h))
   ·by_cases c:i < ts.length
    ·rw [iR c] at h1
     rw [iR (by omega)] at h2
     obtain ⟨m1,m2⟩:=tk i a h1
     exact k3 _ _ m2 (k2 _ _ (k1 _ _ m1 (tt i a g' v' h1 h2)))
    ·rw [iS (by omega)] at h1 h2
     have e:i - ts.length = 0:=by
      cases e:i - ts.length with
      | zero=>rfl
      | succ m=>rw [e] at h1; simp at h1
     rw [e] at h1
     rw [← tl,e] at h2
     cases h1
     cases h2
     exact k3 _ _ a5 tn
theorem AdW {G:Gt} (e:G.word = "not"):∃ c,G = .nt c:=by cases G <;> first | exact ⟨_,Z⟩ | (dsimp only [Gt.word] at e; exact absurd e (by decide +kernel))
def Gt.one:Gt→Bool
 | .som _=>true
 | _=>false
theorem Zy (G:Gt):decide (V.str G.word = V.str "some") = G.one:=by
 cases G with
 | som l=>exact iI rfl
 | _=>exact iJ (λ z=>absurd (V.str.inj z) (by dsimp only [Gt.word]; decide +kernel))
theorem Sq (k:List (Option Bool)) (ord:List (Nat× Bool)) (g:Nat):Cc k ord g none = (k,ord):=by unfold Cc; cases (k[g]?).getD none <;> rfl
theorem Wd {G:Gt} (h:¬ G.nums = []) (n:¬ G.word = "not") (x:Int) (v:Bool):E8 G x v = if v = G.one∨x = 0 then some v else none:=by
 cases G with
 | nt c=>exact absurd rfl n
 | all l=>rfl
 | som l=>rfl
 | _=>exact absurd rfl h
inductive Re (K:PySem.W.Frag) (C:Addr) (vs:List V) (H:Hp) (Q:VK):Prop
 | mk (o gl kl ol nl ul:Addr) (g:Nat) (v:Bool) (G:Gt) (k:List (Option Bool)) (ord:List (Nat× Bool)) (u:List Int) (x:Int) (gv:V) (gvs:List V) (_:vs = [.ref o,.int g,.bl v]) (_:C8 C H o gl kl ol nl ul k ord u) (_:SqL K H gl gvs) (_:gvs[g]? = some gv) (_:Ig K H G gv) (_:¬ G.nums = []) (_:u[g]? = some x) (_:g < k.length) (_:ord.length≤16000000) (_:∀ H',KpL [kl,ol,ul] H H'→C8 C H' o gl kl ol nl ul (Cc k ord g (E8 G (x - 1) v)).1 (Cc k ord g (E8 G (x - 1) v)).2 (u.set g (x - 1))→Q .non H'):Re K C vs H Q
def Rk (K:PySem.W.Frag) (C:Addr):Sp:=λ vs H Q _=>Re K C vs H Q
theorem AcH {f:Addr} {fd:FuncData} (F:Fun K "hear" "Settler.hear" Nu f fd) (T:K0 K mg C aN) (bB:A4 P w K mg base 1 C "learn" ["self", "gate", "value"] (Lv C)):Bl P w K mg base CX0 2 f fd ["self", "gate", "value"] (Rk K C):=by
 refine F.ok Tu (λ vs H Q E h=>?_) (λ cdv A outer s H vs Q E hr h=>?_)
 ·obtain ⟨o,gl,kl,ol,nl,ul,g,v,G,k,ord,u,x,gv,gvs,rfl,_⟩:=h; rfl
 obtain ⟨o,gl,kl,ol,nl,ul,g,v,G,k,ord,u,x,gv,gvs,rfl,S,hgl,eg,gt,hG,eu,hg,lo,q⟩:=h
 obtain ⟨dx,ho,hk,od,hu,n1,n2,n3⟩:=id S
 obtain ⟨ts,hol,tl,tt⟩:=id od
 obtain ⟨a,b,rfl,h1,h2⟩:=gt
 refine ⟨_,(Ad (Aw (i:=3) Tu.nd rfl (Or.inl rfl) (Ak Ar (Ak Be (Al (pv 0) rfl) (pv 1) (λ _ _=>rfl)) Af (λ _ _=>rfl)))
  (Ad (D9 (A8 M1 (Ak Be (Al (pv 0) rfl) (pv 1) (λ _ _=>rfl)) Af) (M0 (Al (pv 0) rfl) (pv 1) Kl))
  (Ae (Bg (Am A9 (pv 3) Ao (Ap _))
   (Ae (A0 (An bB hr Ai (pv 0) (Aa (pv 1) (Aa (Ac0 (pv 2)) Ab)))))
   (Ae (Bg (PW.pt (Fu (Am A9 (pv 2) (Dp A9 (pv 3) Ao (Ap _)) (Ap _)) (Ft (Am A9 (Ak Be (Al (pv 0) rfl) (pv 1) (λ _ _=>rfl)) Af (Ap _)))))
   (Ae (A0 (An bB hr Ai (pv 0) (Aa (pv 1) (Aa (pv 2) Ab)))))
   A7)))))),?_⟩
 have a4:(u.map V.int)[g]? = some (.int x):=by rw [iH,eu]; rfl
 have gu:g < u.length:=(List.getElem?_eq_some_iff.mp eu).1
 refine ⟨_,Z,o,C,dx,_,_,Z,ho,T.cl,T.nG,Z,_,Z,gl,_,_,_,Z,Z,hgl,Ah eg,a,_,_,_,Z,Z,h1,Ah (j:=0) rfl,?_⟩
 refine ⟨_,Z,o,C,dx,_,_,Z,ho,T.cl,T.nU,Z,_,Z,ul,_,_,_,Z,Z,SqL.of hu,Ah a4,_,_,Z,Z,_,Z,o,C,dx,_,_,Z,ho,T.cl,T.nU,Z,_,Z,ul,_,_,g,Z,Z,hu,?_,?_⟩
 ·unfold ixN
  rw [hZ,if_pos (by omega),if_pos (by omega),Int.toNat_natCast]
 have a3:ul≠o:=λ e=>by rw [e,ho] at hu; cases hu
 have a2:(upd H ul (.lst ((u.map V.int).set g (.int (x - 1))))) ul = some (.lst ((u.set g (x - 1)).map V.int)):=by rw [upd_same,map_set]
 have k1:∀ c y,c≠ul→H c = some y→(upd H ul (.lst ((u.map V.int).set g (.int (x - 1))))) c = some y:=λ c y hc h=>by rw [upd_ne hc]; exact h
 generalize (upd H ul (.lst ((u.map V.int).set g (.int (x - 1))))) = H1 at a2 k1
 have a5:∀ (i:Nat) a g v,ts[i]? = some a→ord[i]? = some (g,v)→H1 a = some (.tup [.int (g:Nat),.bl v]):=λ i a g v z1 z2=>by
  have z:=tt i a g v z1 z2
  exact k1 _ _ (λ e=>by rw [e,hu] at z; cases z) z
 have S1:C8 C H1 o gl kl ol nl ul k ord (u.set g (x - 1)):=⟨dx,k1 _ _ a3.symm ho,k1 _ _ n2 hk,⟨ts,k1 _ _ n3 hol,tl,a5⟩,a2,n1,n2,n3⟩
 have a1:=k1 _ _ a3.symm ho
 have q:∀ H',KpL [kl,ol] H1 H'→C8 C H' o gl kl ol nl ul (Cc k ord g (E8 G (x - 1) v)).1 (Cc k ord g (E8 G (x - 1) v)).2 (u.set g (x - 1))→Q .non H':=λ H' kp=>q H' λ c y hc h=>by
  simp only [jK,jH,or_false,not_or] at hc
  exact kp c y (by simp only [jK,jH,or_false,not_or]; exact ⟨hc.1,hc.2.1⟩) (k1 _ _ hc.2.2 h)
 refine ⟨_,Z,Z,_,Z,Ee (λ e=>?_) λ n=>?_⟩
 ·obtain ⟨c,rfl⟩:=AdW e
  exact ⟨_,Z,o,dx,_,Z,a1,Z,_,Z,_,Z,_,Z,o,gl,kl,ol,nl,ul,g,some (!v),k,ord,_,Z,S1,hg,lo,q⟩
 ·rw [Wd hG n] at q
  refine ⟨_,Z,_,Z,Z,Z,_,Z,?_⟩
  rw [Zy]
  dsimp only
  by_cases c1:v = G.one
  ·rw [if_pos (.inl c1)] at q
   rw [iI (congrArg V.bl c1)]
   exact Dv (Dv ⟨_,Z,o,dx,_,Z,a1,Z,_,Z,_,Z,o,gl,kl,ol,nl,ul,g,some v,k,ord,_,Z,S1,hg,lo,q⟩)
  ·rw [iJ (λ z=>c1 (V.bl.inj z))]
   have a6:((u.set g (x - 1)).map V.int)[g]? = some (.int (x - 1)):=by rw [iH,jO gu]; rfl
   refine Eb ⟨_,Z,o,C,dx,_,_,Z,a1,T.cl,T.nU,Z,_,Z,ul,_,_,_,Z,Z,SqL.of a2,Ah a6,Z,_,Z,Aaf (λ c2=>?_) λ c2=>?_⟩
   ·rw [if_pos (.inr c2)] at q
    exact ⟨_,Z,o,dx,_,Z,a1,Z,_,Z,_,Z,o,gl,kl,ol,nl,ul,g,some v,k,ord,_,Z,S1,hg,lo,q⟩
   ·rw [if_neg (λ z=>z.elim c1 c2),Sq] at q
    exact q H1 (λ c y _ h=>h) S1
inductive GsAt (K:PySem.W.Frag) (H:Hp) (gl:Addr) (gs:List Gt):Prop
 | mk (vs:List V) (h:SqL K H gl vs) (l:vs.length = gs.length) (g:∀ (i:Nat) v G,vs[i]? = some v→gs[i]? = some G→Ig K H G v):GsAt K H gl gs
inductive Kc (H:Hp) (nl:Addr) (gs:List Gt) (rs:List Addr):Prop
 | mk (ls:List Addr) (h:H nl = some (.lst (ls.map V.ref))) (l:ls.length = gs.length) (t:∀ (i:Nat) a,ls[i]? = some a→H a = some (.lst ((namers gs i).map λ n=>V.int (n:Nat)))∧a∉rs) (n:nl∉rs):Kc H nl gs rs
theorem KpL.trans {rs:List Addr} {H H1 H2:Hp} (a:KpL rs H H1) (b:KpL rs H1 H2):KpL rs H H2:=λ c o h e=>b c o h (a c o h e)
theorem KpL.refl {rs:List Addr} {H:Hp}:KpL rs H H:=λ _ _ _ h=>h
theorem Kc.kp {H H':Hp} {nl:Addr} {gs:List Gt} {rs:List Addr} (k:KpL rs H H') (h:Kc H nl gs rs):Kc H' nl gs rs:=by
 obtain ⟨ls,h,l,t,n⟩:=h
 exact ⟨ls,k _ _ n h,l,λ i a e=>⟨k _ _ (t i a e).2 (t i a e).1,(t i a e).2⟩,n⟩
structure Apt (rs:List Addr) (H:Hp):Prop where
 of:∀ r∈rs,∃ xs,H r = some (.lst xs)
theorem KpL.tp {rs:List Addr} {H H':Hp} (k:KpL rs H H') (a:Apt rs H):Tp H H':=λ b xs e=>k _ _ (λ z=>by obtain ⟨ys,h⟩:=a.of b z; rw [e] at h; cases h) e
theorem C8.apt {C:Addr} {H:Hp} {o gl kl ol nl ul:Addr} {k:List (Option Bool)} {ord:List (Nat× Bool)} {u:List Int} (S:C8 C H o gl kl ol nl ul k ord u):Apt [kl,ol,ul] H:=by
 obtain ⟨dx,ho,hk,⟨ts,hol,_,_⟩,hu,_,_,_⟩:=S
 refine ⟨λ r hr=>?_⟩
 simp only [jK,jH,or_false] at hr
 rcases hr with rfl | rfl | rfl
 ·exact ⟨_,hk⟩
 ·exact ⟨_,hol⟩
 ·exact ⟨_,hu⟩
theorem KpL.sqT {K:PySem.W.Frag} {rs:List Addr} {H H':Hp} {a:Addr} {xs:List V} (k:KpL rs H H') (ap:Apt rs H) (h:SqT K H a xs):SqT K H' a xs:=by
 rcases h with (h | ⟨o,h⟩) | h
 ·exact .inl (.inl (k _ _ (λ z=>by obtain ⟨ys,e⟩:=ap.of _ z; rw [h] at e; cases e) h))
 ·exact .inl (.inr ⟨o,k _ _ (λ z=>by obtain ⟨ys,e⟩:=ap.of _ z; rw [h] at e; cases e) h⟩)
 ·exact .inr h
theorem KpL.sqL {K:PySem.W.Frag} {rs:List Addr} {H H':Hp} {a:Addr} {xs:List V} (k:KpL rs H H') (n:a∉rs) (h:SqL K H a xs):SqL K H' a xs:=by
 rcases h with (h | ⟨o,h⟩) | h
 ·exact .inl (.inl (k _ _ n h))
 ·exact .inl (.inr ⟨o,k _ _ n h⟩)
 ·exact .inr h
theorem Ig.kp {K:PySem.W.Frag} {rs:List Addr} {H H':Hp} {G:Gt} {v:V} (k:KpL rs H H') (ap:Apt rs H) (h:Ig K H G v):Ig K H' G v:=by
 obtain ⟨a,b,e,h1,h2⟩:=h
 exact ⟨a,b,e,k.sqT ap h1,k.sqT ap h2⟩
theorem GsAt.kp {K:PySem.W.Frag} {rs:List Addr} {H H':Hp} {gl:Addr} {gs:List Gt} (k:KpL rs H H') (ap:Apt rs H) (n:gl∉rs) (h:GsAt K H gl gs):GsAt K H' gl gs:=by
 obtain ⟨vs,h,l,g⟩:=h
 exact ⟨vs,k.sqL n h,l,λ i v G e1 e2=>(g i v G e1 e2).kp k ap⟩
theorem Ps {k:List (Option Bool)} {ord:List (Nat× Bool)} {g:Nat} {w:Option Bool} (h:g < k.length):D3 (knL k) ord g w = (knL (Cc k ord g w).1,(Cc k ord g w).2):=by
 unfold D3 Cc
 show (match (k[g]?).getD none,w with | none,some v=>_ | _,_=>_) = _
 cases e:(k[g]?).getD none with
 | some b=>rfl
 | none =>
  cases w with
  | none=>rfl
  | some v=>dsimp only; rw [Sw h]
theorem learnL_len (k:List (Option Bool)) (ord:List (Nat× Bool)) (g:Nat) (w:Option Bool):(Cc k ord g w).1.length = k.length:=by
 unfold Cc
 split
 ·exact jL
 ·rfl
def uF (u:List Int):Nat→Int:=λ i=>(u[i]?).getD 0
theorem Ade {u:List Int} {g:Nat} {y:Int} (h:g < u.length):uF (u.set g y) = λ i=>if i = g then y else uF u i:=by
 funext i
 unfold uF
 rw [getElem?_set]
 by_cases e:g = i
 ·subst e; simp [h]
 ·have e':¬ i = g:=λ z=>e z.symm
  simp [e,e']
theorem Ru:∀ (n:Nat) (l:List Nat),l.Nodup→(∀ x∈l,x < n)→l.length≤n
 | 0,[],_,_=>iX _
 | 0,x :: l,_,h=>absurd (h x iE) (not_lt_zero _)
 | n + 1,l,nd,h=>by
  have h1:=Ru n (l.filter (λ x=>decide (x≠n))) (nd.filter _) λ x hx=>by
   have:=mem_filter.mp hx
   have a:=h x this.1
   have b:=iK this.2
   omega
  have h2:l.length≤(l.filter (λ x=>decide (x≠n))).length + 1:=by
   have c:=List.nodup_iff_count.mp nd n
   have e:l.length = (l.filter (λ x=>decide (x≠n))).length + l.count n:=by
    clear nd h h1 c
    induction l with
    | nil=>rfl
    | cons x l ih =>
     rw [count_cons,iT]
     by_cases z:x = n
     ·subst z; simp at ih ⊢; omega
     ·rw [List.filter_cons_of_pos (by simpa using z)]; simp [z] at ih ⊢; omega
   omega
  omega
theorem Wl.len {gs:List Gt} {st:Option (List Int)} {co:List Int} {k:Kn} {ord:List (Nat× Bool)} {m:Nat} {ds:List Nat} {u:Nat→Int} (h:Wl gs st co k ord m ds u):ord.length≤gs.length:=by
 have:=Ru gs.length (ord.map Prod.fst) h.nd λ x hx=>by
  obtain ⟨⟨g,v⟩,hp,rfl⟩:=jS.mp hx
  obtain ⟨G,hG,_⟩:=h.der.told g v ((h.mem g v).mpr hp)
  exact (List.getElem?_eq_some_iff.mp hG).1
 rw [hZ] at this
 exact this
inductive SWl (K:PySem.W.Frag) (C:Addr) (gs:List Gt) (st:Option (List Int)) (co:List Int) (o gl kl ol nl ul:Addr) (m:Nat) (ds:List Nat) (H:Hp):Prop
 | mk (k:List (Option Bool)) (ord:List (Nat× Bool)) (u:List Int) (S:C8 C H o gl kl ol nl ul k ord u) (lk:k.length = gs.length) (lu:u.length = gs.length) (W:Wl gs st co (knL k) ord m ds (uF u)):SWl K C gs st co o gl kl ol nl ul m ds H
inductive R9 (K:PySem.W.Frag) (C:Addr) (vs:List V) (H:Hp) (Q:VK):Prop
 | mk (o gl kl ol nl ul t:Addr) (gs:List Gt) (st:Option (List Int)) (co:List Int) (m c:Nat) (v:Bool) (k:List (Option Bool)) (ord:List (Nat× Bool)) (u:List Int) (_:vs = [.ref o,.ref t]) (_:C8 C H o gl kl ol nl ul k ord u) (_:k.length = gs.length) (_:u.length = gs.length) (_:Wl gs st co (knL k) ord m [] (uF u)) (_:ord[m]? = some (c,v)) (_:H t = some (.tup [.int c,.bl v])) (_:GsAt K H gl gs) (_:gl∉[kl,ol,ul]) (_:Kc H nl gs [kl,ol,ul]) (_:gs.length≤16000) (_:∀ H',KpL [kl,ol,ul] H H'→SWl K C gs st co o gl kl ol nl ul (m + 1) [] H'→Q .non H'):R9 K C vs H Q
def Rs (K:PySem.W.Frag) (C:Addr):Sp:=λ vs H Q _=>R9 K C vs H Q
theorem AaP {gs:List Gt} {c n:Nat} (h:n∈namers gs c):∃ G,gs[n]? = some G∧c∈G.nums:=by
 have z:=count_pos_iff.mpr h
 rw [count_namers] at z
 have z:=count_pos_iff.mp z
 unfold numsAt at z
 cases e:gs[n]? with
 | none=>rw [e] at z; cases z
 | some G=>rw [e] at z; exact ⟨G,rfl,z⟩
theorem Zi {k:List (Option Bool)} {ord:List (Nat× Bool)} {g m:Nat} {w:Option Bool} {p:Nat× Bool} (h:ord[m]? = some p):(Cc k ord g w).2[m]? = some p:=by
 unfold Cc
 split
 ·rw [iR (List.getElem?_eq_some_iff.mp h).1]; exact h
 ·exact h
theorem Abk {f:Addr} {fd:FuncData} (F:Fun K "hand_on" "Settler.hand_on" Iw f fd) (T:K0 K mg C aN) (gO:A4 P w K mg base 2 C "hear" ["self", "gate", "value"] (Rk K C)):Bl P w K mg base CX0 3 f fd ["self", "step"] (Rs K C):=by
 refine F.ok Nk (λ vs H Q E h=>?_) (λ cdv A outer s H vs Q E hr h=>?_)
 ·obtain ⟨o,gl,kl,ol,nl,ul,t,gs,st,co,m,c,v,k,ord,u,rfl,_⟩:=h; rfl
 obtain ⟨o,gl,kl,ol,nl,ul,t,gs,st,co,m,c,v,k,ord,u,rfl,S,lk,lu,W,hm,ht,a6,a8,nm,b5,q⟩:=h
 obtain ⟨dx,ho,hk,od,hu,n1,n2,n3⟩:=id S
 obtain ⟨ls,hn,ll,lt,nn⟩:=id nm
 refine ⟨_,(Ae (De PassesOwn.never rfl (B9 (Ak Be (Al (pv 0) rfl) (Ak Ar (pv 1) Af (λ _ _=>rfl)) (λ _ _=>rfl))) (Aq (i:=2) Nk.nd rfl (Or.inl rfl))
   (Ae (A0 (An gO hr Ai (pv 0) (Aa (pv 2) (Aa (Ak Ar (pv 1) Af (λ _ _=>rfl)) Ab))))))),?_⟩
 have ap:=S.apt
 have hc:c < gs.length:=by
  obtain ⟨G,hG,_⟩:=W.der.told c v ((W.mem c v).mpr (iN hm))
  exact (List.getElem?_eq_some_iff.mp hG).1
 obtain ⟨l,el⟩:∃ l,ls[c]? = some l:=⟨_,hX (by omega)⟩
 obtain ⟨hl,nl'⟩:=lt c l el
 have a9:(ls.map V.ref)[c]? = some (.ref l):=by rw [iH,el]; rfl
 refine ⟨_,Z,o,C,dx,_,_,Z,ho,T.cl,T.nN,Z,_,Z,t,_,_,_,Z,Z,SqT.of ht,Ah (j:=0) rfl,nl,_,_,_,Z,Z,SqL.of hn,Ah a9,l,Z,⟨_,SqL.of hl⟩,Fn (K:=K) (a:=l) (xs:=(namers gs c).map λ n=>V.int (n:Nat)) (λ i σ H'=>∃ (x2:Option V) (k:List (Option Bool)) (ord:List (Nat× Bool)) (u:List Int),σ = [some (.ref o),some (.ref t),x2]∧KpL [kl,ol,ul] H H'∧C8 C H' o gl kl ol nl ul k ord u∧k.length = gs.length∧u.length = gs.length∧Wl gs st co (knL k) ord m ((namers gs c).take i) (uF u)∧ord[m]? = some (c,v)) ⟨none,k,ord,u,Z,KpL.refl,S,lk,lu,W,hm⟩ (λ i σ H' _ h=>by obtain ⟨_,_,_,_,_,kp,_⟩:=h; exact SqL.of (kp _ _ nl' hl)) ?_ ?_⟩
 ·rintro i y σ H1 hi ⟨x2,k,ord,u,rfl,kp,S1,lk,lu,W,hm⟩
  rw [iH] at hi
  cases ei:(namers gs c)[i]? with
  | none=>rw [ei] at hi; cases hi
  | some n =>
   rw [ei] at hi
   cases hi
   obtain ⟨G,hG,a1⟩:=AaP (iN ei)
   have hn:n < gs.length:=(List.getElem?_eq_some_iff.mp hG).1
   obtain ⟨gvs,hgl,b4,a3⟩:=a6.kp kp ap a8
   obtain ⟨gv,a2⟩:∃ gv,gvs[n]? = some gv:=⟨_,hX (by omega)⟩
   obtain ⟨x,ex⟩:∃ x,u[n]? = some x:=⟨_,hX (by omega)⟩
   have b3:¬ G.nums = []:=λ z=>by rw [z] at a1; cases a1
   have lo:=W.len
   obtain ⟨a7,a5,_⟩:=id S1
   have b2:=(kp.tp ap) _ _ ht
   have hd:(namers gs c).take i ++ n :: (namers gs c).drop (i + 1) = namers gs c:=by
    have hi:=(List.getElem?_eq_some_iff.mp ei).1
    have:=List.drop_eq_getElem_cons hi
    rw [(List.getElem?_eq_some_iff.mp ei).2] at this
    rw [← this,List.take_append_drop]
   have W2:=W.hear hm hd hG
   have a4:uF u n = x:=by unfold uF; rw [ex]; rfl
   rw [a4,Ps (by omega),← Ade (by omega)] at W2
   refine ⟨_,Z,o,a7,_,Z,a5,Z,_,Z,_,Z,t,_,_,_,Z,Z,SqT.of b2,Ah (j:=1) rfl,o,gl,kl,ol,nl,ul,n,v,G,k,ord,u,x,gv,gvs,Z,S1,hgl,a2,a3 n gv G a2 hG,b3,ex,by omega,by omega,λ H2 b1 S2=>?_⟩
   refine ⟨_,_,_,_,Z,kp.trans b1,S2,by rw [learnL_len]; exact lk,by rw [jL]; exact lu,?_,Zi hm⟩
   rw [take_add_one,ei]
   exact W2
 ·rintro σ H1 ⟨x2,k,ord,u,rfl,kp,S1,lk,lu,W,hm⟩
  rw [hZ,take_length] at W
  exact q H1 kp ⟨k,ord,u,S1,lk,lu,W.next hm⟩
inductive Hy (H:Hp) (d:Addr) (l:List Int):Prop
 | mk (kvs:List (Key× V)) (h:H d = some (.dK kvs)) (e:∀ n:Int,(Cm kvs (Sum.inl n)).isSome = decide (n∈l)):Hy H d l
inductive Ta (K:PySem.W.Frag) (vs:List V) (H:Hp) (Q:VK):Prop
 | mk (gv:V) (G:Gt) (rd sd:Addr) (st:Option (List Int)) (co:List Int) (_:vs = [gv,.bl st.isNone,.ref rd,.ref sd]) (_:Ig K H G gv) (_:Hy H rd (st.getD [])) (_:Hy H sd co) (_:Q (vO (Da st co G)) H):Ta K vs H Q
def AbQ (K:PySem.W.Frag):Sp:=λ vs H Q _=>Ta K vs H Q
theorem Aab {st:Option (List Int)} {co:List Int} {G:Gt} (n1:¬ G.word = "start") (n2:¬ G.word = "memory") (n3:¬ G.word = "given"):Da st co G = if G.args = [] then some (decide (V.str G.word = V.str "all")) else none:=by
 cases G with
 | start=>exact absurd rfl n1
 | mem k=>exact absurd rfl n2
 | given k=>exact absurd rfl n3
 | nt c=>rfl
 | all gs =>
  cases gs with
  | nil =>
   show some true = if ([]:List Int) = [] then _ else _
   rw [if_pos rfl]
   exact congrArg some (iI rfl).symm
  | cons x l=>rfl
 | som gs =>
  cases gs with
  | nil =>
   show some false = if ([]:List Int) = [] then _ else _
   rw [if_pos rfl]
   exact congrArg some (iJ (λ z=>absurd (V.str.inj z) (by dsimp only [Gt.word]; decide +kernel))).symm
  | cons x l=>rfl
theorem Q7 {G:Gt} (e:G.word = "start"):G = .start:=by cases G <;> first | rfl | (dsimp only [Gt.word] at e; exact absurd e (by decide +kernel))
theorem Yt {G:Gt} (e:G.word = "memory"):∃ k,G = .mem k:=by cases G <;> first | exact ⟨_,Z⟩ | (dsimp only [Gt.word] at e; exact absurd e (by decide +kernel))
theorem Za {G:Gt} (e:G.word = "given"):∃ k,G = .given k:=by cases G <;> first | exact ⟨_,Z⟩ | (dsimp only [Gt.word] at e; exact absurd e (by decide +kernel))
theorem Acl (F:A2 K mg "value_at_first" ["gate", "starts", "rests", "signs"] Ei) (T:Txt mg):Aj P w K mg base 1 "value_at_first" ["gate", "starts", "rests", "signs"] (AbQ K):=by
 refine F.ok Hc (λ vs H Q E h=>?_) (λ f cdv A outer s H vs Q E hr h=>?_)
 ·obtain ⟨gv,G,rd,sd,st,co,rfl,_⟩:=h; rfl
 obtain ⟨gv,G,rd,sd,st,co,rfl,⟨a,b,rfl,h1,h2⟩,⟨kr,a2,er⟩,⟨ks,a1,es⟩,q⟩:=h
 refine ⟨_,(Ad (Aw (i:=4) Hc.nd rfl (Or.inl rfl) (Ak Ar (pv 0) Af (λ _ _=>rfl)))
  (Ad (Bg (Am A9 (pv 4) Ao (Ap _))
   (Ae (Au (pv 1)))
   A7)
  (Ad (Bg (Am A9 (pv 4) Ao (Ap _))
   (Ae (Au (Y9 (Ni (AbB hr) (Ak Ar (Ak Ar (pv 0) Af (λ _ _=>rfl)) Af (λ _ _=>rfl)) (pv 2)) (by rfl))))
   A7)
  (Ad (Bg (Am A9 (pv 4) Ao (Ap _))
   (Ae (Au (Y9 (Ni (AbB hr) (Ak Ar (Ak Ar (pv 0) Af (λ _ _=>rfl)) Af (λ _ _=>rfl)) (pv 3)) (by rfl))))
   A7)
  (Ae (Au (Dy (Ii (Ak Ar (pv 0) Af (λ _ _=>rfl)) (λ _=>rfl)) B3 (Dp A9 (pv 4) Ao (Ap _))))))))),?_⟩
 refine ⟨_,Z,a,_,_,_,Z,Z,h1,Ah (j:=0) rfl,_,Z,Z,_,Z,Ee (λ e=>?_) λ n1=>⟨_,Z,Z,_,Z,Ee (λ e=>?_) λ n2=>⟨_,Z,Z,_,Z,Ee (λ e=>?_) λ n3=>?_⟩⟩⟩
 ·cases Q7 e
  exact ⟨_,Z,q⟩
 ·obtain ⟨k,rfl⟩:=Yt e
  refine ⟨_,Z,a,_,_,_,Z,Z,h1,Ah (j:=1) rfl,b,_,_,_,Z,Z,h2,Ah (j:=0) rfl,_,Z,rd,_,Z,Ha.k (k:=Sum.inl k) a2,?_⟩
  rw [er k]
  have z:Da st co (.mem k) = some (decide (k∈st.getD [])):=by
   cases st with
   | none=>exact congrArg some (iJ (λ z=>by cases z)).symm
   | some l=>rfl
  rw [z] at q
  exact q
 ·obtain ⟨k,rfl⟩:=Za e
  refine ⟨_,Z,a,_,_,_,Z,Z,h1,Ah (j:=1) rfl,b,_,_,_,Z,Z,h2,Ah (j:=0) rfl,_,Z,sd,_,Z,Ha.k (k:=Sum.inl k) a1,?_⟩
  rw [es k]
  exact q
 ·rw [Aab n1 n2 n3] at q
  refine ⟨_,Z,a,_,_,_,Z,Z,h1,Ah (j:=1) rfl,_,.inr (.inl ⟨_,h2,Z⟩),?_⟩
  cases eg:G.args with
  | nil=>rw [eg,if_pos rfl] at q; exact Eb ⟨_,rfl,rfl,q⟩
  | cons y ys=>rw [eg,if_neg (by simp)] at q; exact Dv q
def WfG (gs:List Gt):Prop:=∀ (g:Nat) (G:Gt),gs[g]? = some G→∀ c∈G.nums,c < gs.length
theorem Xh {G:Gt} (h:¬ G.nums = []∨(G.word = "not" ∨ G.word = "all" ∨ G.word = "some")):G.args = G.nums.map Int.ofNat:=by
 cases G with
 | nt c=>rfl
 | all l=>rfl
 | som l=>rfl
 | start=>rcases h with h | h | h | h <;> first | exact absurd rfl h | (dsimp only [Gt.word] at h; exact absurd h (by decide +kernel))
 | mem k=>rcases h with h | h | h | h <;> first | exact absurd rfl h | (dsimp only [Gt.word] at h; exact absurd h (by decide +kernel))
 | given k=>rcases h with h | h | h | h <;> first | exact absurd rfl h | (dsimp only [Gt.word] at h; exact absurd h (by decide +kernel))
def nmP (gs:List Gt) (i j c:Nat):List Nat:=((List.range i).flatMap λ g=>List.replicate ((numsAt gs g).count c) g) ++ List.replicate (((numsAt gs i).take j).count c) i
theorem AaN (gs:List Gt) (c:Nat):nmP gs 0 0 c = []:=by simp [nmP]
theorem AaI {gs:List Gt} {i:Nat} (c:Nat) {j:Nat} (h:(numsAt gs i).length≤j):nmP gs i j c = nmP gs (i + 1) 0 c:=by
 unfold nmP
 rw [iP h,range_succ,List.flatMap_append]
 simp
theorem AcM (gs:List Gt) (c:Nat):nmP gs gs.length 0 c = namers gs c:=by
 unfold nmP namers
 simp [numsAt]
theorem AaZ {gs:List Gt} {i j d:Nat} (h:(numsAt gs i)[j]? = some d) (c:Nat):nmP gs i (j + 1) c = if d = c then nmP gs i j c ++ [i] else nmP gs i j c:=by
 unfold nmP
 rw [take_add_one,h,count_append]
 by_cases e:d = c
 ·subst e
  rw [if_pos rfl]
  simp [List.replicate_succ']
 ·rw [if_neg e]
  have:List.count c (some d).toList = 0:=by simp [e]
  rw [this,Nat.add_zero]
inductive NmF (H H':Hp) (nl:Addr) (ls:List Addr) (gs:List Gt) (i j:Nat):Prop
 | mk (h:H' nl = some (.lst (ls.map V.ref))) (l:ls.length = gs.length) (t:∀ (c:Nat) a,ls[c]? = some a→H' a = some (.lst ((nmP gs i j c).map λ n=>V.int (n:Nat)))) (n0:H nl = none) (n1:∀ a∈ls,H a = none) (nd:ls.Nodup) (nn:nl∉ls):NmF H H' nl ls gs i j
theorem Abj (gs:List Gt) (i j c:Nat):(nmP gs i j c).length≤((List.range (i + 1)).map λ g=>(numsAt gs g).length).sum:=by
 unfold nmP
 rw [iB,iQ,range_succ,iM,sum_append]
 have h1:((List.range i).flatMap λ g=>List.replicate ((numsAt gs g).count c) g).length≤((List.range i).map λ g=>(numsAt gs g).length).sum:=by
  rw [List.length_flatMap]
  generalize List.range i = l
  induction l with
  | nil=>exact iX _
  | cons x l ih =>
   simp only [jR,sum_cons,iQ]
   have:=List.count_le_length (a:=c) (l:=numsAt gs x)
   simp only [iQ] at ih
   omega
 have h2:((numsAt gs i).take j).count c≤(numsAt gs i).length:=iW List.count_le_length (by rw [jE]; omega)
 exact Nat.add_le_add h1 h2
theorem NmF.put {H H':Hp} {nl:Addr} {ls:List Addr} {gs:List Gt} {i j d:Nat} {a:Addr} (h:NmF H H' nl ls gs i j) (e:(numsAt gs i)[j]? = some d) (ea:ls[d]? = some a):NmF H (upd H' a (.lst ((nmP gs i j d).map (λ n=>V.int (n:Nat)) ++ [.int (i:Nat)]))) nl ls gs i (j + 1):=by
 obtain ⟨h,l,t,n0,n1,nd,nn⟩:=h
 have a1:=iN ea
 refine ⟨by rw [upd_ne (λ z:nl = a=>nn (by rw [z]; exact a1))]; exact h,l,λ c b eb=>?_,n0,n1,nd,nn⟩
 rw [AaZ e]
 by_cases z:d = c
 ·subst z
  rw [ea] at eb
  cases eb
  rw [upd_same,if_pos rfl,iM]
  rfl
 ·rw [if_neg z,upd_ne (λ y=>z ?_)]
  ·exact t c b eb
  ·subst y
   have h1:=List.getElem?_eq_some_iff.mp ea
   have h2:=List.getElem?_eq_some_iff.mp eb
   exact (getElem_inj nd).mp (h1.2.trans h2.2.symm)
theorem Gk {K:PySem.W.Frag} {H H':Hp} {a:Addr} {xs:List V} (e:Same H H') (h:SqT K H a xs):SqT K H' a xs:=by
 rcases h with (h | ⟨o,h⟩) | h
 ·exact .inl (.inl (e _ _ h))
 ·exact .inl (.inr ⟨o,e _ _ h⟩)
 ·exact .inr h
theorem NmF.mono {H H1 H2:Hp} {nl:Addr} {ls:List Addr} {gs:List Gt} {i j:Nat} (e:Same H1 H2) (h:NmF H H1 nl ls gs i j):NmF H H2 nl ls gs i j:=by
 obtain ⟨h,l,t,n0,n1,nd,nn⟩:=h
 exact ⟨e _ _ h,l,λ c a ea=>e _ _ (t c a ea),n0,n1,nd,nn⟩
theorem NmF.next {H H1:Hp} {nl:Addr} {ls:List Addr} {gs:List Gt} {i j:Nat} (hj:(numsAt gs i).length≤j) (h:NmF H H1 nl ls gs i j):NmF H H1 nl ls gs (i + 1) 0:=by
 obtain ⟨h,l,t,n0,n1,nd,nn⟩:=h
 exact ⟨h,l,λ c a ea=>by rw [← AaI c hj]; exact t c a ea,n0,n1,nd,nn⟩
def Kx:Gt→Bool
 | .nt _=>true
 | .all _=>true
 | .som _=>true
 | _=>false
theorem AeL {G:Gt} {A B:Prop} (h1:Kx G = true→A) (h2:Kx G = false→B):if (if false = true then !inV (V.str G.word) [V.str "not", V.str "all", V.str "some"] else inV (V.str G.word) [V.str "not", V.str "all", V.str "some"]) = true then A else B:=by
 rw [show (if false = true then !inV (V.str G.word) [V.str "not", V.str "all", V.str "some"] else inV (V.str G.word) [V.str "not", V.str "all", V.str "some"]) = Kx G from by
  cases G with
  | start=>decide +kernel
  | mem k=>show (if false = true then !inV (V.str "memory") [V.str "not", V.str "all", V.str "some"] else inV (V.str "memory") [V.str "not", V.str "all", V.str "some"]) = false; decide +kernel
  | given k=>show (if false = true then !inV (V.str "given") [V.str "not", V.str "all", V.str "some"] else inV (V.str "given") [V.str "not", V.str "all", V.str "some"]) = false; decide +kernel
  | nt k=>show (if false = true then !inV (V.str "not") [V.str "not", V.str "all", V.str "some"] else inV (V.str "not") [V.str "not", V.str "all", V.str "some"]) = true; decide +kernel
  | all k=>show (if false = true then !inV (V.str "all") [V.str "not", V.str "all", V.str "some"] else inV (V.str "all") [V.str "not", V.str "all", V.str "some"]) = true; decide +kernel
  | som k=>show (if false = true then !inV (V.str "some") [V.str "not", V.str "all", V.str "some"] else inV (V.str "some") [V.str "not", V.str "all", V.str "some"]) = true; decide +kernel]
 cases e:Kx G with
 | true=>rw [if_pos rfl]; exact h1 e
 | false=>rw [if_neg Bool.false_ne_true]; exact h2 e
theorem U0 {G:Gt} (h:Kx G = true):G.args = G.nums.map Int.ofNat:=by cases G <;> first | rfl | cases h
theorem nm_none {G:Gt} (h:Kx G = false):G.nums = []:=by cases G <;> first | rfl | cases h
inductive T6 (K:PySem.W.Frag) (vs:List V) (H:Hp) (Q:VK):Prop
 | mk (gl:Addr) (gs:List Gt) (_:vs = [.ref gl]) (_:GsAt K H gl gs) (_:WfG gs) (_:gs.length≤16000) (_:(∀ i,i < gs.length→((List.range (i + 1)).map λ g=>(numsAt gs g).length).sum≤16000000)) (_:∀ (nl:Addr) (ls:List Addr) (H':Hp),Same H H'→NmF H H' nl ls gs gs.length 0→Q (.ref nl) H'):T6 K vs H Q
def AbS (K:PySem.W.Frag):Sp:=λ vs H Q _=>T6 K vs H Q
theorem Acg (F:A2 K mg "namers_of" ["gates"] Fh) (T:K0 K mg C aN):Aj P w K mg base 1 "namers_of" ["gates"] (AbS K):=by
 refine F.ok Ew (λ vs H Q E h=>?_) (λ f cdv A outer s H vs Q E hr h=>?_)
 ·obtain ⟨gl,gs,rfl,_⟩:=h; rfl
 obtain ⟨gl,gs,rfl,⟨vs,hgl,lv,gt⟩,wf,a7,hb,q⟩:=h
 refine ⟨_,(Ad (Ds (j:=1) (g:=(Bo 0)) (tc:=Cn) (te:=(Vd Ef)) ["gate"] [] Ew.nd rfl (Or.inl rfl) rfl (Bw (Ag Fh) ["gates", "namers", "number", "gate", "named"] (by decide +kernel)) (B9 (pv 0)) (λ s2 H2 fp cl C=>Aq (i:=0) (show Nodup [("gate" : Str)] from by decide +kernel) rfl (Or.inl rfl)) (Bf (by decide)) (λ s2 H2 fp cl C=>Cs) (λ s2 H2 fp cl C=>(Ax Ab)))
  (Ad (De PassesOwn.never rfl (Jm rfl T.n_enumerate (Aa (pv 0) Ab)) (C1 rfl (Bc (Aq (i:=2) Ew.nd rfl (Or.inl rfl)) (Bc (Aq (i:=3) Ew.nd rfl (Or.inl rfl)) Ch)))
   (Ae (Bg (Am Dr (Ak Ar (pv 3) Af (λ _ _=>rfl)) (Bx rfl T.m_NAMING_GATES T.r_NAMING_GATES) (by rfl))
   (Ae (De PassesOwn.never rfl (Hq (Ak Ar (pv 3) Af (λ _ _=>rfl))) (Aq (i:=4) Ew.nd rfl (Or.inl rfl))
   (Ae (A0 (Dt PySem.F.plainAttrs_list PySem.F.slot_list_append PySem.F.type_list_append B6 (Ak Be (pv 1) (pv 4) (λ _ _=>rfl)) (Aa (pv 2) Ab))))))
   A7)))
  (Ae (Au (pv 1))))),?_⟩
 refine ⟨_,Z,gl,Z,⟨_,hgl⟩,Ci (K:=K) (xs:=vs) (λ i ys H'=>Same H H'∧∃ ls:List Addr,ys = ls.map V.ref∧ls.length = i∧(∀ a∈ls,H a = none∧H' a = some (.lst []))∧ls.Nodup) ⟨Same.refl _,[],Z,Z,λ a h=>(by cases h),nodup_nil⟩ (by exact Hz (by omega)) (λ i ys H' h=>h.1.seq hgl) ?_ ?_⟩
 ·rintro j z ys H1 N hj ⟨g1,ls,rfl,ll,ha,nd⟩ hN a3
  refine ⟨zN0,λ l hl=>?_⟩
  have k:=Ac hl (.lst [])
  refine hN _ _ (by rw [iB,hZ,ll]; exact iX _) ⟨g1.trans k,ls ++ [l],by rw [iM]; rfl,by rw [iB,ll]; rfl,λ a h=>?_,?_⟩
  ·rcases iU.mp h with h | h
   ·exact ⟨(ha a h).1,k _ _ (ha a h).2⟩
   ·cases mS h
    exact ⟨g1.free hl,upd_same⟩
  ·refine nodup_append.mpr ⟨nd,by simp,λ a h b hb e=>?_⟩
   cases mS hb
   subst e
   have:=(ha a h).2
   rw [hl] at this
   cases this
 rintro ys H1 a3 ⟨g1,ls,rfl,ll,ha,nd⟩ nl a1
 have k1:=Ac a1 (.lst (ls.map V.ref))
 have en:=upd_same (H:=H1) (a:=nl) (o:=.lst (ls.map V.ref))
 have g2:=g1.trans k1
 have N0:NmF H (upd H1 nl (.lst (ls.map V.ref))) nl ls gs 0 0:=⟨en,by omega,λ c a ea=>by rw [AaN]; exact k1 _ _ (ha a (iN ea)).2,g1.free a1,λ a h=>(ha a h).1,nd,λ z=>by have:=(ha nl z).2; rw [a1] at this; cases this⟩
 generalize (upd H1 nl (.lst (ls.map V.ref))) = H2 at g2 N0
 refine ⟨_,Z,gl,Z,⟨_,g2.seq hgl⟩,Mo (K:=K) (l:=gl) (xs:=vs) (λ i σ H'=>∃ (x2 x3 x4:Option V),σ = [some (.ref gl),some (.ref nl),x2,x3,x4]∧Same H H'∧NmF H H' nl ls gs i 0) ⟨none,none,none,Z,g2,N0⟩ (λ i σ H' _ h=>by obtain ⟨_,_,_,_,g,_⟩:=h; exact g.seq hgl) ?_ ?_⟩
 ·rintro i v t σ H3 hi ⟨x2,x3,x4,rfl,g3,N3⟩ ht
  have il:i < gs.length:=by rw [← lv]; exact (List.getElem?_eq_some_iff.mp hi).1
  obtain ⟨G,hG⟩:∃ G,gs[i]? = some G:=⟨_,hX il⟩
  have ng:numsAt gs i = G.nums:=by unfold numsAt; rw [hG]; rfl
  obtain ⟨a,b,rfl,h1,h2⟩:=gt i v G hi hG
  have k4:=Ac ht (.tup [.int (i:Nat),.ref a])
  have et:=upd_same (H:=H3) (a:=t) (o:=.tup [.int (i:Nat),.ref a])
  have g4:=g3.trans k4
  have N4:=N3.mono k4
  generalize (upd H3 t (.tup [.int (i:Nat),.ref a])) = H4 at et g4 N4
  refine ⟨t,_,Z,SqT.of et,Z,_,_,Z,_,_,Z,Z,?_⟩
  refine ⟨_,Z,a,_,_,_,Z,Z,Gk g4 h1,Ah (j:=0) rfl,aN,_,Z,.inr (.inr T.mN),Z,Z,_,Z,AeL (λ z=>?_) λ z=>?_⟩
  ·have ea:=U0 z
   rw [ea] at h2
   refine ⟨_,Z,a,_,_,_,Z,Z,Gk g4 h1,Ah (j:=1) rfl,b,Z,⟨_,Gk g4 h2⟩,Lf (K:=K) (a:=b) (xs:=(G.nums.map Int.ofNat).map V.int) (λ j σ H'=>∃ (x4:Option V),σ = [some (.ref gl),some (.ref nl),some (.int (i:Nat)),some (.ref a),x4]∧Same H H'∧NmF H H' nl ls gs i j) ⟨_,Z,g4,N4⟩ (λ j σ H' _ h=>by obtain ⟨_,_,g,_⟩:=h; exact Gk g h2) ?_ ?_⟩
   ·rintro j y σ H5 hj ⟨x4,rfl,g5,N5⟩
    rw [map_map,iH] at hj
    cases ej:G.nums[j]? with
    | none=>rw [ej] at hj; cases hj
    | some d =>
     rw [ej] at hj
     cases hj
     obtain ⟨a5,l5,t5,m0,m1,a8,a6⟩:=id N5
     have dl:=wf i G hG d (iN ej)
     obtain ⟨c,ec⟩:∃ c,ls[d]? = some c:=⟨_,hX (by omega)⟩
     have a2:=t5 d c ec
     have a4:(ls.map V.ref)[d]? = some (.ref c):=by rw [iH,ec]; rfl
     have pl:=iW (Abj gs i j d) (hb i il)
     refine ⟨_,Z,_,Z,nl,_,_,_,Z,Z,SqL.of a5,Ah a4,.inl ⟨Z,_,SqL.of a2⟩,_,Z,c,_,_,Z,Z,a2,by rw [hZ]; exact Ua (by omega),?_⟩
     exact ⟨_,Z,g5.young (m1 c (iN ec)) _,N5.put (by rw [ng]; exact ej) ec⟩
   ·rintro σ H5 ⟨x4,rfl,g5,N5⟩
    exact ⟨_,_,_,Z,g5,N5.next (by rw [ng,hZ,hZ]; exact iX _)⟩
  ·exact ⟨_,_,_,Z,g4,N4.next (by rw [ng,nm_none z]; exact iX _)⟩
 ·rintro σ H3 ⟨x2,x3,x4,rfl,g3,N3⟩
  rw [lv] at N3
  exact ⟨_,Z,q nl ls H3 g3 N3⟩
theorem Acc (n:Nat):(List.replicate n [V.non]).flatten = (List.replicate n (none:Option Bool)).map vO:=by
 induction n with
 | zero=>rfl
 | succ n ih=>rw [replicate_succ,flatten_cons,ih,replicate_succ]; rfl
theorem Uz {K:PySem.W.Frag} {o a C dx:Addr} {fs:List (Str× V)} {H H':Hp} {xs:List V} (k:Kp o H H') (ho:H o = some (.ins C dx fs)) (h:SqT K H a xs):SqT K H' a xs:=by
 rcases h with (h | ⟨z,h⟩) | h
 ·exact .inl (.inl (k _ _ (λ e=>by rw [e,ho] at h; cases h) h))
 ·exact .inl (.inr ⟨z,k _ _ (λ e=>by rw [e,ho] at h; cases h) h⟩)
 ·exact .inr h
theorem AbW {K:PySem.W.Frag} {o a C dx:Addr} {fs:List (Str× V)} {H H':Hp} {xs:List V} (k:Kp o H H') (ho:H o = some (.ins C dx fs)) (h:SqL K H a xs):SqL K H' a xs:=by
 rcases h with (h | ⟨z,h⟩) | h
 ·exact .inl (.inl (k _ _ (λ e=>by rw [e,ho] at h; cases h) h))
 ·exact .inl (.inr ⟨z,k _ _ (λ e=>by rw [e,ho] at h; cases h) h⟩)
 ·exact .inr h
theorem GsAt.kpo {K:PySem.W.Frag} {o gl C dx:Addr} {fs:List (Str× V)} {H H':Hp} {gs:List Gt} (k:Kp o H H') (ho:H o = some (.ins C dx fs)) (h:GsAt K H gl gs):GsAt K H' gl gs:=by
 obtain ⟨vs,h,l,g⟩:=h
 exact ⟨vs,AbW k ho h,l,λ i v G e1 e2=>by obtain ⟨a,b,e,h1,h2⟩:=g i v G e1 e2; exact ⟨a,b,e,Uz k ho h1,Uz k ho h2⟩⟩
theorem GsAt.same {K:PySem.W.Frag} {gl:Addr} {H H':Hp} {gs:List Gt} (k:Same H H') (h:GsAt K H gl gs):GsAt K H' gl gs:=by
 obtain ⟨vs,h,l,g⟩:=h
 exact ⟨vs,k.seq h,l,λ i v G e1 e2=>by obtain ⟨a,b,e,h1,h2⟩:=g i v G e1 e2; exact ⟨a,b,e,Gk k h1,Gk k h2⟩⟩
structure SmG (gs:List Gt):Prop where
 wf:WfG gs
 len:gs.length≤16000
 sum:∀ i,i < gs.length→((List.range (i + 1)).map λ g=>(numsAt gs g).length).sum≤16000000
def uns (gs:List Gt):List Int:=gs.map λ G=>(G.args.length:Int)
inductive AbK (C:Addr) (H:Hp) (o gl:Addr) (gs:List Gt) (H':Hp):Prop
 | mk (kl ol nl ul:Addr) (k:Kp o H H') (S:C8 C H' o gl kl ol nl ul (List.replicate gs.length none) [] (uns gs)) (N:Kc H' nl gs [kl,ol,ul]) (ng:gl∉[kl,ol,ul]) (f:∀ r∈[kl,ol,ul],H r = none):AbK C H o gl gs H'
inductive Q2 (K:PySem.W.Frag) (C:Addr) (vs:List V) (H:Hp) (Q:VK):Prop
 | mk (o dx gl:Addr) (gs:List Gt) (xs:List V) (_:vs = [.ref o,.ref gl]) (_:H o = some (.ins C dx [])) (_:GsAt K H gl gs) (_:H gl = some (.lst xs)) (_:SmG gs) (_:∀ H',AbK C H o gl gs H'→Q .non H'):Q2 K C vs H Q
def Xl (K:PySem.W.Frag) (C:Addr):Sp:=λ vs H Q _=>Q2 K C vs H Q
theorem Abr {f:Addr} {fd:FuncData} (F:Fun K "__init__" "Settler.__init__" Il f fd) (T:K0 K mg C aN) (dW:Aj P w K mg base 1 "namers_of" ["gates"] (AbS K)):Bl P w K mg base CX0 2 f fd ["self", "gates"] (Xl K C):=by
 refine F.ok X4 (λ vs H Q E h=>?_) (λ cdv A outer s H vs Q E hr h=>?_)
 ·obtain ⟨o,dx,gl,gs,xs,rfl,_⟩:=h; rfl
 obtain ⟨o,dx,gl,gs,xs,rfl,ho,G0,hgl,sm,q⟩:=h
 refine ⟨_,(Ad (Br (pv 0) (pv 1) rfl)
  (Ad (Br (pv 0) (A8 Ac7 (Ax (Aa B3 Ab)) (Bs B4 rfl T.n_len PySem.boot_len (Aa (pv 1) Ab))) rfl)
  (Ad (Br (pv 0) (Ax Ab) rfl)
  (Ad (Br (pv 0) (Av dW hr rfl Ai (Aa (pv 1) Ab)) rfl)
  (Ae (Br (pv 0) (Cb (g:=(Bo 0)) (tc:=Cn) (te:=(tCB (AdP K) (C6 (tOp (Fo K) (Bh 0) (tC (.int 1))) Ef))) ["gate"] [] rfl (Bw (Ag Il) ["self", "gates"] (by decide +kernel)) (B9 (pv 1)) (λ s2 H2 fp cl C=>Aq (i:=0) (show Nodup [("gate" : Str)] from by decide +kernel) rfl (Or.inl rfl)) (Bf (by decide)) (λ s2 H2 fp cl C=>Cs) (λ s2 H2 fp cl C=>(Bs B4 rfl T.n_len PySem.boot_len (Aa (Ak Ar (pv 0) Af (λ _ _=>rfl)) Ab)))) rfl)))))),?_⟩
 have b2:gl≠o:=λ e=>by rw [e,ho] at hgl; cases hgl
 refine ⟨_,Z,_,Z,o,C,dx,[],Z,ho,T.cl,T.nG,(by show 0 < 1000; decide),?_⟩
 have ka:Kp o H (upd H o (.ins C dx (A5 "gates" (.ref gl) []))):=Kp.upd
 have b8:=upd_same (H:=H) (a:=o) (o:=.ins C dx (A5 "gates" (.ref gl) []))
 have G1:=G0.kpo ka ho
 have a5:=ka _ _ b2 hgl
 generalize (upd H o (.ins C dx (A5 "gates" (.ref gl) []))) = H1 at ka b8 G1 a5
 obtain ⟨f4,f9,g3,_⟩:=id G1
 refine ⟨zN1,λ l0 f3=>?_⟩
 have kb:=Ac f3 (.lst [V.non])
 refine ⟨_,Z,gl,f4,Z,.inl (kb.seq f9),l0,_,_,Z,Z,upd_same,by have:=sm.len; omega,by have:=sm.len; omega,by have:=sm.len; show 1 * _≤_; rw [Nat.one_mul,Int.toNat_natCast]; exact Hz (by omega),λ kl e6=>?_⟩
 rw [Int.toNat_natCast,Acc,g3]
 have kc:=Ac e6 (.lst ((List.replicate gs.length (none:Option Bool)).map vO))
 have d4:=upd_same (H:=upd H1 l0 (.lst [V.non])) (a:=kl) (o:=.lst ((List.replicate gs.length (none:Option Bool)).map vO))
 have a2:=kb.trans kc
 have b9:=kb.free e6
 generalize (upd (upd H1 l0 (.lst [V.non])) kl (.lst ((List.replicate gs.length (none:Option Bool)).map vO))) = H2 at a2 d4
 have d5:=a2 _ _ b8
 refine ⟨_,Z,o,C,dx,_,Z,d5,T.cl,T.nK,(by show 1 < 1000; decide),?_⟩
 have kd:Kp o H2 (upd H2 o (.ins C dx (A5 "known" (.ref kl) (A5 "gates" (.ref gl) [])))):=Kp.upd
 have c8:=upd_same (H:=H2) (a:=o) (o:=.ins C dx (A5 "known" (.ref kl) (A5 "gates" (.ref gl) [])))
 have a4:kl≠o:=(ne_of_none b8 b9).symm
 have c6:=kd _ _ a4 d4
 have G3:=(G1.same a2).kpo kd d5
 have a6:=kd _ _ b2 (a2 _ _ a5)
 have c5:Kp o H (upd H2 o (.ins C dx (A5 "known" (.ref kl) (A5 "gates" (.ref gl) [])))):=ka.trans ((Same.kp a2).trans kd)
 generalize (upd H2 o (.ins C dx (A5 "known" (.ref kl) (A5 "gates" (.ref gl) [])))) = H3 at c8 c6 G3 a6 c5
 refine ⟨zN0,λ ol hol=>?_⟩
 have ke:=Ac hol (.lst [])
 have d6:=upd_same (H:=H3) (a:=ol) (o:=.lst [])
 have a9:ol≠o:=(ne_of_none c8 hol).symm
 have g7:kl≠ol:=ne_of_none c6 hol
 have f0:gl≠ol:=ne_of_none a6 hol
 have f2:gl≠kl:=ne_of_none a5 b9
 generalize (upd H3 ol (.lst [])) = H4 at ke d6
 have e9:=ke _ _ c8
 refine ⟨_,Z,o,C,dx,_,Z,e9,T.cl,T.nO,(by show 2 < 1000; decide),?_⟩
 have kf:Kp o H4 (upd H4 o (.ins C dx (A5 "order" (.ref ol) (A5 "known" (.ref kl) (A5 "gates" (.ref gl) []))))):=Kp.upd
 have a7:=upd_same (H:=H4) (a:=o) (o:=.ins C dx (A5 "order" (.ref ol) (A5 "known" (.ref kl) (A5 "gates" (.ref gl) []))))
 have b1:=kf _ _ a4 (ke _ _ c6)
 have a8:=kf _ _ a9 d6
 have G5:=(G3.same ke).kpo kf e9
 have b4:=kf _ _ b2 (ke _ _ a6)
 have d9:Kp o H (upd H4 o (.ins C dx (A5 "order" (.ref ol) (A5 "known" (.ref kl) (A5 "gates" (.ref gl) []))))):=c5.trans ((Same.kp ke).trans kf)
 generalize (upd H4 o (.ins C dx (A5 "order" (.ref ol) (A5 "known" (.ref kl) (A5 "gates" (.ref gl) []))))) = H5 at a7 b1 a8 G5 b4 d9
 refine ⟨_,Z,gl,gs,Z,G5,sm.wf,sm.len,sm.sum,λ nl ls H6 g6 N6=>?_⟩
 have e8:=g6 _ _ a7
 refine ⟨_,Z,o,C,dx,_,Z,e8,T.cl,T.nN,(by show 3 < 1000; decide),?_⟩
 have kg:Kp o H6 (upd H6 o (.ins C dx (A5 "namers" (.ref nl) (A5 "order" (.ref ol) (A5 "known" (.ref kl) (A5 "gates" (.ref gl) [])))))):=Kp.upd
 have c9:=upd_same (H:=H6) (a:=o) (o:=.ins C dx (A5 "namers" (.ref nl) (A5 "order" (.ref ol) (A5 "known" (.ref kl) (A5 "gates" (.ref gl) [])))))
 have b6:=kg _ _ a4 (g6 _ _ b1)
 have b7:=kg _ _ a9 (g6 _ _ a8)
 have G7:=(G5.same g6).kpo kg e8
 have b3:=kg _ _ b2 (g6 _ _ b4)
 have c7:Kp o H (upd H6 o (.ins C dx (A5 "namers" (.ref nl) (A5 "order" (.ref ol) (A5 "known" (.ref kl) (A5 "gates" (.ref gl) [])))))):=d9.trans ((Same.kp g6).trans kg)
 generalize (upd H6 o (.ins C dx (A5 "namers" (.ref nl) (A5 "order" (.ref ol) (A5 "known" (.ref kl) (A5 "gates" (.ref gl) [])))))) = H7 at c9 b6 b7 G7 b3 c7 kg
 obtain ⟨d7,ll,tt,n0,n1,nd,nn⟩:=N6
 have b5:nl≠o:=(ne_of_none a7 n0).symm
 have d8:∀ a∈ls,a≠o:=λ a h=>(ne_of_none a7 (n1 a h)).symm
 obtain ⟨g2,e7,g4,f5⟩:=id G7
 refine ⟨_,Z,gl,Z,⟨_,e7⟩,Ci (K:=K) (xs:=g2) (λ i ys H'=>H' = H7∧ys = (uns (gs.take i)).map V.int) ⟨Z,Z⟩ (Hz (by have:=sm.len; omega)) (λ i ys H' h=>by rw [h.1]; exact e7) ?_ ?_⟩
 ·rintro j z ys H' M hj ⟨rfl,rfl⟩ hN d2
  have jl:j < gs.length:=by rw [← g4]; exact (List.getElem?_eq_some_iff.mp hj).1
  obtain ⟨G,hG⟩:∃ G,gs[j]? = some G:=⟨_,hX jl⟩
  obtain ⟨a,b,rfl,h1,h2⟩:=f5 j z G hj hG
  refine ⟨_,Z,a,_,_,_,Z,Z,h1,Ah (j:=1) rfl,b,_,Z,.inr h2,hN _ _ ?_ ⟨Z,?_⟩⟩
  ·rw [iB,iD]; exact succ_le_succ d2
  ·unfold uns; rw [take_add_one,hG,iM,iM,hZ]; rfl
 ·rintro ys H' d2 ⟨rfl,rfl⟩ ul a1
  rw [iP (by omega)]
  have kh:=Ac a1 (.lst ((uns gs).map V.int))
  have d3:=upd_same (H:=H') (a:=ul) (o:=.lst ((uns gs).map V.int))
  have e4:ul≠o:=(ne_of_none c9 a1).symm
  have f8:kl≠ul:=ne_of_none b6 a1
  have f6:ol≠ul:=ne_of_none b7 a1
  have g0:nl≠ul:=ne_of_none (kg _ _ b5 d7) a1
  have f1:gl≠ul:=ne_of_none b3 a1
  have e0:∀ (c:Nat) a,ls[c]? = some a→H' a = some (.lst ((namers gs c).map λ n=>V.int (n:Nat))):=λ c a e=>by
   have:=kg _ _ (d8 a (iN e)) (tt c a e)
   rw [AcM] at this
   exact this
  generalize (upd H' ul (.lst ((uns gs).map V.int))) = H8 at kh d3
  have f7:=kh _ _ c9
  refine ⟨_,Z,o,C,dx,_,Z,f7,T.cl,T.nU,(by show 4 < 1000; decide),?_⟩
  have ki:Kp o H8 (upd H8 o (.ins C dx (A5 "unheard" (.ref ul) (A5 "namers" (.ref nl) (A5 "order" (.ref ol) (A5 "known" (.ref kl) (A5 "gates" (.ref gl) []))))))):=Kp.upd
  have g1:=upd_same (H:=H8) (a:=o) (o:=.ins C dx (A5 "unheard" (.ref ul) (A5 "namers" (.ref nl) (A5 "order" (.ref ol) (A5 "known" (.ref kl) (A5 "gates" (.ref gl) []))))))
  have a3:Kp o H' (upd H8 o (.ins C dx (A5 "unheard" (.ref ul) (A5 "namers" (.ref nl) (A5 "order" (.ref ol) (A5 "known" (.ref kl) (A5 "gates" (.ref gl) []))))))):=(Same.kp kh).trans ki
  refine q _ ⟨kl,ol,nl,ul,c7.trans a3,⟨dx,g1,a3 _ _ a4 b6,⟨[],a3 _ _ a9 b7,Z,λ i a g v z=>(by cases z)⟩,ki _ _ e4 d3,g7,f8,f6⟩,⟨ls,a3 _ _ b5 (kg _ _ b5 d7),ll,λ c a e=>⟨a3 _ _ (d8 a (iN e)) (e0 c a e),?_⟩,?_⟩,?_,?_⟩
  ·have am:=iN e
   simp only [jK,jH,or_false,not_or]
   exact ⟨(ne_of_none b1 (n1 a am)).symm,(ne_of_none a8 (n1 a am)).symm,ne_of_none (e0 c a e) a1⟩
  ·simp only [jK,jH,or_false,not_or]
   exact ⟨(ne_of_none b1 n0).symm,(ne_of_none a8 n0).symm,g0⟩
  ·simp only [jK,jH,or_false,not_or]
   exact ⟨f2,f0,f1⟩
  ·intro r e5
   simp only [jK,jH,or_false] at e5
   have fr:∀ (r:Addr) (Hx:Hp),r≠o→Kp o H Hx→Hx r = none→H r = none:=λ r Hx g5 k hx=>by
    cases e:H r with
    | none=>rfl
    | some y=>rw [k _ _ g5 e] at hx; cases hx
   rcases e5 with rfl | rfl | rfl
   ·exact fr _ _ a4 ka b9
   ·exact fr _ _ a9 c5 hol
   ·exact fr _ _ e4 c7 a1
def StG (K:PySem.W.Frag) (H:Hp):Option (List Int)→V→Prop
 | none,v=>v = .non
 | some ns,v=>∃ a,v = .ref a∧SqL K H a (ns.map V.int)
theorem Di {K:PySem.W.Frag} {H H':Hp} (g:Same H H') {st:Option (List Int)} {v:V} (h:StG K H st v):StG K H' st v:=by
 cases st with
 | none=>exact h
 | some l=>obtain ⟨a,e,s⟩:=h; exact ⟨a,e,g.seq s⟩
theorem Uv {K:PySem.W.Frag} {H:Hp} {st:Option (List Int)} {v:V} (h:StG K H st v):decide (v = .non) = st.isNone:=by
 cases st with
 | none=>cases h; exact iI rfl
 | some l=>obtain ⟨a,e,s⟩:=h; subst e; exact iJ (λ z=>by cases z)
theorem AcT {K:PySem.W.Frag} {j:Nat} {σ:St} {H:Hp} {Q:VK} {sv:V} {st:Option (List Int)} (hj:σ[j]? = some (some sv)) (a1:StG K H st sv) (h:∀ (e:Addr) (H2:Hp),Same H H2→SqL K H2 e ((st.getD []).map V.int)→Q (.ref e) H2):Ack K (Bh j) (Vd Ef) σ H Q:=by
 cases st with
 | none =>
  cases a1
  exact ⟨_,hj,.inl ⟨Z,zN0,λ e he=>h e _ (Ac he _) (SqL.of upd_same)⟩⟩
 | some l =>
  obtain ⟨a,rfl,hS⟩:=a1
  refine ⟨_,hj,.inr ⟨a,_,Z,hS,λ z=>⟨zN0,λ e he=>h e _ (Ac he _) ?_⟩,λ _=>h a _ (Same.refl _) hS⟩⟩
  show SqL K _ e (l.map V.int)
  rw [z]
  exact SqL.of upd_same
theorem Zj (n:Int):∀ (l:List Int) (a1:List (Key× V)),(Cm (Bv a1 (l.map λ n=>((Sum.inl n:Key),V.bl true))) (Sum.inl n)).isSome = ((Cm a1 (Sum.inl n)).isSome || decide (n∈l))
 | [],a1=>by show (Cm a1 (Sum.inl n)).isSome = _; simp
 | x :: l,a1=>by
  show (Cm (Bv (Dl a1 (Sum.inl x) (V.bl true)) (l.map λ n=>((Sum.inl n:Key),V.bl true))) (Sum.inl n)).isSome = _
  rw [Zj n l,AaH]
  by_cases c:n = x
  ·subst c; simp
  ·rw [if_neg (λ z=>c (Sum.inl.inj z))]; simp [c]
theorem AbR (l:List Int) (n:Int):(Cm (Bv [] (l.map λ n=>((Sum.inl n:Key),V.bl true))) (Sum.inl n)).isSome = decide (n∈l):=by rw [Zj]; rfl
theorem Hy.kp {rs:List Addr} {H H':Hp} {d:Addr} {l:List Int} (k:KpL rs H H') (ap:Apt rs H) (h:Hy H d l):Hy H' d l:=by
 obtain ⟨kvs,h,e⟩:=h
 exact ⟨kvs,k _ _ (λ z=>by obtain ⟨ys,e⟩:=ap.of _ z; rw [h] at e; cases e) h,e⟩
theorem Hy.same {H H':Hp} {d:Addr} {l:List Int} (k:Same H H') (h:Hy H d l):Hy H' d l:=by
 obtain ⟨kvs,h,e⟩:=h
 exact ⟨kvs,k _ _ h,e⟩
theorem C8.same {C:Addr} {H H':Hp} {o gl kl ol nl ul:Addr} {k:List (Option Bool)} {ord:List (Nat× Bool)} {u:List Int} (g:Same H H') (S:C8 C H o gl kl ol nl ul k ord u):C8 C H' o gl kl ol nl ul k ord u:=by
 obtain ⟨dx,ho,hk,⟨ts,hol,tl,tt⟩,hu,n1,n2,n3⟩:=S
 exact ⟨dx,g _ _ ho,g _ _ hk,⟨ts,g _ _ hol,tl,λ i a c v e1 e2=>g _ _ (tt i a c v e1 e2)⟩,g _ _ hu,n1,n2,n3⟩
theorem Kc.same {H H':Hp} {nl:Addr} {gs:List Gt} {rs:List Addr} (g:Same H H') (h:Kc H nl gs rs):Kc H' nl gs rs:=by
 obtain ⟨ls,h,l,t,n⟩:=h
 exact ⟨ls,g _ _ h,l,λ i a e=>⟨g _ _ (t i a e).1,(t i a e).2⟩,n⟩
theorem Fs.len {gs:List Gt} {st:Option (List Int)} {co:List Int} {k:Kn} {ord:List (Nat× Bool)} {i:Nat} (h:Fs gs st co k ord i):ord.length≤gs.length:=by
 have:=Ru gs.length (ord.map Prod.fst) h.nd λ x hx=>by
  obtain ⟨⟨g,v⟩,hp,rfl⟩:=jS.mp hx
  obtain ⟨G,hG,_⟩:=h.der.told g v ((h.mem g v).mpr hp)
  exact (List.getElem?_eq_some_iff.mp hG).1
 rw [hZ] at this
 exact this
theorem Adq {gs:List Gt} (g:Nat) (h:¬ numsAt gs g = []):uF (uns gs) g = ((numsAt gs g).length:Int):=by
 unfold uF uns
 unfold numsAt at h ⊢
 rw [iH]
 cases e:gs[g]? with
 | none=>rw [e] at h; exact absurd rfl h
 | some G =>
  rw [e] at h
  show (G.args.length:Int) = (G.nums.length:Int)
  rw [Xh (.inl h),hZ]
theorem KpL.sub {rs a1:List Addr} {H H':Hp} (h:∀ r∈rs,r∈a1) (k:KpL rs H H'):KpL a1 H H':=λ b o n e=>k b o (λ z=>n (h b z)) e
theorem Same.byKpL {rs:List Addr} {H H1 H2:Hp} (g:Same H H1) (f:∀ r∈rs,H r = none) (k:KpL rs H1 H2):Same H H2:=λ b x hb=>k b x (λ z=>by rw [f b z] at hb; cases hb) (g b x hb)
theorem Ux (n:Nat):knL (List.replicate n (none:Option Bool)) = λ _=>none:=by
 funext i
 unfold knL
 by_cases c:i < n
 ·rw [List.getElem?_replicate_of_lt c]; rfl
 ·rw [getElem?_eq_none (by rw [iQ]; omega)]; rfl
inductive AdK (K:PySem.W.Frag) (C:Addr) (H:Hp) (gs:List Gt) (st:Option (List Int)) (co:List Int) (o:Addr) (H':Hp):Prop
 | mk (gl kl ol nl ul:Addr) (k:List (Option Bool)) (ord:List (Nat× Bool)) (u:List Int) (g:Same H H') (S:C8 C H' o gl kl ol nl ul k ord u) (lk:k.length = gs.length) (m:Nat) (hm:ord.length≤m) (W:Wl gs st co (knL k) ord m [] (uF u)):AdK K C H gs st co o H'
inductive Qm (K:PySem.W.Frag) (H:Hp) (nt:Addr) (gs:List Gt):Prop
 | mk (gl:Addr) (rest xs:List V) (h:SqT K H nt (.ref gl :: rest)) (G:GsAt K H gl gs) (hgl:H gl = some (.lst xs)) (sm:SmG gs):Qm K H nt gs
structure AaG (K:PySem.W.Frag) (H:Hp) (sv:V) (cl:Addr) (st:Option (List Int)) (co:List Int):Prop where
 hs:StG K H st sv
 ls:(st.getD []).length≤900
 hc:SqL K H cl (co.map V.int)
 lc:co.length≤900
inductive Uq (K:PySem.W.Frag) (C:Addr) (vs:List V) (H:Hp) (Q:VK):Prop
 | mk (nt cl:Addr) (sv:V) (gs:List Gt) (st:Option (List Int)) (co:List Int) (_:vs = [.ref nt,sv,.ref cl]) (_:Qm K H nt gs) (_:AaG K H sv cl st co) (_:∀ (o:Addr) (H':Hp),AdK K C H gs st co o H'→Q (.ref o) H'):Uq K C vs H Q
def AbU (K:PySem.W.Frag) (C:Addr):Sp:=λ vs H Q _=>Uq K C vs H Q
theorem AdG {fI:Addr} {e0:FuncData} (F:A2 K mg "gates_settled" ["net", "state", "coming"] Cu) (T:K0 K mg C aN) (f4:Mk K C fI) (GI:Bl P w K mg base CX0 2 fI e0 ["self", "gates"] (Xl K C)) (bI:Bi K e0 ["self", "gates"] []) (bB:A4 P w K mg base 1 C "learn" ["self", "gate", "value"] (Lv C)) (fQ:A4 P w K mg base 3 C "hand_on" ["self", "step"] (Rs K C)) (bF:Aj P w K mg base 1 "value_at_first" ["gate", "starts", "rests", "signs"] (AbQ K)):Aj P w K mg base 4 "gates_settled" ["net", "state", "coming"] (AbU K C):=by
 refine F.ok B7 (λ vs H Q E h=>?_) (λ f cdv A outer s H vs Q E hr h=>?_)
 ·obtain ⟨nt,cl,sv,gs,st,co,rfl,_⟩:=h; rfl
 obtain ⟨nt,cl,sv,gs,st,co,rfl,⟨gl,rest,xs,d6,G0,hgl,sm⟩,⟨e6,lst,g7,h6⟩,q⟩:=h
 refine ⟨_,(Ad (Aw (i:=3) B7.nd rfl (Or.inl rfl) (Lh f4 GI (hr.mono (by decide)) rfl T.m_Settler bI .nil Ai (Aa (Ak Ar (pv 0) Af (λ _ _=>rfl)) Ab)))
  (Ad (Aw (i:=4) B7.nd rfl (Or.inl rfl) (Bu (Nr rfl) rfl T.n_dict (by decide +kernel) (Aa (Cb (g:=(Bo 0)) (tc:=Cn) (te:=(Mp (C6 (Bh 0) (C6 (tC (.bl true)) Ef)))) ["rest"] [] rfl (Bw (Ag Cu) ["net", "state", "coming", "settler", "rests", "signs", "number", "gate", "heard"] (by decide +kernel)) (B9 (AdO (pv 1) (Q5 (Ax Ab)))) (λ s2 H2 fp cl C=>Aq (i:=0) (show Nodup [("rest" : Str)] from by decide +kernel) rfl (Or.inl rfl)) (Bf (by decide)) (λ s2 H2 fp cl C=>Cs) (λ s2 H2 fp cl C=>(A3 (Aa (pv 0) (Aa Ct Ab))))) Ab)))
  (Ad (Aw (i:=5) B7.nd rfl (Or.inl rfl) (Bu (Nr rfl) rfl T.n_dict (by decide +kernel) (Aa (Cb (g:=(Bo 0)) (tc:=Cn) (te:=(Mp (C6 (Bh 0) (C6 (tC (.bl true)) Ef)))) ["sign"] [] rfl (Bw (Ag Cu) ["net", "state", "coming", "settler", "rests", "signs", "number", "gate", "heard"] (by decide +kernel)) (B9 (pv 2)) (λ s2 H2 fp cl C=>Aq (i:=0) (show Nodup [("sign" : Str)] from by decide +kernel) rfl (Or.inl rfl)) (Bf (by decide)) (λ s2 H2 fp cl C=>Cs) (λ s2 H2 fp cl C=>(A3 (Aa (pv 0) (Aa Ct Ab))))) Ab)))
  (Ad (De PassesOwn.never rfl (Jm rfl T.n_enumerate (Aa (Ak Ar (pv 0) Af (λ _ _=>rfl)) Ab)) (C1 rfl (Bc (Aq (i:=6) B7.nd rfl (Or.inl rfl)) (Bc (Aq (i:=7) B7.nd rfl (Or.inl rfl)) Ch)))
   (Ae (A0 (An bB hr Ai (pv 3) (Aa (pv 6) (Aa (Av bF hr rfl Ai (Aa (pv 7) (Aa (Dp Ky (pv 1) B3 (Ap _)) (Aa (pv 4) (Aa (pv 5) Ab))))) Ab))))))
  (Ad (Aw (i:=8) B7.nd rfl (Or.inl rfl) Af)
  (Ad (J1 PassesOwn.never (Am Li (pv 8) (Bs B4 rfl T.n_len PySem.boot_len (Aa (Al (pv 3) rfl) Ab)) (Ap _))
   (Ad (A0 (An fQ hr Ai (pv 3) (Aa (Ak Be (Al (pv 3) rfl) (pv 8) (λ _ _=>rfl)) Ab)))
  (Ae (Aw (i:=8) B7.nd rfl (Or.inl rfl) (A8 F5 (pv 8) Af)))))
  (Ae (Au (pv 3))))))))),?_⟩
 have g4:=sm.len
 refine ⟨_,Z,nt,_,_,_,Z,Z,d6,Ah (j:=0) rfl,λ o dx ho g8 ne=>?_⟩
 have ga:Same H (upd (upd H dx (.own o)) o (.ins C dx [])):=(Ac g8 _).trans (Ac (by rw [upd_ne ne.symm]; exact ho) _)
 refine ⟨o,dx,gl,gs,xs,Z,upd_same,G0.same ga,ga _ _ hgl,sm,λ H1 I=>⟨Z,?_⟩⟩
 obtain ⟨kl,ol,nl,ul,k1,S,N,ng,fr⟩:=I
 have g1:Same H H1:=ga.byKp ho k1
 have g6:∀ r∈[kl,ol,ul],H r = none:=λ r hr=>ga.free (fr r hr)
 clear k1 fr ga
 refine AcT rfl (Di g1 e6) λ e H2 g2 hS=>?_
 refine ⟨e,Z,⟨_,hS⟩,Ci (K:=K) (xs:=(st.getD []).map V.int) (λ i ys H'=>Same H2 H'∧∃ ts:List Addr,ys = ts.map V.ref∧ts.length = i∧∀ (n:Nat) t z,ts[n]? = some t→(st.getD [])[n]? = some z→H' t = some (.tup [.int z,.bl true])) ⟨Same.refl _,[],Z,Z,λ n t z h=>(by cases h)⟩ (by rw [hZ]; exact Hz (by omega)) (λ i ys H' h=>h.1.seq hS) ?_ ?_⟩
 ·rintro j z ys H' M hj ⟨g',ts,rfl,tl,tt⟩ hN c5
  rw [iH] at hj
  cases ej:(st.getD [])[j]? with
  | none=>rw [ej] at hj; cases hj
  | some c =>
   rw [ej] at hj
   cases hj
   refine ⟨_,Z,zN2,λ t ht=>?_⟩
   have k':=Ac ht (.tup [.int c,.bl true])
   refine hN _ _ (by rw [iB,iD]; exact succ_le_succ c5) ⟨g'.trans k',ts ++ [t],by rw [iM]; rfl,by rw [iB,tl]; rfl,λ n t' z' e1 e2=>?_⟩
   by_cases c1:n < ts.length
   ·rw [iR c1] at e1
    exact k' _ _ (tt n t' z' e1 e2)
   ·have nj:n = j:=by
     have:=(List.getElem?_eq_some_iff.mp e1).1
     rw [iB,iD] at this
     omega
    subst nj
    rw [← tl,List.getElem?_concat_length] at e1
    cases e1
    rw [ej] at e2
    cases e2
    exact upd_same
 rintro ys H3 c5 ⟨g3,ts,rfl,tl,tt⟩ D hD
 have k3:=Ac hD (.lst (ts.map V.ref))
 refine ⟨D,ts,(st.getD []).map λ n=>((Sum.inl n:Key),V.bl true),Z,SqL.of upd_same,by rw [hZ]; rw [hZ] at tl; exact tl,λ n t ky vl e1 e2=>?_,λ rd f8=>?_⟩
 ·rw [iH] at e2
  cases ez:(st.getD [])[n]? with
  | none=>rw [ez] at e2; cases e2
  | some z =>
   rw [ez] at e2
   cases e2
   exact SqT.of (k3 _ _ (tt n t z e1 ez))
 have k4:=Ac f8 (.dK (Bv [] ((st.getD []).map λ n=>((Sum.inl n:Key),V.bl true))))
 have e4:Hy _ rd (st.getD []):=⟨_,upd_same (H:=(upd H3 D (.lst (ts.map V.ref)))) (a:=rd) (o:=.dK (Bv [] ((st.getD []).map λ n=>((Sum.inl n:Key),V.bl true)))),AbR _⟩
 have gA:Same H1 _:=g2.trans (g3.trans (k3.trans k4))
 generalize (upd (upd H3 D (.lst (ts.map V.ref))) rd (.dK (Bv [] ((st.getD []).map λ n=>((Sum.inl n:Key),V.bl true))))) = HA at e4 gA
 clear k3 k4 tt tl hD c5 g3 hS
 refine ⟨_,Z,?_⟩
 have hS:=(g1.trans gA).seq g7
 obtain ⟨e,rfl⟩:∃ e,e = cl:=⟨_,rfl⟩
 obtain ⟨H2,rfl⟩:∃ H2,H2 = HA:=⟨_,rfl⟩
 refine ⟨e,Z,⟨_,hS⟩,Ci (K:=K) (xs:=(co).map V.int) (λ i ys H'=>Same H2 H'∧∃ ts:List Addr,ys = ts.map V.ref∧ts.length = i∧∀ (n:Nat) t z,ts[n]? = some t→(co)[n]? = some z→H' t = some (.tup [.int z,.bl true])) ⟨Same.refl _,[],Z,Z,λ n t z h=>(by cases h)⟩ (by rw [hZ]; exact Hz (by omega)) (λ i ys H' h=>h.1.seq hS) ?_ ?_⟩
 ·rintro j z ys H' M hj ⟨g',ts,rfl,tl,tt⟩ hN c5
  rw [iH] at hj
  cases ej:(co)[j]? with
  | none=>rw [ej] at hj; cases hj
  | some c =>
   rw [ej] at hj
   cases hj
   refine ⟨_,Z,zN2,λ t ht=>?_⟩
   have k':=Ac ht (.tup [.int c,.bl true])
   refine hN _ _ (by rw [iB,iD]; exact succ_le_succ c5) ⟨g'.trans k',ts ++ [t],by rw [iM]; rfl,by rw [iB,tl]; rfl,λ n t' z' e1 e2=>?_⟩
   by_cases c1:n < ts.length
   ·rw [iR c1] at e1
    exact k' _ _ (tt n t' z' e1 e2)
   ·have nj:n = j:=by
     have:=(List.getElem?_eq_some_iff.mp e1).1
     rw [iB,iD] at this
     omega
    subst nj
    rw [← tl,List.getElem?_concat_length] at e1
    cases e1
    rw [ej] at e2
    cases e2
    exact upd_same
 rintro ys H3 c5 ⟨g3,ts,rfl,tl,tt⟩ D hD
 have k3:=Ac hD (.lst (ts.map V.ref))
 refine ⟨D,ts,(co).map λ n=>((Sum.inl n:Key),V.bl true),Z,SqL.of upd_same,by rw [hZ]; rw [hZ] at tl; exact tl,λ n t ky vl e1 e2=>?_,λ sd f5=>?_⟩
 ·rw [iH] at e2
  cases ez:(co)[n]? with
  | none=>rw [ez] at e2; cases e2
  | some z =>
   rw [ez] at e2
   cases e2
   exact SqT.of (k3 _ _ (tt n t z e1 ez))
 have k4:=Ac f5 (.dK (Bv [] ((co).map λ n=>((Sum.inl n:Key),V.bl true))))
 have d7:Hy _ sd (co):=⟨_,upd_same (H:=(upd H3 D (.lst (ts.map V.ref)))) (a:=sd) (o:=.dK (Bv [] ((co).map λ n=>((Sum.inl n:Key),V.bl true)))),AbR _⟩
 have gB:Same H2 _:=(g3.trans (k3.trans k4))
 generalize (upd (upd H3 D (.lst (ts.map V.ref))) sd (.dK (Bv [] ((co).map λ n=>((Sum.inl n:Key),V.bl true))))) = HB at d7 gB
 clear k3 k4 tt tl hD c5 g3 hS
 have d2:=gA.trans gB
 have g0:=g1.trans d2
 have S4:=S.same d2
 have N4:=N.same d2
 have G4:=G0.same g0
 have Rr:=e4.same gB
 have ap:=S4.apt
 obtain ⟨gvs,d8,d5,e8⟩:=id G4
 refine ⟨_,Z,nt,_,_,_,Z,Z,Gk g0 d6,Ah (j:=0) rfl,gl,Z,⟨_,d8⟩,Mo (K:=K) (l:=gl) (xs:=gvs) (λ i σ H'=>∃ (x6 x7:Option V) (k:List (Option Bool)) (ord:List (Nat× Bool)),σ = [some (.ref nt),some sv,some (.ref e),some (.ref o),some (.ref rd),some (.ref sd),x6,x7,none]∧KpL [kl,ol,ul] HB H'∧C8 C H' o gl kl ol nl ul k ord (uns gs)∧k.length = gs.length∧Fs gs st co (knL k) ord i) ⟨none,none,_,_,Z,KpL.refl,S4,iQ,by rw [Ux]; exact Fs.nil⟩ (λ i σ H' _ h=>by obtain ⟨_,_,_,_,_,kp,_⟩:=h; exact kp.sqL ng d8) ?_ ?_⟩
 ·rintro i v t σ H5 hi ⟨x6,x7,k,ord,rfl,kp,S5,lk,fs⟩ ht
  have il:i < gs.length:=by rw [← d5]; exact (List.getElem?_eq_some_iff.mp hi).1
  obtain ⟨G,hG⟩:∃ G,gs[i]? = some G:=⟨_,hX il⟩
  have k6:=Ac ht (.tup [.int (i:Nat),v])
  have et:=upd_same (H:=H5) (a:=t) (o:=.tup [.int (i:Nat),v])
  have c6:KpL [kl,ol,ul] HB (upd H5 t (.tup [.int (i:Nat),v])):=λ b x n z=>k6 _ _ (kp b x n z)
  have S6:=S5.same k6
  generalize (upd H5 t (.tup [.int (i:Nat),v])) = H6 at et c6 S6
  have gG:=(e8 i v G hi hG).kp c6 ap
  have lo:=fs.len
  have d4:=fs.step hG
  rw [Ps (by omega)] at d4
  obtain ⟨c7,c8,_⟩:=id S6
  refine ⟨t,_,Z,SqT.of et,Z,_,_,Z,_,_,Z,Z,?_⟩
  refine ⟨_,Z,o,c7,_,Z,c8,Z,_,Z,_,Z,_,Z,Z,_,Z,_,Z,v,G,rd,sd,st,co,(by rw [Uv e6]; rfl),gG,Rr.kp c6 ap,d7.kp c6 ap,?_⟩
  refine ⟨o,gl,kl,ol,nl,ul,i,Da st co G,k,ord,uns gs,Z,S6,by omega,by omega,λ H7 d3 S7=>?_⟩
  exact ⟨_,_,_,_,Z,c6.trans (d3.sub λ r e5=>by simp only [jK,jH,or_false] at e5 ⊢; rcases e5 with h | h; exact .inl h; exact .inr (.inl h)),S7,by rw [learnL_len]; exact lk,d4⟩
 ·rintro σ H5 ⟨x6,x7,k,ord,rfl,kp,S5,lk,fs⟩
  rw [d5] at fs
  have W0:Wl gs st co (knL k) ord 0 [] (uF (uns gs)):=fs.wl λ g h=>Adq g h
  refine J0 (λ σ H'=>∃ (m:Nat) (k:List (Option Bool)) (ord:List (Nat× Bool)) (u:List Int),σ = [some (.ref nt),some sv,some (.ref e),some (.ref o),some (.ref rd),some (.ref sd),x6,x7,some (.int (m:Nat))]∧KpL [kl,ol,ul] HB H'∧C8 C H' o gl kl ol nl ul k ord u∧k.length = gs.length∧u.length = gs.length∧Wl gs st co (knL k) ord m [] (uF u))
   (λ (σ:St) (_:Hp)=>match σ[8]? with | some (some (V.int m))=>gs.length - m.toNat | _=>0) ⟨0,k,ord,uns gs,Z,kp,S5,lk,by unfold uns; rw [hZ],W0⟩ ?_ ?_
  ·rintro σ H6 ⟨m,k,ord,u,rfl,kp,S6,lk,lu,W⟩
   obtain ⟨c7,c8,h4,⟨ts,c9,h3,f9⟩,h5,_⟩:=id S6
   refine ⟨_,Z,_,Z,o,C,c7,_,_,Z,c8,T.cl,T.nO,Z,ol,_,Z,.inl (SqL.of c9),_,_,Z,Z,_,Z,Ay (λ c=>?_) λ c=>?_⟩
   ·have hm:m < ord.length:=by
     have:=iK c
     rw [hZ] at this
     omega
    obtain ⟨t,ht⟩:∃ t,ts[m]? = some t:=⟨_,hX (by omega)⟩
    obtain ⟨⟨c',v'⟩,d9⟩:∃ x,ord[m]? = some x:=⟨_,hX hm⟩
    have et:=f9 m t c' v' ht d9
    have f3:(ts.map V.ref)[m]? = some (.ref t):=by rw [iH,ht]; rfl
    have wl:=W.len
    refine ⟨_,Z,o,c7,_,Z,c8,Z,_,Z,o,C,c7,_,_,Z,c8,T.cl,T.nO,Z,_,Z,ol,_,_,_,Z,Z,SqL.of c9,Ah f3,o,gl,kl,ol,nl,ul,t,gs,st,co,m,c',v',k,ord,u,Z,S6,lk,lu,W,d9,et,G4.kp kp ap ng,ng,N4.kp kp,g4,λ H7 d3 sw=>?_⟩
    obtain ⟨k',e7,u',S7,f7,f6,W'⟩:=sw
    refine ⟨_,Z,_,_,Z,Z,⟨m + 1,k',e7,u',Z,kp.trans d3,S7,f7,f6,W'⟩,?_⟩
    show gs.length - ((m:Int) + 1).toNat < gs.length - (m:Int).toNat
    omega
   ·have hm:ord.length≤m:=by
     refine Nat.le_of_not_lt λ z=>c (iI ?_)
     rw [hZ]
     omega
    exact ⟨_,Z,q o H6 ⟨gl,kl,ol,nl,ul,k,ord,u,Same.byKpL g0 g6 kp,S6,lk,m,hm,W⟩⟩
  ·rintro σ H Q Q' h ⟨a1,b1,a2,b2,a3,a4,a5,a6,a7,b3,b4,b5,b6,b7,a8,a9,b8,b9,g5,f2,e9,g9,f0,f1,q⟩
   exact ⟨a1,b1,a2,b2,a3,a4,a5,a6,a7,b3,b4,b5,b6,b7,a8,a9,b8,b9,g5,f2,e9,g9,f0,f1,h _ _ q⟩
theorem Vb {t:Bool} {k:Kn} {gs:List Nat}:Jb t k gs = if ∃ g∈gs,k g = some t then some t else if ∃ g∈gs,k g = none then none else some (!t):=by
 unfold Jb
 by_cases h1:∃ g∈gs,k g = some t
 ·rw [if_pos h1,if_pos h1]
 ·rw [if_neg h1,if_neg h1]
  by_cases h2:∃ g∈gs,k g = none
  ·rw [if_pos h2,if_neg]
   intro z
   obtain ⟨g,hg,e⟩:=h2
   rw [z g hg] at e
   cases e
  ·rw [if_neg h2,if_pos]
   intro g hg
   cases e:k g with
   | none=>exact absurd ⟨g,hg,e⟩ h2
   | some b =>
    have:¬ b = t:=λ z=>h1 ⟨g,hg,by rw [e,z]⟩
    cases b <;> cases t <;> first | rfl | exact absurd rfl this
theorem Ll (l:List (Option Bool)):(l.map vO).all E7 = true:=by
 rw [all_eq_true]
 intro x hx
 obtain ⟨o,_,rfl⟩:=jS.mp hx
 cases o <;> rfl
theorem X6 (a b:Option Bool):eqV (vO a) (vO b) = decide (a = b):=by
 rcases a with _ | _ | _ <;> rcases b with _ | _ | _ <;> rfl
theorem P5 {o:Option Bool} {f:Nat→Option Bool} {l:List Nat}:inV (vO o) ((l.map f).map vO) = decide (∃ g∈l,f g = o):=by
 unfold inV
 rw [any_map,any_map]
 by_cases c:∃ g∈l,f g = o
 ·rw [iI c,any_eq_true]
  obtain ⟨g,hg,e⟩:=c
  exact ⟨g,hg,by show eqV (vO (f g)) (vO o) = true; rw [X6]; exact iI e⟩
 ·rw [iJ c,List.any_eq_false]
  intro g hg z
  have z:eqV (vO (f g)) (vO o) = true:=z
  rw [X6] at z
  exact c ⟨g,hg,iK z⟩
theorem AbX {G:Gt} (e:G.word = "not"):∃ k,G = .nt k:=by cases G <;> first | exact ⟨_,Z⟩ | (dsimp only [Gt.word] at e; exact absurd e (by decide +kernel))
theorem AdR {G:Gt} (e:G.word = "all"):∃ k,G = .all k:=by cases G <;> first | exact ⟨_,Z⟩ | (dsimp only [Gt.word] at e; exact absurd e (by decide +kernel))
theorem AeR {G:Gt} (n1:¬ G.word = "start") (n2:¬ G.word = "memory") (n3:¬ G.word = "given"):Kx G = true:=by cases G <;> first | rfl | exact absurd rfl n1 | exact absurd rfl n2 | exact absurd rfl n3
theorem Ada {G:Gt} (h:Kx G = true) (n1:¬ G.word = "not") (n2:¬ G.word = "all"):∃ k,G = .som k:=by cases G <;> first | exact ⟨_,Z⟩ | exact absurd rfl n1 | exact absurd rfl n2 | cases h
inductive O2 (K:PySem.W.Frag) (vs:List V) (H:Hp) (Q:VK):Prop
 | mk (gv sv:V) (cl kl:Addr) (G:Gt) (st:Option (List Int)) (co:List Int) (k:List (Option Bool)) (_:vs = [gv,sv,.ref cl,.ref kl]) (_:Ig K H G gv) (_:StG K H st sv) (_:SqL K H cl (co.map V.int)) (_:SqL K H kl (k.map vO)) (_:(∀ c∈G.nums,c < k.length)) (_:G.nums.length≤1000) (_:∀ H',Same H H'→Q (vO (Cy st co (knL k) G)) H'):O2 K vs H Q
def Tv (K:PySem.W.Frag):Sp:=λ vs H Q _=>O2 K vs H Q
theorem AaC (F:A2 K mg "_law_value" ["_law_gate", "_law_state", "_law_coming_here", "_law_known"] E4) (T:Txt mg):Aj P w K mg base 1 "_law_value" ["_law_gate", "_law_state", "_law_coming_here", "_law_known"] (Tv K):=by
 refine F.ok Fi (λ vs H Q E h=>?_) (λ f cdv A outer s H vs Q E hr h=>?_)
 ·obtain ⟨gv,sv,cl,kl,G,st,co,k,rfl,_⟩:=h; rfl
 obtain ⟨gv,sv,cl,kl,G,st,co,k,rfl,⟨a,b,rfl,h1,h2⟩,a3,a9,hk,hn,l9,q⟩:=h
 refine ⟨_,(Ad (D9 (pv 0) (C1 rfl (Bc (Aq (i:=4) Fi.nd rfl (Or.inl rfl)) (Bc (Aq (i:=5) Fi.nd rfl (Or.inl rfl)) Ch))))
  (Ad (Bg (Am A9 (pv 4) Ao (Ap _))
   (Ae (Au (Dp Ky (pv 1) B3 (Ap _))))
   A7)
  (Ad (Bg (Am A9 (pv 4) Ao (Ap _))
   (Ae (Au (AdJ (Dp Nz (pv 1) B3 (Ap _)) (Q5 (Dp Dr (Ak Ar (pv 5) Af (λ _ _=>rfl)) (pv 1) (by rfl))))))
   A7)
  (Ad (Bg (Am A9 (pv 4) Ao (Ap _))
   (Ae (Au (Dp Dr (Ak Ar (pv 5) Af (λ _ _=>rfl)) (pv 2) (by rfl))))
   A7)
  (Ad (Ds (j:=6) (g:=(Bo 0)) (tc:=Cn) (te:=(tOp (Kt K) (Bh 1) (Bh 0))) ["_law_number"] [("_law_known", 3)] Fi.nd rfl (Or.inl rfl) rfl (Bw (Ag E4) ["_law_gate", "_law_state", "_law_coming_here", "_law_known", "_law_word", "_law_numbers", "_law_ahead"] (by decide +kernel)) (Hq (pv 5)) (λ s2 H2 fp cl C=>Aq (i:=0) (show Nodup [("_law_number" : Str),("_law_known" : Str)] from by decide +kernel) rfl (Or.inl rfl)) (Bf (by decide)) (λ s2 H2 fp cl C=>Cs) (λ s2 H2 fp cl C=>(Ak Be (pv 1) (pv 0) (λ _ _=>rfl))))
  (Ad (Bg (Am A9 (pv 4) Ao (Ap _))
   (Ae (Au (Ak Be (Ax (Aa B3 (Aa Ct (Aa Ct Ab)))) (Dt PySem.F.plainAttrs_list PySem.F.slot_list_index PySem.F.type_list_index Aax (Ax (Aa B3 (Aa Ct (Aa Ct Ab)))) (Aa (Ak Be (pv 6) Af (λ _ _=>rfl)) Ab)) (λ _ _=>rfl))))
   A7)
  (Ad (Bg (Am A9 (pv 4) Ao (Ap _))
   (Ae (Au (Dy (Am Dr Ct (pv 6) (by rfl)) Ct (Ak Be (Ax (Aa Ct (Aa B3 Ab))) (Bu La rfl T.n_int (by decide +kernel) (Aa (Dp Dr B3 (pv 6) (by rfl)) Ab)) (λ _ _=>rfl)))))
   A7)
  (Ae (Au (Dy (Am Dr Ct (pv 6) (by rfl)) Ct (Ak Be (Ax (Aa Ct (Aa B3 Ab))) (Bu La rfl T.n_int (by decide +kernel) (Aa (Dp Dr B3 (pv 6) (by rfl)) Ab)) (λ _ _=>rfl)))))))))))),?_⟩
 refine ⟨_,Z,a,_,Z,h1,Z,_,_,Z,_,_,Z,Z,?_⟩
 refine ⟨_,Z,Z,_,Z,Ee (λ e=>?_) λ n1=>⟨_,Z,Z,_,Z,Ee (λ e=>?_) λ n2=>⟨_,Z,Z,_,Z,Ee (λ e=>?_) λ n3=>?_⟩⟩⟩
 ·cases Q7 e
  refine ⟨_,Z,Z,?_⟩
  rw [Uv a3]
  exact q H (Same.refl _)
 ·obtain ⟨n,rfl⟩:=Yt e
  cases st with
  | none =>
   cases a3
   refine ⟨_,Z,Z,_,Z,?_⟩
   rw [if_neg (by simp)]
   exact q H (Same.refl _)
  | some l =>
   obtain ⟨s',rfl,hs⟩:=a3
   refine ⟨_,Z,Z,_,Z,?_⟩
   rw [if_pos (by simp)]
   refine ⟨_,Z,b,_,_,_,Z,Z,h2,Ah (j:=0) rfl,_,Z,s',_,Z,.inl hs,Z,Ph l,?_⟩
   rw [if_neg Bool.false_ne_true,Q0]
   exact q H (Same.refl _)
 ·obtain ⟨n,rfl⟩:=Za e
  refine ⟨_,Z,b,_,_,_,Z,Z,h2,Ah (j:=0) rfl,_,Z,cl,_,Z,.inl a9,Z,Ph co,?_⟩
  rw [if_neg Bool.false_ne_true,Q0]
  exact q H (Same.refl _)
 have nm:=AeR n1 n2 n3
 rw [U0 nm] at h2
 refine ⟨_,Z,b,Z,⟨_,h2⟩,Qt (K:=K) (a:=b) (xs:=(G.nums.map Int.ofNat).map V.int) (λ i ys H'=>H' = H∧ys = ((G.nums.take i).map (knL k)).map vO) ⟨Z,Z⟩ (by rw [hZ,hZ]; exact Hz (by omega)) (λ i ys H' h=>by rw [h.1]; exact h2) ?_ ?_⟩
 ·rintro j z ys H' M hj ⟨rfl,rfl⟩ hN a4
  rw [map_map,iH] at hj
  cases ej:G.nums[j]? with
  | none=>rw [ej] at hj; cases hj
  | some c =>
   rw [ej] at hj
   cases hj
   have b1:=hn c (iN ej)
   have ek:(k.map vO)[c]? = some (vO (knL k c)):=by unfold knL; rw [iH,hX b1]; rfl
   refine ⟨_,Z,_,Z,kl,_,_,_,Z,Z,hk,Ah ek,hN _ _ (by rw [iB,iD]; exact succ_le_succ a4) ⟨Z,?_⟩⟩
   rw [take_add_one,ej,iM,iM]; rfl
 ·rintro ys H' a4 ⟨rfl,rfl⟩ D a8
  rw [iP (by rw [hZ,hZ]; exact iX _)]
  have g1:=Ac a8 (.lst ((G.nums.map (knL k)).map vO))
  have hD:=upd_same (H:=H') (a:=D) (o:=.lst ((G.nums.map (knL k)).map vO))
  generalize (upd H' D (.lst ((G.nums.map (knL k)).map vO))) = H1 at g1 hD
  refine ⟨_,Z,Z,_,Z,Ee (λ e=>?_) λ n4=>⟨_,Z,Z,_,Z,Ee (λ e=>?_) λ n5=>?_⟩⟩
  ·obtain ⟨c,rfl⟩:=AbX e
   refine ⟨zN3,λ l1 a1=>?_⟩
   have k2:=Ac a1 (.lst [.non,.bl false,.bl true])
   have e2:=upd_same (H:=H1) (a:=l1) (o:=.lst [.non,.bl false,.bl true])
   have a5:=k2 _ _ hD
   generalize (upd H1 l1 (.lst [.non,.bl false,.bl true])) = H2 at k2 e2 a5
   refine ⟨zN3,λ l2 a7=>?_⟩
   have k3:=Ac a7 (.lst [.non,.bl true,.bl false])
   have e3:=upd_same (H:=H2) (a:=l2) (o:=.lst [.non,.bl true,.bl false])
   have a6:=k3 _ _ a5
   have a2:=k3 _ _ e2
   generalize (upd H2 l2 (.lst [.non,.bl true,.bl false])) = H3 at k3 e3 a6 a2
   refine ⟨.inl ⟨Z,_,SqL.of e3⟩,_,Z,D,_,_,_,Z,Z,SqL.of a6,Ah (j:=0) rfl,?_⟩
   have q:=q _ (g1.trans (k2.trans k3))
   have eg:Cy st co (knL k) (.nt c) = (knL k c).map not:=rfl
   rw [eg] at q
   generalize knL k c = o at q
   rcases o with _ | _ | _
   ·exact ⟨l2,_,_,0,_,Z,Z,e3,Z,Z,Z,Z,λ m z' h=>absurd h (not_lt_zero _),l1,_,_,_,Z,Z,SqL.of a2,Ah (j:=0) rfl,q⟩
   ·exact ⟨l2,_,_,2,_,Z,Z,e3,Z,Z,Z,Z,λ m z' h e=>by (match m,h,e with | 0,_,e=>cases e; rfl | 1,_,e=>cases e; rfl),l1,_,_,_,Z,Z,SqL.of a2,Ah (j:=2) rfl,q⟩
   ·exact ⟨l2,_,_,1,_,Z,Z,e3,Z,Z,Z,Z,λ m z' h e=>by (match m,h,e with | 0,_,e=>cases e; rfl),l1,_,_,_,Z,Z,SqL.of a2,Ah (j:=1) rfl,q⟩
  ·obtain ⟨l,el⟩:=AdR e
   have eg:Cy st co (knL k) G = Jb false (knL k) G.nums:=by rw [el]; rfl
   rw [eg,Vb] at q
   refine ⟨_,Z,D,_,Z,.inl (SqL.of hD),Z,Ll _,_,Z,?_⟩
   rw [if_neg Bool.false_ne_true,show V.bl false = vO (some false) from rfl,P5]
   by_cases c1:∃ g∈G.nums,knL k g = some false
   ·rw [if_pos c1] at q
    rw [if_pos (iI c1)]
    exact q _ g1
   ·rw [if_neg c1] at q
    rw [if_neg (λ z=>c1 (iK z))]
    refine ⟨zN2,λ l1 a1=>?_⟩
    have k2:=Ac a1 (.lst [.bl true,.non])
    refine ⟨_,Z,D,_,Z,.inl (SqL.of (k2 _ _ hD)),Z,Ll _,.inr ⟨_,Z,l1,_,_,_,Z,Z,SqL.of upd_same,?_,q _ (g1.trans k2)⟩⟩
    rw [if_neg Bool.false_ne_true,show V.non = vO none from rfl,P5]
    by_cases c2:∃ g∈G.nums,knL k g = none
    ·rw [iI c2,if_pos c2]; exact Ah (j:=1) rfl
    ·rw [iJ c2,if_neg c2]; exact Ah (j:=0) rfl
  ·obtain ⟨l,el⟩:=Ada nm n4 n5
   have eg:Cy st co (knL k) G = Jb true (knL k) G.nums:=by rw [el]; rfl
   rw [eg,Vb] at q
   refine ⟨_,Z,D,_,Z,.inl (SqL.of hD),Z,Ll _,_,Z,?_⟩
   rw [if_neg Bool.false_ne_true,show V.bl true = vO (some true) from rfl,P5]
   by_cases c1:∃ g∈G.nums,knL k g = some true
   ·rw [if_pos c1] at q
    rw [if_pos (iI c1)]
    exact q _ g1
   ·rw [if_neg c1] at q
    rw [if_neg (λ z=>c1 (iK z))]
    refine ⟨zN2,λ l1 a1=>?_⟩
    have k2:=Ac a1 (.lst [.bl false,.non])
    refine ⟨_,Z,D,_,Z,.inl (SqL.of (k2 _ _ hD)),Z,Ll _,.inr ⟨_,Z,l1,_,_,_,Z,Z,SqL.of upd_same,?_,q _ (g1.trans k2)⟩⟩
    rw [if_neg Bool.false_ne_true,show V.non = vO none from rfl,P5]
    by_cases c2:∃ g∈G.nums,knL k g = none
    ·rw [iI c2,if_pos c2]; exact Ah (j:=1) rfl
    ·rw [iJ c2,if_neg c2]; exact Ah (j:=0) rfl
theorem Ig.same {K:PySem.W.Frag} {H H':Hp} {G:Gt} {v:V} (k:Same H H') (h:Ig K H G v):Ig K H' G v:=by
 obtain ⟨a,b,e,h1,h2⟩:=h
 exact ⟨a,b,e,Gk k h1,Gk k h2⟩
inductive AdX (H:Hp) (gs:List Gt) (st:Option (List Int)) (co:List Int) (kl:Addr) (H':Hp):Prop
 | mk (k:List (Option Bool)) (g:Same H H') (hk:H' kl = some (.lst (k.map vO))) (lk:k.length = gs.length) (d:Der gs st co (knL k)) (c:G8 gs st co (knL k)):AdX H gs st co kl H'
theorem X2 (k:List (Option Bool)):(k.map vO).countP (λ v=>decide (v = V.non)) = nns k:=by
 unfold nns
 rw [List.countP_map]
 congr 1
 funext o
 cases o with
 | none=>show decide (V.non = V.non) = true; exact iI rfl
 | some b=>show decide (V.bl b = V.non) = false; exact iJ (λ z=>by cases z)
inductive Pf (K:PySem.W.Frag) (vs:List V) (H:Hp) (Q:VK):Prop
 | mk (nt cl:Addr) (sv:V) (gs:List Gt) (st:Option (List Int)) (co:List Int) (_:vs = [.ref nt,sv,.ref cl]) (_:Qm K H nt gs) (_:AaG K H sv cl st co) (_:(∀ G∈gs,G.nums.length≤1000)) (_:∀ (kl:Addr) (H':Hp),AdX H gs st co kl H'→Q (.ref kl) H'):Pf K vs H Q
def Tc (K:PySem.W.Frag):Sp:=λ vs H Q _=>Pf K vs H Q
theorem Z4 (F:A2 K mg "_law_least" ["_law_net", "_law_state", "_law_coming_here"] E2) (T:Txt mg) (cZ:Aj P w K mg base 1 "_law_value" ["_law_gate", "_law_state", "_law_coming_here", "_law_known"] (Tv K)):Aj P w K mg base 2 "_law_least" ["_law_net", "_law_state", "_law_coming_here"] (Tc K):=by
 refine F.ok Dq (λ vs H Q E h=>?_) (λ f cdv A outer s H vs Q E hr h=>?_)
 ·obtain ⟨nt,cl,sv,gs,st,co,rfl,_⟩:=h; rfl
 obtain ⟨nt,cl,sv,gs,st,co,rfl,⟨gl,rest,xs,a9,G0,hgl,sm⟩,⟨b9,lst,c5,c7⟩,l9,q⟩:=h
 refine ⟨_,(Ad (Ds (j:=3) (g:=(Bo 0)) (tc:=Cn) (te:=(tC .non)) ["_law_gate"] [] Dq.nd rfl (Or.inl rfl) rfl (Bw (Ag E2) ["_law_net", "_law_state", "_law_coming_here", "_law_known", "_law_changed", "_law_number"] (by decide +kernel)) (B9 (Ak Ar (pv 0) Af (λ _ _=>rfl))) (λ s2 H2 fp cl C=>Aq (i:=0) (show Nodup [("_law_gate" : Str)] from by decide +kernel) rfl (Or.inl rfl)) (Bf (by decide)) (λ s2 H2 fp cl C=>Cs) (λ s2 H2 fp cl C=>B3))
  (Ad (Aw (i:=4) Dq.nd rfl (Or.inl rfl) Ct)
  (Ad (J1 PassesOwn.never (Kv (pv 4))
   (Ad (Aw (i:=4) Dq.nd rfl (Or.inl rfl) Ct)
  (Ae (De PassesOwn.never rfl (Fp rfl T.n_range (Aa (Bs B4 rfl T.n_len PySem.boot_len (Aa (pv 3) Ab)) Ab)) (Aq (i:=5) Dq.nd rfl (Or.inl rfl))
   (Ae (Bg (Am Ky (Ak Be (pv 3) (pv 5) (λ _ _=>rfl)) B3 (Ap _))
   (Ad (D9 (Av cZ hr rfl Ai (Aa (Ak Be (Ak Ar (pv 0) Af (λ _ _=>rfl)) (pv 5) (λ _ _=>rfl)) (Aa (pv 1) (Aa (pv 2) (Aa (pv 3) Ab))))) (M0 (pv 3) (pv 5) Kl))
  (Ae (Aw (i:=4) Dq.nd rfl (Or.inl rfl) (Adw (pv 4) (Q5 (Dp Nz (Ak Be (pv 3) (pv 5) (λ _ _=>rfl)) B3 (Ap _)))))))
   A7))))))
  (Ae (Au (pv 3)))))),?_⟩
 have c8:=sm.len
 obtain ⟨gvs,a7,b6,b5⟩:=id G0
 refine ⟨_,Z,nt,_,_,_,Z,Z,a9,Ah (j:=0) rfl,gl,Z,⟨_,a7⟩,Ci (K:=K) (xs:=gvs) (λ i ys H'=>H' = H∧ys = (List.replicate i (none:Option Bool)).map vO) ⟨Z,Z⟩ (Hz (by omega)) (λ i ys H' h=>by rw [h.1]; exact a7) ?_ ?_⟩
 ·rintro j z ys H' M hj ⟨rfl,rfl⟩ hN a8
  exact hN _ _ (by rw [iB,iD]; exact succ_le_succ a8) ⟨Z,by rw [List.replicate_succ',iM]; rfl⟩
 rintro ys H0 a8 ⟨rfl,rfl⟩ kl b4
 rw [b6]
 have g1:=Ac b4 (.lst ((List.replicate gs.length (none:Option Bool)).map vO))
 have ek:=upd_same (H:=H0) (a:=kl) (o:=.lst ((List.replicate gs.length (none:Option Bool)).map vO))
 generalize (upd H0 kl (.lst ((List.replicate gs.length (none:Option Bool)).map vO))) = H1 at g1 ek
 refine J0 (λ σ H'=>∃ (b:Bool) (k:List (Option Bool)) (x5:Option V),σ = [some (.ref nt),some sv,some (.ref cl),some (.ref kl),some (.bl b),x5]∧Same H0 H'∧H' kl = some (.lst (k.map vO))∧k.length = gs.length∧Der gs st co (knL k)∧(b = false→G8 gs st co (knL k)))
  (λ (σ:St) (H':Hp)=>match H' kl,σ[4]? with | some (HO.lst us),some (some (V.bl b))=>2 * us.countP (λ v=>decide (v = V.non)) + (if b = true then 1 else 0) | _,_=>0) ⟨true,_,none,Z,g1,ek,iQ,by rw [Ux]; exact Der.nil,λ z=>by cases z⟩ ?_ ?_
 ·rintro σ H2 ⟨b,k,x5,rfl,g2,a4,lk,der,clo⟩
  cases b with
  | false=>exact ⟨_,rfl,_,rfl,Eb ⟨_,rfl,q kl H2 ⟨k,g2,a4,lk,der,clo rfl⟩⟩⟩
  | true =>
   refine ⟨_,Z,_,Z,Dv ?_⟩
   refine ⟨_,Z,kl,_,Z,.inl (SqL.of a4),_,Z,by rw [hZ]; omega,by rw [hZ]; omega,?_⟩
   rw [show (((k.map vO).length:Nat):Int).toNat = gs.length by rw [hZ,Int.toNat_natCast,lk]]
   refine Xs (n:=gs.length) (λ i σ H'=>∃ (b:Bool) (k':List (Option Bool)) (x5:Option V),σ = [some (.ref nt),some sv,some (.ref cl),some (.ref kl),some (.bl b),x5]∧Same H0 H'∧H' kl = some (.lst (k'.map vO))∧Rd gs st co k k' i b) ⟨false,k,x5,Z,g2,a4,Rd.nil der lk⟩ ?_ ?_
   ·rintro i σ H3 hi ⟨b,k',x5,rfl,g3,a3,rd⟩
    have b8:=rd.len
    have ei:(k'.map vO)[i]? = some (vO (knL k' i)):=by unfold knL; rw [iH,hX (by omega)]; rfl
    obtain ⟨G,hG⟩:∃ G,gs[i]? = some G:=⟨_,hX hi⟩
    obtain ⟨gv,b3⟩:∃ gv,gvs[i]? = some gv:=⟨_,hX (by omega)⟩
    refine ⟨_,Z,_,Z,kl,_,_,_,Z,Z,SqL.of a3,(by rw [Int.zero_add]; exact Ah ei),Z,_,Z,?_⟩
    cases e:knL k' i with
    | some v=>exact Eb ⟨b,k',_,rfl,g3,a3,rd.skip (by rw [e]; exact λ z=>by cases z)⟩
    | none =>
     have a6:=rd.step hG e
     refine Dv ⟨_,Z,nt,_,_,_,Z,Z,Gk g3 a9,Ah (j:=0) rfl,_,Z,gl,_,_,_,Z,Z,g3.seq a7,(by rw [Int.zero_add]; exact Ah b3),_,Z,_,Z,_,Z,gv,sv,cl,kl,G,st,co,k',Z,(b5 i gv G b3 hG).same g3,Di g3 b9,g3.seq c5,SqL.of a3,λ c hc=>by rw [b8]; exact sm.wf i G hG c hc,l9 G (iN hG),λ H4 g4=>?_⟩
     have c6:=g4 _ _ a3
     refine ⟨_,Z,_,Z,kl,_,_,i,Z,Z,c6,?_,?_⟩
     ·unfold ixN
      rw [hZ,if_pos (by omega),if_pos (by omega),Int.zero_add,Int.toNat_natCast]
     generalize Cy st co (knL k') G = o at a6
     have a5:(upd H4 kl (.lst ((k'.map vO).set i (vO o)))) kl = some (.lst ((k'.set i o).map vO)):=by rw [upd_same,map_set]
     have g5:Same H0 (upd H4 kl (.lst ((k'.map vO).set i (vO o)))):=(g3.trans g4).young b4 _
     generalize (upd H4 kl (.lst ((k'.map vO).set i (vO o)))) = H5 at a5 g5
     cases b with
     | true=>exact ⟨_,rfl,_,rfl,Dv ⟨true,_,_,rfl,g5,a5,a6⟩⟩
     | false =>
      have b7:((k'.set i o).map vO)[i]? = some (vO o):=by rw [iH,jO (by omega)]; rfl
      refine ⟨_,Z,_,Z,Eb ⟨_,Z,_,Z,kl,_,_,_,Z,Z,SqL.of a5,(by rw [Int.zero_add]; exact Ah b7),Z,?_⟩⟩
      refine ⟨_,_,_,Z,g5,a5,?_⟩
      have eb:(!decide (vO o = V.non)) = (false || o.isSome):=by cases o <;> rfl
      first | (rw [eb]; exact a6) | exact eb ▸ a6
   ·rintro σ H3 ⟨b,k',x5,rfl,g3,a3,rd⟩
    refine ⟨⟨b,k',x5,Z,g3,a3,rd.len,rd.der,λ z=>by subst z; exact rd.closed⟩,?_⟩
    show (match H3 kl,(some (some (V.bl b))) with | some (HO.lst us),some (some (V.bl b))=>2 * us.countP (λ v=>decide (v = V.non)) + (if b = true then 1 else 0) | _,_=>0) < (match H2 kl,(some (some (V.bl true))) with | some (HO.lst us),some (some (V.bl b))=>2 * us.countP (λ v=>decide (v = V.non)) + (if b = true then 1 else 0) | _,_=>0)
    rw [a3,a4]
    dsimp only
    rw [X2,X2]
    have le:=rd.le
    cases b with
    | true=>have:=rd.yes rfl; show 2 * nns k' + 1 < 2 * nns k + 1; omega
    | false=>show 2 * nns k' + 0 < 2 * nns k + 1; omega
 ·rintro σ H Q Q' h ⟨a1,b1,a2,b2,q⟩
  exact ⟨a1,b1,a2,b2,h _ _ q⟩
end
def Aah (K:PySem.W.Frag) (t:TE):TT:=λ σ H Q=>t σ H λ x H1=>∃ k,Vo K x H1 k∧Q k H1
def Cr (v:Option Bool) (kn:List (Option Bool)):List Int:=((List.range kn.length).filter (λ i=>decide ((kn[i]?).getD none = v))).map λ (i:Nat)=>(i:Int)
inductive To (K:PySem.W.Frag) (vs:List V) (H:Hp) (Q:VK):Prop
 | mk (v) (kl) (kn) (_:vs = [vO v,.ref kl]) (_:SqL K H kl ((kn:List (Option Bool)).map vO)) (_:kn.length≤30) (_:∀ r H',Same H H'→H r = none→H' r = some (.lst ((Cr v kn).map V.int))→Q (.ref r) H'):To K vs H Q
def AbI (K:PySem.W.Frag):Sp:=λ vs H Q _=>To K vs H Q
theorem AeF (a b:Option Bool):decide (vO a = vO b) = decide (a = b):=by
 cases a with
 | none=>cases b with
  | none=>rfl
  | some y=>rfl
 | some x=>cases b with
  | none=>rfl
  | some y=>cases x <;> cases y <;> rfl
theorem AcF (a b:Option Bool):Zo (vO a) (vO b) = true:=by cases a <;> cases b <;> rfl
theorem Xj (v:Option Bool) (kn:List (Option Bool)) (j:Nat) (o:Option Bool) (h:kn[j]? = some o):((List.range (j + 1)).filter (λ i=>decide ((kn[i]?).getD none = v))).map (λ (i:Nat)=>(i:Int)) = if decide (o = v) = true then ((List.range j).filter (λ i=>decide ((kn[i]?).getD none = v))).map (λ (i:Nat)=>(i:Int)) ++ [(j:Int)] else ((List.range j).filter (λ i=>decide ((kn[i]?).getD none = v))).map (λ (i:Nat)=>(i:Int)):=by
 rw [range_succ,jM,iM]
 by_cases z:o = v
 ·rw [if_pos (iI z),List.filter_cons_of_pos (by rw [h]; exact iI z)]; rfl
 ·rw [if_neg (λ y=>z (iK y)),List.filter_cons_of_neg (by rw [h]; exact λ y=>z (iK y))]; simp
abbrev L0:Stmt:=B8 Mq 0
abbrev Nt:Stmt:=B8 Mq 1
abbrev Ly:Stmt:=B8 Mq 2
abbrev Lx:Stmt:=B8 Sd 0
abbrev Jw:Stmt:=B8 Sd 1
theorem AaA:As ["self"] ["self"] (Ag L0):=⟨Z,Z,Z,by decide +kernel,Z,by decide +kernel,by decide +kernel⟩
theorem S3:As ["self", "coming", "done"] ["self", "coming"] (Ag Nt):=⟨Z,Z,Z,by decide +kernel,Z,by decide +kernel,by decide +kernel⟩
theorem Z6:As ["self"] ["self"] (Ag Ly):=⟨Z,Z,Z,by decide +kernel,Z,by decide +kernel,by decide +kernel⟩
theorem Z7:As ["self", "net"] ["self", "net"] (Ag Lx):=⟨Z,Z,Z,by decide +kernel,Z,by decide +kernel,by decide +kernel⟩
theorem Oo:As ["self", "coming", "known", "there"] ["self", "coming"] (Ag Jw):=⟨Z,Z,Z,by decide +kernel,Z,by decide +kernel,by decide +kernel⟩
structure Ki (K:PySem.W.Frag) (mg:Str→Option Value) (cW cR cUn:Addr):Prop extends Txt mg where
 cl:Cls K cW
 nR:Ca K cW "reached"
 nN:Ca K cW "net"
 m_Runner:mg "Runner" = some (.ref cR)
 m_Netted:mg "Netted" = some (.ref cW)
 m_Un:mg "Unsettled" = some (.ref cUn)
 excU:Qx K cUn
def flR (sv:V) (nt:Addr):List (Str× V):=[("reached", sv),("net", .ref nt)]
theorem Sz (kn:List (Option Bool)):(kn.map vO).all E7 = true:=by
 rw [all_eq_true]
 intro v hv
 obtain ⟨o,_,rfl⟩:=jS.mp hv
 cases o <;> rfl
theorem S9 (kn:List (Option Bool)):inV .non (kn.map vO) = decide (none∈kn):=by
 induction kn with
 | nil=>rfl
 | cons o kn ih =>
  show (eqV (vO o) .non || inV .non (kn.map vO)) = _
  rw [ih]
  cases o with
  | none=>simp [vO,eqV]
  | some b=>simp [vO,eqV]
def Qn (K:PySem.W.Frag) (cUn:Addr):Sp:=λ vs H Q E=>∃ (kl:Addr) (kn:List (Option Bool)),vs = [.ref kl]∧SqL K H kl (kn.map vO)∧kn.length≤30 ∧
 ((none∈kn∧∀ H',Same H H'→E (.ref cUn) none H')∨(¬ none∈kn∧∀ r H',Same H H'→H r = none→H' r = some (.lst ((Cr (some true) kn).map V.int))→Q (.ref r) H'))
inductive Zb  (vs:List V) (H:Hp) (Q:VK):Prop
 | mk (o C dx:Addr) (fs:List (Str× V)) (_:vs = [.ref o]) (_:H o = some (.ins C dx fs)) (_:fs.length < 1000) (_:Q .non (upd H o (.ins C dx (A5 "reached" .non fs)))):Zb  vs H Q
def AdB:Sp:=λ vs H Q _=>Zb  vs H Q
inductive X1 (cW:Addr) (vs:List V) (H:Hp) (Q:VK):Prop
 | mk (o dx t gl sl ln:Addr) (te:V) (gvs svs lvs:List V) (_:vs = [.ref o,.ref t]) (_:H o = some (.ins cW dx [])) (_:H t = some (.tup [.ref gl,.ref sl,te,.ref ln])) (_:H gl = some (.lst gvs)) (_:H sl = some (.lst svs)) (_:H ln = some (.lst lvs)) (_:∀ t' gl' sl' ln' H',Kp o H H'→H' o = some (.ins cW dx (flR .non t'))→H' t' = some (.tup [.ref gl',.ref sl',te,.ref ln'])→H' gl' = some (.lst gvs)→H' sl' = some (.lst svs)→H' ln' = some (.lst lvs)→H gl' = none∧H sl' = none∧H ln' = none→Q .non H'):X1 cW vs H Q
def Ac4 (cW:Addr):Sp:=λ vs H Q _=>X1 cW vs H Q
def Rf (H H':Hp):Option (List Int)→V→Prop
 | none,v=>v = .non
 | some ns,v=>∃ r,v = .ref r∧H r = none∧H' r = some (.lst (ns.map V.int))
def C7 (l:List Nat):List V:=l.map λ (j:Nat)=>V.int (j:Int)
inductive Fx (K:PySem.W.Frag) (H:Hp) (nt:Addr) (gs:List Gt) (sg xs:List Nat):Prop
 | mk (gl sl ln:Addr) (te:V) (gvs:List V) (h:H nt = some (.tup [.ref gl,.ref sl,te,.ref ln])) (hg:H gl = some (.lst gvs)) (G:GsAt K H gl gs) (hs:H sl = some (.lst (C7 sg))) (hx:H ln = some (.lst (C7 xs))) (sm:SmG gs) (bs:∀ g∈sg,g < gs.length) (bx:∀ g∈xs,g < gs.length) (ls:sg.length≤30) (lx:xs.length≤60):Fx K H nt gs sg xs
theorem Fx.same {K:PySem.W.Frag} {H H':Hp} {nt:Addr} {gs:List Gt} {sg xs:List Nat} (k:Same H H') (h:Fx K H nt gs sg xs):Fx K H' nt gs sg xs:=by
 obtain ⟨gl,sl,ln,te,gvs,h,hg,G,hs,hx,sm,bs,bx,ls,lx⟩:=h
 exact ⟨gl,sl,ln,te,gvs,k _ _ h,k _ _ hg,G.same k,k _ _ hs,k _ _ hx,sm,bs,bx,ls,lx⟩
theorem Fx.kpo {K:PySem.W.Frag} {H H':Hp} {o C dx:Addr} {fs:List (Str× V)} {nt:Addr} {gs:List Gt} {sg xs:List Nat} (k:Kp o H H') (ho:H o = some (.ins C dx fs)) (h:Fx K H nt gs sg xs):Fx K H' nt gs sg xs:=by
 obtain ⟨gl,sl,ln,te,gvs,h,hg,G,hs,hx,sm,bs,bx,ls,lx⟩:=h
 exact ⟨gl,sl,ln,te,gvs,k _ _ (Bd h ho (by intro z; cases z)) h,k _ _ (Bd hg ho (by intro z; cases z)) hg,G.kpo k ho,k _ _ (Bd hs ho (by intro z; cases z)) hs,k _ _ (Bd hx ho (by intro z; cases z)) hx,sm,bs,bx,ls,lx⟩
structure Fix (gs:List Gt) (st:Option (List Int)) (co:List Int) (k:List (Option Bool)):Prop where
 len:k.length = gs.length
 der:Der gs st co (knL k)
 clo:G8 gs st co (knL k)
theorem Fix.uniq {gs:List Gt} {st:Option (List Int)} {co:List Int} {k k':List (Option Bool)} (a:Fix gs st co k) (b:Fix gs st co k'):k = k':=by
 have e:=a.der.unique b.der a.clo b.clo
 apply ext_getElem?
 intro i
 have ei:(k[i]?).getD none = (k'[i]?).getD none:=congrFun e i
 have la:=a.len
 have lb:=b.len
 rcases lt_or_ge i k.length with h | h
 ·rw [hX h,hX (by omega:i < k'.length)] at ei ⊢
  exact congrArg some ei
 ·rw [getElem?_eq_none h,getElem?_eq_none (by omega)]
def sgv (k:List (Option Bool)) (sg:List Nat):List (Option Bool):=sg.map (knL k)
def nxB (k:List (Option Bool)) (xs:List Nat) (i:Nat):Bool:=(knL k (xs.getD i 0)).getD false
def nxv (k:List (Option Bool)) (xs:List Nat):List Int:=((List.range xs.length).filter (nxB k xs)).map λ (i:Nat)=>(i:Int)
theorem No {k:List (Option Bool)} {g:Nat} (h:g < k.length):(k.map vO)[g]? = some (vO (knL k g)):=by unfold knL; rw [iH,hX h]; rfl
theorem Qy {K:PySem.W.Frag} {H:Hp} (o:Option Bool):Vo K (vO o) H (o.getD false):=by cases o <;> rfl
inductive Pc (K:PySem.W.Frag) (cW:Addr) (vs:List V) (H:Hp) (Q:VK):Prop
 | mk (o dx nt:Addr) (sv:V) (st:Option (List Int)) (_:vs = [.ref o]) (_:H o = some (.ins cW dx (flR sv nt))) (_:StG K H st sv) (_:∀ v H',Same H H'→Rf H H' st v→Q v H'):Pc K cW vs H Q
def Oj (K:PySem.W.Frag) (cW:Addr):Sp:=λ vs H Q _=>Pc K cW vs H Q
def Sb (K:PySem.W.Frag) (cW cUn:Addr):Sp:=λ vs H Q E=>∃ (o dx nt co:Addr) (sv:V) (st:Option (List Int)) (gs:List Gt) (sg xs:List Nat) (cs:List Int),vs = [.ref o,.ref co]∧H o = some (.ins cW dx (flR sv nt))∧Fx K H nt gs sg xs∧AaG K H sv co st cs ∧
 ∀ k,Fix gs st cs k→((none∈sgv k sg∧∀ H',Same H H'→E (.ref cUn) none H')∨(¬ none∈sgv k sg∧∀ t r b H',Same H H'→H' t = some (.tup [.ref r,.ref b])→H r = none→H b = none→r≠b→H' r = some (.lst ((Cr (some true) (sgv k sg)).map V.int))→H' b = some (.lst ((nxv k xs).map V.int))→Q (.ref t) H'))
def Sc (K:PySem.W.Frag) (cW cUn:Addr):Sp:=λ vs H Q E=>∃ (o dx nt co:Addr) (sv:V) (st:Option (List Int)) (gs:List Gt) (sg xs:List Nat) (cs:List Int),vs = [.ref o,.ref co]∧H o = some (.ins cW dx (flR sv nt))∧Fx K H nt gs sg xs∧StG K H st sv∧(st.getD []).length≤900∧SqL K H co (cs.map V.int)∧cs.length < 64 ∧
 ∀ k,Fix gs st (nub cs) k→((none∈sgv k sg∧∀ H',Same H H'→E (.ref cUn) none H')∨(¬ none∈sgv k sg∧∀ r b H',Kp o H H'→H' o = some (.ins cW dx (flR (.ref b) nt))→H r = none→H b = none→r≠b→H' r = some (.lst ((Cr (some true) (sgv k sg)).map V.int))→H' b = some (.lst ((nxv k xs).map V.int))→Q (.ref r) H'))
structure TkB (HC HD:Hp) (o cW dx nt t7:Addr) (wd:Str) (fv sv':V):Prop where
 k:Kp o HC HD
 eo:HD o = some (.ins cW dx (flR sv' nt))
 et:HD t7 = some (.tup [.str wd,fv])
inductive TkC (kk:List (Option Bool)) (sg xs:List Nat) (HC HD:Hp) (sv:V) (wd:Str) (fv sv':V):Prop
 | un (hn:none∈sgv kk sg) (e1:wd = "unsettled") (e2:sv' = sv):TkC kk sg xs HC HD sv wd fv sv'
 | dn (hn:¬ none∈sgv kk sg) (r b:Addr) (e1:wd = "done") (e2:fv = .ref r) (e3:sv' = .ref b) (fr:HC r = none) (fb:HC b = none) (ne:r≠b) (er:HD r = some (.lst ((Cr (some true) (sgv kk sg)).map V.int))) (eb:HD b = some (.lst ((nxv kk xs).map V.int))):TkC kk sg xs HC HD sv wd fv sv'
theorem Ab9 {kk:List (Option Bool)} {sg xs:List Nat} {HC:Hp} {o cW dx nt:Addr} {sv:V} {Q:V→Hp→Prop} (ho:HC o = some (.ins cW dx (flR sv nt))) (a1:∀ t7 wd fv sv' HD,TkB HC HD o cW dx nt t7 wd fv sv'→TkC kk sg xs HC HD sv wd fv sv'→Q (.ref t7) HD):(none∈sgv kk sg→∀ t H',Same HC H'→H' t = some (.tup [.str "unsettled", .non])→Q (.ref t) H')∧(¬ none∈sgv kk sg→∀ t r b H',Kp o HC H'→H' o = some (.ins cW dx (flR (.ref b) nt))→H' t = some (.tup [.str "done", .ref r])→HC r = none→HC b = none→r≠b→H' r = some (.lst ((Cr (some true) (sgv kk sg)).map V.int))→H' b = some (.lst ((nxv kk xs).map V.int))→Q (.ref t) H') :=
 ⟨λ hn t H' g et=>a1 t _ _ sv H' ⟨Same.kp g,g _ _ ho,et⟩ (.un hn rfl rfl),λ hn t r b H' k eo et fr fb ne er eb=>a1 t _ _ _ H' ⟨k,eo,et⟩ (.dn hn r b rfl rfl rfl fr fb ne er eb)⟩
inductive Ys (K:PySem.W.Frag) (cW:Addr) (vs:List V) (H:Hp) (Q:VK):Prop
 | mk (o dx nt co:Addr) (sv:V) (st:Option (List Int)) (gs:List Gt) (sg xs:List Nat) (cs:List Int) (_:vs = [.ref o,.ref co]) (_:H o = some (.ins cW dx (flR sv nt))) (_:Fx K H nt gs sg xs) (_:StG K H st sv) (_:(st.getD []).length≤900) (_:SqL K H co (cs.map V.int)) (_:cs.length < 64) (_:∀ k,Fix gs st (nub cs) k→∀ t7 wd fv sv' HD,TkB H HD o cW dx nt t7 wd fv sv'→TkC k sg xs H HD sv wd fv sv'→Q (.ref t7) HD):Ys K cW vs H Q
def AdA (K:PySem.W.Frag) (cW:Addr):Sp:=λ vs H Q _=>Ys K cW vs H Q
section
variable {P:Program} {w:World} {K:PySem.W.Frag} {mg:Str→Option Value} {base:Heap} {cW cR cUn C aN:Addr}
seal PSs PS PE PA PT
theorem Adf (F:A2 K mg "signs_that_are" ["value", "known"] Dj) (T:Txt mg):Aj P w K mg base 1 "signs_that_are" ["value", "known"] (AbI K):=by
 refine F.ok L1 (λ vs H Q E h=>?_) (λ f cdv A outer s H vs Q E hr h=>?_)
 ·obtain ⟨v,kl,kn,rfl,_⟩:=h; rfl
 obtain ⟨v,kl,kn,rfl,hS,ln,q⟩:=h
 refine ⟨_,(Ae (Au (Cb (g:=(Wu K 2 (Ka (Bo 0) (Ka (Bo 1) Vz)))) (tc:=(Ip (tOp rEq (Bh 1) (Bh 2)))) (te:=(Bh 0)) ["sign", "one"] [("value", 0)] rfl (Bw (Ag Dj) ["value", "known"] (by decide +kernel)) (Jm rfl T.n_enumerate (Aa (pv 1) Ab)) (λ s2 H2 fp cl C=>C1 rfl (Bc (Aq (i:=0) (show Nodup [("sign" : Str),("one" : Str),("value" : Str)] from by decide +kernel) rfl (Or.inl rfl)) (Bc (Aq (i:=1) (show Nodup [("sign" : Str),("one" : Str),("value" : Str)] from by decide +kernel) rfl (Or.inl rfl)) Ch))) (M7 (by decide) (by decide)) (λ s2 H2 fp cl C=>Dm (Am A9 (pv 1) (pv 2) (Ap _))) (λ s2 H2 fp cl C=>(pv 0))))),?_⟩
 refine ⟨_,Z,kl,Z,⟨_,hS⟩,?_⟩
 refine Pi (K:=K) (xs:=kn.map vO) (λ i ys H'=>Same H H'∧ys = (((List.range i).filter (λ i=>decide ((kn[i]?).getD none = v))).map λ (i:Nat)=>(i:Int)).map V.int) ⟨Same.refl _,Z⟩ (by rw [hZ]; exact Eg (by omega)) (λ i ys H' ⟨g,_⟩=>g.seq hS) ?_ ?_
 ·rintro i x Tt ys H' Nx hi ⟨gx,rfl⟩ hT hN a1
  rw [iH] at hi
  cases e:kn[i]? with
  | none=>rw [e] at hi; cases hi
  | some o =>
   rw [e] at hi
   cases hi
   have gT:=Ac hT (.tup [.int i,vO o])
   have et:=Xj v kn i o e
   refine ⟨Tt,_,Z,SqT.of upd_same,Z,_,_,Z,_,_,Z,Z,?_⟩
   refine ⟨_,Z,_,Z,AcF o v,_,Z,?_⟩
   rw [AeF]
   refine Ay (λ c=>?_) (λ c=>?_)
   ·exact ⟨_,Z,hN _ _ (by rw [iB,iD]; omega) ⟨gx.trans gT,by rw [et,if_pos c,iM]; rfl⟩⟩
   ·exact hN _ _ (by omega) ⟨gx.trans gT,by rw [et,if_neg c]⟩
 ·rintro ys H' a1 ⟨gx,rfl⟩ D hD
  refine q D _ (gx.trans (Ac hD _)) (gx.free hD) ?_
  rw [upd_same,hZ]
  rfl
theorem Xm (F:A2 K mg "signs_there" ["known"] Fk) (T:Ki K mg cW cR cUn) (bH:Aj P w K mg base 1 "signs_that_are" ["value", "known"] (AbI K)):Lq P w K mg base 2 "signs_there" ["known"] (Qn K cUn):=by
 refine F.okX Ob (λ vs H Q E h=>?_) (λ f cdv A outer s H vs Q E hr h=>?_)
 ·obtain ⟨kl,kn,rfl,_⟩:=h; rfl
 obtain ⟨kl,kn,rfl,hS,hl,h⟩:=h
 refine ⟨_,(Ad (Bg (Am Dr B3 (pv 0) (by rfl))
   (Ae (AaK T.excU T.m_Un rfl (Aa Ao Ab)))
   A7)
  (Ae (Au (Av bH hr rfl Ai (Aa Ct (Aa (pv 0) Ab)))))),?_⟩
 refine ⟨_,Z,kl,_,Z,.inl hS,Z,Sz kn,_,Z,?_⟩
 dsimp only
 rw [if_neg Bool.false_ne_true,S9]
 rcases h with ⟨hn,e⟩ | ⟨hn,q⟩
 ·rw [iI hn]
  exact Dv ⟨by show 1≤sizeLine; decide,e _ (Same.refl _)⟩
 ·rw [iJ hn]
  exact Eb ⟨_,Z,some true,kl,kn,Z,hS,hl,λ r H' g f e=>q r H' g f e⟩
theorem AaT {f:Addr} {fd:FuncData} (F:Fun K "__init__" "Runner.__init__" L0 f fd) (T:Ki K mg cW cR cUn):Bl P w K mg base CX0 1 f fd ["self"] (λ vs H Q E=>AdB vs H Q E∧∃ o dx fs,vs = [.ref o]∧H o = some (.ins cW dx fs)):=by
 refine F.ok AaA (λ vs H Q E h=>?_) (λ cdv A outer s H vs Q E hr h=>?_)
 ·obtain ⟨⟨o,C,dx,fs,rfl,_⟩,_⟩:=h; rfl
 obtain ⟨⟨o,C,dx,fs,rfl,ho,hl,q⟩,o',a2,fs',e,a1⟩:=h
 cases e
 rw [ho] at a1
 cases a1
 refine ⟨_,(Ae (Br (pv 0) B3 rfl)),?_⟩
 exact ⟨_,Z,o,cW,dx,fs,Z,ho,T.cl,T.nR,hl,q⟩
theorem Aau {f g:Addr} {fd gd:FuncData} (F:Fun K "__init__" "Netted.__init__" Lx f fd) (T:Ki K mg cW cR cUn) (M:AbC K cR "__init__" g) (G:Bl P w K mg base CX0 1 g gd ["self"] (λ vs H Q E=>AdB vs H Q E∧∃ o dx fs,vs = [.ref o]∧H o = some (.ins cW dx fs))) (hb:Bi K gd ["self"] []):Bl P w K mg base CX0 2 f fd ["self", "net"] (Ac4 cW):=by
 refine F.ok Z7 (λ vs H Q E h=>?_) (λ cdv A outer s H vs Q E hr h=>?_)
 ·obtain ⟨o,dx,t,gl,sl,ln,te,gvs,svs,lvs,rfl,_⟩:=h; rfl
 obtain ⟨o,dx,t,gl,sl,ln,te,gvs,svs,lvs,rfl,ho,ht,hg,hs,hl,q⟩:=h
 refine ⟨_,(Ad (A0 (Zw (Bx (v:=.ref cR) rfl T.m_Runner rfl) M G hr hb Ai (Aa (pv 0) Ab)))
  (Ae (Br (pv 0) (A3 (Aa (Bu Df rfl T.n_list (by decide +kernel) (Aa (Ak Ar (pv 1) Af (λ _ _=>rfl)) Ab)) (Aa (Bu Df rfl T.n_list (by decide +kernel) (Aa (Ak Ar (pv 1) Af (λ _ _=>rfl)) Ab)) (Aa (Ak Ar (pv 1) Af (λ _ _=>rfl)) (Aa (Bu Df rfl T.n_list (by decide +kernel) (Aa (Ak Ar (pv 1) Af (λ _ _=>rfl)) Ab)) Ab))))) rfl))),?_⟩
 refine ⟨Z,_,Z,⟨o,cW,dx,[],Z,ho,(by show 0 < 1000; decide),?_⟩,o,dx,[],Z,ho⟩
 have k1:Kp o H (upd H o (.ins cW dx (A5 "reached" .non []))):=Kp.upd
 have a7:=upd_same (H:=H) (a:=o) (o:=.ins cW dx (A5 "reached" .non []))
 generalize upd H o (.ins cW dx (A5 "reached" .non [])) = H1 at *
 have a5:=k1 _ _ (Bd ht ho (by intro z; cases z)) ht
 have a9:=k1 _ _ (Bd hg ho (by intro z; cases z)) hg
 have a8:=k1 _ _ (Bd hs ho (by intro z; cases z)) hs
 have b1:=k1 _ _ (Bd hl ho (by intro z; cases z)) hl
 have fr:∀ {r:Addr},H1 r = none→H r = none:=λ {r} e=>by
  cases e':H r with
  | none=>rfl
  | some u =>
   by_cases z:r = o
   ·rw [z,a7] at e; cases e
   ·rw [k1 _ _ z e'] at e; cases e
 refine ⟨_,Z,t,_,_,_,Z,Z,SqT.of a5,Ah (j:=0) rfl,gl,_,Z,.inl (SqL.of a9),λ a1 n1=>?_⟩
 have g2:=Ac n1 (.lst gvs)
 refine ⟨_,Z,t,_,_,_,Z,Z,SqT.of (g2 _ _ a5),Ah (j:=1) rfl,sl,_,Z,.inl (SqL.of (g2 _ _ a8)),λ a2 n2=>?_⟩
 have g3:=g2.trans (Ac n2 (.lst svs))
 refine ⟨_,Z,t,_,_,_,Z,Z,SqT.of (g3 _ _ a5),Ah (j:=2) rfl,?_⟩
 refine ⟨_,Z,t,_,_,_,Z,Z,SqT.of (g3 _ _ a5),Ah (j:=3) rfl,ln,_,Z,.inl (SqL.of (g3 _ _ b1)),λ a3 n3=>⟨zN4,λ t' nt=>?_⟩⟩
 have a6:=(Ac n3 (.lst lvs)).trans (Ac nt (.tup [.ref a1,.ref a2,te,.ref a3]))
 have g4:=g3.trans a6
 have e1:=(Ac n2 (.lst svs)).trans a6 _ _ (upd_same (H:=H1) (a:=a1) (o:=.lst gvs))
 have e2:=a6 _ _ (upd_same (H:=upd H1 a1 (.lst gvs)) (a:=a2) (o:=.lst svs))
 have e3:=Ac nt (.tup [.ref a1,.ref a2,te,.ref a3]) _ _ (upd_same (H:=upd (upd H1 a1 (.lst gvs)) a2 (.lst svs)) (a:=a3) (o:=.lst lvs))
 have e4:=upd_same (H:=upd (upd (upd H1 a1 (.lst gvs)) a2 (.lst svs)) a3 (.lst lvs)) (a:=t') (o:=.tup [.ref a1,.ref a2,te,.ref a3])
 generalize upd (upd (upd (upd H1 a1 (.lst gvs)) a2 (.lst svs)) a3 (.lst lvs)) t' (.tup [.ref a1,.ref a2,te,.ref a3]) = H4 at *
 have a4:=g4 _ _ a7
 refine ⟨_,Z,o,cW,dx,_,Z,a4,T.cl,T.nN,(by show 1 < 1000; decide),?_⟩
 have k5:Kp o H4 (upd H4 o (.ins cW dx (flR .non t'))):=Kp.upd
 exact q t' a1 a2 a3 _ ((k1.trans (Same.kp g4)).trans k5) upd_same (k5 _ _ (Bd e4 a4 (by intro z; cases z)) e4) (k5 _ _ (Bd e1 a4 (by intro z; cases z)) e1) (k5 _ _ (Bd e2 a4 (by intro z; cases z)) e2) (k5 _ _ (Bd e3 a4 (by intro z; cases z)) e3) ⟨fr n1,fr (g2.free n2),fr (g3.free n3)⟩
theorem Aag {f:Addr} {fd:FuncData} (F:Fun K "state" "Runner.state" Ly f fd) (T:Ki K mg cW cR cUn):Bl P w K mg base CX0 1 f fd ["self"] (Oj K cW):=by
 refine F.ok Z6 (λ vs H Q E h=>?_) (λ cdv A outer s H vs Q E hr h=>?_)
 ·obtain ⟨o,dx,nt,sv,st,rfl,_⟩:=h; rfl
 obtain ⟨o,dx,nt,sv,st,rfl,ho,a1,q⟩:=h
 refine ⟨_,(Ae (Au (Dy (Am Ky (Al (pv 0) rfl) B3 (Ap _)) B3 (Bu Df rfl T.n_list (by decide +kernel) (Aa (Al (pv 0) rfl) Ab))))),?_⟩
 refine ⟨_,Z,o,cW,dx,_,sv,Z,ho,T.cl,T.nR,Z,Z,_,Z,?_⟩
 cases st with
 | none =>
  cases (show sv = .non from a1)
  exact Dv (q _ _ (Same.refl _) rfl)
 | some ns =>
  obtain ⟨a,rfl,hS⟩:=a1
  exact Eb ⟨_,Z,o,cW,dx,_,.ref a,Z,ho,T.cl,T.nR,Z,a,_,Z,.inl hS,λ l hl=>q _ _ (Ac hl _) ⟨l,Z,hl,upd_same⟩⟩
theorem AbZ {f:Addr} {fd:FuncData} (F:Fun K "done_with" "Netted.done_with" Jw f fd) (T:Ki K mg cW cR cUn) (TG:K0 K mg C aN) (cN:Lq P w K mg base 2 "signs_there" ["known"] (Qn K cUn)) (bT:Aj P w K mg base 4 "gates_settled" ["net", "state", "coming"] (AbU K C)):Bl P w K mg base (CX1 P w) 48 f fd ["self", "coming"] (Sb K cW cUn):=by
 refine F.okX Oo (λ vs H Q E h=>?_) (λ cdv A outer s H vs Q E hr h=>?_)
 ·obtain ⟨o,dx,nt,co,sv,st,gs,sg,xs,cs,rfl,_⟩:=h; rfl
 obtain ⟨o,dx,nt,co,sv,st,gs,sg,xs,cs,rfl,ho,hR,hI,h⟩:=h
 refine ⟨_,(Ad (Aw (i:=2) Oo.nd rfl (Or.inr rfl) (Al (Av bT hr rfl Ai (Aa (Al (pv 0) rfl) (Aa (Al (pv 0) rfl) (Aa (pv 1) Ab)))) rfl))
  (Ad (Aw (i:=3) Oo.nd rfl (Or.inl rfl) (Aas cN hr rfl (Aa (Cb (g:=(Bo 0)) (tc:=Cn) (te:=(tOp (Kt K) (Bh 1) (Bh 0))) ["gate"] [("known", 2)] rfl (Bw (Ag Jw) ["self", "coming", "known", "there"] (by decide +kernel)) (B9 (Ak Ar (Al (pv 0) rfl) Af (λ _ _=>rfl))) (λ s2 H2 fp cl C=>Aq (i:=0) (show Nodup [("gate" : Str),("known" : Str)] from by decide +kernel) rfl (Or.inl rfl)) (Bf (by decide)) (λ s2 H2 fp cl C=>Cs) (λ s2 H2 fp cl C=>(Ak Be (pv 1) (pv 0) (λ _ _=>rfl)))) Ab)))
  (Ae (Au (A3 (Aa (pv 3) (Aa (Cb (g:=(Wu K 2 (Ka (Bo 0) (Ka (Bo 1) Vz)))) (tc:=(Aah K (tOp (Kt K) (Bh 2) (Bh 1)))) (te:=(Bh 0)) ["rest", "gate"] [("known", 2)] rfl (Bw (Ag Jw) ["self", "coming", "known", "there"] (by decide +kernel)) (Jm rfl T.n_enumerate (Aa (Ak Ar (Al (pv 0) rfl) Af (λ _ _=>rfl)) Ab)) (λ s2 H2 fp cl C=>C1 rfl (Bc (Aq (i:=0) (show Nodup [("rest" : Str),("gate" : Str),("known" : Str)] from by decide +kernel) rfl (Or.inl rfl)) (Bc (Aq (i:=1) (show Nodup [("rest" : Str),("gate" : Str),("known" : Str)] from by decide +kernel) rfl (Or.inl rfl)) Ch))) (M7 (by decide) (by decide)) (λ s2 H2 fp cl C=>Dm (Ii (Ak Be (pv 2) (pv 1) (λ _ _=>rfl)) (λ _=>rfl))) (λ s2 H2 fp cl C=>(pv 0))) Ab))))))),?_⟩
 obtain ⟨gl,sl,ln,te,gvs,a6,hgl,G,b8,a8,sm,bs,bx,ls,lx⟩:=id hR
 refine ⟨_,Z,o,cW,dx,_,.ref nt,Z,ho,T.cl,T.nN,Z,_,Z,o,cW,dx,_,sv,Z,ho,T.cl,T.nR,Z,_,Z,nt,co,sv,gs,st,cs,Z,⟨gl,_,gvs,SqT.of a6,G,hgl,sm⟩,hI,λ so H1 gq=>?_⟩
 obtain ⟨c7,kl,ol,nl,ul,k,ord,u,g1,S,lk,m,hm,W⟩:=gq
 obtain ⟨b7,b4,hk,_⟩:=S
 have fx:Fix gs st cs k:=⟨lk,W.der,W.val hm⟩
 refine ⟨so,C,b7,_,.ref kl,Z,b4,TG.cl,TG.nK,Z,?_⟩
 have b3:=g1 _ _ ho
 have b1:=g1 _ _ a6
 have a4:=g1 _ _ b8
 have c6:=g1 _ _ a8
 refine ⟨_,Z,o,cW,dx,_,.ref nt,Z,b3,T.cl,T.nN,Z,nt,_,_,_,Z,Z,SqT.of b1,Ah (j:=1) rfl,sl,Z,⟨_,SqL.of a4⟩,Ci (K:=K) (xs:=C7 sg) (λ i ys H'=>H' = H1∧ys = (sgv k (sg.take i)).map vO) ⟨Z,Z⟩ (by unfold C7; rw [hZ]; exact Eg (by omega)) (λ i ys H' hh=>by rw [hh.1]; exact SqL.of a4) ?_ ?_⟩
 ·rintro i x ys H' N hi ⟨rfl,rfl⟩ hN a5
  have a1:i < sg.length:=by have:=(List.getElem?_eq_some_iff.mp hi).1; unfold C7 at this; rwa [hZ] at this
  unfold C7 at hi
  rw [iH,hX a1] at hi
  cases hi
  have hb:=bs _ (jJ a1)
  refine ⟨_,Z,_,Z,kl,_,_,_,Z,Z,SqL.of hk,Ah (No (by omega)),hN _ _ (by rw [iB,iD]; omega) ⟨Z,?_⟩⟩
  unfold sgv
  rw [iV,hX a1,iM,iM]
  rfl
 rintro ys H2 a5 ⟨b2,rfl⟩ D hD
 subst b2
 have eL:(C7 sg).length = sg.length:=by unfold C7; rw [hZ]
 rw [eL,take_length]
 have g2:=Ac hD (.lst ((sgv k sg).map vO))
 have eD:=upd_same (H:=H2) (a:=D) (o:=.lst ((sgv k sg).map vO))
 generalize upd H2 D (.lst ((sgv k sg).map vO)) = H3 at *
 have a7:=g1.trans g2
 refine ⟨D,sgv k sg,Z,SqL.of eD,by unfold sgv; rw [hZ]; exact ls,?_⟩
 rcases h k fx with ⟨hn,e⟩ | ⟨hn,q⟩
 ·exact .inl ⟨hn,λ H' g=>e _ (a7.trans g)⟩
 refine .inr ⟨hn,λ r H4 g4 f4 e4=>?_⟩
 have a2:=a7.trans g4
 have b5:=g4 _ _ (g2 _ _ hk)
 have b9:=a2 _ _ ho
 have a9:=a2 _ _ a6
 have a3:=a2 _ _ a8
 refine ⟨_,Z,_,Z,o,cW,dx,_,.ref nt,Z,b9,T.cl,T.nN,Z,nt,_,_,_,Z,Z,SqT.of a9,Ah (j:=3) rfl,ln,Z,⟨_,SqL.of a3⟩,Pi (K:=K) (xs:=C7 xs) (λ i ys H'=>Same H4 H'∧ys = (((List.range i).filter (nxB k xs)).map λ (i:Nat)=>(i:Int)).map V.int) ⟨Same.refl _,Z⟩ (by unfold C7; rw [hZ]; exact Eg (by omega)) (λ i ys H' hh=>SqL.of (hh.1 _ _ a3)) ?_ ?_⟩
 ·rintro i x Tt ys H' Nx hi ⟨gx,rfl⟩ hT hN a5
  have a1:i < xs.length:=by have:=(List.getElem?_eq_some_iff.mp hi).1; unfold C7 at this; rwa [hZ] at this
  unfold C7 at hi
  rw [iH,hX a1] at hi
  cases hi
  have hb:=bx _ (jJ a1)
  have gT:=Ac hT (.tup [.int i,.int (xs[i]:Nat)])
  have c5:=gT _ _ (gx _ _ b5)
  have fl:(((List.range (i + 1)).filter (nxB k xs)).map λ (i:Nat)=>(i:Int)).map V.int = (((List.range i).filter (nxB k xs)).map λ (i:Nat)=>(i:Int)).map V.int ++ (if (knL k xs[i]).getD false = true then [V.int (i:Int)] else []):=by
   have eb:nxB k xs i = (knL k xs[i]).getD false:=by unfold nxB; rw [List.getD_eq_getElem?_getD,hX a1]; rfl
   rw [range_succ,jM,iM,iM]
   congr 1
   cases e:(knL k xs[i]).getD false <;> simp [eb,e]
  refine ⟨Tt,_,Z,SqT.of upd_same,Z,_,_,Z,_,_,Z,Z,?_⟩
  refine ⟨_,Z,_,Z,kl,_,_,_,Z,Z,SqL.of c5,Ah (No (by omega)),_,Qy _,?_⟩
  refine Ay (λ c=>?_) (λ c=>?_)
  ·exact ⟨_,Z,hN _ _ (by rw [iB,iD]; omega) ⟨gx.trans gT,by rw [fl,if_pos c]⟩⟩
  ·exact hN _ _ (by omega) ⟨gx.trans gT,by rw [fl,if_neg c,jI]⟩
 rintro ys H5 a5 ⟨gx,rfl⟩ b hb
 have eX:(C7 xs).length = xs.length:=by unfold C7; rw [hZ]
 rw [eX]
 have g5:=Ac hb (.lst ((nxv k xs).map V.int))
 refine ⟨zN2,λ t b6=>?_⟩
 have g6:=Ac b6 (.tup [.ref r,.ref b])
 exact q t r b _ ((a2.trans gx).trans (g5.trans g6)) upd_same (a7.free f4) ((a2.trans gx).free hb) (λ z=>by rw [z] at e4; rw [gx _ _ e4] at hb; cases hb) (g6 _ _ (g5 _ _ (gx _ _ e4))) (g6 _ _ upd_same)
theorem Abn {f:Addr} {fd:FuncData} (F:Fun K "tick" "Runner.tick" Nt f fd) (T:Ki K mg cW cR cUn) (dX:Lo P w K mg base 48 cW "done_with" ["self", "coming"] (Sb K cW cUn)):Bl P w K mg base (CX1 P w) 49 f fd ["self", "coming"] (Sc K cW cUn):=by
 refine F.okX S3 (λ vs H Q E h=>?_) (λ cdv A outer s H vs Q E hr h=>?_)
 ·obtain ⟨o,dx,nt,co,sv,st,gs,sg,xs,cs,rfl,_⟩:=h; rfl
 obtain ⟨o,dx,nt,co,sv,st,gs,sg,xs,cs,rfl,ho,hR,a3,lst,hS,hl,h⟩:=h
 refine ⟨_,(Ad (Aw (i:=2) S3.nd rfl (Or.inl rfl) (Aa6 dX hr (pv 0) (Aa (Oc rfl rfl T.n_sorted rfl T.n_set (pv 1)) Ab)))
  (Ad (Br (pv 0) (Ak Ar (pv 2) Af (λ _ _=>rfl)) rfl)
  (Ae (Au (Ak Ar (pv 2) Af (λ _ _=>rfl)))))),?_⟩
 refine ⟨_,Z,o,dx,_,Z,ho,Z,_,Z,co,cs,Z,hS,hl,λ c1 a5=>?_⟩
 have k1:=Ac a5 (.lst ((nub cs).map V.int))
 have ln:=Ty cs
 refine ⟨o,dx,nt,c1,sv,st,gs,sg,xs,nub cs,Z,k1 _ _ ho,hR.same k1,⟨Di k1 a3,lst,SqL.of upd_same,by omega⟩,λ k fx=>?_⟩
 rcases h k fx with ⟨hn,e⟩ | ⟨hn,q⟩
 ·exact .inl ⟨hn,λ H' g=>e _ (k1.trans g)⟩
 refine .inr ⟨hn,λ t r b H2 g2 et fr fb ne er eb=>?_⟩
 have a2:=k1.trans g2
 have a1:=a2 _ _ ho
 refine ⟨_,Z,t,_,_,.ref b,Z,Z,SqT.of et,Ah (j:=1) rfl,_,Z,o,cW,dx,_,Z,a1,T.cl,T.nR,(by show 2 < 1000; decide),?_⟩
 have a4:t≠o:=λ z=>by rw [z,a1] at et; cases et
 have nr:r≠o:=λ z=>by rw [z,a1] at er; cases er
 have nb:b≠o:=λ z=>by rw [z,a1] at eb; cases eb
 refine ⟨_,Z,t,_,_,.ref r,Z,Z,SqT.of (by rw [upd_ne a4]; exact et),Ah (j:=0) rfl,?_⟩
 exact q r b _ (λ c u hc e=>by rw [upd_ne hc]; exact a2 _ _ e) upd_same (k1.free fr) (k1.free fb) ne (by rw [upd_ne nr]; exact er) (by rw [upd_ne nb]; exact eb)
theorem Aea (F:A2 K mg "_law_tick" ["_law_runner", "_law_coming_here"] Gv) (T:Ki K mg cW cR cUn) (hx:exmOne K (.ref cUn) (.ref cUn) = some true) (gP:Lo P w K mg base 49 cW "tick" ["self", "coming"] (Sc K cW cUn)):Aj P w K mg base 50 "_law_tick" ["_law_runner", "_law_coming_here"] (AdA K cW):=by
 refine F.ok Ez (λ vs H Q E h=>?_) (λ f cdv A outer s H vs Q E hr h=>?_)
 ·obtain ⟨o,dx,nt,co,sv,st,gs,sg,xs,cs,rfl,_⟩:=h; rfl
 obtain ⟨o,dx,nt,co,sv,st,gs,sg,xs,cs,rfl,ho,hR,a1,lst,hS,hl,h⟩:=h
 refine ⟨_,(Ad (Aw (i:=2) Ez.nd rfl (Or.inl rfl) Ao)
  (Ad (Aw (i:=3) Ez.nd rfl (Or.inl rfl) B3)
  (Ad (Adm (AcY (i:=3) (AcC gP hr (pv 0) (Aa (pv 1) Ab)) Ez.nd rfl (Or.inl rfl)) (Abl T.m_Un rfl (λ u=>Ae (Aw (i:=2) Ez.nd rfl (Or.inl rfl) Ao)) Acn) rfl rfl)
  (Ae (Au (A3 (Aa (pv 2) (Aa (pv 3) Ab)))))))),?_⟩
 refine ⟨_,Z,o,dx,_,Z,ho,Z,_,Z,o,dx,nt,co,sv,st,gs,sg,xs,cs,Z,ho,hR,a1,lst,hS,hl,λ k fx=>?_⟩
 obtain ⟨hU,hD⟩:=Ab9 ho (h k fx)
 by_cases hn:none∈sgv k sg
 ·refine .inl ⟨hn,λ H' g=>⟨cUn,Z,.inl ⟨hx,?_⟩⟩⟩
  exact ⟨_,Z,_,Z,zN2,λ t ht=>hU hn t _ (g.trans (Ac ht _)) upd_same⟩
 ·refine .inr ⟨hn,λ r b H' k eo fr fb ne er eb=>?_⟩
  refine ⟨_,Z,_,Z,zN2,λ t ht=>?_⟩
  have kt:=Ac ht (.tup [.str "done", .ref r])
  exact hD hn t r b _ (λ c u hc e=>kt _ _ (k c u hc e)) (kt _ _ eo) upd_same fr fb ne (kt _ _ er) (kt _ _ eb)
end
inductive Tq (K:PySem.W.Frag) (vs:List V) (H:Hp) (Q:VK):Prop
 | mk (a:Addr) (ns:List Int) (_:vs = [.ref a]) (_:SqL K H a (ns.map V.int)) (_:ns.length≤63) (_:∀ H',Q (.bl true) H'):Tq K vs H Q
def P9 (K:PySem.W.Frag):Sp:=λ vs H Q _=>Tq K vs H Q
def Kf (z:Int) (i:Nat):Bool:=decide (V.int (z / 7 / (1 * 2 ^ ((0:Int) + (i:Int)).toNat) % 2) = V.int 1)
def Kk (c:Int) (n:Nat):List Int:=((List.range n).filter (Kf (Hs c))).map λ (i:Nat)=>(i:Int)
theorem Wb (c:Int) (n:Nat):(Kk c n).Pairwise (· < ·):=by
 unfold Kk
 rw [List.pairwise_map]
 exact (List.pairwise_lt_range.filter _).imp λ {a b} h=>by omega
theorem Xz (c:Int) (n:Nat):(Kk c n).length≤n:=by
 unfold Kk
 rw [hZ]
 exact iW (length_filter_le _ _) (by rw [jF]; exact iX _)
inductive Qd  (vs:List V) (H:Hp) (Q:VK):Prop
 | mk (m:Int) (n:Nat) (_:vs = [.int m,.int n]) (_:n≤30) (_:∀ r,H r = none→Q (.ref r) (upd H r (.lst ((Kk m n).map V.int)))):Qd  vs H Q
def Xo:Sp:=λ vs H Q _=>Qd  vs H Q
theorem AbJ {K:PySem.W.Frag} {H:Hp} {st:Option (List Int)} {v u:V} {Q:VK} (h1:StG K H st v) (h2:StG K H st u) (q:Q (.bl false) H):rNe v u H Q∨Wj K true v u H Q:=by
 cases st with
 | none =>
  cases (show v = .non from h1)
  cases (show u = .non from h2)
  exact .inl ⟨Z,q⟩
 | some ns =>
  obtain ⟨a,rfl,s1⟩:=h1
  obtain ⟨b,rfl,s2⟩:=h2
  refine .inr ⟨a,b,ns,ns,Z,Z,s1,s2,?_⟩
  rw [if_pos rfl,iI rfl]
  exact q
theorem AeE {K:PySem.W.Frag} {H:Hp} {st:Option (List Int)} {v u:V} {Q:VK} (h1:StG K H st v) (h2:StG K H st u) (q:Q (.bl true) H):rEq v u H Q∨Wj K false v u H Q:=by
 cases st with
 | none =>
  cases (show v = .non from h1)
  cases (show u = .non from h2)
  exact .inl ⟨Z,q⟩
 | some ns =>
  obtain ⟨a,rfl,s1⟩:=h1
  obtain ⟨b,rfl,s2⟩:=h2
  refine .inr ⟨a,b,ns,ns,Z,Z,s1,s2,?_⟩
  rw [if_neg Bool.false_ne_true,iI rfl]
  exact q
theorem Rf.st {K:PySem.W.Frag} {H H':Hp} {st:Option (List Int)} {v:V} (h:Rf H H' st v):StG K H' st v:=by
 cases st with
 | none=>exact h
 | some ns=>obtain ⟨r,e,_,e2⟩:=h; exact ⟨r,e,SqL.of e2⟩
theorem Tb {K:PySem.W.Frag} {H H':Hp} {o C dx:Addr} {fs:List (Str× V)} {st:Option (List Int)} {v:V} (k:Kp o H H') (ho:H o = some (.ins C dx fs)) (h:StG K H st v):StG K H' st v:=by
 cases st with
 | none=>exact h
 | some ns=>obtain ⟨a,e,s⟩:=h; exact ⟨a,e,k.sq ho s⟩
theorem W9 (xs:List V) (j:Nat):Fm xs none (some (j:Int)) = xs.take j:=by
 unfold Fm
 rw [HT.Aed,HT.Ae8,List.drop_zero,Nat.sub_zero]
 rcases le_total j xs.length with h | h
 ·rw [Nat.min_eq_left h]
 ·rw [Nat.min_eq_right h,take_length,iP h]
def Je (cs:List Int) (j:Nat):List Int:=cs.reverse ++ cs.take j
theorem Zp {cs:List Int} (h:cs.Pairwise (· < ·)) (j:Nat):nub (Je cs j) = cs :=
 (Yj h λ k=>by
  unfold Je
  rw [iU,List.mem_reverse]
  exact ⟨.inl,λ z=>z.elim id λ y=>mem_of_mem_take y⟩).symm
theorem AaJ (cs:List Int) (j:Nat):(cs.map V.int).reverse ++ (cs.take j).map V.int = (Je cs j).map V.int:=by
 unfold Je
 rw [iM,List.map_reverse]
theorem Aa7 (cs:List Int) (j:Nat) (h:cs.length≤30):(Je cs j).length < 64:=by
 unfold Je
 rw [iB,length_reverse,jE]
 omega
theorem AaR {kn:List (Option Bool)} (h:¬ none∈kn):Cr (some true) kn = ((List.range kn.length).filter λ i=>((kn[i]?).getD none).getD false).map λ (i:Nat)=>(i:Int):=by
 unfold Cr
 congr 1
 refine List.filter_congr λ i hi=>?_
 have hi:i < kn.length:=mem_range.mp hi
 rw [hX hi]
 cases e:kn[i] with
 | none=>exact absurd (e ▸ jJ hi) h
 | some b=>cases b <;> rfl
theorem Z5 (v:Option Bool) (kn:List (Option Bool)):(Cr v kn).length≤kn.length:=by
 unfold Cr
 rw [hZ]
 exact iW (length_filter_le _ _) (by rw [jF]; exact iX _)
def AeP (K:PySem.W.Frag):List V→Hp→VK→Prop:=λ xs H Q=>∃ x D t b,xs = [x,.ref D]∧F4 K H x t∧kitOne K t (.ref D) = some b∧Q (.bl b) H
theorem Qh {X:Cx}:Es X (.builtin "isinstance") (AeP X.K):=by
 intro pins s σ H xs us Q I r h
 obtain ⟨x,D,t,b,rfl,ty,e,q⟩:=h
 obtain ⟨u,v,rfl,ru,rv⟩:=r.two
 cases rv
 exact Pb I ru ty e λ tk=>⟨.bl b,H,I.tok _,Z,q⟩
def gtW (w:Str) (ns:List Int):Gt:=if w = "start" then .start else if w = "memory" then .mem (ns.headD 0) else if w = "given" then .given (ns.headD 0) else if w = "not" then .nt (ns.headD 0).toNat else if w = "all" then .all (ns.map Int.toNat) else .som (ns.map Int.toNat)
def gtOf (g:Gw):Gt:=gtW g.1 g.2
theorem Td {l:List Int} (h:∀ x∈l,0≤x):(l.map Int.toNat).map Int.ofNat = l:=by
 rw [map_map]
 conv=>rhs; rw [← List.map_id l]
 refine List.map_congr_left λ x hx=>?_
 have:=h x hx
 show ((x.toNat:Nat):Int) = x
 omega
structure Aeu (c:Nat) (g:Gw):Prop where
 w:(gtOf g).word = g.1
 a:(gtOf g).args = g.2
 l:(gtOf g).nums.length≤g.2.length
 b:∀ x∈(gtOf g).nums,x < c
theorem Od {n m c:Nat} {g:Gw} (h:FmG n m c g):Aeu c g:=by
 obtain ⟨w,ns⟩:=g
 have wf:∀ {ns:List Int},(∀ x∈ns,0≤x∧x < c)→(ns.map Int.toNat).length≤ns.length∧∀ x∈ns.map Int.toNat,x < c:=λ h=>⟨by rw [hZ]; exact iX _,λ x hx=>by obtain ⟨y,hy,rfl⟩:=jS.mp hx; have:=h y hy; omega⟩
 rcases h with ⟨e,e2⟩ | ⟨e,k,e2,_⟩ | ⟨e,k,e2,_⟩ | ⟨e | e | ⟨e,e3⟩,e2⟩
 ·cases (show w = "start" from e)
  cases (show ns = [] from e2)
  have z:gtOf (("start" : Str),([]:List Int)) = .start:=by show gtW "start" ([]:List Int) = _; unfold gtW; rw [if_pos rfl]
  exact ⟨by rw [z]; rfl,by rw [z]; rfl,by rw [z]; exact iX _,by rw [z]; exact λ x hx=>nomatch hx⟩
 ·cases (show w = "memory" from e)
  cases (show ns = [k] from e2)
  have z:gtOf (("memory" : Str),[k]) = .mem k:=by show gtW "memory" [k] = _; unfold gtW; rw [if_neg (by decide +kernel),if_pos rfl]; rfl
  exact ⟨by rw [z]; rfl,by rw [z]; rfl,by rw [z]; exact jX _,by rw [z]; exact λ x hx=>nomatch hx⟩
 ·cases (show w = "given" from e)
  cases (show ns = [k] from e2)
  have z:gtOf (("given" : Str),[k]) = .given k:=by show gtW "given" [k] = _; unfold gtW; rw [if_neg (by decide +kernel),if_neg (by decide +kernel),if_pos rfl]; rfl
  exact ⟨by rw [z]; rfl,by rw [z]; rfl,by rw [z]; exact jX _,by rw [z]; exact λ x hx=>nomatch hx⟩
 ·cases (show w = "all" from e)
  have z:gtOf (("all" : Str),ns) = .all (ns.map Int.toNat):=by show gtW "all" ns = _; unfold gtW; rw [if_neg (by decide +kernel),if_neg (by decide +kernel),if_neg (by decide +kernel),if_neg (by decide +kernel),if_pos rfl]
  exact ⟨by rw [z]; rfl,by rw [z]; exact Td λ x hx=>(e2 x hx).1,by rw [z]; exact (wf e2).1,by rw [z]; exact (wf e2).2⟩
 ·cases (show w = "some" from e)
  have z:gtOf (("some" : Str),ns) = .som (ns.map Int.toNat):=by show gtW "some" ns = _; unfold gtW; rw [if_neg (by decide +kernel),if_neg (by decide +kernel),if_neg (by decide +kernel),if_neg (by decide +kernel),if_neg (by decide +kernel)]
  exact ⟨by rw [z]; rfl,by rw [z]; exact Td λ x hx=>(e2 x hx).1,by rw [z]; exact (wf e2).1,by rw [z]; exact (wf e2).2⟩
 ·cases (show w = "not" from e)
  obtain ⟨k,rfl⟩:∃ k,ns = [k]:=by
   cases ns with
   | nil=>cases e3
   | cons a r=>cases r with
    | nil=>exact ⟨a,rfl⟩
    | cons _ _=>simp at e3
  have hk:=e2 k iE
  have z:gtOf (("not" : Str),[k]) = .nt k.toNat:=by show gtW "not" [k] = _; unfold gtW; rw [if_neg (by decide +kernel),if_neg (by decide +kernel),if_neg (by decide +kernel),if_pos rfl]; rfl
  exact ⟨by rw [z]; rfl,by rw [z]; show [((k.toNat:Nat):Int)] = [k]; rw [show ((k.toNat:Nat):Int) = k by omega],by rw [z]; exact iX _,by rw [z]; intro x hx; rw [mS hx]; omega⟩
def gtsOf (s:Ws):List Gt:=s.gs.map gtOf
theorem Uy (f:Nat→Nat) (b:Nat) (h:∀ x,f x≤b):∀ l:List Nat,(l.map f).sum≤b * l.length
 | []=>jX _
 | x :: l=>by
  have:=Uy f b h l
  have:=h x
  rw [jR,sum_cons,iT,Nat.mul_add]
  omega
theorem Adi {n m:Nat} {s:Ws} (h:∀ g∈s.gs,FmG n m s.gs.length g∧g.2.length≤1000) (hl:s.gs.length≤16000):SmG (gtsOf s)∧∀ G∈gtsOf s,G.nums.length≤1000:=by
 have le:(gtsOf s).length = s.gs.length:=hZ _
 have b1:∀ G∈gtsOf s,G.nums.length≤1000:=λ G hG=>by
  obtain ⟨g,hg,rfl⟩:=jS.mp hG
  exact iW (Od (h g hg).1).l (h g hg).2
 refine ⟨⟨λ i G e c hc=>?_,by rw [le]; exact hl,λ i hi=>?_⟩,b1⟩
 ·obtain ⟨g,hg,rfl⟩:=jS.mp (iN e)
  rw [le]
  exact (Od (h g hg).1).b c hc
 ·have:=Uy (λ g=>(numsAt (gtsOf s) g).length) 1000 (λ g=>by
   unfold numsAt
   cases e:(gtsOf s)[g]? with
   | none=>exact jX _
   | some G=>exact b1 G (iN e)) (List.range (i + 1))
  rw [jF] at this
  omega
theorem Ab6 {K:PySem.W.Frag} {H:Hp} {gl:Addr} {gvs:List V} {n m:Nat} {s:Ws} (h:∀ g∈s.gs,FmG n m s.gs.length g∧g.2.length≤1000) (hg:H gl = some (.lst gvs)) (hp:PySem.Paired (GwAt H) s.gs gvs):GsAt K H gl (gtsOf s):=by
 refine ⟨gvs,SqL.of hg,?_,λ i v G e1 e2=>?_⟩
 ·rw [← PySem.Paired.length hp]; exact (hZ _).symm
 ·unfold gtsOf at e2
  rw [iH] at e2
  cases e:s.gs[i]? with
  | none=>rw [e] at e2; cases e2
  | some g =>
   rw [e] at e2
   cases e2
   obtain ⟨y,f1,t,u,rfl,h1,h2⟩:=Bn hp e
   rw [e1] at f1
   cases f1
   have ok:=Od (h g (iN e)).1
   exact ⟨t,u,Z,by rw [ok.w]; exact SqT.of h1,by rw [ok.a]; exact SqT.of h2⟩
theorem Acm {l:List Int} (h:∀ x∈l,0≤x):l.map V.int = C7 (l.map Int.toNat):=by
 unfold C7
 rw [map_map]
 refine List.map_congr_left λ x hx=>?_
 have:=h x hx
 show V.int x = V.int ((x.toNat:Nat):Int)
 rw [show ((x.toNat:Nat):Int) = x by omega]
theorem Fx.of {K:PySem.W.Frag} {C:Addr} {H H':Hp} {n m l d:Nat} {s:Ws} {nx:List Int} {L:Lc} {o nt gl sl ln:Addr} {te:V} {gvs:List V} (W:Bk C H o L n s) (R:AdE n m s nx l d) (a3:H L.gl = some (.lst gvs)) (g:Tp H H') (hn:n≤10) (hd:d≤16000) (hw:l≤60) (h:H' nt = some (.tup [.ref gl,.ref sl,te,.ref ln])) (hg:H' gl = some (.lst gvs)) (hs:H' sl = some (.lst ((List.range n).map λ (i:Nat)=>V.int (i:Int)))) (hl:H' ln = some (.lst (nx.map V.int))) :
  Fx K H' nt (gtsOf s) (List.range n) (nx.map Int.toNat)∧∀ G∈gtsOf s,G.nums.length≤1000:=by
 have hi:=R.hi
 obtain ⟨a4,_,a2,hp,_⟩:=id W
 rw [a3] at a2
 cases a2
 obtain ⟨sm,b1⟩:=Adi R.g (by omega)
 have le:(gtsOf s).length = s.gs.length:=hZ _
 have a1:∀ x∈nx,0≤x∧x < s.gs.length:=R.nr
 refine ⟨⟨gl,sl,ln,te,gvs,h,hg,Ab6 R.g hg (Paired.mapP hp λ _ _ a=>a.mono g),hs,by rw [hl,Acm λ x hx=>(a1 x hx).1],sm,λ x hx=>?_,λ x hx=>?_,by rw [jF]; omega,by rw [hZ,R.ln]; omega⟩,b1⟩
 ·have:=mem_range.mp hx
  have:=R.lo
  omega
 ·obtain ⟨y,hy,rfl⟩:=jS.mp hx
  have:=a1 y hy
  omega
inductive LpI (K:PySem.W.Frag) (H3:Hp) (cW a pr o t2 T2:Addr) (nt:Addr) (m:Nat) (xl:Nat) (σ:St) (H':Hp):Prop
 | mk (dx:Addr) (sv lv:V) (st:Option (List Int)) (x7 x8 x9 x10 x11 x12 x13:Option V) (e:σ = [some (.ref a),some (.ref pr),some (.int (m:Int)),some (.ref t2),some (.ref T2),some (.ref o),some lv,x7,x8,x9,x10,x11,x12,x13]) (k:Kp o H3 H') (ho:H' o = some (.ins cW dx (flR sv nt))) (hs:StG K H' st sv) (hl:StG K H' st lv) (ls:(st.getD []).length≤900):LpI K H3 cW a pr o t2 T2 nt m xl σ H'
theorem AcR (k:List (Option Bool)) (xs:List Nat):(nxv k xs).length≤xs.length:=by
 unfold nxv
 rw [hZ]
 exact iW (length_filter_le _ _) (by rw [jF]; exact iX _)
theorem Ut {o C dx r:Addr} {fs:List (Str× V)} {H H':Hp} (k:Kp o H H') (ho:H' o = some (.ins C dx fs)) (h:H' r = none):H r = none:=by
 cases e:H r with
 | none=>rfl
 | some u =>
  by_cases z:r = o
  ·rw [z,ho] at h; cases h
  ·rw [k _ _ z e] at h; cases h
theorem Mm {o r:Addr} {u:HO} {H H':Hp} (k:Kp o H H') (f:H r = none):Kp o H (upd H' r u):=λ b v nb e=>by
 rw [upd_ne (λ z=>by rw [z,f] at e; cases e)]
 exact k b v nb e
section
variable {P:Program} {w:World} {K:PySem.W.Frag} {mg:Str→Option Value} {base:Heap} {cW cR cUn C CP aN:Addr}
seal PSs PS PE PA PT
theorem AcL (F:A2 K mg "_law_coming" ["_law_cell", "_law_came"] En) (T:Txt mg) (aH:Aj P w K mg base 1 "_law_mixed" ["_law_cell"] Jl):Aj P w K mg base 2 "_law_coming" ["_law_cell", "_law_came"] Xo:=by
 refine F.ok Ji (λ vs H Q E h=>?_) (λ f cdv A outer s H vs Q E hr h=>?_)
 ·obtain ⟨m,n,rfl,_⟩:=h; rfl
 obtain ⟨m,n,rfl,hn,q⟩:=h
 refine ⟨_,(Ad (Aw (i:=2) Ji.nd rfl (Or.inr rfl) (Av aH hr rfl Ai (Aa (pv 0) Ab)))
  (Ae (Au (Cb (g:=(Bo 0)) (tc:=(Ip (tOp rEq (tOp (rI (λ _ j=>0 < j) λ i j=>.int (i % j)) (tOp (rI Aat λ i j=>.int (i / j)) (tOp (rI Aat λ i j=>.int (i / j)) (Bh 1) (tC (.int 7))) (tOp (rI Aco λ i j=>.int (i * 2 ^ j.toNat)) (tC (.int 1)) (Bh 0))) (tC (.int 2))) (tC (.int 1))))) (te:=(Bh 0)) ["_law_sign"] [("_law_seed", 2)] rfl (Bw (Ag En) ["_law_cell", "_law_came", "_law_seed"] (by decide +kernel)) (Fp rfl T.n_range (Aa (pv 1) Ab)) (λ s2 H2 fp cl C=>Aq (i:=0) (show Nodup [("_law_sign" : Str),("_law_seed" : Str)] from by decide +kernel) rfl (Or.inl rfl)) (Bf (by decide)) (λ s2 H2 fp cl C=>Dm (Am A9 (A8 Ck (A8 Do (A8 Do (pv 1) Af) (A8 Acs Af (pv 0))) Af) Af (Ap _))) (λ s2 H2 fp cl C=>(pv 0)))))),?_⟩
 refine ⟨_,Z,m,Z,?_⟩
 refine ⟨_,Z,_,Z,by omega,by omega,?_⟩
 dsimp only
 rw [Int.toNat_natCast]
 refine Fy (λ i ys H'=>H' = H∧ys = ((List.range i).filter (Kf (Hs m))).map λ (i:Nat)=>V.int (i:Int)) ⟨Z,Z⟩ (Eg (by omega)) ?_ ?_
 ·rintro i ys H' N hi ⟨rfl,rfl⟩ hN a1
  have p1:(0:Int) < 1 * 2 ^ ((0:Int) + (i:Int)).toNat:=by
   rw [Int.one_mul]; exact Int.pow_pos (by decide)
  have p2:(1:Int) * 2 ^ ((0:Int) + (i:Int)).toNat < 1073741824:=by
   rw [Int.one_mul,show ((0:Int) + (i:Int)).toNat = i by omega]
   have h1:(2:Nat) ^ i < 1073741824:=iY (Nat.pow_lt_pow_right (by decide) (show i < 30 by omega)) (by decide)
   have h2:((2 ^ i:Nat):Int) < ((1073741824:Nat):Int):=Int.ofNat_lt.mpr h1
   rw [Int.natCast_pow] at h2
   exact h2
  refine ⟨_,Z,_,_,Z,Z,⟨by decide,by decide⟩,_,Z,_,_,Z,Z,⟨by show (0:Int)≤0 + i; omega,by show (0:Int) + i≤1000000; omega,by decide⟩,_,_,Z,Z,⟨p1,p2⟩,_,_,Z,Z,(by show (0:Int) < 2; decide),Z,_,Z,?_⟩
  have fl:(List.range (i + 1)).filter (Kf (Hs m)) = (List.range i).filter (Kf (Hs m)) ++ (if Kf (Hs m) i = true then [i] else []):=by
   rw [range_succ,jM]
   simp only [filter_cons,List.filter_nil]
  refine Ay (λ c=>?_) (λ c=>?_)
  ·refine ⟨_,Z,hN _ _ ?_ ⟨Z,?_⟩⟩
   ·rw [iB,iD]; omega
   ·rw [fl,if_pos (show Kf (Hs m) i = true from c),iM]
    show _ ++ [V.int (0 + (i:Int))] = _ ++ [V.int (i:Int)]
    rw [Int.zero_add]
  ·refine hN _ _ (by omega) ⟨Z,?_⟩
   rw [fl,if_neg (show ¬ Kf (Hs m) i = true from c),jI]
 ·rintro ys H' a1 ⟨rfl,rfl⟩ D hD
  have:=q D hD
  unfold Kk at this
  rw [map_map] at this
  exact this
theorem Adh {f fN:Addr} {fd h7:FuncData} (F:Fun K "law" "law" Go f fd) (T:Txt mg) (TM:Ki K mg cW cR cUn) (q1:Mk K cW fN) (GN:Bl P w K mg base CX0 2 fN h7 ["self", "net"] (Ac4 cW)) (bN:Bi K h7 ["self", "net"] []) (cE:A4 P w K mg base 1 cW "state" ["self"] (Oj K cW)) (dY:Aj P w K mg base 50 "_law_tick" ["_law_runner", "_law_coming_here"] (AdA K cW)) (o2:kitOne K (.ref cW) (.ref cR) = some true) (m7:findIn K (.ref cW) "__class__" = some (some (.builtin "object.__class__"))) (n9:specialIn K (.builtin "object.__class__") "__get__" = some (some (.builtin "getset_descriptor.__get__"))) (htk:takesIn K (.builtin "object.__class__") = some true) (l9:mroIn K cW (.type "object") = some true)
  (cG:Aj P w K mg base 64 "_law_program" ["_law_script", "_law_most"] (Xy K)) (fZ:Aj P w K mg base 70 "net_of" ["program"] (AbP K C 63)) (aH:Aj P w K mg base 1 "_law_mixed" ["_law_cell"] Jl) (cO:Aj P w K mg base 2 "_law_coming" ["_law_cell", "_law_came"] Xo) (dB:Aj P w K mg base 2 "_law_least" ["_law_net", "_law_state", "_law_coming_here"] (Tc K)):Bl P w K mg base CX0 71 f fd ["_law_script"] (P9 K):=by
 refine F.ok Dc (λ vs H Q E h=>?_) (λ cdv A outer s0 H vs Q E hr h=>?_)
 ·obtain ⟨a,ns,rfl,_⟩:=h; rfl
 obtain ⟨a,ns,rfl,hS,t3,q⟩:=h
 refine ⟨_,(Ad (D9 (Av cG hr rfl Ai (Aa (pv 0) (Aa Af Ab))) (C1 rfl (Bc (Aq (i:=1) Dc.nd rfl (Or.inl rfl)) (Bc (Aq (i:=2) Dc.nd rfl (Or.inl rfl)) Ch))))
  (Ad (Aw (i:=3) Dc.nd rfl (Or.inl rfl) (Av fZ hr rfl Ai (Aa (pv 1) Ab)))
  (Ad (Aw (i:=4) Dc.nd rfl (Or.inr rfl) (A3 (Aa (Bu Df rfl T.n_list (by decide +kernel) (Aa (Ak Ar (pv 3) Af (λ _ _=>rfl)) Ab)) (Aa (Bu Df rfl T.n_list (by decide +kernel) (Aa (Ak Ar (pv 3) Af (λ _ _=>rfl)) Ab)) (Aa (Ak Ar (pv 3) Af (λ _ _=>rfl)) (Aa (Bu Df rfl T.n_list (by decide +kernel) (Aa (Ak Ar (pv 3) Af (λ _ _=>rfl)) Ab)) Ab))))))
  (Ad (Aw (i:=5) Dc.nd rfl (Or.inl rfl) (Lh q1 GN (hr.mono (by decide)) rfl TM.m_Netted bN .nil Ai (Aa (pv 3) Ab)))
  (Ad (Bg (Xu (Kv (Bs Qh rfl T.n_isinstance PyProof.Rows.boot_isinstance (Aa (pv 5) (Aa (Bx (v:=.ref cR) rfl TM.m_Runner rfl) Ab)))))
   (Ae (Au Ct))
   A7)
  (Ad (A0 (Gz PySem.F.plainAttrs_list PySem.F.slot_list_clear PySem.F.type_list_clear Mg (Ak Ar (pv 3) Af (λ _ _=>rfl))))
  (Ad (A0 (Gz PySem.F.plainAttrs_list PySem.F.slot_list_clear PySem.F.type_list_clear Mg (Ak Ar (pv 3) Af (λ _ _=>rfl))))
  (Ad (A0 (Gz PySem.F.plainAttrs_list PySem.F.slot_list_clear PySem.F.type_list_clear Mg (Ak Ar (pv 3) Af (λ _ _=>rfl))))
  (Ad (Aw (i:=6) Dc.nd rfl (Or.inl rfl) B3)
  (Ad (De PassesOwn.never rfl (B9 (A8 Fw (Ax (Aa Af Ab)) (Kh N8 (pv 0) Of (Hl Af)))) (Aq (i:=7) Dc.nd rfl (Or.inl rfl))
   (Ad (Bg (Am (OpR.or Nb (R0 hr.units0)) (Ec cE hr Ai (pv 5)) (pv 6) (Ap _))
   (Ae (Au Ct))
   A7)
  (Ad (Aw (i:=8) Dc.nd rfl (Or.inl rfl) (Av cO hr rfl Ai (Aa (pv 7) (Aa (Ak Ar (pv 1) Af (λ _ _=>rfl)) Ab))))
  (Ad (D9 (Av dY hr rfl Ai (Aa (pv 5) (Aa (A8 Fw (Ac2 (pv 8) (Hl (Lm Jn Af))) (Kh N8 (pv 8) Of (Hl (A8 Ck (Av aH hr rfl Ai (Aa (pv 7) Ab)) Af)))) Ab))) (C1 rfl (Bc (Aq (i:=9) Dc.nd rfl (Or.inl rfl)) (Bc (Aq (i:=10) Dc.nd rfl (Or.inl rfl)) Ch))))
  (Ad (Aw (i:=11) Dc.nd rfl (Or.inr rfl) (Av dB hr rfl Ai (Aa (pv 4) (Aa (pv 6) (Aa (pv 8) Ab)))))
  (Ad (Aw (i:=12) Dc.nd rfl (Or.inr rfl) (Cb (g:=(Bo 0)) (tc:=Cn) (te:=(tOp (Kt K) (Bh 1) (Bh 0))) ["_law_gate"] [("_law_known", 11)] rfl (Bw (Ag Go) ["_law_script", "_law_program_here", "_law_rests", "_law_net", "_law_same", "_law_runner", "_law_state", "_law_cell", "_law_coming_here", "_law_word", "_law_found", "_law_known", "_law_signs", "_law_kept"] (by decide +kernel)) (B9 (Ak Ar (pv 4) Af (λ _ _=>rfl))) (λ s2 H2 fp cl C=>Aq (i:=0) (show Nodup [("_law_gate" : Str),("_law_known" : Str)] from by decide +kernel) rfl (Or.inl rfl)) (Bf (by decide)) (λ s2 H2 fp cl C=>Cs) (λ s2 H2 fp cl C=>(Ak Be (pv 1) (pv 0) (λ _ _=>rfl)))))
  (Ad (Bg (Am Dr B3 (pv 12) (by rfl))
   (Ad (Bg (Am Nb (pv 9) Ao (Ap _))
   (Ae (Au Ct))
   A7)
  (Ae So))
   A7)
  (Ad (Bg (PW.pt (Fu (Am Nb (pv 9) Ao (Ap _)) (Fu (Xu (Kv (Bs Ih rfl T.n_isinstance PyProof.Rows.boot_isinstance (Aa (pv 10) (Aa (N1 rfl T.n_list (by decide +kernel) (v:=.ty "list") rfl) Ab))))) (Ft (Am (R0 hr.units0) (pv 10) (Cb (g:=(Bo 0)) (tc:=(Aah K (tOp (Kt K) (Bh 1) (Bh 0)))) (te:=(Bh 0)) ["_law_k"] [("_law_signs", 12)] rfl (Bw (Ag Go) ["_law_script", "_law_program_here", "_law_rests", "_law_net", "_law_same", "_law_runner", "_law_state", "_law_cell", "_law_coming_here", "_law_word", "_law_found", "_law_known", "_law_signs", "_law_kept"] (by decide +kernel)) (Fp rfl T.n_range (Aa (Bs B4 rfl T.n_len PySem.boot_len (Aa (pv 12) Ab)) Ab)) (λ s2 H2 fp cl C=>Aq (i:=0) (show Nodup [("_law_k" : Str),("_law_signs" : Str)] from by decide +kernel) rfl (Or.inl rfl)) (Bf (by decide)) (λ s2 H2 fp cl C=>Dm (Ii (Ak Be (pv 1) (pv 0) (λ _ _=>rfl)) (λ _=>rfl))) (λ s2 H2 fp cl C=>(pv 0))) (Ap _))))))
   (Ae (Au Ct))
   A7)
  (Ad (A0 (Dt PySem.F.plainAttrs_list PySem.F.slot_list_append PySem.F.type_list_append B6 (pv 10) (Aa (Lm Jn Af) Ab)))
  (Ad (Ds (j:=6) (g:=(Bo 0)) (tc:=(Aah K (tOp (Kt K) (Bh 1) (tOp (Kt K) (tOp (Fo K) (Bh 2) (tC (.int 3))) (Bh 0))))) (te:=(Bh 0)) ["_law_rest"] [("_law_known", 11),("_law_same", 4)] Dc.nd rfl (Or.inl rfl) rfl (Bw (Ag Go) ["_law_script", "_law_program_here", "_law_rests", "_law_net", "_law_same", "_law_runner", "_law_state", "_law_cell", "_law_coming_here", "_law_word", "_law_found", "_law_known", "_law_signs", "_law_kept"] (by decide +kernel)) (Fp rfl T.n_range (Aa (pv 2) Ab)) (λ s2 H2 fp cl C=>Aq (i:=0) (show Nodup [("_law_rest" : Str),("_law_known" : Str),("_law_same" : Str)] from by decide +kernel) rfl (Or.inl rfl)) (Bf (by decide)) (λ s2 H2 fp cl C=>Dm (Ii (Ak Be (pv 1) (Ak Be (Ak Ar (pv 2) Af (λ _ _=>rfl)) (pv 0) (λ _ _=>rfl)) (λ _ _=>rfl)) (λ _=>rfl))) (λ s2 H2 fp cl C=>(pv 0)))
  (Ad (Aw (i:=13) Dc.nd rfl (Or.inl rfl) (Ec cE hr Ai (pv 5)))
  (Ad (Bg (Am (OpR.or Nb (R0 hr.units0)) (pv 13) (pv 6) (Ap _))
   (Ae (Au Ct))
   A7)
  (Ae (A0 (Dt PySem.F.plainAttrs_list PySem.F.slot_list_append PySem.F.type_list_append B6 (pv 13) (Aa (Lm Jn Af) Ab))))))))))))))))
  (Ae (Au (Dp (OpR.or A9 (AdH hr.units0)) (Ec cE hr Ai (pv 5)) (pv 6) (Ap _)))))))))))))),?_⟩
 refine ⟨_,Z,a,ns,10,Z,hS,by decide,λ t pr c n x1 v r H1 g1 e1 e2 hc t8 d7 hp ok hh hw hz=>?_⟩
 refine ⟨t,_,Z,SqT.of e1,Z,_,_,Z,_,_,Z,Z,?_⟩
 have N:=Adb n r 0
 have l3:=N.ok ok
 have t5:=N.sz
 have ml:=N.ln
 rw [Int.zero_add] at ml
 have t4:=N.hg
 have wt:=N.wt
 refine ⟨_,Z,pr,_,_,v,n,(rsP (num r 0).1).length,(num r 0).1,Z,e2,hp,by omega,l3,by omega,by omega,by omega,λ k hk=>(by have:=N.rs k hk; rw [ml] at this; exact this),λ v' sN nx H2 g2 N2 R=>?_⟩
 obtain ⟨oW,L,t2,te,ln,rfl,⟨fg,fs,fl⟩,a4,W,c8⟩:=N2.h
 obtain ⟨gvs,_,hgl,_,c9,_⟩:=id W
 have j7:=g2 _ _ e2
 have t0:=g1.trans g2
 have q5:=g1
 clear e1 e2 g1 N2
 refine ⟨_,Z,t2,_,_,_,Z,Z,SqT.of a4,Ah (j:=0) rfl,L.gl,_,Z,.inl (SqL.of hgl),λ a1 n1=>?_⟩
 have s1:=Ac n1 (.lst gvs)
 refine ⟨_,Z,t2,_,_,_,Z,Z,SqT.of (s1 _ _ a4),Ah (j:=1) rfl,L.sl,_,Z,.inl (SqL.of (s1 _ _ c9)),λ a2 n2=>?_⟩
 have s2:=s1.trans (Ac n2 (.lst ((List.range n).map λ (i:Nat)=>V.int (i:Int))))
 refine ⟨_,Z,t2,_,_,_,Z,Z,SqT.of (s2 _ _ a4),Ah (j:=2) rfl,?_⟩
 refine ⟨_,Z,t2,_,_,_,Z,Z,SqT.of (s2 _ _ a4),Ah (j:=3) rfl,ln,_,Z,.inl (SqL.of (s2 _ _ c8)),λ a3 n3=>⟨zN4,λ T2 nT=>?_⟩⟩
 have f5:=(Ac n3 (.lst (nx.map V.int))).trans (Ac nT (.tup [.ref a1,.ref a2,.ref te,.ref a3]))
 have s4:=s2.trans f5
 have c1:=(Ac n2 (.lst ((List.range n).map λ (i:Nat)=>V.int (i:Int)))).trans f5 _ _ (upd_same (H:=H2) (a:=a1) (o:=.lst gvs))
 have c2:=f5 _ _ (upd_same (H:=upd H2 a1 (.lst gvs)) (a:=a2) (o:=.lst ((List.range n).map λ (i:Nat)=>V.int (i:Int))))
 have c3:=Ac nT (.tup [.ref a1,.ref a2,.ref te,.ref a3]) _ _ (upd_same (H:=upd (upd H2 a1 (.lst gvs)) a2 (.lst ((List.range n).map λ (i:Nat)=>V.int (i:Int)))) (a:=a3) (o:=.lst (nx.map V.int)))
 have c4:=upd_same (H:=upd (upd (upd H2 a1 (.lst gvs)) a2 (.lst ((List.range n).map λ (i:Nat)=>V.int (i:Int)))) a3 (.lst (nx.map V.int))) (a:=T2) (o:=.tup [.ref a1,.ref a2,.ref te,.ref a3])
 have f1:H2 a1 = none:=n1
 have f2:H2 a2 = none:=s1.free n2
 have f3:H2 a3 = none:=s2.free n3
 have fT:H2 T2 = none:=(s2.trans (Ac n3 _)).free nT
 generalize upd (upd (upd (upd H2 a1 (.lst gvs)) a2 (.lst ((List.range n).map λ (i:Nat)=>V.int (i:Int)))) a3 (.lst (nx.map V.int))) T2 (.tup [.ref a1,.ref a2,.ref te,.ref a3]) = H3 at *
 refine ⟨_,Z,λ o dx ho r5 o3=>?_⟩
 have gm:Same H3 (upd (upd H3 dx (.own o)) o (.ins cW dx [])):=(Ac r5 _).trans (Ac (by rw [upd_ne (Ne.symm o3)]; exact ho) _)
 refine ⟨o,dx,t2,L.gl,L.sl,ln,.ref te,gvs,(List.range n).map (λ (i:Nat)=>V.int (i:Int)),nx.map V.int,Z,upd_same,gm _ _ (s4 _ _ a4),gm _ _ (s4 _ _ hgl),gm _ _ (s4 _ _ c9),gm _ _ (s4 _ _ c8),λ nt b1 b2 b3 H5 k5 g4 m3 m6 p6 q3 fb=>⟨Z,?_⟩⟩
 have g5:Same H3 H5:=gm.byKp ho k5
 have s5:=s4.trans g5
 have o9:=gm.free fb.1
 have m8:=gm.free fb.2.1
 have o6:=gm.free fb.2.2
 have fo:H2 o = none:=s4.free ho
 refine ⟨_,Z,_,cR,_,true,Z,.ins g4 TM.cl m7 n9 htk l9,o2,_,Z,Eb ?_⟩
 have sub:∀ {r:Addr},H2 r = none→r≠L.gl∧r≠L.sl∧r≠ln:=λ f=>⟨λ z=>(by rw [z,hgl] at f; cases f),λ z=>(by rw [z,c9] at f; cases f),λ z=>(by rw [z,c8] at f; cases f)⟩
 have c7:=s5 _ _ hgl
 refine ⟨_,Z,t2,_,_,_,Z,Z,SqT.of (s5 _ _ a4),Ah (j:=0) rfl,.inl ⟨Z,_,SqL.of c7⟩,L.gl,_,Z,Z,c7,?_⟩
 have x1:∀ {b:Addr} {u:HO},b≠L.gl→H5 b = some u→(upd H5 L.gl (.lst [])) b = some u:=λ nb e=>by rw [upd_ne nb]; exact e
 have T1:Tp H5 (upd H5 L.gl (.lst [])):=Tp.lst c7
 have y1:∃ us,(upd H5 L.gl (.lst [])) L.sl = some (.lst us):=by
  by_cases z:L.sl = L.gl
  ·rw [z]; exact ⟨_,upd_same⟩
  ·exact ⟨_,x1 z (s5 _ _ c9)⟩
 have i9:∃ us,(upd H5 L.gl (.lst [])) ln = some (.lst us):=by
  by_cases z:ln = L.gl
  ·rw [z]; exact ⟨_,upd_same⟩
  ·exact ⟨_,x1 z (s5 _ _ c8)⟩
 generalize upd H5 L.gl (.lst []) = H6 at *
 obtain ⟨us,a8⟩:=y1
 refine ⟨_,Z,t2,_,_,_,Z,Z,SqT.of (T1 _ _ (s5 _ _ a4)),Ah (j:=1) rfl,.inl ⟨Z,_,SqL.of a8⟩,L.sl,_,Z,Z,a8,?_⟩
 have x2:∀ {b:Addr} {u:HO},b≠L.gl→b≠L.sl→H5 b = some u→(upd H6 L.sl (.lst [])) b = some u:=λ na nb e=>by rw [upd_ne nb]; exact x1 na e
 have e8:Tp H5 (upd H6 L.sl (.lst [])):=T1.trans (Tp.lst a8)
 have y2:∃ us,(upd H6 L.sl (.lst [])) ln = some (.lst us):=by
  by_cases z:ln = L.sl
  ·rw [z]; exact ⟨_,upd_same⟩
  ·obtain ⟨u,e⟩:=i9; exact ⟨u,by rw [upd_ne z]; exact e⟩
 generalize upd H6 L.sl (.lst []) = H7 at *
 obtain ⟨v1,a7⟩:=y2
 refine ⟨_,Z,t2,_,_,_,Z,Z,SqT.of (e8 _ _ (s5 _ _ a4)),Ah (j:=3) rfl,.inl ⟨Z,_,SqL.of a7⟩,ln,_,Z,Z,a7,?_⟩
 have kc:∀ {b:Addr} {u:HO},(b≠L.gl∧b≠L.sl∧b≠ln)→H5 b = some u→(upd H7 ln (.lst [])) b = some u:=λ nb e=>by rw [upd_ne nb.2.2]; exact x2 nb.1 nb.2.1 e
 have T8:Tp H5 (upd H7 ln (.lst [])):=e8.trans (Tp.lst a7)
 generalize upd H7 ln (.lst []) = H8 at *
 clear x1 x2 T1 e8 i9 a8 a7
 have d9:=T8 _ _ (s5 _ _ j7)
 have j4:=kc (sub fo) g4
 have em:(num r 0).2 = ((nx.map Int.toNat).length:Nat):=by rw [hZ,R.ln]; exact ml
 obtain ⟨RN,bG⟩:=Fx.of (K:=K) W R hgl (s5.tp.trans T8) d7 (by omega) (by omega) (T8 _ _ m3) (kc (sub (s4.free o9)) m6) (kc (sub (s4.free m8)) p6) (kc (sub (s4.free o6)) q3)
 obtain ⟨RT,_⟩:=Fx.of (K:=K) W R hgl (s5.tp.trans T8) d7 (by omega) (by omega) (T8 _ _ (g5 _ _ c4)) (kc (sub f1) (g5 _ _ c1)) (kc (sub f2) (g5 _ _ c2)) (kc (sub f3) (g5 _ _ c3))
 have m4:=q5.seq hS
 have g6:SqL K H8 a (ns.map V.int):=by
  have na:∀ {u:HO},H1 a = some u→a≠L.gl∧a≠L.sl∧a≠ln:=λ e=>⟨λ z=>(by rw [z,fg] at e; cases e),λ z=>(by rw [z,fs] at e; cases e),λ z=>(by rw [z,fl] at e; cases e)⟩
  rcases m4 with (h2 | ⟨ob,h2⟩) | h2
  ·exact .inl (.inl (kc (na h2) (s5 _ _ (g2 _ _ h2))))
  ·exact .inl (.inr ⟨ob,kc (na h2) (s5 _ _ (g2 _ _ h2))⟩)
  ·exact .inr h2
 clear kc sub T8 s5 s4 g5
 refine ⟨zN1,λ l0 f8=>?_⟩
 have k0:=Ac f8 (.lst [V.int 0])
 have h8:=upd_same (H:=H8) (a:=l0) (o:=.lst [V.int 0])
 refine ⟨_,Z,_,Z,a,_,Z,k0.seq g6,λ l1 j2=>?_⟩
 rw [show Fm (ns.map V.int) none (some 12) = (ns.map V.int).take 12 from W9 _ 12,← map_take]
 have k1:=Ac j2 (.lst ((ns.take 12).map V.int))
 have r6:(ns.take 12).length≤12:=by rw [jE]; omega
 refine ⟨l0,l1,_,_,Z,Z,k1 _ _ h8,upd_same,Eg (by rw [hZ]; show 1 + _≤_; omega),λ l2 i6=>?_⟩
 have k2:=Ac i6 (.lst ([V.int 0] ++ (ns.take 12).map V.int))
 have g9:=(k0.trans k1).trans k2
 have hl:(upd (upd (upd H8 l0 (.lst [V.int 0])) l1 (.lst ((ns.take 12).map V.int))) l2 (.lst ([V.int 0] ++ (ns.take 12).map V.int))) l2 = some (.lst ((0 :: ns.take 12).map V.int)):=upd_same
 have a6:=g9 _ _ j4
 have j5:=RN.same g9
 have d3:=RT.same g9
 have c6:=g9 _ _ d9
 generalize (upd (upd (upd H8 l0 (.lst [V.int 0])) l1 (.lst ((ns.take 12).map V.int))) l2 (.lst ([V.int 0] ++ (ns.take 12).map V.int))) = H9 at hl a6 j5 d3 c6
 clear k0 k1 k2 g9 h8 f8 j2 i6 g6 RN RT d9 j4
 generalize gtsOf sN = gs at *
 generalize nx.map Int.toNat = xs at *
 generalize (num r 0).2 = mm at *
 subst em
 obtain ⟨g8,j1,n8,l8,i4,u4,r9,u8,s7,s8,i2,e5,q2,o1,n7⟩:=id d3
 have m1:pr≠o:=Bd c6 a6 (by intro z; cases z)
 have p0:l2≠o:=Bd hl a6 (by intro z; cases z)
 refine ⟨l2,Z,⟨_,SqL.of hl⟩,Fn (K:=K) (a:=l2) (xs:=(0 :: ns.take 12).map V.int) (λ i σ H'=>LpI K H9 cW a pr o t2 T2 nt xs.length 0 σ H') ⟨dx,.non,.non,none,none,none,none,none,none,none,none,Z,Kp.refl _,a6,Z,Z,jX _⟩ (λ i σ H' _ ⟨_,_,_,_,_,_,_,_,_,_,_,_,k,_,_,_,_⟩=>SqL.of (k _ _ p0 hl)) ?_ ?_⟩
 rotate_left
 ·rintro σ H' ⟨dx,sv,lv,st,x7,x8,x9,x10,x11,x12,x13,rfl,k,ho,hs,o8,_⟩
  refine ⟨_,Z,o,dx,_,Z,ho,Z,o,dx,nt,sv,st,Z,ho,hs,λ v H5 g5 cp=>⟨_,Z,AeE (Rf.st cp) (Di g5 o8) (q H5)⟩⟩
 rintro i y σ HA hi ⟨dx,sv,lv,st,x7,x8,x9,x10,x11,x12,x13,rfl,kA,d6,e4,e6,lst⟩
 obtain ⟨cl,rfl⟩:∃ c,y = V.int c:=by
  rw [iH] at hi
  cases e:(0 :: ns.take 12)[i]? with
  | none=>rw [e] at hi; cases hi
  | some c=>rw [e] at hi; exact ⟨c,(Option.some.inj hi).symm⟩
 refine ⟨_,Z,o,dx,_,Z,d6,Z,o,dx,nt,sv,st,Z,d6,e4,λ v5 HB gB h3=>⟨_,Z,AbJ (Rf.st h3) (Di gB e6) ⟨_,Z,Eb ?_⟩⟩⟩
 have kB:Kp o H9 HB:=kA.trans (Same.kp gB)
 have i7:=gB _ _ d6
 have i1:=Di gB e4
 have g3:=Di gB e6
 clear kA d6 e4 e6 h3 gB
 refine ⟨_,Z,_,Z,pr,_,_,_,Z,Z,SqT.of (kB _ _ m1 c6),Ah (j:=0) rfl,cl,c,Z,by omega,λ rc k9=>?_⟩
 have pw:=Wb cl c
 have len:=Xz cl c
 generalize Kk cl c = cs at pw len
 have q6:cs.length≤30:=by omega
 have gc:=Ac k9 (.lst (cs.map V.int))
 obtain ⟨j,ej⟩:=Int.eq_ofNat_of_zero_le (Int.emod_nonneg (Hs cl) (show (2:Int)≠0 by decide))
 refine ⟨_,Z,_,Z,_,Z,_,Z,Z,rc,_,Z,SqL.of upd_same,λ h1 r0=>?_⟩
 have d5:=Ac r0 (.lst (cs.map V.int).reverse)
 refine ⟨_,Z,_,Z,cl,Z,_,_,Z,Z,(by show (0:Int) < 2; decide),_,Z,rc,_,Z,SqL.of (d5 _ _ upd_same),λ h2 p7=>?_⟩
 rw [ej,W9,← map_take]
 have d4:=Ac p7 (.lst ((cs.take j).map V.int))
 refine ⟨h1,h2,_,_,Z,Z,d4 _ _ upd_same,upd_same,Eg (by rw [length_reverse,hZ,hZ,jE]; omega),λ hd q7=>?_⟩
 rw [AaJ]
 have f0:=Ac q7 (.lst ((Je cs j).map V.int))
 have gC:=((gc.trans d5).trans d4).trans f0
 have e9:_ = some (HO.lst (cs.map V.int)):=f0 _ _ (d4 _ _ (d5 _ _ (upd_same (H:=HB) (a:=rc) (o:=.lst (cs.map V.int)))))
 have h5:=upd_same (H:=(upd (upd (upd HB rc (.lst (cs.map V.int))) h1 (.lst (cs.map V.int).reverse)) h2 (.lst ((cs.take j).map V.int)))) (a:=hd) (o:=.lst ((Je cs j).map V.int))
 generalize (upd (upd (upd (upd HB rc (.lst (cs.map V.int))) h1 (.lst (cs.map V.int).reverse)) h2 (.lst ((cs.take j).map V.int))) hd (.lst ((Je cs j).map V.int))) = HC at gC e9 h5
 have kC:Kp o H9 HC:=kB.trans (Same.kp gC)
 have b8:=gC _ _ i7
 have i3:=Di gC i1
 have m9:=Di gC g3
 clear gc d5 d4 f0 gC i7 i1 g3 kB
 have j6:=Zp pw j
 refine ⟨o,dx,nt,hd,sv,st,gs,List.range n,xs,Je cs j,Z,b8,j5.kpo kC a6,i3,lst,SqL.of h5,Aa7 cs j q6,λ kk fx t7 wd fv sv' HD tb tc=>?_⟩
 rw [j6] at fx
 obtain ⟨kD,m2,l7⟩:=tb
 have g7:Kp o H9 HD:=kC.trans kD
 have o5:rc≠o:=Bd e9 b8 (by intro z; cases z)
 have k6:=kD _ _ o5 e9
 have j3:=Tb kD b8 m9
 obtain ⟨g8,j1,n8,l8,i4,g0,j9,q9,j8,k4,i2,e5,q2,o1,n7⟩:=d3.kpo g7 a6
 refine ⟨t7,_,Z,SqT.of l7,Z,_,_,Z,_,_,Z,Z,?_⟩
 refine ⟨_,Z,_,Z,_,Z,T2,rc,lv,gs,st,cs,Z,⟨g8,_,i4,SqT.of g0,q9,j9,i2⟩,⟨j3,lst,SqL.of k6,by omega⟩,bG,λ kl HE vq=>?_⟩
 obtain ⟨k',gE,h6,i8,der,clo⟩:=vq
 obtain rfl:k' = kk:=Fix.uniq ⟨i8,der,clo⟩ fx
 have n5:=gE _ _ g0
 have d8:=gE _ _ j8
 have r8:=gE _ _ k4
 refine ⟨_,Z,T2,_,_,_,Z,Z,SqT.of n5,Ah (j:=1) rfl,j1,Z,⟨_,SqL.of d8⟩,Ci (K:=K) (xs:=C7 (List.range n)) (λ i ys H'=>H' = HE∧ys = (sgv k' ((List.range n).take i)).map vO) ⟨Z,Z⟩ (by unfold C7; rw [hZ]; exact Eg (by omega)) (λ i ys H' hh=>by rw [hh.1]; exact SqL.of d8) ?_ ?_⟩
 ·rintro i x ys H' N hi ⟨rfl,rfl⟩ hN b6
  have f7:i < (List.range n).length:=by have:=(List.getElem?_eq_some_iff.mp hi).1; unfold C7 at this; rwa [hZ] at this
  unfold C7 at hi
  rw [iH,hX f7] at hi
  cases hi
  have hb:=e5 _ (jJ f7)
  refine ⟨_,Z,_,Z,kl,_,_,_,Z,Z,SqL.of h6,Ah (No (by omega)),hN _ _ (by rw [iB,iD]; omega) ⟨Z,?_⟩⟩
  unfold sgv
  rw [iV,hX f7,iM,iM]
  rfl
 rintro ys h4 b6 ⟨p9,rfl⟩ b9 k7
 subst p9
 have eL:(C7 (List.range n)).length = (List.range n).length:=by unfold C7; rw [hZ]
 rw [eL,take_length]
 have gF:=Ac k7 (.lst ((sgv k' (List.range n)).map vO))
 have eF:=upd_same (H:=h4) (a:=b9) (o:=.lst ((sgv k' (List.range n)).map vO))
 generalize upd h4 b9 (.lst ((sgv k' (List.range n)).map vO)) = HF at *
 have a5:=gE.trans gF
 have kF:Kp o H9 HF:=g7.trans (Same.kp a5)
 have e7:=gF _ _ h6
 have f6:=a5 _ _ m2
 refine ⟨_,Z,b9,_,Z,.inl (SqL.of eF),Z,Sz _,_,Z,?_⟩
 dsimp only
 rw [if_neg Bool.false_ne_true,S9]
 cases tc with
 | un hn e1 e2 =>
  subst e1 e2
  rw [iI hn]
  refine Dv ⟨_,Z,Z,_,Z,Ay (λ c=>absurd c (by decide +kernel)) λ _=>?_⟩
  exact ⟨dx,sv',lv,st,_,_,_,_,_,_,_,Z,kF,f6,Di a5 (Tb kD b8 i3),Di a5 j3,lst⟩
 | dn hn r7 b7 e1 e2 e3 i0 v0 n6 p3 r4 =>
  subst e1 e2 e3
  rw [iJ hn]
  refine Eb ?_
  have c5:=a5 _ _ p3
  have m0:=a5 _ _ r4
  have i5:(sgv k' (List.range n)).length = n:=by unfold sgv; rw [hZ,jF]
  refine ⟨_,Z,Z,_,Z,Ay (λ c=>absurd c (by decide +kernel)) λ _=>?_⟩
  refine ⟨_,Z,_, "list", _,true,Z,.inl (.lst c5),Z,_,Z,Ay (λ c=>by cases c) λ _=>?_⟩
  refine ⟨_,Z,_,Z,b9,_,Z,.inl (SqL.of eF),_,Z,?_⟩
  rw [hZ,i5]
  refine ⟨by omega,by omega,?_⟩
  dsimp only
  rw [Int.toNat_natCast]
  refine Fy (λ i ys H'=>H' = HF∧ys = (((List.range i).filter λ i=>(((sgv k' (List.range n))[i]?).getD none).getD false).map λ (i:Nat)=>V.int (i:Int))) ⟨Z,Z⟩ (Eg (by omega)) ?_ ?_
  ·rintro i ys H' N hi ⟨rfl,rfl⟩ hN b6
   rw [Int.zero_add]
   have q4:((sgv k' (List.range n)).map vO)[i]? = some (vO (((sgv k' (List.range n))[i]?).getD none)):=by
    rw [iH,hX (by omega)]; rfl
   refine ⟨_,Z,_,Z,b9,_,_,_,Z,Z,SqL.of eF,Ah q4,_,Qy _,?_⟩
   have fl:((List.range (i + 1)).filter λ i=>(((sgv k' (List.range n))[i]?).getD none).getD false).map (λ (i:Nat)=>V.int (i:Int)) = ((List.range i).filter λ i=>(((sgv k' (List.range n))[i]?).getD none).getD false).map (λ (i:Nat)=>V.int (i:Int)) ++ (if (((sgv k' (List.range n))[i]?).getD none).getD false = true then [V.int (i:Int)] else []):=by
    rw [range_succ,jM,iM]
    congr 1
    cases e:(((sgv k' (List.range n))[i]?).getD none).getD false <;> simp [e]
   refine Ay (λ c=>?_) (λ c=>?_)
   ·exact ⟨_,Z,hN _ _ (by rw [iB,iD]; omega) ⟨Z,by rw [fl,if_pos c]⟩⟩
   ·exact hN _ _ (by omega) ⟨Z,by rw [fl,if_neg c,jI]⟩
  rintro ys b4 b6 ⟨r3,rfl⟩ D hD
  subst r3
  have eD:(((List.range n).filter λ i=>(((sgv k' (List.range n))[i]?).getD none).getD false).map λ (i:Nat)=>V.int (i:Int)) = (Cr (some true) (sgv k' (List.range n))).map V.int:=by
   rw [AaR hn,i5,map_map]
   rfl
  rw [eD]
  have gD:=Ac hD (.lst ((Cr (some true) (sgv k' (List.range n))).map V.int))
  have f4:=gD _ _ c5
  refine ⟨r7,D,_,_,Z,Z,SqL.of f4,SqL.of upd_same,?_⟩
  rw [if_pos rfl,iI rfl]
  refine ⟨_,Z,Eb ?_⟩
  have u6:=Z5 (some true) (sgv k' (List.range n))
  refine ⟨_,Z,.inl ⟨Z,_,SqL.of f4⟩,_,Z,r7,_,_,Z,Z,f4,Ex (by rw [hZ]; omega),?_⟩
  dsimp only
  have f9:H9 r7 = none:=Ut kC b8 i0
  have kG:Kp o H9 (upd (upd b4 D (.lst ((Cr (some true) (sgv k' (List.range n))).map V.int))) r7 (.lst ((Cr (some true) (sgv k' (List.range n))).map V.int ++ [V.int (-1)]))):=Mm (kF.trans (Same.kp gD)) f9
  have u3:Kp o HC (upd (upd b4 D (.lst ((Cr (some true) (sgv k' (List.range n))).map V.int))) r7 (.lst ((Cr (some true) (sgv k' (List.range n))).map V.int ++ [V.int (-1)]))):=Mm ((kD.trans (Same.kp a5)).trans (Same.kp gD)) i0
  have l6:(upd (upd b4 D (.lst ((Cr (some true) (sgv k' (List.range n))).map V.int))) r7 (.lst ((Cr (some true) (sgv k' (List.range n))).map V.int ++ [V.int (-1)]))) o = some (.ins cW dx (flR (.ref b7) nt)):=by
   rw [upd_ne (λ z=>by rw [← z,f6] at c5; cases c5)]
   exact gD _ _ f6
  have l4:(upd (upd b4 D (.lst ((Cr (some true) (sgv k' (List.range n))).map V.int))) r7 (.lst ((Cr (some true) (sgv k' (List.range n))).map V.int ++ [V.int (-1)]))) b7 = some (.lst ((nxv k' xs).map V.int)):=by
   rw [upd_ne (Ne.symm n6)]
   exact gD _ _ m0
  have n4:0 < k'.length:=by rw [i8]; exact e5 0 (mem_range.mpr (by omega))
  have p5:(upd (upd b4 D (.lst ((Cr (some true) (sgv k' (List.range n))).map V.int))) r7 (.lst ((Cr (some true) (sgv k' (List.range n))).map V.int ++ [V.int (-1)]))) kl = some (.lst (k'.map vO)):=by
   rw [upd_ne (λ z=>by
    rw [z,c5] at e7
    have e:=HO.lst.inj (Option.some.inj e7)
    have e0:((Cr (some true) (sgv k' (List.range n))).map V.int)[0]? = (k'.map vO)[0]?:=congrArg (λ l=>l[0]?) e
    rw [iH,iH,hX n4] at e0
    cases e1:(Cr (some true) (sgv k' (List.range n)))[0]? with
    | none=>rw [e1] at e0; cases e0
    | some y=>rw [e1] at e0; cases e2:k'[0] with
     | none=>rw [e2] at e0; cases e0
     | some b=>rw [e2] at e0; cases e0)]
   exact gD _ _ e7
  obtain ⟨t1,v2,q8,u0,s9,o7,s3,t6,s6,k8,t9,u5,o4,u7,u9⟩:=d3.kpo kG a6
  generalize (upd (upd b4 D (.lst ((Cr (some true) (sgv k' (List.range n))).map V.int))) r7 (.lst ((Cr (some true) (sgv k' (List.range n))).map V.int ++ [V.int (-1)]))) = HG at *
  refine ⟨_,Z,_,Z,by omega,by omega,?_⟩
  rw [Int.toNat_natCast]
  refine Fy (λ i ys H'=>H' = HG∧ys = (((List.range i).filter (nxB k' xs)).map λ (i:Nat)=>(i:Int)).map V.int) ⟨Z,Z⟩ (Eg (by omega)) ?_ ?_
  ·rintro i ys H' N hi ⟨rfl,rfl⟩ hN b6
   rw [Int.zero_add]
   have hb:=o4 _ (jJ hi)
   have ax:(C7 xs)[i]? = some (.int (xs[i]:Int)):=by unfold C7; rw [iH,hX hi]; rfl
   have fl:(((List.range (i + 1)).filter (nxB k' xs)).map λ (i:Nat)=>(i:Int)).map V.int = (((List.range i).filter (nxB k' xs)).map λ (i:Nat)=>(i:Int)).map V.int ++ (if (knL k' xs[i]).getD false = true then [V.int (i:Int)] else []):=by
    have eb:nxB k' xs i = (knL k' xs[i]).getD false:=by unfold nxB; rw [List.getD_eq_getElem?_getD,hX hi]; rfl
    rw [range_succ,jM,iM,iM]
    congr 1
    cases e:(knL k' xs[i]).getD false <;> simp [eb,e]
   refine ⟨_,Z,_,Z,T2,_,_,_,Z,Z,SqT.of o7,Ah (j:=3) rfl,_,Z,q8,_,_,_,Z,Z,SqL.of k8,Ah ax,kl,_,_,_,Z,Z,SqL.of p5,Ah (No (by omega)),_,Qy _,?_⟩
   refine Ay (λ c=>?_) (λ c=>?_)
   ·exact ⟨_,Z,hN _ _ (by rw [iB,iD]; omega) ⟨Z,by rw [fl,if_pos c]⟩⟩
   ·exact hN _ _ (by omega) ⟨Z,by rw [fl,if_neg c,jI]⟩
  rintro ys h9 b6 ⟨p4,rfl⟩ a9 m5
  subst p4
  have gI:=Ac m5 (.lst ((nxv k' xs).map V.int))
  have eI:=upd_same (H:=h9) (a:=a9) (o:=.lst ((nxv k' xs).map V.int))
  have o0:(((List.range xs.length).filter (nxB k' xs)).map λ (i:Nat)=>(i:Int)).map V.int = (nxv k' xs).map V.int:=rfl
  rw [o0]
  generalize upd h9 a9 (.lst ((nxv k' xs).map V.int)) = HI at *
  have b5:=gI _ _ l6
  have d2:=gI _ _ l4
  refine ⟨_,Z,o,dx,_,Z,b5,Z,o,dx,nt,.ref b7,some (nxv k' xs),Z,b5,⟨b7,rfl,SqL.of d2⟩,λ vC HJ gJ q0=>?_⟩
  obtain ⟨rC,rfl,fC,eC⟩:=q0
  have l5:=gJ _ _ d2
  have j0:=gJ _ _ eI
  have p8:=gJ _ _ b5
  refine ⟨_,Z,_,Z,AbJ (st:=some (nxv k' xs)) ⟨rC,Z,SqL.of eC⟩ ⟨a9,Z,SqL.of j0⟩ ⟨_,Z,Eb ?_⟩⟩
  have sI:=AcR k' xs
  refine ⟨_,Z,.inl ⟨Z,_,SqL.of eC⟩,_,Z,rC,_,_,Z,Z,eC,Ex (by rw [hZ]; omega),?_⟩
  have nB:b7≠rC:=λ z=>by rw [z,fC] at d2; cases d2
  have nM:a9≠rC:=λ z=>by rw [z,fC] at eI; cases eI
  have nO:o≠rC:=λ z=>by rw [z,fC] at b5; cases b5
  have kI:Kp o H9 HI:=kG.trans (Same.kp gI)
  exact ⟨dx,.ref b7,.ref a9,some (nxv k' xs),_,_,_,_,_,_,_,Z,Mm (kI.trans (Same.kp gJ)) (Ut kI b5 fC),by rw [upd_ne nO]; exact p8,⟨b7,Z,SqL.of (by rw [upd_ne nB]; exact l5)⟩,⟨a9,Z,SqL.of (by rw [upd_ne nM]; exact j0)⟩,by show (nxv k' xs).length≤900; omega⟩
end
inductive FI (K:PySem.W.Frag) (x:Str) (st:Stmt):Prop
 | mk {f:Addr} {oc kV dc pm cd ct:Value} {od an:Option Addr} {sl:Array (Option Value)} (a:nsIn K mainGlobals x = some (some (.ref f))) (l:K.lookup f = some ⟨oc,od,.func (fnOf x x (Ce st) (B0 st) (Ag st) .none kV dc pm an cd ct),sl⟩) (c:codeIn K cd x = true) (k:keepIn K (.ref f) = true):FI K x st
inductive MI (K:PySem.W.Frag) (C:Addr) (x q:Str) (st:Stmt) (h:Addr):Prop
 | mk {oc kV dc pm cd ct:Value} {od an:Option Addr} {sl:Array (Option Value)} (a:findIn K (.ref C) x = some (some (.ref h))) (i:isFn K (.ref h) = true) (l:K.lookup h = some ⟨oc,od,.func (fnOf x q (Ce st) (B0 st) (Ag st) .none kV dc pm an cd ct),sl⟩) (c:codeIn K cd q = true) (k:keepIn K (.ref h) = true):MI K C x q st h
inductive CI (K:PySem.W.Frag) (C:Addr):Prop
 | mk (pg:plainGet K C Str.empty = true) (hd:hasDictIn K C = true) (po:plainOver K C = true) (sa:findIn K (.ref C) "__setattr__" = some (some (.builtin "object.__setattr__"))) (mk:makesIn K C = true) (kc:keepIn K (.ref C) = true):CI K C
theorem fI1 {K:PySem.W.Frag} {hp:Heap} {mg:Str→Option Value} {x p0:Str} {st:Stmt} (X:K.In hp) (G:hp.Ns mainGlobals mg) (I:FI K x st) (h:∀ (kV doc pm:Value) (an:Option Addr) (cdv ct x0:Value),bindArgs (fnOf x x (Ce st) (B0 st) (Ag st) .none kV doc pm an cdv ct) ⟨[x0],[]⟩ = pure ([p0].zip [x0])):A2 K mg x [p0] st:=by
 obtain ⟨a,l,c,k⟩:=I
 exact ⟨_,_,Bq l c k,mg_of X G a,(Bq l c k).binds λ _ _ _ _ _ _ us hl=>match us,hl with | [_],_=>h _ _ _ _ _ _ _⟩
theorem fI2 {K:PySem.W.Frag} {hp:Heap} {mg:Str→Option Value} {x p0 p1:Str} {st:Stmt} (X:K.In hp) (G:hp.Ns mainGlobals mg) (I:FI K x st) (h:∀ (kV doc pm:Value) (an:Option Addr) (cdv ct x0 x1:Value),bindArgs (fnOf x x (Ce st) (B0 st) (Ag st) .none kV doc pm an cdv ct) ⟨[x0,x1],[]⟩ = pure ([p0,p1].zip [x0,x1])):A2 K mg x [p0,p1] st:=by
 obtain ⟨a,l,c,k⟩:=I
 exact ⟨_,_,Bq l c k,mg_of X G a,(Bq l c k).binds λ _ _ _ _ _ _ us hl=>match us,hl with | [_,_],_=>h _ _ _ _ _ _ _ _⟩
theorem fI3 {K:PySem.W.Frag} {hp:Heap} {mg:Str→Option Value} {x p0 p1 p2:Str} {st:Stmt} (X:K.In hp) (G:hp.Ns mainGlobals mg) (I:FI K x st) (h:∀ (kV doc pm:Value) (an:Option Addr) (cdv ct x0 x1 x2:Value),bindArgs (fnOf x x (Ce st) (B0 st) (Ag st) .none kV doc pm an cdv ct) ⟨[x0,x1,x2],[]⟩ = pure ([p0,p1,p2].zip [x0,x1,x2])):A2 K mg x [p0,p1,p2] st:=by
 obtain ⟨a,l,c,k⟩:=I
 exact ⟨_,_,Bq l c k,mg_of X G a,(Bq l c k).binds λ _ _ _ _ _ _ us hl=>match us,hl with | [_,_,_],_=>h _ _ _ _ _ _ _ _ _⟩
theorem fI4 {K:PySem.W.Frag} {hp:Heap} {mg:Str→Option Value} {x p0 p1 p2 p3:Str} {st:Stmt} (X:K.In hp) (G:hp.Ns mainGlobals mg) (I:FI K x st) (h:∀ (kV doc pm:Value) (an:Option Addr) (cdv ct x0 x1 x2 x3:Value),bindArgs (fnOf x x (Ce st) (B0 st) (Ag st) .none kV doc pm an cdv ct) ⟨[x0,x1,x2,x3],[]⟩ = pure ([p0,p1,p2,p3].zip [x0,x1,x2,x3])):A2 K mg x [p0,p1,p2,p3] st:=by
 obtain ⟨a,l,c,k⟩:=I
 exact ⟨_,_,Bq l c k,mg_of X G a,(Bq l c k).binds λ _ _ _ _ _ _ us hl=>match us,hl with | [_,_,_,_],_=>h _ _ _ _ _ _ _ _ _ _⟩
theorem fI5 {K:PySem.W.Frag} {hp:Heap} {mg:Str→Option Value} {x p0 p1 p2 p3 p4:Str} {st:Stmt} (X:K.In hp) (G:hp.Ns mainGlobals mg) (I:FI K x st) (h:∀ (kV doc pm:Value) (an:Option Addr) (cdv ct x0 x1 x2 x3 x4:Value),bindArgs (fnOf x x (Ce st) (B0 st) (Ag st) .none kV doc pm an cdv ct) ⟨[x0,x1,x2,x3,x4],[]⟩ = pure ([p0,p1,p2,p3,p4].zip [x0,x1,x2,x3,x4])):A2 K mg x [p0,p1,p2,p3,p4] st:=by
 obtain ⟨a,l,c,k⟩:=I
 exact ⟨_,_,Bq l c k,mg_of X G a,(Bq l c k).binds λ _ _ _ _ _ _ us hl=>match us,hl with | [_,_,_,_,_],_=>h _ _ _ _ _ _ _ _ _ _ _⟩
abbrev NsR (K:PySem.W.Frag) (x:Str) (a:Addr):Prop:=nsIn K mainGlobals x = some (some (.ref a))
abbrev NsN (K:PySem.W.Frag) (x:Str):Prop:=nsIn K mainGlobals x = some none
abbrev KpR (K:PySem.W.Frag) (a:Addr):Prop:=keepIn K (.ref a) = true
abbrev IfR (K:PySem.W.Frag) (a:Addr):Prop:=isFn K (.ref a) = true
abbrev CdR (K:PySem.W.Frag) (c:Value) (x:Str):Prop:=codeIn K c x = true
abbrev FnR (K:PySem.W.Frag) (f:Addr) (x y:Str) (st:Stmt) (oc:Value) (od:Option Addr) (kV dc pm:Value) (an:Option Addr) (cd ct:Value) (sl:Array (Option Value)):Prop:=K.lookup f = some ⟨oc,od,.func (fnOf x y (Ce st) (B0 st) (Ag st) .none kV dc pm an cd ct),sl⟩
theorem bM1 {K:PySem.W.Frag} {x y p0:Str} {st:Stmt} {f:Addr} {fd:FuncData} (F:Fun K x y st f fd) (h:∀ (kV doc pm:Value) (an:Option Addr) (cdv ct x0:Value),bindArgs (fnOf x y (Ce st) (B0 st) (Ag st) .none kV doc pm an cdv ct) ⟨[x0],[]⟩ = pure ([p0].zip [x0])):Bi K fd [p0] []:=F.binds λ _ _ _ _ _ _ us hl=>match us,hl with | [_],_=>h _ _ _ _ _ _ _
theorem bM2 {K:PySem.W.Frag} {x y p0 p1:Str} {st:Stmt} {f:Addr} {fd:FuncData} (F:Fun K x y st f fd) (h:∀ (kV doc pm:Value) (an:Option Addr) (cdv ct x0 x1:Value),bindArgs (fnOf x y (Ce st) (B0 st) (Ag st) .none kV doc pm an cdv ct) ⟨[x0,x1],[]⟩ = pure ([p0,p1].zip [x0,x1])):Bi K fd [p0,p1] []:=F.binds λ _ _ _ _ _ _ us hl=>match us,hl with | [_,_],_=>h _ _ _ _ _ _ _ _
theorem bM3 {K:PySem.W.Frag} {x y p0 p1 p2:Str} {st:Stmt} {f:Addr} {fd:FuncData} (F:Fun K x y st f fd) (h:∀ (kV doc pm:Value) (an:Option Addr) (cdv ct x0 x1 x2:Value),bindArgs (fnOf x y (Ce st) (B0 st) (Ag st) .none kV doc pm an cdv ct) ⟨[x0,x1,x2],[]⟩ = pure ([p0,p1,p2].zip [x0,x1,x2])):Bi K fd [p0,p1,p2] []:=F.binds λ _ _ _ _ _ _ us hl=>match us,hl with | [_,_,_],_=>h _ _ _ _ _ _ _ _ _
theorem bM4 {K:PySem.W.Frag} {x y p0 p1 p2 p3:Str} {st:Stmt} {f:Addr} {fd:FuncData} (F:Fun K x y st f fd) (h:∀ (kV doc pm:Value) (an:Option Addr) (cdv ct x0 x1 x2 x3:Value),bindArgs (fnOf x y (Ce st) (B0 st) (Ag st) .none kV doc pm an cdv ct) ⟨[x0,x1,x2,x3],[]⟩ = pure ([p0,p1,p2,p3].zip [x0,x1,x2,x3])):Bi K fd [p0,p1,p2,p3] []:=F.binds λ _ _ _ _ _ _ us hl=>match us,hl with | [_,_,_,_],_=>h _ _ _ _ _ _ _ _ _ _
theorem all_mk {l:PySem.W.OpenLaw} {w:World} {K:PySem.W.Frag} {h:Heap} {mg:Str→Option Value} {fa f37 C h0 h1 h2 h3 h4 h5 h6 h7 h8 a_NAMING_GATES c_Unsettled CP hP cS Sh0 Sh1 Sh2 Sh3 cW Nh0 Nh1 Nh2 Nh3 c_Runner hR:Addr} {od37 an37 od_NAMING_GATES rod ran:Option Addr} {sl37 sl_NAMING_GATES rsl:Array (Option Value)} {oc37 kV37 dc37 pm37 cd37 ct37 roc rkV rdc rpm rcd rct:Value} {it_NAMING_GATES:Array Value} {n_NAMING_GATES:Nat} {tk_ENDED tk_RESTS tk_LEAVES:Tok} (X:K.In h) (G:h.Ns mainGlobals mg) (hfa:mg "law" = some (.ref fa)) (a0:FI K "net_of" Ik) (a1:FI K "wire_part" Ff) (a2:FI K "wire_leaf" Gm) (a3:FI K "wire_rest" Gr) (a4:FI K "wire_leaving" E9) (a5:FI K "wire_pair" Gp) (a6:FI K "wire_then" Fg) (a7:FI K "wire_if" Iu) (a8:FI K "wire_beside" Fl) (a9:FI K "greater_codes" Cv) (a10:FI K "wire_round" E1) (a11:FI K "wire_again" E3) (a12:FI K "wire_skipping" Eu) (a13:FI K "code_gate" Gs) (a14:FI K "leaf_code" Gn) (a15:FI K "code_of_again" Ev) (a16:FI K "code_of_trap" Fb) (a17:FI K "inner_parts" Em) (a18:FI K "every_part" F9) (a19:FI K "rests_of" Ga) (a20:FI K "gates_settled" Cu) (a21:FI K "value_at_first" Ei) (a22:FI K "namers_of" Fh) (a23:FI K "signs_that_are" Dj) (a24:FI K "signs_there" Fk) (a25:FI K "_law_mixed" F8) (a26:FI K "_law_at" Iv) (a27:FI K "_law_leaf" Gq) (a28:FI K "_law_deep" Ep) (a29:FI K "_law_grown" Gb) (a30:FI K "_law_body" Gu) (a31:FI K "_law_numbered" Du) (a32:FI K "_law_program" Fa) (a33:FI K "_law_coming" En) (a34:FI K "_law_value" E4) (a35:FI K "_law_least" E2) (a36:FI K "_law_tick" Gv) (a37:NsR K "law" f37) (l37:FnR K f37 "law" "law" Go oc37 od37 kV37 dc37 pm37 an37 cd37 ct37 sl37) (c37:CdR K cd37 "law") (k37:KpR K f37) (aC:NsR K "Wiring" C) (ma0:MI K C "__init__" "Wiring.__init__" Hn h0) (ma1:MI K C "gate" "Wiring.gate" Le h1) (ma2:MI K C "later" "Wiring.later" Jx h2) (ma3:MI K C "fill" "Wiring.fill" Nv h3) (ma4:MI K C "opposite" "Wiring.opposite" Hi h4) (ma5:MI K C "every_of" "Wiring.every_of" Hg h5) (ma6:MI K C "some_of" "Wiring.some_of" Iy h6) (ma7:MI K C "joined" "Wiring.joined" Gi h7) (ma8:MI K C "new_part" "Wiring.new_part" Hj h8) (pg:CI K C) (nA_gates:findIn K (.ref C) "gates" = some none) (nA_signs:findIn K (.ref C) "signs" = some none) (nA_senders:findIn K (.ref C) "senders" = some none) (nA_leavers:findIn K (.ref C) "leavers" = some none) (ca_NAMING_GATES:NsR K "NAMING_GATES" a_NAMING_GATES) (cl_NAMING_GATES:K.lookup a_NAMING_GATES = some ⟨Value.type "tuple", od_NAMING_GATES,.seq it_NAMING_GATES n_NAMING_GATES,sl_NAMING_GATES⟩) (cs_NAMING_GATES:it_NAMING_GATES.size≤sizeLine) (cv_NAMING_GATES:Az [V.str "not", V.str "all", V.str "some"] it_NAMING_GATES.toList) (cn_ENDED:nsIn K mainGlobals "ENDED" = some (some (.int 0 tk_ENDED))) (cn_RESTS:nsIn K mainGlobals "RESTS" = some (some (.int 1 tk_RESTS))) (cn_LEAVES:nsIn K mainGlobals "LEAVES" = some (some (.int 2 tk_LEAVES))) (ea_Unsettled:NsR K "Unsettled" c_Unsettled) (ex_Unsettled:excIn K c_Unsettled veM "ValueError.__new__" = true) (em_Unsettled_Unsettled:exmOne K (.ref c_Unsettled) (.ref c_Unsettled) = some true) (paC:NsR K "Wired" CP) (pma:MI K CP "__init__" "Wired.__init__" Lz hP) (ppg:CI K CP) (pn_runs:findIn K (.ref CP) "runs" = some none) (pn_kept:findIn K (.ref CP) "kept" = some none) (pn_stays:findIn K (.ref CP) "stays" = some none) (pn_rests:findIn K (.ref CP) "rests" = some none) (pn_codes:findIn K (.ref CP) "codes" = some none) (SaC:NsR K "Settler" cS) (Sma0:MI K cS "__init__" "Settler.__init__" Il Sh0) (Sma1:MI K cS "learn" "Settler.learn" Lw Sh1) (Sma2:MI K cS "hand_on" "Settler.hand_on" Iw Sh2) (Sma3:MI K cS "hear" "Settler.hear" Nu Sh3) (Spg:CI K cS) (Sn_gates:findIn K (.ref cS) "gates" = some none) (Sn_known:findIn K (.ref cS) "known" = some none) (Sn_order:findIn K (.ref cS) "order" = some none) (Sn_namers:findIn K (.ref cS) "namers" = some none) (Sn_unheard:findIn K (.ref cS) "unheard" = some none) (NaC:NsR K "Netted" cW) (Nma0:MI K cW "__init__" "Netted.__init__" Lx Nh0) (Nma1:MI K cW "done_with" "Netted.done_with" Jw Nh1) (Nma2:MI K cW "tick" "Runner.tick" Nt Nh2) (Nma3:MI K cW "state" "Runner.state" Ly Nh3) (Npg:CI K cW) (Nn_reached:findIn K (.ref cW) "reached" = some none) (Nn_net:findIn K (.ref cW) "net" = some none) (ea_Runner:NsR K "Runner" c_Runner) (rga:specialIn K (.ref c_Runner) "__getattribute__" = some (some (.builtin "type.__getattribute__"))) (rrd:readsIn K c_Runner (.type "type") = true) (rfc:findCls K (.ref c_Runner) (.type "type") "__init__" = some (.val (.ref hR))) (rkp:KpR K hR) (rl:FnR K hR "__init__" "Runner.__init__" L0 roc rod rkV rdc rpm ran rcd rct rsl) (rcc:CdR K rcd "Runner.__init__") (hnC:specialIn K (.builtin "object.__class__") "__get__" = some (some (.builtin "getset_descriptor.__get__"))) (htC:takesIn K (.builtin "object.__class__") = some true) (ktW:kitOne K (.ref cW) (.ref c_Runner) = some true) (haW:findIn K (.ref cW) "__class__" = some (some (.builtin "object.__class__"))) (hmW:mroIn K cW (.type "object") = some true) (z_ValueError:NsN K "ValueError") (z_dict:NsN K "dict") (z_enumerate:NsN K "enumerate") (z_int:NsN K "int") (z_isinstance:NsN K "isinstance") (z_len:NsN K "len") (z_list:NsN K "list") (z_max:NsN K "max") (z_range:NsN K "range") (z_set:NsN K "set") (z_sorted:NsN K "sorted") (z_tuple:NsN K "tuple") : ∃ fd:FuncData,(∀ (s:Shared) (v:Value),BindsTo s fd ⟨[v],[]⟩ [("_law_script", v)])∧∀ base:Heap,K.In base→base.Ns mainGlobals mg→Bl l.prog w K mg base CX0 71 fa fd ["_law_script"] (P9 K):=by
 obtain ⟨ma0,mi0,ml0,mc0,mk0⟩:=ma0
 obtain ⟨ma1,mi1,ml1,mc1,mk1⟩:=ma1
 obtain ⟨ma2,mi2,ml2,mc2,mk2⟩:=ma2
 obtain ⟨ma3,mi3,ml3,mc3,mk3⟩:=ma3
 obtain ⟨ma4,mi4,ml4,mc4,mk4⟩:=ma4
 obtain ⟨ma5,mi5,ml5,mc5,mk5⟩:=ma5
 obtain ⟨ma6,mi6,ml6,mc6,mk6⟩:=ma6
 obtain ⟨ma7,mi7,ml7,mc7,mk7⟩:=ma7
 obtain ⟨ma8,mi8,ml8,mc8,mk8⟩:=ma8
 obtain ⟨pma,pmi,pml,pmc,pmk⟩:=pma
 obtain ⟨Sma0,Smi0,Sml0,Smc0,Smk0⟩:=Sma0
 obtain ⟨Sma1,Smi1,Sml1,Smc1,Smk1⟩:=Sma1
 obtain ⟨Sma2,Smi2,Sml2,Smc2,Smk2⟩:=Sma2
 obtain ⟨Sma3,Smi3,Sml3,Smc3,Smk3⟩:=Sma3
 obtain ⟨Nma0,Nmi0,Nml0,Nmc0,Nmk0⟩:=Nma0
 obtain ⟨Nma1,Nmi1,Nml1,Nmc1,Nmk1⟩:=Nma1
 obtain ⟨Nma2,Nmi2,Nml2,Nmc2,Nmk2⟩:=Nma2
 obtain ⟨Nma3,Nmi3,Nml3,Nmc3,Nmk3⟩:=Nma3
 obtain ⟨pg,hd,po,sa,mk,kc⟩:=pg
 obtain ⟨ppg,phd,ppo,psa,pmm,pkc⟩:=ppg
 obtain ⟨Spg,Shd,Spo,Ssa,Smm,Skc⟩:=Spg
 obtain ⟨Npg,Nhd,Npo,Nsa,Nmm,Nkc⟩:=Npg
 have e:=hfa.symm.trans (mg_of X G a37)
 cases e
 have T:Txt mg:=⟨mg_none_of X G z_ValueError,mg_none_of X G z_dict,mg_none_of X G z_enumerate,mg_none_of X G z_int,mg_none_of X G z_isinstance,mg_none_of X G z_len,mg_none_of X G z_list,mg_none_of X G z_max,mg_none_of X G z_range,mg_none_of X G z_set,mg_none_of X G z_sorted,mg_none_of X G z_tuple⟩
 have Cl:Cls K C:=⟨pg,hd,po,sa⟩
 have mC:=mg_of X G aC
 have cm_NAMING_GATES:=mg_of X G ca_NAMING_GATES
 have cst_NAMING_GATES:Wn K a_NAMING_GATES [V.str "not", V.str "all", V.str "some"]:=⟨_,_,_,cl_NAMING_GATES,Z,Z,cs_NAMING_GATES,cv_NAMING_GATES⟩
 have nm_ENDED:=mg_of X G cn_ENDED
 have nm_RESTS:=mg_of X G cn_RESTS
 have nm_LEAVES:=mg_of X G cn_LEAVES
 have dC:=mg_of X G ea_Unsettled
 have fE:=Bq (st:=Hn) ml0 mc0 mk0
 have gK:Bi K _ ["self", "signs"] []:=bM2 fE λ _ _ _ _ _ _ _ _=>rfl
 have MkC:Mk K C h0:=⟨mk,ma0,mi0,kc⟩
 have cH:=Bq (st:=Le) ml1 mc1 mk1
 have fF:Bi K _ ["self", "word", "numbers"] []:=bM3 cH λ _ _ _ _ _ _ _ _ _=>rfl
 have fG:Eh K C "gate" h1:=⟨ma1,mi1,mk1⟩
 have bJ:=Bq (st:=Jx) ml2 mc2 mk2
 have dD:Bi K _ ["self"] []:=bM1 bJ λ _ _ _ _ _ _ _=>rfl
 have dE:Eh K C "later" h2:=⟨ma2,mi2,mk2⟩
 have fH:=Bq (st:=Nv) ml3 mc3 mk3
 have gM:Bi K _ ["self", "number", "word", "numbers"] []:=bM4 fH λ _ _ _ _ _ _ _ _ _ _=>rfl
 have gN:Eh K C "fill" h3:=⟨ma3,mi3,mk3⟩
 have bC:=Bq (st:=Hi) ml4 mc4 mk4
 have dZ:Bi K _ ["self", "number"] []:=bM2 bC λ _ _ _ _ _ _ _ _=>rfl
 have eB:Eh K C "opposite" h4:=⟨ma4,mi4,mk4⟩
 have bD:=Bq (st:=Hg) ml5 mc5 mk5
 have eE:Bi K _ ["self", "numbers"] []:=bM2 bD λ _ _ _ _ _ _ _ _=>rfl
 have eG:Eh K C "every_of" h5:=⟨ma5,mi5,mk5⟩
 have bU:=Bq (st:=Iy) ml6 mc6 mk6
 have fK:Bi K _ ["self", "numbers"] []:=bM2 bU λ _ _ _ _ _ _ _ _=>rfl
 have fL:Eh K C "some_of" h6:=⟨ma6,mi6,mk6⟩
 have cL:=Bq (st:=Gi) ml7 mc7 mk7
 have fR:Bi K _ ["self", "pairs"] []:=bM2 cL λ _ _ _ _ _ _ _ _=>rfl
 have fU:Eh K C "joined" h7:=⟨ma7,mi7,mk7⟩
 have bE:=Bq (st:=Hj) ml8 mc8 mk8
 have eJ:Bi K _ ["self"] []:=bM1 bE λ _ _ _ _ _ _ _=>rfl
 have eK:Eh K C "new_part" h8:=⟨ma8,mi8,mk8⟩
 have gH:A2 K mg "net_of" ["program"] Ik:=fI1 X G a0 λ _ _ _ _ _ _ _=>rfl
 have eM:A2 K mg "wire_part" ["wiring", "part"] Ff:=fI2 X G a1 λ _ _ _ _ _ _ _ _=>rfl
 have eN:A2 K mg "wire_leaf" ["wiring", "part", "whole"] Gm:=fI3 X G a2 λ _ _ _ _ _ _ _ _ _=>rfl
 have eO:A2 K mg "wire_rest" ["wiring", "rest", "whole"] Gr:=fI3 X G a3 λ _ _ _ _ _ _ _ _ _=>rfl
 have cI:A2 K mg "wire_leaving" ["wiring", "rest", "whole", "memory", "comes"] E9:=fI5 X G a4 λ _ _ _ _ _ _ _ _ _ _ _=>rfl
 have eP:A2 K mg "wire_pair" ["wiring", "part", "whole", "first", "second"] Gp:=fI5 X G a5 λ _ _ _ _ _ _ _ _ _ _ _=>rfl
 have eQ:A2 K mg "wire_then" ["wiring", "whole", "first", "second"] Fg:=fI4 X G a6 λ _ _ _ _ _ _ _ _ _ _=>rfl
 have fV:A2 K mg "wire_if" ["wiring", "sign", "whole", "first", "second"] Iu:=fI5 X G a7 λ _ _ _ _ _ _ _ _ _ _ _=>rfl
 have cP:A2 K mg "wire_beside" ["wiring", "whole", "first", "second"] Fl:=fI4 X G a8 λ _ _ _ _ _ _ _ _ _ _=>rfl
 have bV:A2 K mg "greater_codes" ["wiring", "sides"] Cv:=fI2 X G a9 λ _ _ _ _ _ _ _ _=>rfl
 have dG:A2 K mg "wire_round" ["wiring", "part", "whole", "inner"] E1:=fI4 X G a10 λ _ _ _ _ _ _ _ _ _ _=>rfl
 have dH:A2 K mg "wire_again" ["wiring", "rest", "whole", "inner"] E3:=fI4 X G a11 λ _ _ _ _ _ _ _ _ _ _=>rfl
 have bX:A2 K mg "wire_skipping" ["wiring", "part", "whole", "inner"] Eu:=fI4 X G a12 λ _ _ _ _ _ _ _ _ _ _=>rfl
 have eT:A2 K mg "code_gate" ["wiring", "whole", "code"] Gs:=fI3 X G a13 λ _ _ _ _ _ _ _ _ _=>rfl
 have eU:A2 K mg "leaf_code" ["part"] Gn:=fI1 X G a14 λ _ _ _ _ _ _ _=>rfl
 have bY:A2 K mg "code_of_again" ["code"] Ev:=fI1 X G a15 λ _ _ _ _ _ _ _=>rfl
 have cJ:A2 K mg "code_of_trap" ["code"] Fb:=fI1 X G a16 λ _ _ _ _ _ _ _=>rfl
 have cQ:A2 K mg "inner_parts" ["part"] Em:=fI1 X G a17 λ _ _ _ _ _ _ _=>rfl
 have dI:A2 K mg "every_part" ["part"] F9:=fI1 X G a18 λ _ _ _ _ _ _ _=>rfl
 have fM:A2 K mg "rests_of" ["part"] Ga:=fI1 X G a19 λ _ _ _ _ _ _ _=>rfl
 have bZ:A2 K mg "gates_settled" ["net", "state", "coming"] Cu:=fI3 X G a20 λ _ _ _ _ _ _ _ _ _=>rfl
 have bK:A2 K mg "value_at_first" ["gate", "starts", "rests", "signs"] Ei:=fI4 X G a21 λ _ _ _ _ _ _ _ _ _ _=>rfl
 have eV:A2 K mg "namers_of" ["gates"] Fh:=fI1 X G a22 λ _ _ _ _ _ _ _=>rfl
 have bL:A2 K mg "signs_that_are" ["value", "known"] Dj:=fI2 X G a23 λ _ _ _ _ _ _ _ _=>rfl
 have cT:A2 K mg "signs_there" ["known"] Fk:=fI1 X G a24 λ _ _ _ _ _ _ _=>rfl
 have dJ:A2 K mg "_law_mixed" ["_law_cell"] F8:=fI1 X G a25 λ _ _ _ _ _ _ _=>rfl
 have fX:A2 K mg "_law_at" ["_law_script", "_law_k"] Iv:=fI2 X G a26 λ _ _ _ _ _ _ _ _=>rfl
 have eW:A2 K mg "_law_leaf" ["_law_seed", "_law_signs"] Gq:=fI2 X G a27 λ _ _ _ _ _ _ _ _=>rfl
 have eY:A2 K mg "_law_deep" ["_law_part"] Ep:=fI1 X G a28 λ _ _ _ _ _ _ _=>rfl
 have dL:A2 K mg "_law_grown" ["_law_stack", "_law_seed", "_law_signs"] Gb:=fI3 X G a29 λ _ _ _ _ _ _ _ _ _=>rfl
 have fB:A2 K mg "_law_body" ["_law_cells", "_law_signs"] Gu:=fI2 X G a30 λ _ _ _ _ _ _ _ _=>rfl
 have cB:A2 K mg "_law_numbered" ["_law_part", "_law_k"] Du:=fI2 X G a31 λ _ _ _ _ _ _ _ _=>rfl
 have cK:A2 K mg "_law_program" ["_law_script", "_law_most"] Fa:=fI2 X G a32 λ _ _ _ _ _ _ _ _=>rfl
 have cU:A2 K mg "_law_coming" ["_law_cell", "_law_came"] En:=fI2 X G a33 λ _ _ _ _ _ _ _ _=>rfl
 have dM:A2 K mg "_law_value" ["_law_gate", "_law_state", "_law_coming_here", "_law_known"] E4:=fI4 X G a34 λ _ _ _ _ _ _ _ _ _ _=>rfl
 have dN:A2 K mg "_law_least" ["_law_net", "_law_state", "_law_coming_here"] E2:=fI3 X G a35 λ _ _ _ _ _ _ _ _ _=>rfl
 have fD:A2 K mg "_law_tick" ["_law_runner", "_law_coming_here"] Gv:=fI2 X G a36 λ _ _ _ _ _ _ _ _=>rfl
 have gQ:=Bq (st:=Go) l37 c37 k37
 refine ⟨fnOf "law" "law" (Ce Go) (B0 Go) (Ag Go) .none kV37 dc37 pm37 an37 cd37 ct37,λ s v=>.of_eq rfl,λ base _ _=>?_⟩
 have SCl:Cls K cS:=⟨Spg,Shd,Spo,Ssa⟩
 have SmC:=mg_of X G SaC
 have SF_init:=Bq (st:=Il) Sml0 Smc0 Smk0
 have Sb_init:Bi K _ ["self", "gates"] []:=bM2 SF_init λ _ _ _ _ _ _ _ _=>rfl
 have SMk:Mk K cS Sh0:=⟨Smm,Sma0,Smi0,Skc⟩
 have SF_learn:=Bq (st:=Lw) Sml1 Smc1 Smk1
 have Sb_learn:Bi K _ ["self", "gate", "value"] []:=bM3 SF_learn λ _ _ _ _ _ _ _ _ _=>rfl
 have Sm_learn:Eh K cS "learn" Sh1:=⟨Sma1,Smi1,Smk1⟩
 have SF_hand_on:=Bq (st:=Iw) Sml2 Smc2 Smk2
 have Sb_hand_on:Bi K _ ["self", "step"] []:=bM2 SF_hand_on λ _ _ _ _ _ _ _ _=>rfl
 have Sm_hand_on:Eh K cS "hand_on" Sh2:=⟨Sma2,Smi2,Smk2⟩
 have SF_hear:=Bq (st:=Nu) Sml3 Smc3 Smk3
 have Sb_hear:Bi K _ ["self", "gate", "value"] []:=bM3 SF_hear λ _ _ _ _ _ _ _ _ _=>rfl
 have Sm_hear:Eh K cS "hear" Sh3:=⟨Sma3,Smi3,Smk3⟩
 have NCl:Cls K cW:=⟨Npg,Nhd,Npo,Nsa⟩
 have NmC:=mg_of X G NaC
 have NF_init:=Bq (st:=Lx) Nml0 Nmc0 Nmk0
 have Nb_init:Bi K _ ["self", "net"] []:=bM2 NF_init λ _ _ _ _ _ _ _ _=>rfl
 have NMk:Mk K cW Nh0:=⟨Nmm,Nma0,Nmi0,Nkc⟩
 have NF_done_with:=Bq (st:=Jw) Nml1 Nmc1 Nmk1
 have Nb_done_with:Bi K _ ["self", "coming"] []:=bM2 NF_done_with λ _ _ _ _ _ _ _ _=>rfl
 have Nm_done_with:Eh K cW "done_with" Nh1:=⟨Nma1,Nmi1,Nmk1⟩
 have NF_tick:=Bq (st:=Nt) Nml2 Nmc2 Nmk2
 have Nb_tick:Bi K _ ["self", "coming"] []:=bM2 NF_tick λ _ _ _ _ _ _ _ _=>rfl
 have Nm_tick:Eh K cW "tick" Nh2:=⟨Nma2,Nmi2,Nmk2⟩
 have NF_state:=Bq (st:=Ly) Nml3 Nmc3 Nmk3
 have Nb_state:Bi K _ ["self"] []:=bM1 NF_state λ _ _ _ _ _ _ _=>rfl
 have Nm_state:Eh K cW "state" Nh3:=⟨Nma3,Nmi3,Nmk3⟩
 have ClP:Cls K CP:=⟨ppg,phd,ppo,psa⟩
 have TW:B2 K mg C CP:={ toTxt:=T,cl:=Cl,nG:=nA_gates,nS:=nA_signs,nN:=nA_senders,nL:=nA_leavers,clP:=ClP,nR:=pn_runs,nK:=pn_kept,nT:=pn_stays,nE:=pn_rests,nC:=pn_codes,m_Wired:=mg_of X G paC,m_Wiring:=mC,m_EN:=⟨_,nm_ENDED⟩,m_RE:=⟨_,nm_RESTS⟩,m_LE:=⟨_,nm_LEAVES⟩ }
 have FP:=Bq (st:=Lz) pml pmc pmk
 have bP:Bi K _ ["self", "runs", "kept", "stays"] []:=bM4 FP λ _ _ _ _ _ _ _ _ _ _=>rfl
 have MkP:Mk K CP hP:=⟨pmm,pma,pmi,pkc⟩
 have GP:=Aaa (P:=l.prog) (w:=w) (base:=base) FP TW
 have MGate:A4 l.prog w K mg base 1 C "gate" ["self", "word", "numbers"] (F2 C):=⟨_,_,AcG cH TW,fF,fG,Cl⟩
 have MLater:A4 l.prog w K mg base 2 C "later" ["self"] (Ny C):=⟨_,_,AaL bJ TW MGate,dD,dE,Cl⟩
 have MFill:A4 l.prog w K mg base 1 C "fill" ["self", "number", "word", "numbers"] (F0 C):=⟨_,_,Ab5 fH TW,gM,gN,Cl⟩
 have MOpp:A4 l.prog w K mg base 2 C "opposite" ["self", "number"] (Kg C):=⟨_,_,Su bC TW MGate,dZ,eB,Cl⟩
 have MEvery:A4 l.prog w K mg base 2 C "every_of" ["self", "numbers"] (Eo C):=⟨_,_,Vs bD TW MGate,eE,eG,Cl⟩
 have MSome:A4 l.prog w K mg base 2 C "some_of" ["self", "numbers"] (Fe C):=⟨_,_,Y0 bU TW MGate,fK,fL,Cl⟩
 have MJoin:A4 l.prog w K mg base 3 C "joined" ["self", "pairs"] (G6 C):=⟨_,_,Yg cL TW MSome,fR,fU,Cl⟩
 have MNew:A4 l.prog w K mg base 3 C "new_part" ["self"] (Pz C CP):=⟨_,_,Wm bE TW MkP GP bP MLater,eJ,eK,Cl⟩
 have MGate0:A4 l.prog w K mg base 1 C "gate" ["self", "word", "numbers"] (N7 C):=⟨_,_,Zm cH TW,fF,fG,Cl⟩
 have MLater0:A4 l.prog w K mg base 2 C "later" ["self"] (J2 C):=⟨_,_,Xf bJ TW MGate0,dD,dE,Cl⟩
 have GW:=Aa2 fE TW MLater0
 have CLv:=Wa cI TW MEvery MSome
 have CCg:=Se eT TW MSome
 have CLeaf:=AaE eN TW MSome (Sk eU TW) (AaB eO TW MGate MOpp MEvery CLv)
 have CPair:=Aai eP TW MFill MSome CCg (AaD eQ TW MFill MOpp MEvery MJoin CCg) (Adk fV TW MFill MOpp MEvery MJoin) (Abd cP TW MFill MOpp MEvery MJoin (Wo bV TW MEvery MSome))
 have CRound:=W8 dG TW MFill MJoin (AdD cJ TW) (Zq bX TW MFill MOpp MEvery MSome MJoin) (X8 dH TW MGate MSome MJoin (Adc bY TW) CCg CLv)
 have CIn:=AaX (P:=l.prog) (w:=w) (base:=base) cQ T
 have CWP:=O6 eM TW MNew CIn CPair CRound CLeaf 63
 have CNet:=Zr gH TW MkC GW gK MGate MFill CCg (Aaw fM T (AaW dI CIn)) CWP
 have CMix:=Zt (P:=l.prog) (w:=w) (base:=base) dJ
 have CProg:=AcZ cK T (AeB fX T CMix) (Abv fB T CMix (AeT eW) (AdC dL T (Rt eY T 60))) (Tm cB T 63)
 have TG:K0 K mg cS a_NAMING_GATES:={ toTxt:=T,cl:=SCl,nG:=Sn_gates,nK:=Sn_known,nO:=Sn_order,nN:=Sn_namers,nU:=Sn_unheard,m_Settler:=SmC,m_NAMING_GATES:=cm_NAMING_GATES,r_NAMING_GATES:=rfl,mN:=cst_NAMING_GATES }
 have GI:=Abr (P:=l.prog) (w:=w) (base:=base) SF_init TG (Acg eV TG)
 have ML:A4 l.prog w K mg base 1 cS "learn" ["self", "gate", "value"] (Lv cS):=⟨_,_,AaS SF_learn TG,Sb_learn,Sm_learn,SCl⟩
 have MH:A4 l.prog w K mg base 2 cS "hear" ["self", "gate", "value"] (Rk K cS):=⟨_,_,AcH SF_hear TG ML,Sb_hear,Sm_hear,SCl⟩
 have MO:A4 l.prog w K mg base 3 cS "hand_on" ["self", "step"] (Rs K cS):=⟨_,_,Abk SF_hand_on TG MH,Sb_hand_on,Sm_hand_on,SCl⟩
 have CGst:=AdG bZ TG SMk GI Sb_init ML MO (Acl bK T)
 have TM:Ki K mg cW c_Runner c_Unsettled:={ toTxt:=T,cl:=NCl,nR:=Nn_reached,nN:=Nn_net,m_Runner:=mg_of X G ea_Runner,m_Netted:=NmC,m_Un:=dC,excU:=ex_Unsettled }
 have FR:=Bq (st:=L0) rl rcc rkp
 have bR:Bi K _ ["self"] []:=bM1 FR λ _ _ _ _ _ _ _=>rfl
 have GR:=AaT (P:=l.prog) (w:=w) (base:=base) FR TM
 have GN:=Aau NF_init TM ⟨rga,rrd,rfc,rkp⟩ GR bR
 have CST:=Xm (P:=l.prog) (w:=w) (base:=base) cT TM (Adf bL T)
 have MDone:Lo l.prog w K mg base 48 cW "done_with" ["self", "coming"] (Sb K cW c_Unsettled):=⟨_,_,AbZ NF_done_with TM TG CST CGst,Nb_done_with,Nm_done_with,NCl⟩
 have MTick:Lo l.prog w K mg base 49 cW "tick" ["self", "coming"] (Sc K cW c_Unsettled):=⟨_,_,Abn NF_tick TM MDone,Nb_tick,Nm_tick,NCl⟩
 have MState:A4 l.prog w K mg base 1 cW "state" ["self"] (Oj K cW):=⟨_,_,Aag NF_state TM,Nb_state,Nm_state,NCl⟩
 have CTk:=Aea fD TM em_Unsettled_Unsettled MTick
 exact Adh gQ T TM NMk GN Nb_init MState CTk ktW haW hnC htC hmW CProg CNet CMix (AcL cU T CMix) (Z4 dN T (AaC dM T))
theorem walk {l:PySem.W.OpenLaw} {q:Program} {a1:List Str} {XP:(Str→Option Value)→Heap→Prop} {YP:World→Heap→Prop} {d:DefRec} {K:Params→PySem.W.Frag} (hn:l.most = some 63) (a2:d.params.defaults = [])
  (hY:∀ (w:World) (h:Heap),YP w h→(K w.params).In h)
  (F:∀ (w:World) (mg:Str→Option Value) (fa:Addr) (h:Heap),(K w.params).In h→h.Ns mainGlobals mg→mg d.name = some (.ref fa) →
   ∃ fd:FuncData,(∀ (s:Shared) (u:Value),BindsTo s fd ⟨[u],[]⟩ [("_law_script", u)])∧∀ base:Heap,(K w.params).In base→base.Ns mainGlobals mg→Bl l.prog w (K w.params) mg base CX0 71 fa fd ["_law_script"] (P9 (K w.params))) :
  PySem.W.WalkO q a1 XP YP l.row.toRowW d [] (λ f vs=>PySem.call f vs) :=
 L2.Ae9 (n:=63) (k:=71) (x:= "_law_script") (CX:=λ _=>CX0) (sp:=λ w=>P9 (K w.params)) hn (by decide) a2 ⟨Z,by decide,by decide⟩ hY F (λ _ _ a ns hl _ hS=>⟨a,ns,Z,hS,hl,λ _=>rfl⟩) λ _ _ _ _ _ z=>z
end My
end
set_option Elab.async false
open PySem PySem.W PyProof.Rows L2
def PySem.W.Fast.tw15390334816504688029:PySem.Program:=PySem.Challenge.pw_signalwise_k52_netted
theorem PySem.W.Fast.te15390334816504688029:PySem.Challenge.pw_signalwise_k52_netted = PySem.W.Fast.tw15390334816504688029:=rfl
namespace PySem.W.Fast
def tw11920591963588271708:=()
def tw10921622328303385612:=()
def tw10507334375577424725:=()
def tw14158548328278790258:=()
def tw10473233884941464049:=()
def tw8995372422343530123:=()
def tw17115709802524941348:=()
def tw13418765021358742187:=()
def tw8767826689369334866:=()
def tw316724586682857643:=()
def tw9522487021758498041:=()
def tw8428936477570592398:=()
def tw12586774292703815794:=()
def tw2415384768903144745:=()
def tw8696883305542511784:=()
def tw9125937787221784862:=()
def tw10370604248589449953:=()
def tw15058679238076269153:=()
def tw6572003294882122012:=()
def tw1006185797318809244:=()
def tw8022038630104515032:=()
def tw4316092294338488746:=()
def tw7971769677232809831:=()
def tw7775364581580678352:=()
def tw18149788058591999481:=()
def tw2759510221369142567:=()
def tw10056664034070730318:=()
def tw13995237906091509728:=()
def tw9796762031403376837:=()
def tw13866986635773737570:=()
def tw8275362537415294241:=()
def tw4092715850108435815:=()
def tw12165364789927127591:=()
def tw14378192981450169508:=()
def tw339510902289999920:=()
def tw544029875020418785:=()
def tw1713912284533580419:=()
def tw5779765920926137696:=()
def tw17048049443397963405:=()
def tw12940828399438748695:=()
def tw14758654052412269865:=()
def tw362654602301187705:=()
def tw4696610974503134881:=()
def tw3499806768681559156:=()
def tw16463146046009815014:=()
def tw641436376475949230:=()
def tw3987973132167687692:=()
def tw120309155381911634:=()
def tw325018005608280109:=()
def tw6852426366912552069:=()
def tw474881872006650593:=()
def tw10963126837267993266:=()
def tw2787720414857811914:=()
def tw16270609426977850025:=()
def tw468085466508681361:=()
def tw14260069784969477636:=()
def tw6016285507947256400:=()
def tw547000363660749196:=()
def tw5447186915262358502:=()
def tw2423480977123225412:=()
def tw4175567130361782154:=()
def tw235154379647519935:=()
def tw15851148085777883398:=()
def tw9785405055093106514:=()
def tw10898905659899392262:=()
def tw2665692697445965631:=()
def tw16281793569410383085:=()
def tw9069412216544817468:=()
def tw9579070305997157481:=()
end PySem.W.Fast
set_option maxRecDepth 100000 in
set_option maxHeartbeats 0 in
theorem PySem.Challenge.cw_signalwise_k52_netted_holds : PySem.Challenge.rw_signalwise_k52_netted.Holds := by
 w_on; o_law; k_head; (case hw=>w_witness2)
 k_fill
 refine My.walk (l:=PySem.Challenge.rw_signalwise_k52_netted) rfl rfl (λ w h Y=>kIn_of Y) ?F
 case F =>
  intro w mg fa h KX G hmg
  refine' My.all_mk KX G hmg ?a0 ?a1 ?a2 ?a3 ?a4 ?a5 ?a6 ?a7 ?a8 ?a9 ?a10 ?a11 ?a12 ?a13 ?a14 ?a15 ?a16 ?a17 ?a18 ?a19 ?a20 ?a21 ?a22 ?a23 ?a24 ?a25 ?a26 ?a27 ?a28 ?a29 ?a30 ?a31 ?a32 ?a33 ?a34 ?a35 ?a36 ?a37 ?l37 ?c37 ?k37 ?aC ?ma0 ?ma1 ?ma2 ?ma3 ?ma4 ?ma5 ?ma6 ?ma7 ?ma8 ?pg ?nA_gates ?nA_signs ?nA_senders ?nA_leavers ?ca_NAMING_GATES ?cl_NAMING_GATES ?cs_NAMING_GATES ?cv_NAMING_GATES ?cn_ENDED ?cn_RESTS ?cn_LEAVES ?ea_Unsettled ?ex_Unsettled ?em_Unsettled_Unsettled ?paC ?pma ?ppg ?pn_runs ?pn_kept ?pn_stays ?pn_rests ?pn_codes ?SaC ?Sma0 ?Sma1 ?Sma2 ?Sma3 ?Spg ?Sn_gates ?Sn_known ?Sn_order ?Sn_namers ?Sn_unheard ?NaC ?Nma0 ?Nma1 ?Nma2 ?Nma3 ?Npg ?Nn_reached ?Nn_net ?ea_Runner ?rga ?rrd ?rfc ?rkp ?rl ?rcc ?hnC ?htC ?ktW ?haW ?hmW ?z_ValueError ?z_dict ?z_enumerate ?z_int ?z_isinstance ?z_len ?z_list ?z_max ?z_range ?z_set ?z_sorted ?z_tuple
  (case a0|a1|a2|a3|a4|a5|a6|a7|a8|a9|a10|a11|a12|a13|a14|a15|a16|a17|a18|a19|a20|a21|a22|a23|a24|a25|a26|a27|a28|a29|a30|a31|a32|a33|a34|a35|a36=>apply My.FI.mk <;> k_is)
  (case a37|l37|c37|k37|aC=>show _ = _;k_is)
  (case ma0|ma1|ma2|ma3|ma4|ma5|ma6|ma7|ma8=>apply My.MI.mk <;> k_is)
  (case pg=>apply My.CI.mk <;> k_is)
  (case nA_gates|nA_signs|nA_senders|nA_leavers|ca_NAMING_GATES|cl_NAMING_GATES=>show _ = _;k_is)
  (case cs_NAMING_GATES=>decide)
  (case cv_NAMING_GATES=>exact .cons ⟨_,Z⟩ (.cons ⟨_,Z⟩ (.cons ⟨_,Z⟩ (.nil))))
  (case cn_ENDED|cn_RESTS|cn_LEAVES|ea_Unsettled=>show _ = _;k_is)
  (case ex_Unsettled=>k_exc)
  (case em_Unsettled_Unsettled=>kts_exm)
  (case paC=>show _ = _;k_is)
  (case pma=>apply My.MI.mk <;> k_is)
  (case ppg=>apply My.CI.mk <;> k_is)
  (case pn_runs|pn_kept|pn_stays|pn_rests|pn_codes|SaC=>show _ = _;k_is)
  (case Sma0|Sma1|Sma2|Sma3=>apply My.MI.mk <;> k_is)
  (case Spg=>apply My.CI.mk <;> k_is)
  (case Sn_gates|Sn_known|Sn_order|Sn_namers|Sn_unheard|NaC=>show _ = _;k_is)
  (case Nma0|Nma1|Nma2|Nma3=>apply My.MI.mk <;> k_is)
  (case Npg=>apply My.CI.mk <;> k_is)
  (case Nn_reached|Nn_net|ea_Runner|rga|rrd|rfc|rkp|rl|rcc|hnC|htC=>show _ = _;k_is)
  (case ktW=>kit_is)
  (case haW|hmW|z_ValueError|z_dict|z_enumerate|z_int|z_isinstance|z_len|z_list|z_max|z_range|z_set|z_sorted|z_tuple=>show _ = _;k_is)
#print axioms PySem.Challenge.cw_signalwise_k52_netted_holds
