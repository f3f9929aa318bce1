import PyProof.Rows.All
import Wide.All
import OpenK.AllK
import Wide.FinOn
import Lean
import PyProof.EqAt
import PyProof.EqKinds
import PyProof.TupleCall
import PyProof.StrLawsRepr
import KE.LcSums
import PyProof.RulesAs
import KE.KIsAll
import PyProof.ExcArgs
import KE.RegKTryMore
import KE.RegKIsAll
import PySem.Challenge.RW_signalwise_k72_desk_refused
open List (Nodup Pairwise all_cons all_eq_true any_cons any_eq_true any_map append_assoc append_nil cons_append contains_iff_mem drop drop_eq_getElem_cons drop_eq_nil_of_le filter filterMap_cons filter_append filter_cons filter_cons_of_neg filter_cons_of_pos find?_cons flatMap flatten_cons foldl foldl_append foldl_cons forIn_cons getD_eq_getElem?_getD getElem?_eq_getElem getElem?_map getElem?_set_ne getElem?_set_self getElem_mem length length_append length_cons length_drop length_eq_zero_iff length_filter_le length_map length_nil length_pos_of_mem length_range length_set length_singleton length_take lookup_cons map_append map_congr_left map_cons map_map map_nil mem_append mem_append_left mem_append_right mem_cons mem_cons_of_mem mem_cons_self mem_filter mem_filterMap mem_iff_getElem mem_map mem_nil_iff mem_of_getElem? mem_range mem_singleton nil_append nodup_cons not_mem_nil of_mem_zip pairwise_cons range' range_succ replicate_succ set_cons_succ set_cons_zero set_set size_toArray take_add_one take_length take_of_length_le take_succ zip_cons_cons zip_map)
open Nat (add_le_add le_add_left le_add_right le_max_left le_max_right le_of_eq le_of_lt le_of_succ_le_succ le_refl le_succ le_succ_of_le le_trans lt_irrefl lt_of_le_of_lt lt_of_lt_of_le lt_or_ge lt_succ_of_lt lt_succ_self lt_trans max_le mod_lt ne_of_gt ne_of_lt not_lt succ_le_succ succ_pos zero_le)
open PySem.W (any_some callWith_K callWith_K0 cellsFrom_some codeIn codeRec_of emptyDict excIn exmOne exm_one findCls fnOf handedIn hasDictIn hideAll hideAll_get hideAll_none instObj isFn kIn_of keepIn kitx_dict kitx_list kitx_tuple lookIn makesIn methodCall_KW methodObj mg_none_of mg_of nsIn of_hideAll plainGet plainGet_of plainOver readsIn takerIn typeIn)
set_option autoImplicit true
set_option relaxedAutoImplicit true
noncomputable section
set_option Elab.async false
set_option linter.all false
set_option maxRecDepth 100000
set_option maxHeartbeats 64000000
abbrev FA:=PySem.W.Frag
variable {P prog:PySem.Program} {w:PySem.World} {K:FA} {mg:PySem.Str→Option PySem.Value} {base h':PySem.Heap} {A:PySem.Around} {pos apos:PySem.Pos} {pins:List (PySem.Addr× PySem.Obj)} {f C a:PySem.Addr} {fd:PySem.FuncData} {ps:List PySem.Str} {us:List PySem.Value} {x:PySem.Str} {n:Nat} {u:PySem.Value} {e:PySem.Expr} {es:List PySem.Expr} {E:PySem.Value→PySem.Shared→Prop}
namespace L2
open PySem PySem.Spec PyProof.Rows
def uA:=@wpAny_bind
def uB:=@wpAny_pure
def uC:=@List.getElem?_eq_getElem
def uD:=@List.length_map
def uF:=@List.length_append
def uG:=@List.length_singleton
def uH:=@List.mem_cons_self
def uI:=@List.mem_cons_of_mem
def uJ:=@List.getElem?_map
def uK:=@decide_eq_true
def uM:=@decide_eq_false
def uN:=@of_decide_eq_true
def uO:=@List.size_toArray
def uP:=@List.map_append
def uQ:=@List.mem_of_getElem?
def uS:=@List.mem_append_right
def uT:=@List.take_of_length_le
def uU:=@List.length_cons
def uV:=@List.mem_append
def uW:=@List.take_succ
def uX:=@Nat.le_trans
def uY:=@Nat.le_refl
def uZ:=@Nat.lt_of_lt_of_le
def vA:=@Nat.lt_of_le_of_lt
def vB:=@Nat.ne_of_lt
def vC:=@List.mem_singleton
def vD:=@List.length_take
def vE:=@List.length_range
def vF:=@List.not_mem_nil
def vG:=@List.append_nil
def vH:=@List.getElem_mem
def vI:=@List.mem_cons
def vJ:=@List.filter_append
def vK:=@List.getElem?_set_ne
def vL:=@List.getElem?_set_self
def vM:=@List.pairwise_cons
def vN:=@List.nodup_cons
def vP:=@List.map_cons
def vQ:=@List.mem_map
def vR:=@List.lookup_cons
def vS:=@wpAny_mono
def vT:=@wpAny_holding
def vU:=@List.mem_append_left
def vV:=@Nat.zero_le
def vW:=@wpAny_call_entry
def vX:=@wpAny_setField_rec
theorem mS {α:Type _} {a b:α} (h:a∈[b]):a = b:=vC.mp h
theorem zN0:0≤sizeLine:=by decide
theorem zN1:1≤sizeLine:=by decide
theorem zN2:2≤sizeLine:=by decide
theorem zN3:3≤sizeLine:=by decide
theorem zN4:4≤sizeLine:=by decide
theorem zN5:5≤sizeLine:=by decide
theorem zN6:6≤sizeLine:=by decide
theorem zN7:7≤sizeLine:=by decide
theorem zN8:8≤sizeLine:=by decide
theorem Ah9:10≤sizeLine:=by decide
theorem AiV:18≤sizeLine:=by decide
theorem Ah4:23≤sizeLine:=by decide
abbrev Key:=Sum Int Str
def Ov:Key→Value→Bool
 | .inl k,v=>Value.isInt k v
 | .inr x,v=>Value.isStrOf x v
def Aia (w:World):Key→Int
 | .inl k=>hashInt k
 | .inr x=>hashStr w x
theorem C8:∀ {k:Key} {v:Value},Ov k v = true→(∃ i t,k = Sum.inl i∧v = Value.int i t)∨(∃ x t,k = Sum.inr x∧v = Value.str x t)
 | .inl i,v,h=>by
  obtain ⟨t,e⟩:=Value.isInt_shape (k:=i) (v:=v) h
  exact .inl ⟨i,t,rfl,e⟩
 | .inr x,v,h=>by
  obtain ⟨t,e⟩:=Value.isStrOf_shape (x:=x) (v:=v) h
  exact .inr ⟨x,t,rfl,e⟩
theorem AcH (i:Int) (t:Tok):Ov (.inl i) (.int i t) = true:=by simp [Ov,Value.isInt]
theorem AcU (x:Str) (t:Tok):Ov (.inr x) (.str x t) = true:=by simp [Ov,Value.isStrOf]
theorem Afk (a b:Int):decide ((Sum.inl a:Key) = Sum.inl b) = (a == b):=by
 by_cases e:a = b
 ·subst e; simp
 ·have h:¬ (Sum.inl a:Key) = Sum.inl b:=λ q=>e (Sum.inl.inj q)
  rw [uM h]
  exact (beq_eq_false_iff_ne.mpr e).symm
theorem Afr (a b:Str):decide ((Sum.inr a:Key) = Sum.inr b) = decide (a = b):=by
 by_cases e:a = b
 ·subst e; simp
 ·have h:¬ (Sum.inr a:Key) = Sum.inr b:=λ q=>e (Sum.inr.inj q)
  rw [uM h,uM e]
theorem AgK (a:Int) (b:Str):decide ((Sum.inl a:Key) = Sum.inr b) = false:=uM (λ q=>nomatch q)
theorem AgD (a:Str) (b:Int):decide ((Sum.inr a:Key) = Sum.inl b) = false:=uM (λ q=>nomatch q)
def Dc (prog:Program) (w:World):PySem.KeyKind prog w Key where
 is:=Ov
 hash:=Aia w
 inj:=λ v a b ha hb=>by
  rcases C8 ha with ⟨i,t,rfl,rfl⟩ | ⟨x,t,rfl,rfl⟩
  ·rcases C8 hb with ⟨j,u,rfl,e⟩ | ⟨y,u,rfl,e⟩
   ·injection e with e1 _; rw [e1]
   ·exact nomatch e
  ·rcases C8 hb with ⟨j,u,rfl,e⟩ | ⟨y,u,rfl,e⟩
   ·exact nomatch e
   ·injection e with e1 _; rw [e1]
 byValue:=λ k v h=>by
  rcases C8 h with ⟨i,t,rfl,rfl⟩ | ⟨x,t,rfl,rfl⟩ <;> rfl
 pyHash:=λ hv h=>by
  rcases C8 hv with ⟨i,t,rfl,rfl⟩ | ⟨x,t,rfl,rfl⟩
  ·exact wpAny_pyHash_int h
  ·exact wpAny_pyHash_str h
 eqBool:=λ hu hv h=>by
  rcases C8 hu with ⟨i,t,rfl,rfl⟩ | ⟨x,t,rfl,rfl⟩
  ·rcases C8 hv with ⟨j,u,rfl,rfl⟩ | ⟨y,u,rfl,rfl⟩
   ·rw [Afk] at h; exact wpAny_eqBool_int h
   ·rw [AgK] at h; exact SeqAt.EqAt.int_str i t y u _ _ _ _ h
  ·rcases C8 hv with ⟨j,u,rfl,rfl⟩ | ⟨y,u,rfl,rfl⟩
   ·rw [AgD] at h; exact SeqAt.EqAt.str_int x t j u _ _ _ _ h
   ·rw [Afr] at h; exact wpAny_eqBool_str h
 «strs»:=λ k x t v h=>by
  rcases C8 h with ⟨i,u,rfl,e⟩ | ⟨y,u,rfl,e⟩
  ·exact nomatch e
  ·injection e with e1 _
   subst e1
   cases v <;> rfl
theorem X4 (prog:Program) (w:World) (i:Int) (t:Tok):(Dc prog w).is (.inl i) (.int i t) = true:=AcH i t
theorem Yb (prog:Program) (w:World) (x:Str) (t:Tok):(Dc prog w).is (.inr x) (.str x t) = true:=AcU x t
inductive V where
 | non | bl (b:Bool) | int (i:Int) | str (x:Str) | byt (b:Array UInt8) | flt (b:UInt64) | ref (a:Addr) | ty (n:String)
 deriving DecidableEq
def A8:V→Value→Prop
 | .non,u=>u = Value.none
 | .bl b,u=>u = Value.bool b
 | .int i,u=>∃ t,u = Value.int i t
 | .str x,u=>∃ t,u = Value.str x t
 | .byt b,u=>∃ t,u = Value.bytes b t
 | .flt b,u=>∃ t,u = Value.float b t
 | .ref a,u=>u = Value.ref a
 | .ty n,u=>u = Value.type n
abbrev A5:List V→List Value→Prop:=Paired A8
theorem A5.length {xs:List V} (r:A5 xs us):xs.length = us.length:=Paired.length r
theorem A5.get:∀ {xs:List V} {us:List Value} {i:Nat} {x:V},A5 xs us→xs[i]? = some x→∃ u,us[i]? = some u∧A8 x u
 | _,_,_,_,.nil,e=>by simp at e
 | _,_,0,_,.cons r _,e=>by simp at e; subst e; exact ⟨_,rfl,r⟩
 | _,_,i + 1,x,.cons _ t,e=>by
  obtain ⟨u,h1,h2⟩:=A5.get (i:=i) (x:=x) t (by simpa using e)
  exact ⟨u,by simpa using h1,h2⟩
theorem A5.set {x:V} (r:A8 x u):∀ {xs:List V} {us:List Value} (i:Nat),A5 xs us→A5 (xs.set i x) (us.set i u)
 | _,_,_,.nil=>.nil
 | _,_,0,.cons _ t=>.cons r t
 | _,_,i + 1,.cons q t=>.cons q (A5.set r i t)
theorem A5.append:∀ {xs ys:List V} {us ws:List Value},A5 xs us→A5 ys ws→A5 (xs ++ ys) (us ++ ws)
 | _,_,_,_,.nil,s=>s
 | _,_,_,_,.cons r t,s=>.cons r (A5.append t s)
theorem A5.take:∀ {xs:List V} {us:List Value} (n:Nat),A5 xs us→A5 (xs.take n) (us.take n)
 | _,_,0,_=>.nil
 | _,_,_ + 1,.nil=>.nil
 | _,_,n + 1,.cons r t=>.cons r (A5.take n t)
theorem A5.drop:∀ {xs:List V} {us:List Value} (n:Nat),A5 xs us→A5 (xs.drop n) (us.drop n)
 | _,_,0,r=>r
 | _,_,_ + 1,.nil=>.nil
 | _,_,n + 1,.cons _ t=>A5.drop n t
def F2:Option V→Option Value→Prop
 | some v,some u=>A8 v u
 | none,none=>True
 | _,_=>False
def KV {κ:Type}:List (κ× V)→List (κ× Value)→Prop:=Paired λ (p:κ× V) (q:κ× Value)=>p.1 = q.1∧A8 p.2 q.2
def kV:Key→V
 | .inl i=>.int i
 | .inr x=>.str x
inductive HO where
 | lst (xs:List V)
 | tup (xs:List V)
 | dK (kvs:List (Key× V)) | dT (kvs:List (List Key× V))
 | set (S:Int→Bool) (n:Nat)
 | ins (C dx:Addr) (fs:List (Str× V))
 | own (x:Addr)
 | xd (fs:List (Str× V))
 | met (f x:Addr)
 | rng (lo hi:Int)
 | frz (o:Obj) (u:HO)
 | tbl (ps:Array Value)
 | ext (φ:Heap→Prop)
abbrev Hp:=Addr→Option HO
def upd (H:Hp) (a:Addr) (o:HO):Hp:=λ b=>if b = a then some o else H b
theorem Ae {H:Hp} {o:HO}:upd H a o a = some o:=by unfold upd; rw [if_pos rfl]
theorem upd_ne {H:Hp} {b:Addr} {o:HO} (h:b≠a):upd H a o b = H b:=by unfold upd; rw [if_neg h]
theorem Cd {H:Hp} {b:Addr} {o u:HO} (h:H a = some o) (h':H b = some u) (d:o≠u):a≠b:=by
 intro e; subst e; rw [h] at h'; exact d (Option.some.inj h')
theorem Ay {H:Hp} {b:Addr} {o:HO} (h:H a = some o) (h':H b = none):a≠b:=by
 intro e; subst e; rw [h] at h'; cases h'
section
variable (P:Program) (w:World)
def B1 (H:Hp) (h:Heap) (a:Addr):HO→Prop
 | .lst xs=>xs.length≤sizeLine∧∃ (its:List Value) (n:Nat),A5 xs its∧h.get? a = some { cls:=.type "list", data:=.seq its.toArray n }
 | .tup xs=>xs.length≤sizeLine∧∃ its:List Value,A5 xs its∧IsTup h a its.toArray
 | .dK kvs=>kvs.length≤sizeLine∧(a == sysModules) = false∧∃ vs,KV kvs vs∧h.DictOf (Dc P w) a vs
 | .dT kvs=>kvs.length≤sizeLine∧(a == sysModules) = false∧∃ xs:List (List Key× Addr× Value),
   Paired (λ (p:List Key× V) (q:List Key× Addr× Value)=>p.1 = q.1∧H q.2.1 = some (.tup (p.1.map kV))∧A8 p.2 q.2.2) kvs xs ∧
   ∃ o es ep,h.get? a = some o∧o.ExactDict∧o.data = .dict es ep∧es.toList = xs.map (entryOfKey (tupleKind (Dc P w)))∧(xs.map (·.1)).Nodup
 | .set S n=>h.SetOf (intKind P w) a S n
 | .ins C dx fs=>H dx = some (.own a)∧fs.length≤1000∧dx≠a∧h.get? a = some (instObj C dx) ∧
   ∃ mA,h.Ns1 dx mA∧(∀ f,F2 (fs.lookup f) (mA f))∧PySem.Within mA (fs.map (·.1))
 | .own _=>∃ o,h.get? a = some o
 | .xd fs=>∃ mA,h.Ns1 a mA∧∀ f,F2 (fs.lookup f) (mA f)
 | .rng lo hi=>∃ t u v,h.get? a = some { cls:=.type "range", data:=.fields #[.int lo t,.int hi u,.int 1 v] }
 | .frz o u=>h.get? a = some o∧B1 H h a u
 | .tbl ps=>h.get? a = some { cls:=.none,data:=.fields ps }
 | .met f x=>h.get? a = some (methodObj (.ref f) (.ref x))
 | .ext φ=>φ h∧(∃ o,h.get? a = some o)∧∀ h1 h2:Heap,φ h1→(∀ o,h1.get? a = some o→h2.get? a = some o)→φ h2
def HOk (H:Hp) (h:Heap):Prop:=∀ a o,H a = some o→B1 P w H h a o
end
section
variable {H H':Hp} {h:Heap} {o:HO}
theorem B1.lt (x:B1 P w H h a o):a < h.objs.size:=by
 cases o with
 | lst xs=>obtain ⟨_,_,_,_,e⟩:=x; exact Heap.lt_size e
 | tup xs=>obtain ⟨_,_,_,p⟩:=x; exact p.lt
 | dK kvs=>obtain ⟨_,_,_,_,o,_,_,e,_⟩:=x; exact Heap.lt_size e
 | dT kvs=>obtain ⟨_,_,_,_,o,_,_,e,_⟩:=x; exact Heap.lt_size e
 | set S n=>obtain ⟨o,_,_,_,e,_⟩:=x; exact Heap.lt_size e
 | ins C dx fs=>obtain ⟨_,_,_,e,_⟩:=x; exact Heap.lt_size e
 | own y=>obtain ⟨_,e⟩:=x; exact Heap.lt_size e
 | xd fs=>obtain ⟨_,⟨_,_,_,e,_⟩,_⟩:=x; exact Heap.lt_size e
 | rng lo hi=>obtain ⟨_,_,_,e⟩:=x; exact Heap.lt_size e
 | frz ob u=>obtain ⟨e,_⟩:=x; exact Heap.lt_size e
 | tbl ps=>exact Heap.lt_size (show h.get? a = some _ from x)
 | met f y=>exact Heap.lt_size (show h.get? a = some _ from x)
 | ext φ=>obtain ⟨_,⟨_,e⟩,_⟩:=x; exact Heap.lt_size e
theorem Paired.mapP {α β:Type} {F G:α→β→Prop}:∀ {a1:List α} {a2:List β},Paired F a1 a2→(∀ a b,F a b→G a b)→Paired G a1 a2
 | _,_,.nil,_=>.nil
 | _,_,.cons r t,f=>.cons (f _ _ r) (Paired.mapP t f)
theorem B1.stay (x:B1 P w H h a o) (k:∀ b u,(b = a∨H b = some (.own a))→h.get? b = some u→h'.get? b = some u)
  (ho:∀ b,H b = some (.own a)→H' b = some (.own a)) (ht:∀ b xs,H b = some (.tup xs)→H' b = some (.tup xs)):B1 P w H' h' a o:=by
 induction o with
 | lst xs=>obtain ⟨z,a1,n,r,e⟩:=x; exact ⟨z,a1,n,r,k _ _ (.inl rfl) e⟩
 | tup xs=>obtain ⟨z,a1,r,ob,e,c⟩:=x; exact ⟨z,a1,r,ob,k _ _ (.inl rfl) e,c⟩
 | dK kvs=>obtain ⟨z,y,vs,r,ob,es,ep,e,c⟩:=x; exact ⟨z,y,vs,r,ob,es,ep,k _ _ (.inl rfl) e,c⟩
 | dT kvs =>
  obtain ⟨z,y,xs,r,ob,es,ep,e,c⟩:=x
  exact ⟨z,y,xs,Paired.mapP r λ p q z=>⟨z.1,ht _ _ z.2.1,z.2.2⟩,ob,es,ep,k _ _ (.inl rfl) e,c⟩
 | set S n=>obtain ⟨ob,es,ep,t,e,c⟩:=x; exact ⟨ob,es,ep,t,k _ _ (.inl rfl) e,c⟩
 | ins C dx fs =>
  obtain ⟨d,z,ne,e,mA,⟨od,es,ep,e2,c⟩,r⟩:=x
  exact ⟨ho _ d,z,ne,k _ _ (.inl rfl) e,mA,⟨od,es,ep,k _ _ (.inr d) e2,c⟩,r⟩
 | own y=>obtain ⟨ob,e⟩:=x; exact ⟨ob,k _ _ (.inl rfl) e⟩
 | xd fs=>obtain ⟨mA,⟨od,es,ep,e,c⟩,r⟩:=x; exact ⟨mA,⟨od,es,ep,k _ _ (.inl rfl) e,c⟩,r⟩
 | rng lo hi=>obtain ⟨t,u,v,e⟩:=x; exact ⟨t,u,v,k _ _ (.inl rfl) e⟩
 | frz ob u ih=>obtain ⟨e,q⟩:=x; exact ⟨k _ _ (.inl rfl) e,ih q⟩
 | tbl ps =>
  have e:h.get? a = some { cls:=.none,data:=.fields ps }:=x
  show h'.get? a = some { cls:=.none,data:=.fields ps }
  exact k a _ (.inl rfl) e
 | met f y =>
  have e:h.get? a = some (methodObj (.ref f) (.ref y)):=x
  show h'.get? a = some (methodObj (.ref f) (.ref y))
  exact k a _ (.inl rfl) e
 | ext φ=>obtain ⟨p,⟨o,e⟩,st⟩:=x; exact ⟨st _ _ p λ o q=>k _ _ (.inl rfl) q,⟨o,k _ _ (.inl rfl) e⟩,st⟩
theorem HOk.lt (x:HOk P w H h) (e:H a = some o):a < h.objs.size:=(x a o e).lt
theorem HOk.fresh (x:HOk P w H h) (e:h.objs.size≤a):H a = none:=by
 cases q:H a with
 | none=>rfl
 | some u=>exact absurd (uZ (x.lt q) e) (lt_irrefl _)
theorem HOk.kept (x:HOk P w H h) (k:∀ b u,h.get? b = some u→h'.get? b = some u):HOk P w H h':=λ a o e =>
 (x a o e).stay (λ b u _ q=>k b u q) (λ _ q=>q) λ _ _ q=>q
theorem HOk.laid (x:HOk P w H h) (k:∀ b u,h.get? b = some u→h'.get? b = some u) (hp:h.objs.size≤a) (new:B1 P w (upd H a o) h' a o):HOk P w (upd H a o) h':=λ b u e=>by
 have hn:=x.fresh hp
 by_cases hb:b = a
 ·subst hb; rw [Ae] at e; cases e; exact new
 ·rw [upd_ne hb] at e
  exact (x b u e).stay (λ c v _ q=>k c v q) (λ c q=>by rw [upd_ne (Ay q hn)]; exact q) λ c xs q=>by rw [upd_ne (Ay q hn)]; exact q
end
def Rd (H:Hp) (a:Addr) (u:HO):Prop:=H a = some u∨∃ o,H a = some (.frz o u)
theorem Rd.ok {H:Hp} {h:Heap} {u:HO} (r:Rd H a u) (x:HOk P w H h):B1 P w H h a u:=by
 rcases r with r | ⟨o,r⟩
 ·exact x a u r
 ·obtain ⟨_,q⟩:=x a _ r
  exact q
def Mut:Option HO→Prop
 | some (.lst _)=>True
 | some (.dK _)=>True
 | some (.dT _)=>True
 | some (.set _ _)=>True
 | some (.ins _ _ _)=>True
 | some (.ext _)=>True
 | _=>False
section
variable {H:Hp} {h:Heap} {x e:Addr} {o':HO}
theorem HOk.write (ok:HOk P w H h) (mu:Mut (H x)) (he:e = x∨H e = some (.own x)) (k:∀ b u,b≠e→h.get? b = some u→h'.get? b = some u) (a4:∃ u,h'.get? e = some u)
  (new:B1 P w (upd H x o') h' x o'):HOk P w (upd H x o') h':=λ b u q=>by
 have a2:∀ c y,H c = some (.own y)→c≠x:=λ c y r z=>by subst z; rw [r] at mu; exact mu
 have a3:∀ c xs,H c = some (.tup xs)→c≠x:=λ c xs r z=>by subst z; rw [r] at mu; exact mu
 by_cases hb:b = x
 ·subst hb; rw [Ae] at q; cases q; exact new
 ·rw [upd_ne hb] at q
  by_cases a1:b = e
  ·have q':H b = some (.own x):=by
    rcases he with z | z
    ·exact absurd (a1.trans z) hb
    ·rw [a1]; exact z
   rw [q] at q'; cases q'
   obtain ⟨v,hv⟩:=a4
   exact ⟨v,by rw [a1]; exact hv⟩
  ·refine (ok b u q).stay (λ c v hc r=>k c v ?_ r) (λ c r=>by rw [upd_ne (a2 c b r)]; exact r) λ c xs r=>by rw [upd_ne (a3 c xs r)]; exact r
   rcases hc with rfl | hc
   ·exact a1
   ·rintro rfl
    rcases he with z | z
    ·exact a2 c b hc z
    ·rw [hc] at z; cases z; exact hb rfl
end
structure Un (fs ex:List Addr) (H H':Hp) (h h':Heap):Prop where
 keep:∀ b o,h.get? b = some o→H b = none→b∉fs→b∉ex→h'.get? b = some o
 slot:∀ b o,h.get? b = some o→H b = none→b∈fs→b∉ex→∃ sl,h'.get? b = some { o with slots:=sl }
 free:∀ b o,h.get? b = some o→H b = none→b∉ex→H' b = none
 there:∀ b o,h.get? b = some o→b∉ex→∃ o',h'.get? b = some o'
 tups:∀ b xs,H b = some (.tup xs)→H' b = some (.tup xs)
 frzs:∀ b o u,H b = some (.frz o u)→H' b = some (.frz o u)
 tbls:∀ b ps,H b = some (.tbl ps)→∃ more,H' b = some (.tbl (ps ++ more))
section
variable {fs fs' ex ex':List Addr} {H H1 H2:Hp} {h h1 h2:Heap} {x e:Addr} {o:HO}
theorem Un.any (u:Un fs ex H H1 h h1) {b:Addr} {ob:Obj} (q:h.get? b = some ob) (n:H b = none) (hx:b∉ex):∃ sl,h1.get? b = some { ob with slots:=sl }:=by
 by_cases hb:b∈fs
 ·exact u.slot b ob q n hb hx
 ·exact ⟨ob.slots,u.keep b ob q n hb hx⟩
theorem Un.kept (k:∀ b u,h.get? b = some u→h'.get? b = some u):Un fs ex H H h h' :=
 ⟨λ b ob q _ _ _=>k b ob q,λ b ob q _ _ _=>⟨ob.slots,k b ob q⟩,λ _ _ _ n _=>n,λ b ob q _=>⟨ob,k b ob q⟩,λ _ _ q=>q,λ _ _ _ q=>q,λ _ ps q=>⟨#[],by rw [q]; simp⟩⟩
theorem Un.refl:Un fs ex H H h h:=Un.kept λ _ _ q=>q
theorem Un.laid (k:∀ b u,h.get? b = some u→h'.get? b = some u) (hp:h.objs.size≤a) (hn:H a = none):Un fs ex H (upd H a o) h h' where
 keep:=λ b u q _ _ _=>k b u q
 slot:=λ b u q _ _ _=>⟨u.slots,k b u q⟩
 free:=λ b u q n _=>by rw [upd_ne (vB (uZ (Heap.lt_size q) hp))]; exact n
 there:=λ b u q _=>⟨u,k b u q⟩
 tups:=λ b xs q=>by rw [upd_ne (Ay q hn)]; exact q
 frzs:=λ b u xs q=>by rw [upd_ne (Ay q hn)]; exact q
 tbls:=λ b ps q=>⟨#[],by rw [upd_ne (Ay q hn),q]; simp⟩
theorem Un.write (mu:Mut (H x)) (he:e = x∨H e = some (.own x)) (k:∀ b u,b≠e→h.get? b = some u→h'.get? b = some u) (a2:∃ u,h'.get? e = some u):Un fs ex H (upd H x o) h h':=by
 have hx:∀ b,H b = none→b≠x:=λ b n z=>by subst z; rw [n] at mu; exact mu
 have hb:∀ b,H b = none→b≠e:=λ b n z=>by
  subst z
  rcases he with r | r
  ·exact hx b n r
  ·rw [n] at r; cases r
 have hm:∀ b u,H b = some u→¬ Mut (some u)→b≠x:=λ b u q nm z=>by subst z; rw [q] at mu; exact nm mu
 refine ⟨λ b u q n _ _=>k b u (hb b n) q,λ b u q n _ _=>⟨u.slots,k b u (hb b n) q⟩,λ b u q n _=>by rw [upd_ne (hx b n)]; exact n,λ b u q _=>?_,
  λ b xs q=>by rw [upd_ne (hm b _ q λ z=>z)]; exact q,λ b u xs q=>by rw [upd_ne (hm b _ q λ z=>z)]; exact q,λ b ps q=>⟨#[],by rw [upd_ne (hm b _ q λ z=>z),q]; simp⟩⟩
 by_cases a1:b = e
 ·subst a1; exact a2
 ·exact ⟨u,k b u a1 q⟩
end
def trk (h:Heap) (H:Hp):List Addr:=(List.range h.objs.size).filter λ a=>(H a).isSome
def Mg (h:Heap) (H:Hp):Heap:=hideAll h (trk h H)
theorem AcV (h:Heap) (H:Hp):(Mg h H).objs.size = h.objs.size:=PySem.W.hideAll_size _ _
theorem AdL {h:Heap} {H:Hp} {b:Addr} {o:Obj} (e:h.get? b = some o) (n:H b = none):(Mg h H).get? b = some o :=
 hideAll_get _ e λ hm=>by
  have q:(H b).isSome = true:=(mem_filter.mp hm).2
  rw [n] at q; simp at q
theorem AfE {h:Heap} {H:Hp} {b:Addr} {o:Obj} (e:(Mg h H).get? b = some o):h.get? b = some o∧H b = none:=by
 have e':h.get? b = some o:=of_hideAll (trk h H) e
 refine ⟨e',?_⟩
 cases q:H b with
 | none=>rfl
 | some x =>
  have hm:b∈trk h H:=mem_filter.mpr ⟨mem_range.mpr (Heap.lt_size e'),by simp [q]⟩
  have z:(Mg h H).get? b = none:=hideAll_none (trk h H) hm
  rw [z] at e; cases e
def AfQ (g h:Heap) (L:Addr):List (Addr× Obj):=(List.range h.objs.size).filterMap λ a=>if a = L∨(g.get? a).isSome = true then none else (h.get? a).map λ o=>(a,o)
def rest (g h:Heap) (L d:Addr):List (Addr× Obj):=(AfQ g h L).filter λ p=>decide (p.1≠d)
structure Mod (K:FA) (mg:Str→Option Value) (base:Heap):Prop where
 kin:K.In base
 glob:base.Ns mainGlobals mg
 blt:∃ mb,base.Ns builtinsNs mb∧∀ x:Str,x≠ "__name__" → mb x = bootBuiltins x
 nolimit:base.NoLimit
structure Cx where
 prog:Program
 w:World
 K:FA
 mg:Str→Option Value
 base:Heap
 A:Around
 N:List Str
 s₀:Shared
 H₀:Hp
 env:Env
 outer:List Env
 stack:List Env
 ex:List Addr
 fn:Str→Bool
 calm:Bool
 pn:List (Addr× Obj)
 xe:Value→Shared→Prop
def frs (l:List Env):List Addr:=l.filterMap (·.frame)
abbrev Cx.fs (X:Cx):List Addr:=frs X.outer
def Vis (sc:Scope) (x:Str):Prop:=sc.names.lookup x = some .local∨sc.names.lookup x = some .cell∨sc.names.lookup x = some .free
def Loc (sc:Scope) (x:Str):Prop:=sc.names.lookup x = some .local∨sc.names.lookup x = some .cell
def Afl (env:Env) (h:Heap) (m:Str→Option Value) (x:Str) (u:Value):Prop :=
 (env.kindOf x = some .local∧m x = some u)∨((env.kindOf x = some .cell∨env.kindOf x = some .free)∧∃ c,env.cells.lookup x = some c∧h.IsCell c (some u))
structure Cx.Ok (X:Cx):Prop where
 mod:Mod X.K X.mg X.base
 kind:X.env.scope.kind = .function
 glob:X.env.globals = mainGlobals
 blt:X.env.builtins = builtinsNs
 above:X.s₀.heap.objs.size≤X.env.locals
 inj:∀ x y c,X.env.cells.lookup x = some c→X.env.cells.lookup y = some c→x = y
 has:∀ x,(X.env.kindOf x = some .cell∨X.env.kindOf x = some .free)→∃ c,X.env.cells.lookup x = some c
 cab:∀ x c,X.fn x = true→X.env.cells.lookup x = some c→X.s₀.heap.objs.size≤c
 hd:X.calm = true→X.A.handled = none
 frames:X.A.frames = some X.stack
 stk:X.stack = X.outer∨(X.stack = X.env :: X.outer∧X.env.frame = some X.env.locals)
 exf:∀ b∈X.ex,b≠X.env.locals∧∀ x c,X.env.cells.lookup x = some c→c≠b
 bs:∀ b o,X.base.get? b = some o→X.s₀.heap.get? b = some o∧X.H₀ b = none
 bsz:X.base.objs.size≤X.s₀.heap.objs.size
 noex:∀ b o,X.base.get? b = some o→b∉X.ex
 exfs:∀ b∈X.ex,b∉X.fs
 funs:X.s₀.heap.FunFrames X.base X.outer
 frf:∀ b∈X.fs,X.H₀ b = none
structure Inv (X:Cx) (pins:List (Addr× Obj)) (σ:List (Option V)) (H:Hp) (s:Shared):Prop where
 ok:X.Ok
 os:s.os = X.s₀.os
 bare:AllBare s.gens
 base:Un X.fs X.ex X.H₀ H X.s₀.heap s.heap
 loc:∃ m,s.heap.Ns X.env.locals m∧∀ (i:Nat) (x:Str) (v:V),X.N[i]? = some x→σ[i]? = some (some v)→Vis X.env.scope x→∃ u,A8 v u∧Afl X.env s.heap m x u
 cell:∀ x c,X.env.cells.lookup x = some c→∃ v,s.heap.IsCell c v
 free:H X.env.locals = none
 freeC:∀ x c,X.env.cells.lookup x = some c→H c = none
 pin:∀ p∈X.pn ++ pins,s.heap.get? p.1 = some p.2∧H p.1 = none∧p.1≠X.env.locals∧p.1∉X.fs∧∀ v,p.2.data≠.cell v
 hok:HOk X.prog X.w H s.heap
 len:σ.length = X.N.length
section
variable {X:Cx} {σ:List (Option V)} {H H':Hp} {s:Shared}
theorem Cx.Ok.nofr (ok:X.Ok) {b:Addr} {o:Obj} (e:X.base.get? b = some o):b∉X.fs:=λ hb=>by
 have:=(ok.funs.mem hb).1
 rw [e] at this; cases this
theorem Inv.bs (I:Inv X pins σ H s):∀ b o,X.base.get? b = some o→s.heap.get? b = some o∧H b = none:=λ b o e =>
 ⟨I.base.keep b o (I.ok.bs b o e).1 (I.ok.bs b o e).2 (I.ok.nofr e) (I.ok.noex b o e),I.base.free b o (I.ok.bs b o e).1 (I.ok.bs b o e).2 (I.ok.noex b o e)⟩
theorem Inv.bk (I:Inv X pins σ H s):∀ b o,X.base.get? b = some o→s.heap.get? b = some o:=λ b o e=>(I.bs b o e).1
theorem Inv.mod (I:Inv X pins σ H s):Mod X.K X.mg X.base:=I.ok.mod
theorem Inv.kIn (I:Inv X pins σ H s):X.K.In s.heap:=I.ok.mod.kin.keeps I.bk
theorem Inv.lt (I:Inv X pins σ H s):X.env.locals < s.heap.objs.size:=let ⟨_,hn,_⟩:=I.loc; hn.lt
theorem Inv.sz (I:Inv X pins σ H s):X.s₀.heap.objs.size≤s.heap.objs.size:=uX I.ok.above (le_of_lt I.lt)
theorem Inv.nofs (I:Inv X pins σ H s) (h:s.heap.objs.size≤a):a∉X.fs:=λ hb=>by
 obtain ⟨_,o,ho,_⟩:=I.ok.funs.mem hb
 exact absurd (uZ (Heap.lt_size ho) (uX I.sz h)) (lt_irrefl _)
theorem Inv.cne (I:Inv X pins σ H s):∀ x c,X.env.cells.lookup x = some c→c≠X.env.locals:=λ x c e z=>by
 obtain ⟨v,o,ho,hd⟩:=I.cell x c e
 obtain ⟨m,⟨o',es,ep,a1,a2,_⟩,_⟩:=I.loc
 rw [z,a1] at ho; cases ho; rw [a2] at hd; cases hd
theorem Inv.funs (I:Inv X pins σ H s):s.heap.FunFrames X.base X.outer:=by
 have all:∀ (l:List Env),(∀ b∈frs l,b∈X.fs)→X.s₀.heap.FunFrames X.base l→s.heap.FunFrames X.base l:=by
  intro l
  induction l with
  | nil=>intro _ _; trivial
  | cons env r ih =>
   intro hs hl
   obtain ⟨hk,⟨L,o,hf,hn,ho,hd⟩,hr⟩:=hl
   have hL:L∈X.fs:=hs L (by unfold frs; rw [filterMap_cons,hf]; exact uH)
   obtain ⟨sl,e⟩:=I.base.slot L o ho (I.ok.frf L hL) hL λ z=>I.ok.exfs L z hL
   exact ⟨hk,⟨L,_,hf,hn,e,hd⟩,ih (λ b hb=>hs b (by unfold frs; rw [filterMap_cons,hf]; exact uI _ hb)) hr⟩
 exact all X.outer (λ _ hb=>hb) I.ok.funs
theorem Inv.stack (I:Inv X pins σ H s):s.heap.FunFrames X.base X.stack:=by
 rcases I.ok.stk with e | ⟨e,hf⟩
 ·rw [e]; exact I.funs
 ·rw [e]
  obtain ⟨m,hn,_⟩:=I.loc
  refine .cons (by rw [I.ok.kind]; decide) hf hn ?_ I.funs
  exact Heap.get?_none_of_le (uX I.ok.bsz I.ok.above)
theorem Inv.stkSub (I:Inv X pins σ H s):∀ b∈frs X.stack,b∈X.env.locals :: X.fs:=λ b hb=>by
 rcases I.ok.stk with e | ⟨e,hf⟩
 ·rw [e] at hb; exact uI _ hb
 ·rw [e] at hb
  unfold frs at hb
  rw [filterMap_cons,hf] at hb
  exact hb
theorem Inv.stkFree (I:Inv X pins σ H s):∀ b∈frs X.stack,H b = none:=λ b hb=>by
 rcases vI.mp (I.stkSub b hb) with e | hb
 ·rw [e]; exact I.free
 ·obtain ⟨_,o,ho,_⟩:=I.ok.funs.mem hb
  exact I.base.free b o ho (I.ok.frf b hb) λ z=>I.ok.exfs b z hb
theorem Inv.step {g':Array GenState} {t':Nat} {d':Drawn} {ch:List Addr} (I:Inv X pins σ H s)
  (a1:∀ b∈ch,(b∈X.ex∨X.s₀.heap.objs.size≤b)∧b≠X.env.locals∧(∀ x c,X.env.cells.lookup x = some c→c≠b)∧∀ p∈X.pn ++ pins,p.1≠b)
  (keep:∀ b o,b≠X.env.locals→b∉X.fs→b∉ch→s.heap.get? b = some o→H b = none→h'.get? b = some o)
  (slot:∀ b o,b≠X.env.locals→b∈X.fs→b∉ch→s.heap.get? b = some o→H b = none→∃ sl,h'.get? b = some { o with slots:=sl }) (free:∀ b o,b∉ch→s.heap.get? b = some o→H b = none→H' b = none)
  (there:∀ b o,b∉ch→s.heap.get? b = some o→∃ o',h'.get? b = some o')
  (tups:∀ b xs,H b = some (.tup xs)→H' b = some (.tup xs)) (frzs:∀ b o u,H b = some (.frz o u)→H' b = some (.frz o u)) (tbls:∀ b ps,H b = some (.tbl ps)→∃ more,H' b = some (.tbl (ps ++ more)))
  (ns:∀ m,s.heap.Ns X.env.locals m→h'.Ns X.env.locals m) (hok:HOk X.prog X.w H' h') (hg:AllBare g') :
  Inv X pins σ H' { s with heap:=h',gens:=g',drawn:=d',toks:=t' }:=by
 have a5:∀ b o,X.s₀.heap.get? b = some o→b≠X.env.locals:=λ b o e=>vB (uZ (Heap.lt_size e) I.ok.above)
 have a4:∀ b o,X.s₀.heap.get? b = some o→b∉X.ex→b∉ch:=λ b o e hx hb=>by
  rcases (a1 b hb).1 with z | z
  ·exact hx z
  ·exact absurd (uZ (Heap.lt_size e) z) (lt_irrefl _)
 have a3:∀ x c,X.env.cells.lookup x = some c→∀ v,s.heap.IsCell c v→h'.IsCell c v:=λ x c e v ⟨o,ho,hd⟩=>by
  have a2:c∉ch:=λ z=>(a1 c z).2.2.1 x c e rfl
  by_cases hc:c∈X.fs
  ·obtain ⟨sl,q⟩:=slot c o (I.cne x c e) hc a2 ho (I.freeC x c e)
   exact ⟨_,q,hd⟩
  ·exact ⟨o,keep c o (I.cne x c e) hc a2 ho (I.freeC x c e),hd⟩
 refine ⟨I.ok,I.os,hg,⟨λ b o e n hb hx=>?_,λ b o e n hb hx=>?_,λ b o e n hx=>?_,λ b o e hx=>?_,λ b xs e=>tups b xs (I.base.tups b xs e),λ b o xs e=>frzs b o xs (I.base.frzs b o xs e),λ b ps e=>?_⟩,?_,λ x c e=>?_,?_,λ x c e=>?_,λ p hp=>?_,hok,I.len⟩
 ·exact keep b o (a5 b o e) hb (a4 b o e hx) (I.base.keep b o e n hb hx) (I.base.free b o e n hx)
 ·obtain ⟨sl,e1⟩:=I.base.slot b o e n hb hx
  obtain ⟨a6,e2⟩:=slot b _ (a5 b o e) hb (a4 b o e hx) e1 (I.base.free b o e n hx)
  exact ⟨a6,e2⟩
 ·obtain ⟨o',e1⟩:=I.base.there b o e hx
  exact free b o' (a4 b o e hx) e1 (I.base.free b o e n hx)
 ·obtain ⟨o',e1⟩:=I.base.there b o e hx
  exact there b o' (a4 b o e hx) e1
 ·obtain ⟨m1,e1⟩:=I.base.tbls b ps e
  obtain ⟨m2,e2⟩:=tbls b _ e1
  exact ⟨m1 ++ m2,by rw [e2,Array.append_assoc]⟩
 ·obtain ⟨m,hn,hl⟩:=I.loc
  refine ⟨m,ns m hn,λ i x v e1 e2 e3=>?_⟩
  obtain ⟨u,r,l⟩:=hl i x v e1 e2 e3
  refine ⟨u,r,?_⟩
  rcases l with l | ⟨k,c,e,z⟩
  ·exact .inl l
  ·exact .inr ⟨k,c,e,a3 x c e _ z⟩
 ·obtain ⟨v,z⟩:=I.cell x c e
  exact ⟨v,a3 x c e v z⟩
 ·obtain ⟨m,⟨o,_,_,ho,_⟩,_⟩:=I.loc
  exact free _ o (λ z=>(a1 _ z).2.1 rfl) ho I.free
 ·obtain ⟨v,o,ho,hd⟩:=I.cell x c e
  exact free c o (λ z=>(a1 c z).2.2.1 x c e rfl) ho (I.freeC x c e)
 ·obtain ⟨e,n,ne,nf,d⟩:=I.pin p hp
  have a2:p.1∉ch:=λ z=>(a1 p.1 z).2.2.2 p hp rfl
  exact ⟨keep p.1 p.2 ne nf a2 e n,free p.1 p.2 a2 e n,ne,nf,d⟩
theorem Inv.un {t':Nat} (I:Inv X pins σ H s) (u:Un X.fs [] H H' s.heap h') (hok:HOk X.prog X.w H' h'):Inv X pins σ H' { s with heap:=h',toks:=t' }:=by
 obtain ⟨m,⟨o,es,ep,ho,r⟩,_⟩:=id I.loc
 obtain ⟨sl,hL⟩:=u.any ho I.free (by simp)
 exact I.step (g':=s.gens) (d':=s.drawn) (ch:=[]) (λ _ z=>nomatch z) (λ b o _ hb _ e n=>u.keep b o e n hb (by simp)) (λ b o _ hb _ e n=>u.slot b o e n hb (by simp)) (λ b o _ e n=>u.free b o e n (by simp)) (λ b o _ e=>u.there b o e (by simp)) u.tups u.frzs u.tbls (λ m' hm=>by
  obtain ⟨o',a3,a2,a1,r'⟩:=hm
  rw [ho] at a1; cases a1
  exact ⟨_,a3,a2,hL,r'⟩) hok I.bare
theorem Inv.call {g':Array GenState} {t':Nat} {d':Drawn} {ch:List Addr} (I:Inv X pins σ H s) (u:Un (frs X.stack) ch H H' s.heap h') (hok:HOk X.prog X.w H' h') (hg:AllBare g')
  (a1:∀ b∈ch,(b∈X.ex∨X.s₀.heap.objs.size≤b)∧b≠X.env.locals∧(∀ x c,X.env.cells.lookup x = some c→c≠b)∧∀ p∈X.pn ++ pins,p.1≠b) :
  Inv X pins σ H' { s with heap:=h',gens:=g',drawn:=d',toks:=t' }:=by
 obtain ⟨m,⟨o,es,ep,ho,r⟩,_⟩:=id I.loc
 obtain ⟨sl,hL⟩:=u.any ho I.free λ z=>(a1 _ z).2.1 rfl
 exact I.step (ch:=ch) a1 (λ b o hL hb hc e n=>u.keep b o e n (λ z=>(vI.mp (I.stkSub b z)).elim hL hb) hc) (λ b o _ _ hc e n=>u.any e n hc) (λ b o hc e n=>u.free b o e n hc) (λ b o hc e=>u.there b o e hc) u.tups u.frzs u.tbls (λ m' hm=>by
  obtain ⟨o',a4,a3,a2,r'⟩:=hm
  rw [ho] at a2; cases a2
  exact ⟨_,a4,a3,hL,r'⟩) hok hg
theorem Inv.turned {t':Nat} {it:Addr} (I:Inv X pins σ H s) (k:∀ b o,b≠it→s.heap.get? b = some o→h'.get? b = some o) (hn:H it = none) (hL:it≠X.env.locals)
  (h1:it∈X.ex∨X.s₀.heap.objs.size≤it) (h2:∀ x c,X.env.cells.lookup x = some c→c≠it) (h3:∀ p∈X.pn ++ pins,p.1≠it):Inv X pins σ H { s with heap:=h',toks:=t' }:=by
 have a1:∀ b u,H b = some u→b≠it:=λ b u e z=>by rw [z,hn] at e; cases e
 refine I.step (g':=s.gens) (d':=s.drawn) (ch:=[it]) (λ b hb=>?_) (λ b o _ _ hc e _=>k b o (λ z=>hc (by simp [z])) e) (λ b o _ _ hc e _=>⟨o.slots,k b o (λ z=>hc (by simp [z])) e⟩) (λ _ _ _ _ n=>n)
  (λ b o hc e=>⟨o,k b o (λ z=>hc (by simp [z])) e⟩) (λ _ _ e=>e) (λ _ _ _ e=>e) (λ b ps e=>⟨#[],by rw [e]; simp⟩) (λ m hm=>?_) (λ b u e=>?_) I.bare
 ·have e:b = it:=by simpa using hb
  subst e
  exact ⟨h1,hL,h2,h3⟩
 ·obtain ⟨o,es,ep,ho,r⟩:=hm
  exact ⟨o,es,ep,k _ o (Ne.symm hL) ho,r⟩
 ·refine (I.hok b u e).stay (λ c v hc q=>k c v ?_ q) (λ _ q=>q) λ _ _ q=>q
  rcases hc with z | z
  ·rw [z]; exact a1 b u e
  ·exact a1 c _ z
theorem Inv.tok (I:Inv X pins σ H s) (t:Nat):Inv X pins σ H { s with toks:=t }:=I.un (h':=s.heap) (t':=t) Un.refl I.hok
theorem Inv.kept {t':Nat} (I:Inv X pins σ H s) (k:∀ b u,s.heap.get? b = some u→h'.get? b = some u):Inv X pins σ H { s with heap:=h',toks:=t' }:=I.un (Un.kept k) (I.hok.kept k)
theorem Inv.laid {o:HO} {t':Nat} (I:Inv X pins σ H s) (k:∀ b u,s.heap.get? b = some u→h'.get? b = some u) (hp:s.heap.objs.size≤a) (new:B1 X.prog X.w (upd H a o) h' a o) :
  Inv X pins σ (upd H a o) { s with heap:=h',toks:=t' }:=I.un (Un.laid k hp (I.hok.fresh hp)) (I.hok.laid k hp new)
theorem Inv.write {x e:Addr} {o:HO} {t':Nat} (I:Inv X pins σ H s) (mu:Mut (H x)) (he:e = x∨H e = some (.own x)) (k:∀ b u,b≠e→s.heap.get? b = some u→h'.get? b = some u) (a1:∃ u,h'.get? e = some u)
  (new:B1 X.prog X.w (upd H x o) h' x o):Inv X pins σ (upd H x o) { s with heap:=h',toks:=t' }:=I.un (Un.write mu he k a1) (I.hok.write mu he k a1 new)
theorem Inv.weak {a1:List (Option V)} (I:Inv X pins σ H s) (hl:a1.length = σ.length) (w:∀ (i:Nat) v,a1[i]? = some (some v)→σ[i]? = some (some v)):Inv X pins a1 H s :=
 ⟨I.ok,I.os,I.bare,I.base,let ⟨m,hn,hl'⟩:=I.loc; ⟨m,hn,λ i x v e1 e2 e3=>hl' i x v e1 (w i v e2) e3⟩,I.cell,I.free,I.freeC,I.pin,I.hok,hl.trans I.len⟩
theorem Inv.pins_of {a1:List (Addr× Obj)} (I:Inv X pins σ H s) (h:∀ p∈a1,s.heap.get? p.1 = some p.2∧H p.1 = none∧p.1≠X.env.locals∧p.1∉X.fs∧∀ v,p.2.data≠.cell v):Inv X a1 σ H s :=
 ⟨I.ok,I.os,I.bare,I.base,I.loc,I.cell,I.free,I.freeC,λ p hp=>(uV.mp hp).elim (λ z=>I.pin p (vU _ z)) (h p),I.hok,I.len⟩
theorem Mn {N:List Str} (hN:N.Nodup) {i j:Nat} (a:N[i]? = some x) (b:N[j]? = some x):i = j:=by
 obtain ⟨h1,e1⟩:=List.getElem?_eq_some_iff.mp a
 obtain ⟨h2,e2⟩:=List.getElem?_eq_some_iff.mp b
 exact (List.getElem_inj hN).mp (e1.trans e2.symm)
theorem AbV {M:Model} {i:Nat} {v:V} {Q:Unit→Shared→Prop} (I:Inv X pins σ H s) (hN:X.N.Nodup) (hi:X.N[i]? = some x) (hx:Loc X.env.scope x) (r:A8 v u)
  (h:∀ s',Inv X pins (σ.set i (some v)) H s'→(∃ a,Heap.SameBut a s.heap s'.heap∧(a = X.env.locals∨X.env.cells.lookup x = some a))→Q () s') (hf:X.fn x = true∨X.env.scope.names.lookup x = some .local:=by first | exact .inl rfl | exact .inr rfl | assumption):wpAny M A (storeName X.env x u) Q E s:=by
 obtain ⟨m,hn,hl⟩:=id I.loc
 have a9:(X.env.scope.kind == .class || (X.env.scope.kind == .module && X.env.locals != X.env.globals)) = false:=by rw [I.ok.kind]; rfl
 have a3:i < σ.length:=by rw [I.len]; exact (List.getElem?_eq_some_iff.mp hi).1
 have cne:=I.cne
 have a1:∀ {a:Addr} {h':Heap},(∃ o,s.heap.get? a = some o∧H a = none)→Heap.SameBut a s.heap h'→HOk X.prog X.w H h':=λ {a h'} ha hs b ob e=>by
  obtain ⟨_,_,a2⟩:=ha
  refine (I.hok b ob e).stay (λ c w' hc q=>(hs.2 c ?_).trans q) (λ _ q=>q) λ _ _ q=>q
  rintro rfl
  rcases hc with rfl | hc
  ·rw [a2] at e; cases e
  ·rw [a2] at hc; cases hc
 rcases hx with hk | hk
 ·refine wpAny_storeName_local hk hn (λ h' b6 hs=>?_) a9
  obtain ⟨oL,_,_,b7,_⟩:=id hn
  refine h _ ⟨I.ok,I.os,I.bare,⟨λ b o e n hb hx=>?_,λ b o e n hb hx=>?_,I.base.free,λ b o e hx=>?_,I.base.tups,I.base.frzs,I.base.tbls⟩,⟨_,b6,λ j y v' e1 e2 e3=>?_⟩,λ y c e=>?_,I.free,I.freeC,λ p hp=>?_,a1 ⟨oL,b7,I.free⟩ hs,by simpa using I.len⟩ ⟨_,hs,.inl rfl⟩
  ·exact (hs.2 b (vB (uZ (Heap.lt_size e) I.ok.above))).trans (I.base.keep b o e n hb hx)
  ·obtain ⟨sl,e1⟩:=I.base.slot b o e n hb hx
   exact ⟨sl,(hs.2 b (vB (uZ (Heap.lt_size e) I.ok.above))).trans e1⟩
  ·obtain ⟨o',e1⟩:=I.base.there b o e hx
   exact ⟨o',(hs.2 b (vB (uZ (Heap.lt_size e) I.ok.above))).trans e1⟩
  ·by_cases hj:j = i
   ·subst hj
    rw [hi] at e1; cases e1
    rw [vL a3] at e2
    cases e2
    exact ⟨u,r,.inl ⟨hk,by simp⟩⟩
   ·rw [vK (Ne.symm hj)] at e2
    obtain ⟨u',r',q⟩:=hl j y v' e1 e2 e3
    refine ⟨u',r',?_⟩
    rcases q with ⟨k,e⟩ | ⟨k,c,e,z⟩
    ·refine .inl ⟨k,?_⟩
     have:y≠x:=λ e=>hj (Mn hN e1 (e ▸ hi))
     simp [this,e]
    ·exact .inr ⟨k,c,e,z.sameBut hs (cne y c e)⟩
  ·obtain ⟨w',z⟩:=I.cell y c e
   exact ⟨w',z.sameBut hs (cne y c e)⟩
  ·obtain ⟨e,n,ne,nf,d⟩:=I.pin p hp
   exact ⟨(hs.2 p.1 ne).trans e,n,ne,nf,d⟩
 ·have a4:X.fn x = true:=by
   rcases hf with z | z
   ·exact z
   ·rw [z] at hk; cases hk
  obtain ⟨c,hc⟩:=I.ok.has x (.inl hk)
  obtain ⟨w',z⟩:=I.cell x c hc
  refine wpAny_storeName_cell I.ok.kind hk hc z (λ h' a6 hs=>?_)
  obtain ⟨oc,a7,a8⟩:=id z
  refine h { s with heap:=h' } ⟨I.ok,I.os,I.bare,⟨λ b o e n hb hx=>?_,λ b o e n hb hx=>?_,I.base.free,λ b o e hx=>?_,I.base.tups,I.base.frzs,I.base.tbls⟩,⟨m,hn.sameBut hs (Ne.symm (cne x c hc)),λ j y v' e1 e2 e3=>?_⟩,λ y c' e=>?_,I.free,I.freeC,λ p hp=>?_,a1 ⟨oc,a7,I.freeC x c hc⟩ hs,by simpa using I.len⟩ ⟨c,hs,.inr hc⟩
  ·exact (hs.2 b (vB (uZ (Heap.lt_size e) (I.ok.cab x c a4 hc)))).trans (I.base.keep b o e n hb hx)
  ·obtain ⟨sl,e1⟩:=I.base.slot b o e n hb hx
   exact ⟨sl,(hs.2 b (vB (uZ (Heap.lt_size e) (I.ok.cab x c a4 hc)))).trans e1⟩
  ·obtain ⟨o',e1⟩:=I.base.there b o e hx
   exact ⟨o',(hs.2 b (vB (uZ (Heap.lt_size e) (I.ok.cab x c a4 hc)))).trans e1⟩
  ·by_cases hj:j = i
   ·subst hj
    rw [hi] at e1; cases e1
    rw [vL a3] at e2
    cases e2
    exact ⟨u,r,.inr ⟨.inl hk,c,hc,a6⟩⟩
   ·rw [vK (Ne.symm hj)] at e2
    obtain ⟨u',r',q⟩:=hl j y v' e1 e2 e3
    refine ⟨u',r',?_⟩
    rcases q with q | ⟨k,c',e,z'⟩
    ·exact .inl q
    ·refine .inr ⟨k,c',e,z'.sameBut hs ?_⟩
     rintro rfl
     exact hj (Mn hN e1 (I.ok.inj _ _ _ e hc ▸ hi))
  ·by_cases a5:c' = c
   ·subst a5; exact ⟨_,a6⟩
   ·obtain ⟨w2,z2⟩:=I.cell y c' e
    exact ⟨w2,z2.sameBut hs a5⟩
  ·obtain ⟨e,n,ne,nf,d⟩:=I.pin p hp
   refine ⟨(hs.2 p.1 ?_).trans e,n,ne,nf,d⟩
   intro q
   rw [q,a7] at e
   have q':oc = p.2:=Option.some.inj e
   exact d w' (by rw [← q']; exact a8)
theorem Hn {M:Model} {i:Nat} {v:V} {Q:Unit→Shared→Prop} (I:Inv X pins σ H s) (hN:X.N.Nodup) (hi:X.N[i]? = some x) (hx:Loc X.env.scope x) (r:A8 v u)
  (h:∀ s',Inv X pins (σ.set i (some v)) H s'→Q () s') (hf:X.fn x = true∨X.env.scope.names.lookup x = some .local:=by first | exact .inl rfl | exact .inr rfl | assumption):wpAny M A (storeName X.env x u) Q E s :=
 AbV I hN hi hx r (λ s' I' _=>h s' I') hf
theorem Inv.call' {s':Shared} {ch:List Addr} (I:Inv X pins σ H s) (ho:s'.os = s.os) (u:Un (frs X.stack) ch H H' s.heap s'.heap) (hok:HOk X.prog X.w H' s'.heap) (hg:AllBare s'.gens)
  (a1:∀ b∈ch,(b∈X.ex∨X.s₀.heap.objs.size≤b)∧b≠X.env.locals∧(∀ x c,X.env.cells.lookup x = some c→c≠b)∧∀ p∈X.pn ++ pins,p.1≠b):Inv X pins σ H' s':=by
 obtain ⟨h',g',d',t',o'⟩:=s'
 have e:o' = s.os:=ho
 subst e
 exact I.call (g':=g') (t':=t') (d':=d') u hok hg a1
end
abbrev XK:=Value→Option Addr→Hp→Prop
abbrev St:=List (Option V)
abbrev VK:=V→Hp→Prop
abbrev TE:=St→Hp→VK→Prop
abbrev TT:=St→Hp→(Bool→Hp→Prop)→Prop
abbrev TA:=St→Hp→(List V→Hp→Prop)→Prop
structure Fi where
 nx:St→Hp→Prop
 rt:VK
 bk:St→Hp→Prop:=λ _ _=>False
 ct:St→Hp→Prop:=λ _ _=>False
abbrev TS:=Fi→St→Hp→Prop
def EP (X:Cx) (pins:List (Addr× Obj)) (σ:St) (Q:VK) (u:Value) (s':Shared):Prop:=∃ v H',Inv X pins σ H' s'∧A8 v u∧Q v H'
def TP (X:Cx) (pins:List (Addr× Obj)) (σ:St) (Q:Bool→Hp→Prop) (b:Bool) (s':Shared):Prop:=∃ H',Inv X pins σ H' s'∧Q b H'
def AP (X:Cx) (pins:List (Addr× Obj)) (σ:St) (Q:List V→Hp→Prop) (us:List Value) (s':Shared):Prop:=∃ vs H',Inv X pins σ H' s'∧A5 vs us∧Q vs H'
def SP (X:Cx) (pins:List (Addr× Obj)) (D:Fi) (f:Flow) (s':Shared):Prop :=
 match f with
 | .next=>∃ σ' H',Inv X pins σ' H' s'∧D.nx σ' H'
 | .brk=>∃ σ' H',Inv X pins σ' H' s'∧D.bk σ' H'
 | .cont=>∃ σ' H',Inv X pins σ' H' s'∧D.ct σ' H'
 | .ret u=>∃ v σ' H',Inv X pins σ' H' s'∧A8 v u∧D.rt v H'
def PE (X:Cx) (e:Expr) (t:TE):Prop :=
 ∀ (pins:List (Addr× Obj)) (s:Shared) (σ:St) (H:Hp) (Q:VK),Inv X pins σ H s→t σ H Q→wpAny (model X.prog X.w) X.A (eval e X.env) (EP X pins σ Q) X.xe s
def PT (X:Cx) (e:Expr) (t:TT):Prop :=
 ∀ (pins:List (Addr× Obj)) (s:Shared) (σ:St) (H:Hp) (Q:Bool→Hp→Prop),Inv X pins σ H s→t σ H Q→wpAny (model X.prog X.w) X.A (isTrue e X.env (eval e X.env)) (TP X pins σ Q) X.xe s
def PW (X:Cx) (e:Expr) (t:TT):Prop :=
 ∀ (whole:Sem Value) (pins:List (Addr× Obj)) (s:Shared) (σ:St) (H:Hp) (Q:Bool→Hp→Prop),Inv X pins σ H s→t σ H Q→wpAny (model X.prog X.w) X.A (isTrue e X.env whole) (TP X pins σ Q) X.xe s
theorem PW.pt {X:Cx} {t:TT} (h:PW X e t):PT X e t:=h _
def PA (X:Cx) (es:List Expr) (t:TA):Prop :=
 ∀ (pos:Pos) (pins:List (Addr× Obj)) (s:Shared) (σ:St) (H:Hp) (Q:List V→Hp→Prop),Inv X pins σ H s→t σ H Q→wpAny (model X.prog X.w) X.A (spliced (backTo pos (starEach es X.env))) (AP X pins σ Q) X.xe s
def PS (X:Cx) (st:Stmt) (t:TS):Prop :=
 ∀ (pins:List (Addr× Obj)) (s:Shared) (σ:St) (H:Hp) (D:Fi),Inv X pins σ H s→t D σ H→wpAny (model X.prog X.w) X.A (exec st X.env) (SP X pins D) X.xe s
def PSs (X:Cx) (st:List Stmt) (t:TS):Prop :=
 ∀ (pins:List (Addr× Obj)) (s:Shared) (σ:St) (H:Hp) (D:Fi),Inv X pins σ H s→t D σ H→wpAny (model X.prog X.w) X.A (execs st X.env) (SP X pins D) X.xe s
theorem thn {α:Type} {t:Sem α} {Q Q':α→Shared→Prop} {M:Model} {s:Shared} (h:wpAny M A t Q E s) (hQ:∀ a s,Q a s→Q' a s):wpAny M A t Q' E s:=vS h hQ λ _ _ x=>x
end L2
variable {H H' H2:L2.Hp} {σ:L2.St} {X:L2.Cx} {v:L2.V} {te ta tb:L2.TE} {xs:List L2.V} {Q:L2.VK}
namespace L2
open PySem PySem.Spec PyProof.Rows
section
inductive Abk (i:Nat) (σ:St) (H:Hp) (Q:VK):Prop
 | mk (v:V) (_:σ[i]? = some (some v)) (_:Q v H):Abk i σ H Q
def Bl (i:Nat):TE:=λ σ H Q=>Abk i σ H Q
def tC (v:V):TE:=λ _ H Q=>Q v H
theorem Ags {i:Nat} (hN:X.N[i]? = some x) (hv:Vis X.env.scope x) (hd:(x == ("__debug__" : Str)) = false:=by decide) (a3:(x == ("__classdict__" : Str)) = false:=by decide):PE X (.Name x pos) (Bl i):=by
 intro pins s σ H Q I h
 obtain ⟨v,e,h⟩:=h
 obtain ⟨m,hn,hl⟩:=I.loc
 obtain ⟨u,r,l⟩:=hl i x v hN e hv
 have a2:EP X pins σ Q u s:=⟨v,H,I,r,h⟩
 rcases l with ⟨hk,hm⟩ | ⟨hk,c,hc,a1⟩
 ·exact wpAny_Name (wpAny_loadName_local I.ok.kind hk hn hm a2) hd
 ·rcases hk with hk | hk
  ·exact wpAny_Name (wpAny_loadName_cell I.ok.kind hk hc a1 a2) hd
  ·exact wpAny_Name (wpAny_loadName_free I.ok.kind hk hc a1 a2 a3) hd
theorem Af {i j pos}:PE X (.Constant (.int i) j pos) (tC (.int i)):=λ _ _ _ H _ I h=>wpAny_Constant_int ⟨.int i,H,I.tok _,⟨_,rfl⟩,h⟩
theorem Dy {b j pos}:PE X (.Constant (.bool b) j pos) (tC (.bl b)):=λ _ _ _ H _ I h=>Constant_bool ⟨.bl b,H,I,rfl,h⟩
theorem Ce {j pos}:PE X (.Constant .none j pos) (tC .non):=λ _ _ _ H _ I h=>Constant_none ⟨.non,H,I,rfl,h⟩
theorem Al {x j pos}:PE X (.Constant (.str x) j pos) (tC (.str x)):=λ _ _ _ H _ I h=>Calls.Constant_str ⟨.str x,H,I.tok _,⟨_,rfl⟩,h⟩
def Gl (X:Cx) (x:Str):Prop:=X.env.kindOf x = some .globalImplicit
theorem E7 {s:Shared} {Q:Value→Shared→Prop} (I:Inv X pins σ H s) (hg:Gl X x) (hm:X.mg x = some u) (h:Q u s)
  (hd:(x == ("__debug__" : Str)) = false:=by decide):wpAny (model X.prog X.w) X.A (eval (.Name x pos) X.env) Q E s :=
 Calls.Name_function_global I.ok.kind hg (Calls.loadGlobal_global (by rw [I.ok.glob]; exact I.mod.glob.keeps I.bk) hm h) hd
theorem F8 {s:Shared} {Q:Value→Shared→Prop} (I:Inv X pins σ H s) (hg:Gl X x) (hm:X.mg x = none) (hv:bootBuiltins x = some u) (h:Q u s)
  (hn:x≠ "__name__" := by decide) (hd:(x == ("__debug__" : Str)) = false:=by decide):wpAny (model X.prog X.w) X.A (eval (.Name x pos) X.env) Q E s:=by
 obtain ⟨mb,h1,h2⟩:=I.mod.blt
 exact Calls.Name_function_global I.ok.kind hg (Calls.loadGlobal_builtin (by rw [I.ok.glob]; exact I.mod.glob.keeps I.bk) hm (by rw [I.ok.blt]; exact h1.keeps I.bk) ((h2 x hn).trans hv) h) hd
theorem Bb (hg:Gl X x) (hm:X.mg x = some u) (r:A8 v u) (hd:(x == ("__debug__" : Str)) = false:=by decide):PE X (.Name x pos) (tC v) :=
 λ _ _ _ H _ I h=>E7 I hg hm ⟨v,H,I,r,h⟩ hd
theorem Oi (hg:Gl X x) (hm:X.mg x = none) (hv:bootBuiltins x = some u) (r:A8 v u) (hn:x≠ "__name__" := by decide) (hd:(x == ("__debug__" : Str)) = false:=by decide):PE X (.Name x pos) (tC v) :=
 λ _ _ _ H _ I h=>F8 I hg hm hv ⟨v,H,I,r,h⟩ hn hd
variable {a b:Expr}
inductive Adn (x:V) (H1:Hp) (Q:Bool→Hp→Prop):Prop
 | mk (c:Bool) (_:x = .bl c) (_:Q c H1):Adn x H1 Q
def tB (t:TE):TT:=λ σ H Q=>t σ H λ x H1=>Adn x H1 Q
theorem Js {t:TE} (h:PE X e t) (he:∀ a1,isTrue e X.env a1 = (do let v ← a1; standAt e.pos; holding [v] (truthy v)):=by intro _; rfl):PT X e (tB t):=by
 intro pins s σ H Q I hw
 refine isTrue_plain (thn (h pins s σ H _ I hw) λ v s1 ⟨x,H1,I1,r1,q1⟩=>?_) (he _)
 obtain ⟨d,rfl,q⟩:=q1
 cases r1
 exact wpAny_truthy_bool ⟨H1,I1,q⟩
variable {tA tB':TT} {rest:List Expr}
def AiJ (t u:TT):TT:=λ σ H Q=>t σ H λ c H1=>if c = true then u σ H1 Q else Q false H1
def tOr (t u:TT):TT:=λ σ H Q=>t σ H λ c H1=>if c = true then Q true H1 else u σ H1 Q
def AiQ (t:TT):TT:=λ σ H Q=>t σ H λ c H1=>Q (!c) H1
theorem Oj (ha:PT X a tA):PW X (.BoolOp .And [a] pos) tA:=by
 intro wh pins s σ H Q I h
 refine isTrue_and (thn (ha pins s σ H Q I h) λ c s1 e=>?_)
 cases c with
 | true=>exact isTrue_and_nil e
 | false=>exact e
theorem Ir (ha:PT X a tA):PW X (.BoolOp .Or [a] pos) tA:=by
 intro wh pins s σ H Q I h
 refine isTrue_or (thn (ha pins s σ H Q I h) λ c s1 e=>?_)
 cases c with
 | false=>exact isTrue_or_nil e
 | true=>exact e
theorem Lq (ha:PT X a tA) (hb:PW X (.BoolOp .And (b :: rest) pos) tB'):PW X (.BoolOp .And (a :: b :: rest) pos) (AiJ tA tB'):=by
 intro wh pins s σ H Q I h
 refine isTrue_and (thn (ha pins s σ H _ I h) λ c s1 ⟨H1,I1,q1⟩=>?_)
 cases c with
 | true=>exact hb wh pins s1 σ H1 Q I1 q1
 | false=>exact ⟨H1,I1,q1⟩
theorem Ku (ha:PT X a tA) (hb:PW X (.BoolOp .Or (b :: rest) pos) tB'):PW X (.BoolOp .Or (a :: b :: rest) pos) (tOr tA tB'):=by
 intro wh pins s σ H Q I h
 refine isTrue_or (thn (ha pins s σ H _ I h) λ c s1 ⟨H1,I1,q1⟩=>?_)
 cases c with
 | true=>exact ⟨H1,I1,q1⟩
 | false=>exact hb wh pins s1 σ H1 Q I1 q1
theorem Gx (ha:PT X a tA):PT X (.UnaryOp .Not a pos) (AiQ tA):=by
 intro pins s σ H Q I h
 exact isTrue_not (ha pins s σ H (λ c H1=>Q (!c) H1) I h)
def AhU (ta tb:TE):TE:=λ σ H Q=>ta σ H λ x H1=>∃ c,x = .bl c∧if c = true then tb σ H1 Q else Q (.bl false) H1
def AiG (ta tb:TE):TE:=λ σ H Q=>ta σ H λ x H1=>∃ c,x = .bl c∧if c = true then Q (.bl true) H1 else tb σ H1 Q
theorem J5 {op} {t:TE} (h:PE X a t):PE X (.BoolOp op [a] pos) t:=λ pins s σ H Q I hw=>BoolOp_one (h pins s σ H Q I hw)
theorem Iu (ha:PE X a ta) (hb:PE X (.BoolOp .And (b :: rest) pos) tb):PE X (.BoolOp .And (a :: b :: rest) pos) (AhU ta tb):=by
 intro pins s σ H Q I h
 refine BoolOp_and (thn (ha pins s σ H _ I h) λ v s1 ⟨x,H1,I1,r1,q1⟩=>?_)
 obtain ⟨c,rfl,q1⟩:=q1
 cases r1
 refine wpAny_truthy_bool ?_
 cases c with
 | true=>exact hb pins s1 σ H1 Q I1 q1
 | false=>exact ⟨.bl false,H1,I1,rfl,q1⟩
theorem AeM (ha:PE X a ta) (hb:PE X (.BoolOp .Or (b :: rest) pos) tb):PE X (.BoolOp .Or (a :: b :: rest) pos) (AiG ta tb):=by
 intro pins s σ H Q I h
 refine BoolOp_or (thn (ha pins s σ H _ I h) λ v s1 ⟨x,H1,I1,r1,q1⟩=>?_)
 obtain ⟨c,rfl,q1⟩:=q1
 cases r1
 refine wpAny_truthy_bool ?_
 cases c with
 | false=>exact hb pins s1 σ H1 Q I1 q1
 | true=>exact ⟨.bl true,H1,I1,rfl,q1⟩
def tIf (t:TT) (ta tb:TE):TE:=λ σ H Q=>t σ H λ c H1=>if c = true then ta σ H1 Q else tb σ H1 Q
theorem Bu {c:Expr} (hc:PT X c tA) (ha:PE X a ta) (hb:PE X b tb):PE X (.IfExp c a b pos) (tIf tA ta tb):=by
 intro pins s σ H Q I h
 refine wpAny_IfExp (thn (hc pins s σ H _ I h) λ d s1 ⟨H1,I1,q1⟩=>?_)
 cases d with
 | true=>exact ha pins s1 σ H1 Q I1 q1
 | false=>exact hb pins s1 σ H1 Q I1 q1
end
def SqL (K:FA) (H:Hp) (a:Addr) (xs:List V):Prop :=
 Rd H a (.lst xs) ∨
  ∃ (o:Obj) (its:Array Value) (n:Nat),K.lookup a = some o∧o.cls = .type "list" ∧ o.dict = none∧o.data = .seq its n∧its.size≤sizeLine∧A5 xs its.toList
def SqT (K:FA) (H:Hp) (a:Addr) (xs:List V):Prop :=
 Rd H a (.tup xs) ∨
  ∃ (o:Obj) (its:Array Value) (n:Nat),K.lookup a = some o∧o.cls = .type "tuple" ∧ o.data = .seq its n∧its.size≤sizeLine∧A5 xs its.toList
def AiP:Value→Option V
 | .none=>some .non
 | .bool b=>some (.bl b)
 | .int i _=>some (.int i)
 | .str x _=>some (.str x)
 | .bytes b _=>some (.byt b)
 | .float b _=>some (.flt b)
 | .ref a=>some (.ref a)
 | .type n=>some (.ty n)
 | _=>none
theorem A8.abs {x:V} (r:A8 x u):AiP u = some x:=by
 cases x with
 | non=>cases r; rfl
 | bl _=>cases r; rfl
 | int _=>obtain ⟨t,rfl⟩:=r; rfl
 | str _=>obtain ⟨t,rfl⟩:=r; rfl
 | byt _=>obtain ⟨t,rfl⟩:=r; rfl
 | flt _=>obtain ⟨t,rfl⟩:=r; rfl
 | ref _=>cases r; rfl
 | ty _=>cases r; rfl
theorem A8.inj {x y:V} (r:A8 x u) (q:A8 y u):x = y:=Option.some.inj (r.abs.symm.trans q.abs)
theorem A5.inj:∀ {xs ys:List V} {us:List Value},A5 xs us→A5 ys us→xs = ys
 | _,_,_,.nil,.nil=>rfl
 | _,_,_,.cons r t,.cons r' t'=>by rw [r.inj r',A5.inj t t']
section
variable {s:Shared} {ys:List V}
theorem SqL.of (h:H a = some (.lst xs)):SqL K H a xs:=.inl (.inl h)
theorem SqT.of (h:H a = some (.tup xs)):SqT K H a xs:=.inl (.inl h)
theorem Inv.list (I:Inv X pins σ H s) (h:SqL X.K H a xs):∃ a1:List Value,A5 xs a1∧PlainL s.heap a a1.toArray∧xs.length≤sizeLine:=by
 rcases h with h | ⟨o,a1,n,hk,hc,hd,hs,hz,r⟩
 ·obtain ⟨z,a1,n,r,e⟩:=h.ok I.hok
  exact ⟨a1,r,⟨_,n,e,rfl,rfl,rfl⟩,z⟩
 ·refine ⟨a1.toList,r,⟨o,n,I.kIn a o hk,hc,hd,by simpa using hs⟩,?_⟩
  have e:=r.length
  simp only [Array.length_toList] at e
  omega
theorem Inv.tuple (I:Inv X pins σ H s) (h:SqT X.K H a xs):∃ a1:List Value,A5 xs a1∧IsTup s.heap a a1.toArray∧xs.length≤sizeLine:=by
 rcases h with h | ⟨o,a1,n,hk,hc,hs,hz,r⟩
 ·obtain ⟨z,a1,r,p⟩:=h.ok I.hok
  exact ⟨a1,r,p,z⟩
 ·refine ⟨a1.toList,r,⟨o,I.kIn a o hk,hc,n,by simpa using hs⟩,?_⟩
  have e:=r.length
  simp only [Array.length_toList] at e
  omega
theorem Inv.list_inj (I:Inv X pins σ H s) (h:SqL X.K H a xs) (h':SqL X.K H a ys):xs = ys:=by
 obtain ⟨a1,r,⟨o,n,e,_,_,d⟩,_⟩:=I.list h
 obtain ⟨its',r',⟨o',n',e',_,_,d'⟩,_⟩:=I.list h'
 rw [e] at e'; cases e'
 rw [d] at d'
 injection d' with d1 _
 have:a1 = its':=by simpa using congrArg Array.toList d1
 subst this
 exact r.inj r'
theorem Inv.tuple_inj (I:Inv X pins σ H s) (h:SqT X.K H a xs) (h':SqT X.K H a ys):xs = ys:=by
 obtain ⟨a1,r,⟨o,e,_,n,d⟩,_⟩:=I.tuple h
 obtain ⟨its',r',⟨o',e',_,n',d'⟩,_⟩:=I.tuple h'
 rw [e] at e'; cases e'
 rw [d] at d'
 injection d' with d1 _
 have:a1 = its':=by simpa using congrArg Array.toList d1
 subst this
 exact r.inj r'
end
abbrev Cx.wish (X:Cx) (E:Value→Shared→Prop):Cx:={ X with xe:=E }
abbrev Cx.nox (X:Cx):Cx:=X.wish λ _ _=>False
theorem Cx.Ok.wish (ok:X.Ok) (E:Value→Shared→Prop):(X.wish E).Ok :=
 ⟨ok.mod,ok.kind,ok.glob,ok.blt,ok.above,ok.inj,ok.has,ok.cab,ok.hd,ok.frames,ok.stk,ok.exf,ok.bs,ok.bsz,ok.noex,ok.exfs,ok.funs,ok.frf⟩
theorem Cx.Ok.unwish (ok:(X.wish E).Ok):X.Ok :=
 ⟨ok.mod,ok.kind,ok.glob,ok.blt,ok.above,ok.inj,ok.has,ok.cab,ok.hd,ok.frames,ok.stk,ok.exf,ok.bs,ok.bsz,ok.noex,ok.exfs,ok.funs,ok.frf⟩
section
variable {s:Shared}
theorem Inv.wish (I:Inv X pins σ H s) (E:Value→Shared→Prop):Inv (X.wish E) pins σ H s:=⟨I.ok.wish E,I.os,I.bare,I.base,I.loc,I.cell,I.free,I.freeC,I.pin,I.hok,I.len⟩
theorem Inv.unwish (I:Inv (X.wish E) pins σ H s):Inv X pins σ H s:=⟨I.ok.unwish,I.os,I.bare,I.base,I.loc,I.cell,I.free,I.freeC,I.pin,I.hok,I.len⟩
theorem SP.unwish {D:Fi} {f:Flow} {s':Shared} (h:SP (X.wish E) pins D f s'):SP X pins D f s':=by
 cases f with
 | next=>obtain ⟨a1,H',I,q⟩:=h; exact ⟨a1,H',I.unwish,q⟩
 | brk=>obtain ⟨a1,H',I,q⟩:=h; exact ⟨a1,H',I.unwish,q⟩
 | cont=>obtain ⟨a1,H',I,q⟩:=h; exact ⟨a1,H',I.unwish,q⟩
 | ret u=>obtain ⟨v,a1,H',I,r,q⟩:=h; exact ⟨v,a1,H',I.unwish,r,q⟩
theorem PSs.nox {st:List Stmt} {t:TS} (h:PSs X.nox st t):PSs X st t:=λ pins s σ H D I hw =>
 vS (h pins s σ H D (I.wish _) hw) (λ _ _ q=>q.unwish) λ _ _ z=>False.elim z
end
section
variable {st:Stmt} {rest:List Stmt} {t u:TS}
def tNext:TS:=λ D σ H=>D.nx σ H
def tSeq (t u:TS):TS:=λ D σ H=>t { D with nx:=u D } σ H
theorem Au:PSs X [] tNext:=λ _ _ σ H _ I h=>wpAny_execs_nil ⟨σ,H,I,h⟩
theorem Ac (h1:PS X st t) (h2:PSs X rest u):PSs X (st :: rest) (tSeq t u):=by
 intro pins s σ H D I h
 refine wpAny_execs_cons (thn (h1 pins s σ H { D with nx:=u D } I h) λ f s1 q=>?_)
 cases f with
 | next =>
  obtain ⟨a1,H',I',q⟩:=q
  exact h2 pins s1 a1 H' D I' q
 | ret v=>exact q
 | brk=>exact q
 | cont=>exact q
theorem Ag (h1:PS X st t):PSs X [st] t:=by
 intro pins s σ H D I h
 refine wpAny_execs_cons (thn (h1 pins s σ H D I h) λ f s1 q=>?_)
 cases f with
 | next=>exact wpAny_execs_nil q
 | ret v=>exact q
 | brk=>exact q
 | cont=>exact q
theorem Inv.quiet {s:Shared} (I:Inv X pins σ H s):interactive X.env = false:=by simp [interactive,I.ok.kind]
def AeQ (te:TE):TS:=λ D σ H=>te σ H λ _ H1=>D.nx σ H1
theorem Bo (he:PE X e te) (hs:swapsWith e none pos.line X.env = pure false:=by rfl):PS X (.Expr e pos) (AeQ te):=by
 intro pins s σ H D I h
 exact wpAny_Expr_any (thn (he pins s σ H _ I h) λ v s1 ⟨x,H1,I1,r1,q1⟩=>⟨σ,H1,I1,q1⟩) I.quiet hs
def Aas (te:TE):TS:=λ D σ H=>te σ H D.rt
theorem Aq (he:PE X e te):PS X (.Return (some e) pos) (Aas te):=by
 intro pins s σ H D I h
 exact wpAny_Return_some (thn (he pins s σ H _ I h) λ v s1 ⟨x,H1,I1,r1,q1⟩=>⟨x,σ,H1,I1,r1,q1⟩)
def tIfS (c:TT) (t u:TS):TS:=λ D σ H=>c σ H λ b H1=>if b = true then t D σ H1 else u D σ H1
theorem Ax {c:Expr} {a b:List Stmt} {tc:TT} (hc:PT X c tc) (ha:PSs X a t) (hb:PSs X b u):PS X (.If c a b pos) (tIfS tc t u):=by
 intro pins s σ H D I h
 refine wpAny_If (thn (hc pins s σ H _ I h) λ d s1 ⟨H1,I1,q1⟩=>?_)
 cases d with
 | true=>exact ha pins s1 σ H1 D I1 q1
 | false=>exact hb pins s1 σ H1 D I1 q1
def AbL:TS:=λ _ _ _=>False
theorem Bq:PS X st AbL:=λ _ _ _ _ _ _ h=>h.elim
theorem Abp {a1:List Stmt}:PSs X a1 AbL:=λ _ _ _ _ _ _ h=>h.elim
end
abbrev TG:=V→St→Hp→(St→Hp→Prop)→Prop
abbrev TGs:=List V→St→Hp→(St→Hp→Prop)→Prop
def PG (X:Cx) (target:Expr) (t:TG):Prop :=
 ∀ (pins:List (Addr× Obj)) (s:Shared) (σ:St) (H:Hp) (v:V) (u:Value) (Q:St→Hp→Prop),Inv X pins σ H s→A8 v u→t v σ H Q →
  wpAny (model X.prog X.w) X.A (assign target X.env u) (λ _ s'=>∃ σ' H',Inv X pins σ' H' s'∧Q σ' H') X.xe s
def PGs (X:Cx) (ts:List Expr) (t:TGs):Prop :=
 ∀ (pins:List (Addr× Obj)) (s:Shared) (σ:St) (H:Hp) (vs:List V) (us:List Value) (Q:St→Hp→Prop),Inv X pins σ H s→A5 vs us→t vs σ H Q →
  wpAny (model X.prog X.w) X.A (assignInOrder ((assignEach ts X.env).map (·.2)) us) (λ _ s'=>∃ σ' H',Inv X pins σ' H' s'∧Q σ' H') X.xe s
abbrev AdM:=V→V→V→Hp→(Hp→Prop)→Prop
def AgJ (X:Cx) (t:AdM):Prop :=
 ∀ (pins:List (Addr× Obj)) (s:Shared) (σ:St) (H:Hp) (o i v:V) (ov iv u:Value) (Q:Hp→Prop),Inv X pins σ H s→A8 o ov→A8 i iv→A8 v u→t o i v H Q →
  wpAny (model X.prog X.w) X.A (setItem ov iv u) (λ _ s'=>∃ H',Inv X pins σ H' s'∧Q H') X.xe s
def Cg (i:Nat):TG:=λ v σ H Q=>Q (σ.set i (some v)) H
theorem Bn {i:Nat} (hN:X.N.Nodup) (hi:X.N[i]? = some x) (hx:Loc X.env.scope x) (hf:X.fn x = true∨X.env.scope.names.lookup x = some .local:=by first | exact .inl rfl | exact .inr rfl | assumption):PG X (.Name x pos) (Cg i):=by
 intro pins s σ H v u Q I r h
 exact wpAny_assign_Name (Hn I hN hi hx r (λ s' I'=>⟨_,H,I',h⟩) hf)
def AaY:TGs:=λ vs σ H Q=>vs = []∧Q σ H
def Md (t:TG) (u:TGs):TGs:=λ vs σ H Q=>∃ v r,vs = v :: r∧t v σ H λ σ' H'=>u r σ' H' Q
theorem Sd:PGs X [] AaY:=by
 intro pins s σ H vs us Q I r h
 obtain ⟨e,h⟩:=h
 subst e
 cases r
 exact assignInOrder_nil ⟨σ,H,I,h⟩
theorem Hj {t:TG} {u:TGs} (h1:PG X e t) (h2:PGs X es u)
  (hs:(assignEach (e :: es) X.env).map (·.2) = assign e X.env :: (assignEach es X.env).map (·.2):=by rfl):PGs X (e :: es) (Md t u):=by
 intro pins s σ H vs us Q I r h
 obtain ⟨v,vr,e1,h⟩:=h
 subst e1
 cases r with
 | cons r rr =>
  rw [hs]
  refine assignInOrder_cons (thn (h1 pins s σ H _ _ _ I r h) λ _ s1 ⟨a1,H1,I1,q1⟩=>?_)
  exact h2 pins s1 a1 H1 _ _ Q I1 rr q1
inductive AcP (K:FA) (n:Nat) (v:V) (H:Hp) (R:List V→Prop):Prop
 | mk (a:Addr) (xs:List V) (_:v = .ref a) (_:SqT K H a xs) (_:xs.length = n) (_:R xs):AcP K n v H R
def Aa4 (K:FA) (n:Nat) (t:TGs):TG:=λ v σ H Q=>AcP K n v H λ xs=>t xs σ H Q
theorem Vd {k:Nat} {t:TGs} (hc:X.calm = true) (h:PGs X es t)
  (hn:(assignEach es X.env).length = n:=by rfl) (a1:(assignEach es X.env).findIdx? (·.1) = none:=by rfl):PG X (.Tuple es k pos) (Aa4 X.K n t):=by
 intro pins s σ H v u Q I r hw
 obtain ⟨a,xs,e1,hq,hl,hw⟩:=hw
 subst e1
 cases r
 obtain ⟨a2,rv,ht,hz⟩:=I.tuple hq
 refine assign_Tuple_tuple (I.ok.hd hc) ht (by simp [hn,← hl,rv.length]) a1 λ h' hx=>?_
 have I1:Inv X pins σ H { s with heap:=h' }:=I.kept (t':=s.toks) λ b o e=>hx b o (vB (Heap.lt_size e)) e
 exact h pins _ σ H xs _ Q I1 (by simpa using rv) hw
def Aie (to ti:TE) (t:AdM):TG:=λ v σ H Q=>to σ H λ o H1=>ti σ H1 λ i H2=>t o i v H2 λ H3=>Q σ H3
theorem AgT {o i:Expr} {to ti:TE} {t:AdM} (ho:PE X o to) (hi:PE X i ti) (hs:AgJ X t)
  (ha:∀ v,assign (.Subscript o i pos) X.env v = (do
   let ov ← holding [v] (eval o X.env)
   let iv ← holding [v,ov] (eval i X.env)
   standAt pos
   holding [v,ov,iv] (setItem ov iv v)
   release [v,ov,iv] []):=by intro _; rfl):PG X (.Subscript o i pos) (Aie to ti t):=by
 intro pins s σ H v u Q I r h
 rw [ha]
 refine uA (vT (thn (ho pins s σ H _ I h) λ ov s1 ⟨x,H1,I1,r1,q1⟩=>?_))
 refine uA (vT (thn (hi pins s1 σ H1 _ I1 q1) λ iv s2 ⟨y,H2,I2,r2,q2⟩=>?_))
 refine uA (wpAny_standAt (uA (vT (thn (hs pins s2 σ H2 x y v ov iv u _ I2 r1 r2 r q2) λ _ s3 ⟨H3,I3,q3⟩=>?_))))
 exact wpAny_release ⟨σ,H3,I3,q3⟩
def Pm (te:TE) (g:TG):TS:=λ D σ H=>te σ H λ x H1=>g x σ H1 D.nx
theorem AgI {tg:Expr} {g:TG} (he:PE X e te) (hg:PG X tg g) (hs:swapsWithSole [tg] e pos.line X.env = pure false:=by rfl) (hw:swappedStores [tg] e X.env = pure none:=by rfl)
  (h1:(assignEach [tg] X.env).map (·.2) = [assign tg X.env]:=by rfl):PS X (.Assign [tg] e pos) (Pm te g):=by
 intro pins s σ H D I h
 refine wpAny_Assign_stores (thn (he pins s σ H _ I h) λ v s1 ⟨x,H1,I1,r1,q1⟩=>?_) hs hw
 rw [h1]
 exact thn (hg pins s1 σ H1 x v _ I1 r1 q1) λ _ s2 q=>q
theorem As {i:Nat} {pos':Pos} (hN:X.N.Nodup) (hi:X.N[i]? = some x) (hx:Loc X.env.scope x) (he:PE X e te) (hs:swapsWith e (some (.Name x pos')) pos.line X.env = pure false:=by rfl) (hf:X.fn x = true∨X.env.scope.names.lookup x = some .local:=by first | exact .inl rfl | exact .inr rfl | assumption) :
  PS X (.Assign [.Name x pos'] e pos) (Pm te (Cg i)):=by
 intro pins s σ H D I h
 refine wpAny_Assign_Name (thn (he pins s σ H _ I h) λ v s1 ⟨y,H1,I1,r1,q1⟩=>?_) hs
 exact Hn I1 hN hi hx r1 (λ s2 I2=>⟨_,H1,I2,q1⟩) hf
def Abn (c:TT) (tb:TS):TS:=λ D σ H=>∃ W:Nat→St→Hp→Prop,(∃ m,W m σ H)∧∀ m σ H,W m σ H →
 c σ H λ b H1=>if b = true then ∃ N:St→Hp→Prop,(∀ σ' H',N σ' H'→∃ m',m' < m∧W m' σ' H')∧tb { D with nx:=N,ct:=N,bk:=D.nx } σ H1 else D.nx σ H1
theorem Hq {c:Expr} {a3:List Stmt} {tc:TT} {tb:TS} (hp:PassesOwn (model X.prog X.w) X.A X.env X.xe) (hc:PT X c tc) (hb:PSs X a3 tb):PS X (.While c a3 [] pos) (Abn tc tb):=by
 intro pins s σ H D I h
 obtain ⟨W,⟨m0,w0⟩,a5⟩:=h
 refine wpAny_While (codeAny_whileLoop (λ n s'=>∃ a4 H',Inv X pins a4 H' s'∧W n a4 H') ?_ m0 ⟨σ,H,I,w0⟩)
 rintro n s1 ⟨a2,H1,I1,w1⟩
 refine wpAny_passesOwn hp (thn (hc pins s1 a2 H1 _ I1 (a5 n a2 H1 w1)) λ b s2 ⟨H2,I2,q2⟩=>?_)
 cases b with
 | true =>
  obtain ⟨N,hN,q2⟩:=q2
  rw [if_pos rfl]
  refine wpAny_passesOwn hp (thn (hb pins s2 a2 H2 _ I2 q2) λ f s3 q3=>?_)
  cases f with
  | next =>
   obtain ⟨a1,H3,I3,n3⟩:=q3
   obtain ⟨m',hm,w3⟩:=hN a1 H3 n3
   exact ⟨m',hm,a1,H3,I3,w3⟩
  | cont =>
   obtain ⟨a1,H3,I3,n3⟩:=q3
   obtain ⟨m',hm,w3⟩:=hN a1 H3 n3
   exact ⟨m',hm,a1,H3,I3,w3⟩
  | brk=>exact q3
  | ret v=>exact q3
 | false =>
  rw [if_neg Bool.false_ne_true]
  exact wpAny_execs_nil ⟨a2,H2,I2,q2⟩
structure It where
 go:Nat→Hp→Prop
 yld:Nat→Hp→V→Hp→Prop
 stop:Nat→Hp→Prop
def Hf (X:Cx) (pins:List (Addr× Obj)) (H:Hp) (b:Addr):Prop :=
 H b = none∧b≠X.env.locals∧b∉X.fs∧(b∈X.ex∨X.s₀.heap.objs.size≤b)∧(∀ x c,X.env.cells.lookup x = some c→c≠b)∧∀ p∈X.pn ++ pins,p.1≠b
theorem Inv.fpOk {s:Shared} {b:Addr} (I:Inv X pins σ H s) (hb:s.heap.objs.size≤b) (hn:H' b = none):Hf X pins H' b:=by
 refine ⟨hn,ne_of_gt (uZ I.lt hb),I.nofs hb,.inr (uX I.sz hb),λ x c e z=>?_,λ p hp z=>?_⟩
 ·obtain ⟨v,q⟩:=I.cell x c e
  exact absurd (uZ q.lt (by rw [z]; exact hb)) (lt_irrefl _)
 ·exact absurd (uZ (Heap.lt_size (I.pin p hp).1) (by rw [z]; exact hb)) (lt_irrefl _)
structure N2 (P:Program) (w:World) (K:FA) (tg:Expr) (J:It) (fp:List Addr) (it:Addr) (tn:Nat→Heap→Prop):Prop where
 mem:it∈fp
 obj:∀ i h,tn i h→∀ b∈fp,∃ o,h.get? b = some o∧∀ v,o.data≠.cell v
 keep:∀ i h h',tn i h→(∀ b∈fp,∀ o,h.get? b = some o→h'.get? b = some o)→tn i h'
 item:∀ (X:Cx),X.prog = P→X.w = w→X.K = K→X.calm = true→∀ (i:Nat) (pins:List (Addr× Obj)) (s:Shared) (σ:St) (H:Hp) (E:Value→Shared→Prop),Inv X pins σ H s→(∀ b∈fp,Hf X pins H b)→tn i s.heap→J.go i H →
  wpAny (model P w) X.A (pyNext (.ref it)) (λ r s1=>∃ u,r = some u ∧
   wpAny (model P w) X.A (letOwnedTupleGo tg (.ref it) u) (λ _ s2=>∃ x H',Inv X pins σ H' s2∧A8 x u∧J.yld i H x H'∧tn (i + 1) s2.heap∧∀ b∈fp,H' b = none) E s1) E s
 done:∀ (X:Cx),X.prog = P→X.w = w→X.K = K→X.calm = true→∀ (i:Nat) (pins:List (Addr× Obj)) (s:Shared) (σ:St) (H:Hp) (E:Value→Shared→Prop),Inv X pins σ H s→(∀ b∈fp,Hf X pins H b)→tn i s.heap→J.stop i H →
  wpAny (model P w) X.A (pyNext (.ref it)) (λ r s1=>r = none∧Inv X pins σ H s1) E s
 self:∀ (A:Around) (i:Nat) (s:Shared) (Q:Value→Shared→Prop) (E:Value→Shared→Prop),tn i s.heap→Q (.ref it) s→wpAny (model P w) A (pyIter (.ref it)) Q E s
abbrev TI:=St→Hp→(It→Hp→Prop)→Prop
def PIE (X:Cx) (pins:List (Addr× Obj)) (σ:St) (tg:Expr) (R:It→Hp→Prop) (itv:Value) (s2:Shared):Prop :=
 ∃ (it:Addr) (fp:List Addr) (tn:Nat→Heap→Prop) (J:It) (H':Hp),itv = .ref it∧Inv X pins σ H' s2∧N2 X.prog X.w X.K tg J fp it tn∧tn 0 s2.heap∧(∀ b∈fp,Hf X pins H' b)∧R J H'
def PI (X:Cx) (tg iter:Expr) (wi:TI):Prop :=
 ∀ (pins:List (Addr× Obj)) (s:Shared) (σ:St) (H:Hp) (R:It→Hp→Prop),Inv X pins σ H s→wi σ H R →
  wpAny (model X.prog X.w) X.A (eval iter X.env) (λ v s1=>wpAny (model X.prog X.w) X.A (pyIter v) (PIE X pins σ tg R) X.xe s1) X.xe s
theorem Rf {M:Model} {s:Shared} {tg:Expr} {it:Addr} {o:Obj} {n:String} {vs:Array Value} {Q:Unit→Shared→Prop} (ho:s.heap.get? it = some o) (hc:o.cls = .type n) (hd:o.data = .fields vs)
  (hn:["enumerate", "zip", "dict_itemiterator", "dict_reverseitemiterator", "odict_iterator", "itertools.zip_longest", "itertools.pairwise"].contains n = false) (hQ:Q () s):wpAny M A (letOwnedTupleGo tg (.ref it) u) Q E s:=by
 unfold letOwnedTupleGo
 cases tg <;> first
  | exact uB hQ
  | (cases u <;> first
    | exact uB hQ
    | (refine uA (wpAny_load ho ?_)
       rw [hc,hd]
       show wpAny M A (if (["enumerate", "zip", "dict_itemiterator", "dict_reverseitemiterator", "odict_iterator", "itertools.zip_longest", "itertools.pairwise"].contains n && vs[0]? == some (rawInt _)) = true then _ else _) Q E s
       rw [if_neg (by intro h; rw [hn,Bool.false_and] at h; cases h)]
       exact uB hQ))
def Itl (K:FA) (a:Addr):It :=
 ⟨λ i H=>∃ xs x,SqL K H a xs∧xs[i]? = some x,λ i H x H'=>H' = H∧∀ xs,SqL K H a xs→xs[i]? = some x,λ i H=>∃ xs,SqL K H a xs∧xs.length≤i⟩
def Itt (K:FA) (a:Addr):It :=
 ⟨λ i H=>∃ xs x,SqT K H a xs∧xs[i]? = some x,λ i H x H'=>H' = H∧∀ xs,SqT K H a xs→xs[i]? = some x,λ i H=>∃ xs,SqT K H a xs∧xs.length≤i⟩
def Itr (lo:Int) (n:Nat):It:=⟨λ i _=>i < n,λ i H x H'=>H' = H∧x = .int (lo + i),λ i _=>n≤i⟩
theorem AcQ {tg:Expr} (a it:Addr):N2 P w K tg (Itl K a) [it] it (λ i h=>h.IsListIter it a i) where
 mem:=by simp
 obj:=λ i h st b hb=>by
  have e:b = it:=by simpa using hb
  subst e
  obtain ⟨o,e,c,d⟩:=st
  exact ⟨o,e,λ v z=>by rw [d] at z; cases z⟩
 keep:=λ i h h' st k=>st.at λ o e=>k it (by simp) o e
 item:=by
  intro X hP hw hK hc i pins s σ H E I hf st hg
  subst hP hw hK
  obtain ⟨xs,x,hq,hx⟩:=hg
  obtain ⟨a2,rv,p,hz⟩:=I.list hq
  obtain ⟨u,hu,ru⟩:=rv.get hx
  obtain ⟨f0,f1,f2,f3,f4,f5⟩:=hf it (by simp)
  refine wpAny_pyNext_list_item st p.isList (x:=u) (by simpa using hu) λ h' a1 sb=>?_
  have I1:Inv X pins σ H { s with heap:=h' }:=I.turned (t':=s.toks) (λ b o hb e=>(sb.2 b hb).trans e) f0 f1 f3 f4 f5
  obtain ⟨o,e,c,d⟩:=id a1
  exact ⟨u,rfl,Rf (s:={ s with heap:=h' }) e c d (by decide) ⟨x,H,I1,ru,⟨rfl,λ ys hy=>by rw [I.list_inj hy hq]; exact hx⟩,a1,λ b hb=>(hf b hb).1⟩⟩
 done:=by
  intro X hP hw hK hc i pins s σ H E I hf st hg
  subst hP hw hK
  obtain ⟨xs,hq,hx⟩:=hg
  obtain ⟨a2,rv,p,hz⟩:=I.list hq
  obtain ⟨f0,f1,f2,f3,f4,f5⟩:=hf it (by simp)
  have hl:=rv.length
  exact wpAny_pyNext_list_end (I.ok.hd hc) st p.isList (by simp; omega) λ h' eb=>⟨rfl,I.turned (t':=s.toks) (λ b o hb e=>eb b o hb e) f0 f1 f3 f4 f5⟩
 self:=λ _ _ _ _ _ st h=>wpAny_pyIter_listiter st h
theorem Aac {tg:Expr} (a it:Addr):N2 P w K tg (Itt K a) [it] it (λ i h=>h.IsTupleIter it a i) where
 mem:=by simp
 obj:=λ i h st b hb=>by
  have e:b = it:=by simpa using hb
  subst e
  obtain ⟨o,e,c,d⟩:=st
  exact ⟨o,e,λ v z=>by rw [d] at z; cases z⟩
 keep:=λ i h h' st k=>st.at λ o e=>k it (by simp) o e
 item:=by
  intro X hP hw hK hc i pins s σ H E I hf st hg
  subst hP hw hK
  obtain ⟨xs,x,hq,hx⟩:=hg
  obtain ⟨a1,rv,p,hz⟩:=I.tuple hq
  obtain ⟨u,hu,ru⟩:=rv.get hx
  obtain ⟨f0,f1,f2,f3,f4,f5⟩:=hf it (by simp)
  refine wpAny_pyNext_tuple_item st (show s.heap.IsTuple a a1.toArray from p) (x:=u) (by simpa using hu) λ h' a2 sb=>?_
  have I1:Inv X pins σ H { s with heap:=h' }:=I.turned (t':=s.toks) (λ b o hb e=>(sb.2 b hb).trans e) f0 f1 f3 f4 f5
  obtain ⟨o,e,c,d⟩:=id a2
  exact ⟨u,rfl,Rf (s:={ s with heap:=h' }) e c d (by decide) ⟨x,H,I1,ru,⟨rfl,λ ys hy=>by rw [I.tuple_inj hy hq]; exact hx⟩,a2,λ b hb=>(hf b hb).1⟩⟩
 done:=by
  intro X hP hw hK hc i pins s σ H E I hf st hg
  subst hP hw hK
  obtain ⟨xs,hq,hx⟩:=hg
  obtain ⟨a1,rv,p,hz⟩:=I.tuple hq
  obtain ⟨f0,f1,f2,f3,f4,f5⟩:=hf it (by simp)
  have hl:=rv.length
  exact wpAny_pyNext_tuple_end (I.ok.hd hc) st (show s.heap.IsTuple a a1.toArray from p) (by simp; omega) λ h' eb=>⟨rfl,I.turned (t':=s.toks) (λ b o hb e=>eb b o hb e) f0 f1 f3 f4 f5⟩
 self:=λ _ _ _ _ _ st h=>wpAny_pyIter_tupleiter st h
theorem AaM {tg:Expr} (it:Addr) (lo:Int) (n:Nat):N2 P w K tg (Itr lo n) [it] it (λ i h=>IsRangeIter h it (lo + (i:Nat) * 1) ((n:Int) - (i:Nat)) 1) where
 mem:=by simp
 obj:=λ i h st b hb=>by
  have e:b = it:=by simpa using hb
  subst e
  exact ⟨_,st,λ v z=>by
   have z':Data.fields _ = Data.cell v:=z
   cases z'⟩
 keep:=λ i h h' st k=>k it (by simp) _ st
 item:=by
  intro X hP hw hK hc i pins s σ H E I hf st hg
  subst hP hw hK
  obtain ⟨f0,f1,f2,f3,f4,f5⟩:=hf it (by simp)
  have W:=Walks.range (prog:=X.prog) (w:=X.w) (I.ok.hd hc) it lo 1 n
  refine W.item i s _ _ hg st λ v h' tk hv a1 kk=>?_
  obtain ⟨t,rfl⟩:=hv
  have I1:Inv X pins σ H { s with heap:=h',toks:=tk }:=I.turned (λ b o hb e=>kk b o (by simpa using hb) e) f0 f1 f3 f4 f5
  refine ⟨_,rfl,Rf (s:={ s with heap:=h',toks:=tk }) (n:= "range_iterator") a1 rfl rfl (by decide) ⟨.int (lo + i),H,I1,⟨t,?_⟩,⟨rfl,rfl⟩,a1,λ b hb=>(hf b hb).1⟩⟩
  rw [Int.mul_one]
 done:=by
  intro X hP hw hK hc i pins s σ H E I hf st hg
  subst hP hw hK
  obtain ⟨f0,f1,f2,f3,f4,f5⟩:=hf it (by simp)
  exact wpAny_pyNext_range_end (I.ok.hd hc) st (by have:n≤i:=hg; omega) λ h' eb=>⟨rfl,I.turned (t':=s.toks) (λ b o hb e=>eb b o hb e) f0 f1 f3 f4 f5⟩
 self:=λ _ _ _ _ _ st h=>wpAny_pyIter_rangeiter st h
section
variable {tg:Expr}
def Ahg (K:FA) (tl:TE):TI:=λ σ H R=>tl σ H λ x H1=>∃ a,x = .ref a∧(∃ xs,SqL K H1 a xs)∧R (Itl K a) H1
def AiR (K:FA) (tl:TE):TI:=λ σ H R=>tl σ H λ x H1=>∃ a,x = .ref a∧(∃ xs,SqT K H1 a xs)∧R (Itt K a) H1
theorem Dm {l:Expr} {tl:TE} (hl:PE X l tl):PI X tg l (Ahg X.K tl):=by
 intro pins s σ H R I h
 refine thn (hl pins s σ H _ I h) λ v s1 ⟨x,H1,I1,r1,q1⟩=>?_
 obtain ⟨a,e,⟨xs,hq⟩,q⟩:=q1
 subst e
 cases r1
 obtain ⟨a1,rv,p,hz⟩:=I1.list hq
 refine wpAny_pyIter_list p.isList ?_
 refine ⟨s1.heap.objs.size,[s1.heap.objs.size],_,_,H1,rfl,I1.kept (t':=s1.toks) λ b o e=>Heap.get?_push_of_some _ e,AcQ a _,⟨_,Heap.get?_push_size _ rfl,rfl,rfl⟩,λ b hb=>?_,q⟩
 have e:b = s1.heap.objs.size:=by simpa using hb
 subst e
 exact I1.fpOk (uY _) (I1.hok.fresh (uY _))
theorem AcK {l:Expr} {tl:TE} (hl:PE X l tl):PI X tg l (AiR X.K tl):=by
 intro pins s σ H R I h
 refine thn (hl pins s σ H _ I h) λ v s1 ⟨x,H1,I1,r1,q1⟩=>?_
 obtain ⟨a,e,⟨xs,hq⟩,q⟩:=q1
 subst e
 cases r1
 obtain ⟨a1,rv,p,hz⟩:=I1.tuple hq
 refine wpAny_pyIter_tuple (show s1.heap.IsTuple a a1.toArray from p) ?_
 refine ⟨s1.heap.objs.size,[s1.heap.objs.size],_,_,H1,rfl,I1.kept (t':=s1.toks) λ b o e=>Heap.get?_push_of_some _ e,Aac a _,⟨_,Heap.get?_push_size _ rfl,rfl,rfl⟩,λ b hb=>?_,q⟩
 have e:b = s1.heap.objs.size:=by simpa using hb
 subst e
 exact I1.fpOk (uY _) (I1.hok.fresh (uY _))
theorem AdP {s:Shared} {R:It→Hp→Prop} {lo hi:Int} {t u v:Tok} {tk:Nat} (I:Inv X pins σ H s) (h1:-(2 ^ 62)≤lo) (h2:lo < 2 ^ 62) (h3:-(2 ^ 62)≤hi) (h4:hi < 2 ^ 62)
  (q:R (Itr lo (hi - lo).toNat) H):wpAny (model X.prog X.w) X.A (pyIter (.ref s.heap.objs.size)) (PIE X pins σ tg R) E { s with heap:=s.heap.push { cls:=.type "range", data:=.fields #[.int lo t,.int hi u,.int 1 v] },toks:=tk }:=by
 refine wpAny_pyIter_range (IsRange.new ..) (small_one h1 h2 h3 h4) ?_
 have I1:Inv X pins σ H { s with heap:=s.heap.push { cls:=.type "range", data:=.fields #[.int lo t,.int hi u,.int 1 v] },toks:=tk }:=I.kept λ b o e=>Heap.get?_push_of_some _ e
 refine ⟨(s.heap.push { cls:=.type "range", data:=.fields #[.int lo t,.int hi u,.int 1 v] }).objs.size,[(s.heap.push { cls:=.type "range", data:=.fields #[.int lo t,.int hi u,.int 1 v] }).objs.size],_,_,H,rfl,
  I1.kept (t':=tk) λ b o e=>Heap.get?_push_of_some _ e,AaM _ lo (hi - lo).toNat,?_,λ b hb=>?_,q⟩
 ·have e1:lo + ((0:Nat):Int) * 1 = lo:=by simp
  have e2:(((hi - lo).toNat:Nat):Int) - ((0:Nat):Int) = Builtin.Range.rangeSize lo hi 1:=by rw [rangeSize_one]; split <;> omega
  show IsRangeIter _ _ (lo + ((0:Nat):Int) * 1) ((((hi - lo).toNat:Nat):Int) - ((0:Nat):Int)) 1
  rw [e1,e2]
  exact Heap.get?_push_size _ rfl
 ·have e:b = (s.heap.push { cls:=.type "range", data:=.fields #[.int lo t,.int hi u,.int 1 v] }).objs.size:=by simpa using hb
  subst e
  exact I1.fpOk (uY _) (I1.hok.fresh (uY _))
def Ahs (ta:TA):TI:=λ σ H R=>ta σ H λ vs H1=>∃ j:Int,vs = [.int j]∧-(2 ^ 62)≤j∧j < 2 ^ 62∧R (Itr 0 j.toNat) H1
theorem Ko {a:Expr} {ta:TA} {p:Pos} (hg:Gl X "range") (hm:X.mg "range" = none) (ha:PA X [a] ta) (hs:starEach [a] X.env = [(false,eval a X.env)]:=by rfl):PI X tg (.Call (.Name "range" p) [a] [] pos) (Ahs ta):=by
 intro pins s σ H R I h
 refine Call_ (F8 I hg hm boot_range (PyProof.Rows.callWith_type1 (thn (ha pos pins s σ H _ I h) λ us s1 ⟨vs,H1,I1,r1,q1⟩=>?_) hs rfl))
 obtain ⟨j,e,q1,q2,q⟩:=q1
 subst e
 cases r1 with
 | cons r rr =>
  cases rr
  obtain ⟨t,rfl⟩:=r
  exact call_range_1 (AdP I1 (by omega) (by omega) q1 q2 (by simpa using q))
def Aik (wi:TI) (g:TG) (tb:TS):TS:=λ D σ H=>wi σ H λ J H1=>∃ W:Nat→Nat→St→Hp→Prop,(∃ m,W 0 m σ H1)∧∀ i m σ H,W i m σ H →
 (J.stop i H∧D.nx σ H)∨(J.go i H∧∃ N:St→Hp→Prop,(∀ σ' H',N σ' H'→∃ m',m' < m∧W (i + 1) m' σ' H')∧∀ x H',J.yld i H x H'→g x σ H' λ σ2 H2=>tb { D with nx:=N,ct:=N,bk:=D.nx } σ2 H2)
def G7 (fp:List Addr) (h:Heap):List (Addr× Obj):=fp.filterMap λ b=>(h.get? b).map λ o=>(b,o)
theorem Gy {fp:List Addr} {h:Heap} {b:Addr} {o:Obj} (hb:b∈fp) (e:h.get? b = some o):(b,o)∈G7 fp h:=mem_filterMap.mpr ⟨b,hb,by rw [e]; rfl⟩
theorem Sl {fp:List Addr} {h:Heap} {p:Addr× Obj} (hp:p∈G7 fp h):p.1∈fp∧h.get? p.1 = some p.2:=by
 obtain ⟨b,hb,e⟩:=mem_filterMap.mp hp
 cases q:h.get? b with
 | none=>rw [q] at e; cases e
 | some o =>
  rw [q] at e
  have e':(b,o) = p:=Option.some.inj e
  subst e'
  exact ⟨hb,q⟩
theorem Inv.pinned {s:Shared} {fp:List Addr} (I:Inv X pins σ H s) (hf:∀ b∈fp,Hf X pins H b) (ho:∀ b∈fp,∃ o,s.heap.get? b = some o∧∀ v,o.data≠.cell v):Inv X (pins ++ G7 fp s.heap) σ H s :=
 I.pins_of λ p hp=>(uV.mp hp).elim (λ z=>I.pin p (uS _ z)) λ z=>by
  obtain ⟨hb,e⟩:=Sl z
  obtain ⟨f0,f1,f2,_⟩:=hf p.1 hb
  obtain ⟨o,e',d⟩:=ho p.1 hb
  rw [e] at e'; cases e'
  exact ⟨e,f0,f1,f2,d⟩
theorem Inv.unpinned {pl:List (Addr× Obj)} {s:Shared} (I:Inv X (pins ++ pl) σ H s):Inv X pins σ H s:=I.pins_of λ p hp=>I.pin p (uS _ (vU _ hp))
theorem Fk {iter:Expr} {a5:List Stmt} {wi:TI} {g:TG} {tb:TS} (hp:PassesOwn (model X.prog X.w) X.A X.env X.xe) (hc:X.calm = true) (hi:PI X tg iter wi) (hg:PG X tg g) (hb:PSs X a5 tb)
  (hs:∀ x,foldedSetIterable iter X.env x = pure x:=by intro _; rfl):PS X (.For tg iter a5 [] pos) (Aik wi g tb):=by
 intro pins s σ H D I h
 refine wpAny_For (thn (hi pins s σ H _ I h) λ v s1 h1=>thn h1 λ c0 s2 h2=>?_) hs
 obtain ⟨it,fp,tn,J,H2,e,I2,T,b9,f2,W,⟨m0,w0⟩,a9⟩:=h2
 subst e
 have a4:∀ {H':Hp},(∀ b∈fp,H' b = none)→∀ b∈fp,Hf X pins H' b:=λ hn b hb=>⟨hn b hb,(f2 b hb).2⟩
 refine codeAny_forLoop_any (λ n s'=>∃ i a2 H',Inv X pins a2 H' s'∧tn i s'.heap∧(∀ b∈fp,H' b = none)∧W i n a2 H') ?_ m0 ⟨0,σ,H2,I2,b9,λ b hb=>(f2 b hb).1,w0⟩
 rintro n s3 ⟨i,a3,H3,I3,a8,a7,w3⟩
 rcases a9 i n a3 H3 w3 with ⟨stop,qn⟩ | ⟨go,N,hN,step⟩
 ·refine wpAny_passesOwn hp (thn (T.done X rfl rfl rfl hc i pins s3 a3 H3 X.xe I3 (a4 a7) a8 stop) λ r s4 ⟨hr,I4⟩=>?_)
  subst hr
  exact wpAny_execs_nil ⟨a3,H3,I4,qn⟩
 ·refine wpAny_passesOwn hp (thn (T.item X rfl rfl rfl hc i pins s3 a3 H3 X.xe I3 (a4 a7) a8 go) λ r s4 ⟨u,hr,h4⟩=>?_)
  subst hr
  refine wpAny_passesOwn hp (thn h4 λ _ s5 ⟨x,H5,I5,r5,y5,a6,b8⟩=>?_)
  have b6:=I5.pinned (a4 b8) (T.obj _ _ a6)
  refine wpAny_passesOwn hp (thn (hg _ s5 a3 H5 x u _ b6 r5 (step x H5 y5)) λ _ s6 ⟨b7,H6,I6,q6⟩=>?_)
  refine wpAny_passesOwn hp (thn (hb _ s6 b7 H6 _ I6 q6) λ f s7 q7=>?_)
  have again:∀ {a1:St} {H7:Hp},Inv X (pins ++ G7 fp s5.heap) a1 H7 s7→N a1 H7→∃ m,m < n∧∃ i a2 H',Inv X pins a2 H' s7∧tn i s7.heap∧(∀ b∈fp,H' b = none)∧W i m a2 H':=λ {a1 H7} I7 n7=>by
   obtain ⟨m',hm,w7⟩:=hN a1 H7 n7
   refine ⟨m',hm,i + 1,a1,H7,I7.unpinned,T.keep _ _ _ a6 λ b hb o e=>(I7.pin (b,o) (uS _ (uS _ (Gy hb e)))).1,λ b hb=>?_,w7⟩
   obtain ⟨o,e,d⟩:=T.obj _ _ a6 b hb
   exact (I7.pin (b,o) (uS _ (uS _ (Gy hb e)))).2.1
  cases f with
  | next=>obtain ⟨a1,H7,I7,n7⟩:=q7; exact again I7 n7
  | cont=>obtain ⟨a1,H7,I7,n7⟩:=q7; exact again I7 n7
  | brk=>obtain ⟨a1,H7,I7,q7⟩:=q7; exact ⟨a1,H7,I7.unpinned,q7⟩
  | ret v=>obtain ⟨x7,a1,H7,I7,r7,q7⟩:=q7; exact ⟨x7,a1,H7,I7.unpinned,r7,q7⟩
end
theorem Hm {g:TG} {tb:TS} {D:Fi} (Pv:Nat→St→Hp→Prop) (h0:Pv 0 σ H) (hl:∀ i σ H,i≤xs.length→Pv i σ H→SqL K H a xs)
  (hs:∀ i x σ H,xs[i]? = some x→Pv i σ H→g x σ H λ a1 H2=>tb { D with nx:=Pv (i + 1),ct:=Pv (i + 1),bk:=D.nx } a1 H2) (hd:∀ σ H,Pv xs.length σ H→D.nx σ H) :
  ∃ W:Nat→Nat→St→Hp→Prop,(∃ m,W 0 m σ H)∧∀ i m σ H,W i m σ H →
   ((Itl K a).stop i H∧D.nx σ H)∨((Itl K a).go i H∧∃ N:St→Hp→Prop,(∀ a2 H',N a2 H'→∃ m',m' < m∧W (i + 1) m' a2 H')∧∀ x H',(Itl K a).yld i H x H'→g x σ H' λ a1 H2=>tb { D with nx:=N,ct:=N,bk:=D.nx } a1 H2):=by
 refine ⟨λ i m σ H=>m = xs.length - i∧i≤xs.length∧Pv i σ H,⟨xs.length,by simp,vV _,h0⟩,?_⟩
 rintro i m σ H ⟨rfl,hi,p⟩
 have q:=hl i σ H hi p
 by_cases a3:i < xs.length
 ·refine .inr ⟨⟨xs,xs[i],q,by simp [a3]⟩,Pv (i + 1),λ a2 H' p'=>⟨xs.length - (i + 1),by omega,rfl,a3,p'⟩,λ x H' y=>?_⟩
  obtain ⟨e,y⟩:=y
  subst e
  exact hs i x σ _ (y xs q) p
 ·have e:i = xs.length:=by omega
  subst e
  exact .inl ⟨⟨xs,q,uY _⟩,hd σ H p⟩
theorem Aem {g:TG} {tb:TS} {D:Fi} (Pv:Nat→St→Hp→Prop) (h0:Pv 0 σ H) (hl:∀ i σ H,i≤xs.length→Pv i σ H→SqT K H a xs)
  (hs:∀ i x σ H,xs[i]? = some x→Pv i σ H→g x σ H λ a1 H2=>tb { D with nx:=Pv (i + 1),ct:=Pv (i + 1),bk:=D.nx } a1 H2) (hd:∀ σ H,Pv xs.length σ H→D.nx σ H) :
  ∃ W:Nat→Nat→St→Hp→Prop,(∃ m,W 0 m σ H)∧∀ i m σ H,W i m σ H →
   ((Itt K a).stop i H∧D.nx σ H)∨((Itt K a).go i H∧∃ N:St→Hp→Prop,(∀ a2 H',N a2 H'→∃ m',m' < m∧W (i + 1) m' a2 H')∧∀ x H',(Itt K a).yld i H x H'→g x σ H' λ a1 H2=>tb { D with nx:=N,ct:=N,bk:=D.nx } a1 H2):=by
 refine ⟨λ i m σ H=>m = xs.length - i∧i≤xs.length∧Pv i σ H,⟨xs.length,by simp,vV _,h0⟩,?_⟩
 rintro i m σ H ⟨rfl,hi,p⟩
 have q:=hl i σ H hi p
 by_cases a3:i < xs.length
 ·refine .inr ⟨⟨xs,xs[i],q,by simp [a3]⟩,Pv (i + 1),λ a2 H' p'=>⟨xs.length - (i + 1),by omega,rfl,a3,p'⟩,λ x H' y=>?_⟩
  obtain ⟨e,y⟩:=y
  subst e
  exact hs i x σ _ (y xs q) p
 ·have e:i = xs.length:=by omega
  subst e
  exact .inl ⟨⟨xs,q,uY _⟩,hd σ H p⟩
theorem Tb {lo:Int} {g:TG} {tb:TS} {D:Fi} (Pv:Nat→St→Hp→Prop) (h0:Pv 0 σ H)
  (hs:∀ i σ H,i < n→Pv i σ H→g (.int (lo + i)) σ H λ a2 H2=>tb { D with nx:=Pv (i + 1),ct:=Pv (i + 1),bk:=D.nx } a2 H2) (hd:∀ σ H,Pv n σ H→D.nx σ H) :
  ∃ W:Nat→Nat→St→Hp→Prop,(∃ m,W 0 m σ H)∧∀ i m σ H,W i m σ H →
   ((Itr lo n).stop i H∧D.nx σ H)∨((Itr lo n).go i H∧∃ N:St→Hp→Prop,(∀ a3 H',N a3 H'→∃ m',m' < m∧W (i + 1) m' a3 H')∧∀ x H',(Itr lo n).yld i H x H'→g x σ H' λ a2 H2=>tb { D with nx:=N,ct:=N,bk:=D.nx } a2 H2):=by
 refine ⟨λ i m σ H=>m = n - i∧i≤n∧Pv i σ H,⟨n,by simp,vV _,h0⟩,?_⟩
 rintro i m σ H ⟨rfl,hi,p⟩
 by_cases a1:i < n
 ·refine .inr ⟨a1,Pv (i + 1),λ a3 H' p'=>⟨n - (i + 1),by omega,rfl,a1,p'⟩,λ x H' y=>?_⟩
  obtain ⟨e,y⟩:=y
  subst e y
  exact hs i σ _ a1 p
 ·have e:i = n:=by omega
  subst e
  exact .inl ⟨uY _,hd σ H p⟩
theorem Vi {c:TT} {tb:TS} {D:Fi} (Pv:St→Hp→Prop) (μ:St→Hp→Nat) (h0:Pv σ H)
  (hs:∀ σ H,Pv σ H→c σ H λ b H1=>if b = true then tb { D with nx:=λ a1 H'=>Pv a1 H'∧μ a1 H' < μ σ H,ct:=λ a1 H'=>Pv a1 H'∧μ a1 H' < μ σ H,bk:=D.nx } σ H1 else D.nx σ H1)
  (mono:∀ σ H Q Q',(∀ b H1,Q b H1→Q' b H1)→c σ H Q→c σ H Q'):Abn c tb D σ H:=by
 refine ⟨λ m σ H=>m = μ σ H∧Pv σ H,⟨_,rfl,h0⟩,?_⟩
 rintro m σ H ⟨rfl,p⟩
 refine mono σ H _ _ (λ b H1 q=>?_) (hs σ H p)
 cases b with
 | true=>exact ⟨_,λ a1 H' ⟨p',l⟩=>⟨_,l,rfl,p'⟩,q⟩
 | false=>exact q
abbrev R2:=V→V→Hp→VK→Prop
def OpR (X:Cx) (f:Value→Value→Sem Value) (r:R2):Prop :=
 ∀ (pins:List (Addr× Obj)) (s:Shared) (σ:St) (H:Hp) (x y:V) (v u:Value) (Q:VK),Inv X pins σ H s→A8 x v→A8 y u→r x y H Q →
  wpAny (model X.prog X.w) X.A (f v u) (EP X pins σ Q) X.xe s
def UnR (X:Cx) (f:Value→Sem Value) (r:V→Hp→VK→Prop):Prop :=
 ∀ (pins:List (Addr× Obj)) (s:Shared) (σ:St) (H:Hp) (x:V) (v:Value) (Q:VK),Inv X pins σ H s→A8 x v→r x H Q →
  wpAny (model X.prog X.w) X.A (f v) (EP X pins σ Q) X.xe s
def Es (X:Cx) (f:Value) (r:List V→Hp→VK→Prop):Prop :=
 ∀ (pins:List (Addr× Obj)) (s:Shared) (σ:St) (H:Hp) (xs:List V) (us:List Value) (Q:VK),Inv X pins σ H s→A5 xs us→r xs H Q →
  wpAny (model X.prog X.w) X.A (call f us) (EP X pins σ Q) X.xe s
def Aii (X:Cx) (r:V→Hp→(Bool→Hp→Prop)→Prop):Prop :=
 ∀ (pins:List (Addr× Obj)) (s:Shared) (σ:St) (H:Hp) (x:V) (v:Value) (Q:Bool→Hp→Prop),Inv X pins σ H s→A8 x v→r x H Q →
  wpAny (model X.prog X.w) X.A (truthy v) (TP X pins σ Q) X.xe s
def tOp (r:R2) (ta tb:TE):TE:=λ σ H Q=>ta σ H λ x H1=>tb σ H1 λ y H2=>r x y H2 Q
def tUn (r:V→Hp→VK→Prop) (ta:TE):TE:=λ σ H Q=>ta σ H λ x H1=>r x H1 Q
inductive Agc (C:Int→Int→Prop) (g:Int→Int→V) (x y:V) (H:Hp) (Q:VK):Prop
 | mk (i) (j) (_:x = .int i) (_:y = .int j) (_:C i j) (_:Q (g i j) H):Agc C g x y H Q
def rI (C:Int→Int→Prop) (g:Int→Int→V):R2:=λ x y H Q=>Agc C g x y H Q
inductive AeT (g:Int→Int→V) (x y:V) (H:Hp) (Q:VK):Prop
 | mk (i) (j) (_:x = .int i) (_:y = .int j) (_:Q (g i j) H):AeT g x y H Q
def rI0 (g:Int→Int→V):R2:=λ x y H Q=>AeT g x y H Q
def rU (g:Int→V):V→Hp→VK→Prop:=λ x H Q=>∃ i,x = .int i∧Q (g i) H
section
variable {a b c:Expr} {tc:TE}
theorem Adl (ha:PE X a ta) (hb:PE X b tb) {s:Shared} {R:V→V→Hp→Prop} (I:Inv X pins σ H s)
  (h:ta σ H λ x H1=>tb σ H1 λ y H2=>R x y H2) {Q:Value→Shared→Prop} {f:Value→Value→Sem Value}
  (hf:∀ v u s2 x y H2,Inv X pins σ H2 s2→A8 x v→A8 y u→R x y H2→wpAny (model X.prog X.w) X.A (f v u) Q X.xe s2) :
  wpAny (model X.prog X.w) X.A (eval a X.env) (λ v a1=>wpAny (model X.prog X.w) X.A (eval b X.env) (λ u a2=>wpAny (model X.prog X.w) X.A (f v u) Q X.xe a2) X.xe a1) X.xe s:=by
 refine thn (ha pins s σ H _ I h) λ v s1 ⟨x,H1,I1,r1,q1⟩=>?_
 refine thn (hb pins s1 σ H1 _ I1 q1) λ u s2 ⟨y,H2,I2,r2,q2⟩=>?_
 exact hf v u s2 x y H2 I2 r1 r2 q2
theorem A7 {op:Operator} {r:R2} (ho:OpR X (binaryOp op) r) (ha:PE X a ta) (hb:PE X b tb):PE X (.BinOp a op b pos) (tOp r ta tb):=by
 intro pins s σ H Q I h
 exact wpAny_BinOp (Adl ha hb I h λ v u s2 x y H2 I2 rx ry q=>ho pins s2 σ H2 x y v u Q I2 rx ry q)
theorem AbB {op:UnaryOp} {r:V→Hp→VK→Prop} (ho:UnR X (unaryOp op) r) (ha:PE X a ta):PE X (.UnaryOp op a pos) (tUn r ta):=by
 intro pins s σ H Q I h
 exact UnaryOp_ (thn (ha pins s σ H _ I h) λ v s1 ⟨x,H1,I1,r1,q1⟩=>ho pins s1 σ H1 x v Q I1 r1 q1)
theorem opI {f:Value→Value→Sem Value} {C:Int→Int→Prop} {g:Int→Int→Int}
  (a1:∀ (i j:Int) (t u:Tok) (s:Shared) (Q:Value→Shared→Prop) (E:Value→Shared→Prop),C i j→Q (.int (g i j) s.toks) { s with toks:=s.toks + 1 }→wpAny (model X.prog X.w) X.A (f (.int i t) (.int j u)) Q E s) :
  OpR X f (rI C λ i j=>.int (g i j)):=by
 intro pins s σ H x y v u Q I rx ry h
 obtain ⟨i,j,rfl,rfl,hc,q⟩:=h
 obtain ⟨t,rfl⟩:=rx
 obtain ⟨t',rfl⟩:=ry
 exact a1 i j t t' s _ _ hc ⟨.int (g i j),H,I.tok _,⟨_,rfl⟩,q⟩
theorem Aft {f:Value→Value→Sem Value} {g:Int→Int→Int}
  (a1:∀ (i j:Int) (t u:Tok) (s:Shared) (Q:Value→Shared→Prop) (E:Value→Shared→Prop),Q (.int (g i j) s.toks) { s with toks:=s.toks + 1 }→wpAny (model X.prog X.w) X.A (f (.int i t) (.int j u)) Q E s) :
  OpR X f (rI0 λ i j=>.int (g i j)):=by
 intro pins s σ H x y v u Q I rx ry h
 obtain ⟨i,j,rfl,rfl,q⟩:=h
 obtain ⟨t,rfl⟩:=rx
 obtain ⟨t',rfl⟩:=ry
 exact a1 i j t t' s _ _ ⟨.int (g i j),H,I.tok _,⟨_,rfl⟩,q⟩
theorem Aag {f:Value→Value→Sem Value} {g:Int→Int→Bool}
  (a1:∀ (i j:Int) (t u:Tok) (s:Shared) (Q:Value→Shared→Prop) (E:Value→Shared→Prop),Q (.bool (g i j)) s→wpAny (model X.prog X.w) X.A (f (.int i t) (.int j u)) Q E s) :
  OpR X f (rI0 λ i j=>.bl (g i j)):=by
 intro pins s σ H x y v u Q I rx ry h
 obtain ⟨i,j,rfl,rfl,q⟩:=h
 obtain ⟨t,rfl⟩:=rx
 obtain ⟨t',rfl⟩:=ry
 exact a1 i j t t' s _ _ ⟨.bl (g i j),H,I,rfl,q⟩
def AiW (i j:Int):Prop:=0 < j∧j < 1073741824
def AdI (i j:Int):Prop:=(-(2 ^ 64) < i∧i < 2 ^ 64)∨(-(2 ^ 64) < j∧j < 2 ^ 64)
theorem AdI.ok {i j:Int} (h:AdI i j):IntMulOk i j:=by
 rcases h with ⟨h1,h2⟩ | ⟨h1,h2⟩
 ·exact .of_left (intBits_le_64 h1 h2)
 ·exact .of_right (intBits_le_64 h1 h2)
theorem Ju:OpR X (binaryOp .Add) (rI0 λ i j=>.int (i + j)):=Aft λ _ _ _ _ _ _ _ q=>add_int q
theorem U0:OpR X (binaryOp .Sub) (rI0 λ i j=>.int (i - j)):=Aft λ _ _ _ _ _ _ _ q=>sub_int q
theorem Abg:OpR X (binaryOp .Mult) (rI AdI λ i j=>.int (i * j)):=opI λ _ _ _ _ _ _ _ hc q=>mul_int q hc.ok
theorem E8:OpR X (binaryOp .FloorDiv) (rI AiW λ i j=>.int (i / j)):=opI λ i j _ _ _ _ _ hc q=>by
 have h1:(0:Int) < j:=hc.1
 have h2:j < 1073741824:=hc.2
 exact floordiv_int (by omega) (by rw [Int.fdiv_eq_ediv_of_nonneg i (by omega)]; exact q) (.inl (PyProof.noPylong_small (by omega)))
theorem D7:OpR X (binaryOp .Mod) (rI (λ _ j=>0 < j) λ i j=>.int (i % j)):=opI λ i j _ _ _ _ _ hc q=>by
 have h1:(0:Int) < j:=hc
 exact mod_int' (by omega) (by rw [Int.fmod_eq_emod_of_nonneg i (by omega)]; exact q)
theorem unI {f:Value→Sem Value} {g:Int→Int}
  (a1:∀ (i:Int) (t:Tok) (s:Shared) (Q:Value→Shared→Prop) (E:Value→Shared→Prop),Q (.int (g i) s.toks) { s with toks:=s.toks + 1 }→wpAny (model X.prog X.w) X.A (f (.int i t)) Q E s) :
  UnR X f (rU λ i=>.int (g i)):=by
 intro pins s σ H x v Q I rx h
 obtain ⟨i,rfl,q⟩:=h
 obtain ⟨t,rfl⟩:=rx
 exact a1 i t s _ _ ⟨.int (g i),H,I.tok _,⟨_,rfl⟩,q⟩
theorem Wz:UnR X (unaryOp .USub) (rU λ i=>.int (-i)):=unI λ _ _ _ _ _ q=>neg_int q
end
def Adp:V→V→Bool
 | .non,.non=>true | .non,.int _=>true | .int _,.non=>true | .non,.bl _=>true | .bl _,.non=>true | .non,.str _=>true | .str _,.non=>true
 | .int _,.int _=>true | .bl _,.bl _=>true | .str _,.str _=>true | .byt _,.byt _=>true
 | .int _,.str _=>true | .str _,.int _=>true | .bl _,.str _=>true | .str _,.bl _=>true
 | _,_=>false
def rEq:R2:=λ x y H Q=>Adp x y = true∧Q (.bl (decide (x = y))) H
def rNe:R2:=λ x y H Q=>Adp x y = true∧Q (.bl (!decide (x = y))) H
theorem Y7 {i j:Int}:decide (V.int i = V.int j) = (i == j):=by
 rw [Bool.eq_iff_iff]
 simp
theorem Abt {i j:Bool}:decide (V.bl i = V.bl j) = (i == j):=by
 rw [Bool.eq_iff_iff]
 simp
theorem Zp {i j:Str}:decide (V.str i = V.str j) = (i == j):=by
 rw [Bool.eq_iff_iff]
 simp
theorem Zd {i j:Array UInt8}:decide (V.byt i = V.byt j) = (i.toList == j.toList):=by
 rw [Bool.eq_iff_iff]
 cases i
 cases j
 simp
section
variable {a b c:Expr} {tc:TE}
theorem Bk {s:Shared} {k k':Bool} (I:Inv X pins σ H s) (q:Q (.bl k) H) (e:k = k'):EP X pins σ Q (.bool k') s:=by
 subst e
 exact ⟨.bl k,H,I,rfl,q⟩
theorem A6:OpR X (compareOp .Eq) rEq:=by
 intro pins s σ H x y v u Q I rx ry h
 obtain ⟨hs,q⟩:=h
 cases x with
 | non =>
  cases rx
  cases y with
  | non=>cases ry; exact PySem.EqNone.eq_none_none (Bk I q (by simp))
  | bl j=>cases ry; exact PySem.EqNone.eq_none_bool (Bk I q (by simp))
  | int j=>obtain ⟨t',rfl⟩:=ry; exact PySem.EqNone.eq_none_int (Bk I q (by simp))
  | str j=>obtain ⟨t',rfl⟩:=ry; exact PySem.EqNone.eq_none_str (Bk I q (by simp))
  | _=>exact absurd (show false = true from hs) Bool.false_ne_true
 | bl i =>
  cases rx
  cases y with
  | non=>cases ry; exact PySem.EqNone.eq_bool_none (Bk I q (by simp))
  | bl j=>cases ry; exact eq_bool (Bk I q Abt)
  | str j=>obtain ⟨t',rfl⟩:=ry; exact PySem.EqMixed.eq_bool_str (Bk I q (by simp))
  | _=>exact absurd (show false = true from hs) Bool.false_ne_true
 | int i =>
  obtain ⟨t,rfl⟩:=rx
  cases y with
  | non=>cases ry; exact PySem.EqNone.eq_int_none (Bk I q (by simp))
  | int j=>obtain ⟨t',rfl⟩:=ry; exact eq_int (Bk I q Y7)
  | str j=>obtain ⟨t',rfl⟩:=ry; exact PySem.EqMixed.eq_int_str (Bk I q (by simp))
  | _=>exact absurd (show false = true from hs) Bool.false_ne_true
 | str i =>
  obtain ⟨t,rfl⟩:=rx
  cases y with
  | non=>cases ry; exact PySem.EqNone.eq_str_none (Bk I q (by simp))
  | bl j=>cases ry; exact PySem.EqMixed.eq_str_bool (Bk I q (by simp))
  | int j=>obtain ⟨t',rfl⟩:=ry; exact PySem.EqMixed.eq_str_int (Bk I q (by simp))
  | str j=>obtain ⟨t',rfl⟩:=ry; exact eq_str (Bk I q Zp)
  | _=>exact absurd (show false = true from hs) Bool.false_ne_true
 | byt i =>
  obtain ⟨t,rfl⟩:=rx
  cases y with
  | byt j=>obtain ⟨t',rfl⟩:=ry; exact PySem.W.eq_bytes (Bk I q Zd)
  | _=>exact absurd (show false = true from hs) Bool.false_ne_true
 | _=>cases y <;> exact absurd (show false = true from hs) Bool.false_ne_true
theorem Kl:OpR X (compareOp .NotEq) rNe:=by
 intro pins s σ H x y v u Q I rx ry h
 obtain ⟨hs,q⟩:=h
 cases x with
 | non =>
  cases rx
  cases y with
  | non=>cases ry; exact PySem.EqNone.ne_none_none (Bk I q (by simp))
  | bl j=>cases ry; exact PySem.EqNone.ne_none_bool (Bk I q (by simp))
  | int j=>obtain ⟨t',rfl⟩:=ry; exact PySem.EqNone.ne_none_int (Bk I q (by simp))
  | str j=>obtain ⟨t',rfl⟩:=ry; exact PySem.EqNone.ne_none_str (Bk I q (by simp))
  | _=>exact absurd (show false = true from hs) Bool.false_ne_true
 | bl i =>
  cases rx
  cases y with
  | non=>cases ry; exact PySem.EqNone.ne_bool_none (Bk I q (by simp))
  | bl j=>cases ry; exact ne_bool (Bk I q (congrArg not Abt))
  | str j=>obtain ⟨t',rfl⟩:=ry; exact PySem.EqMixed.ne_bool_str (Bk I q (by simp))
  | _=>exact absurd (show false = true from hs) Bool.false_ne_true
 | int i =>
  obtain ⟨t,rfl⟩:=rx
  cases y with
  | non=>cases ry; exact PySem.EqNone.ne_int_none (Bk I q (by simp))
  | int j=>obtain ⟨t',rfl⟩:=ry; exact ne_int (Bk I q (congrArg not Y7))
  | str j=>obtain ⟨t',rfl⟩:=ry; exact PySem.EqMixed.ne_int_str (Bk I q (by simp))
  | _=>exact absurd (show false = true from hs) Bool.false_ne_true
 | str i =>
  obtain ⟨t,rfl⟩:=rx
  cases y with
  | non=>cases ry; exact PySem.EqNone.ne_str_none (Bk I q (by simp))
  | bl j=>cases ry; exact PySem.EqMixed.ne_str_bool (Bk I q (by simp))
  | int j=>obtain ⟨t',rfl⟩:=ry; exact PySem.EqMixed.ne_str_int (Bk I q (by simp))
  | str j=>obtain ⟨t',rfl⟩:=ry; exact ne_str (Bk I q (congrArg not Zp))
  | _=>exact absurd (show false = true from hs) Bool.false_ne_true
 | byt i =>
  obtain ⟨t,rfl⟩:=rx
  cases y with
  | byt j=>obtain ⟨t',rfl⟩:=ry; exact PySem.W.ne_bytes (Bk I q (congrArg not Zd))
  | _=>exact absurd (show false = true from hs) Bool.false_ne_true
 | _=>cases y <;> exact absurd (show false = true from hs) Bool.false_ne_true
theorem Ut:OpR X (compareOp .Lt) (rI0 λ i j=>.bl (decide (i < j))):=Aag λ _ _ _ _ _ _ _ q=>lt_int q
theorem AaZ:OpR X (compareOp .LtE) (rI0 λ i j=>.bl (decide (i≤j))):=Aag λ _ _ _ _ _ _ _ q=>le_int q
theorem Qk:OpR X (compareOp .Gt) (rI0 λ i j=>.bl (decide (j < i))):=Aag λ _ _ _ _ _ _ _ q=>gt_int q
theorem Ag6:OpR X (compareOp .GtE) (rI0 λ i j=>.bl (decide (j≤i))):=Aag λ _ _ _ _ _ _ _ q=>ge_int q
theorem AcR:OpR X (compareOp .In) (λ x y H Q=>∃ i j,x = .str i∧y = .str j∧Q (.bl (!(Builtin.Str.occurrences j i 0 j.length 1).isEmpty)) H):=by
 intro pins s σ H x y v u Q I rx ry h
 obtain ⟨i,j,rfl,rfl,q⟩:=h
 obtain ⟨t,rfl⟩:=rx
 obtain ⟨t',rfl⟩:=ry
 exact in_str (Bk I q rfl)
theorem J4:OpR X (compareOp .Is) (λ x y H Q=>y = .non∧Q (.bl (decide (x = .non))) H):=by
 intro pins s σ H x y v u Q I rx ry h
 obtain ⟨rfl,q⟩:=h
 cases ry
 refine is_none_gen (Bk I q ?_)
 cases x <;> first
  | (cases rx; rfl)
  | (obtain ⟨t,rfl⟩:=rx; rfl)
theorem Aef:OpR X (compareOp .IsNot) (λ x y H Q=>y = .non∧Q (.bl (!decide (x = .non))) H):=by
 intro pins s σ H x y v u Q I rx ry h
 obtain ⟨rfl,q⟩:=h
 cases ry
 refine isnot_none_gen (Bk I q ?_)
 cases x <;> first
  | (cases rx; rfl)
  | (obtain ⟨t,rfl⟩:=rx; rfl)
theorem Aw (b:Expr) {op:CmpOp} (h:op≠.In:=by decide) (h2:op≠.NotIn:=by decide):behindInMarks op b = false:=by
 have e1:(op == CmpOp.In) = false:=by cases op <;> first | rfl | exact absurd rfl h
 have e2:(op == CmpOp.NotIn) = false:=by cases op <;> first | rfl | exact absurd rfl h2
 cases b <;> simp [behindInMarks,e1,e2]
theorem El {op:CmpOp} {r:R2} (ho:OpR X (compareOp op) r) (ha:PE X a ta) (hb:PE X b tb) (hm:behindInMarks op b = false):PE X (.Compare a [op] [b] pos) (tOp r ta tb):=by
 intro pins s σ H Q I h
 exact wpAny_Compare1 (Adl ha hb I h λ v u s2 x y H2 I2 rx ry q=>ho pins s2 σ H2 x y v u Q I2 rx ry q) hm
def Km (t:TE):TT:=λ σ H Q=>t σ H λ x H'=>Adn x H' Q
theorem Ao {op:CmpOp} {r:R2} (ho:OpR X (compareOp op) r) (ha:PE X a ta) (hb:PE X b tb) (hm:behindInMarks op b = false):PT X (.Compare a [op] [b] pos) (Km (tOp r ta tb)):=by
 intro pins s σ H Q I h
 refine wpAny_isTrue_Compare1 (thn (ha pins s σ H _ I h) λ v s1 ⟨x,H1,I1,r1,q1⟩=>thn (hb pins s1 σ H1 _ I1 q1) λ u s2 ⟨y,H2,I2,r2,q2⟩ =>
  thn (ho pins s2 σ H2 x y v u _ I2 r1 r2 q2) λ c s3 ⟨z,H3,I3,r3,k,e,q3⟩=>?_) hm
 subst e
 cases r3
 exact wpAny_truthy_bool ⟨H3,I3,q3⟩
def AgU (r r':R2) (ta tb tc:TE):TE:=λ σ H Q=>ta σ H λ x H1=>tb σ H1 λ y H2=>r x y H2 λ z H3=>∃ k,z = .bl k ∧
 (if k = true then tc σ H3 λ w' H4=>r' y w' H4 Q else Q (.bl false) H3)
theorem AdW {op a1:CmpOp} {r r':R2} (ho:OpR X (compareOp op) r) (a2:OpR X (compareOp a1) r') (ha:PE X a ta) (hb:PE X b tb) (hc:PE X c tc)
  (hm:lastMarks [op,a1] [b,c] = false:=by with_unfolding_all rfl):PE X (.Compare a [op,a1] [b,c] pos) (AgU r r' ta tb tc):=by
 intro pins s σ H Q I h
 refine Compare_chain (thn (ha pins s σ H _ I h) λ v s1 ⟨x,H1,I1,r1,q1⟩=>chain_link (thn (hb pins s1 σ H1 _ I1 q1) λ u s2 ⟨y,H2,I2,r2,q2⟩ =>
  thn (ho pins s2 σ H2 x y v u _ I2 r1 r2 q2) λ d s3 ⟨z,H3,I3,r3,k,e,q3⟩=>?_)) hm
 subst e
 cases r3
 refine wpAny_truthy_bool ?_
 cases k with
 | false=>exact ite_ff ⟨.bl false,H3,I3,rfl,q3⟩
 | true=>exact ite_tt (chain_last (thn (hc pins s3 σ H3 _ I3 q3) λ w' s4 ⟨z',H4,I4,r4,q4⟩=>a2 pins s4 σ H4 y z' u w' Q I4 r2 r4 q4))
def AgL (K:FA) (x:V) (H:Hp) (k:Bool):Prop :=
 match x with
 | .non=>k = false
 | .bl b=>k = b
 | .int i=>k = (i != 0)
 | .str y=>y.length≤sizeLine∧k = ((y.length:Int) != 0)
 | .byt y=>y.size≤sizeLine∧k = ((y.size:Int) != 0)
 | .ref p=>(∃ xs,SqL K H p xs∧k = !xs.isEmpty)∨(∃ xs,SqT K H p xs∧k = !xs.isEmpty)∨∃ kvs,H p = some (.dK kvs)∧k = !kvs.isEmpty
 | _=>False
theorem AaT {κ:Type} {kvs:List (κ× V)} {vs:List (κ× Value)} (r:KV kvs vs):(!vs.isEmpty) = !kvs.isEmpty:=by
 cases r <;> rfl
theorem Rg {a1:List Value} (r:A5 xs a1):(!a1.toArray.isEmpty) = !xs.isEmpty:=by
 cases r <;> simp
theorem J3:(sizeLine:Nat) < 2 ^ 63:=by rw [sizeLine_eq]; decide
theorem Agm:Aii X (λ x H Q=>∃ k,AgL X.K x H k∧Q k H):=by
 intro pins s σ H x v Q I rx h
 obtain ⟨k,e,q⟩:=h
 have hl:=J3
 have hs:sizeLine = 16777216:=sizeLine_eq
 cases x with
 | non =>
  cases rx
  have e':k = false:=e
  subst e'
  exact truthy_none ⟨H,I,q⟩
 | bl b =>
  cases rx
  have e':k = b:=e
  subst e'
  exact wpAny_truthy_bool ⟨H,I,q⟩
 | int i =>
  obtain ⟨t,rfl⟩:=rx
  have e':k = (i != 0):=e
  subst e'
  exact PySem.P.truthy_int ⟨H,I,q⟩
 | str y =>
  obtain ⟨t,rfl⟩:=rx
  obtain ⟨hy,e'⟩:y.length≤sizeLine∧k = ((y.length:Int) != 0):=e
  subst e'
  exact PySem.P.truthy_str (by omega) ⟨H,I.tok _,q⟩
 | byt y =>
  obtain ⟨t,rfl⟩:=rx
  obtain ⟨hy,e'⟩:y.size≤sizeLine∧k = ((y.size:Int) != 0):=e
  subst e'
  exact PySem.W.truthy_bytes (by omega) ⟨H,I.tok _,q⟩
 | ref p =>
  cases rx
  have e':(∃ xs,SqL X.K H p xs∧k = !xs.isEmpty)∨(∃ xs,SqT X.K H p xs∧k = !xs.isEmpty)∨∃ kvs,H p = some (.dK kvs)∧k = !kvs.isEmpty:=e
  rcases e' with ⟨xs,hx,e'⟩ | ⟨xs,hx,e'⟩ | ⟨kvs,hx,e'⟩
  ·subst e'
   obtain ⟨a2,r,pl,hz⟩:=I.list hx
   have a1:=r.length
   exact wpAny_truthy_list pl.isList (by simp only [uO]; omega) ⟨H,I.tok _,by rw [Rg r]; exact q⟩
  ·subst e'
   obtain ⟨a2,r,pl,hz⟩:=I.tuple hx
   have a1:=r.length
   exact truthy_tuple pl (by simp only [uO]; omega) ⟨H,I.tok _,by rw [Rg r]; exact q⟩
  ·subst e'
   obtain ⟨hz,hS,vs,r,m⟩:kvs.length≤sizeLine∧(p == sysModules) = false∧∃ vs,KV kvs vs∧s.heap.DictOf (Dc X.prog X.w) p vs:=I.hok p _ hx
   have a1:kvs.length = vs.length:=Paired.length r
   exact wpAny_truthy_dict hS m (by omega) ⟨H,I.tok _,by rw [AaT r]; exact q⟩
 | _=>exact (show False from e).elim
theorem Ch (ha:PE X a ta) (he:∀ a1,isTrue a X.env a1 = (do let v ← a1; standAt a.pos; holding [v] (truthy v))) :
  PT X a (λ σ H Q=>ta σ H λ x H'=>∃ k,AgL X.K x H' k∧Q k H'):=by
 intro pins s σ H Q I h
 exact isTrue_plain (thn (ha pins s σ H _ I h) λ v s1 ⟨x,H1,I1,r1,q1⟩=>Agm pins s1 σ H1 x v Q I1 r1 q1) (he _)
theorem Aak:OpR X (binaryOp .Add) (λ x y H Q=>∃ i j,x = .str i∧y = .str j∧i.length + j.length≤sizeLine∧Q (.str (i ++ j)) H):=by
 intro pins s σ H x y v u Q I rx ry h
 obtain ⟨i,j,rfl,rfl,hz,q⟩:=h
 obtain ⟨t,rfl⟩:=rx
 obtain ⟨t',rfl⟩:=ry
 exact add_str (λ t' tk=>⟨.str (i ++ j),H,I.tok _,⟨_,rfl⟩,q⟩) hz
theorem Uu {x:V} (r:A5 [x] us):∃ u,us = [u]∧A8 x u:=by
 cases r with
 | cons r1 r2=>cases r2; exact ⟨_,rfl,r1⟩
theorem AhP {x y:V} (r:A5 [x,y] us):∃ u w',us = [u,w']∧A8 x u∧A8 y w':=by
 cases r with
 | cons r1 r2 =>
  cases r2 with
  | cons r3 r4=>cases r4; exact ⟨_,_,rfl,r1,r3⟩
theorem Ny (hc:X.calm = true):Es X (.builtin "max") (λ xs H Q=>∃ i j,xs = [.int i,.int j]∧Q (.int (if j > i then j else i)) H):=by
 intro pins s σ H xs us Q I r h
 obtain ⟨i,j,rfl,q⟩:=h
 obtain ⟨u,w',rfl,⟨t,rfl⟩,⟨t',rfl⟩⟩:=AhP r
 refine max_two_ints (I.ok.hd hc) λ h' tk k=>⟨_,H,I.kept k,?_,q⟩
 by_cases hj:j > i
 ·rw [if_pos hj,if_pos hj]; exact ⟨_,rfl⟩
 ·rw [if_neg hj,if_neg hj]; exact ⟨_,rfl⟩
end
structure Pu (h:Heap) (x dx C:Addr) (mA:Str→Option Value):Prop where
 obj:h.get? x = some (instObj C dx)
 ns:h.Ns1 dx mA
 ne:dx≠x
theorem Ab4 {h:Heap} {dx:Addr} {mA:Str→Option Value} (n:h.Ns1 dx mA):∃ od,h.get? dx = some od∧∀ name,lookIn name od = some (mA name):=by
 obtain ⟨o,es,ep,ho,hd,hk,_,hm⟩:=n
 refine ⟨o,ho,λ name=>?_⟩
 have e:=hm name
 unfold nsFind findBy at e
 rw [← Array.find?_toList] at e
 unfold lookIn
 rw [hd]
 dsimp only
 split
 ·rename_i y q
  rw [q] at e
  exact congrArg some e
 ·rename_i q
  rw [q] at e
  have a:es.toList.any (·.refKey) = false:=by
   rw [List.any_eq_false]
   intro y hy
   obtain ⟨z,t,a1⟩:=hk y (Array.mem_toList_iff.mp hy)
   simp [DictEntry.refKey,a1]
  have a':¬ es.toList.any (·.refKey) = true:=by rw [a]; exact Bool.false_ne_true
  rw [if_neg a']
  exact congrArg some e
theorem Pu.look {h:Heap} {x dx:Addr} {mA:Str→Option Value} (I:Pu h x dx C mA):∃ od,PySem.W.InstAt h x (instObj C dx) C (some od)∧∀ name,lookIn name od = some (mA name) :=
 let ⟨od,ho,hl⟩:=Ab4 I.ns
 ⟨od,⟨I.obj,rfl,rfl,ho⟩,hl⟩
section
variable {s:Shared} {x dx:Addr} {mA:Str→Option Value} {name:Str} {v:Value}
theorem Afe {a1:Bool} {Q:Value→Shared→Prop} (X:K.In s.heap) (I:Pu s.heap x dx C mA) (hg:plainGet K C name = true) (hh:hasDictIn K C = true)
  (ha:PySem.W.findIn K (.ref C) name = some none) (hv:mA name = some v) (a2:handedIn v = true) (h:Q v { s with toks:=s.toks + 1 }) :
  wpAny (model prog w) A (getAttr (.ref x) name a1) Q E s:=by
 obtain ⟨od,J,hl⟩:=I.look
 exact PySem.W.get_value X J (plainGet_of hg).1 (PySem.W.findObj_own hh ha rfl (by rw [hl,hv])) a2 h
theorem Acw {pl:Sem Bool} {Q:Value× List Value→Shared→Prop} (X:K.In s.heap) (I:Pu s.heap x dx C mA) (hg:plainGet K C name = true)
  (hf:PySem.W.findIn K (.ref C) name = some (some (.ref f))) (ht:isFn K (.ref f) = true) (hv:mA name = none) (h:Q (.ref f,[.ref x]) s) :
  wpAny (model prog w) A (getMethod (.ref x) name pl) Q E s:=by
 obtain ⟨od,J,hl⟩:=I.look
 exact PySem.W.method_fn X J (plainGet_of hg).1 (plainGet_of hg).2 hf (beq_iff_eq.mp ht) (by show (lookIn name od).map (·.isSome) = some false; rw [hl,hv]; rfl) h
theorem Aeu {ns:List Str} {Q:Unit→Shared→Prop} (X:K.In s.heap) (I:Pu s.heap x dx C mA)
  (hs:PySem.W.findIn K (.ref C) "__setattr__" = some (some (.builtin "object.__setattr__"))) (hp:plainOver K C = true) (ht:takerIn K C name = some none) (hh:hasDictIn K C = true)
  (hw:PySem.Within mA ns) (hsz:ns.length≤sizeLine)
  (h:∀ h',Pu h' x dx C (λ y=>if y = name then some v else mA y)→Heap.SameBut dx s.heap h'→Q () { s with heap:=h',toks:=s.toks + 2 }) :
  wpAny (model prog w) A (setAttr (.ref x) name v) Q E s:=by
 obtain ⟨od,J,hl⟩:=I.look
 refine PySem.W.set_plain X J hs (PySem.W.osa_open (s:={ s with toks:=s.toks + 1 }) (r:=none) X J hp ht λ b=>?_)
 obtain ⟨cd,hc,a6⟩:=any_some hh
 have hx:s.heap.get? x = some ⟨.ref C,some dx,.plain,#[]⟩:=I.obj
 refine uA (uB (uA (uA (wpAny_loadPart hx (uA (PySem.W.Looks.here (s:={ s with toks:=s.toks + 1 }) (PySem.W.looks_clsIn X hc) ?_))))))
 rw [a6]
 refine uB (a:=some dx) (uA (uB (uA ?_)))
 refine wpAny_nsSet1 (s:={ s with toks:=s.toks + 1 }) I.ns λ h' a2 a1=>?_
 obtain ⟨oD,a8,a7,a5,a3,a4⟩:=a2.count (PySem.Within.cons name v hw)
 refine uA (wpAny_lookBehind a5 (by rw [a3]; exact pastItsLine_dict (uX a4 (by rw [uU]; omega))) ?_)
 exact uB (h _ ⟨(a1.2 _ (Ne.symm I.ne)).trans I.obj,a2,I.ne⟩ a1)
theorem Acz {R:Result→Shared→Prop} {vs:List Value} {kw:List (Str× Value)} (X:K.In s.heap) (hm:makesIn K C = true)
  (hi:PySem.W.findIn K (.ref C) "__init__" = some (some (.ref f))) (hf:typeIn K (.ref f) = some (.type "function"))
  (h:codeAny (model prog w) (A.under (.builtin "type.__call__" ⟨.ref C :: vs,kw⟩)) (.call (.ref f) ⟨.ref (s.heap.objs.size + 1) :: vs,kw⟩) (PySem.W.InitBack (s.heap.objs.size + 1) R)
   { s with heap:=(s.heap.push emptyDict).push (instObj C s.heap.objs.size) }) :
  codeAny (model prog w) A (.call (.ref C) ⟨vs,kw⟩) R s:=by
 obtain ⟨hh,g,d,t,os⟩:=s
 exact PySem.W.make_core (PySem.W.makes_of X hm) (PySem.W.looks_findIn X hi) (λ self=>PySem.W.bind_fn X self hf) (.inl rfl) h
end
def B5 (f:Str) (v:V):List (Str× V)→List (Str× V)
 | []=>[(f,v)]
 | (g,x) :: r=>if g = f then (g,v) :: r else (g,x) :: B5 f v r
theorem B8 (f g:Str) (v:V):∀ fs:List (Str× V),(B5 f v fs).lookup g = if g = f then some v else fs.lookup g
 | []=>by
  show List.lookup g [(f,v)] = _
  by_cases h:g = f
  ·have hb:(g == f) = true:=beq_iff_eq.mpr h
   simp only [List.lookup,hb,if_pos h]
  ·have hb:(g == f) = false:=beq_eq_false_iff_ne.mpr h
   simp only [List.lookup,hb,if_neg h]
 | (k,x) :: r=>by
  have ih:=B8 f g v r
  rw [show B5 f v ((k,x) :: r) = (if k = f then (k,v) :: r else (k,x) :: B5 f v r) from rfl]
  by_cases hk:k = f
  ·rw [if_pos hk]
   by_cases h:g = k
   ·have hb:(g == k) = true:=beq_iff_eq.mpr h
    simp only [List.lookup,hb,if_pos (h.trans hk)]
   ·have hb:(g == k) = false:=beq_eq_false_iff_ne.mpr h
    simp only [List.lookup,hb,if_neg (λ e:g = f=>h (e.trans hk.symm))]
  ·rw [if_neg hk]
   by_cases h:g = k
   ·have hb:(g == k) = true:=beq_iff_eq.mpr h
    simp only [List.lookup,hb,if_neg (λ e:g = f=>hk (h.symm.trans e))]
   ·have hb:(g == k) = false:=beq_eq_false_iff_ne.mpr h
    simp only [List.lookup,hb]
    exact ih
theorem M6 (f:Str) (v:V):∀ fs:List (Str× V),f∈(B5 f v fs).map (·.1)∧∀ g,g∈fs.map (·.1)→g∈(B5 f v fs).map (·.1)
 | []=>⟨by simp [B5],λ g h=>by simp at h⟩
 | (k,x) :: r=>by
  obtain ⟨i1,i2⟩:=M6 f v r
  rw [show B5 f v ((k,x) :: r) = (if k = f then (k,v) :: r else (k,x) :: B5 f v r) from rfl]
  by_cases hk:k = f
  ·rw [if_pos hk]
   subst hk
   exact ⟨by simp,λ g h=>by simpa using h⟩
  ·rw [if_neg hk]
   refine ⟨?_,λ g h=>?_⟩
   ·rw [vP]
    exact uI _ i1
   ·rw [vP] at h ⊢
    rcases vI.mp h with e | e
    ·exact vI.mpr (.inl e)
    ·exact uI _ (i2 g e)
theorem O7 (f:Str) (v:V):∀ fs:List (Str× V),(B5 f v fs).length≤fs.length + 1
 | []=>by simp [B5]
 | (k,x) :: r=>by
  have ih:=O7 f v r
  rw [show B5 f v ((k,x) :: r) = (if k = f then (k,v) :: r else (k,x) :: B5 f v r) from rfl]
  by_cases hk:k = f
  ·rw [if_pos hk,uU,uU]; omega
  ·rw [if_neg hk,uU,uU]; omega
theorem F2.some_of {o:Option Value} (r:F2 (some v) o):∃ u,o = some u∧A8 v u:=by
 cases o with
 | none=>exact (show False from r).elim
 | some u=>exact ⟨u,rfl,r⟩
theorem F2.none_of {o:Option Value} (r:F2 none o):o = none:=by
 cases o with
 | none=>rfl
 | some u=>exact (show False from r).elim
theorem Abc (r:A8 v u):handedIn u = true:=by
 cases v with
 | non=>cases (show u = Value.none from r); rfl
 | bl b=>cases (show u = Value.bool b from r); rfl
 | int i=>obtain ⟨t,e⟩:=(show ∃ t,u = Value.int i t from r); cases e; rfl
 | str x=>obtain ⟨t,e⟩:=(show ∃ t,u = Value.str x t from r); cases e; rfl
 | byt b=>obtain ⟨t,e⟩:=(show ∃ t,u = Value.bytes b t from r); cases e; rfl
 | flt b=>obtain ⟨t,e⟩:=(show ∃ t,u = Value.float b t from r); cases e; rfl
 | ref a=>cases (show u = Value.ref a from r); rfl
 | ty n=>cases (show u = Value.type n from r); rfl
section
variable {h:Heap} {dx:Addr} {fs fs':List (Str× V)}
theorem Ow (hok:HOk P w H h) (e:H a = some (.ins C dx fs)):∃ mA,Pu h a dx C mA∧(∀ f,F2 (fs.lookup f) (mA f))∧PySem.Within mA (fs.map (·.1))∧fs.length≤1000∧H dx = some (.own a):=by
 obtain ⟨d,z,ne,ob,mA,n,r,q⟩:=(show B1 P w H h a (.ins C dx fs) from hok a _ e)
 exact ⟨mA,⟨ob,n,ne⟩,r,q,z,d⟩
end
structure Cls (K:FA) (C:Addr):Prop where
 pg:plainGet K C Str.empty = true
 hd:hasDictIn K C = true
 po:plainOver K C = true
 sa:PySem.W.findIn K (.ref C) "__setattr__" = some (some (.builtin "object.__setattr__"))
theorem Cls.get (c:Cls K C) (f:Str):plainGet K C f = true:=c.pg
def Dk (K:FA) (C:Addr) (f:Str):Prop:=PySem.W.findIn K (.ref C) f = some none
theorem Dk.taker {f:Str} (n:Dk K C f):takerIn K C f = some none:=by
 unfold takerIn
 rw [show PySem.W.findIn K (.ref C) f = some none from n]
 rfl
structure Uy (K:FA) (C:Addr) (m:Str) (f:Addr):Prop where
 at_:PySem.W.findIn K (.ref C) m = some (some (.ref f))
 fn:isFn K (.ref f) = true
 kp:keepIn K (.ref f) = true
section
variable {s:Shared} {dx:Addr} {fs:List (Str× V)} {f:Str}
theorem AaP {b:Bool} {Q:Value→Shared→Prop} (I:Inv X pins σ H s) (e:H a = some (.ins C dx fs)) (c:Cls X.K C) (n:Dk X.K C f) (l:fs.lookup f = some v)
  (h:∀ u s',Inv X pins σ H s'→A8 v u→Q u s'):wpAny (model X.prog X.w) A (getAttr (.ref a) f b) Q E s:=by
 obtain ⟨mA,O,r,_,_,_⟩:=Ow I.hok e
 obtain ⟨u,hu,ru⟩:=F2.some_of (v:=v) (o:=mA f) (by rw [← l]; exact r f)
 exact Afe I.kIn O (c.get f) c.hd n hu (Abc ru) (h u _ (I.tok _) ru)
theorem L5 {m:Str} {g:Addr} {pl:Sem Bool} {Q:Value× List Value→Shared→Prop} (I:Inv X pins σ H s) (e:H a = some (.ins C dx fs)) (c:Cls X.K C) (k:Uy X.K C m g) (l:fs.lookup m = none)
  (h:Q (.ref g,[.ref a]) s):wpAny (model X.prog X.w) A (getMethod (.ref a) m pl) Q E s:=by
 obtain ⟨mA,O,r,_,_,_⟩:=Ow I.hok e
 have hn:mA m = none:=F2.none_of (by rw [← l]; exact r m)
 exact Acw I.kIn O (c.get m) k.at_ k.fn hn h
theorem Aaf {y:V} {Q:Unit→Shared→Prop} (I:Inv X pins σ H s) (e:H a = some (.ins C dx fs)) (c:Cls X.K C) (n:Dk X.K C f) (hl:fs.length < 1000) (ry:A8 y u)
  (h:∀ s',Inv X pins σ (upd H a (.ins C dx (B5 f y fs))) s'→Q () s'):wpAny (model X.prog X.w) A (setAttr (.ref a) f u) Q E s:=by
 obtain ⟨mA,O,r,wi,_,ho⟩:=Ow I.hok e
 have hz:(fs.map (·.1)).length≤sizeLine:=by rw [uD,sizeLine_eq]; omega
 refine Aeu I.kIn O c.sa c.po n.taker c.hd wi hz λ h' O' sb=>h _ ?_
 have hd:∃ o,h'.get? dx = some o:=let ⟨o,_,_,e',_⟩:=O'.ns; ⟨o,e'⟩
 refine I.write (x:=a) (e:=dx) (by rw [e]; exact True.intro) (.inr ho) (λ b q hb z=>(sb.2 b hb).trans z) hd ?_
 refine ⟨by rw [upd_ne O.ne]; exact ho,?_,O.ne,O'.obj,_,O'.ns,λ g=>?_,λ g hg=>?_⟩
 ·have:=O7 f y fs; omega
 ·show F2 ((B5 f y fs).lookup g) (if g = f then some u else mA g)
  rw [B8]
  by_cases q:g = f
  ·rw [if_pos q,if_pos q]; exact ry
  ·rw [if_neg q,if_neg q]; exact r g
 ·by_cases q:g = f
  ·rw [q]; exact (M6 f y fs).1
  ·refine (M6 f y fs).2 g (wi g λ z=>hg ?_)
   show (if g = f then some u else mA g) = none
   rw [if_neg q]; exact z
theorem Inv.made (I:Inv X pins σ H s):Inv X pins σ (upd (upd H s.heap.objs.size (.own (s.heap.objs.size + 1))) (s.heap.objs.size + 1) (.ins C s.heap.objs.size []))
  { s with heap:=(s.heap.push emptyDict).push (instObj C s.heap.objs.size) }:=by
 have e1:(s.heap.push emptyDict).get? s.heap.objs.size = some emptyDict:=Heap.get?_push_size s.heap rfl
 have e2:((s.heap.push emptyDict).push (instObj C s.heap.objs.size)).get? (s.heap.objs.size + 1) = some (instObj C s.heap.objs.size):=by
  have:=Heap.get?_push_size (s.heap.push emptyDict) (o:=instObj C s.heap.objs.size) rfl
  rwa [Heap.size_push] at this
 have e3:(s.heap.push emptyDict).Ns s.heap.objs.size (λ _=>none):=⟨emptyDict,#[],_,e1,rfl,(λ e he=>absurd he (by simp)),λ _=>rfl⟩
 have I1:=I.laid (a:=s.heap.objs.size) (o:=.own (s.heap.objs.size + 1)) (h':=s.heap.push emptyDict) (t':=s.toks) (λ b u q=>Heap.get?_push_of_some _ q) (uY _) ⟨_,e1⟩
 refine I1.laid (a:=s.heap.objs.size + 1) (o:=.ins C s.heap.objs.size []) (t':=s.toks) (λ b u q=>Heap.get?_push_of_some _ q) (le_of_eq (Heap.size_push _ _)) ?_
 have ne:s.heap.objs.size≠s.heap.objs.size + 1:=vB (lt_succ_self _)
 refine ⟨by rw [upd_ne ne,Ae],vV _,ne,e2,λ _=>none,(Heap.Ns1.of_empty e3).at λ o q=>Heap.get?_push_of_some _ q,λ _=>True.intro,λ y hy=>absurd rfl hy⟩
theorem Aen {env:Env} {f:Str} {s:Shared} {Q:Value→Shared→Prop} (hb:attributeBase e f env (eval e env) = eval e env)
  (h:wpAny (model prog w) A (eval e env) (λ o a1=>wpAny (model prog w) A (getAttr o f true) Q E a1) E s):wpAny (model prog w) A (eval (.Attribute e f pos) env) Q E s :=
 Attribute_any_ h (by rw [arm_eval_Attribute,hb])
end
inductive Ab3 (K:FA) (f:Str) (x:V) (H1:Hp) (Q:VK):Prop
 | mk (a C dx:Addr) (fs:List (Str× V)) (v:V) (_:x = .ref a) (_:H1 a = some (.ins C dx fs)) (_:Cls K C) (_:Dk K C f) (_:fs.lookup f = some v) (_:Q v H1):Ab3 K f x H1 Q
def Ain (K:FA) (ta:TE) (f:Str):TE:=λ σ H Q=>ta σ H λ x H1=>Ab3 K f x H1 Q
inductive AcC (K:FA) (f:Str) (y x:V) (H2:Hp) (R:Hp→Prop):Prop
 | mk (a C dx:Addr) (fs:List (Str× V)) (_:x = .ref a) (_:H2 a = some (.ins C dx fs)) (_:Cls K C) (_:Dk K C f) (_:fs.length < 1000) (_:R (upd H2 a (.ins C dx (B5 f y fs)))):AcC K f y x H2 R
def Aic (K:FA) (ta tv:TE) (f:Str):TS:=λ D σ H=>tv σ H λ y H1=>ta σ H1 λ x H2=>AcC K f y x H2 (D.nx σ)
section
variable {o value:Expr} {f:Str} {pos' tpos:Pos} {tv:TE}
theorem B7 (he:PE X e ta) (hb:attributeBase e f X.env (eval e X.env) = eval e X.env):PE X (.Attribute e f pos) (Ain X.K ta f):=by
 intro pins s σ H Q I h
 refine Aen hb (thn (he pins s σ H _ I h) λ u s1 ⟨x,H1,I1,rx,a,C,dx,fs,v,ex,ea,c,n,l,q⟩=>?_)
 subst ex
 obtain rfl:u = Value.ref a:=rx
 exact AaP I1 ea c n l λ u' s2 I2 ru=>⟨v,H1,I2,ru,q⟩
theorem Db (ha:PE X o ta) (hv:PE X value tv) (hs:swapsWith value (some (.Attribute o f pos')) pos.line X.env = pure false):PS X (.Assign [.Attribute o f pos'] value pos) (Aic X.K ta tv f):=by
 intro pins s σ H D I h
 refine plainObj_wpAny_Assign_Attribute (thn (hv pins s σ H _ I h) λ u s1 ⟨y,H1,I1,ry,q⟩=>thn (ha pins s1 σ H1 _ I1 q) λ ov s2 ⟨x,H2,I2,rx,a,C,dx,fs,ex,ea,c,n,l,q2⟩=>?_) hs
 subst ex
 obtain rfl:ov = Value.ref a:=rx
 exact Aaf I2 ea c n l ry λ s3 I3=>⟨σ,_,I3,q2⟩
end
section
variable {s:Shared} {Q:Value→Shared→Prop} {c:Value} {b:Bool}
inductive Gg (K:FA) (H:Hp):V→Value→Prop where
 | non:Gg K H .non (.type "NoneType")
 | bl (x:Bool):Gg K H (.bl x) (.type "bool")
 | int (i:Int):Gg K H (.int i) (.type "int")
 | str (x:Str):Gg K H (.str x) (.type "str")
 | flt (x:UInt64):Gg K H (.flt x) (.type "float")
 | lst {a:Addr} {xs:List V} (e:H a = some (.lst xs)):Gg K H (.ref a) (.type "list")
 | frz {a:Addr} {o:Obj} {xs:List V} (e:H a = some (.frz o (.lst xs))):Gg K H (.ref a) (.type "list")
 | tup {a:Addr} {xs:List V} (e:H a = some (.tup xs)):Gg K H (.ref a) (.type "tuple")
 | dK {a:Addr} {kvs:List (Key× V)} (e:H a = some (.dK kvs)):Gg K H (.ref a) (.type "dict")
 | dT {a:Addr} {kvs:List (List Key× V)} (e:H a = some (.dT kvs)):Gg K H (.ref a) (.type "dict")
 | ins {a C dx:Addr} {fs:List (Str× V)} (e:H a = some (.ins C dx fs)) (cl:Cls K C) (ha:PySem.W.findIn K (.ref C) "__class__" = some (some (.builtin "object.__class__")))
   (hn:PySem.W.specialIn K (.builtin "object.__class__") "__get__" = some (some (.builtin "getset_descriptor.__get__"))) (htk:PySem.W.takesIn K (.builtin "object.__class__") = some true)
   (hm:PySem.W.mroIn K C (.type "object") = some true):Gg K H (.ref a) (.ref C)
theorem Tk {x:V} {t:Value} (I:Inv X pins σ H s) (rx:A8 x u) (ty:Gg X.K H x t) (e:PySem.W.kitOne X.K t c = some b) (h:∀ tk,Q (.bool b) { s with toks:=tk }) :
  wpAny (model X.prog X.w) A (call (.builtin "isinstance") [u,c]) Q E s:=by
 cases ty with
 | non=>cases (show u = Value.none from rx); exact PySem.W.kia_one PySem.W.kitx_none I.kIn True.intro e (λ z=>nomatch z) h
 | bl y=>cases (show u = Value.bool y from rx); exact PySem.W.kia_one PySem.W.kitx_bool I.kIn True.intro e (λ z=>nomatch z) h
 | int i=>obtain ⟨t,q⟩:=(show ∃ t,u = Value.int i t from rx); cases q; exact PySem.W.kia_one PySem.W.kitx_int I.kIn True.intro e (λ z=>nomatch z) h
 | str y=>obtain ⟨t,q⟩:=(show ∃ t,u = Value.str y t from rx); cases q; exact PySem.W.kia_one PySem.W.kitx_str I.kIn True.intro e (λ z=>nomatch z) h
 | flt y=>obtain ⟨t,q⟩:=(show ∃ t,u = Value.float y t from rx); cases q; exact PySem.W.kia_one PySem.W.kitx_float I.kIn True.intro e (λ z=>nomatch z) h
 | @lst a xs ea =>
  cases (show u = Value.ref a from rx)
  obtain ⟨_,_,n,_,h1⟩:=(show B1 X.prog X.w H s.heap a (.lst xs) from I.hok a _ ea)
  exact PySem.W.kia_one kitx_list I.kIn ⟨_,h1,rfl⟩ e (λ z=>nomatch z) h
 | @frz a ob xs ea =>
  cases (show u = Value.ref a from rx)
  obtain ⟨_,_,_,n,_,h1⟩:=(show B1 X.prog X.w H s.heap a (.frz ob (.lst xs)) from I.hok a _ ea)
  exact PySem.W.kia_one kitx_list I.kIn ⟨_,h1,rfl⟩ e (λ z=>nomatch z) h
 | @tup a xs ea =>
  cases (show u = Value.ref a from rx)
  obtain ⟨_,_,_,p⟩:=(show B1 X.prog X.w H s.heap a (.tup xs) from I.hok a _ ea)
  obtain ⟨o,h1,h2,_⟩:=p
  exact PySem.W.kia_one kitx_tuple I.kIn ⟨o,h1,h2⟩ e (λ z=>nomatch z) h
 | @dK a kvs ea =>
  cases (show u = Value.ref a from rx)
  obtain ⟨_,_,vs,_,p⟩:=(show B1 X.prog X.w H s.heap a (.dK kvs) from I.hok a _ ea)
  obtain ⟨o,es,ep,h1,h2,_⟩:=p
  exact PySem.W.kia_one kitx_dict I.kIn ⟨o,h1,h2.1⟩ e (λ z=>nomatch z) h
 | @dT a kvs ea =>
  cases (show u = Value.ref a from rx)
  obtain ⟨_,_,xs,_,o,es,ep,h1,h2,_⟩:=(show B1 X.prog X.w H s.heap a (.dT kvs) from I.hok a _ ea)
  exact PySem.W.kia_one kitx_dict I.kIn ⟨o,h1,h2.1⟩ e (λ z=>nomatch z) h
 | @ins a C dx fs ea cl ha hn htk hm =>
  cases (show u = Value.ref a from rx)
  obtain ⟨mA,O,_⟩:=Ow I.hok ea
  obtain ⟨od,J,_⟩:=O.look
  exact PySem.W.kia_one (PySem.W.kitx_own (cl.get _) cl.hd ha hn htk hm) I.kIn J e (λ z=>nomatch z) h
end
structure Bp (k:Nat) (A:Around):Prop where
 hd:A.handled = none
 dp:A.depth + 3 * k + 5 < recursionLimit
 un:A.units + 16 * k + 200 < cLine
theorem Bp.mono {j k:Nat} (r:Bp k A) (h:j≤k):Bp j A:=⟨r.hd,by have:=r.dp; omega,by have:=r.un; omega⟩
theorem Bp.deeper {k:Nat} (r:Bp (k + 1) A) (env:Env):Bp k (A.deeper env) :=
 ⟨r.hd,by have:=r.dp; show A.depth + 1 + 3 * k + 5 < _; omega,by have:=r.un; show A.units + 3 + 16 * k + 200 < _; omega⟩
theorem Aa3 {kw:List (Str× Value)}:(A.under (.builtin "type.__call__" ⟨.ref C :: us,kw⟩)).depth = A.depth + 1:=by
 first | rfl | simp [Around.under,Code.weight,Code.isCreation,Code.isGuard,Code.isCaller,Code.frames,Code.isFrame,guardIds]
theorem AbG {kw:List (Str× Value)}:(A.under (.builtin "type.__call__" ⟨.ref C :: us,kw⟩)).units = A.units + 1:=by
 first | rfl | simp [Around.under,Code.cUnits,Code.frames,Code.isFrame]
theorem Bp.make {k:Nat} (r:Bp (k + 1) A) (C:Addr) (us:List Value) (kw:List (Str× Value)):Bp k (A.under (.builtin "type.__call__" ⟨.ref C :: us,kw⟩)) :=
 ⟨r.hd,by have:=r.dp; rw [Aa3]; omega,by have:=r.un; rw [AbG]; omega⟩
theorem Bp.depth {k:Nat} (r:Bp k A):A.depth < recursionLimit:=by have:=r.dp; omega
theorem Bp.units {k:Nat} (r:Bp k A):A.units + 64 < cLine:=by have:=r.un; omega
theorem Bp.units0 {k:Nat} (r:Bp k A):A.units < cLine:=by have:=r.un; omega
def Dq:TA:=λ _ H Q=>Q [] H
def B3 (ta:TE) (tr:TA):TA:=λ σ H Q=>ta σ H λ x H1=>tr σ H1 λ xs H2=>Q (x :: xs) H2
section
variable {t:TA}
theorem Ab:PA X [] Dq:=λ _ _ _ _ H Q I h=>Calls.spliced_nil ⟨[],H,I,.nil,h⟩
theorem Aa (ha:PE X e te) (hr:PA X es t) (hs:starEach (e :: es) X.env = (false,eval e X.env) :: starEach es X.env:=by rfl):PA X (e :: es) (B3 te t):=by
 intro pos pins s σ H Q I h
 rw [hs]
 show wpAny _ _ (spliced ((false,eval e X.env) :: backTo pos (starEach es X.env))) _ _ s
 refine Calls.spliced_cons (thn (ha pins s σ H _ I h) λ u s1 ⟨x,H1,I1,r1,q1⟩=>?_)
 exact thn (hr pos pins s1 σ H1 _ I1 q1) λ us s2 ⟨xs,H2,I2,r2,q2⟩=>⟨x :: xs,H2,I2,.cons r1 r2,q2⟩
def Wa (t:TA):TE:=λ σ H Q=>t σ H λ xs H1=>xs.length≤sizeLine∧∀ p,H1 p = none→Q (.ref p) (upd H1 p (.tup xs))
def Adt (t:TA):TE:=λ σ H Q=>t σ H λ xs H1=>xs.length≤sizeLine∧∀ p,H1 p = none→Q (.ref p) (upd H1 p (.lst xs))
theorem Bg {x1} (h:PA X es t):PE X (.Tuple es x1 pos) (Wa t):=by
 intro pins s σ H Q I hq
 refine wpAny_Tuple_spliced (thn (h pos pins s σ H _ I hq) λ us s1 ⟨xs,H1,I1,r,z,q⟩=>⟨by rw [← r.length]; exact z,?_⟩)
 have hf:H1 s1.heap.objs.size = none:=I1.hok.fresh (uY _)
 refine ⟨.ref s1.heap.objs.size,upd H1 s1.heap.objs.size (.tup xs),I1.laid (t':=s1.toks) (λ b u e=>Heap.get?_push_of_some _ e) (uY _) ?_,rfl,q _ hf⟩
 exact ⟨z,us,r,⟨_,Heap.get?_push_size _ rfl,rfl,_,rfl⟩⟩
theorem Ba (h:PA X es t):PE X (.List es pos) (Adt t):=by
 intro pins s σ H Q I hq
 refine wpAny_List_spliced (thn (h pos pins s σ H _ I hq) λ us s1 ⟨xs,H1,I1,r,z,q⟩=>⟨by rw [← r.length]; exact z,?_⟩)
 have hf:H1 s1.heap.objs.size = none:=I1.hok.fresh (uY _)
 refine ⟨.ref s1.heap.objs.size,upd H1 s1.heap.objs.size (.lst xs),I1.laid (t':=s1.toks) (λ b u e=>Heap.get?_push_of_some _ e) (uY _) ?_,rfl,q _ hf⟩
 exact ⟨z,us,0,r,Heap.get?_push_size _ rfl⟩
end
abbrev Sp:=List V→Hp→VK→XK→Prop
abbrev CXT:=List Env→Hp→Shared→XK→Value→Shared→Prop
structure Kx (P:Program) (w:World) (K:FA) (mg:Str→Option Value) (base:Heap) (A:Around) (outer:List Env) (s:Shared) (H:Hp):Prop where
 frames:A.frames = some outer
 mod:Mod K mg base
 bs:∀ b o,base.get? b = some o→s.heap.get? b = some o∧H b = none
 bsz:base.objs.size≤s.heap.objs.size
 funs:s.heap.FunFrames base outer
 frf:∀ b∈frs outer,H b = none
 hok:HOk P w H s.heap
 bare:AllBare s.gens
def CE (outer:List Env) (P:Program) (w:World) (H:Hp) (s:Shared) (Q:VK) (u:Value) (s':Shared):Prop :=
 ∃ v H',s'.os = s.os∧AllBare s'.gens∧Un (frs outer) [] H H' s.heap s'.heap∧HOk P w H' s'.heap∧A8 v u∧Q v H'
def CR (CX:CXT) (outer:List Env) (P:Program) (w:World) (H:Hp) (s:Shared) (Q:VK) (E:XK) (r:Result) (s':Shared):Prop :=
 match r with
 | .ok (.ret u)=>CE outer P w H s Q u s'
 | .ok _=>False
 | .error e=>CX outer H s E e s'
structure Bi (P:Program) (w:World) (K:FA) (mg:Str→Option Value) (base:Heap) (CX:CXT) (k:Nat) (f:Addr) (fd:FuncData) (ps:List Str) (sp:Sp):Prop where
 len:∀ vs H Q E,sp vs H Q E→vs.length = ps.length
 run:∀ (A:Around) (outer:List Env) (s:Shared) (H:Hp) (args:Args) (us:List Value) (vs:List V) (Q:VK) (E:XK),Bp k A→Kx P w K mg base A outer s H→BindsTo s fd args (ps.zip us)→A5 vs us→sp vs H Q E →
  codeAny (model P w) A (.call (.ref f) args) (CR CX outer P w H s Q E) s
theorem Bi.mono {CX:CXT} {j k:Nat} {sp:Sp} (F:Bi P w K mg base CX j f fd ps sp) (h:j≤k) :
  Bi P w K mg base CX k f fd ps sp:=⟨F.len,λ A outer s H args us vs Q E hr=>F.run A outer s H args us vs Q E (hr.mono h)⟩
theorem Bi.imp {CX:CXT} {k:Nat} {sp a1:Sp} (F:Bi P w K mg base CX k f fd ps sp)
  (h:∀ vs H Q E,a1 vs H Q E→sp vs H Q E):Bi P w K mg base CX k f fd ps a1 :=
 ⟨λ vs H Q E q=>F.len vs H Q E (h _ _ _ _ q),λ A outer s H args us vs Q E hr he hb hv hs=>F.run A outer s H args us vs Q E hr he hb hv (h _ _ _ _ hs)⟩
theorem Kx.make {outer:List Env} {s:Shared} (e:Kx P w K mg base A outer s H) (C:Addr) (us:List Value) (kw:List (Str× Value)) :
  Kx P w K mg base (A.under (.builtin "type.__call__" ⟨.ref C :: us,kw⟩)) outer s H:=⟨by first | exact e.frames | (simpa [Around.under,Code.envs,Code.isFrame,pushEnvs] using e.frames),e.mod,e.bs,e.bsz,e.funs,e.frf,e.hok,e.bare⟩
section
variable {s s':Shared}
theorem Inv.env0 (I:Inv X pins σ H s):Kx X.prog X.w X.K X.mg X.base X.A X.stack s H :=
 ⟨I.ok.frames,I.ok.mod,I.bs,uX I.ok.bsz I.sz,I.stack,I.stkFree,I.hok,I.bare⟩
theorem Inv.after (I:Inv X pins σ H s) (h:CE X.stack X.prog X.w H s Q u s'):EP X pins σ Q u s':=by
 obtain ⟨v,H',os,bare,un,hok,r,q⟩:=h
 obtain ⟨hh,g,d,t,a1⟩:=s'
 obtain rfl:a1 = s.os:=os
 exact ⟨v,H',I.call (h':=hh) (g':=g) (d':=d) (t':=t) (ch:=[]) un hok bare (λ b z=>absurd z (by simp)),r,q⟩
end
def G3 (sp:Sp) (dvs:List V) (E:XK) (t:TA):TE:=λ σ H Q=>t σ H λ vs H1=>sp (vs ++ dvs) H1 Q E
inductive Zx (C:Addr) (m:Str) (x:V) (H1:Hp) (R:Prop):Prop
 | mk (a dx:Addr) (fs:List (Str× V)) (_:x = .ref a) (_:H1 a = some (.ins C dx fs)) (_:fs.lookup m = none) (_:R):Zx C m x H1 R
def Mb (C:Addr) (m:Str) (sp:Sp) (dvs:List V) (E:XK) (ta:TE) (t:TA):TE:=λ σ H Q=>ta σ H λ x H1=>Zx C m x H1 (t σ H1 λ vs H2=>sp (x :: (vs ++ dvs)) H2 Q E)
def Aea (C:Addr) (sp:Sp) (dvs:List V) (E:XK) (t:TA):TE:=λ σ H Q=>t σ H λ vs H1=>∀ x dx,H1 x = none→H1 dx = none→dx≠x →
 sp (.ref x :: (vs ++ dvs)) (upd (upd H1 dx (.own x)) x (.ins C dx [])) (λ v H2=>v = .non∧Q (.ref x) H2) E
def Br (K:FA) (fd:FuncData) (ps:List Str) (ds:List Value):Prop :=
 ∀ (s:Shared) (us:List Value),K.In s.heap→(us ++ ds).length = ps.length→BindsTo s fd ⟨us,[]⟩ (ps.zip (us ++ ds))
theorem Br.all (h:∀ us:List Value,us.length = ps.length→bindArgs fd ⟨us,[]⟩ = pure (ps.zip us)):Br K fd ps []:=λ s us _ hl=>by
 rw [vG] at hl ⊢
 exact .of_eq (h us hl)
def Dr (CX:CXT) (X:Cx) (E:XK):Prop:=∀ (pins:List (Addr× Obj)) (σ:St) (H:Hp) (s:Shared) (e:Value) (s':Shared),Inv X pins σ H s→CX X.stack H s E e s'→X.xe e s'
section
variable {CX:CXT} {k:Nat} {sp:Sp} {dvs:List V} {ds:List Value} {E:XK} {m:Str} {p:Pos} {o:Expr} {t:TA}
theorem Nu {s:Shared} {vs:List V} (F:Bi X.prog X.w X.K X.mg X.base CX k f fd ps sp) (hr:Bp k X.A) (hb:Br X.K fd ps ds) (hd:A5 dvs ds) (hx:Dr CX X E)
  (I:Inv X pins σ H s) (r:A5 vs us) (h:sp (vs ++ dvs) H Q E):wpAny (model X.prog X.w) X.A (call (.ref f) us) (EP X pins σ Q) X.xe s:=by
 have r2:A5 (vs ++ dvs) (us ++ ds):=r.append hd
 have hl:(us ++ ds).length = ps.length:=by rw [← r2.length]; exact F.len _ _ _ _ h
 refine wpAny_call (codeAny_mono (F.run X.A X.stack s H ⟨us,[]⟩ (us ++ ds) (vs ++ dvs) Q E hr I.env0 (hb s us I.kIn hl) r2 h) λ r s' hq=>?_)
 cases r with
 | error e=>exact hx pins σ H s e s' I hq
 | ok fl =>
  cases fl with
  | ret u=>exact I.after hq
  | next=>exact False.elim hq
  | brk=>exact False.elim hq
  | cont=>exact False.elim hq
theorem Yn (F:Bi X.prog X.w X.K X.mg X.base CX k f fd ps sp) (hr:Bp k X.A) (hg:Gl X x) (hm:X.mg x = some (.ref f)) (hk:keepIn X.K (.ref f) = true) (hb:Br X.K fd ps ds) (hd:A5 dvs ds) (hx:Dr CX X E)
  (ha:PA X (e :: es) t) (a1:(x == ("__debug__" : Str)) = false:=by decide) (he:starEach (e :: es) X.env = (false,eval e X.env) :: starEach es X.env:=by rfl) (a2:(backTo pos (starEach es X.env)).any (·.1) = false:=by rfl) :
  PE X (.Call (.Name x p) (e :: es) [] pos) (G3 sp dvs E t):=by
 intro pins s σ H Q I h
 refine wpAny_Call_Name_kw (E7 I hg hm ?_ a1)
 refine callWith_K (h₀:=X.base) I.ok.mod.kin hk (thn (ha pos pins s σ H _ I h) λ us s1 ⟨vs,H1,I1,r,q⟩=>⟨I1.kIn,?_⟩) he a2
 exact Nu F hr hb hd hx I1 r q
theorem AdN (F:Bi X.prog X.w X.K X.mg X.base CX k f fd ps sp) (hr:Bp k X.A) (hg:Gl X x) (hm:X.mg x = some (.ref f)) (hk:keepIn X.K (.ref f) = true) (hb:Br X.K fd ps ds) (hd:A5 dvs ds) (hx:Dr CX X E)
  (a1:(x == ("__debug__" : Str)) = false:=by decide):PE X (.Call (.Name x p) [] [] pos) (G3 sp dvs E Dq):=by
 intro pins s σ H Q I h
 refine wpAny_Call_Name_kw (E7 I hg hm ?_ a1)
 exact callWith_K0 I.kIn hk (Nu (us:=[]) F hr hb hd hx I .nil h)
theorem D5 {pl:Sem Bool} (he:PE X o ta) (c:Cls X.K C) (hm:Uy X.K C m f) (F:Bi X.prog X.w X.K X.mg X.base CX k f fd ps sp) (hr:Bp k X.A) (hb:Br X.K fd ps ds) (hd:A5 dvs ds) (hx:Dr CX X E) (ha:PA X (e :: es) t)
  (a2:starEach (e :: es) X.env = (false,eval e X.env) :: starEach es X.env:=by rfl) (a1:(backTo pos (starEach es X.env)).any (·.1) = false:=by rfl)
  (ht:eval (.Call (.Attribute o m apos) (e :: es) [] pos) X.env = (do
   let ov ← eval o X.env
   standAt apos.atName
   let (f,first) ← holding [ov] (getMethod ov m pl)
   callWith pos f first (backTo pos (starEach (e :: es) X.env)) (backToKw pos (keywordEach [] X.env))):=by rfl) :
  PE X (.Call (.Attribute o m apos) (e :: es) [] pos) (Mb C m sp dvs E ta t):=by
 intro pins s σ H Q I h
 refine methodCall_KW (pl:=pl) (thn (he pins s σ H _ I h) λ u s1 ⟨x,H1,I1,rx,a,dx,fs,ex,ea,l,q⟩=>?_) ht
 subst ex
 obtain rfl:u = Value.ref a:=rx
 refine L5 I1 ea c hm l ?_
 refine callWith_K (first:=[.ref a]) (h₀:=X.base) I.ok.mod.kin hm.kp (thn (ha pos pins s1 σ H1 _ I1 q) λ us s2 ⟨vs,H2,I2,r,q2⟩=>⟨I2.kIn,?_⟩) a2 a1
 exact Nu (us:=.ref a :: us) (vs:=.ref a :: vs) F hr hb hd hx I2 (.cons rfl r) q2
theorem V8 {pl:Sem Bool} (he:PE X o ta) (c:Cls X.K C) (hm:Uy X.K C m f) (F:Bi X.prog X.w X.K X.mg X.base CX k f fd ps sp) (hr:Bp k X.A) (hb:Br X.K fd ps ds) (hd:A5 dvs ds) (hx:Dr CX X E)
  (ht:eval (.Call (.Attribute o m apos) [] [] pos) X.env = (do
   let ov ← eval o X.env
   standAt apos.atName
   let (f,first) ← holding [ov] (getMethod ov m pl)
   callWith pos f first (backTo pos (starEach [] X.env)) (backToKw pos (keywordEach [] X.env))):=by rfl) :
  PE X (.Call (.Attribute o m apos) [] [] pos) (Mb C m sp dvs E ta Dq):=by
 intro pins s σ H Q I h
 refine methodCall_KW (pl:=pl) (thn (he pins s σ H _ I h) λ u s1 ⟨x,H1,I1,rx,a,dx,fs,ex,ea,l,q⟩=>?_) ht
 subst ex
 obtain rfl:u = Value.ref a:=rx
 refine L5 I1 ea c hm l ?_
 exact callWith_K0 (first:=[.ref a]) I1.kIn hm.kp (Nu (us:=[.ref a]) (vs:=[.ref a]) F hr hb hd hx I1 (.cons rfl .nil) q)
structure Mk (K:FA) (C f:Addr):Prop where
 makes:makesIn K C = true
 init:PySem.W.findIn K (.ref C) "__init__" = some (some (.ref f))
 fn:isFn K (.ref f) = true
 kp:keepIn K (.ref C) = true
theorem Xg {s:Shared} {vs:List V} (M:Mk X.K C f) (F:Bi X.prog X.w X.K X.mg X.base CX k f fd ps sp) (hr:Bp (k + 1) X.A) (hb:Br X.K fd ps ds) (hd:A5 dvs ds)
  (hx:Dr CX X E) (I:Inv X pins σ H s) (r:A5 vs us)
  (h:∀ x dx,H x = none→H dx = none→dx≠x→sp (.ref x :: (vs ++ dvs)) (upd (upd H dx (.own x)) x (.ins C dx [])) (λ v H2=>v = .non∧Q (.ref x) H2) E) :
  wpAny (model X.prog X.w) X.A (call (.ref C) us) (EP X pins σ Q) X.xe s:=by
 have hq:=h (s.heap.objs.size + 1) s.heap.objs.size (I.hok.fresh (le_succ _)) (I.hok.fresh (uY _)) (vB (lt_succ_self _))
 have I2:=Inv.made (C:=C) I
 have r2:A5 (V.ref (s.heap.objs.size + 1) :: (vs ++ dvs)) (Value.ref (s.heap.objs.size + 1) :: (us ++ ds)):=.cons rfl (r.append hd)
 have hl:(Value.ref (s.heap.objs.size + 1) :: us ++ ds).length = ps.length:=by
  have e:=r2.length
  rw [F.len _ _ _ _ hq] at e
  exact e.symm
 refine wpAny_call (Acz (f:=f) I.kIn M.makes M.init (beq_iff_eq.mp M.fn) (codeAny_mono (F.run _ X.stack _ _ ⟨Value.ref (s.heap.objs.size + 1) :: us,[]⟩ (Value.ref (s.heap.objs.size + 1) :: (us ++ ds)) _ _ E (hr.make C us [])
  (I2.env0.make C us []) (hb _ (Value.ref (s.heap.objs.size + 1) :: us) I2.kIn hl) r2 hq) λ r s' a1=>?_))
 cases r with
 | error e=>exact hx pins σ _ _ e s' I2 a1
 | ok fl =>
  cases fl with
  | ret u =>
   obtain ⟨v,H',I3,rv,ev,q3⟩:=I2.after a1
   subst ev
   exact ⟨rv,⟨V.ref (s.heap.objs.size + 1),H',I3,rfl,q3⟩⟩
  | next=>exact False.elim a1
  | brk=>exact False.elim a1
  | cont=>exact False.elim a1
theorem Rz (M:Mk X.K C f) (F:Bi X.prog X.w X.K X.mg X.base CX k f fd ps sp) (hr:Bp (k + 1) X.A) (hg:Gl X x) (hm:X.mg x = some (.ref C)) (hb:Br X.K fd ps ds) (hd:A5 dvs ds) (hx:Dr CX X E)
  (ha:PA X (e :: es) t) (a1:(x == ("__debug__" : Str)) = false:=by decide) (he:starEach (e :: es) X.env = (false,eval e X.env) :: starEach es X.env:=by rfl) (a2:(backTo pos (starEach es X.env)).any (·.1) = false:=by rfl) :
  PE X (.Call (.Name x p) (e :: es) [] pos) (Aea C sp dvs E t):=by
 intro pins s σ H Q I h
 refine wpAny_Call_Name_kw (E7 I hg hm ?_ a1)
 refine callWith_K (h₀:=X.base) I.ok.mod.kin M.kp (thn (ha pos pins s σ H _ I h) λ us s1 ⟨vs,H1,I1,r,q⟩=>⟨I1.kIn,?_⟩) he a2
 exact Xg M F hr hb hd hx I1 r q
theorem Pp (M:Mk X.K C f) (F:Bi X.prog X.w X.K X.mg X.base CX k f fd ps sp) (hr:Bp (k + 1) X.A) (hg:Gl X x) (hm:X.mg x = some (.ref C)) (hb:Br X.K fd ps ds) (hd:A5 dvs ds) (hx:Dr CX X E)
  (a1:(x == ("__debug__" : Str)) = false:=by decide):PE X (.Call (.Name x p) [] [] pos) (Aea C sp dvs E Dq):=by
 intro pins s σ H Q I h
 refine wpAny_Call_Name_kw (E7 I hg hm ?_ a1)
 exact callWith_K0 I.kIn M.kp (Xg (us:=[]) M F hr hb hd hx I .nil h)
end
def PK (X:Cx) (kws:List Keyword) (t:TA):Prop :=
 ∀ (pos:Pos) (pins:List (Addr× Obj)) (s:Shared) (σ:St) (H:Hp) (Q:List V→Hp→Prop),Inv X pins σ H s→t σ H Q→wpAny (model X.prog X.w) X.A (evalAll ((backToKw pos (keywordEach kws X.env)).map (·.2))) (AP X pins σ Q) X.xe s
section
variable {CX:CXT} {k:Nat} {ks:List Str} {sp:Sp} {E:XK} {m:Str} {p kpos:Pos} {o:Expr} {kws:List Keyword} {t tk:TA} {nm:Option Str}
theorem AgF:PK X [] Dq:=λ _ _ _ _ H Q I h=>wpAny_evalAll_nil ⟨[],H,I,.nil,h⟩
theorem AfY (ha:PE X e te) (hr:PK X kws t):PK X (⟨nm,e,kpos⟩ :: kws) (B3 te t):=by
 intro pos pins s σ H Q I h
 show wpAny _ _ (evalAll ((do let v ← eval e X.env; standAt pos; pure v) :: (backToKw pos (keywordEach kws X.env)).map (·.2))) _ _ s
 refine wpAny_evalAll_cons (uA (thn (ha pins s σ H _ I h) λ u s1 ⟨x,H1,I1,r1,q1⟩=>uA (wpAny_standAt (uB ?_))))
 exact thn (hr pos pins s1 σ H1 _ I1 q1) λ us s2 ⟨xs,H2,I2,r2,q2⟩=>⟨x :: xs,H2,I2,.cons r1 r2,q2⟩
variable {g:List Value→List Value→List Value} {gV:List V→List V→List V}
end
structure Ar (N P:List Str) (sc:Scope):Prop where
 kind:sc.kind = .function
 co:sc.isCoroutine = false
 gen:sc.isGenerator = false
 nd:N.Nodup
 pre:N.take P.length = P
 par:∀ x∈P,sc.names.lookup x = some .local∨sc.names.lookup x = some .cell
 nofree:∀ y∈sc.names,y.2≠.free
def fsB (N P:List Str) (sc:Scope):Bool:=decide (sc.kind = .function) && !sc.isCoroutine && !sc.isGenerator && decide N.Nodup && decide (N.take P.length = P) && P.all (λ x=>decide (sc.names.lookup x = some .local) || decide (sc.names.lookup x = some .cell)) && sc.names.all (λ y=>decide (y.2≠.free))
theorem Az {N P:List Str} {sc:Scope} (h:fsB N P sc = true):Ar N P sc:=by
 unfold fsB at h
 simp only [Bool.and_eq_true,Bool.or_eq_true,decide_eq_true_eq,Bool.not_eq_true',all_eq_true] at h
 obtain ⟨⟨⟨⟨⟨⟨a,b⟩,c⟩,d⟩,e⟩,f⟩,g⟩:=h
 exact ⟨a,b,c,d,e,f,g⟩
theorem T7 {a1:Str→Option NameKind} :∀ {binds:List (Str× Value)} {m:Str→Option Value},(∀ v,(x,v)∉binds)→bindL a1 binds m x = m x
 | [],_,_=>rfl
 | (n,v) :: r,m,h=>by
  unfold bindL
  rw [T7 λ w hw=>h w (uI _ hw)]
  split
  ·have:x≠n:=by rintro rfl; exact h v uH
   simp [this]
  ·rfl
theorem Sq {a1:Str→Option NameKind} :∀ {binds:List (Str× Value)} {m:Str→Option Value},(∀ v,(x,v)∉binds)→bindC a1 binds m x = m x
 | [],_,_=>rfl
 | (n,v) :: r,m,h=>by
  unfold bindC
  rw [Sq λ w hw=>h w (uI _ hw)]
  split
  ·rfl
  ·have:x≠n:=by rintro rfl; exact h v uH
   simp [this]
theorem Sv {a1:Str→Option NameKind} {v:Value}:∀ {P:List Str} {vs:List Value} {i:Nat} {m:Str→Option Value},P.Nodup→P[i]? = some x→vs[i]? = some v→a1 x = some .local →
  bindL a1 (P.zip vs) m x = some v
 | [],_,_,_,_,h,_,_=>by simp at h
 | _ :: _,[],_,_,_,_,h,_=>by simp at h
 | p :: P,w :: vs,0,m,nd,h1,h2,hk=>by
  simp at h1 h2; subst h1; subst h2
  show bindL a1 ((p,w) :: P.zip vs) m p = _
  unfold bindL
  rw [T7 λ v hv=>(vN.mp nd).1 (of_mem_zip hv).1,if_pos hk]
  simp
 | p :: P,w :: vs,i + 1,m,nd,h1,h2,hk=>by
  show bindL a1 ((p,w) :: P.zip vs) m x = _
  unfold bindL
  exact Sv (i:=i) (vN.mp nd).2 (by simpa using h1) (by simpa using h2) hk
theorem Tc {a1:Str→Option NameKind} {v:Value}:∀ {P:List Str} {vs:List Value} {i:Nat} {m:Str→Option Value},P.Nodup→P[i]? = some x→vs[i]? = some v→a1 x≠some .local →
  bindC a1 (P.zip vs) m x = some v
 | [],_,_,_,_,h,_,_=>by simp at h
 | _ :: _,[],_,_,_,_,h,_=>by simp at h
 | p :: P,w :: vs,0,m,nd,h1,h2,hk=>by
  simp at h1 h2; subst h1; subst h2
  show bindC a1 ((p,w) :: P.zip vs) m p = _
  unfold bindC
  rw [Sq λ v hv=>(vN.mp nd).1 (of_mem_zip hv).1,if_neg hk]
  simp
 | p :: P,w :: vs,i + 1,m,nd,h1,h2,hk=>by
  show bindC a1 ((p,w) :: P.zip vs) m x = _
  unfold bindC
  exact Tc (i:=i) (vN.mp nd).2 (by simpa using h1) (by simpa using h2) hk
def Eu (N:List Str) (vs:List V):St:=vs.map some ++ List.replicate (N.length - vs.length) none
def cxOf (CX:CXT) (P:Program) (w:World) (K:FA) (mg:Str→Option Value) (base:Heap) (N:List Str) (qual:Str) (scope:Scope) (f:Addr) (cd:Value) (A:Around) (outer:List Env) (s:Shared) (H:Hp) (E:XK):Cx where
 prog:=P
 w:=w
 K:=K
 mg:=mg
 base:=base
 A:=A.deeper (envOfC qual scope s.heap.objs.size f cd)
 N:=N
 s₀:=s
 H₀:=H
 env:=envOfC qual scope s.heap.objs.size f cd
 outer:=outer
 stack:=envOfC qual scope s.heap.objs.size f cd :: outer
 ex:=[]
 calm:=true
 fn:=λ _=>true
 pn:=[]
 xe:=λ e s'=>wpAny (model P w) (A.deeper (envOfC qual scope s.heap.objs.size f cd)) (leaving (envOfC qual scope s.heap.objs.size f cd) e) (λ _ s''=>CX outer H s E e s'') (λ e' s''=>CX outer H s E e' s'') s'
theorem Vs {sc:Scope} (h:sc.names.lookup x = some .cell):∃ c,(cellsFrom n sc.names []).lookup x = some c:=by
 have q:=cellsFrom_some sc.names n [] (.inl h)
 exact Option.isSome_iff_exists.mp q
theorem Tg {CX:CXT} {N:List Str} {qual:Str} {scope:Scope} {cd:Value} {outer:List Env} {s s1:Shared} {E:XK} {vs:List V}
  (S:Ar N ps scope) (hd:A.handled = none) (e0:Kx P w K mg base A outer s H) (hl:vs.length = ps.length) (r:A5 vs us)
  (x:InCallC s s.heap.objs.size (bindL (envOfC qual scope s.heap.objs.size f cd).kindOf (ps.zip us) λ _=>none) (cellsFrom (s.heap.objs.size + 1) scope.names []) (bindC (envOfC qual scope s.heap.objs.size f cd).kindOf (ps.zip us) λ _=>none) s1) :
  Inv (cxOf CX P w K mg base N qual scope f cd A outer s H E) [] (Eu N vs) H s1:=by
 have a3:ps.length≤N.length:=by have:=congrArg length S.pre; rw [vD] at this; omega
 obtain ⟨h1,tk,rfl,hk⟩:=x.done
 have a1:∀ b:Addr,b∉(cxOf CX P w K mg base N qual scope f cd A outer s H E).ex:=λ b z=>absurd (show b∈([]:List Addr) from z) (by simp)
 refine ⟨⟨e0.mod,S.kind,rfl,rfl,uY _,λ y z c h1 h2=>?_,λ y hy=>?_,λ y c _ h=>?_,λ _=>hd,Around.frames_deeper e0.frames,.inr ⟨rfl,rfl⟩,λ b z=>absurd z (a1 b),e0.bs,e0.bsz,λ b _ _=>a1 b,λ b z=>absurd z (a1 b),e0.funs,e0.frf⟩,
  rfl,e0.bare,Un.kept hk,⟨_,x.toInCall.ns,λ i y v h1 h2 h3=>?_⟩,λ y c h=>⟨_,x.cell y c h⟩,e0.hok.fresh (uY _),λ y c h=>?_,λ p hp=>absurd (show p∈([]:List (Addr× Obj)) from hp) (by simp),e0.hok.kept hk,?_⟩
 ·exact name_of_addr x.apart (PySem.mem_of_lookup h1) (PySem.mem_of_lookup h2)
 ·have hy:scope.names.lookup y = some .cell∨scope.names.lookup y = some .free:=hy
  rcases hy with hy | hy
  ·exact Vs hy
  ·exact absurd rfl (S.nofree _ (PySem.mem_of_lookup hy))
 ·exact le_of_lt (x.above y c (PySem.mem_of_lookup h))
 ·have hi:i < vs.length:=by
   unfold Eu at h2
   by_cases hi:i < vs.length
   ·exact hi
   ·rw [List.getElem?_append_right (by simpa using hi)] at h2
    rw [List.getElem?_replicate] at h2
    split at h2 <;> cases h2
  have ha:vs[i]? = some v:=by
   unfold Eu at h2
   rw [List.getElem?_append_left (by simpa using hi),uJ] at h2
   cases e:vs[i]? with
   | none=>rw [e] at h2; cases h2
   | some a=>rw [e] at h2; cases h2; rfl
  obtain ⟨u,hu,rv⟩:=r.get ha
  have hp:ps[i]? = some y:=by
   rw [← S.pre,List.getElem?_take_of_lt (by omega)]; exact h1
  have a2:ps.Nodup:=by rw [← S.pre]; exact S.nd.sublist (List.take_sublist _ _)
  refine ⟨u,rv,?_⟩
  rcases S.par y (uQ hp) with k | k
  ·exact .inl ⟨k,Sv a2 hp hu k⟩
  ·obtain ⟨c,e⟩:=Vs (n:=s.heap.objs.size + 1) k
   refine .inr ⟨.inl k,c,e,?_⟩
   have q:=x.cell y c e
   rw [Tc a2 hp hu (by show scope.names.lookup y≠_; rw [k]; decide)] at q
   exact q
 ·exact e0.hok.fresh (le_of_lt (x.above y c (PySem.mem_of_lookup h)))
 ·unfold Eu
  show _ = N.length
  rw [uF,uD,List.length_replicate]
  omega
theorem Aax {CX:CXT} {k:Nat} {name qual:Str} {a1:Arguments} {a2:List Stmt} {scope:Scope} {dV kV doc pm cdv ct oc:Value} {an od:Option Addr}
  {osl:Array (Option Value)} {N:List Str} {sp:Sp} (lk:K.lookup f = some ⟨oc,od,.func (fnOf name qual a1 a2 scope dV kV doc pm an cdv ct),osl⟩) (a8:codeIn K cdv qual = true) (S:Ar N ps scope)
  (len:∀ vs H Q E,sp vs H Q E→vs.length = ps.length)
  (a4:∀ (A:Around) (outer:List Env) (s:Shared) (H:Hp) (vs:List V) (Q:VK) (E:XK),Bp k (A.deeper (envOfC qual scope s.heap.objs.size f cdv))→sp vs H Q E →
   ∃ t,PSs (cxOf CX P w K mg base N qual scope f cdv A outer s H E) a2 t∧t { nx:=λ _ H'=>Q .non H',rt:=Q } (Eu N vs) H) :
  Bi P w K mg base CX (k + 1) f (fnOf name qual a1 a2 scope dV kV doc pm an cdv ct) ps sp:=by
 refine ⟨len,λ A outer s H args us vs Q E hr e0 hb r a6=>?_⟩
 have hl:=len _ _ _ _ a6
 have KX:K.In s.heap:=e0.mod.kin.keeps λ b o e=>(e0.bs b o e).1
 have a9:s.heap.NoLimit:=e0.mod.nolimit.keeps λ b o e=>(e0.bs b o e).1
 have a5:∀ y∈ps.zip us,scope.names.lookup y.1 = some .local∨(scope.names.lookup y.1 = some .cell∧((cellsFrom (s.heap.objs.size + 1) scope.names []).lookup y.1).isSome = true):=λ ⟨n,v⟩ hy=>by
  rcases S.par n (of_mem_zip hy).1 with q | q
  ·exact .inl q
  ·exact .inr ⟨q,cellsFrom_some _ _ _ (.inl q)⟩
 refine codeAny_call_function hr.depth (KX _ _ lk) rfl S.co S.gen rfl (codeRec_of KX a8) (hb _ _ _ _ ?_)
 refine wpAny_newFunctionEnv_cells S.kind a5 λ env he s1 x=>?_
 subst he
 refine ⟨a9.keeps x.toInCall.keep,codeAny_func ?_⟩
 obtain ⟨t,ht,hq⟩:=a4 A outer s H vs Q E (hr.deeper _) a6
 have I:Inv (cxOf CX P w K mg base N qual scope f cdv A outer s H E) [] (Eu N vs) H s1:=Tg S hr.hd e0 hl r x
 refine vS (ht [] s1 (Eu N vs) H _ I hq) (λ fl s' hs=>?_) λ e s' hs=>hs
 have a7:∀ {a3:St} {H':Hp} {v:V} {u:Value},Inv (cxOf CX P w K mg base N qual scope f cdv A outer s H E) [] a3 H' s'→A8 v u→Q v H'→CE outer P w H s Q u s' :=
  λ {a3 H' v u} J rv q=>⟨v,H',J.os,J.bare,J.base,J.hok,rv,q⟩
 cases fl with
 | ret u =>
  obtain ⟨v,a3,H',J,rv,q⟩:=hs
  exact a7 J rv q
 | next =>
  obtain ⟨a3,H',J,q⟩:=hs
  exact a7 (v:=V.non) (u:=Value.none) J rfl q
 | brk =>
  obtain ⟨_,_,_,q⟩:=hs
  exact False.elim q
 | cont =>
  obtain ⟨_,_,_,q⟩:=hs
  exact False.elim q
end L2
variable {sp:L2.Sp}
namespace L2
open PySem PySem.Spec PyProof.Rows
section
variable {p:Pos} {t:TA} {id T:String} {r:List V→Hp→VK→Prop}
def tCB (r:List V→Hp→VK→Prop) (t:TA):TE:=λ σ H Q=>t σ H λ vs H1=>r vs H1 Q
theorem Be (hc:Es X (.builtin id) r) (hg:Gl X x) (hm:X.mg x = none) (hv:bootBuiltins x = some (.builtin id)) (ha:PA X (e :: es) t) (hn:x≠ "__name__" := by decide) (a1:(x == ("__debug__" : Str)) = false:=by decide)
  (he:starEach (e :: es) X.env = (false,eval e X.env) :: starEach es X.env:=by rfl) (a2:(backTo pos (starEach es X.env)).any (·.1) = false:=by rfl):PE X (.Call (.Name x p) (e :: es) [] pos) (tCB r t):=by
 intro pins s σ H Q I h
 refine wpAny_Call_Name_kw (F8 I hg hm hv ?_ hn a1)
 exact PyProof.Rows.callWith_builtin1 (thn (ha pos pins s σ H _ I h) λ us s1 ⟨vs,H1,I1,r1,q1⟩=>hc pins s1 σ H1 vs us Q I1 r1 q1) he a2
theorem Kq (hc:Es X (.type T) r) (hg:Gl X x) (hm:X.mg x = none) (hv:bootBuiltins x = some (.type T)) (ha:PA X (e :: es) t) (hn:x≠ "__name__" := by decide) (a1:(x == ("__debug__" : Str)) = false:=by decide)
  (he:starEach (e :: es) X.env = (false,eval e X.env) :: starEach es X.env:=by rfl) (a2:(backTo pos (starEach es X.env)).any (·.1) = false:=by rfl):PE X (.Call (.Name x p) (e :: es) [] pos) (tCB r t):=by
 intro pins s σ H Q I h
 refine wpAny_Call_Name_kw (F8 I hg hm hv ?_ hn a1)
 exact PyProof.Rows.callWith_type1 (thn (ha pos pins s σ H _ I h) λ us s1 ⟨vs,H1,I1,r1,q1⟩=>hc pins s1 σ H1 vs us Q I1 r1 q1) he a2
end
end L2
namespace HT
open PySem PyProof.Rows
section
open PySem.SeqAt
open PySem.AutoSeq1 (wpAny_loadPart')
open PySem.MeetsSeq PySem.MeetsSeq2 PySem.MeetsSeq3
end
section
variable {s:Shared}
def sIx (n d:Nat):Option Int→Nat
 | none=>d
 | some v=>if v < 0 then (v + (n:Int)).toNat else min v.toNat n
theorem Air (n d:Nat):sIx n d none = d:=rfl
theorem Ai1 (n d k:Nat):sIx n d (some (k:Int)) = min k n:=by
 show (if (k:Int) < 0 then ((k:Int) + (n:Int)).toNat else min (k:Int).toNat n) = min k n
 rw [if_neg (by omega),Int.toNat_natCast]
end
end HT
namespace L2
open PySem PySem.Spec PyProof.Rows
abbrev TO:=St→Hp→(Option Int→Hp→Prop)→Prop
def PO (X:Cx) (e:Option Expr) (t:TO):Prop :=
 ∀ (pins:List (Addr× Obj)) (s:Shared) (σ:St) (H:Hp) (Q:Option Int→Hp→Prop),Inv X pins σ H s→t σ H Q →
  wpAny (model X.prog X.w) X.A (evalPart e X.env) (λ u s'=>∃ o H',Inv X pins σ H' s'∧IsPart u o∧Q o H') X.xe s
def AfA:TO:=λ _ H Q=>Q none H
def Aho (t:TE):TO:=λ σ H Q=>t σ H λ x H1=>∃ i,x = .int i∧Q (some i) H1
theorem Qy {ns:List Int}:∀ {us:List Value},A5 (ns.map V.int) us→IntsAre us ns:=by
 induction ns with
 | nil=>intro us r; rw [map_nil] at r; cases r; exact .nil
 | cons n ns ih =>
  intro us r
  rw [vP] at r
  cases r with
  | cons r1 r2 =>
   obtain ⟨t,e⟩:=r1
   subst e
   exact .cons n t (ih r2)
section
variable {lo hi:Option Expr} {tl th:TO} {p2:Pos}
theorem Oz:PO X none AfA:=by
 intro pins s σ H Q I h
 rw [evalPart_none]
 exact uB ⟨none,H,I,.none,h⟩
theorem Op (h:PE X e te):PO X (some e) (Aho te):=by
 intro pins s σ H Q I hw
 rw [evalPart_some]
 refine thn (h pins s σ H _ I hw) λ u s1 ⟨x,H1,I1,r1,q1⟩=>?_
 obtain ⟨i,rfl,q⟩:=q1
 obtain ⟨t,rfl⟩:=r1
 exact ⟨some i,H1,I1,.int i t,q⟩
def SlR (X:Cx) (r:V→Option Int→Option Int→Hp→VK→Prop):Prop :=
 ∀ (pins:List (Addr× Obj)) (s:Shared) (σ:St) (H:Hp) (x:V) (v vl vu:Value) (lo hi:Option Int) (sl:Addr) (Q:VK),Inv X pins σ H s→A8 x v→s.heap.IsSliceOf sl vl vu .none→IsPart vl lo→IsPart vu hi→r x lo hi H Q →
  ∃ T id,typeLookup (.type T) "__getitem__" = pure (some (.builtin id))∧s.TypeIs v T∧wpAny (model X.prog X.w) X.A (getItem v (.ref sl)) (EP X pins σ Q) X.xe s
def tSl (r:V→Option Int→Option Int→Hp→VK→Prop) (te:TE) (tl th:TO):TE:=λ σ H Q=>te σ H λ x H1=>tl σ H1 λ l H2=>th σ H2 λ u H3=>r x l u H3 Q
theorem Mo {r:V→Option Int→Option Int→Hp→VK→Prop} (hr:SlR X r) (he:PE X e te) (hl:PO X lo tl) (hu:PO X hi th):PE X (.Subscript e (.Slice lo hi none p2) pos) (tSl r te tl th):=by
 intro pins s σ H Q I h
 refine Subscript_ (thn (he pins s σ H _ I h) λ v s1 ⟨x,H1,I1,r1,q1⟩=>?_)
 refine wpAny_Slice (thn (hl pins s1 σ H1 _ I1 q1) λ vl s2 ⟨l,H2,I2,pl,q2⟩=>thn (hu pins s2 σ H2 _ I2 q2) λ vu s3 ⟨u,H3,I3,pu,q3⟩=>?_)
 rw [evalPart_none]
 refine uB ?_
 have I4:Inv X pins σ H3 { s3 with heap:=s3.heap.push { cls:=.type "slice", data:=.fields #[vl,vu,.none] } }:=I3.kept (t':=s3.toks) λ b ob q=>Heap.get?_push_of_some _ q
 obtain ⟨T,id,hT,ht,hg⟩:=hr pins { s3 with heap:=s3.heap.push { cls:=.type "slice", data:=.fields #[vl,vu,.none] } } σ H3 x v vl vu l u s3.heap.objs.size Q I4 r1 (Heap.IsSliceOf.new ..) pl pu q3
 show wpAny (model X.prog X.w) X.A (subscriptTail e (.Slice lo hi none p2) v (.ref s3.heap.objs.size)) (EP X pins σ Q) X.xe { s3 with heap:=s3.heap.push { cls:=.type "slice", data:=.fields #[vl,vu,.none] } }
 exact tail_any (ops:=[.ref s3.heap.objs.size,v]) ht hT hg (by with_unfolding_all rfl)
def J1 (xs:List V) (lo hi:Option Int):List V:=(xs.drop (HT.sIx xs.length 0 lo)).take (HT.sIx xs.length xs.length hi - HT.sIx xs.length 0 lo)
theorem X8 (xs:List V) (lo hi:Option Int):(J1 xs lo hi).length≤xs.length:=by
 unfold J1
 rw [vD,length_drop]
 omega
end
def ixN (n:Nat) (i:Int):Option Nat:=if 0≤i then (if i < n then some i.toNat else none) else if -(n:Int)≤i then some (i + n).toNat else none
def atI {α:Type} (xs:List α) (i:Int):Option α:=(ixN xs.length i).bind λ j=>xs[j]?
theorem Y6 {i:Int} {j:Nat} (h:ixN n i = some j):seqIndex? i n = some j∧j < n∧-(n:Int)≤i∧i < n:=by
 unfold ixN at h
 by_cases h0:0≤i
 ·rw [if_pos h0] at h
  by_cases h1:i < n
  ·rw [if_pos h1] at h
   have e:i.toNat = j:=Option.some.inj h
   exact ⟨by rw [seqIndex_of h0 h1,e],by omega,by omega,h1⟩
  ·rw [if_neg h1] at h; cases h
 ·rw [if_neg h0] at h
  by_cases h1:-(n:Int)≤i
  ·rw [if_pos h1] at h
   have e:(i + n).toNat = j:=Option.some.inj h
   exact ⟨by rw [seqIndex_neg (by omega) h1,e],by omega,h1,by omega⟩
  ·rw [if_neg h1] at h; cases h
theorem Yr {α:Type} {xs:List α} {i:Int} {v:α} (h:atI xs i = some v):∃ j,seqIndex? i xs.length = some j∧xs[j]? = some v∧j < xs.length∧-(xs.length:Int)≤i∧i < xs.length:=by
 unfold atI at h
 cases e:ixN xs.length i with
 | none=>rw [e] at h; cases h
 | some j =>
  rw [e] at h
  obtain ⟨h1,h2,h3,h4⟩:=Y6 e
  exact ⟨j,h1,h,h2,h3,h4⟩
theorem Ai {α:Type} {xs:List α} {j:Nat} {v:α} (h:xs[j]? = some v):atI xs (j:Int) = some v:=by
 have hj:j < xs.length:=(List.getElem?_eq_some_iff.mp h).1
 have e:ixN xs.length (j:Int) = some j:=by
  unfold ixN
  rw [if_pos (by omega),if_pos (by omega)]; simp
 unfold atI; rw [e]; exact h
def Aer (b:Expr):Prop:=∀ o i,subscripted b false o i = operate [o,i] (getItem o i)
def IxR (X:Cx) (r:R2):Prop :=
 ∀ (value slice:Expr) (pins:List (Addr× Obj)) (s:Shared) (σ:St) (H:Hp) (x y:V) (v u:Value) (Q:VK),Inv X pins σ H s→A8 x v→A8 y u→r x y H Q →
  subscripted slice false v u = operate [v,u] (getItem v u)→wpAny (model X.prog X.w) X.A (subscriptTail value slice v u) (EP X pins σ Q) X.xe s
def MtR (X:Cx) (id:String) (r:V→List V→Hp→VK→Prop):Prop :=
 ∀ (pins:List (Addr× Obj)) (s:Shared) (σ:St) (H:Hp) (x:V) (xs:List V) (v:Value) (us:List Value) (Q:VK),Inv X pins σ H s→A8 x v→A5 xs us→r x xs H Q →
  wpAny (model X.prog X.w) X.A (call (.builtin id) (v :: us)) (EP X pins σ Q) X.xe s
section
variable {a b:Expr}
theorem An {r:R2} (hr:IxR X r) (ha:PE X a ta) (hb:PE X b tb) (hs:Aer b):PE X (.Subscript a b pos) (tOp r ta tb):=by
 intro pins s σ H Q I h
 exact Subscript_ (Adl ha hb I h λ v u s2 x y H2 I2 rx ry q=>hr a b pins s2 σ H2 x y v u Q I2 rx ry q (hs _ _))
inductive AcS (K:FA) (x y:V) (H:Hp) (Q:VK):Prop
 | mk (p) (xs:_) (i) (v:_) (_:x = .ref p) (_:y = .int i) (_:SqL K H p xs) (_:atI xs i = some v) (_:Q v H):AcS K x y H Q
def Aif (K:FA):R2:=λ x y H Q=>AcS K x y H Q
inductive Ab9 (K:FA) (x y:V) (H:Hp) (Q:VK):Prop
 | mk (p) (xs:_) (i) (v:_) (_:x = .ref p) (_:y = .int i) (_:SqT K H p xs) (_:atI xs i = some v) (_:Q v H):Ab9 K x y H Q
def Pl (K:FA):R2:=λ x y H Q=>Ab9 K x y H Q
theorem Cm:IxR X (Aif X.K):=by
 intro value a4 pins s σ H x y v u Q I rx ry h hs
 obtain ⟨p,xs,i,z,rfl,rfl,hq,he,q⟩:=h
 cases rx
 obtain ⟨t,rfl⟩:=ry
 obtain ⟨a3,r,pl,hz⟩:=I.list hq
 obtain ⟨j,h1,h2,h3,h4,h5⟩:=Yr he
 obtain ⟨w,ew,a2⟩:=r.get h2
 have hl:=r.length
 have hn:=J3
 have a1:EP X pins σ Q w s:=⟨z,H,I,a2,q⟩
 by_cases h0:0≤i
 ·have hj:i.toNat = j:=by
   rw [seqIndex_of h0 h5] at h1
   exact Option.some.inj h1
  exact item_listR pl.isList h0 (by omega) (by rw [hj]; simpa using ew) a1 hs
 ·have hj:(i + (a3.toArray.size:Int)).toNat = j:=by
   rw [seqIndex_neg (by omega) h4] at h1
   rw [uO,← hl]
   exact Option.some.inj h1
  exact subscriptTail_builtinR (x:=w) pl.isList.typeIs slot_list_getitem.lookup
   (wpAny_getItem_list_neg (Q:=λ r s'=>r = w∧EP X pins σ Q r s') pl.isList (by omega) (by rw [uO] <;> omega) (by omega) (by rw [hj]; simpa using ew) ⟨rfl,a1⟩) hs
theorem Ak:IxR X (Pl X.K):=by
 intro value a3 pins s σ H x y v u Q I rx ry h hs
 obtain ⟨p,xs,i,z,rfl,rfl,hq,he,q⟩:=h
 cases rx
 obtain ⟨t,rfl⟩:=ry
 obtain ⟨a4,r,pl,hz⟩:=I.tuple hq
 obtain ⟨j,h1,h2,h3,h4,h5⟩:=Yr he
 obtain ⟨w,ew,a1⟩:=r.get h2
 have hl:=r.length
 have hn:=J3
 have a2:EP X pins σ Q w s:=⟨z,H,I,a1,q⟩
 exact subscriptTail_builtinR (x:=w) pl.typeIs slot_tuple_getitem.lookup
  (getItem_tuple (j:=j) (Q:=λ r s'=>r = w∧EP X pins σ Q r s') pl (by omega) (by omega) (by rw [uO,← hl]; exact h1) (by simpa using ew) ⟨rfl,a2⟩) hs
theorem Aa2 (a1:List Value) (n j:Nat) (u:Value):Obj.mapSeq (·.setIfInBounds j u) { cls:=.type "list", data:=.seq a1.toArray n } = { cls:=.type "list", data:=.seq (a1.set j u).toArray n }:=by
 simp [Obj.mapSeq]
theorem Inv.lst {pins:List (Addr× Obj)} {σ:St} {H:Hp} {s:Shared} {p:Addr} {xs:List V} (I:Inv X pins σ H s) (h:H p = some (.lst xs)) :
  ∃ (a1:List Value) (n:Nat),A5 xs a1∧s.heap.get? p = some { cls:=.type "list", data:=.seq a1.toArray n }∧xs.length≤sizeLine:=by
 obtain ⟨z,a1,n,r,e⟩:=I.hok p _ h
 exact ⟨a1,n,r,e,z⟩
theorem Inv.lstUpd {s:Shared} {p:Addr} {ys:List V} {a1 its':List Value} {n':Nat} {f:Obj→Obj} (I:Inv X pins σ H s) (h:H p = some (.lst xs))
  (ho:s.heap.get? p = some { cls:=.type "list", data:=.seq a1.toArray n }) (hf:f { cls:=.type "list", data:=.seq a1.toArray n } = { cls:=.type "list", data:=.seq its'.toArray n' }) (r:A5 ys its') (hz:ys.length≤sizeLine) (t:Nat) :
  Inv X pins σ (upd H p (.lst ys)) { s with heap:=s.heap.update p f,toks:=t }:=by
 have e:(s.heap.update p f).get? p = some { cls:=.type "list", data:=.seq its'.toArray n' }:=by
  rw [Heap.get?_update_self f ho (by rw [hf] <;> rfl),hf]
 refine I.write (x:=p) (e:=p) (by rw [h]; trivial) (.inl rfl) (λ b u hb q=>(Heap.get?_update_other _ _ (Ne.symm hb)).trans q) ⟨_,e⟩ ?_
 exact ⟨hz,its',n',r,e⟩
inductive Zk (o i v:V) (H:Hp) (Q:Hp→Prop):Prop
 | mk (p:Addr) (xs:List V) (k:Int) (j:Nat) (_:o = .ref p) (_:i = .int k) (_:H p = some (.lst xs)) (_:ixN xs.length k = some j) (_:Q (upd H p (.lst (xs.set j v)))):Zk o i v H Q
def Ahc:V→V→V→Hp→(Hp→Prop)→Prop:=λ o i v H Q=>Zk o i v H Q
theorem AdK:AgJ X Ahc:=by
 intro pins s σ H o i v ov iv u Q I ro ri rv h
 obtain ⟨p,xs,k,j,rfl,rfl,hp,hj,q⟩:=h
 cases ro
 obtain ⟨t,rfl⟩:=ri
 obtain ⟨a1,n,r,ho,hz⟩:=I.lst hp
 obtain ⟨h1,h2,h3,h4⟩:=Y6 hj
 have hl:=r.length
 have hn:=J3
 have I':Inv X pins σ (upd H p (.lst (xs.set j v))) { s with heap:=s.heap.update p (Obj.mapSeq (·.setIfInBounds j u)) } :=
  I.lstUpd hp ho (Aa2 a1 n j u) (r.set rv j) (by rw [length_set]; exact hz) s.toks
 by_cases h0:0≤k
 ·have hk:k.toNat = j:=by
   rw [seqIndex_of h0 h4] at h1
   exact Option.some.inj h1
  exact PySem.W.ki_setAt ho h0 (by omega) (by rw [uO,← hl]; exact h4) (by rw [hk]; exact ⟨_,I',q⟩)
 ·have hk:(k + (a1.toArray.size:Int)).toNat = j:=by
   rw [seqIndex_neg (by omega) h3] at h1
   rw [uO,← hl]
   exact Option.some.inj h1
  exact PySem.W.ki_setBack ho (by omega) (by rw [uO,← hl]; exact h3) (by omega) (by rw [hk]; exact ⟨_,I',q⟩)
theorem Wx (lo hi:Option Int) (n:Nat):(sliceBounds lo hi none n).1 = ((HT.sIx n 0 lo:Nat):Int)∧(sliceBounds lo hi none n).2.1 = ((HT.sIx n n hi:Nat):Int)∧(sliceBounds lo hi none n).2.2 = 1:=by
 refine ⟨?_,?_,rfl⟩
 ·cases lo with
  | none=>simp [sliceBounds,HT.sIx]
  | some i =>
   simp only [sliceBounds,HT.sIx,Option.getD_none,show (1:Int) > 0 by decide,if_true]
   by_cases h:i < 0
   ·simp only [h,if_true] <;> omega
   ·simp only [h,if_false] <;> omega
 ·cases hi with
  | none=>simp [sliceBounds,HT.sIx]
  | some i =>
   simp only [sliceBounds,HT.sIx,Option.getD_none,show (1:Int) > 0 by decide,if_true]
   by_cases h:i < 0
   ·simp only [h,if_true] <;> omega
   ·simp only [h,if_false] <;> omega
theorem Uo (a1:List Value) (lo hi:Option Int):slicePick a1.toArray lo hi none = ((a1.drop (HT.sIx a1.length 0 lo)).take (HT.sIx a1.length a1.length hi - HT.sIx a1.length 0 lo)).toArray:=by
 obtain ⟨h1,h2,h3⟩:=Wx lo hi a1.toArray.size
 unfold slicePick
 rw [h1,h2,h3]
 simp only [sliceRange_one,pick_run,uO] <;> rfl
def Ahz (K:FA):V→Option Int→Option Int→Hp→VK→Prop:=λ x lo hi H Q=>∃ a xs,x = .ref a∧SqL K H a xs∧∀ p,H p = none→Q (.ref p) (upd H p (.lst (J1 xs lo hi)))
theorem R5:SlR X (Ahz X.K):=by
 intro pins s σ H x v vl vu lo hi sl Q I rx hs pl pu h
 obtain ⟨a,xs,rfl,hx,q⟩:=h
 cases rx
 obtain ⟨a2,r,ht,hz⟩:=I.list hx
 have a1:=r.length
 refine ⟨"list", _,slot_list_getitem.lookup,ht.isList.typeIs,?_⟩
 refine wpAny_getItem_list_slice ht.isList hs pl pu .none (by simp) ?_ (by rw [uO] <;> omega)
 rw [Uo,← a1]
 refine ⟨.ref s.heap.objs.size,_,I.laid (t':=s.toks) (o:=.lst (J1 xs lo hi)) (λ b ob q=>Heap.get?_push_of_some _ q) (uY _) ?_,rfl,q _ (I.hok.fresh (uY _))⟩
 exact ⟨uX (X8 xs lo hi) hz,_,0,(r.drop (HT.sIx xs.length 0 lo)).take (HT.sIx xs.length xs.length hi - HT.sIx xs.length 0 lo),Heap.get?_push_size _ rfl⟩
def Ef:V→Bool
 | .non=>true
 | .bl _=>true
 | .int _=>true
 | .str _=>true
 | _=>false
def eqV:V→V→Bool
 | .non,.non=>true
 | .bl a,.bl b=>a == b
 | .bl a,.int b=>(if a then 1 else 0) == b
 | .int a,.bl b=>a == (if b then 1 else 0)
 | .int a,.int b=>a == b
 | .str a,.str b=>a == b
 | _,_=>false
theorem Vr {s:Shared} {y x:V} {v:Value} (ry:A8 y u) (rx:A8 x v) (fy:Ef y = true) (fx:Ef x = true):SeqAt.EqAt A s u v (eqV y x):=by
 cases y with
 | non =>
  cases ry
  cases x with
  | non=>cases rx; exact SeqAt.EqAt.same _
  | bl b=>cases rx; exact SeqAt.EqAt.none_bool b
  | int b=>obtain ⟨t,rfl⟩:=rx; exact SeqAt.EqAt.none_int b t
  | str b=>obtain ⟨t,rfl⟩:=rx; exact SeqAt.EqAt.none_str b t
  | _=>exact absurd (show false = true from fx) Bool.false_ne_true
 | bl a =>
  cases ry
  cases x with
  | non=>cases rx; exact SeqAt.EqAt.bool_none a
  | bl b=>cases rx; exact SeqAt.EqAt.bool_bool a b
  | int b=>obtain ⟨t,rfl⟩:=rx; exact SeqAt.EqAt.bool_int a b t
  | str b=>obtain ⟨t,rfl⟩:=rx; exact SeqAt.EqAt.bool_str a b t
  | _=>exact absurd (show false = true from fx) Bool.false_ne_true
 | int a =>
  obtain ⟨t',rfl⟩:=ry
  cases x with
  | non=>cases rx; exact SeqAt.EqAt.int_none a t'
  | bl b=>cases rx; exact SeqAt.EqAt.int_bool a t' b
  | int b=>obtain ⟨t,rfl⟩:=rx; exact SeqAt.EqAt.int_int a t' b t
  | str b=>obtain ⟨t,rfl⟩:=rx; exact SeqAt.EqAt.int_str a t' b t
  | _=>exact absurd (show false = true from fx) Bool.false_ne_true
 | str a =>
  obtain ⟨t',rfl⟩:=ry
  cases x with
  | non=>cases rx; exact SeqAt.EqAt.str_none a t'
  | bl b=>cases rx; exact SeqAt.EqAt.str_bool a t' b
  | int b=>obtain ⟨t,rfl⟩:=rx; exact SeqAt.EqAt.str_int a t' b t
  | str b=>obtain ⟨t,rfl⟩:=rx; exact SeqAt.EqAt.str_str a t' b t
  | _=>exact absurd (show false = true from fx) Bool.false_ne_true
 | _=>exact absurd (show false = true from fy) Bool.false_ne_true
def eqU (x:V) (u:Value):Bool:=match u with
 | .none=>eqV .non x
 | .bool b=>eqV (.bl b) x
 | .int i _=>eqV (.int i) x
 | .str z _=>eqV (.str z) x
 | _=>false
theorem Wt {x y:V} (r:A8 y u) (f:Ef y = true):eqU x u = eqV y x:=by
 cases y with
 | non=>cases r; rfl
 | bl b=>cases r; rfl
 | int i=>obtain ⟨t,rfl⟩:=r; rfl
 | str z=>obtain ⟨t,rfl⟩:=r; rfl
 | _=>exact absurd (show false = true from f) Bool.false_ne_true
theorem Lg {x:V}:∀ {xs:List V} {us:List Value},A5 xs us→xs.all Ef = true→us.any (eqU x) = xs.any λ y=>eqV y x
 | _,_,.nil,_=>rfl
 | y :: xs,u :: us,.cons r t,f=>by
  rw [all_cons,Bool.and_eq_true] at f
  rw [any_cons,any_cons,Wt r f.1,Lg t f.2]
theorem Ho {s:Shared} {x:V} {v:Value} (rx:A8 x v) (fx:Ef x = true):∀ {xs:List V} {us:List Value},A5 xs us→xs.all Ef = true→∀ u∈us,SeqAt.EqAt A s u v (eqU x u)
 | _,_,.nil,_=>λ u hu=>by cases hu
 | y :: xs,u :: us,.cons r t,f=>λ u' hu=>by
  rw [all_cons,Bool.and_eq_true] at f
  rcases vI.mp hu with rfl | hu
  ·rw [Wt r f.1]; exact Vr r rx f.1 fx
  ·exact Ho rx fx t f.2 u' hu
def inV (x:V) (xs:List V):Bool:=xs.any λ y=>eqV y x
inductive AeK (K:FA) (neg:Bool) (x y:V) (H:Hp) (Q:VK):Prop
 | mk (p) (xs:_) (_:y = .ref p) (_:(SqL K H p xs∨SqT K H p xs)) (_:Ef x = true) (_:xs.all Ef = true) (_:Q (.bl (if neg then !inV x xs else inV x xs)) H):AeK K neg x y H Q
def rIn (K:FA) (neg:Bool):R2:=λ x y H Q=>AeK K neg x y H Q
theorem Bw:OpR X (compareOp .In) (rIn X.K false):=by
 intro pins s σ H x y v u Q I rx ry h
 obtain ⟨p,xs,rfl,hq,fx,fs,q⟩:=h
 cases ry
 rcases hq with hq | hq
 ·obtain ⟨a1,r,pl,hz⟩:=I.list hq
  refine SeqAt.in_listAt (eqU x) pl.isList (λ w hw=>Ho rx fx r fs w (by simpa using hw)) ⟨.bl _,H,I,rfl,?_⟩
  rw [show a1.toArray.any (eqU x) = a1.any (eqU x) by simp,Lg r fs]
  exact q
 ·obtain ⟨a1,r,pl,hz⟩:=I.tuple hq
  refine SeqAt.in_tupleAt (eqU x) pl (λ w hw=>Ho rx fx r fs w (by simpa using hw)) ⟨.bl _,H,I,rfl,?_⟩
  rw [show a1.toArray.any (eqU x) = a1.any (eqU x) by simp,Lg r fs]
  exact q
theorem Gm:OpR X (compareOp .NotIn) (rIn X.K true):=by
 intro pins s σ H x y v u Q I rx ry h
 obtain ⟨p,xs,rfl,hq,fx,fs,q⟩:=h
 cases ry
 rcases hq with hq | hq
 ·obtain ⟨a1,r,pl,hz⟩:=I.list hq
  refine SeqAt.notIn_listAt (eqU x) pl.isList (λ w hw=>Ho rx fx r fs w (by simpa using hw)) ⟨.bl _,H,I,rfl,?_⟩
  rw [show a1.toArray.any (eqU x) = a1.any (eqU x) by simp,Lg r fs]
  exact q
 ·obtain ⟨a1,r,pl,hz⟩:=I.tuple hq
  refine SeqAt.notIn_tupleAt (eqU x) pl (λ w hw=>Ho rx fx r fs w (by simpa using hw)) ⟨.bl _,H,I,rfl,?_⟩
  rw [show a1.toArray.any (eqU x) = a1.any (eqU x) by simp,Lg r fs]
  exact q
theorem J8:OpR X (compareOp .NotIn) (λ x y H Q=>∃ i j,x = .str i∧y = .str j∧Q (.bl (!(!(Builtin.Str.occurrences j i 0 j.length 1).isEmpty))) H):=by
 intro pins s σ H x y v u Q I rx ry h
 obtain ⟨i,j,rfl,rfl,q⟩:=h
 obtain ⟨t,rfl⟩:=rx
 obtain ⟨t',rfl⟩:=ry
 exact notIn_str ⟨.bl _,H,I,rfl,q⟩
theorem Nh:Es X (.builtin "len") (λ xs H Q=>∃ p ys,xs = [.ref p]∧(SqL X.K H p ys∨SqT X.K H p ys)∧Q (.int ys.length) H):=by
 intro pins s σ H xs us Q I r h
 obtain ⟨p,ys,rfl,hq,q⟩:=h
 obtain ⟨u,rfl,rx⟩:=Uu r
 cases rx
 have hn:=J3
 rcases hq with hq | hq
 ·obtain ⟨a2,r',pl,hz⟩:=I.list hq
  have a1:=r'.length
  exact Calls.call_len_list pl.isList (by simp only [uO] <;> omega) ⟨.int ys.length,H,I.tok _,⟨s.toks + 1,by rw [uO,a1]⟩,q⟩
 ·obtain ⟨a2,r',pl,hz⟩:=I.tuple hq
  have a1:=r'.length
  exact len_tuple pl (by simp only [uO] <;> omega) ⟨.int ys.length,H,I.tok _,⟨s.toks + 1,by rw [uO,a1]⟩,q⟩
theorem G6:Es X (.builtin "len") (λ xs H Q=>∃ z,xs = [.str z]∧z.length≤sizeLine∧Q (.int z.length) H):=by
 intro pins s σ H xs us Q I r h
 obtain ⟨z,rfl,hz,q⟩:=h
 obtain ⟨u,rfl,t,rfl⟩:=Uu r
 have hn:=J3
 exact len_str (by omega) ⟨.int z.length,H,I.tok _,⟨_,rfl⟩,q⟩
theorem J2:Es X (.type "list") (λ xs H Q=>∃ p ys,xs = [.ref p]∧(SqL X.K H p ys∨SqT X.K H p ys)∧∀ l,H l = none→Q (.ref l) (upd H l (.lst ys))):=by
 intro pins s σ H xs us Q I r h
 obtain ⟨p,ys,rfl,hq,q⟩:=h
 obtain ⟨u,rfl,rx⟩:=Uu r
 cases rx
 have a2:∀ (a1:List Value),A5 ys a1→ys.length≤sizeLine→∀ (h':Heap) (c':Nat),(∀ b o',s.heap.get? b = some o'→h'.get? b = some o') →
   h'.get? s.heap.objs.size = some { cls:=.type "list", dict:=none,data:=.seq a1.toArray c',slots:=#[] }→EP X pins σ Q (.ref s.heap.objs.size) { s with heap:=h' }:=λ a1 r' hz h' c' kp e =>
  ⟨.ref s.heap.objs.size,_,I.laid (t':=s.toks) kp (uY _) (show B1 X.prog X.w _ h' _ (.lst ys) from ⟨hz,a1,c',r',e⟩),rfl,q _ (I.hok.fresh (uY _))⟩
 rcases hq with hq | hq
 ·obtain ⟨a1,r',pl,hz⟩:=I.list hq
  have a3:=r'.length
  obtain ⟨o,ho,hc,n,hd⟩:=pl.isList
  exact call_list_seq p (.inl rfl) ho hc hd (λ h' c' kp e=>a2 a1 r' hz h' c' kp e) (by simp only [uO] <;> omega)
 ·obtain ⟨a1,r',pl,hz⟩:=I.tuple hq
  have a3:=r'.length
  obtain ⟨o,ho,hc,n,hd⟩:=pl
  exact call_list_seq p (.inr rfl) ho hc hd (λ h' c' kp e=>a2 a1 r' hz h' c' kp e) (by simp only [uO] <;> omega)
theorem Uk:Es X (.type "tuple") (λ xs H Q=>∃ p ys,xs = [.ref p]∧((SqL X.K H p ys∧∀ l,H l = none→Q (.ref l) (upd H l (.tup ys)))∨(SqT X.K H p ys∧Q (.ref p) H))):=by
 intro pins s σ H xs us Q I r h
 obtain ⟨p,ys,rfl,h⟩:=h
 obtain ⟨u,rfl,rx⟩:=Uu r
 cases rx
 rcases h with ⟨hq,q⟩ | ⟨hq,q⟩
 ·obtain ⟨a1,r',pl,hz⟩:=I.list hq
  have a2:=r'.length
  refine call_tuple_list pl.isList (λ h' kp=>?_) (by simp only [uO] <;> omega)
  have I1:Inv X pins σ H { s with heap:=h' }:=I.kept (t':=s.toks) kp
  have I2:Inv X pins σ (upd H h'.objs.size (.tup ys)) { s with heap:=h'.push { cls:=.type "tuple", data:=.seq a1.toArray } } :=
   I1.laid (t':=s.toks) (λ b o e=>Heap.get?_push_of_some _ e) (uY _) (show B1 X.prog X.w _ _ _ (.tup ys) from ⟨hz,a1,r',IsTup.new _ _⟩)
  exact ⟨.ref h'.objs.size,_,I2,rfl,q _ (I1.hok.fresh (uY _))⟩
 ·obtain ⟨a1,r',pl,hz⟩:=I.tuple hq
  exact call_tuple_same pl ⟨.ref p,H,I,rfl,q⟩
def tyV (K:FA) (T:String) (x:V) (H:Hp):Prop:=match x with
 | .str _=>T = "str"
 | .int _=>T = "int"
 | .ref p=>(T = "list" ∧ ∃ xs,SqL K H p xs)∨(T = "tuple" ∧ ∃ o,K.lookup p = some o∧o.cls = .type "tuple" ∧ o.dict = none) ∨
   (T = "dict" ∧ ((∃ kvs,H p = some (.dK kvs))∨∃ kvs,H p = some (.dT kvs)))∨(T = "set" ∧ ∃ S n,H p = some (.set S n))
 | _=>False
theorem Abd {s:Shared} {T:String} {x:V} {v:Value} (I:Inv X pins σ H s) (r:A8 x v) (ty:tyV X.K T x H) :
  s.TypeIs v T∧∀ a,v = .ref a→∃ ob,s.heap.get? a = some ob∧ob.dict = none:=by
 cases x with
 | str z =>
  obtain ⟨t,rfl⟩:=r
  cases (show T = "str" from ty)
  exact ⟨typeIs_str s z t,λ _ e=>nomatch e⟩
 | int i =>
  obtain ⟨t,rfl⟩:=r
  cases (show T = "int" from ty)
  exact ⟨typeIs_int s i t,λ _ e=>nomatch e⟩
 | ref p =>
  cases r
  rcases ty with ⟨rfl,xs,hq⟩ | ⟨rfl,o,hk,hc,hd⟩ | ⟨rfl,hk⟩ | ⟨rfl,S,n,hk⟩
  ·obtain ⟨a1,_,pl,_⟩:=I.list hq
   refine ⟨pl.isList.typeIs,λ a e=>?_⟩
   cases e
   obtain ⟨o,n,e,c,hd,_⟩:=pl
   exact ⟨o,e,hd⟩
  ·refine ⟨⟨o,I.kIn p o hk,hc⟩,λ a e=>?_⟩
   cases e
   exact ⟨o,I.kIn _ o hk,hd⟩
  ·have z:∃ o,s.heap.get? p = some o∧o.ExactDict:=by
    rcases hk with ⟨kvs,hk⟩ | ⟨kvs,hk⟩
    ·obtain ⟨_,_,_,_,o,_,_,e,ex,_⟩:=I.hok p _ hk
     exact ⟨o,e,ex⟩
    ·obtain ⟨_,_,_,_,o,_,_,e,ex,_⟩:=I.hok p _ hk
     exact ⟨o,e,ex⟩
   obtain ⟨o,e,ex⟩:=z
   refine ⟨⟨o,e,ex.1⟩,λ a e2=>?_⟩
   cases e2
   exact ⟨o,e,ex.2.1⟩
  ·obtain ⟨o,_,_,_,e,ex,_⟩:=I.hok p _ hk
   refine ⟨⟨o,e,ex.1⟩,λ a e2=>?_⟩
   cases e2
   exact ⟨o,e,ex.2.1⟩
 | _=>exact False.elim ty
def Ah0 (K:FA) (T:String) (r:V→List V→Hp→VK→Prop) (to:TE):TE:=λ σ H Q=>to σ H λ x H1=>tyV K T x H1∧r x [] H1 Q
def tBM (K:FA) (T:String) (r:V→List V→Hp→VK→Prop) (to:TE) (t:TA):TE:=λ σ H Q=>to σ H λ x H1=>tyV K T x H1∧t σ H1 λ xs H2=>r x xs H2 Q
variable {o:Expr} {to:TE} {t:TA} {name:Str} {cpos:Pos} {T id:String} {r:V→List V→Hp→VK→Prop}
theorem Vm (pa:PlainAttrs T) (slot:Slot T name id) (a3:typeOf (.builtin id) = pure (.type "method_descriptor")) (hm:MtR X id r) (ho:PE X o to)
  (a1:attributeBase o name X.env (eval o X.env) = eval o X.env:=by rfl) (a2:(apos.endLine == cpos.line) = true:=by rfl):PE X (.Call (.Attribute o name apos) [] [] cpos) (Ah0 X.K T r to):=by
 intro pins s σ H Q I h
 refine wpAny_Call_method0_late a1 a2 (thn (ho pins s σ H _ I h) λ v s1 ⟨x,H1,I1,r1,ty,q1⟩=>?_)
 obtain ⟨h1,h2⟩:=Abd I1 r1 ty
 exact ⟨T,id,pa,slot,a3,h1,h2,Calls.callWith_builtin rfl (PySem.evalArgs_none (hm pins s1 σ H1 x [] v [] Q I1 r1 .nil q1))⟩
theorem Ew (pa:PlainAttrs T) (slot:Slot T name id) (a5:typeOf (.builtin id) = pure (.type "method_descriptor")) (hm:MtR X id r) (ho:PE X o to) (ha:PA X (e :: es) t)
  (a2:attributeBase o name X.env (eval o X.env) = eval o X.env:=by rfl)
  (a4:((backTo cpos (starEach (e :: es) X.env)).all (λ x=>!x.1) && (backToKw cpos (keywordEach [] X.env)).all (λ x=>x.1.isSome)
   && decide ((e :: es).length + ([]:List Keyword).length + (if ([]:List Keyword).isEmpty then 0 else 1) < 30)) = true:=by rfl)
  (a3:(apos.endLine == cpos.line) = true:=by rfl) (hs:starEach (e :: es) X.env = (false,eval e X.env) :: starEach es X.env:=by rfl) (a1:(backTo cpos (starEach es X.env)).any (·.1) = false:=by rfl) :
  PE X (.Call (.Attribute o name apos) (e :: es) [] cpos) (tBM X.K T r to t):=by
 intro pins s σ H Q I h
 refine wpAny_Call_method_late a2 a4 a3 rfl (thn (ho pins s σ H _ I h) λ v s1 ⟨x,H1,I1,r1,ty,q1⟩=>?_)
 obtain ⟨h1,h2⟩:=Abd I1 r1 ty
 refine ⟨T,id,pa,slot,a5,h1,h2,?_⟩
 have hA:=ha cpos pins s1 σ H1 _ I1 q1
 rw [hs] at hA ⊢
 refine Calls.callWith_builtin (by show (false || (backTo cpos (starEach es X.env)).any (·.1)) = false; rw [a1] <;> rfl) (Calls.evalArgs_plain ?_)
 exact thn hA λ us s2 ⟨vs,H2,I2,r2,q2⟩=>hm pins s2 σ H2 x vs v us Q I2 r1 r2 q2
end
def MtM (X:Cx) (id:String) (r:V→List V→Hp→VK→Prop):Prop :=
 ∀ (pins:List (Addr× Obj)) (s:Shared) (σ:St) (H:Hp) (x:V) (xs:List V) (v:Value) (us:List Value) (Q:VK),Inv X pins σ H s→A8 x v→A5 xs us→r x xs H Q →
  wpAny (model X.prog X.w) X.A (call (.builtin id) (v :: us)) (EP X pins σ Q) X.xe s
theorem A5.one:∀ {x:V} {us:List Value},A5 [x] us→∃ u,us = [u]∧A8 x u
 | _,_,.cons r .nil=>⟨_,rfl,r⟩
theorem A5.two:∀ {x y:V} {us:List Value},A5 [x,y] us→∃ u v,us = [u,v]∧A8 x u∧A8 y v
 | _,_,_,.cons r (.cons q .nil)=>⟨_,_,rfl,r,q⟩
theorem A5.zero:∀ {us:List Value},A5 [] us→us = []
 | _,.nil=>rfl
theorem A5.dropLast (h:A5 xs us):A5 xs.dropLast us.dropLast:=by
 induction h with
 | nil=>exact .nil
 | cons r t ih =>
  cases t with
  | nil=>exact .nil
  | cons q t'=>exact .cons r ih
theorem A5.rep (h:A5 xs us):∀ k:Nat,A5 (List.replicate k xs).flatten (List.replicate k us).flatten
 | 0=>.nil
 | k + 1=>by
  rw [replicate_succ,replicate_succ,flatten_cons,flatten_cons]
  exact A5.append h (A5.rep h k)
theorem AaL {α:Type} (l:List α):l.eraseIdx (l.length - 1) = l.dropLast:=by
 induction l with
 | nil=>rfl
 | cons a r ih =>
  cases r with
  | nil=>rfl
  | cons b r =>
   have e:(a :: b :: r).length - 1 = ((b :: r).length - 1) + 1:=by
    have h1:(a :: b :: r).length = r.length + 2:=rfl
    have h2:(b :: r).length = r.length + 1:=rfl
    omega
   rw [e,List.eraseIdx_cons_succ,ih]
   all_goals rfl
theorem Ue (a1:List Value):∀ (k:Nat) (a2:List Value),
  foldl (λ x1 x2=>x1 ++ x2) a2.toArray (List.replicate k a1.toArray) = (a2 ++ (List.replicate k a1).flatten).toArray
 | 0,a2=>by simp
 | k + 1,a2=>by
  have e:a2.toArray ++ a1.toArray = (a2 ++ a1).toArray:=by simp
  have e2:(a2 ++ a1) ++ (List.replicate k a1).flatten = a2 ++ (List.replicate (k + 1) a1).flatten:=by
   rw [replicate_succ,flatten_cons,append_assoc]
  rw [← e2,← Ue a1 k (a2 ++ a1),← e,replicate_succ,foldl_cons]
section
variable {s:Shared} {l b:Addr} {ys zs:List V}
theorem Inv.lset {a1 its':List Value} {f:Array Value→Array Value} {t':Nat} (I:Inv X pins σ H s) (hH:H l = some (.lst xs))
  (e:s.heap.get? l = some { cls:=.type "list", data:=.seq a1.toArray n }) (hf:f a1.toArray = its'.toArray) (hv:A5 ys its') (hz:ys.length≤sizeLine) :
  Inv X pins σ (upd H l (.lst ys)) { s with heap:=s.heap.update l (Obj.mapSeq f),toks:=t' }:=by
 have q:=PySem.IsL.update e f
 rw [hf] at q
 refine I.write (x:=l) (e:=l) (by rw [hH]; exact trivial) (.inl rfl) (λ b' u hb hu=>(Heap.get?_update_other s.heap (Obj.mapSeq f) (Ne.symm hb)).trans hu) ⟨_,q⟩ ?_
 exact ⟨hz,its',_,hv,q⟩
theorem Inv.lnew {a1:List Value} {t':Nat} (I:Inv X pins σ H s) (hv:A5 ys a1) (hz:ys.length≤sizeLine) :
  Inv X pins σ (upd H s.heap.objs.size (.lst ys)) { s with heap:=s.heap.push { cls:=.type "list", data:=.seq a1.toArray },toks:=t' } :=
 I.laid (λ _ _ q=>Heap.get?_push_of_some _ q) (uY _) ⟨hz,a1,0,hv,Heap.get?_push_size _ rfl⟩
theorem Inv.fresh (I:Inv X pins σ H s):H s.heap.objs.size = none:=I.hok.fresh (uY _)
theorem Inv.lstM (I:Inv X pins σ H s) (hH:H l = some (.lst xs)):xs.length≤sizeLine∧∃ (a1:List Value) (n:Nat),A5 xs a1∧xs.length = a1.length∧s.heap.get? l = some { cls:=.type "list", data:=.seq a1.toArray n }:=by
 obtain ⟨z,a1,n,r,e⟩:=I.hok l _ hH
 exact ⟨z,a1,n,r,r.length,e⟩
theorem Vt (h:n≤sizeLine):Builtin.List.listTooLong n = false:=by
 unfold Builtin.List.listTooLong
 exact uM (by omega)
end
inductive T9 (x:V) (vs:List V) (H:Hp) (Q:VK):Prop
 | mk (l:Addr) (xs:List V) (y:V) (_:x = .ref l) (_:vs = [y]) (_:H l = some (.lst xs)) (_:xs.length < sizeLine) (_:Q .non (upd H l (.lst (xs ++ [y])))):T9 x vs H Q
def Aex:V→List V→Hp→VK→Prop:=λ x vs H Q=>T9 x vs H Q
theorem Iv:MtM X "list.append" Aex:=by
 intro pins s σ H x vs v us Q I rx rv h
 obtain ⟨l,xs,y,rfl,rfl,hH,hz,q⟩:=h
 cases rx
 obtain ⟨u,rfl,ru⟩:=rv.one
 obtain ⟨z,a1,n,r,hl,e⟩:=I.lstM hH
 refine call_meets F.slot_list_append ⟨_,e,rfl⟩ F.entry_list_append (F.args_list_append_2 _ _) (PySem.list_append l a1.toArray n u (by rw [uO]; omega)) ⟨e,?_⟩
 refine ⟨.non,_,I.lset (its':=a1 ++ [u]) hH e (by simp) (r.append (.cons ru .nil)) ?_,rfl,q⟩
 rw [uF,uG]
 omega
def Ae2:V→List V→Hp→VK→Prop:=λ x vs H Q=>∃ l b xs zs,x = .ref l∧vs = [.ref b]∧H l = some (.lst xs)∧H b = some (.lst zs)∧xs.length + zs.length≤sizeLine∧Q .non (upd H l (.lst (xs ++ zs)))
theorem Abb:MtM X "list.extend" Ae2:=by
 intro pins s σ H x vs v us Q I rx rv h
 obtain ⟨l,b,xs,zs,rfl,rfl,hH,hB,hz,q⟩:=h
 cases rx
 obtain ⟨u,rfl,ru⟩:=rv.one
 cases ru
 obtain ⟨z,a2,n,r,hl,e⟩:=I.lstM hH
 obtain ⟨z2,a1,n2,r2,a4,e2⟩:=I.lstM hB
 have hsz:a2.toArray.size + a1.toArray.size≤sizeLine:=by rw [uO,uO]; omega
 have a3:¬ (!a2.toArray.isEmpty && Builtin.List.listTooLong (a2.toArray.size + a1.toArray.size)) = true:=by
  rw [Vt hsz,Bool.and_false]
  exact Bool.false_ne_true
 refine call_meets F.slot_list_extend ⟨_,e,rfl⟩ F.entry_list_extend (F.args_list_extend_2 _ _)
  (AutoSeq1.list_extend_list_list_0 l a2.toArray n b a1.toArray n2 a3 (by rw [uO]; omega) (by omega)) ⟨e,e2,?_⟩
 refine ⟨.non,_,I.lset (its':=a2 ++ a1) hH e (by simp) (r.append r2) ?_,rfl,q⟩
 rw [uF]
 omega
def Aih:V→List V→Hp→VK→Prop:=λ x vs H Q=>∃ l xs y,x = .ref l∧vs = []∧H l = some (.lst xs)∧xs[xs.length - 1]? = some y∧Q y (upd H l (.lst xs.dropLast))
theorem Agy:MtM X "list.pop" Aih:=by
 intro pins s σ H x vs v us Q I rx rv h
 obtain ⟨l,xs,y,rfl,rfl,hH,hy,q⟩:=h
 cases rx
 have a3:=rv.zero
 subst a3
 obtain ⟨z,a1,n,r,hl,e⟩:=I.lstM hH
 obtain ⟨u,hu,ru⟩:=r.get hy
 have a2:a1.toArray[a1.toArray.size - 1]? = some u:=by
  show a1.toArray[a1.length - 1]? = some u
  rw [← Array.getElem?_toList,← hl]
  exact hu
 refine call_meets F.slot_list_pop ⟨_,e,rfl⟩ F.entry_list_pop (F.args_list_pop_1 _) (MeetsSeq.list_pop_last l a1.toArray n u a2 (by rw [uO]; omega)) ⟨e,?_⟩
 refine ⟨y,_,I.lset (its':=a1.dropLast) hH e ?_ r.dropLast ?_,ru,q⟩
 ·show a1.toArray.eraseIdxIfInBounds (a1.toArray.size - 1) = a1.dropLast.toArray
  rw [uO,List.eraseIdxIfInBounds_toArray,AaL]
 ·rw [List.length_dropLast]
  omega
inductive AcA  (x y:V) (H:Hp) (Q:VK):Prop
 | mk (l) (b) (xs:_) (zs) (_:x = .ref l) (_:y = .ref b) (_:H l = some (.lst xs)) (_:H b = some (.lst zs)) (_:xs.length + zs.length≤sizeLine) (_:∀ p,H p = none→Q (.ref p) (upd H p (.lst (xs ++ zs)))):AcA  x y H Q
def AbC:R2:=λ x y H Q=>AcA  x y H Q
theorem Bv:OpR X (binaryOp .Add) AbC:=by
 intro pins s σ H x y v u Q I rx ry h
 obtain ⟨l,b,xs,zs,rfl,rfl,hH,hB,hz,q⟩:=h
 cases rx
 cases ry
 obtain ⟨z,a2,n,r,hl,e⟩:=I.lstM hH
 obtain ⟨z2,a1,n2,r2,a3,e2⟩:=I.lstM hB
 refine PySem.P.add_list e e2 ?_ (by rw [uO,uO]; omega)
 have ea:a2.toArray ++ a1.toArray = (a2 ++ a1).toArray:=by simp
 rw [ea]
 exact ⟨.ref _,_,I.lnew (t':=s.toks) (r.append r2) (by rw [uF]; omega),rfl,q _ I.fresh⟩
def Aiq:R2:=λ x y H Q=>∃ l k xs,x = .ref l∧y = .int k∧H l = some (.lst xs)∧-(2 ^ 63)≤k∧k < 2 ^ 63∧xs.length * k.toNat≤sizeLine ∧
 ∀ p,H p = none→Q (.ref p) (upd H p (.lst (List.replicate k.toNat xs).flatten))
theorem Ae4 {α:Type} (xs:List α) (k:Nat):(List.replicate k xs).flatten.length = k * xs.length:=by
 induction k with
 | zero=>simp
 | succ k ih=>rw [replicate_succ,flatten_cons,uF,ih,Nat.succ_mul,Nat.add_comm]
theorem Ach:OpR X (binaryOp .Mult) Aiq:=by
 intro pins s σ H x y v u Q I rx ry h
 obtain ⟨l,k,xs,rfl,rfl,hH,h1,h2,hz,q⟩:=h
 cases rx
 obtain ⟨t,rfl⟩:=ry
 obtain ⟨z,a1,n,r,hl,e⟩:=I.lstM hH
 have a6:a1.toArray.size * k.toNat≤sizeLine:=by rw [uO,← hl]; exact hz
 have a3:¬ a1.toArray.size * k.toNat > (2 ^ 63 - 1) / 8:=by
  have:(sizeLine:Nat)≤(2 ^ 63 - 1) / 8:=by decide
  omega
 have a5:¬ (!Builtin.List.listFitsIndex k) = true:=by
  rw [fitsIndex_both h1 h2]
  exact Bool.false_ne_true
 have a2:¬ Builtin.List.listTooLong (a1.toArray.size * k.toNat) = true:=by
  rw [Vt a6]
  exact Bool.false_ne_true
 have a4:foldl (λ x1 x2=>x1 ++ x2) #[] (List.replicate (if a1.toArray.isEmpty = true then 0 else k.toNat) a1.toArray) = (List.replicate k.toNat a1).flatten.toArray:=by
  have f0:∀ m:Nat,foldl (λ x1 x2=>x1 ++ x2) #[] (List.replicate m a1.toArray) = (List.replicate m a1).flatten.toArray:=λ m=>by
   have:=Ue a1 m []
   rw [nil_append] at this
   exact this
  rw [f0]
  cases a1 with
  | nil=>simp
  | cons a r'=>rw [if_neg (by simp)]
 refine wpAny_binaryOp_repeat_ref (T:= "list") (U:= "int") (by decide) ⟨_,e,rfl⟩ (λ s'=>typeIs_int s' k t) noFill_list_mul F.fills_int_mul F.slot_int_rmul repeat_list F.slot_int_index.lookup
  (call_meets F.slot_int_rmul (typeIs_int s k t) F.entry_int_rmul (F.args_int_rmul_2 _ _) (int___rmul___int_list k t l a1.toArray n)
   ⟨e,rfl,⟨_,e,rfl⟩,call_meets F.slot_list_mul ⟨_,e,rfl⟩ F.entry_list_mul (F.args_list_mul_2 _ _) (AutoListH.list___mul___list_int_3 l a1.toArray n k t a5 a3 a2) ⟨e,?_⟩⟩)
 rw [a4]
 exact ⟨.ref _,_,I.lnew (t':=s.toks) (r.rep k.toNat) (by rw [Ae4,Nat.mul_comm]; exact hz),rfl,q _ I.fresh⟩
section
variable {s:Shared}
end
end L2
namespace Att
open PySem PySem.W PySem.Calls PyProof.Rows
theorem Rh {P:Params} {h:Heap}:∀ (ns:List Int) (vs:List Value),WellAll P h vs (ns.map WData.int)→IntsAre vs ns:=by
 intro ns
 induction ns with
 | nil =>
  intro vs w
  rw [map_nil] at w
  cases w
  exact .nil
 | cons n ns ih =>
  intro vs w
  rw [map_cons] at w
  cases w with
  | cons a b =>
   cases a
   exact .cons _ _ (ih _ b)
theorem AcN {l:OpenLaw} (hn:l.most = some n) {P:Params} {h:Heap} {args:List WData} {a2:List Value}
  (a1:l.row.toRowW.claim.pre args = true) (a6:WellAll P h a2 args) :
  ∃ a vs ns,a2 = [Value.ref a]∧args = [WData.list (ns.map WData.int)]∧h.get? a = some { cls:=.type "list", data:=.seq vs.toArray }∧IntsAre vs ns∧ns.length≤n:=by
 have a5:WShape.hasAll [] args [.list .int] = true:=(pre_splitW a1).1
 have hc:l.pre.holds [] { args:=args } = true:=(pre_splitW a1).2
 obtain ⟨d,r,rfl,h1,h2⟩:=hasAllW_cons a5
 obtain rfl:=hasAllW_nil h2
 obtain ⟨xs,rfl,h3⟩:=hasW_list h1
 obtain ⟨ns,rfl⟩:=items_int h3
 have a3:ns.length≤n:=by
  unfold OpenLaw.pre at hc
  have h4:(WTm.not (.lt (.lit (.int (n:Int))) (.len (.arg 0)))).holds [] { args:=[.list (ns.map .int)] } = true:=by
   have h4:=(holds_andW hc).1
   rw [hn] at h4
   exact h4
  have h5:=condW_of h4 (w_not (w_lt w_lit (w_len_list (w_arg rfl))))
  rw [length_map] at h5
  refine Nat.le_of_not_lt λ q=>?_
  have q':(n:Int) < ((ns.length:Nat):Int):=by omega
  first
   | (rw [decide_eq_true q'] at h5; exact absurd h5 (by decide))
   | (simp at h5; omega)
 cases a6 with
 | cons w1 w2 =>
  cases w2
  cases w1 with
  | list ho a4=>exact ⟨_,_,ns,rfl,rfl,ho,Rh ns _ a4,a3⟩
theorem Acg (l:OpenLaw) (args:List WData):l.row.toRowW.claim.post args (.bool true) args = true :=
 postW_of (r:=l.row.toRowW) (X:=(true == true))
  (show WShape.has [] (.bool true) .bool = true by first | rfl | decide | simp [WShape.has,WShape.arms,WShape.armsAll])
  (show (WTm.eq .res (.lit (.bool true))).value [] { args:=args,res:=some (.bool true),after:=args } = some (.bool (true == true)) from w_eq_bool (w_res rfl) w_lit) rfl
theorem Ag2 {l:OpenLaw} {q:Program} {a2:List Str} {XP:(Str→Option Value)→Heap→Prop} {YP:World→Heap→Prop} {d:DefRec}
  (hn:l.most = some n) (a7:d.params.defaults = [])
  (call:∀ (w:World) (s₀ a1:Shared) (mg mb:Str→Option Value) (fa:Addr) (o:Obj) (pm cd doc:Value) (a:Addr) (vs:List Value) (ns:List Int),
   Ground q a2 [] XP w s₀ mg mb a1.heap→YP w a1.heap →
   a1.heap.get? fa = some o→o.data = .func (docDef d.name d.params d.body d.scope pm cd doc)→a1.heap.CodeRec cd d.name→mg d.name = some (.ref fa) →
   a1.heap.get? a = some { cls:=.type "list", data:=.seq vs.toArray }→IntsAre vs ns→ns.length≤n→a1.gens = #[] →
   codeAny (model l.prog w) callerA (.call (.ref fa) ⟨[.ref a],[]⟩) (λ r s'=>r = .ok (.ret (.bool true))∧OldK a1.heap s'.heap∧s'.os = a1.os∧AllBare s'.gens) a1) :
  WalkO q a2 XP YP l.row.toRowW d [] (λ f vs=>PySem.call f vs):=by
 intro w s₀ a1 mg mb G Y fa o pm cd doc dV kV ho hd a9 hD a8 hg args b8 as a4 b7 c0 b6 b9
 obtain rfl:dV = .none:=Dflts.none hD a7
 obtain rfl:kV = .none:=Dflts.noKw hD
 obtain ⟨a,vs,ns,rfl,rfl,a6,a3,a5⟩:=AcN hn a4 b6
 refine enter_call (codeAny_mono (call w s₀ a1 mg mb fa o pm cd doc a vs ns G Y ho (fd_plain hd) a9 a8 a6 a3 a5 hg) λ r s' hq=>?_)
 obtain ⟨rfl,h2,h3,h4⟩:=hq
 exact ⟨.inl ⟨.bool true,.bool true,[],rfl,λ _=>rfl,.bool true,Acg l _,λ _=>⟨Pairwise.nil,λ _ hm=>(nomatch hm)⟩⟩,h2,h3,h4⟩
section
variable {s:Shared} {K:Frag}
def AjB (h:Heap) (L d:Addr):List (Addr× Obj):=(List.range h.objs.size).filterMap λ a=>if a = L∨a = d then none else (h.get? a).map λ o=>(a,o)
end
end Att
namespace L2
open PySem PySem.Spec PyProof.Rows
theorem Kj:∀ {vs:List Value} {ns:List Int},IntsAre vs ns→A5 (ns.map V.int) vs
 | _,_,.nil=>.nil
 | _,_,.cons n t h=>.cons ⟨t,rfl⟩ (Kj h)
def Acy (H:Hp):Prop:=∀ b,H b = none∨∃ o xs,H b = some (.frz o (.lst xs))
theorem Adz {mb:Str→Option Value} {CX:CXT} {k:Nat} {fa:Addr} {a1:Shared} {vs:List Value} {ns:List Int}
  (KX:K.In a1.heap) (a6:a1.heap.Ns mainGlobals mg) (hb:a1.heap.Ns builtinsNs mb) (b7:∀ x:Str,x≠ "__name__" → mb x = bootBuiltins x) (a8:a1.heap.NoLimit) (hg:a1.gens = #[])
  (ha:a1.heap.get? a = some { cls:=.type "list", data:=.seq vs.toArray }) (hi:IntsAre vs ns) (hl:ns.length≤sizeLine) (hr:Bp k callerA)
  (F:∀ base:Heap,K.In base→base.Ns mainGlobals mg→Bi P w K mg base CX k fa fd [x] sp) (a5:∀ (s:Shared) (u:Value),BindsTo s fd ⟨[u],[]⟩ [(x,u)])
  (c0:∀ H:Hp,Acy H→SqL K H a (ns.map V.int)→sp [.ref a] H (λ v _=>v = .bl true) λ _ _ _=>False)
  (b8:∀ H e s',CX [] H a1 (λ _ _ _=>False) e s'→False) :
  codeAny (model P w) callerA (.call (.ref fa) ⟨[.ref a],[]⟩) (λ r s'=>r = .ok (.ret (.bool true))∧OldK a1.heap s'.heap∧s'.os = a1.os∧AllBare s'.gens) a1:=by
 have rv:=Kj hi
 have b6:=hi.length
 have a4:∀ H:Hp,Acy H→SqL K H a (ns.map V.int)→HOk P w H a1.heap→(∀ b,H b≠none→b = a)→(H a≠none→K.lookup a = none) →
   codeAny (model P w) callerA (.call (.ref fa) ⟨[.ref a],[]⟩) (λ r s'=>r = .ok (.ret (.bool true))∧OldK a1.heap s'.heap∧s'.os = a1.os∧AllBare s'.gens) a1:=by
  intro H hO hS hok hA hK
  have a2:∀ {b:Addr} {o:Obj},a1.heap.get? b = some o→H b = none→(Mg a1.heap H).get? b = some o:=λ e n=>AdL e n
  have b9:∀ {b:Addr} {o:Obj} {es:Array DictEntry} {ep:Nat},a1.heap.get? b = some o→o.data = .dict es ep→H b = none:=λ {b o es ep} e d=>by
   cases q:H b with
   | none=>rfl
   | some u =>
    have e':b = a:=hA b (by rw [q]; simp)
    subst e'
    rw [ha] at e; cases e
    have d':Data.seq vs.toArray _ = Data.dict es ep:=d
    cases d'
  have a3:∀ {b:Addr} {m:Str→Option Value},a1.heap.Ns b m→(Mg a1.heap H).Ns b m:=λ {b m} ⟨o,es,ep,e,d,r⟩=>⟨o,es,ep,a2 e (b9 e d),d,r⟩
  have a7:K.In (Mg a1.heap H):=λ b o e=>a2 (KX b o e) (by
   cases q:H b with
   | none=>rfl
   | some u =>
    have e':b = a:=hA b (by rw [q]; simp)
    subst e'
    rw [hK (by rw [q]; simp)] at e; cases e)
  have hM:Mod K mg (Mg a1.heap H):=⟨a7,a3 a6,⟨mb,a3 hb,b7⟩,let ⟨mc,h1,h2⟩:=a8; ⟨mc,a3 h1,h2⟩⟩
  have e0:Kx P w K mg (Mg a1.heap H) callerA [] a1 H:=⟨rfl,hM,λ b o e=>AfE e,le_of_eq (AcV _ _),trivial,λ b hb=>absurd (show b∈([]:List Addr) from hb) (by simp),hok,.of_eq hg⟩
  refine codeAny_mono ((F _ a7 (a3 a6)).run callerA [] a1 H ⟨[.ref a],[]⟩ [.ref a] [.ref a] _ _ hr e0 (a5 a1 (.ref a)) (.cons rfl .nil) (c0 H hO hS)) λ r s' h=>?_
  cases r with
  | error e=>exact (b8 H e s' h).elim
  | ok fl =>
   cases fl with
   | next=>exact False.elim h
   | brk=>exact False.elim h
   | cont=>exact False.elim h
   | ret u =>
    obtain ⟨v,H',os,bare,un,a9,r',q⟩:=h
    have q':v = .bl true:=q
    subst q'
    obtain rfl:u = Value.bool true:=r'
    refine ⟨rfl,OldK.of_keep λ b o e=>?_,os,bare⟩
    cases q:H b with
    | none=>exact un.keep b o e q (by intro z; exact absurd (show b∈([]:List Addr) from z) (by simp)) (by simp)
    | some u =>
     rcases hO b with z | ⟨ob,xs,z⟩
     ·rw [q] at z; cases z
     ·have z2:=un.frzs b ob _ z
      obtain ⟨e1,_⟩:=hok b _ z
      obtain ⟨e2,_⟩:=a9 b _ z2
      rw [e] at e1; cases e1
      exact e2
 cases hk:K.lookup a with
 | some o =>
  have e:=KX a o hk
  rw [ha] at e
  cases e
  refine a4 (λ _=>none) (λ _=>.inl rfl) (.inr ⟨_,vs.toArray,_,hk,rfl,rfl,rfl,by rw [uO,b6]; exact hl,by simpa using rv⟩) (λ b u z=>by have z':(none:Option HO) = some u:=z; cases z') (λ b z=>absurd rfl z) λ z=>absurd rfl z
 | none =>
  refine a4 (λ b=>if b = a then some (.frz { cls:=.type "list", data:=.seq vs.toArray } (.lst (ns.map V.int))) else none) (λ b=>?_) (.inl (.inr ⟨{ cls:=.type "list", data:=.seq vs.toArray },if_pos rfl⟩)) (λ b u z=>?_) (λ b z=>?_) λ _=>hk
  ·by_cases hb:b = a
   ·exact .inr ⟨_,_,if_pos hb⟩
   ·exact .inl (if_neg hb)
  ·by_cases hb:b = a
   ·have z':=(if_pos hb).symm.trans z
    cases z'
    subst hb
    exact ⟨ha,by rw [uD]; exact hl,vs,_,rv,ha⟩
   ·have z':=(if_neg hb).symm.trans z
    cases z'
  ·by_cases hb:b = a
   ·exact hb
   ·exact absurd (if_neg hb) z
abbrev KOf {K:FA} {h:Heap} (_:K.In h):FA:=K
theorem Ait {l:PySem.W.OpenLaw} {k:Nat} {q:Program} {a3:List Str} {XP:(Str→Option Value)→Heap→Prop} {YP:World→Heap→Prop} {d:DefRec} {K:Params→FA} {CX:World→CXT} {sp:World→Sp} 
  (hn:l.most = some n) (a9:n≤sizeLine) (a6:d.params.defaults = []) (hr:Bp k callerA)
  (hY:∀ (w:World) (h:Heap),YP w h→(K w.params).In h)
  (F:∀ (w:World) (mg:Str→Option Value) (fa:Addr) (h:Heap),(K w.params).In h→h.Ns mainGlobals mg→mg d.name = some (.ref fa) →
   ∃ fd:FuncData,(∀ (s:Shared) (u:Value),BindsTo s fd ⟨[u],[]⟩ [(x,u)]) ∧
    ∀ base:Heap,(K w.params).In base→base.Ns mainGlobals mg→Bi l.prog w (K w.params) mg base (CX w) k fa fd [x] (sp w))
  (a7:∀ (w:World) (H:Hp) (a:Addr) (ns:List Int),ns.length≤n→Acy H→SqL (K w.params) H a (ns.map V.int)→sp w [.ref a] H (λ v _=>v = .bl true) λ _ _ _=>False)
  (b6:∀ (w:World) (H:Hp) (s:Shared) (e:Value) (s':Shared),CX w [] H s (λ _ _ _=>False) e s'→False) :
  PySem.W.WalkO q a3 XP YP l.row.toRowW d [] (λ f vs=>PySem.call f vs):=by
 refine Att.Ag2 hn a6 λ w s₀ a4 mg mb fa o pm cd doc a vs ns G Y ho hd b7 a8 a5 a2 a1 hg=>?_
 have KX:=hY w _ Y
 obtain ⟨fd,hb,hF⟩:=F w mg fa _ KX G.T.g a8
 exact Adz KX G.T.g G.T.b G.T.builtins G.T.nolimit hg a5 a2 (uX a1 a9) hr hF hb (λ H hO hS=>a7 w H a ns a1 hO hS) λ H e s'=>b6 w H a4 e s'
def Bz (s:Stmt) (j:Nat):Stmt:=match s with
 | .ClassDef _ _ _ body _ _ _ _ _ _ _=>body.getD j (.Pass ⟨0,0,0,0⟩)
 | _=>.Pass ⟨0,0,0,0⟩
def Ct (s:Stmt):Arguments:=match s with
 | .FunctionDef _ a _ _ _ _ _ _ _ _=>a
 | _=>{ posonlyargs:=[],args:=[],vararg:=none,kwonlyargs:=[],kw_defaults:=[],kwarg:=none,defaults:=[] }
def Bx (s:Stmt):List Stmt:=match s with
 | .FunctionDef _ _ b _ _ _ _ _ _ _=>b
 | _=>[]
def Aj (s:Stmt):Scope:=match s with
 | .FunctionDef _ _ _ _ _ _ sc _ _ _=>sc
 | _=>{ kind:=.function,names:=[],isGenerator:=false,isCoroutine:=false }
abbrev CX0:CXT:=λ _ _ _ _ _ _=>False
abbrev E0:XK:=λ _ _ _=>False
theorem Av :Dr CX0 X E0:=λ _ _ _ _ _ _ _ h=>h.elim
structure Fun (K:FA) (x qual:Str) (st:Stmt) (f:Addr) (fd:FuncData):Prop where
 ex:∃ (oc:Value) (od:Option Addr) (kV doc pm:Value) (an:Option Addr) (cdv ct:Value) (osl:Array (Option Value)),
  fd = fnOf x qual (Ct st) (Bx st) (Aj st) .none kV doc pm an cdv ct∧K.lookup f = some ⟨oc,od,.func fd,osl⟩∧codeIn K cdv qual = true
 kp:keepIn K (.ref f) = true
theorem Fun.ok {qual:Str} {st:Stmt} {N:List Str} {k:Nat} (F:Fun K x qual st f fd) (S:Ar N ps (Aj st)) (len:∀ vs H Q E,sp vs H Q E→vs.length = ps.length)
  (a1:∀ (cdv:Value) (A:Around) (outer:List Env) (s:Shared) (H:Hp) (vs:List V) (Q:VK) (E:XK),Bp k (A.deeper (envOfC qual (Aj st) s.heap.objs.size f cdv))→sp vs H Q E →
   ∃ t,PSs (cxOf CX0 P w K mg base N qual (Aj st) f cdv A outer s H E).nox (Bx st) t∧t { nx:=λ _ H'=>Q .non H',rt:=Q } (Eu N vs) H):Bi P w K mg base CX0 (k + 1) f fd ps sp:=by
 obtain ⟨oc,od,kV,doc,pm,an,cdv,ct,osl,rfl,lk,a3⟩:=F.ex
 refine Aax lk a3 S len λ A outer s H vs Q E hr a2=>?_
 obtain ⟨t,h,q⟩:=a1 cdv A outer s H vs Q E hr a2
 exact ⟨t,h.nox,q⟩
theorem Fun.binds {qual:Str} {st:Stmt} (F:Fun K x qual st f fd)
  (h:∀ (kV doc pm:Value) (an:Option Addr) (cdv ct:Value) (us:List Value),us.length = ps.length→bindArgs (fnOf x qual (Ct st) (Bx st) (Aj st) .none kV doc pm an cdv ct) ⟨us,[]⟩ = pure (ps.zip us)):Br K fd ps []:=by
 obtain ⟨oc,od,kV,doc,pm,an,cdv,ct,osl,rfl,lk,a1⟩:=F.ex
 exact .all (h kV doc pm an cdv ct)
theorem D6 {qual:Str} {st:Stmt} {oc:Value} {od an:Option Addr} {osl:Array (Option Value)} {kV doc pm cdv ct:Value} (l:K.lookup f = some ⟨oc,od,.func (fnOf x qual (Ct st) (Bx st) (Aj st) .none kV doc pm an cdv ct),osl⟩)
  (c:codeIn K cdv qual = true) (k:keepIn K (.ref f) = true):Fun K x qual st f (fnOf x qual (Ct st) (Bx st) (Aj st) .none kV doc pm an cdv ct):=⟨⟨oc,od,kV,doc,pm,an,cdv,ct,osl,rfl,l,c⟩,k⟩
theorem Aal {k:Nat} (hr:Bp k A):A.units + 1 < cLine:=vA (Nat.add_le_add_left (by decide:1≤64) _) hr.units
theorem Ip (h:n≤1000):n < sizeLine:=vA h (by decide)
theorem pv (i:Nat) (hN:X.N[i]? = some x:=by rfl) (hv:Vis X.env.scope x:=by first | exact Or.inl rfl | exact Or.inr (Or.inl rfl) | exact Or.inr (Or.inr rfl)) (hd:(x == ("__debug__" : Str)) = false:=by decide)
  (a1:(x == ("__classdict__" : Str)) = false:=by decide):PE X (.Name x pos) (Bl i):=Ags hN hv hd a1
theorem Bj {A B:Prop} (h:B):if false = true then A else B:=by
 rw [if_neg Bool.false_ne_true]
 exact h
theorem Bs {A B:Prop} (h:A):if true = true then A else B:=by
 rw [if_pos rfl]
 exact h
theorem K6 {c A B:Prop} [Decidable c] (h1:c→A) (h2:¬ c→B):if c then A else B:=by
 by_cases h:c
 ·rw [if_pos h]
  exact h1 h
 ·rw [if_neg h]
  exact h2 h
def Same (H H':Hp):Prop:=∀ b o,H b = some o→H' b = some o
theorem Same.refl (H:Hp):Same H H:=λ _ _ h=>h
theorem Same.trans {H1:Hp} (a:Same H H1) (b:Same H1 H2):Same H H2:=λ c o h=>b c o (a c o h)
theorem Same.free (e:Same H H') {l:Addr} (h:H' l = Option.none):H l = Option.none:=by
 cases q:H l with
 | none=>rfl
 | some o =>
  rw [e l o q] at h
  cases h
theorem Same.seq (e:Same H H') (h:SqL K H a xs):SqL K H' a xs:=by
 rcases h with (h | ⟨o,h⟩) | h
 ·exact .inl (.inl (e _ _ h))
 ·exact .inl (.inr ⟨o,e _ _ h⟩)
 ·exact .inr h
theorem Ab0 {R:Result→Shared→Prop} {XE:Value→Shared→Prop} (I:Nat→Shared→Prop)
  (b8:∀ n s,I n s→wpAny (model prog w) A (pyNext it) (λ r a2=>match r with
   | none=>R (.ok .next) a2
   | some v=>wpAny (model prog w) A (letOwnedTupleGo a1 it v) (λ _ s₀=>wpAny (model prog w) A (assign a1 env v) (λ _ a5 =>
     wpAny (model prog w) A (forIn ifs true λ c r=>if r = true then do let ok ← isTrue c env (eval c env); pure (ForInStep.yield ok) else pure (ForInStep.yield r)) (λ ok a3 =>
      if ok = true then wpAny (model prog w) A (eval elt env) (λ x a8 =>
       wpAny (model prog w) A (call (.builtin "list.append") [a9,x]) (λ _ a6=>∃ m,m < n∧I m a6) XE a8) XE a3
      else ∃ m,m < n∧I m a3) XE a5) XE s₀) XE a2) XE s)
  (hx:∀ e s,XE e s→notedBy (model prog w) A env (λ e s=>R (.error e) s) e s)
  (n:Nat) (h:I n s) :
  codeAny (model prog w) A (.compLoop (.ListComp elt [⟨a1,iter,ifs,0⟩] scope pos) 0 it a9 env) R s:=by
 refine codeAny_loop rfl I (λ n s hI=>?_) n h
 show wpAny _ A ((compTurn (.ListComp elt [⟨a1,iter,ifs,0⟩] scope pos) 0 it a9 env).onRaise (λ x=>do noteFrame x env; theTreesLotGoes x)) _ _ s
 refine wpAny_noted ?_
 rw [compTurn_list]
 refine uA (wpAny_standAt (uA (vS (b8 n s hI) (λ r a2 a7=>?_) hx)))
 cases r with
 | none=>exact uB a7
 | some v =>
  refine uA (vS a7 (λ _ s₀ h₀=>?_) hx)
  refine uA (vS h₀ (λ _ a5 b6=>uA (vS b6 (λ ok a3 a4=>?_) hx)) hx)
  cases ok with
  | false=>exact uB ⟨rfl,a4⟩
  | true =>
   exact uA (uA (vS a4 (λ x a8 b7=>uA (vS b7 (λ _ a6 b9=>uB (uB ⟨rfl,b9⟩)) hx)) hx))
theorem Lv (hf:∀ y∈scope.names,y.2 = .free→∃ c,env.cells.lookup y.1 = some c) :
  ∃ cl,closureFor scope env = pure cl∧(∀ x c,cl.lookup x = some c→env.cells.lookup x = some c)∧∀ x,(x,NameKind.free)∈scope.names→∃ c,cl.lookup x = some c:=by
 have go:∀ (l:List (Str× NameKind)) (a1:List (Str× Addr)),(∀ y∈l,y.2 = .free→∃ c,env.cells.lookup y.1 = some c)→(∀ x c,a1.lookup x = some c→env.cells.lookup x = some c) →
   ∃ cl:List (Str× Addr),(forIn l a1 (λ x (r:List (Str× Addr))=>match x with | (name,kind)=>if (kind == NameKind.free) = true then do let a ← cellOf env name; pure (ForInStep.yield ((name,a) :: r)) else pure (ForInStep.yield r)):Sem (List (Str× Addr))) = pure cl ∧
    (∀ x c,cl.lookup x = some c→env.cells.lookup x = some c)∧(∀ x,(x,NameKind.free)∈l→∃ c,cl.lookup x = some c)∧∀ x c,a1.lookup x = some c→∃ c',cl.lookup x = some c':=by
  intro l
  induction l with
  | nil=>intro a1 _ ha; exact ⟨a1,rfl,ha,λ x h=>absurd h (by simp),λ x c h=>⟨c,h⟩⟩
  | cons y r ih =>
   intro a1 hl ha
   obtain ⟨name,kind⟩:=y
   by_cases hk:kind = .free
   ·subst hk
    obtain ⟨c,hc⟩:=hl (name,.free) uH rfl
    have a2:∀ x c',((name,c) :: a1).lookup x = some c'→env.cells.lookup x = some c':=λ x c' h=>by
     rw [vR] at h
     cases e:x == name with
     | true=>rw [e] at h; cases h; rw [eq_of_beq e]; exact hc
     | false=>rw [e] at h; exact ha x c' h
    obtain ⟨cl,e,h1,h2,h3⟩:=ih ((name,c) :: a1) (λ y hy=>hl y (uI _ hy)) a2
    refine ⟨cl,?_,h1,λ x hx=>?_,λ x c' h=>?_⟩
    ·rw [forIn_cons,← e]
     have ec:cellOf env name = pure c:=by unfold cellOf; rw [hc]
     show (if (NameKind.free == NameKind.free) = true then _ else _) >>= _ = _
     rw [if_pos (by rfl),ec]
     rfl
    ·rcases vI.mp hx with z | z
     ·cases z
      exact h3 name c (by rw [vR]; simp)
     ·exact h2 x z
    ·cases e:x == name with
     | true=>exact h3 x c (by rw [vR,e])
     | false=>exact h3 x c' (by rw [vR,e]; exact h)
   ·have hb:(kind == NameKind.free) = false:=by simpa using hk
    obtain ⟨cl,e,h1,h2,h3⟩:=ih a1 (λ y hy=>hl y (uI _ hy)) ha
    refine ⟨cl,?_,h1,λ x hx=>?_,h3⟩
    ·rw [forIn_cons,← e]
     show (if (kind == NameKind.free) = true then _ else _) >>= _ = _
     rw [if_neg (by rw [hb]; decide)]
     rfl
    ·rcases vI.mp hx with z | z
     ·cases z; exact absurd rfl hk
     ·exact h2 x z
 obtain ⟨cl,e,h1,h2,_⟩:=go scope.names [] hf (λ x c h=>by simp at h)
 refine ⟨cl,?_,h1,h2⟩
 unfold closureFor
 show (forIn scope.names [] _ >>= λ cs=>pure cs) = _
 refine Eq.trans (congrArg (λ t=>t >>= λ cs=>pure cs) e) ?_
 rfl
theorem Hs {env:Env}:∀ {names:List (Str× NameKind)} {x:Str} {k':NameKind},
  (names.map λ (n,k)=>if (k == NameKind.free && env.scope.kind == .function && env.kindOf n == some .cell) then (n,NameKind.cell) else (n,k)).lookup x = some k' →
  ∃ k,names.lookup x = some k∧(k' = k∨(k = .free∧k' = .cell))
 | [],_,_,h=>by simp at h
 | (n,k) :: r,x,k',h=>by
  have ih:=@Hs env r x k'
  have h:List.lookup x ((if (k == NameKind.free && env.scope.kind == .function && env.kindOf n == some .cell) = true then (n,NameKind.cell) else (n,k)) :: r.map λ (n,k)=>if (k == NameKind.free && env.scope.kind == .function && env.kindOf n == some .cell) then (n,NameKind.cell) else (n,k)) = some k':=h
  by_cases hc:(k == NameKind.free && env.scope.kind == .function && env.kindOf n == some .cell) = true
  ·rw [if_pos hc,vR] at h
   rw [vR]
   cases e:x == n with
   | true =>
    rw [e] at h
    cases h
    refine ⟨k,rfl,.inr ⟨?_,rfl⟩⟩
    simp only [Bool.and_eq_true,beq_iff_eq] at hc
    exact hc.1.1
   | false=>rw [e] at h; exact ih h
  ·rw [if_neg hc,vR] at h
   rw [vR]
   cases e:x == n with
   | true=>rw [e] at h; cases h; exact ⟨k,rfl,.inl rfl⟩
   | false=>rw [e] at h; exact ih h
def Cp (X:Cx) (s2:Shared) (H2:Hp) (fp:List Addr) (N:List Str) (scope:Scope) (cl:List (Str× Addr)) (C:Addr):Cx where
 prog:=X.prog
 w:=X.w
 K:=X.K
 mg:=X.mg
 base:=X.base
 A:=X.A
 N:=N
 s₀:=s2
 H₀:=H2
 env:=compEnvC scope cl C X.env
 outer:=X.stack
 stack:=X.stack
 ex:=fp
 fn:=λ _=>false
 calm:=X.calm
 pn:=[]
 xe:=λ _ _=>False
def O1 (k:Nat) (g:TG):Prop:=∀ x σ H Q,g x σ H Q→g x σ H λ σ2 H2=>(∀ i,k≤i→σ2[i]? = σ[i]?)∧Q σ2 H2
theorem Cr (h:i < k):O1 k (Cg i):=λ x σ H Q q=>⟨λ j hj=>by rw [vK (by omega)],q⟩
theorem Rb {k i j:Nat} (hi:i < k) (hj:j < k):O1 k (Aa4 K n (Md (Cg i) (Md (Cg j) AaY))):=by
 rintro x σ H Q ⟨a,xs,e1,hq,hl,v,r,e2,v',r',e3,e4,q⟩
 exact ⟨a,xs,e1,hq,hl,v,r,e2,v',r',e3,e4,λ l hl=>by rw [vK (by omega),vK (by omega)],q⟩
def Ro (X:Cx) (ifs:List Expr) (t:TT):Prop :=
 ∀ (pins:List (Addr× Obj)) (s:Shared) (σ:St) (H:Hp) (Q:Bool→Hp→Prop),Inv X pins σ H s→t σ H Q →
  wpAny (model X.prog X.w) X.A (forIn ifs true λ c r=>if r = true then do let ok ← isTrue c X.env (eval c X.env); pure (ForInStep.yield ok) else pure (ForInStep.yield r)) (TP X pins σ Q) X.xe s
def Gj:TT:=λ _ H Q=>Q true H
theorem Hk :Ro X [] Gj:=λ pins s σ H Q I h=>wpAny_tests_nil ⟨H,I,h⟩
theorem Jq {t:TT} (h:PT X c t):Ro X [c] t:=λ pins s σ H Q I q=>wpAny_tests_one (h pins s σ H Q I q)
def Nm (k:Nat) (js:List Nat) (σ:St):St:=List.replicate k none ++ js.map λ j=>(σ[j]?).join
def AeZ (k:Nat) (js:List Nat) (wi:TI) (g:TG) (tc:TT) (te:TE):TE:=λ σ H Q=>wi σ H λ J H1=>∃ W:Nat→Nat→List V→Hp→Prop,(∃ m,W 0 m [] H1)∧∀ i m ys H,W i m ys H →
 (J.stop i H∧∀ D,H D = none→Q (.ref D) (upd H D (.lst ys))) ∨
 (J.go i H∧ys.length < sizeLine∧∀ x H',J.yld i H x H'→g x (Nm k js σ) H' λ σ2 H2=>tc σ2 H2 λ b H3=>if b = true then te σ2 H3 λ y H4=>∃ m',m' < m∧W (i + 1) m' (ys ++ [y]) H4 else ∃ m',m' < m∧W (i + 1) m' ys H3)
theorem Un.later {H1:Hp} (u:Un fs ex H H1 h h1) (ok:HOk P w H h) (ag:∀ b,b < h.objs.size→H2 b = H1 b) (k:∀ b o,b < h.objs.size→h1.get? b = some o→h2.get? b = some o):Un fs ex H H2 h h2 where
 keep:=λ b o e n hb hx=>k b o (Heap.lt_size e) (u.keep b o e n hb hx)
 slot:=λ b o e n hb hx=>let ⟨sl,q⟩:=u.slot b o e n hb hx; ⟨sl,k b _ (Heap.lt_size e) q⟩
 free:=λ b o e n hx=>by rw [ag b (Heap.lt_size e)]; exact u.free b o e n hx
 there:=λ b o e hx=>let ⟨o',q⟩:=u.there b o e hx; ⟨o',k b _ (Heap.lt_size e) q⟩
 tups:=λ b xs e=>by rw [ag b (ok.lt e)]; exact u.tups b xs e
 frzs:=λ b o x e=>by rw [ag b (ok.lt e)]; exact u.frzs b o x e
 tbls:=λ b ps e=>by rw [ag b (ok.lt e)]; exact u.tbls b ps e
section
variable {elt tg iter:Expr} {ifs:List Expr} {scope:Scope} {wi:TI} {g:TG} {tc:TT}
structure Li (X:Cx) (scope:Scope) (own:List Str) (fr:List (Str× Nat)):Prop where
 kind:scope.kind = .function
 cell:∀ y∈scope.names,y.2≠.cell
 loc:∀ y∈scope.names,y.2 = .local→scope.names.lookup y.1 = some .local
 free:∀ y∈scope.names,y.2 = .free→X.env.kindOf y.1 = some .cell
 fr:∀ p∈fr,scope.names.lookup p.1 = some .free∧X.N[p.2]? = some p.1
def Z2 (sc scope:Scope) (N:List Str) (fr:List (Str× Nat)):Bool :=
 (decide (scope.kind = .function) && scope.names.all (λ y=>decide (y.2≠.cell)) && scope.names.all (λ y=>decide (y.2 = .local→scope.names.lookup y.1 = some .local)) &&
  scope.names.all (λ y=>decide (y.2 = .free→sc.names.lookup y.1 = some .cell)) && fr.all λ p=>decide (scope.names.lookup p.1 = some .free) && decide (N[p.2]? = some p.1))
theorem Ei (sc:Scope) (N:List Str) (h:Z2 sc scope N fr = true) (hs:X.env.scope = sc:=by rfl) (hN:X.N = N:=by rfl):Li X scope own fr:=by
 subst hs hN
 unfold Z2 at h
 simp only [Bool.and_eq_true,all_eq_true,decide_eq_true_eq] at h
 obtain ⟨⟨⟨⟨h1,h2⟩,h3⟩,h4⟩,h5⟩:=h
 exact ⟨h1,h2,h3,h4,h5⟩
theorem N4 {tn:Nat→Heap→Prop} {E:Value→Shared→Prop}
  {W:Nat→Nat→List V→Hp→Prop} {RR:Value→Addr→Result→Shared→Prop} {Fin:Addr→List V→Hp→Prop} (XE:Addr→Value→Shared→Prop)
  (hc:X.calm = true) (S:Li X scope own fr) (a6:∀ x c,cl.lookup x = some c→X.env.cells.lookup x = some c) (f3:∀ x,(x,NameKind.free)∈scope.names→∃ c,cl.lookup x = some c)
  (hg:∀ C,PG ((Cp X s2 H2 fp (own ++ fr.map (·.1)) scope cl C).wish (XE C)) tg g) (hk:O1 own.length g)
  (hi:∀ C,Ro ((Cp X s2 H2 fp (own ++ fr.map (·.1)) scope cl C).wish (XE C)) ifs tc) (he:∀ C,PE ((Cp X s2 H2 fp (own ++ fr.map (·.1)) scope cl C).wish (XE C)) elt te)
  (I2:Inv X pins σ H2 s2) (T:N2 X.prog X.w X.K tg J fp it tn) (d9:tn 0 s2.heap) (f2:∀ b∈fp,Hf X pins H2 b) (w0:W 0 m0 [] H2)
  (g7:∀ i m ys H,W i m ys H →
   (J.stop i H∧∀ D,H D = none→Fin D ys H) ∨
   (J.go i H∧ys.length < sizeLine∧∀ x H',J.yld i H x H'→g x (Nm own.length (fr.map (·.2)) σ) H' λ f7 H2=>tc f7 H2 λ b H3=>if b = true then te f7 H3 λ y H4=>∃ m',m' < m∧W (i + 1) m' (ys ++ [y]) H4 else ∃ m',m' < m∧W (i + 1) m' ys H3))
  (i7:∀ D C oC mC s4 H4 ys,Fin D ys H4→Inv X (pins ++ [(C,oC)]) σ (upd H4 D (.lst ys)) s4→s4.heap.Ns C mC→Hf X pins (upd H4 D (.lst ys)) C→RR (.ref D) C (.ok .next) s4)
  (hx:∀ D C e s,s2.heap.objs.size≤C→XE C e s→notedBy (model X.prog X.w) X.A (compEnvC scope cl C X.env) (λ e s=>RR (.ref D) C (.error e) s) e s) :
  wpAny (model X.prog X.w) X.A (newList []) (λ g3 a7=>wpAny (model X.prog X.w) X.A (newFunctionEnv scope X.env.globals cl [] X.env.qual none .none (some X.env)) (λ c9 g8 =>
   codeAny (model X.prog X.w) X.A (.compStart (.ListComp elt [⟨tg,iter,ifs,0⟩] scope pos) 0 (.ref it) g3 { c9 with scope:=relabel scope X.env }) (RR g3 c9.locals) g8) E a7) E s2:=by
 refine wpAny_newObj_type (wpAny_newFunctionEnv S.cell (by intro y hy; simp at hy) (λ a9 a5 a2=>?_) S.kind)
 dsimp only at a5 a2 ⊢
 generalize e4:s2.heap.push { cls:=.type "list", dict:=none,data:=.seq ([]:List Value).toArray } = Hh at a5 a2 ⊢
 have hC:Hh.objs.size = s2.heap.objs.size + 1:=by rw [← e4,Heap.size_push]
 have b7:s2.heap.objs.size≠Hh.objs.size:=by rw [hC]; exact vB (lt_succ_self _)
 have a3:s2.heap.objs.size≤Hh.objs.size:=by rw [hC]; exact le_succ _
 have old:∀ b o,s2.heap.get? b = some o→a9.get? b = some o:=λ b o e=>a2.extBut b o (vB (uZ (Heap.lt_size e) a3)) (Heap.get?_push_of_some _ (e4 ▸ Heap.get?_push_of_some _ e))
 have g6:a9.get? s2.heap.objs.size = some (LCg.lst []):=a2.extBut _ _ b7 (Heap.get?_push_of_some _ (e4 ▸ Heap.get?_push_size _ rfl))
 let Y:Cx:=(Cp X s2 H2 fp (own ++ fr.map (·.1)) scope cl Hh.objs.size).wish (XE Hh.objs.size)
 let D:=s2.heap.objs.size
 let σY:St:=Nm own.length (fr.map (·.2)) σ
 have c0:∀ b∈fp,b < s2.heap.objs.size:=λ b hb=>let ⟨o,e,_⟩:=T.obj 0 _ d9 b hb; Heap.lt_size e
 have g1:∀ b,s2.heap.objs.size≤b→b∉Y.fs:=λ b hb z=>by
  rcases vI.mp (I2.stkSub b z) with e | e
  ·rw [e] at hb; exact absurd I2.lt (not_lt.mpr hb)
  ·exact I2.nofs hb e
 have i5:∀ x,(Y.env.kindOf x = some .cell∨Y.env.kindOf x = some .free)→scope.names.lookup x = some .free:=λ x hx=>by
  have q:∃ k',(relabel scope X.env).names.lookup x = some k'∧(k' = .cell∨k' = .free):=by
   rcases hx with z | z
   ·exact ⟨_,z,.inl rfl⟩
   ·exact ⟨_,z,.inr rfl⟩
  obtain ⟨k',e,h7⟩:=q
  obtain ⟨k,e',h'⟩:=Hs e
  have nc:k≠.cell:=S.cell (x,k) (PySem.mem_of_lookup e')
  rcases h' with z | ⟨z,_⟩
  ·subst z
   rcases h7 with z | z
   ·exact absurd z nc
   ·rw [z] at e'; exact e'
  ·rw [z] at e'; exact e'
 have g2:Y.Ok:=by
  refine ⟨I2.ok.mod,S.kind,I2.ok.glob,I2.ok.blt,a3,λ x y c h1 h2=>I2.ok.inj x y c (a6 x c h1) (a6 y c h2),λ x hx=>f3 x (PySem.mem_of_lookup (i5 x hx)),(λ x c z _=>nomatch z),I2.ok.hd,I2.ok.frames,.inl rfl,λ b hb=>⟨?_,λ x c e=>(f2 b hb).2.2.2.2.1 x c (a6 x c e)⟩,
   λ b o e=>I2.bs b o e,uX I2.ok.bsz I2.sz,λ b o e hb=>?_,λ b hb z=>?_,I2.stack,I2.stkFree⟩
  ·exact vB (uZ (c0 b hb) a3)
  ·rcases (f2 b hb).2.2.2.1 with z | z
   ·exact I2.ok.noex b o e z
   ·exact absurd (uZ (Heap.lt_size e) (uX I2.ok.bsz z)) (lt_irrefl _)
  ·rcases vI.mp (I2.stkSub b z) with e | e
   ·exact (f2 b hb).2.1 e
   ·exact (f2 b hb).2.2.1 e
 have c8:σY.length = Y.N.length:=by
  show (Nm own.length (fr.map (·.2)) σ).length = (own ++ fr.map (·.1)).length
  unfold Nm
  rw [uF,uF,List.length_replicate,uD,uD,uD]
 have e5:∀ (h:Heap) (m:Str→Option Value),(∀ c v,(∃ x,X.env.cells.lookup x = some c)→s2.heap.IsCell c v→h.IsCell c v)→∀ (i:Nat) (x:Str) (v:V),Y.N[i]? = some x→σY[i]? = some (some v)→Vis Y.env.scope x→∃ u,A8 v u∧Afl Y.env h m x u:=by
  intro h m c4 i x v hN a1 hv
  have hN:(own ++ fr.map (·.1))[i]? = some x:=hN
  have a1:(List.replicate own.length none ++ (fr.map (·.2)).map λ j=>(σ[j]?).join)[i]? = some (some v):=a1
  by_cases c3:i < own.length
  ·rw [List.getElem?_append_left (by simpa using c3),List.getElem?_replicate,if_pos c3] at a1
   cases a1
  ·rw [List.getElem?_append_right (by simpa using c3)] at a1
   rw [List.getElem?_append_right (by simpa using c3)] at hN
   rw [List.length_replicate] at a1
   rw [uJ] at hN
   rw [uJ,uJ] at a1
   cases ep:fr[i - own.length]? with
   | none=>rw [ep] at hN; cases hN
   | some p =>
    rw [ep] at hN a1
    cases hN
    have a1:(σ[p.2]?).join = some v:=Option.some.inj a1
    obtain ⟨a8,i4⟩:=S.fr p (uQ ep)
    have g0:X.env.kindOf p.1 = some .cell:=S.free (p.1,.free) (PySem.mem_of_lookup a8) rfl
    obtain ⟨m',j0,i6⟩:=I2.loc
    have g5:σ[p.2]? = some (some v):=by
     cases e:σ[p.2]? with
     | none=>rw [e] at a1; cases a1
     | some o=>rw [e] at a1; cases o with
      | none=>cases a1
      | some v'=>cases a1; rfl
    obtain ⟨u,r,l⟩:=i6 p.2 p.1 v i4 g5 (.inr (.inl g0))
    refine ⟨u,r,?_⟩
    rcases l with ⟨l,_⟩ | ⟨_,c,e9,e8⟩
    ·rw [g0] at l; cases l
    ·obtain ⟨c',f5⟩:=f3 p.1 (PySem.mem_of_lookup a8)
     have e2:=a6 _ _ f5
     rw [e9] at e2
     cases e2
     refine .inr ⟨?_,c,f5,c4 c _ ⟨_,e9⟩ e8⟩
     rcases hv with z | z | z
     ·obtain ⟨k,e1,e3⟩:=Hs z
      rw [a8] at e1
      cases e1
      rcases e3 with e3 | ⟨_,e3⟩
      ·exact .inr (by cases e3)
      ·exact .inr (by cases e3)
     ·exact .inl z
     ·exact .inr z
 have IY:Inv Y [(D,LCg.lst [])] σY H2 { s2 with heap:=a9,toks:=s2.toks + ([]:List (Str× Value)).length }:=by
  refine ⟨g2,rfl,I2.bare,Un.kept old,⟨_,a5,e5 _ _ λ c v _ ⟨o,e,d⟩=>⟨o,old c o e,d⟩⟩,λ x c e=>?_,I2.hok.fresh a3,λ x c e=>I2.freeC x c (a6 x c e),λ p hp=>?_,I2.hok.kept old,c8⟩
  ·obtain ⟨v,o,e1,d⟩:=I2.cell x c (a6 x c e)
   exact ⟨v,o,old c o e1,d⟩
  ·have hp:p∈[(D,LCg.lst [])]:=by simpa [Y,Cp] using hp
   rw [mS hp]
   exact ⟨g6,I2.hok.fresh (uY _),b7,g1 _ (uY _),λ v z=>nomatch z⟩
 have b8:∀ {us:List Value} {H':Hp},(∀ b∈fp,H' b = none)→∀ b∈fp,Hf Y [(D,LCg.lst us)] H' b:=λ {us H'} hn b hb=>by
  refine ⟨hn b hb,vB (uZ (c0 b hb) a3),λ z=>?_,.inl hb,λ x c e=>(f2 b hb).2.2.2.2.1 x c (a6 x c e),λ p hp=>?_⟩
  ·exact g2.exfs b hb z
  ·have hp:p∈[(D,LCg.lst us)]:=by simpa [Y,Cp] using hp
   rw [mS hp]
   exact λ z=>absurd (c0 b hb) (by rw [← z]; exact lt_irrefl _)
 have c7:∀ a7:Shared,a7 = { s2 with heap:=a9,toks:=s2.toks + ([]:List (Str× Value)).length } →
   codeAny (model X.prog X.w) X.A (.compLoop (.ListComp elt [⟨tg,iter,ifs,0⟩] scope pos) 0 (.ref it) (.ref s2.heap.objs.size) (compEnvC scope cl Hh.objs.size X.env))
    (RR (.ref s2.heap.objs.size) Hh.objs.size) a7:=by
  rintro a7 rfl
  refine Ab0 (λ n s'=>∃ i ys us H',Inv Y [(D,LCg.lst us)] σY H' s'∧A5 ys us∧ys.length≤sizeLine∧tn i s'.heap∧(∀ b∈fp,H' b = none)∧W i n ys H') ?_ (λ e s=>hx _ _ e s a3) m0
   ⟨0,[],[],H2,IY,.nil,vV _,T.keep _ _ _ d9 λ b _ o e=>old b o e,λ b hb=>(f2 b hb).1,w0⟩
  rintro n s3 ⟨i,ys,us,H3,I3,rv,hsz,f6,f0,w3⟩
  rcases g7 i n ys H3 w3 with ⟨stop,qn⟩ | ⟨go,j4,step⟩
  ·refine thn (T.done Y rfl rfl rfl hc i _ s3 σY H3 _ I3 (b8 f0) f6 stop) λ r s4 ⟨hr,I4⟩=>?_
   subst hr
   have a4:=I4.pin (D,LCg.lst us) (uS _ (vC.mpr rfl))
   obtain ⟨mC,f1,_⟩:=I4.loc
   obtain ⟨oC,i9,j3,h6,i0,i8⟩:=id f1
   have d8:H3 D = none:=a4.2.1
   have ag:∀ b,b < s2.heap.objs.size→(upd H3 D (.lst ys)) b = H3 b:=λ b hb=>upd_ne (vB hb)
   have g4:HOk X.prog X.w (upd H3 D (.lst ys)) s4.heap:=λ a o e=>by
    by_cases ha:a = D
    ·subst ha
     rw [Ae] at e
     cases e
     exact ⟨hsz,us,_,rv,a4.1⟩
    ·rw [upd_ne ha] at e
     refine (I4.hok a o e).stay (λ _ _ _ q=>q) (λ b q=>?_) (λ b xs q=>?_)
     ·rw [upd_ne (Ay q d8)]; exact q
     ·rw [upd_ne (Ay q d8)]; exact q
   have IX:Inv X pins σ (upd H3 D (.lst ys)) s4:=I2.call' (ch:=fp) I4.os (I4.base.later I2.hok ag λ b o _ e=>e) g4 I4.bare λ b hb=>⟨(f2 b hb).2.2.2.1,(f2 b hb).2.1,(f2 b hb).2.2.2.2.1,(f2 b hb).2.2.2.2.2⟩
   have f4:(upd H3 D (.lst ys)) Hh.objs.size = none:=by rw [upd_ne (Ne.symm b7)]; exact I4.free
   have fC:Hf X pins (upd H3 D (.lst ys)) Hh.objs.size:=I2.fpOk a3 f4
   refine i7 D Hh.objs.size oC mC s4 H3 ys (qn D d8) (IX.pins_of λ p hp=>?_) f1 fC
   rcases uV.mp hp with z | z
   ·exact IX.pin p (uS _ z)
   ·rw [mS z]
    exact ⟨h6,f4,fC.2.1,fC.2.2.1,λ v z=>by rw [i0] at z; cases z⟩
  ·refine thn (T.item Y rfl rfl rfl hc i _ s3 σY H3 _ I3 (b8 f0) f6 go) λ r s4 ⟨u,hr,h4⟩=>?_
   subst hr
   refine thn h4 λ _ s5 ⟨x,H5,I5,r5,y5,d7,i3⟩=>?_
   have h8:=I5.pinned (b8 i3) (T.obj _ _ d7)
   refine thn (hg _ _ s5 σY H5 x u _ h8 r5 (hk _ _ _ _ (step x H5 y5))) λ _ s6 ⟨b6,H6,I6,g9,q6⟩=>?_
   refine thn (hi _ _ s6 b6 H6 _ I6 q6) λ b s7 ⟨H7,I7,q7⟩=>?_
   have c6:∀ {s8:Shared} {H8:Hp} {e0:List Value},Inv Y ([(D,LCg.lst e0)] ++ G7 fp s5.heap) b6 H8 s8→Inv Y [(D,LCg.lst e0)] σY H8 s8∧tn (i + 1) s8.heap∧∀ b∈fp,H8 b = none:=λ {s8 H8 e0} I8=>by
    refine ⟨I8.unpinned.weak (c8.trans I8.len.symm) λ j v hj=>?_,T.keep _ _ _ d7 λ b hb o e=>(I8.pin (b,o) (uS _ (uS _ (Gy hb e)))).1,λ b hb=>?_⟩
    ·have h9:own.length≤j:=by
      rcases lt_or_ge j own.length with z | z
      ·have hj:(List.replicate own.length none ++ (fr.map (·.2)).map λ j=>(σ[j]?).join)[j]? = some (some v):=hj
       rw [List.getElem?_append_left (by simpa using z),List.getElem?_replicate,if_pos z] at hj
       cases hj
      ·exact z
     rw [g9 j h9]
     exact hj
    ·obtain ⟨o,e,d⟩:=T.obj _ _ d7 b hb
     exact (I8.pin (b,o) (uS _ (uS _ (Gy hb e)))).2.1
   cases b with
   | false =>
    rw [if_neg Bool.false_ne_true] at q7 ⊢
    obtain ⟨m',hm,w7⟩:=q7
    obtain ⟨I8,t8,f8⟩:=c6 I7
    exact ⟨m',hm,i + 1,ys,us,H7,I8,rv,hsz,t8,f8,w7⟩
   | true =>
    rw [if_pos rfl] at q7 ⊢
    refine thn (he _ _ s7 b6 H7 _ I7 q7) λ vy s8 ⟨y,H8,I8,ry,m',hm,w8⟩=>?_
    have a4:=I8.pin (D,LCg.lst us) (uS _ (vU _ (vC.mpr rfl)))
    refine append_at (hsz:=by rw [uO,← rv.length]; exact hsz) a4.1 λ b9 e7 e6=>?_
    have c5:b9.get? D = some (LCg.lst (us ++ [vy])):=e6.trans (congrArg some (LCg.lst_snoc us vy))
    have Ia:Inv Y (G7 fp s5.heap) b6 H8 s8:=I8.pins_of λ p hp=>I8.pin p (uS _ (uS _ hp))
    have Ib:Inv Y (G7 fp s5.heap) b6 H8 { s8 with heap:=b9 }:=Ia.turned (it:=D) (t':=s8.toks) (λ b o hb e=>e7.extBut b o hb e) a4.2.1 b7 (.inr (uY _))
     (λ x c e z=>by
      obtain ⟨v,q⟩:=I2.cell x c (a6 x c e)
      exact absurd q.lt (by rw [z]; exact lt_irrefl _))
     (λ p hp=>by
      have hp:p∈G7 fp s5.heap:=by simpa [Y,Cp] using hp
      exact λ z=>absurd (c0 p.1 (Sl hp).1) (by rw [z]; exact lt_irrefl _))
    have Ic:Inv Y ([(D,LCg.lst (us ++ [vy]))] ++ G7 fp s5.heap) b6 H8 { s8 with heap:=b9 }:=Ib.pins_of λ p hp=>by
     rcases uV.mp hp with z | z
     ·rw [mS z]
      exact ⟨c5,a4.2.1,b7,g1 _ (uY _),λ v z=>nomatch z⟩
     ·exact Ib.pin p (uS _ z)
    obtain ⟨I9,t9,f9⟩:=c6 Ic
    exact ⟨m',hm,i + 1,ys ++ [y],us ++ [vy],H8,I9,rv.append (.cons ry .nil),by rw [uF,uG]; omega,t9,f9,w8⟩
 exact codeAny_compStart_list (c7 _ rfl) (T.self X.A 0 _ _ _ (T.keep _ _ _ d9 λ b _ o e=>old b o e) (c7 _ rfl))
theorem Mj (S:Li X scope own fr) (I:Inv X pins σ H s):∀ y∈scope.names,y.2 = .free→∃ c,X.env.cells.lookup y.1 = some c :=
 λ y hy e=>I.ok.has y.1 (.inl (S.free y hy e))
theorem Fw (own:List Str) (fr:List (Str× Nat)) (hc:X.calm = true) (S:Li X scope own fr) (a5:PI X tg iter wi)
  (hg:∀ s2 H2 fp cl C,PG (Cp X s2 H2 fp (own ++ fr.map (·.1)) scope cl C) tg g) (hk:O1 own.length g)
  (hi:∀ s2 H2 fp cl C,Ro (Cp X s2 H2 fp (own ++ fr.map (·.1)) scope cl C) ifs tc) (he:∀ s2 H2 fp cl C,PE (Cp X s2 H2 fp (own ++ fr.map (·.1)) scope cl C) elt te)
  (hs:∀ x,foldedSetIterable iter X.env x = pure x:=by intro _; rfl) :
  PE X (.ListComp elt [⟨tg,iter,ifs,0⟩] scope pos) (AeZ own.length (fr.map (·.2)) wi g tc te):=by
 intro pins s σ H Q I h
 obtain ⟨cl,a1,a4,a3⟩:=Lv (Mj S I)
 rw [eval_ListComp]
 refine wpAny_comprehension_free (use:=none) rfl hs a1 S.kind S.loc (thn (a5 pins s σ H _ I h) λ v s1 h1=>thn h1 λ b6 s2 h2=>?_)
 obtain ⟨it,fp,tn,J,H2,e,I2,T,a8,f2,W,⟨m0,w0⟩,a2⟩:=h2
 subst e
 refine N4 (RR:=λ a9 C=>compPost (model X.prog X.w) X.A X.xe none (EP X pins σ Q) a9 C) (Fin:=λ D ys H=>Q (.ref D) (upd H D (.lst ys))) (λ _ _ _=>False) hc S a4 a3 (λ C=>hg _ _ _ _ C) hk (λ C=>hi _ _ _ _ C) (λ C=>he _ _ _ _ C) I2 T a8 f2 w0 a2 ?_ (λ _ _ _ _ _ z=>z.elim)
 intro D C oC mC s4 H4 ys a6 IC hn fC
 refine ⟨mC,hn,λ h' a7=>⟨.ref D,_,?_,rfl,a6⟩⟩
 exact IC.unpinned.turned (t':=s4.toks) (λ b o hb e=>a7.extBut b o hb e) fC.1 fC.2.1 fC.2.2.2.1 fC.2.2.2.2.1 fC.2.2.2.2.2
def Ws (j k:Nat) (js:List Nat) (wi:TI) (g:TG) (tc:TT) (te:TE):TS:=λ D σ H=>AeZ k js wi g tc te σ H λ v H'=>D.nx (σ.set j (some v)) H'
theorem Mr (own:List Str) (fr:List (Str× Nat)) (hN:X.N.Nodup) (hj:X.N[j]? = some y) (hy:Loc X.env.scope y) (hc:X.calm = true) (S:Li X scope own fr) (a9:PI X tg iter wi)
  (hg:∀ s2 H2 fp cl C,PG (Cp X s2 H2 fp (own ++ fr.map (·.1)) scope cl C) tg g) (hk:O1 own.length g)
  (hi:∀ s2 H2 fp cl C,Ro (Cp X s2 H2 fp (own ++ fr.map (·.1)) scope cl C) ifs tc) (he:∀ s2 H2 fp cl C,PE (Cp X s2 H2 fp (own ++ fr.map (·.1)) scope cl C) elt te)
  (b7:swapsWith (.ListComp elt [⟨tg,iter,ifs,0⟩] scope pos) (some (.Name y py)) a1.line X.env = pure true:=by rfl)
  (hs:∀ x,foldedSetIterable iter X.env x = pure x:=by intro _; rfl)
  (hf:X.fn y = true∨X.env.scope.names.lookup y = some .local:=by first | exact .inl rfl | exact .inr rfl | assumption) :
  PS X (.Assign [.Name y py] (.ListComp elt [⟨tg,iter,ifs,0⟩] scope pos) a1) (Ws j own.length (fr.map (·.2)) wi g tc te):=by
 intro pins s σ H Dn I h
 obtain ⟨cl,a2,a6,a4⟩:=Lv (Mj S I)
 rw [exec_Assign_Name_used _ _ _ _ b7]
 refine uA (wpAny_standAt (uA ?_))
 show wpAny _ X.A (do let _ ← comprehension (.ListComp elt [⟨tg,iter,ifs,0⟩] scope pos) scope X.env _ (newList []) false (eval iter X.env) (some (assign (.Name y py) X.env))) _ _ s
 refine uA (vS (wpAny_comprehension_free (use:=some (assign (.Name y py) X.env)) (Q:=λ _ s'=>SP X pins Dn .next s') rfl hs a2 S.kind S.loc
  (thn (a9 pins s σ H _ I h) λ v s1 h1=>thn h1 λ b9 s2 h2=>?_)) (λ _ s' hq=>uB (uB hq)) λ _ _ e=>e)
 obtain ⟨it,fp,tn,J,H2,e,I2,T,a8,f2,W,⟨m0,w0⟩,a3⟩:=h2
 subst e
 refine N4 (RR:=λ b8 C=>compPost (model X.prog X.w) X.A X.xe (some (assign (.Name y py) X.env)) (λ _ s'=>SP X pins Dn .next s') b8 C) (Fin:=λ D ys H=>Dn.nx (σ.set j (some (.ref D))) (upd H D (.lst ys))) (λ _ _ _=>False) hc S a6 a4 (λ C=>hg _ _ _ _ C) hk (λ C=>hi _ _ _ _ C) (λ C=>he _ _ _ _ C) I2 T a8 f2 w0 a3 ?_ (λ _ _ _ _ _ z=>z.elim)
 intro D C oC mC s4 H4 ys a7 IC hn fC
 show wpAny _ X.A (assign (.Name y py) X.env (.ref D)) _ _ _
 refine wpAny_assign_Name (Hn (v:=.ref D) IC hN hj hy rfl (λ s5 I5=>?_) hf)
 have pC:=I5.pin (C,oC) (uS _ (uS _ (vC.mpr rfl)))
 have a5:=IC.pin (C,oC) (uS _ (uS _ (vC.mpr rfl)))
 refine ⟨mC,hn.at' λ o e=>?_,λ h' b6=>⟨_,_,?_,a7⟩⟩
 ·have e':=a5.1
  rw [e] at e'
  cases e'
  exact pC.1
 ·exact I5.unpinned.turned (t':=s5.toks) (λ b o hb e=>b6.extBut b o hb e) fC.1 fC.2.1 fC.2.2.2.1 fC.2.2.2.2.1 fC.2.2.2.2.2
end
theorem Aet {J:It} {g:TG} {tc:TT} {a5:St} {F:Addr→List V→Hp→Prop} (Pv:Nat→List V→Hp→Prop) (h0:Pv 0 [] H) (hz:xs.length≤sizeLine)
  (a7:∀ i ys H,i < xs.length→Pv i ys H→J.go i H) (a6:∀ ys H,Pv xs.length ys H→J.stop xs.length H)
  (hy:∀ i ys H x H',Pv i ys H→J.yld i H x H'→H' = H∧xs[i]? = some x)
  (hs:∀ i x ys H,xs[i]? = some x→Pv i ys H→g x a5 H λ a1 H2=>tc a1 H2 λ b H3=>if b = true then te a1 H3 λ y H4=>Pv (i + 1) (ys ++ [y]) H4 else Pv (i + 1) ys H3)
  (mono:∀ x σ H Q Q',(∀ a1 H2,Q a1 H2→Q' a1 H2)→g x σ H Q→g x σ H Q')
  (a3:∀ σ H Q Q',(∀ b H1,Q b H1→Q' b H1)→tc σ H Q→tc σ H Q') (a4:∀ σ H Q Q',(∀ v H1,Q v H1→Q' v H1)→te σ H Q→te σ H Q')
  (hd:∀ ys H,Pv xs.length ys H→∀ D,H D = none→F D ys H) :
  ∃ W:Nat→Nat→List V→Hp→Prop,(∃ m,W 0 m [] H)∧∀ i m ys H,W i m ys H →
   (J.stop i H∧∀ D,H D = none→F D ys H) ∨
   (J.go i H∧ys.length < sizeLine∧∀ x H',J.yld i H x H'→g x a5 H' λ a1 H2=>tc a1 H2 λ b H3=>if b = true then te a1 H3 λ y H4=>∃ m',m' < m∧W (i + 1) m' (ys ++ [y]) H4 else ∃ m',m' < m∧W (i + 1) m' ys H3):=by
 refine ⟨λ i m ys H=>m = xs.length - i∧i≤xs.length∧ys.length≤i∧Pv i ys H,⟨xs.length,by simp,vV _,uY _,h0⟩,?_⟩
 rintro i m ys H ⟨rfl,hi,a8,p⟩
 by_cases a2:i < xs.length
 ·refine .inr ⟨a7 i ys H a2 p,by omega,λ x H' y=>?_⟩
  obtain ⟨e,hx⟩:=hy i ys H x H' p y
  subst e
  refine mono _ _ _ _ _ (λ a1 H2 q=>a3 _ _ _ _ (λ b H3 q2=>?_) q) (hs i x ys _ hx p)
  cases b with
  | true =>
   rw [if_pos rfl] at q2 ⊢
   exact a4 _ _ _ _ (λ v H4 q4=>⟨xs.length - (i + 1),by omega,rfl,a2,by rw [uF,uG]; omega,q4⟩) q2
  | false =>
   rw [if_neg Bool.false_ne_true] at q2 ⊢
   exact ⟨xs.length - (i + 1),by omega,rfl,a2,by omega,q2⟩
 ·have e:i = xs.length:=by omega
  subst e
  exact .inl ⟨a6 ys H p,hd ys H p⟩
section
variable {s:Shared}
theorem Inv.turnedL {a1:List Addr} {t':Nat} (I:Inv X pins σ H s) (hf:∀ b∈a1,Hf X pins H b) (k:∀ b o,b∉a1→s.heap.get? b = some o→h'.get? b = some o)
  (ag:∀ b,b < s.heap.objs.size→H' b = H b) (hok:HOk X.prog X.w H' h'):Inv X pins σ H' { s with heap:=h',toks:=t' }:=by
 refine I.step (g':=s.gens) (d':=s.drawn) (ch:=a1) (λ b hb=>⟨(hf b hb).2.2.2.1,(hf b hb).2.1,(hf b hb).2.2.2.2.1,(hf b hb).2.2.2.2.2⟩) (λ b o _ _ hc e _=>k b o hc e) (λ b o _ _ hc e _=>⟨o.slots,k b o hc e⟩)
  (λ b o _ e n=>by rw [ag b (Heap.lt_size e)]; exact n) (λ b o hc e=>⟨o,k b o hc e⟩) (λ b xs e=>by rw [ag b (I.hok.lt e)]; exact e) (λ b o u e=>by rw [ag b (I.hok.lt e)]; exact e)
  (λ b ps e=>⟨#[],by rw [ag b (I.hok.lt e),e]; simp⟩) (λ m hm=>?_) hok I.bare
 obtain ⟨o,es,ep,ho,r⟩:=hm
 exact ⟨o,es,ep,k _ o (λ z=>(hf _ z).2.1 rfl) ho,r⟩
theorem HOk.turned {a1:List Addr} (ok:HOk X.prog X.w H s.heap) (hf:∀ b∈a1,H b = none) (k:∀ b o,b∉a1→s.heap.get? b = some o→h'.get? b = some o):HOk X.prog X.w H h':=λ b u e=>by
 refine (ok b u e).stay (λ c v hc q=>k c v (λ z=>?_) q) (λ _ q=>q) λ _ _ q=>q
 rcases hc with y | y
 ·rw [← y,hf c z] at e; cases e
 ·rw [hf c z] at y; cases y
theorem HOk.turnedNew {a1:List Addr} (ok:HOk X.prog X.w H s.heap) (hf:∀ b∈a1,H b = none) (k:∀ b o,b∉a1→s.heap.get? b = some o→h'.get? b = some o) (hT:s.heap.objs.size≤T)
  (new:B1 X.prog X.w (upd H T o) h' T o):HOk X.prog X.w (upd H T o) h':=λ b u e=>by
 by_cases hb:b = T
 ·subst hb
  rw [Ae] at e
  cases e
  exact new
 ·rw [upd_ne hb] at e
  have hn:=ok.fresh hT
  refine (HOk.turned (s:=s) ok hf k b u e).stay (λ _ _ _ q=>q) (λ c q=>?_) λ c xs q=>?_
  ·rw [upd_ne (Ay q hn)]; exact q
  ·rw [upd_ne (Ay q hn)]; exact q
end
def Ite (K:FA) (l:Addr):It :=
 ⟨λ i H=>∃ xs x,SqL K H l xs∧xs[i]? = some x,
  λ i H v H'=>∃ T x,v = .ref T∧H T = none∧H' = upd H T (.tup [.int i,x])∧∀ xs,SqL K H l xs→xs[i]? = some x,
  λ i H=>∃ xs,SqL K H l xs∧xs.length≤i⟩
theorem Acc {elts:List Expr} {x1} {tp:Pos} {e it l:Addr} (a8:e≠it) :
  N2 P w K (.Tuple elts x1 tp) (Ite K l) [e,it] e (λ i h=>(∃ old,IsEnum h e it i old)∧h.IsListIter it l i) where
 mem:=by simp
 obj:=λ i h ⟨⟨old,h1⟩,h4⟩ c hc=>by
  simp only [vI,mem_nil_iff,or_false] at hc
  rcases hc with rfl | rfl
  ·exact ⟨_,h1,λ v z=>nomatch z⟩
  ·obtain ⟨o,e,c,d⟩:=h4
   exact ⟨o,e,λ v z=>by rw [d] at z; cases z⟩
 keep:=λ i h h' ⟨⟨old,h1⟩,h4⟩ k=>⟨⟨old,k _ (by simp) _ h1⟩,h4.at λ o e=>k _ (by simp) o e⟩
 item:=by
  intro X hP hw hK hc i pins s σ H E I hf st hg
  subst hP hw hK
  obtain ⟨⟨old,h1⟩,h4⟩:=st
  obtain ⟨xs,x,q1,e1⟩:=hg
  obtain ⟨a9,a4,p1,b6⟩:=I.list q1
  obtain ⟨u,hu,ru⟩:=a4.get e1
  refine wpAny_pyNext_enum_item h1 h4 p1.isList (x:=u) (by simpa using hu) a8 λ h' a1 a3 a5 a6 a7=>?_
  refine ⟨_,rfl,wpAny_letOwnedTupleGo_enum (s:={ s with heap:=h',toks:=s.toks + 1 }) a1 λ a2 b1 b2=>?_⟩
  have b2:Heap.SameBut e h' a2:=b2
  have zl:e < s.heap.objs.size:=Heap.lt_size h1
  have Tz:s.heap.objs.size≠e:=ne_of_gt zl
  have k:∀ b o,b∉[e,it]→s.heap.get? b = some o→a2.get? b = some o:=λ b o hb q=>by
   simp only [vI,mem_nil_iff,or_false,not_or] at hb
   exact b2.extBut b o hb.1 (a7 b o hb.1 hb.2 q)
  have pT:a2.get? s.heap.objs.size = some { cls:=.type "tuple", data:=.seq #[.int i s.toks,u] }:=b2.extBut _ _ Tz a5
  have hn:H s.heap.objs.size = none:=I.hok.fresh (uY _)
  have b7:∀ b∈[e,it],s.heap.objs.size≠b:=λ b hb=>by
   simp only [vI,mem_nil_iff,or_false] at hb
   rcases hb with rfl | rfl
   ·exact Tz
   ·obtain ⟨o,q,_⟩:=h4; exact ne_of_gt (Heap.lt_size q)
  have hok:HOk X.prog X.w (upd H s.heap.objs.size (.tup [.int i,x])) a2:=HOk.turnedNew (s:=s) I.hok (λ b hb=>(hf b hb).1) k (uY _) ⟨zN2,[.int i s.toks,u],.cons ⟨_,rfl⟩ (.cons ru .nil),_,pT,rfl,_,rfl⟩
  have I1:Inv X pins σ (upd H s.heap.objs.size (.tup [.int i,x])) { s with heap:=a2,toks:=s.toks + 1 }:=I.turnedL (t':=s.toks + 1) hf k (λ b hb=>upd_ne (vB hb)) hok
  refine ⟨.ref s.heap.objs.size,_,I1,rfl,⟨_,x,rfl,hn,rfl,λ zs hz=>by rw [I.list_inj hz q1]; exact e1⟩,?_,λ b hb=>by rw [upd_ne (Ne.symm (b7 b hb))]; exact (hf b hb).1⟩
  exact ⟨⟨_,b1⟩,a3.extBut b2.extBut a8.symm⟩
 done:=by
  intro X hP hw hK hc i pins s σ H E I hf st hg
  subst hP hw hK
  obtain ⟨⟨old,h1⟩,h4⟩:=st
  obtain ⟨xs,q1,hx⟩:=hg
  obtain ⟨a9,a4,p1,b6⟩:=I.list q1
  have l1:=a4.length
  refine wpAny_pyNext_enum_end (I.ok.hd hc) h1 h4 p1.isList (by simp; omega) λ h' a7=>?_
  have k:∀ b o,b∉[e,it]→s.heap.get? b = some o→h'.get? b = some o:=λ b o hb q=>by
   simp only [vI,mem_nil_iff,or_false,not_or] at hb
   exact a7 b o hb.2 q
  exact ⟨rfl,I.turnedL (t':=s.toks) hf k (λ _ _=>rfl) (HOk.turned (s:=s) I.hok (λ b hb=>(hf b hb).1) k)⟩
 self:=λ _ _ _ _ _ st h=>by
  obtain ⟨⟨old,h1⟩,_⟩:=st
  refine wpAny_pyIter_slot (T:= "enumerate") ⟨_,h1,rfl⟩ F.slot_enumerate_iter (vW F.slot_enumerate_iter ⟨_,h1,rfl⟩ F.entry_enumerate_iter ?_ (F.args_enumerate_iter_1 _))
  show wpAny _ _ (ret (.ref _)) _ _ _
  exact uB ⟨_,rfl, "enumerate", _,⟨_,h1,rfl⟩,F.slot_enumerate_next.lookup,h⟩
def AhC (K:FA) (ta:TA):TI:=λ σ H R=>ta σ H λ vs H1=>∃ l,vs = [.ref l]∧(∃ xs,SqL K H1 l xs)∧R (Ite K l) H1
theorem Zn {elts:List Expr} {x1} {tp:Pos} {a:Expr} {ta:TA} {p:Pos} (hg:Gl X "enumerate") (hm:X.mg "enumerate" = none) (ha:PA X [a] ta) (hs:starEach [a] X.env = [(false,eval a X.env)]:=by rfl) :
  PI X (.Tuple elts x1 tp) (.Call (.Name "enumerate" p) [a] [] pos) (AhC X.K ta):=by
 intro pins s σ H R I h
 refine Call_ (F8 I hg hm boot_enumerate (PyProof.Rows.callWith_type1 (thn (ha pos pins s σ H _ I h) λ us s1 ⟨vs,H1,I1,r1,q1⟩=>?_) hs rfl))
 obtain ⟨l,e,⟨xs,hx⟩,q⟩:=q1
 subst e
 obtain ⟨u,rfl,ru⟩:=r1.one
 cases ru
 obtain ⟨a2,a3,p1,a5⟩:=I1.list hx
 refine call_enumerate_list p1.isList λ h' a1 a4 a6 a7=>?_
 have I2:Inv X pins σ H1 { s1 with heap:=h' }:=I1.kept (t':=s1.toks) a7
 have T:=Acc (P:=X.prog) (w:=X.w) (K:=X.K) (elts:=elts) (x1:=x1) (tp:=tp) (e:=s1.heap.objs.size + 1) (it:=s1.heap.objs.size) (l:=l) (ne_of_gt (lt_succ_self _))
 refine T.self X.A 0 { s1 with heap:=h' } _ _ ⟨⟨_,a1⟩,a4⟩ ?_
 refine ⟨_,_,_,_,H1,rfl,I2,T,⟨⟨_,a1⟩,a4⟩,λ b hb=>?_,q⟩
 have hb:s1.heap.objs.size≤b:=by
  simp only [vI,mem_nil_iff,or_false] at hb
  rcases hb with rfl | rfl
  ·exact le_add_right _ 1
  ·exact uY _
 exact I1.fpOk hb (I1.hok.fresh hb)
def AgV (K:FA):List V→Hp→VK→Prop:=λ xs H Q=>∃ x T t b,xs = [x,.ty T]∧Gg K H x t∧PySem.W.kitOne K t (.type T) = some b∧Q (.bl b) H
theorem O9:Es X (.builtin "isinstance") (AgV X.K):=by
 intro pins s σ H xs us Q I r h
 obtain ⟨x,T,t,b,rfl,ty,e,q⟩:=h
 obtain ⟨u,v,rfl,ru,rv⟩:=r.two
 cases rv
 exact Tk I ru ty e λ tk=>⟨.bl b,H,I.tok _,rfl,q⟩
theorem Adx {l:Addr} {g:TG} {tb:TS} {D:Fi} (Pv:Nat→St→Hp→Prop) (h0:Pv 0 σ H) (hl:∀ i σ H,i≤xs.length→Pv i σ H→SqL K H l xs)
  (hs:∀ i x T σ H,xs[i]? = some x→Pv i σ H→H T = none→g (.ref T) σ (upd H T (.tup [.int i,x])) λ a1 H2=>tb { D with nx:=Pv (i + 1),ct:=Pv (i + 1),bk:=D.nx } a1 H2) (hd:∀ σ H,Pv xs.length σ H→D.nx σ H) :
  ∃ W:Nat→Nat→St→Hp→Prop,(∃ m,W 0 m σ H)∧∀ i m σ H,W i m σ H →
   ((Ite K l).stop i H∧D.nx σ H)∨((Ite K l).go i H∧∃ N:St→Hp→Prop,(∀ a2 H',N a2 H'→∃ m',m' < m∧W (i + 1) m' a2 H')∧∀ x H',(Ite K l).yld i H x H'→g x σ H' λ a1 H2=>tb { D with nx:=N,ct:=N,bk:=D.nx } a1 H2):=by
 refine ⟨λ i m σ H=>m = xs.length - i∧i≤xs.length∧Pv i σ H,⟨xs.length,by simp,vV _,h0⟩,?_⟩
 rintro i m σ H ⟨rfl,hi,p⟩
 have q1:=hl i σ H hi p
 by_cases a3:i < xs.length
 ·refine .inr ⟨⟨xs,xs[i],q1,by simp [a3]⟩,Pv (i + 1),λ a2 H' p'=>⟨xs.length - (i + 1),by omega,rfl,a3,p'⟩,λ x H' y=>?_⟩
  obtain ⟨T,a,rfl,hT,rfl,y1⟩:=y
  exact hs i a T σ H (y1 xs q1) p hT
 ·have e:i = xs.length:=by omega
  subst e
  exact .inl ⟨⟨xs,q1,uY _⟩,hd σ H p⟩
inductive Nd where
 | s (x:Str)
 | i (n:Int)
 | t (xs:List Nd)
mutual
def At (H:Hp):Nd→V→Prop
 | .s x,v=>v = .str x
 | .i n,v=>v = .int n
 | .t xs,v=>∃ a vs,v = .ref a∧H a = some (.tup vs)∧AtL H xs vs
def AtL (H:Hp):List Nd→List V→Prop
 | [],vs=>vs = []
 | x :: xs,vs=>∃ v r,vs = v :: r∧At H x v∧AtL H xs r
end
def Tp (H H':Hp):Prop:=∀ b xs,H b = some (.tup xs)→H' b = some (.tup xs)
theorem Tp.trans {H1:Hp} (a:Tp H H1) (b:Tp H1 H2):Tp H H2:=λ c xs h=>b c xs (a c xs h)
theorem Same.tp (h:Same H H'):Tp H H':=λ b xs e=>h b _ e
theorem Tp.new (h:H a = none):Tp H (upd H a o):=λ b xs e=>by rw [upd_ne (Ay e h)]; exact e
theorem Tp.lst {H:Hp} {a:Addr} {o:HO} {ys:List V} (h:H a = some (.lst ys)):Tp H (upd H a o):=λ b xs e=>by rw [upd_ne (Cd e h (by intro z; cases z))]; exact e
theorem Ah (h:H p = none) (o:HO):Same H (upd H p o):=λ b u q=>by rw [upd_ne (Ay q h)]; exact q
theorem Same.young {H1:Hp} (g:Same H H1) (h:H p = none) (o:HO):Same H (upd H1 p o):=λ b u q=>by rw [upd_ne (Ay q h)]; exact g b u q
mutual
theorem At.mono (T:Tp H H'):∀ {n:Nd} {v:V},At H n v→At H' n v
 | .s x,v,h=>h
 | .i n,v,h=>h
 | .t xs,v,h=>by
  obtain ⟨a,vs,e,q,r⟩:=h
  exact ⟨a,vs,e,T a vs q,AtL.mono T r⟩
theorem AtL.mono (T:Tp H H'):∀ {xs:List Nd} {vs:List V},AtL H xs vs→AtL H' xs vs
 | [],vs,h=>h
 | x :: xs,vs,h=>by
  obtain ⟨v,r,e,q,l⟩:=h
  exact ⟨v,r,e,At.mono T q,AtL.mono T l⟩
end
theorem AtL.nil :AtL H [] []:=by unfold AtL; rfl
theorem AtL.cons {H:Hp} {x:Nd} {xs:List Nd} {v:V} {r:List V} (a:At H x v) (l:AtL H xs r):AtL H (x :: xs) (v :: r):=by unfold AtL; exact ⟨v,r,rfl,a,l⟩
theorem At.s :At H (.s x) (.str x):=by unfold At; rfl
theorem At.t {xs:List Nd} (h:H a = some (.tup vs)) (l:AtL H xs vs):At H (.t xs) (.ref a):=by unfold At; exact ⟨a,vs,rfl,h,l⟩
theorem At.get {xs:List Nd} (h:At H (.t xs) v):∃ a vs,v = .ref a∧H a = some (.tup vs)∧AtL H xs vs:=by unfold At at h; exact h
theorem At.str (h:At H (.s x) v):v = .str x:=by unfold At at h; exact h
theorem At.int {x:Int} (h:At H (.i x) v):v = .int x:=by unfold At at h; exact h
theorem AtL.len :∀ {xs:List Nd} {vs:List V},AtL H xs vs→xs.length = vs.length
 | [],vs,h=>by unfold AtL at h; subst h; rfl
 | x :: xs,vs,h=>by
  unfold AtL at h
  obtain ⟨v,r,rfl,q,l⟩:=h
  simp [AtL.len l]
theorem AtL.append :∀ {xs ys:List Nd} {vs ws:List V},AtL H xs vs→AtL H ys ws→AtL H (xs ++ ys) (vs ++ ws)
 | [],ys,vs,ws,h,l=>by unfold AtL at h; subst h; exact l
 | x :: xs,ys,vs,ws,h,l=>by
  unfold AtL at h
  obtain ⟨v,r,rfl,q,l'⟩:=h
  exact .cons q (AtL.append l' l)
theorem AtL.at :∀ {xs:List Nd} {vs:List V} {i:Nat} {v:V},AtL H xs vs→vs[i]? = some v→∃ x,xs[i]? = some x∧At H x v
 | [],vs,i,v,h,e=>by unfold AtL at h; subst h; simp at e
 | x :: xs,vs,i,v,h,e=>by
  unfold AtL at h
  obtain ⟨w,r,rfl,q,l⟩:=h
  cases i with
  | zero=>simp at e; subst e; exact ⟨x,rfl,q⟩
  | succ i =>
   obtain ⟨y,e',q'⟩:=AtL.at (i:=i) l (by simpa using e)
   exact ⟨y,by simpa using e',q'⟩
theorem AtL.split :∀ {xs ys:List Nd} {vs:List V},AtL H (xs ++ ys) vs→∃ us ws,vs = us ++ ws∧AtL H xs us∧AtL H ys ws
 | [],ys,vs,h=>⟨[],vs,rfl,.nil,h⟩
 | x :: xs,ys,vs,h=>by
  have h:=h
  unfold AtL at h
  obtain ⟨v,r,rfl,q,l⟩:=h
  obtain ⟨us,ws,rfl,a,b⟩:=AtL.split l
  exact ⟨v :: us,ws,rfl,.cons q a,b⟩
theorem AtL.one {x:Nd} (h:AtL H [x] vs):∃ v,vs = [v]∧At H x v:=by
 unfold AtL at h
 obtain ⟨v,r,rfl,q,l⟩:=h
 unfold AtL at l
 subst l
 exact ⟨v,rfl,q⟩
def isT:Nd→Bool
 | .t _=>true
 | _=>false
mutual
def pre:Nd→List Nd
 | .t xs=>.t xs :: Dw xs
 | .s _=>[]
 | .i _=>[]
def Dw:List Nd→List Nd
 | []=>[]
 | x :: r=>Dw r ++ pre x
end
mutual
def F5:Nd→Bool
 | .t xs=>decide (xs.length≤8) && B6 xs
 | .s _=>true
 | .i _=>true
def B6:List Nd→Bool
 | []=>true
 | x :: r=>F5 x && B6 r
end
def cnt (n:Nd):Nat:=(pre n).length
def R9 (l:List Nd):Nat:=(Dw l).length
theorem AbF (xs:List Nd):pre (.t xs) = .t xs :: Dw xs:=by rw [pre]
theorem Aht (x:Str):pre (.s x) = []:=by rw [pre]
theorem Ahl (x:Int):pre (.i x) = []:=by rw [pre]
theorem Mf:Dw [] = []:=by rw [Dw]
theorem Eo (x:Nd) (r:List Nd):Dw (x :: r) = Dw r ++ pre x:=by rw [Dw]
theorem K0:∀ (a b:List Nd),Dw (a ++ b) = Dw b ++ Dw a
 | [],b=>by rw [Mf]; simp
 | x :: a,b=>by
  show Dw (x :: (a ++ b)) = _
  rw [Eo,Eo,K0 a b,append_assoc]
theorem Ae6 {n:Nd} (h:isT n = false):pre n = []:=by
 cases n with
 | s x=>exact Aht x
 | i x=>exact Ahl x
 | t xs=>cases h
def inner (xs:List Nd):List Nd:=xs.filter isT
theorem Qt:∀ xs:List Nd,Dw (inner xs) = Dw xs
 | []=>rfl
 | x :: r=>by
  unfold inner
  rw [filter_cons,Eo]
  have ih:=Qt r
  unfold inner at ih
  cases e:isT x with
  | true=>rw [if_pos rfl,Eo,ih]
  | false=>rw [if_neg Bool.false_ne_true,ih,Ae6 e,vG]
theorem AhN (xs:List Nd):cnt (.t xs) = R9 xs + 1:=by unfold cnt R9; rw [AbF]; rfl
theorem AbY (x:Nd) (r:List Nd):R9 (x :: r) = R9 r + cnt x:=by unfold R9 cnt; rw [Eo,uF]
theorem Vc {xs:List Nd} (h:F5 (.t xs) = true):xs.length≤8:=by
 rw [F5,Bool.and_eq_true] at h
 exact uN h.1
theorem Aec {xs:List Nd} (h:F5 (.t xs) = true):B6 xs = true:=by
 rw [F5,Bool.and_eq_true] at h
 exact h.2
theorem Tx:B6 [] = true:=by rw [B6]
theorem Ji {x:Nd} (h1:F5 x = true) (h2:B6 r = true):B6 (x :: r) = true:=by rw [B6]; simp [h1,h2]
theorem Nz:∀ {a b:List Nd},B6 a = true→B6 b = true→B6 (a ++ b) = true
 | [],b,_,h=>h
 | x :: a,b,h,h'=>by
  rw [B6,Bool.and_eq_true] at h
  exact Ji h.1 (Nz h.2 h')
theorem Mh:∀ {a b:List Nd},B6 (a ++ b) = true→B6 a = true∧B6 b = true
 | [],b,h=>⟨Tx,h⟩
 | x :: a,b,h=>by
  have h:B6 (x :: (a ++ b)) = true:=h
  rw [B6,Bool.and_eq_true] at h
  exact ⟨Ji h.1 (Mh h.2).1,(Mh h.2).2⟩
theorem Adv {x:Nd} (h:B6 [x] = true):F5 x = true:=by
 rw [B6,Bool.and_eq_true] at h
 exact h.1
theorem Ky:∀ {xs:List Nd},B6 xs = true→B6 (inner xs) = true
 | [],h=>h
 | x :: r,h=>by
  rw [B6,Bool.and_eq_true] at h
  unfold inner
  rw [filter_cons]
  split
  ·exact Ji h.1 (Ky h.2)
  ·exact Ky h.2
theorem Ae7 {xs:List Nd}:∀ x∈inner xs,isT x = true:=λ x h=>(mem_filter.mp h).2
theorem Ag9 {n:Nd} (h:At H n v):∃ t,Gg K H v t∧PySem.W.kitOne K t (.type "tuple") = some (isT n):=by
 cases n with
 | s x=>cases h.str; exact ⟨_,.str x,rfl⟩
 | i x=>cases h.int; exact ⟨_,.int x,rfl⟩
 | t xs =>
  obtain ⟨a,vs,rfl,q,_⟩:=h.get
  exact ⟨_,.tup q,rfl⟩
theorem B9 (h:n≤1000):n≤sizeLine:=le_of_lt (Ip h)
theorem Mc {α:Type} {xs:List α} {v:α} (h:xs[xs.length - 1]? = some v):atI xs (-1) = some v:=by
 have hl:0 < xs.length:=by
  rcases Nat.eq_zero_or_pos xs.length with z | z
  ·rw [length_eq_zero_iff.mp z] at h; simp at h
  ·exact z
 unfold atI ixN
 rw [if_neg (by omega),if_pos (by omega)]
 show xs[((-1:Int) + xs.length).toNat]? = some v
 rw [show ((-1:Int) + (xs.length:Int)).toNat = xs.length - 1 by omega]
 exact h
theorem Pe {α:Type} {xs:List α} {v:α} (h1:2≤xs.length) (h:xs[xs.length - 2]? = some v):atI xs (-2) = some v:=by
 unfold atI ixN
 rw [if_neg (by omega),if_pos (by omega)]
 show xs[((-2:Int) + xs.length).toNat]? = some v
 rw [show ((-2:Int) + (xs.length:Int)).toNat = xs.length - 2 by omega]
 exact h
theorem Adg {a:HO} (h:H p = none) (h2:(upd H p a) q = none):Same H (upd (upd H p a) q b)∧(upd (upd H p a) q b) p = some a∧(upd (upd H p a) q b) q = some b :=
 ⟨(Ah h a).trans (Ah h2 b),Ah h2 b _ _ Ae,Ae⟩
theorem Af6 {a:HO} (h:H p = none) (h2:(upd H p a) q = none) (h3:(upd (upd H p a) q b) r = none) :
  Same H (upd (upd (upd H p a) q b) r c)∧(upd (upd (upd H p a) q b) r c) p = some a∧(upd (upd (upd H p a) q b) r c) q = some b∧(upd (upd (upd H p a) q b) r c) r = some c :=
 ⟨((Ah h a).trans (Ah h2 b)).trans (Ah h3 c),Ah h3 c _ _ (Ah h2 b _ _ Ae),Ah h3 c _ _ Ae,Ae⟩
def Bd (K:FA) (mg:Str→Option Value) (x:Str) (ps:List Str) (st:Stmt):Prop:=∃ f fd,Fun K x x st f fd∧mg x = some (.ref f)∧Br K fd ps []
def Am (P:Program) (w:World) (K:FA) (mg:Str→Option Value) (base:Heap) (k:Nat) (x:Str) (ps:List Str) (sp:Sp):Prop :=
 ∃ f fd,Bi P w K mg base CX0 k f fd ps sp∧Br K fd ps []∧keepIn K (.ref f) = true∧mg x = some (.ref f)
theorem Am.mono (C:Am P w K mg base j x ps sp) (h:j≤k):Am P w K mg base k x ps sp:=by
 obtain ⟨f,fd,F,b,kp,m⟩:=C
 exact ⟨f,fd,F.mono h,b,kp,m⟩
theorem Am.imp {a1:Sp} (C:Am P w K mg base k x ps sp) (h:∀ vs H Q E,a1 vs H Q E→sp vs H Q E):Am P w K mg base k x ps a1:=by
 obtain ⟨f,fd,F,b,kp,m⟩:=C
 exact ⟨f,fd,F.imp h,b,kp,m⟩
theorem Bd.ok {st:Stmt} {N:List Str} {k:Nat} (F:Bd K mg x ps st) (S:Ar N ps (Aj st)) (len:∀ vs H Q E,sp vs H Q E→vs.length = ps.length)
  (a1:∀ (f:Addr) (cdv:Value) (A:Around) (outer:List Env) (s:Shared) (H:Hp) (vs:List V) (Q:VK) (E:XK),Bp k (A.deeper (envOfC x (Aj st) s.heap.objs.size f cdv))→sp vs H Q E →
   ∃ t,PSs (cxOf CX0 P w K mg base N x (Aj st) f cdv A outer s H E).nox (Bx st) t∧t { nx:=λ _ H'=>Q .non H',rt:=Q } (Eu N vs) H):Am P w K mg base (k + 1) x ps sp:=by
 obtain ⟨f,fd,F,m,b⟩:=F
 exact ⟨f,fd,F.ok S len (a1 f),b,F.kp,m⟩
theorem Bd.zero {st:Stmt} (F:Bd K mg x ps st) (no:∀ vs H Q E,¬ sp vs H Q E):Am P w K mg base 0 x ps sp:=by
 obtain ⟨f,fd,F,m,b⟩:=F
 exact ⟨f,fd,⟨λ vs H Q E h=>absurd h (no vs H Q E),λ A outer s H args us vs Q E _ _ _ _ h=>absurd h (no vs H Q E)⟩,b,F.kp,m⟩
section
variable {p:Pos} {t:TA} {k j:Nat} {E:XK}
theorem Ap (C:Am X.prog X.w X.K X.mg X.base j x ps sp) (hr:Bp k X.A) (hg:Gl X x) (hx:Dr CX0 X E) (ha:PA X (e :: es) t) (hj:j≤k:=by first | decide | omega)
  (a1:(x == ("__debug__" : Str)) = false:=by decide) (he:starEach (e :: es) X.env = (false,eval e X.env) :: starEach es X.env:=by rfl) (a2:(backTo pos (starEach es X.env)).any (·.1) = false:=by rfl) :
  PE X (.Call (.Name x p) (e :: es) [] pos) (G3 sp [] E t):=by
 obtain ⟨f,fd,F,b,kp,m⟩:=C
 exact Yn (F.mono hj) hr hg m kp b .nil hx ha a1 he a2
end
def AiH (K:FA):List V→Hp→VK→Prop:=λ xs H Q=>∃ p ys,xs = [.ref p]∧(SqL K H p ys∨SqT K H p ys)∧Q (.int ys.length) H
theorem Da:Es X (.builtin "len") (AiH X.K):=Nh
def Ahe:R2:=λ x y H Q=>∃ i j,x = .str i∧y = .str j∧i.length + j.length≤sizeLine∧Q (.str (i ++ j)) H
theorem Fv:OpR X (binaryOp .Add) Ahe:=Aak
theorem Ya:Es X (.builtin "sorted") (λ xs H Q=>∃ p ns,xs = [.ref p]∧SqL X.K H p ((ns:List Int).map V.int)∧ns.length < 64 ∧
  ∀ r (ms:List Int),H r = none→ms.Perm ns→ms.Pairwise (·≤·)→Q (.ref r) (upd H r (.lst (ms.map V.int)))):=by
 intro pins s σ H xs us Q I r h
 obtain ⟨p,ns,rfl,hS,hl,q⟩:=h
 obtain ⟨u,rfl,ru⟩:=r.one
 cases ru
 obtain ⟨a6,rv,pl,hz⟩:=I.list hS
 have hI:=Qy rv
 have el:=rv.length
 rw [uD] at el
 refine sorted_ints pl.isList hI (by omega) λ a4 a5 a1 a2 a3=>?_
 obtain ⟨e,he⟩:=sortedAll_at s.heap a6 a4
 have a7:=a2.length_eq
 have hn:=I.hok.fresh (le_succ _)
 refine ⟨.ref (s.heap.objs.size + 1),_,I.laid (t':=s.toks) (o:=.lst (a5.map V.int)) (λ b o e=>sortedAll_old e) (le_succ _) ?_,rfl,q _ a5 hn a2 a3⟩
 refine ⟨by rw [uD]; exact B9 (by omega),a4.toList,e,Kj a1,?_⟩
 rw [he]
theorem Adw:∀ {bs:List Bool} {us:List Value},A5 (bs.map V.bl) us→LSm.BoolsAre us bs:=by
 intro bs us h
 induction bs generalizing us with
 | nil=>cases h; exact .nil
 | cons b r ih =>
  cases h with
  | cons a t =>
   cases (show _ = Value.bool b from a)
   exact .cons _ (ih t)
theorem Xq (hc:X.calm = true):Es X (.builtin "all") (λ xs H Q=>∃ p bs,xs = [.ref p]∧SqL X.K H p ((bs:List Bool).map V.bl)∧Q (.bl (bs.all id)) H):=by
 intro pins s σ H xs us Q I r h
 obtain ⟨p,bs,rfl,hS,q⟩:=h
 obtain ⟨u,rfl,ru⟩:=r.one
 cases ru
 obtain ⟨a1,rv,pl,hz⟩:=I.list hS
 have hh:=I.ok.hd hc
 have hb:=Adw rv
 have a2:p < s.heap.objs.size:=by obtain ⟨_,e,_⟩:=pl.isList; exact Heap.lt_size e
 refine call_all_walk (wpAny_pyIter_list pl.isList ?_)
 refine ⟨s.heap.objs.size,[s.heap.objs.size,p],[s.heap.objs.size],a1.toArray.size,_,_,λ i=>(bs[i]?).getD true,rfl,Walks.list (A:=X.A.in1) hh _ p (vB a2) a1.toArray,
  ⟨⟨_,Heap.get?_push_size _ rfl,rfl,rfl⟩,pl.isList.push _⟩,λ i v s' Q' E' hP hQ=>?_,λ h' tk hk=>?_⟩
 ·obtain ⟨b,e,rfl⟩:=hb.get i v (by simpa using hP)
  simp only [e,Option.getD_some] at hQ
  exact wpAny_truthy_bool hQ
 ·have e:((List.range a1.toArray.size).all λ i=>(bs[i]?).getD true) = bs.all id:=by
   rw [uO,hb.length]; exact LSm.range_all bs
  rw [e]
  exact ⟨.bl _,H,I.kept (t':=tk) (LSm.kept_iter hk),rfl,q⟩
theorem Ve {ns ms:List Int} (h:ns.length = ms.length):((List.range ns.length).all λ j=>decide (ns[j]? = ms[j]?)) = decide (ns = ms):=by
 by_cases e:ns = ms
 ·subst e; simp
 ·rw [uM e]
  refine Bool.eq_false_iff.mpr λ z=>e ?_
  rw [all_eq_true] at z
  refine List.ext_getElem? λ i=>?_
  by_cases hi:i < ns.length
  ·exact uN (z i (mem_range.mpr hi))
  ·rw [List.getElem?_eq_none_iff.mpr (by omega),List.getElem?_eq_none_iff.mpr (by omega)]
theorem Yf {ns ms:List Int} (r:A5 (ns.map V.int) us) (r':A5 (ms.map V.int) ws):∀ j (h1:j < us.toArray.size) (h2:j < ws.toArray.size),SeqAt.EqAt A s us.toArray[j] ws.toArray[j] (decide (ns[j]? = ms[j]?)):=by
 intro j h1 h2
 have l1:=r.length
 have l2:=r'.length
 rw [uD] at l1 l2
 have a2:j < ns.length:=by simpa [l1] using h1
 have a1:j < ms.length:=by simpa [l2] using h2
 obtain ⟨u,eu,ru⟩:=r.get (i:=j) (x:=V.int ns[j]) (by rw [uJ,uC a2]; rfl)
 obtain ⟨v,ev,rv⟩:=r'.get (i:=j) (x:=V.int ms[j]) (by rw [uJ,uC a1]; rfl)
 have e1:us.toArray[j] = u:=by
  have:us[j]? = some us.toArray[j]:=by simp
  rw [eu] at this
  exact (Option.some.inj this).symm
 have e2:ws.toArray[j] = v:=by
  have:ws[j]? = some ws.toArray[j]:=by simp
  rw [ev] at this
  exact (Option.some.inj this).symm
 rw [e1,e2]
 have z:=Vr (A:=A) (s:=s) ru rv rfl rfl
 have e3:eqV (V.int ns[j]) (V.int ms[j]) = decide (ns[j]? = ms[j]?):=by
  rw [uC a2,uC a1]
  show (ns[j] == ms[j]) = _
  by_cases q:ns[j] = ms[j]
  ·rw [q]; simp
  ·rw [uM λ z=>q (Option.some.inj z)]; simpa using q
 rw [← e3]
 exact z
inductive AbS (K:FA) (neg:Bool) (x y:V) (H:Hp) (Q:VK):Prop
 | mk (p) (q) (ns) (ms) (_:x = .ref p) (_:y = .ref q) (_:SqL K H p ((ns:List Int).map V.int)) (_:SqL K H q ((ms:List Int).map V.int)) (_:Q (.bl (if neg then !decide (ns = ms) else decide (ns = ms))) H):AbS K neg x y H Q
def AiF (K:FA) (neg:Bool):R2:=λ x y H Q=>AbS K neg x y H Q
theorem Af9 (hu:X.A.units < cLine):OpR X (compareOp .Eq) (AiF X.K false):=by
 intro pins s σ H x y v u Q I rx ry h
 obtain ⟨p,q,ns,ms,rfl,rfl,h1,h2,hq⟩:=h
 cases rx
 cases ry
 obtain ⟨us,r1,p1,z1⟩:=I.list h1
 obtain ⟨ws,r2,p2,z2⟩:=I.list h2
 have l1:=r1.length
 have l2:=r2.length
 rw [uD] at l1 l2
 by_cases e:ns.length = ms.length
 ·refine SeqAt.eq_listAt p1.isList p2.isList (by simp; omega) hu (Yf r1 r2) ?_
  rw [uO,← l1,Ve e]
  exact ⟨.bl _,H,I,rfl,hq⟩
 ·refine SeqAt.eq_list_lengthsAt p1.isList p2.isList (by simp; omega) hu ?_
  have d:decide (ns = ms) = false:=uM λ z=>e (by rw [z])
  rw [d] at hq
  exact ⟨.bl _,H,I,rfl,hq⟩
theorem Et {n:Int} {ns:List Int}:inV (.int n) (ns.map V.int) = decide (n∈ns):=by
 unfold inV
 rw [any_map]
 by_cases e:n∈ns
 ·rw [uK e,any_eq_true]
  exact ⟨n,e,by show (n == n) = true; simp⟩
 ·rw [uM e]
  refine Bool.eq_false_iff.mpr λ z=>e ?_
  rw [any_eq_true] at z
  obtain ⟨m,hm,h⟩:=z
  have:(m == n) = true:=h
  rw [← eq_of_beq this]
  exact hm
theorem Ck (ns:List Int):(ns.map V.int).all Ef = true:=by
 rw [all_eq_true]
 intro x hx
 obtain ⟨n,_,rfl⟩:=vQ.mp hx
 rfl
abbrev Qc (J:It) (g:TG) (tc:TT) (te:TE) (σY:St) (F:Addr→List V→Hp→Prop) (H:Hp):Prop :=
 ∃ W:Nat→Nat→List V→Hp→Prop,(∃ m,W 0 m [] H)∧∀ i m ys H,W i m ys H →
   (J.stop i H∧∀ D,H D = none→F D ys H) ∨
   (J.go i H∧ys.length < sizeLine∧∀ x H',J.yld i H x H'→g x σY H' λ σ2 H2=>tc σ2 H2 λ b H3=>if b = true then te σ2 H3 λ y H4=>∃ m',m' < m∧W (i + 1) m' (ys ++ [y]) H4 else ∃ m',m' < m∧W (i + 1) m' ys H3)
theorem J6 {g:TG} {tc:TT} {F:Addr→List V→Hp→Prop} (Pv:Nat→List V→Hp→Prop) (h0:Pv 0 [] H) (hz:k≤sizeLine)
  (a7:∀ i ys H,i < k→Pv i ys H→J.go i H) (a6:∀ ys H,Pv k ys H→J.stop k H)
  (hs:∀ i x ys H H' (N:List V→Hp→Prop),i < k→Pv i ys H→J.yld i H x H'→ys.length≤i→(∀ a1 H',a1.length≤i + 1→Pv (i + 1) a1 H'→N a1 H')→g x a5 H' λ a3 H2=>tc a3 H2 λ b H3=>if b = true then te a3 H3 λ y H4=>N (ys ++ [y]) H4 else N ys H3)
  (hd:∀ ys H,ys.length≤k→Pv k ys H→∀ D,H D = none→F D ys H):Qc J g tc te a5 F H:=by
 refine ⟨λ i m ys H=>m = k - i∧i≤k∧ys.length≤i∧Pv i ys H,⟨k,by simp,vV _,uY _,h0⟩,?_⟩
 rintro i m ys H ⟨rfl,hi,a4,p⟩
 by_cases a2:i < k
 ·refine .inr ⟨a7 i ys H a2 p,by omega,λ x H' y=>?_⟩
  exact hs i x ys H H' (λ a1 H4=>∃ m',m' < k - i∧m' = k - (i + 1)∧i + 1≤k∧a1.length≤i + 1∧Pv (i + 1) a1 H4) a2 p y a4 λ a1 H4 l q=>⟨k - (i + 1),by omega,rfl,a2,l,q⟩
 ·have e:i = k:=by omega
  subst e
  exact .inl ⟨a6 ys H p,hd ys H a4 p⟩
theorem Fs {g:TG} {tc:TT} {a3:St} {F:Addr→List V→Hp→Prop} (Pv:Nat→List V→Hp→Prop) (h0:Pv 0 [] H) (hz:xs.length≤sizeLine) (hl:∀ i ys H,Pv i ys H→SqL K H a xs)
  (hs:∀ i x ys H (N:List V→Hp→Prop),xs[i]? = some x→Pv i ys H→(∀ a1 H',a1.length≤i + 1→Pv (i + 1) a1 H'→N a1 H')→ys.length≤i→g x a3 H λ a2 H2=>tc a2 H2 λ b H3=>if b = true then te a2 H3 λ y H4=>N (ys ++ [y]) H4 else N ys H3)
  (hd:∀ ys H,ys.length≤xs.length→Pv xs.length ys H→∀ D,H D = none→F D ys H):Qc (Itl K a) g tc te a3 F H :=
 J6 Pv h0 hz (λ i ys H hi p=>⟨xs,xs[i],hl i ys H p,by simp [hi]⟩) (λ ys H p=>⟨xs,hl _ ys H p,uY _⟩)
  (λ i x ys H H' N hi p ⟨e,y⟩ a4 k=>by subst e; exact hs i x ys _ N (y xs (hl i ys _ p)) p k a4) hd
theorem Q9 {lo:Int} {g:TG} {tc:TT} {F:Addr→List V→Hp→Prop} (Pv:Nat→List V→Hp→Prop) (h0:Pv 0 [] H) (hz:n≤sizeLine)
  (hs:∀ i ys H (N:List V→Hp→Prop),i < n→Pv i ys H→(∀ a1 H',a1.length≤i + 1→Pv (i + 1) a1 H'→N a1 H')→ys.length≤i→g (.int (lo + i)) a3 H λ a2 H2=>tc a2 H2 λ b H3=>if b = true then te a2 H3 λ y H4=>N (ys ++ [y]) H4 else N ys H3)
  (hd:∀ ys H,ys.length≤n→Pv n ys H→∀ D,H D = none→F D ys H):Qc (Itr lo n) g tc te a3 F H :=
 J6 Pv h0 hz (λ i ys H hi p=>hi) (λ ys H p=>uY _)
  (λ i x ys H H' N hi p ⟨e,y⟩ a4 k=>by subst e y; exact hs i ys _ N hi p k a4) hd
theorem Aba {g:TG} {tc:TT} {a3:St} {F:Addr→List V→Hp→Prop} (Pv:Nat→List V→Hp→Prop) (h0:Pv 0 [] H) (hz:xs.length≤sizeLine) (hl:∀ i ys H,Pv i ys H→SqL K H a xs)
  (hs:∀ i x T ys H (N:List V→Hp→Prop),xs[i]? = some x→Pv i ys H→H T = none→(∀ a1 H',a1.length≤i + 1→Pv (i + 1) a1 H'→N a1 H')→ys.length≤i→g (.ref T) a3 (upd H T (.tup [.int i,x])) λ a2 H2=>tc a2 H2 λ b H3=>if b = true then te a2 H3 λ y H4=>N (ys ++ [y]) H4 else N ys H3)
  (hd:∀ ys H,ys.length≤xs.length→Pv xs.length ys H→∀ D,H D = none→F D ys H):Qc (Ite K a) g tc te a3 F H :=
 J6 Pv h0 hz (λ i ys H hi p=>⟨xs,xs[i],hl i ys H p,by simp [hi]⟩) (λ ys H p=>⟨xs,hl _ ys H p,uY _⟩)
  (λ i x ys H H' N hi p ⟨T,z,e1,hT,e2,y⟩ a4 k=>by subst e1 e2; exact hs i z T ys _ N (y xs (hl i ys _ p)) p hT k a4) hd
section
variable {κ:Type} [DecidableEq κ]
def D0 (kvs:List (κ× V)) (k:κ):Option V:=(kvs.find? λ kv=>decide (kv.1 = k)).map (·.2)
def G5 (kvs:List (κ× V)) (k:κ) (v:V):List (κ× V) :=
 if (kvs.any λ kv=>decide (kv.1 = k)) = true then kvs.map (λ kv=>if kv.1 = k then (kv.1,v) else kv) else kvs ++ [(k,v)]
theorem Dt {p:κ× V} {r:List (κ× V)} {k:κ} (e:p.1 = k):D0 (p :: r) k = some p.2:=by simp [D0,find?_cons,e]
theorem Dv {p:κ× V} {r:List (κ× V)} {k:κ} (e:¬ p.1 = k):D0 (p :: r) k = D0 r k:=by simp [D0,find?_cons,e]
theorem L8 (k:κ):∀ kvs:List (κ× V),(kvs.any λ kv=>decide (kv.1 = k)) = (D0 kvs k).isSome
 | []=>rfl
 | p :: r=>by
  rw [any_cons]
  by_cases e:p.1 = k
  ·simp only [Dt e,uK e,Bool.true_or,Option.isSome_some]
  ·rw [Dv e,uM e,Bool.false_or]; exact L8 k r
theorem Xn (k j:κ) (y:V):∀ kvs:List (κ× V),D0 (kvs.map λ kv=>if kv.1 = k then (kv.1,y) else kv) j = (D0 kvs j).map λ x=>if j = k then y else x
 | []=>rfl
 | p :: r=>by
  have ih:=Xn k j y r
  rw [vP]
  by_cases h:p.1 = k
  ·rw [if_pos h]
   by_cases e:p.1 = j
   ·rw [Dt (p:=(p.1,y)) e,Dt e,Option.map_some,if_pos (e.symm.trans h)]
   ·rw [Dv (p:=(p.1,y)) e,Dv e,ih]
  ·rw [if_neg h]
   by_cases e:p.1 = j
   ·rw [Dt (p:=p) e,Dt e,Option.map_some,if_neg (λ z=>h (e.trans z))]
   ·rw [Dv (p:=p) e,Dv e,ih]
theorem Ua (k j:κ) (y:V):∀ kvs:List (κ× V),D0 kvs k = none→D0 (kvs ++ [(k,y)]) j = if j = k then some y else D0 kvs j
 | [],_=>by
  by_cases e:k = j
  ·rw [if_pos e.symm]; exact Dt (p:=(k,y)) e
  ·rw [if_neg (λ z=>e z.symm)]; exact Dv (p:=(k,y)) e
 | p :: r,hn=>by
  rw [cons_append]
  have hk:¬ p.1 = k:=λ z=>by rw [Dt z] at hn; cases hn
  rw [Dv hk] at hn
  have ih:=Ua k j y r hn
  by_cases e:p.1 = j
  ·rw [Dt e,Dt e,if_neg (λ z=>hk (e.trans z))]
  ·rw [Dv e,Dv e,ih]
theorem AdH (kvs:List (κ× V)) (k j:κ) (y:V):D0 (G5 kvs k y) j = if j = k then some y else D0 kvs j:=by
 unfold G5
 by_cases a:(kvs.any λ kv=>decide (kv.1 = k)) = true
 ·rw [if_pos a,Xn]
  rw [L8] at a
  by_cases e:j = k
  ·obtain ⟨x,hx⟩:=Option.isSome_iff_exists.mp a
   rw [if_pos e,e,hx,Option.map_some,if_pos rfl]
  ·rw [if_neg e]
   cases D0 kvs j with
   | none=>rfl
   | some x=>rw [Option.map_some,if_neg e]
 ·rw [if_neg a]
  refine Ua k j y kvs ?_
  rw [L8] at a
  cases q:D0 kvs k with
  | none=>rfl
  | some x=>rw [q] at a; exact (a rfl).elim
theorem Kz (kvs:List (κ× V)) (k:κ) (v:V):(G5 kvs k v).length≤kvs.length + 1:=by
 unfold G5
 split
 ·rw [uD]; omega
 ·rw [uF,uU,length_nil]; omega
theorem F2.isSome_eq {u:Option Value} (r:F2 o u):o.isSome = u.isSome:=by
 cases o with
 | none=>cases u with
  | none=>rfl
  | some _=>exact (show False from r).elim
 | some _=>cases u with
  | none=>exact (show False from r).elim
  | some _=>rfl
theorem KV.val (r:KV kvs vs) (k:κ):F2 (D0 kvs k) (valueAt vs k):=by
 unfold KV at r
 induction r with
 | nil=>exact True.intro
 | @cons p q ps qs h t ih =>
  obtain ⟨h1,h2⟩:=h
  by_cases e:p.1 = k
  ·have e':q.1 = k:=h1.symm.trans e
   have b:valueAt (q :: qs) k = some q.2:=by simp [valueAt,find?_cons,e']
   rw [Dt e,b]; exact h2
  ·have e':¬ q.1 = k:=λ z=>e (h1.trans z)
   have b:valueAt (q :: qs) k = valueAt qs k:=by simp [valueAt,find?_cons,e']
   rw [Dv e,b]; exact ih
theorem KV.any (r:KV kvs vs) (k:κ):(kvs.any λ kv=>decide (kv.1 = k)) = vs.any λ kv=>decide (kv.1 = k):=by
 unfold KV at r
 induction r with
 | nil=>rfl
 | cons h t ih=>rw [any_cons,any_cons,ih,h.1]
theorem KV.repl (r:KV kvs vs) (k:κ) (ry:A8 y u) :
  KV (kvs.map λ kv=>if kv.1 = k then (kv.1,y) else kv) (vs.map λ kv=>if kv.1 = k then (kv.1,u) else kv):=by
 unfold KV at r ⊢
 induction r with
 | nil=>exact .nil
 | @cons p q ps qs h t ih =>
  rw [vP,vP]
  refine .cons ?_ ih
  obtain ⟨h1,h2⟩:=h
  by_cases e:p.1 = k
  ·rw [if_pos e,if_pos (h1.symm.trans e)]; exact ⟨h1,ry⟩
  ·rw [if_neg e,if_neg (λ z=>e (h1.trans z))]; exact ⟨h1,h2⟩
theorem KV.put (r:KV kvs vs) (k:κ) (ry:A8 y u):KV (G5 kvs k y) (stored vs k u):=by
 unfold G5 stored
 rw [r.any k]
 by_cases e:(vs.any λ kv=>decide (kv.1 = k)) = true
 ·rw [if_pos e,if_pos e]; exact r.repl k ry
 ·rw [if_neg e,if_neg e]; exact Paired.snoc r ⟨rfl,ry⟩
theorem KV.length (r:KV kvs vs):kvs.length = vs.length:=Paired.length r
end
theorem AbE (r:A8 (kV k) u):(Dc P w).is k u = true:=by
 cases k with
 | inl i=>obtain ⟨t,e⟩:=(show ∃ t,u = Value.int i t from r); subst e; exact X4 P w i t
 | inr x=>obtain ⟨t,e⟩:=(show ∃ t,u = Value.str x t from r); subst e; exact Yb P w x t
theorem S0 :∀ {ks:List Key} {us:List Value},A5 (ks.map kV) us→ItemsAre (Dc P w) ks us
 | [],_,r=>by rw [map_nil] at r; cases r; exact .nil
 | k :: ks,_,r=>by
  rw [vP] at r
  cases r with
  | cons h t=>exact .cons (AbE h) (S0 t)
abbrev KT (H:Hp):List (List Key× V)→List (List Key× Addr× Value)→Prop:=Paired λ p q=>p.1 = q.1∧H q.2.1 = some (.tup (p.1.map kV))∧A8 p.2 q.2.2
theorem KT.val {xs:List (List Key× Addr× Value)} (r:KT H kvs xs) (k:List Key):F2 (D0 kvs k) ((atKey xs k).map (·.2)):=by
 induction r with
 | nil=>exact True.intro
 | @cons p q ps qs h t ih =>
  obtain ⟨h1,_,h2⟩:=h
  by_cases e:p.1 = k
  ·have e':q.1 = k:=h1.symm.trans e
   have b:atKey (q :: qs) k = some q.2:=by simp [atKey,find?_cons,e']
   rw [Dt e,b]; exact h2
  ·have e':¬ q.1 = k:=λ z=>e (h1.trans z)
   have b:atKey (q :: qs) k = atKey qs k:=by simp [atKey,find?_cons,e']
   rw [Dv e,b]; exact ih
theorem KT.repl {xs:List (List Key× Addr× Value)} (r:KT H kvs xs) (k:List Key) (ry:A8 y u) :
  KT H (kvs.map λ kv=>if kv.1 = k then (kv.1,y) else kv) (xs.map (putAt k u)):=by
 induction r with
 | nil=>exact .nil
 | @cons p q ps qs h t ih =>
  rw [vP,vP]
  refine .cons ?_ ih
  obtain ⟨h1,h2,h3⟩:=h
  unfold putAt
  by_cases e:p.1 = k
  ·rw [if_pos e,if_pos (h1.symm.trans e)]; exact ⟨h1,h2,ry⟩
  ·rw [if_neg e,if_neg (λ z=>e (h1.trans z))]; exact ⟨h1,h2,h3⟩
theorem KT.put {xs:List (List Key× Addr× Value)} (r:KT H kvs xs) (k:List Key) (hb:H b = some (.tup (k.map kV))) (ry:A8 y u) :
  KT H (G5 kvs k y) (storedH xs k b u):=by
 have e:(kvs.any λ kv=>decide (kv.1 = k)) = (atKey xs k).isSome:=by
  rw [L8,(r.val k).isSome_eq,Option.isSome_map]
 unfold G5 storedH
 rw [e]
 by_cases q:(atKey xs k).isSome = true
 ·rw [if_pos q,if_pos q]; exact r.repl k ry
 ·rw [if_neg q,if_neg q]; exact Paired.snoc r ⟨rfl,hb,ry⟩
theorem KT.keeps {xs:List (List Key× Addr× Value)} (r:KT H kvs xs) (ht:∀ b ys,H b = some (.tup ys)→H' b = some (.tup ys)):KT H' kvs xs :=
 Paired.mapP r λ _ _ z=>⟨z.1,ht _ _ z.2.1,z.2.2⟩
section
variable {h:Heap}
theorem AeL {u:HO} (ok:HOk P w H h) (e:Rd H a u):B1 P w H h a u:=e.ok ok
theorem AaG (ok:HOk P w H h) (e:Rd H a (.dK kvs)):kvs.length≤sizeLine∧(a == sysModules) = false∧∃ vs,KV kvs vs∧h.DictOf (Dc P w) a vs :=
 show B1 P w H h a (.dK kvs) from AeL ok e
theorem Aha (ok:HOk P w H h) (e:H a = some (.dK kvs)):kvs.length≤sizeLine∧(a == sysModules) = false∧∃ vs,KV kvs vs∧h.DictOf (Dc P w) a vs:=AaG ok (.inl e)
theorem Wq (ok:HOk P w H h) (e:H a = some (.tup (ks.map kV))):(tupleKind (Dc P w)).is h ks a:=by
 obtain ⟨_,a1,r,o,h1,h2,n,h3⟩:=(show B1 P w H h a (.tup (ks.map kV)) from ok a _ e)
 exact ⟨o,a1.toArray,n,h1,h2,h3,by simpa using S0 r⟩
theorem AaS (ok:HOk P w H h) (e:Rd H a (.dT kvs)):kvs.length≤sizeLine∧(a == sysModules) = false ∧
  ∃ xs,KT H kvs xs∧h.DictOfH (tupleKind (Dc P w)) a xs:=by
 obtain ⟨z,y,xs,r,o,es,ep,h1,h2,h3,h4,h5⟩:=(show B1 P w H h a (.dT kvs) from AeL ok e)
 refine ⟨z,y,xs,r,o,es,ep,h1,h2,h3,h4,λ x hx=>?_,h5⟩
 have all:∀ {l:List (List Key× V)} {m:List (List Key× Addr× Value)},KT H l m→∀ x∈m,(tupleKind (Dc P w)).is h x.1 x.2.1:=by
  intro l m q
  induction q with
  | nil=>intro x hx; exact nomatch hx
  | @cons p q ps qs hq t ih =>
   intro x hx
   rcases vI.mp hx with e | hx
   ·subst e
    exact Wq ok (by rw [← hq.1]; exact hq.2.1)
   ·exact ih x hx
 exact all r x hx
theorem AhB (ok:HOk P w H h) (e:H a = some (.dT kvs)):kvs.length≤sizeLine∧(a == sysModules) = false ∧
  ∃ xs,KT H kvs xs∧h.DictOfH (tupleKind (Dc P w)) a xs:=AaS ok (.inl e)
end
def Pi (H:Hp) (a:Addr) (y:V) (r:Option V):Prop :=
 (∃ kvs k,Rd H a (.dK kvs)∧y = kV k∧r = D0 kvs k)∨∃ kvs k b,Rd H a (.dT kvs)∧y = .ref b∧H b = some (.tup (k.map kV))∧r = D0 kvs k
def Xw (H:Hp) (a:Addr) (y v:V) (H':Hp):Prop :=
 (∃ kvs k,H a = some (.dK kvs)∧y = kV k∧kvs.length < sizeLine∧H' = upd H a (.dK (G5 kvs k v))) ∨
 ∃ kvs k b,H a = some (.dT kvs)∧y = .ref b∧H b = some (.tup (k.map kV))∧kvs.length < sizeLine∧H' = upd H a (.dT (G5 kvs k v))
theorem Pi.k {kvs:List (Key× V)} {k:Key} (e:H a = some (.dK kvs)):Pi H a (kV k) (D0 kvs k):=.inl ⟨kvs,k,.inl e,rfl,rfl⟩
theorem Xw.k {kvs:List (Key× V)} {k:Key} (e:H a = some (.dK kvs)) (hl:kvs.length < sizeLine):Xw H a (kV k) v (upd H a (.dK (G5 kvs k v))):=.inl ⟨kvs,k,e,rfl,hl,rfl⟩
section
variable {s:Shared} {y:V} {r:Value} {o:Option V}
theorem Inv.big (I:Inv X pins σ H s):sysModules < s.heap.objs.size:=by
 have h:=(I.mod.glob.keeps I.bk).lt
 exact lt_trans (by decide) h
theorem Abx {Q:Value→Shared→Prop} (hu:A.units + 1 < cLine) (I:Inv X pins σ H s) (g:Pi H a y (some v)) (ry:A8 y u) (h:∀ w' s',Inv X pins σ H s'→A8 v w'→Q w' s') :
  wpAny (model X.prog X.w) A (getItem (.ref a) u) Q E s:=by
 rcases g with ⟨kvs,k,e,ey,l⟩ | ⟨kvs,k,b,e,ey,eb,l⟩
 ·subst ey
  obtain ⟨z,hd,vs,a2,dd⟩:=AaG I.hok e
  obtain ⟨w',hw,a1⟩:=F2.some_of (v:=v) (o:=valueAt vs k) (by rw [l]; exact a2.val k)
  exact wpAny_getItem_of (AbE ry) dd.mapOf hw (h w' _ (I.tok _) a1)
 ·subst ey
  cases (show u = Value.ref b from ry)
  obtain ⟨z,hd,xs,a2,dd⟩:=AaS I.hok e
  obtain ⟨w',hw,a1⟩:=F2.some_of (v:=v) (o:=(atKey xs k).map (·.2)) (by rw [l]; exact a2.val k)
  obtain ⟨p,hp,a3⟩:=Option.map_eq_some_iff.mp hw
  refine wpAny_getItem_heap (tupleKind_room_in1 hu) (Wq I.hok eb) dd hp ?_
  rw [a3]
  exact h w' _ (I.tok _) a1
theorem Zh {t':Nat} (I:Inv X pins σ H s) (mu:Mut (H a)) (hs:Heap.SameBut a s.heap h') (he:∃ q,h'.get? a = some q) (new:B1 X.prog X.w (upd H a ob) h' a ob) :
  Inv X pins σ (upd H a ob) { s with heap:=h',toks:=t' } :=
 I.write (x:=a) (e:=a) mu (.inl rfl) (λ b q hb z=>(hs.2 b hb).trans z) he new
theorem AgG (z:kvs.length≤sizeLine) (hd:(a == sysModules) = false) (a1:KV kvs vs) (dd:h'.DictOf (Dc P w) a vs) :
  B1 P w H' h' a (.dK kvs):=⟨z,hd,vs,a1,dd⟩
theorem AbZ {Q:Unit→Shared→Prop} (hu:A.units + 1 < cLine) (I:Inv X pins σ H s) (g:Xw H a y v H') (ry:A8 y u) (rv:A8 v r) (h:∀ s',Inv X pins σ H' s'→Q () s') :
  wpAny (model X.prog X.w) A (setItem (.ref a) u r) Q E s:=by
 rcases g with ⟨kvs,k,e,ey,l,eH⟩ | ⟨kvs,k,b,e,ey,eb,l,eH⟩
 ·subst ey eH
  obtain ⟨z,hd,vs,a1,dd⟩:=Aha I.hok e
  have hz:vs.length≤sizeLine:=by rw [← a1.length]; exact z
  have hl:(G5 kvs k v).length≤sizeLine:=by have:=Kz kvs k v; omega
  refine wpAny_setItem_pairs (hsz:=hz) (AbE ry) dd λ h' a2 hs=>h _ ?_
  have he:∃ q,h'.get? a = some q:=let ⟨q,_,_,hq,_⟩:=a2; ⟨q,hq⟩
  exact Zh I (by rw [e]; exact True.intro) hs he (AgG hl hd (a1.put k rv) a2)
 ·subst ey eH
  cases (show u = Value.ref b from ry)
  obtain ⟨z,hd,xs,a1,dd⟩:=AhB I.hok e
  have hz:xs.length≤sizeLine:=by rw [← Paired.length a1]; exact z
  have hl:(G5 kvs k v).length≤sizeLine:=by have:=Kz kvs k v; omega
  refine wpAny_setItem_heap (hsz:=hz) (tupleKind_room_in1 hu) (Wq I.hok eb) dd λ h' a2 hs=>h _ ?_
  obtain ⟨q,es,ep,hq,h2,h3,h4,_,h5⟩:=a2
  refine Zh I (by rw [e]; exact True.intro) hs ⟨q,hq⟩ ⟨hl,hd,_,(a1.put k eb rv).keeps λ c ys ec=>?_,q,es,ep,hq,h2,h3,h4,h5⟩
  rw [upd_ne (Cd ec e (λ z=>nomatch z))]
  exact ec
end
section
variable {s:Shared} {kvs:List (Key× V)} {k:Key}
end
def Af1 (i:Expr):Prop:=∀ ov iv,subscripted i false ov iv = operate [ov,iv] (getItem ov iv)
theorem Afb {env:Env} {T id:String} {Q:Value→Shared→Prop}
  (hl:typeLookup (.type T) "__getitem__" = pure (some (.builtin id))) (hs:Af1 a1)
  (h:wpAny (model prog w) A (eval value env) (λ o a4=>wpAny (model prog w) A (eval a1 env) (λ i a2=>a2.TypeIs o T∧wpAny (model prog w) A (getItem o i) Q E a2) E a4) E s) :
  wpAny (model prog w) A (eval (.Subscript value a1 pos) env) Q E s:=by
 refine Subscript_ (vS h (λ o a4 a8=>vS a8 (λ i a2 a3=>?_) λ _ _ x=>x) λ _ _ x=>x)
 obtain ⟨hT,a3⟩:=a3
 unfold subscriptTail
 refine uA ?_
 rw [getitemInPython_of_ne hT.not_modules]
 refine uA (wpAny_specialOf hT hl ?_)
 have a6:wpAny (model prog w) A (subscripted a1 false o i) (λ r a5=>wpAny (model prog w) A (letTemporaryGo value o r >>= λ _=>pure r) Q E a5) E a2:=by
  rw [hs o i]
  exact wpAny_operating (vS a3 (λ r a5 a7=>uA (wpAny_letTemporaryGo (uB a7))) λ _ _ x=>x)
 first
  | exact uB (uA a6)
  | exact uA (uB (uA a6))
  | exact uA a6
theorem Yc (I:Inv X pins σ H s) (g:Pi H a y o):s.TypeIs (.ref a) "dict" := by
 rcases g with ⟨kvs,k,e,_,_⟩ | ⟨kvs,k,b,e,_,_,_⟩
 ·obtain ⟨_,_,vs,_,dd⟩:=AaG I.hok e
  exact dd.typeIs
 ·obtain ⟨_,_,xs,_,dd⟩:=AaS I.hok e
  exact dd.typeIs
inductive Yy (x y:V) (H2:Hp) (Q:VK):Prop
 | mk (a:Addr) (v:V) (_:x = .ref a) (_:Pi H2 a y (some v)) (_:Q v H2):Yy x y H2 Q
def AhR (td ty:TE):TE:=λ σ H Q=>td σ H λ x H1=>ty σ H1 λ y H2=>Yy x y H2 Q
def Ahf (td ty tv:TE):TS:=λ D σ H=>tv σ H λ v H1=>td σ H1 λ x H2=>ty σ H2 λ y H3=>∃ a H4,x = .ref a∧Xw H3 a y v H4∧D.nx σ H4
section
variable {o i value:Expr} {pos' tpos:Pos} {td ty tv:TE}
theorem Yg (hu:X.A.units + 1 < cLine) (ho:PE X o td) (hi:PE X i ty) (hs:Af1 i):PE X (.Subscript o i pos) (AhR td ty):=by
 intro pins s σ H Q I h
 refine Afb PySem.F.slot_dict_getitem.lookup hs (thn (ho pins s σ H _ I h) λ u s1 ⟨x,H1,I1,rx,q1⟩=>thn (hi pins s1 σ H1 _ I1 q1) λ iv s2 ⟨y,H2,I2,ry,a,v,ex,g,q2⟩=>?_)
 subst ex
 obtain rfl:u = Value.ref a:=rx
 exact ⟨Yc I2 g,Abx hu I2 g ry λ w' s3 I3 a1=>⟨v,H2,I3,a1,q2⟩⟩
theorem Aes (hu:X.A.units + 1 < cLine) (ho:PE X o td) (hi:PE X i ty) (hv:PE X value tv) (hs:swapsWith value (some (.Subscript o i pos')) pos.line X.env = pure false) :
  PS X (.Assign [.Subscript o i pos'] value pos) (Ahf td ty tv):=by
 intro pins s σ H D I h
 refine wpAny_Assign_Subscript (thn (hv pins s σ H _ I h) λ r s1 ⟨v,H1,I1,rv,q1⟩=>thn (ho pins s1 σ H1 _ I1 q1) λ u s2 ⟨x,H2,I2,rx,q2⟩=>thn (hi pins s2 σ H2 _ I2 q2) λ iv s3 ⟨y,H3,I3,ry,a,H4,ex,g,q3⟩=>?_) hs
 subst ex
 obtain rfl:u = Value.ref a:=rx
 exact AbZ hu I3 g ry rv λ s4 I4=>⟨σ,H4,I4,q3⟩
end
theorem AdX (h:Heap) (hb:sysModules < h.objs.size):B1 P w H (h.push { cls:=.type "dict", data:=.dict #[] }) h.objs.size (.dK []) :=
 ⟨vV _,beq_eq_false_iff_ne.mpr (Ne.symm (vB hb)),[],.nil,Heap.DictOf.new h⟩
def Afy:TE:=λ _ H Q=>∀ p,H p = none→Q (.ref p) (upd H p (.dK []))
theorem Ad5:PE X (.Dict [] [] pos) Afy:=λ pins s σ H Q I h =>
 wpAny_Dict_empty ⟨.ref s.heap.objs.size,_,I.laid (a:=s.heap.objs.size) (o:=.dK []) (t':=s.toks) (λ _ _ q=>Heap.get?_push_of_some _ q) (uY _) (AdX s.heap I.big),rfl,h _ (I.hok.fresh (uY _))⟩
abbrev VV:List (V× V)→List (Value× Value)→Prop:=Paired λ p q=>A8 p.1 q.1∧A8 p.2 q.2
structure M1 (X:Cx) (o:Expr) (m:Str) (apos:Pos) (e:Expr) (cpos:Pos):Prop where
 base:attributeBase o m X.env (eval o X.env) = eval o X.env
 few:((backTo cpos (starEach [e] X.env)).all (λ x=>!x.1) && (backToKw cpos (keywordEach [] X.env)).all (λ x=>x.1.isSome)
  && decide (([e]:List Expr).length + ([]:List Keyword).length + (if ([]:List Keyword).isEmpty then 0 else 1) < 30)) = true
 line:(apos.endLine == cpos.line) = true
 trees:backTo cpos (starEach [e] X.env) = [(false,eval e X.env)]
structure M2 (X:Cx) (o:Expr) (m:Str) (apos:Pos) (e f:Expr) (cpos:Pos):Prop where
 base:attributeBase o m X.env (eval o X.env) = eval o X.env
 few:((backTo cpos (starEach [e,f] X.env)).all (λ x=>!x.1) && (backToKw cpos (keywordEach [] X.env)).all (λ x=>x.1.isSome)
  && decide (([e,f]:List Expr).length + ([]:List Keyword).length + (if ([]:List Keyword).isEmpty then 0 else 1) < 30)) = true
 line:(apos.endLine == cpos.line) = true
 trees:backTo cpos (starEach [e,f] X.env) = [(false,eval e X.env),(false,eval f X.env)]
section
variable {s:Shared} {y d:V} {r:Value} {o:Option V}
end
section
variable {o f:Expr} {cpos:Pos} {td ty tx:TE}
end
section
variable {s:Shared} {kvs:List (Key× V)}
end
section
variable {s:Shared} {y:V}
end
section
variable {κ:Type} [DecidableEq κ]
end
def Gp (K:FA) (a:Addr) (vs:List V):Prop:=∃ (o:Obj) (its:Array Value) (n:Nat),K.lookup a = some o∧o.cls = .type "tuple" ∧ o.data = .seq its n∧its.size≤sizeLine∧A5 vs its.toList
def Gn (K:FA) (H:Hp) (a:Addr) (vs:List V):Prop:=H a = some (.tup vs)∨Gp K a vs
theorem Gn.mono (T:Tp H H') {vs:List V} (h:Gn K H a vs):Gn K H' a vs:=h.elim (λ z=>.inl (T a vs z)) .inr
theorem Gn.sq {vs:List V} (h:Gn K H a vs):SqT K H a vs:=h.elim SqT.of .inr
mutual
def PAt (K:FA) (H:Hp):Nd→V→Prop
 | .s x,v=>v = .str x
 | .i n,v=>v = .int n
 | .t xs,v=>∃ a vs,v = .ref a∧Gn K H a vs∧Ca K H xs vs
def Ca (K:FA) (H:Hp):List Nd→List V→Prop
 | [],vs=>vs = []
 | x :: xs,vs=>∃ v r,vs = v :: r∧PAt K H x v∧Ca K H xs r
end
mutual
theorem PAt.mono (T:Tp H H'):∀ {n:Nd} {v:V},PAt K H n v→PAt K H' n v
 | .s x,v,h=>h
 | .i n,v,h=>h
 | .t xs,v,h=>by
  obtain ⟨a,vs,e,q,r⟩:=h
  exact ⟨a,vs,e,q.mono T,Ca.mono T r⟩
theorem Ca.mono (T:Tp H H'):∀ {xs:List Nd} {vs:List V},Ca K H xs vs→Ca K H' xs vs
 | [],vs,h=>h
 | x :: xs,vs,h=>by
  obtain ⟨v,r,e,q,l⟩:=h
  exact ⟨v,r,e,PAt.mono T q,Ca.mono T l⟩
end
theorem Ca.nil :Ca K H [] []:=by unfold Ca; rfl
theorem Ca.cons {K:FA} {H:Hp} {x:Nd} {xs:List Nd} {v:V} {r:List V} (a:PAt K H x v) (l:Ca K H xs r):Ca K H (x :: xs) (v :: r):=by unfold Ca; exact ⟨v,r,rfl,a,l⟩
theorem PAt.s :PAt K H (.s x) (.str x):=by unfold PAt; rfl
theorem PAt.i {x:Int}:PAt K H (.i x) (.int x):=by unfold PAt; rfl
theorem PAt.t {xs:List Nd} {vs:List V} (h:Gn K H a vs) (l:Ca K H xs vs):PAt K H (.t xs) (.ref a):=by unfold PAt; exact ⟨a,vs,rfl,h,l⟩
theorem PAt.get {xs:List Nd} (h:PAt K H (.t xs) v):∃ a vs,v = .ref a∧Gn K H a vs∧Ca K H xs vs:=by unfold PAt at h; exact h
theorem PAt.str (h:PAt K H (.s x) v):v = .str x:=by unfold PAt at h; exact h
theorem PAt.int {x:Int} (h:PAt K H (.i x) v):v = .int x:=by unfold PAt at h; exact h
theorem Ca.one {x:Nd} {vs:List V} (h:Ca K H [x] vs):∃ v,vs = [v]∧PAt K H x v:=by
 unfold Ca at h
 obtain ⟨v,r,rfl,q,l⟩:=h
 unfold Ca at l
 subst l
 exact ⟨v,rfl,q⟩
theorem Ca.two {x y:Nd} {vs:List V} (h:Ca K H [x,y] vs):∃ v w,vs = [v,w]∧PAt K H x v∧PAt K H y w:=by
 unfold Ca at h
 obtain ⟨v,r,rfl,q,l⟩:=h
 obtain ⟨w,rfl,q'⟩:=l.one
 exact ⟨v,w,rfl,q,q'⟩
def TyK (K:FA) (H:Hp) (x:V) (t:Value):Prop:=Gg K H x t∨∃ a vs,x = .ref a∧Gp K a vs∧t = .type "tuple"
inductive Zs (K:FA) (xs:List V) (H:Hp) (Q:VK):Prop
 | mk (x:V) (T:String) (t:Value) (b:Bool) (_:xs = [x,.ty T]) (_:TyK K H x t) (_:PySem.W.kitOne K t (.type T) = some b) (_:Q (.bl b) H):Zs K xs H Q
def AhK (K:FA):List V→Hp→VK→Prop:=λ xs H Q=>Zs K xs H Q
theorem Xf:Es X (.builtin "isinstance") (AhK X.K):=by
 intro pins s σ H xs us Q I r h
 obtain ⟨x,T,t,b,rfl,ty,e,q⟩:=h
 obtain ⟨u,v,rfl,ru,rv⟩:=r.two
 cases rv
 rcases ty with ty | ⟨a,vs,rfl,⟨o,a1,n,lk,hc,hd,hz,rr⟩,rfl⟩
 ·exact Tk I ru ty e λ tk=>⟨.bl b,H,I.tok _,rfl,q⟩
 ·cases ru
  exact PySem.W.kia_one kitx_tuple I.kIn ⟨o,I.kIn _ _ lk,hc⟩ e (λ z=>nomatch z) λ tk=>⟨.bl b,H,I.tok _,rfl,q⟩
def AgH:V→List V→Hp→VK→Prop:=λ x vs H Q=>∃ l xs y j z,x = .ref l∧vs = [y]∧H l = some (.lst xs)∧Ef y = true∧xs.all Ef = true∧xs[j]? = some z∧eqV z y = true∧(∀ m z',m < j→xs[m]? = some z'→eqV z' y = false)∧Q (.int (j:Nat)) H
theorem Ac3:MtM X "list.index" AgH:=by
 intro pins s σ H x vs v us Q I rx rv h
 obtain ⟨l,xs,y,j,z,rfl,rfl,hH,fy,fx,hj,hz,a8,q⟩:=h
 cases rx
 obtain ⟨u,rfl,ru⟩:=rv.one
 obtain ⟨hl,a1,n,r,a2,e⟩:=I.lstM hH
 have a4:j < a1.length:=by rw [← a2]; exact (List.getElem?_eq_some_iff.mp hj).1
 have at':∀ (m:Nat) (hm:m < a1.toArray.size),∃ z',xs[m]? = some z'∧eqU y a1.toArray[m] = eqV z' y:=by
  intro m hm
  have a3:m < xs.length:=by rw [a2]; simpa using hm
  refine ⟨xs[m],uC a3,?_⟩
  obtain ⟨w',ew,a7⟩:=r.get (i:=m) (x:=xs[m]) (uC a3)
  have e2:a1.toArray[m] = w':=by
   have:a1[m]? = some a1.toArray[m]:=by simp
   rw [ew] at this
   exact (Option.some.inj this).symm
  rw [e2]
  exact Wt a7 (all_eq_true.mp fx _ (vH a3))
 refine call_meets F.slot_list_index ⟨_,e,rfl⟩ F.entry_list_index (F.args_list_index_2 _ _) (SeqAt.list_indexAt l a1.toArray n none #[] u (eqU y) j (by simpa using a4) ?_ ?_ ?_) ⟨e,?_,?_⟩
 ·have:=J3
  omega
 ·obtain ⟨z',e1,e2⟩:=at' j (by simpa using a4)
  rw [hj] at e1
  cases e1
  rw [e2]
  exact hz
 ·intro m hm a6
  obtain ⟨z',e1,e2⟩:=at' m hm
  rw [e2]
  exact a8 m z' a6 e1
 ·intro w' a5
  exact Ho ru fy r fx w' (by simpa using a5)
 ·exact ⟨.int (j:Nat),H,I.tok _,⟨_,rfl⟩,q⟩
def Cu (P:Program) (w:World) (K:FA) (mg:Str→Option Value) (base:Heap) (k:Nat) (C:Addr) (m:Str) (ps:List Str) (sp:Sp):Prop :=
 ∃ f fd,Bi P w K mg base CX0 k f fd ps sp∧Br K fd ps []∧Uy K C m f∧Cls K C
section
variable {o:Expr} {m:Str} {k j:Nat} {E:XK} {t:TA}
theorem Bt (M:Cu X.prog X.w X.K X.mg X.base j C m ps sp) (hr:Bp k X.A) (hx:Dr CX0 X E) (he:PE X o ta) (hj:j≤k:=by first | decide | omega)
  (ht:eval (.Call (.Attribute o m apos) [] [] pos) X.env = (do
   let ov ← eval o X.env
   standAt apos.atName
   let (f,first) ← holding [ov] (getMethod ov m pl)
   callWith pos f first (backTo pos (starEach [] X.env)) (backToKw pos (keywordEach [] X.env))):=by rfl):PE X (.Call (.Attribute o m apos) [] [] pos) (Mb C m sp [] E ta Dq):=by
 obtain ⟨f,fd,F,b,me,c⟩:=M
 exact V8 he c me (F.mono hj) hr b .nil hx ht
end
def Kp (r:Addr) (H H':Hp):Prop:=∀ b o,b≠r→H b = some o→H' b = some o
theorem Kp.refl (H:Hp):Kp r H H:=λ _ _ _ h=>h
theorem Kp.trans {H1:Hp} (a:Kp r H H1) (b:Kp r H1 H2):Kp r H H2:=λ c o h e=>b c o h (a c o h e)
theorem Same.kp (g:Same H H'):Kp r H H':=λ b o _ e=>g b o e
theorem Kp.upd :Kp r H (L2.upd H r o):=λ b u h e=>by rw [upd_ne h]; exact e
theorem Kp.tpI (k:Kp r H H') (h:H r = some (.ins C dx fs)):Tp H H':=λ b xs e=>k b _ (Cd e h (by intro z; cases z)) e
theorem Kp.sq {r dx:Addr} {fs:List (Str× V)} (k:Kp r H H') (h:H r = some (.ins C dx fs)) (s:SqL K H a xs):SqL K H' a xs:=by
 rcases s with (s | ⟨o,s⟩) | s
 ·exact .inl (.inl (k _ _ (Cd s h (by intro z; cases z)) s))
 ·exact .inl (.inr ⟨o,k _ _ (Cd s h (by intro z; cases z)) s⟩)
 ·exact .inr s
theorem Same.byKp {H1:Hp} (g:Same H H1) (h:H r = none) (k:Kp r H1 H2):Same H H2:=λ b o e=>k b o (Ay e h) (g b o e)
theorem Bf {A B:Prop} (h:¬ x = y) (hB:B):if decide (V.str x = V.str y) = true then A else B:=by
 rw [uM λ z=>h (V.str.inj z),if_neg Bool.false_ne_true]; exact hB
theorem Ea {A B:Prop} (hA:A):if decide (V.str x = V.str x) = true then A else B:=by
 rw [uK rfl,if_pos rfl]; exact hA
theorem Ca.three {x y z:Nd} {vs:List V} (h:Ca K H [x,y,z] vs):∃ v w u,vs = [v,w,u]∧PAt K H x v∧PAt K H y w∧PAt K H z u:=by
 unfold Ca at h
 obtain ⟨v,r,rfl,q,l⟩:=h
 obtain ⟨w,u,rfl,q',a1⟩:=l.two
 exact ⟨v,w,u,rfl,q,q',a1⟩
theorem Ca.four {x y z z':Nd} {vs:List V} (h:Ca K H [x,y,z,z'] vs):∃ v w u u',vs = [v,w,u,u']∧PAt K H x v∧PAt K H y w∧PAt K H z u∧PAt K H z' u':=by
 unfold Ca at h
 obtain ⟨v,r,rfl,q,l⟩:=h
 obtain ⟨w,u,u',rfl,q',a1,q3⟩:=l.three
 exact ⟨v,w,u,u',rfl,q,q',a1,q3⟩
def AiB:V→Option Int→Option Int→Hp→VK→Prop:=λ x lo hi H Q=>∃ z,x = .str z∧z.length≤sizeLine∧Q (.str (Txt.slice z lo hi)) H
theorem AgE:SlR X AiB:=by
 intro pins s σ H x v vl vu lo hi sl Q I rx hs pl pu h
 obtain ⟨z,rfl,hz,q⟩:=h
 obtain ⟨t,rfl⟩:=rx
 refine ⟨"str", _,F.slot_str_getitem.lookup,typeIs_str _ _ _,?_⟩
 have a1:∀ (l u:Option (Int× Tok)),lo = l.map (·.1)→hi = u.map (·.1)→s.heap.IsSlice sl l u none→wpAny (model X.prog X.w) X.A (getItem (.str z t) (.ref sl)) (EP X pins σ Q) X.xe s:=by
  intro l u el eu a2
  subst el eu
  refine wpAny_getItem_str_slice (l:=l) (u:=u) (st:=none) a2 rfl ?_
  exact post_val_or_str ⟨uX (Txt.slice_le z _ _) hz,λ t' k=>⟨.str (Txt.slice z (l.map (·.1)) (u.map (·.1))),H,I.tok _,⟨t',rfl⟩,q⟩⟩
 cases pl with
 | none =>
  cases pu with
  | none=>exact a1 none none rfl rfl hs
  | int j tj=>exact a1 none (some (j,tj)) rfl rfl hs
 | int i ti =>
  cases pu with
  | none=>exact a1 (some (i,ti)) none rfl rfl hs
  | int j tj=>exact a1 (some (i,ti)) (some (j,tj)) rfl rfl hs
inductive EqD (K:FA) (H:Hp):Nat→V→V→Prop where
 | flat {d:Nat} {x y:V}:Ef x = true→Ef y = true→eqV x y = true→EqD K H d x y
 | same {d:Nat} {a:Addr}:EqD K H d (.ref a) (.ref a)
 | lst {d:Nat} {a b:Addr} {xs ys:List V}:SqL K H a xs→SqL K H b ys→xs.length = ys.length→(∀ (i:Nat) (x y:V),xs[i]? = some x→ys[i]? = some y→EqD K H d x y)→EqD K H (d + 1) (.ref a) (.ref b)
 | tup {d:Nat} {a b:Addr} {xs ys:List V}:SqT K H a xs→SqT K H b ys→xs.length = ys.length→(∀ (i:Nat) (x y:V),xs[i]? = some x→ys[i]? = some y→EqD K H d x y)→EqD K H (d + 1) (.ref a) (.ref b)
theorem Py (n:Nat):((List.range n).all λ _=>true) = true:=by simp
theorem P2 {pins:List (Addr× Obj)} {σ:St} {H:Hp} {K:FA} {d:Nat} (r1:A5 xs us) (r2:A5 ys ws) (hl:xs.length = ys.length)
  (h:∀ (i:Nat) (x y:V),xs[i]? = some x→ys[i]? = some y→∀ u v,A8 x u→A8 y v→SeqAt.EqAt A s u v true) :
  ∀ j (h1:j < us.toArray.size) (h2:j < ws.toArray.size),SeqAt.EqAt A s us.toArray[j] ws.toArray[j] true:=by
 intro j h1 h2
 have l1:=r1.length
 have l2:=r2.length
 have a2:j < xs.length:=by simpa [l1] using h1
 have a1:j < ys.length:=by simpa [l2] using h2
 obtain ⟨u,eu,ru⟩:=r1.get (i:=j) (x:=xs[j]) (uC a2)
 obtain ⟨v,ev,rv⟩:=r2.get (i:=j) (x:=ys[j]) (uC a1)
 have e1:us.toArray[j] = u:=by
  have:us[j]? = some us.toArray[j]:=by simp
  rw [eu] at this
  exact (Option.some.inj this).symm
 have e2:ws.toArray[j] = v:=by
  have:ws[j]? = some ws.toArray[j]:=by simp
  rw [ev] at this
  exact (Option.some.inj this).symm
 rw [e1,e2]
 exact h j _ _ (uC a2) (uC a1) u v ru rv
theorem AgW (I:Inv X pins σ H s):∀ {d:Nat} {x y:V},EqD X.K H d x y→∀ (A:Around),A.units + d < cLine→∀ u v,A8 x u→A8 y v→SeqAt.EqAt A s u v true:=by
 intro d x y h
 induction h with
 | flat f1 f2 e =>
  intro A hA u v ru rv
  have z:=Vr (A:=A) (s:=s) ru rv f1 f2
  rw [e] at z
  exact z
 | same =>
  intro A hA u v ru rv
  cases ru
  cases rv
  exact SeqAt.EqAt.same _
 | @lst d a b xs ys h1 h2 hl hi ih =>
  intro A hA u v ru rv
  cases ru
  cases rv
  by_cases a1:a = b
  ·subst a1; exact SeqAt.EqAt.same _
  obtain ⟨us,r1,p1,z1⟩:=I.list h1
  obtain ⟨ws,r2,p2,z2⟩:=I.list h2
  have l1:=r1.length
  have l2:=r2.length
  refine SeqAt.EqAt.of_refs a1 ?_
  have q:=SeqAt.RcAt.lists (A:=A) (e:=λ _=>true) p1.isList p2.isList (by simp; omega) (by omega) (P2 (pins:=pins) (σ:=σ) (H:=H) (K:=X.K) (d:=d) r1 r2 hl λ i x y hx hy u v ru rv=>ih i x y hx hy A.in1 (by show A.units + 1 + d < cLine; omega) u v ru rv)
  rw [Py] at q
  exact q
 | @tup d a b xs ys h1 h2 hl hi ih =>
  intro A hA u v ru rv
  cases ru
  cases rv
  by_cases a1:a = b
  ·subst a1; exact SeqAt.EqAt.same _
  obtain ⟨us,r1,p1,z1⟩:=I.tuple h1
  obtain ⟨ws,r2,p2,z2⟩:=I.tuple h2
  have l1:=r1.length
  have l2:=r2.length
  refine SeqAt.EqAt.of_refs a1 ?_
  have q:=SeqAt.RcAt.tuples (A:=A) (e:=λ _=>true) (show s.heap.IsTuple a us.toArray from p1) (show s.heap.IsTuple b ws.toArray from p2) (by omega) (P2 (pins:=pins) (σ:=σ) (H:=H) (K:=X.K) (d:=d) r1 r2 hl λ i x y hx hy u v ru rv=>ih i x y hx hy A.in1 (by show A.units + 1 + d < cLine; omega) u v ru rv)
  rw [Py,show (us.toArray.size == ws.toArray.size) = true by simp; omega] at q
  exact q
def F6 (xs:Array Nat):Prop:=xs.toList.Pairwise (· < ·)
structure Ee (led:Bool) (t:SetTable):Prop where
 led:t.led = led
 dum:t.dummies = #[]
 rise:F6 t.place
theorem F6.lt {xs:Array Nat} (h:F6 xs) (hj:j < xs.size) (a1:i < j):xs[i]'(by omega) < xs[j]:=by
 have z:=List.pairwise_iff_getElem.mp h i j (by simp; omega) (by simpa using hj) a1
 simpa using z
theorem Adq {xs:Array Nat} (h:F6 xs):∀ (a1 lo hi:Nat),lo≤hi→hi≤xs.size→hi - lo≤a1→(∀ i (q:i < xs.size),i < lo→xs[i] < j)→(∀ i (q:i < xs.size),hi≤i→j≤xs[i]) →
  SetTable.below.go xs j a1 lo hi≤xs.size∧(∀ i (q:i < xs.size),i < SetTable.below.go xs j a1 lo hi→xs[i] < j)∧(∀ i (q:i < xs.size),SetTable.below.go xs j a1 lo hi≤i→j≤xs[i]):=by
 intro a1
 induction a1 with
 | zero =>
  intro lo hi h1 h2 h3 h4 h5
  have e:lo = hi:=by omega
  subst e
  unfold SetTable.below.go
  exact ⟨h2,h4,h5⟩
 | succ a1 ih =>
  intro lo hi h1 h2 h3 h4 h5
  unfold SetTable.below.go
  by_cases c:lo < hi
  ·rw [if_pos c]
   dsimp only
   have hm:(lo + hi) / 2 < xs.size:=by omega
   have eg:xs.getD ((lo + hi) / 2) j = xs[(lo + hi) / 2]:=by simp [Array.getD,hm]
   by_cases d:xs.getD ((lo + hi) / 2) j < j
   ·rw [if_pos d]
    rw [eg] at d
    refine ih _ _ (by omega) h2 (by omega) (λ i a2 hl=>?_) h5
    rcases lt_or_ge i ((lo + hi) / 2) with z | z
    ·exact lt_trans (h.lt hm z) d
    ·have:i = (lo + hi) / 2:=by omega
     subst this
     exact d
   ·rw [if_neg d]
    rw [eg] at d
    refine ih _ _ (by omega) (by omega) (by omega) h4 (λ i a2 hl=>?_)
    rcases lt_or_ge ((lo + hi) / 2) i with z | z
    ·have:=h.lt a2 z; omega
    ·have:i = (lo + hi) / 2:=by omega
     subst this
     omega
  ·rw [if_neg c]
   have e:lo = hi:=by omega
   subst e
   exact ⟨h2,h4,h5⟩
theorem Pj {xs:Array Nat} (h:F6 xs) (j:Nat):SetTable.below xs j≤xs.size∧(∀ i (hi:i < xs.size),i < SetTable.below xs j→xs[i] < j)∧(∀ i (a1:i < xs.size),SetTable.below xs j≤i→j≤xs[i]) :=
 Adq h xs.size 0 xs.size (vV _) (uY _) (by omega) (λ _ _ z=>by omega) (λ i hi z=>by omega)
theorem Aai {xs:Array Nat} (h:F6 xs) (hi:i < xs.size):SetTable.below xs (xs[i] + 1) = i + 1:=by
 obtain ⟨h1,h2,h3⟩:=Pj h (xs[i] + 1)
 rcases Nat.lt_trichotomy (SetTable.below xs (xs[i] + 1)) (i + 1) with z | z | z
 ·have:=h3 i hi (by omega); omega
 ·exact z
 ·have a:=h2 (i + 1) (by omega) (by omega)
  have b:=h.lt (i:=i) (j:=i + 1) (by omega) (by omega)
  omega
theorem Aa8 {xs:Array Nat} (h:F6 xs):SetTable.below xs 0 = 0:=by
 obtain ⟨h1,h2,h3⟩:=Pj h 0
 rcases Nat.eq_zero_or_pos (SetTable.below xs 0) with z | z
 ·exact z
 ·have:=h2 0 (by omega) z; omega
theorem AaV (n:Nat):F6 (Array.range n):=by
 unfold F6
 rw [Array.toList_range]
 exact List.pairwise_lt_range
theorem AeE {xs:Array Nat} (h:F6 xs) (hn:xs[SetTable.below xs j]?≠some j):F6 (SetTable.insertAt xs (SetTable.below xs j) j):=by
 obtain ⟨h1,h2,h3⟩:=Pj h j
 unfold F6
 rw [SetTable.toList_insertAt,List.pairwise_append]
 refine ⟨Pairwise.sublist (List.take_sublist _ _) h,?_,?_⟩
 ·rw [vM]
  refine ⟨λ y hy=>?_,Pairwise.sublist (List.drop_sublist _ _) h⟩
  obtain ⟨i,hi,rfl⟩:=mem_iff_getElem.mp hy
  rw [length_drop,Array.length_toList] at hi
  rw [List.getElem_drop,Array.getElem_toList]
  have a:=h3 (SetTable.below xs j + i) (by omega) (by omega)
  rcases Nat.eq_zero_or_pos i with z | z
  ·subst z
   rcases lt_or_ge j (xs[SetTable.below xs j + 0]'(by omega)) with y | y
   ·exact y
   ·exact absurd (by rw [Array.getElem?_eq_getElem (by omega)]; congr 1; simp at a y ⊢; omega) hn
  ·have b:=h3 (SetTable.below xs j) (by omega) (uY _)
   have c:=h.lt (i:=SetTable.below xs j) (j:=SetTable.below xs j + i) (by omega) (by omega)
   omega
 ·intro a ha b hb
  obtain ⟨i,hi,rfl⟩:=mem_iff_getElem.mp ha
  rw [vD,Array.length_toList] at hi
  rw [List.getElem_take,Array.getElem_toList]
  have q:=h2 i (by omega) (by omega)
  rcases vI.mp hb with z | z
  ·omega
  ·obtain ⟨l,hl,rfl⟩:=mem_iff_getElem.mp z
   rw [length_drop,Array.length_toList] at hl
   rw [List.getElem_drop,Array.getElem_toList]
   have:=h3 (SetTable.below xs j + l) (by omega) (by omega)
   omega
theorem Te (j:Nat):SetTable.has #[] j = false:=by
 unfold SetTable.has
 simp
theorem AdF {f:Nat→Int} (hd:t.dummies = #[]):∀ (a1:Nat) (p:SetTable.Probe) (j:Nat) (d:Option Nat),p.dummy = none→SetTable.probe.go t f h a1 p = some (.empty j d)→d = none∧t.place[SetTable.below t.place j]?≠some j:=by
 intro a1
 induction a1 with
 | zero=>intro p j d _ e; unfold SetTable.probe.go at e; cases e
 | succ a1 ih =>
  intro p j d hp e
  unfold SetTable.probe.go at e
  have hs:t.slot p.j = (if t.place[SetTable.below t.place p.j]? == some p.j then SetTable.Slot.live (SetTable.below t.place p.j) else SetTable.Slot.empty):=by
   unfold SetTable.slot
   dsimp only
   rw [hd,Te]
   rfl
  rw [hs] at e
  have a2:(t.advance p).dummy = none:=by
   unfold SetTable.advance
   split
   ·exact hp
   ·exact hp
  by_cases c:(t.place[SetTable.below t.place p.j]? == some p.j) = true
  ·rw [if_pos c] at e
   dsimp only at e
   split at e
   ·cases e
   ·exact ih _ _ _ a2 e
  ·rw [if_neg c] at e
   dsimp only at e
   cases e
   exact ⟨hp,λ z=>c (by rw [z]; simp)⟩
theorem AfC {t:SetTable} {h:Int} {j:Nat} {b:Bool} (hd:t.dummies = #[]) (e:t.freeSlot h = some (j,b)):t.place[SetTable.below t.place j]?≠some j:=by
 unfold SetTable.freeSlot SetTable.probe at e
 split at e
 ·rename_i j' d hq
  obtain ⟨rfl,z⟩:=AdF hd _ _ _ _ rfl hq
  cases e
  exact z
 ·cases e
theorem Ee.standIn {led:Bool} {t:SetTable} (h:Ee led t) (n:Nat):Ee led (t.standIn n):=⟨h.led,rfl,AaV n⟩
theorem Ee.plainOff {led:Bool} {t:SetTable} (h:Ee led t):Ee led { t with plain:=false }:=⟨h.led,h.dum,h.rise⟩
theorem Ee.layNew {led:Bool} {t:SetTable} (h:Ee led t) (es:Array (Int× Value)) (k:Int) (x:Value):Ee led (layNew t es k x).2.1:=by
 unfold PySem.layNew
 split
 ·rename_i j b e
  dsimp only
  have z:=AfC h.dum e
  have q:Ee led (t.put j).1:=by
   unfold SetTable.put
   refine ⟨h.led,?_,AeE h.rise z⟩
   dsimp only
   rw [h.dum,Te]
   rfl
  unfold SetTable.orStandIn
  split
  ·exact q
  ·exact q.standIn _
 ·exact h.standIn _
theorem AcY (owner:Array (Option Nat)) (m:Nat):F6 (((List.range m).filterMap λ j=>(owner.getD j none).map (j,·)).map (·.1)).toArray:=by
 unfold F6
 have e:((List.range m).filterMap λ j=>(owner.getD j none).map (j,·)).map (·.1) = (List.range m).filter λ j=>(owner.getD j none).isSome:=by
  induction List.range m with
  | nil=>rfl
  | cons a l ih =>
   rw [filterMap_cons,filter_cons]
   cases q:owner.getD a none with
   | none=>simpa [q] using ih
   | some y=>simpa [q] using ih
 simp only [e]
 exact Pairwise.sublist List.filter_sublist List.pairwise_lt_range
theorem Ee.relay {led:Bool} {t:SetTable} (h:Ee led t) (es:Array (Int× Value)) (n:Nat):Ee led (relayAll t es n).2.1:=by
 unfold relayAll
 split
 ·rename_i t' a1 e
  dsimp only
  split
  ·unfold SetTable.relaid SetTable.laid at e
   simp only [Option.bind_eq_bind,Option.bind_eq_some_iff] at e
   obtain ⟨owner,_,e2⟩:=e
   cases e2
   exact ⟨h.led,rfl,AcY owner _⟩
  ·exact h.standIn _
 ·exact h.standIn _
theorem L7 {α:Type}:∀ (l:List α) (i:Nat) (h:i < l.length),(l[i] :: l.eraseIdx i).Perm l
 | [],i,h=>by simp at h
 | a :: l,0,h=>by simp
 | a :: l,i + 1,h=>by
  have hi:i < l.length:=by simpa using h
  have:=L7 l i hi
  simp only [List.getElem_cons_succ,List.eraseIdx_cons_succ]
  exact (List.Perm.swap _ _ _).trans (this.cons a)
theorem Ae5 {α:Type} (next:Nat→Nat):∀ (a1 k:Nat) (left:List α) (a2:Array α),left.length = a1→(pickOrder.go next a1 k left a2).toList.Perm (a2.toList ++ left):=by
 intro a1
 induction a1 with
 | zero =>
  intro k left a2 hl
  rw [length_eq_zero_iff.mp hl]
  unfold pickOrder.go
  simp
 | succ a1 ih =>
  intro k left a2 hl
  have hi:next k % left.length < left.length:=mod_lt _ (by omega)
  unfold pickOrder.go
  rw [uC hi]
  dsimp only
  refine (ih _ _ _ (by rw [List.length_eraseIdx_of_lt hi]; omega)).trans ?_
  rw [Array.toList_push,append_assoc]
  refine List.Perm.append_left _ ?_
  exact L7 _ _ hi
theorem Nq {α:Type} (next:Nat→Nat) (xs:Array α):(pickOrder next xs).toList.Perm xs.toList:=by
 have:=Ae5 next xs.size 0 xs.toList #[] (by simp)
 unfold pickOrder
 simpa using this
theorem AfS {M:Model} {A:Around} {E:Value→Shared→Prop} {α:Type}:∀ (n:Nat) (xs:List α) (s:Shared) (Q:List α→Shared→Prop),xs.length = n →
  (∀ ys d,List.Perm ys xs→Q ys { s with drawn:=d })→wpAny M A (drawOrder n xs) Q E s:=by
 intro n
 induction n with
 | zero =>
  intro xs s Q hl h
  unfold drawOrder
  have e:=length_eq_zero_iff.mp hl
  subst e
  exact uB (h [] s.drawn .nil)
 | succ n ih =>
  intro xs s Q hl h
  cases xs with
  | nil=>cases hl
  | cons x r =>
   unfold drawOrder
   refine uA (m:=choose .order (x :: r).length) ?_
   intro Γ p a1
   show Sem.wp M Γ (.choose .order (x :: r).length .pure) _ _ p s
   rw [Sem.wp_choose]
   refine ⟨by simp,?_⟩
   generalize hg:M.w.draws .order (s.drawn.get .order) % (x :: r).length = i
   have hi:i < (x :: r).length:=by rw [← hg]; exact mod_lt _ (by simp)
   have g:wpAny M A (do
     match (x :: r)[i]? with
     | some y=>return y :: (← drawOrder n ((x :: r).eraseIdx i))
     | none=>unsupported "internal:drawOrder") Q E { s with drawn:=s.drawn.bump .order }:=by
    rw [uC hi]
    dsimp only
    refine uA (ih _ _ _ (by rw [List.length_eraseIdx_of_lt hi]; simp at hl ⊢; omega) λ ys d hp=>uB ?_)
    exact h _ d ((List.Perm.cons _ hp).trans (L7 _ _ hi))
   trace_state
   exact g
theorem K4 {α β:Type} {F:α→β→Prop} {l l':List α} (p:List.Perm l' l):∀ {ms:List β},PySem.Paired F l ms→∃ a1,List.Perm a1 ms∧PySem.Paired F l' a1:=by
 replace p:=p.symm
 induction p with
 | nil=>intro ms h; exact ⟨ms,.refl _,h⟩
 | cons x _ ih =>
  intro ms h
  cases h with
  | cons f t =>
   obtain ⟨a1,q,r⟩:=ih t
   exact ⟨_ :: a1,q.cons _,.cons f r⟩
 | swap x y l =>
  intro ms h
  cases h with
  | cons f t =>
   cases t with
   | cons g u=>exact ⟨_,List.Perm.swap _ _ _,.cons g (.cons f u)⟩
 | trans _ _ a3 a2 =>
  intro ms h
  obtain ⟨m1,p1,r1⟩:=a3 h
  obtain ⟨m2,p2,r2⟩:=a2 r1
  exact ⟨m2,p2.trans p1,r2⟩
theorem Fj {κ:Type} [DecidableEq κ]:∀ {l l':List κ},l.Nodup→(∀ x∈l,x∈l')→l.length≤l'.length
 | [],_,_,_=>vV _
 | a :: t,l',n,h=>by
  have n:=vN.mp n
  have ha:=h a uH
  have:=Fj (l:=t) (l':=l'.erase a) n.2 λ x hx=>(List.mem_erase_of_ne (show x≠a from λ e=>n.1 (e ▸ hx))).mpr (h x (uI _ hx))
  rw [List.length_erase_of_mem ha] at this
  have hp:=length_pos_of_mem ha
  rw [uU]
  omega
section
variable {κ:Type} [DecidableEq κ] (knd:PySem.KeyKind prog w κ)
structure Dl (h:Heap) (a:Addr) (ks:List κ) (o:Obj) (es:Array (Int× Value)) (ep:Nat) (t:SetTable) (ms:List κ):Prop where
 at':h.get? a = some o
 ex:o.ExactSet
 dat:o.data = .set es ep t
 el:ElemsOf knd es.toList
 pr:PySem.Paired (λ e k=>knd.is k e.2 = true) es.toList ms
 nd:ms.Nodup
 mem:∀ k,k∈ms↔k∈ks
 sm:es.size < scanBound
 fit:t.fits es.size = true
 tab:Ee (!w.params.followText "set-order") t
def SetT (h:Heap) (a:Addr) (ks:List κ):Prop:=∃ o es ep t ms,Dl knd h a ks o es ep t ms
variable {knd}
variable {s:Shared} {ks:List κ} {k:κ} {x:Value}
theorem Dl.keep {o es ep t ms} (S:Dl knd h a ks o es ep t ms) (k:h'.get? a = some o):Dl knd h' a ks o es ep t ms:=⟨k,S.ex,S.dat,S.el,S.pr,S.nd,S.mem,S.sm,S.fit,S.tab⟩
theorem SetT.keep (S:SetT knd h a ks) (k:∀ o,h.get? a = some o→h'.get? a = some o):SetT knd h' a ks:=by
 obtain ⟨o,es,ep,t,ms,D⟩:=S
 exact ⟨o,es,ep,t,ms,D.keep (k o D.at')⟩
theorem SetT.congr (S:SetT knd h a ks) (e:∀ k,k∈ks↔k∈a1):SetT knd h a a1:=by
 obtain ⟨o,es,ep,t,ms,D⟩:=S
 exact ⟨o,es,ep,t,ms,⟨D.at',D.ex,D.dat,D.el,D.pr,D.nd,λ k=>(D.mem k).trans (e k),D.sm,D.fit,D.tab⟩⟩
theorem Dl.size {o es ep t ms} (S:Dl knd h a ks o es ep t ms):es.size = ms.length:=by rw [← PySem.Paired.length S.pr]; simp
theorem Dl.put {o es ep t ms} (S:Dl knd h a ks o es ep t ms) (e1:ElemsOf knd a1.toList) (e2:PySem.Paired (λ e k=>knd.is k e.2 = true) a1.toList a2) (e3:a2.Nodup)
  (e4:∀ k,k∈a2↔k∈a3) (e5:a1.size < scanBound) (e6:t'.fits a1.size = true) (e7:Ee (!w.params.followText "set-order") t') :
  ∃ o',Dl knd (h.update a (Obj.putSet a1 t')) a a3 o' a1 (ep + 1) t' a2:=by
 have hg:=Heap.get?_update_self (Obj.putSet a1 t') S.at' (by rw [putSet_of a1 t' S.dat]; rfl)
 rw [putSet_of a1 t' S.dat] at hg
 exact ⟨_,hg,S.ex,rfl,e1,e2,e3,e4,e5,e6,e7⟩
theorem AeH {l:List (Int× Value)} {ms:List κ} (p:PySem.Paired (λ e k=>knd.is k e.2 = true) l ms):k∈ms↔∃ e∈l,knd.is k e.2 = true:=by
 induction p with
 | nil=>simp
 | cons f _ ih =>
  rename_i e m l ms _
  rw [vI,ih]
  constructor
  ·rintro (rfl | ⟨e',h1,h2⟩)
   ·exact ⟨e,uH,f⟩
   ·exact ⟨e',uI _ h1,h2⟩
  ·rintro ⟨e',h1,h2⟩
   rcases vI.mp h1 with rfl | h1
   ·exact .inl (knd.inj _ _ _ h2 f)
   ·exact .inr ⟨e',h1,h2⟩
theorem U2 {g:Bool→Sem Unit} (hg:∀ (b:Bool) (a2:Shared) (Q':Unit→Shared→Prop),Q' () a2→wpAny (model prog w) A (g b) Q' E a2) {o es ep t ms} (S:Dl knd s.heap a ks o es ep t ms)
  {a1:Array (Int× Value)} {t1:SetTable} {a3 a4:List κ} (e1:ElemsOf knd a1.toList) (e2:PySem.Paired (λ e k=>knd.is k e.2 = true) a1.toList a3) (e3:a3.Nodup)
  (e4:∀ k,k∈a3↔k∈a4) (e5:a1.size < scanBound) (e6:t1.fits a1.size = true) (e7:Ee (!w.params.followText "set-order") t1) {dm:Bool} {R:Option Bool→Shared→Prop}
  (h:∀ h',Heap.SameBut a s.heap h'→SetT knd h' a a4→R (some true) { s with heap:=h' }) :
  wpAny (model prog w) A (do
   storeSet a a1 t1
   if (!dm && t1.tooFull) = true then do
    g (relayAll t1 a1 (SetTable.grown a1.size)).2.2
    storeSet a (relayAll t1 a1 (SetTable.grown a1.size)).1 (relayAll t1 a1 (SetTable.grown a1.size)).2.1
    pure (some true)
   else pure (some true)) R E s:=by
 refine uA (wpAny_storeSet_of S.at' S.dat ?_ (fits_of_scanBound e5))
 obtain ⟨o1,S1⟩:=S.put e1 e2 e3 e4 e5 e6 e7
 have b1:=Heap.SameBut.update s.heap a (Obj.putSet a1 t1)
 by_cases c:(!dm && t1.tooFull) = true
 ·rw [if_pos c]
  have p2:=relayAll_perm t1 a1 (SetTable.grown a1.size)
  have f2:=relayAll_fits t1 a1 (SetTable.grown a1.size)
  have q2:=e7.relay a1 (SetTable.grown a1.size)
  generalize relayAll t1 a1 (SetTable.grown a1.size) = Rl at p2 f2 q2 ⊢
  obtain ⟨a5,t2,gv⟩:=Rl
  dsimp only at p2 f2 q2 ⊢
  obtain ⟨a6,pm,r2⟩:=K4 p2 e2
  have hz:a5.size = a1.size:=by have:=p2.length_eq; simpa using this
  refine uA (hg _ _ _ ?_)
  refine uA (wpAny_storeSet_of S1.at' S1.dat ?_ (fits_of_scanBound (by omega)))
  obtain ⟨o2,S2⟩:=S1.put (e1.perm p2) r2 (pm.nodup_iff.mpr e3) (λ k=>pm.mem_iff.trans (e4 k)) (by omega) f2 q2
  exact uB (h _ (b1.trans (Heap.SameBut.update _ a _)) ⟨_,_,_,_,_,S2⟩)
 ·rw [if_neg c]
  exact uB (h _ b1 ⟨_,_,_,_,_,S1⟩)
theorem Aat {Q:Bool→Shared→Prop} (hk:knd.is k x = true) (hx:x.scannable = true) (S:SetT knd s.heap a ks) (hr:ks.length + 1 < scanBound)
  (h:∀ b h',Heap.SameBut a s.heap h'→SetT knd h' a (ks ++ [k])→Q b { s with heap:=h' }):wpAny (model prog w) A (setAddHashed a x (knd.hash k)) Q E s:=by
 obtain ⟨o,es,ep,t,ms,D⟩:=S
 have hz:=D.size
 have a7:ms.length≤ks.length:=Fj D.nd λ k hk=>(D.mem k).mp hk
 unfold setAddHashed setAddHashedIn
 refine vT (uA (wpAny_setState_of D.at' D.dat D.fit ?_))
 dsimp only
 rw [byScan_of hx D.sm D.el,if_pos rfl]
 unfold setAddByScan
 refine uA (uA (wpAny_rule (uA (wpAny_setScan_of hk D.at' D.dat D.fit D.el ?_))))
 cases hf:List.findIdx? (λ e=>knd.is k e.2) es.toList with
 | some j =>
  dsimp only
  obtain ⟨hj,pj,_⟩:=List.findIdx?_eq_some_iff_getElem.mp hf
  have a5:k∈ms:=(AeH D.pr).mpr ⟨_,vH hj,pj⟩
  refine uB (uB ?_)
  have q:=h false s.heap (Heap.SameBut.refl a s.heap) (SetT.congr ⟨o,es,ep,t,ms,D⟩ λ k'=>?_)
  ·cases s; exact q
  ·rw [uV,vC]
   exact ⟨.inl,λ z=>z.elim id λ z=>by subst z; exact (D.mem _).mp a5⟩
 | none =>
  dsimp only
  have a4:¬ k∈ms:=λ z=>by
   obtain ⟨e,he,q⟩:=(AeH D.pr).mp z
   have:=List.findIdx?_eq_none_iff.mp hf e he
   rw [q] at this; cases this
  have p1:=layNew_perm t es (knd.hash k) x
  have f1:=layNew_fits t es (knd.hash k) x
  have q1:=D.tab.layNew es (knd.hash k) x
  generalize layNew t es (knd.hash k) x = L at p1 f1 q1 ⊢
  obtain ⟨a6,t1,dm,gv⟩:=L
  dsimp only at p1 f1 q1 ⊢
  rw [Array.toList_push] at p1
  have e1:=(D.el.push hk hx).perm p1
  obtain ⟨a2,pm,r1⟩:=K4 p1 (D.pr.snoc (F:=λ (e:Int× Value) k=>knd.is k e.2 = true) hk)
  have z1:a6.size = es.size + 1:=by have:=p1.length_eq; simpa using this
  have e3:a2.Nodup:=pm.nodup_iff.mpr (List.nodup_append.mpr ⟨D.nd,by simp,λ y hy z hz=>by rw [vC] at hz; subst hz; exact λ e=>a4 (e ▸ hy)⟩)
  have e4:∀ k',k'∈a2↔k'∈ks ++ [k]:=λ k'=>by rw [pm.mem_iff,uV,uV,D.mem]
  have gw:∀ (b:Bool) (a1:Shared) (Q':Unit→Shared→Prop),Q' () a1→wpAny (model prog w) A (match b with | true=>rule "set.scan.the-table-gave-way" | false=>pure ()) Q' E a1:=λ b a1 Q' q=>by
   cases b
   ·exact uB q
   ·exact wpAny_rule q
  refine uA (gw _ _ _ ?_)
  have a3:∀ h',Heap.SameBut a s.heap h'→SetT knd h' a (ks ++ [k])→wpAny (model prog w) A (pure true) Q E { s with heap:=h' }:=λ h' b S'=>uB (h true h' b S')
  split
  ·refine uA ?_
   rw [hashByValue_scannable 8 hx]
   refine uB ?_
   refine U2 gw D e1 r1 e3 e4 (by omega) (by split; exact f1; exact SetTable.fits_plain_off f1) (by split; exact q1; exact q1.plainOff) ?_
   intro h' b S'
   exact a3 h' b S'
  ·refine uA (uB ?_)
   rw [if_pos rfl]
   refine U2 gw D e1 r1 e3 e4 (by omega) f1 q1 ?_
   intro h' b S'
   exact a3 h' b S'
end
section
variable {κ:Type} [DecidableEq κ] {knd:PySem.KeyKind prog w κ}
theorem Ady {R:Result→Shared→Prop} {G:Array GenState→Array GenState→Prop} {P:Nat→Value→Prop} {St:Nat→Shared→Prop} (W:WalksS prog w A.in1 I fp wr G n P St) (S:Addr) (a2:S∉fp)
  (ks:List κ) (hn:ks.length = n) (hv:∀ i v,P i v→∃ k,ks[i]? = some k∧knd.is k v = true∧v.scannable = true) (hb:n + 1 < scanBound) :
  ∀ (j i:Nat) (s:Shared),n - i = j→i≤n→St i s→SetT knd s.heap S (ks.take i)→(∀ s',Moved (S :: wr) G s s'→SetT knd s'.heap S ks→R (.ok (.ret .none)) s') →
   codeAny (model prog w) A (.builtin "set.update.loop" ⟨[.ref S,.ref I],[]⟩) R s:=by
 have a3:S∉wr:=λ h=>a2 (W.sub _ h)
 have sub:∀ b∈wr,b∈S :: wr:=λ b hb=>uI _ hb
 intro j
 induction j with
 | zero =>
  intro i s hj hi st hS hR
  have e:i = n:=by omega
  subst e
  refine codeAny_builtin PyProof.Rows.F.entry_set_update_loop ?_
  rw [Around.under_plainId PyProof.Rows.F.plain_set_update_loop _]
  refine uA (m:=pyNext (.ref I)) (W.done s _ _ st λ s' mv=>?_)
  refine uB (hR s' (mv.mono sub) ?_)
  rw [uT (by omega)] at hS
  exact hS.keep λ o q=>mv.heap S o a3 q
 | succ j ih =>
  intro i s hj hi st hS hR
  have a1:i < n:=by omega
  refine codeAny_builtin PyProof.Rows.F.entry_set_update_loop ?_
  rw [Around.under_plainId PyProof.Rows.F.plain_set_update_loop _]
  refine uA (m:=pyNext (.ref I)) (W.item i s _ _ a1 st λ v s' hP a6 mv=>?_)
  obtain ⟨k,ek,hk,hx⟩:=hv i v hP
  have a8:=hS.keep λ o q=>mv.heap S o a3 q
  show wpAny _ A.in1 (holding [v] (setAdd S v) >>= _) _ _ s'
  refine uA (vT ?_)
  unfold setAdd
  refine vT (uA (knd.pyHash (k:=k) hk ?_))
  refine Aat (s:={ s' with toks:=s'.toks + 1 }) hk hx a8 (by rw [vD]; omega) λ b h' sb S2=>?_
  have et:ks.take (i + 1) = ks.take i ++ [k]:=by rw [take_add_one,ek]; rfl
  refine uB ⟨plainId_quiet PyProof.Rows.F.plain_set_update_loop _,ih (i + 1) _ (by omega) a1 (W.frame _ s' _ _ a6 (le_succ _) λ b hb o q=>?_) (by rw [et]; exact S2) λ a5 a4 a7=>?_⟩
  ·exact (sb.2 b (λ z:b = S=>a2 (z ▸ hb))).trans q
  ·refine hR a5 (Moved.trans W.gtrans ((mv.mono sub).then_heap (le_succ _) λ b o hb q=>?_) a4) a7
   exact (sb.2 b (λ z:b = S=>hb (by rw [z]; exact uH))).trans q
variable {s:Shared}
abbrev setNew (w:World):Obj:={ cls:=.type "set", dict:=none,data:=.set #[] 0 (.fresh 0 0 (!w.params.followText "set-order")) }
theorem X6 (a:Value) {Q:Value→Shared→Prop} (h:Q (.ref s.heap.objs.size) { s with heap:=s.heap.push (setNew w) }) :
  codeAny (model prog w) A (.call (.builtin "set.__new__") ⟨[.type "set", a],[]⟩) (wants Q E) s:=by
 refine codeAny_of_tree ?_
 refine uA (m:=checkBuiltinCall "set.__new__" ⟨[.type "set", a],[]⟩) (wpAny_of_eq (PySem.F.newCall_set_1 a) (uB ⟨plainId_quiet PySem.F.plain_set_new _,codeAny_builtin PySem.F.entry_set_new ?_⟩))
 rw [Around.under_plainId PySem.F.plain_set_new _]
 unfold Builtin.«set.__new__» Builtin.Frozenset.newClass
 have a1:=sub_set_self
 obtain ⟨hp,g,d,tk,os⟩:=s
 dsimp only
 wp_walk
 refine wpAny_askSetting (uB ?_)
 dsimp only
 simp only [newObj]
 refine uA (wpAny_alloc (uB ?_))
 exact uB h
theorem AcL (e:h.get? a = some (setNew w)):SetT knd h a [] :=
 ⟨_,#[],0,_,[],e,⟨rfl,rfl,rfl⟩,rfl,λ e he=>by simp at he,.nil,by simp,λ k=>Iff.rfl,by decide,rfl,⟨rfl,rfl,by unfold F6; exact .nil⟩⟩
end
section
variable {κ:Type} [DecidableEq κ] {knd:PySem.KeyKind prog w κ} {s:Shared}
def Ll (knd:PySem.KeyKind prog w κ) (s:Shared) (ks:List κ) (s2:Shared):Prop:=∃ h' tk,s2 = { s with heap:=h',toks:=tk }∧SetT knd h' s.heap.objs.size ks∧∀ b o,b < s.heap.objs.size→s.heap.get? b = some o→h'.get? b = some o
theorem AdJ (hh:A.handled = none) (hl:s.heap.IsList l a1) (hn:ks.length = a1.size) (hv:∀ (i:Nat) (v:Value),a1[i]? = some v→∃ k,ks[i]? = some k∧knd.is k v = true∧v.scannable = true) (hb:a1.size + 1 < scanBound)
  {Q:Unit→Shared→Prop} (h:∀ s2,Ll knd s ks s2→Q () s2) :
  wpAny (model prog w) A (Builtin.Frozenset.updateFrom "set.__init__" s.heap.objs.size (.ref l)) Q E { s with heap:=s.heap.push (setNew w) }:=by
 obtain ⟨ol,a6,a4,nl,a7⟩:=id hl
 have a2:=Heap.get?_push_of_some (setNew w) a6
 have ty:Shared.TypeIs { s with heap:=s.heap.push (setNew w) } (.ref l) "list" := ⟨ol,a2,a4⟩
 have a5:l < s.heap.objs.size:=Heap.lt_size a6
 have a3:(s.heap.push (setNew w)).IsList l a1:=⟨_,a2,a4,nl,a7⟩
 have f1:=PySem.F.sub_list_set
 have f2:=PySem.F.sub_list_frozenset
 unfold Builtin.Frozenset.updateFrom
 refine uA (m:=Builtin.Frozenset.isAnySet (.ref l)) ?_
 have e0:Builtin.Frozenset.isAnySet (.ref l) = (isInstance (.ref l) (.type "set") >>= λ b=>if b = true then pure true else isInstance (.ref l) (.type "frozenset")):=by
  unfold Builtin.Frozenset.isAnySet orM toBool
  congr 1
  funext b
  cases b <;> rfl
 rw [e0]
 refine uA (wpAny_isInstance ty f1 ?_)
 rw [if_neg Bool.false_ne_true]
 refine wpAny_isInstance ty f2 ?_
 rw [if_neg Bool.false_ne_true]
 refine uA (wpAny_typeOf ty ?_)
 rw [if_neg (by decide)]
 refine uA (wpAny_pyIter_list a3 ?_)
 refine uA (wpAny_runValue ?_)
 have a9:A.in1.handled = none:=hh
 have b6:l≠(s.heap.push (setNew w)).objs.size:=by rw [Heap.size_push]; exact vB (lt_succ_of_lt a5)
 have a8:s.heap.objs.size∉[(s.heap.push (setNew w)).objs.size,l]:=by
  rw [Heap.size_push]
  simp only [vI,vF,or_false,not_or]
  exact ⟨vB (lt_succ_self _),ne_of_gt a5⟩
 refine Ady (knd:=knd) ((Walks.list a9 _ l b6 a1).toS) s.heap.objs.size a8 ks hn hv hb (a1.size - 0) 0 _ (by omega) (vV _) ⟨⟨_,Heap.get?_push_size _ rfl,rfl,rfl⟩,a3.push _⟩ ?_ ?_
 ·exact AcL (Heap.get?_push_of_some _ (Heap.get?_push_size _ rfl))
 ·intro s' mv S'
  refine uB (h _ ⟨s'.heap,s'.toks,?_,S',λ b o hb e=>?_⟩)
  ·obtain ⟨h',g',d',b8,b7⟩:=s'
   have eg:g' = s.gens:=mv.gens
   have ed:d' = s.drawn:=mv.drawn
   have eo:b7 = s.os:=mv.os
   subst eg ed eo
   rfl
  ·refine mv.heap b o ?_ (Heap.get?_push_of_some _ (Heap.get?_push_of_some _ e))
   rw [Heap.size_push]
   simp only [vI,vF,or_false,not_or]
   exact ⟨vB hb,vB (lt_succ_of_lt hb)⟩
theorem S8 {Q:Value→Shared→Prop} (hh:A.handled = none) (hl:s.heap.IsList l a1) (hn:ks.length = a1.size) (hv:∀ (i:Nat) (v:Value),a1[i]? = some v→∃ k,ks[i]? = some k∧knd.is k v = true∧v.scannable = true)
  (hb:a1.size + 1 < scanBound) (h:∀ s2,Ll knd s ks s2→Q (.ref s.heap.objs.size) s2):wpAny (model prog w) A (call (.type "set") [.ref l]) Q E s:=by
 obtain ⟨c,tl,hm⟩:=PySem.F.called_set.mro
 have q1:=PySem.F.called_set.made
 have q2:=PySem.F.called_set.sub
 refine wpAny_call (codeAny_of_tree ?_)
 refine uB ⟨Code.quiet_builtin _ (by decide +kernel),codeAny_builtin PySem.F.entry_type_call ?_⟩
 rw [Around.under_plain (weight_type_call_type "set" [.ref l] []) rfl]
 have q3:=PySem.F.called_set.notType
 have q4:=PySem.F.called_set.canCreate
 have q5:=PySem.F.typeCall_set_1 (.ref l)
 repeat any_goals (first | wp_step | assumption)
 refine codeAny_mono (X6 (w:=w) (.ref l) (E:=E) (Q:=λ obj a4=>obj = .ref s.heap.objs.size∧a4 = { s with heap:=s.heap.push (setNew w) }) ⟨rfl,rfl⟩) λ r a4 hr=>?_
 cases r with
 | error e=>exact hr
 | ok fl =>
  cases fl with
  | ret obj =>
   obtain ⟨rfl,rfl⟩:=hr
   have hS:(s.heap.push (setNew w)).get? s.heap.objs.size = some (setNew w):=Heap.get?_push_size _ rfl
   have ty:Shared.TypeIs { s with heap:=s.heap.push (setNew w) } (.ref s.heap.objs.size) "set" := ⟨_,hS,rfl⟩
   have q6:=PySem.F.called_set.init.lookup
   have q7:=PySem.F.called_set.init.bind (.ref s.heap.objs.size)
   repeat any_goals (first | wp_step | assumption)
   refine codeAny_mono (codeAny_call_builtin (R:=wants (λ r a3=>r = .none∧Ll knd s ks a3) E) PySem.F.called_set.init.plain PySem.F.entry_set_init (check_set_init_1 ty ?_)) λ a7 a3 a2=>?_
   ·unfold Builtin.«set.__init__» noKeywords
    generalize hU:Builtin.Frozenset.updateFrom = U
    have a5:wpAny (model prog w) A.in1.in1 (U "set.__init__" s.heap.objs.size (.ref l)) (λ _ s2=>Ll knd s ks s2) (λ e s'=>wants (λ r a3=>r = .none∧Ll knd s ks a3) E (.error e) s') { s with heap:=s.heap.push (setNew w) }:=by
     rw [← hU]
     exact AdJ (A:=A.in1.in1) hh hl hn hv hb λ s2 m=>m
    wp_walk
    refine vS a5 (λ _ s2 m=>?_) λ _ _ q=>q
    exact uB ⟨rfl,m⟩
   ·cases a7 with
    | error e=>exact a2
    | ok a6 =>
     cases a6 with
     | ret r =>
      obtain ⟨rfl,m⟩:=a2
      have z:=h _ m
      repeat any_goals (first | wp_step | assumption)
     | _=>exact a2.elim
  | _=>exact hr.elim
end
theorem B4:Slot "set_iterator" "__next__" "set_iterator.__next__" :=
 .of (owner:= "set_iterator") (n:= "__next__") (by rw [typeLookup_type,builtinLookup_eq_fast]; kernel_rfl) (by decide +kernel) (by decide +kernel) (by decide +kernel)
  (by first | exact .inl (by decide +kernel) | exact .inr (by decide +kernel)) (by rw [isSubtype_type]; kernel_rfl)
theorem Fc:entryFor table "set_iterator.__next__" = some Builtin.«set_iterator.__next__»:=entryFor_of_tree (by kernel_rfl)
theorem Q0:Manifest.owners.lookup (String.ofList ['r', 'o', 't', 'a', 'r', 'e', 't', 'i', '_', 't', 'e', 's'].reverse) = some Manifest.sig_set_iterator:=by kernel_rfl
theorem Fx (a:Value):argsOk "set_iterator.__next__" ⟨[a],[]⟩:=by
 unfold argsOk
 rw [signature?_of (id:= "set_iterator.__next__") (n:=['_', '_', 't', 'x', 'e', 'n', '_', '_']) (o:=['r', 'o', 't', 'a', 'r', 'e', 't', 'i', '_', 't', 'e', 's']) (by kernel_rfl) Q0]
 kernel_rfl
theorem R8:entryFor table "set.__iter__" = some Builtin.«frozenset.__iter__» :=
 entryFor_alias (id':= "frozenset.__iter__") (by kernel_rfl) rfl (by decide +kernel) (by kernel_rfl)
abbrev itObj (first:Value) (i:Nat) (a:Addr) (n ep:Nat):Obj:={ cls:=.type "set_iterator", dict:=none,data:=.fields #[first,.int i 0,.ref a,.int n 0,.int ep 0],slots:=#[] }
section
variable {s:Shared} {I:Addr} {i ep:Nat} {Q:Option Value→Shared→Prop}
theorem U9 (hh:A.handled = none) (ho:s.heap.get? I = some o) (hd:o.data = .fields vs) (hm:m < vs.size) {R:PySem.Fin→Shared→Prop} {E':Value→Shared→Prop}
  (h:∀ x h',(⟨h',s.gens,s.drawn,s.toks,s.os⟩:Shared).TypeIs x "StopIteration" → Heap.ExtBut I s.heap h'→E' x { s with heap:=h' }) :
  wpAny (model prog w) A (do setField (.ref I) m .none; raiseNew (← newExc (.type "StopIteration") [])) R E' s:=by
 refine uA (wpAny_setField ho hd hm ?_)
 refine uA (m:=newExc (.type "StopIteration") []) ?_
 simp only [newExc,newTuple]
 refine uA (wpAny_newObj_type ?_ (by size_fits))
 refine uA (m:=firstArgMember _ _) (wpAny_of_eq (a:=Value.none) (by first | rfl | (simp only [firstArgMember]; rfl)) ?_)
 refine wpAny_newObj_type ?_ (by size_fits)
 simp only [raiseNew]
 refine uA (wpAny_handled ?_)
 rw [hh]
 refine uA (uB (wpAny_throw ?_))
 exact h _ _ ⟨_,Heap.get?_push_size _ rfl,rfl⟩ (((Heap.SameBut.update ..).extBut.push _).push _)
theorem Xi {slot nx:Nat} {x:Value} (ho:s.heap.get? I = some (itObj (.int slot 0) i a n ep)) (hz:∀ (A:Around) (E:Value→Shared→Prop) (Q:Array (Int× Value)→Shared→Prop),(∀ es,es.size = n→Q es s)→wpAny (model prog w) A (setEntries a) Q E s)
  (hN:∀ (A:Around) (E:Value→Shared→Prop) (Q:Option (Value× Nat)→Shared→Prop),Q (some (x,nx)) s→wpAny (model prog w) A (setNext a slot i ep) Q E s)
  (hQ:∀ h',h'.get? I = some (itObj (.int nx 0) (i + 1) a n ep)→Heap.SameBut I s.heap h'→Q (some x) { s with heap:=h' }):wpAny (model prog w) A (pyNext (.ref I)) Q E s:=by
 have ty:s.TypeIs (.ref I) "set_iterator" := ⟨_,ho,rfl⟩
 unfold pyNext
 refine uA (wpAny_attempt (wpAny_callSpecial?_slot (name:=Str.ofString "__next__") ty B4 (vW B4 ty Fc ?_ (Fx _))))
 unfold Builtin.«set_iterator.__next__»
 refine uA (m:=slotArgs "__next__" 0 _) (uB ?_)
 refine uA (wpAny_fieldsOf ho rfl ?_)
 show wpAny _ _ (setEntries a >>= _) _ _ s
 refine uA (hz _ _ _ λ es e=>?_)
 rw [if_neg (by rw [e]; simp)]
 show wpAny _ _ (setNext a (slot:Int).toNat (i:Int).toNat (ep:Int).toNat >>= _) _ _ s
 simp only [Int.toNat_natCast]
 refine uA (hN _ _ _ ?_)
 dsimp only
 refine uA (vX ho (by simp) λ h1 e1 b1=>?_)
 refine uA (vX (s:={ s with heap:=h1 }) e1 (by simp) λ h2 e2 b2=>?_)
 refine uB ⟨_,rfl,uB (hQ h2 ?_ (b1.trans b2))⟩
 rw [e2]
 simp [rawInt]
theorem Xj {slot:Nat} (hh:A.handled = none) (ho:s.heap.get? I = some (itObj (.int slot 0) i a n ep)) (hz:∀ (A:Around) (E:Value→Shared→Prop) (Q:Array (Int× Value)→Shared→Prop),(∀ es,es.size = n→Q es s)→wpAny (model prog w) A (setEntries a) Q E s)
  (hN:∀ (A:Around) (E:Value→Shared→Prop) (Q:Option (Value× Nat)→Shared→Prop),Q none s→wpAny (model prog w) A (setNext a slot i ep) Q E s)
  (hQ:∀ h',Heap.ExtBut I s.heap h'→Q none { s with heap:=h' }):wpAny (model prog w) A (pyNext (.ref I)) Q E s:=by
 have ty:s.TypeIs (.ref I) "set_iterator" := ⟨_,ho,rfl⟩
 unfold pyNext
 refine uA (wpAny_attempt (wpAny_callSpecial?_slot (name:=Str.ofString "__next__") ty B4 (vW B4 ty Fc ?_ (Fx _))))
 unfold Builtin.«set_iterator.__next__»
 refine uA (m:=slotArgs "__next__" 0 _) (uB ?_)
 refine uA (wpAny_fieldsOf ho rfl ?_)
 show wpAny _ _ (setEntries a >>= _) _ _ s
 refine uA (hz _ _ _ λ es e=>?_)
 rw [if_neg (by rw [e]; simp)]
 show wpAny _ _ (setNext a (slot:Int).toNat (i:Int).toNat (ep:Int).toNat >>= _) _ _ s
 simp only [Int.toNat_natCast]
 refine uA (hN _ _ _ ?_)
 dsimp only
 refine U9 (A:=A.in1) hh ho rfl (by simp) λ x h' a1 b=>?_
 refine uA (wpAny_isInstance (T:= "StopIteration") (b:=true) a1 isSubtype_stop ?_)
 exact uB (hQ h' b)
theorem Ac6 {pl:List Nat} {q:Nat} {x:Value} {h0:Int} {a1:Array (Int× Value)} {t:SetTable} (ho:s.heap.get? I = some (itObj (.ref tp) i a n ep)) (a2:s.heap.get? tp = some { cls:=.type "tuple", data:=.seq (pl.map λ (p:Nat)=>rawInt p).toArray }) (hz:∀ (A:Around) (E:Value→Shared→Prop) (Q:Array (Int× Value)→Shared→Prop),(∀ es,es.size = n→Q es s)→wpAny (model prog w) A (setEntries a) Q E s)
  (hS:∀ (A:Around) (E:Value→Shared→Prop) (Q:Array (Int× Value)× Nat× SetTable→Shared→Prop),Q (a1,ep,t) s→wpAny (model prog w) A (setState a) Q E s)
  (hp:pl[i]? = some q) (hx:a1[q]? = some (h0,x)) (hQ:∀ h',h'.get? I = some (itObj (.ref tp) (i + 1) a n ep)→Heap.SameBut I s.heap h'→Q (some x) { s with heap:=h' }):wpAny (model prog w) A (pyNext (.ref I)) Q E s:=by
 have ty:s.TypeIs (.ref I) "set_iterator" := ⟨_,ho,rfl⟩
 unfold pyNext
 refine uA (wpAny_attempt (wpAny_callSpecial?_slot (name:=Str.ofString "__next__") ty B4 (vW B4 ty Fc ?_ (Fx _))))
 unfold Builtin.«set_iterator.__next__»
 refine uA (m:=slotArgs "__next__" 0 _) (uB ?_)
 refine uA (wpAny_fieldsOf ho rfl ?_)
 show wpAny _ _ (setEntries a >>= _) _ _ s
 refine uA (hz _ _ _ λ es e=>?_)
 rw [if_neg (by rw [e]; simp)]
 show wpAny _ _ (seqItems? (.ref tp) >>= _) _ _ s
 refine uA (wpAny_seqItems a2 rfl ?_)
 dsimp only
 have hq:(pl.map λ (p:Nat)=>rawInt p).toArray[(i:Int).toNat]? = some (rawInt q):=by simp [hp]
 rw [hq]
 show wpAny _ _ (setNextDrawn a (q:Int).toNat (ep:Int).toNat >>= _) _ _ s
 simp only [Int.toNat_natCast]
 unfold setNextDrawn
 refine uA (uA (hS _ _ _ ?_))
 dsimp only
 rw [if_neg (by simp),hx]
 refine uB ?_
 refine uA (vX ho (by simp) λ h1 e1 b1=>?_)
 refine uB ⟨_,rfl,uB (hQ h1 ?_ b1)⟩
 rw [e1]
 simp [rawInt]
theorem AdV {pl:List Nat} (hh:A.handled = none) (ho:s.heap.get? I = some (itObj (.ref tp) i a n ep)) (a2:s.heap.get? tp = some { cls:=.type "tuple", data:=.seq (pl.map λ (p:Nat)=>rawInt p).toArray }) (hz:∀ (A:Around) (E:Value→Shared→Prop) (Q:Array (Int× Value)→Shared→Prop),(∀ es,es.size = n→Q es s)→wpAny (model prog w) A (setEntries a) Q E s)
  (hp:pl[i]? = none) (hQ:∀ h',Heap.ExtBut I s.heap h'→Q none { s with heap:=h' }):wpAny (model prog w) A (pyNext (.ref I)) Q E s:=by
 have ty:s.TypeIs (.ref I) "set_iterator" := ⟨_,ho,rfl⟩
 unfold pyNext
 refine uA (wpAny_attempt (wpAny_callSpecial?_slot (name:=Str.ofString "__next__") ty B4 (vW B4 ty Fc ?_ (Fx _))))
 unfold Builtin.«set_iterator.__next__»
 refine uA (m:=slotArgs "__next__" 0 _) (uB ?_)
 refine uA (wpAny_fieldsOf ho rfl ?_)
 show wpAny _ _ (setEntries a >>= _) _ _ s
 refine uA (hz _ _ _ λ es e=>?_)
 rw [if_neg (by rw [e]; simp)]
 show wpAny _ _ (seqItems? (.ref tp) >>= _) _ _ s
 refine uA (wpAny_seqItems a2 rfl ?_)
 dsimp only
 have hq:(pl.map λ (p:Nat)=>rawInt p).toArray[(i:Int).toNat]? = none:=by simpa using hp
 rw [hq]
 dsimp only
 refine uA (vX ho (by simp) λ h1 e1 b1=>?_)
 refine U9 (s:={ s with heap:=h1 }) (A:=A.in1) hh e1 rfl (by simp) λ x h' a1 b=>?_
 refine uA (wpAny_isInstance (T:= "StopIteration") (b:=true) a1 isSubtype_stop ?_)
 exact uB (hQ h' λ b' o' hb e=>b b' o' hb (b1.extBut b' o' hb e))
end
theorem Ln:Slot "set_iterator" "__iter__" "set_iterator.__iter__" :=
 .of (owner:= "set_iterator") (n:= "__iter__") (by rw [typeLookup_type,builtinLookup_eq_fast]; kernel_rfl) (by decide +kernel) (by decide +kernel) (by decide +kernel)
  (by first | exact .inl (by decide +kernel) | exact .inr (by decide +kernel)) (by rw [isSubtype_type]; kernel_rfl)
theorem Qx:entryFor table "set_iterator.__iter__" = some Builtin.«dict_keyiterator.__iter__» :=
 entryFor_alias (id':= "dict_keyiterator.__iter__") (by kernel_rfl) rfl (by decide +kernel) (by kernel_rfl)
theorem Sh (a:Value):argsOk "set_iterator.__iter__" ⟨[a],[]⟩:=by
 unfold argsOk
 rw [signature?_of (id:= "set_iterator.__iter__") (n:=['_', '_', 'r', 'e', 't', 'i', '_', '_']) (o:=['r', 'o', 't', 'a', 'r', 'e', 't', 'i', '_', 't', 'e', 's']) (by kernel_rfl) Q0]
 kernel_rfl
section
variable {κ:Type} [DecidableEq κ] {knd:PySem.KeyKind prog w κ} {s:Shared} {I:Addr} {ks:List κ} {o:Obj} {es:Array (Int× Value)} {ep:Nat} {t:SetTable} {ms:List κ}
theorem Nj {Q:Value→Shared→Prop} (ty:s.TypeIs (.ref I) "set_iterator") (h:Q (.ref I) s):wpAny (model prog w) A (pyIter (.ref I)) Q E s:=by
 refine wpAny_pyIter_slot ty Ln (vW Ln ty Qx ?_ (Sh _))
 show wpAny _ _ (ret (.ref I)) _ _ s
 exact uB ⟨_,rfl, "set_iterator", _,ty,B4.lookup,h⟩
theorem Ot {Q:Bool→Shared→Prop} (h:Q (w.params.followText "set-order") s):wpAny (model prog w) A setsByText Q E s:=by
 unfold setsByText
 exact uA (wpAny_askSetting (uB h))
theorem Dl.state (D:Dl knd s.heap a ks o es ep t ms) {Q:Array (Int× Value)× Nat× SetTable→Shared→Prop} (h:Q (es,ep,t) s):wpAny (model prog w) A (setState a) Q E s:=wpAny_setState_of D.at' D.dat D.fit h
theorem Dl.entries (D:Dl knd s.heap a ks o es ep t ms) {Q:Array (Int× Value)→Shared→Prop} (h:Q es s):wpAny (model prog w) A (setEntries a) Q E s:=by
 unfold setEntries
 exact uA (D.state (uB h))
theorem Uc (D:Dl knd s.heap a ks o es ep t ms) (ft:w.params.followText "set-order" = true) {Q:Option (Value× Nat)→Shared→Prop} (h:Q (((pickOrder (w.params.setOrder a ep) es)[a1]?).map λ e=>(e.2,slot)) s) :
  wpAny (model prog w) A (setNext a slot a1 ep) Q E s:=by
 unfold setNext
 refine uA (D.state ?_)
 dsimp only
 refine uA (Ot ?_)
 rw [if_pos ft,if_neg (by simp)]
 refine uA ?_
 unfold setWalk
 refine uA (D.state ?_)
 dsimp only
 refine uA (Ot ?_)
 rw [if_pos ft]
 refine uA (wpAny_askSetting (uB ?_))
 exact uB h
theorem Qe (D:Dl knd s.heap a ks o es ep t ms) (ft:w.params.followText "set-order" = false) (hd:(!t.plain && decide (es.size > 1)) = false) {Q:Option (Value× Nat)→Shared→Prop}
  (h:Q (match es[SetTable.below t.place slot]?,t.place[SetTable.below t.place slot]? with | some (_,x),some j=>some (x,j + 1) | _,_=>none) s) :
  wpAny (model prog w) A (setNext a slot a1 ep) Q E s:=by
 have hl:t.led = true:=by rw [D.tab.led,ft]; rfl
 unfold setNext
 refine uA (D.state ?_)
 dsimp only
 refine uA (Ot ?_)
 rw [if_neg (by rw [ft]; exact Bool.false_ne_true)]
 show wpAny _ _ (if (!t.plain && decide (es.size > 1)) = true then _ else _) _ _ s
 rw [hd,if_neg Bool.false_ne_true]
 refine uA ?_
 show wpAny _ _ (if (!t.led && !es.isEmpty) = true then _ else _) _ _ s
 rw [hl]
 exact uB (uB h)
end
def Nv (pl:Array Nat):Nat→Nat
 | 0=>0
 | i + 1=>pl.getD i 0 + 1
theorem Qi (h:F6 pl) (hi:i≤pl.size):SetTable.below pl (Nv pl i) = i:=by
 cases i with
 | zero=>exact Aa8 h
 | succ i =>
  have e:pl.getD i 0 = pl[i]:=by simp [Array.getD,show i < pl.size by omega]
  show SetTable.below pl (pl.getD i 0 + 1) = i + 1
  rw [e]
  exact Aai h (by omega)
section
variable {κ:Type} [DecidableEq κ] {knd:PySem.KeyKind prog w κ} {s:Shared} {I:Addr} {ks:List κ} {o:Obj} {es:Array (Int× Value)} {ep:Nat} {t:SetTable} {ms:List κ}
theorem Jr (D:Dl knd s.heap a ks o es ep t ms):∀ (A:Around) (E:Value→Shared→Prop) (Q:Array (Int× Value)→Shared→Prop),(∀ a1,a1.size = es.size→Q a1 s)→wpAny (model prog w) A (setEntries a) Q E s:=λ _ _ _ q=>D.entries (q es rfl)
theorem Abq (D:Dl knd h0 a ks o es ep t ms) (ft:w.params.followText "set-order" = true) (hh:A.handled = none) (a1:a≠I) :
  Walks prog w A I [I,a] [I] es.size (λ i v=>((pickOrder (w.params.setOrder a ep) es).toList.map (·.2))[i]? = some v) (λ i h=>h.get? I = some (itObj (.int (0:Nat) 0) i a es.size ep)∧h.get? a = some o) where
 sub:=λ b hb=>by simp at hb; simp [hb]
 frame:=λ _ _ _ st hk=>⟨hk I (by simp) _ st.1,hk a (by simp) _ st.2⟩
 item:=λ i s Q E hi st hQ=>by
  have D':=D.keep st.2
  have hp:=(Nq (w.params.setOrder a ep) es).length_eq
  have hl:i < (pickOrder (w.params.setOrder a ep) es).size:=by simp at hp; omega
  refine Xi (x:=((pickOrder (w.params.setOrder a ep) es)[i]).2) (nx:=0) st.1 (Jr D') (λ _ _ _ q=>Uc D' ft (by rw [Array.getElem?_eq_getElem hl]; exact q)) λ h' e1 b1=>?_
  exact hQ _ h' s.toks (by simp [hl]) ⟨e1,(b1.2 a a1).trans st.2⟩ λ b u hb e=>b1.extBut b u (λ z=>hb (by simp [z])) e
 done:=λ s Q E st hQ=>by
  have D':=D.keep st.2
  have hp:=(Nq (w.params.setOrder a ep) es).length_eq
  have hl:¬ es.size < (pickOrder (w.params.setOrder a ep) es).size:=by simp at hp; omega
  refine Xj hh st.1 (Jr D') (λ _ _ _ q=>Uc D' ft (by rw [Array.getElem?_eq_none (by omega)]; exact q)) λ h' b1=>?_
  exact hQ h' s.toks λ b u hb e=>b1 b u (λ z=>hb (by simp [z])) e
 self:=λ _ s _ _ st hQ=>Nj ⟨_,st.1,rfl⟩ hQ
theorem Aa9 (D:Dl knd h0 a ks o es ep t ms) (ft:w.params.followText "set-order" = false) (hd:(!t.plain && decide (es.size > 1)) = false) (hh:A.handled = none) (a1:a≠I) :
  Walks prog w A I [I,a] [I] es.size (λ i v=>(es.toList.map (·.2))[i]? = some v) (λ i h=>i≤es.size∧h.get? I = some (itObj (.int (Nv t.place i) 0) i a es.size ep)∧h.get? a = some o) where
 sub:=λ b hb=>by simp at hb; simp [hb]
 frame:=λ _ _ _ st hk=>⟨st.1,hk I (by simp) _ st.2.1,hk a (by simp) _ st.2.2⟩
 item:=λ i s Q E hi st hQ=>by
  have D':=D.keep st.2.2
  have hz:t.place.size = es.size:=by have:=D.fit; simp only [SetTable.fits,Bool.and_eq_true,beq_iff_eq] at this; exact this.1
  refine Xi (x:=es[i].2) (nx:=Nv t.place (i + 1)) st.2.1 (Jr D') (λ _ _ _ q=>Qe D' ft hd (by
   rw [Qi D.tab.rise (by omega),Array.getElem?_eq_getElem hi,Array.getElem?_eq_getElem (by omega)]
   have e:Nv t.place (i + 1) = t.place[i]'(by omega) + 1:=by simp [Nv,Array.getD,show i < t.place.size by omega]
   rw [e] at q
   exact q)) λ h' e1 b1=>?_
  exact hQ _ h' s.toks (by simp [hi]) ⟨hi,e1,(b1.2 a a1).trans st.2.2⟩ λ b u hb e=>b1.extBut b u (λ z=>hb (by simp [z])) e
 done:=λ s Q E st hQ=>by
  have D':=D.keep st.2.2
  have hz:t.place.size = es.size:=by have:=D.fit; simp only [SetTable.fits,Bool.and_eq_true,beq_iff_eq] at this; exact this.1
  refine Xj hh st.2.1 (Jr D') (λ _ _ _ q=>Qe D' ft hd (by
   rw [Qi D.tab.rise (by omega),Array.getElem?_eq_none (by omega)]
   exact q)) λ h' b1=>?_
  exact hQ h' s.toks λ b u hb e=>b1 b u (λ z=>hb (by simp [z])) e
 self:=λ _ s _ _ st hQ=>Nj ⟨_,st.2.1,rfl⟩ hQ
abbrev Qz (pl:List Nat):Obj:={ cls:=.type "tuple", data:=.seq (pl.map λ (p:Nat)=>rawInt p).toArray }
theorem Aa7 (D:Dl knd h0 a ks o es ep t ms) (hp:pl.Perm (List.range es.size)) (hh:A.handled = none) (a1:a≠I) (a2:tp≠I) :
  Walks prog w A I [I,a,tp] [I] es.size (λ i v=>(pl.map λ p=>((es[p]?).map (·.2)).getD .none)[i]? = some v) (λ i h=>h.get? I = some (itObj (.ref tp) i a es.size ep)∧h.get? a = some o∧h.get? tp = some (Qz pl)) where
 sub:=λ b hb=>by simp at hb; simp [hb]
 frame:=λ _ _ _ st hk=>⟨hk I (by simp) _ st.1,hk a (by simp) _ st.2.1,hk tp (by simp) _ st.2.2⟩
 item:=λ i s Q E hi st hQ=>by
  have D':=D.keep st.2.1
  have hl:i < pl.length:=by rw [hp.length_eq,vE]; exact hi
  have hm:pl[i] < es.size:=by have:=hp.mem_iff.mp (vH hl); simpa using this
  refine Ac6 (q:=pl[i]) (h0:=(es[pl[i]]).1) (x:=(es[pl[i]]).2) st.1 st.2.2 (Jr D') (λ _ _ _ q=>D'.state q) (uC hl) (by rw [Array.getElem?_eq_getElem hm]) λ h' e1 b1=>?_
  refine hQ _ h' s.toks ?_ ⟨e1,(b1.2 a a1).trans st.2.1,(b1.2 tp a2).trans st.2.2⟩ λ b u hb e=>b1.extBut b u (λ z=>hb (by simp [z])) e
  rw [uJ,uC hl,Option.map_some,Array.getElem?_eq_getElem hm]
  rfl
 done:=λ s Q E st hQ=>by
  have D':=D.keep st.2.1
  refine AdV hh st.1 st.2.2 (Jr D') (List.getElem?_eq_none (by rw [hp.length_eq,vE]; exact uY _)) λ h' b1=>?_
  exact hQ h' s.toks λ b u hb e=>b1 b u (λ z=>hb (by simp [z])) e
 self:=λ _ s _ _ st hQ=>Nj ⟨_,st.1,rfl⟩ hQ
theorem Aao {pl:List Nat} (hp:pl.Perm (List.range es.size)):(pl.map λ p=>((es[p]?).map (·.2)).getD .none).Perm (es.toList.map (·.2)):=by
 refine (hp.map _).trans ?_
 rw [show (List.range es.size).map (λ p=>((es[p]?).map (·.2)).getD Value.none) = es.toList.map (·.2) from ?_]
 refine List.ext_getElem (by simp) λ i h1 h2=>?_
 simp at h1
 simp [h1]
theorem Acx {Q:Value→Shared→Prop} (D:Dl knd s.heap a ks o es ep t ms)
  (h:∀ (h':Heap) (d:Drawn) (I:Addr) (fp:List Addr) (vs:List Value) (St:Nat→Heap→Prop),(∀ b u,s.heap.get? b = some u→h'.get? b = some u)→vs.Perm (es.toList.map (·.2))→s.heap.objs.size≤I→(∀ b∈fp,b = a∨s.heap.objs.size≤b) →
   (∀ A':Around,A'.handled = none→Walks prog w A' I fp [I] es.size (λ i v=>vs[i]? = some v) St)→St 0 h'→Q (.ref I) { s with heap:=h',drawn:=d }):wpAny (model prog w) A (pyIter (.ref a)) Q E s:=by
 have ty:s.TypeIs (.ref a) "set" := ⟨o,D.at',D.ex.1⟩
 have a3:=Heap.lt_size D.at'
 have a2:=vB a3
 refine wpAny_pyIter_slot ty PySem.F.slot_set_iter (vW PySem.F.slot_set_iter ty R8 ?_ (PySem.F.args_set_iter_1 _))
 unfold Builtin.«frozenset.__iter__» Builtin.Frozenset.slot0
 refine uA (uA (m:=slotArgs "__iter__" 0 _) (uB ?_))
 refine wpAny_of_eq (a:=a) rfl ?_
 refine uA (m:=Builtin.Frozenset.sizeOf a) ?_
 unfold Builtin.Frozenset.sizeOf
 refine uA (D.entries (uB ?_))
 refine uA (m:=setDrawn a) ?_
 unfold setDrawn
 refine uA (D.state ?_)
 dsimp only
 refine uA (Ot (uB ?_))
 have a1:∀ (first:Value) (s1:Shared) (D1:Dl knd s1.heap a ks o es ep t ms) (hk:Q (.ref s1.heap.objs.size) { s1 with heap:=s1.heap.push (itObj first 0 a es.size ep) }),wpAny (model prog w) A.in1 (do
   ret (← newFields "set_iterator" [first,rawInt 0,.ref a,rawInt es.size,rawInt (← setEpoch a)])) (λ a1 s'=>∃ v,a1 = .done (.ret v)∧∃ T' r,s'.TypeIs v T'∧typeLookup (.type T') "__next__" = pure (some r)∧Q v s') E s1:=by
  intro first s1 D1 hk
  refine uA (wpAny_setEpoch_of D1.at' D1.dat D1.fit ?_)
  refine uA (wpAny_newObj_type ?_ (by size_fits))
  exact uB ⟨_,rfl, "set_iterator", _,⟨_,Heap.get?_push_size _ rfl,rfl⟩,B4.lookup,hk⟩
 cases ft:w.params.followText "set-order" with
 | true =>
  rw [show (!true && _) = false from rfl,if_neg Bool.false_ne_true]
  refine uA (uB ?_)
  refine a1 _ s D ?_
  exact h _ s.drawn s.heap.objs.size _ _ _ (λ b u e=>Heap.get?_push_of_some _ e) ((Nq (w.params.setOrder a ep) es).map _) (uY _) (λ b hb=>by simp at hb; rcases hb with z | z; exact .inr (le_of_eq z.symm); exact .inl z)
   (λ A' hA=>Abq D ft hA a2) ⟨Heap.get?_push_size _ rfl,Heap.get?_push_of_some _ D.at'⟩
 | false =>
  cases hd:(!t.plain && decide (es.size > 1)) with
  | false =>
   show wpAny _ _ (if (!false && (!t.plain && decide (es.size > 1))) = true then _ else _) _ _ s
   rw [hd,show (!false && false) = false from rfl,if_neg Bool.false_ne_true]
   refine uA (uB ?_)
   refine a1 _ s D ?_
   exact h _ s.drawn s.heap.objs.size _ _ _ (λ b u e=>Heap.get?_push_of_some _ e) (.refl _) (uY _) (λ b hb=>by simp at hb; rcases hb with z | z; exact .inr (le_of_eq z.symm); exact .inl z)
    (λ A' hA=>Aa9 D ft hd hA a2) ⟨vV _,Heap.get?_push_size _ rfl,Heap.get?_push_of_some _ D.at'⟩
  | true =>
   show wpAny _ _ (if (!false && (!t.plain && decide (es.size > 1))) = true then _ else _) _ _ s
   rw [hd,show (!false && true) = true from rfl,if_pos rfl]
   refine uA (AfS es.size (List.range es.size) s _ (by simp) λ pl d hp=>?_)
   have a4:pl.length = es.size:=by rw [hp.length_eq,vE]
   refine uA (wpAny_newTuple ?_ (by rw [uD,a4]; exact fits_of_scanBound D.sm))
   refine a1 _ ⟨s.heap.push (Qz pl),s.gens,d,s.toks,s.os⟩ (D.keep (Heap.get?_push_of_some _ D.at')) ?_
   have hI:(s.heap.push (Qz pl)).objs.size = s.heap.objs.size + 1:=Heap.size_push _ _
   refine h _ d (s.heap.push (Qz pl)).objs.size _ _ _ (λ b u e=>Heap.get?_push_of_some _ (Heap.get?_push_of_some _ e)) (Aao hp) (by rw [hI]; exact le_succ _) (λ b hb=>?_)
    (λ A' hA=>Aa7 (tp:=s.heap.objs.size) D hp hA (by rw [hI]; exact vB (lt_succ_of_lt a3)) (by rw [hI]; exact vB (lt_succ_self _))) ⟨Heap.get?_push_size _ rfl,Heap.get?_push_of_some _ (Heap.get?_push_of_some _ D.at'),Heap.get?_push_of_some _ (Heap.get?_push_size _ rfl)⟩
   simp at hb
   rcases hb with z | z | z
   ·exact .inr (by rw [z]; exact le_succ _)
   ·exact .inl z
   ·exact .inr (le_of_eq z.symm)
end
section
variable {κ:Type} [DecidableEq κ] {knd:PySem.KeyKind prog w κ} {s:Shared} {I:Addr} {ks:List κ} {o:Obj} {es:Array (Int× Value)} {ep:Nat} {t:SetTable} {ms:List κ}
theorem Ad6 {Q:Bool→Shared→Prop} (ty:s.TypeIs (.ref a) "set") (h:Q false s):wpAny (model prog w) A (Builtin.List.listLengthHint (.ref a)) Q E s:=by
 unfold Builtin.List.listLengthHint
 refine uA (wpAny_specialOf ty PySem.F.slot_set_len.lookup ?_)
 generalize e:("set.__len__" : String) = nm
 wp_delta
 rw [show splitId nm = some ("set", "__len__") from by subst e; decide +kernel]
 subst e
 refine uA (wpAny_isInstance (T:= "set") (b:=true) ty sub_set_self ?_)
 refine wpAny_ite_split (λ c=>absurd c (by decide)) λ _=>?_
 refine wpAny_ite_split (λ _=>?_) λ c=>absurd (by decide +kernel) c
 exact uA (wpAny_typeOf ty (uB h))
theorem AdQ (hn:vs.length = n) (h:ItemsOf (λ i v=>vs[i]? = some v) a1 n):a1.toList = vs:=by
 refine List.ext_getElem (by rw [Array.length_toList,h.1,hn]) λ i h1 h2=>?_
 have q:vs[i]? = some (a1.toList[i]):=h.2 i (a1.toList[i]) (by simp at h1; simp [h1])
 rw [uC h2] at q
 exact (Option.some.inj q).symm
theorem AbD {R:Result→Shared→Prop} (D:Dl knd s.heap a ks o es ep t ms) (hh:A.handled = none) (S:Addr) (a6:S≠a) (res:Value) (hS:s.heap.get? S = some { cls:=.type "list", data:=.seq #[] })
  (h:∀ h' tk d a1 c',(∀ b u,b≠S→s.heap.get? b = some u→h'.get? b = some u)→h'.get? S = some { cls:=.type "list", dict:=none,data:=.seq a1 c',slots:=#[] }→a1.toList.Perm (es.toList.map (·.2))→R (.ok (.ret res)) { s with heap:=h',drawn:=d,toks:=tk }) :
  wpAny (model prog w) A.in1 (Builtin.List.listExtendWith (.ref S) (.ref a) res)
   (λ a9 s'=>match a9 with | .done f=>R (.ok f) s' | .again c'=>c'.quiet = true∧codeAny (model prog w) A c' R s') (λ e s'=>R (.error e) s') s:=by
 have ty:s.TypeIs (.ref a) "set" := ⟨o,D.at',D.ex.1⟩
 have a8:S < s.heap.objs.size:=Heap.lt_size hS
 unfold Builtin.List.listExtendWith
 refine uA (wpAny_typeOf ty ?_)
 have e1:Builtin.List.listSameRef (.ref S) (.ref a) = false:=by simp [Builtin.List.listSameRef,a6]
 rw [e1]
 rw [if_neg (by decide)]
 refine uA (Acx D λ h1 d I fp vs St k1 pv hI b6 W st=>?_)
 have a4:S∉fp:=λ z=>by
  rcases b6 S z with q | q
  ·exact a6 q
  ·exact absurd q (Nat.not_le.mpr a8)
 have c0:vs.length = es.size:=by rw [pv.length_eq]; simp
 have go:∀ (h2:Heap) (c tk:Nat),St 0 h2→(∀ b u,b≠S→s.heap.get? b = some u→h2.get? b = some u)→h2.get? S = some { cls:=.type "list", data:=.seq #[] c } →
   codeAny (model prog w) A (.builtin "list.extend.loop" ⟨[.ref S,.ref I,res],[]⟩) R { s with heap:=h2,drawn:=d,toks:=tk }:=by
  intro h2 c tk b9 k2 a2
  refine codeAny_extend_loopS (W A.in1 hh).toS (fits_of_scanBound D.sm) S a4 res es.size 0 _ #[] c rfl (vV _) b9 a2 (ItemsOf.nil _) λ s' a1 c' mv c4 a7=>?_
  have ee:=AdQ c0 a7
  obtain ⟨h',g',d',b8,b7⟩:=s'
  have eg:g' = s.gens:=mv.gens
  have ed:d' = d:=mv.drawn
  have eo:b7 = s.os:=mv.os
  subst eg ed eo
  refine h h' b8 _ a1 c' (λ b u hb e=>mv.heap b u (λ z=>?_) (k2 b u hb e)) c4 (by rw [ee]; exact pv)
  rcases vI.mp z with z | z
  ·exact hb z
  ·rw [vC] at z
   exact absurd (Heap.lt_size e) (by rw [z]; exact not_lt.mpr hI)
 have a3:=k1 _ _ hS
 refine uA (vT (Ad6 ⟨o,k1 _ _ D.at',D.ex.1⟩ ?_))
 refine wpAny_ite_split (λ _=>?_) λ _=>uB ⟨plainId_quiet PySem.F.plain_extend_loop _,go _ _ _ st (λ b u _ e=>k1 b u e) a3⟩
 refine uA (wpAny_rule ?_)
 refine uA ?_
 show wpAny _ _ (updateSeq S (·.push .none) >>= λ _=>updateSeq S (·.pop)) _ _ _
 refine uA (wpAny_updateSeq a3 rfl ?_)
 have a2:=Heap.get?_update_self (Obj.mapSeq (·.push Value.none)) a3 rfl
 refine wpAny_updateSeq (hz:=by seq_fits) a2 rfl ?_
 have c3:=Heap.get?_update_self (Obj.mapSeq (·.pop)) a2 rfl
 have a5:∀ b u,b≠S→h1.get? b = some u→((h1.update S (Obj.mapSeq (·.push Value.none))).update S (Obj.mapSeq (·.pop))).get? b = some u:=λ b u hb e =>
  (Heap.get?_update_other _ _ (Ne.symm hb)).trans ((Heap.get?_update_other _ _ (Ne.symm hb)).trans e)
 exact uB ⟨plainId_quiet PySem.F.plain_extend_loop _,go _ _ _ ((W A.in1 hh).frame 0 _ _ st λ b hb u e=>a5 b u (λ z=>a4 (z ▸ hb)) e) (λ b u hb e=>a5 b u hb (k1 b u e)) c3⟩
theorem X3 {R:List Value→Shared→Prop} (D:Dl knd s.heap a ks o es ep t ms) (hh:A.handled = none)
  (h:∀ (h':Heap) (tk:Nat) (d:Drawn) (vs:List Value),(∀ b u,s.heap.get? b = some u→h'.get? b = some u)→s.heap.objs.size≤h'.objs.size→vs.Perm (es.toList.map (·.2))→R vs { s with heap:=h',drawn:=d,toks:=tk }) :
  wpAny (model prog w) A (collect (.ref a)) R E s:=by
 unfold collect
 refine uA (wpAny_runValue (codeAny_builtin entry_proto_collect' ?_))
 rw [Around.under_plainId PySem.F.plain_proto_collect _]
 refine uA (m:=newList []) (wpAny_newObj_type ?_)
 refine uB ⟨plainId_quiet PySem.F.plain_list_iadd _,codeAny_builtin entry_list_iadd' ?_⟩
 rw [Around.under_plainId PySem.F.plain_list_iadd _]
 have hS:(s.heap.push { cls:=.type "list", data:=.seq ([]:List Value).toArray }).get? s.heap.objs.size = some { cls:=.type "list", data:=.seq #[] }:=Heap.get?_push_size _ rfl
 show wpAny _ A.in1 (Builtin.List.listExtendWith (.ref s.heap.objs.size) (.ref a) (.ref s.heap.objs.size)) _ _ _
 have a2:=AbD (A:=A) (s:={ s with heap:=s.heap.push { cls:=.type "list", data:=.seq ([]:List Value).toArray } })
  (R:=λ (q:Result) (s':Shared)=>∃ h' tk d a1 c',q = .ok (.ret (.ref s.heap.objs.size))∧s' = { s with heap:=h',drawn:=d,toks:=tk }∧(∀ b u,s.heap.get? b = some u→h'.get? b = some u) ∧
   h'.get? s.heap.objs.size = some { cls:=.type "list", dict:=none,data:=.seq a1 c',slots:=#[] }∧a1.toList.Perm (es.toList.map (·.2)))
  (D.keep (Heap.get?_push_of_some _ D.at')) hh s.heap.objs.size (ne_of_gt (Heap.lt_size D.at')) (.ref s.heap.objs.size) hS
  (λ h' tk d a1 c' k1 e1 p1=>⟨h',tk,d,a1,c',rfl,rfl,λ b u e=>k1 b u (vB (Heap.lt_size e)) (Heap.get?_push_of_some _ e),e1,p1⟩)
 refine vS a2 (λ a3 s' x=>?_) λ e s' x=>?_
 ·cases a3 with
  | done f =>
   obtain ⟨h',tk,d,a1,c',e,rfl,k1,e1,p1⟩:=x
   cases e
   exact uA (m:=load s.heap.objs.size) (wpAny_load e1 (uB (h h' tk d a1.toList k1 (le_of_lt (Heap.lt_size e1)) p1)))
  | again a5 =>
   refine ⟨x.1,codeAny_mono x.2 λ q a4 y=>?_⟩
   obtain ⟨h',tk,d,a1,c',rfl,rfl,k1,e1,p1⟩:=y
   exact uA (m:=load s.heap.objs.size) (wpAny_load e1 (uB (h h' tk d a1.toList k1 (le_of_lt (Heap.lt_size e1)) p1)))
 ·obtain ⟨_,_,_,_,_,z,_⟩:=x
  cases z
end
section
variable {s:Shared} {ks:List Int}
theorem Aee (h:PySem.Paired (λ v n=>∃ t,v = Value.int n t) vs ns):IntsAre vs ns:=by
 induction h with
 | nil=>exact .nil
 | cons f _ ih =>
  obtain ⟨t,rfl⟩:=f
  exact .cons _ t ih
theorem AaI {Q:Value→Shared→Prop} (S:SetT (intKind prog w) s.heap a ks) (hh:A.handled = none) (a8:ks.length < 64)
  (h:∀ (h':Heap) (tk:Nat) (d:Drawn) (L:Addr) (a4:Array Value) (c:Nat) (ns:List Int),(∀ b u,s.heap.get? b = some u→h'.get? b = some u)→s.heap.objs.size≤L→h'.get? L = some (seqObj "list" a4 c)→IntsAre a4.toList ns→ns.Pairwise (· < ·)→(∀ k,k∈ns↔k∈ks) →
   Q (.ref L) { s with heap:=h',drawn:=d,toks:=tk }):wpAny (model prog w) A (call (.builtin "sorted") [.ref a]) Q E s:=by
 obtain ⟨o,es,ep,t,ms,D⟩:=S
 refine Calls.call_function_entry kind_sorted plain_sorted entry_sorted (args_sorted1 _) ?_
 unfold Builtin.«sorted»
 refine uA (m:=checkCount "sorted" 1 1 _) (uB ?_)
 refine uA (X3 (A:=A.in1) D hh λ h1 tk d vs k1 hsz pv=>?_)
 have pr:PySem.Paired (λ v n=>∃ t,v = Value.int n t) (es.toList.map (·.2)) ms:=by
  have:=D.pr
  generalize es.toList = l at this
  clear pv D
  induction this with
  | nil=>exact .nil
  | cons f _ ih=>exact .cons (Value.isInt_shape f) ih
 obtain ⟨ns,pn,r1⟩:=K4 pv pr
 have hI:=Aee r1
 have a6:vs.length < 64:=by
  have h1:=Fj D.nd λ k hk=>(D.mem k).mp hk
  have h2:=pv.length_eq
  have h3:=D.size
  simp at h2
  omega
 refine uA (wpAny_newList ?_ (by rw [sizeLine_eq]; omega))
 have hL:(h1.push (seqObj "list" vs.toArray 0)).get? h1.objs.size = some (seqObj "list" vs.toArray 0):=Heap.get?_push_size _ rfl
 refine uA (vT (vW slot_list_sort ⟨_,hL,rfl⟩ entry_list_sort (list_sort_tree hL hI a6 λ a4 a5 a1 a2 a3=>⟨_,rfl,?_⟩) (args_list_sort _)))
 have a7:=Heap.lt_size hL
 obtain ⟨c,hc⟩:∃ c,(sortedHeap (h1.push (seqObj "list" vs.toArray 0)) h1.objs.size vs a4).get? h1.objs.size = some (seqObj "list" a4 c):=sortedHeap_at hL
 have p3:=a2.trans pn
 refine uB ⟨_,rfl,h _ tk d h1.objs.size a4 c a5 (λ b u e=>?_) ?_ hc a1 ?_ λ k=>p3.mem_iff.trans (D.mem k)⟩
 ·have hb:=Heap.lt_size (k1 b u e)
  rw [sortedHeap_old (vB hb) (lt_trans hb a7)]
  exact Heap.get?_push_of_some _ (k1 b u e)
 ·exact hsz
 ·have nd:=p3.nodup_iff.mpr D.nd
  exact (Pairwise.and a3 nd).imp λ {x y} z=>by omega
end
theorem Wn:∀ {a b:List Int},a.Pairwise (· < ·)→b.Pairwise (· < ·)→(∀ k,k∈a↔k∈b)→a = b
 | [],[],_,_,_=>rfl
 | [],y :: b,_,_,h=>by simpa using (h y).mpr uH
 | x :: a,[],_,_,h=>by simpa using (h x).mp uH
 | x :: a,y :: b,ha,hb,h=>by
  have a1:=vM.mp ha
  have a2:=vM.mp hb
  have e:x = y:=by
   rcases vI.mp ((h x).mp uH) with z | z
   ·exact z
   ·rcases vI.mp ((h y).mpr uH) with z' | z'
    ·exact z'.symm
    ·have:=a1.1 y z'; have:=a2.1 x z; omega
  subst e
  congr 1
  refine Wn a1.2 a2.2 λ k=>⟨λ z=>?_,λ z=>?_⟩
  ·rcases vI.mp ((h k).mp (uI _ z)) with q | q
   ·have:=a1.1 k z; omega
   ·exact q
  ·rcases vI.mp ((h k).mpr (uI _ z)) with q | q
   ·have:=a2.1 k z; omega
   ·exact q
def ins (k:Int):List Int→List Int
 | []=>[k]
 | x :: r=>if k < x then k :: x :: r else if k = x then x :: r else x :: ins k r
def nub:List Int→List Int
 | []=>[]
 | x :: r=>ins x (nub r)
theorem Rs :∀ {l:List Int},j∈ins k l↔j = k∨j∈l
 | []=>by simp [ins]
 | x :: r=>by
  unfold ins
  split
  ·simp
  ·split
   ·rename_i h; subst h; simp
   ·rw [vI,Rs,vI]
    constructor
    ·rintro (z | z | z)
     ·exact .inr (.inl z)
     ·exact .inl z
     ·exact .inr (.inr z)
    ·rintro (z | z | z)
     ·exact .inr (.inl z)
     ·exact .inl z
     ·exact .inr (.inr z)
theorem Wv :∀ {l:List Int},l.Pairwise (· < ·)→(ins k l).Pairwise (· < ·)
 | [],_=>by simp [ins]
 | x :: r,h=>by
  have h':=vM.mp h
  unfold ins
  split
  ·rename_i c
   refine vM.mpr ⟨λ y hy=>?_,h⟩
   rcases vI.mp hy with z | z
   ·omega
   ·have:=h'.1 y z; omega
  ·split
   ·exact h
   ·refine vM.mpr ⟨λ y hy=>?_,Wv h'.2⟩
    rcases Rs.mp hy with z | z
    ·omega
    ·exact h'.1 y z
theorem Jp :∀ {l:List Int},j∈nub l↔j∈l
 | []=>by simp [nub]
 | x :: r=>by unfold nub; rw [Rs,Jp,vI]
theorem L9:∀ (l:List Int),(nub l).Pairwise (· < ·)
 | []=>.nil
 | x :: r=>Wv (L9 r)
theorem Afx (h:ms.Pairwise (· < ·)) (m:∀ k,k∈ms↔k∈l):ms = nub l:=Wn h (L9 l) λ k=>(m k).trans Jp.symm
theorem Z3:∀ (l:List Int),(nub l).length≤l.length:=λ l=>Fj ((L9 l).imp λ {a b} h=>by omega) λ x hx=>Jp.mp hx
def tSS (K:FA) (te:TE):TE:=λ σ H Q=>te σ H λ x H1=>∃ l ns,x = .ref l∧SqL K H1 l ((ns:List Int).map V.int)∧ns.length < 64∧∀ r,H1 r = none→Q (.ref r) (upd H1 r (.lst ((nub ns).map V.int)))
theorem AcG:bootBuiltins "set" = some (.type "set"):=by decide +kernel
theorem Gi (hc:X.calm = true) (hg:Gl X "sorted") (hm:X.mg "sorted" = none) (b7:Gl X "set") (a8:X.mg "set" = none) (he:PE X e te)
  (h1:starEach [e] X.env = [(false,eval e X.env)]:=by rfl) (h2:starEach [.Call (.Name "set" p2) [e] [] a1] X.env = [(false,eval (.Call (.Name "set" p2) [e] [] a1) X.env)]:=by rfl) :
  PE X (.Call (.Name "sorted" p) [.Call (.Name "set" p2) [e] [] a1] [] pos) (tSS X.K te):=by
 intro pins s σ H Q I h
 refine wpAny_Call_Name_kw (F8 I hg hm boot_sorted ?_ (by decide) (by decide))
 refine PyProof.Rows.callWith_builtin1 ?_ h2 rfl
 rw [h2]
 refine Calls.spliced_cons ?_
 refine wpAny_Call_Name_kw (F8 I b7 a8 AcG ?_ (by decide) (by decide))
 refine PyProof.Rows.callWith_type1 ?_ h1 rfl
 rw [h1]
 refine Calls.spliced_cons (thn (he pins s σ H _ I h) λ u s1 ⟨x,H1,I1,r1,q1⟩=>Calls.spliced_nil ?_)
 obtain ⟨l,ns,rfl,hS,hl,q⟩:=q1
 cases r1
 obtain ⟨a4,rv,pl,hz⟩:=I1.list hS
 have a2:=rv.length
 rw [uD] at a2
 have hi:=Qy rv
 have hsz:a4.toArray.size = a4.length:=by simp
 refine S8 (knd:=intKind X.prog X.w) (ks:=ns) (I1.ok.hd hc) pl.isList (by rw [hsz]; exact a2) (λ i v hv=>?_) (by rw [hsz]; show a4.length + 1 < 4096; omega) λ s2 m=>Calls.spliced_nil ?_
 ·obtain ⟨t,e⟩:=IntsAre.int_at hi i v (by simpa using hv)
  have b6:i < ns.length:=by
   rw [a2]
   have:=Array.getElem?_eq_some_iff.mp hv
   obtain ⟨z,_⟩:=this
   simpa using z
  subst e
  refine ⟨ns.getD i 0,?_,intKind_is _ _ _ _,rfl⟩
  rw [getD_eq_getElem?_getD,uC b6]
  rfl
 obtain ⟨h',tk,rfl,S,k1⟩:=m
 have a3:s1.heap.objs.size < h'.objs.size:=by
  obtain ⟨o,es,ep,t,ms,D⟩:=S
  exact Heap.lt_size D.at'
 refine AaI (s:={ s1 with heap:=h',toks:=tk }) S (I1.ok.hd hc) hl λ h2 a7 d L a9 c b8 k2 hL eL aI aP aM=>?_
 have a6:=I1.hok.fresh (uX (le_of_lt a3) hL)
 have en:=Afx aP aM
 subst en
 have kp:∀ b u,s1.heap.get? b = some u→h2.get? b = some u:=λ b u e=>k2 b u (k1 b u (Heap.lt_size e) e)
 have a5:=uX (le_of_lt a3) hL
 have nl:=Z3 ns
 have I2:Inv X pins σ (upd H1 L (.lst ((nub ns).map V.int))) { s1 with heap:=h2,gens:=s1.gens,drawn:=d,toks:=a7 } :=
  I1.call (ch:=[]) (Un.laid kp a5 a6) (I1.hok.laid kp a5 ⟨by rw [uD]; exact B9 (by omega),a9.toList,c,Kj aI,by rw [eL]⟩) I1.bare (λ _ z=>nomatch z)
 exact ⟨.ref L,_,I2,rfl,q L a6⟩
theorem S7 {ns:List Int} (r:A5 (ns.map V.int) a1) {i:Nat} {v:Value} (h:a1[i]? = some v):∃ t,v = .int (ns.getD i 0) t:=by
 have hi:=(List.getElem?_eq_some_iff.mp h).1
 have hl:=r.length
 rw [uD] at hl
 have hn:i < ns.length:=by omega
 obtain ⟨u,hu,ru⟩:=r.get (i:=i) (x:=V.int ns[i]) (by rw [uJ,uC hn]; rfl)
 rw [h] at hu
 cases hu
 obtain ⟨t,e⟩:∃ t,v = .int ns[i] t:=ru
 exact ⟨t,by rw [e,getD_eq_getElem?_getD,uC hn]; rfl⟩
theorem Tj (hc:X.calm = true):Es X (.builtin "min") (λ xs H Q=>∃ p ns,xs = [.ref p]∧SqL X.K H p ((ns:List Int).map V.int)∧0 < ns.length∧∀ M,M∈ns→(∀ a∈ns,M≤a)→Q (.int M) H):=by
 intro pins s σ H xs us Q I r h
 obtain ⟨p,ns,rfl,hS,h0,q⟩:=h
 obtain ⟨u,rfl,ru⟩:=r.one
 cases ru
 obtain ⟨a1,rv,pl,hz⟩:=I.list hS
 have hh:X.A.handled = none:=I.ok.hd hc
 have hl:=rv.length
 rw [uD] at hl
 have a3:p < s.heap.objs.size:=by obtain ⟨_,e,_⟩:=pl.isList; exact Heap.lt_size e
 refine call_min_walk (wpAny_pyIter_list pl.isList ?_)
 refine ⟨s.heap.objs.size,[s.heap.objs.size,p],[s.heap.objs.size],a1.toArray.size,_,_,_,rfl,Walks.list (A:=X.A.in1) hh _ p (vB a3) a1.toArray,
  ⟨⟨_,Heap.get?_push_size _ rfl,rfl,rfl⟩,pl.isList.push _⟩,λ b hb=>?_,by rw [uO]; omega,CmpOf.ints_lt (λ i=>ns.getD i 0) (λ i v hP=>S7 rv (by simpa using hP)),λ v h' tk hP hk=>?_⟩
 ·rcases vI.mp hb with rfl | hb
  ·exact Heap.lt_size (Heap.get?_push_size _ rfl)
  ·rcases mS hb with rfl
   obtain ⟨_,e,_⟩:=pl.isList
   exact Heap.lt_size (Heap.get?_push_of_some _ e)
 ·have a2:a1[argBest (λ i j=>decide (ns.getD i 0 < ns.getD j 0)) (a1.toArray.size - 1)]? = some v:=by rw [← List.getElem?_toArray]; exact hP
  obtain ⟨h1,h2⟩:=argBest_lt (λ i=>ns.getD i 0) (a1.toArray.size - 1)
  generalize argBest (λ i j=>decide (ns.getD i 0 < ns.getD j 0)) (a1.toArray.size - 1) = b at a2 h1 h2
  rw [uO] at h1 h2
  obtain ⟨t,rfl⟩:=S7 rv a2
  have hb:b < ns.length:=by omega
  refine ⟨.int _,H,I.kept (t':=tk) (LSm.kept_iter hk),⟨t,rfl⟩,q _ ?_ λ a ha=>?_⟩
  ·rw [getD_eq_getElem?_getD,uC hb]
   exact vH _
  ·obtain ⟨j,hj,rfl⟩:=List.getElem_of_mem ha
   have:=h2 j (by omega)
   simpa [getD_eq_getElem?_getD,uC hj] using this
def Gf (K:FA) (mg:Str→Option Value) (x q:Str) (ps:List Str) (st:Stmt):Prop:=∃ f fd,Fun K q q st f fd∧mg x = some (.ref f)∧Br K fd ps []
theorem Gf.ok {q:Str} {st:Stmt} {N:List Str} {k:Nat} (F:Gf K mg x q ps st) (S:Ar N ps (Aj st)) (len:∀ vs H Q E,sp vs H Q E→vs.length = ps.length)
  (a1:∀ (f:Addr) (cdv:Value) (A:Around) (outer:List Env) (s:Shared) (H:Hp) (vs:List V) (Q:VK) (E:XK),Bp k (A.deeper (envOfC q (Aj st) s.heap.objs.size f cdv))→sp vs H Q E →
   ∃ t,PSs (cxOf CX0 P w K mg base N q (Aj st) f cdv A outer s H E).nox (Bx st) t∧t { nx:=λ _ H'=>Q .non H',rt:=Q } (Eu N vs) H):Am P w K mg base (k + 1) x ps sp:=by
 obtain ⟨f,fd,F,m,b⟩:=F
 exact ⟨f,fd,F.ok S len (a1 f),b,F.kp,m⟩
theorem Gf.zero {q:Str} {st:Stmt} (F:Gf K mg x q ps st) (no:∀ vs H Q E,¬ sp vs H Q E):Am P w K mg base 0 x ps sp:=by
 obtain ⟨f,fd,F,m,b⟩:=F
 exact ⟨f,fd,⟨λ vs H Q E h=>absurd h (no vs H Q E),λ A outer s H args us vs Q E _ _ _ _ h=>absurd h (no vs H Q E)⟩,b,F.kp,m⟩
def CX1 (P:Program) (w:World):CXT:=λ outer H s E e s'=>∃ (ea C:Addr) (a0:Value) (H':Hp) (B:Heap),
 e = .ref ea∧E (.ref C) none H'∧s'.os = s.os∧AllBare s'.gens∧Un (frs outer) [] H H' s.heap s'.heap∧HOk P w H' s'.heap∧Heap.FlyingW B outer ea (.ref C) a0 s'.heap ∧
 (∀ b o,s.heap.get? b = some o→b∉frs outer→∃ o',B.get? b = some o')∧(∀ b u,H' b = some u→∃ o,B.get? b = some o)∧H' ea = none
theorem B1.some' (x:B1 P w H h a o):∃ ob,h.get? a = some ob:=by
 cases o with
 | lst xs=>obtain ⟨_,_,_,_,e⟩:=x; exact ⟨_,e⟩
 | tup xs=>obtain ⟨_,_,_,ob,e,_⟩:=x; exact ⟨ob,e⟩
 | dK kvs=>obtain ⟨_,_,_,_,ob,_,_,e,_⟩:=x; exact ⟨ob,e⟩
 | dT kvs=>obtain ⟨_,_,_,_,ob,_,_,e,_⟩:=x; exact ⟨ob,e⟩
 | set S n=>obtain ⟨ob,_,_,_,e,_⟩:=x; exact ⟨ob,e⟩
 | ins C dx fs=>obtain ⟨_,_,_,e,_⟩:=x; exact ⟨_,e⟩
 | own y=>exact x
 | xd fs=>obtain ⟨_,⟨ob,_,_,e,_⟩,_⟩:=x; exact ⟨ob,e⟩
 | rng lo hi=>obtain ⟨_,_,_,e⟩:=x; exact ⟨_,e⟩
 | frz ob u=>exact ⟨ob,x.1⟩
 | tbl ps=>exact ⟨_,x⟩
 | met f y=>exact ⟨_,x⟩
 | ext φ=>obtain ⟨_,⟨ob,e⟩,_⟩:=x; exact ⟨ob,e⟩
theorem HOk.fly {h B:Heap} (ok:HOk P w H h) (tr:∀ b u,H b = some u→∃ o,B.get? b = some o) (s1:B.StaysIn h) (s2:B.StaysIn h'):HOk P w H h':=λ a o e =>
 (ok a o e).stay (λ b u hb q=>by
  obtain ⟨v,hv⟩:∃ v,H b = some v:=hb.elim (λ z=>⟨o,by rw [z]; exact e⟩) λ z=>⟨_,z⟩
  obtain ⟨o',a1⟩:=tr b v hv
  have e1:=s1 b o' a1
  rw [q] at e1
  cases e1
  exact s2 b _ a1) (λ _ q=>q) λ _ _ q=>q
theorem Un.fly {fs:List Addr} {h₀ h B:Heap} (u:Un fs [] H H' h₀ h) (a2:∀ b o,h₀.get? b = some o→b∉fs→∃ o',B.get? b = some o') (s1:B.StaysIn h) (s2:B.StaysIn h')
  (sl:∀ b∈fs,∀ o,h.get? b = some o→∃ z,h'.get? b = some { o with slots:=z }):Un fs [] H H' h₀ h' where
 keep:=λ b ob q n hb hx=>by
  have e:=u.keep b ob q n hb hx
  obtain ⟨o',a1⟩:=a2 b ob q hb
  have e1:=s1 b o' a1
  rw [e] at e1
  cases e1
  exact s2 b _ a1
 slot:=λ b ob q n hb hx=>by
  obtain ⟨z,e⟩:=u.slot b ob q n hb hx
  obtain ⟨z',e'⟩:=sl b hb _ e
  exact ⟨z',e'⟩
 free:=u.free
 there:=λ b ob q hx=>by
  by_cases hb:b∈fs
  ·obtain ⟨o1,e⟩:=u.there b ob q hx
   obtain ⟨z,e'⟩:=sl b hb o1 e
   exact ⟨_,e'⟩
  ·obtain ⟨o',a1⟩:=a2 b ob q hb
   exact ⟨o',s2 b o' a1⟩
 tups:=u.tups
 frzs:=u.frzs
 tbls:=u.tbls
section
variable {N:List Str} {qual:Str} {scope:Scope} {cd:Value} {outer:List Env} {s₀:Shared} {H₀:Hp} {E:XK}
abbrev cxX (P:Program) (w:World) (K:FA) (mg:Str→Option Value) (base:Heap) (N:List Str) (qual:Str) (scope:Scope) (f:Addr) (cd:Value) (A:Around) (outer:List Env) (s₀:Shared) (H₀:Hp) (E:XK):Cx:=cxOf (CX1 P w) P w K mg base N qual scope f cd A outer s₀ H₀ E
theorem Pz (I:Inv (cxX P w K mg base N qual scope f cd A outer s₀ H₀ E) pins σ H s) (e:s₀.heap.get? b = some o) (hb:b∉frs outer) :
  b∉frs (cxX P w K mg base N qual scope f cd A outer s₀ H₀ E).stack:=λ z=>by
 rcases vI.mp (I.stkSub b z) with q | q
 ·exact absurd (Heap.lt_size e) (by rw [q]; exact lt_irrefl _)
 ·exact hb q
theorem Aap:Dr (CX1 P w) (cxX P w K mg base N qual scope f cd A outer s₀ H₀ E) E:=by
 intro pins σ H s e s' I h
 obtain ⟨ea,C,a0,H',B,rfl,hE,os,bare,un,hok,fl,a6,a3,a4⟩:=h
 have I0:Inv (cxX P w K mg base N qual scope f cd A outer s₀ H₀ E) [] σ H s:=I.pins_of λ p hp=>absurd hp (by simp)
 have I1:=I0.call' (ch:=[]) os un hok bare λ b hb=>absurd hb (by simp)
 show wpAny _ _ (leaving _ (.ref ea)) _ _ s'
 refine wpAny_leaves_onW (base:=B) (L:=s₀.heap.objs.size) I.ok.frames rfl fl λ h' a1 up=>?_
 have a2:∀ b o,s₀.heap.get? b = some o→b∉frs outer→∃ o',B.get? b = some o':=λ b o q hb=>by
  obtain ⟨o1,e1⟩:=I.base.there b o q (λ z=>absurd z (show b∉([]:List Addr) by simp))
  exact a6 b o1 e1 (Pz I q hb)
 refine ⟨ea,C,a0,H',B,rfl,hE,I1.os,bare,?_,hok.fly a3 fl.1 a1.1,a1,a2,a3,a4⟩
 refine Un.fly (B:=B) I1.base a2 fl.1 a1.1 λ b hb o q=>?_
 obtain ⟨_,o2,q2,nf⟩:=a1.2.2.1.mem hb
 have a5:∀ vs,o.data≠.fields vs:=λ vs z=>by
  obtain ⟨_,o3,q3,n3⟩:=I1.funs.mem hb
  rw [q] at q3
  cases q3
  exact n3 vs z
 exact up b o q a5
theorem Afg {s:Shared} {ea:Addr} {vs:List Value} (I:Inv (cxX P w K mg base N qual scope f cd A outer s₀ H₀ E) pins σ H s) (hx:Heap.MadeExcOf s.heap h' ea (.ref C) vs) (hE:E (.ref C) none H) :
  (cxX P w K mg base N qual scope f cd A outer s₀ H₀ E).xe (.ref ea) { s with heap:=h' }:=by
 show wpAny _ _ (leaving _ (.ref ea)) _ _ _
 have a3:∀ env∈(cxX P w K mg base N qual scope f cd A outer s₀ H₀ E).stack,∀ a,env.frame = some a→a∈frs (cxX P w K mg base N qual scope f cd A outer s₀ H₀ E).stack:=λ env he a ha=>mem_filterMap.mpr ⟨env,he,ha⟩
 refine wpAny_leaves_madeW (base:=hideAll s.heap (frs (cxX P w K mg base N qual scope f cd A outer s₀ H₀ E).stack)) (L:=s₀.heap.objs.size) I.ok.frames rfl (λ b o q=>of_hideAll _ q) (PySem.W.funFrames_hide I.stack a3) hx λ a6 t fl tup tn up=>?_
 have st:(hideAll s.heap (frs (cxX P w K mg base N qual scope f cd A outer s₀ H₀ E).stack)).StaysIn s.heap:=λ b o q=>of_hideAll _ q
 have a2:∀ b o,s₀.heap.get? b = some o→b∉frs outer→∃ o',(hideAll s.heap (frs (cxX P w K mg base N qual scope f cd A outer s₀ H₀ E).stack)).get? b = some o':=λ b o q hb=>by
  obtain ⟨o1,e1⟩:=I.base.there b o q (λ z=>absurd z (show b∉([]:List Addr) by simp))
  exact ⟨o1,hideAll_get _ e1 (Pz I q hb)⟩
 have a1:∀ b u,H b = some u→∃ o,(hideAll s.heap (frs (cxX P w K mg base N qual scope f cd A outer s₀ H₀ E).stack)).get? b = some o:=λ b u q=>by
  obtain ⟨o,e⟩:=(I.hok b u q).some'
  exact ⟨o,hideAll_get _ e λ z=>by rw [I.stkFree b z] at q; cases q⟩
 have a4:H ea = none:=by
  cases z:H ea with
  | none=>rfl
  | some u =>
   obtain ⟨o,e⟩:=(I.hok ea u z).some'
   rw [hx.new] at e
   cases e
 refine ⟨ea,C,.ref t,H,_,rfl,hE,I.os,I.bare,?_,I.hok.fly a1 st fl.1,fl,a2,a1,a4⟩
 refine Un.fly I.base a2 st fl.1 λ b hb o q=>?_
 have a5:∀ vs,o.data≠.fields vs:=λ vs z=>by
  obtain ⟨_,o3,q3,n3⟩:=I.funs.mem hb
  rw [q] at q3
  cases q3
  exact n3 vs z
 exact up b o (hx.keeps b o q) a5
abbrev veM:List Value:=[.type "ValueError", .type "Exception", .type "BaseException", .type "object"]
def Ja (K:FA) (C:Addr):Prop:=excIn K C veM "ValueError.__new__" = true
theorem Ja.obj (q:Ja K C) {h:Heap} (X:K.In h):∃ bm N nm qn bs hd sn sub ab col dd k0 k1 k2 k3 k5 mN,h.get? C = some (excClassObj nm qn C N bs bm hd sn sub ab col dd k0 k1 k2 k3 k5 "ValueError.__new__") ∧
  h.Ns N mN∧mN "__init__" = none∧OwnTail h veM bm:=by
 unfold Ja excIn at q
 split at q
 case h_2=>cases q
 rename_i d1 c1 l1 hl
 split at q
 case h_2=>cases q
 rename_i C2 b2 j0 j1 j2 j3 nn j5 a1 a2
 have q1:=Bool.and_eq_true_iff.mp q
 have q2:=Bool.and_eq_true_iff.mp q1.1
 have q3:=Bool.and_eq_true_iff.mp q2.1
 have q4:=Bool.and_eq_true_iff.mp q3.1
 have q5:=Bool.and_eq_true_iff.mp q4.1
 have ho:=X _ _ hl
 have eC:C2 = C:=eq_of_beq q5.1
 have en:nn = "ValueError.__new__" := eq_of_beq q5.2
 have T:=PySem.W.tail_of_in (h:=h) X q3.2
 have NS:h.Ns c1.ns (h.nsMap c1.ns):=.of_isNs (PySem.W.isNs_of_in X q2.2)
 have hi:=PySem.W.nsMap_none_of_in X q2.2 (eq_of_beq q1.2)
 have ed:c1.hasDel = false:=by
  cases z:c1.hasDel with
  | false=>rfl
  | true=>rw [z] at q4; exact absurd q4.2 (by decide)
 have es:l1 = #[j0,j1,j2,j3,some (.builtin "ValueError.__new__"),j5]:=by rw [← en]; exact Array.toList_inj.mp a2
 rw [es] at ho
 rw [eC] at a1
 obtain ⟨nm,bs,mr,ns,qn,a3,sn,sub,ab,col,dl⟩:=c1
 have e1:mr = Value.ref C :: b2:=a1
 have e2:dl = false:=ed
 rw [e1,e2] at ho
 exact ⟨b2,ns,nm,qn,bs,a3,sn,sub,ab,col,d1,j0,j1,j2,j3,j5,_,ho,NS,hi,T⟩
def Afw (C:Addr) (E:XK) (t:TA):TS:=λ _ σ H=>t σ H λ vs H'=>vs.length≤sizeLine∧E (.ref C) none H'
theorem Ci {t:TA} (hq:Ja K C) (hm:mg x = some (.ref C)) (hg:Gl (cxX P w K mg base N qual scope f cd A outer s₀ H₀ E) x)
  (ha:PA (cxX P w K mg base N qual scope f cd A outer s₀ H₀ E) (e :: es) t)
  (a2:(x == ("__debug__" : Str)) = false:=by decide) (he:starEach (e :: es) (cxX P w K mg base N qual scope f cd A outer s₀ H₀ E).env = (false,eval e (cxX P w K mg base N qual scope f cd A outer s₀ H₀ E).env) :: starEach es (cxX P w K mg base N qual scope f cd A outer s₀ H₀ E).env:=by rfl)
  (a3:(backTo cpos (starEach es (cxX P w K mg base N qual scope f cd A outer s₀ H₀ E).env)).any (·.1) = false:=by rfl) :
  PS (cxX P w K mg base N qual scope f cd A outer s₀ H₀ E) (.Raise (some (.Call (.Name x np) (e :: es) [] cpos)) none pos) (Afw C E t):=by
 intro pins s σ H D I h
 obtain ⟨bm,Nn,nm,qn,bs,hd,sn,sub,ab,col,dd,k0,k1,k2,k3,k5,mN,hC,hN,a4,TL⟩:=hq.obj I.ok.mod.kin
 have a1:=ha cpos pins s σ H _ I h
 refine wpAny_Raise_call_subT (C:=C) (N:=Nn) (nm:=nm) (q:=qn) (bs:=bs) (bm:=bm) (hdct:=hd) (sn:=sn) (sub:=sub) (ab:=ab) (col:=col) (dd:=dd) (k0:=k0) (k1:=k1) (k2:=k2) (k3:=k3) (k5:=k5) (mN:=mN) PySem.F.excBase_ValueError (TL.hasType (by decide)) (I.ok.hd rfl) ?_ a4 (E7 I hg hm ⟨rfl,?_⟩ a2)
 ·rw [he]
  show (false || (backTo cpos (starEach es (cxX P w K mg base N qual scope f cd A outer s₀ H₀ E).env)).any (·.1)) = false
  rw [a3]; rfl
 ·rw [he] at a1 ⊢
  refine Calls.evalArgs_plain (thn a1 λ us s1 ⟨vs,H1,I1,r,hl,q⟩=>⟨rfl,?_,I1.bk _ _ hC,hN.keeps I1.bk,TL.keeps I1.bk,λ h' ea hx=>Afg I1 hx q⟩)
  rw [← r.length]
  exact hl
end
def PX (X:Cx) (e:Expr) (t:XK→TE):Prop:=∀ (pins:List (Addr× Obj)) (s:Shared) (σ:St) (H:Hp) (Q:VK) (E:XK) (xe:Value→Shared→Prop),Inv X pins σ H s→t E σ H Q →
 (∀ H1 s1 e' s',Inv X pins σ H1 s1→CX1 X.prog X.w X.stack H1 s1 E e' s'→xe e' s')→wpAny (model X.prog X.w) X.A (eval e X.env) (EP X pins σ Q) xe s
def PXs (X:Cx) (sts:List Stmt) (t:XK→TS):Prop:=∀ (pins:List (Addr× Obj)) (s:Shared) (σ:St) (H:Hp) (D:Fi) (E:XK) (xe:Value→Shared→Prop),Inv X pins σ H s→t E D σ H →
 (∀ H1 s1 e' s',Inv X pins σ H1 s1→CX1 X.prog X.w X.stack H1 s1 E e' s'→xe e' s')→wpAny (model X.prog X.w) X.A (execs sts X.env) (SP X pins D) xe s
def Bc (P:Program) (w:World) (K:FA) (mg:Str→Option Value) (base:Heap) (k:Nat) (x:Str) (ps:List Str) (sp:Sp):Prop :=
 ∃ f fd,Bi P w K mg base (CX1 P w) k f fd ps sp∧Br K fd ps []∧keepIn K (.ref f) = true∧mg x = some (.ref f)
section
variable {k j:Nat} {p:Pos} {t:TA}
theorem Aey {E:XK} {xe:Value→Shared→Prop} (F:Bi X.prog X.w X.K X.mg X.base (CX1 X.prog X.w) k f fd ps sp) (hr:Bp k X.A) (hb:Br X.K fd ps [])
  (I:Inv X pins σ H s) (r:A5 vs us) (h:sp vs H Q E) (hx:∀ H1 s1 e' s',Inv X pins σ H1 s1→CX1 X.prog X.w X.stack H1 s1 E e' s'→xe e' s'):wpAny (model X.prog X.w) X.A (call (.ref f) us) (EP X pins σ Q) xe s:=by
 have hl:us.length = ps.length:=by rw [← r.length]; exact F.len _ _ _ _ h
 have a1:=hb s us I.kIn (by rw [vG]; exact hl)
 rw [vG] at a1
 refine wpAny_call (codeAny_mono (F.run X.A X.stack s H ⟨us,[]⟩ us vs Q E hr I.env0 a1 r h) λ r s' hq=>?_)
 cases r with
 | error e=>exact hx H s e s' I hq
 | ok fl =>
  cases fl with
  | ret u=>exact I.after hq
  | next=>exact False.elim hq
  | brk=>exact False.elim hq
  | cont=>exact False.elim hq
theorem Ael {te:XK→TE} (he:PX X e te) (hN:X.N.Nodup) (hi:X.N[i]? = some x) (hx:Loc X.env.scope x) (hs:swapsWith e (some (.Name x pos')) pos.line X.env = pure false:=by rfl) (hf:X.fn x = true∨X.env.scope.names.lookup x = some .local:=by first | exact .inl rfl | exact .inr rfl | assumption) :
  PXs X [.Assign [.Name x pos'] e pos] (λ E=>Pm (te E) (Cg i)):=by
 intro pins s σ H D E xe I h a1
 refine wpAny_execs_cons (wpAny_Assign_Name (thn (he pins s σ H _ E xe I h a1) λ v s1 ⟨y,H1,I1,r1,q1⟩=>?_) hs)
 exact Hn I1 hN hi hx r1 (λ s2 I2=>wpAny_execs_nil ⟨_,H1,I2,q1⟩) hf
end
theorem Bc.mono (C:Bc P w K mg base j x ps sp) (h:j≤k):Bc P w K mg base k x ps sp:=by
 obtain ⟨f,fd,F,b,kp,m⟩:=C
 exact ⟨f,fd,F.mono h,b,kp,m⟩
theorem Bc.imp {a1:Sp} (C:Bc P w K mg base k x ps sp) (h:∀ vs H Q E,a1 vs H Q E→sp vs H Q E):Bc P w K mg base k x ps a1:=by
 obtain ⟨f,fd,F,b,kp,m⟩:=C
 exact ⟨f,fd,F.imp h,b,kp,m⟩
theorem Bd.okX {st:Stmt} {N:List Str} {k:Nat} (F:Bd K mg x ps st) (S:Ar N ps (Aj st)) (len:∀ vs H Q E,sp vs H Q E→vs.length = ps.length)
  (a1:∀ (f:Addr) (cdv:Value) (A:Around) (outer:List Env) (s:Shared) (H:Hp) (vs:List V) (Q:VK) (E:XK),Bp k (A.deeper (envOfC x (Aj st) s.heap.objs.size f cdv))→sp vs H Q E →
   ∃ t,PSs (cxX P w K mg base N x (Aj st) f cdv A outer s H E) (Bx st) t∧t { nx:=λ _ H'=>Q .non H',rt:=Q } (Eu N vs) H):Bc P w K mg base (k + 1) x ps sp:=by
 obtain ⟨f,fd,F,m,b⟩:=F
 have kp:=F.kp
 obtain ⟨oc,od,kV,doc,pm,an,cdv,ct,osl,rfl,lk,a3⟩:=F.ex
 exact ⟨f,_,Aax lk a3 S len λ A outer s H vs Q E hr a2=>a1 f cdv A outer s H vs Q E hr a2,b,kp,m⟩
theorem Bd.zeroX {st:Stmt} (F:Bd K mg x ps st) (no:∀ vs H Q E,¬ sp vs H Q E):Bc P w K mg base 0 x ps sp:=by
 obtain ⟨f,fd,F,m,b⟩:=F
 exact ⟨f,fd,⟨λ vs H Q E h=>absurd h (no vs H Q E),λ A outer s H args us vs Q E _ _ _ _ h=>absurd h (no vs H Q E)⟩,b,F.kp,m⟩
section
variable {N:List Str} {qual:Str} {scope:Scope} {cd:Value} {outer:List Env} {s₀:Shared} {H₀:Hp} {E:XK}
theorem Bm {t:TA} (C:Bc P w K mg base j x ps sp) (hr:Bp k (cxX P w K mg base N qual scope f cd A outer s₀ H₀ E).A) (hg:Gl (cxX P w K mg base N qual scope f cd A outer s₀ H₀ E) x)
  (ha:PA (cxX P w K mg base N qual scope f cd A outer s₀ H₀ E) (e :: es) t) (hj:j≤k:=by first | decide | omega)
  (a1:(x == ("__debug__" : Str)) = false:=by decide) (he:starEach (e :: es) (cxX P w K mg base N qual scope f cd A outer s₀ H₀ E).env = (false,eval e (cxX P w K mg base N qual scope f cd A outer s₀ H₀ E).env) :: starEach es (cxX P w K mg base N qual scope f cd A outer s₀ H₀ E).env:=by rfl)
  (a2:(backTo pos (starEach es (cxX P w K mg base N qual scope f cd A outer s₀ H₀ E).env)).any (·.1) = false:=by rfl) :
  PE (cxX P w K mg base N qual scope f cd A outer s₀ H₀ E) (.Call (.Name x p) (e :: es) [] pos) (G3 sp [] E t):=by
 obtain ⟨f,fd,F,b,kp,m⟩:=C
 exact Yn (F.mono hj) hr hg m kp b .nil Aap ha a1 he a2
end
abbrev Cx.hold (X:Cx) (u:Value):Cx:={ X with A:=X.A.mark (some u),calm:=false,xe:=λ _ _=>False }
section
variable {s:Shared}
theorem Inv.hold (I:Inv X pins σ H s) (u:Value):Inv (X.hold u) pins σ H s :=
 ⟨⟨I.ok.mod,I.ok.kind,I.ok.glob,I.ok.blt,I.ok.above,I.ok.inj,I.ok.has,I.ok.cab,λ z=>(by cases z),I.ok.frames,I.ok.stk,I.ok.exf,I.ok.bs,I.ok.bsz,I.ok.noex,I.ok.exfs,I.ok.funs,I.ok.frf⟩,
  I.os,I.bare,I.base,I.loc,I.cell,I.free,I.freeC,I.pin,I.hok,I.len⟩
theorem Inv.unhold (ok:X.Ok) (I:Inv (X.hold u) pins σ H s):Inv X pins σ H s:=⟨ok,I.os,I.bare,I.base,I.loc,I.cell,I.free,I.freeC,I.pin,I.hok,I.len⟩
theorem SP.unhold (ok:X.Ok) {f:Flow} (h:SP (X.hold u) pins D f s'):SP X pins D f s':=by
 cases f with
 | next=>obtain ⟨a1,H',I,q⟩:=h; exact ⟨a1,H',I.unhold ok,q⟩
 | brk=>obtain ⟨a1,H',I,q⟩:=h; exact ⟨a1,H',I.unhold ok,q⟩
 | cont=>obtain ⟨a1,H',I,q⟩:=h; exact ⟨a1,H',I.unhold ok,q⟩
 | ret v=>obtain ⟨v',a1,H',I,r,q⟩:=h; exact ⟨v',a1,H',I.unhold ok,r,q⟩
end
structure AgY (X:Cx) (pins:List (Addr× Obj)) (σ:St) (H:Hp) (B:Heap) (ea C:Addr) (a0:Value) (s:Shared):Prop where
 inv:Inv X pins σ H s
 fly:Heap.FlyingW B X.stack ea (.ref C) a0 s.heap
 go:∀ h',B.StaysIn h'→s.heap.UpToSlots h'→Inv X pins σ H { s with heap:=h' }
section
variable {s s':Shared} {B:Heap} {ea:Addr} {a0:Value}
theorem Aa5 (I:Inv X pins σ H s) (os:s'.os = s.os) (bare:AllBare s'.gens) (un:Un (frs X.stack) [] H H' s.heap s'.heap) (hok:HOk X.prog X.w H' s'.heap) (fl:Heap.FlyingW B X.stack ea (.ref C) a0 s'.heap)
  (a2:∀ b o,s.heap.get? b = some o→b∉frs X.stack→∃ o',B.get? b = some o') (a1:∀ b u,H' b = some u→∃ o,B.get? b = some o) {h':Heap} (st:B.StaysIn h') (up:s'.heap.UpToSlots h'):Inv X pins σ H' { s' with heap:=h' }:=by
 have nf:∀ b∈frs X.stack,∀ o,s'.heap.get? b = some o→∃ z,h'.get? b = some { o with slots:=z }:=λ b hb o q=>by
  refine up b o q λ vs z=>?_
  obtain ⟨_,o3,q3,n3⟩:=fl.2.2.1.mem hb
  rw [q] at q3
  cases q3
  exact n3 vs z
 exact I.call' (ch:=[]) (s':={ s' with heap:=h' }) os (Un.fly un a2 fl.1 st nf) (hok.fly a1 fl.1 st) bare λ b hb=>absurd hb (by simp)
end
def PH (X:Cx) (hs:List ExceptHandler) (th:Addr→TS):Prop:=∀ (pins:List (Addr× Obj)) (s:Shared) (σ:St) (H:Hp) (D:Fi) (B:Heap) (ea C:Addr) (a0:Value),AgY X pins σ H B ea C a0 s→th C D σ H →
 wpAny (model X.prog X.w) X.A (handleBy (.ref ea) X.env hs) (SP X pins D) X.xe s
def AhQ (K:FA) (C0:Addr) (t:TS) (r:Addr→TS):Addr→TS:=λ C D σ H=>(exmOne K (.ref C) (.ref C0) = some true∧t D σ H)∨(exmOne K (.ref C) (.ref C0) = some false∧r C D σ H)
def AeY:Addr→TS:=λ _ _ _ _=>False
section
variable {np:Pos} {b0:Stmt} {suite:List Stmt} {hs:List ExceptHandler} {C0:Addr} {t:TS} {r:Addr→TS}
theorem Aga:PH X hs AeY:=λ _ _ _ _ _ _ _ _ _ _ h=>h.elim
theorem AfM (hm:X.mg x = some (.ref C0)) (hg:Gl X x) (ht:∀ u,PSs (X.hold u) (b0 :: suite) t) (hr:PH X hs r) (a1:(x == ("__debug__" : Str)) = false:=by decide) :
  PH X (.ExceptHandler (some (.Name x np)) none (b0 :: suite) pos :: hs) (AhQ X.K C0 t r):=by
 intro pins s σ H D B ea C a0 L h
 refine wpAny_handleBy_cons (codeAny_handlers_test (E7 (X:=X.hold (.ref ea)) (L.inv.hold _) hg hm ?_ a1)) (by intro q; cases q)
 have LT:PySem.W.Looks (model X.prog X.w) s.heap (typeOf (.ref ea)) (.ref C):=by
  obtain ⟨ob,a2,a5⟩:=L.fly.there
  rw [← a5]
  exact PySem.W.Looks.ld a2 |>.andThen .now
 rcases h with ⟨hx,h⟩ | ⟨hx,h⟩
 ·refine (exm_one L.inv.kIn LT hx).here ?_
  refine codeAny_handlers_suite ?_
  refine lands_againW L.fly λ h6 a3 a4=>?_
  have I6:=(L.go h6 a3.1 a4).hold (.ref ea)
  exact vS (ht (.ref ea) pins _ σ H D I6 h) (λ f s2 q=>q.unhold L.inv.ok) λ _ _ z=>False.elim z
 ·refine (exm_one L.inv.kIn LT hx).here ?_
  exact hr pins s σ H D B ea C a0 L h
def Afo (th:Addr→TS) (tb:XK→TS):TS:=λ D σ H=>tb (λ cv _ H'=>∃ C,cv = .ref C∧th C D σ H') D σ H
theorem Afz {a1:List Stmt} {h0:ExceptHandler} {tb:XK→TS} {th:Addr→TS} (hb:PXs X a1 tb) (hh:PH X (h0 :: hs) th) (a2:X.stack = X.env :: X.outer) (hf:X.env.frame = some X.env.locals):PS X (.Try a1 (h0 :: hs) [] [] pos) (Afo th tb):=by
 intro pins s σ H D I h
 refine wpAny_Try_except (vS (hb pins s σ H D _ (λ e a8=>wpAny (model X.prog X.w) X.A (noteFrame e X.env) (λ _ a9=>wpAny (model X.prog X.w) X.A (setFlight e none) (λ _ b6=>wpAny (model X.prog X.w) X.A (handleBy e X.env (h0 :: hs)) (SP X pins D) X.xe b6) X.xe a9) X.xe a8) I h ?_) (λ f s1 q=>?_) λ _ _ z=>z)
 ·intro H1 s1 e' s' I1 hc
  obtain ⟨ea,C,a0,H',B,rfl,⟨C',e1,hE⟩,os,bare,un,hok,fl,a7,a6,c4⟩:=hc
  cases e1
  have a5:=fl
  rw [a2] at a5
  refine wpAny_looks_onW (I1.ok.frames.trans (by rw [a2])) hf a5 λ h4 a3 b8=>?_
  refine wpAny_landsW a3 λ h5 a4 c0=>?_
  have b7:Heap.FlyingW B X.stack ea (.ref C) a0 h5:=by rw [a2]; exact a4
  have up:=b8.trans c0
  refine hh pins _ σ H' D B ea C a0 ⟨Aa5 I1 os bare un hok fl a7 a6 a4.1 up,b7,λ h' c3 b9=>?_⟩ hE
  exact Aa5 I1 os bare un hok fl a7 a6 c3 (up.trans b9)
 ·cases f with
  | next=>exact wpAny_execs_nil q
  | brk=>exact q
  | cont=>exact q
  | ret v=>exact q
end
open PySem.Builtin.Str
def Af0:V→List V→Hp→VK→Prop:=λ x vs H Q=>∃ t,x = .str t∧vs = []∧Q (.bl (Txt.isalpha t)) H
theorem Aan:MtR X "str.isalpha" Af0:=by
 intro pins s σ H x vs v us Q I rx rv h
 obtain ⟨t,rfl,rfl,q⟩:=h
 obtain ⟨k,rfl⟩:=rx
 have a1:=rv.zero
 subst a1
 exact SC.isalpha ⟨.bl _,H,I,rfl,q⟩
theorem Nt:∀ {ts:List Str} {us:List Value},A5 (ts.map V.str) us→∃ l:List (Str× Tok),us = strValues l∧l.map (·.1) = ts
 | [],us,r=>by
  cases r
  exact ⟨[],rfl,rfl⟩
 | t :: ts,us,r=>by
  cases r with
  | cons a b =>
   obtain ⟨k,rfl⟩:=a
   obtain ⟨l,rfl,e⟩:=Nt b
   exact ⟨(t,k) :: l,rfl,by rw [← e]; rfl⟩
theorem Ng:∀ (l:List (Str× Tok)),A5 ((l.map (·.1)).map V.str) (strValues l)
 | []=>.nil
 | (t,k) :: l=>.cons ⟨k,rfl⟩ (Ng l)
def AhY (K:FA):V→List V→Hp→VK→Prop:=λ x vs H Q=>∃ t a ts,x = .str t∧vs = [.ref a]∧SqL K H a (ts.map V.str)∧JoinOk t ts = true∧Q (.str (Txt.join t ts)) H
theorem Ol:MtR X "str.join" (AhY X.K):=by
 intro pins s σ H x vs v us Q I rx rv h
 obtain ⟨t,a,ts,rfl,rfl,hq,ho,q⟩:=h
 obtain ⟨k,rfl⟩:=rx
 obtain ⟨u,rfl,ru⟩:=rv.one
 cases ru
 obtain ⟨a1,r,p,hz⟩:=I.list hq
 obtain ⟨l,rfl,e⟩:=Nt r
 exact SC.join p.isList e ho λ t' k'=>⟨.str _,H,I.tok _,⟨_,rfl⟩,q⟩
def Af4:V→List V→Hp→VK→Prop:=λ x vs H Q=>∃ t,x = .str t∧vs = []∧t.length≤sizeLine∧(spaceWords t (t.length + 1)).length≤sizeLine∧(Txt.words t).length≤sizeLine∧∀ p,H p = none→Q (.ref p) (upd H p (.lst ((Txt.words t).map V.str)))
theorem Adf:MtR X "str.split" Af4:=by
 intro pins s σ H x vs v us Q I rx rv h
 obtain ⟨t,rfl,rfl,hz,a3,a4,q⟩:=h
 obtain ⟨k,rfl⟩:=rx
 have a2:=rv.zero
 subst a2
 have a1:∀ (l:List (Str× Tok)) (tk:Nat),l.map (·.1) = Txt.words t→EP X pins σ Q (.ref s.heap.objs.size) { s with heap:=s.heap.push { cls:=.type "list", data:=.seq (strValues l).toArray },toks:=tk }:=λ l tk e=>by
  refine ⟨.ref s.heap.objs.size,_,I.lnew (ys:=(Txt.words t).map V.str) ?_ (by rw [uD]; exact a4),rfl,q _ I.fresh⟩
  rw [← e]
  exact Ng l
 refine call_meets F.slot_str_split (typeIs_str _ _ _) F.entry_str_split (F.args_str_split_1 _) (meets_str_split_space t k hz a3) ?_
 cases hw:spaceWords t (t.length + 1) == [(0,t.length)] with
 | false =>
  simp only [Bool.false_eq_true,if_false]
  rw [strsFrom_eq]
  refine a1 _ _ ((numbered_texts _ _).trans ?_)
  unfold Txt.words
  rw [hw,if_neg (by decide)]
 | true =>
  simp only [if_true]
  have e:[(t,k)].map (·.1) = Txt.words t:=by
   unfold Txt.words
   rw [hw,if_pos rfl]
   rfl
  exact a1 [(t,k)] s.toks e
def tFs:List TE→Str→St→Hp→(Str→Hp→Prop)→Prop
 | [],acc,_,H,Q=>acc.length≤sizeLine∧Q acc H
 | t :: r,acc,σ,H,Q=>t σ H λ v H1=>∃ y,v = .str y∧(acc ++ y).length≤sizeLine∧tFs r (acc ++ y) σ H1 Q
inductive PEs (X:Cx):List Expr→List TE→Prop
 | nil:PEs X [] []
 | cons {e t es ts}:PE X e t→PEs X es ts→PEs X (e :: es) (t :: ts)
theorem Wy :∀ {es:List Expr} {ts:List TE},PEs X es ts→∀ (a1:Str) (s:Shared) (H:Hp) (Q:Str→Hp→Prop),Inv X pins σ H s→tFs ts a1 σ H Q →
  Joins (model X.prog X.w) X.A X.xe (evalEach es X.env) a1 (λ a2 s1=>a2.length≤sizeLine∧∃ H',Inv X pins σ H' s1∧Q a2 H') s
 | _,_,.nil,a1,s,H,Q,I,h=>⟨h.1,H,I,h.2⟩
 | e :: es,t :: ts,.cons he a3,a1,s,H,Q,I,h=>by
  show wpAny _ _ _ _ _ s
  refine thn (he pins s σ H _ I h) λ v s1 ⟨x,H1,I1,r1,y,ey,hz,q⟩=>?_
  subst ey
  obtain ⟨k,rfl⟩:=r1
  exact ⟨y,k,rfl,hz,Wy a3 _ s1 H1 Q I1 q⟩
theorem Jo (h:PEs X (e1 :: e2 :: es) ts):PE X (.JoinedStr (e1 :: e2 :: es) pos) (λ σ H Q=>tFs ts Str.empty σ H λ z H'=>Q (.str z) H'):=by
 intro pins s σ H Q I hw
 refine wpAny_JoinedStr ?_
 have j:=Wy h Str.empty s H _ I hw
 have mono:∀ (ps:List (Sem Value)) (a1:Str) (Q1 Q2:Str→Shared→Prop) (s:Shared),(∀ z s,Q1 z s→Q2 z s)→Joins (model X.prog X.w) X.A X.xe ps a1 Q1 s→Joins (model X.prog X.w) X.A X.xe ps a1 Q2 s:=by
  intro ps
  induction ps with
  | nil=>intro a1 Q1 Q2 s k j; exact k _ _ j
  | cons p ps ih =>
   intro a1 Q1 Q2 s k j
   show wpAny _ _ _ _ _ s
   exact thn j λ v s1 ⟨y,t,e,hz,r⟩=>⟨y,t,e,hz,ih _ _ _ _ k r⟩
 refine mono _ _ _ _ _ (λ z s1 ⟨hz,H',I',q⟩=>⟨hz,.str z,H',I'.tok _,⟨_,rfl⟩,q⟩) j
def tFv (te:TE):TE:=λ σ H Q=>te σ H λ v H1=>∃ y,v = .str y∧y.length≤sizeLine∧Q (.str y) H1
def tFr (te:TE):TE:=λ σ H Q=>te σ H λ v H1=>∃ y,v = .str y∧(reprText y).length≤sizeLine∧Q (.str (reprText y)) H1
theorem AeO (he:PE X e te):PE X (.FormattedValue e (-1) none pos) (tFv te):=by
 intro pins s σ H Q I h
 refine wpAny_FormattedValue_plain (thn (he pins s σ H _ I h) λ v s1 ⟨x,H1,I1,r1,y,ey,hz,q⟩=>?_)
 subst ey
 obtain ⟨k,rfl⟩:=r1
 exact wpAny_formatField_str ⟨.str y,H1,I1,⟨_,rfl⟩,q⟩ ⟨.str y,H1,I1.tok _,⟨_,rfl⟩,q⟩ hz
theorem Aar (he:PE X e te):PE X (.FormattedValue e 114 none pos) (tFr te):=by
 intro pins s σ H Q I h
 refine wpAny_FormattedValue_repr (thn (he pins s σ H _ I h) λ v s1 ⟨x,H1,I1,r1,y,ey,hz,q⟩=>?_)
 subst ey
 obtain ⟨k,rfl⟩:=r1
 refine wpAny_pyReprObj_gives (typeIs_str _ _ _) F.slot_str_repr F.entry_str_repr (F.args_str_repr_1 _) (gives_str_repr y k) ?_ (hx:=hz)
 exact wpAny_formatField_str ⟨.str _,H1,I1.tok _,⟨_,rfl⟩,q⟩ ⟨.str _,H1,I1.tok _,⟨_,rfl⟩,q⟩ hz
def Its (x:Str):It:=⟨λ i _=>i < x.cps.size,λ i H v H'=>H' = H∧∃ c,x.cps[i]? = some c∧v = .str ⟨#[c]⟩,λ i _=>x.cps.size≤i⟩
theorem Ac5 {tg:Expr} (x:Str) (t:Tok) (it:Addr) (ty:String) (a1:ty = "str_ascii_iterator" ∨ ty = "str_iterator"):N2 P w K tg (Its x) [it] it (λ i h=>h.IsStrIter it ty x t i) where
 mem:=by simp
 obj:=λ i h st b hb=>by
  have e:b = it:=by simpa using hb
  subst e
  obtain ⟨o,e,c,d⟩:=st
  exact ⟨o,e,λ v z=>by rw [d] at z; cases z⟩
 keep:=λ i h h' st k=>by
  obtain ⟨o,e,c,d⟩:=st
  exact ⟨o,k it (by simp) o e,c,d⟩
 item:=by
  intro X hP hw hK hc i pins s σ H E I hf st hg
  subst hP hw hK
  have hi:=hg
  have hx:=Array.getElem?_eq_getElem hi
  obtain ⟨f0,f1,f2,f3,f4,f5⟩:=hf it (by simp)
  have a2:∀ h',h'.IsStrIter it ty x t (i + 1)→Heap.SameBut it s.heap h'→∃ u,some (Value.str ⟨#[x.cps[i]]⟩ s.toks) = some u ∧
   wpAny (model X.prog X.w) X.A (letOwnedTupleGo tg (.ref it) u) (λ _ s2=>∃ y H',Inv X pins σ H' s2∧A8 y u∧(Its x).yld i H y H'∧s2.heap.IsStrIter it ty x t (i + 1)∧∀ b∈[it],H' b = none) E { s with heap:=h',toks:=s.toks + 1 }:=λ h' a3 sb=>by
   have I1:=I.turned (t':=s.toks + 1) (λ b o hb e=>(sb.2 b hb).trans e) f0 f1 f3 f4 f5
   obtain ⟨o,e,c,d⟩:=id a3
   exact ⟨_,rfl,Rf (s:={ s with heap:=h',toks:=s.toks + 1 }) e c d (by rcases a1 with z | z <;> (subst z; decide)) ⟨.str ⟨#[x.cps[i]]⟩,H,I1,⟨_,rfl⟩,⟨rfl,_,hx,rfl⟩,a3,λ b hb=>(hf b hb).1⟩⟩
  rcases a1 with z | z
  ·subst z; exact wpAny_pyNext_ascii_item st hx a2
  ·subst z; exact wpAny_pyNext_wide_item st hx a2
 done:=by
  intro X hP hw hK hc i pins s σ H E I hf st hg
  subst hP hw hK
  have hx:=Array.getElem?_eq_none hg
  obtain ⟨f0,f1,f2,f3,f4,f5⟩:=hf it (by simp)
  rcases a1 with z | z
  ·subst z; exact wpAny_pyNext_ascii_end (I.ok.hd hc) st hx λ h' eb=>⟨rfl,I.turned (t':=s.toks) (λ b o hb e=>eb b o hb e) f0 f1 f3 f4 f5⟩
  ·subst z; exact wpAny_pyNext_wide_end (I.ok.hd hc) st hx λ h' eb=>⟨rfl,I.turned (t':=s.toks) (λ b o hb e=>eb b o hb e) f0 f1 f3 f4 f5⟩
 self:=λ _ _ _ _ _ st h=>by
  rcases a1 with z | z
  ·subst z; exact wpAny_pyIter_striter_ascii st h
  ·subst z; exact wpAny_pyIter_striter_wide st h
def Ah3 (tl:TE):TI:=λ σ H R=>tl σ H λ x H1=>∃ z,x = .str z∧R (Its z) H1
theorem Ab2 {tg l:Expr} {tl:TE} (hl:PE X l tl):PI X tg l (Ah3 tl):=by
 intro pins s σ H R I h
 refine thn (hl pins s σ H _ I h) λ v s1 ⟨x,H1,I1,r1,q1⟩=>?_
 obtain ⟨z,e,q⟩:=q1
 subst e
 obtain ⟨t,rfl⟩:=r1
 have a1:∀ ty,ty = "str_ascii_iterator" ∨ ty = "str_iterator" → PIE X pins σ tg R (.ref s1.heap.objs.size) { s1 with heap:=s1.heap.push { cls:=.type ty,data:=.fields #[.str z t,.int 0 0] } }:=λ ty a2=>by
  refine ⟨s1.heap.objs.size,[s1.heap.objs.size],_,_,H1,rfl,I1.kept (t':=s1.toks) λ b o e=>Heap.get?_push_of_some _ e,Ac5 z t _ ty a2,⟨_,Heap.get?_push_size _ rfl,rfl,rfl⟩,λ b hb=>?_,q⟩
  have e:b = s1.heap.objs.size:=by simpa using hb
  subst e
  exact I1.fpOk (uY _) (I1.hok.fresh (uY _))
 cases ha:z.cps.all (· < 128)
 ·exact wpAny_pyIter_wide ha (a1 _ (.inr rfl))
 ·exact wpAny_pyIter_ascii ha (a1 _ (.inl rfl))
section
variable {s:Shared}
theorem N3 {Q:Unit→Shared→Prop} (I:Inv X pins σ H s) (hN:X.N.Nodup) (hi:X.N[i]? = some x) (hk:X.env.scope.names.lookup x = some .local) (r:A8 v u)
  (h:∀ h' m,Inv X pins (σ.set i (some v)) H { s with heap:=h',toks:=s.toks + 1 }→h'.Ns X.env.locals m→m x = some u→Heap.SameBut X.env.locals s.heap h'→Q () { s with heap:=h',toks:=s.toks + 1 }):wpAny M A (storeName X.env x u) Q E s:=by
 obtain ⟨m,hn,hl⟩:=id I.loc
 have a4:(X.env.scope.kind == .class || (X.env.scope.kind == .module && X.env.locals != X.env.globals)) = false:=by rw [I.ok.kind]; rfl
 have a3:i < σ.length:=by rw [I.len]; exact (List.getElem?_eq_some_iff.mp hi).1
 have cne:=I.cne
 obtain ⟨oL,_,_,a5,_⟩:=id hn
 refine wpAny_storeName_local hk hn (λ h' a1 hs=>?_) a4
 have ap:∀ b o,X.s₀.heap.get? b = some o→h'.get? b = s.heap.get? b:=λ b o e=>hs.2 b (vB (uZ (Heap.lt_size e) I.ok.above))
 have a2:HOk X.prog X.w H h':=λ b ob e=>by
  refine (I.hok b ob e).stay (λ c w' hc q=>(hs.2 c ?_).trans q) (λ _ q=>q) λ _ _ q=>q
  intro z
  subst z
  rcases hc with z | hc
  ·subst z; rw [I.free] at e; cases e
  ·rw [I.free] at hc; cases hc
 refine h h' _ ⟨I.ok,I.os,I.bare,⟨λ b o e n hb hx=>(ap b o e).trans (I.base.keep b o e n hb hx),λ b o e n hb hx=>?_,I.base.free,λ b o e hx=>?_,I.base.tups,I.base.frzs,I.base.tbls⟩,⟨_,a1,λ j y v' e1 e2 e3=>?_⟩,λ y c e=>?_,I.free,I.freeC,λ p hp=>?_,a2,?_⟩ a1 (by simp) hs
 ·obtain ⟨sl,e1⟩:=I.base.slot b o e n hb hx
  exact ⟨sl,(ap b o e).trans e1⟩
 ·obtain ⟨o',e1⟩:=I.base.there b o e hx
  exact ⟨o',(ap b o e).trans e1⟩
 ·by_cases hj:j = i
  ·subst hj
   rw [hi] at e1
   cases e1
   rw [vL a3] at e2
   cases e2
   exact ⟨u,r,.inl ⟨hk,by simp⟩⟩
  ·rw [vK (Ne.symm hj)] at e2
   obtain ⟨u',r',q⟩:=hl j y v' e1 e2 e3
   refine ⟨u',r',?_⟩
   rcases q with ⟨k,e⟩ | ⟨k,c,e,z⟩
   ·refine .inl ⟨k,?_⟩
    have:y≠x:=λ e=>hj (Mn hN e1 (e ▸ hi))
    simp [this,e]
   ·exact .inr ⟨k,c,e,z.sameBut hs (cne y c e)⟩
 ·obtain ⟨w',z⟩:=I.cell y c e
  exact ⟨w',z.sameBut hs (cne y c e)⟩
 ·obtain ⟨e,n,ne,nf,d⟩:=I.pin p hp
  exact ⟨(hs.2 p.1 ne).trans e,n,ne,nf,d⟩
 ·rw [length_set]
  exact I.len
theorem Inv.local (I:Inv X pins σ H s) {i:Nat} (hi:X.N[i]? = some x) (hk:X.env.scope.names.lookup x = some .local) (e:σ[i]? = some (some v)) {m:Str→Option Value} (hn:s.heap.Ns X.env.locals m):∃ u,A8 v u∧m x = some u:=by
 obtain ⟨m',a1,hl⟩:=I.loc
 obtain ⟨u,r,q⟩:=hl i x v hi e (.inl hk)
 have em:m' = m:=by
  funext y
  exact Heap.Ns.agree a1 hn y
 rcases q with ⟨_,e⟩ | ⟨k,_⟩
 ·exact ⟨u,r,em ▸ e⟩
 ·have k':X.env.scope.names.lookup x = some .cell∨X.env.scope.names.lookup x = some .free:=k
  rw [hk] at k'
  rcases k' with z | z <;> cases z
end
def put1 (a b:Str) (x:Str) (c:Nat):Str:=Txt.replace x ⟨#[c]⟩ (Str.empty ++ a ++ ⟨#[c]⟩ ++ b)
def puts (a b z:Str) (n:Nat) (x:Str):Str:=(z.cps.toList.take n).foldl (put1 a b) x
theorem AcE (a b z:Str) (n:Nat) (x:Str) (h:z.cps[n]? = some c):puts a b z (n + 1) x = put1 a b (puts a b z n x) c:=by
 have h2:z.cps.toList[n]? = some c:=by rw [Array.getElem?_toList]; exact h
 unfold puts
 rw [uW,h2,foldl_append]
 rfl
theorem AiC {j k:Nat} (h:j≠k) (A B C D:Option V):(((σ.set j A).set k B).set k C).set j D = (σ.set j D).set k C:=by
 rw [set_set,List.set_comm _ _ (Ne.symm h),set_set]
theorem Ae8 {j k:Nat} (h:j≠k) (hk:k < σ.length) (A:Option V):(σ.set j A).set k σ[k] = σ.set j A:=by
 apply List.ext_getElem?
 intro n
 by_cases e:n = k
 ·subst e
  rw [vL (by rw [length_set]; exact hk),vK h,uC hk]
 ·rw [vK (λ z=>e z.symm)]
def Ahi (i j k:Nat) (z a b:Str) (u:TS):TS:=λ D σ H=>∃ x,σ[i]? = some (some (.str x))∧(∀ c,((⟨#[c]⟩:Str) == Str.empty ++ a ++ ⟨#[c]⟩ ++ b) = false)∧(∀ c,(Str.empty ++ a ++ ⟨#[c]⟩ ++ b).length≤14)∧(∀ n,n≤z.cps.size→(puts a b z n x).length≤1000000) ∧
 ∀ v,u D ((σ.set j (some (.str (puts a b z z.cps.size x)))).set k v) H
theorem Adj {sp a:Str} {i j k:Nat} {tz:Tok} {rest:List Stmt} {u:TS} (hp:PassesOwn (model X.prog X.w) X.A X.env X.xe) (hc:X.calm = true) (hN:X.N.Nodup) (hi:X.N[i]? = some tx) (hj:X.N[j]? = some sp) (hk:X.N[k]? = some mk) (c0:j≠k)
  (li:X.env.scope.names.lookup tx = some .local) (lj:X.env.scope.names.lookup sp = some .local) (lk:X.env.scope.names.lookup mk = some .local) (hg:Gl X MK) (hm:X.mg MK = some (.str z tz)) (hr:PSs X rest u)
  (d9:(p8.endLine == a4.line) = true) (d1:(tx == ("__debug__" : Str)) = false) (d2:(sp == ("__debug__" : Str)) = false) (d3:(mk == ("__debug__" : Str)) = false) (d4:(MK == ("__debug__" : Str)) = false)
  (f8:swapsWith (.Name tx p2) (some (.Name sp p1)) p3.line X.env = pure false)
  (f7:swapsWith (.Call (.Attribute (.Name sp p7) "replace" p8) [.Name mk p9,.JoinedStr [.Constant (.str a) 0 b8,.FormattedValue (.Name mk a7) (-1) none b7,.Constant (.str b) 0 a5] a8] [] a4) (some (.Name sp p6)) c4.line X.env = pure false)
  (d7:attributeBase (.Name sp p7) "replace" X.env (eval (.Name sp p7) X.env) = eval (.Name sp p7) X.env)
  (e8:∀ x,foldedSetIterable (.Name MK p5) X.env x = pure x) :
  PSs X (.Assign [.Name sp p1] (.Name tx p2) p3 :: .For (.Name mk p4) (.Name MK p5) [.Assign [.Name sp p6] (.Call (.Attribute (.Name sp p7) "replace" p8) [.Name mk p9,.JoinedStr [.Constant (.str a) 0 b8,.FormattedValue (.Name mk a7) (-1) none b7,.Constant (.str b) 0 a5] a8] [] a4) c4] [] f6 :: rest) (Ahi i j k z a b u):=by
 intro pins s σ H D I h
 obtain ⟨x,hx,g3,c5,e6,hu⟩:=h
 obtain ⟨m,hn,_⟩:=id I.loc
 obtain ⟨ux,⟨tt,rfl⟩,mx⟩:=I.local hi li hx hn
 have g4:j < σ.length:=by rw [I.len]; exact (List.getElem?_eq_some_iff.mp hj).1
 have g2:k < σ.length:=by rw [I.len]; exact (List.getElem?_eq_some_iff.mp hk).1
 refine wpAny_execs_cons (wpAny_Assign_Name (wpAny_Name (wpAny_loadName_local I.ok.kind li hn mx ?_) d1) f8)
 refine N3 I hN hj lj (v:=.str x) ⟨tt,rfl⟩ λ h1 m1 I1 g6 _ _=>?_
 refine wpAny_execs_cons (wpAny_For (E7 I1 hg hm ?_ d4) e8)
 have c8:∀ ty,ty = "str_ascii_iterator" ∨ ty = "str_iterator" → codeAny (model X.prog X.w) X.A (.forLoop (.Name mk p4) (.ref h1.objs.size) [.Assign [.Name sp p6] (.Call (.Attribute (.Name sp p7) "replace" p8) [.Name mk p9,.JoinedStr [.Constant (.str a) 0 b8,.FormattedValue (.Name mk a7) (-1) none b7,.Constant (.str b) 0 a5] a8] [] a4) c4] [] X.env)
   (λ r s'=>match r with
    | .ok f=>(match f with
     | .next=>wpAny (model X.prog X.w) X.A (execs rest X.env) (SP X pins D) X.xe s'
     | f=>SP X pins D f s')
    | .error e=>cameBackBy (model X.prog X.w) X.A X.env X.xe e s') { s with heap:=h1.push { cls:=.type ty,data:=.fields #[.str z tz,.int 0 0] },toks:=s.toks + 1 }:=by
  intro ty c9
  have I2:Inv X pins (σ.set j (some (.str x))) H { s with heap:=h1.push { cls:=.type ty,data:=.fields #[.str z tz,.int 0 0] },toks:=s.toks + 1 }:=I1.kept (t':=s.toks + 1) λ b o e=>Heap.get?_push_of_some _ e
  have f2:Hf X pins H h1.objs.size:=I1.fpOk (uY _) (I1.hok.fresh (uY _))
  refine codeAny_forLoop_any (λ n s'=>∃ q v,n = z.cps.size - q∧q≤z.cps.size∧Inv X pins ((σ.set j (some (.str (puts a b z q x)))).set k v) H s'∧s'.heap.IsStrIter h1.objs.size ty z tz q∧0 < s'.toks) ?_ z.cps.size ⟨0,σ[k],rfl,vV _,?_,⟨_,Heap.get?_push_size _ rfl,rfl,rfl⟩,succ_pos _⟩
  ·rintro n s3 ⟨q,v,rfl,hq,I3,c3,e9⟩
   rcases lt_or_ge q z.cps.size with e5 | hge
   ·have a3:z.cps[q]? = some z.cps[q]:=Array.getElem?_eq_getElem e5
    generalize g5:z.cps[q] = c at a3
    have a9:∀ h4,h4.IsStrIter h1.objs.size ty z tz (q + 1)→Heap.SameBut h1.objs.size s3.heap h4→wpAny (model X.prog X.w) X.A (letOwnedTupleGo (.Name mk p4) (.ref h1.objs.size) (.str ⟨#[c]⟩ s3.toks)) (λ _ d8 =>
      wpAny (model X.prog X.w) X.A (assign (.Name mk p4) X.env (.str ⟨#[c]⟩ s3.toks)) (λ _ b9=>wpAny (model X.prog X.w) X.A (execs [.Assign [.Name sp p6] (.Call (.Attribute (.Name sp p7) "replace" p8) [.Name mk p9,.JoinedStr [.Constant (.str a) 0 b8,.FormattedValue (.Name mk a7) (-1) none b7,.Constant (.str b) 0 a5] a8] [] a4) c4] X.env) (λ f a1=>match f with
       | .next | .cont=>∃ m,m < z.cps.size - q∧∃ q' v',m = z.cps.size - q'∧q'≤z.cps.size∧Inv X pins ((σ.set j (some (.str (puts a b z q' x)))).set k v') H a1∧a1.heap.IsStrIter h1.objs.size ty z tz q'∧0 < a1.toks
       | _=>False) (λ _ _=>False) b9) (λ _ _=>False) d8) (λ _ _=>False) { s3 with heap:=h4,toks:=s3.toks + 1 }:=λ h4 b6 a6=>by
     obtain ⟨f0,f1,e0,f3,f4,f5⟩:=f2
     have I4:=I3.turned (t':=s3.toks + 1) (h':=h4) (λ b o hb e=>(a6.2 b hb).trans e) f0 f1 f3 f4 f5
     obtain ⟨oi,ei,ci,di⟩:=id b6
     have g0:=I4.pinned (fp:=[h1.objs.size]) (λ b hb=>by
      have e:b = h1.objs.size:=by simpa using hb
      subst e
      exact ⟨f0,f1,e0,f3,f4,f5⟩) (λ b hb=>by
      have e:b = h1.objs.size:=by simpa using hb
      subst e
      exact ⟨oi,ei,λ v z=>by rw [di] at z; cases z⟩)
     refine Rf (s:={ s3 with heap:=h4,toks:=s3.toks + 1 }) ei ci di (by rcases c9 with z | z <;> (subst z; decide)) ?_
     refine wpAny_assign_Name (N3 g0 hN hk lk (v:=.str ⟨#[c]⟩) ⟨_,rfl⟩ λ h5 m5 I5 c6 e3 g7=>?_)
     obtain ⟨uj,⟨tj,rfl⟩,f9⟩:=I5.local hj lj (v:=.str (puts a b z q x)) (by
      rw [vK (Ne.symm c0),vK (Ne.symm c0),vL g4]) c6
     refine wpAny_execs_cons (wpAny_Assign_Name (wpAny_Call_method_late d7 rfl d9 rfl (wpAny_Name (wpAny_loadName_local I5.ok.kind lj c6 f9 ?_) d2)) f7)
     refine ⟨"str", "str.replace", F.plainAttrs_str,F.slot_str_replace,F.type_str_replace,typeIs_str _ _ _,λ a e=>(nomatch e),?_⟩
     refine Calls.callWith_builtin rfl (Calls.evalArgs_plain (Calls.spliced_cons (wpAny_Name (wpAny_loadName_local I5.ok.kind lk c6 e3 ?_) d3)))
     refine Calls.spliced_cons (wpAny_JoinedStr (pos:=a8) ?_)
     have la:(Str.empty ++ a).length≤sizeLine:=B9 (by
      have:=c5 c
      simp only [strLen_append] at this ⊢
      omega)
     have lb:(Str.empty ++ a ++ ⟨#[c]⟩).length≤sizeLine:=B9 (by
      have:=c5 c
      simp only [strLen_append] at this ⊢
      omega)
     have lc:(Str.empty ++ a ++ ⟨#[c]⟩ ++ b).length≤sizeLine:=B9 (by
      have:=c5 c
      omega)
     have l1:(⟨#[c]⟩:Str).length≤sizeLine:=B9 (by show 1≤1000; decide)
     have c7:∀ (tk:Nat) (t':Tok),s3.toks + 2≤tk→∃ y t,Value.str ⟨#[c]⟩ t' = Value.str y t∧(Str.empty ++ a ++ y).length≤sizeLine ∧
       Joins (model X.prog X.w) X.A (λ _ _=>False) (evalEach [.Constant (.str b) 0 a5] X.env) (Str.empty ++ a ++ y) (λ e4 a2=>e4.length≤sizeLine ∧
        wpAny (model X.prog X.w) X.A (spliced (backTo a4 (starEach [] X.env))) (λ vs b9=>wpAny (model X.prog X.w) X.A (call (.builtin "str.replace") ([Value.str (puts a b z q x) tj] ++ (Value.str ⟨#[c]⟩ s3.toks :: .str e4 a2.toks :: vs)) []) (λ v a2 =>
         wpAny (model X.prog X.w) X.A (storeName X.env sp v) (λ _ s'=>wpAny (model X.prog X.w) X.A (execs [] X.env) (λ f a1=>match f with
       | .next | .cont=>∃ m,m < z.cps.size - q∧∃ q' v',m = z.cps.size - q'∧q'≤z.cps.size∧Inv X pins ((σ.set j (some (.str (puts a b z q' x)))).set k v') H a1∧a1.heap.IsStrIter h1.objs.size ty z tz q'∧0 < a1.toks
       | _=>False) (λ _ _=>False) s') (λ _ _=>False) a2) (λ _ _=>False) b9) (λ _ _=>False) { a2 with toks:=a2.toks + 1 })
       { s3 with heap:=h5,toks:=tk }:=λ tk t' htk=>by
      refine ⟨⟨#[c]⟩,t',rfl,lb,?_⟩
      show wpAny _ _ (eval (.Constant (.str b) 0 a5) X.env) _ _ _
      refine Calls.Constant_str ⟨b,tk,rfl,lc,lc,?_⟩
      refine Calls.spliced_nil ?_
      refine SC.replaceW (x:=puts a b z q x) (y:=⟨#[c]⟩) (z:=Str.empty ++ a ++ ⟨#[c]⟩ ++ b) (u:=s3.toks) (ne_of_gt e9) (show tk + 1≠0 by omega) (show s3.toks≠tk + 1 by omega) (g3 c) (uX (e6 q hq) (by decide)) (c5 c) λ t2 k2=>?_
      have I6:=I5.tok k2
      refine N3 (s:={ s3 with heap:=h5,toks:=k2 }) I6 hN hj lj (v:=.str (put1 a b (puts a b z q x) c)) ⟨t2,rfl⟩ λ h7 m7 I7 _ _ _=>?_
      rw [AiC c0,← AcE a b z q x a3] at I7
      refine wpAny_execs_nil ⟨z.cps.size - (q + 1),by omega,q + 1,_,rfl,e5,I7.unpinned,?_,succ_pos _⟩
      have e7:=(I7.pin (h1.objs.size,oi) (uS _ (uS _ (Gy (by simp) ei)))).1
      exact ⟨oi,e7,ci,di⟩
     show wpAny _ _ (eval (.Constant (.str a) 0 b8) X.env) _ _ _
     refine Calls.Constant_str ⟨a,_,rfl,la,?_⟩
     show wpAny _ _ (eval (.FormattedValue (.Name mk a7) (-1) none b7) X.env) _ _ _
     refine wpAny_FormattedValue_plain (wpAny_Name (wpAny_loadName_local I5.ok.kind lk c6 e3 ?_) d3)
     exact wpAny_formatField_str (c7 _ _ (by show s3.toks + 2≤s3.toks + 1 + 1 + 1; omega)) (c7 _ _ (by show s3.toks + 2≤s3.toks + 1 + 1 + 1 + 1; omega)) l1
    rcases c9 with e | e
    ·subst e
     refine wpAny_pyNext_ascii_item c3 a3 λ h4 b6 a6=>?_
     refine vS (a9 h4 b6 a6) (λ _ s1 w1=>vS w1 (λ _ s2 w2=>vS w2 (λ f g1 w3=>?_) λ _ _ z=>False.elim z) λ _ _ z=>False.elim z) λ _ _ z=>False.elim z
     cases f with
     | next=>exact w3
     | cont=>exact w3
     | brk=>exact False.elim w3
     | ret v=>exact False.elim w3
    ·subst e
     refine wpAny_pyNext_wide_item c3 a3 λ h4 b6 a6=>?_
     refine vS (a9 h4 b6 a6) (λ _ s1 w1=>vS w1 (λ _ s2 w2=>vS w2 (λ f g1 w3=>?_) λ _ _ z=>False.elim z) λ _ _ z=>False.elim z) λ _ _ z=>False.elim z
     cases f with
     | next=>exact w3
     | cont=>exact w3
     | brk=>exact False.elim w3
     | ret v=>exact False.elim w3
   ·have a3:z.cps[q]? = none:=Array.getElem?_eq_none hge
    have eq:q = z.cps.size:=by omega
    obtain ⟨f0,f1,e0,f3,f4,f5⟩:=f2
    have a9:∀ h4,Heap.ExtBut h1.objs.size s3.heap h4→wpAny (model X.prog X.w) X.A (execs rest X.env) (SP X pins D) X.xe { s3 with heap:=h4 }:=λ h4 eb=>by
     have I4:=I3.turned (t':=s3.toks) (h':=h4) (λ b o hb e=>eb b o hb e) f0 f1 f3 f4 f5
     rw [eq] at I4
     exact hr pins _ _ H D I4 (hu v)
    rcases c9 with z | z
    ·subst z; exact wpAny_pyNext_ascii_end (I3.ok.hd hc) c3 a3 λ h4 eb=>wpAny_execs_nil (a9 h4 eb)
    ·subst z; exact wpAny_pyNext_wide_end (I3.ok.hd hc) c3 a3 λ h4 eb=>wpAny_execs_nil (a9 h4 eb)
  ·rw [Ae8 c0 g2]
   exact I2
 cases ha:z.cps.all (· < 128)
 ·exact wpAny_pyIter_wide ha (c8 _ (.inr rfl))
 ·exact wpAny_pyIter_ascii ha (c8 _ (.inl rfl))
end L2
namespace L2
open PySem PySem.Spec PyProof.Rows
open PySem.Builtin.Str PySem.StrLaws
def Er (cur:List Nat):List (List Nat):=if cur = [] then [] else [cur]
def wd:List Nat→List Nat→List (List Nat)
 | cur,[]=>Er cur
 | cur,c :: l=>if Unicode.isSpace c = true then Er cur ++ wd [] l else wd (cur ++ [c]) l
def Ej (L:List Nat) (p:Nat× Nat):List Nat:=(L.drop p.1).take (p.2 - p.1)
def Nw (L:List Nat) (st:Option Nat) (i:Nat):List Nat:=match st with
 | some b=>Ej L (b,i)
 | none=>[]
theorem We {a:List Nat} (h:a≠[]):Er a = [a]:=by unfold Er; rw [if_neg h]
theorem Ty (h:L[i]? = some c) (hb:b≤i):Ej L (b,i) ++ [c] = Ej L (b,i + 1):=by
 have e:i + 1 - b = (i - b) + 1:=by omega
 unfold Ej
 show List.take (i - b) (L.drop b) ++ [c] = List.take (i + 1 - b) (L.drop b)
 rw [e,uW,List.getElem?_drop,show b + (i - b) = i by omega,h]
 rfl
theorem Y4 (hb:b < i) (hi:i≤L.length):Ej L (b,i)≠[]:=by
 intro z
 have:=congrArg length z
 unfold Ej at this
 simp only [vD,length_drop,length_nil] at this
 omega
theorem Jv (x:Str) (a1:Nat) (hl:x.length < a1):∀ (m i:Nat) (w:Array (Nat× Nat)) (st:Option Nat),i + m = x.length→w.size≤i→(∀ b,st = some b→b < i) →
  (swEnd x (forIn (range' i m) ((none,w,st):SwSt) (swBody x a1)).run).map (Ej x.cps.toList) = w.toList.map (Ej x.cps.toList) ++ wd (Nw x.cps.toList st i) (x.cps.toList.drop i)
 | 0,i,w,st,hm,hw,hb=>by
  have hn:x.cps.toList.length = x.length:=by simp [Str.length]
  rw [drop_eq_nil_of_le (by omega)]
  show List.map _ (swEnd x (none,w,st)) = _
  have e:i = x.length:=by omega
  subst e
  cases st with
  | none=>simp [swEnd,Nw,wd,Er]
  | some b =>
   have:=Y4 (hb b rfl) (le_of_eq hn.symm)
   simp only [swEnd,Nw,wd,Array.toList_push,uP,vP,map_nil]
   rw [We this]
 | m + 1,i,w,st,hm,hw,hb=>by
  have hn:x.cps.toList.length = x.length:=by simp [Str.length]
  have hi:i < x.cps.toList.length:=by omega
  have hg:=uC hi
  have hd:x.cps.getD i 0 = x.cps.toList[i]:=by
   have h2:i < x.cps.size:=by simpa using hi
   rw [Array.getD_eq_getD_getElem?,Array.getElem?_eq_getElem h2]
   simp
  generalize hc:x.cps.toList[i] = c at hg hd
  have dr:x.cps.toList.drop i = c :: x.cps.toList.drop (i + 1):=by rw [drop_eq_getElem_cons hi,hc]
  rw [List.range'_succ,forIn_cons,dr]
  have hsz:¬ ((w.size == a1) = true):=by rw [beq_iff_eq]; omega
  unfold swBody
  simp only [hsz,if_false,hd]
  cases hs:Unicode.isSpace c with
  | true =>
   cases st with
   | none =>
    refine (Jv x a1 hl m (i + 1) w none (by omega) (by omega) (λ b z=>by cases z)).trans ?_
    simp only [Nw,wd,hs,if_true]
    simp [Er]
   | some b =>
    refine (Jv x a1 hl m (i + 1) (w.push (b,i)) none (by omega) (by rw [Array.size_push]; omega) (λ b z=>by cases z)).trans ?_
    have a2:=Y4 (hb b rfl) (le_of_lt hi)
    simp only [Nw,wd,hs,if_true,Array.toList_push,uP,vP,map_nil]
    rw [We a2,append_assoc]
  | false =>
   cases st with
   | none =>
    refine (Jv x a1 hl m (i + 1) w (some i) (by omega) (by omega) (λ b z=>by cases z; omega)).trans ?_
    simp only [Nw,wd,hs,Bool.false_eq_true,if_false]
    rw [← Ty hg (uY i)]
    simp [Ej]
   | some b =>
    refine (Jv x a1 hl m (i + 1) w (some b) (by omega) (by omega) (λ b' z=>by cases z; have:=hb b rfl; omega)).trans ?_
    simp only [Nw,wd,hs,Bool.false_eq_true,if_false]
    rw [Ty hg (le_of_lt (hb b rfl))]
theorem Q6 (x:Str) (p:Nat× Nat):(strSub x p.1 p.2).cps.toList = Ej x.cps.toList p:=by
 unfold strSub Ej
 rw [Array.toList_extract,List.extract_eq_take_drop]
theorem Ab1 (x:Str):(Txt.words x).map (λ y=>y.cps.toList) = wd [] x.cps.toList:=by
 have k:=Jv x (x.length + 1) (lt_succ_self _) x.length 0 #[] none (by omega) (by simp) (λ b z=>by cases z)
 rw [← sw_eq] at k
 have k2:(spaceWords x (x.length + 1)).map (Ej x.cps.toList) = wd [] x.cps.toList:=by
  rw [k]
  simp [Nw]
 unfold Txt.words
 split
 ·rename_i h
  rw [← k2,eq_of_beq h]
  simp [Ej,Str.length]
  exact (uT (by simp)).symm
 ·rw [← k2]
  unfold wordsOf
  rw [map_map]
  refine map_congr_left λ p _=>?_
  exact Q6 x p
def Cz (c:Nat):List Nat→List Nat
 | []=>[]
 | d :: l=>(if d = c then [0] else []) ++ (Cz c l).map (· + 1)
def Cb (c:Nat):List Nat→List Nat× List (List Nat)
 | []=>([],[])
 | d :: l=>if d = c then ([],(Cb c l).1 :: (Cb c l).2) else (d :: (Cb c l).1,(Cb c l).2)
def Lo (L cuts:List Nat):List (List Nat):=((0 :: cuts.map (· + 1)).zip (cuts ++ [L.length])).map (Ej L)
def Hi (c:Nat) (z L:List Nat):List Nat:=L.flatMap λ d=>if d = c then z else [d]
theorem Kh (x:Str) (c i:Nat) (hi:i < x.cps.toList.length):subAt x ⟨#[c]⟩ i = true↔x.cps.toList[i] = c:=by
 have h2:i < x.cps.size:=by simpa using hi
 unfold subAt
 rw [beq_iff_eq]
 show x.cps.extract i (i + 1) = #[c]↔_
 rw [← Array.toList_inj,Array.toList_extract,List.extract_eq_take_drop,Nat.add_sub_cancel_left,drop_eq_getElem_cons hi]
 simp
theorem Og (x:Str) (c a1:Nat) (hl:x.length < a1):∀ (m i:Nat) (w:Array Nat) (fr:Nat),i + m = x.length + 1→w.size≤i→fr≤i →
  (forIn (range' i m) (w,fr) (occBody x ⟨#[c]⟩ x.length a1)).run.fst.toList = w.toList ++ (Cz c (x.cps.toList.drop i)).map (· + i)
 | 0,i,w,fr,hm,hw,hf=>by
  have hn:x.cps.toList.length = x.length:=by simp [Str.length]
  rw [drop_eq_nil_of_le (by omega)]
  show w.toList = _
  simp [Cz]
 | m + 1,i,w,fr,hm,hw,hf=>by
  have hn:x.cps.toList.length = x.length:=by simp [Str.length]
  rw [List.range'_succ,forIn_cons]
  have sh:∀ l:List Nat,(l.map (· + 1)).map (· + i) = l.map (· + (i + 1)):=λ l=>by
   rw [map_map]
   refine map_congr_left λ q _=>?_
   show q + 1 + i = q + (i + 1)
   omega
  rcases lt_or_ge i x.length with a2 | hge
  ·have hi:i < x.cps.toList.length:=by omega
   rw [drop_eq_getElem_cons hi]
   unfold occBody
   by_cases hc:x.cps.toList[i] = c
   ·have c1:((w,fr).fst.size < a1∧(w,fr).snd≤i)∧i + Str.length ⟨#[c]⟩≤x.length:=⟨⟨by show w.size < a1; omega,hf⟩,by show i + 1≤x.length; omega⟩
    rw [if_pos ⟨c1,(Kh x c i hi).mpr hc⟩]
    refine (Og x c a1 hl m (i + 1) (w.push i) (i + 1) (by omega) (by rw [Array.size_push]; omega) (uY _)).trans ?_
    simp only [Cz,hc,if_true,Array.toList_push,uP,vP,map_nil,sh]
    rw [Nat.zero_add,append_assoc]
   ·have c2:¬ ((((w,fr).fst.size < a1∧(w,fr).snd≤i)∧i + Str.length ⟨#[c]⟩≤x.length)∧subAt x ⟨#[c]⟩ i = true):=λ h=>hc ((Kh x c i hi).mp h.2)
    rw [if_neg c2]
    refine (Og x c a1 hl m (i + 1) w fr (by omega) (by omega) (by omega)).trans ?_
    simp only [Cz,hc,if_false,uP,map_nil,nil_append,sh]
  ·have c2:¬ ((((w,fr).fst.size < a1∧(w,fr).snd≤i)∧i + Str.length ⟨#[c]⟩≤x.length)∧subAt x ⟨#[c]⟩ i = true):=λ h=>by
    have h1:i + 1≤x.length:=h.1.2
    omega
   unfold occBody
   rw [if_neg c2]
   refine (Og x c a1 hl m (i + 1) w fr (by omega) (by omega) (by omega)).trans ?_
   rw [drop_eq_nil_of_le (by omega),drop_eq_nil_of_le (by omega)]
   simp [Cz]
theorem AgZ (x:Str) (c:Nat):occurrences x ⟨#[c]⟩ 0 x.length (x.length + 1) = Cz c x.cps.toList:=by
 rw [occ_eq]
 refine (Og x c (x.length + 1) (lt_succ_self _) (x.length + 1 - 0) 0 #[] 0 (by omega) (by simp) (uY 0)).trans ?_
 simp
theorem Sm (d:Nat) (l:List Nat) (p:Nat× Nat):Ej (d :: l) (p.1 + 1,p.2 + 1) = Ej l p:=by
 unfold Ej
 show List.take (p.2 + 1 - (p.1 + 1)) (drop (p.1 + 1) (d :: l)) = _
 rw [List.drop_succ_cons,Nat.add_sub_add_right]
theorem Nl (c:Nat):∀ L:List Nat,Lo L (Cz c L) = (Cb c L).1 :: (Cb c L).2
 | []=>rfl
 | d :: l=>by
  have ih:=Nl c l
  unfold Lo at ih
  by_cases hc:d = c
  ·have e1:Cz c (d :: l) = 0 :: (Cz c l).map (· + 1):=by simp [Cz,hc]
   have e2:Cb c (d :: l) = ([],(Cb c l).1 :: (Cb c l).2):=by simp [Cb,hc]
   rw [e1,e2,← ih]
   unfold Lo
   have ez:((0:Nat) :: List.map (· + 1) (0 :: (Cz c l).map (· + 1))).zip (0 :: (Cz c l).map (· + 1) ++ [(d :: l).length]) = (0,0) :: ((0 :: (Cz c l).map (· + 1)).zip (Cz c l ++ [l.length])).map (λ p=>(p.1 + 1,p.2 + 1)):=by
    rw [vP,cons_append,zip_cons_cons]
    have:(Cz c l).map (· + 1) ++ [(d :: l).length] = (Cz c l ++ [l.length]).map (· + 1):=by simp
    rw [this,← vP (f:=(· + 1)) (a:=0),zip_map]
    rfl
   rw [ez,vP,map_map]
   congr 1
   refine map_congr_left λ p _=>?_
   exact Sm d l p
  ·have e1:Cz c (d :: l) = (Cz c l).map (· + 1):=by simp [Cz,hc]
   have e2:Cb c (d :: l) = (d :: (Cb c l).1,(Cb c l).2):=by simp [Cb,hc]
   rw [e1,e2]
   unfold Lo
   have es:(Cz c l).map (· + 1) ++ [(d :: l).length] = (Cz c l ++ [l.length]).map (· + 1):=by simp
   rw [es]
   generalize hS:Cz c l ++ [l.length] = S at ih
   cases S with
   | nil=>simp at hS
   | cons s0 S =>
    rw [zip_cons_cons,vP] at ih
    rw [vP,zip_cons_cons,vP,zip_map,map_map]
    injection ih with i1 i2
    have h1:Ej (d :: l) (0,s0 + 1) = d :: (Cb c l).1:=by
     rw [← i1]
     rfl
    show Ej (d :: l) (0,s0 + 1) :: _ = (d :: (Cb c l).1) :: (Cb c l).2
    rw [h1,← i2]
    congr 1
    refine map_congr_left λ p _=>?_
    exact Sm d l p
theorem R0 (c:Nat) (z:List Nat):∀ L:List Nat,(Cb c L).1 ++ (Cb c L).2.flatMap (λ q=>z ++ q) = Hi c z L
 | []=>rfl
 | d :: l=>by
  have ih:=R0 c z l
  by_cases hc:d = c
  ·have e2:Cb c (d :: l) = ([],(Cb c l).1 :: (Cb c l).2):=by simp [Cb,hc]
   rw [e2]
   show (z ++ (Cb c l).1) ++ flatMap (λ q=>z ++ q) (Cb c l).2 = Hi c z (d :: l)
   rw [append_assoc,ih]
   simp [Hi,hc]
  ·have e2:Cb c (d :: l) = (d :: (Cb c l).1,(Cb c l).2):=by simp [Cb,hc]
   rw [e2]
   show d :: ((Cb c l).1 ++ flatMap (λ q=>z ++ q) (Cb c l).2) = Hi c z (d :: l)
   rw [ih]
   simp [Hi,hc]
theorem S9 (z:Str):∀ (r:List Str) (a:Array Nat),(r.foldl (λ a1 p=>a1 ++ z.cps ++ p.cps) a).toList = a.toList ++ (r.map λ y=>y.cps.toList).flatMap (λ q=>z.cps.toList ++ q)
 | [],a=>by simp
 | p :: r,a=>by
  rw [foldl_cons,S9 z r]
  simp [append_assoc]
theorem Qo (x z:Str) (c:Nat):(Txt.replace x ⟨#[c]⟩ z).cps.toList = Hi c z.cps.toList x.cps.toList:=by
 have hn:x.cps.toList.length = x.length:=by simp [Str.length]
 have hp:(partsBetween x (Cz c x.cps.toList) (Str.length ⟨#[c]⟩)).map (λ y=>y.cps.toList) = (Cb c x.cps.toList).1 :: (Cb c x.cps.toList).2:=by
  rw [← Nl]
  unfold partsBetween Lo
  rw [map_map,hn]
  refine map_congr_left λ p _=>?_
  exact Q6 x p
 have hg:(glued z (partsBetween x (Cz c x.cps.toList) (Str.length ⟨#[c]⟩))).cps.toList = Hi c z.cps.toList x.cps.toList:=by
  rw [← R0]
  generalize partsBetween x (Cz c x.cps.toList) (Str.length ⟨#[c]⟩) = ps at hp
  cases ps with
  | nil=>simp at hp
  | cons p r =>
   rw [vP] at hp
   injection hp with h1 h2
   unfold glued
   show (foldl (λ a1 p=>a1 ++ z.cps ++ p.cps) p.cps r).toList = _
   rw [S9,h1,h2]
 unfold Txt.replace
 rw [AgZ]
 split
 ·rename_i h
  have h':Cz c x.cps.toList = []:=by
   rcases Bool.or_eq_true_iff.mp h with h | h
   ·exact List.isEmpty_iff.mp h
   ·have:(Str.length ⟨#[c]⟩ == 0) = true:=(Bool.and_eq_true_iff.mp h).1
    exact absurd this (by show ¬ ((1:Nat) == 0) = true; decide)
  rw [← R0]
  have k:=Nl c x.cps.toList
  rw [h'] at k
  unfold Lo at k
  simp only [map_nil,nil_append,zip_cons_cons,List.zip_nil_left,vP] at k
  injection k with k1 k2
  rw [← k1,← k2]
  simp [Ej]
  exact (uT (by simp)).symm
 ·exact hg
def isM (c:Nat):Bool:=c == 123 || c == 125 || c == 59 || c == 124
def tok:List Nat→List Nat→List (List Nat)
 | cur,[]=>Er cur
 | cur,c :: l=>if Unicode.isSpace c = true then Er cur ++ tok [] l else if isM c = true then Er cur ++ [c] :: tok [] l else tok (cur ++ [c]) l
def Lj (L:List Nat):List Nat:=L.flatMap λ d=>if isM d = true then [32,d,32] else [d]
theorem Aip:Unicode.isSpace 32 = true:=by decide +kernel
theorem spM (h:isM c = true):Unicode.isSpace c = false:=by
 unfold isM at h
 simp only [Bool.or_eq_true,beq_iff_eq] at h
 rcases h with ((h | h) | h) | h <;> (subst h; decide +kernel)
theorem U7:∀ (L a1:List Nat),wd a1 (Lj L) = tok a1 L
 | [],a1=>rfl
 | c :: l,a1=>by
  have ih:=U7 l
  have e:Lj (c :: l) = (if isM c = true then [32,c,32] else [c]) ++ Lj l:=by simp [Lj]
  rw [e]
  by_cases hm:isM c = true
  ·have hs:=spM hm
   have hf:Er ([]:List Nat) = []:=rfl
   have a3:Er [c] = [[c]]:=rfl
   simp only [hm,if_true,cons_append,nil_append,wd,tok,Aip,hs,Bool.false_eq_true,if_false,a3,ih]
  ·have a2:isM c = false:=by simpa using hm
   simp only [a2,Bool.false_eq_true,if_false,cons_append,nil_append,wd,tok,ih]
theorem Aab (x:Str):(puts " " " " "{};|" 4 x).cps.toList = Lj x.cps.toList:=by
 have hz:(("{};|" : Str)).cps.toList.take 4 = [123,125,59,124]:=by decide +kernel
 have hp:∀ c:Nat,(Str.empty ++ (" " : Str) ++ (⟨#[c]⟩:Str) ++ (" " : Str)).cps.toList = [32,c,32]:=λ c=>by
  show ((Str.empty ++ (" " : Str)).cps ++ #[c] ++ ((" " : Str)).cps).toList = [32,c,32]
  have h1:(Str.empty ++ (" " : Str)).cps = #[32]:=by decide +kernel
  have h2:((" " : Str)).cps = #[32]:=by decide +kernel
  rw [h1,h2]
  simp
 unfold puts
 rw [hz]
 simp only [foldl_cons,List.foldl_nil]
 unfold put1
 simp only [Qo,hp]
 unfold Hi Lj
 simp only [List.flatMap_assoc]
 congr 1
 funext d
 unfold isM
 by_cases h1:d = 123
 ·subst h1; decide +kernel
 by_cases h2:d = 125
 ·subst h2; decide +kernel
 by_cases h3:d = 59
 ·subst h3; decide +kernel
 by_cases h4:d = 124
 ·subst h4; decide +kernel
 simp [h1,h2,h3,h4]
theorem O6 (x:Str):(Txt.words (puts " " " " "{};|" 4 x)).map (λ y=>y.cps.toList) = tok [] x.cps.toList:=by
 rw [Ab1,Aab,U7]
theorem Aep {g:TG} {tb:TS} {D:Fi} (Pv:Nat→St→Hp→Prop) (h0:Pv 0 σ H)
  (hs:∀ i c σ H,x.cps[i]? = some c→Pv i σ H→g (.str ⟨#[c]⟩) σ H λ a1 H2=>tb { D with nx:=Pv (i + 1),ct:=Pv (i + 1),bk:=D.nx } a1 H2) (hd:∀ σ H,Pv x.cps.size σ H→D.nx σ H) :
  ∃ W:Nat→Nat→St→Hp→Prop,(∃ m,W 0 m σ H)∧∀ i m σ H,W i m σ H →
   ((Its x).stop i H∧D.nx σ H)∨((Its x).go i H∧∃ N:St→Hp→Prop,(∀ a2 H',N a2 H'→∃ m',m' < m∧W (i + 1) m' a2 H')∧∀ y H',(Its x).yld i H y H'→g y σ H' λ a1 H2=>tb { D with nx:=N,ct:=N,bk:=D.nx } a1 H2):=by
 refine ⟨λ i m σ H=>m = x.cps.size - i∧i≤x.cps.size∧Pv i σ H,⟨x.cps.size,by simp,vV _,h0⟩,?_⟩
 rintro i m σ H ⟨rfl,hi,p⟩
 by_cases a3:i < x.cps.size
 ·refine .inr ⟨a3,Pv (i + 1),λ a2 H' p'=>⟨x.cps.size - (i + 1),by omega,rfl,a3,p'⟩,λ y H' z=>?_⟩
  obtain ⟨e,c,hc,ey⟩:=z
  subst e ey
  exact hs i c σ H' hc p
 ·have e:i = x.cps.size:=by omega
  subst e
  exact .inl ⟨uY _,hd σ H p⟩
def inS (j:Str) (c:Nat):Bool:=!(occurrences j ⟨#[c]⟩ 0 j.length 1).isEmpty
theorem V0 (j:Str) (c:Nat):inS j c = j.cps.toList.contains c:=by
 have hn:j.cps.toList.length = j.length:=by simp [Str.length]
 have k:=occ_none j ⟨#[c]⟩ j.length (range' 0 (j.length + 1 - 0)) 0 (λ i _=>vV _)
 have e:(occurrences j ⟨#[c]⟩ 0 j.length 1).isEmpty = true↔¬ c∈j.cps.toList:=by
  rw [occ_eq,List.isEmpty_iff]
  have z:((forIn (range' 0 (j.length + 1 - 0)) ((#[]:Array Nat),0) (occBody j ⟨#[c]⟩ j.length 1)).run.fst.toList = [])↔(forIn (range' 0 (j.length + 1 - 0)) ((#[]:Array Nat),0) (occBody j ⟨#[c]⟩ j.length 1)).run.fst = #[]:=by
   constructor
   ·intro h; exact Array.toList_inj.mp h
   ·intro h; rw [h]
  refine z.trans (k.trans ?_)
  constructor
  ·intro h hc
   obtain ⟨i,hi,ei⟩:=mem_iff_getElem.mp hc
   refine h i ?_ ⟨?_,(Kh j c i hi).mpr ei⟩
   ·rw [List.mem_range'_1]; omega
   ·show i + 1≤j.length; omega
  ·intro h i _ ⟨h1,h2⟩
   have hi:i < j.cps.toList.length:=by
    have a1:i + 1≤j.length:=h1
    omega
   have ei:=(Kh j c i hi).mp h2
   exact h (ei ▸ vH hi)
 unfold inS
 cases h1:(occurrences j ⟨#[c]⟩ 0 j.length 1).isEmpty with
 | true =>
  have:=e.mp h1
  simp [this]
 | false =>
  have:c∈j.cps.toList:=by
   by_cases h2:c∈j.cps.toList
   ·exact h2
   ·have:=e.mpr h2
    rw [h1] at this
    cases this
  simp [this]
theorem AfN (x:Str) (c:Nat):(put1 " " " " x c).length≤3 * x.length:=by
 have hz:(Str.empty ++ (" " : Str) ++ (⟨#[c]⟩:Str) ++ (" " : Str)).cps.toList.length = 3:=by
  have h1:(Str.empty ++ (" " : Str)).cps = #[32]:=by decide +kernel
  have h2:((" " : Str)).cps = #[32]:=by decide +kernel
  show ((Str.empty ++ (" " : Str)).cps ++ #[c] ++ ((" " : Str)).cps).toList.length = 3
  rw [h1,h2]
  simp
 have k:=congrArg length (Qo x (Str.empty ++ (" " : Str) ++ (⟨#[c]⟩:Str) ++ (" " : Str)) c)
 have m:∀ (z L:List Nat),z.length = 3→(Hi c z L).length≤3 * L.length:=by
  intro z L hz
  induction L with
  | nil=>simp [Hi]
  | cons d l ih =>
   have e:Hi c z (d :: l) = (if d = c then z else [d]) ++ Hi c z l:=by simp [Hi]
   rw [e,uF,uU]
   split
   ·omega
   ·rw [uG]; omega
 have m':=m _ x.cps.toList hz
 unfold put1
 show (Txt.replace x _ _).cps.size≤3 * x.cps.size
 rw [← Array.length_toList,← Array.length_toList,k]
 exact m'
theorem Vj (x:Str) (z:Str):∀ n,(puts " " " " z n x).length≤3 ^ n * x.length:=by
 unfold puts
 have m:∀ (l:List Nat) (n:Nat) (x:Str),l.length≤n→(l.foldl (put1 " " " ") x).length≤3 ^ n * x.length:=by
  intro l
  induction l with
  | nil =>
   intro n x _
   exact Nat.le_mul_of_pos_left _ (Nat.pow_pos (by decide))
  | cons c l ih =>
   intro n x hn
   cases n with
   | zero=>simp at hn
   | succ n =>
    rw [foldl_cons]
    refine uX (ih n _ (by simpa using hn)) ?_
    have:=AfN x c
    rw [Nat.pow_succ,Nat.mul_assoc]
    exact Nat.mul_le_mul_left _ this
 intro n
 exact m _ n x (List.length_take_le _ _)
theorem AdD (c:Nat):((⟨#[c]⟩:Str) == Str.empty ++ (" " : Str) ++ (⟨#[c]⟩:Str) ++ (" " : Str)) = false:=by
 cases h:((⟨#[c]⟩:Str) == Str.empty ++ (" " : Str) ++ (⟨#[c]⟩:Str) ++ (" " : Str)) with
 | false=>rfl
 | true =>
  have e:=congrArg (λ y:Str=>y.cps.toList.length) (eq_of_beq h)
  have h1:(Str.empty ++ (" " : Str)).cps = #[32]:=by decide +kernel
  have h2:((" " : Str)).cps = #[32]:=by decide +kernel
  have e2:(1:Nat) = ((Str.empty ++ (" " : Str)).cps ++ #[c] ++ ((" " : Str)).cps).toList.length:=e
  rw [h1,h2] at e2
  simp at e2
theorem Ad0 (c:Nat):(Str.empty ++ (" " : Str) ++ (⟨#[c]⟩:Str) ++ (" " : Str)).length≤14:=by
 have h1:(Str.empty ++ (" " : Str)).cps = #[32]:=by decide +kernel
 have h2:((" " : Str)).cps = #[32]:=by decide +kernel
 show ((Str.empty ++ (" " : Str)).cps ++ #[c] ++ ((" " : Str)).cps).size≤14
 rw [h1,h2]
 simp
end L2
namespace L2
open PySem PySem.Spec PyProof.Rows
def Cy (P:Program) (w:World) (K:FA) (mg:Str→Option Value) (base:Heap) (k:Nat) (C:Addr) (m:Str) (ps:List Str) (sp:Sp):Prop :=
 ∃ f fd,Bi P w K mg base (CX1 P w) k f fd ps sp∧Br K fd ps []∧Uy K C m f∧Cls K C
theorem Fun.okX {qual:Str} {st:Stmt} {N:List Str} {k:Nat} (F:Fun K x qual st f fd) (S:Ar N ps (Aj st)) (len:∀ vs H Q E,sp vs H Q E→vs.length = ps.length)
  (a1:∀ (cdv:Value) (A:Around) (outer:List Env) (s:Shared) (H:Hp) (vs:List V) (Q:VK) (E:XK),Bp k (A.deeper (envOfC qual (Aj st) s.heap.objs.size f cdv))→sp vs H Q E →
   ∃ t,PSs (cxX P w K mg base N qual (Aj st) f cdv A outer s H E) (Bx st) t∧t { nx:=λ _ H'=>Q .non H',rt:=Q } (Eu N vs) H):Bi P w K mg base (CX1 P w) (k + 1) f fd ps sp:=by
 obtain ⟨oc,od,kV,doc,pm,an,cdv,ct,osl,rfl,lk,a3⟩:=F.ex
 exact Aax lk a3 S len λ A outer s H vs Q E hr a2=>a1 cdv A outer s H vs Q E hr a2
section
variable {N:List Str} {qual:Str} {scope:Scope} {cd:Value} {outer:List Env} {s₀:Shared} {H₀:Hp} {E:XK}
theorem Io (M:Cy P w K mg base j C m ps sp) (hr:Bp k (cxX P w K mg base N qual scope f cd A outer s₀ H₀ E).A) (he:PE (cxX P w K mg base N qual scope f cd A outer s₀ H₀ E) o ta) (hj:j≤k:=by first | decide | omega)
  (ht:eval (.Call (.Attribute o m apos) [] [] pos) (cxX P w K mg base N qual scope f cd A outer s₀ H₀ E).env = (do
   let ov ← eval o (cxX P w K mg base N qual scope f cd A outer s₀ H₀ E).env
   standAt apos.atName
   let (f',first) ← holding [ov] (getMethod ov m pl)
   callWith pos f' first (backTo pos (starEach [] (cxX P w K mg base N qual scope f cd A outer s₀ H₀ E).env)) (backToKw pos (keywordEach [] (cxX P w K mg base N qual scope f cd A outer s₀ H₀ E).env))):=by rfl):PE (cxX P w K mg base N qual scope f cd A outer s₀ H₀ E) (.Call (.Attribute o m apos) [] [] pos) (Mb C m sp [] E ta Dq):=by
 obtain ⟨f,fd,F,b,me,c⟩:=M
 exact V8 he c me (F.mono hj) hr b .nil Aap ht
theorem Dh {t:TA} (M:Cy P w K mg base j C m ps sp) (hr:Bp k (cxX P w K mg base N qual scope f cd A outer s₀ H₀ E).A) (he:PE (cxX P w K mg base N qual scope f cd A outer s₀ H₀ E) o ta) (ha:PA (cxX P w K mg base N qual scope f cd A outer s₀ H₀ E) (e :: es) t) (hj:j≤k:=by first | decide | omega)
  (a2:starEach (e :: es) (cxX P w K mg base N qual scope f cd A outer s₀ H₀ E).env = (false,eval e (cxX P w K mg base N qual scope f cd A outer s₀ H₀ E).env) :: starEach es (cxX P w K mg base N qual scope f cd A outer s₀ H₀ E).env:=by rfl) (a1:(backTo pos (starEach es (cxX P w K mg base N qual scope f cd A outer s₀ H₀ E).env)).any (·.1) = false:=by rfl)
  (ht:eval (.Call (.Attribute o m apos) (e :: es) [] pos) (cxX P w K mg base N qual scope f cd A outer s₀ H₀ E).env = (do
   let ov ← eval o (cxX P w K mg base N qual scope f cd A outer s₀ H₀ E).env
   standAt apos.atName
   let (f',first) ← holding [ov] (getMethod ov m pl)
   callWith pos f' first (backTo pos (starEach (e :: es) (cxX P w K mg base N qual scope f cd A outer s₀ H₀ E).env)) (backToKw pos (keywordEach [] (cxX P w K mg base N qual scope f cd A outer s₀ H₀ E).env))):=by rfl):PE (cxX P w K mg base N qual scope f cd A outer s₀ H₀ E) (.Call (.Attribute o m apos) (e :: es) [] pos) (Mb C m sp [] E ta t):=by
 obtain ⟨f,fd,F,b,me,c⟩:=M
 exact D5 he c me (F.mono hj) hr b .nil Aap ha a2 a1 ht
end
end L2
namespace My
open PySem L2
def top (i:Nat):Stmt:=PySem.Challenge.pw_signalwise_k72_desk_refused.main.body.getD i (.Pass ⟨0,0,0,0⟩)
abbrev Ez:Stmt:=top 28
theorem Ed:Ar ["part", "there", "word", "first", "inner"] ["part", "there"] (Aj Ez):=Az (by decide +kernel)
abbrev En:Stmt:=top 30
theorem F7:Ar ["part", "sent"] ["part"] (Aj En):=Az (by decide +kernel)
abbrev Ft:Stmt:=top 33
theorem M5:Ar ["first", "second"] ["first", "second"] (Aj Ft):=Az (by decide +kernel)
abbrev D4:Stmt:=top 35
theorem Dp:Ar ["first", "second", "code", "left"] ["first", "second"] (Aj D4):=Az (by decide +kernel)
abbrev De:Stmt:=top 40
theorem Du:Ar ["part", "sure", "known", "word", "first", "inner"] ["part", "sure", "known"] (Aj De):=Az (by decide +kernel)
abbrev Ex:Stmt:=top 42
theorem Em:Ar ["part", "sure", "can", "must"] ["part", "sure"] (Aj Ex):=Az (by decide +kernel)
abbrev Eg:Stmt:=top 44
theorem Ff:Ar ["first", "second", "going_past", "codes"] ["first", "second"] (Aj Eg):=Az (by decide +kernel)
abbrev C9:Stmt:=top 46
theorem Dz:Ar ["first", "second", "least", "codes"] ["first", "second"] (Aj C9):=Az (by decide +kernel)
abbrev Ik:Stmt:=top 13
theorem Va:Ar ["part"] ["part"] (Aj Ik):=Az (by decide +kernel)
abbrev Fe:Stmt:=top 14
theorem Pd:Ar ["code"] ["code"] (Aj Fe):=Az (by decide +kernel)
abbrev F0:Stmt:=top 15
theorem Qv:Ar ["code"] ["code"] (Aj F0):=Az (by decide +kernel)
abbrev Hd:Stmt:=top 20
theorem Px:Ar ["part", "state"] ["part", "state"] (Aj Hd):=Az (by decide +kernel)
abbrev He:Stmt:=top 21
theorem Jw:Ar ["program", "state", "found"] ["program", "state"] (Aj He):=Az (by decide +kernel)
abbrev Il:Stmt:=top 22
theorem Gw:Ar ["part", "state", "first", "second", "inner"] ["part", "state"] (Aj Il):=Az (by decide +kernel)
abbrev Hz:Stmt:=top 23
theorem Qj:Ar ["part", "first", "second"] ["part", "first", "second"] (Aj Hz):=Az (by decide +kernel)
abbrev Hb:Stmt:=top 24
theorem Jt:Ar ["part", "inner", "skipped"] ["part", "inner"] (Aj Hb):=Az (by decide +kernel)
abbrev AbH:Stmt:=top 26
theorem Acd:Ar ["part", "state", "there", "ending"] ["part", "state", "there"] (Aj AbH):=Az (by decide +kernel)
abbrev Ob:Stmt:=top 27
theorem Qp:Ar ["program", "state", "there", "body"] ["program", "state", "there"] (Aj Ob):=Az (by decide +kernel)
abbrev Kc:Stmt:=top 32
theorem Uq:Ar ["part"] ["part"] (Aj Kc):=Az (by decide +kernel)
abbrev Mw:Stmt:=top 37
theorem O4:Ar ["rest", "inner", "left"] ["rest", "inner"] (Aj Mw):=Az (by decide +kernel)
abbrev P5:Stmt:=top 39
theorem T6:Ar ["part", "state", "sure", "known", "ending"] ["part", "state", "sure", "known"] (Aj P5):=Az (by decide +kernel)
abbrev P9:Stmt:=top 48
theorem AbJ:Ar ["first", "second"] ["first", "second"] (Aj P9):=Az (by decide +kernel)
abbrev N9:Stmt:=top 49
theorem Aad:Ar ["inner", "codes"] ["inner", "codes"] (Aj N9):=Az (by decide +kernel)
abbrev P7:Stmt:=top 51
theorem Fo:Ar ["program", "state", "coming", "body", "known", "told", "changes"] ["program", "state", "coming"] (Aj P7):=Az (by decide +kernel)
abbrev N8:Stmt:=top 52
theorem Jh:Ar ["program", "state", "coming", "known", "changes"] ["program", "state", "coming"] (Aj N8):=Az (by decide +kernel)
abbrev Dx:Stmt:=top 53
theorem O2:Ar ["value", "known"] ["value", "known"] (Aj Dx):=Az (by decide +kernel)
abbrev Ey:Stmt:=top 54
theorem O3:Ar ["program", "coming"] ["program", "coming"] (Aj Ey):=Az (by decide +kernel)
abbrev Hy:Stmt:=top 55
theorem Gq:Ar ["known", "changes", "behind", "change"] ["known", "changes"] (Aj Hy):=Az (by decide +kernel)
abbrev Hc:Stmt:=top 56
theorem Df:Ar ["body", "known", "must", "can", "walk", "waiting"] ["body", "known"] (Aj Hc):=Az (by decide +kernel)
abbrev Oa:Stmt:=top 59
theorem Ms:Ar ["came", "found", "sign"] ["came"] (Aj Oa):=Az (by decide +kernel)
abbrev Qa:Stmt:=top 60
theorem D8:Ar ["program", "states", "ways", "place", "coming", "way", "known", "behind"] ["program"] (Aj Qa):=Az (by decide +kernel)
abbrev K8:Stmt:=top 61
theorem Xh:Ar ["states", "state"] ["states", "state"] (Aj K8):=Az (by decide +kernel)
abbrev Sk:Stmt:=top 65
theorem Fg:Ar ["named", "ins", "outs", "numbers", "signs", "number", "name", "body"] ["named"] (Aj Sk):=Az (by decide +kernel)
abbrev G8:Stmt:=top 66
theorem E5:Ar ["part", "signs", "traps", "numbers", "word", "left", "chosen", "repeated", "inner_signs"] ["part", "signs", "traps", "numbers"] (Aj G8):=Az (by decide +kernel)
abbrev Kd:Stmt:=top 69
theorem Mx:Ar ["part", "signs", "traps", "numbers", "word"] ["part", "signs", "traps", "numbers"] (Aj Kd):=Az (by decide +kernel)
abbrev Gb:Stmt:=top 71
theorem Sf:Ar ["part"] ["part"] (Aj Gb):=Az (by decide +kernel)
abbrev Kf:Stmt:=top 72
theorem Ga:Ar ["part", "found", "waiting", "here"] ["part"] (Aj Kf):=Az (by decide +kernel)
abbrev Kb:Stmt:=top 75
theorem Ul:Ar ["names"] ["names"] (Aj Kb):=Az (by decide +kernel)
abbrev Gc:Stmt:=top 76
theorem Fu:Ar ["part", "signs", "traps", "inner_signs", "inner_traps", "inner"] ["part", "signs", "traps"] (Aj Gc):=Az (by decide +kernel)
abbrev Jd:Stmt:=top 77
theorem R7:Ar ["name", "names"] ["name", "names"] (Aj Jd):=Az (by decide +kernel)
abbrev Sj:Stmt:=top 79
theorem AeA:Ar ["block"] ["block"] (Aj Sj):=Az (by decide +kernel)
abbrev Mt:Stmt:=top 86
theorem K1:Ar ["text", "sign", "spaced", "mark"] ["text"] (Aj Mt):=Az (by decide +kernel)
abbrev N7:Stmt:=top 87
theorem AaN:Ar ["word"] ["word"] (Aj N7):=Az (by decide +kernel)
abbrev Le:Stmt:=top 88
theorem Ds:Ar ["words", "most", "now", "word"] ["words"] (Aj Le):=Az (by decide +kernel)
abbrev X0:Stmt:=top 97
theorem Y5:Ar ["text", "named"] ["text"] (Aj X0):=Az (by decide +kernel)
abbrev Hv:Stmt:=top 98
theorem Co:Ar ["text", "found", "words", "ins", "outs", "block"] ["text"] (Aj Hv):=Az (by decide +kernel)
abbrev Ha:Stmt:=top 99
theorem Jb:Ar ["words", "block"] ["words"] (Aj Ha):=Az (by decide +kernel)
abbrev Jn:Stmt:=top 100
theorem K3:Ar ["words", "row"] ["words"] (Aj Jn):=Az (by decide +kernel)
abbrev Ge:Stmt:=top 101
theorem Lk:Ar ["words", "block"] ["words"] (Aj Ge):=Az (by decide +kernel)
abbrev Ij:Stmt:=top 102
theorem Jx:Ar ["words", "word", "name"] ["words"] (Aj Ij):=Az (by decide +kernel)
abbrev Kw:Stmt:=top 103
theorem L6:Ar ["words", "name", "chosen"] ["words"] (Aj Kw):=Az (by decide +kernel)
abbrev Je:Stmt:=top 107
theorem Sb:Ar ["known"] ["known"] (Aj Je):=Az (by decide +kernel)
abbrev P6:Stmt:=top 112
theorem Abo:Ar ["row"] ["row"] (Aj P6):=Az (by decide +kernel)
abbrev Kv:Stmt:=top 113
theorem Aau:Ar ["words"] ["words"] (Aj Kv):=Az (by decide +kernel)
abbrev G9:Stmt:=top 114
theorem Up:Ar ["word"] ["word"] (Aj G9):=Az (by decide +kernel)
abbrev Kg:Stmt:=top 116
theorem Uj:Ar ["_law_cell"] ["_law_cell"] (Aj Kg):=Az (by decide +kernel)
abbrev Hu:Stmt:=top 117
theorem Rc:Ar ["_law_script", "_law_k"] ["_law_script", "_law_k"] (Aj Hu):=Az (by decide +kernel)
abbrev Hw:Stmt:=top 118
theorem G0:Ar ["_law_error", "_law_found"] ["_law_error"] (Aj Hw):=Az (by decide +kernel)
abbrev F1:Stmt:=top 119
theorem Fd:Ar ["_law_desk", "_law_row", "_law_kind", "_law_found", "e"] ["_law_desk", "_law_row", "_law_kind"] (Aj F1):=Az (by decide +kernel)
abbrev Mu:Stmt:=top 120
theorem Ii:Ar ["_law_number", "_law_some"] ["_law_number"] (Aj Mu):=Az (by decide +kernel)
abbrev Lc:Stmt:=top 121
theorem Nc:Ar ["_law_number", "_law_some"] ["_law_number"] (Aj Lc):=Az (by decide +kernel)
abbrev Ke:Stmt:=top 122
theorem M0:Ar ["_law_number", "_law_kind", "_law_some"] ["_law_number", "_law_kind"] (Aj Ke):=Az (by decide +kernel)
abbrev K9:Stmt:=top 123
theorem Fq:Ar ["_law_desk", "_law_number", "_law_kind", "_law_words", "_law_which"] ["_law_desk", "_law_number"] (Aj K9):=Az (by decide +kernel)
abbrev Lb:Stmt:=top 124
theorem N5:Ar ["_law_desk", "_law_number", "_law_row"] ["_law_desk", "_law_number"] (Aj Lb):=Az (by decide +kernel)
abbrev La:Stmt:=top 125
theorem Xx:Ar [] [] (Aj La):=Az (by decide +kernel)
abbrev Mv:Stmt:=top 126
theorem F9:Ar ["_law_script", "_law_text_here", "_law_desk", "_law_beside", "_law_bare_here", "_law_one", "_law_k", "_law_cell", "_law_number", "_law_row"] ["_law_script"] (Aj Mv):=Az (by decide +kernel)
abbrev Ui:Stmt:=top 64
abbrev Ht:Stmt:=top 89
abbrev P8:Stmt:=top 105
abbrev X2:Stmt:=top 106
abbrev Iw:Stmt:=top 111
structure Txt (mg:Str→Option Value):Prop where
 n_ValueError:mg "ValueError" = none
 n_all:mg "all" = none
 n_dict:mg "dict" = none
 n_enumerate:mg "enumerate" = none
 n_isinstance:mg "isinstance" = none
 n_len:mg "len" = none
 n_list:mg "list" = none
 n_max:mg "max" = none
 n_min:mg "min" = none
 n_range:mg "range" = none
 n_set:mg "set" = none
 n_sorted:mg "sorted" = none
 n_str:mg "str" = none
 n_tuple:mg "tuple" = none
end My
namespace Rd
open PySem L2 My
open PySem.Builtin.Str PySem.StrLaws
theorem B0 {b:Bool} {A B:Prop} (h1:b = true→A) (h2:b = false→B):(if b = true then A else B):=by
 cases b with
 | true=>rw [if_pos rfl]; exact h1 rfl
 | false=>rw [if_neg (by decide)]; exact h2 rfl
structure Cst (K:FA) (mg:Str→Option Value) (cNoText:Addr):Prop where
 letters:∃ t,mg "LETTERS" = some (.str "abcdefghijklmnopqrstuvwxyz" t)
 marks:∃ t,mg "MARKS" = some (.str "{};|" t)
 blanks:∃ t,mg "BLANKS" = some (.str " \n" t)
 longest:∃ t,mg "LONGEST_NAME" = some (.int 8 t)
 noText:mg "NoText" = some (.ref cNoText)
 excNT:Ja K cNoText
def okC (c:Nat):Bool:=inS "abcdefghijklmnopqrstuvwxyz" c || inS "{};|" c || inS " \n" c
def wordsT (x:Str):List Str:=Txt.words (puts " " " " "{};|" 4 x)
def Td (C:Addr):Sp:=λ vs H Q E=>∃ x:Str,vs = [.str x]∧x.length≤3000 ∧
 ((x.cps.toList.all okC = true∧∀ p,H p = none→Q (.ref p) (upd H p (.lst ((wordsT x).map V.str))))∨(x.cps.toList.all okC = false∧E (.ref C) none H))
section
variable {cNT:Addr}
theorem Ahm (F:Bd K mg "words_of" ["text"] Mt) (cs:Cst K mg cNT):Bc P w K mg base 1 "words_of" ["text"] (Td cNT):=by
 refine F.okX K1 (λ vs H Q E h=>?_) (λ f cdv A outer s H vs Q E hr h=>?_)
 ·obtain ⟨x,rfl,_⟩:=h
  rfl
 obtain ⟨x,rfl,hl,h⟩:=h
 obtain ⟨t1,m1⟩:=cs.letters
 obtain ⟨t2,m2⟩:=cs.marks
 obtain ⟨t3,m3⟩:=cs.blanks
 refine ⟨_,(Ac (Fk PassesOwn.leaving rfl (Ab2 (pv 0)) (Bn (i:=1) K1.nd rfl (Or.inl rfl))
   (Ag (Ax (PW.pt (Lq (Ao J8 (pv 1) (Bb (v:=.str "abcdefghijklmnopqrstuvwxyz") rfl m1 ⟨_,rfl⟩) (by rfl)) (Lq (Ao J8 (pv 1) (Bb (v:=.str "{};|") rfl m2 ⟨_,rfl⟩) (by rfl)) (Oj (Ao J8 (pv 1) (Bb (v:=.str " \n") rfl m3 ⟨_,rfl⟩) (by rfl))))))
    (Ag (Ci cs.excNT cs.noText rfl (Aa Al Ab)))
    Au)))
  (Adj (i:=0) (j:=2) (k:=3) PassesOwn.leaving rfl K1.nd rfl rfl rfl (by decide) rfl rfl rfl rfl m2
   (Ag (Aq (Vm PySem.F.plainAttrs_str PySem.F.slot_str_split PySem.F.type_str_split Adf (pv 2)))) rfl (by decide) (by decide) (by decide) (by decide) rfl rfl rfl (λ _=>rfl))),?_⟩
 refine ⟨_,rfl,x,rfl,?_⟩
 refine Aep (λ i σ H'=>H' = H∧(∃ v,σ = [some (.str x),v,none,none])∧(x.cps.toList.take i).all okC = true) ⟨rfl,⟨none,rfl⟩,rfl⟩ ?_ ?_
 ·rintro i c a5 H' hc ⟨rfl,⟨v,rfl⟩,a1⟩
  have hi:x.cps.toList[i]? = some c:=by rw [Array.getElem?_toList]; exact hc
  have a3:okC c = true→(x.cps.toList.take (i + 1)).all okC = true:=λ hok=>by
   rw [uW,hi,List.all_append,a1]
   simp [hok]
  refine ⟨_,rfl,_,_,rfl,rfl,_,rfl,B0 (λ n1=>⟨_,rfl,_,_,rfl,rfl,_,rfl,B0 (λ n2=>⟨_,rfl,_,_,rfl,rfl,_,rfl,B0 (λ n3=>?_) λ n3=>?_⟩) λ n2=>B0 (λ z=>by cases z) λ _=>?_⟩) λ n1=>B0 (λ z=>by cases z) λ _=>?_⟩
  ·have no:okC c = false:=by
    unfold okC inS
    simp only [Bool.not_not] at n1 n2 n3 ⊢
    rw [n1,n2,n3]
    rfl
   have a4:x.cps.toList.all okC = false:=by
    cases z:x.cps.toList.all okC with
    | false=>rfl
    | true =>
     have:=all_eq_true.mp z c (uQ hi)
     rw [no] at this
     cases this
   rcases h with ⟨z,_⟩ | ⟨_,q⟩
   ·rw [a4] at z
    cases z
   ·exact ⟨by show 1≤sizeLine; decide,q⟩
  ·refine ⟨rfl,⟨_,rfl⟩,a3 ?_⟩
   unfold okC inS
   simp only [Bool.not_not] at n3
   simp [n3]
  ·refine ⟨rfl,⟨_,rfl⟩,a3 ?_⟩
   unfold okC inS
   simp only [Bool.not_not] at n2
   simp [n2]
  ·refine ⟨rfl,⟨_,rfl⟩,a3 ?_⟩
   unfold okC inS
   simp only [Bool.not_not] at n1
   simp [n1]
 ·rintro a5 H' ⟨rfl,⟨v,rfl⟩,a1⟩
  have a2:x.cps.toList.all okC = true:=by
   rw [uT (by simp)] at a1
   exact a1
  rcases h with ⟨_,q⟩ | ⟨z,_⟩
  ·refine ⟨x,rfl,AdD,Ad0,λ n hn=>?_,λ v'=>?_⟩
   ·refine uX (Vj x _ n) ?_
    have h4:n≤4:=hn
    have:3 ^ n≤81:=by
     have:3 ^ n≤3 ^ 4:=Nat.pow_le_pow_right (by decide) h4
     exact this
    have:=Nat.mul_le_mul this hl
    omega
   ·have hw:(puts " " " " "{};|" 4 x).length≤243000:=by
     have:=Vj x "{};|" 4
     have:(puts " " " " "{};|" 4 x).length≤81 * x.length:=this
     omega
    refine ⟨_,rfl,rfl,_,rfl,rfl,?_,?_,?_,λ p hp=>q p hp⟩
    ·exact uX hw (by decide)
    ·have h1:=len_le_wsum (spaceWords (puts " " " " "{};|" 4 x) ((puts " " " " "{};|" 4 x).length + 1))
     have h2:=(sw_weight (puts " " " " "{};|" 4 x)).1
     exact uX (uX h1 h2) (uX (succ_le_succ hw) (by decide))
    ·have h1:=words_weight (puts " " " " "{};|" 4 x)
     exact uX (show (Txt.words (puts " " " " "{};|" 4 x)).length≤243001 by omega) (by decide)
  ·rw [z] at a2
   cases a2
end
def wfl (a:Addr) (p:Nat):List (Str× V):=B5 "place" (.int p) (B5 "words" (.ref a) [])
theorem AaU:¬ ("words" : Str) = "place" := by decide +kernel
theorem Xa (a:Addr) (p:Nat):wfl a p = ([(("words" : Str),V.ref a),(("place" : Str),V.int p)]:List (Str× V)):=by
 unfold wfl
 show (if ("words" : Str) = "place" then _ else (("words" : Str),V.ref a) :: ([(("place" : Str),V.int p)]:List (Str× V))) = _
 rw [if_neg AaU]
theorem S4 (a:Addr) (p:Nat):(wfl a p).lookup ("words" : Str) = some (.ref a):=by
 unfold wfl
 rw [B8,if_neg AaU,B8,if_pos rfl]
theorem Nr (a:Addr) (p:Nat):(wfl a p).lookup ("place" : Str) = some (.int p):=by
 unfold wfl
 rw [B8,if_pos rfl]
theorem J9 (a:Addr) (p:Nat) {m:Str} (h1:¬ m = "place") (h2:¬ m = "words"):(wfl a p).lookup m = none:=by
 unfold wfl
 rw [B8,if_neg h1,B8,if_neg h2]
 all_goals rfl
theorem AfG (a:Addr) (p q:Nat):B5 "place" (.int q) (wfl a p) = wfl a q:=by
 rw [Xa,Xa]
 show (if ("words" : Str) = "place" then _ else (("words" : Str),V.ref a) :: (if ("place" : Str) = "place" then [(("place" : Str),V.int q)] else _)) = ([(("words" : Str),V.ref a),(("place" : Str),V.int q)]:List (Str× V))
 rw [if_neg AaU,if_pos rfl]
def rsW (x:Str):Prop:=x.length≤3000∧(reprText x).length≤40000
def WsR (C:Addr) (H:Hp) (o a:Addr) (r:List Str):Prop:=∃ (dx:Addr) (ws:List Str) (p:Nat),H o = some (.ins C dx (wfl a p))∧H a = some (.lst (ws.map V.str))∧ws.drop p = r∧∀ x∈ws,rsW x
structure Ml (K:FA) (mg:Str→Option Value) (C aK:Addr):Prop extends Txt mg where
 cl:Cls K C
 nW:Dk K C "words"
 nP:Dk K C "place"
 m_Words:mg "Words" = some (.ref C)
 m_KEPT:mg "KEPT" = some (.ref aK)
 r_KEPT:A8 (.ref aK) (Value.ref aK)
 mK:Gp K aK (["in", "out", "nothing", "rest", "halt", "send", "keep", "await", "if", "else", "again", "hold", "watch", "weak", "trap", "exit", "local"].map λ x:String=>V.str x)
def kept:List Str:=["in", "out", "nothing", "rest", "halt", "send", "keep", "await", "if", "else", "again", "hold", "watch", "weak", "trap", "exit", "local"]
def hdS (r:List Str):Str:=r.headD ""
inductive Vb (C:Addr) (vs:List V) (H:Hp) (Q:VK):Prop
 | mk (o a:Addr) (r:List Str) (_:vs = [.ref o]) (_:WsR C H o a r) (_:Q (.str (hdS r)) H):Vb C vs H Q
def Gv (C:Addr):Sp:=λ vs H Q _=>Vb C vs H Q
inductive Vg (C:Addr) (vs:List V) (H:Hp) (Q:VK):Prop
 | mk (o a:Addr) (r:List Str) (_:vs = [.ref o]) (_:WsR C H o a r) (_:∀ H',Kp o H H'→WsR C H' o a r.tail→Q (.str (hdS r)) H'):Vg C vs H Q
def Lh (C:Addr):Sp:=λ vs H Q _=>Vg C vs H Q
section
variable {aK:Addr}
abbrev N6:Stmt:=Bz Ht 0
abbrev Acq:Stmt:=Bz Ht 1
abbrev Acp:Stmt:=Bz Ht 2
abbrev X1:Stmt:=Bz Ht 3
abbrev Pc:Stmt:=Bz Ht 4
abbrev Od:Stmt:=Bz Ht 5
abbrev Oc:Stmt:=Bz Ht 6
theorem Rn:Ar ["self", "words"] ["self", "words"] (Aj N6):=Az (by decide +kernel)
theorem AfU:Ar ["self"] ["self"] (Aj Acq):=Az (by decide +kernel)
theorem Y8:Ar ["self", "word"] ["self"] (Aj Acp):=Az (by decide +kernel)
theorem AbQ:Ar ["self", "wanted"] ["self", "wanted"] (Aj X1):=Az (by decide +kernel)
theorem M9:Ar ["self", "word"] ["self"] (Aj Pc):=Az (by decide +kernel)
theorem M4:Ar ["self", "names"] ["self"] (Aj Od):=Az (by decide +kernel)
theorem Um:Ar ["self"] ["self"] (Aj Oc):=Az (by decide +kernel)
inductive J0 (C:Addr) (vs:List V) (H:Hp) (Q:VK):Prop
 | mk (o dx a:Addr) (ws:List Str) (_:vs = [.ref o,.ref a]) (_:H o = some (.ins C dx [])) (_:H a = some (.lst (ws.map V.str))) (_:(∀ x∈ws,rsW x)) (_:∀ H',Kp o H H'→WsR C H' o a ws→Q .non H'):J0 C vs H Q
def Nf (C:Addr):Sp:=λ vs H Q _=>J0 C vs H Q
theorem Aej (F:Fun K "__init__" "Words.__init__" N6 f fd) (T:Ml K mg C aK):Bi P w K mg base CX0 1 f fd ["self", "words"] (Nf C):=by
 refine F.ok Rn (λ vs H Q E h=>?_) (λ cdv A outer s H vs Q E hr h=>?_)
 ·obtain ⟨o,dx,a,ws,rfl,_⟩:=h
  rfl
 obtain ⟨o,dx,a,ws,rfl,ho,ha,rs,q⟩:=h
 refine ⟨_,(Ac (Db (pv 0) (pv 1) rfl)
  (Ag (Db (pv 0) Af rfl))),?_⟩
 refine ⟨_,rfl,_,rfl,o,C,dx,[],rfl,ho,T.cl,T.nW,(by show 0 < 1000; decide),_,rfl,o,C,dx,_,rfl,Ae,T.cl,T.nP,(by show 1 < 1000; decide),?_⟩
 have a1:=Cd ha ho (by intro z; cases z)
 exact q _ (Kp.upd.trans Kp.upd) ⟨dx,ws,0,Ae,by rw [upd_ne a1,upd_ne a1]; exact ha,rfl,rs⟩
theorem Aiy (F:Fun K "peek" "Words.peek" Acq f fd) (T:Ml K mg C aK):Bi P w K mg base CX0 1 f fd ["self"] (Gv C):=by
 refine F.ok AfU (λ vs H Q E h=>?_) (λ cdv A outer s H vs Q E hr h=>?_)
 ·obtain ⟨o,a,r,rfl,_⟩:=h
  rfl
 obtain ⟨o,a,r,rfl,⟨dx,ws,p,ho,ha,er,rs⟩,q⟩:=h
 refine ⟨_,(Ac (Ax (Ao Ut (B7 (pv 0) rfl) (Be Da rfl T.n_len PySem.boot_len (Aa (B7 (pv 0) rfl) Ab)) (Aw _))
   (Ag (Aq (An Cm (B7 (pv 0) rfl) (B7 (pv 0) rfl) (λ _ _=>rfl))))
   Au)
  (Ag (Aq Al))),?_⟩
 refine ⟨_,rfl,o,C,dx,_,_,rfl,ho,T.cl,T.nP,Nr _ _,_,rfl,o,C,dx,_,_,rfl,ho,T.cl,T.nW,S4 _ _,a,_,rfl,.inl (SqL.of ha),_,_,rfl,rfl,_,rfl,B0 (λ a3=>?_) λ a4=>?_⟩
 ·have a1:p < ws.length:=by simpa using a3
  refine ⟨_,rfl,o,C,dx,_,_,rfl,ho,T.cl,T.nW,S4 _ _,_,rfl,o,C,dx,_,_,rfl,ho,T.cl,T.nP,Nr _ _,a,_,_,.str ws[p],rfl,rfl,SqL.of ha,Ai (j:=p) (by rw [uJ,uC a1]; rfl),?_⟩
  have e:hdS r = ws[p]:=by rw [← er,drop_eq_getElem_cons a1]; rfl
  rw [← e]
  exact q
 ·have a2:ws.length≤p:=by simpa using a4
  have e:hdS r = "" := by rw [← er,drop_eq_nil_of_le a2]; rfl
  rw [e] at q
  exact q
theorem Ai8 (F:Fun K "take" "Words.take" Acp f fd) (T:Ml K mg C aK) (aH:Cu P w K mg base 1 C "peek" ["self"] (Gv C)):Bi P w K mg base CX0 2 f fd ["self"] (Lh C):=by
 refine F.ok Y8 (λ vs H Q E h=>?_) (λ cdv A outer s H vs Q E hr h=>?_)
 ·obtain ⟨o,a,r,rfl,_⟩:=h
  rfl
 obtain ⟨o,a,r,rfl,W,q⟩:=h
 obtain ⟨dx,ws,p,ho,ha,er,rs⟩:=id W
 refine ⟨_,(Ac (As (i:=1) Y8.nd rfl (Or.inl rfl) (Bt aH hr Av (pv 0)))
  (Ac (Db (pv 0) (A7 Ju (B7 (pv 0) rfl) Af) rfl)
  (Ag (Aq (pv 1))))),?_⟩
 refine ⟨_,rfl,o,dx,_,rfl,ho,J9 _ _ (by decide +kernel) (by decide +kernel),o,a,r,rfl,W,?_⟩
 refine ⟨_,rfl,o,C,dx,_,_,rfl,ho,T.cl,T.nP,Nr _ _,_,_,rfl,rfl,_,rfl,o,C,dx,_,rfl,ho,T.cl,T.nP,(by rw [Xa]; show 2 < 1000; decide),_,rfl,?_⟩
 have a1:=Cd ha ho (by intro z; cases z)
 refine q _ Kp.upd ⟨dx,ws,p + 1,?_,by rw [upd_ne a1]; exact ha,?_,rs⟩
 ·rw [Ae,← AfG a p (p + 1)]
  rfl
 ·rw [← er,List.tail_drop]
def nameB (x:Str):Bool:=Txt.isalpha x && decide (x.length≤8) && !kept.contains x
theorem Sn (h:nameB x = true):x.length≤8:=by
 unfold nameB at h
 rw [Bool.and_eq_true,Bool.and_eq_true] at h
 exact uN h.1.2
inductive Ql  (vs:List V) (H:Hp) (Q:VK):Prop
 | mk (x:Str) (_:vs = [.str x]) (_:x.length≤1000000) (_:Q (.bl (nameB x)) H):Ql  vs H Q
def Pn:Sp:=λ vs H Q _=>Ql  vs H Q
theorem Hg {ws:List Str}:inV (.str x) (ws.map V.str) = decide (x∈ws):=by
 unfold inV
 rw [any_map]
 by_cases e:x∈ws
 ·rw [uK e,any_eq_true]
  exact ⟨x,e,by show (x == x) = true; simp⟩
 ·rw [uM e]
  refine Bool.eq_false_iff.mpr λ z=>e ?_
  rw [any_eq_true] at z
  obtain ⟨m,hm,h⟩:=z
  have:(m == x) = true:=h
  rw [← eq_of_beq this]
  exact hm
theorem AhD (x:Str):inV (.str x) (kept.map V.str) = kept.contains x:=by
 rw [Hg]
 cases h:kept.contains x with
 | true=>exact uK (contains_iff_mem.mp h)
 | false=>exact uM λ z=>by rw [contains_iff_mem.mpr z] at h; cases h
theorem Ahx (F:Bd K mg "is_name" ["word"] N7) (T:Ml K mg C aK) (cs:Cst K mg cNT):Am P w K mg base 1 "is_name" ["word"] Pn:=by
 refine F.ok AaN (λ vs H Q E h=>?_) (λ f cdv A outer s H vs Q E hr h=>?_)
 ·obtain ⟨x,rfl,_⟩:=h
  rfl
 obtain ⟨x,rfl,hl,q⟩:=h
 obtain ⟨t8,m8⟩:=cs.longest
 refine ⟨_,(Ag (Aq (Iu (Vm PySem.F.plainAttrs_str PySem.F.slot_str_isalpha PySem.F.type_str_isalpha Aan (pv 0)) (Iu (El AaZ (Be G6 rfl T.n_len PySem.boot_len (Aa (pv 0) Ab)) (Bb (v:=.int 8) rfl m8 ⟨_,rfl⟩) (Aw _)) (J5 (El Gm (pv 0) (Bb rfl T.m_KEPT T.r_KEPT) (by rfl))))))),?_⟩
 have a2:∀ {b:Bool},nameB x = b→Q (.bl b) H:=λ e=>e ▸ q
 refine ⟨_,rfl,rfl,x,rfl,rfl,_,rfl,B0 (λ h1=>?_) λ h1=>a2 (by unfold nameB; rw [h1]; rfl)⟩
 refine ⟨_,rfl,x,rfl,uX hl (by decide),_,_,rfl,rfl,_,rfl,B0 (λ h2=>?_) λ h2=>a2 ?_⟩
 ·refine ⟨_,rfl,aK,_,rfl,.inr (.inr T.mK),rfl,by decide +kernel,a2 ?_⟩
  have a1:decide (x.length≤8) = true:=by
   have:=uN h2
   exact uK (by omega)
  unfold nameB
  rw [h1,a1,← AhD]
  rfl
 ·have a1:decide (x.length≤8) = false:=by
   have:=of_decide_eq_false h2
   exact uM (by omega)
  unfold nameB
  rw [h1,a1]
  rfl
def Gh (C cNT:Addr):Sp:=λ vs H Q E=>∃ (o a:Addr) (x:Str) (r:List Str),vs = [.ref o,.str x]∧WsR C H o a r∧rsW x∧((hdS r = x∧∀ H',Kp o H H'→WsR C H' o a r.tail→Q .non H')∨(¬ hdS r = x∧∀ H',Kp o H H'→E (.ref cNT) none H'))
def Jg (C cNT:Addr):Sp:=λ vs H Q E=>∃ (o a:Addr) (r:List Str),vs = [.ref o]∧WsR C H o a r∧((nameB (hdS r) = true∧∀ H',Kp o H H'→WsR C H' o a r.tail→Q (.str (hdS r)) H')∨(nameB (hdS r) = false∧∀ H',Kp o H H'→E (.ref cNT) none H'))
def Pb (C cNT:Addr):Sp:=λ vs H Q E=>∃ (o a:Addr) (r:List Str),vs = [.ref o]∧WsR C H o a r∧((hdS r = "" ∧ Q .non H)∨(¬ hdS r = "" ∧ E (.ref cNT) none H))
theorem Vo:rsW "" := by unfold rsW; decide +kernel
theorem WsR.rs (W:WsR C H o a r):rsW (hdS r):=by
 obtain ⟨dx,ws,p,ho,ha,er,rs⟩:=W
 cases r with
 | nil=>exact Vo
 | cons x r=>exact rs x (List.mem_of_mem_drop (by rw [er]; exact uH))
theorem Cn {p:Nat}:(wfl a p).lookup ("peek" : Str) = none∧(wfl a p).lookup ("take" : Str) = none∧(wfl a p).lookup ("expect" : Str) = none∧(wfl a p).lookup ("take_name" : Str) = none∧(wfl a p).lookup ("take_names" : Str) = none∧(wfl a p).lookup ("expect_end" : Str) = none :=
 ⟨J9 _ _ (by decide +kernel) (by decide +kernel),J9 _ _ (by decide +kernel) (by decide +kernel),J9 _ _ (by decide +kernel) (by decide +kernel),J9 _ _ (by decide +kernel) (by decide +kernel),J9 _ _ (by decide +kernel) (by decide +kernel),J9 _ _ (by decide +kernel) (by decide +kernel)⟩
variable {cNT:Addr}
theorem Lp {a b:Str} {m:Nat} (h1:a.length≤m) (h2:b.length≤n) (h:m + n≤1000000):(a ++ b).length≤sizeLine:=by
 rw [strLen_append]
 exact uX (add_le_add h1 h2) (uX h (by decide))
theorem Ahw (F:Fun K "expect" "Words.expect" X1 f fd) (T:Ml K mg C aK) (cs:Cst K mg cNT) (bA:Cu P w K mg base 2 C "take" ["self"] (Lh C)):Bi P w K mg base (CX1 P w) 3 f fd ["self", "wanted"] (Gh C cNT):=by
 refine F.okX AbQ (λ vs H Q E h=>?_) (λ cdv A outer s H vs Q E hr h=>?_)
 ·obtain ⟨o,a,x,r,rfl,_⟩:=h
  rfl
 obtain ⟨o,a,x,r,rfl,W,hx,h⟩:=h
 obtain ⟨dx,ws,p,ho,ha,er,rs⟩:=id W
 refine ⟨_,(Ag (Ax (Ao Kl (Bt bA hr Av (pv 0)) (pv 1) (Aw _))
   (Ag (Ci cs.excNT cs.noText rfl (Aa (Jo (.cons Al (.cons (Aar (pv 1)) .nil))) Ab)))
   Au)),?_⟩
 refine ⟨_,rfl,o,dx,_,rfl,ho,Cn.2.1,o,a,_,rfl,W,λ H1 k1 W1=>?_⟩
 refine ⟨_,rfl,rfl,_,rfl,?_⟩
 rcases h with ⟨e,q⟩ | ⟨ne,hE⟩
 ·rw [uK (congrArg V.str e)]
  exact Bj (q H1 k1 W1)
 ·rw [uM (λ z=>ne (V.str.inj z))]
  refine Bs ⟨_,rfl,?_,_,rfl,_,rfl,uX hx.2 (show 40000≤sizeLine by decide),_,rfl,?_,?_,by show 1≤sizeLine; decide,hE _ k1⟩
  ·decide +kernel
  ·exact Lp (m:=100) (n:=40000) (by decide +kernel) hx.2 (by decide)
  ·exact Lp (m:=100) (n:=40000) (by decide +kernel) hx.2 (by decide)
theorem Ag3 (F:Fun K "take_name" "Words.take_name" Pc f fd) (T:Ml K mg C aK) (cs:Cst K mg cNT) (bA:Cu P w K mg base 2 C "take" ["self"] (Lh C)) (cB:Am P w K mg base 1 "is_name" ["word"] Pn):Bi P w K mg base (CX1 P w) 3 f fd ["self"] (Jg C cNT):=by
 refine F.okX M9 (λ vs H Q E h=>?_) (λ cdv A outer s H vs Q E hr h=>?_)
 ·obtain ⟨o,a,r,rfl,_⟩:=h
  rfl
 obtain ⟨o,a,r,rfl,W,h⟩:=h
 have hx:=W.rs
 obtain ⟨dx,ws,p,ho,ha,er,rs⟩:=id W
 refine ⟨_,(Ac (As (i:=1) M9.nd rfl (Or.inl rfl) (Bt bA hr Av (pv 0)))
  (Ac (Ax (Gx (Js (Ap cB hr rfl Av (Aa (pv 1) Ab))))
   (Ag (Ci cs.excNT cs.noText rfl (Aa (Jo (.cons Al (.cons (Aar (pv 1)) .nil))) Ab)))
   Au)
  (Ag (Aq (pv 1))))),?_⟩
 refine ⟨_,rfl,o,dx,_,rfl,ho,Cn.2.1,o,a,_,rfl,W,λ H1 k1 W1=>?_⟩
 refine ⟨_,rfl,_,rfl,uX hx.1 (by decide),_,rfl,?_⟩
 rcases h with ⟨e,q⟩ | ⟨ne,hE⟩
 ·rw [e]
  exact Bj ⟨_,rfl,q H1 k1 W1⟩
 ·rw [ne]
  refine Bs ⟨_,rfl,?_,_,rfl,_,rfl,uX hx.2 (show 40000≤sizeLine by decide),_,rfl,?_,?_,by show 1≤sizeLine; decide,hE _ k1⟩
  ·decide +kernel
  ·exact Lp (m:=100) (n:=40000) (by decide +kernel) hx.2 (by decide)
  ·exact Lp (m:=100) (n:=40000) (by decide +kernel) hx.2 (by decide)
theorem Agu (F:Fun K "expect_end" "Words.expect_end" Oc f fd) (T:Ml K mg C aK) (cs:Cst K mg cNT) (aH:Cu P w K mg base 1 C "peek" ["self"] (Gv C)):Bi P w K mg base (CX1 P w) 2 f fd ["self"] (Pb C cNT):=by
 refine F.okX Um (λ vs H Q E h=>?_) (λ cdv A outer s H vs Q E hr h=>?_)
 ·obtain ⟨o,a,r,rfl,_⟩:=h
  rfl
 obtain ⟨o,a,r,rfl,W,h⟩:=h
 obtain ⟨dx,ws,p,ho,ha,er,rs⟩:=id W
 refine ⟨_,(Ag (Ax (Ao Kl (Bt aH hr Av (pv 0)) Al (Aw _))
   (Ag (Ci cs.excNT cs.noText rfl (Aa Al Ab)))
   Au)),?_⟩
 refine ⟨_,rfl,o,dx,_,rfl,ho,Cn.1,o,a,_,rfl,W,rfl,_,rfl,?_⟩
 rcases h with ⟨e,q⟩ | ⟨ne,hE⟩
 ·rw [uK (congrArg V.str e)]
  exact Bj q
 ·rw [uM (λ z=>ne (V.str.inj z))]
  exact Bs ⟨by show 1≤sizeLine; decide,hE⟩
inductive Mz (C:Addr) (vs:List V) (H:Hp) (Q:VK):Prop
 | mk (o a:Addr) (ns r:List Str) (_:vs = [.ref o]) (_:WsR C H o a (ns ++ r)) (_:(∀ x∈ns,nameB x = true)) (_:(∀ x∈ns ++ [hdS r],x.length≤1000000)) (_:nameB (hdS r) = false) (_:ns.length≤1000000) (_:∀ p H',Kp o H H'→H p = none→H' p = some (.lst (ns.map V.str))→WsR C H' o a r→Q (.ref p) H'):Mz C vs H Q
def Pa (C:Addr):Sp:=λ vs H Q _=>Mz C vs H Q
theorem WsR.upd (W:WsR C H o a r) (h:H p = none) (u:HO):WsR C (upd H p u) o a r:=by
 obtain ⟨dx,ws,q,ho,ha,er,rs⟩:=W
 exact ⟨dx,ws,q,Ah h u _ _ ho,Ah h u _ _ ha,er,rs⟩
theorem Afm (F:Fun K "take_names" "Words.take_names" Od f fd) (T:Ml K mg C aK) (aH:Cu P w K mg base 1 C "peek" ["self"] (Gv C)) (bA:Cu P w K mg base 2 C "take" ["self"] (Lh C)) (cB:Am P w K mg base 1 "is_name" ["word"] Pn):Bi P w K mg base CX0 3 f fd ["self"] (Pa C):=by
 refine F.ok M4 (λ vs H Q E h=>?_) (λ cdv A outer s H vs Q E hr h=>?_)
 ·obtain ⟨o,a,ns,r,rfl,_⟩:=h
  rfl
 obtain ⟨o,a,ns,r,rfl,W,hn,hl,c4,b7,q⟩:=h
 refine ⟨_,(Ac (As (i:=1) M4.nd rfl (Or.inl rfl) (Ba Ab))
  (Ac (Hq PassesOwn.never (Js (Ap cB hr rfl Av (Aa (Bt aH hr Av (pv 0)) Ab)))
   (Ag (Bo (Ew PySem.F.plainAttrs_list PySem.F.slot_list_append PySem.F.type_list_append Iv (pv 1) (Aa (Bt bA hr Av (pv 0)) Ab)))))
  (Ag (Aq (pv 1))))),?_⟩
 refine ⟨zN0,λ p hp=>?_⟩
 obtain ⟨dx,ws,p0,ho,ha,er,rs⟩:=id W
 have c8:p≠a:=λ z=>by rw [z,ha] at hp; cases hp
 have b6:p≠o:=λ z=>by rw [z,ho] at hp; cases hp
 refine ⟨λ m σ H'=>∃ i,m = ns.length - i∧i≤ns.length∧σ = [some (.ref o),some (.ref p)]∧(∀ b u,b≠o→b≠p→H b = some u→H' b = some u)∧H' p = some (.lst ((ns.take i).map V.str))∧WsR C H' o a (ns.drop i ++ r),
  ⟨ns.length,0,rfl,vV _,rfl,λ b u _ h2 e=>Ah hp _ _ _ e,Ae,W.upd hp _⟩,?_⟩
 rintro m c9 H' ⟨i,rfl,hi,rfl,keep,a6,W'⟩
 obtain ⟨a7,d9,p',a9,e3,d8,d7⟩:=id W'
 refine ⟨_,rfl,o,a7,_,rfl,a9,Cn.1,o,a,_,rfl,W',?_⟩
 rcases lt_or_ge i ns.length with a5 | hge
 ·have ed:ns.drop i ++ r = ns[i] :: (ns.drop (i + 1) ++ r):=by rw [drop_eq_getElem_cons a5,cons_append]
  rw [ed] at W' ⊢
  refine ⟨ns[i],rfl,hl _ (vU _ (vH a5)),_,rfl,?_⟩
  rw [hn _ (vH a5)]
  refine Bs ⟨λ a8 H2=>a8 = [some (.ref o),some (.ref p)]∧(∀ b u,b≠o→b≠p→H b = some u→H2 b = some u)∧H2 p = some (.lst ((ns.take (i + 1)).map V.str))∧WsR C H2 o a (ns.drop (i + 1) ++ r),
   λ a8 H2 ⟨a1,a2,a3,a4⟩=>⟨ns.length - (i + 1),by omega,i + 1,rfl,a5,a1,a2,a3,a4⟩,?_⟩
  refine ⟨_,rfl,.inl ⟨rfl,_,SqL.of a6⟩,_,rfl,o,a7,_,rfl,a9,Cn.2.1,o,a,_,rfl,W',λ H1 k1 W1=>?_⟩
  have c0:=k1 _ _ b6 a6
  refine ⟨p,_,_,rfl,rfl,c0,?_,rfl,λ b u h1 h2 e=>?_,?_,?_⟩
  ·rw [uD,vD]
   exact vA (uX (Nat.min_le_right _ _) b7) (by decide)
  ·rw [upd_ne h2]
   exact k1 b u h1 (keep b u h1 h2 e)
  ·rw [Ae,uW,uC a5,uP]
   rfl
  ·obtain ⟨c6,c7,p1,b9,c5,b8,c3⟩:=W1
   refine ⟨c6,c7,p1,?_,?_,b8,c3⟩
   ·rw [upd_ne (Ne.symm b6)]; exact b9
   ·rw [upd_ne (Ne.symm c8)]; exact c5
 ·have e0:i = ns.length:=by omega
  subst e0
  rw [List.drop_length,nil_append] at W' ⊢
  refine ⟨hdS r,rfl,hl _ (by simp),_,rfl,?_⟩
  rw [c4]
  rw [take_length] at a6
  refine Bj ⟨_,rfl,?_⟩
  exact q p H' (λ b u hb e=>keep b u hb (λ z=>by rw [z,hp] at e; cases e) e) hp a6 W'
end
section
variable {o:Expr} {m:Str} {k j:Nat} {E:XK} {t:TA}
end
def bareL:List Str:=["nothing", "rest", "halt"]
def namedL:List Str:=["send", "keep", "await", "exit"]
def roundL:List Str:=["hold", "watch", "weak", "trap", "local"]
mutual
inductive Cq:Nat→List Str→Nd→List Str→Prop
 | brace {d r t r'}:hdS r = "{" → PBr d r t r'→Cq d r t r'
 | bare {d w r}:w∈bareL→Cq d (w :: r) (.t [.s w]) r
 | named {d w x r}:w∈namedL→nameB x = true→Cq d (w :: x :: r) (.t [.s w,.s x]) r
 | round {d w x r t r'}:w∈roundL→nameB x = true→PBr d r t r'→Cq d (w :: x :: r) (.t [.s w,.s x,t]) r'
 | again {d r t r'}:PBr d r t r'→Cq d ("again" :: r) (.t [.s "again", t]) r'
 | iff {d r t r'}:PIf d r t r'→Cq d ("if" :: r) t r'
inductive PBr:Nat→List Str→Nd→List Str→Prop
 | mk {d r t r'}:Dj d r t ("}" :: r')→PBr (d + 1) ("{" :: r) t r'
inductive PIf:Nat→List Str→Nd→List Str→Prop
 | one {d x r t r'}:nameB x = true→PBr d r t r'→¬ hdS r' = "else" → PIf d (x :: r) (.t [.s "if", .s x,t,.t [.s "nothing"]]) r'
 | two {d x r t r1 t2 r'}:nameB x = true→PBr d r t ("else" :: r1)→PBr d r1 t2 r'→PIf d (x :: r) (.t [.s "if", .s x,t,t2]) r'
inductive Eb:Nat→Nd→List Str→Nd→List Str→Prop
 | done {d t r}:¬ hdS r = ";" → Eb d t r t r
 | more {d t r t2 r1 t' r'}:Cq d r t2 r1→Eb d (.t [.s "then", t,t2]) r1 t' r'→Eb d t (";" :: r) t' r'
inductive Fr:Nat→List Str→Nd→List Str→Prop
 | mk {d r t r1 t' r'}:Cq d r t r1→Eb d t r1 t' r'→Fr d r t' r'
inductive Cs:Nat→Nd→List Str→Nd→List Str→Prop
 | done {d t r}:¬ hdS r = "|" → Cs d t r t r
 | more {d t r t2 r1 t' r'}:Fr d r t2 r1→Cs d (.t [.s "beside", t,t2]) r1 t' r'→Cs d t ("|" :: r) t' r'
inductive Dj:Nat→List Str→Nd→List Str→Prop
 | mk {d r t r1 t' r'}:Fr d r t r1→Cs d t r1 t' r'→Dj d r t' r'
end
mutual
theorem Cq.lt:∀ {d:Nat} {r:List Str} {t:Nd} {r':List Str},Cq d r t r'→r'.length < r.length
 | _,_,_,_,.brace _ h=>PBr.lt h
 | _,_,_,_,.bare _=>lt_succ_self _
 | _,_,_,_,.named _ _=>lt_succ_of_lt (lt_succ_self _)
 | _,_,_,_,.round _ _ h=>lt_succ_of_lt (lt_succ_of_lt (PBr.lt h))
 | _,_,_,_,.again h=>lt_succ_of_lt (PBr.lt h)
 | _,_,_,_,.iff h=>lt_succ_of_lt (PIf.lt h)
theorem PBr.lt:∀ {d:Nat} {r:List Str} {t:Nd} {r':List Str},PBr d r t r'→r'.length < r.length
 | _,_,_,_,.mk h=>lt_succ_of_lt (Nat.lt_of_succ_lt (Dj.lt h))
theorem PIf.lt:∀ {d:Nat} {r:List Str} {t:Nd} {r':List Str},PIf d r t r'→r'.length < r.length
 | _,_,_,_,.one _ h _=>lt_succ_of_lt (PBr.lt h)
 | _,_,_,_,.two _ h h2=>lt_succ_of_lt (lt_trans (uZ (PBr.lt h2) (le_succ _)) (PBr.lt h))
theorem Eb.le:∀ {d:Nat} {t0:Nd} {r:List Str} {t:Nd} {r':List Str},Eb d t0 r t r'→r'.length≤r.length
 | _,_,_,_,_,.done _=>uY _
 | _,_,_,_,_,.more h h2=>le_succ_of_le (uX (Eb.le h2) (le_of_lt (Cq.lt h)))
theorem Fr.lt:∀ {d:Nat} {r:List Str} {t:Nd} {r':List Str},Fr d r t r'→r'.length < r.length
 | _,_,_,_,.mk h h2=>vA (Eb.le h2) (Cq.lt h)
theorem Cs.le:∀ {d:Nat} {t0:Nd} {r:List Str} {t:Nd} {r':List Str},Cs d t0 r t r'→r'.length≤r.length
 | _,_,_,_,_,.done _=>uY _
 | _,_,_,_,_,.more h h2=>le_succ_of_le (uX (Cs.le h2) (le_of_lt (Fr.lt h)))
theorem Dj.lt:∀ {d:Nat} {r:List Str} {t:Nd} {r':List Str},Dj d r t r'→r'.length < r.length
 | _,_,_,_,.mk h h2=>vA (Cs.le h2) (Fr.lt h)
end
mutual
inductive Ec:Nat→List Str→Prop
 | brace {d r}:hdS r = "{" → FBr d r→Ec d r
 | named {d w r}:w∈namedL→nameB (hdS r) = false→Ec d (w :: r)
 | roundN {d w r}:w∈roundL→nameB (hdS r) = false→Ec d (w :: r)
 | round {d w x r}:w∈roundL→nameB x = true→FBr d r→Ec d (w :: x :: r)
 | again {d r}:FBr d r→Ec d ("again" :: r)
 | iff {d r}:FIf d r→Ec d ("if" :: r)
 | no {d r}:¬ hdS r = "{" → ¬ hdS r∈bareL→¬ hdS r∈namedL→¬ hdS r∈roundL→¬ hdS r = "again" → ¬ hdS r = "if" → Ec d r
inductive FBr:Nat→List Str→Prop
 | noOpen {d r}:¬ hdS r = "{" → FBr d r
 | inn {d r}:Go d r→FBr (d + 1) ("{" :: r)
 | noClose {d r t r'}:Dj d r t r'→¬ hdS r' = "}" → FBr (d + 1) ("{" :: r)
inductive FIf:Nat→List Str→Prop
 | noName {d r}:nameB (hdS r) = false→FIf d r
 | one {d x r}:nameB x = true→FBr d r→FIf d (x :: r)
 | two {d x r t r1}:nameB x = true→PBr d r t ("else" :: r1)→FBr d r1→FIf d (x :: r)
inductive Ki:Nat→List Str→Prop
 | fail {d r}:Ec d r→Ki d (";" :: r)
 | more {d r t r1}:Cq d r t r1→Ki d r1→Ki d (";" :: r)
inductive N0:Nat→List Str→Prop
 | first {d r}:Ec d r→N0 d r
 | rest {d r t r1}:Cq d r t r1→Ki d r1→N0 d r
inductive Gk:Nat→List Str→Prop
 | fail {d r}:N0 d r→Gk d ("|" :: r)
 | more {d r t r1}:Fr d r t r1→Gk d r1→Gk d ("|" :: r)
inductive Go:Nat→List Str→Prop
 | first {d r}:N0 d r→Go d r
 | rest {d r t r1}:Fr d r t r1→Gk d r1→Go d r
end
inductive Two (R:Nd→List Str→Prop) (Fl:Prop):Prop
 | ok (t:Nd) (r':List Str) (h:R t r'):Two R Fl
 | no (h:Fl):Two R Fl
abbrev QK (C o a:Addr) (H:Hp) (Q:VK) (t:Nd) (r':List Str):Prop:=∀ v H',Kp o H H'→WsR C H' o a r'→At H' t v→Q v H'
abbrev EK (cNT o:Addr) (H:Hp) (E:XK):Prop:=∀ H',Kp o H H'→E (.ref cNT) none H'
def Fa (C cNT:Addr) (R:List Str→Nd→List Str→Prop) (Fl:List Str→Prop):Sp:=λ vs H Q E=>∃ (o a:Addr) (r:List Str),vs = [.ref o]∧WsR C H o a r∧Two (λ t r'=>R r t r'∧QK C o a H Q t r') (Fl r∧EK cNT o H E)
theorem WsR.ins {C o a:Addr} {H:Hp} {r:List Str} (W:WsR C H o a r):∃ dx p,H o = some (.ins C dx (wfl a p)):=by
 obtain ⟨dx,ws,p,ho,_⟩:=W
 exact ⟨dx,p,ho⟩
theorem Jz (A:At H t v) (W:WsR C H o a r) (k:Kp o H H'):At H' t v:=by
 obtain ⟨dx,p,ho⟩:=W.ins
 exact A.mono (k.tpI ho)
theorem G2:rsW ";" ∧ rsW "|" ∧ rsW "{" ∧ rsW "}" ∧ rsW "else" ∧ rsW "in" ∧ rsW "out" := by unfold rsW; decide +kernel
theorem inT {w:Str} {ws:List Str} (h:w∈ws):inV (.str w) (ws.map V.str) = true:=by rw [Hg]; exact uK h
theorem inF {w:Str} {ws:List Str} (h:¬ w∈ws):inV (.str w) (ws.map V.str) = false:=by rw [Hg]; exact uM h
theorem AaF {w:Str} {ws:List Str} {A B:Prop} (h:w∈ws) (hA:A):if inV (.str w) (ws.map V.str) = true then A else B:=by rw [inT h,if_pos rfl]; exact hA
theorem E6 {w:Str} {ws:List Str} {A B:Prop} (h:¬ w∈ws) (hB:B):if inV (.str w) (ws.map V.str) = true then A else B:=by rw [inF h,if_neg Bool.false_ne_true]; exact hB
theorem neT {A B:Prop} (h:¬ x = y) (a:A):if (!decide (V.str x = V.str y)) = true then A else B:=by rw [uM (λ z=>h (V.str.inj z))]; exact a
theorem neF {A B:Prop} (h:x = y) (b:B):if (!decide (V.str x = V.str y)) = true then A else B:=by rw [uK (congrArg V.str h)]; exact b
theorem U4 {A B:Prop} (h:x = y) (a:A):if decide (V.str x = V.str y) = true then A else B:=by rw [uK (congrArg V.str h)]; exact a
theorem Gu {A B:Prop} (h:¬ x = y) (b:B):if decide (V.str x = V.str y) = true then A else B:=by rw [uM (λ z=>h (V.str.inj z))]; exact b
section
variable {aK cNT:Addr}
theorem Xz (F:Bd K mg "read_row" ["words"] Jn) (aH:Cu P w K mg base 1 C "peek" ["self"] (Gv C)) (aD:Cy P w K mg base 3 C "expect" ["self", "wanted"] (Gh C cNT))
  (cL:Bc P w K mg base (k + 3) "read_part" ["words"] (Fa C cNT (Cq d) (Ec d))):Bc P w K mg base (k + 4) "read_row" ["words"] (Fa C cNT (Fr d) (N0 d)):=by
 refine F.okX K3 (λ vs H Q E h=>?_) (λ f cdv A outer s H vs Q E hr h=>?_)
 ·obtain ⟨o,a,r,rfl,_⟩:=h
  rfl
 obtain ⟨o,a,r,rfl,W,h⟩:=h
 refine ⟨_,(Ac (As (i:=1) K3.nd rfl (Or.inl rfl) (Bm cL hr rfl (Aa (pv 0) Ab)))
  (Ac (Hq PassesOwn.leaving (Ao A6 (Bt aH hr Av (pv 0)) Al (Aw _))
   (Ac (Bo (Dh aD hr (pv 0) (Aa Al Ab)))
  (Ag (As (i:=1) K3.nd rfl (Or.inl rfl) (Bg (Aa Al (Aa (pv 1) (Aa (Bm cL hr rfl (Aa (pv 0) Ab)) Ab))))))))
  (Ag (Aq (pv 1))))),?_⟩
 have nx:Two (λ t1 r1=>Cq d r t1 r1∧Two (λ t r'=>Eb d t1 r1 t r'∧QK C o a H Q t r') (Ki d r1∧EK cNT o H E)) (Ec d r∧EK cNT o H E):=by
  cases h with
  | ok t r' z =>
   obtain ⟨⟨h1,hT⟩,q⟩:=z
   exact .ok _ _ ⟨h1,.ok _ _ ⟨hT,q⟩⟩
  | no z =>
   obtain ⟨z,e⟩:=z
   cases z with
   | first f=>exact .no ⟨f,e⟩
   | rest h1 hT=>exact .ok _ _ ⟨h1,.no ⟨hT,e⟩⟩
 refine ⟨_,rfl,o,a,_,rfl,W,?_⟩
 cases nx with
 | no z=>exact .no z
 | ok t1 r1 z =>
 obtain ⟨h1,nx⟩:=z
 refine .ok t1 r1 ⟨h1,λ v1 H1 k1 W1 A1=>?_⟩
 refine ⟨λ m σ H'=>∃ t0 r0 v0,m = r0.length∧σ = [some (.ref o),some v0]∧Kp o H H'∧WsR C H' o a r0∧At H' t0 v0∧Two (λ t r'=>Eb d t0 r0 t r'∧QK C o a H Q t r') (Ki d r0∧EK cNT o H E),⟨_,_,_,v1,rfl,rfl,k1,W1,A1,nx⟩,?_⟩
 rintro m a4 H' ⟨t0,r0,v0,rfl,rfl,k0,W0,A0,nx⟩
 obtain ⟨dx,p,ho⟩:=W0.ins
 refine ⟨_,rfl,o,dx,_,rfl,ho,Cn.1,o,a,r0,rfl,W0,rfl,_,rfl,?_⟩
 have ny:(¬ hdS r0 = ";" ∧ QK C o a H Q t0 r0)∨∃ r1:List Str,r0 = (";" : Str) :: r1∧Two (λ t2 r2=>Cq d r1 t2 r2∧Two (λ t r'=>Eb d (.t [.s "then", t0,t2]) r2 t r'∧QK C o a H Q t r') (Ki d r2∧EK cNT o H E)) (Ec d r1∧EK cNT o H E):=by
  cases nx with
  | ok t r' z =>
   obtain ⟨z,q⟩:=z
   cases z with
   | done a1=>exact .inl ⟨a1,q⟩
   | more hP hT=>exact .inr ⟨_,rfl,.ok _ _ ⟨hP,.ok _ _ ⟨hT,q⟩⟩⟩
  | no z =>
   obtain ⟨z,e⟩:=z
   cases z with
   | fail f=>exact .inr ⟨_,rfl,.no ⟨f,e⟩⟩
   | more hP hT=>exact .inr ⟨_,rfl,.ok _ _ ⟨hP,.no ⟨hT,e⟩⟩⟩
 clear nx
 rcases ny with ⟨a1,q⟩ | ⟨r1,rfl,ny⟩
 ·exact Bf a1 ⟨_,rfl,q v0 H' k0 W0 A0⟩
 refine Ea ⟨λ a2 H2=>∃ t2 r2 v2,r2.length < r1.length + 1∧a2 = [some (.ref o),some v2]∧Kp o H H2∧WsR C H2 o a r2∧At H2 t2 v2∧Two (λ t r'=>Eb d t2 r2 t r'∧QK C o a H Q t r') (Ki d r2∧EK cNT o H E),λ a2 H2 ⟨t2,r2,v2,b0,b1,b2,b3,b4,b5⟩=>⟨_,b0,t2,r2,v2,rfl,b1,b2,b3,b4,b5⟩,?_⟩
 refine ⟨_,rfl,o,dx,_,rfl,ho,Cn.2.2.1,o,a,_,_,rfl,W0,G2.1,.inl ⟨rfl,λ H2 k2 W2=>?_⟩⟩
 refine ⟨_,rfl,_,rfl,o,a,_,rfl,W2,?_⟩
 cases ny with
 | no z=>exact .no ⟨z.1,λ H3 k3=>z.2 _ ((k0.trans k2).trans k3)⟩
 | ok t2 r2 z =>
  obtain ⟨hP,nx⟩:=z
  refine .ok t2 r2 ⟨hP,λ v3 H3 k3 W3 A3=>⟨zN3,λ p3 a3=>?_⟩⟩
  have g:=Ah a3 (.tup [.str "then", v0,v3])
  exact ⟨_,r2,_,lt_succ_of_lt hP.lt,rfl,((k0.trans k2).trans k3).trans (Same.kp g),W3.upd a3 _,.t Ae (.cons .s (.cons ((Jz (Jz A0 W0 k2) W2 k3).mono g.tp) (.cons (A3.mono g.tp) .nil))),nx⟩
theorem Vp (F:Bd K mg "read_block" ["words"] Ha) (aH:Cu P w K mg base 1 C "peek" ["self"] (Gv C)) (aD:Cy P w K mg base 3 C "expect" ["self", "wanted"] (Gh C cNT))
  (cO:Bc P w K mg base (k + 4) "read_row" ["words"] (Fa C cNT (Fr d) (N0 d))):Bc P w K mg base (k + 5) "read_block" ["words"] (Fa C cNT (Dj d) (Go d)):=by
 refine F.okX Jb (λ vs H Q E h=>?_) (λ f cdv A outer s H vs Q E hr h=>?_)
 ·obtain ⟨o,a,r,rfl,_⟩:=h
  rfl
 obtain ⟨o,a,r,rfl,W,h⟩:=h
 refine ⟨_,(Ac (As (i:=1) Jb.nd rfl (Or.inl rfl) (Bm cO hr rfl (Aa (pv 0) Ab)))
  (Ac (Hq PassesOwn.leaving (Ao A6 (Bt aH hr Av (pv 0)) Al (Aw _))
   (Ac (Bo (Dh aD hr (pv 0) (Aa Al Ab)))
  (Ag (As (i:=1) Jb.nd rfl (Or.inl rfl) (Bg (Aa Al (Aa (pv 1) (Aa (Bm cO hr rfl (Aa (pv 0) Ab)) Ab))))))))
  (Ag (Aq (pv 1))))),?_⟩
 have nx:Two (λ t1 r1=>Fr d r t1 r1∧Two (λ t r'=>Cs d t1 r1 t r'∧QK C o a H Q t r') (Gk d r1∧EK cNT o H E)) (N0 d r∧EK cNT o H E):=by
  cases h with
  | ok t r' z =>
   obtain ⟨⟨h1,hT⟩,q⟩:=z
   exact .ok _ _ ⟨h1,.ok _ _ ⟨hT,q⟩⟩
  | no z =>
   obtain ⟨z,e⟩:=z
   cases z with
   | first f=>exact .no ⟨f,e⟩
   | rest h1 hT=>exact .ok _ _ ⟨h1,.no ⟨hT,e⟩⟩
 refine ⟨_,rfl,o,a,_,rfl,W,?_⟩
 cases nx with
 | no z=>exact .no z
 | ok t1 r1 z =>
 obtain ⟨h1,nx⟩:=z
 refine .ok t1 r1 ⟨h1,λ v1 H1 k1 W1 A1=>?_⟩
 refine ⟨λ m σ H'=>∃ t0 r0 v0,m = r0.length∧σ = [some (.ref o),some v0]∧Kp o H H'∧WsR C H' o a r0∧At H' t0 v0∧Two (λ t r'=>Cs d t0 r0 t r'∧QK C o a H Q t r') (Gk d r0∧EK cNT o H E),⟨_,_,_,v1,rfl,rfl,k1,W1,A1,nx⟩,?_⟩
 rintro m a4 H' ⟨t0,r0,v0,rfl,rfl,k0,W0,A0,nx⟩
 obtain ⟨dx,p,ho⟩:=W0.ins
 refine ⟨_,rfl,o,dx,_,rfl,ho,Cn.1,o,a,r0,rfl,W0,rfl,_,rfl,?_⟩
 have ny:(¬ hdS r0 = "|" ∧ QK C o a H Q t0 r0)∨∃ r1:List Str,r0 = ("|" : Str) :: r1∧Two (λ t2 r2=>Fr d r1 t2 r2∧Two (λ t r'=>Cs d (.t [.s "beside", t0,t2]) r2 t r'∧QK C o a H Q t r') (Gk d r2∧EK cNT o H E)) (N0 d r1∧EK cNT o H E):=by
  cases nx with
  | ok t r' z =>
   obtain ⟨z,q⟩:=z
   cases z with
   | done a1=>exact .inl ⟨a1,q⟩
   | more hP hT=>exact .inr ⟨_,rfl,.ok _ _ ⟨hP,.ok _ _ ⟨hT,q⟩⟩⟩
  | no z =>
   obtain ⟨z,e⟩:=z
   cases z with
   | fail f=>exact .inr ⟨_,rfl,.no ⟨f,e⟩⟩
   | more hP hT=>exact .inr ⟨_,rfl,.ok _ _ ⟨hP,.no ⟨hT,e⟩⟩⟩
 clear nx
 rcases ny with ⟨a1,q⟩ | ⟨r1,rfl,ny⟩
 ·exact Bf a1 ⟨_,rfl,q v0 H' k0 W0 A0⟩
 refine Ea ⟨λ a2 H2=>∃ t2 r2 v2,r2.length < r1.length + 1∧a2 = [some (.ref o),some v2]∧Kp o H H2∧WsR C H2 o a r2∧At H2 t2 v2∧Two (λ t r'=>Cs d t2 r2 t r'∧QK C o a H Q t r') (Gk d r2∧EK cNT o H E),λ a2 H2 ⟨t2,r2,v2,b0,b1,b2,b3,b4,b5⟩=>⟨_,b0,t2,r2,v2,rfl,b1,b2,b3,b4,b5⟩,?_⟩
 refine ⟨_,rfl,o,dx,_,rfl,ho,Cn.2.2.1,o,a,_,_,rfl,W0,G2.2.1,.inl ⟨rfl,λ H2 k2 W2=>?_⟩⟩
 refine ⟨_,rfl,_,rfl,o,a,_,rfl,W2,?_⟩
 cases ny with
 | no z=>exact .no ⟨z.1,λ H3 k3=>z.2 _ ((k0.trans k2).trans k3)⟩
 | ok t2 r2 z =>
  obtain ⟨hP,nx⟩:=z
  refine .ok t2 r2 ⟨hP,λ v3 H3 k3 W3 A3=>⟨zN3,λ p3 a3=>?_⟩⟩
  have g:=Ah a3 (.tup [.str "beside", v0,v3])
  exact ⟨_,r2,_,lt_succ_of_lt hP.lt,rfl,((k0.trans k2).trans k3).trans (Same.kp g),W3.upd a3 _,.t Ae (.cons .s (.cons ((Jz (Jz A0 W0 k2) W2 k3).mono g.tp) (.cons (A3.mono g.tp) .nil))),nx⟩
theorem Tl {RB:List Str→Nd→List Str→Prop} {FK:List Str→Prop} (F:Bd K mg "read_braced" ["words"] Ge) (aD:Cy P w K mg base 3 C "expect" ["self", "wanted"] (Gh C cNT))
  (bP:Bc P w K mg base (k + 3) "read_block" ["words"] (Fa C cNT RB FK)):Bc P w K mg base (k + 4) "read_braced" ["words"] (Fa C cNT (λ r t r'=>∃ r1:List Str,r = ("{" : Str) :: r1∧RB r1 t ("}" :: r')) (λ r=>¬ hdS r = "{" ∨ ∃ r1:List Str,r = ("{" : Str) :: r1∧(FK r1∨∃ t r',RB r1 t r'∧¬ hdS r' = "}"))):=by
 refine F.okX Lk (λ vs H Q E h=>?_) (λ f cdv A outer s H vs Q E hr h=>?_)
 ·obtain ⟨o,a,r,rfl,_⟩:=h
  rfl
 obtain ⟨o,a,r,rfl,W,h⟩:=h
 refine ⟨_,(Ac (Bo (Dh aD hr (pv 0) (Aa Al Ab)))
  (Ac (As (i:=1) Lk.nd rfl (Or.inl rfl) (Bm bP hr rfl (Aa (pv 0) Ab)))
  (Ac (Bo (Dh aD hr (pv 0) (Aa Al Ab)))
  (Ag (Aq (pv 1)))))),?_⟩
 obtain ⟨dx,p,ho⟩:=W.ins
 have nx:(¬ hdS r = "{" ∧ EK cNT o H E)∨∃ r1:List Str,r = ("{" : Str) :: r1∧Two (λ t r'=>RB r1 t r'∧((∃ r2:List Str,r' = ("}" : Str) :: r2∧QK C o a H Q t r2)∨(¬ hdS r' = "}" ∧ EK cNT o H E))) (FK r1∧EK cNT o H E):=by
  cases h with
  | ok t r' z =>
   obtain ⟨⟨r1,rfl,hB⟩,q⟩:=z
   exact .inr ⟨r1,rfl,.ok t _ ⟨hB,.inl ⟨r',rfl,q⟩⟩⟩
  | no z =>
   obtain ⟨ne | ⟨r1,rfl,hF | ⟨t,r',hB,ne⟩⟩,e⟩:=z
   ·exact .inl ⟨ne,e⟩
   ·exact .inr ⟨r1,rfl,.no ⟨hF,e⟩⟩
   ·exact .inr ⟨r1,rfl,.ok t r' ⟨hB,.inr ⟨ne,e⟩⟩⟩
 refine ⟨_,rfl,o,dx,_,rfl,ho,Cn.2.2.1,o,a,_,_,rfl,W,G2.2.2.1,?_⟩
 rcases nx with ⟨ne,e⟩ | ⟨r1,rfl,g⟩
 ·exact .inr ⟨ne,e⟩
 refine .inl ⟨rfl,λ H1 k1 W1=>⟨_,rfl,o,a,_,rfl,W1,?_⟩⟩
 cases g with
 | no z=>exact .no ⟨z.1,λ H2 k2=>z.2 _ (k1.trans k2)⟩
 | ok t r' z =>
  refine .ok t r' ⟨z.1,λ v2 H2 k2 W2 A2=>?_⟩
  obtain ⟨a1,p2,a2⟩:=W2.ins
  refine ⟨_,rfl,o,a1,_,rfl,a2,Cn.2.2.1,o,a,_,_,rfl,W2,G2.2.2.2.1,?_⟩
  rcases z.2 with ⟨r2,rfl,q⟩ | ⟨ne,e⟩
  ·exact .inl ⟨rfl,λ H3 k3 W3=>⟨_,rfl,q v2 H3 ((k1.trans k2).trans k3) W3 (Jz A2 W2 k3)⟩⟩
  ·exact .inr ⟨ne,λ H3 k3=>e _ ((k1.trans k2).trans k3)⟩
theorem AeN {d k:Nat} (F:Bd K mg "read_if" ["words"] Kw) (aH:Cu P w K mg base 1 C "peek" ["self"] (Gv C)) (aD:Cy P w K mg base 3 C "expect" ["self", "wanted"] (Gh C cNT)) (aJ:Cy P w K mg base 3 C "take_name" ["self"] (Jg C cNT))
  (aQ:Bc P w K mg base (k + 3) "read_braced" ["words"] (Fa C cNT (PBr d) (FBr d))):Bc P w K mg base (k + 4) "read_if" ["words"] (Fa C cNT (PIf d) (FIf d)):=by
 refine F.okX L6 (λ vs H Q E h=>?_) (λ f cdv A outer s H vs Q E hr h=>?_)
 ·obtain ⟨o,a,r,rfl,_⟩:=h
  rfl
 obtain ⟨o,a,r,rfl,W,h⟩:=h
 refine ⟨_,(Ac (As (i:=1) L6.nd rfl (Or.inl rfl) (Io aJ hr (pv 0)))
  (Ac (As (i:=2) L6.nd rfl (Or.inl rfl) (Bm aQ hr rfl (Aa (pv 0) Ab)))
  (Ac (Ax (Ao Kl (Bt aH hr Av (pv 0)) Al (Aw _))
   (Ag (Aq (Bg (Aa Al (Aa (pv 1) (Aa (pv 2) (Aa (Bg (Aa Al Ab)) Ab)))))))
   Au)
  (Ac (Bo (Dh aD hr (pv 0) (Aa Al Ab)))
  (Ag (Aq (Bg (Aa Al (Aa (pv 1) (Aa (pv 2) (Aa (Bm aQ hr rfl (Aa (pv 0) Ab)) Ab))))))))))),?_⟩
 obtain ⟨dx,p,ho⟩:=W.ins
 have nx:(nameB (hdS r) = false∧EK cNT o H E)∨(nameB (hdS r) = true∧Two (λ t r1=>PBr d r.tail t r1∧((¬ hdS r1 = "else" ∧ QK C o a H Q (.t [.s "if", .s (hdS r),t,.t [.s "nothing"]]) r1)∨(hdS r1 = "else" ∧ Two (λ t2 r'=>PBr d r1.tail t2 r'∧QK C o a H Q (.t [.s "if", .s (hdS r),t,t2]) r') (FBr d r1.tail∧EK cNT o H E)))) (FBr d r.tail∧EK cNT o H E)):=by
  cases h with
  | ok t r' z =>
   obtain ⟨hI,q⟩:=z
   cases hI with
   | one hx h1 a4=>exact .inr ⟨hx,.ok _ _ ⟨h1,.inl ⟨a4,q⟩⟩⟩
   | two hx h1 h2=>exact .inr ⟨hx,.ok _ _ ⟨h1,.inr ⟨rfl,.ok _ _ ⟨h2,q⟩⟩⟩⟩
  | no z =>
   obtain ⟨hI,e⟩:=z
   cases hI with
   | noName hx=>exact .inl ⟨hx,e⟩
   | one hx h1=>exact .inr ⟨hx,.no ⟨h1,e⟩⟩
   | two hx h1 h2=>exact .inr ⟨hx,.ok _ _ ⟨h1,.inr ⟨rfl,.no ⟨h2,e⟩⟩⟩⟩
 refine ⟨_,rfl,o,dx,_,rfl,ho,Cn.2.2.2.1,o,a,_,rfl,W,?_⟩
 rcases nx with ⟨nn,e⟩ | ⟨hx,nx⟩
 ·exact .inr ⟨nn,e⟩
 refine .inl ⟨hx,λ H1 k1 W1=>⟨_,rfl,o,a,_,rfl,W1,?_⟩⟩
 cases nx with
 | no z=>exact .no ⟨z.1,λ H2 k2=>z.2 _ (k1.trans k2)⟩
 | ok t r1 z =>
  obtain ⟨h1,z⟩:=z
  refine .ok t r1 ⟨h1,λ v2 H2 k2 W2 A2=>?_⟩
  obtain ⟨a6,p2,a7⟩:=W2.ins
  refine ⟨_,rfl,o,a6,_,rfl,a7,Cn.1,o,a,_,rfl,W2,rfl,_,rfl,?_⟩
  rcases z with ⟨a4,q⟩ | ⟨he,z⟩
  ·refine neT a4 ⟨_,rfl,_,rfl,zN1,λ t1 a5=>⟨zN4,λ t2 a3=>?_⟩⟩
   obtain ⟨g,a1,a2⟩:=Adg (b:=.tup [.str "if", .str _,v2,.ref t1]) a5 a3
   exact q _ _ ((k1.trans k2).trans (Same.kp g)) ((W2.upd a5 _).upd a3 _) (.t a2 (.cons .s (.cons .s (.cons (A2.mono g.tp) (.cons (.t a1 (.cons .s .nil)) .nil)))))
  ·refine neF he ⟨_,rfl,o,a6,_,rfl,a7,Cn.2.2.1,o,a,_,_,rfl,W2,G2.2.2.2.2.1,.inl ⟨he,λ H3 k3 W3=>⟨_,rfl,_,rfl,_,rfl,o,a,_,rfl,W3,?_⟩⟩⟩
   cases z with
   | no z=>exact .no ⟨z.1,λ H4 k4=>z.2 _ (((k1.trans k2).trans k3).trans k4)⟩
   | ok t2 r' z =>
    refine .ok t2 r' ⟨z.1,λ v4 H4 k4 W4 A4=>⟨zN4,λ t2 a3=>?_⟩⟩
    have g:=λ u=>Ah a3 u
    exact z.2 _ _ ((((k1.trans k2).trans k3).trans k4).trans (Same.kp (g _))) (W4.upd a3 _) (.t Ae (.cons .s (.cons .s (.cons ((Jz (Jz A2 W2 k3) W3 k4).mono (g _).tp) (.cons (A4.mono (g _).tp) .nil)))))
structure Cj (K:FA) (mg:Str→Option Value) (C aK aB aM aR:Addr):Prop extends Ml K mg C aK where
 m_BARE:mg "BARE" = some (.ref aB)
 r_BARE:A8 (.ref aB) (Value.ref aB)
 mB:Gp K aB (bareL.map V.str)
 m_NAMED:mg "NAMED" = some (.ref aM)
 r_NAMED:A8 (.ref aM) (Value.ref aM)
 mM:Gp K aM (namedL.map V.str)
 m_NAMED_ROUND:mg "NAMED_ROUND" = some (.ref aR)
 r_NAMED_ROUND:A8 (.ref aR) (Value.ref aR)
 mR:Gp K aR (roundL.map V.str)
theorem D9 (ws:List Str):(ws.map V.str).all Ef = true:=by
 rw [all_eq_true]
 intro v hv
 obtain ⟨x,_,rfl⟩:=vQ.mp hv
 rfl
theorem Agd:∀ w∈bareL,¬ w = "{" := by decide +kernel
theorem AfL:∀ w∈namedL,¬ w = "{" ∧ ¬ w∈bareL:=by decide +kernel
theorem AfZ:∀ w∈roundL,¬ w = "{" ∧ ¬ w∈bareL∧¬ w∈namedL:=by decide +kernel
theorem Ae1:¬ ("again" : Str) = "{" ∧ ¬ ("again" : Str)∈bareL∧¬ ("again" : Str)∈namedL∧¬ ("again" : Str)∈roundL:=by decide +kernel
theorem Ahy:¬ ("if" : Str) = "{" ∧ ¬ ("if" : Str)∈bareL∧¬ ("if" : Str)∈namedL∧¬ ("if" : Str)∈roundL∧¬ ("if" : Str) = "again" := by decide +kernel
inductive PtV (C cNT o a:Addr) (H:Hp) (Q:VK) (E:XK) (d:Nat) (r:List Str):Prop
 | brace (h:hdS r = "{") (z:Two (λ t r'=>PBr d r t r'∧QK C o a H Q t r') (FBr d r∧EK cNT o H E)):PtV C cNT o a H Q E d r
 | bare (h:hdS r∈bareL) (q:QK C o a H Q (.t [.s (hdS r)]) r.tail):PtV C cNT o a H Q E d r
 | named (h:hdS r∈namedL) (z:(nameB (hdS r.tail) = true∧QK C o a H Q (.t [.s (hdS r),.s (hdS r.tail)]) r.tail.tail)∨(nameB (hdS r.tail) = false∧EK cNT o H E)):PtV C cNT o a H Q E d r
 | round (h:hdS r∈roundL) (z:(nameB (hdS r.tail) = true∧Two (λ t r'=>PBr d r.tail.tail t r'∧QK C o a H Q (.t [.s (hdS r),.s (hdS r.tail),t]) r') (FBr d r.tail.tail∧EK cNT o H E))∨(nameB (hdS r.tail) = false∧EK cNT o H E)):PtV C cNT o a H Q E d r
 | again (h:hdS r = "again") (z:Two (λ t r'=>PBr d r.tail t r'∧QK C o a H Q (.t [.s "again", t]) r') (FBr d r.tail∧EK cNT o H E)):PtV C cNT o a H Q E d r
 | iff (h:hdS r = "if") (z:Two (λ t r'=>PIf d r.tail t r'∧QK C o a H Q t r') (FIf d r.tail∧EK cNT o H E)):PtV C cNT o a H Q E d r
 | no (n1:¬ hdS r = "{") (n2:¬ hdS r∈bareL) (n3:¬ hdS r∈namedL) (n4:¬ hdS r∈roundL) (n5:¬ hdS r = "again") (n6:¬ hdS r = "if") (e:EK cNT o H E):PtV C cNT o a H Q E d r
theorem Ab8 {E:XK} (h:Two (λ t r'=>Cq d r t r'∧QK C o a H Q t r') (Ec d r∧EK cNT o H E)):PtV C cNT o a H Q E d r:=by
 cases h with
 | ok t r' z =>
  obtain ⟨hP,q⟩:=z
  cases hP with
  | brace he hB=>exact .brace he (.ok _ _ ⟨hB,q⟩)
  | bare hw=>exact .bare hw q
  | named hw hx=>exact .named hw (.inl ⟨hx,q⟩)
  | round hw hx hB=>exact .round hw (.inl ⟨hx,.ok _ _ ⟨hB,q⟩⟩)
  | again hB=>exact .again rfl (.ok _ _ ⟨hB,q⟩)
  | iff hI=>exact .iff rfl (.ok _ _ ⟨hI,q⟩)
 | no z =>
  obtain ⟨hP,e⟩:=z
  cases hP with
  | brace he hB=>exact .brace he (.no ⟨hB,e⟩)
  | named hw hx=>exact .named hw (.inr ⟨hx,e⟩)
  | roundN hw hx=>exact .round hw (.inr ⟨hx,e⟩)
  | round hw hx hB=>exact .round hw (.inl ⟨hx,.no ⟨hB,e⟩⟩)
  | again hB=>exact .again rfl (.no ⟨hB,e⟩)
  | iff hI=>exact .iff rfl (.no ⟨hI,e⟩)
  | no n1 n2 n3 n4 n5 n6=>exact .no n1 n2 n3 n4 n5 n6 e
variable {aB aM aR:Addr}
theorem Of {d k:Nat} (F:Bd K mg "read_part" ["words"] Ij) (T:Cj K mg C aK aB aM aR) (cs:Cst K mg cNT) (aH:Cu P w K mg base 1 C "peek" ["self"] (Gv C)) (bA:Cu P w K mg base 2 C "take" ["self"] (Lh C)) (aJ:Cy P w K mg base 3 C "take_name" ["self"] (Jg C cNT))
  (aQ:Bc P w K mg base (k + 3) "read_braced" ["words"] (Fa C cNT (PBr d) (FBr d))) (dU:Bc P w K mg base (k + 4) "read_if" ["words"] (Fa C cNT (PIf d) (FIf d))):Bc P w K mg base (k + 5) "read_part" ["words"] (Fa C cNT (Cq d) (Ec d)):=by
 refine F.okX Jx (λ vs H Q E h=>?_) (λ f cdv A outer s H vs Q E hr h=>?_)
 ·obtain ⟨o,a,r,rfl,_⟩:=h
  rfl
 obtain ⟨o,a,r,rfl,W,h⟩:=h
 refine ⟨_,(Ac (Ax (Ao A6 (Bt aH hr Av (pv 0)) Al (Aw _))
   (Ag (Aq (Bm aQ hr rfl (Aa (pv 0) Ab))))
   Au)
  (Ac (As (i:=1) Jx.nd rfl (Or.inl rfl) (Bt bA hr Av (pv 0)))
  (Ac (Ax (Ao Bw (pv 1) (Bb rfl T.m_BARE T.r_BARE) (by rfl))
   (Ag (Aq (Bg (Aa (pv 1) Ab))))
   Au)
  (Ac (Ax (Ao Bw (pv 1) (Bb rfl T.m_NAMED T.r_NAMED) (by rfl))
   (Ag (Aq (Bg (Aa (pv 1) (Aa (Io aJ hr (pv 0)) Ab)))))
   Au)
  (Ac (Ax (Ao Bw (pv 1) (Bb rfl T.m_NAMED_ROUND T.r_NAMED_ROUND) (by rfl))
   (Ac (As (i:=2) Jx.nd rfl (Or.inl rfl) (Io aJ hr (pv 0)))
  (Ag (Aq (Bg (Aa (pv 1) (Aa (pv 2) (Aa (Bm aQ hr rfl (Aa (pv 0) Ab)) Ab)))))))
   Au)
  (Ac (Ax (Ao A6 (pv 1) Al (Aw _))
   (Ag (Aq (Bg (Aa Al (Aa (Bm aQ hr rfl (Aa (pv 0) Ab)) Ab)))))
   Au)
  (Ac (Ax (Ao A6 (pv 1) Al (Aw _))
   (Ag (Aq (Bm dU hr rfl (Aa (pv 0) Ab))))
   Au)
  (Ag (Ci cs.excNT cs.noText rfl (Aa (Jo (.cons Al (.cons (Aar (pv 1)) .nil))) Ab)))))))))),?_⟩
 have hv:=Ab8 h
 have rs:=W.rs
 obtain ⟨dx,p,ho⟩:=W.ins
 refine ⟨_,rfl,o,dx,_,rfl,ho,Cn.1,o,a,_,rfl,W,rfl,_,rfl,?_⟩
 cases hv with
 | brace he z=>exact U4 he ⟨_,rfl,o,a,_,rfl,W,z⟩
 | bare hw q =>
  refine Gu (Agd _ hw) ⟨_,rfl,o,dx,_,rfl,ho,Cn.2.1,o,a,_,rfl,W,λ H1 k1 W1=>?_⟩
  refine ⟨_,rfl,aB,_,rfl,.inr (.inr T.mB),rfl,D9 _,_,rfl,AaF (ws:=bareL) hw ⟨_,rfl,zN1,λ t1 a1=>?_⟩⟩
  have g:=λ u=>Ah a1 u
  exact q _ _ (k1.trans (Same.kp (g _))) (W1.upd a1 _) (.t Ae (.cons .s .nil))
 | named hw z =>
  obtain ⟨n1,n2⟩:=AfL _ hw
  refine Gu n1 ⟨_,rfl,o,dx,_,rfl,ho,Cn.2.1,o,a,_,rfl,W,λ H1 k1 W1=>?_⟩
  refine ⟨_,rfl,aB,_,rfl,.inr (.inr T.mB),rfl,D9 _,_,rfl,E6 (ws:=bareL) n2 ⟨_,rfl,aM,_,rfl,.inr (.inr T.mM),rfl,D9 _,_,rfl,AaF (ws:=namedL) hw ?_⟩⟩
  obtain ⟨a2,p1,a3⟩:=W1.ins
  refine ⟨_,rfl,_,rfl,o,a2,_,rfl,a3,Cn.2.2.2.1,o,a,_,rfl,W1,?_⟩
  rcases z with ⟨hx,q⟩ | ⟨hx,e⟩
  ·refine .inl ⟨hx,λ H2 k2 W2=>⟨zN2,λ t1 a1=>?_⟩⟩
   have g:=λ u=>Ah a1 u
   exact q _ _ ((k1.trans k2).trans (Same.kp (g _))) (W2.upd a1 _) (.t Ae (.cons .s (.cons .s .nil)))
  ·exact .inr ⟨hx,λ H2 k2=>e _ (k1.trans k2)⟩
 | round hw z =>
  obtain ⟨n1,n2,n3⟩:=AfZ _ hw
  refine Gu n1 ⟨_,rfl,o,dx,_,rfl,ho,Cn.2.1,o,a,_,rfl,W,λ H1 k1 W1=>?_⟩
  refine ⟨_,rfl,aB,_,rfl,.inr (.inr T.mB),rfl,D9 _,_,rfl,E6 (ws:=bareL) n2 ⟨_,rfl,aM,_,rfl,.inr (.inr T.mM),rfl,D9 _,_,rfl,E6 (ws:=namedL) n3 ⟨_,rfl,aR,_,rfl,.inr (.inr T.mR),rfl,D9 _,_,rfl,AaF (ws:=roundL) hw ?_⟩⟩⟩
  obtain ⟨a2,p1,a3⟩:=W1.ins
  refine ⟨_,rfl,o,a2,_,rfl,a3,Cn.2.2.2.1,o,a,_,rfl,W1,?_⟩
  rcases z with ⟨hx,z⟩ | ⟨hx,e⟩
  ·refine .inl ⟨hx,λ H2 k2 W2=>⟨_,rfl,_,rfl,_,rfl,o,a,_,rfl,W2,?_⟩⟩
   cases z with
   | no z=>exact .no ⟨z.1,λ H3 k3=>z.2 _ ((k1.trans k2).trans k3)⟩
   | ok t r' z =>
    refine .ok t r' ⟨z.1,λ v3 H3 k3 W3 A3=>⟨zN3,λ t1 a1=>?_⟩⟩
    have g:=λ u=>Ah a1 u
    exact z.2 _ _ (((k1.trans k2).trans k3).trans (Same.kp (g _))) (W3.upd a1 _) (.t Ae (.cons .s (.cons .s (.cons (A3.mono (g _).tp) .nil))))
  ·exact .inr ⟨hx,λ H2 k2=>e _ (k1.trans k2)⟩
 | again he z =>
  obtain ⟨n1,n2,n3,n4⟩:=Ae1
  rw [he]
  refine Gu n1 ⟨_,rfl,o,dx,_,rfl,ho,Cn.2.1,o,a,_,rfl,W,λ H1 k1 W1=>?_⟩
  rw [he]
  refine ⟨_,rfl,aB,_,rfl,.inr (.inr T.mB),rfl,D9 _,_,rfl,E6 (w:= "again") (ws:=bareL) n2 ⟨_,rfl,aM,_,rfl,.inr (.inr T.mM),rfl,D9 _,_,rfl,E6 (w:= "again") (ws:=namedL) n3 ⟨_,rfl,aR,_,rfl,.inr (.inr T.mR),rfl,D9 _,_,rfl,E6 (w:= "again") (ws:=roundL) n4 ⟨_,rfl,rfl,_,rfl,U4 rfl ?_⟩⟩⟩⟩
  refine ⟨_,rfl,o,a,_,rfl,W1,?_⟩
  cases z with
  | no z=>exact .no ⟨z.1,λ H3 k3=>z.2 _ (k1.trans k3)⟩
  | ok t r' z =>
   refine .ok t r' ⟨z.1,λ v3 H3 k3 W3 A3=>⟨zN2,λ t1 a1=>?_⟩⟩
   have g:=λ u=>Ah a1 u
   exact z.2 _ _ ((k1.trans k3).trans (Same.kp (g _))) (W3.upd a1 _) (.t Ae (.cons .s (.cons (A3.mono (g _).tp) .nil)))
 | iff he z =>
  obtain ⟨n1,n2,n3,n4,n5⟩:=Ahy
  rw [he]
  refine Gu n1 ⟨_,rfl,o,dx,_,rfl,ho,Cn.2.1,o,a,_,rfl,W,λ H1 k1 W1=>?_⟩
  rw [he]
  refine ⟨_,rfl,aB,_,rfl,.inr (.inr T.mB),rfl,D9 _,_,rfl,E6 (w:= "if") (ws:=bareL) n2 ⟨_,rfl,aM,_,rfl,.inr (.inr T.mM),rfl,D9 _,_,rfl,E6 (w:= "if") (ws:=namedL) n3 ⟨_,rfl,aR,_,rfl,.inr (.inr T.mR),rfl,D9 _,_,rfl,E6 (w:= "if") (ws:=roundL) n4 ⟨_,rfl,rfl,_,rfl,Gu n5 ⟨_,rfl,rfl,_,rfl,U4 rfl ?_⟩⟩⟩⟩⟩
  refine ⟨_,rfl,o,a,_,rfl,W1,?_⟩
  cases z with
  | no z=>exact .no ⟨z.1,λ H3 k3=>z.2 _ (k1.trans k3)⟩
  | ok t r' z=>exact .ok t r' ⟨z.1,λ v3 H3 k3 W3 A3=>z.2 v3 H3 (k1.trans k3) W3 A3⟩
 | no n1 n2 n3 n4 n5 n6 e =>
  refine Gu n1 ⟨_,rfl,o,dx,_,rfl,ho,Cn.2.1,o,a,_,rfl,W,λ H1 k1 W1=>?_⟩
  refine ⟨_,rfl,aB,_,rfl,.inr (.inr T.mB),rfl,D9 _,_,rfl,E6 (ws:=bareL) n2 ⟨_,rfl,aM,_,rfl,.inr (.inr T.mM),rfl,D9 _,_,rfl,E6 (ws:=namedL) n3 ⟨_,rfl,aR,_,rfl,.inr (.inr T.mR),rfl,D9 _,_,rfl,E6 (ws:=roundL) n4 ⟨_,rfl,rfl,_,rfl,Gu n5 ⟨_,rfl,rfl,_,rfl,Gu n6 ?_⟩⟩⟩⟩⟩
  refine ⟨_,rfl,?_,_,rfl,_,rfl,uX rs.2 (by decide),_,rfl,?_,?_,by show 1≤sizeLine; decide,e _ k1⟩
  ·decide +kernel
  ·exact Lp (m:=100) (n:=40000) (by decide +kernel) rs.2 (by decide)
  ·exact Lp (m:=100) (n:=40000) (by decide +kernel) rs.2 (by decide)
theorem Aca (FP:Bd K mg "read_part" ["words"] Ij) (FR:Bd K mg "read_row" ["words"] Jn) (FB:Bd K mg "read_block" ["words"] Ha) (FC:Bd K mg "read_braced" ["words"] Ge) (FI:Bd K mg "read_if" ["words"] Kw) (T:Cj K mg C aK aB aM aR) (cs:Cst K mg cNT)
  (aH:Cu P w K mg base 1 C "peek" ["self"] (Gv C)) (bA:Cu P w K mg base 2 C "take" ["self"] (Lh C)) (aJ:Cy P w K mg base 3 C "take_name" ["self"] (Jg C cNT)) (aD:Cy P w K mg base 3 C "expect" ["self", "wanted"] (Gh C cNT)) :
  ∀ d,Bc P w K mg base (5 * d + 9) "read_block" ["words"] (Fa C cNT (Dj d) (Go d))
 | 0=>by
  have zb:Bc P w K mg base 3 "read_block" ["words"] (Fa C cNT (λ _ _ _=>False) (λ _=>False)):=(FB.zeroX (sp:=Fa C cNT (λ _ _ _=>False) (λ _=>False)) λ vs H Q E h=>by
   obtain ⟨o,a,r,_,_,h⟩:=h
   cases h with
   | ok _ _ z=>exact z.1
   | no z=>exact z.1).mono (by decide)
  have cb:Bc P w K mg base 4 "read_braced" ["words"] (Fa C cNT (PBr 0) (FBr 0)):=(Tl (k:=0) FC aD zb).imp λ vs H Q E h=>by
   obtain ⟨o,a,r,e,W,h⟩:=h
   refine ⟨o,a,r,e,W,?_⟩
   cases h with
   | ok _ _ z=>obtain ⟨z,_⟩:=z; cases z
   | no z =>
    obtain ⟨z,e⟩:=z
    cases z with
    | noOpen n=>exact .no ⟨.inl n,e⟩
  exact Vp (k:=4) FB aH aD (Xz (k:=4) FR aH aD (Of (k:=1) FP T cs aH bA aJ cb (AeN (k:=1) FI aH aD aJ cb) |>.mono (by decide)))
 | d + 1=>by
  have ih:=Aca FP FR FB FC FI T cs aH bA aJ aD d
  have cb:Bc P w K mg base (5 * d + 10) "read_braced" ["words"] (Fa C cNT (PBr (d + 1)) (FBr (d + 1))):=(Tl (k:=5 * d + 6) FC aD ih).imp λ vs H Q E h=>by
   obtain ⟨o,a,r,e,W,h⟩:=h
   refine ⟨o,a,r,e,W,?_⟩
   cases h with
   | ok _ _ z =>
    obtain ⟨z,q⟩:=z
    cases z with
    | mk hB=>exact .ok _ _ ⟨⟨_,rfl,hB⟩,q⟩
   | no z =>
    obtain ⟨z,e⟩:=z
    cases z with
    | noOpen n=>exact .no ⟨.inl n,e⟩
    | inn f=>exact .no ⟨.inr ⟨_,rfl,.inl f⟩,e⟩
    | noClose p n=>exact .no ⟨.inr ⟨_,rfl,.inr ⟨_,_,p,n⟩⟩,e⟩
  exact Vp (k:=5 * d + 9) FB aH aD (Xz (k:=5 * d + 9) FR aH aD (Of (k:=5 * d + 7) FP T cs aH bA aJ cb (AeN (k:=5 * d + 7) FI aH aD aJ cb)))
end
def Fy (s:Int× Int) (x:Str):Int× Int :=
 let n1:=if x = "{" then s.2 + 1 else s.2
 let n2:=if x = "}" then n1 - 1 else n1
 (if s.1 < n2 then n2 else s.1,n2)
def Fz (ws:List Str):Int:=(ws.foldl Fy (0,0)).1
inductive Xs (K:FA) (vs:List V) (H:Hp) (Q:VK):Prop
 | mk (a:Addr) (ws:List Str) (_:vs = [.ref a]) (_:SqL K H a (ws.map V.str)) (_:Q (.int (Fz ws)) H):Xs K vs H Q
def AbO (K:FA):Sp:=λ vs H Q _=>Xs K vs H Q
section
variable {aK aB aM aR:Addr}
theorem Ais (F:Bd K mg "most_open" ["words"] Le) (T:Txt mg):Am P w K mg base 1 "most_open" ["words"] (AbO K):=by
 refine F.ok Ds (λ vs H Q E h=>?_) (λ f cdv A outer s H vs Q E hr h=>?_)
 ·obtain ⟨a,ws,rfl,_⟩:=h
  rfl
 obtain ⟨a,ws,rfl,hS,q⟩:=h
 refine ⟨_,(Ac (As (i:=1) Ds.nd rfl (Or.inl rfl) Af)
  (Ac (As (i:=2) Ds.nd rfl (Or.inl rfl) Af)
  (Ac (Fk PassesOwn.never rfl (Dm (pv 0)) (Bn (i:=3) Ds.nd rfl (Or.inl rfl))
   (Ac (Ax (Ao A6 (pv 3) Al (Aw _))
   (Ag (As (i:=2) Ds.nd rfl (Or.inl rfl) (A7 Ju (pv 2) Af)))
   Au)
  (Ac (Ax (Ao A6 (pv 3) Al (Aw _))
   (Ag (As (i:=2) Ds.nd rfl (Or.inl rfl) (A7 U0 (pv 2) Af)))
   Au)
  (Ag (As (i:=1) Ds.nd rfl (Or.inl rfl) (Be (Ny rfl) rfl T.n_max (by decide +kernel) (Aa (pv 1) (Aa (pv 2) Ab))))))))
  (Ag (Aq (pv 1)))))),?_⟩
 refine ⟨_,rfl,a,rfl,⟨_,hS⟩,?_⟩
 refine Hm (K:=K) (xs:=ws.map V.str) (λ i σ H'=>H' = H∧∃ v,σ = [some (.ref a),some (.int ((ws.take i).foldl Fy (0,0)).1),some (.int ((ws.take i).foldl Fy (0,0)).2),v]) ⟨rfl,none,rfl⟩ (λ i a1 H' _ ⟨e,_⟩=>by rw [e]; exact hS) ?_ ?_
 ·rintro i x a1 H' hi ⟨rfl,v,rfl⟩
  rw [uJ] at hi
  obtain ⟨y,hy,rfl⟩:=Option.map_eq_some_iff.mp hi
  have e1:(ws.take (i + 1)).foldl Fy (0,0) = Fy ((ws.take i).foldl Fy (0,0)) y:=by
   rw [uW,hy,foldl_append]
   rfl
  rw [e1]
  generalize (ws.take i).foldl Fy (0,0) = st
  obtain ⟨m0,n0⟩:=st
  have mx:∀ i j:Int,(if j > i then j else i) = if i < j then j else i:=λ _ _=>rfl
  by_cases h1:y = "{"
  ·subst h1
   refine ⟨_,rfl,rfl,_,rfl,Ea ⟨_,rfl,_,_,rfl,rfl,?_⟩⟩
   refine ⟨_,rfl,rfl,_,rfl,Bf (by decide +kernel) ⟨_,rfl,_,rfl,_,_,rfl,?_⟩⟩
   refine ⟨rfl,some (.str "{"),?_⟩
   have e2:Fy (m0,n0) "{" = (if m0 < n0 + 1 then n0 + 1 else m0,n0 + 1):=by
    unfold Fy
    simp only [if_true]
    rw [if_neg (show ¬ ("{" : Str) = "}" by decide +kernel)]
   rw [e2]
   rfl
  ·by_cases h2:y = "}"
   ·subst h2
    refine ⟨_,rfl,rfl,_,rfl,Bf h1 ⟨_,rfl,rfl,_,rfl,Ea ⟨_,rfl,_,_,rfl,rfl,⟨_,rfl,_,rfl,_,_,rfl,?_⟩⟩⟩⟩
    refine ⟨rfl,some (.str "}"),?_⟩
    have e2:Fy (m0,n0) "}" = (if m0 < n0 - 1 then n0 - 1 else m0,n0 - 1):=by
     unfold Fy
     simp only [if_true]
     rw [if_neg h1]
    rw [e2]
    rfl
   ·refine ⟨_,rfl,rfl,_,rfl,Bf h1 ⟨_,rfl,rfl,_,rfl,Bf h2 ⟨_,rfl,_,rfl,_,_,rfl,?_⟩⟩⟩
    refine ⟨rfl,some (.str y),?_⟩
    have e2:Fy (m0,n0) y = (if m0 < n0 then n0 else m0,n0):=by
     unfold Fy
     simp only [h1,h2,if_false]
    rw [e2]
    rfl
 ·rintro a1 H' ⟨rfl,v,rfl⟩
  rw [uD,take_length]
  exact ⟨_,rfl,q⟩
end
structure Os (ws ins outs:List Str) (d:Nat) (t:Nd):Prop where
 ex:∃ r:List Str,ws = ("in" : Str) :: (ins ++ (";" : Str) :: ("out" : Str) :: (outs ++ (";" : Str) :: r))∧Dj d r t []
 nI:∀ x∈ins,nameB x = true
 nO:∀ x∈outs,nameB x = true
 lI:ins.length≤1000
 lO:outs.length≤1000
theorem Ep:nameB ";" = false:=by
 unfold nameB
 have:Txt.isalpha ";" = false:=by decide +kernel
 rw [this]
 rfl
def Sg (H:Hp) (v:V) (ins outs:List Str) (t:Nd):Prop:=∃ th i o vb,v = .ref th∧H th = some (.tup [.ref i,.ref o,vb])∧H i = some (.lst (ins.map V.str))∧H o = some (.lst (outs.map V.str))∧At H t vb
def NmL (ns:List Str):Prop:=(∀ x∈ns,nameB x = true)∧ns.length≤1000
inductive G1:List Str→Prop
 | noIn {ws:List Str} (h:¬ hdS ws = "in"):G1 ws
 | semi1 {ins r:List Str} (n:NmL ins) (h:nameB (hdS r) = false) (h2:¬ hdS r = ";"):G1 (("in" : Str) :: (ins ++ r))
 | noOut {ins r:List Str} (n:NmL ins) (h:¬ hdS r = "out"):G1 (("in" : Str) :: (ins ++ (";" : Str) :: r))
 | semi2 {ins outs r:List Str} (n:NmL ins) (n2:NmL outs) (h:nameB (hdS r) = false) (h2:¬ hdS r = ";"):G1 (("in" : Str) :: (ins ++ (";" : Str) :: ("out" : Str) :: (outs ++ r)))
 | blk {ins outs r:List Str} {d:Nat} (n:NmL ins) (n2:NmL outs) (hd:d≤20) (h:Go d r):G1 (("in" : Str) :: (ins ++ (";" : Str) :: ("out" : Str) :: (outs ++ (";" : Str) :: r)))
 | more {ins outs r r':List Str} {d:Nat} {t:Nd} (n:NmL ins) (n2:NmL outs) (hd:d≤20) (h:Dj d r t r') (h2:¬ hdS r' = ""):G1 (("in" : Str) :: (ins ++ (";" : Str) :: ("out" : Str) :: (outs ++ (";" : Str) :: r)))
def Aa1 (x:Str):Prop:=x.cps.toList.all okC = false∨16 < Fz (wordsT x)∨G1 (wordsT x)
theorem Qg:∀ (L a1 z:List Nat),z∈tok a1 L→(∀ c∈z,c∈a1∨c∈L)∧z.length≤a1.length + L.length
 | [],a1,z,h=>by
  have h:z∈Er a1:=h
  unfold Er at h
  split at h
  ·cases h
  ·rw [mS h]
   exact ⟨λ c hc=>.inl hc,by simp⟩
 | a :: L,a1,z,h=>by
  unfold tok at h
  have fl:z∈Er a1→(∀ c∈z,c∈a1∨c∈a :: L)∧z.length≤a1.length + (a :: L).length:=λ h=>by
   unfold Er at h
   split at h
   ·cases h
   ·rw [mS h]
    exact ⟨λ c hc=>.inl hc,by simp⟩
  split at h
  ·rcases uV.mp h with h | h
   ·exact fl h
   ·obtain ⟨h1,h2⟩:=Qg L [] z h
    exact ⟨λ c hc=>.inr (uI _ ((h1 c hc).resolve_left (by simp))),by rw [uU]; simp at h2; omega⟩
  ·split at h
   ·rcases uV.mp h with h | h
    ·exact fl h
    ·rcases vI.mp h with rfl | h
     ·exact ⟨λ c hc=>.inr (by rw [mS hc]; exact uH),by simp; omega⟩
     ·obtain ⟨h1,h2⟩:=Qg L [] z h
      exact ⟨λ c hc=>.inr (uI _ ((h1 c hc).resolve_left (by simp))),by rw [uU]; simp at h2; omega⟩
   ·obtain ⟨h1,h2⟩:=Qg L (a1 ++ [a]) z h
    refine ⟨λ c hc=>?_,by rw [uF,uG] at h2; rw [uU]; omega⟩
    rcases h1 c hc with h | h
    ·rcases uV.mp h with h | h
     ·exact .inl h
     ·exact .inr (by rw [mS h]; exact uH)
    ·exact .inr (uI _ h)
theorem Agx (h:okC c = true):c < 128:=by
 unfold okC at h
 rw [V0,V0,V0,Bool.or_eq_true,Bool.or_eq_true,contains_iff_mem,contains_iff_mem,contains_iff_mem] at h
 rcases h with (h | h) | h
 ·exact (show ∀ c∈("abcdefghijklmnopqrstuvwxyz" : Str).cps.toList,c < 128 by decide +kernel) c h
 ·exact (show ∀ c∈("{};|" : Str).cps.toList,c < 128 by decide +kernel) c h
 ·exact (show ∀ c∈(" \n" : Str).cps.toList,c < 128 by decide +kernel) c h
theorem Acv (hl:x.length≤3000) (ok:x.cps.toList.all okC = true):∀ y∈wordsT x,rsW y:=λ y hy=>by
 have e:=O6 x
 have a1:y.cps.toList∈tok [] x.cps.toList:=by rw [← e]; exact List.mem_map_of_mem hy
 obtain ⟨h1,h2⟩:=Qg _ _ _ a1
 have l1:y.length≤3000:=by
  have:y.cps.toList.length = y.length:=by simp [Str.length]
  have:x.cps.toList.length = x.length:=by simp [Str.length]
  simp only [length_nil,Nat.zero_add] at h2
  omega
 refine ⟨l1,?_⟩
 have:=reprText_len y λ c hc=>by
  have:=Agx (all_eq_true.mp ok c ((h1 c hc).resolve_left (by simp)))
  exact uZ this (by decide)
 omega
def S6 (cNT:Addr):Sp:=λ vs H Q E=>∃ x:Str,vs = [.str x]∧x.length≤3000 ∧
 ((x.cps.toList.all okC = true∧Fz (wordsT x)≤16∧∃ ins outs d t,d≤20∧Os (wordsT x) ins outs d t∧∀ v H',Same H H'→Sg H' v ins outs t→Q v H') ∨
  (Aa1 x∧∀ H',Same H H'→E (.ref cNT) none H'))
abbrev V5 (d:Nat) (r4:List Str) (QQ:Nd→Prop) (EE:Prop):Prop:=Two (λ t r'=>Dj d r4 t r'∧((r' = []∧QQ t)∨(¬ hdS r' = "" ∧ EE))) (Go d r4∧EE)
abbrev V4 (d:Nat) (r3:List Str) (QQ:Nd→Prop) (EE:Prop):Prop:=(¬ hdS r3 = ";" ∧ EE)∨∃ r4:List Str,r3 = (";" : Str) :: r4∧V5 d r4 QQ EE
abbrev V3 (d:Nat) (r2:List Str) (QQ:List Str→Nd→Prop) (EE:Prop):Prop:=(¬ hdS r2 = "out" ∧ EE)∨∃ outs r3:List Str,r2 = ("out" : Str) :: (outs ++ r3)∧NmL outs∧nameB (hdS r3) = false∧V4 d r3 (QQ outs) EE
abbrev V2 (d:Nat) (r1:List Str) (QQ:List Str→Nd→Prop) (EE:Prop):Prop:=(¬ hdS r1 = ";" ∧ EE)∨∃ r2:List Str,r1 = (";" : Str) :: r2∧V3 d r2 QQ EE
abbrev V1 (d:Nat) (ws:List Str) (QQ:List Str→List Str→Nd→Prop) (EE:Prop):Prop:=(¬ hdS ws = "in" ∧ EE)∨∃ ins r1:List Str,ws = ("in" : Str) :: (ins ++ r1)∧NmL ins∧nameB (hdS r1) = false∧V2 d r1 (QQ ins) EE
theorem Ag5 {ws ins outs:List Str} {d:Nat} {t:Nd} {QQ:List Str→List Str→Nd→Prop} {EE:Prop} (h:Os ws ins outs d t) (hd:d≤20) (q:QQ ins outs t):∃ d,d≤20∧V1 d ws QQ EE:=by
 obtain ⟨⟨r,rfl,hB⟩,nI,nO,lI,lO⟩:=h
 exact ⟨d,hd,.inr ⟨ins,_,rfl,⟨nI,lI⟩,Ep,.inr ⟨_,rfl,.inr ⟨outs,_,rfl,⟨nO,lO⟩,Ep,.inr ⟨_,rfl,.ok t [] ⟨hB,.inl ⟨rfl,q⟩⟩⟩⟩⟩⟩⟩
theorem Ahn {QQ:List Str→List Str→Nd→Prop} (h:G1 ws) (e:EE):∃ d,d≤20∧V1 d ws QQ EE:=by
 cases h with
 | noIn h=>exact ⟨0,by decide,.inl ⟨h,e⟩⟩
 | semi1 n h h2=>exact ⟨0,by decide,.inr ⟨_,_,rfl,n,h,.inl ⟨h2,e⟩⟩⟩
 | noOut n h=>exact ⟨0,by decide,.inr ⟨_,_,rfl,n,Ep,.inr ⟨_,rfl,.inl ⟨h,e⟩⟩⟩⟩
 | semi2 n n2 h h2=>exact ⟨0,by decide,.inr ⟨_,_,rfl,n,Ep,.inr ⟨_,rfl,.inr ⟨_,_,rfl,n2,h,.inl ⟨h2,e⟩⟩⟩⟩⟩
 | blk n n2 hd h=>exact ⟨_,hd,.inr ⟨_,_,rfl,n,Ep,.inr ⟨_,rfl,.inr ⟨_,_,rfl,n2,Ep,.inr ⟨_,rfl,.no ⟨h,e⟩⟩⟩⟩⟩⟩
 | more n n2 hd h h2=>exact ⟨_,hd,.inr ⟨_,_,rfl,n,Ep,.inr ⟨_,rfl,.inr ⟨_,_,rfl,n2,Ep,.inr ⟨_,rfl,.ok _ _ ⟨h,.inr ⟨h2,e⟩⟩⟩⟩⟩⟩⟩
theorem AeU {a:List Str} (h:∀ y∈a ++ b,rsW y):rsW (hdS b):=by
 cases b with
 | nil=>exact Vo
 | cons x r=>exact h x (uS _ uH)
theorem Ys (h:∀ x∈ns,nameB x = true) (hr:rsW (hdS r)):∀ x∈ns ++ [hdS r],x.length≤1000000:=λ x hx=>by
 rcases uV.mp hx with z | z
 ·exact uX (Sn (h x z)) (by decide)
 ·rw [mS z]; exact uX hr.1 (by decide)
section
variable {aK aB aM aR cNT fI:Addr} {fdI:FuncData}
theorem AhH (F:Bd K mg "read_program" ["text"] Hv) (T:Cj K mg C aK aB aM aR) (cs:Cst K mg cNT) (c8:∃ t,mg "MOST_OPEN" = some (.int 16 t)) (e5:Mk K C fI) (GI:Bi P w K mg base CX0 1 fI fdI ["self", "words"] (Nf C)) (bI:Br K fdI ["self", "words"] [])
  (cP:Bc P w K mg base 1 "words_of" ["text"] (Td cNT)) (cM:Am P w K mg base 1 "most_open" ["words"] (AbO K))
  (aD:Cy P w K mg base 3 C "expect" ["self", "wanted"] (Gh C cNT)) (cC:Cu P w K mg base 3 C "take_names" ["self"] (Pa C)) (dB:Cy P w K mg base 2 C "expect_end" ["self"] (Pb C cNT))
  (CB:∀ d,Bc P w K mg base (5 * d + 9) "read_block" ["words"] (Fa C cNT (Dj d) (Go d))):Bc P w K mg base 110 "read_program" ["text"] (S6 cNT):=by
 refine F.okX Co (λ vs H Q E h=>?_) (λ f cdv A outer s H vs Q E hr h=>?_)
 ·obtain ⟨x,rfl,_⟩:=h
  rfl
 obtain ⟨x,rfl,hl,h⟩:=h
 obtain ⟨f1,a9⟩:=c8
 by_cases a1:x.cps.toList.all okC = false∨16 < Fz (wordsT x)
 ·have hE:∀ H',Same H H'→E (.ref cNT) none H':=by
   rcases h with ⟨hok,a2,_⟩ | ⟨_,hE⟩
   ·rcases a1 with z | z
    ·rw [hok] at z; cases z
    ·omega
   ·exact hE
  refine ⟨_,(Ac (As (i:=1) Co.nd rfl (Or.inl rfl) (Bm cP hr rfl (Aa (pv 0) Ab)))
  (Ac (Ax (Ao Qk (Ap cM hr rfl Av (Aa (pv 1) Ab)) (Bb (v:=.int 16) rfl a9 ⟨_,rfl⟩) (Aw _))
   (Ag (Ci cs.excNT cs.noText rfl (Aa Al Ab)))
   Au)
  Abp)),?_⟩
  refine ⟨_,rfl,x,rfl,hl,?_⟩
  cases hok:x.cps.toList.all okC with
  | false=>exact .inr ⟨rfl,hE _ (Same.refl _)⟩
  | true =>
   refine .inl ⟨rfl,λ p hp=>?_⟩
   have a2:16 < Fz (wordsT x):=by
    rcases a1 with z | z
    ·rw [hok] at z; cases z
    ·exact z
   refine ⟨_,rfl,p,wordsT x,rfl,SqL.of Ae,_,_,rfl,rfl,_,rfl,B0 (λ _=>⟨by show 1≤sizeLine; decide,hE _ (Ah hp _)⟩) λ z=>?_⟩
   exact absurd a2 (of_decide_eq_false z)
 have hok:x.cps.toList.all okC = true:=by
  cases z:x.cps.toList.all okC with
  | true=>rfl
  | false=>exact absurd (.inl z) a1
 have a2:Fz (wordsT x)≤16:=by
  by_cases z:16 < Fz (wordsT x)
  ·exact absurd (.inr z) a1
  ·omega
 have rs:=Acv hl hok
 obtain ⟨d,hd,VV⟩:∃ d,d≤20∧V1 d (wordsT x) (λ ins outs t=>∀ v H',Same H H'→Sg H' v ins outs t→Q v H') (∀ H',Same H H'→E (.ref cNT) none H'):=by
  rcases h with ⟨_,_,ins,outs,d,t,hd,Wh,q⟩ | ⟨b,hE⟩
  ·exact Ag5 Wh hd q
  ·rcases b with z | z | z
   ·exact absurd (.inl z) a1
   ·exact absurd (.inr z) a1
   ·exact Ahn z hE
 clear h a1
 have bP:Bc P w K mg base 109 "read_block" ["words"] (Fa C cNT (Dj d) (Go d)):=(CB d).mono (by omega)
 refine ⟨_,(Ac (As (i:=1) Co.nd rfl (Or.inl rfl) (Bm cP hr rfl (Aa (pv 0) Ab)))
 (Ac (Ax (Ao Qk (Ap cM hr rfl Av (Aa (pv 1) Ab)) (Bb (v:=.int 16) rfl a9 ⟨_,rfl⟩) (Aw _))
  (Ag Bq)
  Au)
 (Ac (As (i:=2) Co.nd rfl (Or.inl rfl) (Rz e5 GI (hr.mono (by decide)) rfl T.m_Words bI .nil Av (Aa (pv 1) Ab)))
 (Ac (Bo (Dh aD hr (pv 2) (Aa Al Ab)))
 (Ac (As (i:=3) Co.nd rfl (Or.inl rfl) (Bt cC hr Av (pv 2)))
 (Ac (Bo (Dh aD hr (pv 2) (Aa Al Ab)))
 (Ac (Bo (Dh aD hr (pv 2) (Aa Al Ab)))
 (Ac (As (i:=4) Co.nd rfl (Or.inl rfl) (Bt cC hr Av (pv 2)))
 (Ac (Bo (Dh aD hr (pv 2) (Aa Al Ab)))
 (Ac (As (i:=5) Co.nd rfl (Or.inl rfl) (Bm bP hr rfl (Aa (pv 2) Ab)))
 (Ac (Bo (Io dB hr (pv 2)))
 (Ag (Aq (Bg (Aa (pv 3) (Aa (pv 4) (Aa (pv 5) Ab))))))))))))))))),?_⟩
 refine ⟨_,rfl,x,rfl,hl,.inl ⟨hok,λ p hp=>?_⟩⟩
 refine ⟨_,rfl,p,wordsT x,rfl,SqL.of Ae,_,_,rfl,rfl,_,rfl,B0 (λ z=>?_) λ _=>?_⟩
 ·have:=uN z
  omega
 have gp:=Ah hp (.lst ((wordsT x).map V.str))
 refine ⟨_,rfl,λ o dx no a5 f2=>?_⟩
 have a3:(L2.upd H p (.lst ((wordsT x).map V.str))) p = some (.lst ((wordsT x).map V.str)):=Ae
 have f4:p≠o:=λ z=>by rw [← z,a3] at no; cases no
 have f3:p≠dx:=λ z=>by rw [← z,a3] at a5; cases a5
 have s0:Same (L2.upd H p (.lst ((wordsT x).map V.str))) (upd (upd (L2.upd H p (.lst ((wordsT x).map V.str))) dx (.own o)) o (.ins C dx [])):=λ b u e=>by
  rw [upd_ne (Ay e no),upd_ne (Ay e a5)]
  exact e
 refine ⟨o,dx,p,wordsT x,rfl,Ae,s0 _ _ a3,rs,λ H2 k2 W2=>⟨rfl,?_⟩⟩
 have oH:=gp.free no
 have g2:=(gp.trans s0).byKp oH k2
 obtain ⟨d9,p2,c0⟩:=W2.ins
 refine ⟨_,rfl,o,d9,_,rfl,c0,Cn.2.2.1,o,p,_,_,rfl,W2,G2.2.2.2.2.2.1,?_⟩
 rcases VV with ⟨ne,e⟩ | ⟨ins,r1,ew,⟨nI,lI⟩,d8,VV⟩
 ·exact .inr ⟨ne,λ H3 k3=>e _ (g2.byKp oH k3)⟩
 rw [ew] at rs
 refine .inl ⟨by rw [ew]; rfl,λ H3 k3 W3=>?_⟩
 rw [ew] at W3
 have W3:=W3
 obtain ⟨b9,p3,a8⟩:=W3.ins
 have g3:=g2.byKp oH k3
 have c6:=AeU (a:=("in" : Str) :: ins) rs
 refine ⟨_,rfl,o,b9,_,rfl,a8,Cn.2.2.2.2.1,o,p,ins,_,rfl,W3,nI,Ys nI c6,d8,uX lI (by decide),λ pi H4 k4 b6 f0 W4=>?_⟩
 have e3:pi≠o:=λ z=>by rw [z,a8] at b6; cases b6
 obtain ⟨e9,p4,c4⟩:=W4.ins
 have g4:=g3.byKp oH k4
 refine ⟨_,rfl,o,e9,_,rfl,c4,Cn.2.2.1,o,p,_,_,rfl,W4,G2.1,?_⟩
 rcases VV with ⟨ne,e⟩ | ⟨r2,rfl,VV⟩
 ·exact .inr ⟨ne,λ H5 k5=>e _ (g4.byKp oH k5)⟩
 refine .inl ⟨rfl,λ H5 k5 W5=>?_⟩
 obtain ⟨c9,p5,c3⟩:=W5.ins
 have g5:=g4.byKp oH k5
 refine ⟨_,rfl,o,c9,_,rfl,c3,Cn.2.2.1,o,p,_,_,rfl,W5,G2.2.2.2.2.2.2,?_⟩
 rcases VV with ⟨ne,e⟩ | ⟨outs,r3,a4,⟨nO,lO⟩,e6,VV⟩
 ·exact .inr ⟨ne,λ H6 k6=>e _ (g5.byKp oH k6)⟩
 have a4:=a4
 subst a4
 refine .inl ⟨rfl,λ H6 k6 W6=>?_⟩
 obtain ⟨b8,p6,a7⟩:=W6.ins
 have g6:=g5.byKp oH k6
 have c7:=AeU (a:=("in" : Str) :: (ins ++ (";" : Str) :: ("out" : Str) :: outs)) (λ y hy=>rs y (by simpa using hy))
 refine ⟨_,rfl,o,b8,_,rfl,a7,Cn.2.2.2.2.1,o,p,outs,_,rfl,W6,nO,Ys nO c7,e6,uX lO (by decide),λ po H7 k7 a6 b7 W7=>?_⟩
 have e4:po≠o:=λ z=>by rw [z,a7] at a6; cases a6
 obtain ⟨e7,p7,e0⟩:=W7.ins
 have g7:=g6.byKp oH k7
 refine ⟨_,rfl,o,e7,_,rfl,e0,Cn.2.2.1,o,p,_,_,rfl,W7,G2.1,?_⟩
 rcases VV with ⟨ne,e⟩ | ⟨r4,rfl,VV⟩
 ·exact .inr ⟨ne,λ H8 k8=>e _ (g7.byKp oH k8)⟩
 refine .inl ⟨rfl,λ H8 k8 W8=>?_⟩
 have g8:=g7.byKp oH k8
 refine ⟨_,rfl,o,p,_,rfl,W8,?_⟩
 cases VV with
 | no z=>exact .no ⟨z.1,λ H9 k9=>z.2 _ (g8.byKp oH k9)⟩
 | ok t r' z =>
 refine .ok t r' ⟨z.1,λ vb H9 k9 W9 A9=>?_⟩
 obtain ⟨e8,p9,d7⟩:=W9.ins
 have g9:=g8.byKp oH k9
 refine ⟨_,rfl,o,e8,_,rfl,d7,Cn.2.2.2.2.2,o,p,_,rfl,W9,?_⟩
 rcases z.2 with ⟨rfl,q⟩ | ⟨ne,e⟩
 ·refine .inl ⟨rfl,⟨_,rfl,_,rfl,_,rfl,zN3,λ th c5=>?_⟩⟩
  have gt:=Ah c5 (.tup [.ref pi,.ref po,vb])
  refine q _ _ (g9.trans gt) ⟨th,pi,po,vb,rfl,Ae,gt _ _ ?_,gt _ _ ?_,A9.mono gt.tp⟩
  ·exact ((((k5.trans k6).trans k7).trans k8).trans k9) _ _ e3 f0
  ·exact (k8.trans k9) _ _ e4 b7
 ·exact .inr ⟨ne,e _ g9⟩
end
end Rd
namespace Rd
open PySem L2 My
inductive Ud  (vs:List V) (H:Hp) (Q:VK):Prop
 | mk (v:_) (xs:_) (_:vs = [v]) (_:At H (.t xs) v) (_:xs.length≤8) (_:∀ r ws,H r = none→AtL H (inner xs) ws→Q (.ref r) (upd H r (.lst ws))):Ud  vs H Q
def Oh:Sp:=λ vs H Q _=>Ud  vs H Q
inductive Uh  (vs:List V) (H:Hp) (Q:VK):Prop
 | mk (v:_) (n:_) (_:vs = [v]) (_:At H n v) (_:isT n = true) (_:F5 n = true) (_:cnt n≤1200) (_:∀ r ws H',Same H H'→H' r = some (.lst ws)→AtL H' (pre n) ws→Q (.ref r) H'):Uh  vs H Q
def Yl:Sp:=λ vs H Q _=>Uh  vs H Q
theorem AiY (F:Bd K mg "inner_parts" ["part"] Gb) (T:Txt mg):Am P w K mg base 1 "inner_parts" ["part"] Oh:=by
 refine F.ok Sf (λ vs H Q E h=>?_) (λ f cdv A outer s H vs Q E hr h=>?_)
 ·obtain ⟨v,xs,rfl,_⟩:=h
  rfl
 obtain ⟨v,xs,rfl,hv,hl,q⟩:=h
 refine ⟨_,Ag (Aq (Fw (tc:=tB (tCB (AgV K) (B3 (Bl 0) (B3 (tC (.ty "tuple")) Dq)))) ["piece"] [] rfl (Ei (Aj Gb) ["part"] (by decide +kernel)) (AcK (pv 0))
  (λ s2 H2 fp cl C=>Bn (i:=0) (show Nodup [("piece" : Str)] from by decide +kernel) rfl (Or.inl rfl)) (Cr (by decide))
  (λ s2 H2 fp cl C=>Jq (Js (Be O9 rfl T.n_isinstance PyProof.Rows.boot_isinstance (Aa (pv 0) (Aa (Oi rfl T.n_tuple (by decide +kernel) (v:=.ty "tuple") rfl) Ab)))))
  (λ s2 H2 fp cl C=>pv 0))),?_⟩
 obtain ⟨a,vs,rfl,ha,hx⟩:=hv.get
 refine ⟨_,rfl,a,rfl,⟨_,SqT.of ha⟩,?_⟩
 have a3:=hx.len
 refine Aet (xs:=vs) (F:=λ D ys H=>Q (.ref D) (upd H D (.lst ys))) (λ i ys H'=>H' = H∧AtL H (inner (xs.take i)) ys) ⟨rfl,by simpa [inner] using AtL.nil⟩ (B9 (by omega))
  (λ i ys H' hi ⟨e,_⟩=>⟨vs,vs[i],by rw [e]; exact SqT.of ha,by simp [hi]⟩) (λ ys H' ⟨e,_⟩=>⟨vs,by rw [e]; exact SqT.of ha,uY _⟩)
  (λ i ys H1 x H2 ⟨e,_⟩ ⟨e',y⟩=>⟨e',y vs (by rw [e]; exact SqT.of ha)⟩) ?_ (λ x σ H Q Q' h q=>h _ _ q) ?_ ?_ ?_
 ·rintro i x ys H' hi ⟨rfl,hy⟩
  obtain ⟨n,hn,a2⟩:=hx.at hi
  obtain ⟨t,ty,ek⟩:=Ag9 (K:=K) a2
  have a1:xs.take (i + 1) = xs.take i ++ [n]:=by
   rw [take_add_one,hn]; rfl
  refine ⟨x,rfl,_, "tuple", t,_,rfl,ty,ek,_,rfl,?_⟩
  refine K6 (λ c=>?_) (λ c=>?_)
  ·refine ⟨x,rfl,rfl,?_⟩
   have:inner (xs.take (i + 1)) = inner (xs.take i) ++ [n]:=by rw [a1]; simp [inner,c]
   rw [this]
   exact hy.append (.cons a2 .nil)
  ·refine ⟨rfl,?_⟩
   have:inner (xs.take (i + 1)) = inner (xs.take i):=by rw [a1]; simp [inner,c]
   rw [this]
   exact hy
 ·rintro σ H Q Q' h ⟨v,e,x,T,t,b,e2,ty,ek,c,e3,q⟩
  exact ⟨v,e,x,T,t,b,e2,ty,ek,c,e3,h _ _ q⟩
 ·rintro σ H Q Q' h ⟨v,e,q⟩
  exact ⟨v,e,h _ _ q⟩
 ·rintro ys H' ⟨rfl,hy⟩ D hD
  refine q D ys hD ?_
  rw [uT (by omega)] at hy
  exact hy
theorem Ah7 (F:Bd K mg "every_part" ["part"] Kf) (aV:Am P w K mg base 1 "inner_parts" ["part"] Oh):Am P w K mg base 2 "every_part" ["part"] Yl:=by
 refine F.ok Ga (λ vs H Q E h=>?_) (λ f cdv A outer s H vs Q E hr h=>?_)
 ·obtain ⟨v,n,rfl,_⟩:=h
  rfl
 obtain ⟨v,n,rfl,hv,hT,hs,hc,q⟩:=h
 refine ⟨_,Ac (As (i:=1) Ga.nd rfl (Or.inl rfl) (Ba Ab))
  (Ac (As (i:=2) Ga.nd rfl (Or.inl rfl) (Ba (Aa (pv 0) Ab)))
  (Ac (Hq PassesOwn.never (Ch (pv 2) (λ _=>rfl))
   (Ac (As (i:=3) Ga.nd rfl (Or.inl rfl) (Vm PySem.F.plainAttrs_list PySem.F.slot_list_pop PySem.F.type_list_pop Agy (pv 2)))
   (Ac (Bo (Ew PySem.F.plainAttrs_list PySem.F.slot_list_append PySem.F.type_list_append Iv (pv 1) (Aa (pv 3) Ab)))
   (Ag (Bo (Ew PySem.F.plainAttrs_list PySem.F.slot_list_extend PySem.F.type_list_extend Abb (pv 2) (Aa (Ap aV hr rfl Av (Aa (pv 3) Ab)) Ab)))))))
  (Ag (Aq (pv 1))))),?_⟩
 refine ⟨zN0,λ fo c4=>⟨_,rfl,zN1,λ wa a5=>?_⟩⟩
 have a4:wa≠fo:=by
  rintro rfl
  rw [Ae] at a5
  cases a5
 have a9:H wa = none:=by rw [upd_ne a4] at a5; exact a5
 dsimp only [Cg,tSeq]
 refine Vi (λ σ H1=>∃ fs st us ws c7,σ = [some v,some (.ref fo),some (.ref wa),c7]∧Same H H1∧H1 fo = some (.lst us)∧H1 wa = some (.lst ws)∧AtL H1 fs us∧AtL H1 st ws∧fs ++ Dw st = pre n∧(∀ x∈st,isT x = true)∧B6 st = true)
  (λ σ H1=>match H1 fo with | some (.lst us)=>1300 - us.length | _=>0) ?_ ?_ ?_
 ·refine ⟨[],[n],[],[v],none,rfl,(Ah c4 _).trans (Ah a5 _),?_,Ae,.nil,?_,?_,?_,?_⟩
  ·rw [upd_ne a4.symm,Ae]
  ·exact .cons (hv.mono ((Ah c4 _).trans (Ah a5 _)).tp) .nil
  ·show Dw [n] = pre n
   rw [Eo,Mf,nil_append]
  ·intro x hx
   rw [mS hx]
   exact hT
  ·exact Ji hs Tx
 ·rintro σ H1 ⟨fs,st,us,ws,c7,rfl,g0,hf,hw,aF,aS,e,b7,c9⟩
  refine ⟨_,rfl,_,.inl ⟨ws,SqL.of hw,rfl⟩,?_⟩
  refine K6 (λ c=>?_) (λ c=>?_)
  ·
   have c6:st≠[]:=by
    rintro rfl
    have:=aS.len
    cases ws with
    | nil=>simp at c
    | cons _ _=>simp at this
   obtain ⟨a2,x,rfl⟩:∃ a2 x,st = a2 ++ [x]:=⟨st.dropLast,st.getLast c6,(List.dropLast_concat_getLast c6).symm⟩
   obtain ⟨a1,wx,rfl,d9,aX⟩:=aS.split
   obtain ⟨y,rfl,aY⟩:=aX.one
   have hx:=b7 x (by simp)
   obtain ⟨ns,rfl⟩:∃ ns,x = .t ns:=by
    cases x with
    | t ns=>exact ⟨ns,rfl⟩
    | s _=>cases hx
    | i _=>cases hx
   have a8:fs.length + (Dw (a2 ++ [.t ns])).length = cnt n:=by
    have:=congrArg length e
    rw [uF] at this
    exact this
   have c5:Dw (a2 ++ [.t ns]) = .t ns :: (Dw ns ++ Dw a2):=by
    rw [K0,Eo,Mf,nil_append,AbF]; rfl
   have e3:=aF.len
   have sl:=Mh c9
   have c3:=Adv sl.2
   have e0:fs.length < 1300:=by rw [c5] at a8; simp at a8; omega
   have d8:(a1 ++ [y]).length≤1200:=by
    have h1:=aS.len
    have h2:(a2 ++ [Nd.t ns]).length≤(Dw (a2 ++ [.t ns])).length:=by
     have:∀ l:List Nd,(∀ x∈l,isT x = true)→l.length≤(Dw l).length:=by
      intro l
      induction l with
      | nil=>intro _; exact vV _
      | cons z r ih =>
       intro h
       rw [Eo,uF,uU]
       have hz:=h z uH
       have:=ih λ x hx=>h x (uI _ hx)
       cases z with
       | t zs=>rw [AbF,uU]; omega
       | s _=>cases hz
       | i _=>cases hz
     exact this _ b7
    omega
   refine ⟨_,rfl,.inl ⟨rfl,_,SqL.of hw⟩,wa,_,y,rfl,rfl,hw,by simp,?_⟩
   have b9:=a4.symm
   have b8:(upd H1 wa (.lst (a1 ++ [y]).dropLast)) fo = some (.lst us):=by rw [upd_ne b9]; exact hf
   have T1:Tp H1 (upd H1 wa (.lst (a1 ++ [y]).dropLast)):=Tp.lst hw
   refine ⟨_,rfl,.inl ⟨rfl,_,SqL.of b8⟩,_,rfl,fo,_,_,rfl,rfl,b8,vA (show us.length≤1300 by omega) (by decide),?_⟩
   have T2:=T1.trans (Tp.lst (o:=.lst (us ++ [y])) b8)
   have a6:(upd (upd H1 wa (.lst (a1 ++ [y]).dropLast)) fo (.lst (us ++ [y]))) wa = some (.lst a1):=by rw [upd_ne a4,Ae]; simp
   have b6:(upd (upd H1 wa (.lst (a1 ++ [y]).dropLast)) fo (.lst (us ++ [y]))) fo = some (.lst (us ++ [y])):=Ae
   refine ⟨_,rfl,.inl ⟨rfl,_,SqL.of a6⟩,_,rfl,y,ns,rfl,aY.mono T2,Vc c3,λ r zs a3 hz=>?_⟩
   have a7:=Ay a6 a3
   have c0:=Ay b6 a3
   have T3:=T2.trans (Tp.new (o:=.lst zs) a3)
   have zl:=hz.len
   have il:(inner ns).length≤ns.length:=length_filter_le _ _
   refine ⟨wa,r,a1,zs,rfl,rfl,by rw [upd_ne a7]; exact a6,Ae,?_,?_⟩
   ·have:=Vc c3
    simp at d8
    exact uX (show _≤1300 by omega) (by decide)
   have T4:=T3.trans (Tp.lst (o:=.lst (a1 ++ zs)) (a:=wa) (ys:=a1) (by rw [upd_ne a7]; exact a6))
   refine ⟨⟨fs ++ [.t ns],a2 ++ inner ns,us ++ [y],a1 ++ zs,_,rfl,?_,?_,Ae,?_,?_,?_,?_,?_⟩,?_⟩
   ·have c8:H r = none:=by
     cases e:H r with
     | none=>rfl
     | some o =>
      have h1:=g0 r o e
      rw [upd_ne c0.symm,upd_ne a7.symm] at a3
      rw [h1] at a3
      cases a3
    exact (((g0.young a9 _).young c4 _).young c8 _).young a9 _
   ·rw [upd_ne b9,upd_ne c0]
    exact b6
   ·exact (aF.mono T4).append (.cons (aY.mono T4) .nil)
   ·have T5:Tp (upd (upd H1 wa (.lst (a1 ++ [y]).dropLast)) fo (.lst (us ++ [y]))) (upd (upd (upd (upd H1 wa (.lst (a1 ++ [y]).dropLast)) fo (.lst (us ++ [y]))) r (.lst zs)) wa (.lst (a1 ++ zs))) :=
     (Tp.new (o:=.lst zs) a3).trans (Tp.lst (o:=.lst (a1 ++ zs)) (a:=wa) (ys:=a1) (by rw [upd_ne a7]; exact a6))
    exact (d9.mono T4).append (hz.mono T5)
   ·rw [K0,Qt,← e,c5]
    simp
   ·intro x hx
    rcases uV.mp hx with z | z
    ·exact b7 x (vU _ z)
    ·exact Ae7 x z
   ·exact Nz sl.1 (Ky (Aec c3))
   ·show (match (upd (upd (upd (upd H1 wa (.lst (a1 ++ [y]).dropLast)) fo (.lst (us ++ [y]))) r (.lst zs)) wa (.lst (a1 ++ zs))) fo with | some (.lst us)=>1300 - us.length | _=>0) < (match H1 fo with | some (.lst us)=>1300 - us.length | _=>0)
    rw [upd_ne b9,upd_ne c0,b6,hf]
    show 1300 - (us ++ [y]).length < 1300 - us.length
    rw [uF,uG]
    omega
  ·
   have d7:ws = []:=by
    cases ws with
    | nil=>rfl
    | cons _ _=>simp at c
   subst d7
   have h0:=aS.len
   have:st = []:=length_eq_zero_iff.mp h0
   subst this
   rw [Mf,vG] at e
   subst e
   exact ⟨_,rfl,q fo us H1 g0 hf aF⟩
 ·rintro σ H Q Q' h ⟨v,e,k,t,q⟩
  exact ⟨v,e,k,t,h _ _ q⟩
inductive Tq  (vs:List V) (H:Hp) (Q:VK):Prop
 | mk (v:_) (n:_) (_:vs = [v]) (_:At H n v) (_:isT n = true) (_:F5 n = true) (_:cnt n≤1200) (_:∀ H',Same H H'→Q (.int (cnt n)) H'):Tq  vs H Q
def Zj:Sp:=λ vs H Q _=>Tq  vs H Q
theorem Aid (F:Bd K mg "parts" ["block"] Sj) (T:Txt mg) (dC:Am P w K mg base 2 "every_part" ["part"] Yl):Am P w K mg base 3 "parts" ["block"] Zj:=by
 refine F.ok AeA (λ vs H Q E h=>?_) (λ f cdv A outer s H vs Q E hr h=>?_)
 ·obtain ⟨v,n,rfl,_⟩:=h
  rfl
 obtain ⟨v,n,rfl,hv,hT,hs,hc,q⟩:=h
 refine ⟨_,(Ag (Aq (Be Nh rfl T.n_len PySem.boot_len (Aa (Ap dC hr rfl Av (Aa (pv 0) Ab)) Ab)))),?_⟩
 refine ⟨_,rfl,v,n,rfl,hv,hT,hs,hc,λ r ws H' g e a=>?_⟩
 refine ⟨r,ws,rfl,.inl (SqL.of e),?_⟩
 have:=a.len
 rw [← this]
 exact q H' g
def Ie:List Str:=["send", "keep", "await", "if", "hold", "watch", "weak"]
def No:List Nd→Str
 | .s x :: _=>x
 | _=> ""
def Eh:List Nd→Str
 | _ :: .s x :: _=>x
 | _=> ""
def O0 (xs:List Nd) (sg tr:List Str):Bool:=(!Ie.contains (No xs) || sg.contains (Eh xs)) && (!decide (No xs = "exit") || tr.contains (Eh xs))
def Iy (xs:List Nd) (sg:List Str):List Str:=if No xs = "local" then sg ++ [Eh xs] else sg
def Iz (xs:List Nd) (tr:List Str):List Str:=if No xs = "trap" then tr ++ [Eh xs] else tr
mutual
def chk:Nd→List Str→List Str→Bool
 | .t xs,sg,tr=>O0 xs sg tr && Rw xs (Iy xs sg) (Iz xs tr)
 | _,_,_=>true
def Rw:List Nd→List Str→List Str→Bool
 | [],_,_=>true
 | x :: xs,sg,tr=>chk x sg tr && Rw xs sg tr
end
mutual
def hN:Nd→Nat
 | .t xs=>hNL xs + 1
 | _=>0
def hNL:List Nd→Nat
 | []=>0
 | x :: xs=>max (hN x) (hNL xs)
end
mutual
def wfN:Nd→Bool
 | .t xs=>decide (xs.length≤8) && (match xs with
  | .s w :: r=>(decide (w∈bareL∨w = "again" ∨ w = "then" ∨ w = "beside") || (match r with
   | .s x :: _=>decide (x.length≤1000)
   | _=>false))
  | _=>false) && wfL xs
 | _=>true
def wfL:List Nd→Bool
 | []=>true
 | x :: xs=>wfN x && wfL xs
end
def Ru (cNN:Addr):Sp:=λ vs H Q E=>∃ (x:Str) (a:Addr) (sg:List Str),vs = [.str x,.ref a]∧H a = some (.lst (sg.map V.str))∧x.length≤1000∧((sg.contains x = true∧Q .non H)∨(sg.contains x = false∧E (.ref cNN) none H))
section
variable {cNN aU:Addr}
theorem Agr (x:Str) (sg:List Str):inV (.str x) (sg.map V.str) = sg.contains x:=by
 rw [Hg]
 cases h:sg.contains x with
 | true=>exact uK (contains_iff_mem.mp h)
 | false=>exact uM λ z=>by rw [contains_iff_mem.mpr z] at h; cases h
theorem AiS (F:Bd K mg "check_among" ["name", "names"] Jd) (a1:mg "NoName" = some (.ref cNN)) (eNN:Ja K cNN):Bc P w K mg base 1 "check_among" ["name", "names"] (Ru cNN):=by
 refine F.okX R7 (λ vs H Q E h=>?_) (λ f cdv A outer s H vs Q E hr h=>?_)
 ·obtain ⟨x,a,sg,rfl,_⟩:=h
  rfl
 obtain ⟨x,a,sg,rfl,ha,hl,h⟩:=h
 refine ⟨_,(Ag (Ax (Ao Gm (pv 0) (pv 1) (by rfl))
   (Ag (Ci eNN a1 rfl (Aa (Jo (.cons Al (.cons (AeO (pv 0)) .nil))) Ab)))
   Au)),?_⟩
 refine ⟨_,rfl,_,rfl,a,_,rfl,.inl (SqL.of ha),rfl,D9 _,_,rfl,?_⟩
 have e:=Agr x sg
 rcases h with ⟨hc,q⟩ | ⟨hc,q⟩
 ·refine B0 (λ z=>?_) λ _=>q
  have z':=z
  rw [e,hc] at z'
  cases z'
 ·refine B0 (λ _=>?_) λ z=>?_
  ·have hx:x.length≤sizeLine:=uX hl (by decide)
   refine ⟨_,rfl,?_,_,rfl,_,rfl,hx,_,rfl,?_,?_,by show 1≤sizeLine; decide,q⟩
   ·decide +kernel
   ·rw [strLen_append]
    exact uX (add_le_add (show (Str.empty ++ ("nothing here is called " : Str)).length≤100 by decide +kernel) hl) (by decide)
   ·rw [strLen_append]
    exact uX (add_le_add (show (Str.empty ++ ("nothing here is called " : Str)).length≤100 by decide +kernel) hl) (by decide)
  ·have z':=z
   rw [e,hc] at z'
   cases z'
theorem via {c:TT} {S:V→Hp→Prop} (h1:∀ Q':VK,(∀ v H,S v H→Q' v H)→tIf c ta tb σ H Q') (h2:∀ v H,S v H→Q v H):tIf c ta tb σ H Q:=h1 Q h2
def Lu (cNN:Addr) (k:Nat):Sp:=λ vs H Q E=>∃ (v:V) (xs:List Nd) (a b:Addr) (sg tr:List Str),vs = [v,.ref a,.ref b]∧At H (.t xs) v∧H a = some (.lst (sg.map V.str))∧H b = some (.lst (tr.map V.str))∧wfN (.t xs) = true∧hN (.t xs) + 1≤k∧sg.length + hN (.t xs)≤100000∧tr.length + hN (.t xs)≤100000 ∧
 ((chk (.t xs) sg tr = true∧∀ H',Same H H'→Q .non H')∨(chk (.t xs) sg tr = false∧∀ H',Same H H'→E (.ref cNN) none H'))
theorem Mi:∀ (xs:List Nd) (sg tr:List Str),Rw xs sg tr = (inner xs).all λ x=>chk x sg tr
 | [],_,_=>rfl
 | x :: xs,sg,tr=>by
  have ih:=Mi xs sg tr
  cases x with
  | s y=>simp [Rw,chk,inner,isT,ih]
  | i y=>simp [Rw,chk,inner,isT,ih]
  | t ys=>simp [Rw,inner,isT,ih]
theorem AcI:∀ {xs:List Nd} {x:Nd},x∈xs→hN x≤hNL xs
 | y :: xs,x,h=>by
  rcases vI.mp h with z | z
  ·rw [z]; exact le_max_left _ _
  ·exact uX (AcI z) (le_max_right _ _)
theorem Abs:∀ {xs:List Nd} {x:Nd},wfL xs = true→x∈xs→wfN x = true
 | y :: xs,x,hw,h=>by
  unfold wfL at hw
  rw [Bool.and_eq_true] at hw
  rcases vI.mp h with z | z
  ·rw [z]; exact hw.1
  ·exact Abs hw.2 z
theorem Ac4 {xs:List Nd} {x:Nd} (h:x∈inner xs):x∈xs∧isT x = true:=by
 unfold inner at h
 exact mem_filter.mp h
theorem AfK {xs:List Nd} (h:wfN (.t xs) = true):xs.length≤8∧wfL xs = true∧∃ w r,xs = .s w :: r∧((w∈bareL∨w = "again" ∨ w = "then" ∨ w = "beside")∨∃ x r',r = .s x :: r'∧x.length≤1000):=by
 unfold wfN at h
 rw [Bool.and_eq_true,Bool.and_eq_true] at h
 obtain ⟨⟨h1,h2⟩,h3⟩:=h
 refine ⟨uN h1,h3,?_⟩
 match xs,h2 with
 | .s w :: r,h2 =>
  refine ⟨w,r,rfl,?_⟩
  rcases Bool.or_eq_true_iff.mp h2 with z | z
  ·exact .inl (uN z)
  ·match r,z with
   | .s x :: r',z=>exact .inr ⟨x,r',rfl,uN z⟩
theorem X9:∀ w:Str,(w∈bareL∨w = "again" ∨ w = "then" ∨ w = "beside")→¬ w∈Ie∧¬ w = "exit" ∧ ¬ w = "local" ∧ ¬ w = "trap" := by
 intro w h
 rcases h with h | h | h | h
 ·exact (show ∀ w∈bareL,¬ w∈Ie∧¬ w = "exit" ∧ ¬ w = "local" ∧ ¬ w = "trap" by decide +kernel) w h
 ·subst h; decide +kernel
 ·subst h; decide +kernel
 ·subst h; decide +kernel
theorem AdE (F:Bd K mg "check_there" ["part", "signs", "traps"] Gc) (mU:mg "SIGN_USERS" = some (.ref aU)) (tU:Gp K aU (Ie.map V.str)) (aZ:Bc P w K mg base 1 "check_among" ["name", "names"] (Ru cNN))
  (aV:Am P w K mg base 1 "inner_parts" ["part"] Oh) (bO:Bc P w K mg base (k + 1) "check_there" ["part", "signs", "traps"] (Lu cNN (k + 1))):Bc P w K mg base (k + 2) "check_there" ["part", "signs", "traps"] (Lu cNN (k + 2)):=by
 refine F.okX Fu (λ vs H Q E h=>?_) (λ f cdv A outer s H vs Q E hr h=>?_)
 ·obtain ⟨v,xs,a,b,sg,tr,rfl,_⟩:=h
  rfl
 obtain ⟨v,xs,a,b,sg,tr,rfl,hv,ha,hb,e7,hk,f2,e9,h⟩:=h
 have hQ:chk (.t xs) sg tr = true→∀ H',Same H H'→Q .non H':=λ e=>by
  rcases h with ⟨_,q⟩ | ⟨z,_⟩
  ·exact q
  ·rw [e] at z; cases z
 have hE:chk (.t xs) sg tr = false→∀ H',Same H H'→E (.ref cNN) none H':=λ e=>by
  rcases h with ⟨z,_⟩ | ⟨_,q⟩
  ·rw [e] at z; cases z
  ·exact q
 obtain ⟨h8,e0,wd,r,a4,a6⟩:=AfK e7
 obtain ⟨p,vs,rfl,hp,hL⟩:=hv.get
 have hw:No xs = wd:=by rw [a4]; rfl
 have v0:∃ vr,vs = .str wd :: vr:=by
  rw [a4] at hL
  unfold AtL at hL
  obtain ⟨v,vr,e,hs,_⟩:=hL
  exact ⟨vr,by rw [e,hs.str]⟩
 have nm:(wd∈Ie∨wd = "exit" ∨ wd = "local" ∨ wd = "trap")→(∃ vr,vs = .str wd :: .str (Eh xs) :: vr)∧(Eh xs).length≤1000:=λ z=>by
  rcases a6 with c | ⟨x,r',er,hx⟩
  ·obtain ⟨n1,n2,n3,n4⟩:=X9 wd c
   rcases z with z | z | z | z
   ·exact absurd z n1
   ·exact absurd z n2
   ·exact absurd z n3
   ·exact absurd z n4
  ·subst er
   subst a4
   unfold AtL at hL
   obtain ⟨v,vr,e,hs,a9⟩:=hL
   unfold AtL at a9
   obtain ⟨v2,c9,e2,d7,_⟩:=a9
   exact ⟨⟨c9,by rw [e,e2,hs.str,d7.str]; rfl⟩,hx⟩
 obtain ⟨f0,d9⟩:=v0
 have a0:atI vs ((0:Nat):Int) = some (.str wd):=Ai (j:=0) (by rw [d9]; rfl)
 have a1:(wd∈Ie∨wd = "exit" ∨ wd = "local" ∨ wd = "trap")→atI vs ((1:Nat):Int) = some (.str (Eh xs)):=λ z=>by
  obtain ⟨vr,e⟩:=(nm z).1
  exact Ai (j:=1) (by rw [e]; rfl)
 have cu:∀ {b1 b2:Bool},O0 xs sg tr = false→chk (.t xs) sg tr = false:=λ e=>by unfold chk; rw [e]; rfl
 refine ⟨_,(Ac (Ax (Ao Bw (An Ak (pv 0) Af (λ _ _=>rfl)) (Bb (v:=.ref aU) rfl mU rfl) (by rfl))
   (Ag (Bo (Bm aZ hr rfl (Aa (An Ak (pv 0) Af (λ _ _=>rfl)) (Aa (pv 1) Ab)))))
   Au)
  (Ac (Ax (Ao A6 (An Ak (pv 0) Af (λ _ _=>rfl)) Al (Aw _))
   (Ag (Bo (Bm aZ hr rfl (Aa (An Ak (pv 0) Af (λ _ _=>rfl)) (Aa (pv 2) Ab)))))
   Au)
  (Ac (As (i:=3) Fu.nd rfl (Or.inl rfl) (Bu (Ao A6 (An Ak (pv 0) Af (λ _ _=>rfl)) Al (Aw _)) (A7 Bv (pv 1) (Ba (Aa (An Ak (pv 0) Af (λ _ _=>rfl)) Ab))) (pv 1)))
  (Ac (As (i:=4) Fu.nd rfl (Or.inl rfl) (Bu (Ao A6 (An Ak (pv 0) Af (λ _ _=>rfl)) Al (Aw _)) (A7 Bv (pv 2) (Ba (Aa (An Ak (pv 0) Af (λ _ _=>rfl)) Ab))) (pv 2)))
  (Ag (Fk PassesOwn.leaving rfl (Dm (Ap aV hr rfl Av (Aa (pv 0) Ab))) (Bn (i:=5) Fu.nd rfl (Or.inl rfl))
   (Ag (Bo (Bm bO hr rfl (Aa (pv 5) (Aa (pv 3) (Aa (pv 4) Ab)))))))))))),?_⟩
 refine (λ (c5:(wd∈Ie→sg.contains (Eh xs) = true)→_)=>⟨_,rfl,p,vs,_,.str wd,rfl,rfl,SqT.of hp,a0,aU,_,rfl,.inr (.inr tU),rfl,D9 _,_,rfl,B0 (λ z=>?c1) λ z=>c5 λ y=>absurd y (of_decide_eq_false (Hg.symm.trans z))⟩) ?n1
 case c1 =>
  have hu:=uN (Hg.symm.trans z)
  refine ⟨_,rfl,p,vs,_,_,rfl,rfl,SqT.of hp,a1 (.inl hu),_,rfl,_,a,sg,rfl,ha,(nm (.inl hu)).2,?_⟩
  cases hc:sg.contains (Eh xs) with
  | true=>exact .inl ⟨rfl,c5 λ _=>hc⟩
  | false =>
   refine .inr ⟨rfl,hE (cu (b1:=true) (b2:=true) ?_) _ (Same.refl _)⟩
   unfold O0
   rw [hw,contains_iff_mem.mpr hu,hc]
   rfl
 case n1 =>
 intro hA
 refine (λ (b6:(wd = "exit" → tr.contains (Eh xs) = true)→_)=>⟨_,rfl,p,vs,_,.str wd,rfl,rfl,SqT.of hp,a0,rfl,_,rfl,B0 (λ z=>?c2) λ z=>b6 λ y=>absurd (congrArg V.str y) (of_decide_eq_false z)⟩) ?n2
 case c2 =>
  have hu := V.str.inj (uN z)
  refine ⟨_,rfl,p,vs,_,_,rfl,rfl,SqT.of hp,a1 (.inr (.inl hu)),_,rfl,_,b,tr,rfl,hb,(nm (.inr (.inl hu))).2,?_⟩
  cases hc:tr.contains (Eh xs) with
  | true=>exact .inl ⟨rfl,b6 λ _=>hc⟩
  | false =>
   refine .inr ⟨rfl,hE (cu (b1:=true) (b2:=true) ?_) _ (Same.refl _)⟩
   unfold O0
   rw [hw,hc,uK hu]
   simp
 case n2 =>
 intro hB
 have c6:O0 xs sg tr = true:=by
  unfold O0
  rw [hw,Bool.and_eq_true]
  constructor
  ·cases z:Ie.contains wd with
   | false=>rfl
   | true=>rw [hA (contains_iff_mem.mp z)]; rfl
  ·by_cases h2:wd = "exit"
   ·rw [uK h2,hB h2]; rfl
   ·rw [uM h2]; rfl
 unfold tNext
 dsimp only
 unfold tSeq
 dsimp only
 unfold Pm
 dsimp only
 refine via (S:=λ v' H'=>∃ a',v' = .ref a'∧Same H H'∧H' a' = some (.lst ((Iy xs sg).map V.str))) (λ Q3 a8=>?w3) ?n3
 case w3 =>
  refine ⟨_,rfl,p,vs,_,.str wd,rfl,rfl,SqT.of hp,a0,rfl,_,rfl,B0 (λ z=>?c3) λ z=>⟨_,rfl,a8 (.ref a) H ⟨a,rfl,Same.refl H,?d3⟩⟩⟩
  case d3 =>
   unfold Iy
   rw [hw,if_neg λ y=>absurd (congrArg V.str y) (of_decide_eq_false z)]
   exact ha
  case c3 =>
   have hu := V.str.inj (uN z)
   refine ⟨_,rfl,_,rfl,p,vs,_,_,rfl,rfl,SqT.of hp,a1 (.inr (.inr (.inl hu))),zN1,λ c hc=>?_⟩
   have gc:=Ah hc (.lst [.str (Eh xs)])
   refine ⟨a,c,_,_,rfl,rfl,gc _ _ ha,Ae,?_,λ c2 a5=>?_⟩
   ·rw [uD]
    exact uX (show sg.length + 1≤200000 by omega) (by decide)
   refine a8 (.ref c2) _ ⟨c2,rfl,gc.trans (Ah a5 _),?_⟩
   rw [Ae]
   unfold Iy
   rw [hw,if_pos hu,uP]
   rfl
 case n3 =>
 rintro _ H1 ⟨a',rfl,g1,e4⟩
 have b7:=g1 _ _ hp
 refine via (S:=λ v' H'=>∃ b',v' = .ref b'∧Same H1 H'∧H' b' = some (.lst ((Iz xs tr).map V.str))) (λ Q4 c7=>?w4) ?n4
 case w4 =>
  refine ⟨_,rfl,p,vs,_,.str wd,rfl,rfl,SqT.of b7,a0,rfl,_,rfl,B0 (λ z=>?c4) λ z=>⟨_,rfl,c7 (.ref b) H1 ⟨b,rfl,Same.refl H1,?d4⟩⟩⟩
  case d4 =>
   unfold Iz
   rw [hw,if_neg λ y=>absurd (congrArg V.str y) (of_decide_eq_false z)]
   exact g1 _ _ hb
  case c4 =>
   have hu := V.str.inj (uN z)
   refine ⟨_,rfl,_,rfl,p,vs,_,_,rfl,rfl,SqT.of b7,a1 (.inr (.inr (.inr hu))),zN1,λ c hc=>?_⟩
   have gc:=Ah hc (.lst [.str (Eh xs)])
   refine ⟨b,c,_,_,rfl,rfl,gc _ _ (g1 _ _ hb),Ae,?_,λ c2 a5=>?_⟩
   ·rw [uD]
    exact uX (show tr.length + 1≤200000 by omega) (by decide)
   refine c7 (.ref c2) _ ⟨c2,rfl,gc.trans (Ah a5 _),?_⟩
   rw [Ae]
   unfold Iz
   rw [hw,if_pos hu,uP]
   rfl
 case n4 =>
 rintro _ H2 ⟨b',rfl,g2,d8⟩
 have e5:=g2 _ _ e4
 have a3:=g1.trans g2
 have e3:At H2 (.t xs) (.ref p):=.t (a3 _ _ hp) (hL.mono a3.tp)
 refine ⟨_,rfl,.ref p,xs,rfl,e3,h8,λ r0 ws e6 b9=>⟨r0,rfl,⟨_,SqL.of Ae⟩,?_⟩⟩
 have g3:=Ah e6 (.lst ws)
 have e8:(Iy xs sg).length≤sg.length + 1∧(Iz xs tr).length≤tr.length + 1:=by
  constructor
  ·unfold Iy
   split
   ·rw [uF]; exact uY _
   ·omega
  ·unfold Iz
   split
   ·rw [uF]; exact uY _
   ·omega
 have f1:hN (.t xs) = hNL xs + 1:=rfl
 refine Hm (K:=K) (xs:=ws) (λ i σ H'=>Same (L2.upd H2 r0 (.lst ws)) H'∧(∃ v,σ = [some (.ref p),some (.ref a),some (.ref b),some (.ref a'),some (.ref b'),v])∧((inner xs).take i).all (λ x=>chk x (Iy xs sg) (Iz xs tr)) = true) ⟨Same.refl _,⟨none,rfl⟩,rfl⟩ (λ i a7 H' _ ⟨g,_⟩=>SqL.of (g _ _ Ae)) ?_ ?_
 ·rintro i y a7 H' hi ⟨g,⟨v,rfl⟩,a2⟩
  obtain ⟨x,hx,c8⟩:=b9.at hi
  obtain ⟨c0,b8⟩:=Ac4 (uQ hx)
  have next:chk x (Iy xs sg) (Iz xs tr) = true→((inner xs).take (i + 1)).all (λ x=>chk x (Iy xs sg) (Iz xs tr)) = true:=λ e=>by
   rw [uW,hx,List.all_append,a2]
   simp [e]
  cases x with
  | s y=>cases b8
  | i y=>cases b8
  | t ys =>
   have hh:=AcI c0
   refine ⟨_,rfl,_,rfl,_,rfl,y,ys,a',b',Iy xs sg,Iz xs tr,rfl,c8.mono (g3.trans g).tp,(g3.trans g) _ _ e5,(g3.trans g) _ _ d8,Abs e0 c0,by omega,by omega,by omega,?_⟩
   cases hc:chk (.t ys) (Iy xs sg) (Iz xs tr) with
   | true=>exact .inl ⟨rfl,λ H' g'=>⟨g.trans g',⟨_,rfl⟩,next hc⟩⟩
   | false =>
    refine .inr ⟨rfl,λ H5 g5=>hE ?_ H5 (((a3.trans g3).trans g).trans g5)⟩
    unfold chk
    rw [c6,Mi,Bool.true_and]
    cases z:(inner xs).all λ x=>chk x (Iy xs sg) (Iz xs tr) with
    | false=>rfl
    | true =>
     have:=all_eq_true.mp z _ (uQ hx)
     rw [hc] at this
     cases this
 ·rintro a7 H' ⟨g,⟨v,rfl⟩,a2⟩
  refine hQ ?_ H' ((a3.trans g3).trans g)
  unfold chk
  rw [c6,Mi,Bool.true_and]
  rw [uT (le_of_eq b9.len)] at a2
  exact a2
theorem AcW (F:Bd K mg "check_there" ["part", "signs", "traps"] Gc) (mU:mg "SIGN_USERS" = some (.ref aU)) (tU:Gp K aU (Ie.map V.str)) (aZ:Bc P w K mg base 1 "check_among" ["name", "names"] (Ru cNN))
  (aV:Am P w K mg base 1 "inner_parts" ["part"] Oh):∀ k,Bc P w K mg base (k + 1) "check_there" ["part", "signs", "traps"] (Lu cNN (k + 1))
 | 0=>(F.zeroX (sp:=Lu cNN 1) λ vs H Q E h=>by
   obtain ⟨v,xs,a,b,sg,tr,_,_,_,_,_,hk,_⟩:=h
   have a1:hNL xs + 1 + 1≤1:=hk
   omega).mono (by decide)
 | k + 1=>AdE F mU tU aZ aV (AcW F mU tU aZ aV k)
end
def Gd (t:Nd):Prop:=isT t = true∧F5 t = true∧wfN t = true
theorem gd1 {w:Str} (h:w∈bareL):Gd (.t [.s w]):=by
 refine ⟨rfl,by simp [F5,B6],?_⟩
 simp [wfN,wfL,h]
theorem Ac0 (h:nameB x = true):x.length≤1000:=uX (Sn h) (by decide)
theorem gd2 {w:Str} (h:nameB x = true):Gd (.t [.s w,.s x]):=by
 refine ⟨rfl,by simp [F5,B6],?_⟩
 simp [wfN,wfL,Ac0 h]
theorem gd3 {w:Str} (h:nameB x = true) (g:Gd t):Gd (.t [.s w,.s x,t]):=by
 refine ⟨rfl,by simp [F5,B6,g.2.1],?_⟩
 simp [wfN,wfL,Ac0 h,g.2.2]
theorem gdA (g:Gd t):Gd (.t [.s "again", t]):=by
 refine ⟨rfl,by simp [F5,B6,g.2.1],?_⟩
 simp [wfN,wfL,g.2.2]
theorem gdT {w:Str} (hw:w = "then" ∨ w = "beside") {u:Nd} (g:Gd t) (g':Gd u):Gd (.t [.s w,t,u]):=by
 refine ⟨rfl,by simp [F5,B6,g.2.1,g'.2.1],?_⟩
 rcases hw with h | h <;> (subst h; simp [wfN,wfL,g.2.2,g'.2.2])
theorem gdI {w:Str} {u:Nd} (h:nameB x = true) (g:Gd t) (g':Gd u):Gd (.t [.s w,.s x,t,u]):=by
 refine ⟨rfl,by simp [F5,B6,g.2.1,g'.2.1],?_⟩
 simp [wfN,wfL,Ac0 h,g.2.2,g'.2.2]
mutual
theorem Cq.gd:∀ {d:Nat} {r:List Str} {t:Nd} {r':List Str},Cq d r t r'→Gd t
 | _,_,_,_,.brace _ h=>PBr.gd h
 | _,_,_,_,.bare h=>gd1 h
 | _,_,_,_,.named _ hx=>gd2 hx
 | _,_,_,_,.round _ hx h=>gd3 hx (PBr.gd h)
 | _,_,_,_,.again h=>gdA (PBr.gd h)
 | _,_,_,_,.iff h=>PIf.gd h
theorem PBr.gd:∀ {d:Nat} {r:List Str} {t:Nd} {r':List Str},PBr d r t r'→Gd t
 | _,_,_,_,.mk h=>Dj.gd h
theorem PIf.gd:∀ {d:Nat} {r:List Str} {t:Nd} {r':List Str},PIf d r t r'→Gd t
 | _,_,_,_,.one hx h _=>gdI hx (PBr.gd h) (gd1 (by decide +kernel))
 | _,_,_,_,.two hx h h2=>gdI hx (PBr.gd h) (PBr.gd h2)
theorem Eb.gd:∀ {d:Nat} {t0:Nd} {r:List Str} {t:Nd} {r':List Str},Eb d t0 r t r'→Gd t0→Gd t
 | _,_,_,_,_,.done _,g=>g
 | _,_,_,_,_,.more h h2,g=>Eb.gd h2 (gdT (.inl rfl) g (Cq.gd h))
theorem Fr.gd:∀ {d:Nat} {r:List Str} {t:Nd} {r':List Str},Fr d r t r'→Gd t
 | _,_,_,_,.mk h h2=>Eb.gd h2 (Cq.gd h)
theorem Cs.gd:∀ {d:Nat} {t0:Nd} {r:List Str} {t:Nd} {r':List Str},Cs d t0 r t r'→Gd t0→Gd t
 | _,_,_,_,_,.done _,g=>g
 | _,_,_,_,_,.more h h2,g=>Cs.gd h2 (gdT (.inr rfl) g (Fr.gd h))
theorem Dj.gd:∀ {d:Nat} {r:List Str} {t:Nd} {r':List Str},Dj d r t r'→Gd t
 | _,_,_,_,.mk h h2=>Cs.gd h2 (Fr.gd h)
end
mutual
theorem Ace:∀ n:Nd,hN n≤cnt n
 | .s _=>vV _
 | .i _=>vV _
 | .t xs=>by
  rw [AhN]
  have:=Z7 xs
  show hNL xs + 1≤_
  omega
theorem Z7:∀ xs:List Nd,hNL xs≤R9 xs
 | []=>vV _
 | x :: xs=>by
  rw [AbY]
  have h1:=Ace x
  have h2:=Z7 xs
  show max (hN x) (hNL xs)≤_
  omega
end
def AcB (cTw:Addr):Sp:=λ vs H Q E=>∃ (a:Addr) (ns:List Str),vs = [.ref a]∧H a = some (.lst (ns.map V.str))∧ns.length≤2000∧((ns.Nodup∧∀ H',Same H H'→Q .non H')∨(¬ ns.Nodup∧∀ H',Same H H'→E (.ref cTw) none H'))
def Agp (cNT cTw cNN:Addr):Sp:=λ vs H Q E=>∃ x:Str,vs = [.str x]∧x.length≤1000000 ∧
 ((3000 < x.length∧∀ H',Same H H'→E (.ref cNT) none H')∨(x.length≤3000∧Aa1 x∧∀ H',Same H H'→E (.ref cNT) none H') ∨
  (x.length≤3000∧x.cps.toList.all okC = true∧Fz (wordsT x)≤16∧∃ ins outs d t,d≤20∧Os (wordsT x) ins outs d t∧cnt t≤1200 ∧
    ((60 < cnt t∧∀ H',Same H H'→E (.ref cNT) none H')∨(cnt t≤60∧¬ (ins ++ outs).Nodup∧∀ H',Same H H'→E (.ref cTw) none H') ∨
   (cnt t≤60∧(ins ++ outs).Nodup∧((chk t (ins ++ outs) [] = false∧∀ H',Same H H'→E (.ref cNN) none H')∨(chk t (ins ++ outs) [] = true∧∀ v H',Same H H'→Sg H' v ins outs t→Q v H'))))))
section
variable {cNT cTw cNN:Addr}
theorem Ai6 (F:Bd K mg "read" ["text"] X0) (T:Txt mg) (cs:Cst K mg cNT) (c1:∃ t,mg "MOST_SIGNS" = some (.int 3000 t)) (c2:∃ t,mg "MOST_PARTS" = some (.int 60 t))
  (cT:Bc P w K mg base 110 "read_program" ["text"] (S6 cNT)) (eG:Am P w K mg base 3 "parts" ["block"] Zj) (dD:Bc P w K mg base 1 "check_once" ["names"] (AcB cTw))
  (bO:Bc P w K mg base 63 "check_there" ["part", "signs", "traps"] (Lu cNN 63)):Bc P w K mg base 111 "read" ["text"] (Agp cNT cTw cNN):=by
 refine F.okX Y5 (λ vs H Q E h=>?_) (λ f cdv A outer s H vs Q E hr h=>?_)
 ·obtain ⟨x,rfl,_⟩:=h
  rfl
 obtain ⟨x,rfl,hl,h⟩:=h
 obtain ⟨t1,m1⟩:=c1
 obtain ⟨t2,m2⟩:=c2
 refine ⟨_,(Ac (Ax (Gx (Js (Be O9 rfl T.n_isinstance PyProof.Rows.boot_isinstance (Aa (pv 0) (Aa (Oi rfl T.n_str (by decide +kernel) (v:=.ty "str") rfl) Ab)))))
   (Ag Bq)
   Au)
  (Ac (Ax (Ao Qk (Be G6 rfl T.n_len PySem.boot_len (Aa (pv 0) Ab)) (Bb (v:=.int 3000) rfl m1 ⟨_,rfl⟩) (Aw _))
   (Ag (Ci cs.excNT cs.noText rfl (Aa Al Ab)))
   Au)
  (Ac (As (i:=1) Y5.nd rfl (Or.inl rfl) (Bm cT hr rfl (Aa (pv 0) Ab)))
  (Ac (Ax (Ao Qk (Ap eG hr rfl Av (Aa (An Ak (pv 1) Af (λ _ _=>rfl)) Ab)) (Bb (v:=.int 60) rfl m2 ⟨_,rfl⟩) (Aw _))
   (Ag (Ci cs.excNT cs.noText rfl (Aa Al Ab)))
   Au)
  (Ac (Bo (Bm dD hr rfl (Aa (A7 Bv (An Ak (pv 1) Af (λ _ _=>rfl)) (An Ak (pv 1) Af (λ _ _=>rfl))) Ab)))
  (Ac (Bo (Bm bO hr rfl (Aa (An Ak (pv 1) Af (λ _ _=>rfl)) (Aa (A7 Bv (An Ak (pv 1) Af (λ _ _=>rfl)) (An Ak (pv 1) Af (λ _ _=>rfl))) (Aa (Ba Ab) Ab)))))
  (Ag (Aq (pv 1))))))))),?_⟩
 refine ⟨_,rfl,_, "str", _,true,rfl,.str x,rfl,_,rfl,B0 (λ z=>by cases z) λ _=>?_⟩
 refine ⟨_,rfl,x,rfl,uX hl (by decide),_,_,rfl,rfl,_,rfl,B0 (λ z=>?_) λ z=>?_⟩
 ·have hz:3000 < x.length:=by
   have:=uN z
   omega
  refine ⟨by show 1≤sizeLine; decide,?_⟩
  rcases h with ⟨_,hE⟩ | ⟨h1,_⟩ | ⟨h1,_⟩
  ·exact hE _ (Same.refl _)
  ·omega
  ·omega
 have c7:x.length≤3000:=by
  have:=of_decide_eq_false z
  omega
 refine ⟨_,rfl,x,rfl,c7,?_⟩
 rcases h with ⟨h1,_⟩ | ⟨_,b9,hE⟩ | ⟨_,hok,c4,ins,outs,d,t,hd,Wh,hc,h⟩
 ·omega
 ·exact .inr ⟨b9,hE⟩
 refine .inl ⟨hok,c4,ins,outs,d,t,hd,Wh,λ v H1 g1 N1=>?_⟩
 obtain ⟨th,pi,po,vb,rfl,a3,b7,b6,a6⟩:=N1
 obtain ⟨r,_,hB⟩:=Wh.ex
 obtain ⟨gT,gS,gW⟩:=hB.gd
 have lI:=Wh.lI
 have lO:=Wh.lO
 refine ⟨_,rfl,th,_,_,vb,rfl,rfl,SqT.of a3,Ai (j:=2) rfl,vb,t,rfl,a6,gT,gS,hc,λ H2 g2=>⟨_,_,rfl,rfl,_,rfl,B0 (λ z=>?_) λ z=>?_⟩⟩
 ·have hz:60 < cnt t:=by
   have:=uN z
   omega
  refine ⟨by show 1≤sizeLine; decide,?_⟩
  rcases h with ⟨_,hE⟩ | ⟨h1,_⟩ | ⟨h1,_⟩
  ·exact hE _ (g1.trans g2)
  ·omega
  ·omega
 have c9:cnt t≤60:=by
  have:=of_decide_eq_false z
  omega
 have a5:=g2 _ _ a3
 refine ⟨_,rfl,th,_,_,.ref pi,rfl,rfl,SqT.of a5,Ai (j:=0) rfl,_,rfl,th,_,_,.ref po,rfl,rfl,SqT.of a5,Ai (j:=1) rfl,pi,po,_,_,rfl,rfl,g2 _ _ b7,g2 _ _ b6,?_,λ c c6=>?_⟩
 ·rw [uD,uD]
  exact uX (show ins.length + outs.length≤2000 by omega) (by decide)
 have gc:=Ah c6 (.lst (ins.map V.str ++ outs.map V.str))
 refine ⟨c,ins ++ outs,rfl,by rw [Ae,uP],by rw [uF]; omega,?_⟩
 rcases h with ⟨h1,_⟩ | ⟨_,a9,hE⟩ | ⟨_,a9,h⟩
 ·omega
 ·exact .inr ⟨a9,λ H' g'=>hE H' (((g1.trans g2).trans gc).trans g')⟩
 refine .inl ⟨a9,λ H3 g3=>?_⟩
 have a4:=(g2.trans gc).trans g3
 have a2:=a4 _ _ a3
 refine ⟨_,rfl,th,_,_,vb,rfl,rfl,SqT.of a2,Ai (j:=2) rfl,_,rfl,th,_,_,.ref pi,rfl,rfl,SqT.of a2,Ai (j:=0) rfl,_,rfl,th,_,_,.ref po,rfl,rfl,SqT.of a2,Ai (j:=1) rfl,pi,po,_,_,rfl,rfl,a4 _ _ b7,a4 _ _ b6,?_,λ c2 c8=>⟨zN0,λ c3 c5=>?_⟩⟩
 ·rw [uD,uD]
  exact uX (show ins.length + outs.length≤2000 by omega) (by decide)
 have c0:=Ah c8 (.lst (ins.map V.str ++ outs.map V.str))
 have b8:=Ah c5 (.lst [])
 have a8:=(a4.trans c0).trans b8
 cases t with
 | s y=>cases gT
 | i y=>cases gT
 | t xs =>
  have hh:=Ace (.t xs)
  refine ⟨vb,xs,c2,c3,ins ++ outs,[],rfl,a6.mono a8.tp,?_,Ae,gW,by omega,by rw [uF]; omega,by rw [length_nil]; omega,?_⟩
  ·refine b8 _ _ ?_
   rw [Ae,uP]
  ·rcases h with ⟨a7,hE⟩ | ⟨a7,q⟩
   ·exact .inr ⟨a7,λ H' g'=>hE H' ((g1.trans a8).trans g')⟩
   ·refine .inl ⟨a7,λ H6 g6=>⟨_,rfl,?_⟩⟩
    have a1:=a8.trans g6
    exact q _ H6 (g1.trans a1) ⟨th,pi,po,vb,rfl,a1 _ _ a3,a1 _ _ b7,a1 _ _ b6,a6.mono a1.tp⟩
end
end Rd
namespace L2
open PySem PySem.Spec PyProof.Rows
theorem AcF {κ:Type} [DecidableEq κ]:∀ l:List κ,¬ l.Nodup→∃ x∈l,x∈l.erase x
 | [],h=>absurd List.nodup_nil h
 | a :: t,h=>by
  by_cases c:a∈t
  ·exact ⟨a,uH,by rw [List.erase_cons_head]; exact c⟩
  ·obtain ⟨x,hx,a1⟩:=AcF t (λ z=>h (vN.mpr ⟨c,z⟩))
   have ne:x≠a:=λ e=>c (e ▸ hx)
   refine ⟨x,uI _ hx,?_⟩
   rw [List.erase_cons_tail (by simpa using λ e=>ne e.symm)]
   exact uI _ a1
def Ah5 (K:FA) (te:TE):TE:=λ σ H Q=>te σ H λ x H1=>∃ l ts,x = .ref l∧SqL K H1 l ((ts:List Str).map V.str)∧ts.length≤2000∧∀ n:Nat,(ts.Nodup→n = ts.length)→(¬ ts.Nodup→n < ts.length)→Q (.int n) H1
theorem Acf:bootBuiltins "set" = some (.type "set"):=by decide +kernel
theorem Adr (hc:X.calm = true) (hg:Gl X "len") (hm:X.mg "len" = none) (a6:Gl X "set") (a8:X.mg "set" = none) (he:PE X e te)
  (h1:starEach [e] X.env = [(false,eval e X.env)]:=by rfl) (h2:starEach [.Call (.Name "set" p2) [e] [] a2] X.env = [(false,eval (.Call (.Name "set" p2) [e] [] a2) X.env)]:=by rfl) :
  PE X (.Call (.Name "len" p) [.Call (.Name "set" p2) [e] [] a2] [] pos) (Ah5 X.K te):=by
 intro pins s σ H Q I h
 refine wpAny_Call_Name_kw (F8 I hg hm PySem.boot_len ?_ (by decide) (by decide))
 refine PyProof.Rows.callWith_builtin1 ?_ h2 rfl
 rw [h2]
 refine Calls.spliced_cons ?_
 refine wpAny_Call_Name_kw (F8 I a6 a8 Acf ?_ (by decide) (by decide))
 refine PyProof.Rows.callWith_type1 ?_ h1 rfl
 rw [h1]
 refine Calls.spliced_cons (thn (he pins s σ H _ I h) λ u s1 ⟨x,H1,I1,r1,q1⟩=>Calls.spliced_nil ?_)
 obtain ⟨l,ts,rfl,hS,hl,q⟩:=q1
 cases r1
 obtain ⟨a4,rv,pl,hz⟩:=I1.list hS
 have a3:=rv.length
 rw [uD] at a3
 have hsz:a4.toArray.size = a4.length:=by simp
 obtain ⟨sl,rfl,es⟩:=Nt rv
 refine S8 (knd:=strKind X.prog X.w) (ks:=ts) (I1.ok.hd hc) pl.isList (by rw [hsz]; exact a3) (λ i v hv=>?_) (by rw [hsz]; show _ + 1 < 4096; omega) λ s2 m=>Calls.spliced_nil ?_
 ·have a1:(strValues sl)[i]? = some v:=by simpa using hv
  unfold strValues at a1
  rw [uJ] at a1
  cases ei:sl[i]? with
  | none=>rw [ei] at a1; cases a1
  | some p' =>
   rw [ei] at a1
   cases a1
   refine ⟨p'.1,?_,strKind_is _ _ _ _,rfl⟩
   rw [← es,uJ,ei]; rfl
 obtain ⟨h',tk,rfl,S,k1⟩:=m
 obtain ⟨o,a7,ep,t,ms,D⟩:=S
 have e2:=PySem.Paired.length D.pr
 have e3:a7.size = ms.length:=by rw [← e2]; simp
 have l1:=Fj D.nd λ k hk=>(D.mem k).mp hk
 refine call_len_set (s:={ s1 with heap:=h',toks:=tk }) D.at' D.ex D.dat D.fit (by omega) ?_
 have I2:Inv X pins σ H1 { s1 with heap:=h',toks:=tk + 1 + 1 }:=I1.kept λ b u e=>k1 b u (Heap.lt_size e) e
 refine ⟨.int ms.length,H1,I2,⟨_,by rw [e3]⟩,q ms.length (λ nd=>Nat.le_antisymm l1 (Fj nd λ k hk=>(D.mem k).mpr hk)) λ nd=>?_⟩
 obtain ⟨x,hx,a5⟩:=AcF ts nd
 have:=Fj D.nd (l':=ts.erase x) λ k hk=>by
  by_cases c:k = x
  ·subst c; exact a5
  ·exact (List.mem_erase_of_ne c).mpr ((D.mem k).mp hk)
 rw [List.length_erase_of_mem hx] at this
 have hp:=length_pos_of_mem hx
 omega
end L2
namespace Rd
open PySem L2 My
section
variable {cTw:Addr}
theorem Ai7 (F:Bd K mg "check_once" ["names"] Kb) (T:Txt mg) (a2:mg "Twice" = some (.ref cTw)) (a1:Ja K cTw):Bc P w K mg base 1 "check_once" ["names"] (AcB cTw):=by
 refine F.okX Ul (λ vs H Q E h=>?_) (λ f cdv A outer s H vs Q E hr h=>?_)
 ·obtain ⟨a,ns,rfl,_⟩:=h; rfl
 obtain ⟨a,ns,rfl,ha,hl,h⟩:=h
 refine ⟨_,(Ag (Ax (Ao Ut (Adr rfl rfl T.n_len rfl T.n_set (pv 0)) (Be Da rfl T.n_len PySem.boot_len (Aa (pv 0) Ab)) (Aw _))
   (Ag (Ci a1 a2 rfl (Aa Al Ab)))
   Au)),?_⟩
 refine ⟨_,rfl,a,ns,rfl,SqL.of ha,hl,λ n h1 h2=>⟨_,rfl,a,_,rfl,.inl (SqL.of ha),_,_,rfl,rfl,_,rfl,?_⟩⟩
 rcases h with ⟨nd,q⟩ | ⟨nd,e⟩
 ·have:=h1 nd
  rw [uM (by rw [uD]; omega)]
  exact Bj (q H (Same.refl _))
 ·have:=h2 nd
  rw [uK (by rw [uD]; omega)]
  exact Bs ⟨by show 1≤sizeLine; decide,e _ (Same.refl _)⟩
end
end Rd
namespace L2
open PySem PySem.Spec PyProof.Rows
open PySem.Builtin.Str
def Aew:V→List V→Hp→VK→Prop:=λ x vs H Q=>∃ t y,x = .str t∧vs = [.str y]∧Q (.bl (Txt.startswith t y)) H
theorem Ts:MtR X "str.startswith" Aew:=by
 intro pins s σ H x vs v us Q I rx rv h
 obtain ⟨t,y,rfl,rfl,q⟩:=h
 obtain ⟨k,rfl⟩:=rx
 obtain ⟨u,rfl,k2,rfl⟩:=rv.one
 exact SC.startswith ⟨.bl _,H,I,rfl,q⟩
def AfR:V→List V→Hp→VK→Prop:=λ x vs H Q=>∃ t y,x = .str t∧vs = [.str y]∧(y.length == 0) = false∧t.length≤sizeLine∧(Txt.split t y).length≤sizeLine∧∀ p,H p = none→Q (.ref p) (upd H p (.lst ((Txt.split t y).map V.str)))
theorem T8:MtR X "str.split" AfR:=by
 intro pins s σ H x vs v us Q I rx rv h
 obtain ⟨t,y,rfl,rfl,h0,hz,a2,q⟩:=h
 obtain ⟨k,rfl⟩:=rx
 obtain ⟨u,rfl,k2,rfl⟩:=rv.one
 have a1:∀ (l:List (Str× Tok)) (tk:Nat),l.map (·.1) = Txt.split t y→EP X pins σ Q (.ref s.heap.objs.size) { s with heap:=s.heap.push { cls:=.type "list", data:=.seq (strValues l).toArray },toks:=tk }:=λ l tk e=>by
  refine ⟨.ref s.heap.objs.size,_,I.lnew (ys:=(Txt.split t y).map V.str) ?_ (by rw [uD]; exact a2),rfl,q _ I.fresh⟩
  rw [← e]
  exact Ng l
 cases h1:(decide (t.length < y.length) || decide (strKind t < strKind y)) with
 | true =>
  refine call_meets F.slot_str_split (typeIs_str _ _ _) F.entry_str_split (F.args_str_split_2 _ _) (meets_str_split_cannot_occur t y k k2 h1) ?_
  exact a1 [(t,k)] s.toks (by unfold Txt.split; rw [if_pos h1]; rfl)
 | false =>
  cases h2:(occurrences t y 0 t.length (t.length + 1)).isEmpty with
  | true =>
   refine call_meets F.slot_str_split (typeIs_str _ _ _) F.entry_str_split (F.args_str_split_2 _ _) (meets_str_split_not_found t y k k2 h1 h0 h2) ?_
   exact a1 [(t,k)] s.toks (by unfold Txt.split; rw [h1,if_neg Bool.false_ne_true,if_pos h2]; rfl)
  | false =>
   have e:Txt.split t y = partsBetween t (occurrences t y 0 t.length (t.length + 1)) y.length:=by unfold Txt.split; rw [h1,if_neg Bool.false_ne_true,h2,if_neg Bool.false_ne_true]
   refine call_meets F.slot_str_split (typeIs_str _ _ _) F.entry_str_split (F.args_str_split_2 _ _) (meets_str_split_sep t y k k2 h1 h0 h2 hz (e ▸ a2)) ?_
   rw [strsFrom_eq]
   exact a1 _ _ ((numbered_texts _ _).trans e.symm)
def tFi (te:TE):TE:=λ σ H Q=>te σ H λ v H1=>∃ n:Nat,v = .int n∧n≤1000∧Q (.str (Str.ofString (toString (n:Int)))) H1
theorem AhE (he:PE X e te):PE X (.FormattedValue e (-1) none pos) (tFi te):=by
 intro pins s σ H Q I h
 refine wpAny_FormattedValue_plain (thn (he pins s σ H _ I h) λ v s1 ⟨x,H1,I1,r1,n,ey,hz,q⟩=>?_)
 subst ey
 obtain ⟨k,rfl⟩:=r1
 refine wpAny_formatField_int ?_ ⟨.str _,H1,I1.tok _,⟨_,rfl⟩,q⟩
 show Nat.log2 (n:Int).natAbs < 1920
 rw [Int.natAbs_natCast]
 by_cases h0:n = 0
 ·subst h0; decide
 ·exact (Nat.log2_lt h0).mpr (vA hz (uZ (by decide) (Nat.pow_le_pow_right (n:=2) (i:=10) (by decide) (by decide))))
end L2
namespace L2
open PySem PySem.Spec PyProof.Rows
theorem Aaa (l:Addr) (t:Tok) (n:Int):∃ (Y Y':Sem PySem.Fin) (c:List (Code× Pos)→Bool),Builtin.«enumerate.__new__» { pos:=[.type "enumerate", Value.ref l],kw:=[("start", .int n t)] } =
  stack >>= λ st=>if c st = true then (if (!Builtin.SmallTypes.fitsIndex n) = true then Y else pyIter (.ref l) >>= λ i=>Builtin.SmallTypes.newRecord (.type "enumerate") (Builtin.SmallTypes.ownedTupleFields ++ [i,rawInt n,Value.none,Value.none]) >>= ret)
   else (if (!Builtin.SmallTypes.fitsIndex n) = true then Y' else pyIter (.ref l) >>= λ i=>Builtin.SmallTypes.newRecord (.type "enumerate") (Builtin.SmallTypes.ownedTupleFields ++ [i,rawInt n,Value.none,Value.none]) >>= ret) :=
 ⟨_,_,λ st=>(match drop 1 st with
   | (Code.builtin "type.__call__" { pos:=c :: tail,kw:=kw },snd) :: a1=>c == .type "enumerate"
   | x=>false),by with_unfolding_all rfl⟩
theorem AbA (l:Addr) (t:Tok) (n:Int):∃ (Y:Value→Sem PySem.Fin) (Z:Value→Value→Sem PySem.Fin),Builtin.«type.__call__» { pos:=[.type "enumerate", Value.ref l],kw:=[("start", .int n t)] } =
  holding [.builtin "enumerate.__new__"] (call (.builtin "enumerate.__new__") [.type "enumerate", .ref l] [("start", .int n t)]) >>= λ obj=>isInstance obj (.type "enumerate") >>= λ b=>if (!b) = true then Y obj else
   holding [obj] (callSpecial? obj "__init__" [.ref l] [("start", .int n t)]) >>= λ r=>match r with | none=>ret obj | some r=>if (r != Value.none) = true then Z obj r else ret obj :=
 ⟨_,_,by with_unfolding_all rfl⟩
theorem Aa0 {n:Int} {Q:Value→Shared→Prop} (hl:s.heap.IsList l a1) (hf:Builtin.SmallTypes.fitsIndex n = true)
  (k:∀ h':Heap,IsEnum h' (s.heap.objs.size + 1) s.heap.objs.size n .none→h'.IsListIter s.heap.objs.size l 0→(∀ b o,s.heap.get? b = some o→h'.get? b = some o)→Q (.ref (s.heap.objs.size + 1)) { s with heap:=h' }) :
  wpAny (model prog w) A (call (.type "enumerate") [.ref l] [("start", .int n t)]) Q E s:=by
 refine wpAny_call (codeAny_of_tree ?_)
 show wpAny _ _ (pure (Fin.again _)) _ _ _
 refine uB ⟨Code.quiet_builtin _ (by decide +kernel),?_⟩
 refine codeAny_builtin F.entry_type_call ?_
 rw [Around.under_plain (weight_type_call_type _ _ _) rfl]
 obtain ⟨Y,Z,e⟩:=AbA l t n
 show wpAny _ _ (Builtin.«type.__call__» { pos:=[.type "enumerate", Value.ref l],kw:=[("start", .int n t)] }) _ _ _
 rw [e]
 have S:=F.called_enumerate.init
 refine uA (vT (wpAny_call (codeAny_call_builtin F.called_enumerate.plain F.entry_enumerate_new ?_)))
 refine wpAny_of_eq (by with_unfolding_all rfl) ?_
 obtain ⟨Y1,Y2,c,e1⟩:=Aaa l t n
 rw [e1]
 refine uA (wpAny_stack λ st _ _ _=>?_)
 rw [hf]
 simp only [Bool.not_true,Bool.false_eq_true,if_false,ite_self]
 refine uA (wpAny_pyIter_list hl ?_)
 have e2:(Builtin.SmallTypes.newRecord (.type "enumerate") (Builtin.SmallTypes.ownedTupleFields ++ [Value.ref s.heap.objs.size,rawInt n,Value.none,Value.none]) >>= ret) = alloc { cls:=.type "enumerate", data:=.fields #[.none,.bool false,.ref s.heap.objs.size,rawInt n,.none,.none] } >>= λ a=>ret (.ref a):=by with_unfolding_all rfl
 rw [e2]
 refine uA (wpAny_alloc ?_)
 refine uB ?_
 have a2:(s.heap.push { cls:=Value.type "list_iterator", data:=Data.fields #[Value.ref l,Value.int 0 0] }).objs.size = s.heap.objs.size + 1:=Heap.size_push _ _
 have h2:=Heap.get?_push_size (s.heap.push { cls:=Value.type "list_iterator", data:=Data.fields #[Value.ref l,Value.int 0 0] }) (o:={ cls:=.type "enumerate", data:=.fields #[.none,.bool false,.ref s.heap.objs.size,rawInt n,.none,.none] }) rfl
 have h1:=Heap.get?_push_of_some { cls:=.type "enumerate", data:=.fields #[.none,.bool false,.ref s.heap.objs.size,rawInt n,.none,.none] } (Heap.get?_push_size s.heap (o:={ cls:=Value.type "list_iterator", data:=Data.fields #[Value.ref l,Value.int 0 0] }) rfl)
 have hx:∀ b o,s.heap.get? b = some o→_:=λ b o q=>Heap.get?_push_of_some { cls:=.type "enumerate", data:=.fields #[.none,.bool false,.ref s.heap.objs.size,rawInt n,.none,.none] } (Heap.get?_push_of_some { cls:=Value.type "list_iterator", data:=Data.fields #[Value.ref l,Value.int 0 0] } q)
 rw [a2] at h2 ⊢
 generalize (s.heap.push _).push _ = h' at h1 h2 hx ⊢
 have ht:Shared.TypeIs { s with heap:=h' } (.ref (s.heap.objs.size + 1)) "enumerate" := ⟨_,h2,rfl⟩
 refine uA (wpAny_isInstance ht F.called_enumerate.sub ?_)
 refine wpAny_ite_false rfl ?_
 refine uA (vT ?_)
 refine uA (wpAny_specialOf ht S.lookup ?_)
 refine vT (uA (wpAny_of_eq (S.bind _) ?_))
 refine uA (wpAny_call (codeAny_call_builtin S.plain F.entry_object_init ?_))
 refine S.check _ _ _ _ _ _ _ _ ht rfl ?_
 unfold Builtin.«object.__init__»
 refine wpAny_ite_true rfl (uA (wpAny_typeOf ht ?_))
 refine uA (wpAny_of_eq S.lookup ?_)
 refine uA (wpAny_of_eq F.called_enumerate.made ?_)
 refine wpAny_ite_false (by decide +kernel) (wpAny_ite_false (by decide +kernel) (uB ?_))
 refine uB ?_
 refine wpAny_ite_false rfl (uB ?_)
 exact k h' h2 ⟨_,h1,rfl,rfl⟩ hx
theorem Acn {P:Nat→Value→Prop} {St:Nat→Heap→Prop} (D:Draws prog w A it fp N P St) (n:Nat):Draws prog w A it fp (n + N) (λ j x=>∃ m,j = n + m∧P m x) (λ j h=>∃ m,j = n + m∧St m h) where
 live:=λ j h ⟨m,_,s⟩=>D.live m h s
 frame:=λ j h h' ⟨m,e,s⟩ k=>⟨m,e,D.frame m h h' s k⟩
 item:=λ j s Q E hj ⟨m,e,st⟩ k=>D.item m s Q E (by omega) st λ x h' tk p s' b=>k x h' tk ⟨m,e,p⟩ ⟨m + 1,by omega,s'⟩ b
 done:=λ s Q E ⟨m,e,st⟩ k=>D.done s Q E (by rw [show N = m by omega]; exact st) k
def ItS (K:FA) (l:Addr) (n:Nat):It :=
 ⟨λ i H=>∃ xs x,SqL K H l xs∧xs[i]? = some x,
  λ i H v H'=>∃ T x,v = .ref T∧H T = none∧H' = upd H T (.tup [.int ((n + i:Nat):Int),x])∧∀ xs,SqL K H l xs→xs[i]? = some x,
  λ i H=>∃ xs,SqL K H l xs∧xs.length = i⟩
theorem Aam {elts:List Expr} {x1} {tp:Pos} {e it l:Addr} (b6:e≠it) (b8:l≠e) (b7:l≠it) :
  N2 P w K (.Tuple elts x1 tp) (ItS K l n) [e,it] e (λ i h=>(∃ old,IsEnum h e it ((n + i:Nat):Int) old)∧h.IsListIter it l i) where
 mem:=by simp
 obj:=λ i h ⟨⟨old,h1⟩,h4⟩ c hc=>by
  simp only [vI,mem_nil_iff,or_false] at hc
  rcases hc with rfl | rfl
  ·exact ⟨_,h1,λ v z=>nomatch z⟩
  ·obtain ⟨o,e,c,d⟩:=h4
   exact ⟨o,e,λ v z=>by rw [d] at z; cases z⟩
 keep:=λ i h h' ⟨⟨old,h1⟩,h4⟩ k=>⟨⟨old,k _ (by simp) _ h1⟩,h4.at λ o e=>k _ (by simp) o e⟩
 item:=by
  intro X hP hw hK hc i pins s σ H E I hf st hg
  subst hP hw hK
  obtain ⟨⟨old,h1⟩,h4⟩:=st
  obtain ⟨xs,x,q1,e1⟩:=hg
  obtain ⟨a2,a9,p1,b9⟩:=I.list q1
  obtain ⟨u,hu,ru⟩:=a9.get e1
  have c3:i < a2.length:=(List.getElem?_eq_some_iff.mp hu).1
  have D:=Acn (Draws.list (prog:=X.prog) (w:=X.w) (A:=X.A.in1) (I.ok.hd hc) it l b7 a2.toArray) n
  refine wpAny_pyNext_enum_itemD D h1 ⟨i,rfl,h4,p1.isList⟩ (by simp; omega) b6 (by simp; exact ⟨b6,Ne.symm b8⟩) λ u' h' tk hP a1 hS a5 a6 a7=>?_
  obtain ⟨m,em,a8⟩:=hP
  cases (show m = i by omega)
  have a8:a2[i]? = some u':=by simpa using a8
  rw [hu] at a8
  cases a8
  obtain ⟨m,em,a3,_⟩:=hS
  cases (show m = i + 1 by omega)
  refine ⟨_,rfl,wpAny_letOwnedTupleGo_enum (s:={ s with heap:=h',toks:=tk + 1 }) a1 λ a4 b1 b2=>?_⟩
  have b2:Heap.SameBut e h' a4:=b2
  have zl:e < s.heap.objs.size:=Heap.lt_size h1
  have Tz:s.heap.objs.size≠e:=ne_of_gt zl
  have k:∀ b o,b∉[e,it]→s.heap.get? b = some o→a4.get? b = some o:=λ b o hb q=>by
   simp only [vI,mem_nil_iff,or_false,not_or] at hb
   exact b2.extBut b o hb.1 (a7 b o hb.1 hb.2 q)
  have pT:a4.get? s.heap.objs.size = some { cls:=.type "tuple", data:=.seq #[.int ((n + i:Nat):Int) tk,u] }:=b2.extBut _ _ Tz a5
  have hn:H s.heap.objs.size = none:=I.hok.fresh (uY _)
  have c0:∀ b∈[e,it],s.heap.objs.size≠b:=λ b hb=>by
   simp only [vI,mem_nil_iff,or_false] at hb
   rcases hb with rfl | rfl
   ·exact Tz
   ·obtain ⟨o,q,_⟩:=h4; exact ne_of_gt (Heap.lt_size q)
  have hok:HOk X.prog X.w (upd H s.heap.objs.size (.tup [.int ((n + i:Nat):Int),x])) a4:=HOk.turnedNew (s:=s) I.hok (λ b hb=>(hf b hb).1) k (uY _) ⟨zN2,[.int ((n + i:Nat):Int) tk,u],.cons ⟨_,rfl⟩ (.cons ru .nil),_,pT,rfl,_,rfl⟩
  have I1:Inv X pins σ (upd H s.heap.objs.size (.tup [.int ((n + i:Nat):Int),x])) { s with heap:=a4,toks:=tk + 1 }:=I.turnedL (t':=tk + 1) hf k (λ b hb=>upd_ne (vB hb)) hok
  refine ⟨.ref s.heap.objs.size,_,I1,rfl,⟨_,x,rfl,hn,rfl,λ zs hz=>by rw [I.list_inj hz q1]; exact e1⟩,?_,λ b hb=>by rw [upd_ne (Ne.symm (c0 b hb))]; exact (hf b hb).1⟩
  exact ⟨⟨_,b1⟩,a3.extBut b2.extBut b6.symm⟩
 done:=by
  intro X hP hw hK hc i pins s σ H E I hf st hg
  subst hP hw hK
  obtain ⟨⟨old,h1⟩,h4⟩:=st
  obtain ⟨xs,q1,hx⟩:=hg
  obtain ⟨a2,a9,p1,b9⟩:=I.list q1
  have l1:=a9.length
  have D:=Acn (Draws.list (prog:=X.prog) (w:=X.w) (A:=X.A.in1) (I.ok.hd hc) it l b7 a2.toArray) n
  refine wpAny_pyNext_enum_endD D h1 ⟨a2.toArray.size,rfl,by rw [show a2.toArray.size = i by simp; omega]; exact h4,p1.isList⟩ λ h' a7=>?_
  have k:∀ b o,b∉[e,it]→s.heap.get? b = some o→h'.get? b = some o:=λ b o hb q=>by
   simp only [vI,mem_nil_iff,or_false,not_or] at hb
   exact a7 b o hb.2 q
  exact ⟨rfl,I.turnedL (t':=s.toks) hf k (λ _ _=>rfl) (HOk.turned (s:=s) I.hok (λ b hb=>(hf b hb).1) k)⟩
 self:=λ _ _ _ _ _ st h=>by
  obtain ⟨⟨old,h1⟩,_⟩:=st
  refine wpAny_pyIter_slot (T:= "enumerate") ⟨_,h1,rfl⟩ F.slot_enumerate_iter (vW F.slot_enumerate_iter ⟨_,h1,rfl⟩ F.entry_enumerate_iter ?_ (F.args_enumerate_iter_1 _))
  show wpAny _ _ (ret (.ref _)) _ _ _
  exact uB ⟨_,rfl, "enumerate", _,⟨_,h1,rfl⟩,F.slot_enumerate_next.lookup,h⟩
def Af8 (K:FA) (ta tk:TA):TI:=λ σ H R=>ta σ H λ vs H1=>tk σ H1 λ ws H2=>∃ (l:Addr) (n:Nat),vs = [.ref l]∧ws = [.int n]∧n≤1000∧(∃ xs,SqL K H2 l xs)∧R (ItS K l n) H2
theorem AdU {elts:List Expr} {x1} {tp:Pos} {a e2:Expr} {ta tk:TA} {p kp:Pos} (hg:Gl X "enumerate") (hm:X.mg "enumerate" = none) (ha:PA X [a] ta) (a3:PK X [⟨some "start", e2,kp⟩] tk) (hs:starEach [a] X.env = (false,eval a X.env) :: starEach [] X.env:=by rfl)
  (a5:((backTo pos (starEach [a] X.env)).any (·.1) || (backToKw pos (keywordEach [⟨some "start", e2,kp⟩] X.env)).any (·.1.isNone)) = false:=by rfl) :
  PI X (.Tuple elts x1 tp) (.Call (.Name "enumerate" p) [a] [⟨some "start", e2,kp⟩] pos) (Af8 X.K ta tk):=by
 intro pins s σ H R I h
 refine wpAny_Call_Name_kw (F8 (u:=.type "enumerate") I hg hm (by decide +kernel) ?_ (by decide) (by decide))
 refine PySem.W.callWith_of (P:=λ _=>True) a5 (λ h _=>⟨.machine,.inr (.inl rfl),PySem.W.Looks.of_pure rfl⟩) (PyProof.Rows.evalArgs_kw2 (by rfl) (thn (ha pos pins s σ H _ I h) λ us s1 ⟨vs,H1,I1,r1,q1⟩=>?_) hs)
 refine thn (a3 pos pins s1 σ H1 _ I1 q1) λ ws s2 ⟨zs,H2,I2,rz,q2⟩=>⟨trivial,?_⟩
 obtain ⟨l,n,rfl,rfl,hn,⟨xs,hx⟩,q⟩:=q2
 obtain ⟨u,rfl,ru⟩:=r1.one
 obtain ⟨u2,rfl,t,rfl⟩:=rz.one
 cases ru
 show wpAny _ _ (call (.type "enumerate") [.ref l] [("start", .int n t)]) _ _ _
 obtain ⟨a6,a8,p1,a9⟩:=I2.list hx
 have a2:l < s2.heap.objs.size:=by obtain ⟨_,e,_⟩:=p1.isList; exact Heap.lt_size e
 refine Aa0 p1.isList (by unfold Builtin.SmallTypes.fitsIndex; simp; omega) λ h' a1 a4 a7=>?_
 have I3:Inv X pins σ H2 { s2 with heap:=h' }:=I2.kept (t':=s2.toks) a7
 have T:=Aam (P:=X.prog) (w:=X.w) (K:=X.K) (elts:=elts) (x1:=x1) (tp:=tp) (e:=s2.heap.objs.size + 1) (it:=s2.heap.objs.size) (l:=l) (n:=n) (ne_of_gt (lt_succ_self _)) (vB (lt_succ_of_lt a2)) (vB a2)
 refine T.self X.A 0 { s2 with heap:=h' } _ _ ⟨⟨_,a1⟩,a4⟩ ?_
 refine ⟨_,_,_,_,H2,rfl,I3,T,⟨⟨_,a1⟩,a4⟩,λ b hb=>?_,q⟩
 have hb:s2.heap.objs.size≤b:=by
  simp only [vI,mem_nil_iff,or_false] at hb
  rcases hb with rfl | rfl
  ·exact le_add_right _ 1
  ·exact uY _
 exact I2.fpOk hb (I2.hok.fresh hb)
theorem Aaq {g:TG} {tc:TT} {a3:St} {F:Addr→List V→Hp→Prop} (Pv:Nat→List V→Hp→Prop) (h0:Pv 0 [] H) (hz:xs.length≤sizeLine) (hl:∀ i ys H,Pv i ys H→SqL K H a xs)
  (hs:∀ i x T ys H (N:List V→Hp→Prop),xs[i]? = some x→Pv i ys H→H T = none→(∀ a1 H',a1.length≤i + 1→Pv (i + 1) a1 H'→N a1 H')→ys.length≤i→g (.ref T) a3 (upd H T (.tup [.int ((n + i:Nat):Int),x])) λ a2 H2=>tc a2 H2 λ b H3=>if b = true then te a2 H3 λ y H4=>N (ys ++ [y]) H4 else N ys H3)
  (hd:∀ ys H,ys.length≤xs.length→Pv xs.length ys H→∀ D,H D = none→F D ys H):Qc (ItS K a n) g tc te a3 F H :=
 J6 Pv h0 hz (λ i ys H hi p=>⟨xs,xs[i],hl i ys H p,by simp [hi]⟩) (λ ys H p=>⟨xs,hl _ ys H p,rfl⟩)
  (λ i x ys H H' N hi p ⟨T,z,e1,hT,e2,y⟩ a4 k=>by subst e1 e2; exact hs i z T ys _ N (y xs (hl i ys _ p)) p hT k a4) hd
theorem Re {e:Value} (h:env.frame = env'.frame):noteFrame e env = noteFrame e env':=by
 have hf:PySem.frameOf env = PySem.frameOf env':=by unfold PySem.frameOf; rw [h]
 unfold noteFrame
 rw [h,hf]
theorem AdG {e:Addr} {Q:Unit→Shared→Prop} (hA:A.frames = some (env :: outer)) (hL:env.frame = some L) (st:base.StaysIn s.heap) (en:base.get? e = none)
  (ff:s.heap.FunFrames base (env :: outer)) (tr:s.heap.TracedAtW base e cls a0 fl) (k:∀ h',base.HeldW (env :: outer) e cls a0 L h'→s.heap.UpToSlots h'→Q () { s with heap:=h' }):wpAny M A (noteFrame (.ref e) env) Q E s:=by
 by_cases hf:fl = rawInt L
 ·subst hf
  exact wpAny_noteFrame_againW hL tr (k s.heap ⟨st,en,ff,tr⟩ λ b o q _=>⟨o.slots,q⟩)
 obtain ⟨oe,vs,T,oT,ts,he,⟨hc,h0⟩,hd,h1,hb,ne,hT,dT,h3⟩:=tr
 unfold noteFrame
 rw [hL]
 refine uA (wpAny_field he hd h1 ?_)
 refine wpAny_ite_true rfl (uA (wpAny_field hT dT h3 ?_))
 refine wpAny_ite_false (by simpa using hf) (uA (wpAny_setField hT dT (Array.getElem?_eq_some_iff.mp h3).1 ?_))
 have a1:∀ b o,s.heap.get? b = some o→b≠T→(s.heap.update T (Obj.mapFields λ z=>z.setIfInBounds 3 Value.none)).get? b = some o:=λ b o q hn=>(Heap.get?_update_other _ _ (Ne.symm hn)).trans q
 have nT:∀ b o,s.heap.get? b = some o→(∀ vs,o.data≠.fields vs)→b≠T:=λ b o q n z=>by
  subst z
  rw [q] at hT
  cases hT
  exact n _ dT
 subst hc
 refine wpAny_entryW hA (ff.of_keeps λ b o q n=>⟨o,a1 b o q (nT b o q n),rfl⟩) hL (a1 _ _ he (Ne.symm ne)) (λ b o q=>a1 _ _ (st b o q) λ z=>by rw [z,hb] at q; cases q) en hd (Array.getElem?_eq_some_iff.mp h1).1 h0 λ h' ⟨n1,n2,n3,n4⟩=>?_
 exact k h' ⟨n1,en,n2,n3⟩ λ b o q n=>n4 b o (a1 b o q (nT b o q n)) n
theorem Nk {h:Heap}:∀ {l:List Env},(∀ b∈frs l,∀ o,h.get? b = some o→(∀ vs,o.data≠.fields vs)→∃ o',h'.get? b = some o'∧o'.data = o.data)→h.FunFrames base l→h'.FunFrames base l
 | [],_,_=>trivial
 | env :: l,k,⟨a,⟨L,o,e1,e2,e3,e4⟩,r⟩=>by
  obtain ⟨o',e5,e6⟩:=k L (mem_filterMap.mpr ⟨env,uH,e1⟩) o e3 e4
  refine ⟨a,⟨L,o',e1,e2,e5,λ vs=>e6 ▸ e4 vs⟩,Nk (λ b hb=>k b ?_) r⟩
  obtain ⟨x,hx,ex⟩:=mem_filterMap.mp hb
  exact mem_filterMap.mpr ⟨x,uI _ hx,ex⟩
theorem Aaj {e:Addr} {Q:Unit→Shared→Prop} (hA:A.frames = some (env :: outer)) (hL:env.frame = some L) (st:base.StaysIn s.heap) (en:base.get? e = none)
  (ff:s.heap.FunFrames base (env :: outer)) (tr:s.heap.TracedAtW base e cls a0 fl) (k:∀ h',base.FlyingW outer e cls a0 h'→s.heap.UpToSlots h'→Q () { s with heap:=h' }):wpAny M A (leaving env (.ref e)) Q E s:=by
 refine uA (AdG hA hL st en ff tr λ h1 a2 up=>?_)
 refine wpAny_landsW a2 λ h2 a1 a4=>k h2 ⟨a1.1,a1.2.1,a1.2.2.1.2.2,a1.2.2.2⟩ λ b o q n=>?_
 obtain ⟨sl,e1⟩:=up b o q n
 obtain ⟨a3,e2⟩:=a4 b _ e1 n
 exact ⟨a3,e2⟩
section
variable {N:List Str} {qual:Str} {scope':Scope} {cd:Value} {outer:List Env} {s₀:Shared} {H₀:Hp} {E:XK}
def XEC (X:Cx) (E:XK) (s2:Shared) (H2:Hp) (fp:List Addr) (N':List Str) (scope:Scope) (cl:List (Str× Addr)) (C:Addr) (e:Value) (s':Shared):Prop :=
 ∃ pins σ H s,Inv (Cp X s2 H2 fp N' scope cl C) pins σ H s∧CX1 X.prog X.w X.stack H s E e s'
theorem AhS :Dr (CX1 X.prog X.w) ((Cp X s2 H2 fp N' scope cl C).wish (XEC X E s2 H2 fp N' scope cl C)) E:=λ pins σ H s e s' I h=>⟨pins,σ,H,s,I.unwish,h⟩
theorem Ad7 {use:Option (Value→Sem Unit)} {QQ:Value→Shared→Prop}
  (I2:Inv (cxX P w K mg base N qual scope' f cd A outer s₀ H₀ E) pins σ H2 s2) (f2:∀ b∈fp,Hf (cxX P w K mg base N qual scope' f cd A outer s₀ H₀ E) pins H2 b) (hC:s2.heap.objs.size≤C) (e:Value) (s':Shared)
  (h:XEC (cxX P w K mg base N qual scope' f cd A outer s₀ H₀ E) E s2 H2 fp N' scope cl C e s') :
  notedBy (model P w) (cxX P w K mg base N qual scope' f cd A outer s₀ H₀ E).A (compEnvC scope cl C (cxX P w K mg base N qual scope' f cd A outer s₀ H₀ E).env) (λ e s=>compPost (model P w) (cxX P w K mg base N qual scope' f cd A outer s₀ H₀ E).A (cxX P w K mg base N qual scope' f cd A outer s₀ H₀ E).xe use QQ f3 C (.error e) s) e s':=by
 obtain ⟨f5,c5,H,s,I,h⟩:=h
 obtain ⟨ea,Cc,a0,H',B,rfl,hE,os,bare,un,hok,fl,d8,e7,c8⟩:=h
 have d9:Inv (cxX P w K mg base N qual scope' f cd A outer s₀ H₀ E) [] σ H2 s2:=I2.pins_of λ p hp=>absurd hp (by simp)
 have IX:Inv (cxX P w K mg base N qual scope' f cd A outer s₀ H₀ E) [] σ H s:=d9.call' (ch:=fp) I.os I.base I.hok I.bare λ b hb=>⟨(f2 b hb).2.2.2.1,(f2 b hb).2.1,(f2 b hb).2.2.2.2.1,λ p hp=>(f2 b hb).2.2.2.2.2 p (vU _ (by simpa using hp))⟩
 have I1:Inv (cxX P w K mg base N qual scope' f cd A outer s₀ H₀ E) [] σ H' s':=IX.call' (ch:=[]) os un hok bare λ b hb=>absurd hb (by simp)
 have I3:Inv (Cp (cxX P w K mg base N qual scope' f cd A outer s₀ H₀ E) s2 H2 fp N' scope cl C) [] c5 H' s':=(I.pins_of λ p hp=>I.pin p (vU _ (by simpa using hp))).call' (ch:=[]) os un hok bare λ b hb=>absurd hb (by simp)
 have e8:∀ b o,s₀.heap.get? b = some o→b≠C:=λ b o q z=>absurd (Heap.lt_size q) (not_lt.mpr (by rw [z]; exact uX I2.sz hC))
 have e9:(hideAll B [C]).StaysIn B:=λ b o q=>of_hideAll _ q
 have a5:=PySem.W.flyingW_base e9 fl
 have b8:∀ b∈frs (cxX P w K mg base N qual scope' f cd A outer s₀ H₀ E).stack,b≠C:=λ b hb z=>by
  rcases vI.mp (I2.stkSub b hb) with q | q
  ·exact absurd I2.lt (not_lt.mpr (by rw [← q,z]; exact hC))
  ·exact I2.nofs (uX hC (le_of_eq z.symm)) q
 obtain ⟨mC,⟨oC,e5,e6,c4,b7,c9⟩,_⟩:=I3.loc
 have e0:H' C = none:=I3.free
 have a2:∀ b o,s₀.heap.get? b = some o→b∉frs outer→∃ o',(hideAll B [C]).get? b = some o':=λ b o q hb=>by
  obtain ⟨o1,e1⟩:=IX.base.there b o q (λ z=>absurd z (show b∉([]:List Addr) by simp))
  obtain ⟨o',e2⟩:=d8 b o1 e1 (Pz IX q hb)
  exact ⟨o',hideAll_get _ e2 λ z=>e8 b o q (mS z)⟩
 have a3:∀ b u,H' b = some u→∃ o,(hideAll B [C]).get? b = some o:=λ b u q=>by
  obtain ⟨o,e2⟩:=e7 b u q
  exact ⟨o,hideAll_get _ e2 λ z=>by rw [mS z,e0] at q; cases q⟩
 unfold notedBy
 rw [Re (env:=compEnvC scope cl C (cxX P w K mg base N qual scope' f cd A outer s₀ H₀ E).env) (env':=(cxX P w K mg base N qual scope' f cd A outer s₀ H₀ E).env) rfl]
 refine wpAny_looks_onW (L:=s₀.heap.objs.size) I2.ok.frames rfl a5 λ h1 c3 up=>?_
 have a9:∀ vs,oC.data≠.fields vs:=λ vs z=>by rw [b7] at z; cases z
 obtain ⟨f6,a4⟩:=up C oC c4 a9
 refine ⟨mC,⟨_,e5,e6,a4,b7,c9⟩,λ h2 sb c0 _=>?_⟩
 obtain ⟨f0,e4,c6,oe,vs,T,oT,ts,he,c7,hd,a6,hb,ne,hT,dT,h3⟩:=c3
 have b9:∀ b o vs,h1.get? b = some o→o.data = .fields vs→b≠C:=λ b o vs q d z=>by
  subst z
  rw [a4] at q
  cases q
  exact a9 _ d
 have ke:∀ b o,h1.get? b = some o→b≠C→h2.get? b = some o:=λ b o q n=>(sb.2 b n).trans q
 have a7:=ke _ _ he (b9 _ _ _ he hd)
 have b6:=ke _ _ hT (b9 _ _ _ hT dT)
 refine uA (wpAny_field a7 hd a6 ?_)
 refine wpAny_ite_false rfl (uA (uA (wpAny_field a7 hd a6 ?_)))
 have l3:3 < ts.size:=(Array.getElem?_eq_some_iff.mp h3).1
 refine wpAny_ite_true rfl (wpAny_setField b6 dT l3 (wpAny_throw ?_))
 show wpAny _ _ (leaving _ (.ref ea)) _ _ _
 generalize (c0.frame.elim Value.none λ f=>rawInt ↑f) = fv
 have a1:∀ b o,h2.get? b = some o→b≠T→(h2.update T (Obj.mapFields λ z=>z.setIfInBounds 3 fv)).get? b = some o:=λ b o q hn=>(Heap.get?_update_other _ _ (Ne.symm hn)).trans q
 have eT:(h2.update T (Obj.mapFields λ z=>z.setIfInBounds 3 fv)).get? T = some (Obj.mapFields (λ z=>z.setIfInBounds 3 fv) oT):=Heap.get?_update_self _ b6 (by obtain ⟨_,_,_,_⟩:=oT; cases dT; rfl)
 have f4:(Obj.mapFields (λ z=>z.setIfInBounds 3 fv) oT).data = .fields (ts.setIfInBounds 3 fv):=by
  obtain ⟨_,_,_,_⟩:=oT
  cases dT
  rfl
 have nT:∀ b o,h1.get? b = some o→(∀ vs,o.data≠.fields vs)→b≠T:=λ b o q n z=>by
  subst z
  rw [q] at hT
  cases hT
  exact n _ dT
 have d7:(hideAll B [C]).StaysIn (h2.update T (Obj.mapFields λ z=>z.setIfInBounds 3 fv)):=λ b o q=>by
  refine a1 b o (ke b o (f0 b o q) λ z=>?_) λ z=>by rw [z,hb] at q; cases q
  subst z
  rw [hideAll_none [b] (vC.mpr rfl)] at q
  cases q
 refine Aaj (L:=s₀.heap.objs.size) I2.ok.frames rfl d7 e4 ?_ ⟨oe,vs,T,_,_,a1 _ _ a7 (Ne.symm ne),c7,hd,a6,hb,ne,eT,f4,by rw [Array.getElem?_setIfInBounds_self_of_lt l3]⟩ λ h4 a8 e3=>?_
 ·exact Nk (λ b hb o q n=>⟨o,a1 b o (ke b o q (b8 b hb)) (nT b o q n),rfl⟩) c6
 refine ⟨ea,Cc,a0,H',_,rfl,hE,I1.os,bare,?_,hok.fly a3 a5.1 a8.1,a8,a2,a3,c8⟩
 refine Un.fly I1.base a2 a5.1 a8.1 λ b hb o q=>?_
 have f1:b∈frs (cxX P w K mg base N qual scope' f cd A outer s₀ H₀ E).stack:=mem_filterMap.mpr (by
  obtain ⟨x,hx,ex⟩:=mem_filterMap.mp hb
  exact ⟨x,uI _ hx,ex⟩)
 have nf:∀ vs,o.data≠.fields vs:=λ vs z=>by
  obtain ⟨_,o3,q3,n3⟩:=I1.funs.mem hb
  rw [q] at q3
  cases q3
  exact n3 vs z
 obtain ⟨z1,q1⟩:=up b o q nf
 exact e3 b { o with slots:=z1 } (a1 b _ (ke b _ q1 (b8 b f1)) (nT b _ q1 nf)) nf
theorem X7 {wi:TI} {g:TG} {tc:TT} (own:List Str) (fr:List (Str× Nat)) (hN:(cxX P w K mg base N qual scope' f cd A outer s₀ H₀ E).N.Nodup) (hj:(cxX P w K mg base N qual scope' f cd A outer s₀ H₀ E).N[j]? = some y) (hy:Loc (cxX P w K mg base N qual scope' f cd A outer s₀ H₀ E).env.scope y) (hc:(cxX P w K mg base N qual scope' f cd A outer s₀ H₀ E).calm = true) (S:Li (cxX P w K mg base N qual scope' f cd A outer s₀ H₀ E) scope own fr) (a9:PI (cxX P w K mg base N qual scope' f cd A outer s₀ H₀ E) tg iter wi)
  (hg:∀ s2 H2 fp cl C xe,PG ((Cp (cxX P w K mg base N qual scope' f cd A outer s₀ H₀ E) s2 H2 fp (own ++ fr.map (·.1)) scope cl C).wish xe) tg g) (hk:O1 own.length g)
  (hi:∀ s2 H2 fp cl C xe,Ro ((Cp (cxX P w K mg base N qual scope' f cd A outer s₀ H₀ E) s2 H2 fp (own ++ fr.map (·.1)) scope cl C).wish xe) ifs tc) (he:∀ s2 H2 fp cl C,PE ((Cp (cxX P w K mg base N qual scope' f cd A outer s₀ H₀ E) s2 H2 fp (own ++ fr.map (·.1)) scope cl C).wish (XEC (cxX P w K mg base N qual scope' f cd A outer s₀ H₀ E) E s2 H2 fp (own ++ fr.map (·.1)) scope cl C)) elt te)
  (b7:swapsWith (.ListComp elt [⟨tg,iter,ifs,0⟩] scope pos) (some (.Name y py)) a1.line (cxX P w K mg base N qual scope' f cd A outer s₀ H₀ E).env = pure true:=by rfl)
  (hs:∀ x,foldedSetIterable iter (cxX P w K mg base N qual scope' f cd A outer s₀ H₀ E).env x = pure x:=by intro _; rfl)
  (hf:(cxX P w K mg base N qual scope' f cd A outer s₀ H₀ E).fn y = true∨(cxX P w K mg base N qual scope' f cd A outer s₀ H₀ E).env.scope.names.lookup y = some .local:=by first | exact .inl rfl | exact .inr rfl | assumption) :
  PS (cxX P w K mg base N qual scope' f cd A outer s₀ H₀ E) (.Assign [.Name y py] (.ListComp elt [⟨tg,iter,ifs,0⟩] scope pos) a1) (Ws j own.length (fr.map (·.2)) wi g tc te):=by
 intro pins s σ H Dn I h
 obtain ⟨cl,a2,a6,a4⟩:=Lv (Mj S I)
 rw [exec_Assign_Name_used _ _ _ _ b7]
 refine uA (wpAny_standAt (uA ?_))
 show wpAny _ (cxX P w K mg base N qual scope' f cd A outer s₀ H₀ E).A (do let _ ← comprehension (.ListComp elt [⟨tg,iter,ifs,0⟩] scope pos) scope (cxX P w K mg base N qual scope' f cd A outer s₀ H₀ E).env _ (newList []) false (eval iter (cxX P w K mg base N qual scope' f cd A outer s₀ H₀ E).env) (some (assign (.Name y py) (cxX P w K mg base N qual scope' f cd A outer s₀ H₀ E).env))) _ _ s
 refine uA (vS (wpAny_comprehension_free (use:=some (assign (.Name y py) (cxX P w K mg base N qual scope' f cd A outer s₀ H₀ E).env)) (Q:=λ _ s'=>SP (cxX P w K mg base N qual scope' f cd A outer s₀ H₀ E) pins Dn .next s') rfl hs a2 S.kind S.loc
  (thn (a9 pins s σ H _ I h) λ v s1 h1=>thn h1 λ b9 s2 h2=>?_)) (λ _ s' hq=>uB (uB hq)) λ _ _ e=>e)
 obtain ⟨it,fp,tn,J,H2,e,I2,T,a8,f2,W,⟨m0,w0⟩,a3⟩:=h2
 subst e
 refine N4 (RR:=λ b8 C=>compPost (model P w) (cxX P w K mg base N qual scope' f cd A outer s₀ H₀ E).A (cxX P w K mg base N qual scope' f cd A outer s₀ H₀ E).xe (some (assign (.Name y py) (cxX P w K mg base N qual scope' f cd A outer s₀ H₀ E).env)) (λ _ s'=>SP (cxX P w K mg base N qual scope' f cd A outer s₀ H₀ E) pins Dn .next s') b8 C) (Fin:=λ D ys H=>Dn.nx (σ.set j (some (.ref D))) (upd H D (.lst ys))) (XEC (cxX P w K mg base N qual scope' f cd A outer s₀ H₀ E) E s2 H2 fp (own ++ fr.map (·.1)) scope cl) hc S a6 a4 (λ C=>hg _ _ _ _ C _) hk (λ C=>hi _ _ _ _ C _) (λ C=>he _ _ _ _ C) I2 T a8 f2 w0 a3 ?_ (λ D C e s hC hx=>Ad7 I2 f2 hC e s hx)
 intro D C oC mC s4 H4 ys a7 IC hn fC
 show wpAny _ (cxX P w K mg base N qual scope' f cd A outer s₀ H₀ E).A (assign (.Name y py) (cxX P w K mg base N qual scope' f cd A outer s₀ H₀ E).env (.ref D)) _ _ _
 refine wpAny_assign_Name (Hn (v:=.ref D) IC hN hj hy rfl (λ s5 I5=>?_) hf)
 have pC:=I5.pin (C,oC) (uS _ (uS _ (vC.mpr rfl)))
 have a5:=IC.pin (C,oC) (uS _ (uS _ (vC.mpr rfl)))
 refine ⟨mC,hn.at' λ o e=>?_,λ h' b6=>⟨_,_,?_,a7⟩⟩
 ·have e':=a5.1
  rw [e] at e'
  cases e'
  exact pC.1
 ·exact I5.unpinned.turned (t':=s5.toks) (λ b o hb e=>b6.extBut b o hb e) fC.1 fC.2.1 fC.2.2.2.1 fC.2.2.2.2.1 fC.2.2.2.2.2
end
def ExO (C ea:Addr):HO:=.ext λ h=>∃ o,h.get? ea = some o∧o.cls = .ref C
theorem ExO.ok (e:h.get? ea = some o) (c:o.cls = .ref C):B1 P w H h ea (ExO C ea) :=
 ⟨⟨o,e,c⟩,⟨o,e⟩,λ h1 h2 ⟨o,e,c⟩ k=>⟨o,k o e,c⟩⟩
section
variable {s:Shared} {ea:Addr} {o:Obj}
theorem Inv.track (I:Inv X pins σ H s) (hn:H ea = none) (e:s.heap.get? ea = some o) (c:o.cls = .ref C) (hd:∀ v,o.data≠.cell v) (hl:ea≠X.env.locals) (old:X.s₀.heap.get? ea = none) (hp:∀ p∈X.pn ++ pins,p.1≠ea):Inv X pins σ (upd H ea (ExO C ea)) s where
 ok:=I.ok
 os:=I.os
 bare:=I.bare
 base:=⟨I.base.keep,I.base.slot,λ b ob q n x=>(by rw [upd_ne (λ z=>by rw [z,old] at q; cases q)]; exact I.base.free b ob q n x),I.base.there,
  λ b xs q=>(by have z:=I.base.tups b xs q; rw [upd_ne (Ay z hn)]; exact z),
  λ b o u q=>(by have z:=I.base.frzs b o u q; rw [upd_ne (Ay z hn)]; exact z),
  λ b ps q=>(by obtain ⟨m,z⟩:=I.base.tbls b ps q; exact ⟨m,by rw [upd_ne (Ay z hn)]; exact z⟩)⟩
 loc:=I.loc
 cell:=I.cell
 free:=by rw [upd_ne hl.symm]; exact I.free
 freeC:=λ x c' q=>by
  rw [upd_ne (λ z=>?_)]
  ·exact I.freeC x c' q
  ·obtain ⟨v,o',e',d⟩:=I.cell x c' q
   rw [z,e] at e'
   cases e'
   exact hd v d
 pin:=λ p a6=>by
  obtain ⟨a1,a2,a3,a4,a5⟩:=I.pin p a6
  exact ⟨a1,by rw [upd_ne (hp p a6)]; exact a2,a3,a4,a5⟩
 hok:=λ b u q=>by
  by_cases hb:b = ea
  ·subst hb
   rw [Ae] at q
   cases q
   exact ExO.ok e c
  ·rw [upd_ne hb] at q
   exact (I.hok b u q).stay (λ _ _ _ z=>z) (λ c q=>by rw [upd_ne (Ay q hn)]; exact q) λ c xs q=>by rw [upd_ne (Ay q hn)]; exact q
 len:=I.len
end
theorem M3 {α:Type} {p:α→Bool}:∀ {l:List α} {i:Nat} {a:α},l[i]? = some a→p a = false→(l.eraseIdx i).find? p = l.find? p
 | [],_,_,h,_=>by cases h
 | x :: l,0,a,h,hp=>by
  cases h
  show l.find? p = _
  rw [find?_cons,hp]
 | x :: l,i + 1,a,h,hp=>by
  show (x :: l.eraseIdx i).find? p = _
  rw [find?_cons,find?_cons,M3 (l:=l) (i:=i) h hp]
section
variable {M:Model} {s:Shared}
theorem Xm {m} {Q:Bool→Shared→Prop} (hn:s.heap.Ns a m)
  (hQ:∀ h' m',h'.Ns a m'→(∀ x,x≠name→m' x = m x)→Heap.SameBut a s.heap h'→Q (m name).isSome { s with heap:=h' }):wpAny M A (nsDel a name) Q E s:=by
 obtain ⟨o,es,ep,ho,hd,hk,hm⟩:=id hn
 have a5:es.any (·.refKey) = false:=by
  rw [Array.any_eq_false']; intro e he; obtain ⟨n,t,h⟩:=hk e he; simp [DictEntry.refKey,h]
 have a1:(m name).isSome = es.any (·.key.isStr name):=by
  rw [← hm name]; simp only [nsFind,findBy,Option.isSome_map]
  rw [Bool.eq_iff_iff]; simp only [Array.find?_isSome,Array.any_eq_true]
  constructor
  ·rintro ⟨x,hx,hp⟩; obtain ⟨i,hi,rfl⟩:=Array.mem_iff_getElem.mp hx; exact ⟨i,hi,hp⟩
  ·rintro ⟨i,hi,hp⟩; exact ⟨_,Array.getElem_mem hi,hp⟩
 have a4:nsHas name o = pure (es.any (·.key.isStr name)):=by
  rw [nsHas_eq]; unfold nsHasByArray; rw [hd]
  show (if (es.any λ x=>x.key.isStr name) = true then _ else _) = _
  generalize (es.any λ x=>x.key.isStr name) = b
  cases b <;> simp [a5]
 unfold nsDel
 refine uA (wpAny_loadPart ho ?_)
 rw [a4]
 refine uA (uB ?_)
 rw [← a1]
 cases hmn:(m name).isSome
 ·have:=hQ s.heap m hn (λ _ _=>rfl) (.refl ..)
  rw [hmn] at this
  exact uB this
 ·refine uA (wpAny_updatePart ho (uB ?_))
  have a6:∃ m',(s.heap.update a (Obj.dropName name)).Ns a m'∧∀ x,x≠name→m' x = m x:=by
   obtain ⟨cl,d,dt,sl⟩:=o
   subst hd
   cases hi:es.findIdx? (·.key.isStr name) with
   | some i =>
    refine ⟨_,⟨_,_,ep + 1,Heap.get?_update_self _ ho (by simp only [Obj.dropName_eq,Obj.dropNameByArray,hi] <;> rfl),(by simp only [Obj.dropName_eq,Obj.dropNameByArray,hi] <;> rfl),hk.erase i,λ _=>rfl⟩,λ x hx=>?_⟩
    obtain ⟨a2,hp,_⟩:=Array.findIdx?_eq_some_iff_getElem.mp hi
    rw [← hm x]
    have np:(es[i].key.isStr x) = false:=by
     obtain ⟨n,t,a3⟩:=hk es[i] (Array.getElem_mem a2)
     rw [a3] at hp ⊢
     have hp:=hp
     have e:=eq_of_beq hp
     show (n == x) = false
     rw [e]
     exact beq_false_of_ne λ z=>hx z.symm
    unfold nsFind findBy
    congr 1
    rw [← Array.find?_toList,← Array.find?_toList,Array.toList_eraseIdxIfInBounds]
    exact M3 (a:=es[i]) (by simp [a2]) np
   | none=>exact ⟨_,⟨_,_,ep,Heap.get?_update_self _ ho (by simp only [Obj.dropName_eq,Obj.dropNameByArray,hi] <;> rfl),(by simp only [Obj.dropName_eq,Obj.dropNameByArray,hi] <;> rfl),hk,λ _=>rfl⟩,λ x _=>hm x⟩
  obtain ⟨m',a8,a7⟩:=a6
  have:=hQ _ m' a8 a7 (Heap.SameBut.update ..)
  rw [hmn] at this
  exact this
end
section
variable {s:Shared}
theorem On {Q:Unit→Shared→Prop} (I:Inv X pins σ H s) (hN:X.N.Nodup) (hi:X.N[i]? = some x) (hk:X.env.kindOf x = some .local)
  (h:∀ s',Inv X pins (σ.set i none) H s'→Q () s'):wpAny M A (do bindName X.env x .none; unbindBehindTheSuite X.env x pos) Q E s:=by
 obtain ⟨m,hn,hl⟩:=id I.loc
 have a2:(X.env.scope.kind == .class || (X.env.scope.kind == .module && X.env.locals != X.env.globals)) = false:=by rw [I.ok.kind]; rfl
 have a7:i < σ.length:=by rw [I.len]; exact (List.getElem?_eq_some_iff.mp hi).1
 have cne:=I.cne
 refine uA (wpAny_bindName (wpAny_storeName_local hk hn (λ b6 a5 a3=>?_) a2))
 unfold unbindBehindTheSuite
 refine wpAny_onRaise ?_
 unfold unbindName
 refine uA (wpAny_point (uA ?_))
 unfold deleteName
 simp only [hk,a2]
 rw [if_neg (by decide)]
 refine uA (Xm a5 λ h' a8 a9 a6 a4=>?_)
 simp only [if_true,Option.isSome_some,Bool.not_true,Bool.false_eq_true,if_false]
 have hs:=a3.trans a4
 obtain ⟨oL,_,_,b7,_⟩:=id hn
 have a1:HOk X.prog X.w H h':=λ b ob e=>by
  refine (I.hok b ob e).stay (λ c w' hc q=>(hs.2 c ?_).trans q) (λ _ q=>q) λ _ _ q=>q
  rintro rfl
  rcases hc with rfl | hc
  ·rw [I.free] at e; cases e
  ·rw [I.free] at hc; cases hc
 refine uB (wpAny_point (h _ ⟨I.ok,I.os,I.bare,⟨λ b o e n hb hx=>?_,λ b o e n hb hx=>?_,I.base.free,λ b o e hx=>?_,I.base.tups,I.base.frzs,I.base.tbls⟩,⟨a8,a9,λ j y v' e1 e2 e3=>?_⟩,λ y c e=>?_,I.free,I.freeC,λ p hp=>?_,a1,by simpa using I.len⟩))
 ·exact (hs.2 b (vB (uZ (Heap.lt_size e) I.ok.above))).trans (I.base.keep b o e n hb hx)
 ·obtain ⟨sl,e1⟩:=I.base.slot b o e n hb hx
  exact ⟨sl,(hs.2 b (vB (uZ (Heap.lt_size e) I.ok.above))).trans e1⟩
 ·obtain ⟨o',e1⟩:=I.base.there b o e hx
  exact ⟨o',(hs.2 b (vB (uZ (Heap.lt_size e) I.ok.above))).trans e1⟩
 ·by_cases hj:j = i
  ·subst hj
   rw [vL a7] at e2
   cases e2
  ·rw [vK (Ne.symm hj)] at e2
   obtain ⟨u',r',q⟩:=hl j y v' e1 e2 e3
   refine ⟨u',r',?_⟩
   rcases q with ⟨k,e⟩ | ⟨k,c,e,z⟩
   ·refine .inl ⟨k,?_⟩
    have ne:y≠x:=λ e=>hj (Mn hN e1 (e ▸ hi))
    rw [a6 y ne]
    simp [ne,e]
   ·exact .inr ⟨k,c,e,z.sameBut hs (cne y c e)⟩
 ·obtain ⟨w',z⟩:=I.cell y c e
  exact ⟨w',z.sameBut hs (cne y c e)⟩
 ·obtain ⟨e,n,ne,nf,d⟩:=I.pin p hp
  exact ⟨(hs.2 p.1 ne).trans e,n,ne,nf,d⟩
end
structure Af5 (X:Cx) (pins:List (Addr× Obj)) (H:Hp) (ea:Addr):Prop where
 hn:H ea = none
 old:X.s₀.heap.get? ea = none
 loc:ea≠X.env.locals
 pn:∀ p∈X.pn ++ pins,p.1≠ea
def PHA (X:Cx) (hs:List ExceptHandler) (th:Addr→TS):Prop:=∀ (pins:List (Addr× Obj)) (s:Shared) (σ:St) (H:Hp) (D:Fi) (B:Heap) (ea C:Addr) (a0:Value),AgY X pins σ H B ea C a0 s→Af5 X pins H ea→th C D σ H →
 wpAny (model X.prog X.w) X.A (handleBy (.ref ea) X.env hs) (SP X pins D) X.xe s
def AfJ (K:FA) (C0:Addr) (i:Nat) (t:TS) (r:Addr→TS):Addr→TS:=λ C D σ H=>(exmOne K (.ref C) (.ref C0) = some true∧∀ ea,H ea = none→t { D with nx:=λ σ' H'=>D.nx (σ'.set i none) H',bk:=λ σ' H'=>D.bk (σ'.set i none) H',ct:=λ σ' H'=>D.ct (σ'.set i none) H' } (σ.set i (some (.ref ea))) (upd H ea (ExO C ea)))∨(exmOne K (.ref C) (.ref C0) = some false∧r C D σ H)
section
variable {n:Str} {i:Nat} {np:Pos} {b0:Stmt} {suite:List Stmt} {hs:List ExceptHandler} {C0:Addr} {t:TS} {r:Addr→TS}
theorem Aeg:PHA X hs AeY:=λ _ _ _ _ _ _ _ _ _ _ _ h=>h.elim
theorem Ada (hm:X.mg x = some (.ref C0)) (hg:Gl X x) (hN:X.N.Nodup) (hi:X.N[i]? = some n) (hk:X.env.kindOf n = some .local) (hx:Loc X.env.scope n) (ht:∀ u,PSs (X.hold u) (b0 :: suite) t) (hr:PHA X hs r) (a4:(x == ("__debug__" : Str)) = false:=by decide) (hf:X.fn n = true∨X.env.scope.names.lookup n = some .local:=by first | exact .inl rfl | exact .inr rfl | assumption) :
  PHA X (.ExceptHandler (some (.Name x np)) (some n) (b0 :: suite) pos :: hs) (AfJ X.K C0 i t r):=by
 intro pins s σ H D B ea C a0 L O h
 refine wpAny_handleBy_cons (codeAny_handlers_test (E7 (X:=X.hold (.ref ea)) (L.inv.hold _) hg hm ?_ a4)) (by intro q; cases q)
 have LT:PySem.W.Looks (model X.prog X.w) s.heap (typeOf (.ref ea)) (.ref C):=by
  obtain ⟨ob,a5,a7⟩:=L.fly.there
  rw [← a7]
  exact PySem.W.Looks.ld a5 |>.andThen .now
 rcases h with ⟨a2,h⟩ | ⟨a2,h⟩
 ·refine (exm_one L.inv.kIn LT a2).here ?_
  refine codeAny_handlers_suite_as ?_
  refine lands_againW L.fly λ h6 a3 a6=>?_
  have I6:=(L.go h6 a3.1 a6).hold (.ref ea)
  obtain ⟨_,_,_,oe,vs,T,oT,ts,he,⟨hc,_⟩,hd,_⟩:=id a3
  have I7:=I6.track O.hn he hc (λ v z=>by rw [hd] at z; cases z) O.loc O.old O.pn
  refine Hn (X:=X.hold (.ref ea)) I7 hN hi hx (v:=.ref ea) (u:=.ref ea) rfl (λ s' I8=>?_) hf
  refine vS (ht (.ref ea) pins _ _ _ _ I8 (h ea O.hn)) (λ f s2 q=>?_) λ _ _ z=>False.elim z
  have q:=q.unhold L.inv.ok
  show wpAny _ _ (do bindName X.env n .none; unbindBehindTheSuite X.env n pos) _ _ s2
  cases f with
  | next=>obtain ⟨a1,H',I,q⟩:=q; exact On I hN hi hk λ s3 I3=>⟨_,H',I3,q⟩
  | brk=>obtain ⟨a1,H',I,q⟩:=q; exact On I hN hi hk λ s3 I3=>⟨_,H',I3,q⟩
  | cont=>obtain ⟨a1,H',I,q⟩:=q; exact On I hN hi hk λ s3 I3=>⟨_,H',I3,q⟩
  | ret v=>obtain ⟨v',a1,H',I,r,q⟩:=q; exact On I hN hi hk λ s3 I3=>⟨v',_,H',I3,r,q⟩
 ·refine (exm_one L.inv.kIn LT a2).here ?_
  exact hr pins s σ H D B ea C a0 L O h
end
section
variable {hs:List ExceptHandler}
theorem Ae9 {tb:XK→TS} {th:Addr→TS} (hb:PXs X a1 tb) (hh:PHA X (h0 :: hs) th) (a3:X.stack = X.env :: X.outer) (hf:X.env.frame = some X.env.locals) (c5:X.ex = []:=by rfl):PS X (.Try a1 (h0 :: hs) [] [] pos) (Afo th tb):=by
 intro pins s σ H D I h
 refine wpAny_Try_except (vS (hb pins s σ H D _ (λ e a9=>wpAny (model X.prog X.w) X.A (noteFrame e X.env) (λ _ b7=>wpAny (model X.prog X.w) X.A (setFlight e none) (λ _ a8=>wpAny (model X.prog X.w) X.A (handleBy e X.env (h0 :: hs)) (SP X pins D) X.xe a8) X.xe b7) X.xe a9) I h ?_) (λ f s1 q=>?_) λ _ _ z=>z)
 ·intro H1 s1 e' s' I1 hc
  obtain ⟨ea,C,a0,H',B,rfl,⟨C',e1,hE⟩,os,bare,un,hok,fl,a2,a6,c0⟩:=hc
  cases e1
  have b8:ea∉frs X.stack:=λ z=>by
   obtain ⟨_,o2,q2,nf⟩:=fl.2.2.1.mem z
   obtain ⟨_,_,_,oe,vs,T,oT,ts,he,_,hd,_⟩:=id fl
   rw [q2] at he
   cases he
   exact nf vs hd
  have new:∀ o,s1.heap.get? ea = some o→False:=λ o q=>by
   obtain ⟨o',z⟩:=a2 ea o q b8
   rw [fl.2.1] at z
   cases z
  have O:Af5 X pins H' ea:=by
   refine ⟨c0,?_,λ z=>?_,λ p hp z=>?_⟩
   ·cases q:X.s₀.heap.get? ea with
    | none=>rfl
    | some o =>
     obtain ⟨o',z⟩:=I1.base.there ea o q (by rw [c5]; simp)
     exact (new o' z).elim
   ·obtain ⟨m,hn,_⟩:=I1.loc
    obtain ⟨o,_,_,ho,_⟩:=hn
    exact new o (by rw [z]; exact ho)
   ·exact new p.2 (by rw [← z]; exact (I1.pin p hp).1)
  have a7:=fl
  rw [a3] at a7
  refine wpAny_looks_onW (I1.ok.frames.trans (by rw [a3])) hf a7 λ h4 a4 c3=>?_
  refine wpAny_landsW a4 λ h5 a5 b9=>?_
  have b6:Heap.FlyingW B X.stack ea (.ref C) a0 h5:=by rw [a3]; exact a5
  have up:=c3.trans b9
  refine hh pins _ σ H' D B ea C a0 ⟨Aa5 I1 os bare un hok fl a2 a6 a5.1 up,b6,λ h' c4 c6=>?_⟩ O hE
  exact Aa5 I1 os bare un hok fl a2 a6 c4 (up.trans c6)
 ·cases f with
  | next=>exact wpAny_execs_nil q
  | brk=>exact q
  | cont=>exact q
  | ret v=>exact q
end
end L2
namespace L2
open PySem PySem.Spec PySem.Calls PyProof.Rows PySem.W PySem.Builtin PySem.Builtin.ObjectAttr PySem.Builtin.Getset_descriptor
section
variable {D x:Addr}
theorem Sa (p:∃ o,h.get? x = some o∧o.cls = .ref D):Looks M h (typeOf (.ref x)) (.ref D):=by
 obtain ⟨o,e,c⟩:=p
 exact c ▸ (Looks.ld e).andThen .now
theorem AfT {M:Model} {h:Heap} {name:Str} {a g:Value} (X:K.In h) (ha:findIn K (.ref D) name = some (some a)) (hg:specialIn K a "__get__" = some (some g)) (ht:takesIn K a = some true):Looks M h (find (.ref x) (.ref D) name) (.bind g a):=by
 have L2:Looks M h (getOf (some a)) (some g):=looks_specialIn X hg
 have L3:Looks M h (dataDescriptor? (some a) (some g)) (some (g,a)):=(looks_takesIn (M:=M) X ht).andThen .now
 exact (looks_findIn (M:=M) X ha).andThen (L2.andThen (L3.andThen (Looks.tag .now)))
section
variable {s:Shared}
theorem Agb {R:Result→Shared→Prop} (X:K.In s.heap) (p:∃ o,s.heap.get? x = some o∧o.cls = .ref D) (hm:mroIn K D (.type "object") = some true) (h:R (.ok (.ret (.ref D))) s) :
  codeAny (model prog w) A (.call (.builtin "getset_descriptor.__get__") ⟨[.builtin "object.__class__", .ref x,tp],[]⟩) R s:=by
 obtain ⟨hh,g,dr,t,os⟩:=s
 have L0:=Sa (M:=model prog w) p
 have L1:=looks_mroIn (M:=model prog w) X hm
 refine codeAny_call_builtin KF.slot_gs.plain KF.entry_gs (KF.slot_gs.check _ _ _ _ _ _ _ _ KF.type_class (KF.args_gs _ _ _) ?_)
 unfold Builtin.«getset_descriptor.__get__» descrGet
 rw [dga_obj]
 refine uA (uB ?_)
 unfold descrGetter descrCheckInstance descrNameAndClass isInstance
 simp only [KF.owner_class]
 repeat lk
 refine ⟨Code.quiet_builtin _ (by decide +kernel),codeAny_builtin KF.entry_class ?_⟩
 unfold Builtin.«object.__class__» shownTypeOf
 repeat lk
 exact h
theorem V7:Slot "BaseException" "__getattribute__" "BaseException.__getattribute__" :=
 .of (owner:= "BaseException") (n:= "__getattribute__") (by rw [typeLookup_type,builtinLookup_eq_fast]; kernel_rfl) (by decide +kernel) (by decide +kernel) (by decide +kernel)
  (by first | exact .inl (by decide +kernel) | exact .inr (by decide +kernel)) (by rw [isSubtype_type]; kernel_rfl)
theorem AeD {Q:Option Value→Shared→Prop} (a2:findIn K (.ref D) "__getattribute__" = some (some (.builtin "BaseException.__getattribute__"))) (a1:findIn K (.ref D) "__getattr__" = some none) (a3:subIn K (.ref D) (.type "BaseException") = some true) (ha:findIn K (.ref D) "__class__" = some (some (.builtin "object.__class__")))
  (hn:specialIn K (.builtin "object.__class__") "__get__" = some (some (.builtin "getset_descriptor.__get__"))) (htk:takesIn K (.builtin "object.__class__") = some true) (hm:mroIn K D (.type "object") = some true)
  (X:K.In s.heap) (p:∃ o,s.heap.get? x = some o∧o.cls = .ref D) (h:Q (some (.ref D)) { s with toks:=s.toks + 1 }):wpAny (model prog w) A (getAttr? (.ref x) "__class__") Q E s:=by
 obtain ⟨hh,g,d,t,os⟩:=s
 have L0:=Sa (M:=model prog w) p
 have L1:=looks_findIn (M:=model prog w) X a2
 have L2:=AfT (M:=model prog w) (x:=x) X ha hn htk
 have L3:Looks (model prog w) hh (hookBefore (.ref D)) none:=looks_hook X (by rw [if_pos (show onTheHeap (Value.ref D) = true from rfl)]; exact a1)
 unfold getAttr? getAttrBy? getAttrBy
 refine uA (wpAny_mkText (uA (wpAny_attempt (vT (uA (L0.at (uA (L1.at ?_))))))))
 dsimp only
 rw [show (onTheHeap (.ref D) && Value.builtin "BaseException.__getattribute__" == Value.builtin "object.__getattribute__") = false from by rw [show (Value.builtin "BaseException.__getattribute__" == Value.builtin "object.__getattribute__") = false from by decide +kernel,Bool.and_false],if_neg (by decide)]
 unfold getAttrByItsOwn
 refine uA (L3.at (uA (wpAny_attempt (vT ?_))))
 unfold callGetattribute
 rw [show (false && onTheHeap (Value.builtin "BaseException.__getattribute__")) = false from rfl,if_neg (by decide)]
 unfold boundAndCalled
 rw [V7.bind]
 refine uA (uB ?_)
 show wpAny _ _ (call (.builtin "BaseException.__getattribute__") [.ref x,.str "__class__" t]) _ _ _
 refine wpAny_call (codeAny_call_builtin V7.plain PySem.F.entry_bexc_ga ?_)
 refine @check_slot (model prog w) _ _ ⟨hh,g,d,t + 1,os⟩ "BaseException.__getattribute__" "BaseException" "__getattribute__" (.ref x) [.str "__class__" t] [] _ (by decide +kernel) (by decide +kernel) (L0.andThen (looks_subIn X a3)) (PySem.F.args_bexc_ga _ _) ?_
 unfold Builtin.«object.__getattribute__»
 refine uA (uB ?_)
 dsimp only
 refine uA (uB (uA (L0.at (uA (L2.at ?_)))))
 show wpAny _ _ (bindTo (.builtin "getset_descriptor.__get__") (.builtin "object.__class__") (.ref x) (.ref D)) _ _ _
 unfold bindTo
 refine uA (vT (wpAny_call (Agb (s:=⟨hh,g,d,t + 1,os⟩) X p hm ?_)))
 refine uB ?_
 refine handed_on (v:=.ref D) rfl ?_
 exact uB h
end
theorem Wr (a5:findIn K (.ref D) "__getattribute__" = some (some (.builtin "BaseException.__getattribute__"))) (a3:findIn K (.ref D) "__getattr__" = some none) (a7:subIn K (.ref D) (.type "BaseException") = some true) (hc:(clsIn K D).isSome = true) (ha:findIn K (.ref D) "__class__" = some (some (.builtin "object.__class__")))
  (hn:specialIn K (.builtin "object.__class__") "__get__" = some (some (.builtin "getset_descriptor.__get__"))) (htk:takesIn K (.builtin "object.__class__") = some true) (hm:mroIn K D (.type "object") = some true) :
  KitX K (.ref x) (.ref D) (λ h=>∃ o,h.get? x = some o∧o.cls = .ref D) where
 ty:=λ _ _ _ p=>Sa p
 it:=λ _ _ X _=>by
  obtain ⟨a8,a1⟩:=Option.isSome_iff_exists.mp hc
  unfold clsIn at a1
  split at a1
  ·rename_i c' d' a6 a2 ho
   intro A' Q' E' s' k q
   unfold isType loadHead
   exact uA (wpAny_loadPart (k _ _ (X _ _ ho)) (uB q))
  ·cases a1
 ne:=λ h tp dd a9 n sl X a4=>by
  obtain ⟨a8,a1⟩:=Option.isSome_iff_exists.mp hc
  refine Bool.eq_false_iff.mpr λ q=>?_
  have e:=Value.ref.inj (beq_iff_eq.mp q)
  subst e
  unfold clsIn at a1
  split at a1
  ·rename_i c' d' a6 a2 ho
   have z:=(X _ _ ho).symm.trans a4
   cases z
  ·cases a1
 ca:=λ X p k=>AeD a5 a3 a7 ha hn htk hm X p k
end
structure Xt (K:FA) (D:Addr):Prop where
 hg:findIn K (.ref D) "__getattribute__" = some (some (.builtin "BaseException.__getattribute__"))
 gn:findIn K (.ref D) "__getattr__" = some none
 be:subIn K (.ref D) (.type "BaseException") = some true
 hc:(clsIn K D).isSome = true
 ha:findIn K (.ref D) "__class__" = some (some (.builtin "object.__class__"))
 hn:specialIn K (.builtin "object.__class__") "__get__" = some (some (.builtin "getset_descriptor.__get__"))
 ht:takesIn K (.builtin "object.__class__") = some true
 hm:mroIn K D (.type "object") = some true
def Ahr (K:FA):List V→Hp→VK→Prop:=λ xs H Q=>∃ ea C D b,xs = [.ref ea,.ref D]∧H ea = some (ExO C ea)∧Xt K C∧kitOne K (.ref C) (.ref D) = some b∧Q (.bl b) H
theorem Do :Es X (.builtin "isinstance") (Ahr X.K):=by
 intro pins s σ H xs us Q I r h
 obtain ⟨ea,C,D,b,rfl,he,ce,e,q⟩:=h
 obtain ⟨u,v,rfl,ru,rv⟩:=r.two
 cases rv
 cases ru
 exact kia_one (Wr ce.hg ce.gn ce.be ce.hc ce.ha ce.hn ce.ht ce.hm) I.kIn (I.hok _ _ he).1 e (λ z=>nomatch z) λ tk=>⟨.bl b,H,I.tok _,rfl,q⟩
end L2
namespace L2
open PySem PySem.Spec PySem.Calls PyProof.Rows PySem.W
def Ahq (K:FA):List V→Hp→VK→Prop:=λ xs H Q=>∃ ea C n b,xs = [.ref ea,.ty n]∧H ea = some (ExO C ea)∧Xt K C∧kitOne K (.ref C) (.type n) = some b∧Q (.bl b) H
theorem Vv :Es X (.builtin "isinstance") (Ahq X.K):=by
 intro pins s σ H xs us Q I r h
 obtain ⟨ea,C,D,b,rfl,he,ce,e,q⟩:=h
 obtain ⟨u,v,rfl,ru,rv⟩:=r.two
 cases rv
 cases ru
 exact kia_one (Wr ce.hg ce.gn ce.be ce.hc ce.ha ce.hn ce.ht ce.hm) I.kIn (I.hok _ _ he).1 e (λ z=>nomatch z) λ tk=>⟨.bl b,H,I.tok _,rfl,q⟩
theorem AeF {te:XK→TE} (he:PX X e te) (hs:swapsWith e none pos.line X.env = pure false:=by rfl):PXs X [.Expr e pos] (λ E=>AeQ (te E)):=by
 intro pins s σ H D E xe I h a1
 exact wpAny_execs_cons (wpAny_Expr_any (thn (he pins s σ H _ E xe I h a1) λ v s1 ⟨x,H1,I1,r1,q1⟩=>wpAny_execs_nil ⟨σ,H1,I1,q1⟩) I.quiet hs)
inductive Yt (K:FA) (x y:V) (H:Hp) (Q:VK):Prop
 | mk (d) (p) (q) (xs:_) (ys) (_:d≤60) (_:x = .ref p) (_:y = .ref q) (_:SqL K H p xs) (_:SqL K H q ys) (_:xs.length = ys.length) (_:(∀ (i:Nat) (x y:V),xs[i]? = some x→ys[i]? = some y→EqD K H d x y)) (_:Q (.bl true) H):Yt K x y H Q
def Ahb (K:FA):R2:=λ x y H Q=>Yt K x y H Q
theorem Afh (hu:X.A.units + 64 < cLine):OpR X (compareOp .Eq) (Ahb X.K):=by
 intro pins s σ H x y v u Q I rx ry h
 obtain ⟨d,p,q,xs,ys,hd,rfl,rfl,h1,h2,hl,hi,hq⟩:=h
 cases rx
 cases ry
 obtain ⟨us,r1,p1,z1⟩:=I.list h1
 obtain ⟨ws,r2,p2,z2⟩:=I.list h2
 have l1:=r1.length
 have l2:=r2.length
 refine SeqAt.eq_listAt (e:=λ _=>true) p1.isList p2.isList (by rw [uO,uO]; omega) (by omega) (P2 (pins:=pins) (σ:=σ) (H:=H) (K:=X.K) (d:=d) r1 r2 hl λ i x y hx hy u v ru rv=>AgW I (hi i x y hx hy) X.A.in1 (by show X.A.units + 1 + d < cLine; omega) u v ru rv) ?_
 rw [Py]
 exact ⟨.bl true,H,I,rfl,hq⟩
end L2
namespace L2
open PySem PySem.Spec PyProof.Rows
section
variable {s:Shared}
end
section
variable {s:Shared}
end
section
variable {R:Result→Shared→Prop} {it S:Addr} {fp wr:List Addr} {P:Nat→Value→Prop} {St:Nat→Heap→Prop} {kw:List (Str× Value)}
end
section
variable {s:Shared}
end
section
variable {p kp:Pos} {e1 e2:Expr} {t tk:TA}
end
end L2
namespace Dsk
open PySem L2 My
open Rd (B0)
def U1:Str:= "abcdefghijklmnopqrstuvwxyz"
def Ly (x:Str):Bool:=decide ((1:Int)≤x.length) && decide ((x.length:Int)≤8) && (x.cps.toList.map (inS U1)).all id
def Qn (ws:List Str):Bool:=decide (V.str (ws.headD "") = V.str "tick") && (ws.tail.map Ly).all id
def AeI:List Str:=["where", "begin", "judge"]
def R6 (x:Str):Bool:=inV (.str x) (AeI.map V.str) || Txt.startswith x "load " || Qn (Txt.split x " ")
def Ni (ws:List Str):Bool:=decide (ws.length≤1000) && ws.all λ x=>decide (x.length≤1000)
inductive Hl (K:FA) (H:Hp):V→Bool→Prop
 | no {x:V} {ty:Value}:TyK K H x ty→PySem.W.kitOne K ty (.type "str") = some false→Hl K H x false
 | str {x:Str} {ty:Value}:TyK K H (.str x) ty→PySem.W.kitOne K ty (.type "str") = some true→x.length≤1000→Ni (Txt.split x " ") = true→(Txt.split x " ").length≠0→Hl K H (.str x) (R6 x)
inductive Uz  (vs:List V) (H:Hp) (Q:VK):Prop
 | mk (x:Str) (_:vs = [.str x]) (_:x.length≤1000) (_:∀ H',Same H H'→Q (.bl (Ly x)) H'):Uz  vs H Q
def Wb:Sp:=λ vs H Q _=>Uz  vs H Q
inductive Sy (K:FA) (vs:List V) (H:Hp) (Q:VK):Prop
 | mk (a:Addr) (ws:List Str) (_:vs = [.ref a]) (_:SqL K H a (ws.map V.str)) (_:Ni ws = true) (_:ws.length≠0) (_:∀ H',Same H H'→Q (.bl (Qn ws)) H'):Sy K vs H Q
def Yw (K:FA):Sp:=λ vs H Q _=>Sy K vs H Q
inductive Yk (K:FA) (vs:List V) (H:Hp) (Q:VK):Prop
 | mk (x:V) (b:Bool) (_:vs = [x]) (_:Hl K H x b) (_:∀ H',Same H H'→Q (.bl b) H'):Yk K vs H Q
def AeW (K:FA):Sp:=λ vs H Q _=>Yk K vs H Q
theorem Xv (x:V) (xs:List V):J1 (x :: xs) (some 1) none = xs:=by
 have e:=HT.Ai1 (x :: xs).length 1
 unfold J1
 rw [HT.Air,show (some (1:Int)) = some ((1:Nat):Int) from rfl,HT.Ai1]
 simp
structure Ka (K:FA) (mg:Str→Option Value) (cD aBR cNR cNP cNN cUn:Addr):Prop extends Txt mg where
 clD:Cls K cD
 nI:Dk K cD "ins"
 nO:Dk K cD "outs"
 nP:Dk K cD "program"
 nW:Dk K cD "walker"
 m_LETTERS:∃ t,mg "LETTERS" = some (.str U1 t)
 m_LONGEST:∃ t,mg "LONGEST_NAME" = some (.int 8 t)
 m_LOAD:∃ t,mg "LOAD" = some (.str "load " t)
 m_BR:mg "BARE_ROWS" = some (.ref aBR)
 mBR:Gp K aBR (AeI.map V.str)
 m_NR:mg "NoRow" = some (.ref cNR)
 eNR:Ja K cNR
 m_NP:mg "NoProgram" = some (.ref cNP)
 eNP:Ja K cNP
 m_NN:mg "NoName" = some (.ref cNN)
 eNN:Ja K cNN
 m_Un:mg "Unsettled" = some (.ref cUn)
section
variable {cD aBR cNR cNP cNN cUn:Addr}
seal PSs PS PE PA PT
theorem Ai2 (F:Bd K mg "is_in_form" ["word"] G9) (T:Ka K mg cD aBR cNR cNP cNN cUn):Am P w K mg base 1 "is_in_form" ["word"] Wb:=by
 refine F.ok Up (λ vs H Q E h=>?_) (λ f cdv A outer s H vs Q E hr h=>?_)
 ·obtain ⟨x,rfl,_⟩:=h; rfl
 obtain ⟨x,rfl,hl,q⟩:=h
 obtain ⟨t1,m1⟩:=T.m_LETTERS
 obtain ⟨t8,m8⟩:=T.m_LONGEST
 refine ⟨_,(Ag (Aq (Iu (AdW AaZ AaZ Af (Be G6 rfl T.n_len PySem.boot_len (Aa (pv 0) Ab)) (Bb (v:=.int 8) rfl m8 ⟨_,rfl⟩)) (J5 (Be (Xq rfl) rfl T.n_all (by decide +kernel) (Aa (Fw (g:=Cg 0) (tc:=Gj) (te:=tOp (λ x y H Q=>∃ i j,x = .str i∧y = .str j∧Q (.bl (!(Builtin.Str.occurrences j i 0 j.length 1).isEmpty)) H) (Bl 0) (tC (.str U1))) ["sign"] [] rfl (Ei (Aj G9) ["word"] (by decide +kernel)) (Ab2 (pv 0)) (λ s2 H2 fp cl C=>Bn (i:=0) (show Nodup [("sign" : Str)] from by decide +kernel) rfl (Or.inl rfl)) (Cr (by decide)) (λ s2 H2 fp cl C=>Hk) (λ s2 H2 fp cl C=>El AcR (pv 0) (Bb (v:=.str U1) rfl m1 ⟨_,rfl⟩) (by rfl))) Ab)))))),?_⟩
 refine ⟨_,rfl,x,rfl,uX hl (by decide),_,_,rfl,rfl,_,rfl,?_⟩
 have a1:∀ {b:Bool} {H'},Same H H'→Ly x = b→Q (.bl b) H':=λ g e=>e ▸ q _ g
 refine B0 (λ h1=>⟨_,_,rfl,rfl,_,rfl,B0 (λ h2=>?_) λ h2=>a1 (Same.refl _) (by unfold Ly; rw [h1,h2]; rfl)⟩) λ h1=>⟨_,rfl,B0 (λ z=>by cases z) λ _=>a1 (Same.refl _) (by unfold Ly; rw [h1]; rfl)⟩
 refine ⟨_,rfl,x,rfl,?_⟩
 refine J6 (k:=x.cps.toList.length) (λ i ys H'=>H' = H∧ys = ((x.cps.toList.take i).map (inS U1)).map V.bl) ⟨rfl,rfl⟩ (by rw [Array.length_toList]; exact uX hl (by decide)) (λ i ys H' hi ⟨e,_⟩=>by rw [Array.length_toList] at hi; exact hi) (λ ys H' _=>by rw [Array.length_toList]; exact uY _) ?_ ?_
 ·rintro i y ys H1 H2 N hi ⟨rfl,rfl⟩ ⟨rfl,c,hc,rfl⟩ a2 hN
  refine ⟨_,rfl,_,_,rfl,rfl,hN _ _ ?_ ⟨rfl,?_⟩⟩
  ·rw [uF,uG]; omega
  ·rw [take_add_one,Array.getElem?_toList,hc]
   simp [inS]
 ·rintro ys H1 a2 ⟨rfl,rfl⟩ D hD
  rw [take_length]
  exact ⟨D,_,rfl,SqL.of Ae,a1 (Ah hD _) (by unfold Ly; rw [h1,h2]; rfl)⟩
theorem AiM (F:Bd K mg "is_tick" ["words"] Kv) (T:Ka K mg cD aBR cNR cNP cNN cUn) (dE:Am P w K mg base 1 "is_in_form" ["word"] Wb):Am P w K mg base 2 "is_tick" ["words"] (Yw K):=by
 refine F.ok Aau (λ vs H Q E h=>?_) (λ f cdv A outer s H vs Q E hr h=>?_)
 ·obtain ⟨a,ws,rfl,_⟩:=h; rfl
 obtain ⟨a,ws,rfl,hS,hb,h0,q⟩:=h
 refine ⟨_,(Ag (Aq (Iu (El A6 (An Cm (pv 0) Af (λ _ _=>rfl)) Al (Aw _)) (J5 (Be (Xq rfl) rfl T.n_all (by decide +kernel) (Aa (Fw (g:=Cg 0) (tc:=Gj) (te:=G3 Wb [] E0 (B3 (Bl 0) Dq)) ["word"] [] rfl (Ei (Aj Kv) ["words"] (by decide +kernel)) (Dm (Mo R5 (pv 0) (Op Af) Oz)) (λ s2 H2 fp cl C=>Bn (i:=0) (show Nodup [("word" : Str)] from by decide +kernel) rfl (Or.inl rfl)) (Cr (by decide)) (λ s2 H2 fp cl C=>Hk) (λ s2 H2 fp cl C=>Ap dE hr rfl Av (Aa (pv 0) Ab))) Ab)))))),?_⟩
 cases ws with
 | nil=>exact absurd rfl h0
 | cons w0 ws =>
 unfold Ni at hb
 rw [Bool.and_eq_true] at hb
 have hl:=uN hb.1
 have hs:∀ x∈ws,x.length≤1000:=λ x hx=>uN (all_eq_true.mp hb.2 x (uI _ hx))
 have a1:∀ {b:Bool} {H'},Same H H'→Qn (w0 :: ws) = b→Q (.bl b) H':=λ g e=>e ▸ q _ g
 refine ⟨_,rfl,a,_,_,.str w0,rfl,rfl,hS,Ai (j:=0) rfl,rfl,_,rfl,B0 (λ h1=>?_) λ h1=>a1 (Same.refl _) (by unfold Qn; rw [show ((w0 :: ws).headD "") = w0 from rfl,h1]; rfl)⟩
 refine ⟨_,rfl,_,rfl,a,_,rfl,hS,λ l a2=>?_⟩
 have e1:J1 ((w0 :: ws).map V.str) (some 1) none = ws.map V.str:=Xv _ _
 rw [e1]
 have k1:=Ah a2 (.lst (ws.map V.str))
 refine ⟨l,rfl,⟨_,SqL.of Ae⟩,Fs (K:=K) (a:=l) (xs:=ws.map V.str) (λ i ys H'=>Same (upd H l (.lst (ws.map V.str))) H'∧ys = ((ws.take i).map Ly).map V.bl) ⟨Same.refl _,rfl⟩ (by rw [uD]; exact B9 (by simp at hl; omega)) (λ i ys H' ⟨g,_⟩=>SqL.of (g _ _ Ae)) ?_ ?_⟩
 ·rintro i y ys H1 N hi ⟨g,rfl⟩ hN a3
  rw [uJ] at hi
  cases ej:ws[i]? with
  | none=>rw [ej] at hi; cases hi
  | some z =>
   rw [ej] at hi
   cases hi
   refine ⟨_,rfl,z,rfl,hs z (uQ ej),λ H2 g2=>hN _ _ ?_ ⟨g.trans g2,?_⟩⟩
   ·rw [uF,uG]; omega
   ·rw [take_add_one,ej]; simp
 ·rintro ys H1 a3 ⟨g,rfl⟩ D hD
  rw [uD,take_length]
  exact ⟨D,_,rfl,SqL.of Ae,a1 ((k1.trans g).trans (Ah hD _)) (by unfold Qn; rw [show ((w0 :: ws).headD "") = w0 from rfl,h1]; rfl)⟩
theorem Xz (F:Bd K mg "is_row" ["row"] P6) (T:Ka K mg cD aBR cNR cNP cNN cUn) (dW:Am P w K mg base 2 "is_tick" ["words"] (Yw K)):Am P w K mg base 3 "is_row" ["row"] (AeW K):=by
 refine F.ok Abo (λ vs H Q E h=>?_) (λ f cdv A outer s H vs Q E hr h=>?_)
 ·obtain ⟨x,b,rfl,_⟩:=h; rfl
 obtain ⟨x,b,rfl,hR,q⟩:=h
 obtain ⟨tl,ml⟩:=T.m_LOAD
 refine ⟨_,(Ac (Ax (Gx (Js (Be Xf rfl T.n_isinstance PyProof.Rows.boot_isinstance (Aa (pv 0) (Aa (Oi rfl T.n_str (by decide +kernel) (v:=.ty "str") rfl) Ab)))))
   (Ag (Aq Dy))
   Au)
  (Ag (Aq (AeM (El Bw (pv 0) (Bb (v:=.ref aBR) rfl T.m_BR rfl) (by rfl)) (AeM (Ew PySem.F.plainAttrs_str PySem.F.slot_str_startswith PySem.F.type_str_startswith Ts (pv 0) (Aa (Bb (v:=.str "load ") rfl ml ⟨_,rfl⟩) Ab)) (J5 (Ap dW hr rfl Av (Aa (Ew PySem.F.plainAttrs_str PySem.F.slot_str_split PySem.F.type_str_split T8 (pv 0) (Aa Al Ab)) Ab)))))))),?_⟩
 cases hR with
 | no ty hk=>exact ⟨_,rfl,_,_,_,_,rfl,ty,hk,_,rfl,Bs (q _ (Same.refl _))⟩
 | str ty hk hl hb h0 =>
  rename_i x _
  have a1:∀ {b:Bool} {H'},Same H H'→R6 x = b→Q (.bl b) H':=λ g e=>e ▸ q _ g
  refine ⟨_,rfl,_,_,_,_,rfl,ty,hk,_,rfl,Bj ?_⟩
  refine ⟨_,rfl,aBR,_,rfl,.inr (.inr T.mBR),rfl,by decide +kernel,_,rfl,B0 (λ h1=>a1 (Same.refl _) (by rw [if_neg Bool.false_ne_true] at h1; unfold R6; rw [h1]; rfl)) λ h1=>?_⟩
  rw [if_neg Bool.false_ne_true] at h1
  refine ⟨_,rfl,rfl,x,_,rfl,rfl,_,rfl,B0 (λ h2=>a1 (Same.refl _) (by unfold R6; rw [h1,h2]; rfl)) λ h2=>?_⟩
  have a2:=hb
  unfold Ni at a2
  rw [Bool.and_eq_true] at a2
  refine ⟨_,rfl,rfl,x, " ", rfl,rfl,by decide +kernel,uX hl (by decide),B9 (uN a2.1),λ p hp=>?_⟩
  exact ⟨p,_,rfl,SqL.of Ae,hb,h0,λ H' g=>a1 ((Ah hp _).trans g) (by unfold R6; rw [h1,h2]; rfl)⟩
end
end Dsk
namespace My
open PySem L2
inductive Pt where
 | nothing
 | rest (k:Int)
 | send (s:Int)
 | iff (s:Int) (p q:Pt)
 | again (k:Int) (p:Pt)
 | thn (p q:Pt)
 | bes (p q:Pt)
def Pt.nd:Pt→Nd
 | .nothing=>.t [.s "nothing"]
 | .rest k=>.t [.s "rest", .i k]
 | .send s=>.t [.s "send", .i s]
 | .iff s p q=>.t [.s "if", .i s,p.nd,q.nd]
 | .again k p=>.t [.s "again", .i k,p.nd]
 | .thn p q=>.t [.s "then", p.nd,q.nd]
 | .bes p q=>.t [.s "beside", p.nd,q.nd]
def Pt.hg:Pt→Nat
 | .iff _ p q=>max p.hg q.hg + 1
 | .thn p q=>max p.hg q.hg + 1
 | .bes p q=>max p.hg q.hg + 1
 | .again _ p=>p.hg + 1
 | .nothing=>1
 | .rest _=>1
 | .send _=>1
def Pt.rc:Pt→Nat
 | .rest _=>1
 | .iff _ p q=>p.rc + q.rc
 | .thn p q=>p.rc + q.rc
 | .bes p q=>p.rc + q.rc
 | .again _ p=>p.rc + 1
 | .nothing=>0
 | .send _=>0
def Pt.sc:Pt→Nat
 | .send _=>1
 | .iff _ p q=>p.sc + q.sc
 | .thn p q=>p.sc + q.sc
 | .bes p q=>p.sc + q.sc
 | .again _ p=>p.sc
 | .nothing=>0
 | .rest _=>0
def Pt.lc:Pt→Nat
 | .rest _=>1
 | .iff _ p q=>max p.lc q.lc
 | .thn p q=>max p.lc q.lc
 | .bes p q=>p.lc + q.lc
 | .again _ p=>max 1 p.lc
 | .nothing=>0
 | .send _=>0
def lp (p:Pt) (a b:List Int× Pt):Pt :=
 match p with
 | .thn _ q=>if b.1 = [] then .thn a.2 q else b.2
 | .bes _ _=>if ¬ a.1 = []∧¬ b.1 = [] then .bes a.2 b.2 else if ¬ a.1 = [] then a.2 else if ¬ b.1 = [] then b.2 else p
 | _=>if ¬ a.1 = [] then a.2 else if ¬ b.1 = [] then b.2 else p
def lr (p:Pt) (a:List Int× Pt):Pt :=
 if a.1 = [] then p else
 match p with
 | .again k _=>.again k a.2
 | _=>p
def rem (st:List Int):Pt→List Int× Pt
 | .iff s p q=>((rem st p).1 ++ (rem st q).1,lp (.iff s p q) (rem st p) (rem st q))
 | .thn p q=>((rem st p).1 ++ (rem st q).1,lp (.thn p q) (rem st p) (rem st q))
 | .bes p q=>((rem st p).1 ++ (rem st q).1,lp (.bes p q) (rem st p) (rem st q))
 | .again k p=>if k∈st then ([k] ++ (rem st p).1,.again k p) else ((rem st p).1,lr (.again k p) (rem st p))
 | .rest k=>if k∈st then ([k],.nothing) else ([],.rest k)
 | .nothing=>([],.nothing)
 | .send x0=>([],(.send x0))
def AeX (c:Int):Int:=if c = 2 then 0 else if 2 < c then c - 1 else c
def agC (c:Int):Int:=if c = 0 then 1 else c
abbrev Dd:=Int× List Int× List Int
def Uv (a b:Dd):Dd:=(b.1,a.2.1 ++ b.2.1,b.2.2)
def Jm (a b:Dd):Dd:=(if b.1 > a.1 then b.1 else a.1,a.2.1 ++ b.2.1,if (if b.1 > a.1 then b.1 else a.1) = 1 then a.2.2 ++ b.2.2 else [])
def Vk (k:Int) (a:Dd):Dd:=(agC a.1,a.2.1,if a.1 = 0 then [k] else a.2.2)
def beg (th:List Int):Pt→Dd
 | .thn p q=>if (beg th p).1 = 0 then Uv (beg th p) (beg th q) else beg th p
 | .bes p q=>Jm (beg th p) (beg th q)
 | .iff s p q=>if s∈th then beg th p else beg th q
 | .again k p=>Vk k (beg th p)
 | .nothing=>(0,[],[])
 | .send s=>(0,[s],[])
 | .rest k=>(1,[],[k])
theorem Pt.hg_pos (p:Pt):1≤p.hg:=by cases p <;> exact le_add_left 1 _
theorem Rx (st:List Int) (p:Pt):(rem st p).1.length≤p.rc:=by
 induction p with
 | nothing=>exact uY _
 | rest k=>simp only [rem]; split; exact uY _; exact vV _
 | send s=>exact uY _
 | iff s p q a1 a2=>simp only [rem,uF]; exact add_le_add a1 a2
 | thn p q a1 a2=>simp only [rem,uF]; exact add_le_add a1 a2
 | bes p q a1 a2=>simp only [rem,uF]; exact add_le_add a1 a2
 | again k p ih =>
  simp only [rem]
  split
  ·rw [uF,Nat.add_comm]; exact succ_le_succ ih
  ·exact uX ih (le_succ _)
theorem Pt.lc_rc (p:Pt):p.lc≤p.rc:=by
 induction p with
 | iff s p q h1 h2=>exact max_le.mpr ⟨uX h1 (le_add_right _ _),uX h2 (le_add_left _ _)⟩
 | thn p q h1 h2=>exact max_le.mpr ⟨uX h1 (le_add_right _ _),uX h2 (le_add_left _ _)⟩
 | bes p q h1 h2=>exact add_le_add h1 h2
 | again k p h=>exact max_le.mpr ⟨le_add_left _ _,uX h (le_succ _)⟩
 | _=>exact uY _
theorem Rr (th:List Int) (p:Pt):(beg th p).2.1.length≤p.sc∧(beg th p).2.2.length≤p.lc:=by
 induction p with
 | nothing=>exact ⟨uY _,uY _⟩
 | rest k=>exact ⟨uY _,uY _⟩
 | send s=>exact ⟨uY _,uY _⟩
 | iff s p q a1 a2 =>
  simp only [beg]
  split
  ·exact ⟨uX a1.1 (le_add_right _ _),uX a1.2 (le_max_left _ _)⟩
  ·exact ⟨uX a2.1 (le_add_left _ _),uX a2.2 (le_max_right _ _)⟩
 | thn p q a1 a2 =>
  simp only [beg]
  split
  ·simp only [Uv,uF]
   exact ⟨add_le_add a1.1 a2.1,uX a2.2 (le_max_right _ _)⟩
  ·exact ⟨uX a1.1 (le_add_right _ _),uX a1.2 (le_max_left _ _)⟩
 | bes p q a1 a2 =>
  simp only [beg,Jm,uF]
  refine ⟨add_le_add a1.1 a2.1,?_⟩
  generalize (if (beg th q).1 > (beg th p).1 then (beg th q).1 else (beg th p).1) = c
  split
  ·rw [uF]; exact add_le_add a1.2 a2.2
  ·exact vV _
 | again k p ih =>
  simp only [beg,Vk]
  refine ⟨ih.1,?_⟩
  split
  ·exact le_max_left _ _
  ·exact uX ih.2 (le_max_right _ _)
theorem Jf {f:Pt→Nat} {a:List Int× Pt} (h0:f p≤n) (ha:f a.2≤n) (hb:f b.2≤n) (ht:∀ q r,p = .thn q r→f (.thn a.2 r)≤n) (hs:∀ q r,p = .bes q r→f (.bes a.2 b.2)≤n):f (lp p a b)≤n:=by
 unfold lp
 split
 ·split
  ·exact ht _ _ rfl
  ·exact hb
 ·split
  ·exact hs _ _ rfl
  ·split
   ·exact ha
   ·split
    ·exact hb
    ·exact h0
 ·split
  ·exact ha
  ·split
   ·exact hb
   ·exact h0
theorem Xy (st:List Int) (p:Pt):(rem st p).2.sc≤p.sc:=by
 induction p with
 | nothing=>exact uY _
 | rest k=>simp only [rem]; split <;> exact uY _
 | send s=>exact uY _
 | iff s p q a1 a2=>exact Jf (f:=Pt.sc) (p:=.iff s p q) (a:=rem st p) (b:=rem st q) (n:=Pt.sc (.iff s p q)) (uY _) (uX a1 (le_add_right _ _)) (uX a2 (le_add_left _ _)) (λ _ _ e=>nomatch e) (λ _ _ e=>nomatch e)
 | thn p q a1 a2=>exact Jf (f:=Pt.sc) (p:=.thn p q) (a:=rem st p) (b:=rem st q) (n:=Pt.sc (.thn p q)) (uY _) (uX a1 (le_add_right _ _)) (uX a2 (le_add_left _ _)) (λ _ _ e=>by cases e; exact Nat.add_le_add_right a1 _) (λ _ _ e=>nomatch e)
 | bes p q a1 a2=>exact Jf (f:=Pt.sc) (p:=.bes p q) (a:=rem st p) (b:=rem st q) (n:=Pt.sc (.bes p q)) (uY _) (uX a1 (le_add_right _ _)) (uX a2 (le_add_left _ _)) (λ _ _ e=>nomatch e) (λ _ _ e=>by cases e; exact add_le_add a1 a2)
 | again k p ih =>
  simp only [rem]
  split
  ·exact uY _
  ·unfold lr; split
   ·exact uY _
   ·exact ih
theorem Abl (st:List Int) (p:Pt):(rem st p).2.lc≤p.rc:=by
 induction p with
 | nothing=>exact uY _
 | rest k=>simp only [rem]; split; exact vV _; exact uY _
 | send s=>exact uY _
 | iff s p q a1 a2=>exact Jf (f:=Pt.lc) (p:=.iff s p q) (a:=rem st p) (b:=rem st q) (n:=Pt.rc (.iff s p q)) (Pt.lc_rc _) (uX a1 (le_add_right _ _)) (uX a2 (le_add_left _ _)) (λ _ _ e=>nomatch e) (λ _ _ e=>nomatch e)
 | thn p q a1 a2=>exact Jf (f:=Pt.lc) (p:=.thn p q) (a:=rem st p) (b:=rem st q) (n:=Pt.rc (.thn p q)) (Pt.lc_rc _) (uX a1 (le_add_right _ _)) (uX a2 (le_add_left _ _)) (λ _ _ e=>by cases e; exact max_le.mpr ⟨uX a1 (le_add_right _ _),uX (Pt.lc_rc q) (le_add_left _ _)⟩) (λ _ _ e=>nomatch e)
 | bes p q a1 a2=>exact Jf (f:=Pt.lc) (p:=.bes p q) (a:=rem st p) (b:=rem st q) (n:=Pt.rc (.bes p q)) (Pt.lc_rc _) (uX a1 (le_add_right _ _)) (uX a2 (le_add_left _ _)) (λ _ _ e=>nomatch e) (λ _ _ e=>by cases e; exact add_le_add a1 a2)
 | again k p ih =>
  simp only [rem]
  split
  ·exact Pt.lc_rc _
  ·unfold lr; split
   ·exact Pt.lc_rc _
   ·exact max_le.mpr ⟨le_add_left _ _,uX ih (le_succ _)⟩
theorem Vw (st:List Int) (p:Pt):(rem st p).2.hg≤p.hg:=by
 induction p with
 | nothing=>exact uY _
 | rest k=>simp only [rem]; split <;> exact uY _
 | send s=>exact uY _
 | iff s p q a1 a2=>exact Jf (f:=Pt.hg) (p:=.iff s p q) (a:=rem st p) (b:=rem st q) (n:=Pt.hg (.iff s p q)) (uY _) (uX a1 (uX (le_max_left _ _) (le_succ _))) (uX a2 (uX (le_max_right _ _) (le_succ _))) (λ _ _ e=>nomatch e) (λ _ _ e=>nomatch e)
 | thn p q a1 a2=>exact Jf (f:=Pt.hg) (p:=.thn p q) (a:=rem st p) (b:=rem st q) (n:=Pt.hg (.thn p q)) (uY _) (uX a1 (uX (le_max_left _ _) (le_succ _))) (uX a2 (uX (le_max_right _ _) (le_succ _))) (λ _ _ e=>by cases e; exact succ_le_succ (max_le.mpr ⟨uX a1 (le_max_left _ _),le_max_right _ _⟩)) (λ _ _ e=>nomatch e)
 | bes p q a1 a2=>exact Jf (f:=Pt.hg) (p:=.bes p q) (a:=rem st p) (b:=rem st q) (n:=Pt.hg (.bes p q)) (uY _) (uX a1 (uX (le_max_left _ _) (le_succ _))) (uX a2 (uX (le_max_right _ _) (le_succ _))) (λ _ _ e=>nomatch e) (λ _ _ e=>by cases e; exact succ_le_succ (max_le.mpr ⟨uX a1 (le_max_left _ _),uX a2 (le_max_right _ _)⟩))
 | again k p ih =>
  simp only [rem]
  split
  ·exact uY _
  ·unfold lr; split
   ·exact uY _
   ·exact succ_le_succ ih
def Rp (x:Int):List Int→List Int
 | []=>[x]
 | y :: r=>if x≤y then x :: y :: r else y :: Rp x r
def Lw:List Int→List Int
 | []=>[]
 | x :: r=>Rp x (Lw r)
theorem Na (x:Int):∀ l:List Int,(Rp x l).Perm (x :: l)
 | []=>.refl _
 | y :: r=>by
  unfold Rp
  split
  ·exact .refl _
  ·exact ((Na x r).cons y).trans (.swap x y r)
theorem Qr:∀ l:List Int,(Lw l).Perm l
 | []=>.refl _
 | x :: r=>(Na x _).trans ((Qr r).cons x)
theorem Tu (x:Int):∀ {l:List Int},l.Pairwise (·≤·)→(Rp x l).Pairwise (·≤·)
 | [],_=>List.pairwise_singleton _ _
 | y :: r,h=>by
  unfold Rp
  have h2:=vM.mp h
  split
  ·rename_i c
   exact vM.mpr ⟨λ z hz=>by
    rcases vI.mp hz with rfl | hz
    ·exact c
    ·exact Int.le_trans c (h2.1 z hz),h⟩
  ·refine vM.mpr ⟨λ z hz=>?_,Tu x h2.2⟩
   rcases vI.mp ((Na x r).mem_iff.mp hz) with rfl | hz
   ·omega
   ·exact h2.1 z hz
theorem Qs:∀ l:List Int,(Lw l).Pairwise (·≤·)
 | []=>.nil
 | x :: r=>Tu x (Qs r)
theorem Ac9 {a b:List Int} (p:a.Perm b) (ha:a.Pairwise (·≤·)) (hb:b.Pairwise (·≤·)):a = b:=by
 induction a generalizing b with
 | nil=>exact p.nil_eq.symm ▸ rfl
 | cons x a ih =>
  cases b with
  | nil=>exact absurd p.length_eq (by simp)
  | cons y b =>
   have a1:=vM.mp ha
   have a2:=vM.mp hb
   have e:x = y:=by
    have h1:x≤y:=by
     rcases vI.mp (p.mem_iff.mpr (uH (a:=y) (l:=b))) with z | z
     ·omega
     ·exact a1.1 y z
    have h2:y≤x:=by
     rcases vI.mp (p.mem_iff.mp (uH (a:=x) (l:=a))) with z | z
     ·omega
     ·exact a2.1 x z
    omega
   subst e
   congr 1
   exact ih (List.Perm.cons_inv p) a1.2 a2.2
theorem Adb (p:ms.Perm l) (h:ms.Pairwise (·≤·)):ms = Lw l:=Ac9 (p.trans (Qr l).symm) h (Qs l)
def pb (p:Pt):Option (List Int)→Pt
 | none=>p
 | some st=>(rem st p).2
def Aae (p:Pt) (st:Option (List Int)) (th:List Int):Dd:=((beg th (pb p st)).1,nub (beg th (pb p st)).2.1,Lw (beg th (pb p st)).2.2)
theorem L4 {l:List Int} {A B:Prop} (h1:¬ l = []→A) (h2:l = []→B):if (!(l.map V.int).isEmpty) = true then A else B:=by
 cases l with
 | nil=>exact h2 rfl
 | cons x r=>exact h1 (by simp)
theorem Vn {i j:Int} {A B:Prop} (h1:i = j→A) (h2:¬ i = j→B):if decide (V.int i = V.int j) = true then A else B:=by
 by_cases c:i = j
 ·rw [uK (congrArg V.int c),if_pos rfl]; exact h1 c
 ·rw [uM (λ z=>c (V.int.inj z)),if_neg Bool.false_ne_true]; exact h2 c
theorem Vq {k:Int} {l:List Int} {A B:Prop} (h1:k∈l→A) (h2:¬ k∈l→B):if (if false = true then !inV (V.int k) (l.map V.int) else inV (V.int k) (l.map V.int)) = true then A else B:=by
 rw [if_neg Bool.false_ne_true,Et]
 by_cases c:k∈l
 ·rw [uK c,if_pos rfl]; exact h1 c
 ·rw [uM c,if_neg Bool.false_ne_true]; exact h2 c
theorem Ek {A B:Prop} (h1:x = y→A) (h2:¬ x = y→B):if decide (V.str x = V.str y) = true then A else B:=by
 by_cases c:x = y
 ·subst c; exact Ea (h1 rfl)
 ·exact Bf c (h2 c)
theorem B0 {b:Bool} {A B:Prop} (h1:b = true→A) (h2:b = false→B):if b = true then A else B:=by
 cases b with
 | true=>rw [if_pos rfl]; exact h1 rfl
 | false=>rw [if_neg Bool.false_ne_true]; exact h2 rfl
def wdP:Pt→Str
 | .nothing=> "nothing"
 | .rest _=> "rest"
 | .send _=> "send"
 | .iff _ _ _=> "if"
 | .again _ _=> "again"
 | .thn _ _=> "then"
 | .bes _ _=> "beside"
theorem Ahk (p:Pt):∃ r,Pt.nd p = .t (.s (wdP p) :: r):=by cases p <;> exact ⟨_,rfl⟩
theorem Oo (h:PAt K H (Pt.nd p) v):∃ a vs,v = .ref a∧Gn K H a (.str (wdP p) :: vs):=by
 obtain ⟨r,e⟩:=Ahk p
 rw [e] at h
 obtain ⟨a,vs,rfl,hs,hx⟩:=PAt.get h
 unfold Ca at hx
 obtain ⟨v,r',rfl,q,l⟩:=hx
 cases q.str
 exact ⟨a,r',rfl,hs⟩
theorem AcM (e:wdP p = "then"):∃ p1 p2,p = .thn p1 p2:=by cases p <;> first | exact ⟨_,_,rfl⟩ | (dsimp only [wdP] at e; exact absurd e (by decide +kernel))
theorem AbM (e:wdP p = "beside"):∃ p1 p2,p = .bes p1 p2:=by cases p <;> first | exact ⟨_,_,rfl⟩ | (dsimp only [wdP] at e; exact absurd e (by decide +kernel))
theorem Ab6 (e:wdP p = "if"):∃ x p1 p2,p = .iff x p1 p2:=by cases p <;> first | exact ⟨_,_,_,rfl⟩ | (dsimp only [wdP] at e; exact absurd e (by decide +kernel))
theorem Xb (e:wdP p = "again"):∃ k p1,p = .again k p1:=by cases p <;> first | exact ⟨_,_,rfl⟩ | (dsimp only [wdP] at e; exact absurd e (by decide +kernel))
theorem Jl (h:∀ y∈(["nothing", "rest", "send", "if", "again", "then", "beside"]:List Str),y≠x) (e:wdP p = x):False:=h (wdP p) (by cases p <;> simp [wdP]) e
theorem Afc (e:wdP p = "send"):∃ k,p = .send k:=by cases p <;> first | exact ⟨_,rfl⟩ | (dsimp only [wdP] at e; exact absurd e (by decide +kernel))
theorem Ls (e:wdP p = "rest"):∃ k,p = .rest k:=by cases p <;> first | exact ⟨_,rfl⟩ | (dsimp only [wdP] at e; exact absurd e (by decide +kernel))
theorem R4 {α:Type} {l:List α} {x:α} (h:l.length≤j):(l ++ [x]).length≤j + 1:=by rw [uF,uG]; exact succ_le_succ h
theorem lt9 (h:n < 64):n≤900:=uX (le_of_lt h) (by decide)
theorem Aa6 (h:n≤k) (z:k≤1000):n≤1000:=uX h z
theorem Ac1 {a:Nat} (h1:a≤k) (h2:b≤l) (z:k + l≤1000):a + b≤1000:=uX (add_le_add h1 h2) z
theorem Ado {a:Nat} (h1:a≤k) (h2:b≤l) (z:k + l < 64):a + b < 64:=vA (add_le_add h1 h2) z
theorem AhG {s:Int} (h:0≤s∧s < n):s.toNat < n:=(Int.toNat_lt h.1).mpr h.2
theorem hgl {a:Nat} (h:max a b + 1≤n + 1):a≤n:=uX (le_max_left _ _) (le_of_succ_le_succ h)
theorem hgr {a:Nat} (h:max a b + 1≤n + 1):b≤n:=uX (le_max_right _ _) (le_of_succ_le_succ h)
theorem adl {a b:Nat} (h:a + b≤n):a≤n:=uX (le_add_right _ _) h
theorem adr {a b:Nat} (h:a + b≤n):b≤n:=uX (le_add_left _ _) h
theorem mxl {a b:Nat} (h:max a b≤n):a≤n:=uX (le_max_left _ _) h
theorem mxr {a b:Nat} (h:max a b≤n):b≤n:=uX (le_max_right _ _) h
structure Cj (K:FA) (mg:Str→Option Value) (aN aP aR:Addr) (uE uR uL:Value):Prop extends Txt mg where
 m_ENDED:mg "ENDED" = some uE
 r_ENDED:A8 (.int 0) uE
 m_RESTS:mg "RESTS" = some uR
 r_RESTS:A8 (.int 1) uR
 m_LEAVES:mg "LEAVES" = some uL
 r_LEAVES:A8 (.int 2) uL
 m_NOTHING:mg "NOTHING_remaining" = some (.ref aN)
 r_NOTHING:A8 (.ref aN) (Value.ref aN)
 mN:Gp K aN [V.str "nothing"]
 m_PAIRS:mg "PAIRS" = some (.ref aP)
 r_PAIRS:A8 (.ref aP) (Value.ref aP)
 mP:Gp K aP [V.str "then", V.str "if", V.str "beside"]
 m_ROUND:mg "ROUND" = some (.ref aR)
 r_ROUND:A8 (.ref aR) (Value.ref aR)
 mR:Gp K aR [V.str "again", V.str "hold", V.str "watch", V.str "trap"]
inductive Kn (K:FA) (H:Hp) (t:Addr) (r:List Int× Pt)   : Prop
 | mk (l) (v:_) (_:H t = some (.tup [.ref l,v])) (_:H l = some (.lst (r.1.map V.int))) (_:PAt K H r.2.nd v):Kn K H t r
theorem Kn.mono (g:Same H H') (h:Kn K H t r):Kn K H' t r:=by
 obtain ⟨l,v,h1,h2,h3⟩:=h
 exact ⟨l,v,g _ _ h1,g _ _ h2,h3.mono g.tp⟩
def Ix:Pt→Bool
 | .nothing=>true
 | .rest _=>true
 | .send _=>true
 | _=>false
def Pw:Pt→Bool
 | .iff _ _ _=>true
 | .thn _ _=>true
 | .bes _ _=>true
 | _=>false
def P3:Pt→Bool
 | .again _ _=>true
 | _=>false
theorem Zq (n1:¬ wdP p = "then") (n2:¬ wdP p = "beside") (n3:¬ wdP p = "if") (n4:¬ wdP p = "again") (n5:¬ wdP p = "hold") (n6:¬ wdP p = "watch") (n7:¬ wdP p = "trap"):Ix p = true:=by
 cases p <;> first | rfl | exact absurd rfl n1 | exact absurd rfl n2 | exact absurd rfl n3 | exact absurd rfl n4 | exact absurd rfl n5 | exact absurd rfl n6 | exact absurd rfl n7
theorem AhZ {A B:Prop} (h1:Pw p = true→A) (h2:Pw p = false→B):if (if false = true then !inV (V.str (wdP p)) [V.str "then", V.str "if", V.str "beside"] else inV (V.str (wdP p)) [V.str "then", V.str "if", V.str "beside"]) = true then A else B:=by
 rw [show (if false = true then !inV (V.str (wdP p)) [V.str "then", V.str "if", V.str "beside"] else inV (V.str (wdP p)) [V.str "then", V.str "if", V.str "beside"]) = Pw p from by cases p <;> (dsimp only [wdP,Pw]; decide +kernel)]
 exact B0 h1 h2
theorem Ahp {A B:Prop} (h1:P3 p = true→A) (h2:P3 p = false→B):if (if false = true then !inV (V.str (wdP p)) [V.str "again", V.str "hold", V.str "watch", V.str "trap"] else inV (V.str (wdP p)) [V.str "again", V.str "hold", V.str "watch", V.str "trap"]) = true then A else B:=by
 rw [show (if false = true then !inV (V.str (wdP p)) [V.str "again", V.str "hold", V.str "watch", V.str "trap"] else inV (V.str (wdP p)) [V.str "again", V.str "hold", V.str "watch", V.str "trap"]) = P3 p from by cases p <;> (dsimp only [wdP,P3]; decide +kernel)]
 exact B0 h1 h2
inductive PrV (K:FA) (H:Hp) (p:Pt) (v:V) (n:Nat):Prop
 | mk (a:Addr) (vs:List V) (x1 x2:V) (p1 p2:Pt) (e:v = .ref a) (hs:Gn K H a vs) (i1:atI vs (-2) = some x1) (i2:atI vs (-1) = some x2) (h1:PAt K H (Pt.nd p1) x1) (h2:PAt K H (Pt.nd p2) x2) (c1:p1.hg≤n) (c2:p2.hg≤n) (hc:p1.rc + p2.rc≤900) (er:∀ ns,rem ns p = ((rem ns p1).1 ++ (rem ns p2).1,lp p (rem ns p1) (rem ns p2))):PrV K H p v n
theorem Afn (h:PAt K H (Pt.nd p) v) (z:Pw p = true) (hh:p.hg≤n + 1) (hc:p.rc≤900):PrV K H p v n:=by
 cases p with
 | thn p1 p2 =>
  obtain ⟨a,vs,rfl,hs,hx⟩:=PAt.get h
  obtain ⟨x0,x1,x2,rfl,h0,h1,h2⟩:=hx.three
  exact ⟨a,_,x1,x2,p1,p2,rfl,hs,Pe (by simp) rfl,Mc rfl,h1,h2,hgl hh,hgr hh,hc,λ _=>rfl⟩
 | bes p1 p2 =>
  obtain ⟨a,vs,rfl,hs,hx⟩:=PAt.get h
  obtain ⟨x0,x1,x2,rfl,h0,h1,h2⟩:=hx.three
  exact ⟨a,_,x1,x2,p1,p2,rfl,hs,Pe (by simp) rfl,Mc rfl,h1,h2,hgl hh,hgr hh,hc,λ _=>rfl⟩
 | iff sn p1 p2 =>
  obtain ⟨a,vs,rfl,hs,hx⟩:=PAt.get h
  obtain ⟨x0,x1,x2,x3,rfl,h0,h1,h2,h3⟩:=hx.four
  exact ⟨a,_,x2,x3,p1,p2,rfl,hs,Pe (by simp) rfl,Mc rfl,h2,h3,hgl hh,hgr hh,hc,λ _=>rfl⟩
 | _=>cases z
inductive RdV (K:FA) (H:Hp) (p:Pt) (v:V) (n:Nat):Prop
 | mk (a:Addr) (vs:List V) (x1:V) (p1:Pt) (e:v = .ref a) (hs:Gn K H a (.str (wdP p) :: vs)) (i1:atI (.str (wdP p) :: vs) (-1) = some x1) (h1:PAt K H (Pt.nd p1) x1) (c1:p1.hg≤n) (c2:p1.rc≤900) (hor:(∃ k,p = .again k p1∧p1.rc + 1≤900∧vs = [.int k,x1])∨(¬ wdP p = "again" ∧ ∀ ns,rem ns p = ((rem ns p1).1,lr p (rem ns p1)))):RdV K H p v n
theorem AgN (h:PAt K H (Pt.nd p) v) (z:P3 p = true) (hh:p.hg≤n + 1) (hc:p.rc≤900):RdV K H p v n:=by
 cases p with
 | again k p1 =>
  obtain ⟨a,vs,rfl,hs,hx⟩:=PAt.get h
  obtain ⟨x0,x1,x2,rfl,h0,h1,h2⟩:=hx.three
  cases h0.str
  cases h1.int
  exact ⟨a,_,x2,p1,rfl,hs,Mc rfl,h2,le_of_succ_le_succ hh,Nat.le_of_succ_le hc,.inl ⟨k,rfl,hc,rfl⟩⟩
 | _=>cases z
theorem AdB (h1:Pw p = false) (h2:P3 p = false) (h3:¬ wdP p = "rest") (ns:List Int):rem ns p = ([],p):=by
 cases p <;> first | rfl | (cases h1; done) | (cases h2; done) | exact absurd rfl h3
def Af2 (ns:List Int):Pt→Bool
 | .again k _=>decide (k∈ns)
 | _=>false
def AbP (ns:List Int):Pt→Bool
 | .rest k=>decide (k∈ns)
 | _=>false
theorem Yu (h:¬ wdP p = "again") (ns:List Int):Af2 ns p = false:=by cases p <;> first | rfl | exact absurd rfl h
theorem Sr (h:¬ wdP p = "rest") (ns:List Int):AbP ns p = false:=by cases p <;> first | rfl | exact absurd rfl h
theorem Yj {t:TT} {a u:TS} (b:Bool) (h:∀ N:Bool→Hp→Prop,N b H→t σ H N) (ka:b = true→a { D with nx:=u D } σ H) (kb:b = false→u D σ H):tSeq (tIfS t a tNext) u D σ H :=
 h _ (by
  cases b with
  | true=>exact Bs (ka rfl)
  | false=>exact Bj (kb rfl))
theorem Ac2 (h:Ix p = true) (th a1:List Int):beg th p = beg a1 p:=by cases p <;> first | rfl | cases h
theorem Aeh (h:Ix p = true) (n1:¬ wdP p = "exit") (n2:¬ wdP p = "rest") (n3:¬ wdP p = "stay"):(beg [] p).1 = 0:=by cases p <;> first | rfl | exact absurd rfl n1 | exact absurd rfl n2 | exact absurd rfl n3 | cases h
theorem AfO (h:Ix p = true) (n1:¬ wdP p = "rest") (n2:¬ wdP p = "stay"):(beg [] p).2.2 = []:=by cases p <;> first | rfl | exact absurd rfl n1 | exact absurd rfl n2 | cases h
theorem Ae0 (h:Ix p = true) (n1:¬ wdP p = "send"):(beg [] p).2.1 = []:=by cases p <;> first | rfl | exact absurd rfl n1 | cases h
inductive To (K:FA) (vs:List V) (H:Hp) (Q:VK):Prop
 | mk (v:_) (p) (_:vs = [v]) (_:PAt K H (Pt.nd p) v) (_:Ix p = true) (_:Q (.int (beg [] p).1) H):To K vs H Q
def Lr (K:FA):Sp:=λ vs H Q _=>To K vs H Q
inductive Za  (vs:List V) (H:Hp) (Q:VK):Prop
 | mk (c:Int) (_:vs = [.int c]) (_:Q (.int (agC c)) H):Za  vs H Q
def Qb:Sp:=λ vs H Q _=>Za  vs H Q
inductive Z4  (vs:List V) (H:Hp) (Q:VK):Prop
 | mk (c:Int) (_:vs = [.int c]) (_:Q (.int (AeX c)) H):Z4  vs H Q
def Ou:Sp:=λ vs H Q _=>Z4  vs H Q
inductive Acm (K:FA) (vs:List V) (H:Hp) (Q:VK):Prop
 | mk (v:_) (p) (t1) (t2) (a:_) (b) (_:vs = [v,.ref t1,.ref t2]) (_:PAt K H (Pt.nd p) v) (_:Pw p = true) (_:Kn K H t1 a) (_:Kn K H t2 b) (_:∀ v' H',Same H H'→PAt K H' (lp p a b).nd v'→Q v' H'):Acm K vs H Q
def Ad3 (K:FA):Sp:=λ vs H Q _=>Acm K vs H Q
inductive Ack (K:FA) (vs:List V) (H:Hp) (Q:VK):Prop
 | mk (v:_) (p) (t) (a:_) (_:vs = [v,.ref t]) (_:PAt K H (Pt.nd p) v) (_:P3 p = true) (_:Kn K H t a) (_:∀ v' H',Same H H'→PAt K H' (lr p a).nd v'→Q v' H'):Ack K vs H Q
def Acu (K:FA):Sp:=λ vs H Q _=>Ack K vs H Q
inductive Zw (K:FA) (n:Nat) (vs:List V) (H:Hp) (Q:VK):Prop
 | mk (v:_) (p) (st) (ns) (_:vs = [v,.ref st]) (_:PAt K H (Pt.nd p) v) (_:SqL K H st ((ns:List Int).map V.int)) (_:p.hg≤n) (_:p.rc≤900) (_:∀ t H',Same H H'→Kn K H' t (rem ns p)→Q (.ref t) H'):Zw K n vs H Q
def Oq (K:FA) (n:Nat):Sp:=λ vs H Q _=>Zw K n vs H Q
def Fn (K:FA) (H:Hp):Option (List Int)→V→Prop
 | none,v=>v = .non
 | some ns,v=>∃ a,v = .ref a∧SqL K H a (ns.map V.int)
inductive Yz (K:FA) (n:Nat) (vs:List V) (H:Hp) (Q:VK):Prop
 | mk (v:_) (p) (sv) (st) (_:vs = [v,sv]) (_:PAt K H (Pt.nd p) v) (_:Fn K H st sv) (_:(st = none∨(p.hg≤n∧p.rc≤900))) (_:∀ v' H',Same H H'→PAt K H' (pb p st).nd v'→Q v' H'):Yz K n vs H Q
def AaH (K:FA) (n:Nat):Sp:=λ vs H Q _=>Yz K n vs H Q
section
variable {aN aP aR:Addr} {uE uR uL:Value}
theorem O5 (F:Bd K mg "leaf_code" ["part"] Ik) (T:Cj K mg aN aP aR uE uR uL):Am P w K mg base 1 "leaf_code" ["part"] (Lr K):=by
 refine F.ok Va (λ vs H Q E h=>?_) (λ f cdv A outer s H vs Q E hr h=>?_)
 ·obtain ⟨v,p,rfl,_⟩:=h; rfl
 obtain ⟨v,p,rfl,hp,lf,q⟩:=h
 refine ⟨_,(Ac (Ax (Ao A6 (An Ak (pv 0) Af (λ _ _=>rfl)) Al (Aw _))
   (Ag (Aq (A7 Ju (Bb rfl T.m_LEAVES T.r_LEAVES) (An Ak (pv 0) Af (λ _ _=>rfl)))))
   Au)
  (Ac (Ax (PW.pt (Ku (Ao A6 (An Ak (pv 0) Af (λ _ _=>rfl)) Al (Aw _)) (Ir (Ao A6 (An Ak (pv 0) Af (λ _ _=>rfl)) Al (Aw _)))))
   (Ag (Aq (Bb rfl T.m_RESTS T.r_RESTS)))
   Au)
  (Ag (Aq (Bb rfl T.m_ENDED T.r_ENDED))))),?_⟩
 obtain ⟨a,vs,rfl,hs⟩:=Oo hp
 refine ⟨_,rfl,a,_,_,_,rfl,rfl,hs.sq,Ai (j:=0) rfl,rfl,_,rfl,Ek (λ e=>?_) λ n1=>⟨_,rfl,a,_,_,_,rfl,rfl,hs.sq,Ai (j:=0) rfl,rfl,_,rfl,Ek (λ e=>Bs ?_) λ n2=>⟨_,rfl,a,_,_,_,rfl,rfl,hs.sq,Ai (j:=0) rfl,rfl,_,rfl,Ek (λ e=>?_) λ n3=>?_⟩⟩⟩
 ·exact (Jl (by decide +kernel) e).elim
 ·obtain ⟨x,rfl⟩:=Ls e
  exact q
 ·exact (Jl (by decide +kernel) e).elim
 ·rw [Aeh lf n1 n2 n3] at q
  exact q
theorem AbK (F:Bd K mg "code_of_again" ["code"] Fe) (T:Cj K mg aN aP aR uE uR uL):Am P w K mg base 1 "code_of_again" ["code"] Qb:=by
 refine F.ok Pd (λ vs H Q E h=>?_) (λ f cdv A outer s H vs Q E hr h=>?_)
 ·obtain ⟨c,rfl,_⟩:=h; rfl
 obtain ⟨c,rfl,q⟩:=h
 refine ⟨_,(Ag (Aq (Bu (Ao A6 (pv 0) (Bb rfl T.m_ENDED T.r_ENDED) (Aw _)) (Bb rfl T.m_RESTS T.r_RESTS) (pv 0)))),?_⟩
 unfold agC at q
 refine ⟨_,rfl,rfl,_,rfl,Vn (λ c=>?_) λ c=>?_⟩
 ·rw [if_pos c] at q; exact q
 ·rw [if_neg c] at q; exact ⟨_,rfl,q⟩
theorem AcZ (F:Bd K mg "code_of_trap" ["code"] F0) (T:Cj K mg aN aP aR uE uR uL):Am P w K mg base 1 "code_of_trap" ["code"] Ou:=by
 refine F.ok Qv (λ vs H Q E h=>?_) (λ f cdv A outer s H vs Q E hr h=>?_)
 ·obtain ⟨c,rfl,_⟩:=h; rfl
 obtain ⟨c,rfl,q⟩:=h
 refine ⟨_,(Ac (Ax (Ao A6 (pv 0) (Bb rfl T.m_LEAVES T.r_LEAVES) (Aw _))
   (Ag (Aq (Bb rfl T.m_ENDED T.r_ENDED)))
   Au)
  (Ag (Aq (Bu (Ao Qk (pv 0) (Bb rfl T.m_LEAVES T.r_LEAVES) (Aw _)) (A7 U0 (pv 0) Af) (pv 0))))),?_⟩
 unfold AeX at q
 refine ⟨_,rfl,rfl,_,rfl,Vn (λ c=>?_) λ c=>?_⟩
 ·rw [if_pos c] at q; exact q
 ·rw [if_neg c] at q
  refine ⟨_,rfl,_,_,rfl,rfl,_,rfl,K6 (λ c=>?_) λ c=>?_⟩
  ·rw [if_pos (uN c)] at q; exact ⟨_,rfl,_,_,rfl,rfl,q⟩
  ·rw [if_neg (λ z=>c (uK z))] at q; exact ⟨_,rfl,q⟩
theorem AhI (F:Bd K mg "left_of_pair" ["part", "first", "second"] Hz) (T:Cj K mg aN aP aR uE uR uL):Am P w K mg base 1 "left_of_pair" ["part", "first", "second"] (Ad3 K):=by
 refine F.ok Qj (λ vs H Q E h=>?_) (λ f cdv A outer s H vs Q E hr h=>?_)
 ·obtain ⟨v,p,t1,t2,a,b,rfl,_⟩:=h; rfl
 obtain ⟨v,p,t1,t2,ra,rb,rfl,hp,pr,⟨l1,v1,a1,a2,a3⟩,⟨l2,v2,b1,b2,b3⟩,q⟩:=h
 refine ⟨_,(Ac (Ax (Ao A6 (An Ak (pv 0) Af (λ _ _=>rfl)) Al (Aw _))
   (Ag (Aq (Bu (Ch (An Ak (pv 2) Af (λ _ _=>rfl)) (λ _=>rfl)) (An Ak (pv 2) Af (λ _ _=>rfl)) (Bg (Aa Al (Aa (An Ak (pv 1) Af (λ _ _=>rfl)) (Aa (An Ak (pv 0) Af (λ _ _=>rfl)) Ab)))))))
   Au)
  (Ac (Ax (PW.pt (Lq (Ao A6 (An Ak (pv 0) Af (λ _ _=>rfl)) Al (Aw _)) (Lq (Ch (An Ak (pv 1) Af (λ _ _=>rfl)) (λ _=>rfl)) (Oj (Ch (An Ak (pv 2) Af (λ _ _=>rfl)) (λ _=>rfl))))))
   (Ag (Aq (Bg (Aa Al (Aa (An Ak (pv 1) Af (λ _ _=>rfl)) (Aa (An Ak (pv 2) Af (λ _ _=>rfl)) Ab))))))
   Au)
  (Ac (Ax (Ch (An Ak (pv 1) Af (λ _ _=>rfl)) (λ _=>rfl))
   (Ag (Aq (An Ak (pv 1) Af (λ _ _=>rfl))))
   Au)
  (Ag (Aq (Bu (Ch (An Ak (pv 2) Af (λ _ _=>rfl)) (λ _=>rfl)) (An Ak (pv 2) Af (λ _ _=>rfl)) (pv 0))))))),?_⟩
 cases p with
 | thn p1 p2 =>
  obtain ⟨a,vs,rfl,hs,hx⟩:=PAt.get hp
  obtain ⟨x0,x1,x2,rfl,h0,h1,h2⟩:=hx.three
  cases h0.str
  refine ⟨_,rfl,a,_,_,_,rfl,rfl,hs.sq,Ai (j:=0) rfl,rfl,_,rfl,Ea ⟨_,rfl,t2,_,_,_,rfl,rfl,SqT.of b1,Ai (j:=0) rfl,_,.inl ⟨_,SqL.of b2,rfl⟩,L4 (λ c=>?_) λ c=>?_⟩⟩
  ·exact ⟨_,rfl,t2,_,_,_,rfl,rfl,SqT.of b1,Ai (j:=1) rfl,q _ _ (Same.refl _) (by unfold lp; dsimp only; rw [if_neg c]; exact b3)⟩
  ·refine ⟨_,rfl,t1,_,_,_,rfl,rfl,SqT.of a1,Ai (j:=1) rfl,_,rfl,a,_,_,_,rfl,rfl,hs.sq,Ai (j:=2) rfl,zN3,λ t ht=>?_⟩
   have g:=Ah ht (.tup [V.str "then", v1,x2])
   exact q _ _ g (by unfold lp; dsimp only; rw [if_pos c]; exact .t (.inl Ae) (.cons .s (.cons (a3.mono g.tp) (.cons (h2.mono g.tp) .nil))))
 | bes p1 p2 =>
  obtain ⟨a,vs,rfl,hs,hx⟩:=PAt.get hp
  obtain ⟨x0,x1,x2,rfl,h0,h1,h2⟩:=hx.three
  cases h0.str
  have a4:∀ (c:ra.1 = []∨rb.1 = []),lp (.bes p1 p2) ra rb = (if ¬ ra.1 = [] then ra.2 else if ¬ rb.1 = [] then rb.2 else .bes p1 p2):=λ c=>by
   unfold lp
   dsimp only
   rw [if_neg (λ z=>c.elim z.1 z.2)]
  refine ⟨_,rfl,a,_,_,_,rfl,rfl,hs.sq,Ai (j:=0) rfl,rfl,_,rfl,Bf (by decide +kernel) ⟨_,rfl,a,_,_,_,rfl,rfl,hs.sq,Ai (j:=0) rfl,rfl,_,rfl,Ea ⟨_,rfl,t1,_,_,_,rfl,rfl,SqT.of a1,Ai (j:=0) rfl,_,.inl ⟨_,SqL.of a2,rfl⟩,L4 (λ c1=>?_) λ c1=>?_⟩⟩⟩
  ·refine ⟨_,rfl,t2,_,_,_,rfl,rfl,SqT.of b1,Ai (j:=0) rfl,_,.inl ⟨_,SqL.of b2,rfl⟩,L4 (λ c2=>?_) λ c2=>?_⟩
   ·refine ⟨_,rfl,t1,_,_,_,rfl,rfl,SqT.of a1,Ai (j:=1) rfl,_,rfl,t2,_,_,_,rfl,rfl,SqT.of b1,Ai (j:=1) rfl,zN3,λ t ht=>?_⟩
    have g:=Ah ht (.tup [V.str "beside", v1,v2])
    exact q _ _ g (by unfold lp; dsimp only; rw [if_pos ⟨c1,c2⟩]; exact .t (.inl Ae) (.cons .s (.cons (a3.mono g.tp) (.cons (b3.mono g.tp) .nil))))
   ·refine ⟨_,rfl,t1,_,_,_,rfl,rfl,SqT.of a1,Ai (j:=0) rfl,_,.inl ⟨_,SqL.of a2,rfl⟩,L4 (λ _=>?_) λ z=>absurd z c1⟩
    exact ⟨_,rfl,t1,_,_,_,rfl,rfl,SqT.of a1,Ai (j:=1) rfl,q _ _ (Same.refl _) (by rw [a4 (.inr c2),if_pos c1]; exact a3)⟩
  ·refine Bj ⟨_,rfl,t1,_,_,_,rfl,rfl,SqT.of a1,Ai (j:=0) rfl,_,.inl ⟨_,SqL.of a2,rfl⟩,L4 (λ z=>absurd c1 z) λ _=>⟨_,rfl,t2,_,_,_,rfl,rfl,SqT.of b1,Ai (j:=0) rfl,_,.inl ⟨_,SqL.of b2,rfl⟩,L4 (λ c2=>?_) λ c2=>?_⟩⟩
   ·exact ⟨_,rfl,t2,_,_,_,rfl,rfl,SqT.of b1,Ai (j:=1) rfl,q _ _ (Same.refl _) (by rw [a4 (.inl c1),if_neg (λ z=>z c1),if_pos c2]; exact b3)⟩
   ·exact ⟨_,rfl,q _ _ (Same.refl _) (by rw [a4 (.inl c1),if_neg (λ z=>z c1),if_neg (λ z=>z c2)]; exact hp)⟩
 | iff s p1 p2 =>
  obtain ⟨a,vs,rfl,hs,hx⟩:=PAt.get hp
  obtain ⟨x0,x1,x2,x3,rfl,h0,h1,h2,h3⟩:=hx.four
  cases h0.str
  cases h1.int
  refine ⟨_,rfl,a,_,_,_,rfl,rfl,hs.sq,Ai (j:=0) rfl,rfl,_,rfl,Bf (by decide +kernel) ⟨_,rfl,a,_,_,_,rfl,rfl,hs.sq,Ai (j:=0) rfl,rfl,_,rfl,Bf (by decide +kernel) (Bj ⟨_,rfl,t1,_,_,_,rfl,rfl,SqT.of a1,Ai (j:=0) rfl,_,.inl ⟨_,SqL.of a2,rfl⟩,L4 (λ c1=>?_) λ c1=>⟨_,rfl,t2,_,_,_,rfl,rfl,SqT.of b1,Ai (j:=0) rfl,_,.inl ⟨_,SqL.of b2,rfl⟩,L4 (λ c2=>?_) λ c2=>?_⟩⟩)⟩⟩
  ·exact ⟨_,rfl,t1,_,_,_,rfl,rfl,SqT.of a1,Ai (j:=1) rfl,q _ _ (Same.refl _) (by unfold lp; dsimp only; rw [if_pos c1]; exact a3)⟩
  ·exact ⟨_,rfl,t2,_,_,_,rfl,rfl,SqT.of b1,Ai (j:=1) rfl,q _ _ (Same.refl _) (by unfold lp; dsimp only; rw [if_neg (λ z=>z c1),if_pos c2]; exact b3)⟩
  ·exact ⟨_,rfl,q _ _ (Same.refl _) (by unfold lp; dsimp only; rw [if_neg (λ z=>z c1),if_neg (λ z=>z c2)]; exact hp)⟩
 | _=>cases pr
theorem AhT (F:Bd K mg "left_of_round" ["part", "inner"] Hb) (T:Cj K mg aN aP aR uE uR uL):Am P w K mg base 1 "left_of_round" ["part", "inner"] (Acu K):=by
 refine F.ok Jt (λ vs H Q E h=>?_) (λ f cdv A outer s H vs Q E hr h=>?_)
 ·obtain ⟨v,p,t1,a,rfl,_⟩:=h; rfl
 obtain ⟨v,p,t1,ra,rfl,hp,rd,⟨l1,v1,a1,a2,a3⟩,q⟩:=h
 refine ⟨_,(Ac (Ax (Gx (Ch (An Ak (pv 1) Af (λ _ _=>rfl)) (λ _=>rfl)))
   (Ag (Aq (pv 0)))
   Au)
  (Ac (Ax (Ao A6 (An Ak (pv 0) Af (λ _ _=>rfl)) Al (Aw _))
   (Ag (Aq (Bg (Aa Al (Aa (An Ak (pv 0) Af (λ _ _=>rfl)) (Aa (An Ak (pv 1) Af (λ _ _=>rfl)) Ab))))))
   Au)
  (Ac (Ax (Ao A6 (An Ak (pv 0) Af (λ _ _=>rfl)) Al (Aw _))
   (Ag (Aq (Bg (Aa Al (Aa (An Ak (pv 1) Af (λ _ _=>rfl)) Ab)))))
   Au)
  (Ac (As (i:=2) Jt.nd rfl (Or.inl rfl) (Bu (Ao A6 (An Ak (pv 0) Af (λ _ _=>rfl)) Al (Aw _)) (Bg (Aa Al (Aa (Kq Uk rfl T.n_tuple (by decide +kernel) (Aa (An Ak (pv 1) Af (λ _ _=>rfl)) Ab)) Ab))) (Bb rfl T.m_NOTHING T.r_NOTHING)))
  (Ag (Aq (Bg (Aa Al (Aa (An Ak (pv 0) Af (λ _ _=>rfl)) (Aa (pv 2) (Aa (An Ak (pv 1) Af (λ _ _=>rfl)) Ab))))))))))),?_⟩
 have none:ra.1 = []→lr p ra = p:=λ c=>by unfold lr; rw [if_pos c]
 have nt:∀ {A B:Prop},(¬ ra.1 = []→B)→(ra.1 = []→A)→if (!!(ra.1.map V.int).isEmpty) = true then A else B:=λ {A B} h1 h2=>by
  cases e:ra.1 with
  | nil=>exact h2 e
  | cons x r=>exact h1 (by rw [e]; simp)
 refine ⟨_,rfl,t1,_,_,_,rfl,rfl,SqT.of a1,Ai (j:=0) rfl,_,.inl ⟨_,SqL.of a2,rfl⟩,nt (λ c=>?_) λ c=>⟨_,rfl,q _ _ (Same.refl _) (by rw [none c]; exact hp)⟩⟩
 cases p with
 | again k p1 =>
  obtain ⟨a,vs,rfl,hs,hx⟩:=PAt.get hp
  obtain ⟨x0,x1,x2,rfl,h0,h1,h2⟩:=hx.three
  cases h0.str
  cases h1.int
  refine ⟨_,rfl,a,_,_,_,rfl,rfl,hs.sq,Ai (j:=0) rfl,rfl,_,rfl,Ea ⟨_,rfl,a,_,_,_,rfl,rfl,hs.sq,Ai (j:=1) rfl,_,rfl,t1,_,_,_,rfl,rfl,SqT.of a1,Ai (j:=1) rfl,zN3,λ t ht=>?_⟩⟩
  have g:=Ah ht (.tup [V.str "again", .int k,v1])
  exact q _ _ g (by unfold lr; rw [if_neg c]; exact .t (.inl Ae) (.cons .s (.cons .i (.cons (a3.mono g.tp) .nil))))
 | _=>cases rd
theorem Afv (F:Bd K mg "remaining" ["part", "state"] Il) (T:Cj K mg aN aP aR uE uR uL) (cU:Am P w K mg base 1 "left_of_pair" ["part", "first", "second"] (Ad3 K)) (cQ:Am P w K mg base 1 "left_of_round" ["part", "inner"] (Acu K))
  (aW:Am P w K mg base (n + 2) "remaining" ["part", "state"] (Oq K n)):Am P w K mg base (n + 3) "remaining" ["part", "state"] (Oq K (n + 1)):=by
 refine F.ok Gw (λ vs H Q E h=>?_) (λ f cdv A outer s H vs Q E hr h=>?_)
 ·obtain ⟨v,p,st,ns,rfl,_⟩:=h; rfl
 obtain ⟨v,p,st,ns,rfl,hp,hS,hh,hc,q⟩:=h
 refine ⟨_,(Ac (Ax (Ao Bw (An Ak (pv 0) Af (λ _ _=>rfl)) (Bb rfl T.m_PAIRS T.r_PAIRS) (by rfl))
   (Ac (As (i:=2) Gw.nd rfl (Or.inl rfl) (Ap aW hr rfl Av (Aa (An Ak (pv 0) (AbB Wz Af) (λ _ _=>rfl)) (Aa (pv 1) Ab))))
  (Ac (As (i:=3) Gw.nd rfl (Or.inl rfl) (Ap aW hr rfl Av (Aa (An Ak (pv 0) (AbB Wz Af) (λ _ _=>rfl)) (Aa (pv 1) Ab))))
  (Ag (Aq (Bg (Aa (A7 Bv (An Ak (pv 2) Af (λ _ _=>rfl)) (An Ak (pv 3) Af (λ _ _=>rfl))) (Aa (Ap cU hr rfl Av (Aa (pv 0) (Aa (pv 2) (Aa (pv 3) Ab)))) Ab)))))))
   Au)
  (Ac (Ax (Ao Bw (An Ak (pv 0) Af (λ _ _=>rfl)) (Bb rfl T.m_ROUND T.r_ROUND) (by rfl))
   (Ac (As (i:=4) Gw.nd rfl (Or.inl rfl) (Ap aW hr rfl Av (Aa (An Ak (pv 0) (AbB Wz Af) (λ _ _=>rfl)) (Aa (pv 1) Ab))))
  (Ac (Ax (PW.pt (Lq (Ao A6 (An Ak (pv 0) Af (λ _ _=>rfl)) Al (Aw _)) (Oj (Ao Bw (An Ak (pv 0) Af (λ _ _=>rfl)) (pv 1) (by rfl)))))
   (Ag (Aq (Bg (Aa (A7 Bv (Ba (Aa (An Ak (pv 0) Af (λ _ _=>rfl)) Ab)) (An Ak (pv 4) Af (λ _ _=>rfl))) (Aa (pv 0) Ab)))))
   Au)
  (Ag (Aq (Bg (Aa (An Ak (pv 4) Af (λ _ _=>rfl)) (Aa (Ap cQ hr rfl Av (Aa (pv 0) (Aa (pv 4) Ab))) Ab)))))))
   Au)
  (Ac (Ax (PW.pt (Lq (Ao A6 (An Ak (pv 0) Af (λ _ _=>rfl)) Al (Aw _)) (Oj (Ao Bw (An Ak (pv 0) Af (λ _ _=>rfl)) (pv 1) (by rfl)))))
   (Ag (Aq (Bg (Aa (Ba (Aa (An Ak (pv 0) Af (λ _ _=>rfl)) Ab)) (Aa (Bb rfl T.m_NOTHING T.r_NOTHING) Ab)))))
   Au)
  (Ag (Aq (Bg (Aa (Ba Ab) (Aa (pv 0) Ab)))))))),?_⟩
 obtain ⟨a,vs,rfl,hs⟩:=Oo hp
 refine ⟨_,rfl,a,_,_,_,rfl,rfl,hs.sq,Ai (j:=0) rfl,aP,_,rfl,.inr (.inr T.mP),rfl,rfl,_,rfl,AhZ (λ z=>?_) λ z1=>⟨_,rfl,a,_,_,_,rfl,rfl,hs.sq,Ai (j:=0) rfl,aR,_,rfl,.inr (.inr T.mR),rfl,rfl,_,rfl,Ahp (λ z=>?_) λ z2=>?_⟩⟩
 ·obtain ⟨a',a7,x1,x2,p1,p2,ev,hs,i1,i2,h1,h2,c1,c2,hc,er⟩:=Afn hp z hh hc
  cases ev
  have l1:=Rx ns p1
  have l2:=Rx ns p2
  rw [er] at q
  refine ⟨_,rfl,_,rfl,a,_,_,_,rfl,rfl,hs.sq,i1,_,rfl,x1,p1,st,ns,rfl,h1,hS,c1,adl hc,λ t1 H1 g1 R1=>?_⟩
  refine ⟨_,rfl,_,rfl,a,_,_,_,rfl,rfl,(hs.mono g1.tp).sq,i2,_,rfl,x2,p2,st,ns,rfl,h2.mono g1.tp,g1.seq hS,c2,adr hc,λ t2 H2 g2 R2=>?_⟩
  have a8:=R1.mono g2
  obtain ⟨a5,v1,a1,a2,a3⟩:=id a8
  obtain ⟨a9,v2,b1,b2,b3⟩:=id R2
  refine ⟨_,rfl,t1,_,_,_,rfl,rfl,SqT.of a1,Ai (j:=0) rfl,_,rfl,t2,_,_,_,rfl,rfl,SqT.of b1,Ai (j:=0) rfl,a5,a9,_,_,rfl,rfl,a2,b2,by rw [uD,uD]; exact B9 (Aa6 (uX (add_le_add l1 l2) hc) (by decide)),λ l hl=>?_⟩
  have g3:=Ah hl (.lst (((rem ns p1).1.map V.int) ++ ((rem ns p2).1.map V.int)))
  refine ⟨_,rfl,_,rfl,_,rfl,_,p,t1,t2,_,_,rfl,hp.mono ((g1.trans g2).trans g3).tp,z,a8.mono g3,R2.mono g3,λ v' H4 g4 P4=>⟨zN2,λ t ht=>?_⟩⟩
  have g5:=Ah ht (.tup [.ref l,v'])
  refine q _ _ ((((g1.trans g2).trans g3).trans g4).trans g5) ⟨l,v',Ae,?_,P4.mono g5.tp⟩
  rw [g5 _ _ (g4 _ _ Ae)]
  show some (HO.lst ((rem ns p1).1.map V.int ++ (rem ns p2).1.map V.int)) = some (HO.lst (((rem ns p1).1 ++ (rem ns p2).1).map V.int))
  rw [uP]
 ·obtain ⟨a',a7,x1,p1,ev,hs,i1,h1,c1,c2,hor⟩:=AgN hp z hh hc
  cases ev
  have l1:=Rx ns p1
  refine ⟨_,rfl,_,rfl,a,_,_,_,rfl,rfl,hs.sq,i1,_,rfl,x1,p1,st,ns,rfl,h1,hS,c1,c2,λ t1 H1 g1 R1=>?_⟩
  have a6:=hs.mono g1.tp
  obtain ⟨a5,v1,a1,a2,a3⟩:=id R1
  dsimp only [Cg]
  refine Yj (Af2 ns p) (λ N a4=>?_) (λ c=>?_) λ c=>?_
  ·rcases hor with ⟨k,rfl,b7,rfl⟩ | ⟨na,_⟩
   ·refine ⟨_,rfl,a,_,_,_,rfl,rfl,a6.sq,Ai (j:=0) rfl,rfl,_,rfl,Ea ⟨_,rfl,a,_,_,_,rfl,rfl,a6.sq,Ai (j:=1) rfl,_,rfl,st,_,rfl,.inl (g1.seq hS),rfl,Ck ns,_,rfl,?_⟩⟩
    rw [if_neg Bool.false_ne_true,Et]
    exact a4
   ·refine ⟨_,rfl,a,_,_,_,rfl,rfl,a6.sq,Ai (j:=0) rfl,rfl,_,rfl,Bf na ?_⟩
    rw [Yu na ns] at a4
    exact a4
  ·rcases hor with ⟨k,rfl,b7,rfl⟩ | ⟨na,_⟩
   ·have c:k∈ns:=uN c
    refine ⟨_,rfl,a,_,_,_,rfl,rfl,a6.sq,Ai (j:=1) rfl,zN1,λ l0 b6=>?_⟩
    have g2:=Ah b6 (.lst [V.int k])
    refine ⟨_,rfl,t1,_,_,_,rfl,rfl,SqT.of (g2 _ _ a1),Ai (j:=0) rfl,l0,a5,_,_,rfl,rfl,Ae,g2 _ _ a2,by rw [uD]; show 1 + _≤sizeLine; exact B9 (uX (Nat.add_le_add_left (uX l1 c2) 1) (by decide)),λ l hl=>?_⟩
    have g3:=Ah hl (.lst ([V.int k] ++ (rem ns p1).1.map V.int))
    refine ⟨_,rfl,zN2,λ t ht=>?_⟩
    have g5:=Ah ht (.tup [.ref l,.ref a])
    refine q _ _ (((g1.trans g2).trans g3).trans g5) ?_
    rw [show rem ns (.again k p1) = ([k] ++ (rem ns p1).1,.again k p1) from by simp only [rem]; rw [if_pos c]]
    exact ⟨l,_,Ae,g5 _ _ Ae,hp.mono (((g1.trans g2).trans g3).trans g5).tp⟩
   ·rw [Yu na ns] at c
    cases c
  ·have er:rem ns p = ((rem ns p1).1,lr p (rem ns p1)):=by
    rcases hor with ⟨k,rfl,_,_⟩ | ⟨_,h⟩
    ·simp only [rem]; rw [if_neg (of_decide_eq_false c)]
    ·exact h ns
   rw [er] at q
   refine ⟨_,rfl,t1,_,_,_,rfl,rfl,SqT.of a1,Ai (j:=0) rfl,_,rfl,_,rfl,_,p,t1,_,rfl,hp.mono g1.tp,z,R1,λ v' H4 g4 P4=>⟨zN2,λ t ht=>?_⟩⟩
   have g5:=Ah ht (.tup [.ref a5,v'])
   exact q _ _ ((g1.trans g4).trans g5) ⟨a5,v',Ae,g5 _ _ (g4 _ _ a2),P4.mono g5.tp⟩
 ·dsimp only [tNext]
  refine Yj (AbP ns p) (λ N a4=>?_) (λ c=>?_) λ c=>?_
  ·by_cases z:wdP p = "rest"
   ·obtain ⟨k,rfl⟩:=Ls z
    obtain ⟨a',a7,ev,hs,hx⟩:=PAt.get hp
    cases ev
    obtain ⟨x0,x1,rfl,h0,h1⟩:=hx.two
    cases h0.str
    cases h1.int
    refine ⟨_,rfl,a,_,_,_,rfl,rfl,hs.sq,Ai (j:=0) rfl,rfl,_,rfl,Ea ⟨_,rfl,a,_,_,_,rfl,rfl,hs.sq,Ai (j:=1) rfl,_,rfl,st,_,rfl,.inl hS,rfl,Ck ns,_,rfl,?_⟩⟩
    rw [if_neg Bool.false_ne_true,Et]
    exact a4
   ·refine ⟨_,rfl,a,_,_,_,rfl,rfl,hs.sq,Ai (j:=0) rfl,rfl,_,rfl,Bf z ?_⟩
    rw [Sr z ns] at a4
    exact a4
  ·obtain ⟨k,rfl⟩:∃ k,p = .rest k:=Ls (Classical.byContradiction λ z=>by rw [Sr z ns] at c; cases c)
   have c:k∈ns:=uN c
   obtain ⟨a',a7,ev,hs,hx⟩:=PAt.get hp
   cases ev
   obtain ⟨x0,x1,rfl,h0,h1⟩:=hx.two
   cases h0.str
   cases h1.int
   refine ⟨_,rfl,a,_,_,_,rfl,rfl,hs.sq,Ai (j:=1) rfl,zN1,λ l hl=>⟨zN2,λ t ht=>?_⟩⟩
   obtain ⟨g,n1,n2⟩:=Adg (b:=.tup [.ref l,.ref aN]) hl ht
   refine q _ _ g ?_
   rw [show rem ns (.rest k) = ([k],.nothing) from by simp only [rem]; rw [if_pos c]]
   exact ⟨l,_,n2,n1,.t (.inr T.mN) (.cons .s .nil)⟩
  ·have er:rem ns p = ([],p):=by
    by_cases z:wdP p = "rest"
    ·obtain ⟨k,rfl⟩:=Ls z
     simp only [rem]; rw [if_neg (of_decide_eq_false c)]
    ·exact AdB z1 z2 z ns
   rw [er] at q
   refine ⟨zN0,λ l hl=>⟨_,rfl,zN2,λ t ht=>?_⟩⟩
   obtain ⟨g,n1,n2⟩:=Adg (b:=.tup [.ref l,.ref a]) hl ht
   exact q _ _ g ⟨l,_,n2,n1,hp.mono g.tp⟩
theorem Zu (F:Bd K mg "remaining" ["part", "state"] Il) (T:Cj K mg aN aP aR uE uR uL) (CP:Am P w K mg base 1 "left_of_pair" ["part", "first", "second"] (Ad3 K)) (CR:Am P w K mg base 1 "left_of_round" ["part", "inner"] (Acu K)) :
  ∀ n,Am P w K mg base (n + 2) "remaining" ["part", "state"] (Oq K n)
 | 0=>(F.zero (sp:=Oq K 0) λ vs H Q E h=>by obtain ⟨v,p,st,ns,_,_,_,hh,_⟩:=h; exact absurd hh (Nat.not_le_of_gt (Pt.hg_pos p))).mono (by decide)
 | n + 1=>Afv F T CP CR (Zu F T CP CR n)
theorem Afq (F:Bd K mg "part_to_begin" ["part", "state"] Hd) (T:Cj K mg aN aP aR uE uR uL) (aW:Am P w K mg base (n + 2) "remaining" ["part", "state"] (Oq K n)) :
  Am P w K mg base (n + 3) "part_to_begin" ["part", "state"] (AaH K n):=by
 refine F.ok Px (λ vs H Q E h=>?_) (λ f cdv A outer s H vs Q E hr h=>?_)
 ·obtain ⟨v,p,sv,st,rfl,_⟩:=h; rfl
 obtain ⟨v,p,sv,st,rfl,hp,hS,hb,q⟩:=h
 refine ⟨_,(Ac (Ax (Ao J4 (pv 1) Ce (Aw _))
   (Ag (Aq (pv 0)))
   Au)
  (Ag (Aq (An Ak (Ap aW hr rfl Av (Aa (pv 0) (Aa (pv 1) Ab))) Af (λ _ _=>rfl))))),?_⟩
 cases st with
 | none =>
  have e:=hS
  subst e
  exact ⟨_,rfl,rfl,_,rfl,Bs ⟨_,rfl,q _ _ (Same.refl _) hp⟩⟩
 | some ns =>
  obtain ⟨a,rfl,hS⟩:=hS
  obtain ⟨hh,hc⟩:=hb.resolve_left (λ z=>by cases z)
  refine ⟨_,rfl,rfl,_,rfl,Bj ⟨_,rfl,_,rfl,v,p,a,ns,rfl,hp,hS,hh,hc,λ t H1 g1 ⟨l,v1,a1,a2,a3⟩=>?_⟩⟩
  exact ⟨t,_,_,_,rfl,rfl,SqT.of a1,Ai (j:=1) rfl,q _ _ g1 a3⟩
inductive Gr (H:Hp) (t:Addr) (d:Dd)   : Prop
 | mk (l1) (l2) (_:H t = some (.tup [.int d.1,.ref l1,.ref l2])) (_:H l1 = some (.lst (d.2.1.map V.int))) (_:H l2 = some (.lst (d.2.2.map V.int))):Gr H t d
theorem Gr.mono (g:Same H H') (h:Gr H t d):Gr H' t d:=by
 obtain ⟨l1,l2,h1,h2,h3⟩:=h
 exact ⟨l1,l2,g _ _ h1,g _ _ h2,g _ _ h3⟩
def Nb (d:Dd):Prop:=d.2.1.length≤900∧d.2.2.length≤900
inductive Aci (K:FA) (vs:List V) (H:Hp) (Q:VK):Prop
 | mk (v:_) (p) (_:vs = [v]) (_:PAt K H (Pt.nd p) v) (_:Ix p = true) (_:p.lc≤900) (_:∀ l H',Same H H'→H' l = some (.lst ((beg [] p).2.2.map V.int))→Q (.ref l) H'):Aci K vs H Q
def Ad8 (K:FA):Sp:=λ vs H Q _=>Aci K vs H Q
inductive AcD (K:FA) (vs:List V) (H:Hp) (Q:VK):Prop
 | mk (v:_) (p) (_:vs = [v]) (_:PAt K H (Pt.nd p) v) (_:Ix p = true) (_:p.lc≤900) (_:∀ t H',Same H H'→Gr H' t (beg [] p)→Q (.ref t) H'):AcD K vs H Q
def Adu (K:FA):Sp:=λ vs H Q _=>AcD K vs H Q
inductive Wg  (vs:List V) (H:Hp) (Q:VK):Prop
 | mk (t1) (t2) (a:_) (b) (_:vs = [.ref t1,.ref t2]) (_:Gr H t1 a) (_:Gr H t2 b) (_:Nb a) (_:Nb b) (_:∀ t H',Same H H'→Gr H' t (Uv a b)→Q (.ref t) H'):Wg  vs H Q
def Xp:Sp:=λ vs H Q _=>Wg  vs H Q
inductive U8  (vs:List V) (H:Hp) (Q:VK):Prop
 | mk (t1) (t2) (a:_) (b) (_:vs = [.ref t1,.ref t2]) (_:Gr H t1 a) (_:Gr H t2 b) (_:Nb a) (_:Nb b) (_:∀ t H',Same H H'→Gr H' t (Jm a b)→Q (.ref t) H'):U8  vs H Q
def Vf:Sp:=λ vs H Q _=>U8  vs H Q
inductive Y3  (vs:List V) (H:Hp) (Q:VK):Prop
 | mk (k:Int) (t1:Addr) (a:Dd) (_:vs = [.int k,.ref t1]) (_:Gr H t1 a) (_:∀ t H',Same H H'→Gr H' t (Vk k a)→Q (.ref t) H'):Y3  vs H Q
def Aaw:Sp:=λ vs H Q _=>Y3  vs H Q
inductive Zz (K:FA) (n:Nat) (vs:List V) (H:Hp) (Q:VK):Prop
 | mk (v:_) (p) (th) (ns) (_:vs = [v,.ref th]) (_:PAt K H (Pt.nd p) v) (_:SqL K H th ((ns:List Int).map V.int)) (_:p.hg≤n) (_:p.sc≤900) (_:p.lc≤900) (_:∀ t H',Same H H'→Gr H' t (beg ns p)→Q (.ref t) H'):Zz K n vs H Q
def Q8 (K:FA) (n:Nat):Sp:=λ vs H Q _=>Zz K n vs H Q
theorem sm9 (h1:p.sc≤900) (h2:p.lc≤900):Nb (beg ns p):=⟨uX (Rr ns p).1 h1,uX (Rr ns p).2 h2⟩
def Ahj (H H':Hp) (t:Addr) (d:Dd):Prop:=∃ l1 l2,H' t = some (.tup [.int d.1,.ref l1,.ref l2])∧H' l1 = some (.lst (d.2.1.map V.int))∧H' l2 = some (.lst (d.2.2.map V.int))∧H l1 = none∧H l2 = none∧l1≠l2
inductive Ww (K:FA) (n:Nat) (vs:List V) (H:Hp) (Q:VK):Prop
 | mk (v:_) (p) (sv) (st) (th) (ns) (_:vs = [v,sv,.ref th]) (_:PAt K H (Pt.nd p) v) (_:Fn K H st sv) (_:SqL K H th ((ns:List Int).map V.int)) (_:(st = none∨(p.hg≤n∧p.rc≤900))) (_:(pb p st).hg≤n) (_:(pb p st).sc < 64) (_:(pb p st).lc < 64) (_:∀ t H',Same H H'→Ahj H H' t (Aae p st ns)→Q (.ref t) H'):Ww K n vs H Q
def Abm (K:FA) (n:Nat):Sp:=λ vs H Q _=>Ww K n vs H Q
theorem AhL (p:Pt) (st:Option (List Int)):(pb p st).hg≤p.hg∧(pb p st).sc≤p.sc∧(pb p st).lc≤p.rc:=by
 cases st with
 | none=>exact ⟨uY _,uY _,Pt.lc_rc p⟩
 | some l=>exact ⟨Vw l p,Xy l p,Abl l p⟩
theorem Ag7 (F:Bd K mg "rests_left" ["part"] Kc) (T:Cj K mg aN aP aR uE uR uL):Am P w K mg base 1 "rests_left" ["part"] (Ad8 K):=by
 refine F.ok Uq (λ vs H Q E h=>?_) (λ f cdv A outer s H vs Q E hr h=>?_)
 ·obtain ⟨v,p,rfl,_⟩:=h; rfl
 obtain ⟨v,p,rfl,hp,lf,hc,q⟩:=h
 refine ⟨_,(Ac (Ax (Ao A6 (An Ak (pv 0) Af (λ _ _=>rfl)) Al (Aw _))
   (Ag (Aq (Ba (Aa (An Ak (pv 0) Af (λ _ _=>rfl)) Ab))))
   Au)
  (Ag (Aq (Bu (Ao A6 (An Ak (pv 0) Af (λ _ _=>rfl)) Al (Aw _)) (Kq J2 rfl T.n_list (by decide +kernel) (Aa (An Ak (pv 0) Af (λ _ _=>rfl)) Ab)) (Ba Ab))))),?_⟩
 obtain ⟨a,vs,rfl,hs⟩:=Oo hp
 refine ⟨_,rfl,a,_,_,_,rfl,rfl,hs.sq,Ai (j:=0) rfl,rfl,_,rfl,Ek (λ e=>?_) λ n1=>⟨_,rfl,a,_,_,_,rfl,rfl,hs.sq,Ai (j:=0) rfl,rfl,_,rfl,Ek (λ e=>?_) λ n2=>?_⟩⟩
 ·obtain ⟨x,rfl⟩:=Ls e
  obtain ⟨a',a1,ev,hs,hx⟩:=PAt.get hp
  cases ev
  obtain ⟨x0,x1,rfl,h0,h1⟩:=hx.two
  cases h0.str
  cases h1.int
  exact ⟨_,rfl,a,_,_,_,rfl,rfl,hs.sq,Ai (j:=1) rfl,zN1,λ l hl=>q _ _ (Ah hl _) Ae⟩
 ·exact (Jl (by decide +kernel) e).elim
 ·rw [AfO lf n1 n2] at q
  exact ⟨zN0,λ l hl=>q _ _ (Ah hl _) Ae⟩
theorem AhF (F:Gf K mg "begun_leaf_instants" "begun_leaf" ["part"] En) (T:Cj K mg aN aP aR uE uR uL) (bV:Am P w K mg base 1 "leaf_code" ["part"] (Lr K)) (dF:Am P w K mg base 1 "rests_left" ["part"] (Ad8 K)):Am P w K mg base 2 "begun_leaf_instants" ["part"] (Adu K):=by
 refine F.ok F7 (λ vs H Q E h=>?_) (λ f cdv A outer s H vs Q E hr h=>?_)
 ·obtain ⟨v,p,rfl,_⟩:=h; rfl
 obtain ⟨v,p,rfl,hp,lf,hc,q⟩:=h
 refine ⟨_,(Ac (As (i:=1) F7.nd rfl (Or.inl rfl) (Bu (Ao A6 (An Ak (pv 0) Af (λ _ _=>rfl)) Al (Aw _)) (Ba (Aa (An Ak (pv 0) Af (λ _ _=>rfl)) Ab)) (Ba Ab)))
  (Ag (Aq (Bg (Aa (Ap bV hr rfl Av (Aa (pv 0) Ab)) (Aa (pv 1) (Aa (Ap dF hr rfl Av (Aa (pv 0) Ab)) Ab))))))),?_⟩
 have a1:∀ (l1:Addr) (xs:List V) (hl:H l1 = none) (e:xs = (beg [] p).2.1.map V.int),(Wa (B3 (G3 (Lr K) [] E0 (B3 (Bl 0) Dq)) (B3 (Bl 1) (B3 (G3 (Ad8 K) [] E0 (B3 (Bl 0) Dq)) Dq)))) [some v,some (.ref l1)] (upd H l1 (.lst xs)) Q:=by
  intro l1 xs hl e
  subst e
  have g1:=Ah hl (.lst ((beg [] p).2.1.map V.int))
  refine ⟨_,rfl,v,p,rfl,hp.mono g1.tp,lf,_,rfl,_,rfl,v,p,rfl,hp.mono g1.tp,lf,hc,λ l2 H2 g2 e2=>⟨zN3,λ t ht=>?_⟩⟩
  have g3:=Ah ht (.tup [.int (beg [] p).1,.ref l1,.ref l2])
  exact q _ _ ((g1.trans g2).trans g3) ⟨l1,l2,Ae,g3 _ _ (g2 _ _ Ae),g3 _ _ e2⟩
 obtain ⟨a,vs,rfl,hs⟩:=Oo hp
 refine ⟨_,rfl,a,_,_,_,rfl,rfl,hs.sq,Ai (j:=0) rfl,rfl,_,rfl,Ek (λ e=>?_) λ n1=>⟨zN0,λ l hl=>a1 l [] hl (by rw [Ae0 lf n1]; rfl)⟩⟩
 obtain ⟨x,rfl⟩:=Afc e
 obtain ⟨a',a2,ev,hs,hx⟩:=PAt.get hp
 cases ev
 obtain ⟨x0,x1,rfl,h0,h1⟩:=hx.two
 cases h0.str
 cases h1.int
 exact ⟨_,rfl,a,_,_,_,rfl,rfl,hs.sq,Ai (j:=1) rfl,zN1,λ l hl=>a1 l _ hl rfl⟩
theorem Aed (F:Gf K mg "in_turn_instants" "in_turn" ["first", "second"] Ft) (T:Cj K mg aN aP aR uE uR uL):Am P w K mg base 1 "in_turn_instants" ["first", "second"] Xp:=by
 refine F.ok M5 (λ vs H Q E h=>?_) (λ f cdv A outer s H vs Q E hr h=>?_)
 ·obtain ⟨t1,t2,da,db,rfl,_⟩:=h; rfl
 obtain ⟨t1,t2,da,db,rfl,⟨l1,l2,a1,a2,a3⟩,⟨m1,m2,b1,b2,b3⟩,sa,sb,q⟩:=h
 refine ⟨_,(Ag (Aq (Bg (Aa (An Ak (pv 1) Af (λ _ _=>rfl)) (Aa (A7 Bv (An Ak (pv 0) Af (λ _ _=>rfl)) (An Ak (pv 1) Af (λ _ _=>rfl))) (Aa (An Ak (pv 1) Af (λ _ _=>rfl)) Ab)))))),?_⟩
 refine ⟨_,rfl,t2,_,_,_,rfl,rfl,SqT.of b1,Ai (j:=0) rfl,_,rfl,t1,_,_,_,rfl,rfl,SqT.of a1,Ai (j:=1) rfl,_,rfl,t2,_,_,_,rfl,rfl,SqT.of b1,Ai (j:=1) rfl,l1,m1,_,_,rfl,rfl,a2,b2,by rw [uD,uD]; exact uX (add_le_add sa.1 sb.1) (by decide),λ l hl=>?_⟩
 have g1:=Ah hl (.lst (da.2.1.map V.int ++ db.2.1.map V.int))
 refine ⟨_,rfl,t2,_,_,_,rfl,rfl,SqT.of (g1 _ _ b1),Ai (j:=2) rfl,zN3,λ t ht=>?_⟩
 have g2:=Ah ht (.tup [.int db.1,.ref l,.ref m2])
 refine q _ _ (g1.trans g2) ⟨l,m2,Ae,?_,g2 _ _ (g1 _ _ b3)⟩
 rw [g2 _ _ Ae]
 show some (HO.lst (da.2.1.map V.int ++ db.2.1.map V.int)) = some (HO.lst ((da.2.1 ++ db.2.1).map V.int))
 rw [uP]
theorem Aek (F:Gf K mg "side_by_side_instants" "side_by_side" ["first", "second"] D4) (T:Cj K mg aN aP aR uE uR uL):Am P w K mg base 1 "side_by_side_instants" ["first", "second"] Vf:=by
 refine F.ok Dp (λ vs H Q E h=>?_) (λ f cdv A outer s H vs Q E hr h=>?_)
 ·obtain ⟨t1,t2,da,db,rfl,_⟩:=h; rfl
 obtain ⟨t1,t2,da,db,rfl,⟨l1,l2,a1,a2,a3⟩,⟨m1,m2,b1,b2,b3⟩,sa,sb,q⟩:=h
 refine ⟨_,(Ac (As (i:=2) Dp.nd rfl (Or.inl rfl) (Be (Ny rfl) rfl T.n_max (by decide +kernel) (Aa (An Ak (pv 0) Af (λ _ _=>rfl)) (Aa (An Ak (pv 1) Af (λ _ _=>rfl)) Ab))))
  (Ac (As (i:=3) Dp.nd rfl (Or.inl rfl) (Bu (Ao A6 (pv 2) (Bb rfl T.m_RESTS T.r_RESTS) (Aw _)) (A7 Bv (An Ak (pv 0) Af (λ _ _=>rfl)) (An Ak (pv 1) Af (λ _ _=>rfl))) (Ba Ab)))
  (Ag (Aq (Bg (Aa (pv 2) (Aa (A7 Bv (An Ak (pv 0) Af (λ _ _=>rfl)) (An Ak (pv 1) Af (λ _ _=>rfl))) (Aa (pv 3) Ab)))))))),?_⟩
 refine ⟨_,rfl,t1,_,_,_,rfl,rfl,SqT.of a1,Ai (j:=0) rfl,_,rfl,t2,_,_,_,rfl,rfl,SqT.of b1,Ai (j:=0) rfl,_,_,rfl,?_⟩
 have a4:∀ (l0:Addr) (xs:List Int) (hl:H l0 = none) (e:xs = (Jm da db).2.2),(Wa (B3 (Bl 2) (B3 (tOp AbC (tOp (Pl K) (Bl 0) (tC (.int 1))) (tOp (Pl K) (Bl 1) (tC (.int 1)))) (B3 (Bl 3) Dq)))) [some (.ref t1),some (.ref t2),some (.int (Jm da db).1),some (.ref l0)] (upd H l0 (.lst (xs.map V.int))) Q:=by
  intro l0 xs hl e
  subst e
  have g0:=Ah hl (.lst ((Jm da db).2.2.map V.int))
  refine ⟨_,rfl,_,rfl,t1,_,_,_,rfl,rfl,SqT.of (g0 _ _ a1),Ai (j:=1) rfl,_,rfl,t2,_,_,_,rfl,rfl,SqT.of (g0 _ _ b1),Ai (j:=1) rfl,l1,m1,_,_,rfl,rfl,g0 _ _ a2,g0 _ _ b2,by rw [uD,uD]; exact uX (add_le_add sa.1 sb.1) (by decide),λ l a5=>?_⟩
  have g1:=Ah a5 (.lst (da.2.1.map V.int ++ db.2.1.map V.int))
  refine ⟨_,rfl,zN3,λ t ht=>?_⟩
  have g2:=Ah ht (.tup [.int (Jm da db).1,.ref l,.ref l0])
  refine q _ _ ((g0.trans g1).trans g2) ⟨l,l0,Ae,?_,g2 _ _ (g1 _ _ Ae)⟩
  rw [g2 _ _ Ae]
  show some (HO.lst (da.2.1.map V.int ++ db.2.1.map V.int)) = some (HO.lst ((da.2.1 ++ db.2.1).map V.int))
  rw [uP]
 refine ⟨_,rfl,rfl,_,rfl,Vn (λ c=>?_) λ c=>?_⟩
 ·refine ⟨_,rfl,t1,_,_,_,rfl,rfl,SqT.of a1,Ai (j:=2) rfl,_,rfl,t2,_,_,_,rfl,rfl,SqT.of b1,Ai (j:=2) rfl,l2,m2,_,_,rfl,rfl,a3,b3,by rw [uD,uD]; exact uX (add_le_add sa.2 sb.2) (by decide),λ l hl=>?_⟩
  rw [← uP]
  exact a4 l _ hl (by unfold Jm; dsimp only; rw [if_pos c])
 ·exact ⟨zN0,λ l hl=>a4 l [] hl (by unfold Jm; dsimp only; rw [if_neg c])⟩
theorem Afj (F:Bd K mg "repeated" ["rest", "inner"] Mw) (T:Cj K mg aN aP aR uE uR uL) (bF:Am P w K mg base 1 "code_of_again" ["code"] Qb):Am P w K mg base 2 "repeated" ["rest", "inner"] Aaw:=by
 refine F.ok O4 (λ vs H Q E h=>?_) (λ f cdv A outer s H vs Q E hr h=>?_)
 ·obtain ⟨k,t1,da,rfl,_⟩:=h; rfl
 obtain ⟨k,t1,da,rfl,⟨l1,l2,a1,a2,a3⟩,q⟩:=h
 refine ⟨_,(Ac (As (i:=2) O4.nd rfl (Or.inl rfl) (Bu (Ao A6 (An Ak (pv 1) Af (λ _ _=>rfl)) (Bb rfl T.m_ENDED T.r_ENDED) (Aw _)) (Ba (Aa (pv 0) Ab)) (An Ak (pv 1) Af (λ _ _=>rfl))))
  (Ag (Aq (Bg (Aa (Ap bF hr rfl Av (Aa (An Ak (pv 1) Af (λ _ _=>rfl)) Ab)) (Aa (An Ak (pv 1) Af (λ _ _=>rfl)) (Aa (pv 2) Ab))))))),?_⟩
 refine ⟨_,rfl,t1,_,_,_,rfl,rfl,SqT.of a1,Ai (j:=0) rfl,rfl,_,rfl,Vn (λ c=>?_) λ c=>?_⟩
 ·refine ⟨_,rfl,zN1,λ l hl=>?_⟩
  have g0:=Ah hl (.lst [.int k])
  refine ⟨_,rfl,t1,_,_,_,rfl,rfl,SqT.of (g0 _ _ a1),Ai (j:=0) rfl,_,rfl,_,rfl,t1,_,_,_,rfl,rfl,SqT.of (g0 _ _ a1),Ai (j:=1) rfl,_,rfl,zN3,λ t ht=>?_⟩
  have g2:=Ah ht (.tup [.int (agC da.1),.ref l1,.ref l])
  exact q _ _ (g0.trans g2) ⟨l1,l,Ae,g2 _ _ (g0 _ _ a2),by rw [show (Vk k da).2.2 = [k] from if_pos c]; exact g2 _ _ Ae⟩
 ·refine ⟨_,rfl,t1,_,_,_,rfl,rfl,SqT.of a1,Ai (j:=2) rfl,?_⟩
  refine ⟨_,rfl,t1,_,_,_,rfl,rfl,SqT.of a1,Ai (j:=0) rfl,_,rfl,_,rfl,t1,_,_,_,rfl,rfl,SqT.of a1,Ai (j:=1) rfl,_,rfl,zN3,λ t ht=>?_⟩
  have g2:=Ah ht (.tup [.int (agC da.1),.ref l1,.ref l2])
  exact q _ _ g2 ⟨l1,l2,Ae,g2 _ _ a2,by rw [show (Vk k da).2.2 = da.2.2 from if_neg c]; exact g2 _ _ a3⟩
theorem Afi (F:Gf K mg "begun_instants" "begun" ["part", "there"] Ez) (T:Cj K mg aN aP aR uE uR uL) (bX:Am P w K mg base 2 "begun_leaf_instants" ["part"] (Adu K)) (cE:Am P w K mg base 1 "in_turn_instants" ["first", "second"] Xp) (bT:Am P w K mg base 1 "side_by_side_instants" ["first", "second"] Vf)
  (dR:Am P w K mg base 2 "repeated" ["rest", "inner"] Aaw) (bL:Am P w K mg base 1 "code_of_trap" ["code"] Ou) (aE:Am P w K mg base (n + 2) "begun_instants" ["part", "there"] (Q8 K n)):Am P w K mg base (n + 3) "begun_instants" ["part", "there"] (Q8 K (n + 1)):=by
 refine F.ok Ed (λ vs H Q E h=>?_) (λ f cdv A outer s H vs Q E hr h=>?_)
 ·obtain ⟨v,p,st,ns,rfl,_⟩:=h; rfl
 obtain ⟨v,p,st,ns,rfl,hp,hS,hh,a5,a4,q⟩:=h
 refine ⟨_,(Ac (As (i:=2) Ed.nd rfl (Or.inl rfl) (An Ak (pv 0) Af (λ _ _=>rfl)))
  (Ac (Ax (Ao A6 (pv 2) Al (Aw _))
   (Ac (As (i:=3) Ed.nd rfl (Or.inl rfl) (Ap aE hr rfl Av (Aa (An Ak (pv 0) Af (λ _ _=>rfl)) (Aa (pv 1) Ab))))
  (Ag (Aq (Bu (Ao A6 (An Ak (pv 3) Af (λ _ _=>rfl)) (Bb rfl T.m_ENDED T.r_ENDED) (Aw _)) (Ap cE hr rfl Av (Aa (pv 3) (Aa (Ap aE hr rfl Av (Aa (An Ak (pv 0) Af (λ _ _=>rfl)) (Aa (pv 1) Ab))) Ab))) (pv 3)))))
   Au)
  (Ac (Ax (Ao A6 (pv 2) Al (Aw _))
   (Ag (Aq (Ap bT hr rfl Av (Aa (Ap aE hr rfl Av (Aa (An Ak (pv 0) Af (λ _ _=>rfl)) (Aa (pv 1) Ab))) (Aa (Ap aE hr rfl Av (Aa (An Ak (pv 0) Af (λ _ _=>rfl)) (Aa (pv 1) Ab))) Ab)))))
   Au)
  (Ac (Ax (Ao A6 (pv 2) Al (Aw _))
   (Ag (Aq (Ap aE hr rfl Av (Aa (Bu (Ao Bw (An Ak (pv 0) Af (λ _ _=>rfl)) (pv 1) (by rfl)) (An Ak (pv 0) Af (λ _ _=>rfl)) (An Ak (pv 0) Af (λ _ _=>rfl))) (Aa (pv 1) Ab)))))
   Au)
  (Ac (Ax (Ao A6 (pv 2) Al (Aw _))
   (Ag (Aq (Ap dR hr rfl Av (Aa (An Ak (pv 0) Af (λ _ _=>rfl)) (Aa (Ap aE hr rfl Av (Aa (An Ak (pv 0) Af (λ _ _=>rfl)) (Aa (pv 1) Ab))) Ab)))))
   Au)
  (Ac (Ax (PW.pt (Ku (Ao A6 (pv 2) Al (Aw _)) (Ir (Ao A6 (pv 2) Al (Aw _)))))
   (Ag (Aq (Ap aE hr rfl Av (Aa (An Ak (pv 0) Af (λ _ _=>rfl)) (Aa (pv 1) Ab)))))
   Au)
  (Ac (Ax (Ao A6 (pv 2) Al (Aw _))
   (Ac (As (i:=4) Ed.nd rfl (Or.inl rfl) (Ap aE hr rfl Av (Aa (An Ak (pv 0) Af (λ _ _=>rfl)) (Aa (pv 1) Ab))))
  (Ag (Aq (Bg (Aa (Ap bL hr rfl Av (Aa (An Ak (pv 4) Af (λ _ _=>rfl)) Ab)) (Aa (An Ak (pv 4) Af (λ _ _=>rfl)) (Aa (An Ak (pv 4) Af (λ _ _=>rfl)) Ab)))))))
   Au)
  (Ag (Aq (Ap bX hr rfl Av (Aa (pv 0) Ab))))))))))),?_⟩
 obtain ⟨a,vs,rfl,hs⟩:=Oo hp
 refine ⟨_,rfl,a,_,_,_,rfl,rfl,hs.sq,Ai (j:=0) rfl,_,rfl,rfl,_,rfl,Ek (λ e=>?_) λ n1=>⟨_,rfl,rfl,_,rfl,Ek (λ e=>?_) λ n2=>⟨_,rfl,rfl,_,rfl,Ek (λ e=>?_) λ n3=>⟨_,rfl,rfl,_,rfl,Ek (λ e=>?_) λ n4=>⟨_,rfl,rfl,_,rfl,Ek (λ e=>Bs ?_) λ n5=>⟨_,rfl,rfl,_,rfl,Ek (λ e=>?_) λ n6=>⟨_,rfl,rfl,_,rfl,Ek (λ e=>?_) λ n7=>?_⟩⟩⟩⟩⟩⟩⟩
 ·obtain ⟨p1,p2,rfl⟩:=AcM e
  obtain ⟨a',a6,ev,hs,hx⟩:=PAt.get hp
  cases ev
  obtain ⟨x0,x1,x2,rfl,h0,h1,h2⟩:=hx.three
  cases h0.str
  refine ⟨_,rfl,a,_,_,_,rfl,rfl,hs.sq,Ai (j:=1) rfl,_,rfl,x1,p1,st,ns,rfl,h1,hS,hgl hh,adl a5,mxl a4,λ t1 H1 g1 R1=>?_⟩
  obtain ⟨l1,l2,a1,a2,a3⟩:=id R1
  refine ⟨_,rfl,t1,_,_,_,rfl,rfl,SqT.of a1,Ai (j:=0) rfl,rfl,_,rfl,Vn (λ c=>?_) λ c=>?_⟩
  ·refine ⟨_,rfl,_,rfl,a,_,_,_,rfl,rfl,(hs.mono g1.tp).sq,Ai (j:=2) rfl,_,rfl,x2,p2,st,ns,rfl,h2.mono g1.tp,g1.seq hS,hgr hh,adr a5,mxr a4,λ t2 H2 g2 R2=>?_⟩
   refine ⟨t1,t2,_,_,rfl,R1.mono g2,R2,sm9 (adl a5) (mxl a4),sm9 (adr a5) (mxr a4),λ t H3 g3 R3=>?_⟩
   exact q _ _ ((g1.trans g2).trans g3) (by rw [show beg ns (.thn p1 p2) = Uv (beg ns p1) (beg ns p2) from by simp only [beg]; rw [if_pos c]]; exact R3)
  ·exact ⟨_,rfl,q _ _ g1 (by rw [show beg ns (.thn p1 p2) = beg ns p1 from by simp only [beg]; rw [if_neg c]]; exact R1)⟩
 ·obtain ⟨p1,p2,rfl⟩:=AbM e
  obtain ⟨a',a6,ev,hs,hx⟩:=PAt.get hp
  cases ev
  obtain ⟨x0,x1,x2,rfl,h0,h1,h2⟩:=hx.three
  cases h0.str
  refine ⟨_,rfl,a,_,_,_,rfl,rfl,hs.sq,Ai (j:=1) rfl,_,rfl,x1,p1,st,ns,rfl,h1,hS,hgl hh,adl a5,adl a4,λ t1 H1 g1 R1=>?_⟩
  refine ⟨_,rfl,a,_,_,_,rfl,rfl,(hs.mono g1.tp).sq,Ai (j:=2) rfl,_,rfl,x2,p2,st,ns,rfl,h2.mono g1.tp,g1.seq hS,hgr hh,adr a5,adr a4,λ t2 H2 g2 R2=>?_⟩
  exact ⟨t1,t2,_,_,rfl,R1.mono g2,R2,sm9 (adl a5) (adl a4),sm9 (adr a5) (adr a4),λ t H3 g3 R3=>q _ _ ((g1.trans g2).trans g3) R3⟩
 ·obtain ⟨sn,p1,p2,rfl⟩:=Ab6 e
  obtain ⟨a',a6,ev,hs,hx⟩:=PAt.get hp
  cases ev
  obtain ⟨x0,x1,x2,x3,rfl,h0,h1,h2,h3⟩:=hx.four
  cases h0.str
  cases h1.int
  refine ⟨_,rfl,a,_,_,_,rfl,rfl,hs.sq,Ai (j:=1) rfl,_,rfl,st,_,rfl,.inl hS,rfl,Ck ns,_,rfl,Vq (λ c=>?_) λ c=>?_⟩
  ·exact ⟨_,rfl,a,_,_,_,rfl,rfl,hs.sq,Ai (j:=2) rfl,_,rfl,x2,p1,st,ns,rfl,h2,hS,hgl hh,adl a5,mxl a4,λ t1 H1 g1 R1=>q _ _ g1 (by rw [show beg ns (.iff sn p1 p2) = beg ns p1 from by simp only [beg]; rw [if_pos c]]; exact R1)⟩
  ·exact ⟨_,rfl,a,_,_,_,rfl,rfl,hs.sq,Ai (j:=3) rfl,_,rfl,x3,p2,st,ns,rfl,h3,hS,hgr hh,adr a5,mxr a4,λ t1 H1 g1 R1=>q _ _ g1 (by rw [show beg ns (.iff sn p1 p2) = beg ns p2 from by simp only [beg]; rw [if_neg c]]; exact R1)⟩
 ·obtain ⟨kn,p1,rfl⟩:=Xb e
  obtain ⟨a',a6,ev,hs,hx⟩:=PAt.get hp
  cases ev
  obtain ⟨x0,x1,x2,rfl,h0,h1,h2⟩:=hx.three
  cases h0.str
  cases h1.int
  refine ⟨_,rfl,a,_,_,_,rfl,rfl,hs.sq,Ai (j:=1) rfl,_,rfl,a,_,_,_,rfl,rfl,hs.sq,Ai (j:=2) rfl,_,rfl,x2,p1,st,ns,rfl,h2,hS,le_of_succ_le_succ hh,a5,mxr a4,λ t1 H1 g1 R1=>?_⟩
  exact ⟨kn,t1,_,rfl,R1,λ t H3 g3 R3=>q _ _ (g1.trans g3) R3⟩
 ·exact (Jl (by decide +kernel) e).elim
 ·exact (Jl (by decide +kernel) e).elim
 ·exact (Jl (by decide +kernel) e).elim
 ·have lf:=Zq n1 n2 n3 n4 n5 n6 n7
  exact ⟨_,rfl,_,p,rfl,hp,lf,a4,λ t1 H1 g1 R1=>q _ _ g1 (by rw [Ac2 lf ns []]; exact R1)⟩
theorem Y0 (F:Gf K mg "begun_instants" "begun" ["part", "there"] Ez) (T:Cj K mg aN aP aR uE uR uL) (C1:Am P w K mg base 2 "begun_leaf_instants" ["part"] (Adu K)) (C2:Am P w K mg base 1 "in_turn_instants" ["first", "second"] Xp) (C3:Am P w K mg base 1 "side_by_side_instants" ["first", "second"] Vf)
  (C4:Am P w K mg base 2 "repeated" ["rest", "inner"] Aaw) (C5:Am P w K mg base 1 "code_of_trap" ["code"] Ou):∀ n,Am P w K mg base (n + 2) "begun_instants" ["part", "there"] (Q8 K n)
 | 0=>(F.zero (sp:=Q8 K 0) λ vs H Q E h=>by obtain ⟨v,p,st,ns,_,_,_,hh,_⟩:=h; exact absurd hh (Nat.not_le_of_gt (Pt.hg_pos p))).mono (by decide)
 | n + 1=>Afi F T C1 C2 C3 C4 C5 (Y0 F T C1 C2 C3 C4 C5 n)
theorem Aff (F:Bd K mg "ran" ["part", "state", "there"] AbH) (T:Cj K mg aN aP aR uE uR uL) (bG:Am P w K mg base (n + 3) "part_to_begin" ["part", "state"] (AaH K n)) (aE:Am P w K mg base (n + 2) "begun_instants" ["part", "there"] (Q8 K n)) :
  Am P w K mg base (n + 4) "ran" ["part", "state", "there"] (Abm K n):=by
 refine F.ok Acd (λ vs H Q E h=>?_) (λ f cdv A outer s H vs Q E hr h=>?_)
 ·obtain ⟨v,p,sv,st,th,ns,rfl,_⟩:=h; rfl
 obtain ⟨v,p,sv,st,th,ns,rfl,hp,a7,hS,hb,k1,k2,k3,q⟩:=h
 refine ⟨_,(Ac (As (i:=3) Acd.nd rfl (Or.inl rfl) (Ap aE hr rfl Av (Aa (Ap bG hr rfl Av (Aa (pv 0) (Aa (pv 1) Ab))) (Aa (pv 2) Ab))))
  (Ag (Aq (Bg (Aa (An Ak (pv 3) Af (λ _ _=>rfl)) (Aa (Gi rfl rfl T.n_sorted rfl T.n_set (An Ak (pv 3) Af (λ _ _=>rfl))) (Aa (Be Ya rfl T.n_sorted (by decide +kernel) (Aa (An Ak (pv 3) Af (λ _ _=>rfl)) Ab)) Ab))))))),?_⟩
 refine ⟨_,rfl,_,rfl,v,p,sv,st,rfl,hp,a7,hb,λ v1 H1 g1 P1=>?_⟩
 refine ⟨_,rfl,v1,pb p st,th,ns,rfl,P1,g1.seq hS,k1,lt9 k2,lt9 k3,λ t H2 g2 ⟨l1,l2,a1,a2,a3⟩=>?_⟩
 obtain ⟨c1,c2⟩:=Rr ns (pb p st)
 refine ⟨_,rfl,t,_,_,_,rfl,rfl,SqT.of a1,Ai (j:=0) rfl,_,rfl,t,_,_,_,rfl,rfl,SqT.of a1,Ai (j:=1) rfl,l1,_,rfl,SqL.of a2,vA c1 k2,λ r1 a6=>?_⟩
 have g3:=Ah a6 (.lst ((nub (beg ns (pb p st)).2.1).map V.int))
 refine ⟨_,rfl,t,_,_,_,rfl,rfl,SqT.of (g3 _ _ a1),Ai (j:=2) rfl,l2,_,rfl,SqL.of (g3 _ _ a3),vA c2 k3,λ r2 ms a4 pm om=>?_⟩
 cases Adb pm om
 have g4:=Ah a4 (.lst ((Lw (beg ns (pb p st)).2.2).map V.int))
 refine ⟨zN3,λ t2 a8=>?_⟩
 have g5:=Ah a8 (.tup [.int (beg ns (pb p st)).1,.ref r1,.ref r2])
 have a5:=g1.trans g2
 refine q _ _ (((a5.trans g3).trans g4).trans g5) ⟨r1,r2,Ae,g5 _ _ (g4 _ _ Ae),g5 _ _ Ae,a5.free a6,(a5.trans g3).free a4,Ay Ae a4⟩
abbrev Wk:=List Int× Bool× List Int× List Int
def vO:Option Bool→V
 | none=>.non
 | some b=>.bl b
abbrev AfW:V:=.int 0
def B2:List Int→Int
 | []=>0
 | [x]=>x
 | x :: y :: r=>if B2 (y :: r) < x then B2 (y :: r) else x
theorem Ma:∀ {l:List Int},0 < l.length→B2 l∈l∧∀ a∈l,B2 l≤a
 | [x],_=>⟨vC.mpr rfl,λ a ha=>by rcases mS ha with rfl; exact Int.le_refl _⟩
 | x :: y :: r,_=>by
  obtain ⟨h1,h2⟩:=Ma (l:=y :: r) (succ_pos _)
  unfold B2
  split
  ·next c=>exact ⟨uI _ h1,λ a ha=>(vI.mp ha).elim (λ e=>e ▸ Int.le_of_lt c) λ z=>h2 a z⟩
  ·next c=>exact ⟨uH,λ a ha=>(vI.mp ha).elim (λ e=>e ▸ Int.le_refl _) λ z=>Int.le_trans (Int.not_lt.mp c) (h2 a z)⟩
theorem Yp (h1:M∈l) (h2:∀ a∈l,M≤a):M = B2 l:=by
 obtain ⟨k1,k2⟩:=Ma (length_pos_of_mem h1)
 exact Int.le_antisymm (h2 _ k1) (k2 _ h1)
def mx (a b:Int):Int:=if b > a then b else a
def Qw (a b:Wk):Wk:=(nub (a.1.filter (λ c=>!decide (c = 0)) ++ b.1),b.2.1,a.2.2.1 ++ b.2.2.1,a.2.2.2 ++ b.2.2.2)
def Qu (a b:Wk):Wk:=((nub (a.1 ++ b.1)).filter (λ c=>decide (mx (B2 a.1) (B2 b.1)≤c)),a.2.1 && b.2.1,a.2.2.1 ++ b.2.2.1,a.2.2.2 ++ b.2.2.2)
def AaJ (a b:Wk):Wk:=(nub (a.1 ++ b.1),false,[],a.2.2.2 ++ b.2.2.2)
def AiU (f:Int→Int) (a:Wk):Wk:=(nub (a.1.map f),a.2.1,a.2.2.1,a.2.2.2)
def Bh (kn:List (Option Bool)):Bool→Pt→Wk
 | s,.thn p q=>if 0∈(Bh kn s p).1 then Qw (Bh kn s p) (Bh kn (Bh kn s p).2.1 q) else Bh kn s p
 | s,.bes p q=>Qu (Bh kn s p) (Bh kn s q)
 | s,.iff x p q=>match (kn[x.toNat]?).getD none with
  | none=>AaJ (Bh kn false p) (Bh kn false q)
  | some true=>Bh kn s p
  | some false=>Bh kn s q
 | s,.again _ p=>AiU agC (Bh kn s p)
 | s,.nothing=>([0],s,[],[])
 | s,.send x=>([0],s,if s = true then [x] else [],[x])
 | s,.rest _=>([1],s,[],[])
def okW (sg:Int):Pt→Prop
 | .send s=>0≤s∧s < sg
 | .iff s p q=>(0≤s∧s < sg)∧okW sg p∧okW sg q
 | .thn p q=>okW sg p∧okW sg q
 | .bes p q=>okW sg p∧okW sg q
 | .again _ p=>okW sg p
 | _=>True
theorem AfV (st:List Int) (h:okW sg p):okW sg (rem st p).2:=by
 induction p with
 | iff s p q a1 a2 =>
  have:=a1 h.2.1
  have:=a2 h.2.2
  simp only [rem,lp]
  split
  ·assumption
  ·split
   ·assumption
   ·exact h
 | thn p q a1 a2 =>
  have:=a1 h.1
  have:=a2 h.2
  simp only [rem,lp]
  split
  ·exact ⟨a1 h.1,h.2⟩
  ·assumption
 | bes p q a1 a2 =>
  have:=a1 h.1
  have:=a2 h.2
  simp only [rem,lp]
  split
  ·exact ⟨a1 h.1,a2 h.2⟩
  ·split
   ·assumption
   ·split
    ·assumption
    ·exact h
 | again k p ih =>
  have:=ih h
  simp only [rem]
  split
  ·exact h
  ·simp only [lr]
   split
   ·exact h
   ·exact ih h
 | rest k =>
  simp only [rem]
  split <;> exact trivial
 | nothing=>exact trivial
 | send s=>exact h
theorem Xk (h:okW sg p) (st:Option (List Int)):okW sg (pb p st):=by
 cases st with
 | none=>exact h
 | some l=>exact AfV l h
theorem Wf:∀ {l:List Int} {a b:Int},l.Pairwise (· < ·)→(∀ x∈l,a≤x∧x < b)→(l.length:Int)≤max 0 (b - a)
 | [],a,b,_,_=>Int.le_max_left 0 (b - a)
 | x :: r,a,b,h,k=>by
  have h':=vM.mp h
  have kx:=k x uH
  have:=Wf (l:=r) (a:=x + 1) (b:=b) h'.2 λ y hy=>⟨Int.add_one_le_of_lt (h'.1 y hy),(k y (uI _ hy)).2⟩
  rw [uU]
  omega
structure Cw (l:List Int):Prop where
 ri:l.Pairwise (· < ·)
 bd:∀ c∈l,0≤c∧c < 6
 ne:0 < l.length
theorem Cw.len (h:Cw l):l.length≤6:=by
 have:=Wf h.ri h.bd
 omega
theorem Agl (h:0 < l.length):0 < (nub l).length:=by
 cases l with
 | nil=>cases h
 | cons x r=>exact length_pos_of_mem (Jp.mpr (uH (a:=x) (l:=r)))
theorem Xl (h:∀ c∈l,0≤c∧c < 6) (n:0 < l.length):Cw (nub l):=⟨L9 l,λ c hc=>h c (Jp.mp hc),Agl n⟩
theorem Ab7 {a:List Int} (ha:Cw a) (hb:Cw b):Cw (nub (a ++ b)):=Xl (λ c hc=>(uV.mp hc).elim (λ h=>ha.bd c h) λ h=>hb.bd c h) (by rw [uF]; exact uZ ha.ne (le_add_right _ _))
theorem V9 (h:0≤c∧c < 6):Cw [c]:=⟨List.pairwise_singleton _ _,λ x hx=>by rcases mS hx with rfl; exact h,succ_pos _⟩
theorem AjE {c:Int} (h0:0≤c) (h:c < 3):c = 0∨c = 1∨c = 2:=by
 obtain ⟨n,rfl⟩:=Int.eq_ofNat_of_zero_le h0
 match n,h with
 | 0,_=>exact .inl rfl
 | 1,_=>exact .inr (.inl rfl)
 | 2,_=>exact .inr (.inr rfl)
 | n + 3,z=>exact absurd z (by omega)
theorem six {P:Int→Prop} (h0:P 0) (h1:P 1) (h2:P 2) (h3:P 3) (h4:P 4) (h5:P 5) (h:0≤c∧c < 6):P c:=by
 obtain ⟨n,rfl⟩:=Int.eq_ofNat_of_zero_le h.1
 match n,h.2 with
 | 0,_=>exact h0
 | 1,_=>exact h1
 | 2,_=>exact h2
 | 3,_=>exact h3
 | 4,_=>exact h4
 | 5,_=>exact h5
 | n + 6,z=>exact absurd z (by omega)
theorem Agn (h:0≤c∧c < 6):0≤agC c∧agC c < 6:=six (P:=λ c=>0≤agC c∧agC c < 6) (by decide) (by decide) (by decide) (by decide) (by decide) (by decide) h
theorem AgX {f:Int→Int} (hf:∀ c,0≤c∧c < 6→0≤f c∧f c < 6) {a:List Int} (ha:Cw a):Cw (nub (a.map f)):=Xl (λ c hc=>by obtain ⟨x,hx,rfl⟩:=vQ.mp hc; exact hf x (ha.bd x hx)) (by rw [uD]; exact ha.ne)
theorem AfB {a:List Int} (ha:Cw a) (hb:Cw b):Cw ((nub (a ++ b)).filter (λ c=>decide (mx (B2 a) (B2 b)≤c))):=by
 have h:=Ab7 ha hb
 refine ⟨h.ri.filter _,λ c hc=>h.bd c (mem_filter.mp hc).1,?_⟩
 have m1:=(Ma ha.ne).1
 have m2:=(Ma hb.ne).1
 refine length_pos_of_mem (a:=mx (B2 a) (B2 b)) (mem_filter.mpr ⟨Jp.mpr ?_,by simp⟩)
 unfold mx
 split
 ·exact uS _ m2
 ·exact vU _ m1
theorem Ab5 (kn:List (Option Bool)) (h:okW sg p):∀ s,Cw (Bh kn s p).1:=by
 induction p with
 | thn p q a1 a2 =>
  intro s
  simp only [Bh]
  split
  ·have h1:=a1 h.1 s
   have h2:=a2 h.2 (Bh kn s p).2.1
   exact Xl (λ c hc=>(uV.mp hc).elim (λ z=>h1.bd c (mem_filter.mp z).1) λ z=>h2.bd c z) (by rw [uF]; exact uZ h2.ne (le_add_left _ _))
  ·exact a1 h.1 s
 | bes p q a1 a2=>intro s; exact AfB (a1 h.1 s) (a2 h.2 s)
 | iff x p q a1 a2 =>
  intro s
  simp only [Bh]
  split
  ·exact Ab7 (a1 h.2.1 false) (a2 h.2.2 false)
  ·exact a1 h.2.1 s
  ·exact a2 h.2.2 s
 | again k p ih=>intro s; exact AgX (λ c=>Agn) (ih h s)
 | nothing=>intro s; exact V9 ⟨by decide,by decide⟩
 | send x=>intro s; exact V9 ⟨by decide,by decide⟩
 | rest k=>intro s; exact V9 ⟨by decide,by decide⟩
theorem Ps (kn:List (Option Bool)) (p:Pt):∀ s,(Bh kn s p).2.2.1.length≤p.sc∧(Bh kn s p).2.2.2.length≤p.sc:=by
 induction p with
 | thn p q a1 a2 =>
  intro s
  have h1:=a1 s
  have h2:=a2 (Bh kn s p).2.1
  simp only [Bh,Pt.sc]
  split
  ·simp only [Qw,uF]; exact ⟨add_le_add h1.1 h2.1,add_le_add h1.2 h2.2⟩
  ·exact ⟨Nat.le_add_right_of_le h1.1,Nat.le_add_right_of_le h1.2⟩
 | bes p q a1 a2 =>
  intro s
  have h1:=a1 s
  have h2:=a2 s
  simp only [Bh,Pt.sc,Qu,uF]
  exact ⟨add_le_add h1.1 h2.1,add_le_add h1.2 h2.2⟩
 | iff x p q a1 a2 =>
  intro s
  have h1:=a1 s
  have h2:=a2 s
  have h3:=a1 false
  have h4:=a2 false
  simp only [Bh,Pt.sc]
  split
  ·simp only [AaJ,uF,length_nil]; exact ⟨vV _,add_le_add h3.2 h4.2⟩
  ·exact ⟨Nat.le_add_right_of_le h1.1,Nat.le_add_right_of_le h1.2⟩
  ·exact ⟨Nat.le_add_left_of_le h2.1,Nat.le_add_left_of_le h2.2⟩
 | again k p ih=>intro s; exact ih s
 | send x=>intro s; cases s <;> simp [Bh,Pt.sc]
 | nothing=>intro s; exact ⟨vV _,vV _⟩
 | rest x=>intro s; exact ⟨vV _,vV _⟩
def Oe (kn:List (Option Bool)) (s:Bool) (p:Pt) (st:Option (List Int)):Wk:=((Bh kn s (pb p st)).1,(Bh kn s (pb p st)).2.1,nub (Bh kn s (pb p st)).2.2.1,nub (Bh kn s (pb p st)).2.2.2)
inductive D3 (H:Hp) (t:Addr) (d:Wk)   : Prop
 | mk (l1) (l2) (l3) (_:H t = some (.tup [.ref l1,.bl d.2.1,.ref l2,.ref l3])) (_:H l1 = some (.lst (d.1.map V.int))) (_:H l2 = some (.lst (d.2.2.1.map V.int))) (_:H l3 = some (.lst (d.2.2.2.map V.int))):D3 H t d
theorem D3.mono (h:D3 H t d) (g:Same H H'):D3 H' t d:=by
 obtain ⟨l1,l2,l3,a1,a2,a3,a4⟩:=h
 exact ⟨l1,l2,l3,g _ _ a1,g _ _ a2,g _ _ a3,g _ _ a4⟩
def smW (d:Wk):Prop:=d.1.length≤20∧0 < d.1.length∧d.2.2.1.length≤900∧d.2.2.2.length≤900
inductive Tr  (vs:List V) (H:Hp) (Q:VK):Prop
 | mk (t1) (t2) (a:_) (b) (_:vs = [.ref t1,.ref t2]) (_:D3 H t1 a) (_:D3 H t2 b) (_:smW a) (_:smW b) (_:∀ t H',Same H H'→D3 H' t (Qw a b)→Q (.ref t) H'):Tr  vs H Q
def Se:Sp:=λ vs H Q _=>Tr  vs H Q
inductive So  (vs:List V) (H:Hp) (Q:VK):Prop
 | mk (t1) (t2) (a:_) (b) (_:vs = [.ref t1,.ref t2]) (_:D3 H t1 a) (_:D3 H t2 b) (_:smW a) (_:smW b) (_:∀ t H',Same H H'→D3 H' t (Qu a b)→Q (.ref t) H'):So  vs H Q
def Si:Sp:=λ vs H Q _=>So  vs H Q
inductive Vx  (vs:List V) (H:Hp) (Q:VK):Prop
 | mk (t1) (t2) (a:_) (b) (_:vs = [.ref t1,.ref t2]) (_:D3 H t1 a) (_:D3 H t2 b) (_:smW a) (_:smW b) (_:∀ t H',Same H H'→D3 H' t (AaJ a b)→Q (.ref t) H'):Vx  vs H Q
def U5:Sp:=λ vs H Q _=>Vx  vs H Q
inductive Vy  (vs:List V) (H:Hp) (Q:VK):Prop
 | mk (t1 c:Addr) (a:Wk) (cs:List Int) (_:vs = [.ref t1,.ref c]) (_:D3 H t1 a) (_:H c = some (.lst (cs.map V.int))) (_:cs.length≤20) (_:∀ t H',Same H H'→D3 H' t (nub cs,a.2.1,a.2.2.1,a.2.2.2)→Q (.ref t) H'):Vy  vs H Q
def Wd:Sp:=λ vs H Q _=>Vy  vs H Q
inductive Ub (K:FA) (vs:List V) (H:Hp) (Q:VK):Prop
 | mk (v:_) (p) (s) (_:vs = [v,.bl s]) (_:PAt K H (Pt.nd p) v) (_:Ix p = true) (_:∀ t H',Same H H'→D3 H' t (Bh [] s p)→Q (.ref t) H'):Ub K vs H Q
def Rm (K:FA):Sp:=λ vs H Q _=>Ub K vs H Q
inductive Abf (K:FA) (n:Nat) (vs:List V) (H:Hp) (Q:VK):Prop
 | mk (v:_) (p) (s) (kl) (kn) (_:vs = [v,.bl s,.ref kl]) (_:PAt K H (Pt.nd p) v) (_:SqL K H kl ((kn:List (Option Bool)).map vO)) (_:p.hg≤n) (_:p.sc≤900) (_:okW kn.length p) (_:∀ t H',Same H H'→D3 H' t (Bh kn s p)→Q (.ref t) H'):Abf K n vs H Q
def Wp (K:FA) (n:Nat):Sp:=λ vs H Q _=>Abf K n vs H Q
inductive Wc (K:FA) (n:Nat) (vs:List V) (H:Hp) (Q:VK):Prop
 | mk (v:_) (p) (sv) (st) (s) (kl) (kn) (_:vs = [v,sv,.bl s,.ref kl]) (_:PAt K H (Pt.nd p) v) (_:Fn K H st sv) (_:SqL K H kl ((kn:List (Option Bool)).map vO)) (_:p.hg≤n) (_:p.sc < 64) (_:p.rc < 64) (_:okW kn.length p) (_:∀ t H',Same H H'→D3 H' t (Oe kn s p st)→Q (.ref t) H'):Wc K n vs H Q
def Agk (K:FA) (n:Nat):Sp:=λ vs H Q _=>Wc K n vs H Q
theorem Hr (h:okW sg p) (hs:p.sc≤900) (s:Bool):smW (Bh kn s p):=by
 have c:=Ab5 kn h s
 exact ⟨uX c.len (by decide),c.ne,uX (Ps kn p s).1 hs,uX (Ps kn p s).2 hs⟩
theorem Iq {xs ys:List Int} (h:H l = some (.lst (xs.map V.int ++ ys.map V.int))):H l = some (.lst ((xs ++ ys).map V.int)):=by rw [h,uP]
theorem Adc (F:Gf K mg "in_turn_walking" "in_turn" ["first", "second"] Eg) (T:Cj K mg aN aP aR uE uR uL):Am P w K mg base 1 "in_turn_walking" ["first", "second"] Se:=by
 refine F.ok Ff (λ vs H Q E h=>?_) (λ f cdv A outer s H vs Q E hr h=>?_)
 ·obtain ⟨t1,t2,da,db,rfl,_⟩:=h; rfl
 obtain ⟨t1,t2,da,db,rfl,⟨l1,l2,l3,a1,a2,a3,a4⟩,⟨m1,m2,m3,b1,b2,b3,b4⟩,sa,sb,q⟩:=h
 refine ⟨_,(Ac (Mr (j:=2) (g:=(Cg 0)) (tc:=(Km (tOp rNe (Bl 0) (tC AfW)))) (te:=(Bl 0)) ["code"] [] Ff.nd rfl (Or.inl rfl) rfl (Ei (Aj Eg) ["first", "second", "going_past", "codes"] (by decide +kernel)) (Dm (An Ak (pv 0) Af (λ _ _=>rfl))) (λ s2 H2 fp cl C=>Bn (i:=0) (show Nodup [("code" : Str)] from by decide +kernel) rfl (Or.inl rfl)) (Cr (by decide)) (λ s2 H2 fp cl C=>Jq (Ao Kl (pv 0) (Bb rfl T.m_ENDED T.r_ENDED) (Aw _))) (λ s2 H2 fp cl C=>(pv 0)))
  (Ac (As (i:=3) Ff.nd rfl (Or.inl rfl) (Gi rfl rfl T.n_sorted rfl T.n_set (A7 Bv (pv 2) (An Ak (pv 1) Af (λ _ _=>rfl)))))
  (Ag (Aq (Bg (Aa (pv 3) (Aa (An Ak (pv 1) Af (λ _ _=>rfl)) (Aa (A7 Bv (An Ak (pv 0) Af (λ _ _=>rfl)) (An Ak (pv 1) Af (λ _ _=>rfl))) (Aa (A7 Bv (An Ak (pv 0) Af (λ _ _=>rfl)) (An Ak (pv 1) Af (λ _ _=>rfl))) Ab))))))))),?_⟩
 refine ⟨_,rfl,t1,_,_,_,rfl,rfl,SqT.of a1,Ai (j:=0) rfl,l1,rfl,⟨_,SqL.of a2⟩,Fs (K:=K) (xs:=da.1.map V.int) (λ i ys H'=>H' = H∧ys = ((da.1.take i).filter (λ c=>!decide (c = 0))).map V.int) ⟨rfl,rfl⟩ (by rw [uD]; exact B9 (Aa6 sa.1 (by decide))) (λ i ys H' ⟨e,_⟩=>by rw [e]; exact SqL.of a2) ?_ ?_⟩
 ·rintro j z ys H' N hj ⟨rfl,rfl⟩ hN a7
  rw [uJ] at hj
  cases ej:da.1[j]? with
  | none=>rw [ej] at hj; cases hj
  | some c =>
   rw [ej] at hj
   cases hj
   have et:(da.1.take (j + 1)).filter (λ c=>!decide (c = 0)) = (da.1.take j).filter (λ c=>!decide (c = 0)) ++ [c].filter (λ c=>!decide (c = 0)):=by
    rw [take_add_one,ej,vJ]; rfl
   refine ⟨_,rfl,rfl,_,rfl,K6 (λ z=>?_) λ z=>?_⟩
   ·refine ⟨_,rfl,hN _ _ (R4 a7) ⟨rfl,?_⟩⟩
    have nz:¬ c = 0:=λ y=>by rw [y] at z; exact absurd z (by decide)
    rw [et,uP,filter_cons_of_pos (by simp [nz])]
    rfl
   ·refine hN _ _ (le_succ_of_le a7) ⟨rfl,?_⟩
    have nz:c = 0:=Classical.byContradiction λ y=>z (by simp [y])
    rw [et,filter_cons_of_neg (by simp [nz])]
    simp
 ·rintro ys H' a7 ⟨rfl,rfl⟩ D hD
  have g0:=Ah hD (.lst (((da.1.take (da.1.map V.int).length).filter (λ c=>!decide (c = 0))).map V.int))
  have a8:(upd H' D (.lst (((da.1.take (da.1.map V.int).length).filter (λ c=>!decide (c = 0))).map V.int))) D = some (.lst ((da.1.filter (λ c=>!decide (c = 0))).map V.int)):=by rw [Ae,uD,take_length]
  have fl:(da.1.filter (λ c=>!decide (c = 0))).length≤da.1.length:=length_filter_le _ _
  have s1:=sa.1
  have s2:=sb.1
  have a1:=g0 _ _ a1
  have a3:=g0 _ _ a3
  have a4:=g0 _ _ a4
  have b1:=g0 _ _ b1
  have b2:=g0 _ _ b2
  have b3:=g0 _ _ b3
  have b4:=g0 _ _ b4
  have q:∀ t H2,Same (upd H' D (.lst (((da.1.take (da.1.map V.int).length).filter (λ c=>!decide (c = 0))).map V.int))) H2→D3 H2 t (Qw da db)→Q (.ref t) H2:=λ t H2 g=>q t H2 (g0.trans g)
  generalize (upd H' D (.lst (((da.1.take (da.1.map V.int).length).filter (λ c=>!decide (c = 0))).map V.int))) = H1 at a8 a1 a3 a4 b1 b2 b3 b4 q
  refine ⟨_,rfl,_,rfl,t2,_,_,_,rfl,rfl,SqT.of b1,Ai (j:=0) rfl,D,m1,_,_,rfl,rfl,a8,b2,by rw [uD,uD]; exact B9 (Ac1 (uX fl s1) s2 (by decide)),λ p hp=>?_⟩
  have g1:=Ah hp (.lst ((da.1.filter (λ c=>!decide (c = 0))).map V.int ++ db.1.map V.int))
  refine ⟨p,_,rfl,SqL.of (Iq Ae),by rw [uF]; exact Ado (uX fl s1) s2 (by decide),λ r hr=>?_⟩
  have g2:=Ah hr (.lst ((nub (da.1.filter (λ c=>!decide (c = 0)) ++ db.1)).map V.int))
  have a5:=g1.trans g2
  refine ⟨_,rfl,_,rfl,t2,_,_,_,rfl,rfl,SqT.of (a5 _ _ b1),Ai (j:=1) rfl,_,rfl,t1,_,_,_,rfl,rfl,SqT.of (a5 _ _ a1),Ai (j:=2) rfl,_,rfl,t2,_,_,_,rfl,rfl,SqT.of (a5 _ _ b1),Ai (j:=2) rfl,l2,m2,_,_,rfl,rfl,a5 _ _ a3,a5 _ _ b3,by rw [uD,uD]; exact uX (add_le_add sa.2.2.1 sb.2.2.1) (by decide),λ c hc=>?_⟩
  have g3:=Ah hc (.lst (da.2.2.1.map V.int ++ db.2.2.1.map V.int))
  have a6:=a5.trans g3
  refine ⟨_,rfl,t1,_,_,_,rfl,rfl,SqT.of (a6 _ _ a1),Ai (j:=3) rfl,_,rfl,t2,_,_,_,rfl,rfl,SqT.of (a6 _ _ b1),Ai (j:=3) rfl,l3,m3,_,_,rfl,rfl,a6 _ _ a4,a6 _ _ b4,by rw [uD,uD]; exact uX (add_le_add sa.2.2.2 sb.2.2.2) (by decide),λ e he=>?_⟩
  have g4:=Ah he (.lst (da.2.2.2.map V.int ++ db.2.2.2.map V.int))
  refine ⟨zN4,λ t ht=>?_⟩
  have g5:=Ah ht (.tup [.ref r,.bl db.2.1,.ref c,.ref e])
  exact q _ _ (a6.trans (g4.trans g5)) ⟨r,c,e,Ae,g5 _ _ (g4 _ _ (g3 _ _ Ae)),g5 _ _ (g4 _ _ (Iq Ae)),g5 _ _ (Iq Ae)⟩
theorem AeC (F:Gf K mg "side_by_side_walking" "side_by_side" ["first", "second"] C9) (T:Cj K mg aN aP aR uE uR uL):Am P w K mg base 1 "side_by_side_walking" ["first", "second"] Si:=by
 refine F.ok Dz (λ vs H Q E h=>?_) (λ f cdv A outer s H vs Q E hr h=>?_)
 ·obtain ⟨t1,t2,da,db,rfl,_⟩:=h; rfl
 obtain ⟨t1,t2,da,db,rfl,⟨l1,l2,l3,a1,a2,a3,a4⟩,⟨m1,m2,m3,b1,b2,b3,b4⟩,sa,sb,q⟩:=h
 refine ⟨_,(Ac (As (i:=2) Dz.nd rfl (Or.inr rfl) (Be (Ny rfl) rfl T.n_max (by decide +kernel) (Aa (Be (Tj rfl) rfl T.n_min (by decide +kernel) (Aa (An Ak (pv 0) Af (λ _ _=>rfl)) Ab)) (Aa (Be (Tj rfl) rfl T.n_min (by decide +kernel) (Aa (An Ak (pv 1) Af (λ _ _=>rfl)) Ab)) Ab))))
  (Ac (Mr (j:=3) (g:=(Cg 0)) (tc:=(Km (tOp (rI0 λ i j=>.bl (decide (j≤i))) (Bl 0) (Bl 1)))) (te:=(Bl 0)) ["code"] [("least", 2)] Dz.nd rfl (Or.inl rfl) rfl (Ei (Aj C9) ["first", "second", "least", "codes"] (by decide +kernel)) (Dm (Gi rfl rfl T.n_sorted rfl T.n_set (A7 Bv (An Ak (pv 0) Af (λ _ _=>rfl)) (An Ak (pv 1) Af (λ _ _=>rfl))))) (λ s2 H2 fp cl C=>Bn (i:=0) (show Nodup [("code" : Str),("least" : Str)] from by decide +kernel) rfl (Or.inl rfl)) (Cr (by decide)) (λ s2 H2 fp cl C=>Jq (Ao Ag6 (pv 0) (pv 1) (Aw _))) (λ s2 H2 fp cl C=>(pv 0)))
  (Ag (Aq (Bg (Aa (pv 3) (Aa (Iu (An Ak (pv 0) Af (λ _ _=>rfl)) (J5 (An Ak (pv 1) Af (λ _ _=>rfl)))) (Aa (A7 Bv (An Ak (pv 0) Af (λ _ _=>rfl)) (An Ak (pv 1) Af (λ _ _=>rfl))) (Aa (A7 Bv (An Ak (pv 0) Af (λ _ _=>rfl)) (An Ak (pv 1) Af (λ _ _=>rfl))) Ab))))))))),?_⟩
 refine ⟨_,rfl,t1,_,_,_,rfl,rfl,SqT.of a1,Ai (j:=0) rfl,l1,_,rfl,SqL.of a2,sa.2.1,λ M1 h1 h2=>?_⟩
 refine ⟨_,rfl,t2,_,_,_,rfl,rfl,SqT.of b1,Ai (j:=0) rfl,m1,_,rfl,SqL.of b2,sb.2.1,λ M2 k1 k2=>?_⟩
 cases Yp h1 h2
 cases Yp k1 k2
 have s1:=sa.1
 have s2:=sb.1
 refine ⟨_,_,rfl,_,rfl,t1,_,_,_,rfl,rfl,SqT.of a1,Ai (j:=0) rfl,_,rfl,t2,_,_,_,rfl,rfl,SqT.of b1,Ai (j:=0) rfl,l1,m1,_,_,rfl,rfl,a2,b2,by rw [uD,uD]; exact B9 (Ac1 s1 s2 (by decide)),λ p hp=>?_⟩
 have g1:=Ah hp (.lst (da.1.map V.int ++ db.1.map V.int))
 refine ⟨p,da.1 ++ db.1,rfl,SqL.of (Iq Ae),by rw [uF]; exact Ado s1 s2 (by decide),λ r hr=>?_⟩
 have g2:=Ah hr (.lst ((nub (da.1 ++ db.1)).map V.int))
 have a5:=g1.trans g2
 have a7:=Ae (H:=upd H p (.lst (da.1.map V.int ++ db.1.map V.int))) (a:=r) (o:=.lst ((nub (da.1 ++ db.1)).map V.int))
 have a1:=a5 _ _ a1
 have a3:=a5 _ _ a3
 have a4:=a5 _ _ a4
 have b1:=a5 _ _ b1
 have b3:=a5 _ _ b3
 have b4:=a5 _ _ b4
 have q:∀ t H2,Same (upd (upd H p (.lst (da.1.map V.int ++ db.1.map V.int))) r (.lst ((nub (da.1 ++ db.1)).map V.int))) H2→D3 H2 t (Qu da db)→Q (.ref t) H2:=λ t H2 g=>q t H2 (a5.trans g)
 generalize (upd (upd H p (.lst (da.1.map V.int ++ db.1.map V.int))) r (.lst ((nub (da.1 ++ db.1)).map V.int))) = H1 at a7 a1 a3 a4 b1 b3 b4 q
 have nl:=uX (Z3 _) (by rw [uF]; exact add_le_add s1 s2)
 refine ⟨r,rfl,⟨_,SqL.of a7⟩,Fs (K:=K) (xs:=(nub (da.1 ++ db.1)).map V.int) (λ i ys H'=>H' = H1∧ys = (((nub (da.1 ++ db.1)).take i).filter (λ c=>decide (mx (B2 da.1) (B2 db.1)≤c))).map V.int) ⟨rfl,rfl⟩ (by rw [uD]; exact B9 (Aa6 nl (by decide))) (λ i ys H' ⟨e,_⟩=>by rw [e]; exact SqL.of a7) ?_ ?_⟩
 ·rintro j z ys H' N hj ⟨rfl,rfl⟩ hN a6
  rw [uJ] at hj
  cases ej:(nub (da.1 ++ db.1))[j]? with
  | none=>rw [ej] at hj; cases hj
  | some c =>
   rw [ej] at hj
   cases hj
   have et:((nub (da.1 ++ db.1)).take (j + 1)).filter (λ c=>decide (mx (B2 da.1) (B2 db.1)≤c)) = ((nub (da.1 ++ db.1)).take j).filter (λ c=>decide (mx (B2 da.1) (B2 db.1)≤c)) ++ [c].filter (λ c=>decide (mx (B2 da.1) (B2 db.1)≤c)):=by
    rw [take_add_one,ej,vJ]; rfl
   refine ⟨_,rfl,_,rfl,_,_,rfl,rfl,_,rfl,K6 (λ z=>?_) λ z=>?_⟩
   ·refine ⟨_,rfl,hN _ _ (R4 a6) ⟨rfl,?_⟩⟩
    have f1:[c].filter (λ c=>decide (mx (B2 da.1) (B2 db.1)≤c)) = [c]:=by
     have:mx (B2 da.1) (B2 db.1)≤c:=uN z
     simp [this]
    rw [et,f1,uP]
    rfl
   ·refine hN _ _ (le_succ_of_le a6) ⟨rfl,?_⟩
    have f1:[c].filter (λ c=>decide (mx (B2 da.1) (B2 db.1)≤c)) = []:=by
     have:¬ mx (B2 da.1) (B2 db.1)≤c:=λ y=>z (uK y)
     simp [this]
    rw [et,f1,vG]
 ·rintro ys H' a6 ⟨rfl,rfl⟩ D hD
  have g0:=Ah hD (.lst ((((nub (da.1 ++ db.1)).take ((nub (da.1 ++ db.1)).map V.int).length).filter (λ c=>decide (mx (B2 da.1) (B2 db.1)≤c))).map V.int))
  have a8:(upd H' D (.lst ((((nub (da.1 ++ db.1)).take ((nub (da.1 ++ db.1)).map V.int).length).filter (λ c=>decide (mx (B2 da.1) (B2 db.1)≤c))).map V.int))) D = some (.lst ((Qu da db).1.map V.int)):=by rw [Ae,uD,take_length]; rfl
  have a1:=g0 _ _ a1
  have a3:=g0 _ _ a3
  have a4:=g0 _ _ a4
  have b1:=g0 _ _ b1
  have b3:=g0 _ _ b3
  have b4:=g0 _ _ b4
  have q:=λ t H2 (g:Same (upd H' D (.lst ((((nub (da.1 ++ db.1)).take ((nub (da.1 ++ db.1)).map V.int).length).filter (λ c=>decide (mx (B2 da.1) (B2 db.1)≤c))).map V.int))) H2)=>q t H2 (g0.trans g)
  generalize (upd H' D (.lst ((((nub (da.1 ++ db.1)).take ((nub (da.1 ++ db.1)).map V.int).length).filter (λ c=>decide (mx (B2 da.1) (B2 db.1)≤c))).map V.int))) = H2 at a8 a1 a3 a4 b1 b3 b4 q
  refine ⟨_,rfl,_,rfl,t1,_,_,_,rfl,rfl,SqT.of a1,Ai (j:=1) rfl,_,rfl,?_⟩
  have rest:∀ bb,bb = (da.2.1 && db.2.1)→(B3 (tOp AbC (tOp (Pl K) (Bl 0) (tC (.int 2))) (tOp (Pl K) (Bl 1) (tC (.int 2)))) (B3 (tOp AbC (tOp (Pl K) (Bl 0) (tC (.int 3))) (tOp (Pl K) (Bl 1) (tC (.int 3)))) Dq)) [some (.ref t1),some (.ref t2),some (.int (mx (B2 da.1) (B2 db.1))),some (.ref D)] H2 (λ xs H1=>([V.ref D,.bl bb] ++ xs).length≤sizeLine∧∀ p,H1 p = none→Q (.ref p) (upd H1 p (.tup ([V.ref D,.bl bb] ++ xs)))):=by
   intro bb eb
   subst eb
   refine ⟨_,rfl,t1,_,_,_,rfl,rfl,SqT.of a1,Ai (j:=2) rfl,_,rfl,t2,_,_,_,rfl,rfl,SqT.of b1,Ai (j:=2) rfl,l2,m2,_,_,rfl,rfl,a3,b3,by rw [uD,uD]; exact uX (add_le_add sa.2.2.1 sb.2.2.1) (by decide),λ c hc=>?_⟩
   have g3:=Ah hc (.lst (da.2.2.1.map V.int ++ db.2.2.1.map V.int))
   refine ⟨_,rfl,t1,_,_,_,rfl,rfl,SqT.of (g3 _ _ a1),Ai (j:=3) rfl,_,rfl,t2,_,_,_,rfl,rfl,SqT.of (g3 _ _ b1),Ai (j:=3) rfl,l3,m3,_,_,rfl,rfl,g3 _ _ a4,g3 _ _ b4,by rw [uD,uD]; exact uX (add_le_add sa.2.2.2 sb.2.2.2) (by decide),λ e he=>?_⟩
   have g4:=Ah he (.lst (da.2.2.2.map V.int ++ db.2.2.2.map V.int))
   refine ⟨zN4,λ t ht=>?_⟩
   have g5:=Ah ht (.tup [.ref D,.bl (da.2.1 && db.2.1),.ref c,.ref e])
   exact q _ _ (g3.trans (g4.trans g5)) ⟨D,c,e,Ae,g5 _ _ (g4 _ _ (g3 _ _ a8)),g5 _ _ (g4 _ _ (Iq Ae)),g5 _ _ (Iq Ae)⟩
  cases e1:da.2.1 with
  | true=>exact Bs ⟨_,rfl,t2,_,_,_,rfl,rfl,SqT.of b1,Ai (j:=1) rfl,rest _ (by rw [e1]; rfl)⟩
  | false=>exact Bj (rest _ (by rw [e1]; rfl))
theorem AfH (F:Bd K mg "one_of" ["first", "second"] P9) (T:Cj K mg aN aP aR uE uR uL):Am P w K mg base 1 "one_of" ["first", "second"] U5:=by
 refine F.ok AbJ (λ vs H Q E h=>?_) (λ f cdv A outer s H vs Q E hr h=>?_)
 ·obtain ⟨t1,t2,da,db,rfl,_⟩:=h; rfl
 obtain ⟨t1,t2,da,db,rfl,⟨l1,l2,l3,a1,a2,a3,a4⟩,⟨m1,m2,m3,b1,b2,b3,b4⟩,sa,sb,q⟩:=h
 refine ⟨_,(Ag (Aq (Bg (Aa (Gi rfl rfl T.n_sorted rfl T.n_set (A7 Bv (An Ak (pv 0) Af (λ _ _=>rfl)) (An Ak (pv 1) Af (λ _ _=>rfl)))) (Aa Dy (Aa (Ba Ab) (Aa (A7 Bv (An Ak (pv 0) Af (λ _ _=>rfl)) (An Ak (pv 1) Af (λ _ _=>rfl))) Ab))))))),?_⟩
 have s1:=sa.1
 have s2:=sb.1
 refine ⟨_,rfl,t1,_,_,_,rfl,rfl,SqT.of a1,Ai (j:=0) rfl,_,rfl,t2,_,_,_,rfl,rfl,SqT.of b1,Ai (j:=0) rfl,l1,m1,_,_,rfl,rfl,a2,b2,by rw [uD,uD]; exact B9 (Ac1 s1 s2 (by decide)),λ p hp=>?_⟩
 have g1:=Ah hp (.lst (da.1.map V.int ++ db.1.map V.int))
 refine ⟨p,da.1 ++ db.1,rfl,SqL.of (Iq Ae),by rw [uF]; exact Ado s1 s2 (by decide),λ r hr=>?_⟩
 have g2:=Ah hr (.lst ((nub (da.1 ++ db.1)).map V.int))
 refine ⟨zN0,λ c hc=>?_⟩
 have g3:=Ah hc (.lst [])
 have a5:=(g1.trans g2).trans g3
 refine ⟨_,rfl,t1,_,_,_,rfl,rfl,SqT.of (a5 _ _ a1),Ai (j:=3) rfl,_,rfl,t2,_,_,_,rfl,rfl,SqT.of (a5 _ _ b1),Ai (j:=3) rfl,l3,m3,_,_,rfl,rfl,a5 _ _ a4,a5 _ _ b4,by rw [uD,uD]; exact uX (add_le_add sa.2.2.2 sb.2.2.2) (by decide),λ e he=>?_⟩
 have g4:=Ah he (.lst (da.2.2.2.map V.int ++ db.2.2.2.map V.int))
 refine ⟨zN4,λ t ht=>?_⟩
 have g5:=Ah ht (.tup [.ref r,.bl false,.ref c,.ref e])
 exact q _ _ (a5.trans (g4.trans g5)) ⟨r,c,e,Ae,g5 _ _ (g4 _ _ (g3 _ _ Ae)),g5 _ _ (g4 _ _ Ae),g5 _ _ (Iq Ae)⟩
theorem Aeo (F:Bd K mg "recoded" ["inner", "codes"] N9) (T:Cj K mg aN aP aR uE uR uL):Am P w K mg base 1 "recoded" ["inner", "codes"] Wd:=by
 refine F.ok Aad (λ vs H Q E h=>?_) (λ f cdv A outer s H vs Q E hr h=>?_)
 ·obtain ⟨t1,c,a,cs,rfl,_⟩:=h; rfl
 obtain ⟨t1,c,a,cs,rfl,⟨l1,l2,l3,a1,a2,a3,a4⟩,hc,hl,q⟩:=h
 refine ⟨_,(Ag (Aq (Bg (Aa (Gi rfl rfl T.n_sorted rfl T.n_set (pv 1)) (Aa (An Ak (pv 0) Af (λ _ _=>rfl)) (Aa (An Ak (pv 0) Af (λ _ _=>rfl)) (Aa (An Ak (pv 0) Af (λ _ _=>rfl)) Ab))))))),?_⟩
 refine ⟨_,rfl,c,cs,rfl,SqL.of hc,vA hl (by decide),λ r hr=>?_⟩
 have g1:=Ah hr (.lst ((nub cs).map V.int))
 refine ⟨_,rfl,t1,_,_,_,rfl,rfl,SqT.of (g1 _ _ a1),Ai (j:=1) rfl,_,rfl,t1,_,_,_,rfl,rfl,SqT.of (g1 _ _ a1),Ai (j:=2) rfl,_,rfl,t1,_,_,_,rfl,rfl,SqT.of (g1 _ _ a1),Ai (j:=3) rfl,zN4,λ t ht=>?_⟩
 have g5:=Ah ht (.tup [.ref r,.bl a.2.1,.ref l2,.ref l3])
 exact q _ _ (g1.trans g5) ⟨r,l2,l3,Ae,g5 _ _ Ae,g5 _ _ (g1 _ _ a3),g5 _ _ (g1 _ _ a4)⟩
theorem Adm (F:Gf K mg "begun_leaf_walking" "begun_leaf" ["part", "sure"] Ex) (T:Cj K mg aN aP aR uE uR uL) (bV:Am P w K mg base 1 "leaf_code" ["part"] (Lr K)):Am P w K mg base 2 "begun_leaf_walking" ["part", "sure"] (Rm K):=by
 refine F.ok Em (λ vs H Q E h=>?_) (λ f cdv A outer s H vs Q E hr h=>?_)
 ·obtain ⟨v,p,sr,rfl,_⟩:=h; rfl
 obtain ⟨v,p,sr,rfl,hp,lf,q⟩:=h
 refine ⟨_,(Ac (As (i:=2) Em.nd rfl (Or.inl rfl) (Bu (Ao A6 (An Ak (pv 0) Af (λ _ _=>rfl)) Al (Aw _)) (Ba (Aa (An Ak (pv 0) Af (λ _ _=>rfl)) Ab)) (Ba Ab)))
  (Ac (As (i:=3) Em.nd rfl (Or.inl rfl) (Bu (Js (pv 1)) (pv 2) (Ba Ab)))
  (Ag (Aq (Bg (Aa (Ba (Aa (Ap bV hr rfl Av (Aa (pv 0) Ab)) Ab)) (Aa (pv 1) (Aa (pv 3) (Aa (pv 2) Ab))))))))),?_⟩
 have a1:∀ (l1:Addr) (xs:List Int) (hl:H l1 = none) (e1:Bh [] sr p = ([(beg [] p).1],sr,(if sr = true then xs else []),xs)),(Pm (tIf (tB (Bl 1)) (Bl 2) (Adt Dq)) (Cg 3)) { nx:=Aas (Wa (B3 (Adt (B3 (G3 (Lr K) [] E0 (B3 (Bl 0) Dq)) Dq)) (B3 (Bl 1) (B3 (Bl 3) (B3 (Bl 2) Dq))))) { nx:=λ _ H'=>Q .non H',rt:=Q },rt:=Q } [some v,some (.bl sr),some (.ref l1),none] (upd H l1 (.lst (xs.map V.int))):=by
  intro l1 xs hl e1
  rw [e1] at q
  have g1:=Ah hl (.lst (xs.map V.int))
  refine ⟨_,rfl,_,rfl,?_⟩
  cases sr with
  | true =>
   refine Bs ⟨_,rfl,_,rfl,v,p,rfl,hp.mono g1.tp,lf,zN1,λ c hc=>?_⟩
   have g2:=Ah hc (.lst [.int (beg [] p).1])
   refine ⟨_,rfl,_,rfl,_,rfl,zN4,λ t ht=>?_⟩
   have g3:=Ah ht (.tup [.ref c,.bl true,.ref l1,.ref l1])
   exact q _ _ (g1.trans (g2.trans g3)) ⟨c,l1,l1,Ae,g3 _ _ Ae,g3 _ _ (g2 _ _ Ae),g3 _ _ (g2 _ _ Ae)⟩
  | false =>
   refine Bj ⟨zN0,λ m hm=>?_⟩
   have g0:=Ah hm (.lst [])
   refine ⟨_,rfl,v,p,rfl,hp.mono (g1.trans g0).tp,lf,zN1,λ c hc=>?_⟩
   have g2:=Ah hc (.lst [.int (beg [] p).1])
   refine ⟨_,rfl,_,rfl,_,rfl,zN4,λ t ht=>?_⟩
   have g3:=Ah ht (.tup [.ref c,.bl false,.ref m,.ref l1])
   exact q _ _ (g1.trans (g0.trans (g2.trans g3))) ⟨c,m,l1,Ae,g3 _ _ Ae,g3 _ _ (g2 _ _ Ae),g3 _ _ (g2 _ _ (g0 _ _ Ae))⟩
 cases p with
 | nothing =>
  obtain ⟨a,vs,rfl,hs,hx⟩:=PAt.get hp
  obtain ⟨x0,rfl,h0⟩:=hx.one
  cases h0.str
  exact ⟨_,rfl,a,_,_,_,rfl,rfl,hs.sq,Ai (j:=0) rfl,rfl,_,rfl,Bf (by decide +kernel) ⟨zN0,λ l hl=>a1 l [] hl (by cases sr <;> rfl)⟩⟩
 | rest x =>
  obtain ⟨a,vs,rfl,hs,hx⟩:=PAt.get hp
  obtain ⟨x0,x1,rfl,h0,h1⟩:=hx.two
  cases h0.str
  cases h1.int
  exact ⟨_,rfl,a,_,_,_,rfl,rfl,hs.sq,Ai (j:=0) rfl,rfl,_,rfl,Bf (by decide +kernel) ⟨zN0,λ l hl=>a1 l [] hl (by cases sr <;> rfl)⟩⟩
 | send x =>
  obtain ⟨a,vs,rfl,hs,hx⟩:=PAt.get hp
  obtain ⟨x0,x1,rfl,h0,h1⟩:=hx.two
  cases h0.str
  cases h1.int
  exact ⟨_,rfl,a,_,_,_,rfl,rfl,hs.sq,Ai (j:=0) rfl,rfl,_,rfl,Ea ⟨_,rfl,a,_,_,_,rfl,rfl,hs.sq,Ai (j:=1) rfl,zN1,λ l hl=>a1 l [x] hl (by cases sr <;> rfl)⟩⟩
 | _=>cases lf
inductive WkN (s:Addr) (H:Hp) (t:Addr) (d:Wk):Prop
 | mk (l1 l2 l3:Addr) (h0:H t = some (.tup [.ref l1,.bl d.2.1,.ref l2,.ref l3])) (h1:H l1 = some (.lst (d.1.map V.int))) (h2:H l2 = some (.lst (d.2.2.1.map V.int))) (h3:H l3 = some (.lst (d.2.2.2.map V.int))) (n0:t≠s) (n1:l1≠s) (n2:l2≠s) (n3:l3≠s):WkN s H t d
inductive Tf (K:FA) (n:Nat) (vs:List V) (H:Hp) (Q:VK):Prop
 | mk (v:_) (p) (sv) (st) (s) (kl) (kn) (_:vs = [v,sv,.bl s,.ref kl]) (_:PAt K H (Pt.nd p) v) (_:Fn K H st sv) (_:SqL K H kl ((kn:List (Option Bool)).map vO)) (_:(st = none∨(p.hg≤n∧p.rc≤900))) (_:(pb p st).hg≤n) (_:(pb p st).sc < 64) (_:okW kn.length p) (_:∀ (t:Addr) (H':Hp),Same H H'→D3 H' t (Oe kn s p st)→(∀ (a:Addr) (xs:List Addr),H a = some (.lst (xs.map V.ref))→WkN a H' t (Oe kn s p st))→Q (.ref t) H'):Tf K n vs H Q
def Rq (K:FA) (n:Nat):Sp:=λ vs H Q _=>Tf K n vs H Q
def Ah1:Option Bool→Wk→Wk→Wk→Wk
 | none,a,_,_=>a
 | some true,_,b,_=>b
 | some false,_,_,c=>c
theorem Abr (h:Ix p = true) (kn a1:List (Option Bool)) (s:Bool):Bh kn s p = Bh a1 s p:=by cases p <;> first | rfl | cases h
theorem AdR {x:Int} (h:(kn[x.toNat]?).getD none = o):Bh kn s (.iff x p q) = Ah1 o (AaJ (Bh kn false p) (Bh kn false q)) (Bh kn s p) (Bh kn s q):=by
 subst h
 simp only [Bh]
 cases (kn[x.toNat]?).getD none with
 | none=>rfl
 | some b=>cases b <;> rfl
theorem AhA (F:Gf K mg "begun_walking" "begun" ["part", "sure", "known"] De) (T:Cj K mg aN aP aR uE uR uL) (bZ:Am P w K mg base 2 "begun_leaf_walking" ["part", "sure"] (Rm K)) (cK:Am P w K mg base 1 "in_turn_walking" ["first", "second"] Se) (bW:Am P w K mg base 1 "side_by_side_walking" ["first", "second"] Si) (dZ:Am P w K mg base 1 "one_of" ["first", "second"] U5) (cY:Am P w K mg base 1 "recoded" ["inner", "codes"] Wd)
  (bF:Am P w K mg base 1 "code_of_again" ["code"] Qb) (bL:Am P w K mg base 1 "code_of_trap" ["code"] Ou) (aA:Am P w K mg base (n + 2) "begun_walking" ["part", "sure", "known"] (Wp K n)):Am P w K mg base (n + 3) "begun_walking" ["part", "sure", "known"] (Wp K (n + 1)):=by
 refine F.ok Du (λ vs H Q E h=>?_) (λ f cdv A outer s H vs Q E hr h=>?_)
 ·obtain ⟨v,p,sr,kl,kn,rfl,_⟩:=h; rfl
 obtain ⟨v,p,sr,kl,kn,rfl,hp,hS,hh,a5,ok,q⟩:=h
 refine ⟨_,(Ac (As (i:=3) Du.nd rfl (Or.inl rfl) (An Ak (pv 0) Af (λ _ _=>rfl)))
  (Ac (Ax (Ao A6 (pv 3) Al (Aw _))
   (Ac (As (i:=4) Du.nd rfl (Or.inl rfl) (Ap aA hr rfl Av (Aa (An Ak (pv 0) Af (λ _ _=>rfl)) (Aa (pv 1) (Aa (pv 2) Ab)))))
  (Ag (Aq (Bu (Ao Bw (Bb rfl T.m_ENDED T.r_ENDED) (An Ak (pv 4) Af (λ _ _=>rfl)) (by rfl)) (Ap cK hr rfl Av (Aa (pv 4) (Aa (Ap aA hr rfl Av (Aa (An Ak (pv 0) Af (λ _ _=>rfl)) (Aa (An Ak (pv 4) Af (λ _ _=>rfl)) (Aa (pv 2) Ab)))) Ab))) (pv 4)))))
   Au)
  (Ac (Ax (Ao A6 (pv 3) Al (Aw _))
   (Ag (Aq (Ap bW hr rfl Av (Aa (Ap aA hr rfl Av (Aa (An Ak (pv 0) Af (λ _ _=>rfl)) (Aa (pv 1) (Aa (pv 2) Ab)))) (Aa (Ap aA hr rfl Av (Aa (An Ak (pv 0) Af (λ _ _=>rfl)) (Aa (pv 1) (Aa (pv 2) Ab)))) Ab)))))
   Au)
  (Ac (Ax (Ao A6 (pv 3) Al (Aw _))
   (Ac (Ax (Ao J4 (An Cm (pv 2) (An Ak (pv 0) Af (λ _ _=>rfl)) (λ _ _=>rfl)) Ce (Aw _))
   (Ag (Aq (Ap dZ hr rfl Av (Aa (Ap aA hr rfl Av (Aa (An Ak (pv 0) Af (λ _ _=>rfl)) (Aa Dy (Aa (pv 2) Ab)))) (Aa (Ap aA hr rfl Av (Aa (An Ak (pv 0) Af (λ _ _=>rfl)) (Aa Dy (Aa (pv 2) Ab)))) Ab)))))
   Au)
  (Ag (Aq (Ap aA hr rfl Av (Aa (Bu (Js (An Cm (pv 2) (An Ak (pv 0) Af (λ _ _=>rfl)) (λ _ _=>rfl))) (An Ak (pv 0) Af (λ _ _=>rfl)) (An Ak (pv 0) Af (λ _ _=>rfl))) (Aa (pv 1) (Aa (pv 2) Ab)))))))
   Au)
  (Ac (Ax (Ao A6 (pv 3) Al (Aw _))
   (Ac (As (i:=5) Du.nd rfl (Or.inl rfl) (Ap aA hr rfl Av (Aa (An Ak (pv 0) Af (λ _ _=>rfl)) (Aa (pv 1) (Aa (pv 2) Ab)))))
  (Ag (Aq (Ap cY hr rfl Av (Aa (pv 5) (Aa (Fw (g:=(Cg 0)) (tc:=Gj) (te:=(G3 Qb [] E0 (B3 (Bl 0) Dq))) ["code"] [] rfl (Ei (Aj De) ["part", "sure", "known", "word", "first", "inner"] (by decide +kernel)) (Dm (An Ak (pv 5) Af (λ _ _=>rfl))) (λ s2 H2 fp cl C=>Bn (i:=0) (show Nodup [("code" : Str)] from by decide +kernel) rfl (Or.inl rfl)) (Cr (by decide)) (λ s2 H2 fp cl C=>Hk) (λ s2 H2 fp cl C=>(Ap bF hr rfl Av (Aa (pv 0) Ab)))) Ab))))))
   Au)
  (Ac (Ax (PW.pt (Ku (Ao A6 (pv 3) Al (Aw _)) (Ir (Ao A6 (pv 3) Al (Aw _)))))
   (Ag (Aq (Ap aA hr rfl Av (Aa (An Ak (pv 0) Af (λ _ _=>rfl)) (Aa (pv 1) (Aa (pv 2) Ab))))))
   Au)
  (Ac (Ax (Ao A6 (pv 3) Al (Aw _))
   (Ac (As (i:=5) Du.nd rfl (Or.inl rfl) (Ap aA hr rfl Av (Aa (An Ak (pv 0) Af (λ _ _=>rfl)) (Aa (pv 1) (Aa (pv 2) Ab)))))
  (Ag (Aq (Ap cY hr rfl Av (Aa (pv 5) (Aa (Fw (g:=(Cg 0)) (tc:=Gj) (te:=(G3 Ou [] E0 (B3 (Bl 0) Dq))) ["code"] [] rfl (Ei (Aj De) ["part", "sure", "known", "word", "first", "inner"] (by decide +kernel)) (Dm (An Ak (pv 5) Af (λ _ _=>rfl))) (λ s2 H2 fp cl C=>Bn (i:=0) (show Nodup [("code" : Str)] from by decide +kernel) rfl (Or.inl rfl)) (Cr (by decide)) (λ s2 H2 fp cl C=>Hk) (λ s2 H2 fp cl C=>(Ap bL hr rfl Av (Aa (pv 0) Ab)))) Ab))))))
   Au)
  (Ag (Aq (Ap bZ hr rfl Av (Aa (pv 0) (Aa (pv 1) Ab)))))))))))),?_⟩
 obtain ⟨a,vs,rfl,hs⟩:=Oo hp
 refine ⟨_,rfl,a,_,_,_,rfl,rfl,hs.sq,Ai (j:=0) rfl,_,rfl,rfl,_,rfl,Ek (λ e=>?_) λ n1=>⟨_,rfl,rfl,_,rfl,Ek (λ e=>?_) λ n2=>⟨_,rfl,rfl,_,rfl,Ek (λ e=>?_) λ n3=>⟨_,rfl,rfl,_,rfl,Ek (λ e=>?_) λ n4=>⟨_,rfl,rfl,_,rfl,Ek (λ e=>Bs ?_) λ n5=>⟨_,rfl,rfl,_,rfl,Ek (λ e=>?_) λ n6=>⟨_,rfl,rfl,_,rfl,Ek (λ e=>?_) λ n7=>?_⟩⟩⟩⟩⟩⟩⟩
 ·obtain ⟨p1,p2,rfl⟩:=AcM e
  obtain ⟨a',a6,ev,hs,hx⟩:=PAt.get hp
  cases ev
  obtain ⟨x0,x1,x2,rfl,h0,h1,h2⟩:=hx.three
  cases h0.str
  refine ⟨_,rfl,a,_,_,_,rfl,rfl,hs.sq,Ai (j:=1) rfl,_,rfl,_,rfl,x1,p1,sr,kl,kn,rfl,h1,hS,hgl hh,adl a5,ok.1,λ t1 H1 g1 R1=>?_⟩
  obtain ⟨l1,l2,l3,a1,a2,a3,a4⟩:=id R1
  refine ⟨_,rfl,t1,_,_,_,rfl,rfl,SqT.of a1,Ai (j:=0) rfl,l1,_,rfl,.inl (SqL.of a2),rfl,Ck _,_,rfl,Vq (λ c=>?_) λ c=>?_⟩
  ·refine ⟨_,rfl,_,rfl,a,_,_,_,rfl,rfl,(hs.mono g1.tp).sq,Ai (j:=2) rfl,_,rfl,t1,_,_,_,rfl,rfl,SqT.of a1,Ai (j:=1) rfl,_,rfl,x2,p2,_,kl,kn,rfl,h2.mono g1.tp,g1.seq hS,hgr hh,adr a5,ok.2,λ t2 H2 g2 R2=>?_⟩
   refine ⟨t1,t2,_,_,rfl,R1.mono g2,R2,Hr ok.1 (adl a5) sr,Hr ok.2 (adr a5) _,λ t H3 g3 R3=>?_⟩
   exact q _ _ ((g1.trans g2).trans g3) (by rw [show Bh kn sr (.thn p1 p2) = Qw (Bh kn sr p1) (Bh kn (Bh kn sr p1).2.1 p2) from by simp only [Bh]; rw [if_pos c]]; exact R3)
  ·exact ⟨_,rfl,q _ _ g1 (by rw [show Bh kn sr (.thn p1 p2) = Bh kn sr p1 from by simp only [Bh]; rw [if_neg c]]; exact R1)⟩
 ·obtain ⟨p1,p2,rfl⟩:=AbM e
  obtain ⟨a',a6,ev,hs,hx⟩:=PAt.get hp
  cases ev
  obtain ⟨x0,x1,x2,rfl,h0,h1,h2⟩:=hx.three
  cases h0.str
  refine ⟨_,rfl,a,_,_,_,rfl,rfl,hs.sq,Ai (j:=1) rfl,_,rfl,_,rfl,x1,p1,sr,kl,kn,rfl,h1,hS,hgl hh,adl a5,ok.1,λ t1 H1 g1 R1=>?_⟩
  refine ⟨_,rfl,a,_,_,_,rfl,rfl,(hs.mono g1.tp).sq,Ai (j:=2) rfl,_,rfl,_,rfl,x2,p2,sr,kl,kn,rfl,h2.mono g1.tp,g1.seq hS,hgr hh,adr a5,ok.2,λ t2 H2 g2 R2=>?_⟩
  exact ⟨t1,t2,_,_,rfl,R1.mono g2,R2,Hr ok.1 (adl a5) sr,Hr ok.2 (adr a5) sr,λ t H3 g3 R3=>q _ _ ((g1.trans g2).trans g3) R3⟩
 ·obtain ⟨sn,p1,p2,rfl⟩:=Ab6 e
  obtain ⟨a',a6,ev,hs,hx⟩:=PAt.get hp
  cases ev
  obtain ⟨x0,x1,x2,x3,rfl,h0,h1,h2,h3⟩:=hx.four
  cases h0.str
  cases h1.int
  have hb:=AhG ok.1
  obtain ⟨o,eo⟩:∃ o,kn[sn.toNat]? = some o:=⟨_,uC hb⟩
  have ea:atI (kn.map vO) sn = some (vO o):=by
   have:=Ai (xs:=kn.map vO) (j:=sn.toNat) (v:=vO o) (by rw [uJ,eo]; rfl)
   rw [Int.toNat_of_nonneg ok.1.1] at this
   exact this
  have ew:=λ s=>AdR (kn:=kn) (s:=s) (x:=sn) (p:=p1) (q:=p2) (o:=o) (by rw [eo]; rfl)
  refine ⟨_,rfl,_,rfl,a,_,_,_,rfl,rfl,hs.sq,Ai (j:=1) rfl,kl,_,_,_,rfl,rfl,hS,ea,rfl,_,rfl,?_⟩
  rw [ew] at q
  cases o with
  | none =>
   refine Bs ?_
   refine ⟨_,rfl,a,_,_,_,rfl,rfl,hs.sq,Ai (j:=2) rfl,_,rfl,x2,p1,false,kl,kn,rfl,h2,hS,hgl hh,adl a5,ok.2.1,λ t1 H1 g1 R1=>?_⟩
   refine ⟨_,rfl,a,_,_,_,rfl,rfl,(hs.mono g1.tp).sq,Ai (j:=3) rfl,_,rfl,x3,p2,false,kl,kn,rfl,h3.mono g1.tp,g1.seq hS,hgr hh,adr a5,ok.2.2,λ t2 H2 g2 R2=>?_⟩
   exact ⟨t1,t2,_,_,rfl,R1.mono g2,R2,Hr ok.2.1 (adl a5) false,Hr ok.2.2 (adr a5) false,λ t H3 g3 R3=>q _ _ ((g1.trans g2).trans g3) R3⟩
  | some b =>
   refine Bj ?_
   refine ⟨_,rfl,_,rfl,a,_,_,_,rfl,rfl,hs.sq,Ai (j:=1) rfl,kl,_,_,_,rfl,rfl,hS,ea,b,rfl,?_⟩
   cases b with
   | true=>exact Bs ⟨_,rfl,a,_,_,_,rfl,rfl,hs.sq,Ai (j:=2) rfl,_,rfl,_,rfl,x2,p1,sr,kl,kn,rfl,h2,hS,hgl hh,adl a5,ok.2.1,λ t1 H1 g1 R1=>q _ _ g1 R1⟩
   | false=>exact Bj ⟨_,rfl,a,_,_,_,rfl,rfl,hs.sq,Ai (j:=3) rfl,_,rfl,_,rfl,x3,p2,sr,kl,kn,rfl,h3,hS,hgr hh,adr a5,ok.2.2,λ t1 H1 g1 R1=>q _ _ g1 R1⟩
 ·obtain ⟨k,p1,rfl⟩:=Xb e
  obtain ⟨a',a6,ev,hs,hx⟩:=PAt.get hp
  cases ev
  obtain ⟨x0,x1,x2,rfl,h0,h1,h2⟩:=hx.three
  cases h0.str
  cases h1.int
  refine ⟨_,rfl,a,_,_,_,rfl,rfl,hs.sq,Ai (j:=2) rfl,_,rfl,_,rfl,x2,p1,sr,kl,kn,rfl,h2,hS,le_of_succ_le_succ hh,a5,ok,λ t1 H1 g1 R1=>?_⟩
  obtain ⟨l1,l2,l3,a1,a2,a3,a4⟩:=id R1
  have sm:=Hr (kn:=kn) (p:=p1) ok a5 sr
  refine ⟨_,rfl,_,rfl,t1,_,_,_,rfl,rfl,SqT.of a1,Ai (j:=0) rfl,l1,rfl,⟨_,SqL.of a2⟩,Fs (K:=K) (xs:=(Bh kn sr p1).1.map V.int) (λ i ys H'=>H' = H1∧ys = (((Bh kn sr p1).1.take i).map agC).map V.int) ⟨rfl,rfl⟩ (by rw [uD]; exact B9 (Aa6 sm.1 (by decide))) (λ i ys H' ⟨e,_⟩=>by rw [e]; exact SqL.of a2) ?_ ?_⟩
  ·rintro j z ys H' N hj ⟨rfl,rfl⟩ hN a7
   rw [uJ] at hj
   cases ej:(Bh kn sr p1).1[j]? with
   | none=>rw [ej] at hj; cases hj
   | some c =>
    rw [ej] at hj
    cases hj
    refine ⟨_,rfl,c,rfl,hN _ _ ?_ ⟨rfl,?_⟩⟩
    ·exact R4 a7
    ·rw [take_add_one,ej,uP,uP]; rfl
  ·rintro ys H' a7 ⟨rfl,rfl⟩ D hD
   have g2:=Ah hD (.lst ((((Bh kn sr p1).1.take ((Bh kn sr p1).1.map V.int).length).map agC).map V.int))
   have a8:(upd H' D (.lst ((((Bh kn sr p1).1.take ((Bh kn sr p1).1.map V.int).length).map agC).map V.int))) D = some (.lst (((Bh kn sr p1).1.map agC).map V.int)):=by rw [Ae,uD,take_length]
   exact ⟨t1,D,_,_,rfl,R1.mono g2,a8,by rw [uD]; exact sm.1,λ t H3 g3 R3=>q _ _ ((g1.trans g2).trans g3) R3⟩
 ·exact (Jl (by decide +kernel) e).elim
 ·exact (Jl (by decide +kernel) e).elim
 ·exact (Jl (by decide +kernel) e).elim
 ·have lf:=Zq n1 n2 n3 n4 n5 n6 n7
  exact ⟨_,rfl,_,rfl,_,p,sr,rfl,hp,lf,λ t1 H1 g1 R1=>q _ _ g1 (by rw [Abr lf kn [] sr]; exact R1)⟩
theorem AbU (F:Gf K mg "begun_walking" "begun" ["part", "sure", "known"] De) (T:Cj K mg aN aP aR uE uR uL) (C1:Am P w K mg base 2 "begun_leaf_walking" ["part", "sure"] (Rm K)) (C2:Am P w K mg base 1 "in_turn_walking" ["first", "second"] Se) (C3:Am P w K mg base 1 "side_by_side_walking" ["first", "second"] Si) (C4:Am P w K mg base 1 "one_of" ["first", "second"] U5) (C5:Am P w K mg base 1 "recoded" ["inner", "codes"] Wd)
  (C6:Am P w K mg base 1 "code_of_again" ["code"] Qb) (C7:Am P w K mg base 1 "code_of_trap" ["code"] Ou):∀ n,Am P w K mg base (n + 2) "begun_walking" ["part", "sure", "known"] (Wp K n)
 | 0=>(F.zero (sp:=Wp K 0) λ vs H Q E h=>by obtain ⟨v,p,sr,kl,kn,_,_,_,hh,_⟩:=h; exact absurd hh (Nat.not_le_of_gt (Pt.hg_pos p))).mono (by decide)
 | n + 1=>AhA F T C1 C2 C3 C4 C5 C6 C7 (AbU F T C1 C2 C3 C4 C5 C6 C7 n)
theorem Ads (F:Bd K mg "walked" ["part", "state", "sure", "known"] P5) (T:Cj K mg aN aP aR uE uR uL) (bG:Am P w K mg base (n + 3) "part_to_begin" ["part", "state"] (AaH K n)) (aA:Am P w K mg base (n + 2) "begun_walking" ["part", "sure", "known"] (Wp K n)) :
  Am P w K mg base (n + 4) "walked" ["part", "state", "sure", "known"] (Rq K n):=by
 refine F.ok T6 (λ vs H Q E h=>?_) (λ f cdv A outer s H vs Q E hr h=>?_)
 ·obtain ⟨v,p,sv,st,sr,kl,kn,rfl,_⟩:=h; rfl
 obtain ⟨v,p,sv,st,sr,kl,kn,rfl,hp,a8,hS,hb,k1,k2,ok,q⟩:=h
 refine ⟨_,(Ac (As (i:=4) T6.nd rfl (Or.inl rfl) (Ap aA hr rfl Av (Aa (Ap bG hr rfl Av (Aa (pv 0) (Aa (pv 1) Ab))) (Aa (pv 2) (Aa (pv 3) Ab)))))
  (Ag (Aq (Bg (Aa (An Ak (pv 4) Af (λ _ _=>rfl)) (Aa (An Ak (pv 4) Af (λ _ _=>rfl)) (Aa (Gi rfl rfl T.n_sorted rfl T.n_set (An Ak (pv 4) Af (λ _ _=>rfl))) (Aa (Gi rfl rfl T.n_sorted rfl T.n_set (An Ak (pv 4) Af (λ _ _=>rfl))) Ab)))))))),?_⟩
 refine ⟨_,rfl,_,rfl,v,p,sv,st,rfl,hp,a8,hb,λ v1 H1 g1 P1=>?_⟩
 refine ⟨_,rfl,_,rfl,v1,pb p st,sr,kl,kn,rfl,P1,g1.seq hS,k1,lt9 k2,Xk ok st,λ t H2 g2 ⟨l1,l2,l3,a1,a2,a3,a4⟩=>?_⟩
 have wl:=Ps kn (pb p st) sr
 refine ⟨_,rfl,t,_,_,_,rfl,rfl,SqT.of a1,Ai (j:=0) rfl,_,rfl,t,_,_,_,rfl,rfl,SqT.of a1,Ai (j:=1) rfl,_,rfl,t,_,_,_,rfl,rfl,SqT.of a1,Ai (j:=2) rfl,l2,_,rfl,SqL.of a3,vA wl.1 k2,λ r1 a7=>?_⟩
 have g3:=Ah a7 (.lst ((nub (Bh kn sr (pb p st)).2.2.1).map V.int))
 refine ⟨_,rfl,t,_,_,_,rfl,rfl,SqT.of (g3 _ _ a1),Ai (j:=3) rfl,l3,_,rfl,SqL.of (g3 _ _ a4),vA wl.2 k2,λ r2 a5=>?_⟩
 have g4:=Ah a5 (.lst ((nub (Bh kn sr (pb p st)).2.2.2).map V.int))
 refine ⟨zN4,λ t2 a6=>?_⟩
 have g5:=Ah a6 (.tup [.ref l1,.bl (Bh kn sr (pb p st)).2.1,.ref r1,.ref r2])
 have gA:=(g1.trans g2).trans (g3.trans (g4.trans g5))
 have c1:=g5 _ _ (g4 _ _ (g3 _ _ a2))
 have c2:=g5 _ _ (g4 _ _ (Ae (H:=H2) (a:=r1) (o:=.lst ((nub (Bh kn sr (pb p st)).2.2.1).map V.int))))
 have c3:=g5 _ _ (Ae (H:=(upd H2 r1 (.lst ((nub (Bh kn sr (pb p st)).2.2.1).map V.int)))) (a:=r2) (o:=.lst ((nub (Bh kn sr (pb p st)).2.2.2).map V.int)))
 have ne:=(Ab5 kn (Xk ok st) sr).ne
 have f1:=(g1.trans g2).free a7
 have f2:=((g1.trans g2).trans g3).free a5
 have f3:=((g1.trans g2).trans (g3.trans g4)).free a6
 refine q _ _ gA ⟨l1,r1,r2,Ae,c1,c2,c3⟩ λ a xs ha=>⟨l1,r1,r2,Ae,c1,c2,c3,(Ay ha f3).symm,λ e=>?_,(Ay ha f1).symm,(Ay ha f2).symm⟩
 subst e
 have z:=gA _ _ ha
 rw [c1] at z
 have z:=HO.lst.inj (Option.some.inj z)
 generalize (Bh kn sr (pb p st)).1 = cs at z ne
 cases cs with
 | nil=>exact absurd ne (by simp)
 | cons c cs =>
  cases xs with
  | nil=>cases z
  | cons y ys=>cases z
theorem Aez (C:Am P w K mg base (n + 4) "walked" ["part", "state", "sure", "known"] (Rq K n)):Am P w K mg base (n + 4) "walked" ["part", "state", "sure", "known"] (Agk K n):=C.imp λ vs H Q E h=>by
 obtain ⟨v,p,sv,st,sr,kl,kn,rfl,hp,a3,hS,hh,a1,a2,ok,q⟩:=h
 have b:=AhL p st
 exact ⟨v,p,sv,st,sr,kl,kn,rfl,hp,a3,hS,.inr ⟨hh,lt9 a2⟩,uX b.1 hh,vA b.2.1 a1,ok,λ t H' g wk _=>q t H' g wk⟩
end
def okX:Pt→Prop
 | .iff _ p q=>okX p∧okX q
 | .thn p q=>okX p∧okX q
 | .bes p q=>okX p∧okX q
 | .again _ p=>okX p
 | _=>True
theorem AbI (g:Same H H') (h:Fn K H st v):Fn K H' st v:=by
 cases st with
 | none=>exact h
 | some l =>
  obtain ⟨a,e,hS⟩:=h
  exact ⟨a,e,g.seq hS⟩
inductive Ye (K:FA) (vs:List V) (H:Hp) (Q:VK):Prop
 | mk (a:Addr) (ns:List Int) (_:vs = [.ref a]) (_:SqL K H a (ns.map V.int)) (_:ns.length≤63) (_:∀ H',Q (.bl true) H'):Ye K vs H Q
def Us (K:FA):Sp:=λ vs H Q _=>Ye K vs H Q
def Lz (p:Pt) (st:Option (List Int)) (th:List Int):Dd :=
 match st with
 | none=>Aae p none th
 | some l=>if (rem l p).1 = [] then (0,[],[]) else Aae p (some l) th
def DdF (H H':Hp) (t:Addr) (d:Dd):Prop:=∃ l1 l2,H' t = some (.tup [.int d.1,.ref l1,.ref l2])∧H' l1 = some (.lst (d.2.1.map V.int))∧H' l2 = some (.lst (d.2.2.map V.int))∧H l1 = none∧H l2 = none
inductive Vu (K:FA) (n:Nat) (vs:List V) (H:Hp) (Q:VK):Prop
 | mk (v:_) (p) (th) (ns) (_:vs = [v,.non,.ref th]) (_:PAt K H (Pt.nd p) v) (_:SqL K H th ((ns:List Int).map V.int)) (_:p.hg≤n) (_:p.sc < 64) (_:p.lc < 64) (_:∀ t H',Same H H'→DdF H H' t ((beg ns p).1,nub (beg ns p).2.1,Lw (beg ns p).2.2)→Q (.ref t) H'):Vu K n vs H Q
def AbW (K:FA) (n:Nat):Sp:=λ vs H Q _=>Vu K n vs H Q
def Lx (p:Pt):Option (List Int)→Prop
 | none=>False
 | some l=>(rem l p).1 = []
inductive Zf (K:FA) (n:Nat) (vs:List V) (H:Hp) (Q:VK):Prop
 | mk (pr) (x0) (x1) (x2) (v:_) (p) (sv) (st) (_:vs = [.ref pr,sv]) (_:SqT K H pr [x0,x1,x2,v]) (_:PAt K H (Pt.nd p) v) (_:Fn K H st sv) (_:p.hg≤n) (_:p.rc≤900) (_:∀ v' H',Same H H'→(Lx p st∧v' = .non∨¬ Lx p st∧PAt K H' (pb p st).nd v')→Q v' H'):Zf K n vs H Q
def AaO (K:FA) (n:Nat):Sp:=λ vs H Q _=>Zf K n vs H Q
inductive Xe (K:FA) (n:Nat) (vs:List V) (H:Hp) (Q:VK):Prop
 | mk (pr) (x0) (x1) (x2) (v:_) (p) (sv) (st) (th) (ns) (_:vs = [.ref pr,sv,.ref th]) (_:SqT K H pr [x0,x1,x2,v]) (_:PAt K H (Pt.nd p) v) (_:Fn K H st sv) (_:SqL K H th ((ns:List Int).map V.int)) (_:p.hg≤n) (_:p.sc < 64) (_:p.rc < 64) (_:∀ t H',Same H H'→DdF H H' t (Lz p st ns)→Q (.ref t) H'):Xe K n vs H Q
def Vh (K:FA) (n:Nat):Sp:=λ vs H Q _=>Xe K n vs H Q
theorem Tn :(Lx p st→Lz p st th = (0,[],[]))∧(¬ Lx p st→Lz p st th = Aae p st th):=by
 cases st with
 | none=>exact ⟨λ z=>z.elim,λ _=>rfl⟩
 | some l=>exact ⟨λ z=>if_pos z,λ z=>if_neg z⟩
section
variable {aN aP aR:Addr} {uE uR uL:Value}
theorem Ae3 (C:Am P w K mg base (n + 4) "ran" ["part", "state", "there"] (Abm K n)):Am P w K mg base (n + 4) "ran" ["part", "state", "there"] (AbW K n):=C.imp λ vs H Q E h=>by
 obtain ⟨v,p,th,ns,rfl,hp,hS,hh,a5,a4,q⟩:=h
 refine ⟨v,p,.non,none,th,ns,rfl,hp,rfl,hS,.inl rfl,hh,a5,a4,λ t H' g R=>q t H' g ?_⟩
 obtain ⟨l1,l2,a1,a2,a3,f1,f2,_⟩:=R
 exact ⟨l1,l2,a1,a2,a3,f1,f2⟩
theorem Afu (F:Bd K mg "body_to_begin" ["program", "state"] He) (T:Cj K mg aN aP aR uE uR uL) (aW:Am P w K mg base (n + 2) "remaining" ["part", "state"] (Oq K n)) :
  Am P w K mg base (n + 3) "body_to_begin" ["program", "state"] (AaO K n):=by
 refine F.ok Jw (λ vs H Q E h=>?_) (λ f cdv A outer s H vs Q E hr h=>?_)
 ·obtain ⟨pr,x0,x1,x2,v,p,sv,st,rfl,_⟩:=h; rfl
 obtain ⟨pr,x0,x1,x2,v,p,sv,st,rfl,a4,hp,hS,hh,hc,q⟩:=h
 refine ⟨_,(Ac (Ax (Ao J4 (pv 1) Ce (Aw _))
   (Ag (Aq (An Ak (pv 0) Af (λ _ _=>rfl))))
   Au)
  (Ac (As (i:=2) Jw.nd rfl (Or.inl rfl) (Ap aW hr rfl Av (Aa (An Ak (pv 0) Af (λ _ _=>rfl)) (Aa (pv 1) Ab))))
  (Ag (Aq (Bu (Ch (An Ak (pv 2) Af (λ _ _=>rfl)) (λ _=>rfl)) (An Ak (pv 2) Af (λ _ _=>rfl)) Ce))))),?_⟩
 cases st with
 | none =>
  have e:=hS
  subst e
  exact ⟨_,rfl,rfl,_,rfl,Bs ⟨_,rfl,pr,_,_,_,rfl,rfl,a4,Ai (j:=3) rfl,q _ _ (Same.refl _) (.inr ⟨λ z=>z,hp⟩)⟩⟩
 | some ns =>
  obtain ⟨a,rfl,hS⟩:=hS
  refine ⟨_,rfl,rfl,_,rfl,Bj ⟨_,rfl,pr,_,_,_,rfl,rfl,a4,Ai (j:=3) rfl,_,rfl,v,p,a,ns,rfl,hp,hS,hh,hc,λ t H1 g1 ⟨l,v1,a1,a2,a3⟩=>?_⟩⟩
  refine ⟨_,rfl,t,_,_,_,rfl,rfl,SqT.of a1,Ai (j:=0) rfl,_,.inl ⟨_,SqL.of a2,rfl⟩,L4 (λ c=>?_) λ c=>?_⟩
  ·exact ⟨_,rfl,t,_,_,_,rfl,rfl,SqT.of a1,Ai (j:=1) rfl,q _ _ g1 (.inr ⟨c,a3⟩)⟩
  ·exact q _ _ g1 (.inl ⟨c,rfl⟩)
theorem AfI (F:Bd K mg "instant" ["program", "state", "there"] Ob) (T:Cj K mg aN aP aR uE uR uL) (bH:Am P w K mg base (n + 3) "body_to_begin" ["program", "state"] (AaO K n)) (eV:Am P w K mg base (n + 4) "ran" ["part", "state", "there"] (AbW K n)) :
  Am P w K mg base (n + 5) "instant" ["program", "state", "there"] (Vh K n):=by
 refine F.ok Qp (λ vs H Q E h=>?_) (λ f cdv A outer s H vs Q E hr h=>?_)
 ·obtain ⟨pr,x0,x1,x2,v,p,sv,st,th,ns,rfl,_⟩:=h; rfl
 obtain ⟨pr,x0,x1,x2,v,p,sv,st,th,ns,rfl,a7,hp,a8,hS,hh,a9,b6,q⟩:=h
 refine ⟨_,(Ac (As (i:=3) Qp.nd rfl (Or.inl rfl) (Ap bH hr rfl Av (Aa (pv 0) (Aa (pv 1) Ab))))
  (Ac (Ax (Ao J4 (pv 3) Ce (Aw _))
   (Ag (Aq (Bg (Aa (Bb rfl T.m_ENDED T.r_ENDED) (Aa (Ba Ab) (Aa (Ba Ab) Ab))))))
   Au)
  (Ag (Aq (Ap eV hr rfl Av (Aa (pv 3) (Aa Ce (Aa (pv 2) Ab)))))))),?_⟩
 refine ⟨_,rfl,_,rfl,pr,x0,x1,x2,v,p,sv,st,rfl,a7,hp,a8,hh,by omega,λ v1 H1 g1 hv=>?_⟩
 rcases hv with ⟨ov,rfl⟩ | ⟨ov,P1⟩
 ·refine ⟨_,rfl,rfl,_,rfl,Bs ⟨zN0,λ y1 a4=>⟨zN0,λ y2 a5=>⟨zN3,λ y3 a6=>?_⟩⟩⟩⟩
  obtain ⟨kx,n1,n2,n3⟩:=Af6 (a:=.lst []) (b:=.lst []) (c:=.tup [.int 0,.ref y1,.ref y2]) a4 a5 a6
  exact q _ _ (g1.trans kx) (by rw [Tn.1 ov]; exact ⟨y1,y2,n3,n1,n2,g1.free a4,(g1.trans (Ah a4 _)).free a5⟩)
 ·have k1:(pb p st).hg≤p.hg:=by cases st with | none=>exact uY _ | some l=>exact Vw l p
  have k2:(pb p st).sc≤p.sc:=by cases st with | none=>exact uY _ | some l=>exact Xy l p
  have k3:(pb p st).lc≤p.rc:=by cases st with | none=>exact Pt.lc_rc p | some l=>exact Abl l p
  obtain ⟨a1,e1⟩:∃ a,v1 = .ref a:=by
   generalize pb p st = p' at P1
   cases p' <;> (obtain ⟨a,vs,e,_⟩:=PAt.get P1; exact ⟨a,e⟩)
  subst e1
  refine ⟨_,rfl,rfl,_,rfl,Bj ⟨_,rfl,_,rfl,.ref a1,pb p st,th,ns,rfl,P1,g1.seq hS,by omega,by omega,by omega,λ t H2 g2 R2=>q _ _ (g1.trans g2) ?_⟩⟩
  rw [Tn.2 ov]
  obtain ⟨l1,l2,a1,a2,a3,f1,f2⟩:=R2
  exact ⟨l1,l2,a1,a2,a3,g1.free f1,g1.free f2⟩
def mcB (kn:List (Option Bool)):Option Pt→List Int× List Int
 | none=>([],[])
 | some b=>((Oe kn true b none).2.2.1,(Oe kn true b none).2.2.2)
def okB (sg:Int):Option Pt→Prop
 | none=>True
 | some b=>okW sg b
def Dg (v:Option Bool) (kn:List (Option Bool)):List Int:=((List.range kn.length).filter (λ i=>decide ((kn[i]?).getD none = v))).map λ (i:Nat)=>(i:Int)
theorem Ade {v:Option Bool} {x:Int}:x∈Dg v kn↔(0≤x∧x < kn.length)∧(kn[x.toNat]?).getD none = v:=by
 unfold Dg
 rw [vQ]
 constructor
 ·rintro ⟨i,hi,rfl⟩
  have:=mem_filter.mp hi
  exact ⟨⟨by omega,by have:=mem_range.mp this.1; omega⟩,by rw [Int.toNat_natCast]; exact uN this.2⟩
 ·rintro ⟨⟨h0,h1⟩,h2⟩
  exact ⟨x.toNat,mem_filter.mpr ⟨mem_range.mpr (by omega),uK h2⟩,by omega⟩
def tak (kn:List (Option Bool)) (mu ca:List Int):List Int:=(Dg none kn).filter (λ s=>decide (s∈mu) || !decide (s∈ca))
theorem Zg {x:Int}:x∈tak kn mu ca↔((0≤x∧x < kn.length)∧(kn[x.toNat]?).getD none = none)∧(x∈mu∨¬ x∈ca):=by
 unfold tak
 rw [mem_filter,Ade]
 simp
def chg (kn:List (Option Bool)) (mu ca:List Int):List (Int× Bool):=(tak kn mu ca).map λ s=>(s,decide (s∈mu))
def F3 (kn:List (Option Bool)) (cs:List (Int× Bool)):List (Option Bool):=cs.foldl (λ k c=>k.set c.1.toNat (some c.2)) kn
theorem Jy (cs:List (Int× Bool)):∀ kn,(F3 kn cs).length = kn.length:=by
 induction cs with
 | nil=>intro kn; rfl
 | cons c r ih=>intro kn; show (F3 (kn.set c.1.toNat (some c.2)) r).length = _; rw [ih,length_set]
def stepK (o:Option Pt) (kn:List (Option Bool)):List (Int× Bool):=chg kn (mcB kn o).1 (mcB kn o).2
def Cf (n:Nat) (co:List Int):List (Option Bool):=(List.range n).map λ (i:Nat)=>if (i:Int)∈co then some true else none
def rnds (o:Option Pt):Nat→List (Option Bool)→List (List (Int× Bool))
 | 0,_=>[]
 | f + 1,kn=>if stepK o kn = [] then [] else stepK o kn :: rnds o f (F3 kn (stepK o kn))
def Wu (o:Option Pt) (f:Nat) (kn:List (Option Bool)):List (Option Bool):=(rnds o f kn).foldl F3 kn
def Cv:List (Option Bool)→Nat
 | []=>0
 | none :: r=>Cv r + 1
 | some _ :: r=>Cv r
theorem M7:∀ kn:List (Option Bool),Cv kn≤kn.length
 | []=>uY _
 | none :: r=>by have:=M7 r; simp only [Cv,uU]; omega
 | some _ :: r=>by have:=M7 r; simp only [Cv,uU]; omega
theorem Kr (b:Bool):∀ (kn:List (Option Bool)) (i:Nat),Cv (kn.set i (some b))≤Cv kn∧(kn[i]? = some none→Cv (kn.set i (some b)) < Cv kn)
 | [],i=>⟨uY _,λ z=>by simp at z⟩
 | none :: r,0=>⟨by simp only [set_cons_zero,Cv]; omega,λ _=>by simp only [set_cons_zero,Cv]; omega⟩
 | some c :: r,0=>⟨by simp only [set_cons_zero,Cv]; omega,λ z=>by simp at z⟩
 | none :: r,i + 1=>by
  have:=Kr b r i
  refine ⟨by simp only [set_cons_succ,Cv]; omega,λ z=>?_⟩
  have:=this.2 (by simpa using z)
  simp only [set_cons_succ,Cv]; omega
 | some c :: r,i + 1=>by
  have:=Kr b r i
  refine ⟨by simp only [set_cons_succ,Cv]; omega,λ z=>?_⟩
  have:=this.2 (by simpa using z)
  simp only [set_cons_succ,Cv]; omega
theorem S5:∀ (cs:List (Int× Bool)) (kn:List (Option Bool)),Cv (F3 kn cs)≤Cv kn
 | [],kn=>uY _
 | c :: r,kn=>uX (S5 r _) (Kr c.2 kn c.1.toNat).1
theorem AaX (h:¬ stepK o kn = []):Cv (F3 kn (stepK o kn)) < Cv kn:=by
 cases e:stepK o kn with
 | nil=>exact absurd e h
 | cons c r =>
  have hc:c∈stepK o kn:=by rw [e]; exact uH
  obtain ⟨s,hs,ec⟩:=vQ.mp hc
  have m:=(Zg.mp hs).1
  refine vA (S5 r _) ((Kr c.2 kn c.1.toNat).2 ?_)
  subst ec
  show kn[s.toNat]? = some none
  have hl:s.toNat < kn.length:=by have:=m.1; omega
  rw [uC hl]
  have:=m.2
  rw [uC hl] at this
  exact congrArg some this
def Jj (p:Pt) (st:Option (List Int)):Option Pt :=
 match st with
 | none=>some p
 | some l=>if (rem l p).1 = [] then none else some (rem l p).2
theorem Jk :(Lx p st→Jj p st = none)∧(¬ Lx p st→Jj p st = some (pb p st)):=by
 cases st with
 | none=>exact ⟨λ z=>z.elim,λ _=>rfl⟩
 | some l=>exact ⟨λ z=>if_pos z,λ z=>if_neg z⟩
theorem AdC (h:okW sg p) (st:Option (List Int)):okB sg (Jj p st):=by
 by_cases z:Lx p st
 ·rw [Jk.1 z]; exact trivial
 ·rw [Jk.2 z]; exact Xk h st
def chV (p:Addr× (Int× Bool)):V:=.ref p.1
def Gz (H:Hp) (a:Addr) (cs:List (Int× Bool)):Prop:=∃ its:List (Addr× (Int× Bool)),H a = some (.lst (its.map chV))∧its.map Prod.snd = cs∧∀ p∈its,H p.1 = some (.tup [.int p.2.1,.bl p.2.2])
theorem Gz.mono (h:Gz H a cs) (g:Same H H'):Gz H' a cs:=by
 obtain ⟨a1,h1,h2,h3⟩:=h
 exact ⟨a1,g _ _ h1,h2,λ p hp=>g _ _ (h3 p hp)⟩
theorem Gz.off (h:Gz H a cs) (n:a≠r) (hr:H r = some (.lst xs)):Gz (upd H r (.lst ys)) a cs:=by
 obtain ⟨a1,h1,h2,h3⟩:=h
 refine ⟨a1,by rw [upd_ne n]; exact h1,h2,λ p hp=>?_⟩
 have:=h3 p hp
 rw [upd_ne (λ z=>by rw [z,hr] at this; cases this)]
 exact this
def rdV (p:Addr× List (Int× Bool)):V:=.ref p.1
def AiD (H:Hp) (a:Addr) (css:List (List (Int× Bool))):Prop:=∃ its:List (Addr× List (Int× Bool)),H a = some (.lst (its.map rdV))∧its.map Prod.snd = css∧∀ p∈its,Gz H p.1 p.2
structure K7 (K:FA) (H:Hp) (pr:Addr) (n:Nat) (p:Pt):Prop where
 pa:∃ x0 x1 v,H pr = some (.tup [x0,x1,.int n,v])∧PAt K H (Pt.nd p) v
 hg:p.hg≤40
 sc:p.sc≤40
 rc:p.rc≤40
 ok:okW n p
 nb:n≤30
theorem K7.mono (h:K7 K H pr n p) (g:Same H H'):K7 K H' pr n p:=by
 obtain ⟨⟨x0,x1,v,e,a⟩,h1,h2,h3,h4,h5⟩:=h
 exact ⟨⟨x0,x1,v,g _ _ e,a.mono g.tp⟩,h1,h2,h3,h4,h5⟩
def OBd (K:FA) (H:Hp):Option Pt→V→Prop
 | none,v=>v = .non
 | some b,v=>PAt K H b.nd v∧b.hg≤40∧b.sc < 64
theorem OBd.mono (h:OBd K H o v) (g:Same H H'):OBd K H' o v:=by
 cases o with
 | none=>exact h
 | some b=>exact ⟨h.1.mono g.tp,h.2⟩
inductive Ta (K:FA) (n:Nat) (vs:List V) (H:Hp) (Q:VK):Prop
 | mk (v:_) (p) (s) (kl) (kn) (_:vs = [v,.non,.bl s,.ref kl]) (_:PAt K H (Pt.nd p) v) (_:SqL K H kl ((kn:List (Option Bool)).map vO)) (_:p.hg≤n) (_:p.sc < 64) (_:okW kn.length p) (_:∀ t H',Same H H'→D3 H' t (Oe kn s p none)→Q (.ref t) H'):Ta K n vs H Q
def Z0 (K:FA) (n:Nat):Sp:=λ vs H Q _=>Ta K n vs H Q
inductive Sx (K:FA) (vs:List V) (H:Hp) (Q:VK):Prop
 | mk (pr) (co) (n:_) (p) (cs) (_:vs = [.ref pr,.ref co]) (_:K7 K H pr n p) (_:SqL K H co ((cs:List Int).map V.int)) (_:∀ r H',Same H H'→H r = none→H' r = some (.lst ((Cf n cs).map vO))→Q (.ref r) H'):Sx K vs H Q
def Rv (K:FA):Sp:=λ vs H Q _=>Sx K vs H Q
inductive Yd (K:FA) (vs:List V) (H:Hp) (Q:VK):Prop
 | mk (v:_) (kl) (kn) (_:vs = [vO v,.ref kl]) (_:SqL K H kl ((kn:List (Option Bool)).map vO)) (_:kn.length≤30) (_:∀ r H',Same H H'→H r = none→H' r = some (.lst ((Dg v kn).map V.int))→Q (.ref r) H'):Yd K vs H Q
def Uw (K:FA):Sp:=λ vs H Q _=>Yd K vs H Q
inductive Yh (K:FA) (vs:List V) (H:Hp) (Q:VK):Prop
 | mk (bv) (o) (kl) (kn) (_:vs = [bv,.ref kl]) (_:OBd K H o bv) (_:SqL K H kl ((kn:List (Option Bool)).map vO)) (_:kn.length≤30) (_:okB kn.length o) (_:∀ r H',Same H H'→H r = none→Gz H' r (stepK o kn)→Q (.ref r) H'):Yh K vs H Q
def AeR (K:FA):Sp:=λ vs H Q _=>Yh K vs H Q
inductive Z1 (K:FA) (vs:List V) (H:Hp) (Q:VK):Prop
 | mk (kl) (c) (kn) (cs) (_:vs = [.ref kl,.ref c]) (_:SqL K H kl ((kn:List (Option Bool)).map vO)) (_:Gz H c cs) (_:(∀ x∈cs,0≤x.1∧x.1 < kn.length)) (_:cs.length≤60) (_:kn.length≤30) (_:∀ r H',Same H H'→H r = none→H' r = some (.lst ((F3 kn cs).map vO))→Q (.ref r) H'):Z1 K vs H Q
def Aav (K:FA):Sp:=λ vs H Q _=>Z1 K vs H Q
inductive Ym (K:FA) (vs:List V) (H:Hp) (Q:VK):Prop
 | mk (pr) (sv) (co) (n:_) (p) (st) (cs) (_:vs = [.ref pr,sv,.ref co]) (_:K7 K H pr n p) (_:Fn K H st sv) (_:SqL K H co ((cs:List Int).map V.int)) (_:∀ r H',Same H H'→AiD H' r (rnds (Jj p st) (n + 1) (Cf n cs))→Q (.ref r) H'):Ym K vs H Q
def AeJ (K:FA):Sp:=λ vs H Q _=>Ym K vs H Q
inductive Z6 (K:FA) (vs:List V) (H:Hp) (Q:VK):Prop
 | mk (pr) (sv) (co) (n:_) (p) (st) (cs) (_:vs = [.ref pr,sv,.ref co]) (_:K7 K H pr n p) (_:Fn K H st sv) (_:SqL K H co ((cs:List Int).map V.int)) (_:∀ r H',Same H H'→H' r = some (.lst ((Wu (Jj p st) (n + 1) (Cf n cs)).map vO))→Q (.ref r) H'):Z6 K vs H Q
def Aah (K:FA):Sp:=λ vs H Q _=>Z6 K vs H Q
theorem Po (v:Option Bool) (kn:List (Option Bool)):(Dg v kn).length≤kn.length:=by
 unfold Dg
 rw [uD]
 exact uX (length_filter_le _ _) (by rw [vE]; exact uY _)
theorem Xr (o:Option Pt) (kn:List (Option Bool)):(∀ x∈stepK o kn,0≤x.1∧x.1 < kn.length)∧(stepK o kn).length≤kn.length:=by
 constructor
 ·intro x hx
  obtain ⟨s,hs,rfl⟩:=vQ.mp hx
  exact (Zg.mp hs).1.1
 ·unfold stepK chg tak
  rw [uD]
  exact uX (length_filter_le _ _) (Po _ _)
theorem Z5 (o:Option Pt):∀ (f:Nat) (kn:List (Option Bool)),∀ cs∈rnds o f kn,(∀ x∈cs,0≤x.1∧x.1 < kn.length)∧cs.length≤kn.length
 | 0,kn,cs,h=>by cases h
 | f + 1,kn,cs,h=>by
  simp only [rnds] at h
  split at h
  ·cases h
  ·rcases vI.mp h with rfl | h
   ·exact Xr o kn
   ·have:=Z5 o f _ cs h
    rw [Jy] at this
    exact this
theorem Uf:∀ (a1:List (List (Int× Bool))) (kn:List (Option Bool)),(a1.foldl F3 kn).length = kn.length
 | [],kn=>rfl
 | c :: r,kn=>by show (r.foldl F3 (F3 kn c)).length = _; rw [Uf r,Jy]
theorem AhV (a b:Option Bool):decide (vO a = vO b) = decide (a = b):=by
 cases a with
 | none=>cases b with
  | none=>rfl
  | some y=>rfl
 | some x=>cases b with
  | none=>rfl
  | some y=>cases x <;> cases y <;> rfl
theorem AfD (a b:Option Bool):Adp (vO a) (vO b) = true:=by cases a <;> cases b <;> rfl
theorem Acj (v:Option Bool) (kn:List (Option Bool)) (j:Nat) (o:Option Bool) (h:kn[j]? = some o):((List.range (j + 1)).filter (λ i=>decide ((kn[i]?).getD none = v))).map (λ (i:Nat)=>(i:Int)) = if decide (o = v) = true then ((List.range j).filter (λ i=>decide ((kn[i]?).getD none = v))).map (λ (i:Nat)=>(i:Int)) ++ [(j:Int)] else ((List.range j).filter (λ i=>decide ((kn[i]?).getD none = v))).map (λ (i:Nat)=>(i:Int)):=by
 rw [range_succ,vJ,uP]
 by_cases z:o = v
 ·rw [if_pos (uK z),filter_cons_of_pos (by rw [h]; exact uK z)]; rfl
 ·rw [if_neg (λ y=>z (uN y)),filter_cons_of_neg (by rw [h]; exact λ y=>z (uN y))]; simp
theorem Ad9 (C:Am P w K mg base (n + 4) "walked" ["part", "state", "sure", "known"] (Rq K n)):Am P w K mg base (n + 4) "walked" ["part", "state", "sure", "known"] (Z0 K n):=C.imp λ vs H Q E h=>by
 obtain ⟨v,p,sr,kl,kn,rfl,hp,hS,hh,a1,ok,q⟩:=h
 exact ⟨v,p,.non,none,sr,kl,kn,rfl,hp,rfl,hS,.inl rfl,hh,a1,ok,λ t H' g wk _=>q t H' g wk⟩
theorem AdZ (F:Bd K mg "known_at_first" ["program", "coming"] Ey) (T:Txt mg):Am P w K mg base 1 "known_at_first" ["program", "coming"] (Rv K):=by
 refine F.ok O3 (λ vs H Q E h=>?_) (λ f cdv A outer s H vs Q E hr h=>?_)
 ·obtain ⟨pr,co,n,p,cs,rfl,_⟩:=h; rfl
 obtain ⟨pr,co,n,p,cs,rfl,pg,hS,q⟩:=h
 obtain ⟨x0,x1,v,a1,_⟩:=pg.pa
 have nb:=pg.nb
 refine ⟨_,(Ag (Aq (Fw (g:=(Cg 0)) (tc:=Gj) (te:=(tIf (Km (tOp (rIn K false) (Bl 0) (Bl 1))) (tC (.bl true)) (tC .non))) ["sign"] [("coming", 1)] rfl (Ei (Aj Ey) ["program", "coming"] (by decide +kernel)) (Ko rfl T.n_range (Aa (An Ak (pv 0) Af (λ _ _=>rfl)) Ab)) (λ s2 H2 fp cl C=>Bn (i:=0) (show Nodup [("sign" : Str),("coming" : Str)] from by decide +kernel) rfl (Or.inl rfl)) (Cr (by decide)) (λ s2 H2 fp cl C=>Hk) (λ s2 H2 fp cl C=>(Bu (Ao Bw (pv 0) (pv 1) (by rfl)) Dy Ce))))),?_⟩
 refine ⟨_,rfl,pr,_,_,_,rfl,rfl,SqT.of a1,Ai (j:=2) rfl,_,rfl,by omega,by omega,?_⟩
 dsimp only
 rw [Int.toNat_natCast]
 refine Q9 (n:=n) (λ i ys H'=>H' = H∧ys = (Cf i cs).map vO) ⟨rfl,rfl⟩ (B9 (by omega)) ?_ ?_
 ·rintro i ys H' N hi ⟨rfl,rfl⟩ hN a2
  have es:Cf (i + 1) cs = Cf i cs ++ [if (i:Int)∈cs then some true else none]:=by unfold Cf; rw [range_succ,uP]; rfl
  refine ⟨_,rfl,_,rfl,co,_,rfl,.inl hS,rfl,Ck _,_,rfl,Vq (λ c=>?_) λ c=>?_⟩
  ·rw [Int.zero_add] at c
   exact hN _ _ (by rw [uF,uG]; omega) ⟨rfl,by rw [es,if_pos c,uP]; rfl⟩
  ·rw [Int.zero_add] at c
   exact hN _ _ (by rw [uF,uG]; omega) ⟨rfl,by rw [es,if_neg c,uP]; rfl⟩
 ·rintro ys H' a2 ⟨rfl,rfl⟩ D hD
  exact q D _ (Ah hD _) hD Ae
theorem Wl (F:Bd K mg "signs_that_are" ["value", "known"] Dx) (T:Txt mg):Am P w K mg base 1 "signs_that_are" ["value", "known"] (Uw K):=by
 refine F.ok O2 (λ vs H Q E h=>?_) (λ f cdv A outer s H vs Q E hr h=>?_)
 ·obtain ⟨v,kl,kn,rfl,_⟩:=h; rfl
 obtain ⟨v,kl,kn,rfl,hS,ln,q⟩:=h
 refine ⟨_,(Ag (Aq (Fw (g:=(Aa4 K 2 (Md (Cg 0) (Md (Cg 1) AaY)))) (tc:=(Km (tOp rEq (Bl 1) (Bl 2)))) (te:=(Bl 0)) ["sign", "one"] [("value", 0)] rfl (Ei (Aj Dx) ["value", "known"] (by decide +kernel)) (Zn rfl T.n_enumerate (Aa (pv 1) Ab)) (λ s2 H2 fp cl C=>Vd rfl (Hj (Bn (i:=0) (show Nodup [("sign" : Str),("one" : Str),("value" : Str)] from by decide +kernel) rfl (Or.inl rfl)) (Hj (Bn (i:=1) (show Nodup [("sign" : Str),("one" : Str),("value" : Str)] from by decide +kernel) rfl (Or.inl rfl)) Sd))) (Rb (by decide) (by decide)) (λ s2 H2 fp cl C=>Jq (Ao A6 (pv 1) (pv 2) (Aw _))) (λ s2 H2 fp cl C=>(pv 0))))),?_⟩
 refine ⟨_,rfl,kl,rfl,⟨_,hS⟩,?_⟩
 refine Aba (K:=K) (xs:=kn.map vO) (λ i ys H'=>Same H H'∧ys = (((List.range i).filter (λ i=>decide ((kn[i]?).getD none = v))).map λ (i:Nat)=>(i:Int)).map V.int) ⟨Same.refl _,rfl⟩ (by rw [uD]; exact B9 (by omega)) (λ i ys H' ⟨g,_⟩=>g.seq hS) ?_ ?_
 ·rintro i x Tt ys H' Nx hi ⟨gx,rfl⟩ hT hN a1
  rw [uJ] at hi
  cases e:kn[i]? with
  | none=>rw [e] at hi; cases hi
  | some o =>
   rw [e] at hi
   cases hi
   have gT:=Ah hT (.tup [.int i,vO o])
   have et:=Acj v kn i o e
   refine ⟨Tt,_,rfl,SqT.of Ae,rfl,_,_,rfl,_,_,rfl,rfl,?_⟩
   refine ⟨_,rfl,_,rfl,AfD o v,_,rfl,?_⟩
   rw [AhV]
   refine K6 (λ c=>?_) (λ c=>?_)
   ·exact ⟨_,rfl,hN _ _ (by rw [uF,uG]; omega) ⟨gx.trans gT,by rw [et,if_pos c,uP]; rfl⟩⟩
   ·exact hN _ _ (by omega) ⟨gx.trans gT,by rw [et,if_neg c]⟩
 ·rintro ys H' a1 ⟨gx,rfl⟩ D hD
  refine q D _ (gx.trans (Ah hD _)) (gx.free hD) ?_
  rw [Ae,uD]
  rfl
theorem AgA (F:Bd K mg "known_behind" ["known", "changes"] Hy) (T:Txt mg):Am P w K mg base 1 "known_behind" ["known", "changes"] (Aav K):=by
 refine F.ok Gq (λ vs H Q E h=>?_) (λ f cdv A outer s H vs Q E hr h=>?_)
 ·obtain ⟨kl,c,kn,cs,rfl,_⟩:=h; rfl
 obtain ⟨kl,c,kn,cs,rfl,hS,⟨a1,hc,ec,al⟩,bd,lc,ln,q⟩:=h
 refine ⟨_,(Ac (As (i:=2) Gq.nd rfl (Or.inl rfl) (Kq J2 rfl T.n_list (by decide +kernel) (Aa (pv 0) Ab)))
  (Ac (Fk PassesOwn.never rfl (Dm (pv 1)) (Bn (i:=3) Gq.nd rfl (Or.inl rfl))
   (Ag (AgI (An Ak (pv 3) Af (λ _ _=>rfl)) (AgT (pv 2) (An Ak (pv 3) Af (λ _ _=>rfl)) AdK))))
  (Ag (Aq (pv 2))))),?_⟩
 refine ⟨_,rfl,kl,_,rfl,.inl hS,λ b hb=>?_⟩
 have nc:=Ay hc hb
 refine ⟨_,rfl,c,rfl,⟨_,SqL.of (Ah hb _ _ _ hc)⟩,Hm (K:=K) (a:=c) (xs:=a1.map chV) (D:={ nx:=Aas (Bl 2) { nx:=λ x H'=>Q V.non H',rt:=Q },rt:=Q }) (λ i σ H'=>∃ x3:Option V,σ = [some (.ref kl),some (.ref c),some (.ref b),x3]∧Same H H'∧H' b = some (.lst ((F3 kn (cs.take i)).map vO))) ⟨none,rfl,Ah hb _,Ae⟩ (λ i σ H' _ ⟨_,_,g,_⟩=>SqL.of (g _ _ hc)) ?_ ?_⟩
 ·rintro i y σ H1 hi ⟨x3,rfl,g,hB⟩
  rw [uJ] at hi
  cases e:a1[i]? with
  | none=>rw [e] at hi; cases hi
  | some p =>
   rw [e] at hi
   cases hi
   have hp:=g _ _ (al p (uQ e))
   have ep:cs[i]? = some p.2:=by rw [← ec,uJ,e]; rfl
   have bp:=bd p.2 (uQ ep)
   have bl:(F3 kn (cs.take i)).length = kn.length:=Jy _ _
   refine ⟨_,rfl,p.1,_,_,_,rfl,rfl,SqT.of hp,Ai (j:=1) rfl,_,rfl,_,rfl,p.1,_,_,_,rfl,rfl,SqT.of hp,Ai (j:=0) rfl,b,_,_,p.2.1.toNat,rfl,rfl,hB,?_,?_⟩
   ·unfold ixN
    rw [if_pos bp.1,if_pos (by rw [uD,bl]; exact bp.2)]
   ·refine ⟨_,rfl,g.young hb _,?_⟩
    rw [Ae]
    congr 2
    rw [take_add_one,ep]
    unfold F3
    rw [foldl_append]
    show _ = List.map vO ((foldl _ kn (cs.take i)).set p.2.1.toNat (some p.2.2))
    rw [List.map_set]
    rfl
 ·rintro σ H1 ⟨x3,rfl,g,hB⟩
  have hl:(a1.map chV).length = cs.length:=by rw [uD,← ec,uD]
  rw [hl,take_length] at hB
  exact ⟨_,rfl,q b H1 g hb hB⟩
theorem Ag1 (F:Bd K mg "changes_by" ["body", "known"] Hc) (T:Txt mg) (eA:Am P w K mg base 44 "walked" ["part", "state", "sure", "known"] (Z0 K 40)) (aL:Am P w K mg base 1 "signs_that_are" ["value", "known"] (Uw K)):Am P w K mg base 45 "changes_by" ["body", "known"] (AeR K):=by
 refine F.ok Df (λ vs H Q E h=>?_) (λ f cdv A outer s H vs Q E hr h=>?_)
 ·obtain ⟨bv,o,kl,kn,rfl,_⟩:=h; rfl
 obtain ⟨bv,o,kl,kn,rfl,ob,hS,ln,ok,q⟩:=h
 refine ⟨_,(Ac (As (i:=2) Df.nd rfl (Or.inr rfl) (Ba Ab))
  (Ac (As (i:=3) Df.nd rfl (Or.inr rfl) (Ba Ab))
  (Ac (Ax (Ao Aef (pv 0) Ce (Aw _))
   (Ac (As (i:=4) Df.nd rfl (Or.inl rfl) (Ap eA hr rfl Av (Aa (pv 0) (Aa Ce (Aa Dy (Aa (pv 1) Ab))))))
  (Ac (As (i:=2) Df.nd rfl (Or.inr rfl) (An Ak (pv 4) Af (λ _ _=>rfl)))
  (Ag (As (i:=3) Df.nd rfl (Or.inr rfl) (An Ak (pv 4) Af (λ _ _=>rfl))))))
   Au)
  (Ac (As (i:=5) Df.nd rfl (Or.inl rfl) (Ap aL hr rfl Av (Aa Ce (Aa (pv 1) Ab))))
  (Ag (Aq (Fw (g:=(Cg 0)) (tc:=(tOr (Km (tOp (rIn K false) (Bl 0) (Bl 1))) (Km (tOp (rIn K true) (Bl 0) (Bl 2))))) (te:=(Wa (B3 (Bl 0) (B3 (tOp (rIn K false) (Bl 0) (Bl 1)) Dq)))) ["sign"] [("must", 2),("can", 3)] rfl (Ei (Aj Hc) ["body", "known", "must", "can", "walk", "waiting"] (by decide +kernel)) (Dm (pv 5)) (λ s2 H2 fp cl C=>Bn (i:=0) (show Nodup [("sign" : Str),("must" : Str),("can" : Str)] from by decide +kernel) rfl (Or.inl rfl)) (Cr (by decide)) (λ s2 H2 fp cl C=>Jq (PW.pt (Ku (Ao Bw (pv 0) (pv 1) (by rfl)) (Ir (Ao Gm (pv 0) (pv 2) (by rfl)))))) (λ s2 H2 fp cl C=>(Bg (Aa (pv 0) (Aa (El Bw (pv 0) (pv 1) (by rfl)) Ab))))))))))),?_⟩
 refine ⟨zN0,λ e1 c4=>⟨zN0,λ e2 c3=>?_⟩⟩
 have k1:=Ah c4 (.lst [])
 have k2:=Ah c3 (.lst [])
 have g0:=k1.trans k2
 have h1:=k2 _ _ (Ae (H:=H) (a:=e1) (o:=.lst []))
 have h2:=Ae (H:=upd H e1 (.lst [])) (a:=e2) (o:=.lst [])
 generalize (upd (upd H e1 (.lst [])) e2 (.lst [])) = H0 at g0 h1 h2
 cases o with
 | none =>
  have e0:=ob
  subst e0
  refine ⟨_,rfl,rfl,_,rfl,Bj ?_⟩
  obtain ⟨mu,ca,Hx,gx,a9,a8,eu,ea,ex⟩:∃ mu ca Hx,Same H Hx∧Hx mu = some (.lst ((mcB kn none).1.map V.int))∧Hx ca = some (.lst ((mcB kn none).2.map V.int))∧mu = e1∧ca = e2∧Hx = H0:=⟨e1,e2,H0,g0,h1,h2,rfl,rfl,rfl⟩
  rw [← eu,← ea,← ex]
  generalize (none:Option Pt) = o at a9 a8 q
  refine ⟨_,rfl,none,kl,kn,rfl,gx.seq hS,ln,λ wl H5 g5 nw hw=>?_⟩
  have gm:=g5 _ _ a9
  have gc:=g5 _ _ a8
  have gy:=gx.trans g5
  have c0:=uX (Po none kn) ln
  refine ⟨_,rfl,wl,rfl,⟨_,SqL.of hw⟩,Fs (K:=K) (xs:=(Dg none kn).map V.int) (λ i ys H'=>Same H5 H'∧∃ a6:List (Addr× (Int× Bool)),ys = a6.map chV∧a6.map Prod.snd = (((Dg none kn).take i).filter (λ s=>decide (s∈(mcB kn o).1) || !decide (s∈(mcB kn o).2))).map (λ s=>(s,decide (s∈(mcB kn o).1)))∧∀ p∈a6,H' p.1 = some (.tup [.int p.2.1,.bl p.2.2])) ⟨Same.refl _,[],rfl,rfl,λ p hp=>by cases hp⟩ (by rw [uD]; exact B9 (by omega)) (λ i ys H' ⟨g,_⟩=>SqL.of (g _ _ hw)) ?_ ?_⟩
  ·rintro j z ys H' N hj ⟨g6,a6,rfl,ei,al⟩ hN b8
   rw [uJ] at hj
   cases ej:(Dg none kn)[j]? with
   | none=>rw [ej] at hj; cases hj
   | some x =>
    rw [ej] at hj
    cases hj
    have et:((Dg none kn).take (j + 1)).filter (λ s=>decide (s∈(mcB kn o).1) || !decide (s∈(mcB kn o).2)) = ((Dg none kn).take j).filter (λ s=>decide (s∈(mcB kn o).1) || !decide (s∈(mcB kn o).2)) ++ [x].filter (λ s=>decide (s∈(mcB kn o).1) || !decide (s∈(mcB kn o).2)):=by
     rw [take_add_one,ej,vJ]; rfl
    have b6:¬ (decide (x∈(mcB kn o).1) || !decide (x∈(mcB kn o).2)) = true→N (a6.map chV) H':=λ z=>hN _ _ (by omega) ⟨g6,a6,rfl,by rw [et,filter_cons_of_neg (p:=λ s=>decide (s∈(mcB kn o).1) || !decide (s∈(mcB kn o).2)) z]; simpa using ei,al⟩
    have take:∀ (t:Addr) (b:Bool),b = decide (x∈(mcB kn o).1)→(decide (x∈(mcB kn o).1) || !decide (x∈(mcB kn o).2)) = true→H' t = none→N (a6.map chV ++ [.ref t]) (upd H' t (.tup [.int x,.bl b])):=λ t b eb z ht=>by
     have k:=Ah ht (.tup [.int x,.bl b])
     refine hN _ _ (by rw [uF,uG]; omega) ⟨g6.trans k,a6 ++ [(t,(x,b))],by rw [uP]; rfl,?_,λ p hp=>?_⟩
     ·rw [et,filter_cons_of_pos (p:=λ s=>decide (s∈(mcB kn o).1) || !decide (s∈(mcB kn o).2)) z,uP,uP,ei,eb]; rfl
     ·rcases uV.mp hp with h | h
      ·exact k _ _ (al p h)
      ·rcases mS h with rfl
       exact Ae
    have a7:=g6 _ _ gm
    have b7:=g6 _ _ gc
    refine ⟨_,rfl,_,rfl,mu,_,rfl,.inl (SqL.of a7),rfl,Ck _,_,rfl,Vq (λ c=>?_) λ c=>?_⟩
    ·refine Bs ⟨_,rfl,_,rfl,_,rfl,mu,_,rfl,.inl (SqL.of a7),rfl,Ck _,zN2,λ t ht=>take t _ (by rw [if_neg Bool.false_ne_true,Et]) (by simp [c]) ht⟩
    ·refine ⟨_,rfl,_,rfl,ca,_,rfl,.inl (SqL.of b7),rfl,Ck _,_,rfl,?_⟩
     rw [if_pos rfl,Et]
     by_cases d:x∈(mcB kn o).2
     ·rw [uK d]
      exact Bj (b6 (by simp [c,d]))
     ·rw [uM d]
      exact Bs ⟨_,rfl,_,rfl,_,rfl,mu,_,rfl,.inl (SqL.of a7),rfl,Ck _,zN2,λ t ht=>take t _ (by rw [if_neg Bool.false_ne_true,Et]) (by simp [d]) ht⟩
  ·rintro ys H' b8 ⟨g6,a6,rfl,ei,al⟩ D hD
   have k:=Ah hD (.lst (a6.map chV))
   rw [uD,take_length] at ei
   exact q D _ ((gy.trans g6).trans k) ((gy.trans g6).free hD) ⟨a6,Ae,ei,λ p hp=>k _ _ (al p hp)⟩
 | some b =>
  obtain ⟨b9,hb,sb⟩:=ob
  obtain ⟨a1,e1⟩:∃ a,bv = .ref a:=by cases b <;> (obtain ⟨a,vs,e,_⟩:=PAt.get b9; exact ⟨a,e⟩)
  subst e1
  refine ⟨_,rfl,rfl,_,rfl,Bs ?_⟩
  refine ⟨_,rfl,_,rfl,.ref a1,b,true,kl,kn,rfl,b9.mono g0.tp,g0.seq hS,hb,sb,ok,λ t H4 g4 ⟨l1,l2,l3,a2,a3,a4,a5⟩=>?_⟩
  refine ⟨_,rfl,t,_,_,_,rfl,rfl,SqT.of a2,Ai (j:=2) rfl,_,rfl,t,_,_,_,rfl,rfl,SqT.of a2,Ai (j:=3) rfl,?_⟩
  obtain ⟨mu,ca,Hx,gx,a9,a8,eu,ea,ex⟩:∃ mu ca Hx,Same H Hx∧Hx mu = some (.lst ((mcB kn (some b)).1.map V.int))∧Hx ca = some (.lst ((mcB kn (some b)).2.map V.int))∧mu = l2∧ca = l3∧Hx = H4:=⟨l2,l3,H4,g0.trans g4,a4,a5,rfl,rfl,rfl⟩
  rw [← eu,← ea,← ex]
  generalize (some b:Option Pt) = o at a9 a8 q
  refine ⟨_,rfl,none,kl,kn,rfl,gx.seq hS,ln,λ wl H5 g5 nw hw=>?_⟩
  have gm:=g5 _ _ a9
  have gc:=g5 _ _ a8
  have gy:=gx.trans g5
  have c0:=uX (Po none kn) ln
  refine ⟨_,rfl,wl,rfl,⟨_,SqL.of hw⟩,Fs (K:=K) (xs:=(Dg none kn).map V.int) (λ i ys H'=>Same H5 H'∧∃ a6:List (Addr× (Int× Bool)),ys = a6.map chV∧a6.map Prod.snd = (((Dg none kn).take i).filter (λ s=>decide (s∈(mcB kn o).1) || !decide (s∈(mcB kn o).2))).map (λ s=>(s,decide (s∈(mcB kn o).1)))∧∀ p∈a6,H' p.1 = some (.tup [.int p.2.1,.bl p.2.2])) ⟨Same.refl _,[],rfl,rfl,λ p hp=>by cases hp⟩ (by rw [uD]; exact B9 (by omega)) (λ i ys H' ⟨g,_⟩=>SqL.of (g _ _ hw)) ?_ ?_⟩
  ·rintro j z ys H' N hj ⟨g6,a6,rfl,ei,al⟩ hN b8
   rw [uJ] at hj
   cases ej:(Dg none kn)[j]? with
   | none=>rw [ej] at hj; cases hj
   | some x =>
    rw [ej] at hj
    cases hj
    have et:((Dg none kn).take (j + 1)).filter (λ s=>decide (s∈(mcB kn o).1) || !decide (s∈(mcB kn o).2)) = ((Dg none kn).take j).filter (λ s=>decide (s∈(mcB kn o).1) || !decide (s∈(mcB kn o).2)) ++ [x].filter (λ s=>decide (s∈(mcB kn o).1) || !decide (s∈(mcB kn o).2)):=by
     rw [take_add_one,ej,vJ]; rfl
    have b6:¬ (decide (x∈(mcB kn o).1) || !decide (x∈(mcB kn o).2)) = true→N (a6.map chV) H':=λ z=>hN _ _ (by omega) ⟨g6,a6,rfl,by rw [et,filter_cons_of_neg (p:=λ s=>decide (s∈(mcB kn o).1) || !decide (s∈(mcB kn o).2)) z]; simpa using ei,al⟩
    have take:∀ (t:Addr) (b:Bool),b = decide (x∈(mcB kn o).1)→(decide (x∈(mcB kn o).1) || !decide (x∈(mcB kn o).2)) = true→H' t = none→N (a6.map chV ++ [.ref t]) (upd H' t (.tup [.int x,.bl b])):=λ t b eb z ht=>by
     have k:=Ah ht (.tup [.int x,.bl b])
     refine hN _ _ (by rw [uF,uG]; omega) ⟨g6.trans k,a6 ++ [(t,(x,b))],by rw [uP]; rfl,?_,λ p hp=>?_⟩
     ·rw [et,filter_cons_of_pos (p:=λ s=>decide (s∈(mcB kn o).1) || !decide (s∈(mcB kn o).2)) z,uP,uP,ei,eb]; rfl
     ·rcases uV.mp hp with h | h
      ·exact k _ _ (al p h)
      ·rcases mS h with rfl
       exact Ae
    have a7:=g6 _ _ gm
    have b7:=g6 _ _ gc
    refine ⟨_,rfl,_,rfl,mu,_,rfl,.inl (SqL.of a7),rfl,Ck _,_,rfl,Vq (λ c=>?_) λ c=>?_⟩
    ·refine Bs ⟨_,rfl,_,rfl,_,rfl,mu,_,rfl,.inl (SqL.of a7),rfl,Ck _,zN2,λ t ht=>take t _ (by rw [if_neg Bool.false_ne_true,Et]) (by simp [c]) ht⟩
    ·refine ⟨_,rfl,_,rfl,ca,_,rfl,.inl (SqL.of b7),rfl,Ck _,_,rfl,?_⟩
     rw [if_pos rfl,Et]
     by_cases d:x∈(mcB kn o).2
     ·rw [uK d]
      exact Bj (b6 (by simp [c,d]))
     ·rw [uM d]
      exact Bs ⟨_,rfl,_,rfl,_,rfl,mu,_,rfl,.inl (SqL.of a7),rfl,Ck _,zN2,λ t ht=>take t _ (by rw [if_neg Bool.false_ne_true,Et]) (by simp [d]) ht⟩
  ·rintro ys H' b8 ⟨g6,a6,rfl,ei,al⟩ D hD
   have k:=Ah hD (.lst (a6.map chV))
   rw [uD,take_length] at ei
   exact q D _ ((gy.trans g6).trans k) ((gy.trans g6).free hD) ⟨a6,Ae,ei,λ p hp=>k _ _ (al p hp)⟩
theorem AgC (F:Bd K mg "rounds" ["program", "state", "coming"] P7) (T:Txt mg) (bH:Am P w K mg base 43 "body_to_begin" ["program", "state"] (AaO K 40)) (bC:Am P w K mg base 1 "known_at_first" ["program", "coming"] (Rv K)) (bN:Am P w K mg base 1 "known_behind" ["known", "changes"] (Aav K)) (cF:Am P w K mg base 45 "changes_by" ["body", "known"] (AeR K)):Am P w K mg base 46 "rounds" ["program", "state", "coming"] (AeJ K):=by
 refine F.ok Fo (λ vs H Q E h=>?_) (λ f cdv A outer s H vs Q E hr h=>?_)
 ·obtain ⟨pr,sv,co,n,p,st,cs,rfl,_⟩:=h; rfl
 obtain ⟨pr,sv,co,n,p,st,cs,rfl,pg,f1,hS,q⟩:=h
 obtain ⟨x0,x1,v,f3,hp⟩:=pg.pa
 have nb:=pg.nb
 have f5:=pg.rc
 have f6:=pg.sc
 have f4:=pg.hg
 refine ⟨_,(Ac (As (i:=3) Fo.nd rfl (Or.inl rfl) (Ap bH hr rfl Av (Aa (pv 0) (Aa (pv 1) Ab))))
  (Ac (As (i:=4) Fo.nd rfl (Or.inl rfl) (Ap bC hr rfl Av (Aa (pv 0) (Aa (pv 2) Ab))))
  (Ac (As (i:=5) Fo.nd rfl (Or.inl rfl) (Ba Ab))
  (Ac (As (i:=6) Fo.nd rfl (Or.inl rfl) (Ap cF hr rfl Av (Aa (pv 3) (Aa (pv 4) Ab))))
  (Ac (Hq PassesOwn.never (Ch (pv 6) (λ _=>rfl))
   (Ac (Bo (Ew PySem.F.plainAttrs_list PySem.F.slot_list_append PySem.F.type_list_append Iv (pv 5) (Aa (pv 6) Ab)))
  (Ac (As (i:=4) Fo.nd rfl (Or.inl rfl) (Ap bN hr rfl Av (Aa (pv 4) (Aa (pv 6) Ab))))
  (Ag (As (i:=6) Fo.nd rfl (Or.inl rfl) (Ap cF hr rfl Av (Aa (pv 3) (Aa (pv 4) Ab))))))))
  (Ag (Aq (pv 5)))))))),?_⟩
 refine ⟨_,rfl,_,rfl,pr,x0,x1,.int n,v,p,sv,st,rfl,SqT.of f3,hp,f1,pg.hg,by omega,λ bv H1 g1 hb=>?_⟩
 have ob:OBd K H1 (Jj p st) bv:=by
  rcases hb with ⟨ov,rfl⟩ | ⟨ov,P1⟩
  ·rw [Jk.1 ov]; rfl
  ·rw [Jk.2 ov]
   have k1:(pb p st).hg≤p.hg:=by cases st with | none=>exact uY _ | some l=>exact Vw l p
   have k2:(pb p st).sc≤p.sc:=by cases st with | none=>exact uY _ | some l=>exact Xy l p
   exact ⟨P1,by omega,by omega⟩
 have b7:=AdC pg.ok st
 refine ⟨_,rfl,_,rfl,pr,co,n,p,cs,rfl,pg.mono g1,g1.seq hS,λ kl H2 g2 nk hk=>?_⟩
 refine ⟨zN0,λ r0 c4=>?_⟩
 have k3:=Ah c4 (.lst [])
 have d8:=g2.trans k3
 have d9:=g1.trans d8
 have b8:=k3 _ _ hk
 have c5:=Ay hk c4
 have c6:=Ae (H:=H2) (a:=r0) (o:=.lst [])
 have e7:=(g1.trans g2).free c4
 have a4:=ob.mono d8
 generalize (upd H2 r0 (.lst [])) = H3 at d9 b8 c6 a4
 have l0:(Cf n cs).length = n:=by simp [Cf]
 generalize Jj p st = o at a4 b7 q
 refine ⟨_,rfl,_,rfl,bv,o,kl,Cf n cs,rfl,a4,SqL.of b8,by omega,by rw [l0]; exact b7,λ ch H4 g4 c9 e9=>?_⟩
 refine ⟨λ m σ H'=>∃ (kl ch:Addr) (kn:List (Option Bool)) (a1:List (Addr× List (Int× Bool))),σ = [some (.ref pr),some sv,some (.ref co),some bv,some (.ref kl),some (.ref r0),some (.ref ch)]∧Same H H'∧OBd K H' o bv∧H' kl = some (.lst (kn.map vO))∧kl≠r0∧kn.length = n∧Gz H' ch (stepK o kn)∧ch≠r0∧H' r0 = some (.lst (a1.map rdV))∧a1.length + m = n + 1∧(∀ p∈a1,Gz H' p.1 p.2∧p.1≠r0)∧Cv kn < m∧a1.map Prod.snd ++ rnds o m kn = rnds o (n + 1) (Cf n cs),⟨n + 1,kl,ch,Cf n cs,[],rfl,d9.trans g4,a4.mono g4,g4 _ _ b8,c5,l0,e9,(λ z=>by rw [z,c6] at c9; cases c9),g4 _ _ c6,by simp,(λ p hp=>by cases hp),by have:=M7 (Cf n cs); omega,rfl⟩,?_⟩
 rintro m σ H5 ⟨kl,ch,kn,a1,rfl,g5,c0,f2,c5,ln,a5,a6,a2,lm,al,nm,er⟩
 obtain ⟨b6,c1,c2,c3⟩:=id a5
 refine ⟨_,rfl,_,.inl ⟨_,SqL.of c1,rfl⟩,?_⟩
 by_cases z:stepK o kn = []
 ·have e0:b6 = []:=by rw [z] at c2; exact List.map_eq_nil_iff.mp c2
  subst e0
  refine Bj ?_
  obtain ⟨m',rfl⟩:∃ m',m = m' + 1:=⟨m - 1,by omega⟩
  simp only [rnds] at er
  rw [if_pos z,vG] at er
  exact ⟨_,rfl,q r0 H5 g5 ⟨a1,a2,er,λ p hp=>(al p hp).1⟩⟩
 ·obtain ⟨x,r,e0⟩:∃ x r,b6 = x :: r:=by
   cases b6 with
   | nil=>exact absurd c2.symm z
   | cons x r=>exact ⟨x,r,rfl⟩
  subst e0
  refine Bs ⟨λ c7 H'=>∃ m',m' < m∧∃ (kl ch:Addr) (kn:List (Option Bool)) (a1:List (Addr× List (Int× Bool))),c7 = [some (.ref pr),some sv,some (.ref co),some bv,some (.ref kl),some (.ref r0),some (.ref ch)]∧Same H H'∧OBd K H' o bv∧H' kl = some (.lst (kn.map vO))∧kl≠r0∧kn.length = n∧Gz H' ch (stepK o kn)∧ch≠r0∧H' r0 = some (.lst (a1.map rdV))∧a1.length + m' = n + 1∧(∀ p∈a1,Gz H' p.1 p.2∧p.1≠r0)∧Cv kn < m'∧a1.map Prod.snd ++ rnds o m' kn = rnds o (n + 1) (Cf n cs),λ c7 H' h=>h,?_⟩
  refine ⟨_,rfl,.inl ⟨rfl,_,SqL.of a2⟩,_,rfl,r0,_,_,rfl,rfl,a2,by rw [uD]; exact Ip (by omega),?_⟩
  have g6:=g5.young e7 (.lst (a1.map rdV ++ [.ref ch]))
  have b9:OBd K (upd H5 r0 (.lst (a1.map rdV ++ [.ref ch]))) o bv:=by
   cases o with
   | none=>exact c0
   | some b=>exact ⟨c0.1.mono (Tp.lst a2),c0.2⟩
  have d7:(upd H5 r0 (.lst (a1.map rdV ++ [.ref ch]))) kl = some (.lst (kn.map vO)):=by rw [upd_ne c5]; exact f2
  have a3:=a5.off (ys:=a1.map rdV ++ [.ref ch]) a6 a2
  have a9:∀ p∈a1,Gz (upd H5 r0 (.lst (a1.map rdV ++ [.ref ch]))) p.1 p.2∧p.1≠r0:=λ p hp=>⟨(al p hp).1.off (al p hp).2 a2,(al p hp).2⟩
  have a8:=Ae (H:=H5) (a:=r0) (o:=.lst (a1.map rdV ++ [.ref ch]))
  generalize (upd H5 r0 (.lst (a1.map rdV ++ [.ref ch]))) = H6 at g6 b9 d7 a3 a9 a8
  have sb:=Xr o kn
  refine ⟨_,rfl,_,rfl,kl,ch,kn,stepK o kn,rfl,SqL.of d7,a3,sb.1,by omega,by omega,λ a7 H7 g7 c8 e3=>?_⟩
  have e6:a7≠r0:=λ y=>by rw [y,a8] at c8; cases c8
  have bl:=Jy (stepK o kn) kn
  refine ⟨_,rfl,_,rfl,bv,o,a7,F3 kn (stepK o kn),rfl,b9.mono g7,SqL.of e3,by omega,by rw [bl,ln]; exact b7,λ f0 H8 g8 e5 e8=>?_⟩
  have e4:=g7 _ _ a8
  have nn:=AaX z
  obtain ⟨m',rfl⟩:∃ m',m = m' + 1:=⟨m - 1,by omega⟩
  refine ⟨m',by omega,a7,f0,F3 kn (stepK o kn),a1 ++ [(ch,stepK o kn)],rfl,(g6.trans g7).trans g8,(b9.mono g7).mono g8,g8 _ _ e3,e6,by omega,e8,(λ y=>by rw [y,e4] at e5; cases e5),?_,by rw [uF,uG]; omega,λ p hp=>?_,by omega,?_⟩
  ·rw [g8 _ _ e4,uP]; rfl
  ·rcases uV.mp hp with h | h
   ·exact ⟨((a9 p h).1.mono g7).mono g8,(a9 p h).2⟩
   ·rcases mS h with rfl
    exact ⟨(a3.mono g7).mono g8,a6⟩
  ·rw [← er]
   simp only [rnds]
   rw [if_neg z,uP,append_assoc]
   rfl
theorem Agg (F:Bd K mg "settled" ["program", "state", "coming"] N8) (T:Txt mg) (bC:Am P w K mg base 1 "known_at_first" ["program", "coming"] (Rv K)) (bN:Am P w K mg base 1 "known_behind" ["known", "changes"] (Aav K)) (eB:Am P w K mg base 46 "rounds" ["program", "state", "coming"] (AeJ K)):Am P w K mg base 47 "settled" ["program", "state", "coming"] (Aah K):=by
 refine F.ok Jh (λ vs H Q E h=>?_) (λ f cdv A outer s H vs Q E hr h=>?_)
 ·obtain ⟨pr,sv,co,n,p,st,cs,rfl,_⟩:=h; rfl
 obtain ⟨pr,sv,co,n,p,st,cs,rfl,pg,a5,hS,q⟩:=h
 have nb:=pg.nb
 refine ⟨_,(Ac (As (i:=3) Jh.nd rfl (Or.inl rfl) (Ap bC hr rfl Av (Aa (pv 0) (Aa (pv 2) Ab))))
  (Ac (Fk PassesOwn.never rfl (Dm (Ap eB hr rfl Av (Aa (pv 0) (Aa (pv 1) (Aa (pv 2) Ab))))) (Bn (i:=4) Jh.nd rfl (Or.inl rfl))
   (Ag (As (i:=3) Jh.nd rfl (Or.inl rfl) (Ap bN hr rfl Av (Aa (pv 3) (Aa (pv 4) Ab))))))
  (Ag (Aq (pv 3))))),?_⟩
 refine ⟨_,rfl,_,rfl,pr,co,n,p,cs,rfl,pg,hS,λ kl H1 g1 _ hk=>?_⟩
 refine ⟨_,rfl,_,rfl,_,rfl,pr,sv,co,n,p,st,cs,rfl,pg.mono g1,AbI g1 a5,g1.seq hS,λ r H2 g2 ⟨a1,h2,e2,al⟩=>?_⟩
 have l0:(Cf n cs).length = n:=by simp [Cf]
 have bd:=Z5 (Jj p st) (n + 1) (Cf n cs)
 unfold Wu at q
 rw [← e2] at bd q
 refine ⟨r,rfl,⟨_,SqL.of h2⟩,Hm (K:=K) (a:=r) (xs:=a1.map rdV) (D:={ nx:=Aas (Bl 3) { nx:=λ x H'=>Q V.non H',rt:=Q },rt:=Q }) (λ i σ H'=>∃ (kl:Addr) (x4:Option V),σ = [some (.ref pr),some sv,some (.ref co),some (.ref kl),x4]∧Same H2 H'∧H' kl = some (.lst ((((a1.map Prod.snd).take i).foldl F3 (Cf n cs)).map vO))) ⟨kl,none,rfl,Same.refl _,g2 _ _ hk⟩ (λ i σ H' _ ⟨_,_,_,g,_⟩=>SqL.of (g _ _ h2)) ?_ ?_⟩
 ·rintro i y σ H3 hi ⟨kl,x4,rfl,g3,a2⟩
  rw [uJ] at hi
  cases e:a1[i]? with
  | none=>rw [e] at hi; cases hi
  | some it =>
   rw [e] at hi
   cases hi
   have hm:=uQ e
   have b:=bd it.2 (List.mem_map_of_mem hm)
   have fl:=Uf ((a1.map Prod.snd).take i) (Cf n cs)
   refine ⟨_,rfl,_,rfl,kl,it.1,_,it.2,rfl,SqL.of a2,(al it hm).mono g3,(by rw [fl]; exact b.1),by omega,by omega,λ a3 H4 g4 _ a4=>?_⟩
   refine ⟨a3,_,rfl,g3.trans g4,?_⟩
   rw [a4,take_add_one,uJ,e,foldl_append]
   rfl
 ·rintro σ H3 ⟨kl,x4,rfl,g3,a2⟩
  rw [uD,show a1.length = (a1.map Prod.snd).length from (uD _).symm,take_length] at a2
  exact ⟨_,rfl,q kl H3 ((g1.trans g2).trans g3) a2⟩
end
end My
namespace L2
open PySem PySem.Spec PyProof.Rows
def OL (K:FA) (H:Hp):Option (List Int)→V→Prop
 | none,v=>v = .non
 | some ns,v=>∃ a,v = .ref a∧SqL K H a (ns.map V.int)
def AiK:Value→Option Int
 | .int i _=>some i
 | _=>none
def Ur:List Value→Option (List Int)
 | []=>some []
 | u :: us=>match AiK u,Ur us with
  | some i,some r=>some (i :: r)
  | _,_=>none
theorem Mq:∀ {ns:List Int} {us:List Value},A5 (ns.map V.int) us→Ur us = some ns
 | [],_,r=>by cases r; rfl
 | n :: ns,_,r=>by
  cases r with
  | cons p t =>
   obtain ⟨tk,rfl⟩:=p
   unfold Ur
   rw [Mq t]
   rfl
def Kt (h:Heap):Value→Option (Option (List Int))
 | .none=>some none
 | .ref a=>match h.get? a with
  | some o=>match o.data with
   | .seq its _=>(Ur its.toList).map some
   | _=>none
  | none=>none
 | _=>none
section
variable {s:Shared}
theorem Wj (I:Inv X pins σ H s) (h:OL X.K H o v) (r:A8 v u):Kt s.heap u = some o:=by
 cases o with
 | none =>
  cases (show v = .non from h)
  cases r
  rfl
 | some ns =>
  obtain ⟨a,rfl,hs⟩:=h
  cases r
  obtain ⟨us,r1,p1,z1⟩:=I.list hs
  obtain ⟨ob,e1,_,n1,d1⟩:=p1.isList
  unfold Kt
  dsimp only
  rw [e1]
  dsimp only
  rw [d1]
  dsimp only
  rw [Mq r1]
  rfl
theorem Agv (I:Inv X pins σ H s) (h:OL X.K H o v) (h':OL X.K H o' v') (r:A8 v u) (r':A8 v' u') (A:Around) (hA:A.units + 1 < cLine):SeqAt.EqAt A s u u' (decide (o = o')):=by
 cases o with
 | none =>
  cases (show v = .non from h)
  cases r
  cases o' with
  | none =>
   cases (show v' = .non from h')
   cases r'
   rw [uK rfl]
   exact SeqAt.EqAt.same _
  | some ms =>
   obtain ⟨b,rfl,hs⟩:=h'
   cases r'
   obtain ⟨us,r1,p1,z1⟩:=I.list hs
   rw [uM (λ z=>nomatch z)]
   exact SeqAt.EqAt.none_list p1.isList (by omega)
 | some ns =>
  obtain ⟨a,rfl,hs⟩:=h
  cases r
  obtain ⟨us,r1,p1,z1⟩:=I.list hs
  cases o' with
  | none =>
   cases (show v' = .non from h')
   cases r'
   rw [uM (λ z=>nomatch z)]
   exact SeqAt.EqAt.list_none p1.isList (by omega)
  | some ms =>
   obtain ⟨b,rfl,a2⟩:=h'
   cases r'
   obtain ⟨ws,r2,p2,z2⟩:=I.list a2
   have l1:=r1.length
   have l2:=r2.length
   rw [uD] at l1 l2
   have e0:decide (some ns = some ms) = decide (ns = ms):=by
    by_cases z:ns = ms
    ·rw [uK z,uK (congrArg some z)]
    ·rw [uM z,uM λ y=>z (Option.some.inj y)]
   rw [e0]
   by_cases a1:a = b
   ·subst a1
    obtain ⟨o1,e1,_,n1,d1⟩:=p1.isList
    obtain ⟨o2,e2,_,n2,d2⟩:=p2.isList
    rw [e1] at e2
    cases e2
    rw [d1] at d2
    have d3:us.toArray = ws.toArray:=by injection d2
    have d4:us = ws:=by simpa using d3
    subst d4
    have:ns = ms:=Option.some.inj ((Mq r1).symm.trans (Mq r2))
    rw [uK this]
    exact SeqAt.EqAt.same _
   ·refine SeqAt.EqAt.of_refs a1 ?_
    by_cases e:ns.length = ms.length
    ·have q:=SeqAt.RcAt.lists (A:=A) p1.isList p2.isList (by simp; omega) (by omega) (Yf (A:=A.in1) (s:=s) r1 r2)
     rw [uO,← l1,Ve e] at q
     exact q
    ·have d:decide (ns = ms) = false:=uM λ z=>e (by rw [z])
     rw [d]
     exact SeqAt.RcAt.lists_lengths p1.isList p2.isList (by simp; omega) (by omega)
theorem Qf :∀ {os:List (Option (List Int))} {xs:List V} {us:List Value},PySem.Paired (OL X.K H) os xs→A5 xs us→∀ u∈us,∃ o∈os,∃ x,OL X.K H o x∧A8 x u
 | _,_,_,.nil,.nil,u,h=>by cases h
 | o :: os,x :: xs,v :: us,.cons p t,.cons r t',u,h=>by
  rcases vI.mp h with rfl | h
  ·exact ⟨o,uH,x,p,r⟩
  ·obtain ⟨o',ho,x',hx,hr⟩:=Qf (os:=os) t t' u h
   exact ⟨o',uI _ ho,x',hx,hr⟩
theorem Agt (I:Inv X pins σ H s) :∀ {os:List (Option (List Int))} {xs:List V} {us:List Value},PySem.Paired (OL X.K H) os xs→A5 xs us→us.any (λ u=>decide (Kt s.heap u = some o)) = decide (o∈os)
 | _,_,_,.nil,.nil=>by simp
 | o' :: os,x :: xs,v :: us,.cons p t,.cons r t'=>by
  rw [any_cons,Agt I t t',Wj I p r]
  by_cases z:o' = o
  ·subst z; simp
  ·rw [uM (λ y=>z (Option.some.inj y)),Bool.false_or]
   by_cases w:o∈os
   ·rw [uK w,uK (uI _ w)]
   ·rw [uM w,uM (λ y=>(vI.mp y).elim (λ h=>z h.symm) w)]
end
inductive Abz (K:FA) (neg:Bool) (x y:V) (H:Hp) (Q:VK):Prop
 | mk (p) (o) (os) (xs:_) (_:y = .ref p) (_:SqL K H p xs) (_:OL K H o x) (_:PySem.Paired (OL K H) os xs) (_:Q (.bl (if neg then !decide (o∈os) else decide (o∈os))) H):Abz K neg x y H Q
def Aim (K:FA) (neg:Bool):R2:=λ x y H Q=>Abz K neg x y H Q
theorem AcT (hu:X.A.units + 64 < cLine):OpR X (compareOp .NotIn) (Aim X.K true):=by
 intro pins s σ H x y v u Q I rx ry h
 obtain ⟨p,o,os,xs,rfl,hq,hx,hp,q⟩:=h
 cases ry
 obtain ⟨a2,r,pl,hz⟩:=I.list hq
 refine SeqAt.notIn_listAt (λ w=>decide (Kt s.heap w = some o)) pl.isList (λ w hw=>?_) ⟨.bl _,H,I,rfl,?_⟩
 ·obtain ⟨o',_,x',a3,a1⟩:=Qf (os:=os) hp r w (by simpa using hw)
  have z:=Agv I a3 hx a1 rx X.A.in1 (by show X.A.units + 1 + 1 < cLine; omega)
  have e:decide (Kt s.heap w = some o) = decide (o' = o):=by
   rw [Wj I a3 a1]
   by_cases y:o' = o
   ·rw [uK y,uK (congrArg some y)]
   ·rw [uM y,uM λ z=>y (Option.some.inj z)]
  show SeqAt.EqAt X.A.in1 s w v (decide (Kt s.heap w = some o))
  rw [e]
  exact z
 ·rw [show a2.toArray.any (λ w=>decide (Kt s.heap w = some o)) = a2.any (λ w=>decide (Kt s.heap w = some o)) by simp,Agt I hp r]
  exact q
end L2
namespace My
open PySem L2
theorem Ac7 (o:Option Pt) (f:Nat) (kn:List (Option Bool)):(Wu o f kn).length = kn.length:=by
 unfold Wu
 generalize rnds o f kn = l
 induction l generalizing kn with
 | nil=>rfl
 | cons c l ih=>exact (ih _).trans (Jy c kn)
def knW (p:Pt) (st:Option (List Int)) (n:Nat) (cs:List Int):List (Option Bool):=Wu (Jj p st) (n + 1) (Cf n cs)
theorem Yx (p:Pt) (st:Option (List Int)) (n:Nat) (cs:List Int):(knW p st n cs).length = n:=by
 unfold knW Cf
 rw [Ac7,uD,vE]
theorem Zr (kn:List (Option Bool)):(kn.map vO).all Ef = true:=by
 rw [all_eq_true]
 intro v hv
 obtain ⟨o,_,rfl⟩:=vQ.mp hv
 cases o <;> rfl
theorem Zo (kn:List (Option Bool)):inV .non (kn.map vO) = decide (none∈kn):=by
 induction kn with
 | nil=>rfl
 | cons o kn ih =>
  show (eqV (vO o) .non || inV .non (kn.map vO)) = _
  rw [ih]
  cases o with
  | none=>simp [vO,eqV]
  | some b=>simp [vO,eqV]
theorem Ks (g:Same H H') (h:Fn K H st v):Fn K H' st v:=by
 cases st with
 | none=>exact h
 | some ns=>obtain ⟨a,e,s⟩:=h; exact ⟨a,e,g.seq s⟩
def KpS (S:List Addr) (H H':Hp):Prop:=∀ b u,b∉S→H b = some u→H' b = some u
theorem KpS.trans {H1:Hp} (a:KpS S H H1) (b:KpS S H1 H2):KpS S H H2:=λ c u h e=>b c u h (a c u h e)
theorem Same.kpS (g:Same H H'):KpS S H H':=λ b u _ e=>g b u e
theorem KpS.upd {u:HO} (h:r∈S):KpS S H (L2.upd H r u):=λ b v n e=>by
 have hb:b≠r:=λ z=>n (by rw [z]; exact h)
 rw [upd_ne hb]
 exact e
def Mut (S:List Addr) (H:Hp):Prop:=∀ b∈S,∃ u,H b = some u∧∀ xs,u≠.tup xs
theorem Mut.off (m:Mut S H) {x:Addr} (h:H x = none):x∉S:=λ z=>by
 obtain ⟨u,e,_⟩:=m x z
 rw [h] at e
 cases e
theorem Mut.mono (m:Mut S H) (g:Same H H'):Mut S H':=λ b hb=>by
 obtain ⟨u,e,n⟩:=m b hb
 exact ⟨u,g _ _ e,n⟩
def bhW (p:Pt) (n:Nat) (st:Option (List Int)) (cs:List Int):Option (List Int):=some (Lz p st (Dg (some true) (knW p st n cs))).2.2
def LsF (H0:Hp) (S:List Addr) (H:Hp) (cs:List Int) (v:V):Prop:=∃ r,v = .ref r∧r∉S∧H0 r = none∧H r = some (.lst (cs.map V.int))
def OF (H0:Hp) (S:List Addr) (H:Hp):Option (List Int)→V→Prop
 | none,v=>v = .non
 | some ns,v=>LsF H0 S H ns v
theorem LsF.kp {H0:Hp} (k:KpS S H H') (h:LsF H0 S H cs v):LsF H0 S H' cs v:=by
 obtain ⟨r,e,n,f,e2⟩:=h
 exact ⟨r,e,n,f,k _ _ n e2⟩
theorem OF.kp {H0:Hp} {f:Option (List Int)} (k:KpS S H H') (h:OF H0 S H f v):OF H0 S H' f v:=by
 cases f with
 | none=>exact h
 | some ns=>exact LsF.kp k h
theorem OF.ol {H0:Hp} {f:Option (List Int)} (h:OF H0 S H f v):OL K H f v:=by
 cases f with
 | none=>exact h
 | some ns=>obtain ⟨r,e,_,_,e2⟩:=h; exact ⟨r,e,SqL.of e2⟩
theorem OF.st {H0:Hp} {f:Option (List Int)} (h:OF H0 S H f v):Fn K H f v:=by
 cases f with
 | none=>exact h
 | some ns=>obtain ⟨r,e,_,_,e2⟩:=h; exact ⟨r,e,SqL.of e2⟩
def Abh (cTM:Addr):Sp:=λ vs H Q E=>∃ (sl:Addr) (svs:List V) (v:V),vs = [.ref sl,v]∧H sl = some (.lst svs)∧svs.length≤40∧((svs.length = 40∧∀ H',Same H H'→E (.ref cTM) none H')∨(svs.length < 40∧Q .non (upd H sl (.lst (svs ++ [v])))))
section
variable {cTM:Addr}
theorem Afa (F:Bd K mg "add_state" ["states", "state"] K8) (T:Txt mg) (a2:mg "TooMany" = some (.ref cTM)) (a3:Ja K cTM) (a1:∃ t,mg "MOST_STATES" = some (.int 40 t)):Bc P w K mg base 1 "add_state" ["states", "state"] (Abh cTM):=by
 refine F.okX Xh (λ vs H Q E h=>?_) (λ f cdv A outer s H vs Q E hr h=>?_)
 ·obtain ⟨sl,svs,v,rfl,_⟩:=h; rfl
 obtain ⟨sl,svs,v,rfl,hs,hl,h⟩:=h
 obtain ⟨tk,a1⟩:=a1
 refine ⟨_,(Ac (Ax (Ao A6 (Be Da rfl T.n_len PySem.boot_len (Aa (pv 0) Ab)) (Bb (v:=.int 40) rfl a1 ⟨_,rfl⟩) (Aw _))
   (Ag (Ci a3 a2 rfl (Aa Al Ab)))
   Au)
  (Ag (Bo (Ew PySem.F.plainAttrs_list PySem.F.slot_list_append PySem.F.type_list_append Iv (pv 0) (Aa (pv 1) Ab))))),?_⟩
 refine ⟨_,rfl,sl,_,rfl,.inl (SqL.of hs),rfl,_,rfl,?_⟩
 rcases h with ⟨e,h⟩ | ⟨e,h⟩
 ·rw [uK (show V.int (svs.length:Int) = V.int 40 by rw [e]; rfl)]
  exact Bs ⟨by show 1≤sizeLine; decide,h _ (Same.refl _)⟩
 ·rw [uM (λ z=>by have:=V.int.inj z; omega)]
  exact Bj ⟨_,rfl,.inl ⟨rfl,_,SqL.of hs⟩,_,rfl,sl,_,_,rfl,rfl,hs,Ip (by omega),h⟩
end
def Abw:Sp:=λ vs H Q _=>vs = [.int 0]∧∀ (a e:Addr) (H':Hp),Same H H'→H a = none→H e = none→H' a = some (.lst [.ref e])→H' e = some (.lst [])→Q (.ref a) H'
def sqW (p:Pt) (n:Nat):Nat→Option (List Int)
 | 0=>none
 | i + 1=>bhW p n (sqW p n i) []
def LkM (p:Pt) (n:Nat):Prop:=∀ i,i < 40→¬ none∈knW p (sqW p n i) n []∧¬ sqW p n (i + 1)∈(List.range (i + 1)).map (sqW p n)
def AcX (K:FA) (cTM:Addr):Sp:=λ vs H _ E=>∃ (pr:Addr) (n:Nat) (p:Pt) (x1 vb:V),vs = [.ref pr]∧K7 K H pr n p∧H pr = some (.tup [.int 0,x1,.int n,vb])∧LkM p n∧∀ H',Same H H'→E (.ref cTM) none H'
theorem Ago {a:List V} (h1:H sl = some (.lst a)) (h2:H wl = some (.lst b)):Mut [sl,wl] H:=λ x hx=>by
 simp only [vI,vF,or_false] at hx
 rcases hx with rfl | rfl
 ·exact ⟨_,h1,λ xs z=>nomatch z⟩
 ·exact ⟨_,h2,λ xs z=>nomatch z⟩
theorem Af3 :a∈[a,b]∧b∈[a,b]:=by simp
theorem Qd {α:Type} {F:α→V→Prop}:∀ {l:List α} {vs:List V} {i:Nat} {a:α},PySem.Paired F l vs→l[i]? = some a→∃ v,vs[i]? = some v∧F a v
 | _,_,_,_,.nil,e=>by simp at e
 | _,_,0,_,.cons (b:=b) f t,e=>⟨b,rfl,by cases e; exact f⟩
 | _,_,i + 1,_,.cons f t,e=>Qd (i:=i) t e
inductive LkI (p:Pt) (n:Nat) (H0:Hp) (sl wl:Addr) (i:Nat) (H':Hp):Prop
 | mk (svs wvs:List V) (g:Same H0 H') (es:H' sl = some (.lst svs)) (ew:H' wl = some (.lst wvs)) (ps:PySem.Paired (OF H0 [sl,wl] H') ((List.range (i + 1)).map (sqW p n)) svs) (lw:wvs.length = i + 1) (pw:∀ (k:Nat) (v:V),wvs[k]? = some v→∃ r xs,v = .ref r∧r∉[sl,wl]∧H' r = some (.lst xs)∧xs.length≤k):LkI p n H0 sl wl i H'
theorem LkI.same {H0:Hp} (g:Same H H') (h:LkI p n H0 sl wl i H):LkI p n H0 sl wl i H':=by
 obtain ⟨svs,wvs,g0,es,ew,ps,lw,pw⟩:=h
 refine ⟨svs,wvs,g0.trans g,g _ _ es,g _ _ ew,Paired.mapP ps λ _ _ z=>OF.kp (Same.kpS g) z,lw,λ k v e=>?_⟩
 obtain ⟨r,xs,a,b,c,d⟩:=pw k v e
 exact ⟨r,xs,a,b,g _ _ c,d⟩
section
variable {cTM:Addr}
seal PSs PS PE PA PT
theorem Agh (F:Bd K mg "comings" ["came"] Oa) (T:Txt mg):Am P w K mg base 1 "comings" ["came"] Abw:=by
 refine F.ok Ms (λ vs H Q E h=>?_) (λ f cdv A outer s H vs Q E hr h=>?_)
 ·obtain ⟨rfl,_⟩:=h; rfl
 obtain ⟨rfl,q⟩:=h
 refine ⟨_,(Ac (As (i:=1) Ms.nd rfl (Or.inl rfl) (Ba (Aa (Ba Ab) Ab)))
  (Ac (Fk PassesOwn.never rfl (Ko rfl T.n_range (Aa (pv 0) Ab)) (Bn (i:=2) Ms.nd rfl (Or.inr rfl))
   (Ag Bq))
  (Ag (Aq (pv 1))))),?_⟩
 refine ⟨zN0,λ e he=>⟨zN1,λ f hf=>?_⟩⟩
 have g1:=Ah he (.lst [])
 have g2:=Ah hf (.lst [.ref e])
 refine ⟨_,rfl,_,rfl,by decide,by decide,?_⟩
 refine Tb (n:=0) (λ _ σ H'=>σ = [some (.int 0),some (.ref f),none]∧H' = upd (upd H e (.lst [])) f (.lst [.ref e])) ⟨rfl,rfl⟩ (λ i σ H' hi=>absurd hi (Nat.not_lt_zero _)) ?_
 rintro σ H' ⟨rfl,rfl⟩
 exact ⟨_,rfl,q f e _ (g1.trans g2) (g1.free hf) he Ae (g2 _ _ Ae)⟩
theorem Afd (F:Bd K mg "looked" ["program"] Qa) (T:Txt mg) (dX:Am P w K mg base 1 "comings" ["came"] Abw) (cG:Am P w K mg base 47 "settled" ["program", "state", "coming"] (Aah K)) (cH:Am P w K mg base 45 "instant" ["program", "state", "there"] (Vh K 40)) (aL:Am P w K mg base 1 "signs_that_are" ["value", "known"] (Uw K)) (dJ:Bc P w K mg base 1 "add_state" ["states", "state"] (Abh cTM)):Bc P w K mg base 48 "looked" ["program"] (AcX K cTM):=by
 refine F.okX D8 (λ vs H Q E h=>?_) (λ f cdv A outer s H vs Q E hr h=>?_)
 ·obtain ⟨pr,n,p,x1,vb,rfl,_⟩:=h; rfl
 obtain ⟨pr,n,p,x1,vb,rfl,hP,h8,hM,hq⟩:=h
 refine ⟨_,(Ac (As (i:=1) D8.nd rfl (Or.inl rfl) (Ba (Aa Ce Ab)))
  (Ac (As (i:=2) D8.nd rfl (Or.inl rfl) (Ba (Aa (Ba Ab) Ab)))
  (Ac (As (i:=3) D8.nd rfl (Or.inl rfl) Af)
  (Ac (Hq PassesOwn.leaving (Ao Ut (pv 3) (Be Da rfl T.n_len PySem.boot_len (Aa (pv 1) Ab)) (Aw _))
   (Ac (Fk PassesOwn.leaving rfl (Dm (Ap dX hr rfl Av (Aa (An Ak (pv 0) Af (λ _ _=>rfl)) Ab))) (Bn (i:=4) D8.nd rfl (Or.inl rfl))
   (Ac (As (i:=5) D8.nd rfl (Or.inl rfl) (A7 Bv (An Cm (pv 2) (pv 3) (λ _ _=>rfl)) (Ba (Aa (pv 4) Ab))))
  (Ac (As (i:=6) D8.nd rfl (Or.inl rfl) (Ap cG hr rfl Av (Aa (pv 0) (Aa (An Cm (pv 1) (pv 3) (λ _ _=>rfl)) (Aa (pv 4) Ab)))))
  (Ac (Ax (Ao Bw Ce (pv 6) (by rfl))
   (Ag Bq)
   Au)
  (Ac (As (i:=7) D8.nd rfl (Or.inl rfl) (An Ak (Ap cH hr rfl Av (Aa (pv 0) (Aa (An Cm (pv 1) (pv 3) (λ _ _=>rfl)) (Aa (Ap aL hr rfl Av (Aa Dy (Aa (pv 6) Ab))) Ab)))) Af (λ _ _=>rfl)))
  (Ag (Ax (Ao (AcT hr.units) (pv 7) (pv 1) (by rfl))
   (Ac (Bo (Bm dJ hr rfl (Aa (pv 1) (Aa (pv 7) Ab))))
  (Ag (Bo (Ew PySem.F.plainAttrs_list PySem.F.slot_list_append PySem.F.type_list_append Iv (pv 2) (Aa (pv 5) Ab)))))
   Au)))))))
  (Ag (As (i:=3) D8.nd rfl (Or.inl rfl) (A7 Ju (pv 3) Af)))))
  (Ag Bq))))),?_⟩
 refine ⟨zN1,λ sl b7=>⟨zN0,λ e0 a4=>⟨zN1,λ wl a6=>?_⟩⟩⟩
 obtain ⟨g0,es,ee,ew⟩:=Af6 (a:=.lst [V.non]) (b:=.lst []) (c:=.lst [.ref e0]) b7 a4 a6
 have e1:=(Ah a4 (.lst [])) _ _ (Ae (H:=H) (a:=sl) (o:=.lst [V.non]))
 have f0:sl≠wl:=Ay e1 a6
 have i8:H sl = none:=b7
 have i4:H wl = none:=((Ah b7 _).trans (Ah a4 _)).free a6
 have I0:LkI p n H sl wl 0 (upd (upd (upd H sl (.lst [V.non])) e0 (.lst [])) wl (.lst [.ref e0])):=⟨[.non],[.ref e0],g0,es,ew,.cons rfl .nil,rfl,λ k v h=>by
  cases k with
  | zero =>
   cases h
   refine ⟨e0,[],rfl,λ z=>?_,ee,uY _⟩
   simp only [vI,vF,or_false] at z
   rcases z with z | z
   ·rw [z,Ae] at a4; cases a4
   ·exact Ay (Ae (H:=upd H sl (.lst [V.non])) (a:=e0) (o:=.lst [])) a6 z
  | succ k=>simp at h⟩
 generalize (upd (upd (upd H sl (.lst [V.non])) e0 (.lst [])) wl (.lst [.ref e0])) = H1 at I0
 clear es ee ew g0
 refine Vi (λ σ H'=>∃ (i:Nat) (x4 x5 x6 x7:Option V),σ = [some (.ref pr),some (.ref sl),some (.ref wl),some (.int (i:Int)),x4,x5,x6,x7]∧i < 40∧LkI p n H sl wl i H')
   (λ (σ:St) (H':Hp)=>match σ[3]? with | some (some (V.int i))=>(41 - i).toNat | _=>0) ⟨0,none,none,none,none,rfl,by decide,I0⟩ ?_ ?_
 ·rintro σ H2 ⟨i,x4,x5,x6,x7,rfl,hi,I2⟩
  obtain ⟨svs,wvs,g2,d9,h6,i7,j5,j6⟩:=id I2
  have ls:=PySem.Paired.length i7
  rw [uD,vE] at ls
  refine ⟨_,rfl,_,rfl,sl,_,rfl,.inl (SqL.of d9),_,_,rfl,rfl,_,rfl,K6 (λ ci=>?_) λ ci=>absurd (uK (by omega)) ci⟩
  refine ⟨_,rfl,pr,_,_,_,rfl,rfl,SqT.of (g2 _ _ h8),Ai (j:=0) rfl,rfl,λ ca e H3 g3 g1 fe c4 ee=>?_⟩
  have m2:=Ago d9 h6
  have eS:e∉[sl,wl]:=m2.off fe
  have f8:ca∉[sl,wl]:=m2.off g1
  refine ⟨ca,rfl,⟨_,SqL.of c4⟩,Hm (K:=K) (a:=ca) (xs:=[V.ref e]) (λ j σ H'=>∃ (y4 y5 y6 y7:Option V),σ = [some (.ref pr),some (.ref sl),some (.ref wl),some (.int (i:Int)),y4,y5,y6,y7]∧H' ca = some (.lst [V.ref e])∧((j = 0∧H' = H3)∨(j = 1∧i + 1 < 40∧LkI p n H sl wl (i + 1) H'))) ⟨_,_,_,_,rfl,c4,.inl ⟨rfl,rfl⟩⟩ (λ j σ H' _ ⟨_,_,_,_,_,k,_⟩=>SqL.of k) ?_ ?_⟩
  ·rintro j y σ H4 hj ⟨y4,y5,y6,y7,rfl,f5,hh⟩
   have j0:j = 0:=by have:=(List.getElem?_eq_some_iff.mp hj).1; simp at this; omega
   subst j0
   cases hj
   rcases hh with ⟨_,rfl⟩ | ⟨z,_⟩
   rotate_left
   ·cases z
   obtain ⟨a3,a1,g4,a7,b9,b6,j9,c5⟩:=I2.same g3
   have m4:=Ago a7 b9
   obtain ⟨sv,d8,i9⟩:=Qd (i:=i) (a:=sqW p n i) b6 (by rw [uJ,List.getElem?_range (by omega)]; rfl)
   obtain ⟨wv,e9⟩:∃ wv,a1[i]? = some wv:=⟨_,uC (by omega)⟩
   obtain ⟨j3,b8,rfl,j4,f6,j7⟩:=c5 i wv e9
   obtain ⟨hn,f2⟩:=hM i hi
   refine ⟨_,rfl,_,rfl,wl,_,_,_,rfl,rfl,SqL.of b9,Ai e9,_,rfl,zN1,λ l1 i0=>?_⟩
   have k1:=Ah i0 (.lst [V.ref e])
   refine ⟨j3,l1,_,_,rfl,rfl,k1 _ _ f6,Ae,B9 (by rw [uG]; omega),λ wy e8=>?_⟩
   have g5:=k1.trans (Ah e8 (.lst (b8 ++ [V.ref e])))
   have c6:wy∉[sl,wl]:=(m4.mono k1).off e8
   have a9:=Ae (H:=upd H4 l1 (.lst [V.ref e])) (a:=wy) (o:=.lst (b8 ++ [V.ref e]))
   generalize (upd (upd H4 l1 (.lst [V.ref e])) wy (.lst (b8 ++ [V.ref e]))) = H5 at g5 a9
   have a8:=OF.kp (Same.kpS g5) i9
   have c3:=hP.mono (g4.trans g5)
   refine ⟨_,rfl,_,rfl,_,rfl,sl,_,_,_,rfl,rfl,SqL.of (g5 _ _ a7),Ai d8,_,rfl,pr,sv,e,n,p,_,[],rfl,c3,OF.st a8,SqL.of (g5 _ _ ee),λ kd H6 g6 e6=>?_⟩
   have e6:H6 kd = some (.lst ((knW p (sqW p n i) n []).map vO)):=e6
   have h7:(knW p (sqW p n i) n []).length≤30:=by rw [Yx]; exact hP.nb
   refine ⟨_,rfl,kd,_,rfl,.inl (SqL.of e6),rfl,Zr _,_,rfl,?_⟩
   try dsimp only
   rw [if_neg Bool.false_ne_true,Zo,uM hn]
   refine Bj ⟨_,rfl,_,rfl,_,rfl,sl,_,_,_,rfl,rfl,SqL.of (g6 _ _ (g5 _ _ a7)),Ai d8,_,rfl,some true,kd,_,rfl,SqL.of e6,h7,λ th H7 g7 f7 e7=>?_⟩
   have a5:=g6.trans g7
   obtain ⟨i3,h4,vb',f4,f3⟩:=(c3.mono a5).pa
   refine ⟨pr,i3,h4,_,vb',p,sv,_,th,_,rfl,SqT.of f4,f3,OF.st (OF.kp (Same.kpS a5) a8),SqL.of e7,hP.hg,(by have:=hP.sc; omega),(by have:=hP.rc; omega),λ tB H8 g8 d=>?_⟩
   obtain ⟨m1,bl,d1,d2,d3,u1,u2⟩:=d
   refine ⟨tB,_,_,.ref bl,rfl,rfl,SqT.of d1,Ai (j:=2) rfl,?_⟩
   have c0:=a5.trans g8
   have a2:=g5.trans c0
   have c9:=a2 _ _ a7
   have i5:=a2 _ _ b9
   have h9:bl∉[sl,wl]:=(m4.mono (g5.trans a5)).off u2
   have f9:H bl = none:=((g4.trans g5).trans a5).free u2
   have d7:OF H [sl,wl] H8 (sqW p n (i + 1)) (.ref bl):=⟨bl,rfl,h9,f9,d3⟩
   have c8:=Paired.mapP b6 λ _ _ z=>OF.kp (Same.kpS a2) z
   refine ⟨_,rfl,_,rfl,sl,sqW p n (i + 1),_,_,rfl,SqL.of c9,OF.ol d7,Paired.mapP c8 λ _ _ z=>OF.ol z,_,rfl,?_⟩
   try dsimp only
   rw [if_pos rfl,uM f2]
   have i6:=PySem.Paired.length b6
   rw [uD,vE] at i6
   refine Bs ⟨_,rfl,_,rfl,sl,a3,.ref bl,rfl,c9,by omega,?_⟩
   by_cases f1:i + 1 = 40
   ·exact .inl ⟨by omega,λ H9 g9=>hq _ ((g4.trans a2).trans g9)⟩
   refine .inr ⟨by omega,?_⟩
   have c7:(upd H8 sl (.lst (a3 ++ [V.ref bl]))) wl = some (.lst a1):=by rw [upd_ne (Ne.symm f0)]; exact i5
   refine ⟨_,rfl,.inl ⟨rfl,_,SqL.of c7⟩,_,rfl,wl,_,_,rfl,rfl,c7,Ip (by omega),?_⟩
   have kB:KpS [sl,wl] H8 (upd (upd H8 sl (.lst (a3 ++ [V.ref bl]))) wl (.lst (a1 ++ [V.ref wy]))):=(KpS.upd Af3.1).trans (KpS.upd Af3.2)
   refine ⟨_,_,_,_,rfl,kB _ _ f8 (a2 _ _ f5),.inr ⟨rfl,by omega,a3 ++ [V.ref bl],a1 ++ [V.ref wy],((g4.trans a2).young i8 _).young i4 _,by rw [upd_ne f0]; exact Ae,Ae,?_,by rw [uF,uG]; omega,λ k v hk=>?_⟩⟩
   ·rw [range_succ,uP]
    exact PySem.Paired.snoc (Paired.mapP c8 λ _ _ z=>OF.kp kB z) (OF.kp kB d7)
   ·rw [List.getElem?_append] at hk
    split at hk
    ·obtain ⟨r,xs,a,b,cc,dd⟩:=c5 k v hk
     exact ⟨r,xs,a,b,kB _ _ b (a2 _ _ cc),dd⟩
    ·rename_i j8
     cases hz:k - a1.length with
     | zero =>
      rw [hz] at hk
      cases hk
      exact ⟨wy,_,rfl,c6,kB _ _ c6 (c0 _ _ a9),by rw [uF,uG]; omega⟩
     | succ m=>rw [hz] at hk; simp at hk
  ·rintro σ H4 ⟨y4,y5,y6,y7,rfl,_,hh⟩
   rcases hh with ⟨z,_⟩ | ⟨_,f1,I4⟩
   ·cases z
   refine ⟨_,rfl,_,_,rfl,rfl,⟨i + 1,_,_,_,_,rfl,f1,I4⟩,?_⟩
   show (41 - ((i:Int) + 1)).toNat < (41 - (i:Int)).toNat
   omega
 ·rintro σ H Q Q' h ⟨v,e,v2,e',p,xs,e2,s,i,j,e3,e4,k,e5,q⟩
  exact ⟨v,e,v2,e',p,xs,e2,s,i,j,e3,e4,k,e5,h _ _ q⟩
end
end My
namespace L2
open PySem PySem.Spec PyProof.Rows
structure AeV (K:FA) (D:Addr) (m:Str) (f:Addr):Prop where
 ga:PySem.W.specialIn K (.ref D) "__getattribute__" = some (some (.builtin "type.__getattribute__"))
 rd:readsIn K D (.type "type") = true
 fc:findCls K (.ref D) (.type "type") m = some (.val (.ref f))
 kp:keepIn K (.ref f) = true
def Age (D:Addr) (sp:Sp) (E:XK) (ta:TE) (t:TA):TE:=λ σ H Q=>ta σ H λ x H1=>x = .ref D∧t σ H1 λ vs H2=>sp (vs ++ []) H2 Q E
section
variable {CX:CXT} {k:Nat} {D:Addr} {E:XK} {m:Str} {o:Expr} {t:TA}
theorem AeB (he:PE X o ta) (hm:AeV X.K D m f) (F:Bi X.prog X.w X.K X.mg X.base CX k f fd ps sp) (hr:Bp k X.A) (hb:Br X.K fd ps []) (hx:Dr CX X E) (ha:PA X (e :: es) t)
  (a2:starEach (e :: es) X.env = (false,eval e X.env) :: starEach es X.env:=by rfl) (a1:(backTo pos (starEach es X.env)).any (·.1) = false:=by rfl)
  (ht:eval (.Call (.Attribute o m apos) (e :: es) [] pos) X.env = (do
   let ov ← eval o X.env
   standAt apos.atName
   let (f,first) ← holding [ov] (getMethod ov m pl)
   callWith pos f first (backTo pos (starEach (e :: es) X.env)) (backToKw pos (keywordEach [] X.env))):=by rfl) :
  PE X (.Call (.Attribute o m apos) (e :: es) [] pos) (Age D sp E ta t):=by
 intro pins s σ H Q I h
 refine methodCall_KW (pl:=pl) (thn (he pins s σ H _ I h) λ u s1 ⟨x,H1,I1,rx,ex,q⟩=>?_) ht
 subst ex
 obtain rfl:u = Value.ref D:=rx
 refine PySem.W.method_cls I1.kIn hm.ga (PySem.W.cls_value I1.kIn hm.rd hm.fc rfl ?_)
 have I2:Inv X pins σ H1 { s1 with toks:=s1.toks + 1 }:=I1.tok _
 refine callWith_K (first:=[]) (h₀:=X.base) I.ok.mod.kin hm.kp (thn (ha pos pins _ σ H1 _ I2 q) λ us s2 ⟨vs,H2,I3,r,q2⟩=>⟨I3.kIn,?_⟩) a2 a1
 exact Nu (us:=us) (vs:=vs) F hr hb .nil hx I3 r q2
theorem Zb (M:Cy X.prog X.w X.K X.mg X.base j C m ps sp) (hr:Bp k X.A) (he:PE X.nox o ta) (ha:PA X.nox (e :: es) t) (hj:j≤k:=by first | decide | omega)
  (a2:starEach (e :: es) X.env = (false,eval e X.env) :: starEach es X.env:=by rfl) (a1:(backTo pos (starEach es X.env)).any (·.1) = false:=by rfl)
  (ht:eval (.Call (.Attribute o m apos) (e :: es) [] pos) X.env = (do
   let ov ← eval o X.env
   standAt apos.atName
   let (f,first) ← holding [ov] (getMethod ov m pl)
   callWith pos f first (backTo pos (starEach (e :: es) X.env)) (backToKw pos (keywordEach [] X.env))):=by rfl) :
  PX X (.Call (.Attribute o m apos) (e :: es) [] pos) (λ E=>Mb C m sp [] E ta t):=by
 obtain ⟨f,fd,F,b,me,c⟩:=M
 intro pins s σ H Q E xe I h hx
 refine methodCall_KW (pl:=pl) (vS (he pins s σ H _ (I.wish _) h) (λ u s1 ⟨x,H1,I1,rx,a,dx,fs,ex,ea,l,q⟩=>?_) λ _ _ z=>False.elim z) ht
 subst ex
 obtain rfl:u = Value.ref a:=rx
 refine L5 I1.unwish ea c me l ?_
 refine callWith_K (first:=[.ref a]) (h₀:=X.base) I.ok.mod.kin me.kp (vS (ha pos pins s1 σ H1 _ I1 q) (λ us s2 ⟨vs,H2,I2,r,q2⟩=>⟨I2.unwish.kIn,?_⟩) λ _ _ z=>False.elim z) a2 a1
 have q3:sp (.ref a :: (vs ++ [])) H2 Q E:=q2
 rw [vG] at q3
 exact Aey (us:=.ref a :: us) (vs:=.ref a :: vs) (F.mono hj) hr b I2.unwish (.cons rfl r) q3 hx
end
end L2
namespace Dsk
open PySem L2 My
abbrev Z9:Stmt:=Bz P8 0
abbrev Acs:Stmt:=Bz P8 1
abbrev AaB:Stmt:=Bz P8 2
abbrev AaA:Stmt:=Bz X2 0
abbrev Aco:Stmt:=Bz X2 1
theorem Adh:Ar ["self"] ["self"] (Aj Z9):=Az (by decide +kernel)
theorem Yv:Ar ["self", "coming", "done"] ["self", "coming"] (Aj Acs):=Az (by decide +kernel)
theorem Ad4:Ar ["self"] ["self"] (Aj AaB):=Az (by decide +kernel)
theorem AdO:Ar ["self", "program"] ["self", "program"] (Aj AaA):=Az (by decide +kernel)
theorem Y9:Ar ["self", "coming", "there"] ["self", "coming"] (Aj Aco):=Az (by decide +kernel)
structure Ph (K:FA) (mg:Str→Option Value) (cW cR cUn:Addr):Prop extends Txt mg where
 cl:Cls K cW
 nR:Dk K cW "reached"
 nP:Dk K cW "program"
 m_Runner:mg "Runner" = some (.ref cR)
 m_Walker:mg "Walker" = some (.ref cW)
 m_Un:mg "Unsettled" = some (.ref cUn)
 excU:Ja K cUn
def flR (sv:V) (pr:Addr):List (Str× V):=[("reached", sv),("program", .ref pr)]
def U6 (K:FA) (cUn:Addr):Sp:=λ vs H Q E=>∃ (kl:Addr) (kn:List (Option Bool)),vs = [.ref kl]∧SqL K H kl (kn.map vO)∧kn.length≤30 ∧
 ((none∈kn∧∀ H',Same H H'→E (.ref cUn) none H')∨(¬ none∈kn∧∀ r H',Same H H'→H r = none→H' r = some (.lst ((Dg (some true) kn).map V.int))→Q (.ref r) H'))
inductive AbX  (vs:List V) (H:Hp) (Q:VK):Prop
 | mk (o C dx:Addr) (fs:List (Str× V)) (_:vs = [.ref o]) (_:H o = some (.ins C dx fs)) (_:fs.length < 1000) (_:Q .non (upd H o (.ins C dx (B5 "reached" .non fs)))):AbX  vs H Q
def Agj:Sp:=λ vs H Q _=>AbX  vs H Q
inductive Abv (cW:Addr) (vs:List V) (H:Hp) (Q:VK):Prop
 | mk (o dx pr:Addr) (_:vs = [.ref o,.ref pr]) (_:H o = some (.ins cW dx [])) (_:∀ H',Kp o H H'→H' o = some (.ins cW dx (flR .non pr))→Q .non H'):Abv cW vs H Q
def Agw (cW:Addr):Sp:=λ vs H Q _=>Abv cW vs H Q
def Ah8 (H H':Hp):Option (List Int)→V→Prop
 | none,v=>v = .non
 | some ns,v=>∃ r,v = .ref r∧H r = none∧H' r = some (.lst (ns.map V.int))
inductive S3 (K:FA) (cW:Addr) (vs:List V) (H:Hp) (Q:VK):Prop
 | mk (o dx pr:Addr) (sv:V) (st:Option (List Int)) (_:vs = [.ref o]) (_:H o = some (.ins cW dx (flR sv pr))) (_:Fn K H st sv) (_:∀ v H',Same H H'→Ah8 H H' st v→Q v H'):S3 K cW vs H Q
def Zy (K:FA) (cW:Addr):Sp:=λ vs H Q _=>S3 K cW vs H Q
def Abi (K:FA) (cW cUn:Addr):Sp:=λ vs H Q E=>∃ (o dx pr co:Addr) (sv:V) (st:Option (List Int)) (n:Nat) (p:Pt) (cs:List Int),vs = [.ref o,.ref co]∧H o = some (.ins cW dx (flR sv pr))∧K7 K H pr n p∧Fn K H st sv∧SqL K H co (cs.map V.int) ∧
 ((none∈knW p st n cs∧∀ H',Same H H'→E (.ref cUn) none H')∨(¬ none∈knW p st n cs∧∀ t r b H',Same H H'→H' t = some (.tup [.ref r,.ref b])→H r = none→H b = none→r≠b→H' r = some (.lst ((Dg (some true) (knW p st n cs)).map V.int))→H' b = some (.lst ((Lz p st (Dg (some true) (knW p st n cs))).2.2.map V.int))→Q (.ref t) H'))
def AbR (K:FA) (cW cUn:Addr):Sp:=λ vs H Q E=>∃ (o dx pr co:Addr) (sv:V) (st:Option (List Int)) (n:Nat) (p:Pt) (cs:List Int),vs = [.ref o,.ref co]∧H o = some (.ins cW dx (flR sv pr))∧K7 K H pr n p∧Fn K H st sv∧SqL K H co (cs.map V.int)∧cs.length < 64 ∧
 ((none∈knW p st n (nub cs)∧∀ H',Same H H'→E (.ref cUn) none H')∨(¬ none∈knW p st n (nub cs)∧∀ r b H',Kp o H H'→H' o = some (.ins cW dx (flR (.ref b) pr))→H r = none→H b = none→r≠b→H' r = some (.lst ((Dg (some true) (knW p st n (nub cs))).map V.int))→H' b = some (.lst ((Lz p st (Dg (some true) (knW p st n (nub cs)))).2.2.map V.int))→Q (.ref r) H'))
section
variable {cW cR cUn:Addr}
theorem Ahv (F:Bd K mg "signs_there" ["known"] Je) (T:Ph K mg cW cR cUn) (aL:Am P w K mg base 1 "signs_that_are" ["value", "known"] (Uw K)):Bc P w K mg base 2 "signs_there" ["known"] (U6 K cUn):=by
 refine F.okX Sb (λ vs H Q E h=>?_) (λ f cdv A outer s H vs Q E hr h=>?_)
 ·obtain ⟨kl,kn,rfl,_⟩:=h; rfl
 obtain ⟨kl,kn,rfl,hS,hl,h⟩:=h
 refine ⟨_,(Ac (Ax (Ao Bw Ce (pv 0) (by rfl))
   (Ag (Ci T.excU T.m_Un rfl (Aa Al Ab)))
   Au)
  (Ag (Aq (Ap aL hr rfl Av (Aa Dy (Aa (pv 0) Ab)))))),?_⟩
 refine ⟨_,rfl,kl,_,rfl,.inl hS,rfl,Zr kn,_,rfl,?_⟩
 dsimp only
 rw [if_neg Bool.false_ne_true,Zo]
 rcases h with ⟨hn,e⟩ | ⟨hn,q⟩
 ·rw [uK hn]
  exact Bs ⟨by show 1≤sizeLine; decide,e _ (Same.refl _)⟩
 ·rw [uM hn]
  exact Bj ⟨_,rfl,some true,kl,kn,rfl,hS,hl,λ r H' g f e=>q r H' g f e⟩
theorem Ah6 (F:Fun K "__init__" "Runner.__init__" Z9 f fd) (T:Ph K mg cW cR cUn):Bi P w K mg base CX0 1 f fd ["self"] (λ vs H Q E=>Agj vs H Q E∧∃ o dx fs,vs = [.ref o]∧H o = some (.ins cW dx fs)):=by
 refine F.ok Adh (λ vs H Q E h=>?_) (λ cdv A outer s H vs Q E hr h=>?_)
 ·obtain ⟨⟨o,C,dx,fs,rfl,_⟩,_⟩:=h; rfl
 obtain ⟨⟨o,C,dx,fs,rfl,ho,hl,q⟩,o',a2,fs',e,a1⟩:=h
 cases e
 rw [ho] at a1
 cases a1
 refine ⟨_,(Ag (Db (pv 0) Ce rfl)),?_⟩
 exact ⟨_,rfl,o,cW,dx,fs,rfl,ho,T.cl,T.nR,hl,q⟩
theorem AiT (F:Fun K "__init__" "Walker.__init__" AaA f fd) (T:Ph K mg cW cR cUn) (M:AeV K cR "__init__" g) (G:Bi P w K mg base CX0 1 g gd ["self"] (λ vs H Q E=>Agj vs H Q E∧∃ o dx fs,vs = [.ref o]∧H o = some (.ins cW dx fs))) (hb:Br K gd ["self"] []):Bi P w K mg base CX0 2 f fd ["self", "program"] (Agw cW):=by
 refine F.ok AdO (λ vs H Q E h=>?_) (λ cdv A outer s H vs Q E hr h=>?_)
 ·obtain ⟨o,dx,pr,rfl,_⟩:=h; rfl
 obtain ⟨o,dx,pr,rfl,ho,q⟩:=h
 refine ⟨_,(Ac (Bo (AeB (Bb (v:=.ref cR) rfl T.m_Runner rfl) M G hr hb Av (Aa (pv 0) Ab)))
  (Ag (Db (pv 0) (pv 1) rfl))),?_⟩
 refine ⟨rfl,_,rfl,⟨o,cW,dx,[],rfl,ho,(by show 0 < 1000; decide),?_⟩,o,dx,[],rfl,ho⟩
 refine ⟨_,rfl,_,rfl,o,cW,dx,_,rfl,Ae,T.cl,T.nP,(by show 1 < 1000; decide),?_⟩
 exact q _ (Kp.upd.trans Kp.upd) Ae
theorem Aio (F:Fun K "state" "Runner.state" AaB f fd) (T:Ph K mg cW cR cUn):Bi P w K mg base CX0 1 f fd ["self"] (Zy K cW):=by
 refine F.ok Ad4 (λ vs H Q E h=>?_) (λ cdv A outer s H vs Q E hr h=>?_)
 ·obtain ⟨o,dx,pr,sv,st,rfl,_⟩:=h; rfl
 obtain ⟨o,dx,pr,sv,st,rfl,ho,a1,q⟩:=h
 refine ⟨_,(Ag (Aq (Bu (Ao J4 (B7 (pv 0) rfl) Ce (Aw _)) Ce (Kq J2 rfl T.n_list (by decide +kernel) (Aa (B7 (pv 0) rfl) Ab))))),?_⟩
 refine ⟨_,rfl,o,cW,dx,_,sv,rfl,ho,T.cl,T.nR,rfl,rfl,_,rfl,?_⟩
 cases st with
 | none =>
  cases (show sv = .non from a1)
  exact Bs (q _ _ (Same.refl _) rfl)
 | some ns =>
  obtain ⟨a,rfl,hS⟩:=a1
  exact Bj ⟨_,rfl,o,cW,dx,_,.ref a,rfl,ho,T.cl,T.nR,rfl,a,_,rfl,.inl hS,λ l hl=>q _ _ (Ah hl _) ⟨l,rfl,hl,Ae⟩⟩
theorem Aiu (F:Fun K "done_with" "Walker.done_with" Aco f fd) (T:Ph K mg cW cR cUn) (dA:Bc P w K mg base 2 "signs_there" ["known"] (U6 K cUn)) (cG:Am P w K mg base 47 "settled" ["program", "state", "coming"] (Aah K)) (cH:Am P w K mg base 45 "instant" ["program", "state", "there"] (Vh K 40)):Bi P w K mg base (CX1 P w) 48 f fd ["self", "coming"] (Abi K cW cUn):=by
 refine F.okX Y9 (λ vs H Q E h=>?_) (λ cdv A outer s H vs Q E hr h=>?_)
 ·obtain ⟨o,dx,pr,co,sv,st,n,p,cs,rfl,_⟩:=h; rfl
 obtain ⟨o,dx,pr,co,sv,st,n,p,cs,rfl,ho,hP,a6,hS,h⟩:=h
 refine ⟨_,(Ac (As (i:=2) Y9.nd rfl (Or.inl rfl) (Bm dA hr rfl (Aa (Ap cG hr rfl Av (Aa (B7 (pv 0) rfl) (Aa (B7 (pv 0) rfl) (Aa (pv 1) Ab)))) Ab)))
  (Ag (Aq (Bg (Aa (pv 2) (Aa (An Ak (Ap cH hr rfl Av (Aa (B7 (pv 0) rfl) (Aa (B7 (pv 0) rfl) (Aa (pv 2) Ab)))) Af (λ _ _=>rfl)) Ab)))))),?_⟩
 refine ⟨_,rfl,o,cW,dx,_,.ref pr,rfl,ho,T.cl,T.nP,rfl,_,rfl,o,cW,dx,_,sv,rfl,ho,T.cl,T.nR,rfl,_,rfl,pr,sv,co,n,p,st,cs,rfl,hP,a6,hS,λ kl H1 g1 e1=>?_⟩
 refine ⟨kl,knW p st n cs,rfl,SqL.of e1,by rw [Yx]; exact hP.nb,?_⟩
 rcases h with ⟨hn,e⟩ | ⟨hn,q⟩
 ·exact .inl ⟨hn,λ H' g=>e _ (g1.trans g)⟩
 refine .inr ⟨hn,λ r H2 g2 f2 e2=>?_⟩
 have a4:=g1.trans g2
 have a5:=a4 _ _ ho
 obtain ⟨x0,x1,v,a7,a8⟩:=(hP.mono a4).pa
 refine ⟨_,rfl,_,rfl,o,cW,dx,_,.ref pr,rfl,a5,T.cl,T.nP,rfl,_,rfl,o,cW,dx,_,sv,rfl,a5,T.cl,T.nR,rfl,_,rfl,pr,x0,x1,_,v,p,sv,st,r,_,rfl,SqT.of a7,a8,Ks a4 a6,SqL.of e2,hP.hg,(by have:=hP.sc; omega),(by have:=hP.rc; omega),λ t H3 g3 d=>?_⟩
 obtain ⟨l1,l2,a1,a2,a3,f1,f3⟩:=d
 refine ⟨t,_,_,.ref l2,rfl,rfl,SqT.of a1,Ai (j:=2) rfl,zN2,λ t2 a9=>?_⟩
 have k4:=Ah a9 (.tup [.ref r,.ref l2])
 exact q t2 r l2 _ ((a4.trans g3).trans k4) Ae (g1.free f2) (a4.free f3) (λ z=>by rw [z,f3] at e2; cases e2) (k4 _ _ (g3 _ _ e2)) (k4 _ _ a3)
theorem Aiw (F:Fun K "tick" "Runner.tick" Acs f fd) (T:Ph K mg cW cR cUn) (dL:Cy P w K mg base 48 cW "done_with" ["self", "coming"] (Abi K cW cUn)):Bi P w K mg base (CX1 P w) 49 f fd ["self", "coming"] (AbR K cW cUn):=by
 refine F.okX Yv (λ vs H Q E h=>?_) (λ cdv A outer s H vs Q E hr h=>?_)
 ·obtain ⟨o,dx,pr,co,sv,st,n,p,cs,rfl,_⟩:=h; rfl
 obtain ⟨o,dx,pr,co,sv,st,n,p,cs,rfl,ho,hP,a4,hS,hl,h⟩:=h
 refine ⟨_,(Ac (As (i:=2) Yv.nd rfl (Or.inl rfl) (Dh dL hr (pv 0) (Aa (Gi rfl rfl T.n_sorted rfl T.n_set (pv 1)) Ab)))
  (Ac (Db (pv 0) (An Ak (pv 2) Af (λ _ _=>rfl)) rfl)
  (Ag (Aq (An Ak (pv 2) Af (λ _ _=>rfl)))))),?_⟩
 refine ⟨_,rfl,o,dx,_,rfl,ho,rfl,_,rfl,co,cs,rfl,hS,hl,λ c1 a3=>?_⟩
 have k1:=Ah a3 (.lst ((nub cs).map V.int))
 refine ⟨o,dx,pr,c1,sv,st,n,p,nub cs,rfl,k1 _ _ ho,hP.mono k1,Ks k1 a4,SqL.of Ae,?_⟩
 rcases h with ⟨hn,e⟩ | ⟨hn,q⟩
 ·exact .inl ⟨hn,λ H' g=>e _ (k1.trans g)⟩
 refine .inr ⟨hn,λ t r b H2 g2 et fr fb ne er eb=>?_⟩
 have a2:=k1.trans g2
 have a1:=a2 _ _ ho
 refine ⟨_,rfl,t,_,_,.ref b,rfl,rfl,SqT.of et,Ai (j:=1) rfl,_,rfl,o,cW,dx,_,rfl,a1,T.cl,T.nR,(by show 2 < 1000; decide),?_⟩
 have nt:t≠o:=λ z=>by rw [z,a1] at et; cases et
 have nr:r≠o:=λ z=>by rw [z,a1] at er; cases er
 have nb:b≠o:=λ z=>by rw [z,a1] at eb; cases eb
 refine ⟨_,rfl,t,_,_,.ref r,rfl,rfl,SqT.of (by rw [upd_ne nt]; exact et),Ai (j:=0) rfl,?_⟩
 exact q r b _ (λ c u hc e=>by rw [upd_ne hc]; exact a2 _ _ e) Ae (k1.free fr) (k1.free fb) ne (by rw [upd_ne nr]; exact er) (by rw [upd_ne nb]; exact eb)
end
abbrev AaE:Stmt:=Bz Iw 0
abbrev Aeb:Stmt:=Bz Iw 1
abbrev Acr:Stmt:=Bz Iw 2
abbrev AaD:Stmt:=Bz Iw 3
abbrev AaC:Stmt:=Bz Iw 4
abbrev Z8:Stmt:=Bz Iw 5
abbrev Rj:Stmt:=Bz Iw 6
abbrev Act:Stmt:=Bz Iw 7
theorem Adk:Ar ["self"] ["self"] (Aj AaE):=Az (by decide +kernel)
theorem Afs:Ar ["self", "row"] ["self", "row"] (Aj Aeb):=Az (by decide +kernel)
theorem Yi:Ar ["self", "text", "named"] ["self", "text"] (Aj Acr):=Az (by decide +kernel)
theorem AdA:Ar ["self"] ["self"] (Aj AaD):=Az (by decide +kernel)
theorem Pk:Ar ["self", "state", "count"] ["self"] (Aj AaC):=Az (by decide +kernel)
theorem Vz:Ar ["self", "told", "count", "waiting"] ["self"] (Aj Z8):=Az (by decide +kernel)
theorem Om:Ar ["self", "names", "coming", "there", "outs"] ["self", "names"] (Aj Rj):=Az (by decide +kernel)
theorem AfP:Ar ["self", "name"] ["self", "name"] (Aj Act):=Az (by decide +kernel)
def dfl (i o:Addr) (p wv:V):List (Str× V):=[("ins", .ref i),("outs", .ref o),("program", p),("walker", wv)]
structure Pg where
 ins:List Str
 outs:List Str
 n:Nat
 p:Pt
inductive Ld (K:FA) (cD cW:Addr) (H:Hp) (d wa:Addr) (g:Pg) (st:Option (List Int)):Prop
 | mk (dx i o pr dw:Addr) (x1 vb sv:V) (hd:H d = some (.ins cD dx (dfl i o (.ref pr) (.ref wa)))) (hi:H i = some (.lst (g.ins.map V.str))) (ho:H o = some (.lst (g.outs.map V.str))) (hp:K7 K H pr g.n g.p) (ht:H pr = some (.tup [.int g.ins.length,x1,.int g.n,vb])) (hw:H wa = some (.ins cW dw (flR sv pr))) (hs:Fn K H st sv):Ld K cD cW H d wa g st
theorem Ld.same (k:Same H H') (h:Ld K cD cW H d wa g st):Ld K cD cW H' d wa g st:=by
 obtain ⟨dx,i,o,pr,dw,x1,vb,sv,hd,hi,ho,hp,ht,hw,hs⟩:=h
 exact ⟨dx,i,o,pr,dw,x1,vb,sv,k _ _ hd,k _ _ hi,k _ _ ho,hp.mono k,k _ _ ht,k _ _ hw,Ks k hs⟩
def Fb (cD:Addr) (H:Hp) (d:Addr):Prop:=∃ dx i o,H d = some (.ins cD dx (dfl i o .non .non))
def whS:Option (List Int)→Str
 | none=> "begin"
 | some []=> "ended"
 | some (x :: l)=>Str.empty ++ "rests " ++ Str.ofString (toString (((x :: l).length:Nat):Int))
def ofT (n:Nat) (th:List Int) (l:List Str):List Str:=((l.zipIdx n).filter λ p=>inV (.int p.2) (th.map V.int)).map (·.1)
inductive Acb (cD:Addr) (vs:List V) (H:Hp) (Q:VK):Prop
 | mk (d dx:Addr) (_:vs = [.ref d]) (_:H d = some (.ins cD dx [])) (_:∀ i o H',Kp d H H'→H' d = some (.ins cD dx (dfl i o .non .non))→Q .non H'):Acb cD vs H Q
def Agq (cD:Addr):Sp:=λ vs H Q _=>Acb cD vs H Q
inductive Ug (cD cW:Addr) (vs:List V) (H:Hp) (Q:VK):Prop
 | mk (d dx i o pr:Addr) (wv:V) (_:vs = [.ref d]) (_:H d = some (.ins cD dx (dfl i o (.ref pr) wv))) (_:∀ wa dw H',Kp d H H'→H wa = none→H' d = some (.ins cD dx (dfl i o (.ref pr) (.ref wa)))→H' wa = some (.ins cW dw (flR .non pr))→Q (.str "ok") H'):Ug cD cW vs H Q
def Ze (cD cW:Addr):Sp:=λ vs H Q _=>Ug cD cW vs H Q
inductive Tv (K:FA) (cD cW:Addr) (vs:List V) (H:Hp) (Q:VK):Prop
 | mk (d wa:Addr) (g:Pg) (st:Option (List Int)) (_:vs = [.ref d]) (_:Ld K cD cW H d wa g st) (_:(∀ l,st = some l→l.length≤40)) (_:∀ H',Same H H'→Q (.str (whS st)) H'):Tv K cD cW vs H Q
def Yo (K:FA) (cD cW:Addr):Sp:=λ vs H Q _=>Tv K cD cW vs H Q
def Wm (cD cNN:Addr):Sp:=λ vs H Q E=>∃ (d dx i o:Addr) (pv wv:V) (ins:List Str) (x:Str),vs = [.ref d,.str x]∧H d = some (.ins cD dx (dfl i o pv wv))∧H i = some (.lst (ins.map V.str))∧x.length≤1000∧((x∈ins∧Q (.int (ins.idxOf x:Nat)) H)∨(¬ x∈ins∧E (.ref cNN) none H))
def Zc (K:FA) (cD cW cTM:Addr):Sp:=λ vs H _ E=>∃ (d wa:Addr) (g:Pg) (st:Option (List Int)),vs = [.ref d]∧Ld K cD cW H d wa g st∧g.ins.length = 0∧LkM g.p g.n∧∀ H',Same H H'→E (.ref cTM) none H'
theorem Th :∀ {l:List Str},x∈l→l[l.idxOf x]? = some x∧∀ m,m < l.idxOf x→∀ z,l[m]? = some z→z≠x
 | y :: l,h=>by
  by_cases e:y = x
  ·subst e
   rw [List.idxOf_cons_self]
   exact ⟨rfl,λ m hm=>absurd hm (Nat.not_lt_zero _)⟩
  ·rw [List.idxOf_cons,beq_false_of_ne e,cond_false]
   have ih:=Th ((vI.mp h).resolve_left λ z=>e z.symm)
   refine ⟨ih.1,λ m hm z hz=>?_⟩
   cases m with
   | zero=>cases hz; exact e
   | succ m=>exact ih.2 m (by omega) z hz
theorem Ahh:∀ n:Nat,n≤40→(Str.ofString (toString (n:Int))).length≤10:=by decide +kernel
theorem Ig :Dr (CX1 P w) X E0:=λ _ _ _ _ _ _ _ ⟨_,_,_,_,_,_,hE,_⟩=>hE.elim
section
variable {cD aBR cNR cNP cNN cUn cW cR cTM:Addr}
seal PSs PS PE PA PT
theorem AiI (F:Fun K "__init__" "Desk.__init__" AaE f fd) (T:Ka K mg cD aBR cNR cNP cNN cUn):Bi P w K mg base CX0 1 f fd ["self"] (Agq cD):=by
 refine F.ok Adk (λ vs H Q E h=>?_) (λ cdv A outer s H vs Q E hr h=>?_)
 ·obtain ⟨d,dx,rfl,_⟩:=h; rfl
 obtain ⟨d,dx,rfl,hd,q⟩:=h
 refine ⟨_,(Ac (Db (pv 0) (Ba Ab) rfl)
  (Ac (Db (pv 0) (Ba Ab) rfl)
  (Ac (Db (pv 0) Ce rfl)
  (Ag (Db (pv 0) Ce rfl))))),?_⟩
 refine ⟨zN0,λ i hi=>?_⟩
 have ni:=Ay hd hi
 refine ⟨_,rfl,d,cD,dx,_,rfl,(Ah hi _) _ _ hd,T.clD,T.nI,(by show 0 < 1000; decide),zN0,λ o ho=>?_⟩
 refine ⟨_,rfl,d,cD,dx,_,rfl,(Ah ho _) _ _ Ae,T.clD,T.nO,(by show 1 < 1000; decide),?_⟩
 refine ⟨_,rfl,d,cD,dx,_,rfl,Ae,T.clD,T.nP,(by show 2 < 1000; decide),?_⟩
 refine ⟨_,rfl,d,cD,dx,_,rfl,Ae,T.clD,T.nW,(by show 3 < 1000; decide),?_⟩
 refine q i o _ (λ b u hb e=>?_) Ae
 rw [upd_ne hb,upd_ne hb,upd_ne hb]
 refine (Ah ho _) _ _ ?_
 rw [upd_ne hb]
 exact (Ah hi _) _ _ e
theorem Aij (F:Fun K "begin" "Desk.begin" AaD f fd) (T:Ka K mg cD aBR cNR cNP cNN cUn) (TN:Ph K mg cW cR cUn) (a2:Mk K cW fI) (GI:Bi P w K mg base CX0 2 fI fdI ["self", "program"] (Agw cW)) (bI:Br K fdI ["self", "program"] []):Bi P w K mg base CX0 4 f fd ["self"] (Ze cD cW):=by
 refine F.ok AdA (λ vs H Q E h=>?_) (λ cdv A outer s H vs Q E hr h=>?_)
 ·obtain ⟨d,dx,i,o,pr,wv,rfl,_⟩:=h; rfl
 obtain ⟨d,dx,i,o,pr,wv,rfl,hd,q⟩:=h
 refine ⟨_,(Ac (Db (pv 0) (Rz a2 GI (hr.mono (by decide)) rfl TN.m_Walker bI .nil Av (Aa (B7 (pv 0) rfl) Ab)) rfl)
  (Ag (Aq Al))),?_⟩
 refine ⟨_,rfl,d,cD,dx,_,.ref pr,rfl,hd,T.clD,T.nP,rfl,λ x dy nx a1 ne=>⟨x,dy,pr,rfl,Ae,λ H1 k1 e1=>?_⟩⟩
 have g1:=(show Same H (upd (upd H dy (.own x)) x (.ins cW dy [])) from λ b u e=>by
  rw [upd_ne (Ay e nx),upd_ne (Ay e a1)]
  exact e).byKp nx k1
 have nd:x≠d:=λ z=>by rw [z,hd] at nx; cases nx
 refine ⟨rfl,_,rfl,d,cD,dx,_,rfl,g1 _ _ hd,T.clD,T.nW,(by show 4 < 1000; decide),?_⟩
 exact q x dy _ (λ b u hb e=>by rw [upd_ne hb]; exact g1 _ _ e) nx Ae (by rw [upd_ne nd]; exact e1)
theorem AiL (F:Fun K "where" "Desk.where" AaC f fd) (T:Ka K mg cD aBR cNR cNP cNN cUn) (eI:Cu P w K mg base 1 cW "state" ["self"] (Zy K cW)):Bi P w K mg base CX0 2 f fd ["self"] (Yo K cD cW):=by
 refine F.ok Pk (λ vs H Q E h=>?_) (λ cdv A outer s H vs Q E hr h=>?_)
 ·obtain ⟨d,wa,g,st,rfl,_⟩:=h; rfl
 obtain ⟨d,wa,g,st,rfl,hL,hb,q⟩:=h
 obtain ⟨dx,i,o,pr,dw,x1,vb,sv,hd,hi,ho,hp,ht,hw,hs⟩:=hL
 refine ⟨_,(Ac (As (i:=1) Pk.nd rfl (Or.inl rfl) (Bt eI hr Av (B7 (pv 0) rfl)))
  (Ac (Ax (Ao J4 (pv 1) Ce (Aw _))
   (Ag (Aq Al))
   Au)
  (Ac (Ax (Ao (Af9 hr.units0) (pv 1) (Ba Ab) (Aw _))
   (Ag (Aq Al))
   Au)
  (Ac (As (i:=2) Pk.nd rfl (Or.inl rfl) (Be Da rfl T.n_len PySem.boot_len (Aa (pv 1) Ab)))
  (Ag (Aq (Jo (.cons Al (.cons (AhE (pv 2)) .nil))))))))),?_⟩
 refine ⟨_,rfl,d,cD,dx,_,.ref wa,rfl,hd,T.clD,T.nW,rfl,wa,dw,_,rfl,hw,rfl,wa,dw,pr,sv,st,rfl,hw,hs,λ v H1 g1 c1=>?_⟩
 cases st with
 | none =>
  cases (show v = .non from c1)
  exact ⟨_,rfl,rfl,_,rfl,Bs (q _ g1)⟩
 | some l =>
  obtain ⟨r,rfl,fr,er⟩:=c1
  refine ⟨_,rfl,rfl,_,rfl,Bj ⟨_,rfl,zN0,λ e he=>?_⟩⟩
  have k2:=Ah he (.lst [])
  refine ⟨r,e,l,[],rfl,rfl,SqL.of (k2 _ _ er),SqL.of Ae,_,rfl,?_⟩
  cases l with
  | nil=>exact Bs (q _ (g1.trans k2))
  | cons x l =>
   refine B0 (λ z=>by simp at z) λ _=>⟨_,rfl,r,_,rfl,.inl (SqL.of (k2 _ _ er)),?_⟩
   rw [uD]
   have h1:=hb _ rfl
   have l2:(Str.empty ++ "rests " ++ Str.ofString (toString (((x :: l).length:Nat):Int))).length≤sizeLine:=by
    rw [strLen_append]
    exact uX (add_le_add (show _≤6 by decide +kernel) (Ahh _ h1)) (by decide)
   exact ⟨_,rfl,(by decide +kernel),_,rfl,_,rfl,uX h1 (by decide),_,rfl,l2,l2,q _ (g1.trans k2)⟩
theorem Aiz (F:Fun K "sign_of_in" "Desk.sign_of_in" Act f fd) (T:Ka K mg cD aBR cNR cNP cNN cUn):Bi P w K mg base (CX1 P w) 1 f fd ["self", "name"] (Wm cD cNN):=by
 refine F.okX AfP (λ vs H Q E h=>?_) (λ cdv A outer s H vs Q E hr h=>?_)
 ·obtain ⟨d,dx,i,o,pv,wv,ins,x,rfl,_⟩:=h; rfl
 obtain ⟨d,dx,i,o,a1,wv,ins,x,rfl,hd,hi,hl,h⟩:=h
 refine ⟨_,(Ac (Ax (Ao Gm (pv 1) (B7 (pv 0) rfl) (by rfl))
   (Ag (Ci T.eNN T.m_NN rfl (Aa (Jo (.cons Al (.cons (AeO (pv 1)) .nil))) Ab)))
   Au)
  (Ag (Aq (Ew PySem.F.plainAttrs_list PySem.F.slot_list_index PySem.F.type_list_index Ac3 (B7 (pv 0) rfl) (Aa (pv 1) Ab))))),?_⟩
 refine ⟨_,rfl,_,rfl,d,cD,dx,_,.ref i,rfl,hd,T.clD,T.nI,rfl,i,_,rfl,.inl (SqL.of hi),rfl,Rd.D9 _,_,rfl,?_⟩
 have e:=Rd.Hg (x:=x) (ws:=ins)
 rcases h with ⟨hc,q⟩ | ⟨hc,q⟩
 ·refine B0 (λ z=>?_) λ _=>?_
  ·have z':=z
   rw [e,uK hc] at z'
   cases z'
  have ix:=Th hc
  refine ⟨_,rfl,d,cD,dx,_,.ref i,rfl,hd,T.clD,T.nI,rfl,.inl ⟨rfl,_,SqL.of hi⟩,_,rfl,i,_,.str x,ins.idxOf x,.str x,rfl,rfl,hi,rfl,Rd.D9 _,by rw [uJ,ix.1]; rfl,(by show (x == x) = true; simp),λ m z' hm hz=>?_,q⟩
  rw [uJ] at hz
  cases ez:ins[m]? with
  | none=>rw [ez] at hz; cases hz
  | some y =>
   rw [ez] at hz
   cases hz
   exact beq_false_of_ne (ix.2 m hm y ez)
 ·refine B0 (λ _=>?_) λ z=>?_
  ·have hx:x.length≤sizeLine:=uX hl (by decide)
   have l2:(Str.empty ++ "no in is called " ++ x).length≤sizeLine:=by
    rw [strLen_append]
    exact uX (add_le_add (show _≤16 by decide +kernel) hl) (by decide)
   exact ⟨_,rfl,(by decide +kernel),_,rfl,_,rfl,hx,_,rfl,l2,l2,by show 1≤sizeLine; decide,q⟩
  ·have z':=z
   rw [e,uM hc] at z'
   cases z'
theorem Aib (F:Fun K "judge" "Desk.judge" Z8 f fd) (T:Ka K mg cD aBR cNR cNP cNN cUn) (eE:Bc P w K mg base 48 "looked" ["program"] (AcX K cTM)):Bi P w K mg base (CX1 P w) 49 f fd ["self"] (Zc K cD cW cTM):=by
 refine F.okX Vz (λ vs H Q E h=>?_) (λ cdv A outer s H vs Q E hr h=>?_)
 ·obtain ⟨d,wa,g,st,rfl,_⟩:=h; rfl
 obtain ⟨d,wa,g,st,rfl,hL,h5,hm,q⟩:=h
 obtain ⟨dx,i,o,pr,dw,x1,vb,sv,hd,hi,ho,hp,ht,hw,hs⟩:=hL
 refine ⟨_,(Ac (As (i:=1) Vz.nd rfl (Or.inl rfl) (Bm eE hr rfl (Aa (B7 (pv 0) rfl) Ab)))
  (Ac Bq (Ac Bq (Ac Bq (Ag Bq))))),?_⟩
 refine ⟨_,rfl,d,cD,dx,_,.ref pr,rfl,hd,T.clD,T.nP,rfl,pr,g.n,g.p,x1,vb,rfl,hp,by rw [h5] at ht; exact ht,hm,q⟩
end
end Dsk
namespace Pln
open PySem L2 My
inductive Np where
 | nothing | rest
 | send (x:Str)
 | again (p:Np)
 | iff (x:Str) (p q:Np) | thn (p q:Np) | bes (p q:Np)
def Np.nd:Np→Nd
 | .nothing=>.t [.s "nothing"]
 | .rest=>.t [.s "rest"]
 | .send x=>.t [.s "send", .s x]
 | .again p=>.t [.s "again", p.nd]
 | .iff x p q=>.t [.s "if", .s x,p.nd,q.nd]
 | .thn p q=>.t [.s "then", p.nd,q.nd]
 | .bes p q=>.t [.s "beside", p.nd,q.nd]
abbrev Jc:=Str→Option Int
def upE (e:Jc) (x:Str) (n:Int):Jc:=λ y=>if y = x then some n else e y
def AeS:Nd:=.t [.s "nothing"]
def pl:Np→Jc→List (Option Str)→Int→Int→Nd× Int× Int
 | .nothing,_,_,sg,rs=>(AeS,sg,rs)
 | .rest,_,_,sg,rs=>(.t [.s "rest", .i rs],sg,rs + 1)
 | .send x,e,_,sg,rs=>(.t [.s "send", .i ((e x).getD 0)],sg,rs)
 | .again p,e,tr,sg,rs=>(.t [.s "again", .i (pl p e tr sg rs).2.2,(pl p e tr sg rs).1],(pl p e tr sg rs).2.1,(pl p e tr sg rs).2.2 + 1)
 | .iff x p q,e,tr,sg,rs=>(.t [.s "if", .i ((e x).getD 0),(pl p e tr sg rs).1,(pl q e tr (pl p e tr sg rs).2.1 (pl p e tr sg rs).2.2).1],(pl q e tr (pl p e tr sg rs).2.1 (pl p e tr sg rs).2.2).2)
 | .thn p q,e,tr,sg,rs=>(.t [.s "then", (pl p e tr sg rs).1,(pl q e tr (pl p e tr sg rs).2.1 (pl p e tr sg rs).2.2).1],(pl q e tr (pl p e tr sg rs).2.1 (pl p e tr sg rs).2.2).2)
 | .bes p q,e,tr,sg,rs=>(.t [.s "beside", (pl p e tr sg rs).1,(pl q e tr (pl p e tr sg rs).2.1 (pl p e tr sg rs).2.2).1],(pl q e tr (pl p e tr sg rs).2.1 (pl p e tr sg rs).2.2).2)
def okp:Np→Jc→List (Option Str)→Prop
 | .nothing,_,_=>True
 | .rest,_,_=>True
 | .send x,e,_=>∃ n,e x = some n
 | .again p,e,tr=>okp p e tr
 | .iff x p q,e,tr=>(∃ n,e x = some n)∧okp p e tr∧okp q e tr
 | .thn p q,e,tr=>okp p e tr∧okp q e tr
 | .bes p q,e,tr=>okp p e tr∧okp q e tr
def hgt:Np→Nat
 | .again p=>hgt p + 1
 | .iff _ p q=>max (hgt p) (hgt q) + 1
 | .thn p q=>max (hgt p) (hgt q) + 1
 | .bes p q=>max (hgt p) (hgt q) + 1
 | _=>0
def Ix:Np→Bool
 | .nothing | .rest | .send _=>true
 | _=>false
def Pq (H:Hp) (d:Addr) (e:Jc) (L:Nat):Prop:=∃ kvs:List (Key× V),H d = some (.dK kvs)∧kvs.length≤L∧∀ x:Str,D0 kvs (Sum.inr x:Key) = (e x).map V.int
def tV:Option Str→V
 | none=>.non
 | some x=>.str x
def Gs (sg rs:Int):List (Str× V):=B5 "rests" (.int rs) (B5 "signs" (.int sg) [])
theorem AaQ:¬ (("signs" : Str) = "rests"):=by decide +kernel
theorem Sc (sg rs:Int):Gs sg rs = ([("signs", V.int sg),("rests", V.int rs)]:List (Str× V)):=by
 show (if ("signs" : Str) = "rests" then [(("signs" : Str),V.int rs)] else (("signs" : Str),V.int sg) :: B5 "rests" (V.int rs) []) = ([("signs", V.int sg),("rests", V.int rs)]:List (Str× V))
 rw [if_neg AaQ]
 all_goals rfl
theorem AaR (sg rs:Int):(Gs sg rs).lookup ("signs" : Str) = some (.int sg):=by
 unfold Gs
 rw [B8,if_neg AaQ,B8,if_pos rfl]
theorem Ri (sg rs:Int):(Gs sg rs).lookup ("rests" : Str) = some (.int rs):=by
 unfold Gs
 rw [B8,if_pos rfl]
theorem Zt (sg rs:Int) {m:Str} (h1:¬ m = "rests") (h2:¬ m = "signs"):(Gs sg rs).lookup m = none:=by
 unfold Gs
 rw [B8,if_neg h1,B8,if_neg h2]
 all_goals rfl
theorem AcJ (sg rs r:Int):B5 "rests" (.int r) (Gs sg rs) = Gs sg r:=by
 rw [Sc,Sc]
 show (if ("signs" : Str) = "rests" then _ else (("signs" : Str),V.int sg) :: (if ("rests" : Str) = "rests" then [(("rests" : Str),V.int r)] else _)) = ([("signs", V.int sg),("rests", V.int r)]:List (Str× V))
 rw [if_neg AaQ,if_pos rfl]
def Kk (C:Addr) (H:Hp) (o:Addr) (sg rs:Int):Prop:=∃ dx,H o = some (.ins C dx (Gs sg rs))
structure P0 (K:FA) (mg:Str→Option Value) (C aN:Addr):Prop extends Txt mg where
 cl:Cls K C
 nS:Dk K C "signs"
 nR:Dk K C "rests"
 m_Numbers:mg "Numbers" = some (.ref C)
 m_NOTHING:mg "NOTHING_plain" = some (.ref aN)
 r_NOTHING:A8 (.ref aN) (Value.ref aN)
 mN:Gp K aN [.str "nothing"]
inductive J0 (C:Addr) (vs:List V) (H:Hp) (Q:VK):Prop
 | mk (o dx:Addr) (sg:Int) (_:vs = [.ref o,.int sg]) (_:H o = some (.ins C dx [])) (_:∀ H',Kp o H H'→Kk C H' o sg 0→Q .non H'):J0 C vs H Q
def Nf (C:Addr):Sp:=λ vs H Q _=>J0 C vs H Q
inductive V6 (C:Addr) (vs:List V) (H:Hp) (Q:VK):Prop
 | mk (o:Addr) (sg rs:Int) (_:vs = [.ref o]) (_:Kk C H o sg rs) (_:∀ H',Kp o H H'→Kk C H' o sg (rs + 1)→Q (.int rs) H'):V6 C vs H Q
def Q7 (C:Addr):Sp:=λ vs H Q _=>V6 C vs H Q
structure K2 (K:FA) (C:Addr) (H:Hp) (v:V) (n:Np) (d:Addr) (e:Jc) (L:Nat) (t:Addr) (tr:List (Option Str)) (o:Addr) (sg rs:Int):Prop where
 at':PAt K H n.nd v
 sg':Pq H d e L
 tr':H t = some (.lst (tr.map tV))
 nu:Kk C H o sg rs
 ok:okp n e tr
 hL:L + hgt n≤900
 ht:tr.length + hgt n≤900
inductive T0 (K:FA) (C:Addr) (vs:List V) (H:Hp) (Q:VK):Prop
 | mk (v:_) (n:_) (d) (e:_) (L) (t) (tr) (o) (sg) (rs) (_:vs = [v,.ref d,.ref t,.ref o]) (_:K2 K C H v n d e L t tr o sg rs) (_:Ix n = true) (_:∀ v' H',Kp o H H'→Kk C H' o (pl n e tr sg rs).2.1 (pl n e tr sg rs).2.2→PAt K H' (pl n e tr sg rs).1 v'→Q v' H'):T0 K C vs H Q
def Rt (K:FA) (C:Addr):Sp:=λ vs H Q _=>T0 K C vs H Q
inductive Wo (K:FA) (C:Addr) (k:Nat) (vs:List V) (H:Hp) (Q:VK):Prop
 | mk (v:_) (n:_) (d) (e:_) (L) (t) (tr) (o) (sg) (rs) (_:vs = [v,.ref d,.ref t,.ref o]) (_:K2 K C H v n d e L t tr o sg rs) (_:hgt n + 4≤k) (_:∀ v' H',Kp o H H'→Kk C H' o (pl n e tr sg rs).2.1 (pl n e tr sg rs).2.2→PAt K H' (pl n e tr sg rs).1 v'→Q v' H'):Wo K C k vs H Q
def Q5 (K:FA) (C:Addr) (k:Nat):Sp:=λ vs H Q _=>Wo K C k vs H Q
theorem Pq.kp {e:Jc} (k:Kp o H H') (h:H o = some (.ins C dx fs)) (s:Pq H d e L):Pq H' d e L:=by
 obtain ⟨kvs,a,b,c⟩:=s
 exact ⟨kvs,k _ _ (Cd a h (by intro z; cases z)) a,b,c⟩
section
variable {aN:Addr}
abbrev N6:Stmt:=Bz Ui 0
abbrev Rk:Stmt:=Bz Ui 2
theorem Rn:Ar ["self", "signs"] ["self", "signs"] (Aj N6):=Az (by decide +kernel)
theorem X5:Ar ["self"] ["self"] (Aj Rk):=Az (by decide +kernel)
theorem Aej (F:Fun K "__init__" "Numbers.__init__" N6 f fd) (T:P0 K mg C aN):Bi P w K mg base CX0 1 f fd ["self", "signs"] (Nf C):=by
 refine F.ok Rn (λ vs H Q E h=>?_) (λ cdv A outer s H vs Q E hr h=>?_)
 ·obtain ⟨o,dx,sg,rfl,_⟩:=h
  rfl
 obtain ⟨o,dx,sg,rfl,ho,q⟩:=h
 refine ⟨_,Ac (Db (pv 0) (pv 1) rfl) (Ag (Db (pv 0) Af rfl)),?_⟩
 refine ⟨_,rfl,_,rfl,o,C,dx,[],rfl,ho,T.cl,T.nS,(by show 0 < 1000; decide),_,rfl,o,C,dx,_,rfl,Ae,T.cl,T.nR,(by show 1 < 1000; decide),?_⟩
 exact q _ (Kp.upd.trans Kp.upd) ⟨dx,Ae⟩
theorem Ai0 (F:Fun K "new_rest" "Numbers.new_rest" Rk f fd) (T:P0 K mg C aN):Bi P w K mg base CX0 1 f fd ["self"] (Q7 C):=by
 refine F.ok X5 (λ vs H Q E h=>?_) (λ cdv A outer s H vs Q E hr h=>?_)
 ·obtain ⟨o,sg,rs,rfl,_⟩:=h
  rfl
 obtain ⟨o,sg,rs,rfl,⟨dx,ho⟩,q⟩:=h
 refine ⟨_,Ac (Db (pv 0) (A7 Ju (B7 (pv 0) rfl) Af) rfl) (Ag (Aq (A7 U0 (B7 (pv 0) rfl) Af))),?_⟩
 refine ⟨_,rfl,o,C,dx,_,_,rfl,ho,T.cl,T.nR,Ri _ _,_,_,rfl,rfl,_,rfl,o,C,dx,_,rfl,ho,T.cl,T.nR,(by rw [Sc]; show 2 < 1000; decide),?_⟩
 have e:(upd H o (.ins C dx (B5 "rests" (.int (rs + 1)) (Gs sg rs)))) o = some (.ins C dx (Gs sg (rs + 1))):=by rw [Ae,AcJ]
 refine ⟨_,rfl,o,C,dx,_,_,rfl,e,T.cl,T.nR,Ri _ _,_,_,rfl,rfl,?_⟩
 show Q (.int (rs + 1 - 1)) _
 rw [show rs + 1 - 1 = rs by omega]
 exact q _ Kp.upd ⟨dx,e⟩
theorem Abu {e:Jc} {n:Int} (s:Pq H d e L) (h:e x = some n):Pi H d (.str x) (some (.int ((e x).getD 0))):=by
 obtain ⟨kvs,a,b,c⟩:=s
 have:=Pi.k (k:=(Sum.inr x:Key)) a
 rw [c x,h] at this
 rw [h]
 exact this
theorem AgS (T:P0 K mg C aN) :PAt K H AeS (.ref aN):=.t (.inr T.mN) (.cons .s .nil)
theorem AcO :(Gs sg rs).lookup ("new_rest" : Str) = none∧(Gs sg rs).lookup ("new_sign" : Str) = none:=⟨Zt _ _ (by decide +kernel) (by decide +kernel),Zt _ _ (by decide +kernel) (by decide +kernel)⟩
theorem AiZ (F:Bd K mg "plain_leaf" ["part", "signs", "traps", "numbers"] Kd) (T:P0 K mg C aN) (bB:Cu P w K mg base 1 C "new_rest" ["self"] (Q7 C)) :
  Am P w K mg base 3 "plain_leaf" ["part", "signs", "traps", "numbers"] (Rt K C):=by
 refine F.ok Mx (λ vs H Q E h=>?_) (λ f cdv A outer s H vs Q E hr h=>?_)
 ·obtain ⟨v,n,d,e,L,t,tr,o,sg,rs,rfl,_⟩:=h
  rfl
 obtain ⟨v,n,d,e,L,t,tr,o,sg,rs,rfl,I,lf,q⟩:=h
 have hu:=Aal hr
 refine ⟨_,(Ac (As (i:=4) Mx.nd rfl (Or.inl rfl) (An Ak (pv 0) Af (λ _ _=>rfl)))
  (Ac (Ax (Ao A6 (pv 4) Al (Aw _))
   (Ag (Aq (Bg (Aa Al (Aa (Bt bB hr Av (pv 3)) Ab)))))
   Au)
  (Ac (Ax (Ao A6 (pv 4) Al (Aw _))
   (Ag Bq)
   Au)
  (Ac (Ax (Ao A6 (pv 4) Al (Aw _))
   (Ag (Aq (Bg (Aa Al (Aa (Yg hu (pv 1) (An Ak (pv 0) Af (λ _ _=>rfl)) (λ _ _=>rfl)) Ab)))))
   Au)
  (Ac (Ax (Ao A6 (pv 4) Al (Aw _))
   (Ag Bq)
   Au)
  (Ac (Ax (Ao A6 (pv 4) Al (Aw _))
   (Ag Bq)
   Au)
  (Ac (Ax (Ao A6 (pv 4) Al (Aw _))
   (Ag Bq)
   Au)
  (Ag (Aq (Bb rfl T.m_NOTHING T.r_NOTHING)))))))))),?_⟩
 obtain ⟨dx,ho⟩:=I.nu
 have a2:=I.at'
 have hok:=I.ok
 have a4:=I.sg'
 cases n with
 | nothing =>
   obtain ⟨a,vs,rfl,ha,aT⟩:=(show PAt K H (.t [.s "nothing"]) v from a2).get
   obtain ⟨v0,rfl,a0⟩:=aT.one
   cases a0.str
   refine ⟨_,rfl,a,_,_,.str "nothing", rfl,rfl,ha.sq,Ai (j:=0) rfl,?_⟩
   refine ⟨_,rfl,rfl,_,rfl,Bf (by decide +kernel) ?_⟩
   refine ⟨_,rfl,rfl,_,rfl,Bf (by decide +kernel) ?_⟩
   refine ⟨_,rfl,rfl,_,rfl,Bf (by decide +kernel) ?_⟩
   refine ⟨_,rfl,rfl,_,rfl,Bf (by decide +kernel) ?_⟩
   refine ⟨_,rfl,rfl,_,rfl,Bf (by decide +kernel) ?_⟩
   refine ⟨_,rfl,rfl,_,rfl,Bf (by decide +kernel) ?_⟩
   exact q _ _ (Kp.refl _) ⟨dx,ho⟩ (AgS T)
 | rest =>
   obtain ⟨a,vs,rfl,ha,aT⟩:=(show PAt K H (.t [.s "rest"]) v from a2).get
   obtain ⟨v0,rfl,a0⟩:=aT.one
   cases a0.str
   refine ⟨_,rfl,a,_,_,.str "rest", rfl,rfl,ha.sq,Ai (j:=0) rfl,?_⟩
   refine ⟨_,rfl,rfl,_,rfl,Ea ?_⟩
   refine ⟨_,rfl,o,dx,_,rfl,ho,AcO.1,o,sg,rs,rfl,⟨dx,ho⟩,λ H1 k1 ⟨a5,a6⟩=>⟨zN2,λ t2 a3=>?_⟩⟩
   have g:=Ah a3 (.tup [.str "rest", .int rs])
   exact q _ _ (k1.trans (Same.kp g)) ⟨a5,g _ _ a6⟩ (.t (.inl Ae) (.cons .s (.cons .i .nil)))
 | send x =>
   obtain ⟨a,vs,rfl,ha,aT⟩:=(show PAt K H (.t [.s "send", .s x]) v from a2).get
   obtain ⟨v0,v1,rfl,a0,a1⟩:=aT.two
   cases a0.str
   cases a1.str
   refine ⟨_,rfl,a,_,_,.str "send", rfl,rfl,ha.sq,Ai (j:=0) rfl,?_⟩
   refine ⟨_,rfl,rfl,_,rfl,Bf (by decide +kernel) ?_⟩
   refine ⟨_,rfl,rfl,_,rfl,Bf (by decide +kernel) ?_⟩
   refine ⟨_,rfl,rfl,_,rfl,Ea ?_⟩
   obtain ⟨nx,hx⟩:=(show ∃ n,e x = some n from hok)
   refine ⟨_,rfl,_,rfl,a,_,_,.str x,rfl,rfl,ha.sq,Ai (j:=1) rfl,d,_,rfl,Abu a4 hx,zN2,λ t2 a3=>?_⟩
   have g:=Ah a3 (.tup [.str "send", .int ((e x).getD 0)])
   exact q _ _ (Same.kp g) ⟨dx,g _ _ ho⟩ (.t (.inl Ae) (.cons .s (.cons .i .nil)))
 | again _=>cases lf
 | iff _ _ _=>cases lf
 | thn _ _=>cases lf
 | bes _ _=>cases lf
theorem Ag0 {e:Jc} {n:Int} (hl:kvs.length≤L) (hv:∀ y:Str,D0 kvs (Sum.inr y:Key) = (e y).map V.int) (h:H d = some (.dK (G5 kvs (Sum.inr x:Key) (.int n)))):Pq H d (upE e x n) (L + 1):=by
 refine ⟨_,h,uX (Kz _ _ _) (by omega),λ y=>?_⟩
 rw [AdH]
 unfold upE
 by_cases z:y = x
 ·subst z; rw [if_pos rfl,if_pos rfl]; rfl
 ·rw [if_neg λ q=>z (Sum.inr.inj q),if_neg z]; exact hv y
theorem Of {k:Nat} (F:Bd K mg "plain_part" ["part", "signs", "traps", "numbers"] G8) (T:P0 K mg C aN) (aO:Am P w K mg base k "plain_part" ["part", "signs", "traps", "numbers"] (Q5 K C k))
  (bJ:Am P w K mg base 3 "plain_leaf" ["part", "signs", "traps", "numbers"] (Rt K C)) (bB:Cu P w K mg base 1 C "new_rest" ["self"] (Q7 C)) :
  Am P w K mg base (k + 1) "plain_part" ["part", "signs", "traps", "numbers"] (Q5 K C (k + 1)):=by
 refine F.ok E5 (λ vs H Q E h=>?_) (λ f cdv A outer s H vs Q E hr h=>?_)
 ·obtain ⟨v,n,d,e,L,t,tr,o,sg,rs,rfl,_⟩:=h
  rfl
 obtain ⟨v,n,d,e,L,t,tr,o,sg,rs,rfl,I,hk,q⟩:=h
 have h3:3≤k:=by omega
 have hu:=Aal hr
 refine ⟨_,(Ac (As (i:=4) E5.nd rfl (Or.inl rfl) (An Ak (pv 0) Af (λ _ _=>rfl)))
  (Ac (Ax (PW.pt (Ku (Ao A6 (pv 4) Al (Aw _)) (Ir (Ao A6 (pv 4) Al (Aw _)))))
   (Ac (As (i:=5) E5.nd rfl (Or.inl rfl) (Ap aO hr rfl Av (Aa (An Ak (pv 0) Af (λ _ _=>rfl)) (Aa (pv 1) (Aa (pv 2) (Aa (pv 3) Ab))))))
  (Ag (Aq (Bg (Aa (pv 4) (Aa (pv 5) (Aa (Ap aO hr rfl Av (Aa (An Ak (pv 0) Af (λ _ _=>rfl)) (Aa (pv 1) (Aa (pv 2) (Aa (pv 3) Ab))))) Ab)))))))
   Au)
  (Ac (Ax (Ao A6 (pv 4) Al (Aw _))
   (Ac (As (i:=6) E5.nd rfl (Or.inl rfl) (Ap aO hr rfl Av (Aa (An Ak (pv 0) Af (λ _ _=>rfl)) (Aa (pv 1) (Aa (pv 2) (Aa (pv 3) Ab))))))
  (Ag (Aq (Bg (Aa Al (Aa (Yg hu (pv 1) (An Ak (pv 0) Af (λ _ _=>rfl)) (λ _ _=>rfl)) (Aa (pv 6) (Aa (Ap aO hr rfl Av (Aa (An Ak (pv 0) Af (λ _ _=>rfl)) (Aa (pv 1) (Aa (pv 2) (Aa (pv 3) Ab))))) Ab))))))))
   Au)
  (Ac (Ax (Ao A6 (pv 4) Al (Aw _))
   (Ac (As (i:=7) E5.nd rfl (Or.inl rfl) (Ap aO hr rfl Av (Aa (An Ak (pv 0) Af (λ _ _=>rfl)) (Aa (pv 1) (Aa (pv 2) (Aa (pv 3) Ab))))))
  (Ag (Aq (Bg (Aa Al (Aa (Bt bB hr Av (pv 3)) (Aa (pv 7) Ab)))))))
   Au)
  (Ac (Ax (PW.pt (Ku (Ao A6 (pv 4) Al (Aw _)) (Ir (Ao A6 (pv 4) Al (Aw _)))))
   (Ag Bq)
   Au)
  (Ac (Ax (Ao A6 (pv 4) Al (Aw _))
   (Ag Bq)
   Au)
  (Ac (Ax (Ao A6 (pv 4) Al (Aw _))
   (Ag Bq)
   Au)
  (Ac (Ax (Ao A6 (pv 4) Al (Aw _))
   (Ac Bq (Ac Bq (Ag Bq)))
   Au)
  (Ag (Aq (Ap bJ hr rfl Av (Aa (pv 0) (Aa (pv 1) (Aa (pv 2) (Aa (pv 3) Ab))))))))))))))),?_⟩
 obtain ⟨dx,ho⟩:=I.nu
 have b8:=I.at'
 have hok:=I.ok
 have a8:=I.sg'
 have a5:=I.tr'
 have hL:=I.hL
 have hT:=I.ht
 cases n with
 | nothing =>
   obtain ⟨a,vs,rfl,ha,aT⟩:=(show PAt K H (.t [.s "nothing"]) v from b8).get
   obtain ⟨v0,rfl,a0⟩:=aT.one
   cases a0.str
   refine ⟨_,rfl,a,_,_,.str "nothing", rfl,rfl,ha.sq,Ai (j:=0) rfl,?_⟩
   refine ⟨_,rfl,rfl,_,rfl,Bf (by decide +kernel) ⟨_,rfl,rfl,_,rfl,Bf (by decide +kernel) ?_⟩⟩
   refine ⟨_,rfl,rfl,_,rfl,Bf (by decide +kernel) ?_⟩
   refine ⟨_,rfl,rfl,_,rfl,Bf (by decide +kernel) ?_⟩
   refine ⟨_,rfl,rfl,_,rfl,Bf (by decide +kernel) ⟨_,rfl,rfl,_,rfl,Bf (by decide +kernel) ?_⟩⟩
   refine ⟨_,rfl,rfl,_,rfl,Bf (by decide +kernel) ?_⟩
   refine ⟨_,rfl,rfl,_,rfl,Bf (by decide +kernel) ?_⟩
   refine ⟨_,rfl,rfl,_,rfl,Bf (by decide +kernel) ?_⟩
   exact ⟨_,rfl,_,rfl,_,rfl,_,rfl,_,_,d,e,L,t,tr,o,sg,rs,rfl,I,rfl,λ v' H1 k1 n1 p1=>q _ _ k1 n1 p1⟩
 | rest =>
   obtain ⟨a,vs,rfl,ha,aT⟩:=(show PAt K H (.t [.s "rest"]) v from b8).get
   obtain ⟨v0,rfl,a0⟩:=aT.one
   cases a0.str
   refine ⟨_,rfl,a,_,_,.str "rest", rfl,rfl,ha.sq,Ai (j:=0) rfl,?_⟩
   refine ⟨_,rfl,rfl,_,rfl,Bf (by decide +kernel) ⟨_,rfl,rfl,_,rfl,Bf (by decide +kernel) ?_⟩⟩
   refine ⟨_,rfl,rfl,_,rfl,Bf (by decide +kernel) ?_⟩
   refine ⟨_,rfl,rfl,_,rfl,Bf (by decide +kernel) ?_⟩
   refine ⟨_,rfl,rfl,_,rfl,Bf (by decide +kernel) ⟨_,rfl,rfl,_,rfl,Bf (by decide +kernel) ?_⟩⟩
   refine ⟨_,rfl,rfl,_,rfl,Bf (by decide +kernel) ?_⟩
   refine ⟨_,rfl,rfl,_,rfl,Bf (by decide +kernel) ?_⟩
   refine ⟨_,rfl,rfl,_,rfl,Bf (by decide +kernel) ?_⟩
   exact ⟨_,rfl,_,rfl,_,rfl,_,rfl,_,_,d,e,L,t,tr,o,sg,rs,rfl,I,rfl,λ v' H1 k1 n1 p1=>q _ _ k1 n1 p1⟩
 | send x =>
   obtain ⟨a,vs,rfl,ha,aT⟩:=(show PAt K H (.t [.s "send", .s x]) v from b8).get
   obtain ⟨v0,v1,rfl,a0,a1⟩:=aT.two
   cases a0.str
   cases a1.str
   refine ⟨_,rfl,a,_,_,.str "send", rfl,rfl,ha.sq,Ai (j:=0) rfl,?_⟩
   refine ⟨_,rfl,rfl,_,rfl,Bf (by decide +kernel) ⟨_,rfl,rfl,_,rfl,Bf (by decide +kernel) ?_⟩⟩
   refine ⟨_,rfl,rfl,_,rfl,Bf (by decide +kernel) ?_⟩
   refine ⟨_,rfl,rfl,_,rfl,Bf (by decide +kernel) ?_⟩
   refine ⟨_,rfl,rfl,_,rfl,Bf (by decide +kernel) ⟨_,rfl,rfl,_,rfl,Bf (by decide +kernel) ?_⟩⟩
   refine ⟨_,rfl,rfl,_,rfl,Bf (by decide +kernel) ?_⟩
   refine ⟨_,rfl,rfl,_,rfl,Bf (by decide +kernel) ?_⟩
   refine ⟨_,rfl,rfl,_,rfl,Bf (by decide +kernel) ?_⟩
   exact ⟨_,rfl,_,rfl,_,rfl,_,rfl,_,_,d,e,L,t,tr,o,sg,rs,rfl,I,rfl,λ v' H1 k1 n1 p1=>q _ _ k1 n1 p1⟩
 | again p =>
   obtain ⟨a,vs,rfl,ha,aT⟩:=(show PAt K H (.t [.s "again", p.nd]) v from b8).get
   obtain ⟨v0,v1,rfl,a0,a1⟩:=aT.two
   cases a0.str
   simp only [hgt] at hk hL hT
   refine ⟨_,rfl,a,_,_,.str "again", rfl,rfl,ha.sq,Ai (j:=0) rfl,?_⟩
   refine ⟨_,rfl,rfl,_,rfl,Bf (by decide +kernel) ⟨_,rfl,rfl,_,rfl,Bf (by decide +kernel) ?_⟩⟩
   refine ⟨_,rfl,rfl,_,rfl,Bf (by decide +kernel) ?_⟩
   refine ⟨_,rfl,rfl,_,rfl,Ea ?_⟩
   have I1:K2 K C H v1 p d e L t tr o sg rs:=⟨a1,a8,a5,⟨dx,ho⟩,hok,by omega,by omega⟩
   refine ⟨_,rfl,a,_,_,v1,rfl,rfl,ha.sq,Ai (j:=1) rfl,_,rfl,_,rfl,_,rfl,v1,p,d,e,L,t,tr,o,sg,rs,rfl,I1,by omega,λ v' H1 k1 n1 p1=>?_⟩
   obtain ⟨a7,a4⟩:=n1
   refine ⟨_,rfl,o,a7,_,rfl,a4,AcO.1,o,_,_,rfl,⟨a7,a4⟩,λ H2 k2 ⟨c0,b7⟩=>⟨_,rfl,zN3,λ t2 b9=>?_⟩⟩
   have g:=Ah b9 (.tup [.str "again", .int (pl p e tr sg rs).2.2,v'])
   exact q _ _ ((k1.trans k2).trans (Same.kp g)) ⟨c0,g _ _ b7⟩ (.t (.inl Ae) (.cons .s (.cons .i (.cons (p1.mono ((k2.tpI a4).trans g.tp)) .nil))))
 | iff x p q2 =>
   obtain ⟨a,vs,rfl,ha,aT⟩:=(show PAt K H (.t [.s "if", .s x,p.nd,q2.nd]) v from b8).get
   obtain ⟨v0,v1,v2,v3,rfl,a0,a1,a2,a3⟩:=aT.four
   cases a0.str
   cases a1.str
   simp only [hgt] at hk hL hT
   refine ⟨_,rfl,a,_,_,.str "if", rfl,rfl,ha.sq,Ai (j:=0) rfl,?_⟩
   refine ⟨_,rfl,rfl,_,rfl,Bf (by decide +kernel) ⟨_,rfl,rfl,_,rfl,Bf (by decide +kernel) ?_⟩⟩
   refine ⟨_,rfl,rfl,_,rfl,Ea ?_⟩
   obtain ⟨⟨nx,hx⟩,b6,a9⟩:=(show (∃ n,e x = some n)∧okp p e tr∧okp q2 e tr from hok)
   have I1:K2 K C H v2 p d e L t tr o sg rs:=⟨a2,a8,a5,⟨dx,ho⟩,b6,by omega,by omega⟩
   refine ⟨_,rfl,a,_,_,v2,rfl,rfl,ha.sq,Ai (j:=2) rfl,_,rfl,_,rfl,_,rfl,v2,p,d,e,L,t,tr,o,sg,rs,rfl,I1,by omega,λ v' H1 k1 n1 p1=>?_⟩
   obtain ⟨a7,a4⟩:=n1
   have a6:=k1.tpI ho
   refine ⟨_,rfl,_,rfl,a,_,_,.str x,rfl,rfl,(ha.mono a6).sq,Ai (j:=1) rfl,d,_,rfl,Abu (a8.kp k1 ho) hx,_,rfl,?_⟩
   have I2:K2 K C H1 v3 q2 d e L t tr o _ _:=⟨a3.mono a6,a8.kp k1 ho,k1 _ _ (Cd a5 ho (by intro z; cases z)) a5,⟨a7,a4⟩,a9,by omega,by omega⟩
   refine ⟨_,rfl,a,_,_,v3,rfl,rfl,(ha.mono a6).sq,Ai (j:=3) rfl,_,rfl,_,rfl,_,rfl,v3,q2,d,e,L,t,tr,o,_,_,rfl,I2,by omega,λ c3 H2 k2 n2 p2=>⟨zN4,λ t2 b9=>?_⟩⟩
   obtain ⟨c0,b7⟩:=n2
   have g:=Ah b9 (.tup [.str "if", .int ((e x).getD 0),v',c3])
   exact q _ _ ((k1.trans k2).trans (Same.kp g)) ⟨c0,g _ _ b7⟩ (.t (.inl Ae) (.cons .s (.cons .i (.cons (p1.mono ((k2.tpI a4).trans g.tp)) (.cons (p2.mono g.tp) .nil)))))
 | thn p q2 =>
   obtain ⟨a,vs,rfl,ha,aT⟩:=(show PAt K H (.t [.s "then", p.nd,q2.nd]) v from b8).get
   obtain ⟨v0,v1,v2,rfl,a0,a1,a2⟩:=aT.three
   cases a0.str
   simp only [hgt] at hk hL hT
   refine ⟨_,rfl,a,_,_,.str "then", rfl,rfl,ha.sq,Ai (j:=0) rfl,?_⟩
   refine ⟨_,rfl,rfl,_,rfl,Ea (Bs ?_)⟩
   obtain ⟨b6,a9⟩:=(show okp p e tr∧okp q2 e tr from hok)
   have I1:K2 K C H v1 p d e L t tr o sg rs:=⟨a1,a8,a5,⟨dx,ho⟩,b6,by omega,by omega⟩
   refine ⟨_,rfl,a,_,_,v1,rfl,rfl,ha.sq,Ai (j:=1) rfl,_,rfl,_,rfl,_,rfl,v1,p,d,e,L,t,tr,o,sg,rs,rfl,I1,by omega,λ v' H1 k1 n1 p1=>?_⟩
   obtain ⟨a7,a4⟩:=n1
   have a6:=k1.tpI ho
   have I2:K2 K C H1 v2 q2 d e L t tr o _ _:=⟨a2.mono a6,a8.kp k1 ho,k1 _ _ (Cd a5 ho (by intro z; cases z)) a5,⟨a7,a4⟩,a9,by omega,by omega⟩
   refine ⟨_,rfl,_,rfl,_,rfl,a,_,_,v2,rfl,rfl,(ha.mono a6).sq,Ai (j:=2) rfl,_,rfl,_,rfl,_,rfl,v2,q2,d,e,L,t,tr,o,_,_,rfl,I2,by omega,λ c3 H2 k2 n2 p2=>⟨zN3,λ t2 b9=>?_⟩⟩
   obtain ⟨c0,b7⟩:=n2
   have g:=Ah b9 (.tup [.str "then", v',c3])
   exact q _ _ ((k1.trans k2).trans (Same.kp g)) ⟨c0,g _ _ b7⟩ (.t (.inl Ae) (.cons .s (.cons (p1.mono ((k2.tpI a4).trans g.tp)) (.cons (p2.mono g.tp) .nil))))
 | bes p q2 =>
   obtain ⟨a,vs,rfl,ha,aT⟩:=(show PAt K H (.t [.s "beside", p.nd,q2.nd]) v from b8).get
   obtain ⟨v0,v1,v2,rfl,a0,a1,a2⟩:=aT.three
   cases a0.str
   simp only [hgt] at hk hL hT
   refine ⟨_,rfl,a,_,_,.str "beside", rfl,rfl,ha.sq,Ai (j:=0) rfl,?_⟩
   refine ⟨_,rfl,rfl,_,rfl,Bf (by decide +kernel) ⟨_,rfl,rfl,_,rfl,Ea ?_⟩⟩
   obtain ⟨b6,a9⟩:=(show okp p e tr∧okp q2 e tr from hok)
   have I1:K2 K C H v1 p d e L t tr o sg rs:=⟨a1,a8,a5,⟨dx,ho⟩,b6,by omega,by omega⟩
   refine ⟨_,rfl,a,_,_,v1,rfl,rfl,ha.sq,Ai (j:=1) rfl,_,rfl,_,rfl,_,rfl,v1,p,d,e,L,t,tr,o,sg,rs,rfl,I1,by omega,λ v' H1 k1 n1 p1=>?_⟩
   obtain ⟨a7,a4⟩:=n1
   have a6:=k1.tpI ho
   have I2:K2 K C H1 v2 q2 d e L t tr o _ _:=⟨a2.mono a6,a8.kp k1 ho,k1 _ _ (Cd a5 ho (by intro z; cases z)) a5,⟨a7,a4⟩,a9,by omega,by omega⟩
   refine ⟨_,rfl,_,rfl,_,rfl,a,_,_,v2,rfl,rfl,(ha.mono a6).sq,Ai (j:=2) rfl,_,rfl,_,rfl,_,rfl,v2,q2,d,e,L,t,tr,o,_,_,rfl,I2,by omega,λ c3 H2 k2 n2 p2=>⟨zN3,λ t2 b9=>?_⟩⟩
   obtain ⟨c0,b7⟩:=n2
   have g:=Ah b9 (.tup [.str "beside", v',c3])
   exact q _ _ ((k1.trans k2).trans (Same.kp g)) ⟨c0,g _ _ b7⟩ (.t (.inl Ae) (.cons .s (.cons (p1.mono ((k2.tpI a4).trans g.tp)) (.cons (p2.mono g.tp) .nil))))
theorem Ac8 (F:Bd K mg "plain_part" ["part", "signs", "traps", "numbers"] G8) (T:P0 K mg C aN) (bJ:Am P w K mg base 3 "plain_leaf" ["part", "signs", "traps", "numbers"] (Rt K C)) (bB:Cu P w K mg base 1 C "new_rest" ["self"] (Q7 C)):∀ k,Am P w K mg base k "plain_part" ["part", "signs", "traps", "numbers"] (Q5 K C k)
 | 0=>F.zero λ vs H Q E ⟨_,_,_,_,_,_,_,_,_,_,_,_,h,_⟩=>by omega
 | k + 1=>Of F T (Ac8 F T bJ bB k) bJ bB
def envOf:List Str→Int→Jc→Jc
 | [],_,e=>e
 | x :: r,k,e=>envOf r (k + 1) (upE e x k)
theorem Ra:∀ (a:List Str) (x:Str) (k:Int) (e:Jc),envOf (a ++ [x]) k e = upE (envOf a k e) x (k + a.length)
 | [],x,k,e=>by simp [envOf]
 | y :: a,x,k,e=>by
  show envOf (a ++ [x]) (k + 1) (upE e y k) = _
  rw [Ra a x (k + 1) (upE e y k)]
  show upE (envOf a (k + 1) (upE e y k)) x _ = upE (envOf a (k + 1) (upE e y k)) x _
  rw [uU,Int.natCast_add,show k + 1 + (a.length:Int) = k + ((a.length:Int) + ((1:Nat):Int)) by omega]
inductive Ss (K:FA) (vs:List V) (H:Hp) (Q:VK):Prop
 | mk (a ia oa:Addr) (ins outs:List Str) (vb:V) (n:Np) (_:vs = [.ref a]) (_:H a = some (.tup [.ref ia,.ref oa,vb])) (_:H ia = some (.lst (ins.map V.str))) (_:H oa = some (.lst (outs.map V.str))) (_:PAt K H n.nd vb) (_:okp n (envOf (ins ++ outs) 0 λ _=>none) []) (_:ins.length + outs.length≤100) (_:hgt n≤96) (_:∀ t vb' H',Same H H'→H' t = some (.tup [.int ins.length,.int outs.length,.int (pl n (envOf (ins ++ outs) 0 λ _=>none) [] ((ins.length:Int) + outs.length) 0).2.1,vb'])→PAt K H' (pl n (envOf (ins ++ outs) 0 λ _=>none) [] ((ins.length:Int) + outs.length) 0).1 vb'→Q (.ref t) H'):Ss K vs H Q
def AfF (K:FA):Sp:=λ vs H Q _=>Ss K vs H Q
theorem Aev {ns:List Str} {i:Nat} {y:V} (h:(ns.map V.str)[i]? = some y):∃ x,ns[i]? = some x∧y = .str x:=by
 rw [uJ] at h
 cases e:ns[i]? with
 | none=>rw [e] at h; cases h
 | some z=>rw [e] at h; exact ⟨z,rfl,(Option.some.inj h).symm⟩
theorem AiA (F:Bd K mg "plain" ["named"] Sk) (T:P0 K mg C aN) (b8:Mk K C fI) (GI:Bi P w K mg base CX0 1 fI fdI ["self", "signs"] (Nf C)) (bI:Br K fdI ["self", "signs"] [])
  (aO:Am P w K mg base 100 "plain_part" ["part", "signs", "traps", "numbers"] (Q5 K C 100)):Am P w K mg base 101 "plain" ["named"] (AfF K):=by
 refine F.ok Fg (λ vs H Q E h=>?_) (λ f cdv A outer s H vs Q E hr h=>?_)
 ·obtain ⟨a,ia,oa,ins,outs,vb,n,rfl,_⟩:=h
  rfl
 obtain ⟨a,ia,oa,ins,outs,vb,n,rfl,ha,hi,ho,a9,hok,c6,c9,q⟩:=h
 have hu:=Aal hr
 refine ⟨_,(Ac (As (i:=1) Fg.nd rfl (Or.inl rfl) (An Ak (pv 0) Af (λ _ _=>rfl)))
  (Ac (As (i:=2) Fg.nd rfl (Or.inl rfl) (An Ak (pv 0) Af (λ _ _=>rfl)))
  (Ac (As (i:=3) Fg.nd rfl (Or.inl rfl) (Rz b8 GI (hr.mono (by decide)) rfl T.m_Numbers bI .nil Av (Aa (A7 Ju (Be Da rfl T.n_len PySem.boot_len (Aa (pv 1) Ab)) (Be Da rfl T.n_len PySem.boot_len (Aa (pv 2) Ab))) Ab)))
  (Ac (As (i:=4) Fg.nd rfl (Or.inl rfl) Ad5)
  (Ac (Fk PassesOwn.never rfl (Zn rfl T.n_enumerate (Aa (A7 Bv (pv 1) (pv 2)) Ab)) (Vd rfl (Hj (Bn (i:=5) Fg.nd rfl (Or.inl rfl)) (Hj (Bn (i:=6) Fg.nd rfl (Or.inl rfl)) Sd)))
   (Ag (Aes hu (pv 4) (pv 6) (pv 5) rfl)))
  (Ac (As (i:=7) Fg.nd rfl (Or.inl rfl) (Ap aO hr rfl Av (Aa (An Ak (pv 0) Af (λ _ _=>rfl)) (Aa (pv 4) (Aa (Ba Ab) (Aa (pv 3) Ab))))))
  (Ag (Aq (Bg (Aa (Be Da rfl T.n_len PySem.boot_len (Aa (pv 1) Ab)) (Aa (Be Da rfl T.n_len PySem.boot_len (Aa (pv 2) Ab)) (Aa (B7 (pv 3) rfl) (Aa (pv 7) Ab))))))))))))),?_⟩
 refine ⟨_,rfl,a,_,_,.ref ia,rfl,rfl,SqT.of ha,Ai (j:=0) rfl,?_⟩
 refine ⟨_,rfl,a,_,_,.ref oa,rfl,rfl,SqT.of ha,Ai (j:=1) rfl,?_⟩
 refine ⟨_,rfl,ia,_,rfl,.inl (SqL.of hi),_,rfl,oa,_,rfl,.inl (SqL.of ho),_,_,rfl,rfl,λ x dx nx c3 c7=>⟨x,dx,_,rfl,Ae,λ H1 k1 n1=>⟨rfl,?_⟩⟩⟩
 have s0:Same H (upd (upd H dx (.own x)) x (.ins C dx [])):=λ b o e=>by
  rw [upd_ne (Ay e nx),upd_ne (Ay e c3)]
  exact e
 have g1:Same H H1:=s0.byKp nx k1
 rw [uD,uD] at n1
 intro d hd
 have a8:H d = none:=g1.free hd
 have g2:=Ah hd (.dK [])
 have a1:=g1.trans g2
 have n2:Kk C (upd H1 d (.dK [])) x ((ins.length:Int) + outs.length) 0:=by
  obtain ⟨dy,e⟩:=n1
  exact ⟨dy,g2 _ _ e⟩
 refine ⟨_,rfl,_,rfl,ia,oa,_,_,rfl,rfl,a1 _ _ hi,a1 _ _ ho,by rw [uD,uD]; exact B9 (by omega),λ p hp=>?_⟩
 have g3:=Ah hp (.lst (ins.map V.str ++ outs.map V.str))
 have c8:H p = none:=a1.free hp
 have em:ins.map V.str ++ outs.map V.str = (ins ++ outs).map V.str:=by rw [uP]
 refine ⟨p,rfl,⟨_,SqL.of Ae⟩,Adx (K:=K) (l:=p) (xs:=ins.map V.str ++ outs.map V.str)
  (λ i σ H2=>∃ (x5 x6:Option V),σ = [some (.ref a),some (.ref ia),some (.ref oa),some (.ref x),some (.ref d),x5,x6,none]∧Same H H2∧Kk C H2 x ((ins.length:Int) + outs.length) 0∧H2 p = some (.lst (ins.map V.str ++ outs.map V.str))∧Pq H2 d (envOf ((ins ++ outs).take i) 0 λ _=>none) i)
  ⟨none,none,rfl,a1.trans g3,?_,Ae,?_⟩ (λ i σ H2 _ ⟨_,_,_,_,_,e,_⟩=>SqL.of e) ?_ ?_⟩
 ·obtain ⟨dy,e⟩:=n2
  exact ⟨dy,g3 _ _ e⟩
 ·exact ⟨[],g3 _ _ Ae,uY _,λ y=>rfl⟩
 ·rintro i y Tt σ H2 hy ⟨x5,x6,rfl,gH,⟨dy,a2⟩,a4,kvs,a3,b9,c4⟩ hT
  have c0:i < (ins.map V.str ++ outs.map V.str).length:=(List.getElem?_eq_some_iff.mp hy).1
  rw [uF,uD,uD] at c0
  rw [em] at hy
  obtain ⟨nm,c5,rfl⟩:=Aev hy
  have gT:=Ah hT (.tup [.int i,.str nm])
  have b6:d≠x:=(Cd a3 a2 (by intro z; cases z))
  have a6:d≠p:=(Cd a3 a4 (by intro z; cases z))
  refine ⟨Tt,_,rfl,SqT.of Ae,rfl,_,_,rfl,_,_,rfl,rfl,?_⟩
  refine ⟨_,rfl,_,rfl,_,rfl,d,_,rfl,Xw.k (k:=(Sum.inr nm:Key)) (gT _ _ a3) (Ip (by omega)),?_⟩
  refine ⟨_,_,rfl,(gH.trans gT).young a8 _,⟨dy,by rw [upd_ne b6.symm]; exact gT _ _ a2⟩,by rw [upd_ne a6.symm]; exact gT _ _ a4,?_⟩
  have ee:envOf ((ins ++ outs).take (i + 1)) 0 (λ _=>none) = upE (envOf ((ins ++ outs).take i) 0 λ _=>none) nm i:=by
   rw [take_add_one,c5]
   show envOf (_ ++ [nm]) 0 _ = _
   rw [Ra,vD]
   congr 1
   rw [uF]
   omega
  rw [ee]
  exact Ag0 b9 c4 Ae
 ·rintro σ H2 ⟨x5,x6,rfl,gH,⟨dy,a2⟩,a4,a5⟩
  rw [em,uD,uT (uY _)] at a5
  refine ⟨_,rfl,a,_,_,vb,rfl,rfl,SqT.of (gH _ _ ha),Ai (j:=2) rfl,_,rfl,zN0,λ l0 a7=>?_⟩
  have g4:=Ah a7 (.lst [])
  have I1:K2 K C (upd H2 l0 (.lst [])) vb n d (envOf (ins ++ outs) 0 λ _=>none) (ins ++ outs).length l0 [] x ((ins.length:Int) + outs.length) 0 :=
   ⟨a9.mono (gH.trans g4).tp,by obtain ⟨kvs,b1,b2,b3⟩:=a5; exact ⟨kvs,g4 _ _ b1,b2,b3⟩,Ae,⟨dy,g4 _ _ a2⟩,hok,by rw [uF]; omega,by show 0 + hgt n≤900; omega⟩
  refine ⟨_,rfl,vb,n,d,_,_,l0,[],x,_,_,rfl,I1,by omega,λ v' H3 k3 n3 p3=>?_⟩
  obtain ⟨dz,b7⟩:=n3
  have g5:Same H H3:=(gH.trans g4).byKp nx k3
  refine ⟨_,rfl,ia,_,rfl,.inl (SqL.of (g5 _ _ hi)),_,rfl,oa,_,rfl,.inl (SqL.of (g5 _ _ ho)),_,rfl,x,C,dz,_,_,rfl,b7,T.cl,T.nS,AaR _ _,_,rfl,zN4,λ t ht=>?_⟩
  refine q t v' _ (g5.trans (Ah ht _)) ?_ (p3.mono (Ah ht _).tp)
  rw [Ae,uD,uD]
end
end Pln
namespace Dsk
open PySem L2 My
mutual
theorem Agi :∀ {n:Nd} {v:V},At H n v→PAt K H n v
 | .s x,v,h=>by unfold At at h; unfold PAt; exact h
 | .i x,v,h=>by unfold At at h; unfold PAt; exact h
 | .t xs,v,h=>by
  unfold At at h
  obtain ⟨a,vs,e,q,r⟩:=h
  unfold PAt
  exact ⟨a,vs,e,.inl q,AeP r⟩
theorem AeP :∀ {xs:List Nd} {vs:List V},AtL H xs vs→Ca K H xs vs
 | [],vs,h=>by unfold AtL at h; unfold Ca; exact h
 | x :: xs,vs,h=>by
  unfold AtL at h
  obtain ⟨v,r,e,q,l⟩:=h
  unfold Ca
  exact ⟨v,r,e,Agi q,AeP l⟩
end
structure Ux (g:Pg) (np:Pln.Np) (t:Nd):Prop where
 nd:np.nd = t
 ok:Pln.okp np (Pln.envOf (g.ins ++ g.outs) 0 λ _=>none) []
 len:g.ins.length + g.outs.length≤100
 hgt:Pln.hgt np≤96
 pl1:(Pln.pl np (Pln.envOf (g.ins ++ g.outs) 0 λ _=>none) [] ((g.ins.length:Int) + g.outs.length) 0).1 = g.p.nd
 pl2:(Pln.pl np (Pln.envOf (g.ins ++ g.outs) 0 λ _=>none) [] ((g.ins.length:Int) + g.outs.length) 0).2.1 = g.n
 hg:g.p.hg≤40
 sc:g.p.sc≤40
 rc:g.p.rc≤40
 okw:okW g.n g.p
 nb:g.n≤30
def AgQ (K:FA) (cD cW:Addr) (H:Hp) (d:Addr) (Q:VK) (v:V) (H1:Hp):Prop:=∃ g np t,Ux g np t∧Same H H1∧Rd.Sg H1 v g.ins g.outs t∧∀ wa H',Kp d H H'→H wa = none→Ld K cD cW H' d wa g none→Q (.str "loaded") H'
def Abj (K:FA) (cD cW cNT cTw cNN:Addr):Sp:=λ vs H Q E=>∃ (d dx i o:Addr) (pv wv:V) (x:Str),vs = [.ref d,.str x]∧H d = some (.ins cD dx (dfl i o pv wv))∧Rd.Agp cNT cTw cNN [.str x] H (AgQ K cD cW H d Q) E
theorem AaW {Q':VK} {E:XK} (h:Rd.Agp cNT cTw cNN vs H Q E) (hq:∀ v H,Q v H→Q' v H):Rd.Agp cNT cTw cNN vs H Q' E:=by
 obtain ⟨x,rfl,l,h⟩:=h
 refine ⟨x,rfl,l,?_⟩
 rcases h with h | h | ⟨a,b,c,ins,outs,d,t,hd,W,cn,h⟩
 ·exact .inl h
 ·exact .inr (.inl h)
 ·refine .inr (.inr ⟨a,b,c,ins,outs,d,t,hd,W,cn,?_⟩)
  rcases h with h | h | ⟨a,b,h | ⟨c,q⟩⟩
  ·exact .inl h
  ·exact .inr (.inl h)
  ·exact .inr (.inr ⟨a,b,.inl h⟩)
  ·exact .inr (.inr ⟨a,b,.inr ⟨c,λ v H' g n=>hq _ _ (q v H' g n)⟩⟩)
def G4 (g:Pg) (ws:List Str):List Int:=ws.map λ x=>((g.ins.idxOf x:Nat):Int)
def F4 (g:Pg) (st:Option (List Int)) (ws:List Str):List Int:=Dg (some true) (knW g.p st g.n (nub (G4 g ws)))
def Pf (g:Pg) (st:Option (List Int)) (ws:List Str):List Int:=(Lz g.p st (F4 g st ws)).2.2
def Xu (g:Pg) (st:Option (List Int)) (ws:List Str):Str:=Txt.join " " ("there" :: ofT g.ins.length (F4 g st ws) g.outs)
def Agf (K:FA) (cD cW cNN:Addr):Sp:=λ vs H Q E=>∃ (d wa na:Addr) (g:Pg) (st:Option (List Int)) (ws:List Str),vs = [.ref d,.ref na]∧Ld K cD cW H d wa g st∧SqL K H na (ws.map V.str)∧ws.length < 64∧(∀ x∈ws,x.length≤1000) ∧
 (((∃ x∈ws,¬ x∈g.ins)∧∀ H',Same H H'→E (.ref cNN) none H') ∨
  ((∀ x∈ws,x∈g.ins)∧¬ none∈knW g.p st g.n (nub (G4 g ws))∧g.ins.length≤100∧g.outs.length≤100∧JoinOk " " ("there" :: ofT g.ins.length (F4 g st ws) g.outs) = true∧∀ H',Kp wa H H'→Ld K cD cW H' d wa g (some (Pf g st ws))→Q (.str (Xu g st ws)) H'))
theorem Ad2 {i:Nat} {th:List Int} {l:List Str} (h:l[i]? = some x):ofT n th (l.take (i + 1)) = ofT n th (l.take i) ++ (if inV (.int ((n + i:Nat):Int)) (th.map V.int) = true then [x] else []):=by
 have hl:(l.take i).length = i:=by
  have:=(List.getElem?_eq_some_iff.mp h).1
  rw [vD]; omega
 unfold ofT
 rw [take_add_one,h]
 simp only [Option.toList_some]
 rw [List.zipIdx_append,hl,vJ,uP]
 congr 1
 show List.map _ (filter _ [(x,n + i)]) = _
 have e:filter (λ p:Str× Nat=>inV (.int p.2) (th.map V.int)) [(x,n + i)] = if inV (.int ((n + i:Nat):Int)) (th.map V.int) = true then [(x,n + i)] else []:=by rw [filter_cons]; rfl
 rw [e]
 by_cases c:inV (.int ((n + i:Nat):Int)) (th.map V.int) = true
 ·rw [if_pos c,if_pos c]; rfl
 ·rw [if_neg c,if_neg c]; rfl
theorem Aei :(ofT n th l).length≤l.length:=by
 unfold ofT
 rw [uD]
 exact uX (length_filter_le _ _) (by rw [List.length_zipIdx]; exact uY _)
section
variable {cD aBR cNR cNP cNN cUn cW cR cTM cNT cTw:Addr}
seal PSs PS PE PA PT
theorem Aix (F:Fun K "load" "Desk.load" Acr f fd) (T:Ka K mg cD aBR cNR cNP cNN cUn) (eP:Bc P w K mg base 111 "read" ["text"] (Rd.Agp cNT cTw cNN)) (eJ:Am P w K mg base 101 "plain" ["named"] (Pln.AfF K)) (eK:Cu P w K mg base 4 cD "begin" ["self"] (Ze cD cW)):Bi P w K mg base (CX1 P w) 112 f fd ["self", "text"] (Abj K cD cW cNT cTw cNN):=by
 refine F.okX Yi (λ vs H Q E h=>?_) (λ cdv A outer s H vs Q E hr h=>?_)
 ·obtain ⟨d,dx,i,o,pv,wv,x,rfl,_⟩:=h; rfl
 obtain ⟨d,dx,i,o,a1,wv,x,rfl,hd,h⟩:=h
 refine ⟨_,(Ac (As (i:=2) Yi.nd rfl (Or.inl rfl) (Bm eP hr rfl (Aa (pv 1) Ab)))
  (Ac (Db (pv 0) (An Ak (pv 2) Af (λ _ _=>rfl)) rfl)
  (Ac (Db (pv 0) (An Ak (pv 2) Af (λ _ _=>rfl)) rfl)
  (Ac (Db (pv 0) (Ap eJ hr rfl Av (Aa (pv 2) Ab)) rfl)
  (Ac (Bo (Bt eK hr Av (pv 0)))
  (Ag (Aq Al))))))),?_⟩
 refine ⟨_,rfl,AaW h λ v H1 ok=>?_⟩
 obtain ⟨g,np,t,G,g1,⟨th,i1,o1,vb,rfl,a4,a7,a5,b6⟩,q⟩:=ok
 have a3:=g1 _ _ hd
 have a9:=Cd a4 a3 (by intro z; cases z)
 have ni:=Cd a7 a3 (by intro z; cases z)
 have no:=Cd a5 a3 (by intro z; cases z)
 refine ⟨_,rfl,th,_,_,.ref i1,rfl,rfl,SqT.of a4,Ai (j:=0) rfl,_,rfl,d,cD,dx,_,rfl,a3,T.clD,T.nI,(by show 4 < 1000; decide),?_⟩
 refine ⟨_,rfl,th,_,_,.ref o1,rfl,rfl,SqT.of (by rw [upd_ne a9]; exact a4),Ai (j:=1) rfl,_,rfl,d,cD,dx,_,rfl,Ae,T.clD,T.nO,(by show 4 < 1000; decide),?_⟩
 have a2:∀ b u,b≠d→H1 b = some u→(upd (upd H1 d (.ins cD dx (B5 "ins" (.ref i1) (dfl i o a1 wv)))) d (.ins cD dx (B5 "outs" (.ref o1) (B5 "ins" (.ref i1) (dfl i o a1 wv))))) b = some u:=λ b u hb e=>by rw [upd_ne hb,upd_ne hb]; exact e
 have e3:(upd (upd H1 d (.ins cD dx (B5 "ins" (.ref i1) (dfl i o a1 wv)))) d (.ins cD dx (B5 "outs" (.ref o1) (B5 "ins" (.ref i1) (dfl i o a1 wv))))) d = some (.ins cD dx (dfl i1 o1 a1 wv)):=Ae
 have a8:∀ b,(upd (upd H1 d (.ins cD dx (B5 "ins" (.ref i1) (dfl i o a1 wv)))) d (.ins cD dx (B5 "outs" (.ref o1) (B5 "ins" (.ref i1) (dfl i o a1 wv))))) b = none→b≠d∧H1 b = none:=λ b e=>by
  have hb:b≠d:=λ z=>by rw [z,e3] at e; cases e
  rw [upd_ne hb,upd_ne hb] at e
  exact ⟨hb,e⟩
 generalize (upd (upd H1 d (.ins cD dx (B5 "ins" (.ref i1) (dfl i o a1 wv)))) d (.ins cD dx (B5 "outs" (.ref o1) (B5 "ins" (.ref i1) (dfl i o a1 wv))))) = H3 at a2 e3 a8
 have b8:Tp H1 H3:=λ b xs e=>a2 b _ (λ z=>by rw [z,a3] at e; cases e) e
 refine ⟨_,rfl,th,i1,o1,g.ins,g.outs,vb,np,rfl,a2 _ _ a9 a4,a2 _ _ ni a7,a2 _ _ no a5,(Agi (G.nd ▸ b6)).mono b8,G.ok,G.len,G.hgt,λ t' vb' H4 g4 e4 p4=>?_⟩
 rw [G.pl1] at p4
 rw [G.pl2] at e4
 have a6:=g4 _ _ e3
 have nt:=Cd e4 a6 (by intro z; cases z)
 refine ⟨_,rfl,d,cD,dx,_,rfl,a6,T.clD,T.nP,(by show 4 < 1000; decide),?_⟩
 refine ⟨_,rfl,d,dx,_,rfl,Ae,rfl,d,dx,i1,o1,t',wv,rfl,Ae,λ wa dw H6 k6 fw e6 ew=>?_⟩
 have keep:∀ b u,b≠d→H4 b = some u→H6 b = some u:=λ b u hb e=>k6 b u hb (by rw [upd_ne hb]; exact e)
 have nw:wa≠d:=λ z=>by rw [z,Ae] at fw; cases fw
 rw [upd_ne nw] at fw
 have b7:Tp H4 H6:=λ b xs e=>keep b _ (λ z=>by rw [z,a6] at e; cases e) e
 refine q wa H6 (λ b u hb e=>keep b u hb (g4 _ _ (a2 b u hb (g1 _ _ e)))) (g1.free (a8 _ (g4.free fw)).2) ?_
 exact ⟨dx,i1,o1,t',dw,.int g.outs.length,vb',.non,e6,keep _ _ ni (g4 _ _ (a2 _ _ ni a7)),keep _ _ no (g4 _ _ (a2 _ _ no a5)),⟨⟨_,_,vb',keep _ _ nt e4,p4.mono b7⟩,G.hg,G.sc,G.rc,G.okw,G.nb⟩,keep _ _ nt e4,ew,rfl⟩
theorem AjD (F:Fun K "instant_with" "Desk.instant_with" Rj f fd) (T:Ka K mg cD aBR cNR cNP cNN cUn) (eQ:Cy P w K mg base 1 cD "sign_of_in" ["self", "name"] (Wm cD cNN)) (eR:Cy P w K mg base 49 cW "tick" ["self", "coming"] (AbR K cW cUn)):Bi P w K mg base (CX1 P w) 50 f fd ["self", "names"] (Agf K cD cW cNN):=by
 refine F.okX Om (λ vs H Q E h=>?_) (λ cdv A outer s H vs Q E hr h=>?_)
 ·obtain ⟨d,wa,na,g,st,ws,rfl,_⟩:=h; rfl
 obtain ⟨d,wa,na,g,st,ws,rfl,hL,hS,hl,hb,h⟩:=h
 obtain ⟨dx,i,o,pr,dw,x1,vb,sv,hd,hi,ho,hp,ht,hw,hs⟩:=hL
 obtain ⟨fS,c5,FS,bS,a9,b7⟩:=eQ
 refine ⟨_,(Ac (X7 (j:=2) (g:=(Cg 0)) (tc:=Gj) (te:=Mb cD "sign_of_in" (Wm cD cNN) [] E (Bl 1) (B3 (Bl 0) Dq)) ["name"] [("self", 0)] Om.nd rfl (Or.inl rfl) rfl (Ei (Aj Rj) ["self", "names", "coming", "there", "outs"] (by decide +kernel)) (Dm (pv 1)) (λ s2 H2 fp cl C xe=>Bn (i:=0) (show Nodup [("name" : Str),("self" : Str)] from by decide +kernel) rfl (Or.inl rfl)) (Cr (by decide)) (λ s2 H2 fp cl C xe=>Hk) (λ s2 H2 fp cl C=>D5 (pv 1) b7 a9 (FS.mono (by decide)) hr bS .nil AhS (Aa (pv 0) Ab)))
  (Ac (Afz (Ael (i:=3) (Zb eR hr (B7 (pv 0) rfl) (Aa (pv 2) Ab)) Om.nd rfl (Or.inr rfl)) (AfM T.m_Un rfl (λ u=>Ag Bq) Aga) rfl rfl)
  (Ac (Mr (j:=4) (g:=(Aa4 K 2 (Md (Cg 0) (Md (Cg 1) AaY)))) (tc:=(Km (tOp (rIn K false) (Bl 0) (Bl 2)))) (te:=(Bl 1)) ["sign", "name"] [("there", 3)] Om.nd rfl (Or.inl rfl) rfl (Ei (Aj Rj) ["self", "names", "coming", "there", "outs"] (by decide +kernel)) (AdU rfl T.n_enumerate (Aa (B7 (pv 0) rfl) Ab) (AfY (Be Da rfl T.n_len PySem.boot_len (Aa (B7 (pv 0) rfl) Ab)) AgF)) (λ s2 H2 fp cl C=>Vd rfl (Hj (Bn (i:=0) (show Nodup [("sign" : Str),("name" : Str),("there" : Str)] from by decide +kernel) rfl (Or.inl rfl)) (Hj (Bn (i:=1) (show Nodup [("sign" : Str),("name" : Str),("there" : Str)] from by decide +kernel) rfl (Or.inl rfl)) Sd))) (Rb (by decide) (by decide)) (λ s2 H2 fp cl C=>Jq (Ao Bw (pv 0) (pv 2) (by rfl))) (λ s2 H2 fp cl C=>(pv 1)))
  (Ag (Aq (Ew PySem.F.plainAttrs_str PySem.F.slot_str_join PySem.F.type_str_join Ol Al (Aa (A7 Bv (Ba (Aa Al Ab)) (pv 4)) Ab))))))),?_⟩
 refine ⟨_,rfl,na,rfl,⟨_,hS⟩,?_⟩
 refine Fs (K:=K) (a:=na) (xs:=ws.map V.str) (λ j ys H'=>Same H H'∧(∀ x∈ws.take j,x∈g.ins)∧ys = (G4 g (ws.take j)).map V.int) ⟨Same.refl _,(λ x hx=>by simp at hx),rfl⟩ (by rw [uD]; exact B9 (by omega)) (λ j ys H' ⟨k,_⟩=>k.seq hS) ?_ ?_
 ·rintro j y ys H1 N hj ⟨k1,a4,rfl⟩ hN a5
  rw [uJ] at hj
  cases ej:ws[j]? with
  | none=>rw [ej] at hj; cases hj
  | some x =>
   rw [ej] at hj
   cases hj
   have hx:=uQ ej
   refine ⟨_,rfl,d,dx,_,rfl,k1 _ _ hd,rfl,_,rfl,d,dx,i,o,_,_,g.ins,x,rfl,k1 _ _ hd,k1 _ _ hi,hb x hx,?_⟩
   by_cases c:x∈g.ins
   ·refine .inl ⟨c,hN _ _ ?_ ⟨k1,λ z hz=>?_,?_⟩⟩
    ·rw [uF,uG]; omega
    ·rw [take_add_one,ej] at hz
     rcases uV.mp hz with z1 | z1
     ·exact a4 z z1
     ·simp at z1; rw [z1]; exact c
    ·unfold G4
     rw [take_add_one,ej]
     simp
   ·rcases h with ⟨_,e⟩ | ⟨ha,_⟩
    ·exact .inr ⟨c,e _ k1⟩
    ·exact absurd (ha x hx) c
 rintro ys H1 a5 ⟨k1,a4,rfl⟩ D hD
 rw [uD,take_length] at a4 ⊢
 rcases h with ⟨⟨x,hx,c⟩,_⟩ | ⟨ha,hn,b9,c4,hJ,q⟩
 ·exact absurd (a4 x hx) c
 have kD:=Ah hD (.lst ((G4 g ws).map V.int))
 have g1:=k1.trans kD
 have eD:(upd H1 D (.lst ((G4 g ws).map V.int))) D = some (.lst ((G4 g ws).map V.int)):=Ae
 generalize (upd H1 D (.lst ((G4 g ws).map V.int))) = H2 at g1 eD
 refine ⟨_,rfl,d,cD,dx,_,.ref wa,rfl,g1 _ _ hd,T.clD,T.nW,rfl,wa,dw,_,rfl,g1 _ _ hw,rfl,_,rfl,wa,dw,pr,D,sv,st,g.n,g.p,G4 g ws,rfl,g1 _ _ hw,hp.mono g1,Ks g1 hs,SqL.of eD,(by unfold G4; rw [uD]; exact hl),.inr ⟨hn,λ r b H3 k3 e3 fr fb ne er eb=>?_⟩⟩
 have a6:d≠wa:=λ z=>by rw [z,hw] at hd; cases hd
 have ke:∀ b' u,b'≠wa→H b' = some u→H3 b' = some u:=λ b' u a2 e=>k3 _ _ a2 (g1 _ _ e)
 have a3:∀ {b':Addr} {xs:List V},H b' = some (.lst xs)→b'≠wa:=λ e=>Cd e hw (by intro z; cases z)
 have a8:=ke _ _ a6 hd
 have b8:=ke _ _ (a3 hi) hi
 have a7:=ke _ _ (a3 ho) ho
 refine ⟨_,rfl,d,cD,dx,_,.ref o,rfl,a8,T.clD,T.nO,rfl,_,rfl,d,cD,dx,_,.ref i,rfl,a8,T.clD,T.nI,rfl,i,_,rfl,.inl (SqL.of b8),?_⟩
 rw [uD]
 refine ⟨o,g.ins.length,rfl,rfl,uX b9 (by decide),⟨_,SqL.of a7⟩,?_⟩
 refine Aaq (K:=K) (a:=o) (n:=g.ins.length) (xs:=g.outs.map V.str) (λ j ys H'=>Same H3 H'∧ys = (ofT g.ins.length (F4 g st ws) (g.outs.take j)).map V.str) ⟨Same.refl _,rfl⟩ (by rw [uD]; exact B9 (by omega)) (λ j ys H' ⟨k,_⟩=>SqL.of (k _ _ a7)) ?_ ?_
 ·rintro j y Tt ys H4 N hj ⟨k4,rfl⟩ hT hN a5
  rw [uJ] at hj
  cases ej:g.outs[j]? with
  | none=>rw [ej] at hj; cases hj
  | some x =>
   rw [ej] at hj
   cases hj
   have kT:=Ah hT (.tup [.int ((g.ins.length + j:Nat):Int),.str x])
   have fi:(((F4 g st ws).map V.int).all Ef) = true:=by
    rw [List.all_map,all_eq_true]
    intro z _
    rfl
   refine ⟨Tt,_,rfl,SqT.of Ae,rfl,_,_,rfl,_,_,rfl,rfl,?_⟩
   refine ⟨_,rfl,_,rfl,r,_,rfl,.inl (SqL.of (kT _ _ (k4 _ _ er))),rfl,fi,_,rfl,?_⟩
   have es:=Ad2 (n:=g.ins.length) (th:=F4 g st ws) ej
   refine B0 (λ c=>⟨_,rfl,hN _ _ ?_ ⟨k4.trans kT,?_⟩⟩) λ c=>hN _ _ ?_ ⟨k4.trans kT,?_⟩
   ·rw [uF,uG]; omega
   ·have c:inV (.int ((g.ins.length + j:Nat):Int)) ((F4 g st ws).map V.int) = true:=c
    rw [es,if_pos c,uP]; rfl
   ·omega
   ·have c:inV (.int ((g.ins.length + j:Nat):Int)) ((F4 g st ws).map V.int) = false:=c
    rw [es,c,if_neg Bool.false_ne_true,vG]
 rintro ys H4 a5 ⟨k4,rfl⟩ D2 c3
 rw [uD,take_length]
 have k5:=Ah c3 (.lst ((ofT g.ins.length (F4 g st ws) g.outs).map V.str))
 refine ⟨rfl,zN1,λ l1 b6=>?_⟩
 have k6:=Ah b6 (.lst [V.str "there"])
 have lo:=Aei (n:=g.ins.length) (th:=F4 g st ws) (l:=g.outs)
 refine ⟨_,rfl,l1,D2,_,_,rfl,rfl,Ae,k6 _ _ Ae,by rw [uD]; exact B9 (by show 1 + _≤_; omega),λ l2 c0=>?_⟩
 have k7:=Ah c0 (.lst ([V.str "there"] ++ (ofT g.ins.length (F4 g st ws) g.outs).map V.str))
 refine ⟨" ", l2, "there" :: ofT g.ins.length (F4 g st ws) g.outs,rfl,rfl,SqL.of Ae,hJ,?_⟩
 have kk:=((k4.trans k5).trans k6).trans k7
 have a1:∀ b' u,b'≠wa→H b' = some u→_:=λ b' u a2 e=>kk _ _ (ke b' u a2 e)
 refine q _ (λ b' u a2 e=>a1 b' u a2 e) ⟨dx,i,o,pr,dw,x1,vb,.ref b,a1 _ _ a6 hd,a1 _ _ (a3 hi) hi,a1 _ _ (a3 ho) ho,?_,a1 _ _ (Cd ht hw (by intro z; cases z)) ht,kk _ _ e3,⟨b,rfl,SqL.of (kk _ _ eb)⟩⟩
 obtain ⟨⟨y0,y1,v,e,a⟩,h1,h2,h3,h4,h5⟩:=hp
 have tp:Tp H _:=λ b' xs e=>a1 b' _ (Cd e hw (by intro z; cases z)) e
 exact ⟨⟨y0,y1,v,tp _ _ e,a.mono tp⟩,h1,h2,h3,h4,h5⟩
end
def AeG (x:Str):Str:=Txt.slice x (some ((("load " : Str).length:Nat):Int)) none
structure Ad where
 D:Addr
 W:Addr
 NR:Addr
 NP:Addr
 NN:Addr
 NT:Addr
 Tw:Addr
 TM:Addr
inductive SayQ (K:FA) (c:Ad) (H:Hp) (Q:VK) (E:XK) (d:Addr):V→Prop
 | row {x:V} (r:Hl K H x false) (e:∀ H',Same H H'→E (.ref c.NR) none H'):SayQ K c H Q E d x
 | load {x:Str} (r:Hl K H (.str x) true) (s:Txt.startswith x "load " = true) (hl:x.length≤1000) (hd:∃ dx i o pv wv,H d = some (.ins c.D dx (dfl i o pv wv))) (h:∀ H',Same H H'→Rd.Agp c.NT c.Tw c.NN [.str (AeG x)] H' (AgQ K c.D c.W H' d Q) E):SayQ K c H Q E d (.str x)
 | bare {x:Str} (r:Hl K H (.str x) true) (s:Txt.startswith x "load " = false) (b:Fb c.D H d) (e:∀ H',Same H H'→E (.ref c.NP) none H'):SayQ K c H Q E d (.str x)
 | wher {wa:Addr} {g:Pg} {st:Option (List Int)} (r:Hl K H (.str "where") true) (l:Ld K c.D c.W H d wa g st) (hl:∀ l,st = some l→l.length≤40) (q:∀ H',Same H H'→Q (.str (whS st)) H'):SayQ K c H Q E d (.str "where")
 | judge {wa:Addr} {g:Pg} {st:Option (List Int)} (r:Hl K H (.str "judge") true) (l:Ld K c.D c.W H d wa g st) (h5:g.ins.length = 0) (hm:LkM g.p g.n) (e:∀ H',Same H H'→E (.ref c.TM) none H'):SayQ K c H Q E d (.str "judge")
 | tick {x w0:Str} {ws:List Str} {wa:Addr} {g:Pg} {st:Option (List Int)} (r:Hl K H (.str x) true) (s:Txt.startswith x "load " = false) (n1:decide (V.str x = V.str "where") = false) (n2:decide (V.str x = V.str "begin") = false) (n3:decide (V.str x = V.str "judge") = false) (hx:x.length≤1000) (es:Txt.split x " " = w0 :: ws) (l:Ld K c.D c.W H d wa g st) (hl:ws.length < 64) (hb:∀ x∈ws,x.length≤1000)
   (h:((∃ x∈ws,¬ x∈g.ins)∧∀ H',Same H H'→E (.ref c.NN) none H') ∨
    ((∀ x∈ws,x∈g.ins)∧¬ none∈knW g.p st g.n (nub (G4 g ws))∧g.ins.length≤100∧g.outs.length≤100∧JoinOk " " ("there" :: ofT g.ins.length (F4 g st ws) g.outs) = true∧∀ H',Kp wa H H'→Ld K c.D c.W H' d wa g (some (Pf g st ws))→Q (.str (Xu g st ws)) H')):SayQ K c H Q E d (.str x)
def Aaz (K:FA) (c:Ad):Sp:=λ vs H Q E=>∃ (d:Addr) (x:V),vs = [.ref d,x]∧SayQ K c H Q E d x
section
variable {aBR cUn:Addr} {c:Ad}
seal PSs PS PE PA PT
theorem AjA (F:Fun K "say" "Desk.say" Aeb f fd) (T:Ka K mg c.D aBR c.NR c.NP c.NN cUn) (eF:Am P w K mg base 3 "is_row" ["row"] (AeW K)) (eU:Cy P w K mg base 112 c.D "load" ["self", "text"] (Abj K c.D c.W c.NT c.Tw c.NN)) (eM:Cu P w K mg base 2 c.D "where" ["self"] (Yo K c.D c.W)) (eN:Cy P w K mg base 49 c.D "judge" ["self"] (Zc K c.D c.W c.TM)) (a1:Cy P w K mg base 50 c.D "instant_with" ["self", "names"] (Agf K c.D c.W c.NN)):Bi P w K mg base (CX1 P w) 113 f fd ["self", "row"] (Aaz K c):=by
 refine F.okX Afs (λ vs H Q E h=>?_) (λ cdv A outer s H vs Q E hr h=>?_)
 ·obtain ⟨d,x,rfl,_⟩:=h; rfl
 obtain ⟨d,x,rfl,h⟩:=h
 obtain ⟨tl,ml⟩:=T.m_LOAD
 refine ⟨_,(Ac (Ax (Gx (Ch (Ap eF hr rfl Av (Aa (pv 1) Ab)) (λ _=>rfl)))
   (Ag (Ci T.eNR T.m_NR rfl (Aa Al Ab)))
   Au)
  (Ac (Ax (Ch (Ew PySem.F.plainAttrs_str PySem.F.slot_str_startswith PySem.F.type_str_startswith Ts (pv 1) (Aa (Bb (v:=.str "load ") rfl ml ⟨_,rfl⟩) Ab)) (λ _=>rfl))
   (Ag (Aq (Dh eU hr (pv 0) (Aa (Mo AgE (pv 1) (Op (Be G6 rfl T.n_len PySem.boot_len (Aa (Bb (v:=.str "load ") rfl ml ⟨_,rfl⟩) Ab))) Oz) Ab))))
   Au)
  (Ac (Ax (Ao J4 (B7 (pv 0) rfl) Ce (Aw _))
   (Ag (Ci T.eNP T.m_NP rfl (Aa Al Ab)))
   Au)
  (Ac (Ax (Ao A6 (pv 1) Al (Aw _))
   (Ag (Aq (Bt eM hr Av (pv 0))))
   Au)
  (Ac (Ax (Ao A6 (pv 1) Al (Aw _))
   (Ag Bq)
   Au)
  (Ac (Ax (Ao A6 (pv 1) Al (Aw _))
   (Ag (Aq (Io eN hr (pv 0))))
   Au)
  (Ag (Aq (Dh a1 hr (pv 0) (Aa (Mo R5 (Ew PySem.F.plainAttrs_str PySem.F.slot_str_split PySem.F.type_str_split T8 (pv 1) (Aa Al Ab)) (Op Af) Oz) Ab)))))))))),?_⟩
 cases h with
 | row r e =>
  refine ⟨_,rfl,_,false,rfl,r,λ H1 g1=>⟨_,rfl,Bs ⟨by show 1≤sizeLine; decide,e _ g1⟩⟩⟩
 | load r s hl hd h =>
  obtain ⟨dx,i,o,a2,wv,hd⟩:=hd
  refine ⟨_,rfl,_,true,rfl,r,λ H1 g1=>⟨_,rfl,Bj ⟨_,rfl,rfl,_,_,rfl,rfl,?_⟩⟩⟩
  rw [s]
  refine ⟨_,rfl,Bs ⟨_,rfl,d,dx,_,rfl,g1 _ _ hd,rfl,_,rfl,_,rfl,(by decide +kernel),_,rfl,_,rfl,uX hl (by decide),d,dx,i,o,a2,wv,_,rfl,g1 _ _ hd,h _ g1⟩⟩
 | bare r s b e =>
  obtain ⟨dx,i,o,hd⟩:=b
  refine ⟨_,rfl,_,true,rfl,r,λ H1 g1=>⟨_,rfl,Bj ⟨_,rfl,rfl,_,_,rfl,rfl,?_⟩⟩⟩
  rw [s]
  exact ⟨_,rfl,Bj ⟨_,rfl,d,c.D,dx,_,.non,rfl,g1 _ _ hd,T.clD,T.nP,rfl,rfl,_,rfl,Bs ⟨by show 1≤sizeLine; decide,e _ g1⟩⟩⟩
 | @wher wa g st r l hl q =>
  refine ⟨_,rfl,_,true,rfl,r,λ H1 g1=>⟨_,rfl,Bj ⟨_,rfl,rfl,_,_,rfl,rfl,?_⟩⟩⟩
  rw [show Txt.startswith "where" "load " = false by decide +kernel]
  have l1:=l.same g1
  obtain ⟨dx,i,o,pr,dw,x1,vb,sv,hd,_⟩:=l1
  refine ⟨_,rfl,Bj ⟨_,rfl,d,c.D,dx,_,.ref pr,rfl,hd,T.clD,T.nP,rfl,rfl,_,rfl,Bj ⟨_,rfl,rfl,_,rfl,Bs ⟨_,rfl,d,dx,_,rfl,hd,rfl,d,wa,g,st,rfl,l.same g1,hl,λ H2 g2=>q _ (g1.trans g2)⟩⟩⟩⟩
 | @judge wa g st r l h5 hm e =>
  refine ⟨_,rfl,_,true,rfl,r,λ H1 g1=>⟨_,rfl,Bj ⟨_,rfl,rfl,_,_,rfl,rfl,?_⟩⟩⟩
  rw [show Txt.startswith "judge" "load " = false by decide +kernel]
  have l1:=l.same g1
  obtain ⟨dx,i,o,pr,dw,x1,vb,sv,hd,_⟩:=l1
  refine ⟨_,rfl,Bj ⟨_,rfl,d,c.D,dx,_,.ref pr,rfl,hd,T.clD,T.nP,rfl,rfl,_,rfl,Bj ⟨_,rfl,rfl,_,rfl,Bj ⟨_,rfl,rfl,_,rfl,Bj ⟨_,rfl,rfl,_,rfl,Bs ⟨_,rfl,d,dx,_,rfl,hd,rfl,d,wa,g,st,rfl,l.same g1,h5,hm,λ H2 g2=>e _ (g1.trans g2)⟩⟩⟩⟩⟩⟩
 | @tick x w0 ws wa g st r s n1 n2 n3 hx es l hl hb h =>
  refine ⟨_,rfl,_,true,rfl,r,λ H1 g1=>⟨_,rfl,Bj ⟨_,rfl,rfl,_,_,rfl,rfl,?_⟩⟩⟩
  rw [s]
  have l1:=l.same g1
  obtain ⟨dx,i,o,pr,dw,x1,vb,sv,hd,_⟩:=l1
  refine ⟨_,rfl,Bj ⟨_,rfl,d,c.D,dx,_,.ref pr,rfl,hd,T.clD,T.nP,rfl,rfl,_,rfl,Bj ⟨_,rfl,rfl,_,rfl,?_⟩⟩⟩
  rw [n1]
  refine Bj ⟨_,rfl,rfl,_,rfl,?_⟩
  rw [n2]
  refine Bj ⟨_,rfl,rfl,_,rfl,?_⟩
  rw [n3]
  refine Bj ⟨_,rfl,d,dx,_,rfl,hd,rfl,_,rfl,rfl,x, " ", rfl,rfl,by decide +kernel,uX hx (by decide),(by rw [es]; exact B9 (by show _ + 1≤_; omega)),λ p hp=>?_⟩
  rw [es]
  have k2:=Ah hp (.lst ((w0 :: ws).map V.str))
  refine ⟨_,rfl,p,_,rfl,SqL.of Ae,λ p2 a4=>?_⟩
  rw [show J1 ((w0 :: ws).map V.str) (some 1) none = ws.map V.str from Xv _ _]
  have k3:=Ah a4 (.lst (ws.map V.str))
  have kk:=(g1.trans k2).trans k3
  refine ⟨d,wa,p2,g,st,ws,rfl,l.same kk,SqL.of Ae,hl,hb,?_⟩
  rcases h with ⟨a,e⟩ | ⟨a,b,h1,h2,h3,q⟩
  ·exact .inl ⟨a,λ H' g'=>e _ (kk.trans g')⟩
  ·exact .inr ⟨a,b,h1,h2,h3,λ H' k' l'=>q _ (λ b' u a3 e=>k' _ _ a3 (kk _ _ e)) l'⟩
end
open Rd (okC Fz wordsT Aa1 G1 NmL Os Ec chk hdS nameB bareL namedL roundL)
def AgB (x:Str) (ws:List Str):Bool:=decide (x.length≤3000) && x.cps.toList.all okC && decide (tok [] x.cps.toList = ws.map λ z=>z.cps.toList) && decide (Fz ws≤16)
structure OkT (x:Str) (ws:List Str):Prop where
 l:x.length≤3000
 ok:x.cps.toList.all okC = true
 w:wordsT x = ws
 mo:Fz (wordsT x)≤16
theorem Di (h:AgB x ws = true):OkT x ws:=by
 unfold AgB at h
 rw [Bool.and_eq_true,Bool.and_eq_true,Bool.and_eq_true] at h
 obtain ⟨⟨⟨h1,h2⟩,h3⟩,h4⟩:=h
 have w:wordsT x = ws:=by
  have w:=(O6 x).trans (uN h3)
  exact (List.map_inj_right (λ a b a1=>Str.ext' (Array.toList_inj.mp a1))).mp w
 exact ⟨uN h1,h2,w,by rw [w]; exact uN h4⟩
inductive TxQ (x:Str):Int→Prop
 | text (l:x.length≤3000) (h:Aa1 x):TxQ x 2
 | twice (l:x.length≤3000) (ok:x.cps.toList.all okC = true) (mo:Fz (wordsT x)≤16) (ins outs:List Str) (d:Nat) (t:Nd) (hd:d≤20) (W:Os (wordsT x) ins outs d t) (c:cnt t≤60) (nd:¬ (ins ++ outs).Nodup):TxQ x 3
 | name (l:x.length≤3000) (ok:x.cps.toList.all okC = true) (mo:Fz (wordsT x)≤16) (ins outs:List Str) (d:Nat) (t:Nd) (hd:d≤20) (W:Os (wordsT x) ins outs d t) (c:cnt t≤60) (nd:(ins ++ outs).Nodup) (ck:chk t (ins ++ outs) [] = false):TxQ x 1
def Ad.cls (c:Ad) (k:Int):Addr:=if k = 0 then c.NR else if k = 1 then c.NN else if k = 2 then c.NT else if k = 3 then c.Tw else if k = 4 then c.NP else c.TM
theorem Aeq {c:Ad} {k:Int} {E:XK} (q:TxQ x k) (e:∀ H',Same H H'→E (.ref (c.cls k)) none H'):Rd.Agp c.NT c.Tw c.NN [.str x] H Q E:=by
 cases q with
 | text l h=>exact ⟨x,rfl,uX l (by decide),.inr (.inl ⟨l,h,e⟩)⟩
 | twice l ok mo ins outs d t hd W c nd=>exact ⟨x,rfl,uX l (by decide),.inr (.inr ⟨l,ok,mo,ins,outs,d,t,hd,W,uX c (by decide),.inr (.inl ⟨c,nd,e⟩)⟩)⟩
 | name l ok mo ins outs d t hd W c nd ck=>exact ⟨x,rfl,uX l (by decide),.inr (.inr ⟨l,ok,mo,ins,outs,d,t,hd,W,uX c (by decide),.inr (.inr ⟨c,nd,.inl ⟨ck,e⟩⟩)⟩)⟩
theorem AiX (d:Nat):Ec d []:=.no (by decide +kernel) (by decide +kernel) (by decide +kernel) (by decide +kernel) (by decide +kernel) (by decide +kernel)
theorem nt0:TxQ "" 2:=by
 have o:=Di (x:= "") (ws:=[]) (by decide +kernel)
 exact .text o.l (.inr (.inr (by rw [o.w]; exact .noIn (by decide +kernel))))
theorem nt1:TxQ "rest" 2:=by
 have o:=Di (x:= "rest") (ws:=["rest"]) (by decide +kernel)
 exact .text o.l (.inr (.inr (by rw [o.w]; exact .noIn (by decide +kernel))))
theorem nt2:TxQ "in;out;" 2:=by
 have o:=Di (x:= "in;out;") (ws:=["in", ";", "out", ";"]) (by decide +kernel)
 exact .text o.l (.inr (.inr (by rw [o.w]; exact .blk (ins:=[]) (outs:=[]) (d:=0) (by unfold NmL; decide +kernel) (by unfold NmL; decide +kernel) (by decide) (.first (.first (AiX 0))))))
theorem nt3:TxQ "in bb;out cc;send" 2:=by
 have o:=Di (x:= "in bb;out cc;send") (ws:=["in", "bb", ";", "out", "cc", ";", "send"]) (by decide +kernel)
 exact .text o.l (.inr (.inr (by rw [o.w]; exact .blk (ins:=["bb"]) (outs:=["cc"]) (d:=0) (by unfold NmL; decide +kernel) (by unfold NmL; decide +kernel) (by decide) (.first (.first (.named (by decide +kernel) (by decide +kernel)))))))
theorem nt4:TxQ "in bb;out cc dd;{rest" 2:=by
 have o:=Di (x:= "in bb;out cc dd;{rest") (ws:=["in", "bb", ";", "out", "cc", "dd", ";", "{", "rest"]) (by decide +kernel)
 exact .text o.l (.inr (.inr (by rw [o.w]; exact .blk (ins:=["bb"]) (outs:=["cc", "dd"]) (d:=1) (by unfold NmL; decide +kernel) (by unfold NmL; decide +kernel) (by decide) (.first (.first (.brace rfl (.noClose (t:=.t [.s "rest"]) (r':=[]) (.mk (.mk (.bare (by decide +kernel)) (.done (by decide +kernel))) (.done (by decide +kernel))) (by decide +kernel))))))))
theorem nt5:TxQ "in bb out;rest" 2:=by
 have o:=Di (x:= "in bb out;rest") (ws:=["in", "bb", "out", ";", "rest"]) (by decide +kernel)
 exact .text o.l (.inr (.inr (by rw [o.w]; exact .semi1 (ins:=["bb"]) (r:=["out", ";", "rest"]) (by unfold NmL; decide +kernel) (by decide +kernel) (by decide +kernel))))
theorem nt6:TxQ "in;out;rest 1" 2:=.text (by decide +kernel) (.inl (by decide +kernel))
theorem tw0:TxQ "in bb bb;out;rest" 3:=by
 have o:=Di (x:= "in bb bb;out;rest") (ws:=["in", "bb", "bb", ";", "out", ";", "rest"]) (by decide +kernel)
 exact .twice o.l o.ok o.mo ["bb", "bb"] [] 0 (.t [.s "rest"]) (by decide) ⟨⟨["rest"],o.w,(.mk (.mk (.bare (by decide +kernel)) (.done (by decide +kernel))) (.done (by decide +kernel)))⟩,by decide +kernel,by decide +kernel,by decide,by decide⟩ (by decide +kernel) (by decide +kernel)
theorem tw1:TxQ "in bb;out cc bb;rest" 3:=by
 have o:=Di (x:= "in bb;out cc bb;rest") (ws:=["in", "bb", ";", "out", "cc", "bb", ";", "rest"]) (by decide +kernel)
 exact .twice o.l o.ok o.mo ["bb"] ["cc", "bb"] 0 (.t [.s "rest"]) (by decide) ⟨⟨["rest"],o.w,(.mk (.mk (.bare (by decide +kernel)) (.done (by decide +kernel))) (.done (by decide +kernel)))⟩,by decide +kernel,by decide +kernel,by decide,by decide⟩ (by decide +kernel) (by decide +kernel)
theorem tw2:TxQ "in;out cc dd cc;send ee" 3:=by
 have o:=Di (x:= "in;out cc dd cc;send ee") (ws:=["in", ";", "out", "cc", "dd", "cc", ";", "send", "ee"]) (by decide +kernel)
 exact .twice o.l o.ok o.mo [] ["cc", "dd", "cc"] 0 (.t [.s "send", .s "ee"]) (by decide) ⟨⟨["send", "ee"],o.w,(.mk (.mk (.named (by decide +kernel) (by decide +kernel)) (.done (by decide +kernel))) (.done (by decide +kernel)))⟩,by decide +kernel,by decide +kernel,by decide,by decide⟩ (by decide +kernel) (by decide +kernel)
theorem nn0:TxQ "in bb;out cc;send dd" 1:=by
 have o:=Di (x:= "in bb;out cc;send dd") (ws:=["in", "bb", ";", "out", "cc", ";", "send", "dd"]) (by decide +kernel)
 exact .name o.l o.ok o.mo ["bb"] ["cc"] 0 (.t [.s "send", .s "dd"]) (by decide) ⟨⟨["send", "dd"],o.w,(.mk (.mk (.named (by decide +kernel) (by decide +kernel)) (.done (by decide +kernel))) (.done (by decide +kernel)))⟩,by decide +kernel,by decide +kernel,by decide,by decide⟩ (by decide +kernel) (by decide +kernel) (by decide +kernel)
theorem nn1:TxQ "in;out;exit bb" 1:=by
 have o:=Di (x:= "in;out;exit bb") (ws:=["in", ";", "out", ";", "exit", "bb"]) (by decide +kernel)
 exact .name o.l o.ok o.mo [] [] 0 (.t [.s "exit", .s "bb"]) (by decide) ⟨⟨["exit", "bb"],o.w,(.mk (.mk (.named (by decide +kernel) (by decide +kernel)) (.done (by decide +kernel))) (.done (by decide +kernel)))⟩,by decide +kernel,by decide +kernel,by decide,by decide⟩ (by decide +kernel) (by decide +kernel) (by decide +kernel)
theorem nn2:TxQ "in bb;out;trap dd{exit bb}" 1:=by
 have o:=Di (x:= "in bb;out;trap dd{exit bb}") (ws:=["in", "bb", ";", "out", ";", "trap", "dd", "{", "exit", "bb", "}"]) (by decide +kernel)
 exact .name o.l o.ok o.mo ["bb"] [] 1 (.t [.s "trap", .s "dd", .t [.s "exit", .s "bb"]]) (by decide) ⟨⟨["trap", "dd", "{", "exit", "bb", "}"],o.w,(.mk (.mk (.round (by decide +kernel) (by decide +kernel) (.mk (.mk (.mk (.named (by decide +kernel) (by decide +kernel)) (.done (by decide +kernel))) (.done (by decide +kernel))))) (.done (by decide +kernel))) (.done (by decide +kernel)))⟩,by decide +kernel,by decide +kernel,by decide,by decide⟩ (by decide +kernel) (by decide +kernel) (by decide +kernel)
theorem nn3:TxQ "in;out;local cc{rest};keep cc" 1:=by
 have o:=Di (x:= "in;out;local cc{rest};keep cc") (ws:=["in", ";", "out", ";", "local", "cc", "{", "rest", "}", ";", "keep", "cc"]) (by decide +kernel)
 exact .name o.l o.ok o.mo [] [] 1 (.t [.s "then", .t [.s "local", .s "cc", .t [.s "rest"]],.t [.s "keep", .s "cc"]]) (by decide) ⟨⟨["local", "cc", "{", "rest", "}", ";", "keep", "cc"],o.w,(.mk (.mk (.round (by decide +kernel) (by decide +kernel) (.mk (.mk (.mk (.bare (by decide +kernel)) (.done (by decide +kernel))) (.done (by decide +kernel))))) (.more (.named (by decide +kernel) (by decide +kernel)) (.done (by decide +kernel)))) (.done (by decide +kernel)))⟩,by decide +kernel,by decide +kernel,by decide,by decide⟩ (by decide +kernel) (by decide +kernel) (by decide +kernel)
theorem nn4:TxQ "in;out;send bb" 1:=by
 have o:=Di (x:= "in;out;send bb") (ws:=["in", ";", "out", ";", "send", "bb"]) (by decide +kernel)
 exact .name o.l o.ok o.mo [] [] 0 (.t [.s "send", .s "bb"]) (by decide) ⟨⟨["send", "bb"],o.w,(.mk (.mk (.named (by decide +kernel) (by decide +kernel)) (.done (by decide +kernel))) (.done (by decide +kernel)))⟩,by decide +kernel,by decide +kernel,by decide,by decide⟩ (by decide +kernel) (by decide +kernel) (by decide +kernel)
def txA:Str:= "in bb;out cc dd;again{send cc;rest;if bb{send dd};rest}"
def ndA:Nd:=.t [.s "again", .t [.s "then", .t [.s "then", .t [.s "then", .t [.s "send", .s "cc"],.t [.s "rest"]],.t [.s "if", .s "bb", .t [.s "send", .s "dd"],.t [.s "nothing"]]],.t [.s "rest"]]]
theorem AhJ {E:XK} (q:∀ v H',Same H H'→Rd.Sg H' v ["bb"] ["cc", "dd"] ndA→Q v H'):Rd.Agp a b c [.str txA] H Q E:=by
 have o:=Di (x:= "in bb;out cc dd;again{send cc;rest;if bb{send dd};rest}") (ws:=["in", "bb", ";", "out", "cc", "dd", ";", "again", "{", "send", "cc", ";", "rest", ";", "if", "bb", "{", "send", "dd", "}", ";", "rest", "}"]) (by decide +kernel)
 exact ⟨_,rfl,uX o.l (by decide),.inr (.inr ⟨o.l,o.ok,o.mo,["bb"],["cc", "dd"],2,ndA,by decide,⟨⟨["again", "{", "send", "cc", ";", "rest", ";", "if", "bb", "{", "send", "dd", "}", ";", "rest", "}"],o.w,(.mk (.mk (.again (.mk (.mk (.mk (.named (by decide +kernel) (by decide +kernel)) (.more (.bare (by decide +kernel)) (.more (.iff (.one (by decide +kernel) (.mk (.mk (.mk (.named (by decide +kernel) (by decide +kernel)) (.done (by decide +kernel))) (.done (by decide +kernel)))) (by decide +kernel))) (.more (.bare (by decide +kernel)) (.done (by decide +kernel)))))) (.done (by decide +kernel))))) (.done (by decide +kernel))) (.done (by decide +kernel)))⟩,by decide +kernel,by decide +kernel,by decide,by decide⟩,by decide +kernel,.inr (.inr ⟨by decide +kernel,by decide +kernel,.inr ⟨by decide +kernel,q⟩⟩)⟩)⟩
def txM:Str:= "in;out;again{rest;rest;rest;rest;rest}|again{rest;rest;rest;rest;rest;rest}"
def ndM:Nd:=.t [.s "beside", .t [.s "again", .t [.s "then", .t [.s "then", .t [.s "then", .t [.s "then", .t [.s "rest"],.t [.s "rest"]],.t [.s "rest"]],.t [.s "rest"]],.t [.s "rest"]]],.t [.s "again", .t [.s "then", .t [.s "then", .t [.s "then", .t [.s "then", .t [.s "then", .t [.s "rest"],.t [.s "rest"]],.t [.s "rest"]],.t [.s "rest"]],.t [.s "rest"]],.t [.s "rest"]]]]
theorem Ahd {E:XK} (q:∀ v H',Same H H'→Rd.Sg H' v [] [] ndM→Q v H'):Rd.Agp a b c [.str txM] H Q E:=by
 have o:=Di (x:= "in;out;again{rest;rest;rest;rest;rest}|again{rest;rest;rest;rest;rest;rest}") (ws:=["in", ";", "out", ";", "again", "{", "rest", ";", "rest", ";", "rest", ";", "rest", ";", "rest", "}", "|", "again", "{", "rest", ";", "rest", ";", "rest", ";", "rest", ";", "rest", ";", "rest", "}"]) (by decide +kernel)
 exact ⟨_,rfl,uX o.l (by decide),.inr (.inr ⟨o.l,o.ok,o.mo,[],[],1,ndM,by decide,⟨⟨["again", "{", "rest", ";", "rest", ";", "rest", ";", "rest", ";", "rest", "}", "|", "again", "{", "rest", ";", "rest", ";", "rest", ";", "rest", ";", "rest", ";", "rest", "}"],o.w,(.mk (.mk (.again (.mk (.mk (.mk (.bare (by decide +kernel)) (.more (.bare (by decide +kernel)) (.more (.bare (by decide +kernel)) (.more (.bare (by decide +kernel)) (.more (.bare (by decide +kernel)) (.done (by decide +kernel))))))) (.done (by decide +kernel))))) (.done (by decide +kernel))) (.more (.mk (.again (.mk (.mk (.mk (.bare (by decide +kernel)) (.more (.bare (by decide +kernel)) (.more (.bare (by decide +kernel)) (.more (.bare (by decide +kernel)) (.more (.bare (by decide +kernel)) (.more (.bare (by decide +kernel)) (.done (by decide +kernel)))))))) (.done (by decide +kernel))))) (.done (by decide +kernel))) (.done (by decide +kernel))))⟩,by decide +kernel,by decide +kernel,by decide,by decide⟩,by decide +kernel,.inr (.inr ⟨by decide +kernel,by decide +kernel,.inr ⟨by decide +kernel,q⟩⟩)⟩)⟩
def pgA:Pg:=⟨["bb"],["cc", "dd"],3,.again 2 (.thn (.thn (.thn (.send 1) (.rest 0)) (.iff 0 (.send 2) .nothing)) (.rest 1))⟩
def pgM:Pg:=⟨[],[],0,.bes (.again 5 (.thn (.thn (.thn (.thn (.rest 0) (.rest 1)) (.rest 2)) (.rest 3)) (.rest 4))) (.again 12 (.thn (.thn (.thn (.thn (.thn (.rest 6) (.rest 7)) (.rest 8)) (.rest 9)) (.rest 10)) (.rest 11)))⟩
def npA:Pln.Np:=.again (.thn (.thn (.thn (.send "cc") .rest) (.iff "bb" (.send "dd") .nothing)) .rest)
def npM:Pln.Np:=.bes (.again (.thn (.thn (.thn (.thn .rest .rest) .rest) .rest) .rest)) (.again (.thn (.thn (.thn (.thn (.thn .rest .rest) .rest) .rest) .rest) .rest))
theorem Ag8:Ux pgA npA ndA:=⟨rfl,by with_unfolding_all exact ⟨⟨⟨⟨_,rfl⟩,trivial⟩,⟨_,rfl⟩,⟨_,rfl⟩,trivial⟩,trivial⟩,by decide,by decide +kernel,by with_unfolding_all rfl,by with_unfolding_all rfl,by decide +kernel,by decide +kernel,by decide +kernel,by show okW 3 _; simp [okW,pgA],by decide⟩
theorem AhO:Ux pgM npM ndM:=⟨rfl,by with_unfolding_all exact ⟨⟨⟨⟨⟨trivial,trivial⟩,trivial⟩,trivial⟩,trivial⟩,⟨⟨⟨⟨trivial,trivial⟩,trivial⟩,trivial⟩,trivial⟩,trivial⟩,by decide,by decide +kernel,by with_unfolding_all rfl,by with_unfolding_all rfl,by decide +kernel,by decide +kernel,by decide +kernel,by show okW 0 _; simp [okW,pgM],by decide⟩
def SA:List (Option (List Int)):=[none,some [0],some [1],some [2]]
theorem goA:∀ st∈SA,∀ ws∈([[],["bb"]]:List (List Str)),¬ none∈knW pgA.p st pgA.n (nub (G4 pgA ws))∧some (Pf pgA st ws)∈SA∧JoinOk " " ("there" :: ofT pgA.ins.length (F4 pgA st ws) pgA.outs) = true:=by decide +kernel
theorem AgP:∀ st∈SA,∀ l,st = some l→l.length≤40:=by
 intro st h l e
 subst e
 simp only [SA,vI,vF,or_false,reduceCtorEq,Option.some.injEq,false_or] at h
 rcases h with rfl | rfl | rfl <;> decide
theorem goM:¬ none∈knW pgM.p none pgM.n (nub (G4 pgM []))∧Pf pgM none [] = [0,6]∧JoinOk " " ("there" :: ofT pgM.ins.length (F4 pgM none []) pgM.outs) = true∧Xu pgM none [] = "there" := by decide +kernel
theorem AhW:LkM pgM.p pgM.n:=by
 unfold LkM
 decide +kernel
end Dsk
namespace L2
open PySem PySem.Spec PySem.Calls PyProof.Rows PySem.W
structure Ev (k:Nat) (A:Around):Prop where
 dp:A.depth + 3 * k + 5 < recursionLimit
 un:A.units + 16 * k + 200 < cLine
theorem Bp.h (r:Bp k A):Ev k A:=⟨r.dp,r.un⟩
theorem Ev.mark (r:Ev k A) (u:Option Value):Ev k (A.mark u):=⟨r.dp,r.un⟩
theorem Ev.mono (r:Ev k A) (h:j≤k):Ev j A:=⟨by have:=r.dp; omega,by have:=r.un; omega⟩
theorem Ev.deeper (r:Ev (k + 1) A) (env:Env):Ev k (A.deeper env) :=
 ⟨by have:=r.dp; show A.depth + 1 + 3 * k + 5 < _; omega,by have:=r.un; show A.units + 3 + 16 * k + 200 < _; omega⟩
theorem Ev.depth (r:Ev k A):A.depth < recursionLimit:=by have:=r.dp; omega
abbrev cxH (P:Program) (w:World) (K:FA) (mg:Str→Option Value) (base:Heap) (N:List Str) (qual:Str) (scope:Scope) (f:Addr) (cd:Value) (A:Around) (outer:List Env) (s:Shared) (H:Hp):Cx :=
 { cxOf CX0 P w K mg base N qual scope f cd A outer s H E0 with calm:=false,xe:=λ _ _=>False }
def Oy (P:Program) (w:World) (K:FA) (mg:Str→Option Value) (base:Heap) (k:Nat) (x:Str) (ps:List Str) (sp:Sp):Prop :=
 ∃ f fd,(∀ vs H Q E,sp vs H Q E→vs.length = ps.length)∧(∀ (A:Around) (outer:List Env) (s:Shared) (H:Hp) (args:Args) (us:List Value) (vs:List V) (Q:VK),Ev k A→Kx P w K mg base A outer s H→BindsTo s fd args (ps.zip us)→A5 vs us→sp vs H Q E0 →
  codeAny (model P w) A (.call (.ref f) args) (CR CX0 outer P w H s Q E0) s)∧Br K fd ps []∧keepIn K (.ref f) = true∧mg x = some (.ref f)
theorem AaK 
  (S:Ar N ps scope) (e0:Kx P w K mg base A outer s H) (hl:vs.length = ps.length) (r:A5 vs us)
  (x:InCallC s s.heap.objs.size (bindL (envOfC qual scope s.heap.objs.size f cd).kindOf (ps.zip us) λ _=>none) (cellsFrom (s.heap.objs.size + 1) scope.names []) (bindC (envOfC qual scope s.heap.objs.size f cd).kindOf (ps.zip us) λ _=>none) s1) :
  Inv (cxH P w K mg base N qual scope f cd A outer s H) [] (Eu N vs) H s1:=by
 have e1:Kx P w K mg base { A with handled:=none } outer s H:=⟨e0.frames,e0.mod,e0.bs,e0.bsz,e0.funs,e0.frf,e0.hok,e0.bare⟩
 have I:=Tg (CX:=CX0) (E:=E0) (A:={ A with handled:=none }) S rfl e1 hl r x
 exact ⟨⟨I.ok.mod,I.ok.kind,I.ok.glob,I.ok.blt,I.ok.above,I.ok.inj,I.ok.has,I.ok.cab,λ z=>(by cases z),I.ok.frames,I.ok.stk,I.ok.exf,I.ok.bs,I.ok.bsz,I.ok.noex,I.ok.exfs,I.ok.funs,I.ok.frf⟩,
  I.os,I.bare,I.base,I.loc,I.cell,I.free,I.freeC,I.pin,I.hok,I.len⟩
theorem Bd.okH {st:Stmt} {N:List Str} {k:Nat} (F:Bd K mg x ps st) (S:Ar N ps (Aj st)) (len:∀ vs H Q E,sp vs H Q E→vs.length = ps.length)
  (a2:∀ (f:Addr) (cdv:Value) (A:Around) (outer:List Env) (s:Shared) (H:Hp) (vs:List V) (Q:VK),Ev k (A.deeper (envOfC x (Aj st) s.heap.objs.size f cdv))→sp vs H Q E0 →
   ∃ t,PSs (cxH P w K mg base N x (Aj st) f cdv A outer s H) (Bx st) t∧t { nx:=λ _ H'=>Q .non H',rt:=Q } (Eu N vs) H):Oy P w K mg base (k + 1) x ps sp:=by
 obtain ⟨f,fd,F,m,b⟩:=F
 refine ⟨f,fd,len,?_,b,F.kp,m⟩
 obtain ⟨oc,od,kV,doc,pm,an,cdv,ct,osl,rfl,lk,a6⟩:=F.ex
 intro A outer s H args us vs Q hr e0 hb r a4
 have hl:=len _ _ _ _ a4
 have KX:=e0.mod.kin.keeps λ b o e=>(e0.bs b o e).1
 have a7:=e0.mod.nolimit.keeps λ b o e=>(e0.bs b o e).1
 have a3:∀ y∈ps.zip us,(Aj st).names.lookup y.1 = some .local∨((Aj st).names.lookup y.1 = some .cell∧((cellsFrom (s.heap.objs.size + 1) (Aj st).names []).lookup y.1).isSome = true):=λ ⟨n,v⟩ hy=>by
  rcases S.par n (of_mem_zip hy).1 with q | q
  ·exact .inl q
  ·exact .inr ⟨q,cellsFrom_some _ _ _ (.inl q)⟩
 refine codeAny_call_function hr.depth (KX _ _ lk) rfl S.co S.gen rfl (codeRec_of KX a6) (hb _ _ _ _ ?_)
 refine wpAny_newFunctionEnv_cells S.kind a3 λ env he s1 ic=>?_
 subst he
 refine ⟨a7.keeps ic.toInCall.keep,codeAny_func ?_⟩
 obtain ⟨t,ht,hq⟩:=a2 f cdv A outer s H vs Q (hr.deeper _) a4
 have I:=AaK (qual:=x) (f:=f) (cd:=cdv) S e0 hl r ic
 refine vS (ht [] s1 (Eu N vs) H _ I hq) (λ fl s' hs=>?_) λ e s' hs=>False.elim hs
 have a5:∀ {a1:St} {H':Hp} {v:V} {u:Value},Inv (cxH P w K mg base N x (Aj st) f cdv A outer s H) [] a1 H' s'→A8 v u→Q v H'→CE outer P w H s Q u s' :=
  λ {a1 H' v u} J rv q=>⟨v,H',J.os,J.bare,J.base,J.hok,rv,q⟩
 cases fl with
 | ret u =>
  obtain ⟨v,a1,H',J,rv,q⟩:=hs
  exact a5 J rv q
 | next =>
  obtain ⟨a1,H',J,q⟩:=hs
  exact a5 (v:=V.non) (u:=Value.none) J rfl q
 | brk =>
  obtain ⟨_,_,_,q⟩:=hs
  exact False.elim q
 | cont =>
  obtain ⟨_,_,_,q⟩:=hs
  exact False.elim q
section
variable {p:Pos} {t:TA} {k j:Nat}
theorem Adi (C:Oy X.prog X.w X.K X.mg X.base j x ps sp) (hr:Ev k X.A) (hg:Gl X x) (ha:PA X (e :: es) t) (hj:j≤k:=by first | decide | omega)
  (a1:(x == ("__debug__" : Str)) = false:=by decide) (he:starEach (e :: es) X.env = (false,eval e X.env) :: starEach es X.env:=by rfl) (a2:(backTo pos (starEach es X.env)).any (·.1) = false:=by rfl) :
  PE X (.Call (.Name x p) (e :: es) [] pos) (G3 sp [] E0 t):=by
 obtain ⟨f,fd,len,run,hb,hk,hm⟩:=C
 intro pins s σ H Q I h
 refine wpAny_Call_Name_kw (E7 I hg hm ?_ a1)
 refine callWith_K (h₀:=X.base) I.ok.mod.kin hk (thn (ha pos pins s σ H _ I h) λ us s1 ⟨vs,H1,I1,r,q⟩=>⟨I1.kIn,?_⟩) he a2
 have r2:A5 (vs ++ []) (us ++ []):=by rw [vG,vG]; exact r
 have hl:(us ++ []).length = ps.length:=by rw [← r2.length]; exact len _ _ _ _ q
 refine wpAny_call (codeAny_mono (run X.A X.stack s1 H1 ⟨us,[]⟩ (us ++ []) (vs ++ []) Q (hr.mono hj) I1.env0 (hb s1 us I1.kIn hl) r2 q) λ r s' hq=>?_)
 cases r with
 | error e=>exact False.elim hq
 | ok fl =>
  cases fl with
  | ret u=>exact I1.after hq
  | next=>exact False.elim hq
  | brk=>exact False.elim hq
  | cont=>exact False.elim hq
end
end L2
namespace Dsk
open PySem L2 My
structure Err (mg:Str→Option Value) (c:Ad) (cUn:Addr):Prop where
 mNR:mg "NoRow" = some (.ref c.NR)
 mNN:mg "NoName" = some (.ref c.NN)
 mNT:mg "NoText" = some (.ref c.NT)
 mTw:mg "Twice" = some (.ref c.Tw)
 mNP:mg "NoProgram" = some (.ref c.NP)
 mTM:mg "TooMany" = some (.ref c.TM)
 mUn:mg "Unsettled" = some (.ref cUn)
structure IsK (K:FA) (c:Ad) (cUn cWE C:Addr) (k:Int):Prop where
 ce:Xt K C
 k0:PySem.W.kitOne K (.ref C) (.ref c.NR) = some (decide (k = 0))
 k1:PySem.W.kitOne K (.ref C) (.ref c.NN) = some (decide (k = 1))
 k2:PySem.W.kitOne K (.ref C) (.ref c.NT) = some (decide (k = 2))
 k3:PySem.W.kitOne K (.ref C) (.ref c.Tw) = some (decide (k = 3))
 k4:PySem.W.kitOne K (.ref C) (.ref c.NP) = some (decide (k = 4))
 k5:PySem.W.kitOne K (.ref C) (.ref c.TM) = some (decide (k = 5))
 k6:PySem.W.kitOne K (.ref C) (.ref cUn) = some false
 k7:PySem.W.kitOne K (.ref C) (.type "ValueError") = some true
 we:exmOne K (.ref C) (.ref cWE) = some true
def dl (k:Int):List Bool:=[decide (k = 0),decide (k = 1),decide (k = 2),decide (k = 3),decide (k = 4),decide (k = 5)]
def AgM (k:Int):List V:=(dl k).map V.bl ++ [.bl false,.bl true]
theorem Ahu (k:Int):∀ i:Nat,i < 6→(dl k)[i]? = some (decide (V.int k = V.int (0 + (i:Int)))):=by
 intro i hi
 have:i = 0∨i = 1∨i = 2∨i = 3∨i = 4∨i = 5:=by omega
 rcases this with rfl | rfl | rfl | rfl | rfl | rfl <;> simp [dl]
inductive O8 (K:FA) (c:Ad) (cUn cWE:Addr) (vs:List V) (H:Hp) (Q:VK):Prop
 | mk (ea C:Addr) (k:Int) (_:vs = [.ref ea]) (_:H ea = some (ExO C ea)) (_:IsK K c cUn cWE C k) (_:∀ p H',Same H H'→H' p = some (.lst (AgM k))→Q (.ref p) H'):O8 K c cUn cWE vs H Q
def Sz (K:FA) (c:Ad) (cUn cWE:Addr):Sp:=λ vs H Q _=>O8 K c cUn cWE vs H Q
def Dsk0 (c:Ad) (H:Hp) (d:Addr):Prop:=∃ dx i o pv wv,H d = some (.ins c.D dx (dfl i o pv wv))
theorem Ld.d0 (l:Ld K c.D c.W H d wa g st):Dsk0 c H d:=by
 obtain ⟨dx,i,o,pr,dw,x1,vb,sv,hd,_⟩:=l
 exact ⟨dx,i,o,_,_,hd⟩
theorem Fb.d0 (l:Fb c.D H d):Dsk0 c H d:=by
 obtain ⟨dx,i,o,hd⟩:=l
 exact ⟨dx,i,o,_,_,hd⟩
inductive Yq (K:FA) (c:Ad) (cUn cWE:Addr) (vs:List V) (H:Hp) (Q:VK):Prop
 | mk (d:Addr) (x:V) (k:Int) (_:vs = [.ref d,x,.int k]) (_:Dsk0 c H d) (_:∀ H1,Same H H1→SayQ K c H1 (λ _ _=>False) (λ cv _ H2=>∃ C,cv = .ref C∧IsK K c cUn cWE C k∧∀ H',Same H2 H'→Q (.bl true) H') d x):Yq K c cUn cWE vs H Q
def Ih (K:FA) (c:Ad) (cUn cWE:Addr):Sp:=λ vs H Q _=>Yq K c cUn cWE vs H Q
theorem Abe {Q':VK} {E E':XK} (h:Rd.Agp cNT cTw cNN vs H Q E) (hq:∀ v H,Q v H→Q' v H) (he:∀ C H,E (.ref C) none H→E' (.ref C) none H):Rd.Agp cNT cTw cNN vs H Q' E':=by
 obtain ⟨x,rfl,l,h⟩:=h
 refine ⟨x,rfl,l,?_⟩
 rcases h with ⟨a,e⟩ | ⟨a,b,e⟩ | ⟨a,b,c,ins,outs,d,t,hd,W,cn,h⟩
 ·exact .inl ⟨a,λ H' g=>he _ _ (e H' g)⟩
 ·exact .inr (.inl ⟨a,b,λ H' g=>he _ _ (e H' g)⟩)
 ·refine .inr (.inr ⟨a,b,c,ins,outs,d,t,hd,W,cn,?_⟩)
  rcases h with ⟨a,e⟩ | ⟨a,b,e⟩ | ⟨a,b,⟨c,e⟩ | ⟨c,q⟩⟩
  ·exact .inl ⟨a,λ H' g=>he _ _ (e H' g)⟩
  ·exact .inr (.inl ⟨a,b,λ H' g=>he _ _ (e H' g)⟩)
  ·exact .inr (.inr ⟨a,b,.inl ⟨c,λ H' g=>he _ _ (e H' g)⟩⟩)
  ·exact .inr (.inr ⟨a,b,.inr ⟨c,λ v H' g n=>hq _ _ (q v H' g n)⟩⟩)
theorem SayQ.mono {Q':VK} {E E':XK} {x:V} (h:SayQ K c H Q E d x) (hq:∀ v H,Q v H→Q' v H) (he:∀ C H,E (.ref C) none H→E' (.ref C) none H):SayQ K c H Q' E' d x:=by
 cases h with
 | row r e=>exact .row r λ H' g=>he _ _ (e H' g)
 | load r s hl hd h=>exact .load r s hl hd λ H' g=>Abe (h H' g) (λ v H1 ⟨g,np,t,a,b,cc,q⟩=>⟨g,np,t,a,b,cc,λ wa H' k f l=>hq _ _ (q wa H' k f l)⟩) he
 | bare r s b e=>exact .bare r s b λ H' g=>he _ _ (e H' g)
 | wher r l hl q=>exact .wher r l hl λ H' g=>hq _ _ (q H' g)
 | judge r l h5 hm e=>exact .judge r l h5 hm λ H' g=>he _ _ (e H' g)
 | tick r s n1 n2 n3 hx es l hl hb h =>
  refine .tick r s n1 n2 n3 hx es l hl hb ?_
  rcases h with ⟨a,e⟩ | ⟨a,b,h1,h2,h3,q⟩
  ·exact .inl ⟨a,λ H' g=>he _ _ (e H' g)⟩
  ·exact .inr ⟨a,b,h1,h2,h3,λ H' k l=>hq _ _ (q H' k l)⟩
theorem Af7 {bs:List Bool} (e1:l = bs.map V.bl) (e2:m = bs.map V.bl):l.length = m.length∧∀ (i:Nat) (x y:V),l[i]? = some x→m[i]? = some y→EqD K H 0 x y:=by
 subst e1
 subst e2
 refine ⟨rfl,λ i x y h1 h2=>?_⟩
 rw [h1] at h2
 cases h2
 rw [uJ] at h1
 cases e:bs[i]? with
 | none=>rw [e] at h1; cases h1
 | some b =>
  rw [e] at h1
  cases h1
  exact .flat rfl rfl (by cases b <;> rfl)
section
variable {c:Ad} {cUn cWE:Addr}
seal PSs PS PE PA PT
theorem Ag4 (F:Bd K mg "_law_classes" ["_law_error"] Hw) (T:Txt mg) (M:Err mg c cUn):Oy P w K mg base 1 "_law_classes" ["_law_error"] (Sz K c cUn cWE):=by
 refine F.okH G0 (λ vs H Q E h=>?_) (λ f cdv A outer s H vs Q hr h=>?_)
 ·obtain ⟨ea,C,k,rfl,_⟩:=h; rfl
 obtain ⟨ea,C,k,rfl,he,R,q⟩:=h
 refine ⟨_,(Ac (As (i:=1) G0.nd rfl (Or.inl rfl) (Ba (Aa (Be Do rfl T.n_isinstance PyProof.Rows.boot_isinstance (Aa (pv 0) (Aa (Bb (v:=.ref c.NR) rfl M.mNR rfl) Ab))) (Aa (Be Do rfl T.n_isinstance PyProof.Rows.boot_isinstance (Aa (pv 0) (Aa (Bb (v:=.ref c.NN) rfl M.mNN rfl) Ab))) (Aa (Be Do rfl T.n_isinstance PyProof.Rows.boot_isinstance (Aa (pv 0) (Aa (Bb (v:=.ref c.NT) rfl M.mNT rfl) Ab))) Ab)))))
  (Ac (As (i:=1) G0.nd rfl (Or.inl rfl) (A7 Bv (pv 1) (Ba (Aa (Be Do rfl T.n_isinstance PyProof.Rows.boot_isinstance (Aa (pv 0) (Aa (Bb (v:=.ref c.Tw) rfl M.mTw rfl) Ab))) (Aa (Be Do rfl T.n_isinstance PyProof.Rows.boot_isinstance (Aa (pv 0) (Aa (Bb (v:=.ref c.NP) rfl M.mNP rfl) Ab))) (Aa (Be Do rfl T.n_isinstance PyProof.Rows.boot_isinstance (Aa (pv 0) (Aa (Bb (v:=.ref c.TM) rfl M.mTM rfl) Ab))) Ab))))))
  (Ag (Aq (A7 Bv (pv 1) (Ba (Aa (Be Do rfl T.n_isinstance PyProof.Rows.boot_isinstance (Aa (pv 0) (Aa (Bb (v:=.ref cUn) rfl M.mUn rfl) Ab))) (Aa (Be Vv rfl T.n_isinstance PyProof.Rows.boot_isinstance (Aa (pv 0) (Aa (Oi rfl T.n_ValueError (by decide +kernel) (v:=.ty "ValueError") rfl) Ab))) Ab)))))))),?_⟩
 refine ⟨_,rfl,ea,C,c.NR,_,rfl,he,R.ce,R.k0,_,rfl,ea,C,c.NN,_,rfl,he,R.ce,R.k1,_,rfl,ea,C,c.NT,_,rfl,he,R.ce,R.k2,zN3,λ p1 a5=>?_⟩
 have k1:=Ah a5 (.lst [V.bl (decide (k = 0)),.bl (decide (k = 1)),.bl (decide (k = 2))])
 have e1:=Ae (H:=H) (a:=p1) (o:=.lst [V.bl (decide (k = 0)),.bl (decide (k = 1)),.bl (decide (k = 2))])
 have a1:=k1 _ _ he
 refine ⟨_,rfl,_,rfl,ea,C,c.Tw,_,rfl,a1,R.ce,R.k3,_,rfl,ea,C,c.NP,_,rfl,a1,R.ce,R.k4,_,rfl,ea,C,c.TM,_,rfl,a1,R.ce,R.k5,zN3,λ p2 a6=>?_⟩
 have k2:=Ah a6 (.lst [V.bl (decide (k = 3)),.bl (decide (k = 4)),.bl (decide (k = 5))])
 refine ⟨p1,p2,_,_,rfl,rfl,k2 _ _ e1,Ae,zN6,λ p3 a7=>?_⟩
 have k3:=Ah a7 (.lst ([V.bl (decide (k = 0)),.bl (decide (k = 1)),.bl (decide (k = 2))] ++ [V.bl (decide (k = 3)),.bl (decide (k = 4)),.bl (decide (k = 5))]))
 have a2:=k3 _ _ (k2 _ _ a1)
 refine ⟨_,rfl,_,rfl,ea,C,cUn,false,rfl,a2,R.ce,R.k6,_,rfl,ea,C, "ValueError", true,rfl,a2,R.ce,R.k7,zN2,λ p4 a3=>?_⟩
 have k4:=Ah a3 (.lst [V.bl false,.bl true])
 refine ⟨p3,p4,_,_,rfl,rfl,k4 _ _ Ae,Ae,zN8,λ p5 a4=>?_⟩
 exact q _ _ ((((k1.trans k2).trans k3).trans k4).trans (Ah a4 _)) Ae
theorem AhX (F:Bd K mg "_law_refused" ["_law_desk", "_law_row", "_law_kind"] F1) (T:Txt mg) (a1:mg "WiseError" = some (.ref cWE)) (dS:Cy P w K mg base 113 c.D "say" ["self", "row"] (Aaz K c)) (dY:Oy P w K mg base 1 "_law_classes" ["_law_error"] (Sz K c cUn cWE)):Am P w K mg base 114 "_law_refused" ["_law_desk", "_law_row", "_law_kind"] (Ih K c cUn cWE):=by
 refine F.ok Fd (λ vs H Q E h=>?_) (λ f cdv A outer s H vs Q E hr h=>?_)
 ·obtain ⟨d,x,k,rfl,_⟩:=h; rfl
 obtain ⟨d,x,k,rfl,⟨dx,i,o,a7,wv,hd⟩,h⟩:=h
 refine ⟨_,(Ac (As (i:=3) Fd.nd rfl (Or.inl rfl) (Ba Ab))
  (Ac (Ae9 (AeF (Zb dS hr (pv 0) (Aa (pv 1) Ab))) (Ada (i:=4) a1 rfl Fd.nd rfl rfl (Or.inl rfl) (λ u=>Ag (As (i:=3) Fd.nd rfl (Or.inl rfl) (Adi dY (hr.h.mark _) rfl (Aa (pv 4) Ab)))) Aeg) rfl rfl)
  (Ag (Aq (El (Afh hr.units) (pv 3) (A7 Bv (Fw (g:=(Cg 0)) (tc:=Gj) (te:=(tOp rEq (Bl 1) (Bl 0))) ["_law_k"] [("_law_kind", 2)] rfl (Ei (Aj F1) ["_law_desk", "_law_row", "_law_kind", "_law_found", "e"] (by decide +kernel)) (Ko rfl T.n_range (Aa Af Ab)) (λ s2 H2 fp cl C=>Bn (i:=0) (show Nodup [("_law_k" : Str),("_law_kind" : Str)] from by decide +kernel) rfl (Or.inl rfl)) (Cr (by decide)) (λ s2 H2 fp cl C=>Hk) (λ s2 H2 fp cl C=>(El A6 (pv 1) (pv 0) (Aw _)))) (Ba (Aa Dy (Aa Dy Ab)))) (Aw _)))))),?_⟩
 refine ⟨zN0,λ p0 a2=>?_⟩
 have k0:=Ah a2 (.lst [])
 refine ⟨_,rfl,d,dx,_,rfl,k0 _ _ hd,rfl,_,rfl,?_⟩
 dsimp only [Dq]
 refine ⟨d,x,rfl,SayQ.mono (h _ k0) (λ v H1 q=>q.elim) λ C H1 q=>?_⟩
 obtain ⟨C',e,R,q⟩:=q
 cases e
 refine ⟨C,rfl,.inl ⟨R.we,λ ea a5=>?_⟩⟩
 have k1:=Ah a5 (ExO C ea)
 refine ⟨_,rfl,ea,C,k,rfl,Ae,R,λ p H2 g2 e2=>?_⟩
 refine ⟨_,rfl,6,rfl,by decide,by decide,Q9 (λ i ys H'=>H' = H2∧ys = ((dl k).take i).map V.bl) ⟨rfl,rfl⟩ (by decide) ?_ ?_⟩
 ·rintro i ys H' N hi ⟨rfl,rfl⟩ hN a3
  refine ⟨_,rfl,_,rfl,rfl,hN _ _ ?_ ⟨rfl,?_⟩⟩
  ·rw [uF,uG]; omega
  ·rw [take_add_one,Ahu k i hi,uP]; rfl
 rintro ys H' a3 ⟨rfl,rfl⟩ D hD
 have kD:=Ah hD (.lst (((dl k).take 6).map V.bl))
 refine ⟨zN2,λ l5 a6=>?_⟩
 have k5:=Ah a6 (.lst [V.bl false,.bl true])
 refine ⟨D,l5,_,_,rfl,rfl,k5 _ _ Ae,Ae,zN8,λ l6 a4=>?_⟩
 have k6:=Ah a4 (.lst (((dl k).take 6).map V.bl ++ [V.bl false,.bl true]))
 have kk:=(kD.trans k5).trans k6
 obtain ⟨z1,z2⟩:=Af7 (K:=K) (H:=_) (show AgM k = (dl k ++ [false,true]).map V.bl from rfl) (show ((dl k).take 6).map V.bl ++ [V.bl false,.bl true] = (dl k ++ [false,true]).map V.bl from rfl)
 exact ⟨0,p,l6,_,_,by decide,rfl,rfl,SqL.of (kk _ _ e2),SqL.of Ae,z1,z2,q _ ((k1.trans g2).trans kk)⟩
end
end Dsk
namespace L2
open PySem PySem.Spec PyProof.Rows
section
variable {a b o:Expr} {to:TE} {cpos p1 p2:Pos} {j1 j2:Nat}
end
theorem Mm {a:Str} {t:TA} (h:PA X es t):PA X (.Constant (.str a) j1 p1 :: .Constant (.str b) j2 p2 :: .Constant (.str c) j3 p3 :: .Constant (.str d) j4 p4 :: es) (B3 (tC (.str a)) (B3 (tC (.str b)) (B3 (tC (.str c)) (B3 (tC (.str d)) t)))) :=
 Aa Al (Aa Al (Aa Al (Aa Al h)))
end L2
namespace Dsk
open PySem L2 My
def Fh (x:Str) (b:Bool):Bool:=(R6 x == b) && decide (x.length≤1000) && Ni (Txt.split x " ") && decide ((Txt.split x " ").length≠0)
theorem Fp (h:Fh x b = true):Hl K H (.str x) b:=by
 unfold Fh at h
 rw [Bool.and_eq_true,Bool.and_eq_true,Bool.and_eq_true] at h
 obtain ⟨⟨⟨h1,h2⟩,h3⟩,h4⟩:=h
 rw [← eq_of_beq h1]
 exact .str (.inl (.str x)) rfl (uN h2) h3 (uN h4)
theorem Ox (h:Fh x b = true):x.length≤1000:=by
 unfold Fh at h
 rw [Bool.and_eq_true,Bool.and_eq_true,Bool.and_eq_true] at h
 exact uN h.1.1.2
def oddS:List Str:=["", " ", "tick ", " tick", "tick  bb", "tick bb ", "tick Bb", "tick bbbbbbbbb", "tick b1", "Tick", "where ", "wheres", "begin 0", "begins", "judge judge", "load", "ticks bb", "there"]
theorem AfX:∀ x∈oddS,Fh x false = true:=by decide +kernel
def textL:List Str:=["", "rest", "in;out;", "in bb;out cc;send", "in bb;out cc dd;{rest", "in bb out;rest", "in;out;rest 1"]
def twL:List Str:=["in bb bb;out;rest", "in bb;out cc bb;rest", "in;out cc dd cc;send ee"]
def nnL:List Str:=["in bb;out cc;send dd", "in;out;exit bb", "in bb;out;trap dd{exit bb}", "in;out;local cc{rest};keep cc"]
theorem AgR:∀ t∈textL,TxQ t 2:=by
 intro t h
 simp only [textL,vI,vF,or_false] at h
 rcases h with rfl | rfl | rfl | rfl | rfl | rfl | rfl
 ·exact nt0
 ·exact nt1
 ·exact nt2
 ·exact nt3
 ·exact nt4
 ·exact nt5
 ·exact nt6
theorem AiE:∀ t∈twL,TxQ t 3:=by
 intro t h
 simp only [twL,vI,vF,or_false] at h
 rcases h with rfl | rfl | rfl
 ·exact tw0
 ·exact tw1
 ·exact tw2
theorem Ail:∀ t∈nnL,TxQ t 1:=by
 intro t h
 simp only [nnL,vI,vF,or_false] at h
 rcases h with rfl | rfl | rfl | rfl
 ·exact nn0
 ·exact nn1
 ·exact nn2
 ·exact nn3
def Qh (t:Str):Bool:=Fh ("load " ++ t) true && Txt.startswith ("load " ++ t) "load " && decide (AeG ("load " ++ t) = t)
theorem Lm:∀ t∈textL ++ twL ++ nnL ++ (["in;out;send bb", txA,txM]:List Str),Qh t = true:=by decide +kernel
def bareL6:List Str:=["where", "begin", "judge", "tick", "tick bb", "tick dd ee"]
theorem Zm:∀ x∈bareL6,Fh x true = true∧Txt.startswith x "load " = false:=by decide +kernel
def nm6:List Str:=["cc", "dd", "in", "tick", "bbb", "b"]
def Fm (x:Str) (ws:List Str):Bool:=Fh x true && !Txt.startswith x "load " && !decide (V.str x = V.str "where") && !decide (V.str x = V.str "begin") && !decide (V.str x = V.str "judge") && decide (Txt.split x " " = ("tick" : Str) :: ws)
theorem AgO:∀ a∈nm6,(Fm ("tick " ++ Txt.join " " [a, "bb"]) [a, "bb"] = true∧JoinOk " " [a, "bb"] = true)∧(Fm ("tick " ++ Txt.join " " ["bb", a]) ["bb", a] = true∧JoinOk " " ["bb", a] = true)∧¬ a∈(["bb"]:List Str)∧a.length≤1000∧(Txt.join " " [a, "bb"]).length≤100∧(Txt.join " " ["bb", a]).length≤100:=by decide +kernel
theorem Me:Fm "tick" [] = true∧Fm "tick bb" ["bb"] = true:=by decide +kernel
theorem Ry:∀ t∈textL ++ twL ++ nnL,t.length≤100:=by decide +kernel
inductive Zv (K:FA) (vs:List V) (H:Hp) (Q:VK):Prop
 | mk (n:Int) (_:vs = [.int n]) (_:0≤n) (_:∀ x H',Same H H'→(∀ H1,Same H' H1→Hl K H1 x false)→Q x H'):Zv K vs H Q
def Aay (K:FA):Sp:=λ vs H Q _=>Zv K vs H Q
inductive Su  (vs:List V) (H:Hp) (Q:VK):Prop
 | mk (n:Int) (_:vs = [.int n]) (_:0≤n) (_:∀ t H',t∈textL→Same H H'→Q (.str t) H'):Su  vs H Q
def Zi:Sp:=λ vs H Q _=>Su  vs H Q
inductive Qm  (vs:List V) (H:Hp) (Q:VK):Prop
 | mk (n k:Int) (_:vs = [.int n,.int k]) (_:0≤n) (_:((k = 3∧∀ t H',t∈twL→Same H H'→Q (.str t) H')∨(k = 1∧∀ t H',t∈nnL→Same H H'→Q (.str t) H'))):Qm  vs H Q
def Wi:Sp:=λ vs H Q _=>Qm  vs H Q
def Acl:Sp:=λ vs H Q _=>vs = []∧∀ H',Same H H'→Q (.str txM) H'
def K5 (c:Int):Int:=(c % 2147483647 + 11) * 48271 * 69621 % 2147483629
theorem AdT (c:Int):0≤K5 c:=Int.emod_nonneg _ (by decide)
inductive Xo  (vs:List V) (H:Hp) (Q:VK):Prop
 | mk (c:Int) (_:vs = [.int c]) (_:Q (.int (K5 c)) H):Xo  vs H Q
def U3:Sp:=λ vs H Q _=>Xo  vs H Q
inductive Xc (K:FA) (vs:List V) (H:Hp) (Q:VK):Prop
 | mk (a:Addr) (ns:List Int) (k:Nat) (_:vs = [.ref a,.int k]) (_:SqL K H a (ns.map V.int)) (_:Q (.int (K5 (ns.getD k 0))) H):Xc K vs H Q
def Aby (K:FA):Sp:=λ vs H Q _=>Xc K vs H Q
theorem Lf {l:List Str} {n:Int} (h0:0≤n) (h:l.length≠0):∃ y∈l,atI (l.map V.str) (n % (l.length:Nat)) = some (.str y):=by
 obtain ⟨j,ej⟩:=Int.eq_ofNat_of_zero_le (Int.emod_nonneg n (show ((l.length:Nat):Int)≠0 by omega))
 have lj:j < l.length:=by have:=Int.emod_lt_of_pos n (show (0:Int) < (l.length:Nat) by omega); omega
 rw [ej]
 exact ⟨l[j],vH lj,Ai (by rw [uJ,uC lj]; rfl)⟩
section
seal PSs PS PE PA PT
theorem Aig (F:Bd K mg "_law_mixed" ["_law_cell"] Kg):Am P w K mg base 1 "_law_mixed" ["_law_cell"] U3:=by
 refine F.ok Uj (λ vs H Q E h=>?_) (λ f cdv A outer s H vs Q E hr h=>?_)
 ·obtain ⟨c,rfl,_⟩:=h; rfl
 obtain ⟨c,rfl,q⟩:=h
 refine ⟨_,(Ag (Aq (A7 D7 (A7 Abg (A7 Abg (A7 Ju (A7 D7 (pv 0) Af) Af) Af) Af) Af))),?_⟩
 refine ⟨_,rfl,_,_,rfl,rfl,(by show (0:Int) < 2147483647; decide),_,_,rfl,rfl,_,_,rfl,rfl,.inr ⟨by decide,by decide⟩,_,_,rfl,rfl,.inr ⟨by decide,by decide⟩,_,_,rfl,rfl,(by show (0:Int) < 2147483629; decide),?_⟩
 exact q
theorem Ai4 (F:Bd K mg "_law_cell_at" ["_law_script", "_law_k"] Hu) (T:Txt mg) (bK:Am P w K mg base 1 "_law_mixed" ["_law_cell"] U3):Am P w K mg base 2 "_law_cell_at" ["_law_script", "_law_k"] (Aby K):=by
 refine F.ok Rc (λ vs H Q E h=>?_) (λ f cdv A outer s H vs Q E hr h=>?_)
 ·obtain ⟨a,ns,k,rfl,_⟩:=h; rfl
 obtain ⟨a,ns,k,rfl,hS,q⟩:=h
 refine ⟨_,(Ac (Ax (Ao Ut (pv 1) (Be Da rfl T.n_len PySem.boot_len (Aa (pv 0) Ab)) (Aw _))
   (Ag (Aq (Ap bK hr rfl Av (Aa (An Cm (pv 0) (pv 1) (λ _ _=>rfl)) Ab))))
   Au)
  (Ag (Aq (Ap bK hr rfl Av (Aa Af Ab))))),?_⟩
 refine ⟨_,rfl,_,rfl,a,_,rfl,.inl hS,_,_,rfl,rfl,_,rfl,K6 (λ c=>?_) λ c=>?_⟩
 ·have c:=uN c
  rw [uD] at c
  have ck:k < ns.length:=by omega
  have e:ns.getD k 0 = ns[k]:=by rw [getD_eq_getElem?_getD,uC ck]; rfl
  rw [e] at q
  exact ⟨_,rfl,_,rfl,a,_,_,.int ns[k],rfl,rfl,hS,Ai (by rw [uJ,uC ck]; rfl),_,rfl,q⟩
 ·have c:¬ (k:Int) < ((ns.map V.int).length:Nat):=λ z=>c (uK z)
  rw [uD] at c
  have e:ns.getD k 0 = 0:=by rw [getD_eq_getElem?_getD,List.getElem?_eq_none (by omega)]; rfl
  rw [e] at q
  exact ⟨_,rfl,q⟩
theorem Aiv (F:Bd K mg "_law_text" ["_law_number"] Lc):Am P w K mg base 1 "_law_text" ["_law_number"] Zi:=by
 refine F.ok Nc (λ vs H Q E h=>?_) (λ f cdv A outer s H vs Q E hr h=>?_)
 ·obtain ⟨n,rfl,_⟩:=h; rfl
 obtain ⟨n,rfl,h0,q⟩:=h
 refine ⟨_,(Ac (As (i:=1) Nc.nd rfl (Or.inl rfl) (Ba (Mm (Aa Al (Aa Al (Aa Al Ab))))))
  (Ag (Aq (An Cm (pv 1) (A7 D7 (pv 0) Af) (λ _ _=>rfl))))),?_⟩
 refine ⟨zN7,λ l hl=>?_⟩
 obtain ⟨y,hy,e⟩:=Lf (l:=textL) h0 (by decide)
 exact ⟨_,rfl,_,rfl,_,_,rfl,rfl,(by show (0:Int) < 7; decide),l,_,_,.str y,rfl,rfl,SqL.of Ae,e,q _ _ hy (Ah hl _)⟩
theorem Ah2 (F:Bd K mg "_law_named" ["_law_number", "_law_kind"] Ke):Am P w K mg base 1 "_law_named" ["_law_number", "_law_kind"] Wi:=by
 refine F.ok M0 (λ vs H Q E h=>?_) (λ f cdv A outer s H vs Q E hr h=>?_)
 ·obtain ⟨n,k,rfl,_⟩:=h; rfl
 obtain ⟨n,k,rfl,h0,h⟩:=h
 refine ⟨_,(Ac (Ax (Ao A6 (pv 1) Af (Aw _))
   (Ag (Aq (An Cm (Ba (Aa Al (Aa Al (Aa Al Ab)))) (A7 D7 (pv 0) Af) (λ _ _=>rfl))))
   Au)
  (Ac (As (i:=2) M0.nd rfl (Or.inl rfl) (Ba (Aa Al (Aa Al (Aa Al Ab)))))
  (Ag (Aq (An Cm (A7 Bv (pv 2) (Ba (Aa Al Ab))) (A7 D7 (pv 0) Af) (λ _ _=>rfl)))))),?_⟩
 rcases h with ⟨rfl,q⟩ | ⟨rfl,q⟩
 ·obtain ⟨y,hy,e⟩:=Lf (l:=twL) h0 (by decide)
  exact ⟨_,rfl,rfl,_,rfl,Bs ⟨zN3,λ l hl=>⟨_,rfl,_,_,rfl,rfl,(by show (0:Int) < 3; decide),l,_,_,.str y,rfl,rfl,SqL.of Ae,e,q _ _ hy (Ah hl _)⟩⟩⟩
 ·obtain ⟨y,hy,e⟩:=Lf (l:=nnL) h0 (by decide)
  refine ⟨_,rfl,rfl,_,rfl,Bj ⟨zN3,λ l hl=>⟨_,rfl,zN1,λ l2 a2=>?_⟩⟩⟩
  have k2:=Ah a2 (.lst [V.str "in;out;local cc{rest};keep cc"])
  exact ⟨l,l2,_,_,rfl,rfl,k2 _ _ Ae,Ae,zN4,λ l3 a1=>⟨_,rfl,_,_,rfl,rfl,(by show (0:Int) < 4; decide),l3,_,_,.str y,rfl,rfl,SqL.of Ae,e,q _ _ hy (((Ah hl _).trans k2).trans (Ah a1 _))⟩⟩
theorem Ai5 (F:Bd K mg "_law_many" [] La):Am P w K mg base 1 "_law_many" [] Acl:=by
 refine F.ok Xx (λ vs H Q E h=>?_) (λ f cdv A outer s H vs Q E hr h=>?_)
 ·obtain ⟨rfl,_⟩:=h; rfl
 obtain ⟨rfl,q⟩:=h
 refine ⟨_,(Ag (Aq (A7 Fv (A7 Fv (A7 Fv (A7 Fv Al (Ew PySem.F.plainAttrs_str PySem.F.slot_str_join PySem.F.type_str_join Ol Al (Aa (A7 Ach (Ba (Aa Al Ab)) Af) Ab))) Al) (Ew PySem.F.plainAttrs_str PySem.F.slot_str_join PySem.F.type_str_join Ol Al (Aa (A7 Ach (Ba (Aa Al Ab)) Af) Ab))) Al))),?_⟩
 refine ⟨rfl,zN1,λ l1 a3=>⟨l1,5,_,rfl,rfl,Ae,by decide,by decide,(by show 1 * 5≤sizeLine; decide),λ l2 a4=>?_⟩⟩
 have k2:=(Ah a3 (.lst [V.str "rest"])).trans (Ah a4 (.lst (List.replicate (5:Int).toNat [V.str "rest"]).flatten))
 refine ⟨";", l2,["rest", "rest", "rest", "rest", "rest"],rfl,rfl,SqL.of Ae,by decide +kernel,_,_,rfl,rfl,by decide +kernel,_,_,rfl,rfl,by decide +kernel,rfl,zN1,λ l3 a2=>⟨l3,6,_,rfl,rfl,Ae,by decide,by decide,(by show 1 * 6≤sizeLine; decide),λ l4 a5=>?_⟩⟩
 have k4:=k2.trans ((Ah a2 (.lst [V.str "rest"])).trans (Ah a5 (.lst (List.replicate (6:Int).toNat [V.str "rest"]).flatten)))
 refine ⟨";", l4,["rest", "rest", "rest", "rest", "rest", "rest"],rfl,rfl,SqL.of Ae,by decide +kernel,_,_,rfl,rfl,by decide +kernel,_,_,rfl,rfl,by decide +kernel,?_⟩
 have a1:∀ z:Str,z = txM→Q (.str z) _:=λ z e=>by rw [e]; exact q _ k4
 exact a1 _ (by decide +kernel)
theorem AjC (F:Bd K mg "_law_odd" ["_law_number"] Mu):Am P w K mg base 1 "_law_odd" ["_law_number"] (Aay K):=by
 refine F.ok Ii (λ vs H Q E h=>?_) (λ f cdv A outer s H vs Q E hr h=>?_)
 ·obtain ⟨n,rfl,_⟩:=h; rfl
 obtain ⟨n,rfl,h0,q⟩:=h
 refine ⟨_,(Ac (As (i:=1) Ii.nd rfl (Or.inl rfl) (Ba (Mm (Mm (Aa Al (Aa Al Ab))))))
  (Ac (As (i:=1) Ii.nd rfl (Or.inl rfl) (A7 Bv (pv 1) (Ba (Mm (Mm Ab)))))
  (Ac (As (i:=1) Ii.nd rfl (Or.inl rfl) (A7 Bv (pv 1) (Ba (Aa Ce (Aa Af (Aa Dy (Aa (Ba (Aa Al Ab)) (Aa (Bg (Aa Al Ab)) Ab))))))))
  (Ag (Aq (An Cm (pv 1) (A7 D7 (pv 0) Af) (λ _ _=>rfl))))))),?_⟩
 refine ⟨Ah9,λ l1 a2=>⟨_,rfl,zN8,λ l2 a4=>?_⟩⟩
 have k1:=Ah a2 (.lst ((oddS.take 10).map V.str))
 have k2:=Ah a4 (.lst ((oddS.drop 10).map V.str))
 refine ⟨l1,l2,_,_,rfl,rfl,k2 _ _ Ae,Ae,AiV,λ l3 a1=>?_⟩
 have k3:=Ah a1 (.lst (oddS.map V.str))
 refine ⟨_,rfl,zN1,λ l4 a7=>⟨zN1,λ l5 a5=>⟨zN5,λ l6 a3=>?_⟩⟩⟩
 have k4:=Ah a7 (.lst [V.str "where"])
 have k5:=Ah a5 (.tup [V.str "where"])
 have k6:=Ah a3 (.lst [V.non,.int 7,.bl true,.ref l4,.ref l5])
 refine ⟨l3,l6,_,_,rfl,rfl,k6 _ _ (k5 _ _ (k4 _ _ Ae)),Ae,Ah4,λ l7 a6=>?_⟩
 have k7:=Ah a6 (.lst (oddS.map V.str ++ [V.non,.int 7,.bl true,.ref l4,.ref l5]))
 have g:=((((((k1.trans k2).trans k3).trans k4).trans k5).trans k6).trans k7)
 have e4:=k7 _ _ (k6 _ _ (k5 _ _ (Ae (a:=l4) (o:=.lst [V.str "where"]))))
 have e5:=k7 _ _ (k6 _ _ (Ae (a:=l5) (o:=.tup [V.str "where"])))
 obtain ⟨j,ej⟩:=Int.eq_ofNat_of_zero_le (Int.emod_nonneg n (show (23:Int)≠0 by decide))
 have lj:j < 23:=by have:=Int.emod_lt_of_pos n (show (0:Int) < 23 by decide); omega
 obtain ⟨x,hx,rx⟩:∃ x,(oddS.map V.str ++ [V.non,.int 7,.bl true,.ref l4,.ref l5])[j]? = some x∧∀ H1,Same _ H1→Hl K H1 x false:=by
  by_cases c:j < 18
  ·have hj:oddS[j]? = some (oddS[j]'c):=uC c
   exact ⟨.str (oddS[j]'c),by rw [List.getElem?_append_left (by rw [uD]; exact c),uJ,hj]; rfl,λ H1 _=>Fp (AfX _ (vH c))⟩
  ·have:j = 18∨j = 19∨j = 20∨j = 21∨j = 22:=by omega
   rcases this with rfl | rfl | rfl | rfl | rfl
   ·exact ⟨.non,rfl,λ H1 _=>.no (.inl .non) rfl⟩
   ·exact ⟨.int 7,rfl,λ H1 _=>.no (.inl (.int 7)) rfl⟩
   ·exact ⟨.bl true,rfl,λ H1 _=>.no (.inl (.bl true)) rfl⟩
   ·exact ⟨.ref l4,rfl,λ H1 g1=>.no (.inl (.lst (g1 _ _ e4))) rfl⟩
   ·exact ⟨.ref l5,rfl,λ H1 g1=>.no (.inl (.tup (g1 _ _ e5))) rfl⟩
 refine ⟨_,rfl,_,rfl,_,_,rfl,rfl,(by show (0:Int) < 23; decide),l7,_,_,x,rfl,rfl,SqL.of Ae,?_,q x _ g rx⟩
 rw [ej]
 exact Ai hx
end
def Ad1 (K:FA) (c:Ad) (cUn cWE:Addr):Prop:=∀ k:Int,0≤k→k≤5→IsK K c cUn cWE (c.cls k) k
theorem Im {x:V} {E:XK} (hk:IsK K c cUn cWE (c.cls k) k) (d0:Dsk0 c H d) (h:∀ H1 E,Same H H1→(∀ H',Same H1 H'→E (.ref (c.cls k)) none H')→SayQ K c H1 (λ _ _=>False) E d x) (q:∀ H',Same H H'→Q (.bl true) H'):Ih K c cUn cWE [.ref d,x,.int k] H Q E :=
 ⟨d,x,k,rfl,d0,λ H1 g1=>h H1 _ g1 λ H2 g2=>⟨_,rfl,hk,λ H' g'=>q _ ((g1.trans g2).trans g')⟩⟩
theorem Pr {E:XK} (d0:Dsk0 c H d) (lb:Qh t = true) (q:TxQ t k) (e:∀ H',Same H H'→E (.ref (c.cls k)) none H'):SayQ K c H Q E d (.str ("load " ++ t)):=by
 unfold Qh at lb
 rw [Bool.and_eq_true,Bool.and_eq_true] at lb
 obtain ⟨⟨h1,h2⟩,h3⟩:=lb
 refine .load (Fp h1) h2 (Ox h1) d0 λ H' g=>?_
 rw [uN h3]
 exact Aeq q λ H2 g2=>e _ (g.trans g2)
theorem Qq (h:Fm x ws = true):Fh x true = true∧Txt.startswith x "load " = false∧decide (V.str x = V.str "where") = false∧decide (V.str x = V.str "begin") = false∧decide (V.str x = V.str "judge") = false∧Txt.split x " " = ("tick" : Str) :: ws:=by
 unfold Fm at h
 simp only [Bool.and_eq_true,Bool.not_eq_true'] at h
 obtain ⟨⟨⟨⟨⟨h1,h2⟩,h3⟩,h4⟩,h5⟩,h6⟩:=h
 exact ⟨h1,h2,h3,h4,h5,uN h6⟩
theorem AdS {E:XK} (l:Ld K c.D c.W H d wa pgA st) (h:Fm x ws = true) (hl:ws.length < 64) (hb:∀ x∈ws,x.length≤1000) (a1:∃ x∈ws,¬ x∈pgA.ins) (e:∀ H',Same H H'→E (.ref (c.cls 1)) none H'):SayQ K c H Q E d (.str x):=by
 obtain ⟨h1,h2,h3,h4,h5,h6⟩:=Qq h
 exact .tick (Fp h1) h2 h3 h4 h5 (Ox h1) h6 l hl hb (.inl ⟨a1,e⟩)
inductive Xd (K:FA) (c:Ad) (vs:List V) (H:Hp) (Q:VK):Prop
 | mk (d wa:Addr) (st:Option (List Int)) (n:Int) (_:vs = [.ref d,.int n]) (_:0≤n) (_:Ld K c.D c.W H d wa pgA st) (_:∀ H',Same H H'→Q (.bl true) H'):Xd K c vs H Q
def AbT (K:FA) (c:Ad):Sp:=λ vs H Q _=>Xd K c vs H Q
inductive Sw (c:Ad) (vs:List V) (H:Hp) (Q:VK):Prop
 | mk (d:Addr) (n:Int) (_:vs = [.ref d,.int n]) (_:0≤n) (_:Fb c.D H d) (_:∀ H',Same H H'→Q (.bl true) H'):Sw c vs H Q
def Zl (c:Ad):Sp:=λ vs H Q _=>Sw c vs H Q
theorem Fb.same (g:Same H H') (h:Fb cD H d):Fb cD H' d:=by
 obtain ⟨dx,i,o,hd⟩:=h
 exact ⟨dx,i,o,g _ _ hd⟩
section
variable {c:Ad} {cUn cWE:Addr}
seal PSs PS PE PA PT Ih
theorem AiO (F:Bd K mg "_law_bare" ["_law_desk", "_law_number"] Lb) (A:Ad1 K c cUn cWE) (aG:Am P w K mg base 114 "_law_refused" ["_law_desk", "_law_row", "_law_kind"] (Ih K c cUn cWE)) (cA:Am P w K mg base 1 "_law_odd" ["_law_number"] (Aay K)):Am P w K mg base 115 "_law_bare" ["_law_desk", "_law_number"] (Zl c):=by
 refine F.ok N5 (λ vs H Q E h=>?_) (λ f cdv A0 outer s H vs Q E hr h=>?_)
 ·obtain ⟨d,n,rfl,_⟩:=h; rfl
 obtain ⟨d,n,rfl,h0,hB,q⟩:=h
 refine ⟨_,(Ac (As (i:=2) N5.nd rfl (Or.inl rfl) (An Cm (Ba (Mm (Aa Al (Aa Al Ab)))) (A7 D7 (pv 1) Af) (λ _ _=>rfl)))
  (Ac (Ax (Gx (Ch (Ap aG hr rfl Av (Aa (pv 0) (Aa (pv 2) (Aa Af Ab)))) (λ _=>rfl)))
   (Ag (Aq Dy))
   Au)
  (Ag (Aq (Iu (Ap aG hr rfl Av (Aa (pv 0) (Aa (Ap cA hr rfl Av (Aa (A7 E8 (pv 1) Af) Ab)) (Aa Af Ab)))) (J5 (Ap aG hr rfl Av (Aa (pv 0) (Aa Al (Aa Af Ab)))))))))),?_⟩
 refine ⟨zN6,λ l hl=>?_⟩
 have k1:=Ah hl (.lst (bareL6.map V.str))
 obtain ⟨y,hy,e⟩:=Lf (l:=bareL6) h0 (by decide)
 refine ⟨_,rfl,_,_,rfl,rfl,(by show (0:Int) < 6; decide),l,_,_,.str y,rfl,rfl,SqL.of Ae,e,?_⟩
 refine ⟨_,rfl,_,rfl,Im (A 4 (by decide) (by decide)) (hB.same k1).d0 (λ H1 E1 g1 e1=>.bare (Fp (Zm y hy).1) (Zm y hy).2 (hB.same (k1.trans g1)) e1) λ H1 g1=>⟨_,rfl,Bj ?_⟩⟩
 refine ⟨_,rfl,_,rfl,_,_,rfl,rfl,⟨by decide,by decide⟩,_,rfl,Int.ediv_nonneg h0 (by decide),λ x H2 g2 rx=>?_⟩
 have a2:=(k1.trans g1).trans g2
 refine Im (A 0 (by decide) (by decide)) (hB.same a2).d0 (λ H3 E3 g3 e3=>.row (rx H3 g3) e3) λ H3 g3=>⟨_,rfl,Bs ?_⟩
 have a1:=a2.trans g3
 exact ⟨_,rfl,Im (A 1 (by decide) (by decide)) (hB.same a1).d0 (λ H4 E4 g4 e4=>Pr (t:= "in;out;send bb") (hB.same (a1.trans g4)).d0 (Lm _ (by decide +kernel)) nn4 e4) λ H4 g4=>q _ (a1.trans g4)⟩
theorem Ai3 (F:Bd K mg "_law_full" ["_law_desk", "_law_number"] K9) (A:Ad1 K c cUn cWE) (aG:Am P w K mg base 114 "_law_refused" ["_law_desk", "_law_row", "_law_kind"] (Ih K c cUn cWE)) (cA:Am P w K mg base 1 "_law_odd" ["_law_number"] (Aay K)) (dM:Am P w K mg base 1 "_law_text" ["_law_number"] Zi) (dG:Am P w K mg base 1 "_law_named" ["_law_number", "_law_kind"] Wi):Am P w K mg base 115 "_law_full" ["_law_desk", "_law_number"] (AbT K c):=by
 refine F.ok Fq (λ vs H Q E h=>?_) (λ f cdv A0 outer s H vs Q E hr h=>?_)
 ·obtain ⟨d,wa,st,n,rfl,_⟩:=h; rfl
 obtain ⟨d,wa,st,n,rfl,h0,hL,q⟩:=h
 refine ⟨_,(Ac (As (i:=2) Fq.nd rfl (Or.inl rfl) (A7 D7 (pv 1) Af))
  (Ac (Ax (PW.pt (Ku (Ao A6 (pv 2) Af (Aw _)) (Ir (Ao A6 (pv 2) Af (Aw _)))))
   (Ag (Aq (Ap aG hr rfl Av (Aa (pv 0) (Aa (Ap cA hr rfl Av (Aa (A7 E8 (pv 1) Af) Ab)) (Aa Af Ab))))))
   Au)
  (Ac (Ax (Ao A6 (pv 2) Af (Aw _))
   (Ac (As (i:=3) Fq.nd rfl (Or.inl rfl) (Ba (Aa (An Cm (Ba (Mm (Aa Al (Aa Al Ab)))) (A7 D7 (A7 E8 (pv 1) Af) Af) (λ _ _=>rfl)) (Aa Al Ab))))
  (Ac (Ax (Ao A6 (A7 D7 (A7 E8 (pv 1) Af) Af) Af (Aw _))
   (Ag (As (i:=3) Fq.nd rfl (Or.inl rfl) (Ba (Aa Al (Aa (An Cm (pv 3) Af (λ _ _=>rfl)) Ab)))))
   Au)
  (Ag (Aq (Ap aG hr rfl Av (Aa (pv 0) (Aa (A7 Fv Al (Ew PySem.F.plainAttrs_str PySem.F.slot_str_join PySem.F.type_str_join Ol Al (Aa (pv 3) Ab))) (Aa Af Ab))))))))
   Au)
  (Ac (Ax (Ao A6 (pv 2) Af (Aw _))
   (Ag (Aq (Ap aG hr rfl Av (Aa (pv 0) (Aa (A7 Fv Al (Ap dM hr rfl Av (Aa (A7 E8 (pv 1) Af) Ab))) (Aa Af Ab))))))
   Au)
  (Ac (As (i:=4) Fq.nd rfl (Or.inl rfl) (An Cm (Ba (Aa Af (Aa Af Ab))) (A7 D7 (A7 E8 (pv 1) Af) Af) (λ _ _=>rfl)))
  (Ag (Aq (Ap aG hr rfl Av (Aa (pv 0) (Aa (A7 Fv Al (Ap dG hr rfl Av (Aa (A7 E8 (pv 1) Af) (Aa (pv 4) Ab)))) (Aa (pv 4) Ab))))))))))),?_⟩
 have n5:0≤n / 5:=Int.ediv_nonneg h0 (by decide)
 have a6:∀ (x:V) (H1:Hp),Same H H1→(∀ H2,Same H1 H2→Hl K H2 x false)→Ih K c cUn cWE [.ref d,x,.int 0] H1 Q E0:=λ x H1 g1 rx=>Im (A 0 (by decide) (by decide)) (hL.same g1).d0 (λ H2 E2 g2 e2=>.row (rx H2 g2) e2) λ H2 g2=>q _ (g1.trans g2)
 obtain ⟨k5,ek⟩:∃ k5:Int,n % 5 = k5:=⟨_,rfl⟩
 have lk:k5 = 0∨k5 = 1∨k5 = 2∨k5 = 3∨k5 = 4:=by
  have h1:=Int.emod_nonneg n (show (5:Int)≠0 by decide)
  have h2:=Int.emod_lt_of_pos n (show (0:Int) < 5 by decide)
  omega
 refine ⟨_,rfl,_,_,rfl,rfl,(by show (0:Int) < 5; decide),?_⟩
 dsimp only [Cg,tSeq,Pm,tC]
 rw [ek]
 rcases lk with rfl | rfl | rfl | rfl | rfl
 ·exact ⟨_,rfl,rfl,_,rfl,Bs (Bs ⟨_,rfl,_,rfl,_,_,rfl,rfl,⟨by decide,by decide⟩,_,rfl,n5,λ x H1 g1 rx=>a6 x H1 g1 rx⟩)⟩
 ·obtain ⟨a,ha,e⟩:=Lf (l:=nm6) (n:=n / 5) n5 (by decide)
  obtain ⟨⟨t1,j1⟩,⟨t2,j2⟩,na,la,b1,b2⟩:=AgO a ha
  have a4:∀ (ws:List Str) (H1:Hp),Same H H1→Fm ("tick " ++ Txt.join " " ws) ws = true→ws.length < 64→(∀ x∈ws,x.length≤1000)→(∃ x∈ws,¬ x∈pgA.ins)→Ih K c cUn cWE [.ref d,.str ("tick " ++ Txt.join " " ws),.int 1] H1 Q E0:=λ ws H1 g1 tk lw hb a8=>Im (A 1 (by decide) (by decide)) (hL.same g1).d0 (λ H2 E2 g2 e2=>AdS (hL.same (g1.trans g2)) tk lw hb a8 e2) λ H2 g2=>q _ (g1.trans g2)
  have lb:∀ x∈[a, "bb"],x.length≤1000:=λ x hx=>by
   simp only [vI,vF,or_false] at hx
   rcases hx with rfl | rfl
   ·exact la
   ·decide +kernel
  refine ⟨_,rfl,rfl,_,rfl,Bj ⟨_,rfl,rfl,_,rfl,Bj ⟨_,rfl,rfl,_,rfl,Bs ?_⟩⟩⟩
  refine ⟨zN6,λ l1 a5=>⟨_,rfl,_,_,rfl,rfl,⟨by decide,by decide⟩,_,_,rfl,rfl,(by show (0:Int) < 6; decide),l1,_,_,.str a,rfl,rfl,SqL.of Ae,e,zN2,λ l2 b6=>?_⟩⟩
  have k2:=(Ah a5 (.lst (nm6.map V.str))).trans (Ah b6 (.lst [V.str a,.str "bb"]))
  refine ⟨_,rfl,_,_,rfl,rfl,⟨by decide,by decide⟩,_,_,rfl,rfl,(by show (0:Int) < 2; decide),rfl,_,rfl,K6 (λ cc=>?_) λ cc=>?_⟩
  ·refine ⟨_,rfl,l2,_,_,.str a,rfl,rfl,SqL.of Ae,Ai (j:=0) rfl,zN2,λ l3 a9=>?_⟩
   have k3:=k2.trans (Ah a9 (.lst [V.str "bb", .str a]))
   refine ⟨_,rfl,rfl,_,rfl, " ", l3,["bb", a],rfl,rfl,SqL.of Ae,j2,_,_,rfl,rfl,uX (add_le_add (show _≤5 by decide +kernel) b2) (by decide),?_⟩
   exact a4 _ _ k3 t2 (by show 2 < 64; decide) (λ x hx=>lb x (by simp at hx ⊢; exact hx.symm)) ⟨a,by simp,na⟩
  ·refine ⟨_,rfl,rfl,_,rfl, " ", l2,[a, "bb"],rfl,rfl,SqL.of Ae,j1,_,_,rfl,rfl,uX (add_le_add (show _≤5 by decide +kernel) b1) (by decide),?_⟩
   exact a4 _ _ k2 t1 (by show 2 < 64; decide) lb ⟨a,by simp,na⟩
 ·refine ⟨_,rfl,rfl,_,rfl,Bj ⟨_,rfl,rfl,_,rfl,Bj ⟨_,rfl,rfl,_,rfl,Bj ⟨_,rfl,rfl,_,rfl,Bs ⟨_,rfl,_,rfl,_,_,rfl,rfl,⟨by decide,by decide⟩,_,rfl,n5,λ t H1 ht g1=>?_⟩⟩⟩⟩⟩
  have a3:t∈textL ++ twL ++ nnL:=vU _ (vU _ ht)
  refine ⟨_,_,rfl,rfl,uX (add_le_add (show _≤5 by decide +kernel) (Ry t a3)) (by decide),?_⟩
  exact Im (A 2 (by decide) (by decide)) (hL.same g1).d0 (λ H2 E2 g2 e2=>Pr (hL.same (g1.trans g2)).d0 (Lm t (vU _ a3)) (AgR t ht) e2) λ H2 g2=>q _ (g1.trans g2)
 ·refine ⟨_,rfl,rfl,_,rfl,Bj ⟨_,rfl,rfl,_,rfl,Bj ⟨_,rfl,rfl,_,rfl,Bj ⟨_,rfl,rfl,_,rfl,Bj ?_⟩⟩⟩⟩
  obtain ⟨j,ej⟩:∃ j:Int,n / 5 % 2 = j:=⟨_,rfl⟩
  have lj:j = 0∨j = 1:=by
   have h1:=Int.emod_nonneg (n / 5) (show (2:Int)≠0 by decide)
   have h2:=Int.emod_lt_of_pos (n / 5) (show (0:Int) < 2 by decide)
   omega
  have a4:∀ (k:Int) (t:Str) (H1:Hp),0≤k→k≤5→Same H H1→t∈textL ++ twL ++ nnL→TxQ t k→Ih K c cUn cWE [.ref d,.str ("load " ++ t),.int k] H1 Q E0:=λ k t H1 a1 a2 g1 ht tq=>Im (A k a1 a2) (hL.same g1).d0 (λ H2 E2 g2 e2=>Pr (hL.same (g1.trans g2)).d0 (Lm t (vU _ ht)) tq e2) λ H2 g2=>q _ (g1.trans g2)
  have a7:0≤n / 10:=Int.ediv_nonneg h0 (by decide)
  refine ⟨zN2,λ l1 a5=>⟨_,rfl,_,_,rfl,rfl,⟨by decide,by decide⟩,_,_,rfl,rfl,(by show (0:Int) < 2; decide),?_⟩⟩
  have k1:=Ah a5 (.lst [V.int 3,.int 1])
  dsimp only
  rw [ej]
  rcases lj with rfl | rfl
  ·refine ⟨l1,_,_,.int 3,rfl,rfl,SqL.of Ae,Ai (j:=0) rfl,_,rfl,_,rfl,_,_,rfl,rfl,⟨by decide,by decide⟩,_,rfl,_,_,rfl,a7,.inl ⟨rfl,λ t H1 ht g1=>?_⟩⟩
   have a3:t∈textL ++ twL ++ nnL:=vU _ (uS _ ht)
   exact ⟨_,_,rfl,rfl,uX (add_le_add (show _≤5 by decide +kernel) (Ry t a3)) (by decide),_,rfl,a4 3 t _ (by decide) (by decide) (k1.trans g1) a3 (AiE t ht)⟩
  ·refine ⟨l1,_,_,.int 1,rfl,rfl,SqL.of Ae,Ai (j:=1) rfl,_,rfl,_,rfl,_,_,rfl,rfl,⟨by decide,by decide⟩,_,rfl,_,_,rfl,a7,.inr ⟨rfl,λ t H1 ht g1=>?_⟩⟩
   have a3:t∈textL ++ twL ++ nnL:=uS _ ht
   exact ⟨_,_,rfl,rfl,uX (add_le_add (show _≤5 by decide +kernel) (Ry t a3)) (by decide),_,rfl,a4 1 t _ (by decide) (by decide) (k1.trans g1) a3 (Ail t ht)⟩
 ·exact ⟨_,rfl,rfl,_,rfl,Bj ⟨_,rfl,rfl,_,rfl,Bs ⟨_,rfl,_,rfl,_,_,rfl,rfl,⟨by decide,by decide⟩,_,rfl,n5,λ x H1 g1 rx=>a6 x H1 g1 rx⟩⟩⟩
theorem Fb.kp (k:Kp r H H') (n:d≠r) (h:Fb cD H d):Fb cD H' d:=by
 obtain ⟨dx,i,o,hd⟩:=h
 exact ⟨dx,i,o,k _ _ n hd⟩
theorem Ld.kp (k:Kp r H H') (hr:H r = some (.ins C dy fs)) (n1:d≠r) (n2:wa≠r) (h:Ld K cD cW H d wa g st):Ld K cD cW H' d wa g st:=by
 obtain ⟨dx,i,o,pr,dw,x1,vb,sv,hd,hi,ho,⟨⟨y0,y1,v,e,a⟩,h1,h2,h3,h4,h5⟩,ht,hw,hs⟩:=h
 have nl:∀ {b:Addr} {xs:List V},H b = some (.lst xs)→b≠r:=λ e=>Cd e hr (by intro z; cases z)
 have nt:∀ {b:Addr} {xs:List V},H b = some (.tup xs)→b≠r:=λ e=>Cd e hr (by intro z; cases z)
 refine ⟨dx,i,o,pr,dw,x1,vb,sv,k _ _ n1 hd,k _ _ (nl hi) hi,k _ _ (nl ho) ho,⟨⟨y0,y1,v,k _ _ (nt e) e,a.mono (k.tpI hr)⟩,h1,h2,h3,h4,h5⟩,k _ _ (nt ht) ht,k _ _ n2 hw,?_⟩
 cases st with
 | none=>exact hs
 | some ns=>obtain ⟨b,e,s⟩:=hs; exact ⟨b,e,k.sq hr s⟩
theorem Ld.wk (h:Ld K cD cW H d wa g st):∃ dw sv pr,H wa = some (.ins cW dw (flR sv pr)):=by
 obtain ⟨dx,i,o,pr,dw,x1,vb,sv,hd,hi,ho,hp,ht,hw,hs⟩:=h
 exact ⟨dw,sv,pr,hw⟩
theorem J7 (h:Dsk0 c H d) (hw:H wa = some (.ins c.W dw (flR sv pr))):d≠wa:=λ z=>by
 obtain ⟨dx,i,o,pv,wv,hd⟩:=h
 rw [z,hw] at hd
 exact absurd (congrArg length (HO.ins.inj (Option.some.inj hd)).2.2) (by show ¬ 2 = 4; decide)
theorem Tm {E:XK} (d0:Dsk0 c H d) (lb:Qh t = true) (G:Ux g np nd) (rd:∀ {H:Hp} {Q:VK},(∀ v H',Same H H'→Rd.Sg H' v g.ins g.outs nd→Q v H')→Rd.Agp c.NT c.Tw c.NN [.str t] H Q E) (q:∀ wa H',Kp d H H'→H wa = none→Ld K c.D c.W H' d wa g none→Q (.str "loaded") H'):SayQ K c H Q E d (.str ("load " ++ t)):=by
 unfold Qh at lb
 rw [Bool.and_eq_true,Bool.and_eq_true] at lb
 obtain ⟨⟨h1,h2⟩,h3⟩:=lb
 refine .load (Fp h1) h2 (Ox h1) d0 λ H1 g1=>?_
 rw [uN h3]
 exact rd λ v H2 g2 nm=>⟨g,np,nd,G,g2,nm,λ wa H' k f l=>q wa H' (λ b u hb e=>k _ _ hb (g1 _ _ e)) (g1.free f) l⟩
theorem Mp:Fh "where" true = true:=by decide +kernel
theorem AdY:Fh "judge" true = true:=by decide +kernel
theorem Ti {E:XK} (l:Ld K c.D c.W H d wa g st) (h:Fm x ws = true) (hl:ws.length < 64) (hb:∀ x∈ws,x.length≤1000) (ok:∀ x∈ws,x∈g.ins) (hn:¬ none∈knW g.p st g.n (nub (G4 g ws))) (l1:g.ins.length≤100) (l2:g.outs.length≤100) (hj:JoinOk " " ("there" :: ofT g.ins.length (F4 g st ws) g.outs) = true) (q:∀ H',Kp wa H H'→Ld K c.D c.W H' d wa g (some (Pf g st ws))→Q (.str (Xu g st ws)) H'):SayQ K c H Q E d (.str x):=by
 obtain ⟨h1,h2,h3,h4,h5,h6⟩:=Qq h
 exact .tick (Fp h1) h2 h3 h4 h5 (Ox h1) h6 l hl hb (.inr ⟨ok,hn,l1,l2,hj,q⟩)
theorem M8 {E:XK} (l:Ld K c.D c.W H d wa pgA st) (hs:st∈SA) (hw:ws∈([[],["bb"]]:List (List Str))) (h:Fm x ws = true) (q:∀ H',Kp wa H H'→Ld K c.D c.W H' d wa pgA (some (Pf pgA st ws))→Q (.str (Xu pgA st ws)) H'):SayQ K c H Q E d (.str x):=by
 obtain ⟨a,_,b⟩:=goA st hs ws hw
 have w2:ws = []∨ws = (["bb"]:List Str):=by simpa using hw
 refine Ti l h ?_ ?_ ?_ a (by decide) (by decide) b q
 ·rcases w2 with rfl | rfl <;> decide
 ·rcases w2 with rfl | rfl <;> decide +kernel
 ·rcases w2 with rfl | rfl <;> decide +kernel
def stA:Nat→Option (List Int)
 | 0=>none
 | j + 1=>some (Pf pgA (stA j) [])
theorem Vl:∀ j,stA j∈SA
 | 0=>by decide
 | j + 1=>(goA (stA j) (Vl j) [] (by decide)).2.1
theorem Afp (xs:List V) (j:Nat):J1 xs none (some (j:Int)) = xs.take j:=by
 unfold J1
 rw [HT.Air,HT.Ai1,List.drop_zero,Nat.sub_zero]
 rcases Nat.le_total j xs.length with h | h
 ·rw [Nat.min_eq_left h]
 ·rw [Nat.min_eq_right h,take_length,uT h]
theorem Agz {tc:TT} {A B:TS} (h:∀ nx:St→Hp→Prop,(∀ σ H,D.nx σ H→nx σ H)→(∀ σ H,nx σ H→D.nx σ H)→tIfS tc A B { D with nx:=nx } σ H):tIfS tc A B D σ H:=h D.nx (λ _ _ h=>h) λ _ _ h=>h
theorem AhM:∀ y∈(["tick", "tick bb"]:List Str),∃ ws∈([[],["bb"]]:List (List Str)),Fm y ws = true:=by
 intro y h
 simp only [vI,vF,or_false] at h
 rcases h with rfl | rfl
 ·exact ⟨[],by simp,Me.1⟩
 ·exact ⟨["bb"],by simp,Me.2⟩
def Two (K:FA) (c:Ad) (d1 d2:Addr) (st:Option (List Int)) (H:Hp):Nat→Prop
 | 0=>Fb c.D H d1∧Fb c.D H d2
 | 1=>(∃ w1,Ld K c.D c.W H d1 w1 pgA st)∧Fb c.D H d2
 | _=>∃ w1 w2,w1≠w2∧Ld K c.D c.W H d1 w1 pgA st∧Ld K c.D c.W H d2 w2 pgA st
theorem Ai9 (F:Fun K "law" "law" Mv f fd) (T:Txt mg) (A:Ad1 K c cUn cWE) (d8:mg "Desk" = some (.ref c.D)) (d9:Mk K c.D fI) (GD:Bi P w K mg base CX0 1 fI fdI ["self"] (Agq c.D)) (bD:Br K fdI ["self"] []) (dS:Cy P w K mg base 113 c.D "say" ["self", "row"] (Aaz K c))
  (bK:Am P w K mg base 1 "_law_mixed" ["_law_cell"] U3) (cX:Am P w K mg base 2 "_law_cell_at" ["_law_script", "_law_k"] (Aby K)) (aG:Am P w K mg base 114 "_law_refused" ["_law_desk", "_law_row", "_law_kind"] (Ih K c cUn cWE)) (dN:Am P w K mg base 115 "_law_full" ["_law_desk", "_law_number"] (AbT K c)) (dO:Am P w K mg base 115 "_law_bare" ["_law_desk", "_law_number"] (Zl c)) (dP:Am P w K mg base 1 "_law_many" [] Acl):Bi P w K mg base CX0 150 f fd ["_law_script"] (Us K):=by
 refine F.ok F9 (λ vs H Q E h=>?_) (λ cdv A0 outer s H vs Q E hr h=>?_)
 ·obtain ⟨a,ns,rfl,_⟩:=h; rfl
 obtain ⟨a,ns,rfl,hS,o5,q⟩:=h
 obtain ⟨fS,o0,FS,bS,a1,a2⟩:=dS
 obtain ⟨fM,p5,FM,bM,h7,mM⟩:=dP
 refine ⟨_,(Ac (As (i:=1) F9.nd rfl (Or.inl rfl) Al)
  (Ac (As (i:=2) F9.nd rfl (Or.inl rfl) (Pp d9 GD (hr.mono (by decide)) rfl d8 bD .nil Av))
  (Ac (As (i:=3) F9.nd rfl (Or.inl rfl) (Pp d9 GD (hr.mono (by decide)) rfl d8 bD .nil Av))
  (Ac (As (i:=4) F9.nd rfl (Or.inl rfl) (Pp d9 GD (hr.mono (by decide)) rfl d8 bD .nil Av))
  (Ac (Fk PassesOwn.never rfl (AcK (Bg (Aa (pv 2) (Aa (pv 3) Ab)))) (Bn (i:=5) F9.nd rfl (Or.inl rfl))
   (Ac (Ax (Ao Kl (D5 (pv 5) a2 a1 (FS.mono (by decide)) hr bS .nil Ig (Aa (A7 Fv Al (pv 1)) Ab)) Al (Aw _))
   (Ag (Aq Dy))
   Au)
  (Ag (Fk PassesOwn.never rfl (Ko rfl T.n_range (Aa (A7 D7 (Ap cX hr rfl Av (Aa (pv 0) (Aa Af Ab))) Af) Ab)) (Bn (i:=6) F9.nd rfl (Or.inl rfl))
   (Ag (Bo (D5 (pv 5) a2 a1 (FS.mono (by decide)) hr bS .nil Ig (Aa Al Ab))))))))
  (Ac (Fk PassesOwn.never rfl (Dm (Mo R5 (pv 0) Oz (Op Af))) (Bn (i:=7) F9.nd rfl (Or.inl rfl))
   (Ac (As (i:=8) F9.nd rfl (Or.inl rfl) (Ap bK hr rfl Av (Aa (pv 7) Ab)))
  (Ac (Ax (Ao A6 (A7 D7 (pv 8) Af) Af (Aw _))
   (Ag (Ax (Gx (Ch (Ap dO hr rfl Av (Aa (pv 4) (Aa (A7 E8 (pv 8) Af) Ab))) (λ _=>rfl)))
   (Ag (Aq Dy))
   Au))
   (Ag (Ax (Gx (Ch (Ap dN hr rfl Av (Aa (pv 2) (Aa (A7 E8 (pv 8) Af) Ab))) (λ _=>rfl)))
   (Ag (Aq Dy))
   Au)))
  (Ac (Ax (Ao Kl (D5 (pv 2) a2 a1 (FS.mono (by decide)) hr bS .nil Ig (Aa Al Ab)) (D5 (pv 3) a2 a1 (FS.mono (by decide)) hr bS .nil Ig (Aa Al Ab)) (Aw _))
   (Ag (Aq Dy))
   Au)
  (Ac (As (i:=9) F9.nd rfl (Or.inl rfl) (An Cm (Ba (Aa Al (Aa Al Ab))) (A7 D7 (A7 E8 (pv 8) Af) Af) (λ _ _=>rfl)))
  (Ag (Ax (Ao Kl (D5 (pv 2) a2 a1 (FS.mono (by decide)) hr bS .nil Ig (Aa (pv 9) Ab)) (D5 (pv 3) a2 a1 (FS.mono (by decide)) hr bS .nil Ig (Aa (pv 9) Ab)) (Aw _))
   (Ag (Aq Dy))
   Au)))))))
  (Ac (Ax (PW.pt (Ku (Ao Kl (D5 (pv 4) a2 a1 (FS.mono (by decide)) hr bS .nil Ig (Aa (A7 Fv Al (AdN (FM.mono (by decide)) hr rfl mM h7 bM .nil Av)) Ab)) Al (Aw _)) (Ir (Gx (Ch (Ap aG hr rfl Av (Aa (pv 4) (Aa Al (Aa Af Ab)))) (λ _=>rfl))))))
   (Ag (Aq Dy))
   Au)
  (Ag (Aq (Iu (El A6 (D5 (pv 4) a2 a1 (FS.mono (by decide)) hr bS .nil Ig (Aa Al Ab)) Al (Aw _)) (Iu (El A6 (D5 (pv 4) a2 a1 (FS.mono (by decide)) hr bS .nil Ig (Aa Al Ab)) Al (Aw _)) (J5 (El A6 (D5 (pv 4) a2 a1 (FS.mono (by decide)) hr bS .nil Ig (Aa Al Ab)) Al (Aw _)))))))))))))),?_⟩
 refine λ d1 c3 n1 g4 q5=>⟨d1,c3,rfl,Ae,λ i1 o1 H1 k1 e1=>⟨rfl,?_⟩⟩
 have g1:=(show Same H (upd (upd H c3 (.own d1)) d1 (.ins c.D c3 [])) from λ b u e=>by rw [upd_ne (Ay e n1),upd_ne (Ay e g4)]; exact e).byKp n1 k1
 refine λ d2 b9 n2 g0 m8=>⟨d2,b9,rfl,Ae,λ i2 o2 H2 k2 e2=>⟨rfl,?_⟩⟩
 have g2:=(show Same H1 (upd (upd H1 b9 (.own d2)) d2 (.ins c.D b9 [])) from λ b u e=>by rw [upd_ne (Ay e n2),upd_ne (Ay e g0)]; exact e).byKp n2 k2
 refine λ d3 b8 n3 h6 n7=>⟨d3,b8,rfl,Ae,λ i3 o3 H3 k3 e3=>⟨rfl,?_⟩⟩
 have g3:=(show Same H2 (upd (upd H2 b8 (.own d3)) d3 (.ins c.D b8 [])) from λ b u e=>by rw [upd_ne (Ay e n3),upd_ne (Ay e h6)]; exact e).byKp n3 k3
 have f5:=Ay e1 n2
 have j4:=Ay (g2 _ _ e1) n3
 have l5:=Ay e2 n3
 have j6:=((g1.trans g2).trans g3).seq hS
 have b1:Fb c.D H3 d1:=⟨c3,i1,o1,g3 _ _ (g2 _ _ e1)⟩
 have b2:Fb c.D H3 d2:=⟨b9,i2,o2,g3 _ _ e2⟩
 have b3:Fb c.D H3 d3:=⟨b8,i3,o3,e3⟩
 refine ⟨_,rfl,_,rfl,zN2,λ tp i0=>?_⟩
 have kt:=Ah i0 (.tup [.ref d1,.ref d2])
 have m0:=Int.emod_nonneg (K5 (ns.getD 0 0)) (show (5:Int)≠0 by decide)
 have m5:=Int.emod_lt_of_pos (K5 (ns.getD 0 0)) (show (0:Int) < 5 by decide)
 refine ⟨tp,rfl,⟨_,SqT.of Ae⟩,Aem (K:=K) (a:=tp) (xs:=[.ref d1,.ref d2]) (λ i σ H'=>∃ x5 x6,σ = [some (.ref a),some (.str txA),some (.ref d1),some (.ref d2),some (.ref d3),x5,x6,none,none,none]∧SqL K H' a (ns.map V.int)∧H' tp = some (.tup [.ref d1,.ref d2])∧Fb c.D H' d3∧Two K c d1 d2 (stA (K5 (ns.getD 0 0) % 5).toNat) H' i) ⟨none,none,rfl,kt.seq j6,Ae,b3.same kt,b1.same kt,b2.same kt⟩ (λ i σ H' _ ⟨_,_,_,_,e,_⟩=>SqT.of e) ?_ ?_⟩
 ·rintro i x σ H5 hi ⟨x5,x6,rfl,s5,t5,b5,w5⟩
  obtain ⟨d,rfl,d0,i5,nx⟩:∃ d,x = .ref d∧Dsk0 c H5 d∧d3≠d∧∀ wa H6,Kp d H5 H6→H5 wa = none→Ld K c.D c.W H6 d wa pgA (stA (K5 (ns.getD 0 0) % 5).toNat)→Two K c d1 d2 (stA (K5 (ns.getD 0 0) % 5).toNat) H6 (i + 1):=by
   have i6:i = 0∨i = 1:=by have:=(List.getElem?_eq_some_iff.mp hi).1; simp at this; omega
   rcases i6 with rfl | rfl
   ·cases hi
    exact ⟨d1,rfl,w5.1.d0,Ne.symm j4,λ wa H6 k f l=>⟨⟨wa,l⟩,w5.2.kp k (Ne.symm f5)⟩⟩
   ·cases hi
    obtain ⟨⟨w1,l1⟩,f3⟩:=w5
    refine ⟨d2,rfl,f3.d0,Ne.symm l5,λ wa H6 k f l=>?_⟩
    obtain ⟨dw,sv,pr,hw⟩:=l1.wk
    obtain ⟨dy,i',o',b7⟩:=f3
    exact ⟨w1,wa,λ z=>(by rw [z,f] at hw; cases hw),l1.kp k b7 f5 (Ne.symm (J7 ⟨dy,i',o',_,_,b7⟩ hw)),l⟩
  obtain ⟨dy,i',o',i9,wv,hd⟩:=d0
  refine ⟨_,rfl,d,dy,_,rfl,hd,rfl,_,rfl,_,_,rfl,rfl,(by decide +kernel),d,_,rfl,Tm (t:=txA) ⟨dy,i',o',i9,wv,hd⟩ (Lm txA (by decide +kernel)) Ag8 AhJ λ wa H6 k6 f6 l6=>⟨rfl,_,rfl,B0 (λ z=>by simp at z) λ _=>?_⟩⟩
  have s6:=k6.sq hd s5
  refine ⟨_,rfl,a,ns,0,rfl,s6,_,_,rfl,rfl,(by show (0:Int) < 5; decide),_,rfl,by omega,by omega,?_⟩
  refine Tb (n:=(K5 (ns.getD 0 0) % 5).toNat) (λ j σ H'=>∃ y6,σ = [some (.ref a),some (.str txA),some (.ref d1),some (.ref d2),some (.ref d3),some (.ref d),y6,none,none,none]∧Kp d H5 H'∧Ld K c.D c.W H' d wa pgA (stA j)) ⟨_,rfl,k6,l6⟩ ?_ ?_
  ·rintro j σ H7 hj ⟨y6,rfl,k7,l7⟩
   obtain ⟨dz,i7,o7,p3,p7,j5⟩:=l7.d0
   refine ⟨_,rfl,d,dz,_,rfl,j5,rfl,d,_,rfl,M8 l7 (Vl j) (by decide) Me.1 λ H8 k8 l8=>⟨_,rfl,λ b u hb e=>?_,l8⟩⟩
   exact k8 _ _ (λ z=>by rw [z,f6] at e; cases e) (k7 _ _ hb e)
  ·rintro σ H7 ⟨y6,rfl,k7,l7⟩
   exact ⟨_,_,rfl,k7.sq hd s5,k7 _ _ (Cd t5 hd (by intro z; cases z)) t5,b5.kp k7 i5,nx wa H7 k7 f6 l7⟩
 rintro σ H5 ⟨x5,x6,rfl,s5,t5,b5,w1,w2,nw,l1,l2⟩
 refine ⟨_,rfl,_,rfl,a,_,rfl,s5,λ l hl=>?_⟩
 rw [show J1 (ns.map V.int) none (some 40) = (ns.map V.int).take 40 from Afp _ 40,← List.map_take]
 have kl:=Ah hl (.lst ((ns.take 40).map V.int))
 refine ⟨l,rfl,⟨_,SqL.of Ae⟩,Hm (K:=K) (a:=l) (xs:=(ns.take 40).map V.int) (λ i σ H'=>∃ x5 x6 x7 x8 x9,σ = [some (.ref a),some (.str txA),some (.ref d1),some (.ref d2),some (.ref d3),x5,x6,x7,x8,x9]∧H' l = some (.lst ((ns.take 40).map V.int))∧Fb c.D H' d3∧∃ st,st∈SA∧Ld K c.D c.W H' d1 w1 pgA st∧Ld K c.D c.W H' d2 w2 pgA st) ⟨x5,x6,none,none,none,rfl,Ae,b5.same kl,_,Vl _,l1.same kl,l2.same kl⟩ (λ i σ H' _ ⟨_,_,_,_,_,_,e,_⟩=>SqL.of e) ?_ ?_⟩
 ·rintro i y σ H6 hi ⟨x5,x6,x7,x8,x9,rfl,e6,b6,st,a5,l1,l2⟩
  obtain ⟨cc,rfl⟩:∃ cc,y = V.int cc:=by
   rw [uJ] at hi
   cases e:(ns.take 40)[i]? with
   | none=>rw [e] at hi; cases hi
   | some z=>rw [e] at hi; exact ⟨z,(Option.some.inj hi).symm⟩
  refine ⟨_,rfl,cc,rfl,?_⟩
  have hn:=AdT cc
  generalize K5 cc = n at hn
  dsimp only [Cg,tSeq,Pm,tC]
  refine Agz λ nx j3 _=>?_
  have c7:∀ H7,Same H6 H7→nx [some (.ref a),some (.str txA),some (.ref d1),some (.ref d2),some (.ref d3),x5,x6,some (.int cc),some (.int n),x9] H7:=by
   intro H7 g7
   refine j3 _ _ ?_
   have e5:=l1.same g7
   have d7:=l2.same g7
   obtain ⟨y1,p9,p6,m4,q2,f2⟩:=e5.d0
   obtain ⟨y2,m7,o9,q1,n8,b7⟩:=d7.d0
   refine ⟨_,rfl,d1,y1,_,rfl,f2,rfl,d1,_,rfl,.wher (Fp Mp) e5 (AgP st a5) λ H8 g8=>?_⟩
   refine ⟨_,rfl,d2,y2,_,rfl,g8 _ _ b7,rfl,d2,_,rfl,.wher (Fp Mp) (d7.same g8) (AgP st a5) λ H9 g9=>⟨rfl,_,rfl,B0 (λ z=>by simp at z) λ _=>?_⟩⟩
   refine ⟨zN2,λ l3 l4=>?_⟩
   have a7:=(g8.trans g9).trans (Ah l4 (.lst [V.str "tick", .str "tick bb"]))
   obtain ⟨yr,j7,er⟩:=Lf (l:=["tick", "tick bb"]) (n:=n / 64) (Int.ediv_nonneg hn (by decide)) (by decide)
   obtain ⟨ws,c9,tk⟩:=AhM yr j7
   refine ⟨_,rfl,_,_,rfl,rfl,⟨by decide,by decide⟩,_,_,rfl,rfl,(by show (0:Int) < 2; decide),l3,_,_,.str yr,rfl,rfl,SqL.of Ae,er,?_⟩
   have e0:=e5.same a7
   have c5:=d7.same a7
   have c8:=a7 _ _ f2
   have c6:=a7 _ _ b7
   have a9:=a7 _ _ (g7 _ _ e6)
   have a8:=b6.same (g7.trans a7)
   generalize (upd H9 l3 (.lst [V.str "tick", .str "tick bb"])) = h9 at e0 c5 c8 c6 a9 a8
   obtain ⟨o6,q6,m9,a3⟩:=e0.wk
   refine ⟨_,rfl,d1,y1,_,rfl,c8,rfl,_,rfl,d1,_,rfl,M8 e0 a5 c9 tk λ f9 a4 a6=>?_⟩
   have e8:=c5.kp a4 a3 (J7 c5.d0 a3) (Ne.symm nw)
   have g5:=a4 _ _ (J7 c5.d0 a3) c6
   have h8:=a6.d0
   obtain ⟨q4,n9,m3,c4⟩:=e8.wk
   refine ⟨_,rfl,d2,y2,_,rfl,g5,rfl,_,rfl,d2,_,rfl,M8 e8 a5 c9 tk λ m1 e4 j0=>⟨rfl,_,rfl,B0 (λ z=>by simp at z) λ _=>?_⟩⟩
   exact ⟨_,_,_,_,_,rfl,e4 _ _ (Cd (a4 _ _ (Cd a9 a3 (by intro z; cases z)) a9) c4 (by intro z; cases z)) (a4 _ _ (Cd a9 a3 (by intro z; cases z)) a9),(a8.kp a4 (J7 a8.d0 a3)).kp e4 (J7 (a8.kp a4 (J7 a8.d0 a3)).d0 c4),_,(goA st a5 ws c9).2.1,a6.kp e4 c4 (J7 h8 c4) nw,j0⟩
  have n4:0≤n / 4:=Int.ediv_nonneg hn (by decide)
  refine ⟨_,rfl,_,_,rfl,rfl,(by show (0:Int) < 4; decide),rfl,_,rfl,K6 (λ c0=>?_) λ c0=>?_⟩
  ·exact ⟨_,rfl,_,rfl,_,_,rfl,rfl,⟨by decide,by decide⟩,d3,_,rfl,n4,b6,λ H7 g7=>⟨_,rfl,Bj (c7 H7 g7)⟩⟩
  ·exact ⟨_,rfl,_,rfl,_,_,rfl,rfl,⟨by decide,by decide⟩,d1,w1,st,_,rfl,n4,l1,λ H7 g7=>⟨_,rfl,Bj (c7 H7 g7)⟩⟩
 rintro σ H6 ⟨x5,x6,x7,x8,x9,rfl,e6,b6,st,a5,l1,l2⟩
 obtain ⟨f4,k9,i4,f1⟩:=b6
 refine ⟨_,rfl,d3,f4,_,rfl,f1,rfl,rfl,λ H7 g7=>?_⟩
 refine ⟨_,_,rfl,rfl,(by decide +kernel),d3,_,rfl,Tm (t:=txM) ⟨f4,k9,i4,_,_,g7 _ _ f1⟩ (Lm txM (by decide +kernel)) AhO Ahd λ w3 H8 k8 f8 l8=>⟨rfl,_,rfl,B0 (λ z=>by simp at z) λ _=>?_⟩⟩
 obtain ⟨f7,i8,o8,p8,v8,f0⟩:=l8.d0
 refine ⟨_,rfl,Im (A 5 (by decide) (by decide)) l8.d0 (λ H9 E9 g9 e9=>.judge (Fp AdY) (l8.same g9) rfl AhW e9) λ H9 g9=>⟨_,rfl,Bj ?_⟩⟩
 refine ⟨_,rfl,d3,f7,_,rfl,g9 _ _ f0,rfl,d3,_,rfl,.wher (Fp Mp) (l8.same g9) (λ l e=>by cases e) λ h9 e7=>⟨rfl,_,rfl,B0 (λ _=>?_) λ z=>absurd z (by decide +kernel)⟩⟩
 have l9:=l8.same (g9.trans e7)
 obtain ⟨m2,j8,j9,l0⟩:=goM
 refine ⟨_,rfl,d3,f7,_,rfl,e7 _ _ (g9 _ _ f0),rfl,d3,_,rfl,Ti l9 Me.1 (by decide) (by decide) (by decide) m2 (by decide) (by decide) j9 λ f9 a4 a6=>⟨rfl,_,rfl,B0 (λ _=>?_) λ z=>absurd z (by rw [l0]; decide +kernel)⟩⟩
 obtain ⟨g6,o4,p4,m6,q3,h4⟩:=a6.d0
 rw [j8] at a6
 refine ⟨_,rfl,d3,g6,_,rfl,h4,rfl,d3,_,rfl,.wher (Fp Mp) a6 (λ l e=>by cases e; decide) λ m1 q0=>⟨rfl,?_⟩⟩
 rw [show decide (V.str (whS (some [0,6])) = V.str "rests 2") = true by decide +kernel]
 exact q _
end
end Dsk
namespace My
open PySem L2
theorem AbN (h:hasDictIn K D = true):(PySem.W.clsIn K D).isSome = true:=by
 obtain ⟨cd,e,_⟩:=any_some h
 rw [e]
 rfl
inductive EI (K:FA) (C:Addr):Prop
 | mk (hg:PySem.W.findIn K (.ref C) "__getattribute__" = some (some (.builtin "BaseException.__getattribute__"))) (gn:PySem.W.findIn K (.ref C) "__getattr__" = some none) (be:PySem.W.subIn K (.ref C) (.type "BaseException") = some true) (hd:hasDictIn K C = true) (ha:PySem.W.findIn K (.ref C) "__class__" = some (some (.builtin "object.__class__"))) (hm:PySem.W.mroIn K C (.type "object") = some true):EI K C
inductive KI (K:FA) (C d0 d1 d2 d3 d4 d5 d6:Addr) (b0 b1 b2 b3 b4 b5:Bool):Prop
 | mk (k0:PySem.W.kitOne K (.ref C) (.ref d0) = some b0) (k1:PySem.W.kitOne K (.ref C) (.ref d1) = some b1) (k2:PySem.W.kitOne K (.ref C) (.ref d2) = some b2) (k3:PySem.W.kitOne K (.ref C) (.ref d3) = some b3) (k4:PySem.W.kitOne K (.ref C) (.ref d4) = some b4) (k5:PySem.W.kitOne K (.ref C) (.ref d5) = some b5) (k6:PySem.W.kitOne K (.ref C) (.ref d6) = some false) (k7:PySem.W.kitOne K (.ref C) (.type "ValueError") = some true):KI K C d0 d1 d2 d3 d4 d5 d6 b0 b1 b2 b3 b4 b5
theorem isk (h:KI K C c.NR c.NN c.NT c.Tw c.NP c.TM cUn (decide (k = 0)) (decide (k = 1)) (decide (k = 2)) (decide (k = 3)) (decide (k = 4)) (decide (k = 5))) (e:Xt K C) (we:exmOne K (.ref C) (.ref cWE) = some true):Dsk.IsK K c cUn cWE C k:=by
 obtain ⟨h0,h1,h2,h3,h4,h5,h6,h7⟩:=h
 exact ⟨e,h0,h1,h2,h3,h4,h5,h6,h7,we⟩
theorem EI.cl (h:EI K C) (hn:PySem.W.specialIn K (.builtin "object.__class__") "__get__" = some (some (.builtin "getset_descriptor.__get__"))) (ht:PySem.W.takesIn K (.builtin "object.__class__") = some true):Xt K C:=by
 obtain ⟨a,b,c,d,e,f⟩:=h
 exact ⟨a,b,c,AbN d,e,hn,ht,f⟩
theorem ln0 (h:us.length = 0):us = []:=length_eq_zero_iff.mp h
theorem ln1 (h:us.length = 1):∃ a0,us = [a0]:=by
 cases us with
 | nil=>cases h
 | cons a0 r =>
  obtain rfl:=ln0 (Nat.succ.inj h)
  exact ⟨a0,rfl⟩
theorem ln2 (h:us.length = 2):∃ a0 a1,us = [a0,a1]:=by
 cases us with
 | nil=>cases h
 | cons a0 r =>
  obtain ⟨a1,rfl⟩:=ln1 (Nat.succ.inj h)
  exact ⟨a0,a1,rfl⟩
theorem ln3 (h:us.length = 3):∃ a0 a1 a2,us = [a0,a1,a2]:=by
 cases us with
 | nil=>cases h
 | cons a0 r =>
  obtain ⟨a1,a2,rfl⟩:=ln2 (Nat.succ.inj h)
  exact ⟨a0,a1,a2,rfl⟩
theorem ln4 (h:us.length = 4):∃ a0 a1 a2 a3,us = [a0,a1,a2,a3]:=by
 cases us with
 | nil=>cases h
 | cons a0 r =>
  obtain ⟨a1,a2,a3,rfl⟩:=ln3 (Nat.succ.inj h)
  exact ⟨a0,a1,a2,a3,rfl⟩
theorem bd0 {x: Str} (F:Fun K x qual st f fd) (h:(λ (kV doc pm:Value) (an:Option Addr) (cdv ct  : Value)=>bindArgs (fnOf x qual (Ct st) (Bx st) (Aj st) .none kV doc pm an cdv ct) ⟨[],[]⟩) = λ kV doc pm  an  cdv ct   => pure (([]:List Str).zip ([]:List Value))):Br K fd [] []:=F.binds λ _ _ _ _ _ _ us hl=>by
 obtain rfl:=ln0 hl
 exact congrFun (congrFun (congrFun (congrFun (congrFun (congrFun h _) _) _) _) _) _
theorem bd1 (F:Fun K x qual st f fd) (h:(λ (kV doc pm:Value) (an:Option Addr) (cdv ct x0:Value)=>bindArgs (fnOf x qual (Ct st) (Bx st) (Aj st) .none kV doc pm an cdv ct) ⟨[x0],[]⟩) = λ kV doc pm  an  cdv ct x0  => pure (([p0]:List Str).zip ([x0]:List Value))):Br K fd [p0] []:=F.binds λ _ _ _ _ _ _ us hl=>by
 obtain ⟨a0,rfl⟩:=ln1 hl
 exact congrFun (congrFun (congrFun (congrFun (congrFun (congrFun (congrFun h _) _) _) _) _) _) _
theorem bd2 (F:Fun K x qual st f fd) (h:(λ (kV doc pm:Value) (an:Option Addr) (cdv ct x0 x1:Value)=>bindArgs (fnOf x qual (Ct st) (Bx st) (Aj st) .none kV doc pm an cdv ct) ⟨[x0,x1],[]⟩) = λ kV doc pm  an  cdv ct x0 x1  => pure (([p0,p1]:List Str).zip ([x0,x1]:List Value))):Br K fd [p0,p1] []:=F.binds λ _ _ _ _ _ _ us hl=>by
 obtain ⟨a0,a1,rfl⟩:=ln2 hl
 exact congrFun (congrFun (congrFun (congrFun (congrFun (congrFun (congrFun (congrFun h _) _) _) _) _) _) _) _
theorem bd3 (F:Fun K x qual st f fd) (h:(λ (kV doc pm:Value) (an:Option Addr) (cdv ct x0 x1 x2:Value)=>bindArgs (fnOf x qual (Ct st) (Bx st) (Aj st) .none kV doc pm an cdv ct) ⟨[x0,x1,x2],[]⟩) = λ kV doc pm  an  cdv ct x0 x1 x2  => pure (([p0,p1,p2]:List Str).zip ([x0,x1,x2]:List Value))):Br K fd [p0,p1,p2] []:=F.binds λ _ _ _ _ _ _ us hl=>by
 obtain ⟨a0,a1,a2,rfl⟩:=ln3 hl
 exact congrFun (congrFun (congrFun (congrFun (congrFun (congrFun (congrFun (congrFun (congrFun h _) _) _) _) _) _) _) _) _
theorem bd4 (F:Fun K x qual st f fd) (h:(λ (kV doc pm:Value) (an:Option Addr) (cdv ct x0 x1 x2 x3:Value)=>bindArgs (fnOf x qual (Ct st) (Bx st) (Aj st) .none kV doc pm an cdv ct) ⟨[x0,x1,x2,x3],[]⟩) = λ kV doc pm  an  cdv ct x0 x1 x2 x3  => pure (([p0,p1,p2,p3]:List Str).zip ([x0,x1,x2,x3]:List Value))):Br K fd [p0,p1,p2,p3] []:=F.binds λ _ _ _ _ _ _ us hl=>by
 obtain ⟨a0,a1,a2,a3,rfl⟩:=ln4 hl
 exact congrFun (congrFun (congrFun (congrFun (congrFun (congrFun (congrFun (congrFun (congrFun (congrFun h _) _) _) _) _) _) _) _) _) _
inductive FI (K:FA) (x:Str) (st:Stmt):Prop
 | mk {f:Addr} {oc kV dc pm cd ct:Value} {od an:Option Addr} {sl:Array (Option Value)} (a:nsIn K mainGlobals x = some (some (.ref f))) (l:K.lookup f = some ⟨oc,od,.func (fnOf x x (Ct st) (Bx st) (Aj st) .none kV dc pm an cd ct),sl⟩) (c:codeIn K cd x = true) (k:keepIn K (.ref f) = true):FI K x st
inductive MI (K:FA) (C:Addr) (x q:Str) (st:Stmt) (h:Addr):Prop
 | mk {oc kV dc pm cd ct:Value} {od an:Option Addr} {sl:Array (Option Value)} (a:PySem.W.findIn K (.ref C) x = some (some (.ref h))) (i:isFn K (.ref h) = true) (l:K.lookup h = some ⟨oc,od,.func (fnOf x q (Ct st) (Bx st) (Aj st) .none kV dc pm an cd ct),sl⟩) (c:codeIn K cd q = true) (k:keepIn K (.ref h) = true):MI K C x q st h
inductive CI (K:FA) (C:Addr):Prop
 | mk (pg:plainGet K C Str.empty = true) (hd:hasDictIn K C = true) (po:plainOver K C = true) (sa:PySem.W.findIn K (.ref C) "__setattr__" = some (some (.builtin "object.__setattr__"))) (mk:makesIn K C = true) (kc:keepIn K (.ref C) = true):CI K C
inductive FJ (K:FA) (x q:Str) (st:Stmt):Prop
 | mk {f:Addr} {oc kV dc pm cd ct:Value} {od an:Option Addr} {sl:Array (Option Value)} (a:nsIn K mainGlobals x = some (some (.ref f))) (l:K.lookup f = some ⟨oc,od,.func (fnOf q q (Ct st) (Bx st) (Aj st) .none kV dc pm an cd ct),sl⟩) (c:codeIn K cd q = true) (k:keepIn K (.ref f) = true):FJ K x q st
theorem fJ (X:K.In hp) (G:hp.Ns mainGlobals mg) (I:FJ K x q st) (h:∀ {f:Addr} {fd:FuncData},Fun K q q st f fd→Br K fd ps []):Gf K mg x q ps st:=by
 obtain ⟨a,l,c,k⟩:=I
 exact ⟨_,_,D6 l c k,mg_of X G a,h (D6 l c k)⟩
inductive TI (K:FA) (x:Str) (a:Addr) (vs:List V):Prop
 | mk {od:Option Addr} {it:Array Value} {n:Nat} {sl:Array (Option Value)} (m:nsIn K mainGlobals x = some (some (.ref a))) (l:K.lookup a = some ⟨Value.type "tuple", od,.seq it n,sl⟩) (s:it.size≤sizeLine) (v:A5 vs it.toList):TI K x a vs
theorem tI (X:K.In hp) (G:hp.Ns mainGlobals mg) (I:TI K x a vs):mg x = some (.ref a)∧Gp K a vs:=by
 obtain ⟨m,l,s,v⟩:=I
 exact ⟨mg_of X G m,_,_,_,l,rfl,rfl,s,v⟩
inductive XI (K:FA) (x:Str) (c:Addr):Prop
 | mk (m:nsIn K mainGlobals x = some (some (.ref c))) (e:excIn K c veM "ValueError.__new__" = true):XI K x c
theorem xI (X:K.In hp) (G:hp.Ns mainGlobals mg) (I:XI K x c):mg x = some (.ref c)∧excIn K c veM "ValueError.__new__" = true:=by
 obtain ⟨m,e⟩:=I
 exact ⟨mg_of X G m,e⟩
inductive NI (K:FA) (C:Addr) (x q:Str) (st:Stmt):Prop
 | mk {h:Addr} {oc kV dc pm cd ct:Value} {od an:Option Addr} {sl:Array (Option Value)} (a:PySem.W.findIn K (.ref C) x = some (some (.ref h))) (i:isFn K (.ref h) = true) (l:K.lookup h = some ⟨oc,od,.func (fnOf x q (Ct st) (Bx st) (Aj st) .none kV dc pm an cd ct),sl⟩) (c:codeIn K cd q = true) (k:keepIn K (.ref h) = true):NI K C x q st
theorem mM (P:Program) (w:World) (base:Heap) (I:NI K C x q st) (cl:Cls K C) (o:∀ {f:Addr} {fd:FuncData},Fun K x q st f fd→Bi P w K mg base CX0 n f fd ps sp) (b:∀ {f:Addr} {fd:FuncData},Fun K x q st f fd→Br K fd ps []):Cu P w K mg base n C x ps sp:=by
 obtain ⟨a,i,l,c,k⟩:=I
 exact ⟨_,_,o (D6 l c k),b (D6 l c k),⟨a,i,k⟩,cl⟩
theorem mX (P:Program) (w:World) (base:Heap) (I:NI K C x q st) (cl:Cls K C) (o:∀ {f:Addr} {fd:FuncData},Fun K x q st f fd→Bi P w K mg base (CX1 P w) n f fd ps sp) (b:∀ {f:Addr} {fd:FuncData},Fun K x q st f fd→Br K fd ps []):Cy P w K mg base n C x ps sp:=by
 obtain ⟨a,i,l,c,k⟩:=I
 exact ⟨_,_,o (D6 l c k),b (D6 l c k),⟨a,i,k⟩,cl⟩
theorem AiN (i0:Dsk.IsK K c cUn cWE c.NR 0) (i1:Dsk.IsK K c cUn cWE c.NN 1) (i2:Dsk.IsK K c cUn cWE c.NT 2) (i3:Dsk.IsK K c cUn cWE c.Tw 3) (i4:Dsk.IsK K c cUn cWE c.NP 4) (i5:Dsk.IsK K c cUn cWE c.TM 5):Dsk.Ad1 K c cUn cWE:=λ k h0 h5=>by
 have:k = 0∨k = 1∨k = 2∨k = 3∨k = 4∨k = 5:=by omega
 rcases this with rfl | rfl | rfl | rfl | rfl | rfl
 ·exact i0
 ·exact i1
 ·exact i2
 ·exact i3
 ·exact i4
 ·exact i5
theorem fI (X:K.In hp) (G:hp.Ns mainGlobals mg) (I:FI K x st) (h:∀ {f:Addr} {fd:FuncData},Fun K x x st f fd→Br K fd ps []):Bd K mg x ps st:=by
 obtain ⟨a,l,c,k⟩:=I
 exact ⟨_,_,D6 l c k,mg_of X G a,h (D6 l c k)⟩
abbrev NsR (K:FA) (x:Str) (a:Addr):Prop:=nsIn K mainGlobals x = some (some (.ref a))
abbrev NsN (K:FA) (x:Str):Prop:=nsIn K mainGlobals x = some none
abbrev KpR (K:FA) (a:Addr):Prop:=keepIn K (.ref a) = true
abbrev IfR (K:FA) (a:Addr):Prop:=isFn K (.ref a) = true
abbrev CdR (K:FA) (c:Value) (x:Str):Prop:=codeIn K c x = true
abbrev FnR (K:FA) (f:Addr) (x y:Str) (st:Stmt) (oc:Value) (od:Option Addr) (kV dc pm:Value) (an:Option Addr) (cd ct:Value) (sl:Array (Option Value)):Prop:=K.lookup f = some ⟨oc,od,.func (fnOf x y (Ct st) (Bx st) (Aj st) .none kV dc pm an cd ct),sl⟩
theorem all_mk {l:PySem.W.OpenLaw} {w:World} {K:FA} {h:Heap} {mg:Str→Option Value} {fa oA C h0 eX fT j7 jW jL kO jZ gI jQ hV c7 c6 c5 c9 b7 b9 b8 fQ qO cV qS cD qP fH hR c8:Addr} {rB oE rR sM:Option Addr} {rG r9:Array (Option Value)} {qZ oG pW pB lN pS rQ rL sH sR qQ rS:Value} {iB iP gJ jB iS jF jG jR kF lR kU mG:Tok} (X:K.In h) (G:h.Ns mainGlobals mg) (rZ:mg "law" = some (.ref fa)) (a0:FI K "leaf_code" Ik) (a1:FI K "code_of_again" Fe) (a2:FI K "code_of_trap" F0) (a3:FI K "part_to_begin" Hd) (a4:FI K "remaining" Il) (a5:FI K "left_of_pair" Hz) (a6:FI K "left_of_round" Hb) (a7:FI K "ran" AbH) (a8:FJ K "begun_instants" "begun" Ez) (a9:FJ K "begun_leaf_instants" "begun_leaf" En) (nA:FI K "rests_left" Kc) (pR:FJ K "in_turn_instants" "in_turn" Ft) (pH:FJ K "side_by_side_instants" "side_by_side" D4) (mW:FI K "repeated" Mw) (o5:FI K "walked" P5) (pL:FJ K "begun_walking" "begun" De) (qC:FJ K "begun_leaf_walking" "begun_leaf" Ex) (pX:FJ K "in_turn_walking" "in_turn" Eg) (pM:FJ K "side_by_side_walking" "side_by_side" C9) (pP:FI K "one_of" P9) (pD:FI K "recoded" N9) (nN:FI K "body_to_begin" He) (oZ:FI K "instant" Ob) (mQ:FI K "rounds" P7) (nG:FI K "settled" N8) (nF:FI K "signs_that_are" Dx) (pZ:FI K "known_at_first" Ey) (n9:FI K "known_behind" Hy) (nX:FI K "changes_by" Hc) (qD:FI K "comings" Oa) (pF:FI K "add_state" K8) (qB:FI K "looked" Qa) (nH:FI K "plain" Sk) (oB:FI K "plain_part" G8) (oY:FI K "plain_leaf" Kd) (nQ:FI K "inner_parts" Gb) (oI:FI K "every_part" Kf) (nU:FI K "check_once" Kb) (o0:FI K "check_there" Gc) (nK:FI K "check_among" Jd) (mZ:FI K "parts" Sj) (nZ:FI K "words_of" Mt) (nL:FI K "is_name" N7) (pK:FI K "most_open" Le) (m6:FI K "read" X0) (nY:FI K "read_program" Hv) (qA:FI K "read_block" Ha) (oM:FI K "read_row" Jn) (pY:FI K "read_braced" Ge) (nM:FI K "read_part" Ij) (oK:FI K "read_if" Kw) (m9:FI K "signs_there" Je) (oP:FI K "is_row" P6) (oF:FI K "is_tick" Kv) (oQ:FI K "is_in_form" G9) (pI:FI K "_law_mixed" Kg) (o4:FI K "_law_cell_at" Hu) (oO:FI K "_law_classes" Hw) (mY:FI K "_law_refused" F1) (nV:FI K "_law_odd" Mu) (pJ:FI K "_law_text" Lc) (n8:FI K "_law_named" Ke) (nE:FI K "_law_full" K9) (o6:FI K "_law_bare" Lb) (oS:FI K "_law_many" La) (pO:NsR K "law" oA) (pU:FnR K oA "law" "law" Mv qZ rB oG pW pB oE lN pS rG) (mT:CdR K lN "law") (mV:KpR K oA) (aC:NsR K "Numbers" C) (kQ:MI K C "__init__" "Numbers.__init__" Pln.N6 h0) (qF:NI K C "new_rest" "Numbers.new_rest" Pln.Rk) (pg:CI K C) (hZ:PySem.W.findIn K (.ref C) "signs" = some none) (h9:PySem.W.findIn K (.ref C) "rests" = some none) (d7:TI K "NOTHING_remaining" eX [V.str "nothing"]) (d8:TI K "NOTHING_plain" fT [V.str "nothing"]) (iD:TI K "PAIRS" j7 [V.str "then", V.str "if", V.str "beside"]) (iH:TI K "ROUND" jW [V.str "again", V.str "hold", V.str "watch", V.str "trap"]) (iV:TI K "KEPT" jL [V.str "in", V.str "out", V.str "nothing", V.str "rest", V.str "halt", V.str "send", V.str "keep", V.str "await", V.str "if", V.str "else", V.str "again", V.str "hold", V.str "watch", V.str "weak", V.str "trap", V.str "exit", V.str "local"]) (iZ:TI K "BARE" kO [V.str "nothing", V.str "rest", V.str "halt"]) (iE:TI K "NAMED" jZ [V.str "send", V.str "keep", V.str "await", V.str "exit"]) (eZ:TI K "NAMED_ROUND" gI [V.str "hold", V.str "watch", V.str "weak", V.str "trap", V.str "local"]) (fA:TI K "SIGN_USERS" jQ [V.str "send", V.str "keep", V.str "await", V.str "if", V.str "hold", V.str "watch", V.str "weak"]) (fD:TI K "BARE_ROWS" hV [V.str "where", V.str "begin", V.str "judge"]) (iM:nsIn K mainGlobals "ENDED" = some (some (.int 0 iB))) (iF:nsIn K mainGlobals "RESTS" = some (some (.int 1 iP))) (gP:nsIn K mainGlobals "LEAVES" = some (some (.int 2 gJ))) (eY:nsIn K mainGlobals "MOST_STATES" = some (some (.int 40 jB))) (d9:nsIn K mainGlobals "LONGEST_NAME" = some (some (.int 8 iS))) (e8:nsIn K mainGlobals "MOST_SIGNS" = some (some (.int 3000 jF))) (fB:nsIn K mainGlobals "MOST_PARTS" = some (some (.int 60 jG))) (fE:nsIn K mainGlobals "MOST_OPEN" = some (some (.int 16 jR))) (gG:nsIn K mainGlobals "LETTERS" = some (some (.str "abcdefghijklmnopqrstuvwxyz" kF))) (iR:nsIn K mainGlobals "MARKS" = some (some (.str "{};|" lR))) (gL:nsIn K mainGlobals "BLANKS" = some (some (.str " \n" kU))) (iX:nsIn K mainGlobals "LOAD" = some (some (.str "load " mG))) (iJ:XI K "NoRow" c7) (gM:XI K "NoName" c6) (gX:XI K "NoText" c5) (hX:XI K "Twice" c9) (fF:XI K "NoProgram" b7) (gB:XI K "TooMany" b9) (fL:XI K "Unsettled" b8) (oX:NsR K "Words" fQ) (jK:MI K fQ "__init__" "Words.__init__" Rd.N6 qO) (lA:NI K fQ "peek" "Words.peek" Rd.Acq) (l9:NI K fQ "take" "Words.take" Rd.Acp) (lP:NI K fQ "expect" "Words.expect" Rd.X1) (lM:NI K fQ "take_name" "Words.take_name" Rd.Pc) (lD:NI K fQ "take_names" "Words.take_names" Rd.Od) (lH:NI K fQ "expect_end" "Words.expect_end" Rd.Oc) (kS:CI K fQ) (iL:PySem.W.findIn K (.ref fQ) "words" = some none) (hW:PySem.W.findIn K (.ref fQ) "place" = some none) (nD:NsR K "Walker" cV) (jJ:MI K cV "__init__" "Walker.__init__" Dsk.AaA qS) (kY:NI K cV "done_with" "Walker.done_with" Dsk.Aco) (lW:NI K cV "tick" "Runner.tick" Dsk.Acs) (lL:NI K cV "state" "Runner.state" Dsk.AaB) (kK:CI K cV) (gD:PySem.W.findIn K (.ref cV) "reached" = some none) (gF:PySem.W.findIn K (.ref cV) "program" = some none) (qE:NsR K "Desk" cD) (jT:MI K cD "__init__" "Desk.__init__" Dsk.AaE qP) (lJ:NI K cD "say" "Desk.say" Dsk.Aeb) (lG:NI K cD "load" "Desk.load" Dsk.Acr) (lX:NI K cD "begin" "Desk.begin" Dsk.AaD) (kX:NI K cD "where" "Desk.where" Dsk.AaC) (lB:NI K cD "judge" "Desk.judge" Dsk.Z8) (lU:NI K cD "instant_with" "Desk.instant_with" Dsk.Rj) (lV:NI K cD "sign_of_in" "Desk.sign_of_in" Dsk.Act) (kJ:CI K cD) (jO:PySem.W.findIn K (.ref cD) "ins" = some none) (iW:PySem.W.findIn K (.ref cD) "outs" = some none) (fZ:PySem.W.findIn K (.ref cD) "program" = some none) (gZ:PySem.W.findIn K (.ref cD) "walker" = some none) (gO:NsR K "Runner" fH) (oW:PySem.W.specialIn K (.ref fH) "__getattribute__" = some (some (.builtin "type.__getattribute__"))) (oR:readsIn K fH (.type "type") = true) (oN:findCls K (.ref fH) (.type "type") "__init__" = some (.val (.ref hR))) (mE:KpR K hR) (rl:K.lookup hR = some ⟨rQ,rR,.func (fnOf "__init__" "Runner.__init__" (Ct Dsk.Z9) (Bx Dsk.Z9) (Aj Dsk.Z9) .none rL sH sR sM qQ rS),r9⟩) (pA:CdR K qQ "Runner.__init__") (fR:NsR K "WiseError" c8) (iI:EI K c7) (iK:exmOne K (.ref c7) (.ref c8) = some true) (iO:KI K c7 c7 c6 c5 c9 b7 b9 b8 true false false false false false) (gU:EI K c6) (gK:exmOne K (.ref c6) (.ref c8) = some true) (gY:KI K c6 c7 c6 c5 c9 b7 b9 b8 false true false false false false) (gQ:EI K c5) (gR:exmOne K (.ref c5) (.ref c8) = some true) (gN:KI K c5 c7 c6 c5 c9 b7 b9 b8 false false true false false false) (iA:EI K c9) (iG:exmOne K (.ref c9) (.ref c8) = some true) (iQ:KI K c9 c7 c6 c5 c9 b7 b9 b8 false false false true false false) (fG:EI K b7) (fP:exmOne K (.ref b7) (.ref c8) = some true) (fO:KI K b7 c7 c6 c5 c9 b7 b9 b8 false false false false true false) (gC:EI K b9) (fY:exmOne K (.ref b9) (.ref c8) = some true) (fX:KI K b9 c7 c6 c5 c9 b7 b9 b8 false false false false false true) (hnC:PySem.W.specialIn K (.builtin "object.__class__") "__get__" = some (some (.builtin "getset_descriptor.__get__"))) (jE:PySem.W.takesIn K (.builtin "object.__class__") = some true) (fN:NsN K "ValueError") (kH:NsN K "all") (jV:NsN K "dict") (fV:NsN K "enumerate") (fK:NsN K "isinstance") (kC:NsN K "len") (jS:NsN K "list") (j8:NsN K "max") (kG:NsN K "min") (i9:NsN K "range") (j9:NsN K "set") (iN:NsN K "sorted") (kE:NsN K "str") (jA:NsN K "tuple") : ∃ fd:FuncData,(∀ (s:Shared) (v:Value),BindsTo s fd ⟨[v],[]⟩ [("_law_script", v)])∧∀ base:Heap,K.In base→base.Ns mainGlobals mg→Bi l.prog w K mg base CX0 150 fa fd ["_law_script"] (Us K):=by
 obtain ⟨kQ,r6,sP,sQ,rV⟩:=kQ
 obtain ⟨jK,q0,qU,rA,rE⟩:=jK
 obtain ⟨jJ,qV,qW,rF,qX⟩:=jJ
 obtain ⟨jT,rH,q9,qY,q8⟩:=jT
 obtain ⟨pg,hd,po,sa,mk,kc⟩:=pg
 obtain ⟨kS,rK,sB,rO,sN,r8⟩:=kS
 obtain ⟨kK,sE,rJ,rW,sA,sO⟩:=kK
 obtain ⟨kJ,rT,sC,sF,rP,sI⟩:=kJ
 have e:=rZ.symm.trans (mg_of X G pO)
 cases e
 have T:Txt mg:=⟨mg_none_of X G fN,mg_none_of X G kH,mg_none_of X G jV,mg_none_of X G fV,mg_none_of X G fK,mg_none_of X G kC,mg_none_of X G jS,mg_none_of X G j8,mg_none_of X G kG,mg_none_of X G i9,mg_none_of X G j9,mg_none_of X G iN,mg_none_of X G kE,mg_none_of X G jA⟩
 have Cl:Cls K C:=⟨pg,hd,po,sa⟩
 obtain ⟨gE,fW⟩:=tI X G d7
 obtain ⟨iC,hG⟩:=tI X G d8
 obtain ⟨lT,kL⟩:=tI X G iD
 obtain ⟨lE,kN⟩:=tI X G iH
 obtain ⟨mL,kZ⟩:=tI X G iV
 obtain ⟨mO,lC⟩:=tI X G iZ
 obtain ⟨lK,kM⟩:=tI X G iE
 obtain ⟨i6,iT⟩:=tI X G eZ
 obtain ⟨jI,iY⟩:=tI X G fA
 obtain ⟨jM,jH⟩:=tI X G fD
 have fU:=mg_of X G d9
 have iU:=mg_of X G gG
 obtain ⟨dH,lS⟩:=xI X G iJ
 obtain ⟨cI,jD⟩:=xI X G gM
 obtain ⟨cZ,kI⟩:=xI X G gX
 obtain ⟨dI,lZ⟩:=xI X G hX
 obtain ⟨cJ,jP⟩:=xI X G fF
 obtain ⟨cS,kA⟩:=xI X G gB
 obtain ⟨bQ,jN⟩:=xI X G fL
 have dQ:=D6 (st:=Pln.N6) sP sQ rV
 have eO:=bd2 (p0:= "self") (p1:= "signs") dQ rfl
 have sS:Mk K C h0:=⟨mk,kQ,r6,kc⟩
 have cN:Bd K mg "leaf_code" ["part"] Ik:=fI X G a0 (bd1 · rfl)
 have bU:Bd K mg "code_of_again" ["code"] Fe:=fI X G a1 (bd1 · rfl)
 have bY:Bd K mg "code_of_trap" ["code"] F0:=fI X G a2 (bd1 · rfl)
 have bE:Bd K mg "signs_that_are" ["value", "known"] Dx:=fI X G nF (bd2 · rfl)
 have eW:=D6 (st:=Mv) pU mT mV
 refine ⟨fnOf "law" "law" (Ct Mv) (Bx Mv) (Aj Mv) .none oG pW pB oE lN pS,λ s v=>.of_eq rfl,λ base _ _=>?_⟩
 have jU:Cls K fQ:=⟨kS,rK,sB,rO⟩
 have jY:=D6 (st:=Rd.N6) qU rA rE
 have mJ:=bd2 (p0:= "self") (p1:= "words") jY rfl
 have rN:Mk K fQ qO:=⟨sN,jK,q0,r8⟩
 have mF:Cls K cV:=⟨kK,sE,rJ,rW⟩
 have jX:=D6 (st:=Dsk.AaA) qW rF qX
 have mH:=bd2 (p0:= "self") (p1:= "program") jX rfl
 have sT:Mk K cV qS:=⟨sA,jJ,qV,sO⟩
 have jC:Cls K cD:=⟨kJ,rT,sC,sF⟩
 have j6:=D6 (st:=Dsk.AaE) q9 qY q8
 have mI:=bd1 (p0:= "self") j6 rfl
 have sD:Mk K cD qP:=⟨rP,jT,rH,sI⟩
 have TW:Rd.Ml K mg fQ jL:={ toTxt:=T,cl:=jU,nW:=iL,nP:=hW,m_Words:=mg_of X G oX,m_KEPT:=mL,r_KEPT:=rfl,mK:=kZ }
 have qN:Rd.Cj K mg fQ jL kO jZ gI:={ toMl:=TW,m_BARE:=mO,r_BARE:=rfl,mB:=lC,m_NAMED:=lK,r_NAMED:=rfl,mM:=kM,m_NAMED_ROUND:=i6,r_NAMED_ROUND:=rfl,mR:=iT }
 have cs:Rd.Cst K mg c5:=⟨⟨_,iU⟩,⟨_,mg_of X G iR⟩,⟨_,mg_of X G gL⟩,⟨_,fU⟩,cZ,kI⟩
 have sK:=Rd.Aej (P:=l.prog) (w:=w) (base:=base) jY TW
 have MP:=mM l.prog w base lA jU (λ F=>Rd.Aiy F TW) (bd1 · rfl)
 have MT:=mM l.prog w base l9 jU (λ F=>Rd.Ai8 F TW MP) (bd1 · rfl)
 have CN:=Rd.Ahx (P:=l.prog) (w:=w) (base:=base) (fI X G nL (bd1 · rfl)) TW cs
 have ME:=mX l.prog w base lP jU (λ F=>Rd.Ahw F TW cs MT) (bd2 · rfl)
 have MN:=mX l.prog w base lM jU (λ F=>Rd.Ag3 F TW cs MT CN) (bd1 · rfl)
 have ML:=mM l.prog w base lD jU (λ F=>Rd.Afm F TW MP MT CN) (bd1 · rfl)
 have MD:=mX l.prog w base lH jU (λ F=>Rd.Agu F TW cs MP) (bd1 · rfl)
 have CB:=Rd.Aca (fI X G nM (bd1 · rfl)) (fI X G oM (bd1 · rfl)) (fI X G qA (bd1 · rfl)) (fI X G pY (bd1 · rfl)) (fI X G oK (bd1 · rfl)) qN cs MP MT MN ME
 have CW:=Rd.Ahm (P:=l.prog) (w:=w) (base:=base) (fI X G nZ (bd1 · rfl)) cs
 have CM:=Rd.Ais (P:=l.prog) (w:=w) (base:=base) (fI X G pK (bd1 · rfl)) T
 have rY:=Rd.AhH (fI X G nY (bd1 · rfl)) qN cs ⟨_,mg_of X G fE⟩ rN sK mJ CW CM ME ML MD CB
 have CI:=Rd.AiY (P:=l.prog) (w:=w) (base:=base) (fI X G nQ (bd1 · rfl)) T
 have rX:=Rd.Aid (fI X G mZ (bd1 · rfl)) T (Rd.Ah7 (fI X G oI (bd1 · rfl)) CI)
 have CO:=Rd.Ai7 (P:=l.prog) (w:=w) (base:=base) (fI X G nU (bd1 · rfl)) T dI lZ
 have CA:=Rd.AiS (P:=l.prog) (w:=w) (base:=base) (fI X G nK (bd2 · rfl)) cI jD
 have CT:=Rd.AcW (fI X G o0 (bd3 · rfl)) jI iY CA CI 62
 have qH:=Rd.Ai6 (fI X G m6 (bd1 · rfl)) T cs ⟨_,mg_of X G e8⟩ ⟨_,mg_of X G fB⟩ rY rX CO CT
 have lQ:A8 (.int 0) (Value.int 0 iB):=⟨_,rfl⟩
 have lF:A8 (.int 1) (Value.int 1 iP):=⟨_,rfl⟩
 have kW:A8 (.int 2) (Value.int 2 gJ):=⟨_,rfl⟩
 have TR:Cj K mg eX j7 jW (Value.int 0 iB) (Value.int 1 iP) (Value.int 2 gJ):={ toTxt:=T,m_ENDED:=mg_of X G iM,r_ENDED:=lQ,m_RESTS:=mg_of X G iF,r_RESTS:=lF,m_LEAVES:=mg_of X G gP,r_LEAVES:=kW,m_NOTHING:=gE,r_NOTHING:=rfl,mN:=fW,m_PAIRS:=lT,r_PAIRS:=rfl,mP:=kL,m_ROUND:=lE,r_ROUND:=rfl,mR:=kN }
 have oJ:=Zu (P:=l.prog) (w:=w) (base:=base) (fI X G a4 (bd2 · rfl)) TR (AhI (fI X G a5 (bd3 · rfl)) TR) (AhT (fI X G a6 (bd2 · rfl)) TR) 40
 have rD:=Y0 (P:=l.prog) (w:=w) (base:=base) (fJ X G a8 (bd2 · rfl)) TR (AhF (fJ X G a9 (bd1 · rfl)) TR (O5 cN TR) (Ag7 (fI X G nA (bd1 · rfl)) TR)) (Aed (fJ X G pR (bd2 · rfl)) TR) (Aek (fJ X G pH (bd2 · rfl)) TR) (Afj (fI X G mW (bd2 · rfl)) TR (AbK bU TR)) (AcZ bY TR) 40
 have pN:=Afq (fI X G a3 (bd2 · rfl)) TR oJ
 have qJ:=Aff (fI X G a7 (bd3 · rfl)) TR pN rD
 have sG:=AbU (P:=l.prog) (w:=w) (base:=base) (fJ X G pL (bd3 · rfl)) TR (Adm (fJ X G qC (bd2 · rfl)) TR (O5 cN TR)) (Adc (fJ X G pX (bd2 · rfl)) TR) (AeC (fJ X G pM (bd2 · rfl)) TR) (AfH (fI X G pP (bd2 · rfl)) TR) (Aeo (fI X G pD (bd2 · rfl)) TR) (AbK bU TR) (AcZ bY TR) 40
 have kP:=Ads (fI X G o5 (bd4 · rfl)) TR pN sG
 have sU:=Aez kP
 have o9:=Afu (P:=l.prog) (w:=w) (base:=base) (fI X G nN (bd2 · rfl)) TR oJ
 have mD:=AfI (fI X G oZ (bd3 · rfl)) TR o9 (Ae3 qJ)
 have nC:=Ad9 kP
 have kR:=AdZ (P:=l.prog) (w:=w) (base:=base) (fI X G pZ (bd2 · rfl)) T
 have oU:=AgA (P:=l.prog) (w:=w) (base:=base) (fI X G n9 (bd2 · rfl)) T
 have qT:=AgC (fI X G mQ (bd3 · rfl)) T o9 kR oU (Ag1 (fI X G nX (bd2 · rfl)) T nC (Wl bE T))
 have pQ:=Agg (fI X G nG (bd3 · rfl)) T kR oU qT
 have TP:Pln.P0 K mg C fT:={ toTxt:=T,cl:=Cl,nS:=hZ,nR:=h9,m_Numbers:=mg_of X G aC,m_NOTHING:=iC,r_NOTHING:=rfl,mN:=hG }
 have GI:=Pln.Aej (P:=l.prog) (w:=w) (base:=base) dQ TP
 have MR:=mM l.prog w base qF Cl (λ F=>Pln.Ai0 F TP) (bd1 · rfl)
 have CL:=Pln.AiZ (fI X G oY (bd4 · rfl)) TP MR
 have CP:=Pln.AiA (fI X G nH (bd1 · rfl)) TP sS GI eO (Pln.Ac8 (fI X G oB (bd4 · rfl)) TP CL MR 100)
 have qM:=Afd (fI X G qB (bd1 · rfl)) T (Agh (fI X G qD (bd1 · rfl)) T) pQ mD (Wl bE T) (Afa (fI X G pF (bd2 · rfl)) T cS kA ⟨_,mg_of X G eY⟩)
 have TN:Dsk.Ph K mg cV fH b8:={ toTxt:=T,cl:=mF,nR:=gD,nP:=gF,m_Runner:=mg_of X G gO,m_Walker:=mg_of X G nD,m_Un:=bQ,excU:=jN }
 have FR:=D6 (st:=Dsk.Z9) rl pA mE
 have bR:=bd1 (p0:= "self") FR rfl
 have GR:=Dsk.Ah6 (P:=l.prog) (w:=w) (base:=base) FR TN
 have rM:=Dsk.AiT jX TN ⟨oW,oR,oN,mE⟩ GR bR
 have sL:=Dsk.Ahv (P:=l.prog) (w:=w) (base:=base) (fI X G m9 (bd1 · rfl)) TN (Wl bE T)
 have qK:=mX l.prog w base kY mF (λ F=>Dsk.Aiu F TN sL pQ mD) (bd2 · rfl)
 have qL:=mX l.prog w base lW mF (λ F=>Dsk.Aiw F TN qK) (bd2 · rfl)
 have pE:=mM l.prog w base lL mF (λ F=>Dsk.Aio F TN) (bd1 · rfl)
 have TD:Dsk.Ka K mg cD hV c7 b7 c6 b8:={ toTxt:=T,clD:=jC,nI:=jO,nO:=iW,nP:=fZ,nW:=gZ,m_LETTERS:=⟨_,iU⟩,m_LONGEST:=⟨_,fU⟩,m_LOAD:=⟨_,mg_of X G iX⟩,m_BR:=jM,mBR:=jH,m_NR:=dH,eNR:=lS,m_NP:=cJ,eNP:=jP,m_NN:=cI,eNN:=jD,m_Un:=bQ }
 have rC:=Dsk.Xz (P:=l.prog) (w:=w) (base:=base) (fI X G oP (bd1 · rfl)) TD (Dsk.AiM (fI X G oF (bd1 · rfl)) TD (Dsk.Ai2 (fI X G oQ (bd1 · rfl)) TD))
 have nB:=mM l.prog w base lX jC (λ F=>Dsk.Aij F TD TN sT rM mH) (bd1 · rfl)
 have pV:=mM l.prog w base kX jC (λ F=>Dsk.AiL F TD pE) (bd1 · rfl)
 have qI:=mX l.prog w base lV jC (λ F=>Dsk.Aiz F TD) (bd2 · rfl)
 have pG:=mX l.prog w base lB jC (λ F=>Dsk.Aib (cW:=cV) F TD qM) (bd1 · rfl)
 have qG:=mX l.prog w base lG jC (λ F=>Dsk.Aix F TD qH CP nB) (bd2 · rfl)
 have sJ:=mX l.prog w base lU jC (λ F=>Dsk.AjD F TD qI qL) (bd2 · rfl)
 have nJ:=mX l.prog w base lJ jC (λ F=>Dsk.AjA (c:=(⟨cD,cV,c7,b7,c6,c5,c9,b9⟩:Dsk.Ad)) F TD rC qG pV pG sJ) (bd2 · rfl)
 have AK:Dsk.Ad1 K (⟨cD,cV,c7,b7,c6,c5,c9,b9⟩:Dsk.Ad) b8 c8:=AiN (isk iO (iI.cl hnC jE) iK) (isk gY (gU.cl hnC jE) gK) (isk gN (gQ.cl hnC jE) gR) (isk iQ (iA.cl hnC jE) iG) (isk fO (fG.cl hnC jE) fP) (isk fX (gC.cl hnC jE) fY)
 have EM:Dsk.Err mg (⟨cD,cV,c7,b7,c6,c5,c9,b9⟩:Dsk.Ad) b8:=⟨dH,cI,cZ,dI,cJ,cS,bQ⟩
 have lY:=Dsk.AhX (fI X G mY (bd3 · rfl)) T (mg_of X G fR) nJ (Dsk.Ag4 (fI X G oO (bd1 · rfl)) T EM)
 have qR:=Dsk.Aig (P:=l.prog) (w:=w) (base:=base) (fI X G pI (bd1 · rfl))
 have oV:=Dsk.AjC (P:=l.prog) (w:=w) (base:=base) (fI X G nV (bd1 · rfl))
 exact Dsk.Ai9 eW T AK (mg_of X G qE) sD (Dsk.AiI j6 TD) mI nJ qR (Dsk.Ai4 (fI X G o4 (bd2 · rfl)) T qR) lY (Dsk.Ai3 (fI X G nE (bd2 · rfl)) AK lY oV (Dsk.Aiv (fI X G pJ (bd1 · rfl))) (Dsk.Ah2 (fI X G n8 (bd2 · rfl)))) (Dsk.AiO (fI X G o6 (bd2 · rfl)) AK lY oV) (Dsk.Ai5 (fI X G oS (bd0 · rfl)))
theorem walk {l:PySem.W.OpenLaw} {q:Program} {a1:List Str} {XP:(Str→Option Value)→Heap→Prop} {YP:World→Heap→Prop} {d:DefRec} {K:Params→FA} (hn:l.most = some 63) (a2:d.params.defaults = [])
  (hY:∀ (w:World) (h:Heap),YP w h→(K w.params).In h)
  (F:∀ (w:World) (mg:Str→Option Value) (fa:Addr) (h:Heap),(K w.params).In h→h.Ns mainGlobals mg→mg d.name = some (.ref fa) →
   ∃ fd:FuncData,(∀ (s:Shared) (u:Value),BindsTo s fd ⟨[u],[]⟩ [("_law_script", u)])∧∀ base:Heap,(K w.params).In base→base.Ns mainGlobals mg→Bi l.prog w (K w.params) mg base CX0 150 fa fd ["_law_script"] (Us (K w.params))) :
  PySem.W.WalkO q a1 XP YP l.row.toRowW d [] (λ f vs=>PySem.call f vs) :=
 L2.Ait (n:=63) (k:=150) (x:= "_law_script") (CX:=λ _=>CX0) (sp:=λ w=>Us (K w.params)) hn (by decide) a2 ⟨rfl,by decide,by decide⟩ hY F (λ _ _ a ns hl _ hS=>⟨a,ns,rfl,hS,hl,λ _=>rfl⟩) λ _ _ _ _ _ z=>z
end My
open PySem PySem.W PyProof.Rows L2
def PySem.W.Fast.tw773037633592621099:PySem.Program:=PySem.Challenge.pw_signalwise_k72_desk_refused
theorem PySem.W.Fast.te773037633592621099:PySem.Challenge.pw_signalwise_k72_desk_refused = PySem.W.Fast.tw773037633592621099:=rfl
namespace PySem.W.Fast
def tw5016956049185831423:=()
def tw11447280307932853396:=()
def tw16345468279989971159:=()
def tw3963120529581573087:=()
def tw14747565545243832355:=()
def tw15507431922625596184:=()
def tw9752281317030013875:=()
def tw10020328865945651993:=()
def tw16523576384660865278:=()
def tw9099338609922965947:=()
def tw10930693232451001762:=()
def tw15200843572061392528:=()
def tw2126188131048965076:=()
def tw11921278162089452359:=()
def tw1546329593005436550:=()
def tw9328153048403209866:=()
def tw93023312406337089:=()
def tw6903385913195998626:=()
def tw9734533648152173461:=()
def tw1009909682199813631:=()
def tw5711494090564070511:=()
def tw5316702645352324141:=()
def tw10106091872587635022:=()
def tw8950807467733348903:=()
def tw14448258435934236816:=()
def tw15421722534135611193:=()
def tw11968326578987654221:=()
def tw158784691861600656:=()
def tw14663595300723267493:=()
def tw7747316490801167159:=()
def tw14592325967125394622:=()
def tw5250310086171549234:=()
def tw13208280610958936232:=()
def tw4958500895217814250:=()
def tw2488615710732301616:=()
def tw8997882109755427924:=()
def tw8000700075638426826:=()
def tw1104681615561450878:=()
def tw18053952899560765540:=()
def tw9152833408740477210:=()
def tw15543457733040546554:=()
def tw4579594548558556848:=()
def tw3805384134674579625:=()
def tw1225620816970938262:=()
def tw3435619009991092360:=()
def tw15414942852311064869:=()
def tw2125385541006944359:=()
def tw15582038934474268248:=()
def tw4968624336177618593:=()
def tw8763944634963946754:=()
def tw6441553538389714846:=()
def tw15314746946546568489:=()
def tw6723779977617264393:=()
def tw9108706078942119405:=()
def tw16669744829485469486:=()
def tw1164409856530698370:=()
def tw8889527864802946511:=()
def tw1065641163446345484:=()
def tw963511849858278279:=()
def tw4891308371039906572:=()
def tw4032390311774679920:=()
def tw3581244750476174509:=()
def tw8811377593345030958:=()
def tw1345767514163630493:=()
def tw15200479177197691322:=()
def tw415107510568493094:=()
def tw16279317963745391926:=()
def tw13764015706870910312:=()
def tw13420711778696031867:=()
def tw9539525887490235118:=()
def tw9706360291342428287:=()
def tw1422452354523457947:=()
def tw4629158584508495217:=()
def tw17908841039970410853:=()
def tw6096940036435696325:=()
def tw16790836451377630545:=()
def tw8303371530597443398:=()
def tw1019687300160591215:=()
def tw6114782531925896266:=()
def tw17866961034594616327:=()
def tw1200911456466027912:=()
def tw11775613530078356346:=()
def tw2078696918304769044:=()
def tw12754011779978759021:=()
def tw9693950923079284586:=()
def tw14093239151996324208:=()
def tw15340145484475107071:=()
def tw11323120774808534409:=()
def tw17457059267435751546:=()
def tw13297233529847645545:=()
def tw14357002412577551462:=()
def tw18143961934169474724:=()
def tw5939593052523102244:=()
def tw8611732245208798919:=()
def tw14338636771773672853:=()
def tw6245121500218674050:=()
def tw9292836254867424800:=()
def tw17561991116802465379:=()
def tw4176944545450196717:=()
end PySem.W.Fast
set_option maxHeartbeats 0 in
theorem PySem.Challenge.cw_signalwise_k72_desk_refused_holds : PySem.Challenge.rw_signalwise_k72_desk_refused.Holds := by
 w_on; o_law; k_head; (case hw=>w_witness2)
 k_fill
 refine My.walk (l:=PySem.Challenge.rw_signalwise_k72_desk_refused) rfl rfl (λ w h Y=>kIn_of Y) ?F
 case F =>
  intro w mg fa h KX G hmg
  refine' My.all_mk KX G hmg ?a0 ?a1 ?a2 ?a3 ?a4 ?a5 ?a6 ?a7 ?a8 ?a9 ?nA ?pR ?pH ?mW ?o5 ?pL ?qC ?pX ?pM ?pP ?pD ?nN ?oZ ?mQ ?nG ?nF ?pZ ?n9 ?nX ?qD ?pF ?qB ?nH ?oB ?oY ?nQ ?oI ?nU ?o0 ?nK ?mZ ?nZ ?nL ?pK ?m6 ?nY ?qA ?oM ?pY ?nM ?oK ?m9 ?oP ?oF ?oQ ?pI ?o4 ?oO ?mY ?nV ?pJ ?n8 ?nE ?o6 ?oS ?pO ?pU ?mT ?mV ?aC ?kQ ?qF ?pg ?hZ ?h9 ?d7 ?d8 ?iD ?iH ?iV ?iZ ?iE ?eZ ?fA ?fD ?iM ?iF ?gP ?eY ?d9 ?e8 ?fB ?fE ?gG ?iR ?gL ?iX ?iJ ?gM ?gX ?hX ?fF ?gB ?fL ?oX ?jK ?lA ?l9 ?lP ?lM ?lD ?lH ?kS ?iL ?hW ?nD ?jJ ?kY ?lW ?lL ?kK ?gD ?gF ?qE ?jT ?lJ ?lG ?lX ?kX ?lB ?lU ?lV ?kJ ?jO ?iW ?fZ ?gZ ?gO ?oW ?oR ?oN ?mE ?rl ?pA ?fR ?iI ?iK ?iO ?gU ?gK ?gY ?gQ ?gR ?gN ?iA ?iG ?iQ ?fG ?fP ?fO ?gC ?fY ?fX ?hnC ?jE ?fN ?kH ?jV ?fV ?fK ?kC ?jS ?j8 ?kG ?i9 ?j9 ?iN ?kE ?jA
  (case a0|a1|a2|a3|a4|a5|a6|a7=>apply My.FI.mk <;> k_is)
  (case a8|a9=>apply My.FJ.mk <;> k_is)
  (case nA=>apply My.FI.mk <;> k_is)
  (case pR|pH=>apply My.FJ.mk <;> k_is)
  (case mW|o5=>apply My.FI.mk <;> k_is)
  (case pL|qC|pX|pM=>apply My.FJ.mk <;> k_is)
  (case pP|pD|nN|oZ|mQ|nG|nF|pZ|n9|nX|qD|pF|qB|nH|oB|oY|nQ|oI|nU|o0|nK|mZ|nZ|nL|pK|m6|nY|qA|oM|pY|nM|oK|m9|oP|oF|oQ|pI|o4|oO|mY|nV|pJ|n8|nE|o6|oS=>apply My.FI.mk <;> k_is)
  (case pO|pU|mT|mV|aC=>show _ = _;k_is)
  (case kQ=>apply My.MI.mk <;> k_is)
  (case qF=>apply My.NI.mk <;> k_is)
  (case pg=>apply My.CI.mk <;> k_is)
  (case hZ|h9=>show _ = _;k_is)
  (case d7|d8|iD|iH|iV|iZ|iE|eZ|fA|fD=>apply My.TI.mk;k_is;k_is;decide;repeat first|exact .nil|refine .cons ⟨_,rfl⟩ ?_)
  (case iM|iF|gP|eY|d9|e8|fB|fE|gG|iR|gL|iX=>show _ = _;k_is)
  (case iJ|gM|gX|hX|fF|gB|fL=>apply My.XI.mk;k_is;k_exc)
  (case oX=>show _ = _;k_is)
  (case jK=>apply My.MI.mk <;> k_is)
  (case lA|l9|lP|lM|lD|lH=>apply My.NI.mk <;> k_is)
  (case kS=>apply My.CI.mk <;> k_is)
  (case iL|hW|nD=>show _ = _;k_is)
  (case jJ=>apply My.MI.mk <;> k_is)
  (case kY|lW|lL=>apply My.NI.mk <;> k_is)
  (case kK=>apply My.CI.mk <;> k_is)
  (case gD|gF|qE=>show _ = _;k_is)
  (case jT=>apply My.MI.mk <;> k_is)
  (case lJ|lG|lX|kX|lB|lU|lV=>apply My.NI.mk <;> k_is)
  (case kJ=>apply My.CI.mk <;> k_is)
  (case jO|iW|fZ|gZ|gO|oW|oR|oN|mE|rl|pA|fR=>show _ = _;k_is)
  (case iI=>apply My.EI.mk <;> k_is)
  (case iK=>kts_exm)
  (case iO=>apply My.KI.mk <;> kit_is)
  (case gU=>apply My.EI.mk <;> k_is)
  (case gK=>kts_exm)
  (case gY=>apply My.KI.mk <;> kit_is)
  (case gQ=>apply My.EI.mk <;> k_is)
  (case gR=>kts_exm)
  (case gN=>apply My.KI.mk <;> kit_is)
  (case iA=>apply My.EI.mk <;> k_is)
  (case iG=>kts_exm)
  (case iQ=>apply My.KI.mk <;> kit_is)
  (case fG=>apply My.EI.mk <;> k_is)
  (case fP=>kts_exm)
  (case fO=>apply My.KI.mk <;> kit_is)
  (case gC=>apply My.EI.mk <;> k_is)
  (case fY=>kts_exm)
  (case fX=>apply My.KI.mk <;> kit_is)
  (case hnC|jE|fN|kH|jV|fV|fK|kC|jS|j8|kG|i9|j9|iN|kE|jA=>show _ = _;k_is)
#print axioms PySem.Challenge.cw_signalwise_k72_desk_refused_holds
