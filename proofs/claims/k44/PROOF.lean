import PyProof.Rows.All
import Wide.All
import OpenK.AllK
import Wide.FinOn
import Lean
import PyProof.EqAt
import PyProof.EqKinds
import PyProof.TupleCall
import PyProof.StrLawsRepr
import KE.KItemsList
import KE.KPairComp
import KE.LcSums
import KE.RegKTryMore
import PySem.Challenge.RW_signalwise_k44_net_form
open List (Nodup Pairwise all_cons all_eq_true any_cons any_eq_true append_assoc append_nil cons_append eq_of_mem_replicate filter filterMap_append filterMap_cons filterMap_cons_none filter_append filter_cons find?_cons foldl_append foldl_cons getD_eq_getElem?_getD getElem?_append_left getElem?_append_right getElem?_eq_getElem getElem?_eq_none getElem?_map getElem?_of_mem getElem?_range getElem?_set getElem?_set_ne getElem?_set_self getElem_inj getElem_mem length length_append length_cons length_drop length_eq_zero_iff length_filter_le length_map length_range length_replicate length_set length_singleton length_take lookup_cons map_append map_cons map_map map_nil mem_append mem_append_left mem_append_right mem_cons mem_cons_of_mem mem_cons_self mem_filter mem_filterMap mem_map mem_map_of_mem mem_nil_iff mem_of_getElem? mem_range mem_singleton nil_append nodup_append nodup_cons nodup_nil not_mem_nil of_mem_zip pairwise_cons range_succ replicate_succ' size_toArray sum_cons take_add_one take_length take_of_length_le take_succ)
open Nat (add_le_add_left add_mul le_of_eq le_of_lt le_of_succ_le_succ le_refl le_succ le_trans lt_irrefl lt_of_le_of_lt lt_of_lt_of_le lt_or_ge lt_succ_of_lt lt_succ_self lt_trans min_le_right mod_lt mul_le_mul_right ne_of_gt ne_of_lt not_le_of_gt not_lt sub_self zero_le)
open PySem.W (KdxIt Looks callWith_K cellsFrom_some codeIn emptyDict findIn fnOf handedIn hasDictIn instObj isFn kIn_of keepIn kia_one kitOne kitx_dict kitx_list kitx_tuple lookIn makesIn methodCall_KW methodObj mg_none_of mg_of mroIn nsIn plainGet plainGet_of plainOver takerIn typeIn)
theorem Z{α:Sort _}{a:α}:a = a:=rfl
set_option Elab.async false
set_option linter.all false
set_option maxRecDepth 100000
namespace L2
open PySem PySem.Spec PyProof.Rows
theorem mS {α:Type _} {a b:α} (h:a∈[b]):a = b:=mem_singleton.mp h
theorem zN0:0≤sizeLine:=by decide
theorem zN1:1≤sizeLine:=by decide
theorem zN2:2≤sizeLine:=by decide
theorem zN3:3≤sizeLine:=by decide
theorem zN4:4≤sizeLine:=by decide
abbrev Key:=Sum Int Str
def Km:Key→Value→Bool
 | .inl k,v=>Value.isInt k v
 | .inr x,v=>Value.isStrOf x v
def Adk (w:World):Key→Int
 | .inl k=>hashInt k
 | .inr x=>hashStr w x
theorem Cm:∀ {k:Key} {v:Value},Km k v = true→(∃ i t,k = Sum.inl i∧v = Value.int i t)∨(∃ x t,k = Sum.inr x∧v = Value.str x t)
 | .inl i,v,h=>by
  obtain ⟨t,e⟩:=Value.isInt_shape (k:=i) (v:=v) h
  exact .inl ⟨i,t,Z,e⟩
 | .inr x,v,h=>by
  obtain ⟨t,e⟩:=Value.isStrOf_shape (x:=x) (v:=v) h
  exact .inr ⟨x,t,Z,e⟩
theorem Xg (i:Int) (t:Tok):Km (.inl i) (.int i t) = true:=by simp [Km,Value.isInt]
theorem Xw (x:Str) (t:Tok):Km (.inr x) (.str x t) = true:=by simp [Km,Value.isStrOf]
theorem Ab2 (a b:Int):decide ((Sum.inl a:Key) = Sum.inl b) = (a == b):=by
 by_cases e:a = b
 ·subst e; simp
 ·have h:¬ (Sum.inl a:Key) = Sum.inl b:=λ q=>e (Sum.inl.inj q)
  rw [decide_eq_false h]
  exact (beq_eq_false_iff_ne.mpr e).symm
theorem AcW (a b:Str):decide ((Sum.inr a:Key) = Sum.inr b) = decide (a = b):=by
 by_cases e:a = b
 ·subst e; simp
 ·have h:¬ (Sum.inr a:Key) = Sum.inr b:=λ q=>e (Sum.inr.inj q)
  rw [decide_eq_false h,decide_eq_false e]
theorem Ace (a:Int) (b:Str):decide ((Sum.inl a:Key) = Sum.inr b) = false:=decide_eq_false (λ q=>nomatch q)
theorem AcN (a:Str) (b:Int):decide ((Sum.inr a:Key) = Sum.inl b) = false:=decide_eq_false (λ q=>nomatch q)
def mixKind (prog:Program) (w:World):PySem.KeyKind prog w Key where
 is:=Km
 hash:=Adk w
 inj:=λ v a b ha hb=>by
  rcases Cm ha with ⟨i,t,rfl,rfl⟩ | ⟨x,t,rfl,rfl⟩
  ·rcases Cm hb with ⟨j,u,rfl,e⟩ | ⟨y,u,rfl,e⟩
   ·injection e with e1 _; rw [e1]
   ·exact nomatch e
  ·rcases Cm hb with ⟨j,u,rfl,e⟩ | ⟨y,u,rfl,e⟩
   ·exact nomatch e
   ·injection e with e1 _; rw [e1]
 byValue:=λ k v h=>by
  rcases Cm h with ⟨i,t,rfl,rfl⟩ | ⟨x,t,rfl,rfl⟩ <;> rfl
 pyHash:=λ hv h=>by
  rcases Cm hv with ⟨i,t,rfl,rfl⟩ | ⟨x,t,rfl,rfl⟩
  ·exact wpAny_pyHash_int h
  ·exact wpAny_pyHash_str h
 eqBool:=λ hu hv h=>by
  rcases Cm hu with ⟨i,t,rfl,rfl⟩ | ⟨x,t,rfl,rfl⟩
  ·rcases Cm hv with ⟨j,u,rfl,rfl⟩ | ⟨y,u,rfl,rfl⟩
   ·rw [Ab2] at h; exact wpAny_eqBool_int h
   ·rw [Ace] at h; exact SeqAt.EqAt.int_str i t y u _ _ _ _ h
  ·rcases Cm hv with ⟨j,u,rfl,rfl⟩ | ⟨y,u,rfl,rfl⟩
   ·rw [AcN] at h; exact SeqAt.EqAt.str_int x t j u _ _ _ _ h
   ·rw [AcW] at h; exact wpAny_eqBool_str h
 «strs»:=λ k x t v h=>by
  rcases Cm h with ⟨i,u,rfl,e⟩ | ⟨y,u,rfl,e⟩
  ·exact nomatch e
  ·injection e with e1 _
   subst e1
   cases v <;> rfl
theorem Vm (prog:Program) (w:World) (k:Key) (v:Value):(mixKind prog w).is k v = Km k v:=rfl
theorem S5 (prog:Program) (w:World) (i:Int) (t:Tok):(mixKind prog w).is (.inl i) (.int i t) = true:=Xg i t
theorem Sx (prog:Program) (w:World) (x:Str) (t:Tok):(mixKind prog w).is (.inr x) (.str x t) = true:=Xw x t
end L2
namespace L2
open PySem PySem.Spec PyProof.Rows
inductive V where
 | non | bl (b:Bool) | int (i:Int) | str (x:Str) | byt (b:Array UInt8) | flt (b:UInt64) | ref (a:Addr) | ty (n:String)
 deriving DecidableEq
def Bd:V→Value→Prop
 | .non,u=>u = Value.none
 | .bl b,u=>u = Value.bool b
 | .int i,u=>∃ t,u = Value.int i t
 | .str x,u=>∃ t,u = Value.str x t
 | .byt b,u=>∃ t,u = Value.bytes b t
 | .flt b,u=>∃ t,u = Value.float b t
 | .ref a,u=>u = Value.ref a
 | .ty n,u=>u = Value.type n
abbrev Bb:List V→List Value→Prop:=Paired Bd
theorem Bb.length {xs:List V} {us:List Value} (r:Bb xs us):xs.length = us.length:=Paired.length r
theorem Bb.get:∀ {xs:List V} {us:List Value} {i:Nat} {x:V},Bb xs us→xs[i]? = some x→∃ u,us[i]? = some u∧Bd x u
 | _,_,_,_,.nil,e=>by simp at e
 | _,_,0,_,.cons r _,e=>by simp at e; subst e; exact ⟨_,rfl,r⟩
 | _,_,i + 1,x,.cons _ t,e=>by
  obtain ⟨u,h1,h2⟩:=Bb.get (i:=i) (x:=x) t (by simpa using e)
  exact ⟨u,by simpa using h1,h2⟩
theorem Bb.set {x:V} {u:Value} (r:Bd x u):∀ {xs:List V} {us:List Value} (i:Nat),Bb xs us→Bb (xs.set i x) (us.set i u)
 | _,_,_,.nil=>.nil
 | _,_,0,.cons _ t=>.cons r t
 | _,_,i + 1,.cons q t=>.cons q (Bb.set r i t)
theorem Bb.append:∀ {xs ys:List V} {us ws:List Value},Bb xs us→Bb ys ws→Bb (xs ++ ys) (us ++ ws)
 | _,_,_,_,.nil,s=>s
 | _,_,_,_,.cons r t,s=>.cons r (Bb.append t s)
theorem Bb.take:∀ {xs:List V} {us:List Value} (n:Nat),Bb xs us→Bb (xs.take n) (us.take n)
 | _,_,0,_=>.nil
 | _,_,_ + 1,.nil=>.nil
 | _,_,n + 1,.cons r t=>.cons r (Bb.take n t)
theorem Bb.drop:∀ {xs:List V} {us:List Value} (n:Nat),Bb xs us→Bb (xs.drop n) (us.drop n)
 | _,_,0,r=>r
 | _,_,_ + 1,.nil=>.nil
 | _,_,n + 1,.cons _ t=>Bb.drop n t
def Fo:Option V→Option Value→Prop
 | some v,some u=>Bd v u
 | none,none=>True
 | _,_=>False
def KV {κ:Type}:List (κ× V)→List (κ× Value)→Prop:=Paired λ (p:κ× V) (q:κ× Value)=>p.1 = q.1∧Bd p.2 q.2
def kV:Key→V
 | .inl i=>.int i
 | .inr x=>.str x
inductive HO where
 | lst (xs:List V)
 | tup (xs:List V)
 | dK (kvs:List (Key× V)) | dT (kvs:List (List Key× V))
 | set (S:Int→Bool) (n:Nat)
 | ins (C dx:Addr) (fs:List (Str× V))
 | own (x:Addr)
 | xd (fs:List (Str× V))
 | met (f x:Addr)
 | rng (lo hi:Int)
 | frz (o:Obj) (u:HO)
 | tbl (ps:Array Value)
 | ext (φ:Heap→Prop)
abbrev Hp:=Addr→Option HO
def upd (H:Hp) (a:Addr) (o:HO):Hp:=λ b=>if b = a then some o else H b
theorem Ab {H:Hp} {a:Addr} {o:HO}:upd H a o a = some o:=by unfold upd; rw [if_pos rfl]
theorem upd_ne {H:Hp} {a b:Addr} {o:HO} (h:b≠a):upd H a o b = H b:=by unfold upd; rw [if_neg h]
theorem Bl {H:Hp} {a b:Addr} {o u:HO} (h:H a = some o) (h':H b = some u) (d:o≠u):a≠b:=by
 intro e; subst e; rw [h] at h'; exact d (Option.some.inj h')
theorem A9 {H:Hp} {a b:Addr} {o:HO} (h:H a = some o) (h':H b = none):a≠b:=by
 intro e; subst e; rw [h] at h'; cases h'
section
variable (P:Program) (w:World)
def B5 (H:Hp) (h:Heap) (a:Addr):HO→Prop
 | .lst xs=>xs.length≤sizeLine∧∃ (its:List Value) (n:Nat),Bb xs its∧h.get? a = some { cls:=.type "list", data:=.seq its.toArray n }
 | .tup xs=>xs.length≤sizeLine∧∃ its:List Value,Bb xs its∧IsTup h a its.toArray
 | .dK kvs=>kvs.length≤sizeLine∧(a == sysModules) = false∧∃ vs,KV kvs vs∧h.DictOf (mixKind P w) a vs
 | .dT kvs=>kvs.length≤sizeLine∧(a == sysModules) = false∧∃ xs:List (List Key× Addr× Value),
   Paired (λ (p:List Key× V) (q:List Key× Addr× Value)=>p.1 = q.1∧H q.2.1 = some (.tup (p.1.map kV))∧Bd p.2 q.2.2) kvs xs ∧
   ∃ o es ep,h.get? a = some o∧o.ExactDict∧o.data = .dict es ep∧es.toList = xs.map (entryOfKey (tupleKind (mixKind P w)))∧(xs.map (·.1)).Nodup
 | .set S n=>h.SetOf (intKind P w) a S n
 | .ins C dx fs=>H dx = some (.own a)∧fs.length≤1000∧dx≠a∧h.get? a = some (instObj C dx) ∧
   ∃ mA,h.Ns1 dx mA∧(∀ f,Fo (fs.lookup f) (mA f))∧PySem.Within mA (fs.map (·.1))
 | .own _=>∃ o,h.get? a = some o
 | .xd fs=>∃ mA,h.Ns1 a mA∧∀ f,Fo (fs.lookup f) (mA f)
 | .rng lo hi=>∃ t u v,h.get? a = some { cls:=.type "range", data:=.fields #[.int lo t,.int hi u,.int 1 v] }
 | .frz o u=>h.get? a = some o∧B5 H h a u
 | .tbl ps=>h.get? a = some { cls:=.none,data:=.fields ps }
 | .met f x=>h.get? a = some (methodObj (.ref f) (.ref x))
 | .ext φ=>φ h∧(∃ o,h.get? a = some o)∧∀ h1 h2:Heap,φ h1→(∀ o,h1.get? a = some o→h2.get? a = some o)→φ h2
def HOk (H:Hp) (h:Heap):Prop:=∀ a o,H a = some o→B5 P w H h a o
end
section
variable {P:Program} {w:World} {H H':Hp} {h h':Heap} {a:Addr} {o:HO}
theorem B5.lt (x:B5 P w H h a o):a < h.objs.size:=by
 cases o with
 | lst xs=>obtain ⟨_,_,_,_,e⟩:=x; exact Heap.lt_size e
 | tup xs=>obtain ⟨_,_,_,p⟩:=x; exact p.lt
 | dK kvs=>obtain ⟨_,_,_,_,o,_,_,e,_⟩:=x; exact Heap.lt_size e
 | dT kvs=>obtain ⟨_,_,_,_,o,_,_,e,_⟩:=x; exact Heap.lt_size e
 | set S n=>obtain ⟨o,_,_,_,e,_⟩:=x; exact Heap.lt_size e
 | ins C dx fs=>obtain ⟨_,_,_,e,_⟩:=x; exact Heap.lt_size e
 | own y=>obtain ⟨_,e⟩:=x; exact Heap.lt_size e
 | xd fs=>obtain ⟨_,⟨_,_,_,e,_⟩,_⟩:=x; exact Heap.lt_size e
 | rng lo hi=>obtain ⟨_,_,_,e⟩:=x; exact Heap.lt_size e
 | frz ob u=>obtain ⟨e,_⟩:=x; exact Heap.lt_size e
 | tbl ps=>exact Heap.lt_size (show h.get? a = some _ from x)
 | met f y=>exact Heap.lt_size (show h.get? a = some _ from x)
 | ext φ=>obtain ⟨_,⟨_,e⟩,_⟩:=x; exact Heap.lt_size e
theorem Paired.mapP {α β:Type} {F G:α→β→Prop}:∀ {l₁:List α} {l₂:List β},Paired F l₁ l₂→(∀ a b,F a b→G a b)→Paired G l₁ l₂
 | _,_,.nil,_=>.nil
 | _,_,.cons r t,f=>.cons (f _ _ r) (Paired.mapP t f)
theorem B5.stay (x:B5 P w H h a o) (k:∀ b u,(b = a∨H b = some (.own a))→h.get? b = some u→h'.get? b = some u)
  (ho:∀ b,H b = some (.own a)→H' b = some (.own a)) (ht:∀ b xs,H b = some (.tup xs)→H' b = some (.tup xs)):B5 P w H' h' a o:=by
 induction o with
 | lst xs=>obtain ⟨z,its,n,r,e⟩:=x; exact ⟨z,its,n,r,k _ _ (.inl rfl) e⟩
 | tup xs=>obtain ⟨z,its,r,ob,e,c⟩:=x; exact ⟨z,its,r,ob,k _ _ (.inl rfl) e,c⟩
 | dK kvs=>obtain ⟨z,y,vs,r,ob,es,ep,e,c⟩:=x; exact ⟨z,y,vs,r,ob,es,ep,k _ _ (.inl rfl) e,c⟩
 | dT kvs =>
  obtain ⟨z,y,xs,r,ob,es,ep,e,c⟩:=x
  exact ⟨z,y,xs,Paired.mapP r λ p q z=>⟨z.1,ht _ _ z.2.1,z.2.2⟩,ob,es,ep,k _ _ (.inl rfl) e,c⟩
 | set S n=>obtain ⟨ob,es,ep,t,e,c⟩:=x; exact ⟨ob,es,ep,t,k _ _ (.inl rfl) e,c⟩
 | ins C dx fs =>
  obtain ⟨d,z,ne,e,mA,⟨od,es,ep,e2,c⟩,r⟩:=x
  exact ⟨ho _ d,z,ne,k _ _ (.inl rfl) e,mA,⟨od,es,ep,k _ _ (.inr d) e2,c⟩,r⟩
 | own y=>obtain ⟨ob,e⟩:=x; exact ⟨ob,k _ _ (.inl rfl) e⟩
 | xd fs=>obtain ⟨mA,⟨od,es,ep,e,c⟩,r⟩:=x; exact ⟨mA,⟨od,es,ep,k _ _ (.inl rfl) e,c⟩,r⟩
 | rng lo hi=>obtain ⟨t,u,v,e⟩:=x; exact ⟨t,u,v,k _ _ (.inl rfl) e⟩
 | frz ob u ih=>obtain ⟨e,q⟩:=x; exact ⟨k _ _ (.inl rfl) e,ih q⟩
 | tbl ps =>
  have e:h.get? a = some { cls:=.none,data:=.fields ps }:=x
  show h'.get? a = some { cls:=.none,data:=.fields ps }
  exact k a _ (.inl rfl) e
 | met f y =>
  have e:h.get? a = some (methodObj (.ref f) (.ref y)):=x
  show h'.get? a = some (methodObj (.ref f) (.ref y))
  exact k a _ (.inl rfl) e
 | ext φ=>obtain ⟨p,⟨o,e⟩,st⟩:=x; exact ⟨st _ _ p λ o q=>k _ _ (.inl rfl) q,⟨o,k _ _ (.inl rfl) e⟩,st⟩
theorem HOk.lt (x:HOk P w H h) (e:H a = some o):a < h.objs.size:=(x a o e).lt
theorem HOk.fresh (x:HOk P w H h) (e:h.objs.size≤a):H a = none:=by
 cases q:H a with
 | none=>rfl
 | some u=>exact absurd (lt_of_lt_of_le (x.lt q) e) (lt_irrefl _)
theorem HOk.kept (x:HOk P w H h) (k:∀ b u,h.get? b = some u→h'.get? b = some u):HOk P w H h':=λ a o e =>
 (x a o e).stay (λ b u _ q=>k b u q) (λ _ q=>q) λ _ _ q=>q
theorem HOk.laid (x:HOk P w H h) (k:∀ b u,h.get? b = some u→h'.get? b = some u) (hp:h.objs.size≤a) (new:B5 P w (upd H a o) h' a o):HOk P w (upd H a o) h':=λ b u e=>by
 have hn:=x.fresh hp
 by_cases hb:b = a
 ·subst hb; rw [Ab] at e; cases e; exact new
 ·rw [upd_ne hb] at e
  exact (x b u e).stay (λ c v _ q=>k c v q) (λ c q=>by rw [upd_ne (A9 q hn)]; exact q) λ c xs q=>by rw [upd_ne (A9 q hn)]; exact q
end
def Rd (H:Hp) (a:Addr) (u:HO):Prop:=H a = some u∨∃ o,H a = some (.frz o u)
theorem Rd.ok {P:Program} {w:World} {H:Hp} {h:Heap} {a:Addr} {u:HO} (r:Rd H a u) (x:HOk P w H h):B5 P w H h a u:=by
 rcases r with r | ⟨o,r⟩
 ·exact x a u r
 ·obtain ⟨_,q⟩:=x a _ r
  exact q
def Mut:Option HO→Prop
 | some (.lst _)=>True
 | some (.dK _)=>True
 | some (.dT _)=>True
 | some (.set _ _)=>True
 | some (.ins _ _ _)=>True
 | some (.ext _)=>True
 | _=>False
section
variable {P:Program} {w:World} {H:Hp} {h h':Heap} {x e:Addr} {o':HO}
theorem HOk.write (ok:HOk P w H h) (mu:Mut (H x)) (he:e = x∨H e = some (.own x)) (k:∀ b u,b≠e→h.get? b = some u→h'.get? b = some u) (heo:∃ u,h'.get? e = some u)
  (new:B5 P w (upd H x o') h' x o'):HOk P w (upd H x o') h':=λ b u q=>by
 have nown:∀ c y,H c = some (.own y)→c≠x:=λ c y r z=>by subst z; rw [r] at mu; exact mu
 have ntup:∀ c xs,H c = some (.tup xs)→c≠x:=λ c xs r z=>by subst z; rw [r] at mu; exact mu
 by_cases hb:b = x
 ·subst hb; rw [Ab] at q; cases q; exact new
 ·rw [upd_ne hb] at q
  by_cases hbe:b = e
  ·have q':H b = some (.own x):=by
    rcases he with z | z
    ·exact absurd (hbe.trans z) hb
    ·rw [hbe]; exact z
   rw [q] at q'; cases q'
   obtain ⟨v,hv⟩:=heo
   exact ⟨v,by rw [hbe]; exact hv⟩
  ·refine (ok b u q).stay (λ c v hc r=>k c v ?_ r) (λ c r=>by rw [upd_ne (nown c b r)]; exact r) λ c xs r=>by rw [upd_ne (ntup c xs r)]; exact r
   rcases hc with rfl | hc
   ·exact hbe
   ·rintro rfl
    rcases he with z | z
    ·exact nown c b hc z
    ·rw [hc] at z; cases z; exact hb rfl
end
structure Un (fs ex:List Addr) (H H':Hp) (h h':Heap):Prop where
 keep:∀ b o,h.get? b = some o→H b = none→b∉fs→b∉ex→h'.get? b = some o
 slot:∀ b o,h.get? b = some o→H b = none→b∈fs→b∉ex→∃ sl,h'.get? b = some { o with slots:=sl }
 free:∀ b o,h.get? b = some o→H b = none→b∉ex→H' b = none
 there:∀ b o,h.get? b = some o→b∉ex→∃ o',h'.get? b = some o'
 tups:∀ b xs,H b = some (.tup xs)→H' b = some (.tup xs)
 frzs:∀ b o u,H b = some (.frz o u)→H' b = some (.frz o u)
 tbls:∀ b ps,H b = some (.tbl ps)→∃ more,H' b = some (.tbl (ps ++ more))
section
variable {fs fs' ex ex':List Addr} {H H1 H2:Hp} {h h1 h2 h':Heap} {a x e:Addr} {o:HO}
theorem Un.any (u:Un fs ex H H1 h h1) {b:Addr} {ob:Obj} (q:h.get? b = some ob) (n:H b = none) (hx:b∉ex):∃ sl,h1.get? b = some { ob with slots:=sl }:=by
 by_cases hb:b∈fs
 ·exact u.slot b ob q n hb hx
 ·exact ⟨ob.slots,u.keep b ob q n hb hx⟩
theorem Un.kept (k:∀ b u,h.get? b = some u→h'.get? b = some u):Un fs ex H H h h' :=
 ⟨λ b ob q _ _ _=>k b ob q,λ b ob q _ _ _=>⟨ob.slots,k b ob q⟩,λ _ _ _ n _=>n,λ b ob q _=>⟨ob,k b ob q⟩,λ _ _ q=>q,λ _ _ _ q=>q,λ _ ps q=>⟨#[],by rw [q]; simp⟩⟩
theorem Un.refl:Un fs ex H H h h:=Un.kept λ _ _ q=>q
theorem Un.laid (k:∀ b u,h.get? b = some u→h'.get? b = some u) (hp:h.objs.size≤a) (hn:H a = none):Un fs ex H (upd H a o) h h' where
 keep:=λ b u q _ _ _=>k b u q
 slot:=λ b u q _ _ _=>⟨u.slots,k b u q⟩
 free:=λ b u q n _=>by rw [upd_ne (ne_of_lt (lt_of_lt_of_le (Heap.lt_size q) hp))]; exact n
 there:=λ b u q _=>⟨u,k b u q⟩
 tups:=λ b xs q=>by rw [upd_ne (A9 q hn)]; exact q
 frzs:=λ b u xs q=>by rw [upd_ne (A9 q hn)]; exact q
 tbls:=λ b ps q=>⟨#[],by rw [upd_ne (A9 q hn),q]; simp⟩
theorem Un.write (mu:Mut (H x)) (he:e = x∨H e = some (.own x)) (k:∀ b u,b≠e→h.get? b = some u→h'.get? b = some u) (heo:∃ u,h'.get? e = some u):Un fs ex H (upd H x o) h h':=by
 have hx:∀ b,H b = none→b≠x:=λ b n z=>by subst z; rw [n] at mu; exact mu
 have hb:∀ b,H b = none→b≠e:=λ b n z=>by
  subst z
  rcases he with r | r
  ·exact hx b n r
  ·rw [n] at r; cases r
 have hm:∀ b u,H b = some u→¬ Mut (some u)→b≠x:=λ b u q nm z=>by subst z; rw [q] at mu; exact nm mu
 refine ⟨λ b u q n _ _=>k b u (hb b n) q,λ b u q n _ _=>⟨u.slots,k b u (hb b n) q⟩,λ b u q n _=>by rw [upd_ne (hx b n)]; exact n,λ b u q _=>?_,
  λ b xs q=>by rw [upd_ne (hm b _ q λ z=>z)]; exact q,λ b u xs q=>by rw [upd_ne (hm b _ q λ z=>z)]; exact q,λ b ps q=>⟨#[],by rw [upd_ne (hm b _ q λ z=>z),q]; simp⟩⟩
 by_cases hbe:b = e
 ·subst hbe; exact heo
 ·exact ⟨u,k b u hbe q⟩
end
def trk (h:Heap) (H:Hp):List Addr:=(List.range h.objs.size).filter λ a=>(H a).isSome
def Kv (h:Heap) (H:Hp):Heap:=PySem.W.hideAll h (trk h H)
theorem Wm (h:Heap) (H:Hp):(Kv h H).objs.size = h.objs.size:=PySem.W.hideAll_size _ _
theorem Z7 {h:Heap} {H:Hp} {b:Addr} {o:Obj} (e:h.get? b = some o) (n:H b = none):(Kv h H).get? b = some o :=
 PySem.W.hideAll_get _ e λ hm=>by
  have q:(H b).isSome = true:=(mem_filter.mp hm).2
  rw [n] at q; simp at q
theorem Abi {h:Heap} {H:Hp} {b:Addr} {o:Obj} (e:(Kv h H).get? b = some o):h.get? b = some o∧H b = none:=by
 have e':h.get? b = some o:=PySem.W.of_hideAll (trk h H) e
 refine ⟨e',?_⟩
 cases q:H b with
 | none=>rfl
 | some x =>
  have hm:b∈trk h H:=mem_filter.mpr ⟨mem_range.mpr (Heap.lt_size e'),by simp [q]⟩
  have z:(Kv h H).get? b = none:=PySem.W.hideAll_none (trk h H) hm
  rw [z] at e; cases e
def Abj (g h:Heap) (L:Addr):List (Addr× Obj):=(List.range h.objs.size).filterMap λ a=>if a = L∨(g.get? a).isSome = true then none else (h.get? a).map λ o=>(a,o)
def rest (g h:Heap) (L d:Addr):List (Addr× Obj):=(Abj g h L).filter λ p=>decide (p.1≠d)
end L2
namespace L2
open PySem PySem.Spec PyProof.Rows
structure Mod (K:PySem.W.Frag) (mg:Str→Option Value) (base:Heap):Prop where
 kin:K.In base
 glob:base.Ns mainGlobals mg
 blt:∃ mb,base.Ns builtinsNs mb∧∀ x:Str,x≠ "__name__" → mb x = bootBuiltins x
 nolimit:base.NoLimit
structure Cx where
 prog:Program
 w:World
 K:PySem.W.Frag
 mg:Str→Option Value
 base:Heap
 A:Around
 N:List Str
 s₀:Shared
 H₀:Hp
 env:Env
 outer:List Env
 stack:List Env
 ex:List Addr
 fn:Str→Bool
 calm:Bool
 pn:List (Addr× Obj)
 xe:Value→Shared→Prop
def frs (l:List Env):List Addr:=l.filterMap (·.frame)
abbrev Cx.fs (X:Cx):List Addr:=frs X.outer
def Vis (sc:Scope) (x:Str):Prop:=sc.names.lookup x = some .local∨sc.names.lookup x = some .cell∨sc.names.lookup x = some .free
def Loc (sc:Scope) (x:Str):Prop:=sc.names.lookup x = some .local∨sc.names.lookup x = some .cell
def Acd (env:Env) (h:Heap) (m:Str→Option Value) (x:Str) (u:Value):Prop :=
 (env.kindOf x = some .local∧m x = some u)∨((env.kindOf x = some .cell∨env.kindOf x = some .free)∧∃ c,env.cells.lookup x = some c∧h.IsCell c (some u))
structure Cx.Ok (X:Cx):Prop where
 mod:Mod X.K X.mg X.base
 kind:X.env.scope.kind = .function
 glob:X.env.globals = mainGlobals
 blt:X.env.builtins = builtinsNs
 above:X.s₀.heap.objs.size≤X.env.locals
 inj:∀ x y c,X.env.cells.lookup x = some c→X.env.cells.lookup y = some c→x = y
 has:∀ x,(X.env.kindOf x = some .cell∨X.env.kindOf x = some .free)→∃ c,X.env.cells.lookup x = some c
 cab:∀ x c,X.fn x = true→X.env.cells.lookup x = some c→X.s₀.heap.objs.size≤c
 hd:X.calm = true→X.A.handled = none
 frames:X.A.frames = some X.stack
 stk:X.stack = X.outer∨(X.stack = X.env :: X.outer∧X.env.frame = some X.env.locals)
 exf:∀ b∈X.ex,b≠X.env.locals∧∀ x c,X.env.cells.lookup x = some c→c≠b
 bs:∀ b o,X.base.get? b = some o→X.s₀.heap.get? b = some o∧X.H₀ b = none
 bsz:X.base.objs.size≤X.s₀.heap.objs.size
 noex:∀ b o,X.base.get? b = some o→b∉X.ex
 exfs:∀ b∈X.ex,b∉X.fs
 funs:X.s₀.heap.FunFrames X.base X.outer
 frf:∀ b∈X.fs,X.H₀ b = none
structure Inv (X:Cx) (pins:List (Addr× Obj)) (σ:List (Option V)) (H:Hp) (s:Shared):Prop where
 ok:X.Ok
 os:s.os = X.s₀.os
 bare:AllBare s.gens
 base:Un X.fs X.ex X.H₀ H X.s₀.heap s.heap
 loc:∃ m,s.heap.Ns X.env.locals m∧∀ (i:Nat) (x:Str) (v:V),X.N[i]? = some x→σ[i]? = some (some v)→Vis X.env.scope x→∃ u,Bd v u∧Acd X.env s.heap m x u
 cell:∀ x c,X.env.cells.lookup x = some c→∃ v,s.heap.IsCell c v
 free:H X.env.locals = none
 freeC:∀ x c,X.env.cells.lookup x = some c→H c = none
 pin:∀ p∈X.pn ++ pins,s.heap.get? p.1 = some p.2∧H p.1 = none∧p.1≠X.env.locals∧p.1∉X.fs∧∀ v,p.2.data≠.cell v
 hok:HOk X.prog X.w H s.heap
 len:σ.length = X.N.length
section
variable {X:Cx} {pins:List (Addr× Obj)} {σ:List (Option V)} {H H':Hp} {s:Shared} {h':Heap}
theorem Cx.Ok.nofr (ok:X.Ok) {b:Addr} {o:Obj} (e:X.base.get? b = some o):b∉X.fs:=λ hb=>by
 have:=(ok.funs.mem hb).1
 rw [e] at this; cases this
theorem Inv.bs (I:Inv X pins σ H s):∀ b o,X.base.get? b = some o→s.heap.get? b = some o∧H b = none:=λ b o e =>
 ⟨I.base.keep b o (I.ok.bs b o e).1 (I.ok.bs b o e).2 (I.ok.nofr e) (I.ok.noex b o e),I.base.free b o (I.ok.bs b o e).1 (I.ok.bs b o e).2 (I.ok.noex b o e)⟩
theorem Inv.bk (I:Inv X pins σ H s):∀ b o,X.base.get? b = some o→s.heap.get? b = some o:=λ b o e=>(I.bs b o e).1
theorem Inv.mod (I:Inv X pins σ H s):Mod X.K X.mg X.base:=I.ok.mod
theorem Inv.kIn (I:Inv X pins σ H s):X.K.In s.heap:=I.ok.mod.kin.keeps I.bk
theorem Inv.lt (I:Inv X pins σ H s):X.env.locals < s.heap.objs.size:=let ⟨_,hn,_⟩:=I.loc; hn.lt
theorem Inv.sz (I:Inv X pins σ H s):X.s₀.heap.objs.size≤s.heap.objs.size:=le_trans I.ok.above (le_of_lt I.lt)
theorem Inv.nofs (I:Inv X pins σ H s) {a:Addr} (h:s.heap.objs.size≤a):a∉X.fs:=λ hb=>by
 obtain ⟨_,o,ho,_⟩:=I.ok.funs.mem hb
 exact absurd (lt_of_lt_of_le (Heap.lt_size ho) (le_trans I.sz h)) (lt_irrefl _)
theorem Inv.cne (I:Inv X pins σ H s):∀ x c,X.env.cells.lookup x = some c→c≠X.env.locals:=λ x c e z=>by
 obtain ⟨v,o,ho,hd⟩:=I.cell x c e
 obtain ⟨m,⟨o',es,ep,ho',hd',_⟩,_⟩:=I.loc
 rw [z,ho'] at ho; cases ho; rw [hd'] at hd; cases hd
theorem Inv.funs (I:Inv X pins σ H s):s.heap.FunFrames X.base X.outer:=by
 have all:∀ (l:List Env),(∀ b∈frs l,b∈X.fs)→X.s₀.heap.FunFrames X.base l→s.heap.FunFrames X.base l:=by
  intro l
  induction l with
  | nil=>intro _ _; trivial
  | cons env r ih =>
   intro hs hl
   obtain ⟨hk,⟨L,o,hf,hn,ho,hd⟩,hr⟩:=hl
   have hL:L∈X.fs:=hs L (by unfold frs; rw [filterMap_cons,hf]; exact mem_cons_self)
   obtain ⟨sl,e⟩:=I.base.slot L o ho (I.ok.frf L hL) hL λ z=>I.ok.exfs L z hL
   exact ⟨hk,⟨L,_,hf,hn,e,hd⟩,ih (λ b hb=>hs b (by unfold frs; rw [filterMap_cons,hf]; exact mem_cons_of_mem _ hb)) hr⟩
 exact all X.outer (λ _ hb=>hb) I.ok.funs
theorem Inv.stack (I:Inv X pins σ H s):s.heap.FunFrames X.base X.stack:=by
 rcases I.ok.stk with e | ⟨e,hf⟩
 ·rw [e]; exact I.funs
 ·rw [e]
  obtain ⟨m,hn,_⟩:=I.loc
  refine .cons (by rw [I.ok.kind]; decide) hf hn ?_ I.funs
  exact Heap.get?_none_of_le (le_trans I.ok.bsz I.ok.above)
theorem Inv.stkSub (I:Inv X pins σ H s):∀ b∈frs X.stack,b∈X.env.locals :: X.fs:=λ b hb=>by
 rcases I.ok.stk with e | ⟨e,hf⟩
 ·rw [e] at hb; exact mem_cons_of_mem _ hb
 ·rw [e] at hb
  unfold frs at hb
  rw [filterMap_cons,hf] at hb
  exact hb
theorem Inv.stkFree (I:Inv X pins σ H s):∀ b∈frs X.stack,H b = none:=λ b hb=>by
 rcases mem_cons.mp (I.stkSub b hb) with e | hb
 ·rw [e]; exact I.free
 ·obtain ⟨_,o,ho,_⟩:=I.ok.funs.mem hb
  exact I.base.free b o ho (I.ok.frf b hb) λ z=>I.ok.exfs b z hb
theorem Inv.step {g':Array GenState} {t':Nat} {d':Drawn} {ch:List Addr} (I:Inv X pins σ H s)
  (hch:∀ b∈ch,(b∈X.ex∨X.s₀.heap.objs.size≤b)∧b≠X.env.locals∧(∀ x c,X.env.cells.lookup x = some c→c≠b)∧∀ p∈X.pn ++ pins,p.1≠b)
  (keep:∀ b o,b≠X.env.locals→b∉X.fs→b∉ch→s.heap.get? b = some o→H b = none→h'.get? b = some o)
  (slot:∀ b o,b≠X.env.locals→b∈X.fs→b∉ch→s.heap.get? b = some o→H b = none→∃ sl,h'.get? b = some { o with slots:=sl }) (free:∀ b o,b∉ch→s.heap.get? b = some o→H b = none→H' b = none)
  (there:∀ b o,b∉ch→s.heap.get? b = some o→∃ o',h'.get? b = some o')
  (tups:∀ b xs,H b = some (.tup xs)→H' b = some (.tup xs)) (frzs:∀ b o u,H b = some (.frz o u)→H' b = some (.frz o u)) (tbls:∀ b ps,H b = some (.tbl ps)→∃ more,H' b = some (.tbl (ps ++ more)))
  (ns:∀ m,s.heap.Ns X.env.locals m→h'.Ns X.env.locals m) (hok:HOk X.prog X.w H' h') (hg:AllBare g') :
  Inv X pins σ H' { s with heap:=h',gens:=g',drawn:=d',toks:=t' }:=by
 have neL:∀ b o,X.s₀.heap.get? b = some o→b≠X.env.locals:=λ b o e=>ne_of_lt (lt_of_lt_of_le (Heap.lt_size e) I.ok.above)
 have neC:∀ b o,X.s₀.heap.get? b = some o→b∉X.ex→b∉ch:=λ b o e hx hb=>by
  rcases (hch b hb).1 with z | z
  ·exact hx z
  ·exact absurd (lt_of_lt_of_le (Heap.lt_size e) z) (lt_irrefl _)
 have cellK:∀ x c,X.env.cells.lookup x = some c→∀ v,s.heap.IsCell c v→h'.IsCell c v:=λ x c e v ⟨o,ho,hd⟩=>by
  have nch:c∉ch:=λ z=>(hch c z).2.2.1 x c e rfl
  by_cases hc:c∈X.fs
  ·obtain ⟨sl,q⟩:=slot c o (I.cne x c e) hc nch ho (I.freeC x c e)
   exact ⟨_,q,hd⟩
  ·exact ⟨o,keep c o (I.cne x c e) hc nch ho (I.freeC x c e),hd⟩
 refine ⟨I.ok,I.os,hg,⟨λ b o e n hb hx=>?_,λ b o e n hb hx=>?_,λ b o e n hx=>?_,λ b o e hx=>?_,λ b xs e=>tups b xs (I.base.tups b xs e),λ b o xs e=>frzs b o xs (I.base.frzs b o xs e),λ b ps e=>?_⟩,?_,λ x c e=>?_,?_,λ x c e=>?_,λ p hp=>?_,hok,I.len⟩
 ·exact keep b o (neL b o e) hb (neC b o e hx) (I.base.keep b o e n hb hx) (I.base.free b o e n hx)
 ·obtain ⟨sl,e1⟩:=I.base.slot b o e n hb hx
  obtain ⟨sl',e2⟩:=slot b _ (neL b o e) hb (neC b o e hx) e1 (I.base.free b o e n hx)
  exact ⟨sl',e2⟩
 ·obtain ⟨o',e1⟩:=I.base.there b o e hx
  exact free b o' (neC b o e hx) e1 (I.base.free b o e n hx)
 ·obtain ⟨o',e1⟩:=I.base.there b o e hx
  exact there b o' (neC b o e hx) e1
 ·obtain ⟨m1,e1⟩:=I.base.tbls b ps e
  obtain ⟨m2,e2⟩:=tbls b _ e1
  exact ⟨m1 ++ m2,by rw [e2,Array.append_assoc]⟩
 ·obtain ⟨m,hn,hl⟩:=I.loc
  refine ⟨m,ns m hn,λ i x v e1 e2 e3=>?_⟩
  obtain ⟨u,r,l⟩:=hl i x v e1 e2 e3
  refine ⟨u,r,?_⟩
  rcases l with l | ⟨k,c,e,z⟩
  ·exact .inl l
  ·exact .inr ⟨k,c,e,cellK x c e _ z⟩
 ·obtain ⟨v,z⟩:=I.cell x c e
  exact ⟨v,cellK x c e v z⟩
 ·obtain ⟨m,⟨o,_,_,ho,_⟩,_⟩:=I.loc
  exact free _ o (λ z=>(hch _ z).2.1 rfl) ho I.free
 ·obtain ⟨v,o,ho,hd⟩:=I.cell x c e
  exact free c o (λ z=>(hch c z).2.2.1 x c e rfl) ho (I.freeC x c e)
 ·obtain ⟨e,n,ne,nf,d⟩:=I.pin p hp
  have nch:p.1∉ch:=λ z=>(hch p.1 z).2.2.2 p hp rfl
  exact ⟨keep p.1 p.2 ne nf nch e n,free p.1 p.2 nch e n,ne,nf,d⟩
theorem Inv.un {t':Nat} (I:Inv X pins σ H s) (u:Un X.fs [] H H' s.heap h') (hok:HOk X.prog X.w H' h'):Inv X pins σ H' { s with heap:=h',toks:=t' }:=by
 obtain ⟨m,⟨o,es,ep,ho,r⟩,_⟩:=id I.loc
 obtain ⟨sl,hL⟩:=u.any ho I.free (by simp)
 exact I.step (g':=s.gens) (d':=s.drawn) (ch:=[]) (λ _ z=>nomatch z) (λ b o _ hb _ e n=>u.keep b o e n hb (by simp)) (λ b o _ hb _ e n=>u.slot b o e n hb (by simp)) (λ b o _ e n=>u.free b o e n (by simp)) (λ b o _ e=>u.there b o e (by simp)) u.tups u.frzs u.tbls (λ m' hm=>by
  obtain ⟨o',es',ep',ho',r'⟩:=hm
  rw [ho] at ho'; cases ho'
  exact ⟨_,es',ep',hL,r'⟩) hok I.bare
theorem Inv.call {g':Array GenState} {t':Nat} {d':Drawn} {ch:List Addr} (I:Inv X pins σ H s) (u:Un (frs X.stack) ch H H' s.heap h') (hok:HOk X.prog X.w H' h') (hg:AllBare g')
  (hch:∀ b∈ch,(b∈X.ex∨X.s₀.heap.objs.size≤b)∧b≠X.env.locals∧(∀ x c,X.env.cells.lookup x = some c→c≠b)∧∀ p∈X.pn ++ pins,p.1≠b) :
  Inv X pins σ H' { s with heap:=h',gens:=g',drawn:=d',toks:=t' }:=by
 obtain ⟨m,⟨o,es,ep,ho,r⟩,_⟩:=id I.loc
 obtain ⟨sl,hL⟩:=u.any ho I.free λ z=>(hch _ z).2.1 rfl
 exact I.step (ch:=ch) hch (λ b o hL hb hc e n=>u.keep b o e n (λ z=>(mem_cons.mp (I.stkSub b z)).elim hL hb) hc) (λ b o _ _ hc e n=>u.any e n hc) (λ b o hc e n=>u.free b o e n hc) (λ b o hc e=>u.there b o e hc) u.tups u.frzs u.tbls (λ m' hm=>by
  obtain ⟨o',es',ep',ho',r'⟩:=hm
  rw [ho] at ho'; cases ho'
  exact ⟨_,es',ep',hL,r'⟩) hok hg
theorem Inv.turned {t':Nat} {it:Addr} (I:Inv X pins σ H s) (k:∀ b o,b≠it→s.heap.get? b = some o→h'.get? b = some o) (hn:H it = none) (hL:it≠X.env.locals)
  (h1:it∈X.ex∨X.s₀.heap.objs.size≤it) (h2:∀ x c,X.env.cells.lookup x = some c→c≠it) (h3:∀ p∈X.pn ++ pins,p.1≠it):Inv X pins σ H { s with heap:=h',toks:=t' }:=by
 have nit:∀ b u,H b = some u→b≠it:=λ b u e z=>by rw [z,hn] at e; cases e
 refine I.step (g':=s.gens) (d':=s.drawn) (ch:=[it]) (λ b hb=>?_) (λ b o _ _ hc e _=>k b o (λ z=>hc (by simp [z])) e) (λ b o _ _ hc e _=>⟨o.slots,k b o (λ z=>hc (by simp [z])) e⟩) (λ _ _ _ _ n=>n)
  (λ b o hc e=>⟨o,k b o (λ z=>hc (by simp [z])) e⟩) (λ _ _ e=>e) (λ _ _ _ e=>e) (λ b ps e=>⟨#[],by rw [e]; simp⟩) (λ m hm=>?_) (λ b u e=>?_) I.bare
 ·have e:b = it:=by simpa using hb
  subst e
  exact ⟨h1,hL,h2,h3⟩
 ·obtain ⟨o,es,ep,ho,r⟩:=hm
  exact ⟨o,es,ep,k _ o (Ne.symm hL) ho,r⟩
 ·refine (I.hok b u e).stay (λ c v hc q=>k c v ?_ q) (λ _ q=>q) λ _ _ q=>q
  rcases hc with z | z
  ·rw [z]; exact nit b u e
  ·exact nit c _ z
theorem Inv.tok (I:Inv X pins σ H s) (t:Nat):Inv X pins σ H { s with toks:=t }:=I.un (h':=s.heap) (t':=t) Un.refl I.hok
theorem Inv.kept {t':Nat} (I:Inv X pins σ H s) (k:∀ b u,s.heap.get? b = some u→h'.get? b = some u):Inv X pins σ H { s with heap:=h',toks:=t' }:=I.un (Un.kept k) (I.hok.kept k)
theorem Inv.laid {a:Addr} {o:HO} {t':Nat} (I:Inv X pins σ H s) (k:∀ b u,s.heap.get? b = some u→h'.get? b = some u) (hp:s.heap.objs.size≤a) (new:B5 X.prog X.w (upd H a o) h' a o) :
  Inv X pins σ (upd H a o) { s with heap:=h',toks:=t' }:=I.un (Un.laid k hp (I.hok.fresh hp)) (I.hok.laid k hp new)
theorem Inv.write {x e:Addr} {o:HO} {t':Nat} (I:Inv X pins σ H s) (mu:Mut (H x)) (he:e = x∨H e = some (.own x)) (k:∀ b u,b≠e→s.heap.get? b = some u→h'.get? b = some u) (heo:∃ u,h'.get? e = some u)
  (new:B5 X.prog X.w (upd H x o) h' x o):Inv X pins σ (upd H x o) { s with heap:=h',toks:=t' }:=I.un (Un.write mu he k heo) (I.hok.write mu he k heo new)
theorem Inv.weak {σ':List (Option V)} (I:Inv X pins σ H s) (hl:σ'.length = σ.length) (w:∀ (i:Nat) v,σ'[i]? = some (some v)→σ[i]? = some (some v)):Inv X pins σ' H s :=
 ⟨I.ok,I.os,I.bare,I.base,let ⟨m,hn,hl'⟩:=I.loc; ⟨m,hn,λ i x v e1 e2 e3=>hl' i x v e1 (w i v e2) e3⟩,I.cell,I.free,I.freeC,I.pin,I.hok,hl.trans I.len⟩
theorem Inv.pins_of {pins':List (Addr× Obj)} (I:Inv X pins σ H s) (h:∀ p∈pins',s.heap.get? p.1 = some p.2∧H p.1 = none∧p.1≠X.env.locals∧p.1∉X.fs∧∀ v,p.2.data≠.cell v):Inv X pins' σ H s :=
 ⟨I.ok,I.os,I.bare,I.base,I.loc,I.cell,I.free,I.freeC,λ p hp=>(mem_append.mp hp).elim (λ z=>I.pin p (mem_append_left _ z)) (h p),I.hok,I.len⟩
theorem Sn {N:List Str} (hN:N.Nodup) {i j:Nat} {x:Str} (a:N[i]? = some x) (b:N[j]? = some x):i = j:=by
 obtain ⟨h1,e1⟩:=List.getElem?_eq_some_iff.mp a
 obtain ⟨h2,e2⟩:=List.getElem?_eq_some_iff.mp b
 exact (getElem_inj hN).mp (e1.trans e2.symm)
theorem Yh {M:Model} {A:Around} {E:Value→Shared→Prop} {i:Nat} {x:Str} {v:V} {u:Value} {Q:Unit→Shared→Prop} (I:Inv X pins σ H s) (hN:X.N.Nodup) (hi:X.N[i]? = some x) (hx:Loc X.env.scope x) (r:Bd v u)
  (h:∀ s',Inv X pins (σ.set i (some v)) H s'→(∃ a,Heap.SameBut a s.heap s'.heap∧(a = X.env.locals∨X.env.cells.lookup x = some a))→Q () s') (hf:X.fn x = true∨X.env.scope.names.lookup x = some .local:=by first | exact .inl rfl | exact .inr rfl | assumption):wpAny M A (storeName X.env x u) Q E s:=by
 obtain ⟨m,hn,hl⟩:=id I.loc
 have hcls:(X.env.scope.kind == .class || (X.env.scope.kind == .module && X.env.locals != X.env.globals)) = false:=by rw [I.ok.kind]; rfl
 have hiσ:i < σ.length:=by rw [I.len]; exact (List.getElem?_eq_some_iff.mp hi).1
 have cne:=I.cne
 have tracked:∀ {a:Addr} {h':Heap},(∃ o,s.heap.get? a = some o∧H a = none)→Heap.SameBut a s.heap h'→HOk X.prog X.w H h':=λ {a h'} ha hs b ob e=>by
  obtain ⟨_,_,hfree⟩:=ha
  refine (I.hok b ob e).stay (λ c w' hc q=>(hs.2 c ?_).trans q) (λ _ q=>q) λ _ _ q=>q
  rintro rfl
  rcases hc with rfl | hc
  ·rw [hfree] at e; cases e
  ·rw [hfree] at hc; cases hc
 rcases hx with hk | hk
 ·refine wpAny_storeName_local hk hn (λ h' hn' hs=>?_) hcls
  obtain ⟨oL,_,_,hoL,_⟩:=id hn
  refine h _ ⟨I.ok,I.os,I.bare,⟨λ b o e n hb hx=>?_,λ b o e n hb hx=>?_,I.base.free,λ b o e hx=>?_,I.base.tups,I.base.frzs,I.base.tbls⟩,⟨_,hn',λ j y v' e1 e2 e3=>?_⟩,λ y c e=>?_,I.free,I.freeC,λ p hp=>?_,tracked ⟨oL,hoL,I.free⟩ hs,by simpa using I.len⟩ ⟨_,hs,.inl rfl⟩
  ·exact (hs.2 b (ne_of_lt (lt_of_lt_of_le (Heap.lt_size e) I.ok.above))).trans (I.base.keep b o e n hb hx)
  ·obtain ⟨sl,e1⟩:=I.base.slot b o e n hb hx
   exact ⟨sl,(hs.2 b (ne_of_lt (lt_of_lt_of_le (Heap.lt_size e) I.ok.above))).trans e1⟩
  ·obtain ⟨o',e1⟩:=I.base.there b o e hx
   exact ⟨o',(hs.2 b (ne_of_lt (lt_of_lt_of_le (Heap.lt_size e) I.ok.above))).trans e1⟩
  ·by_cases hj:j = i
   ·subst hj
    rw [hi] at e1; cases e1
    rw [getElem?_set_self hiσ] at e2
    cases e2
    exact ⟨u,r,.inl ⟨hk,by simp⟩⟩
   ·rw [getElem?_set_ne (Ne.symm hj)] at e2
    obtain ⟨u',r',q⟩:=hl j y v' e1 e2 e3
    refine ⟨u',r',?_⟩
    rcases q with ⟨k,e⟩ | ⟨k,c,e,z⟩
    ·refine .inl ⟨k,?_⟩
     have:y≠x:=λ e=>hj (Sn hN e1 (e ▸ hi))
     simp [this,e]
    ·exact .inr ⟨k,c,e,z.sameBut hs (cne y c e)⟩
  ·obtain ⟨w',z⟩:=I.cell y c e
   exact ⟨w',z.sameBut hs (cne y c e)⟩
  ·obtain ⟨e,n,ne,nf,d⟩:=I.pin p hp
   exact ⟨(hs.2 p.1 ne).trans e,n,ne,nf,d⟩
 ·have hfn:X.fn x = true:=by
   rcases hf with z | z
   ·exact z
   ·rw [z] at hk; cases hk
  obtain ⟨c,hc⟩:=I.ok.has x (.inl hk)
  obtain ⟨w',z⟩:=I.cell x c hc
  refine wpAny_storeName_cell I.ok.kind hk hc z (λ h' hc' hs=>?_)
  obtain ⟨oc,hoc,hocd⟩:=id z
  refine h { s with heap:=h' } ⟨I.ok,I.os,I.bare,⟨λ b o e n hb hx=>?_,λ b o e n hb hx=>?_,I.base.free,λ b o e hx=>?_,I.base.tups,I.base.frzs,I.base.tbls⟩,⟨m,hn.sameBut hs (Ne.symm (cne x c hc)),λ j y v' e1 e2 e3=>?_⟩,λ y c' e=>?_,I.free,I.freeC,λ p hp=>?_,tracked ⟨oc,hoc,I.freeC x c hc⟩ hs,by simpa using I.len⟩ ⟨c,hs,.inr hc⟩
  ·exact (hs.2 b (ne_of_lt (lt_of_lt_of_le (Heap.lt_size e) (I.ok.cab x c hfn hc)))).trans (I.base.keep b o e n hb hx)
  ·obtain ⟨sl,e1⟩:=I.base.slot b o e n hb hx
   exact ⟨sl,(hs.2 b (ne_of_lt (lt_of_lt_of_le (Heap.lt_size e) (I.ok.cab x c hfn hc)))).trans e1⟩
  ·obtain ⟨o',e1⟩:=I.base.there b o e hx
   exact ⟨o',(hs.2 b (ne_of_lt (lt_of_lt_of_le (Heap.lt_size e) (I.ok.cab x c hfn hc)))).trans e1⟩
  ·by_cases hj:j = i
   ·subst hj
    rw [hi] at e1; cases e1
    rw [getElem?_set_self hiσ] at e2
    cases e2
    exact ⟨u,r,.inr ⟨.inl hk,c,hc,hc'⟩⟩
   ·rw [getElem?_set_ne (Ne.symm hj)] at e2
    obtain ⟨u',r',q⟩:=hl j y v' e1 e2 e3
    refine ⟨u',r',?_⟩
    rcases q with q | ⟨k,c',e,z'⟩
    ·exact .inl q
    ·refine .inr ⟨k,c',e,z'.sameBut hs ?_⟩
     rintro rfl
     exact hj (Sn hN e1 (I.ok.inj _ _ _ e hc ▸ hi))
  ·by_cases hcc:c' = c
   ·subst hcc; exact ⟨_,hc'⟩
   ·obtain ⟨w2,z2⟩:=I.cell y c' e
    exact ⟨w2,z2.sameBut hs hcc⟩
  ·obtain ⟨e,n,ne,nf,d⟩:=I.pin p hp
   refine ⟨(hs.2 p.1 ?_).trans e,n,ne,nf,d⟩
   intro q
   rw [q,hoc] at e
   have q':oc = p.2:=Option.some.inj e
   exact d w' (by rw [← q']; exact hocd)
theorem M1 {M:Model} {A:Around} {E:Value→Shared→Prop} {i:Nat} {x:Str} {v:V} {u:Value} {Q:Unit→Shared→Prop} (I:Inv X pins σ H s) (hN:X.N.Nodup) (hi:X.N[i]? = some x) (hx:Loc X.env.scope x) (r:Bd v u)
  (h:∀ s',Inv X pins (σ.set i (some v)) H s'→Q () s') (hf:X.fn x = true∨X.env.scope.names.lookup x = some .local:=by first | exact .inl rfl | exact .inr rfl | assumption):wpAny M A (storeName X.env x u) Q E s :=
 Yh I hN hi hx r (λ s' I' _=>h s' I') hf
theorem Inv.call' {s':Shared} {ch:List Addr} (I:Inv X pins σ H s) (ho:s'.os = s.os) (u:Un (frs X.stack) ch H H' s.heap s'.heap) (hok:HOk X.prog X.w H' s'.heap) (hg:AllBare s'.gens)
  (hch:∀ b∈ch,(b∈X.ex∨X.s₀.heap.objs.size≤b)∧b≠X.env.locals∧(∀ x c,X.env.cells.lookup x = some c→c≠b)∧∀ p∈X.pn ++ pins,p.1≠b):Inv X pins σ H' s':=by
 obtain ⟨h',g',d',t',o'⟩:=s'
 have e:o' = s.os:=ho
 subst e
 exact I.call (g':=g') (t':=t') (d':=d') u hok hg hch
end
abbrev XK:=Value→Option Addr→Hp→Prop
abbrev St:=List (Option V)
abbrev VK:=V→Hp→Prop
abbrev TE:=St→Hp→VK→Prop
abbrev TT:=St→Hp→(Bool→Hp→Prop)→Prop
abbrev TA:=St→Hp→(List V→Hp→Prop)→Prop
structure Jh where
 nx:St→Hp→Prop
 rt:VK
 bk:St→Hp→Prop:=λ _ _=>False
 ct:St→Hp→Prop:=λ _ _=>False
abbrev TS:=Jh→St→Hp→Prop
def EP (X:Cx) (pins:List (Addr× Obj)) (σ:St) (Q:VK) (u:Value) (s':Shared):Prop:=∃ v H',Inv X pins σ H' s'∧Bd v u∧Q v H'
def TP (X:Cx) (pins:List (Addr× Obj)) (σ:St) (Q:Bool→Hp→Prop) (b:Bool) (s':Shared):Prop:=∃ H',Inv X pins σ H' s'∧Q b H'
def AP (X:Cx) (pins:List (Addr× Obj)) (σ:St) (Q:List V→Hp→Prop) (us:List Value) (s':Shared):Prop:=∃ vs H',Inv X pins σ H' s'∧Bb vs us∧Q vs H'
def SP (X:Cx) (pins:List (Addr× Obj)) (D:Jh) (f:Flow) (s':Shared):Prop :=
 match f with
 | .next=>∃ σ' H',Inv X pins σ' H' s'∧D.nx σ' H'
 | .brk=>∃ σ' H',Inv X pins σ' H' s'∧D.bk σ' H'
 | .cont=>∃ σ' H',Inv X pins σ' H' s'∧D.ct σ' H'
 | .ret u=>∃ v σ' H',Inv X pins σ' H' s'∧Bd v u∧D.rt v H'
def PE (X:Cx) (e:Expr) (t:TE):Prop :=
 ∀ (pins:List (Addr× Obj)) (s:Shared) (σ:St) (H:Hp) (Q:VK),Inv X pins σ H s→t σ H Q→wpAny (model X.prog X.w) X.A (eval e X.env) (EP X pins σ Q) X.xe s
def PT (X:Cx) (e:Expr) (t:TT):Prop :=
 ∀ (pins:List (Addr× Obj)) (s:Shared) (σ:St) (H:Hp) (Q:Bool→Hp→Prop),Inv X pins σ H s→t σ H Q→wpAny (model X.prog X.w) X.A (isTrue e X.env (eval e X.env)) (TP X pins σ Q) X.xe s
def PW (X:Cx) (e:Expr) (t:TT):Prop :=
 ∀ (whole:Sem Value) (pins:List (Addr× Obj)) (s:Shared) (σ:St) (H:Hp) (Q:Bool→Hp→Prop),Inv X pins σ H s→t σ H Q→wpAny (model X.prog X.w) X.A (isTrue e X.env whole) (TP X pins σ Q) X.xe s
theorem PW.pt {X:Cx} {e:Expr} {t:TT} (h:PW X e t):PT X e t:=h _
def PA (X:Cx) (es:List Expr) (t:TA):Prop :=
 ∀ (pos:Pos) (pins:List (Addr× Obj)) (s:Shared) (σ:St) (H:Hp) (Q:List V→Hp→Prop),Inv X pins σ H s→t σ H Q→wpAny (model X.prog X.w) X.A (spliced (backTo pos (starEach es X.env))) (AP X pins σ Q) X.xe s
def PS (X:Cx) (st:Stmt) (t:TS):Prop :=
 ∀ (pins:List (Addr× Obj)) (s:Shared) (σ:St) (H:Hp) (D:Jh),Inv X pins σ H s→t D σ H→wpAny (model X.prog X.w) X.A (exec st X.env) (SP X pins D) X.xe s
def PSs (X:Cx) (st:List Stmt) (t:TS):Prop :=
 ∀ (pins:List (Addr× Obj)) (s:Shared) (σ:St) (H:Hp) (D:Jh),Inv X pins σ H s→t D σ H→wpAny (model X.prog X.w) X.A (execs st X.env) (SP X pins D) X.xe s
theorem thn {α:Type} {t:Sem α} {Q Q':α→Shared→Prop} {M:Model} {A:Around} {E:Value→Shared→Prop} {s:Shared} (h:wpAny M A t Q E s) (hQ:∀ a s,Q a s→Q' a s):wpAny M A t Q' E s:=wpAny_mono h hQ λ _ _ x=>x
end L2
namespace L2
open PySem PySem.Spec PyProof.Rows
section
variable {X:Cx}
inductive Xv (i:Nat) (σ:St) (H:Hp) (Q:VK):Prop
 | mk (v:V) (_:σ[i]? = some (some v)) (_:Q v H):Xv i σ H Q
def Bt (i:Nat):TE:=λ σ H Q=>Xv i σ H Q
def tC (v:V):TE:=λ _ H Q=>Q v H
theorem Aco {i:Nat} {x:Str} {pos:Pos} (hN:X.N[i]? = some x) (hv:Vis X.env.scope x) (hd:(x == ("__debug__" : Str)) = false:=by decide) (hcd:(x == ("__classdict__" : Str)) = false:=by decide):PE X (.Name x pos) (Bt i):=by
 intro pins s σ H Q I h
 obtain ⟨v,e,h⟩:=h
 obtain ⟨m,hn,hl⟩:=I.loc
 obtain ⟨u,r,l⟩:=hl i x v hN e hv
 have fin:EP X pins σ Q u s:=⟨v,H,I,r,h⟩
 rcases l with ⟨hk,hm⟩ | ⟨hk,c,hc,hcell⟩
 ·exact wpAny_Name (wpAny_loadName_local I.ok.kind hk hn hm fin) hd
 ·rcases hk with hk | hk
  ·exact wpAny_Name (wpAny_loadName_cell I.ok.kind hk hc hcell fin) hd
  ·exact wpAny_Name (wpAny_loadName_free I.ok.kind hk hc hcell fin hcd) hd
theorem Ag {i j pos}:PE X (.Constant (.int i) j pos) (tC (.int i)):=λ _ _ _ H _ I h=>wpAny_Constant_int ⟨.int i,H,I.tok _,⟨_,Z⟩,h⟩
theorem Ex {b j pos}:PE X (.Constant (.bool b) j pos) (tC (.bl b)):=λ _ _ _ H _ I h=>Constant_bool ⟨.bl b,H,I,Z,h⟩
theorem AcR {j pos}:PE X (.Constant .none j pos) (tC .non):=λ _ _ _ H _ I h=>Constant_none ⟨.non,H,I,Z,h⟩
theorem An {x j pos}:PE X (.Constant (.str x) j pos) (tC (.str x)):=λ _ _ _ H _ I h=>Calls.Constant_str ⟨.str x,H,I.tok _,⟨_,Z⟩,h⟩
def Gl (X:Cx) (x:Str):Prop:=X.env.kindOf x = some .globalImplicit
theorem Ou {E:Value→Shared→Prop} {pins:List (Addr× Obj)} {s:Shared} {σ:St} {H:Hp} {x:Str} {u:Value} {pos:Pos} {Q:Value→Shared→Prop} (I:Inv X pins σ H s) (hg:Gl X x) (hm:X.mg x = some u) (h:Q u s)
  (hd:(x == ("__debug__" : Str)) = false:=by decide):wpAny (model X.prog X.w) X.A (eval (.Name x pos) X.env) Q E s :=
 Calls.Name_function_global I.ok.kind hg (Calls.loadGlobal_global (by rw [I.ok.glob]; exact I.mod.glob.keeps I.bk) hm h) hd
theorem Gh {E:Value→Shared→Prop} {pins:List (Addr× Obj)} {s:Shared} {σ:St} {H:Hp} {x:Str} {u:Value} {pos:Pos} {Q:Value→Shared→Prop} (I:Inv X pins σ H s) (hg:Gl X x) (hm:X.mg x = none) (hv:bootBuiltins x = some u) (h:Q u s)
  (hn:x≠ "__name__" := by decide) (hd:(x == ("__debug__" : Str)) = false:=by decide):wpAny (model X.prog X.w) X.A (eval (.Name x pos) X.env) Q E s:=by
 obtain ⟨mb,h1,h2⟩:=I.mod.blt
 exact Calls.Name_function_global I.ok.kind hg (Calls.loadGlobal_builtin (by rw [I.ok.glob]; exact I.mod.glob.keeps I.bk) hm (by rw [I.ok.blt]; exact h1.keeps I.bk) ((h2 x hn).trans hv) h) hd
theorem Cb {x:Str} {v:V} {u:Value} {pos:Pos} (hg:Gl X x) (hm:X.mg x = some u) (r:Bd v u) (hd:(x == ("__debug__" : Str)) = false:=by decide):PE X (.Name x pos) (tC v) :=
 λ _ _ _ H _ I h=>Ou I hg hm ⟨v,H,I,r,h⟩ hd
theorem Cq {x:Str} {v:V} {u:Value} {pos:Pos} (hg:Gl X x) (hm:X.mg x = none) (hv:bootBuiltins x = some u) (r:Bd v u) (hn:x≠ "__name__" := by decide) (hd:(x == ("__debug__" : Str)) = false:=by decide):PE X (.Name x pos) (tC v) :=
 λ _ _ _ H _ I h=>Gh I hg hm hv ⟨v,H,I,r,h⟩ hn hd
variable {a b:Expr} {ta tb:TE} {pos:Pos}
def PC (X:Cx) (op:CmpOp) (a b:Expr) (t:TE):Prop :=
 ∀ (pins:List (Addr× Obj)) (s:Shared) (σ:St) (H:Hp) (Q:VK),Inv X pins σ H s→t σ H Q →
  wpAny (model X.prog X.w) X.A (eval a X.env) (λ v s₁=>wpAny (model X.prog X.w) X.A (eval b X.env) (λ u s₂=>wpAny (model X.prog X.w) X.A (compareOp op v u) (EP X pins σ Q) X.xe s₂) X.xe s₁) X.xe s
inductive Zd (x:V) (H1:Hp) (Q:Bool→Hp→Prop):Prop
 | mk (c:Bool) (_:x = .bl c) (_:Q c H1):Zd x H1 Q
def tB (t:TE):TT:=λ σ H Q=>t σ H λ x H1=>Zd x H1 Q
theorem Nj {op:CmpOp} {t:TE} (h:PC X op a b t) (h1:behindInMarks op b = false:=by first | exact nobehind _ (by decide) (by decide) | rfl):PT X (.Compare a [op] [b] pos) (tB t):=by
 intro pins s σ H Q I hw
 refine wpAny_isTrue_Compare1 (thn (h pins s σ H _ I hw) λ v s1 h1=>thn h1 λ u s2 h2=>thn h2 λ c s3 ⟨x,H1,I1,r1,q1⟩=>?_) h1
 obtain ⟨d,rfl,q⟩:=q1
 cases r1
 exact wpAny_truthy_bool ⟨H1,I1,q⟩
theorem Dk {e:Expr} {t:TE} (h:PE X e t) (he:∀ whole,isTrue e X.env whole = (do let v ← whole; standAt e.pos; holding [v] (truthy v)):=by intro _; rfl):PT X e (tB t):=by
 intro pins s σ H Q I hw
 refine isTrue_plain (thn (h pins s σ H _ I hw) λ v s1 ⟨x,H1,I1,r1,q1⟩=>?_) (he _)
 obtain ⟨d,rfl,q⟩:=q1
 cases r1
 exact wpAny_truthy_bool ⟨H1,I1,q⟩
variable {tA tB':TT} {rest:List Expr}
def AdU (t u:TT):TT:=λ σ H Q=>t σ H λ c H1=>if c = true then u σ H1 Q else Q false H1
def tOr (t u:TT):TT:=λ σ H Q=>t σ H λ c H1=>if c = true then Q true H1 else u σ H1 Q
def AdW (t:TT):TT:=λ σ H Q=>t σ H λ c H1=>Q (!c) H1
theorem Oo (ha:PT X a tA):PW X (.BoolOp .And [a] pos) tA:=by
 intro wh pins s σ H Q I h
 refine isTrue_and (thn (ha pins s σ H Q I h) λ c s1 e=>?_)
 cases c with
 | true=>exact isTrue_and_nil e
 | false=>exact e
theorem E8 (ha:PT X a tA):PW X (.BoolOp .Or [a] pos) tA:=by
 intro wh pins s σ H Q I h
 refine isTrue_or (thn (ha pins s σ H Q I h) λ c s1 e=>?_)
 cases c with
 | false=>exact isTrue_or_nil e
 | true=>exact e
theorem R4 (ha:PT X a tA) (hb:PW X (.BoolOp .And (b :: rest) pos) tB'):PW X (.BoolOp .And (a :: b :: rest) pos) (AdU tA tB'):=by
 intro wh pins s σ H Q I h
 refine isTrue_and (thn (ha pins s σ H _ I h) λ c s1 ⟨H1,I1,q1⟩=>?_)
 cases c with
 | true=>exact hb wh pins s1 σ H1 Q I1 q1
 | false=>exact ⟨H1,I1,q1⟩
theorem D8 (ha:PT X a tA) (hb:PW X (.BoolOp .Or (b :: rest) pos) tB'):PW X (.BoolOp .Or (a :: b :: rest) pos) (tOr tA tB'):=by
 intro wh pins s σ H Q I h
 refine isTrue_or (thn (ha pins s σ H _ I h) λ c s1 ⟨H1,I1,q1⟩=>?_)
 cases c with
 | true=>exact ⟨H1,I1,q1⟩
 | false=>exact hb wh pins s1 σ H1 Q I1 q1
theorem Ei (ha:PT X a tA):PT X (.UnaryOp .Not a pos) (AdW tA):=by
 intro pins s σ H Q I h
 exact isTrue_not (ha pins s σ H (λ c H1=>Q (!c) H1) I h)
def Kl (ta tb:TE):TE:=λ σ H Q=>ta σ H λ x H1=>∃ c,x = .bl c∧if c = true then tb σ H1 Q else Q (.bl false) H1
def Qr (ta:TE):TE:=λ σ H Q=>ta σ H λ x H1=>∃ c,x = .bl c∧Q (.bl (!c)) H1
theorem J1 {op} {t:TE} (h:PE X a t):PE X (.BoolOp op [a] pos) t:=λ pins s σ H Q I hw=>BoolOp_one (h pins s σ H Q I hw)
theorem Gg (ha:PE X a ta) (hb:PE X (.BoolOp .And (b :: rest) pos) tb):PE X (.BoolOp .And (a :: b :: rest) pos) (Kl ta tb):=by
 intro pins s σ H Q I h
 refine BoolOp_and (thn (ha pins s σ H _ I h) λ v s1 ⟨x,H1,I1,r1,q1⟩=>?_)
 obtain ⟨c,rfl,q1⟩:=q1
 cases r1
 refine wpAny_truthy_bool ?_
 cases c with
 | true=>exact hb pins s1 σ H1 Q I1 q1
 | false=>exact ⟨.bl false,H1,I1,rfl,q1⟩
theorem Qy (ha:PE X a ta):PE X (.UnaryOp .Not a pos) (Qr ta):=by
 intro pins s σ H Q I h
 refine UnaryOp_ (thn (ha pins s σ H _ I h) λ v s1 ⟨x,H1,I1,r1,q1⟩=>?_)
 obtain ⟨c,rfl,q1⟩:=q1
 cases r1
 exact not_of (wpAny_truthy_bool ⟨.bl (!c),H1,I1,Z,q1⟩)
def tIf (t:TT) (ta tb:TE):TE:=λ σ H Q=>t σ H λ c H1=>if c = true then ta σ H1 Q else tb σ H1 Q
theorem Gs {c:Expr} (hc:PT X c tA) (ha:PE X a ta) (hb:PE X b tb):PE X (.IfExp c a b pos) (tIf tA ta tb):=by
 intro pins s σ H Q I h
 refine wpAny_IfExp (thn (hc pins s σ H _ I h) λ d s1 ⟨H1,I1,q1⟩=>?_)
 cases d with
 | true=>exact ha pins s1 σ H1 Q I1 q1
 | false=>exact hb pins s1 σ H1 Q I1 q1
end
end L2
namespace L2
open PySem PySem.Spec PyProof.Rows
def SqL (K:PySem.W.Frag) (H:Hp) (a:Addr) (xs:List V):Prop :=
 Rd H a (.lst xs) ∨
  ∃ (o:Obj) (its:Array Value) (n:Nat),K.lookup a = some o∧o.cls = .type "list" ∧ o.dict = none∧o.data = .seq its n∧its.size≤sizeLine∧Bb xs its.toList
def SqT (K:PySem.W.Frag) (H:Hp) (a:Addr) (xs:List V):Prop :=
 Rd H a (.tup xs) ∨
  ∃ (o:Obj) (its:Array Value) (n:Nat),K.lookup a = some o∧o.cls = .type "tuple" ∧ o.data = .seq its n∧its.size≤sizeLine∧Bb xs its.toList
def AdO:Value→Option V
 | .none=>some .non
 | .bool b=>some (.bl b)
 | .int i _=>some (.int i)
 | .str x _=>some (.str x)
 | .bytes b _=>some (.byt b)
 | .float b _=>some (.flt b)
 | .ref a=>some (.ref a)
 | .type n=>some (.ty n)
 | _=>none
theorem Bd.abs {x:V} {u:Value} (r:Bd x u):AdO u = some x:=by
 cases x with
 | non=>cases r; rfl
 | bl _=>cases r; rfl
 | int _=>obtain ⟨t,rfl⟩:=r; rfl
 | str _=>obtain ⟨t,rfl⟩:=r; rfl
 | byt _=>obtain ⟨t,rfl⟩:=r; rfl
 | flt _=>obtain ⟨t,rfl⟩:=r; rfl
 | ref _=>cases r; rfl
 | ty _=>cases r; rfl
theorem Bd.inj {x y:V} {u:Value} (r:Bd x u) (q:Bd y u):x = y:=Option.some.inj (r.abs.symm.trans q.abs)
theorem Bb.inj:∀ {xs ys:List V} {us:List Value},Bb xs us→Bb ys us→xs = ys
 | _,_,_,.nil,.nil=>rfl
 | _,_,_,.cons r t,.cons r' t'=>by rw [r.inj r',Bb.inj t t']
section
variable {X:Cx} {pins:List (Addr× Obj)} {σ:St} {H:Hp} {s:Shared} {a:Addr} {xs ys:List V}
theorem SqL.of {K:PySem.W.Frag} (h:H a = some (.lst xs)):SqL K H a xs:=.inl (.inl h)
theorem SqT.of {K:PySem.W.Frag} (h:H a = some (.tup xs)):SqT K H a xs:=.inl (.inl h)
theorem Inv.list (I:Inv X pins σ H s) (h:SqL X.K H a xs):∃ its:List Value,Bb xs its∧PlainL s.heap a its.toArray∧xs.length≤sizeLine:=by
 rcases h with h | ⟨o,its,n,hk,hc,hd,hs,hz,r⟩
 ·obtain ⟨z,its,n,r,e⟩:=h.ok I.hok
  exact ⟨its,r,⟨_,n,e,Z,Z,Z⟩,z⟩
 ·refine ⟨its.toList,r,⟨o,n,I.kIn a o hk,hc,hd,by simpa using hs⟩,?_⟩
  have e:=r.length
  simp only [Array.length_toList] at e
  omega
theorem Inv.tuple (I:Inv X pins σ H s) (h:SqT X.K H a xs):∃ its:List Value,Bb xs its∧IsTup s.heap a its.toArray∧xs.length≤sizeLine:=by
 rcases h with h | ⟨o,its,n,hk,hc,hs,hz,r⟩
 ·obtain ⟨z,its,r,p⟩:=h.ok I.hok
  exact ⟨its,r,p,z⟩
 ·refine ⟨its.toList,r,⟨o,I.kIn a o hk,hc,n,by simpa using hs⟩,?_⟩
  have e:=r.length
  simp only [Array.length_toList] at e
  omega
theorem Inv.list_inj (I:Inv X pins σ H s) (h:SqL X.K H a xs) (h':SqL X.K H a ys):xs = ys:=by
 obtain ⟨its,r,⟨o,n,e,_,_,d⟩,_⟩:=I.list h
 obtain ⟨its',r',⟨o',n',e',_,_,d'⟩,_⟩:=I.list h'
 rw [e] at e'; cases e'
 rw [d] at d'
 injection d' with d1 _
 have:its = its':=by simpa using congrArg Array.toList d1
 subst this
 exact r.inj r'
theorem Inv.tuple_inj (I:Inv X pins σ H s) (h:SqT X.K H a xs) (h':SqT X.K H a ys):xs = ys:=by
 obtain ⟨its,r,⟨o,e,_,n,d⟩,_⟩:=I.tuple h
 obtain ⟨its',r',⟨o',e',_,n',d'⟩,_⟩:=I.tuple h'
 rw [e] at e'; cases e'
 rw [d] at d'
 injection d' with d1 _
 have:its = its':=by simpa using congrArg Array.toList d1
 subst this
 exact r.inj r'
end
abbrev Cx.wish (X:Cx) (E:Value→Shared→Prop):Cx:={ X with xe:=E }
abbrev Cx.nox (X:Cx):Cx:=X.wish λ _ _=>False
theorem Cx.Ok.wish {X:Cx} (ok:X.Ok) (E:Value→Shared→Prop):(X.wish E).Ok :=
 ⟨ok.mod,ok.kind,ok.glob,ok.blt,ok.above,ok.inj,ok.has,ok.cab,ok.hd,ok.frames,ok.stk,ok.exf,ok.bs,ok.bsz,ok.noex,ok.exfs,ok.funs,ok.frf⟩
theorem Cx.Ok.unwish {X:Cx} {E:Value→Shared→Prop} (ok:(X.wish E).Ok):X.Ok :=
 ⟨ok.mod,ok.kind,ok.glob,ok.blt,ok.above,ok.inj,ok.has,ok.cab,ok.hd,ok.frames,ok.stk,ok.exf,ok.bs,ok.bsz,ok.noex,ok.exfs,ok.funs,ok.frf⟩
section
variable {X:Cx} {pins:List (Addr× Obj)} {σ:St} {H:Hp} {s:Shared} {E:Value→Shared→Prop}
theorem Inv.wish (I:Inv X pins σ H s) (E:Value→Shared→Prop):Inv (X.wish E) pins σ H s:=⟨I.ok.wish E,I.os,I.bare,I.base,I.loc,I.cell,I.free,I.freeC,I.pin,I.hok,I.len⟩
theorem Inv.unwish (I:Inv (X.wish E) pins σ H s):Inv X pins σ H s:=⟨I.ok.unwish,I.os,I.bare,I.base,I.loc,I.cell,I.free,I.freeC,I.pin,I.hok,I.len⟩
theorem SP.unwish {D:Jh} {f:Flow} {s':Shared} (h:SP (X.wish E) pins D f s'):SP X pins D f s':=by
 cases f with
 | next=>obtain ⟨σ',H',I,q⟩:=h; exact ⟨σ',H',I.unwish,q⟩
 | brk=>obtain ⟨σ',H',I,q⟩:=h; exact ⟨σ',H',I.unwish,q⟩
 | cont=>obtain ⟨σ',H',I,q⟩:=h; exact ⟨σ',H',I.unwish,q⟩
 | ret u=>obtain ⟨v,σ',H',I,r,q⟩:=h; exact ⟨v,σ',H',I.unwish,r,q⟩
theorem PSs.nox {st:List Stmt} {t:TS} (h:PSs X.nox st t):PSs X st t:=λ pins s σ H D I hw =>
 wpAny_mono (h pins s σ H D (I.wish _) hw) (λ _ _ q=>q.unwish) λ _ _ z=>False.elim z
end
section
variable {X:Cx} {st:Stmt} {rest:List Stmt} {t u:TS} {e:Expr} {te:TE} {pos:Pos}
def Nc:TS:=λ D σ H=>D.nx σ H
def O1 (t u:TS):TS:=λ D σ H=>t { D with nx:=u D } σ H
theorem Bc:PSs X [] Nc:=λ _ _ σ H _ I h=>wpAny_execs_nil ⟨σ,H,I,h⟩
theorem Ae (h1:PS X st t) (h2:PSs X rest u):PSs X (st :: rest) (O1 t u):=by
 intro pins s σ H D I h
 refine wpAny_execs_cons (thn (h1 pins s σ H { D with nx:=u D } I h) λ f s1 q=>?_)
 cases f with
 | next =>
  obtain ⟨σ',H',I',q⟩:=q
  exact h2 pins s1 σ' H' D I' q
 | ret v=>exact q
 | brk=>exact q
 | cont=>exact q
theorem Ai (h1:PS X st t):PSs X [st] t:=by
 intro pins s σ H D I h
 refine wpAny_execs_cons (thn (h1 pins s σ H D I h) λ f s1 q=>?_)
 cases f with
 | next=>exact wpAny_execs_nil q
 | ret v=>exact q
 | brk=>exact q
 | cont=>exact q
theorem Inv.quiet {pins:List (Addr× Obj)} {σ:St} {H:Hp} {s:Shared} (I:Inv X pins σ H s):interactive X.env = false:=by simp [interactive,I.ok.kind]
def Acu (te:TE):TS:=λ D σ H=>te σ H λ _ H1=>D.nx σ H1
theorem Bg (he:PE X e te) (hs:swapsWith e none pos.line X.env = pure false:=by rfl):PS X (.Expr e pos) (Acu te):=by
 intro pins s σ H D I h
 exact wpAny_Expr_any (thn (he pins s σ H _ I h) λ v s1 ⟨x,H1,I1,r1,q1⟩=>⟨σ,H1,I1,q1⟩) I.quiet hs
def AdP (te:TE):TS:=λ D σ H=>te σ H D.rt
theorem Aw (he:PE X e te):PS X (.Return (some e) pos) (AdP te):=by
 intro pins s σ H D I h
 exact wpAny_Return_some (thn (he pins s σ H _ I h) λ v s1 ⟨x,H1,I1,r1,q1⟩=>⟨x,σ,H1,I1,r1,q1⟩)
def Ac4:TS:=λ D _ H=>D.rt .non H
theorem Uj:PS X (.Return none pos) Ac4:=λ _ _ σ H _ I h=>wpAny_Return_none ⟨.non,σ,H,I,Z,h⟩
def Abv (c:TT) (t u:TS):TS:=λ D σ H=>c σ H λ b H1=>if b = true then t D σ H1 else u D σ H1
theorem Bn {c:Expr} {a b:List Stmt} {tc:TT} (hc:PT X c tc) (ha:PSs X a t) (hb:PSs X b u):PS X (.If c a b pos) (Abv tc t u):=by
 intro pins s σ H D I h
 refine wpAny_If (thn (hc pins s σ H _ I h) λ d s1 ⟨H1,I1,q1⟩=>?_)
 cases d with
 | true=>exact ha pins s1 σ H1 D I1 q1
 | false=>exact hb pins s1 σ H1 D I1 q1
end
abbrev TG:=V→St→Hp→(St→Hp→Prop)→Prop
abbrev TGs:=List V→St→Hp→(St→Hp→Prop)→Prop
def PG (X:Cx) (target:Expr) (t:TG):Prop :=
 ∀ (pins:List (Addr× Obj)) (s:Shared) (σ:St) (H:Hp) (v:V) (u:Value) (Q:St→Hp→Prop),Inv X pins σ H s→Bd v u→t v σ H Q →
  wpAny (model X.prog X.w) X.A (assign target X.env u) (λ _ s'=>∃ σ' H',Inv X pins σ' H' s'∧Q σ' H') X.xe s
def PGs (X:Cx) (ts:List Expr) (t:TGs):Prop :=
 ∀ (pins:List (Addr× Obj)) (s:Shared) (σ:St) (H:Hp) (vs:List V) (us:List Value) (Q:St→Hp→Prop),Inv X pins σ H s→Bb vs us→t vs σ H Q →
  wpAny (model X.prog X.w) X.A (assignInOrder ((assignEach ts X.env).map (·.2)) us) (λ _ s'=>∃ σ' H',Inv X pins σ' H' s'∧Q σ' H') X.xe s
abbrev Y1:=V→V→V→Hp→(Hp→Prop)→Prop
def Acf (X:Cx) (t:Y1):Prop :=
 ∀ (pins:List (Addr× Obj)) (s:Shared) (σ:St) (H:Hp) (o i v:V) (ov iv u:Value) (Q:Hp→Prop),Inv X pins σ H s→Bd o ov→Bd i iv→Bd v u→t o i v H Q →
  wpAny (model X.prog X.w) X.A (setItem ov iv u) (λ _ s'=>∃ H',Inv X pins σ H' s'∧Q H') X.xe s
section
variable {X:Cx} {pos:Pos}
def B1 (i:Nat):TG:=λ v σ H Q=>Q (σ.set i (some v)) H
theorem A3 {i:Nat} {x:Str} (hN:X.N.Nodup) (hi:X.N[i]? = some x) (hx:Loc X.env.scope x) (hf:X.fn x = true∨X.env.scope.names.lookup x = some .local:=by first | exact .inl rfl | exact .inr rfl | assumption):PG X (.Name x pos) (B1 i):=by
 intro pins s σ H v u Q I r h
 exact wpAny_assign_Name (M1 I hN hi hx r (λ s' I'=>⟨_,H,I',h⟩) hf)
def AdZ:TGs:=λ vs σ H Q=>vs = []∧Q σ H
def AdB (t:TG) (u:TGs):TGs:=λ vs σ H Q=>∃ v r,vs = v :: r∧t v σ H λ σ' H'=>u r σ' H' Q
theorem Ep:PGs X [] AdZ:=by
 intro pins s σ H vs us Q I r h
 obtain ⟨e,h⟩:=h
 subst e
 cases r
 exact assignInOrder_nil ⟨σ,H,I,h⟩
theorem B0 {e:Expr} {es:List Expr} {t:TG} {u:TGs} (h1:PG X e t) (h2:PGs X es u)
  (hs:(assignEach (e :: es) X.env).map (·.2) = assign e X.env :: (assignEach es X.env).map (·.2):=by rfl):PGs X (e :: es) (AdB t u):=by
 intro pins s σ H vs us Q I r h
 obtain ⟨v,vr,e1,h⟩:=h
 subst e1
 cases r with
 | cons r rr =>
  rw [hs]
  refine assignInOrder_cons (thn (h1 pins s σ H _ _ _ I r h) λ _ s1 ⟨σ1,H1,I1,q1⟩=>?_)
  exact h2 pins s1 σ1 H1 _ _ Q I1 rr q1
inductive Xf (K:PySem.W.Frag) (n:Nat) (v:V) (H:Hp) (R:List V→Prop):Prop
 | mk (a:Addr) (xs:List V) (_:v = .ref a) (_:SqT K H a xs) (_:xs.length = n) (_:R xs):Xf K n v H R
def AdX (K:PySem.W.Frag) (n:Nat) (t:TGs):TG:=λ v σ H Q=>Xf K n v H λ xs=>t xs σ H Q
theorem Fs {es:List Expr} {k:Nat} {t:TGs} {n:Nat} (hc:X.calm = true) (h:PGs X es t)
  (hn:(assignEach es X.env).length = n:=by rfl) (hst:(assignEach es X.env).findIdx? (·.1) = none:=by rfl):PG X (.Tuple es k pos) (AdX X.K n t):=by
 intro pins s σ H v u Q I r hw
 obtain ⟨a,xs,e1,hq,hl,hw⟩:=hw
 subst e1
 cases r
 obtain ⟨its,rv,ht,hz⟩:=I.tuple hq
 refine assign_Tuple_tuple (I.ok.hd hc) ht (by simp [hn,← hl,rv.length]) hst λ h' hx=>?_
 have I1:Inv X pins σ H { s with heap:=h' }:=I.kept (t':=s.toks) λ b o e=>hx b o (ne_of_lt (Heap.lt_size e)) e
 exact h pins _ σ H xs _ Q I1 (by simpa using rv) hw
def Adi (to ti:TE) (t:Y1):TG:=λ v σ H Q=>to σ H λ o H1=>ti σ H1 λ i H2=>t o i v H2 λ H3=>Q σ H3
theorem Rf {o i:Expr} {to ti:TE} {t:Y1} (ho:PE X o to) (hi:PE X i ti) (hs:Acf X t)
  (ha:∀ v,assign (.Subscript o i pos) X.env v = (do
   let ov ← holding [v] (eval o X.env)
   let iv ← holding [v,ov] (eval i X.env)
   standAt pos
   holding [v,ov,iv] (setItem ov iv v)
   release [v,ov,iv] []):=by intro _; rfl):PG X (.Subscript o i pos) (Adi to ti t):=by
 intro pins s σ H v u Q I r h
 rw [ha]
 refine wpAny_bind (wpAny_holding (thn (ho pins s σ H _ I h) λ ov s1 ⟨x,H1,I1,r1,q1⟩=>?_))
 refine wpAny_bind (wpAny_holding (thn (hi pins s1 σ H1 _ I1 q1) λ iv s2 ⟨y,H2,I2,r2,q2⟩=>?_))
 refine wpAny_bind (wpAny_standAt (wpAny_bind (wpAny_holding (thn (hs pins s2 σ H2 x y v ov iv u _ I2 r1 r2 r q2) λ _ s3 ⟨H3,I3,q3⟩=>?_))))
 exact wpAny_release ⟨σ,H3,I3,q3⟩
def O7 (te:TE) (g:TG):TS:=λ D σ H=>te σ H λ x H1=>g x σ H1 D.nx
theorem Fq {tg e:Expr} {te:TE} {g:TG} (he:PE X e te) (hg:PG X tg g) (hs:swapsWithSole [tg] e pos.line X.env = pure false:=by rfl) (hw:swappedStores [tg] e X.env = pure none:=by rfl)
  (h1:(assignEach [tg] X.env).map (·.2) = [assign tg X.env]:=by rfl):PS X (.Assign [tg] e pos) (O7 te g):=by
 intro pins s σ H D I h
 refine wpAny_Assign_stores (thn (he pins s σ H _ I h) λ v s1 ⟨x,H1,I1,r1,q1⟩=>?_) hs hw
 rw [h1]
 exact thn (hg pins s1 σ H1 x v _ I1 r1 q1) λ _ s2 q=>q
theorem Bh {i:Nat} {x:Str} {e:Expr} {te:TE} {pos':Pos} (hN:X.N.Nodup) (hi:X.N[i]? = some x) (hx:Loc X.env.scope x) (he:PE X e te) (hs:swapsWith e (some (.Name x pos')) pos.line X.env = pure false:=by rfl) (hf:X.fn x = true∨X.env.scope.names.lookup x = some .local:=by first | exact .inl rfl | exact .inr rfl | assumption) :
  PS X (.Assign [.Name x pos'] e pos) (O7 te (B1 i)):=by
 intro pins s σ H D I h
 refine wpAny_Assign_Name (thn (he pins s σ H _ I h) λ v s1 ⟨y,H1,I1,r1,q1⟩=>?_) hs
 exact M1 I1 hN hi hx r1 (λ s2 I2=>⟨_,H1,I2,q1⟩) hf
end
section
variable {X:Cx} {pos:Pos}
def Wp (c:TT) (tb:TS):TS:=λ D σ H=>∃ W:Nat→St→Hp→Prop,(∃ m,W m σ H)∧∀ m σ H,W m σ H →
 c σ H λ b H1=>if b = true then ∃ N:St→Hp→Prop,(∀ σ' H',N σ' H'→∃ m',m' < m∧W m' σ' H')∧tb { D with nx:=N,ct:=N,bk:=D.nx } σ H1 else D.nx σ H1
theorem Rx {c:Expr} {body:List Stmt} {tc:TT} {tb:TS} (hp:PassesOwn (model X.prog X.w) X.A X.env X.xe) (hc:PT X c tc) (hb:PSs X body tb):PS X (.While c body [] pos) (Wp tc tb):=by
 intro pins s σ H D I h
 obtain ⟨W,⟨m0,w0⟩,turn⟩:=h
 refine wpAny_While (codeAny_whileLoop (λ n s'=>∃ σ' H',Inv X pins σ' H' s'∧W n σ' H') ?_ m0 ⟨σ,H,I,w0⟩)
 rintro n s1 ⟨σ1,H1,I1,w1⟩
 refine wpAny_passesOwn hp (thn (hc pins s1 σ1 H1 _ I1 (turn n σ1 H1 w1)) λ b s2 ⟨H2,I2,q2⟩=>?_)
 cases b with
 | true =>
  obtain ⟨N,hN,q2⟩:=q2
  rw [if_pos rfl]
  refine wpAny_passesOwn hp (thn (hb pins s2 σ1 H2 _ I2 q2) λ f s3 q3=>?_)
  cases f with
  | next =>
   obtain ⟨σ3,H3,I3,n3⟩:=q3
   obtain ⟨m',hm,w3⟩:=hN σ3 H3 n3
   exact ⟨m',hm,σ3,H3,I3,w3⟩
  | cont =>
   obtain ⟨σ3,H3,I3,n3⟩:=q3
   obtain ⟨m',hm,w3⟩:=hN σ3 H3 n3
   exact ⟨m',hm,σ3,H3,I3,w3⟩
  | brk=>exact q3
  | ret v=>exact q3
 | false =>
  rw [if_neg Bool.false_ne_true]
  exact wpAny_execs_nil ⟨σ1,H2,I2,q2⟩
end
structure It where
 go:Nat→Hp→Prop
 yld:Nat→Hp→V→Hp→Prop
 stop:Nat→Hp→Prop
def Ja (X:Cx) (pins:List (Addr× Obj)) (H:Hp) (b:Addr):Prop :=
 H b = none∧b≠X.env.locals∧b∉X.fs∧(b∈X.ex∨X.s₀.heap.objs.size≤b)∧(∀ x c,X.env.cells.lookup x = some c→c≠b)∧∀ p∈X.pn ++ pins,p.1≠b
theorem Inv.fpOk {X:Cx} {pins:List (Addr× Obj)} {σ:St} {H H':Hp} {s:Shared} {b:Addr} (I:Inv X pins σ H s) (hb:s.heap.objs.size≤b) (hn:H' b = none):Ja X pins H' b:=by
 refine ⟨hn,ne_of_gt (lt_of_lt_of_le I.lt hb),I.nofs hb,.inr (le_trans I.sz hb),λ x c e z=>?_,λ p hp z=>?_⟩
 ·obtain ⟨v,q⟩:=I.cell x c e
  exact absurd (lt_of_lt_of_le q.lt (by rw [z]; exact hb)) (lt_irrefl _)
 ·exact absurd (lt_of_lt_of_le (Heap.lt_size (I.pin p hp).1) (by rw [z]; exact hb)) (lt_irrefl _)
structure Lo (P:Program) (w:World) (K:PySem.W.Frag) (tg:Expr) (J:It) (fp:List Addr) (it:Addr) (tn:Nat→Heap→Prop):Prop where
 mem:it∈fp
 obj:∀ i h,tn i h→∀ b∈fp,∃ o,h.get? b = some o∧∀ v,o.data≠.cell v
 keep:∀ i h h',tn i h→(∀ b∈fp,∀ o,h.get? b = some o→h'.get? b = some o)→tn i h'
 item:∀ (X:Cx),X.prog = P→X.w = w→X.K = K→X.calm = true→∀ (i:Nat) (pins:List (Addr× Obj)) (s:Shared) (σ:St) (H:Hp) (E:Value→Shared→Prop),Inv X pins σ H s→(∀ b∈fp,Ja X pins H b)→tn i s.heap→J.go i H →
  wpAny (model P w) X.A (pyNext (.ref it)) (λ r s1=>∃ u,r = some u ∧
   wpAny (model P w) X.A (letOwnedTupleGo tg (.ref it) u) (λ _ s2=>∃ x H',Inv X pins σ H' s2∧Bd x u∧J.yld i H x H'∧tn (i + 1) s2.heap∧∀ b∈fp,H' b = none) E s1) E s
 done:∀ (X:Cx),X.prog = P→X.w = w→X.K = K→X.calm = true→∀ (i:Nat) (pins:List (Addr× Obj)) (s:Shared) (σ:St) (H:Hp) (E:Value→Shared→Prop),Inv X pins σ H s→(∀ b∈fp,Ja X pins H b)→tn i s.heap→J.stop i H →
  wpAny (model P w) X.A (pyNext (.ref it)) (λ r s1=>r = none∧Inv X pins σ H s1) E s
 self:∀ (A:Around) (i:Nat) (s:Shared) (Q:Value→Shared→Prop) (E:Value→Shared→Prop),tn i s.heap→Q (.ref it) s→wpAny (model P w) A (pyIter (.ref it)) Q E s
abbrev TI:=St→Hp→(It→Hp→Prop)→Prop
def PIE (X:Cx) (pins:List (Addr× Obj)) (σ:St) (tg:Expr) (R:It→Hp→Prop) (itv:Value) (s2:Shared):Prop :=
 ∃ (it:Addr) (fp:List Addr) (tn:Nat→Heap→Prop) (J:It) (H':Hp),itv = .ref it∧Inv X pins σ H' s2∧Lo X.prog X.w X.K tg J fp it tn∧tn 0 s2.heap∧(∀ b∈fp,Ja X pins H' b)∧R J H'
def PI (X:Cx) (tg iter:Expr) (wi:TI):Prop :=
 ∀ (pins:List (Addr× Obj)) (s:Shared) (σ:St) (H:Hp) (R:It→Hp→Prop),Inv X pins σ H s→wi σ H R →
  wpAny (model X.prog X.w) X.A (eval iter X.env) (λ v s1=>wpAny (model X.prog X.w) X.A (pyIter v) (PIE X pins σ tg R) X.xe s1) X.xe s
theorem Qj {M:Model} {A:Around} {E:Value→Shared→Prop} {s:Shared} {tg:Expr} {it:Addr} {u:Value} {o:Obj} {n:String} {vs:Array Value} {Q:Unit→Shared→Prop} (ho:s.heap.get? it = some o) (hc:o.cls = .type n) (hd:o.data = .fields vs)
  (hn:["enumerate", "zip", "dict_itemiterator", "dict_reverseitemiterator", "odict_iterator", "itertools.zip_longest", "itertools.pairwise"].contains n = false) (hQ:Q () s):wpAny M A (letOwnedTupleGo tg (.ref it) u) Q E s:=by
 unfold letOwnedTupleGo
 cases tg <;> first
  | exact wpAny_pure hQ
  | (cases u <;> first
    | exact wpAny_pure hQ
    | (refine wpAny_bind (wpAny_load ho ?_)
       rw [hc,hd]
       show wpAny M A (if (["enumerate", "zip", "dict_itemiterator", "dict_reverseitemiterator", "odict_iterator", "itertools.zip_longest", "itertools.pairwise"].contains n && vs[0]? == some (rawInt _)) = true then _ else _) Q E s
       rw [if_neg (by intro h; rw [hn,Bool.false_and] at h; cases h)]
       exact wpAny_pure hQ))
def Itl (K:PySem.W.Frag) (a:Addr):It :=
 ⟨λ i H=>∃ xs x,SqL K H a xs∧xs[i]? = some x,λ i H x H'=>H' = H∧∀ xs,SqL K H a xs→xs[i]? = some x,λ i H=>∃ xs,SqL K H a xs∧xs.length≤i⟩
def Itt (K:PySem.W.Frag) (a:Addr):It :=
 ⟨λ i H=>∃ xs x,SqT K H a xs∧xs[i]? = some x,λ i H x H'=>H' = H∧∀ xs,SqT K H a xs→xs[i]? = some x,λ i H=>∃ xs,SqT K H a xs∧xs.length≤i⟩
def Itr (lo:Int) (n:Nat):It:=⟨λ i _=>i < n,λ i H x H'=>H' = H∧x = .int (lo + i),λ i _=>n≤i⟩
theorem Yg {P:Program} {w:World} {K:PySem.W.Frag} {tg:Expr} (a it:Addr):Lo P w K tg (Itl K a) [it] it (λ i h=>h.IsListIter it a i) where
 mem:=by simp
 obj:=λ i h st b hb=>by
  have e:b = it:=by simpa using hb
  subst e
  obtain ⟨o,e,c,d⟩:=st
  exact ⟨o,e,λ v z=>by rw [d] at z; cases z⟩
 keep:=λ i h h' st k=>st.at λ o e=>k it (by simp) o e
 item:=by
  intro X hP hw hK hc i pins s σ H E I hf st hg
  subst hP hw hK
  obtain ⟨xs,x,hq,hx⟩:=hg
  obtain ⟨its,rv,p,hz⟩:=I.list hq
  obtain ⟨u,hu,ru⟩:=rv.get hx
  obtain ⟨f0,f1,f2,f3,f4,f5⟩:=hf it (by simp)
  refine wpAny_pyNext_list_item st p.isList (x:=u) (by simpa using hu) λ h' st' sb=>?_
  have I1:Inv X pins σ H { s with heap:=h' }:=I.turned (t':=s.toks) (λ b o hb e=>(sb.2 b hb).trans e) f0 f1 f3 f4 f5
  obtain ⟨o,e,c,d⟩:=id st'
  exact ⟨u,Z,Qj (s:={ s with heap:=h' }) e c d (by decide) ⟨x,H,I1,ru,⟨rfl,λ ys hy=>by rw [I.list_inj hy hq]; exact hx⟩,st',λ b hb=>(hf b hb).1⟩⟩
 done:=by
  intro X hP hw hK hc i pins s σ H E I hf st hg
  subst hP hw hK
  obtain ⟨xs,hq,hx⟩:=hg
  obtain ⟨its,rv,p,hz⟩:=I.list hq
  obtain ⟨f0,f1,f2,f3,f4,f5⟩:=hf it (by simp)
  have hl:=rv.length
  exact wpAny_pyNext_list_end (I.ok.hd hc) st p.isList (by simp; omega) λ h' eb=>⟨Z,I.turned (t':=s.toks) (λ b o hb e=>eb b o hb e) f0 f1 f3 f4 f5⟩
 self:=λ _ _ _ _ _ st h=>wpAny_pyIter_listiter st h
theorem U2 {P:Program} {w:World} {K:PySem.W.Frag} {tg:Expr} (a it:Addr):Lo P w K tg (Itt K a) [it] it (λ i h=>h.IsTupleIter it a i) where
 mem:=by simp
 obj:=λ i h st b hb=>by
  have e:b = it:=by simpa using hb
  subst e
  obtain ⟨o,e,c,d⟩:=st
  exact ⟨o,e,λ v z=>by rw [d] at z; cases z⟩
 keep:=λ i h h' st k=>st.at λ o e=>k it (by simp) o e
 item:=by
  intro X hP hw hK hc i pins s σ H E I hf st hg
  subst hP hw hK
  obtain ⟨xs,x,hq,hx⟩:=hg
  obtain ⟨its,rv,p,hz⟩:=I.tuple hq
  obtain ⟨u,hu,ru⟩:=rv.get hx
  obtain ⟨f0,f1,f2,f3,f4,f5⟩:=hf it (by simp)
  refine wpAny_pyNext_tuple_item st (show s.heap.IsTuple a its.toArray from p) (x:=u) (by simpa using hu) λ h' st' sb=>?_
  have I1:Inv X pins σ H { s with heap:=h' }:=I.turned (t':=s.toks) (λ b o hb e=>(sb.2 b hb).trans e) f0 f1 f3 f4 f5
  obtain ⟨o,e,c,d⟩:=id st'
  exact ⟨u,Z,Qj (s:={ s with heap:=h' }) e c d (by decide) ⟨x,H,I1,ru,⟨rfl,λ ys hy=>by rw [I.tuple_inj hy hq]; exact hx⟩,st',λ b hb=>(hf b hb).1⟩⟩
 done:=by
  intro X hP hw hK hc i pins s σ H E I hf st hg
  subst hP hw hK
  obtain ⟨xs,hq,hx⟩:=hg
  obtain ⟨its,rv,p,hz⟩:=I.tuple hq
  obtain ⟨f0,f1,f2,f3,f4,f5⟩:=hf it (by simp)
  have hl:=rv.length
  exact wpAny_pyNext_tuple_end (I.ok.hd hc) st (show s.heap.IsTuple a its.toArray from p) (by simp; omega) λ h' eb=>⟨Z,I.turned (t':=s.toks) (λ b o hb e=>eb b o hb e) f0 f1 f3 f4 f5⟩
 self:=λ _ _ _ _ _ st h=>wpAny_pyIter_tupleiter st h
theorem U1 {P:Program} {w:World} {K:PySem.W.Frag} {tg:Expr} (it:Addr) (lo:Int) (n:Nat):Lo P w K tg (Itr lo n) [it] it (λ i h=>IsRangeIter h it (lo + (i:Nat) * 1) ((n:Int) - (i:Nat)) 1) where
 mem:=by simp
 obj:=λ i h st b hb=>by
  have e:b = it:=by simpa using hb
  subst e
  exact ⟨_,st,λ v z=>by
   have z':Data.fields _ = Data.cell v:=z
   cases z'⟩
 keep:=λ i h h' st k=>k it (by simp) _ st
 item:=by
  intro X hP hw hK hc i pins s σ H E I hf st hg
  subst hP hw hK
  obtain ⟨f0,f1,f2,f3,f4,f5⟩:=hf it (by simp)
  have W:=Walks.range (prog:=X.prog) (w:=X.w) (I.ok.hd hc) it lo 1 n
  refine W.item i s _ _ hg st λ v h' tk hv st' kk=>?_
  obtain ⟨t,rfl⟩:=hv
  have I1:Inv X pins σ H { s with heap:=h',toks:=tk }:=I.turned (λ b o hb e=>kk b o (by simpa using hb) e) f0 f1 f3 f4 f5
  refine ⟨_,Z,Qj (s:={ s with heap:=h',toks:=tk }) (n:= "range_iterator") st' rfl rfl (by decide) ⟨.int (lo + i),H,I1,⟨t,?_⟩,⟨rfl,rfl⟩,st',λ b hb=>(hf b hb).1⟩⟩
  rw [Int.mul_one]
 done:=by
  intro X hP hw hK hc i pins s σ H E I hf st hg
  subst hP hw hK
  obtain ⟨f0,f1,f2,f3,f4,f5⟩:=hf it (by simp)
  exact wpAny_pyNext_range_end (I.ok.hd hc) st (by have:n≤i:=hg; omega) λ h' eb=>⟨Z,I.turned (t':=s.toks) (λ b o hb e=>eb b o hb e) f0 f1 f3 f4 f5⟩
 self:=λ _ _ _ _ _ st h=>wpAny_pyIter_rangeiter st h
end L2
namespace L2
open PySem PySem.Spec PyProof.Rows
section
variable {X:Cx} {tg:Expr}
def AdG (K:PySem.W.Frag) (tl:TE):TI:=λ σ H R=>tl σ H λ x H1=>∃ a,x = .ref a∧(∃ xs,SqL K H1 a xs)∧R (Itl K a) H1
def AdV (K:PySem.W.Frag) (tl:TE):TI:=λ σ H R=>tl σ H λ x H1=>∃ a,x = .ref a∧(∃ xs,SqT K H1 a xs)∧R (Itt K a) H1
theorem Cz {l:Expr} {tl:TE} (hl:PE X l tl):PI X tg l (AdG X.K tl):=by
 intro pins s σ H R I h
 refine thn (hl pins s σ H _ I h) λ v s1 ⟨x,H1,I1,r1,q1⟩=>?_
 obtain ⟨a,e,⟨xs,hq⟩,q⟩:=q1
 subst e
 cases r1
 obtain ⟨its,rv,p,hz⟩:=I1.list hq
 refine wpAny_pyIter_list p.isList ?_
 refine ⟨s1.heap.objs.size,[s1.heap.objs.size],_,_,H1,Z,I1.kept (t':=s1.toks) λ b o e=>Heap.get?_push_of_some _ e,Yg a _,⟨_,Heap.get?_push_size _ rfl,rfl,rfl⟩,λ b hb=>?_,q⟩
 have e:b = s1.heap.objs.size:=by simpa using hb
 subst e
 exact I1.fpOk (le_refl _) (I1.hok.fresh (le_refl _))
theorem Gf {l:Expr} {tl:TE} (hl:PE X l tl):PI X tg l (AdV X.K tl):=by
 intro pins s σ H R I h
 refine thn (hl pins s σ H _ I h) λ v s1 ⟨x,H1,I1,r1,q1⟩=>?_
 obtain ⟨a,e,⟨xs,hq⟩,q⟩:=q1
 subst e
 cases r1
 obtain ⟨its,rv,p,hz⟩:=I1.tuple hq
 refine wpAny_pyIter_tuple (show s1.heap.IsTuple a its.toArray from p) ?_
 refine ⟨s1.heap.objs.size,[s1.heap.objs.size],_,_,H1,Z,I1.kept (t':=s1.toks) λ b o e=>Heap.get?_push_of_some _ e,U2 a _,⟨_,Heap.get?_push_size _ rfl,rfl,rfl⟩,λ b hb=>?_,q⟩
 have e:b = s1.heap.objs.size:=by simpa using hb
 subst e
 exact I1.fpOk (le_refl _) (I1.hok.fresh (le_refl _))
theorem Y7 {pins:List (Addr× Obj)} {σ:St} {H:Hp} {s:Shared} {R:It→Hp→Prop} {E:Value→Shared→Prop} {lo hi:Int} {t u v:Tok} {tk:Nat} (I:Inv X pins σ H s) (h1:-(2 ^ 62)≤lo) (h2:lo < 2 ^ 62) (h3:-(2 ^ 62)≤hi) (h4:hi < 2 ^ 62)
  (q:R (Itr lo (hi - lo).toNat) H):wpAny (model X.prog X.w) X.A (pyIter (.ref s.heap.objs.size)) (PIE X pins σ tg R) E { s with heap:=s.heap.push { cls:=.type "range", data:=.fields #[.int lo t,.int hi u,.int 1 v] },toks:=tk }:=by
 refine wpAny_pyIter_range (IsRange.new ..) (small_one h1 h2 h3 h4) ?_
 have I1:Inv X pins σ H { s with heap:=s.heap.push { cls:=.type "range", data:=.fields #[.int lo t,.int hi u,.int 1 v] },toks:=tk }:=I.kept λ b o e=>Heap.get?_push_of_some _ e
 refine ⟨(s.heap.push { cls:=.type "range", data:=.fields #[.int lo t,.int hi u,.int 1 v] }).objs.size,[(s.heap.push { cls:=.type "range", data:=.fields #[.int lo t,.int hi u,.int 1 v] }).objs.size],_,_,H,rfl,
  I1.kept (t':=tk) λ b o e=>Heap.get?_push_of_some _ e,U1 _ lo (hi - lo).toNat,?_,λ b hb=>?_,q⟩
 ·have e1:lo + ((0:Nat):Int) * 1 = lo:=by simp
  have e2:(((hi - lo).toNat:Nat):Int) - ((0:Nat):Int) = Builtin.Range.rangeSize lo hi 1:=by rw [rangeSize_one]; split <;> omega
  show IsRangeIter _ _ (lo + ((0:Nat):Int) * 1) ((((hi - lo).toNat:Nat):Int) - ((0:Nat):Int)) 1
  rw [e1,e2]
  exact Heap.get?_push_size _ rfl
 ·have e:b = (s.heap.push { cls:=.type "range", data:=.fields #[.int lo t,.int hi u,.int 1 v] }).objs.size:=by simpa using hb
  subst e
  exact I1.fpOk (le_refl _) (I1.hok.fresh (le_refl _))
def AdE (ta:TA):TI:=λ σ H R=>ta σ H λ vs H1=>∃ j:Int,vs = [.int j]∧-(2 ^ 62)≤j∧j < 2 ^ 62∧R (Itr 0 j.toNat) H1
theorem E7 {a:Expr} {ta:TA} {p pos:Pos} (hg:Gl X "range") (hm:X.mg "range" = none) (ha:PA X [a] ta) (hs:starEach [a] X.env = [(false,eval a X.env)]:=by rfl):PI X tg (.Call (.Name "range" p) [a] [] pos) (AdE ta):=by
 intro pins s σ H R I h
 refine Call_ (Gh I hg hm boot_range (PyProof.Rows.callWith_type1 (thn (ha pos pins s σ H _ I h) λ us s1 ⟨vs,H1,I1,r1,q1⟩=>?_) hs rfl))
 obtain ⟨j,e,q1,q2,q⟩:=q1
 subst e
 cases r1 with
 | cons r rr =>
  cases rr
  obtain ⟨t,rfl⟩:=r
  exact call_range_1 (Y7 I1 (by omega) (by omega) q1 q2 (by simpa using q))
def AdR (wi:TI) (g:TG) (tb:TS):TS:=λ D σ H=>wi σ H λ J H1=>∃ W:Nat→Nat→St→Hp→Prop,(∃ m,W 0 m σ H1)∧∀ i m σ H,W i m σ H →
 (J.stop i H∧D.nx σ H)∨(J.go i H∧∃ N:St→Hp→Prop,(∀ σ' H',N σ' H'→∃ m',m' < m∧W (i + 1) m' σ' H')∧∀ x H',J.yld i H x H'→g x σ H' λ σ2 H2=>tb { D with nx:=N,ct:=N,bk:=D.nx } σ2 H2)
def Ge (fp:List Addr) (h:Heap):List (Addr× Obj):=fp.filterMap λ b=>(h.get? b).map λ o=>(b,o)
theorem Ih {fp:List Addr} {h:Heap} {b:Addr} {o:Obj} (hb:b∈fp) (e:h.get? b = some o):(b,o)∈Ge fp h:=mem_filterMap.mpr ⟨b,hb,by rw [e]; rfl⟩
theorem Qc {fp:List Addr} {h:Heap} {p:Addr× Obj} (hp:p∈Ge fp h):p.1∈fp∧h.get? p.1 = some p.2:=by
 obtain ⟨b,hb,e⟩:=mem_filterMap.mp hp
 cases q:h.get? b with
 | none=>rw [q] at e; cases e
 | some o =>
  rw [q] at e
  have e':(b,o) = p:=Option.some.inj e
  subst e'
  exact ⟨hb,q⟩
theorem Inv.pinned {pins:List (Addr× Obj)} {σ:St} {H:Hp} {s:Shared} {fp:List Addr} (I:Inv X pins σ H s) (hf:∀ b∈fp,Ja X pins H b) (ho:∀ b∈fp,∃ o,s.heap.get? b = some o∧∀ v,o.data≠.cell v):Inv X (pins ++ Ge fp s.heap) σ H s :=
 I.pins_of λ p hp=>(mem_append.mp hp).elim (λ z=>I.pin p (mem_append_right _ z)) λ z=>by
  obtain ⟨hb,e⟩:=Qc z
  obtain ⟨f0,f1,f2,_⟩:=hf p.1 hb
  obtain ⟨o,e',d⟩:=ho p.1 hb
  rw [e] at e'; cases e'
  exact ⟨e,f0,f1,f2,d⟩
theorem Inv.unpinned {pins pl:List (Addr× Obj)} {σ:St} {H:Hp} {s:Shared} (I:Inv X (pins ++ pl) σ H s):Inv X pins σ H s:=I.pins_of λ p hp=>I.pin p (mem_append_right _ (mem_append_left _ hp))
theorem Dr {iter:Expr} {body:List Stmt} {wi:TI} {g:TG} {tb:TS} {pos:Pos} (hp:PassesOwn (model X.prog X.w) X.A X.env X.xe) (hc:X.calm = true) (hi:PI X tg iter wi) (hg:PG X tg g) (hb:PSs X body tb)
  (hs:∀ x,foldedSetIterable iter X.env x = pure x:=by intro _; rfl):PS X (.For tg iter body [] pos) (AdR wi g tb):=by
 intro pins s σ H D I h
 refine wpAny_For (thn (hi pins s σ H _ I h) λ v s1 h1=>thn h1 λ itv s2 h2=>?_) hs
 obtain ⟨it,fp,tn,J,H2,e,I2,T,st2,f2,W,⟨m0,w0⟩,turn⟩:=h2
 subst e
 have stat:∀ {H':Hp},(∀ b∈fp,H' b = none)→∀ b∈fp,Ja X pins H' b:=λ hn b hb=>⟨hn b hb,(f2 b hb).2⟩
 refine codeAny_forLoop_any (λ n s'=>∃ i σ' H',Inv X pins σ' H' s'∧tn i s'.heap∧(∀ b∈fp,H' b = none)∧W i n σ' H') ?_ m0 ⟨0,σ,H2,I2,st2,λ b hb=>(f2 b hb).1,w0⟩
 rintro n s3 ⟨i,σ3,H3,I3,st3,fr3,w3⟩
 rcases turn i n σ3 H3 w3 with ⟨stop,qn⟩ | ⟨go,N,hN,step⟩
 ·refine wpAny_passesOwn hp (thn (T.done X rfl rfl rfl hc i pins s3 σ3 H3 X.xe I3 (stat fr3) st3 stop) λ r s4 ⟨hr,I4⟩=>?_)
  subst hr
  exact wpAny_execs_nil ⟨σ3,H3,I4,qn⟩
 ·refine wpAny_passesOwn hp (thn (T.item X rfl rfl rfl hc i pins s3 σ3 H3 X.xe I3 (stat fr3) st3 go) λ r s4 ⟨u,hr,h4⟩=>?_)
  subst hr
  refine wpAny_passesOwn hp (thn h4 λ _ s5 ⟨x,H5,I5,r5,y5,st5,fr5⟩=>?_)
  have I5':=I5.pinned (stat fr5) (T.obj _ _ st5)
  refine wpAny_passesOwn hp (thn (hg _ s5 σ3 H5 x u _ I5' r5 (step x H5 y5)) λ _ s6 ⟨σ6,H6,I6,q6⟩=>?_)
  refine wpAny_passesOwn hp (thn (hb _ s6 σ6 H6 _ I6 q6) λ f s7 q7=>?_)
  have again:∀ {σ7:St} {H7:Hp},Inv X (pins ++ Ge fp s5.heap) σ7 H7 s7→N σ7 H7→∃ m,m < n∧∃ i σ' H',Inv X pins σ' H' s7∧tn i s7.heap∧(∀ b∈fp,H' b = none)∧W i m σ' H':=λ {σ7 H7} I7 n7=>by
   obtain ⟨m',hm,w7⟩:=hN σ7 H7 n7
   refine ⟨m',hm,i + 1,σ7,H7,I7.unpinned,T.keep _ _ _ st5 λ b hb o e=>(I7.pin (b,o) (mem_append_right _ (mem_append_right _ (Ih hb e)))).1,λ b hb=>?_,w7⟩
   obtain ⟨o,e,d⟩:=T.obj _ _ st5 b hb
   exact (I7.pin (b,o) (mem_append_right _ (mem_append_right _ (Ih hb e)))).2.1
  cases f with
  | next=>obtain ⟨σ7,H7,I7,n7⟩:=q7; exact again I7 n7
  | cont=>obtain ⟨σ7,H7,I7,n7⟩:=q7; exact again I7 n7
  | brk=>obtain ⟨σ7,H7,I7,q7⟩:=q7; exact ⟨σ7,H7,I7.unpinned,q7⟩
  | ret v=>obtain ⟨x7,σ7,H7,I7,r7,q7⟩:=q7; exact ⟨x7,σ7,H7,I7.unpinned,r7,q7⟩
end
theorem F0 {K:PySem.W.Frag} {a:Addr} {xs:List V} {g:TG} {tb:TS} {D:Jh} {σ:St} {H:Hp} (Pv:Nat→St→Hp→Prop) (h0:Pv 0 σ H) (hl:∀ i σ H,i≤xs.length→Pv i σ H→SqL K H a xs)
  (hs:∀ i x σ H,xs[i]? = some x→Pv i σ H→g x σ H λ σ2 H2=>tb { D with nx:=Pv (i + 1),ct:=Pv (i + 1),bk:=D.nx } σ2 H2) (hd:∀ σ H,Pv xs.length σ H→D.nx σ H) :
  ∃ W:Nat→Nat→St→Hp→Prop,(∃ m,W 0 m σ H)∧∀ i m σ H,W i m σ H →
   ((Itl K a).stop i H∧D.nx σ H)∨((Itl K a).go i H∧∃ N:St→Hp→Prop,(∀ σ' H',N σ' H'→∃ m',m' < m∧W (i + 1) m' σ' H')∧∀ x H',(Itl K a).yld i H x H'→g x σ H' λ σ2 H2=>tb { D with nx:=N,ct:=N,bk:=D.nx } σ2 H2):=by
 refine ⟨λ i m σ H=>m = xs.length - i∧i≤xs.length∧Pv i σ H,⟨xs.length,by simp,zero_le _,h0⟩,?_⟩
 rintro i m σ H ⟨rfl,hi,p⟩
 have q:=hl i σ H hi p
 by_cases hlt:i < xs.length
 ·refine .inr ⟨⟨xs,xs[i],q,by simp [hlt]⟩,Pv (i + 1),λ σ' H' p'=>⟨xs.length - (i + 1),by omega,rfl,hlt,p'⟩,λ x H' y=>?_⟩
  obtain ⟨e,y⟩:=y
  subst e
  exact hs i x σ _ (y xs q) p
 ·have e:i = xs.length:=by omega
  subst e
  exact .inl ⟨⟨xs,q,le_refl _⟩,hd σ H p⟩
theorem Iv {K:PySem.W.Frag} {a:Addr} {xs:List V} {g:TG} {tb:TS} {D:Jh} {σ:St} {H:Hp} (Pv:Nat→St→Hp→Prop) (h0:Pv 0 σ H) (hl:∀ i σ H,i≤xs.length→Pv i σ H→SqT K H a xs)
  (hs:∀ i x σ H,xs[i]? = some x→Pv i σ H→g x σ H λ σ2 H2=>tb { D with nx:=Pv (i + 1),ct:=Pv (i + 1),bk:=D.nx } σ2 H2) (hd:∀ σ H,Pv xs.length σ H→D.nx σ H) :
  ∃ W:Nat→Nat→St→Hp→Prop,(∃ m,W 0 m σ H)∧∀ i m σ H,W i m σ H →
   ((Itt K a).stop i H∧D.nx σ H)∨((Itt K a).go i H∧∃ N:St→Hp→Prop,(∀ σ' H',N σ' H'→∃ m',m' < m∧W (i + 1) m' σ' H')∧∀ x H',(Itt K a).yld i H x H'→g x σ H' λ σ2 H2=>tb { D with nx:=N,ct:=N,bk:=D.nx } σ2 H2):=by
 refine ⟨λ i m σ H=>m = xs.length - i∧i≤xs.length∧Pv i σ H,⟨xs.length,by simp,zero_le _,h0⟩,?_⟩
 rintro i m σ H ⟨rfl,hi,p⟩
 have q:=hl i σ H hi p
 by_cases hlt:i < xs.length
 ·refine .inr ⟨⟨xs,xs[i],q,by simp [hlt]⟩,Pv (i + 1),λ σ' H' p'=>⟨xs.length - (i + 1),by omega,rfl,hlt,p'⟩,λ x H' y=>?_⟩
  obtain ⟨e,y⟩:=y
  subst e
  exact hs i x σ _ (y xs q) p
 ·have e:i = xs.length:=by omega
  subst e
  exact .inl ⟨⟨xs,q,le_refl _⟩,hd σ H p⟩
theorem Pp {lo:Int} {n:Nat} {g:TG} {tb:TS} {D:Jh} {σ:St} {H:Hp} (Pv:Nat→St→Hp→Prop) (h0:Pv 0 σ H)
  (hs:∀ i σ H,i < n→Pv i σ H→g (.int (lo + i)) σ H λ σ2 H2=>tb { D with nx:=Pv (i + 1),ct:=Pv (i + 1),bk:=D.nx } σ2 H2) (hd:∀ σ H,Pv n σ H→D.nx σ H) :
  ∃ W:Nat→Nat→St→Hp→Prop,(∃ m,W 0 m σ H)∧∀ i m σ H,W i m σ H →
   ((Itr lo n).stop i H∧D.nx σ H)∨((Itr lo n).go i H∧∃ N:St→Hp→Prop,(∀ σ' H',N σ' H'→∃ m',m' < m∧W (i + 1) m' σ' H')∧∀ x H',(Itr lo n).yld i H x H'→g x σ H' λ σ2 H2=>tb { D with nx:=N,ct:=N,bk:=D.nx } σ2 H2):=by
 refine ⟨λ i m σ H=>m = n - i∧i≤n∧Pv i σ H,⟨n,by simp,zero_le _,h0⟩,?_⟩
 rintro i m σ H ⟨rfl,hi,p⟩
 by_cases hlt:i < n
 ·refine .inr ⟨hlt,Pv (i + 1),λ σ' H' p'=>⟨n - (i + 1),by omega,rfl,hlt,p'⟩,λ x H' y=>?_⟩
  obtain ⟨e,y⟩:=y
  subst e y
  exact hs i σ _ hlt p
 ·have e:i = n:=by omega
  subst e
  exact .inl ⟨le_refl _,hd σ H p⟩
theorem Qu {c:TT} {tb:TS} {D:Jh} {σ:St} {H:Hp} (Pv:St→Hp→Prop) (μ:St→Hp→Nat) (h0:Pv σ H)
  (hs:∀ σ H,Pv σ H→c σ H λ b H1=>if b = true then tb { D with nx:=λ σ' H'=>Pv σ' H'∧μ σ' H' < μ σ H,ct:=λ σ' H'=>Pv σ' H'∧μ σ' H' < μ σ H,bk:=D.nx } σ H1 else D.nx σ H1)
  (mono:∀ σ H Q Q',(∀ b H1,Q b H1→Q' b H1)→c σ H Q→c σ H Q'):Wp c tb D σ H:=by
 refine ⟨λ m σ H=>m = μ σ H∧Pv σ H,⟨_,Z,h0⟩,?_⟩
 rintro m σ H ⟨rfl,p⟩
 refine mono σ H _ _ (λ b H1 q=>?_) (hs σ H p)
 cases b with
 | true=>exact ⟨_,λ σ' H' ⟨p',l⟩=>⟨_,l,rfl,p'⟩,q⟩
 | false=>exact q
end L2
namespace L2
open PySem PySem.Spec PyProof.Rows
abbrev R2:=V→V→Hp→VK→Prop
def OpR (X:Cx) (f:Value→Value→Sem Value) (r:R2):Prop :=
 ∀ (pins:List (Addr× Obj)) (s:Shared) (σ:St) (H:Hp) (x y:V) (v u:Value) (Q:VK),Inv X pins σ H s→Bd x v→Bd y u→r x y H Q →
  wpAny (model X.prog X.w) X.A (f v u) (EP X pins σ Q) X.xe s
def UnR (X:Cx) (f:Value→Sem Value) (r:V→Hp→VK→Prop):Prop :=
 ∀ (pins:List (Addr× Obj)) (s:Shared) (σ:St) (H:Hp) (x:V) (v:Value) (Q:VK),Inv X pins σ H s→Bd x v→r x H Q →
  wpAny (model X.prog X.w) X.A (f v) (EP X pins σ Q) X.xe s
def Fy (X:Cx) (f:Value) (r:List V→Hp→VK→Prop):Prop :=
 ∀ (pins:List (Addr× Obj)) (s:Shared) (σ:St) (H:Hp) (xs:List V) (us:List Value) (Q:VK),Inv X pins σ H s→Bb xs us→r xs H Q →
  wpAny (model X.prog X.w) X.A (call f us) (EP X pins σ Q) X.xe s
def AdY (X:Cx) (r:V→Hp→(Bool→Hp→Prop)→Prop):Prop :=
 ∀ (pins:List (Addr× Obj)) (s:Shared) (σ:St) (H:Hp) (x:V) (v:Value) (Q:Bool→Hp→Prop),Inv X pins σ H s→Bd x v→r x H Q →
  wpAny (model X.prog X.w) X.A (truthy v) (TP X pins σ Q) X.xe s
def tOp (r:R2) (ta tb:TE):TE:=λ σ H Q=>ta σ H λ x H1=>tb σ H1 λ y H2=>r x y H2 Q
def tUn (r:V→Hp→VK→Prop) (ta:TE):TE:=λ σ H Q=>ta σ H λ x H1=>r x H1 Q
inductive Acp (C:Int→Int→Prop) (g:Int→Int→V) (x y:V) (H:Hp) (Q:VK):Prop
 | mk (i) (j) (_:x = .int i) (_:y = .int j) (_:C i j) (_:Q (g i j) H):Acp C g x y H Q
def rI (C:Int→Int→Prop) (g:Int→Int→V):R2:=λ x y H Q=>Acp C g x y H Q
inductive Aad (g:Int→Int→V) (x y:V) (H:Hp) (Q:VK):Prop
 | mk (i) (j) (_:x = .int i) (_:y = .int j) (_:Q (g i j) H):Aad g x y H Q
def rI0 (g:Int→Int→V):R2:=λ x y H Q=>Aad g x y H Q
def rU (g:Int→V):V→Hp→VK→Prop:=λ x H Q=>∃ i,x = .int i∧Q (g i) H
section
variable {X:Cx} {a b c:Expr} {ta tb tc:TE} {pos:Pos}
theorem AaR (ha:PE X a ta) (hb:PE X b tb) {pins:List (Addr× Obj)} {s:Shared} {σ:St} {H:Hp} {R:V→V→Hp→Prop} (I:Inv X pins σ H s)
  (h:ta σ H λ x H1=>tb σ H1 λ y H2=>R x y H2) {Q:Value→Shared→Prop} {f:Value→Value→Sem Value}
  (hf:∀ v u s2 x y H2,Inv X pins σ H2 s2→Bd x v→Bd y u→R x y H2→wpAny (model X.prog X.w) X.A (f v u) Q X.xe s2) :
  wpAny (model X.prog X.w) X.A (eval a X.env) (λ v s₁=>wpAny (model X.prog X.w) X.A (eval b X.env) (λ u s₂=>wpAny (model X.prog X.w) X.A (f v u) Q X.xe s₂) X.xe s₁) X.xe s:=by
 refine thn (ha pins s σ H _ I h) λ v s1 ⟨x,H1,I1,r1,q1⟩=>?_
 refine thn (hb pins s1 σ H1 _ I1 q1) λ u s2 ⟨y,H2,I2,r2,q2⟩=>?_
 exact hf v u s2 x y H2 I2 r1 r2 q2
theorem Bj {op:Operator} {r:R2} (ho:OpR X (binaryOp op) r) (ha:PE X a ta) (hb:PE X b tb):PE X (.BinOp a op b pos) (tOp r ta tb):=by
 intro pins s σ H Q I h
 exact wpAny_BinOp (AaR ha hb I h λ v u s2 x y H2 I2 rx ry q=>ho pins s2 σ H2 x y v u Q I2 rx ry q)
theorem Mj {op:UnaryOp} {r:V→Hp→VK→Prop} (ho:UnR X (unaryOp op) r) (ha:PE X a ta):PE X (.UnaryOp op a pos) (tUn r ta):=by
 intro pins s σ H Q I h
 exact UnaryOp_ (thn (ha pins s σ H _ I h) λ v s1 ⟨x,H1,I1,r1,q1⟩=>ho pins s1 σ H1 x v Q I1 r1 q1)
theorem opI {f:Value→Value→Sem Value} {C:Int→Int→Prop} {g:Int→Int→Int}
  (rule:∀ (i j:Int) (t u:Tok) (s:Shared) (Q:Value→Shared→Prop) (E:Value→Shared→Prop),C i j→Q (.int (g i j) s.toks) { s with toks:=s.toks + 1 }→wpAny (model X.prog X.w) X.A (f (.int i t) (.int j u)) Q E s) :
  OpR X f (rI C λ i j=>.int (g i j)):=by
 intro pins s σ H x y v u Q I rx ry h
 obtain ⟨i,j,rfl,rfl,hc,q⟩:=h
 obtain ⟨t,rfl⟩:=rx
 obtain ⟨t',rfl⟩:=ry
 exact rule i j t t' s _ _ hc ⟨.int (g i j),H,I.tok _,⟨_,Z⟩,q⟩
theorem AcY {f:Value→Value→Sem Value} {g:Int→Int→Int}
  (rule:∀ (i j:Int) (t u:Tok) (s:Shared) (Q:Value→Shared→Prop) (E:Value→Shared→Prop),Q (.int (g i j) s.toks) { s with toks:=s.toks + 1 }→wpAny (model X.prog X.w) X.A (f (.int i t) (.int j u)) Q E s) :
  OpR X f (rI0 λ i j=>.int (g i j)):=by
 intro pins s σ H x y v u Q I rx ry h
 obtain ⟨i,j,rfl,rfl,q⟩:=h
 obtain ⟨t,rfl⟩:=rx
 obtain ⟨t',rfl⟩:=ry
 exact rule i j t t' s _ _ ⟨.int (g i j),H,I.tok _,⟨_,Z⟩,q⟩
theorem Vf {f:Value→Value→Sem Value} {g:Int→Int→Bool}
  (rule:∀ (i j:Int) (t u:Tok) (s:Shared) (Q:Value→Shared→Prop) (E:Value→Shared→Prop),Q (.bool (g i j)) s→wpAny (model X.prog X.w) X.A (f (.int i t) (.int j u)) Q E s) :
  OpR X f (rI0 λ i j=>.bl (g i j)):=by
 intro pins s σ H x y v u Q I rx ry h
 obtain ⟨i,j,rfl,rfl,q⟩:=h
 obtain ⟨t,rfl⟩:=rx
 obtain ⟨t',rfl⟩:=ry
 exact rule i j t t' s _ _ ⟨.bl (g i j),H,I,Z,q⟩
def Adb (i j:Int):Prop:=0 < j∧j < 1073741824
def AaH (i j:Int):Prop:=(-(2 ^ 64) < i∧i < 2 ^ 64)∨(-(2 ^ 64) < j∧j < 2 ^ 64)
theorem AaH.ok {i j:Int} (h:AaH i j):IntMulOk i j:=by
 rcases h with ⟨h1,h2⟩ | ⟨h1,h2⟩
 ·exact .of_left (intBits_le_64 h1 h2)
 ·exact .of_right (intBits_le_64 h1 h2)
theorem Ds:OpR X (binaryOp .Add) (rI0 λ i j=>.int (i + j)):=AcY λ _ _ _ _ _ _ _ q=>add_int q
theorem Nf:OpR X (binaryOp .Sub) (rI0 λ i j=>.int (i - j)):=AcY λ _ _ _ _ _ _ _ q=>sub_int q
theorem Sb:OpR X (binaryOp .Mult) (rI AaH λ i j=>.int (i * j)):=opI λ _ _ _ _ _ _ _ hc q=>mul_int q hc.ok
theorem Er:OpR X (binaryOp .FloorDiv) (rI Adb λ i j=>.int (i / j)):=opI λ i j _ _ _ _ _ hc q=>by
 have h1:(0:Int) < j:=hc.1
 have h2:j < 1073741824:=hc.2
 exact floordiv_int (by omega) (by rw [Int.fdiv_eq_ediv_of_nonneg i (by omega)]; exact q) (.inl (PyProof.noPylong_small (by omega)))
theorem C6:OpR X (binaryOp .Mod) (rI (λ _ j=>0 < j) λ i j=>.int (i % j)):=opI λ i j _ _ _ _ _ hc q=>by
 have h1:(0:Int) < j:=hc
 exact mod_int' (by omega) (by rw [Int.fmod_eq_emod_of_nonneg i (by omega)]; exact q)
theorem unI {f:Value→Sem Value} {g:Int→Int}
  (rule:∀ (i:Int) (t:Tok) (s:Shared) (Q:Value→Shared→Prop) (E:Value→Shared→Prop),Q (.int (g i) s.toks) { s with toks:=s.toks + 1 }→wpAny (model X.prog X.w) X.A (f (.int i t)) Q E s) :
  UnR X f (rU λ i=>.int (g i)):=by
 intro pins s σ H x v Q I rx h
 obtain ⟨i,rfl,q⟩:=h
 obtain ⟨t,rfl⟩:=rx
 exact rule i t s _ _ ⟨.int (g i),H,I.tok _,⟨_,Z⟩,q⟩
theorem Kc:UnR X (unaryOp .USub) (rU λ i=>.int (-i)):=unI λ _ _ _ _ _ q=>neg_int q
end
def Acr:V→V→Bool
 | .non,.non=>true | .non,.int _=>true | .int _,.non=>true | .non,.bl _=>true | .bl _,.non=>true | .non,.str _=>true | .str _,.non=>true
 | .int _,.int _=>true | .bl _,.bl _=>true | .str _,.str _=>true | .byt _,.byt _=>true
 | .int _,.str _=>true | .str _,.int _=>true | .bl _,.str _=>true | .str _,.bl _=>true
 | _,_=>false
def rEq:R2:=λ x y H Q=>Acr x y = true∧Q (.bl (decide (x = y))) H
def rNe:R2:=λ x y H Q=>Acr x y = true∧Q (.bl (!decide (x = y))) H
theorem Tc {i j:Int}:decide (V.int i = V.int j) = (i == j):=by
 rw [Bool.eq_iff_iff]
 simp
theorem Wy {i j:Bool}:decide (V.bl i = V.bl j) = (i == j):=by
 rw [Bool.eq_iff_iff]
 simp
theorem Ui {i j:Str}:decide (V.str i = V.str j) = (i == j):=by
 rw [Bool.eq_iff_iff]
 simp
theorem Uo {i j:Array UInt8}:decide (V.byt i = V.byt j) = (i.toList == j.toList):=by
 rw [Bool.eq_iff_iff]
 cases i
 cases j
 simp
section
variable {X:Cx} {a b c:Expr} {ta tb tc:TE} {pos:Pos}
theorem Bw {pins:List (Addr× Obj)} {σ:St} {H:Hp} {s:Shared} {Q:VK} {k k':Bool} (I:Inv X pins σ H s) (q:Q (.bl k) H) (e:k = k'):EP X pins σ Q (.bool k') s:=by
 subst e
 exact ⟨.bl k,H,I,Z,q⟩
theorem Bm:OpR X (compareOp .Eq) rEq:=by
 intro pins s σ H x y v u Q I rx ry h
 obtain ⟨hs,q⟩:=h
 cases x with
 | non =>
  cases rx
  cases y with
  | non=>cases ry; exact PySem.EqNone.eq_none_none (Bw I q (by simp))
  | bl j=>cases ry; exact PySem.EqNone.eq_none_bool (Bw I q (by simp))
  | int j=>obtain ⟨t',rfl⟩:=ry; exact PySem.EqNone.eq_none_int (Bw I q (by simp))
  | str j=>obtain ⟨t',rfl⟩:=ry; exact PySem.EqNone.eq_none_str (Bw I q (by simp))
  | _=>exact absurd (show false = true from hs) Bool.false_ne_true
 | bl i =>
  cases rx
  cases y with
  | non=>cases ry; exact PySem.EqNone.eq_bool_none (Bw I q (by simp))
  | bl j=>cases ry; exact eq_bool (Bw I q Wy)
  | str j=>obtain ⟨t',rfl⟩:=ry; exact PySem.EqMixed.eq_bool_str (Bw I q (by simp))
  | _=>exact absurd (show false = true from hs) Bool.false_ne_true
 | int i =>
  obtain ⟨t,rfl⟩:=rx
  cases y with
  | non=>cases ry; exact PySem.EqNone.eq_int_none (Bw I q (by simp))
  | int j=>obtain ⟨t',rfl⟩:=ry; exact eq_int (Bw I q Tc)
  | str j=>obtain ⟨t',rfl⟩:=ry; exact PySem.EqMixed.eq_int_str (Bw I q (by simp))
  | _=>exact absurd (show false = true from hs) Bool.false_ne_true
 | str i =>
  obtain ⟨t,rfl⟩:=rx
  cases y with
  | non=>cases ry; exact PySem.EqNone.eq_str_none (Bw I q (by simp))
  | bl j=>cases ry; exact PySem.EqMixed.eq_str_bool (Bw I q (by simp))
  | int j=>obtain ⟨t',rfl⟩:=ry; exact PySem.EqMixed.eq_str_int (Bw I q (by simp))
  | str j=>obtain ⟨t',rfl⟩:=ry; exact eq_str (Bw I q Ui)
  | _=>exact absurd (show false = true from hs) Bool.false_ne_true
 | byt i =>
  obtain ⟨t,rfl⟩:=rx
  cases y with
  | byt j=>obtain ⟨t',rfl⟩:=ry; exact PySem.W.eq_bytes (Bw I q Uo)
  | _=>exact absurd (show false = true from hs) Bool.false_ne_true
 | _=>cases y <;> exact absurd (show false = true from hs) Bool.false_ne_true
theorem Mc:OpR X (compareOp .NotEq) rNe:=by
 intro pins s σ H x y v u Q I rx ry h
 obtain ⟨hs,q⟩:=h
 cases x with
 | non =>
  cases rx
  cases y with
  | non=>cases ry; exact PySem.EqNone.ne_none_none (Bw I q (by simp))
  | bl j=>cases ry; exact PySem.EqNone.ne_none_bool (Bw I q (by simp))
  | int j=>obtain ⟨t',rfl⟩:=ry; exact PySem.EqNone.ne_none_int (Bw I q (by simp))
  | str j=>obtain ⟨t',rfl⟩:=ry; exact PySem.EqNone.ne_none_str (Bw I q (by simp))
  | _=>exact absurd (show false = true from hs) Bool.false_ne_true
 | bl i =>
  cases rx
  cases y with
  | non=>cases ry; exact PySem.EqNone.ne_bool_none (Bw I q (by simp))
  | bl j=>cases ry; exact ne_bool (Bw I q (congrArg not Wy))
  | str j=>obtain ⟨t',rfl⟩:=ry; exact PySem.EqMixed.ne_bool_str (Bw I q (by simp))
  | _=>exact absurd (show false = true from hs) Bool.false_ne_true
 | int i =>
  obtain ⟨t,rfl⟩:=rx
  cases y with
  | non=>cases ry; exact PySem.EqNone.ne_int_none (Bw I q (by simp))
  | int j=>obtain ⟨t',rfl⟩:=ry; exact ne_int (Bw I q (congrArg not Tc))
  | str j=>obtain ⟨t',rfl⟩:=ry; exact PySem.EqMixed.ne_int_str (Bw I q (by simp))
  | _=>exact absurd (show false = true from hs) Bool.false_ne_true
 | str i =>
  obtain ⟨t,rfl⟩:=rx
  cases y with
  | non=>cases ry; exact PySem.EqNone.ne_str_none (Bw I q (by simp))
  | bl j=>cases ry; exact PySem.EqMixed.ne_str_bool (Bw I q (by simp))
  | int j=>obtain ⟨t',rfl⟩:=ry; exact PySem.EqMixed.ne_str_int (Bw I q (by simp))
  | str j=>obtain ⟨t',rfl⟩:=ry; exact ne_str (Bw I q (congrArg not Ui))
  | _=>exact absurd (show false = true from hs) Bool.false_ne_true
 | byt i =>
  obtain ⟨t,rfl⟩:=rx
  cases y with
  | byt j=>obtain ⟨t',rfl⟩:=ry; exact PySem.W.ne_bytes (Bw I q (congrArg not Uo))
  | _=>exact absurd (show false = true from hs) Bool.false_ne_true
 | _=>cases y <;> exact absurd (show false = true from hs) Bool.false_ne_true
theorem Hd:OpR X (compareOp .Lt) (rI0 λ i j=>.bl (decide (i < j))):=Vf λ _ _ _ _ _ _ _ q=>lt_int q
theorem Vl:OpR X (compareOp .LtE) (rI0 λ i j=>.bl (decide (i≤j))):=Vf λ _ _ _ _ _ _ _ q=>le_int q
theorem V1:OpR X (compareOp .Gt) (rI0 λ i j=>.bl (decide (j < i))):=Vf λ _ _ _ _ _ _ _ q=>gt_int q
theorem Aaq:OpR X (compareOp .GtE) (rI0 λ i j=>.bl (decide (j≤i))):=Vf λ _ _ _ _ _ _ _ q=>ge_int q
theorem Ax (b:Expr) {op:CmpOp} (h:op≠.In:=by decide) (h2:op≠.NotIn:=by decide):behindInMarks op b = false:=by
 have e1:(op == CmpOp.In) = false:=by cases op <;> first | rfl | exact absurd rfl h
 have e2:(op == CmpOp.NotIn) = false:=by cases op <;> first | rfl | exact absurd rfl h2
 cases b <;> simp [behindInMarks,e1,e2]
theorem Fe {op:CmpOp} {r:R2} (ho:OpR X (compareOp op) r) (ha:PE X a ta) (hb:PE X b tb) (hm:behindInMarks op b = false):PE X (.Compare a [op] [b] pos) (tOp r ta tb):=by
 intro pins s σ H Q I h
 exact wpAny_Compare1 (AaR ha hb I h λ v u s2 x y H2 I2 rx ry q=>ho pins s2 σ H2 x y v u Q I2 rx ry q) hm
def Kn (t:TE):TT:=λ σ H Q=>t σ H λ x H'=>Zd x H' Q
theorem As {op:CmpOp} {r:R2} (ho:OpR X (compareOp op) r) (ha:PE X a ta) (hb:PE X b tb) (hm:behindInMarks op b = false):PT X (.Compare a [op] [b] pos) (Kn (tOp r ta tb)):=by
 intro pins s σ H Q I h
 refine wpAny_isTrue_Compare1 (thn (ha pins s σ H _ I h) λ v s1 ⟨x,H1,I1,r1,q1⟩=>thn (hb pins s1 σ H1 _ I1 q1) λ u s2 ⟨y,H2,I2,r2,q2⟩ =>
  thn (ho pins s2 σ H2 x y v u _ I2 r1 r2 q2) λ c s3 ⟨z,H3,I3,r3,k,e,q3⟩=>?_) hm
 subst e
 cases r3
 exact wpAny_truthy_bool ⟨H3,I3,q3⟩
def Qt (r r':R2) (ta tb tc:TE):TE:=λ σ H Q=>ta σ H λ x H1=>tb σ H1 λ y H2=>r x y H2 λ z H3=>∃ k,z = .bl k ∧
 (if k = true then tc σ H3 λ w' H4=>r' y w' H4 Q else Q (.bl false) H3)
theorem Q0 {op op':CmpOp} {r r':R2} (ho:OpR X (compareOp op) r) (ho':OpR X (compareOp op') r') (ha:PE X a ta) (hb:PE X b tb) (hc:PE X c tc)
  (hm:lastMarks [op,op'] [b,c] = false:=by with_unfolding_all rfl):PE X (.Compare a [op,op'] [b,c] pos) (Qt r r' ta tb tc):=by
 intro pins s σ H Q I h
 refine Compare_chain (thn (ha pins s σ H _ I h) λ v s1 ⟨x,H1,I1,r1,q1⟩=>chain_link (thn (hb pins s1 σ H1 _ I1 q1) λ u s2 ⟨y,H2,I2,r2,q2⟩ =>
  thn (ho pins s2 σ H2 x y v u _ I2 r1 r2 q2) λ d s3 ⟨z,H3,I3,r3,k,e,q3⟩=>?_)) hm
 subst e
 cases r3
 refine wpAny_truthy_bool ?_
 cases k with
 | false=>exact ite_ff ⟨.bl false,H3,I3,rfl,q3⟩
 | true=>exact ite_tt (chain_last (thn (hc pins s3 σ H3 _ I3 q3) λ w' s4 ⟨z',H4,I4,r4,q4⟩=>ho' pins s4 σ H4 y z' u w' Q I4 r2 r4 q4))
def AcI (K:PySem.W.Frag) (x:V) (H:Hp) (k:Bool):Prop :=
 match x with
 | .non=>k = false
 | .bl b=>k = b
 | .int i=>k = (i != 0)
 | .str y=>y.length≤sizeLine∧k = ((y.length:Int) != 0)
 | .byt y=>y.size≤sizeLine∧k = ((y.size:Int) != 0)
 | .ref p=>(∃ xs,SqL K H p xs∧k = !xs.isEmpty)∨(∃ xs,SqT K H p xs∧k = !xs.isEmpty)∨∃ kvs,H p = some (.dK kvs)∧k = !kvs.isEmpty
 | _=>False
theorem Uq {κ:Type} {kvs:List (κ× V)} {vs:List (κ× Value)} (r:KV kvs vs):(!vs.isEmpty) = !kvs.isEmpty:=by
 cases r <;> rfl
theorem No {xs:List V} {its:List Value} (r:Bb xs its):(!its.toArray.isEmpty) = !xs.isEmpty:=by
 cases r <;> simp
theorem Lh:(sizeLine:Nat) < 2 ^ 63:=by rw [sizeLine_eq]; decide
theorem Aci:AdY X (λ x H Q=>∃ k,AcI X.K x H k∧Q k H):=by
 intro pins s σ H x v Q I rx h
 obtain ⟨k,e,q⟩:=h
 have hl:=Lh
 have hs:sizeLine = 16777216:=sizeLine_eq
 cases x with
 | non =>
  cases rx
  have e':k = false:=e
  subst e'
  exact truthy_none ⟨H,I,q⟩
 | bl b =>
  cases rx
  have e':k = b:=e
  subst e'
  exact wpAny_truthy_bool ⟨H,I,q⟩
 | int i =>
  obtain ⟨t,rfl⟩:=rx
  have e':k = (i != 0):=e
  subst e'
  exact PySem.P.truthy_int ⟨H,I,q⟩
 | str y =>
  obtain ⟨t,rfl⟩:=rx
  obtain ⟨hy,e'⟩:y.length≤sizeLine∧k = ((y.length:Int) != 0):=e
  subst e'
  exact PySem.P.truthy_str (by omega) ⟨H,I.tok _,q⟩
 | byt y =>
  obtain ⟨t,rfl⟩:=rx
  obtain ⟨hy,e'⟩:y.size≤sizeLine∧k = ((y.size:Int) != 0):=e
  subst e'
  exact PySem.W.truthy_bytes (by omega) ⟨H,I.tok _,q⟩
 | ref p =>
  cases rx
  have e':(∃ xs,SqL X.K H p xs∧k = !xs.isEmpty)∨(∃ xs,SqT X.K H p xs∧k = !xs.isEmpty)∨∃ kvs,H p = some (.dK kvs)∧k = !kvs.isEmpty:=e
  rcases e' with ⟨xs,hx,e'⟩ | ⟨xs,hx,e'⟩ | ⟨kvs,hx,e'⟩
  ·subst e'
   obtain ⟨its,r,pl,hz⟩:=I.list hx
   have hlen:=r.length
   exact wpAny_truthy_list pl.isList (by simp only [size_toArray]; omega) ⟨H,I.tok _,by rw [No r]; exact q⟩
  ·subst e'
   obtain ⟨its,r,pl,hz⟩:=I.tuple hx
   have hlen:=r.length
   exact truthy_tuple pl (by simp only [size_toArray]; omega) ⟨H,I.tok _,by rw [No r]; exact q⟩
  ·subst e'
   obtain ⟨hz,hS,vs,r,m⟩:kvs.length≤sizeLine∧(p == sysModules) = false∧∃ vs,KV kvs vs∧s.heap.DictOf (mixKind X.prog X.w) p vs:=I.hok p _ hx
   have hlen:kvs.length = vs.length:=Paired.length r
   exact wpAny_truthy_dict hS m (by omega) ⟨H,I.tok _,by rw [Uq r]; exact q⟩
 | _=>exact (show False from e).elim
theorem AaF (ha:PE X a ta) (he:∀ whole,isTrue a X.env whole = (do let v ← whole; standAt a.pos; holding [v] (truthy v))) :
  PT X a (λ σ H Q=>ta σ H λ x H'=>∃ k,AcI X.K x H' k∧Q k H'):=by
 intro pins s σ H Q I h
 exact isTrue_plain (thn (ha pins s σ H _ I h) λ v s1 ⟨x,H1,I1,r1,q1⟩=>Aci pins s1 σ H1 x v Q I1 r1 q1) (he _)
theorem Qs {x:V} {us:List Value} (r:Bb [x] us):∃ u,us = [u]∧Bd x u:=by
 cases r with
 | cons r1 r2=>cases r2; exact ⟨_,rfl,r1⟩
theorem Ac3 {x y:V} {us:List Value} (r:Bb [x,y] us):∃ u w',us = [u,w']∧Bd x u∧Bd y w':=by
 cases r with
 | cons r1 r2 =>
  cases r2 with
  | cons r3 r4=>cases r4; exact ⟨_,_,rfl,r1,r3⟩
theorem Yr (hc:X.calm = true):Fy X (.builtin "max") (λ xs H Q=>∃ i j,xs = [.int i,.int j]∧Q (.int (if j > i then j else i)) H):=by
 intro pins s σ H xs us Q I r h
 obtain ⟨i,j,rfl,q⟩:=h
 obtain ⟨u,w',rfl,⟨t,rfl⟩,⟨t',rfl⟩⟩:=Ac3 r
 refine max_two_ints (I.ok.hd hc) λ h' tk k=>⟨_,H,I.kept k,?_,q⟩
 by_cases hj:j > i
 ·rw [if_pos hj,if_pos hj]; exact ⟨_,Z⟩
 ·rw [if_neg hj,if_neg hj]; exact ⟨_,Z⟩
theorem Xu:Fy X (.type "int") (λ xs H Q=>(∃ i,xs = [.int i]∧Q (.int i) H)∨∃ k,xs = [.bl k]∧Q (.int (if k then 1 else 0)) H):=by
 intro pins s σ H xs us Q I r h
 rcases h with ⟨i,rfl,q⟩ | ⟨k,rfl,q⟩
 ·obtain ⟨u,rfl,t,rfl⟩:=Qs r
  exact call_int_int ⟨.int i,H,I,⟨_,Z⟩,q⟩
 ·obtain ⟨u,rfl,r1⟩:=Qs r
  cases r1
  exact call_int_bool ⟨.int (if k then 1 else 0),H,I.tok _,⟨_,Z⟩,q⟩
end
end L2
namespace L2
open PySem PySem.Spec PyProof.Rows
structure M9 (h:Heap) (x dx C:Addr) (mA:Str→Option Value):Prop where
 obj:h.get? x = some (instObj C dx)
 ns:h.Ns1 dx mA
 ne:dx≠x
theorem Xc {h:Heap} {dx:Addr} {mA:Str→Option Value} (n:h.Ns1 dx mA):∃ od,h.get? dx = some od∧∀ name,lookIn name od = some (mA name):=by
 obtain ⟨o,es,ep,ho,hd,hk,_,hm⟩:=n
 refine ⟨o,ho,λ name=>?_⟩
 have e:=hm name
 unfold nsFind findBy at e
 rw [← Array.find?_toList] at e
 unfold lookIn
 rw [hd]
 dsimp only
 split
 ·rename_i y q
  rw [q] at e
  exact congrArg some e
 ·rename_i q
  rw [q] at e
  have a:es.toList.any (·.refKey) = false:=by
   rw [List.any_eq_false]
   intro y hy
   obtain ⟨z,t,hkey⟩:=hk y (Array.mem_toList_iff.mp hy)
   simp [DictEntry.refKey,hkey]
  have a':¬ es.toList.any (·.refKey) = true:=by rw [a]; exact Bool.false_ne_true
  rw [if_neg a']
  exact congrArg some e
theorem M9.look {h:Heap} {x dx C:Addr} {mA:Str→Option Value} (I:M9 h x dx C mA):∃ od,PySem.W.InstAt h x (instObj C dx) C (some od)∧∀ name,lookIn name od = some (mA name) :=
 let ⟨od,ho,hl⟩:=Xc I.ns
 ⟨od,⟨I.obj,Z,Z,ho⟩,hl⟩
section
variable {prog:Program} {w:World} {A:Around} {E:Value→Shared→Prop} {s:Shared} {K:PySem.W.Frag} {x dx C f:Addr} {mA:Str→Option Value} {name:Str} {v:Value}
theorem Abh {expr:Bool} {Q:Value→Shared→Prop} (X:K.In s.heap) (I:M9 s.heap x dx C mA) (hg:plainGet K C name = true) (hh:hasDictIn K C = true)
  (ha:findIn K (.ref C) name = some none) (hv:mA name = some v) (hv':handedIn v = true) (h:Q v { s with toks:=s.toks + 1 }) :
  wpAny (model prog w) A (getAttr (.ref x) name expr) Q E s:=by
 obtain ⟨od,J,hl⟩:=I.look
 exact PySem.W.get_value X J (plainGet_of hg).1 (PySem.W.findObj_own hh ha rfl (by rw [hl,hv])) hv' h
theorem Zr {pl:Sem Bool} {Q:Value× List Value→Shared→Prop} (X:K.In s.heap) (I:M9 s.heap x dx C mA) (hg:plainGet K C name = true)
  (hf:findIn K (.ref C) name = some (some (.ref f))) (ht:isFn K (.ref f) = true) (hv:mA name = none) (h:Q (.ref f,[.ref x]) s) :
  wpAny (model prog w) A (getMethod (.ref x) name pl) Q E s:=by
 obtain ⟨od,J,hl⟩:=I.look
 exact PySem.W.method_fn X J (plainGet_of hg).1 (plainGet_of hg).2 hf (beq_iff_eq.mp ht) (by show (lookIn name od).map (·.isSome) = some false; rw [hl,hv]; rfl) h
theorem Abq {ns:List Str} {Q:Unit→Shared→Prop} (X:K.In s.heap) (I:M9 s.heap x dx C mA)
  (hs:findIn K (.ref C) "__setattr__" = some (some (.builtin "object.__setattr__"))) (hp:plainOver K C = true) (ht:takerIn K C name = some none) (hh:hasDictIn K C = true)
  (hw:PySem.Within mA ns) (hsz:ns.length≤sizeLine)
  (h:∀ h',M9 h' x dx C (λ y=>if y = name then some v else mA y)→Heap.SameBut dx s.heap h'→Q () { s with heap:=h',toks:=s.toks + 2 }) :
  wpAny (model prog w) A (setAttr (.ref x) name v) Q E s:=by
 obtain ⟨od,J,hl⟩:=I.look
 refine PySem.W.set_plain X J hs (PySem.W.osa_open (s:={ s with toks:=s.toks + 1 }) (r:=none) X J hp ht λ b=>?_)
 obtain ⟨cd,hc,hd'⟩:=PySem.W.any_some hh
 have hx:s.heap.get? x = some ⟨.ref C,some dx,.plain,#[]⟩:=I.obj
 refine wpAny_bind (wpAny_pure (wpAny_bind (wpAny_bind (wpAny_loadPart hx (wpAny_bind (Looks.here (s:={ s with toks:=s.toks + 1 }) (PySem.W.looks_clsIn X hc) ?_))))))
 rw [hd']
 refine wpAny_pure (a:=some dx) (wpAny_bind (wpAny_pure (wpAny_bind ?_)))
 refine wpAny_nsSet1 (s:={ s with toks:=s.toks + 1 }) I.ns λ h' hn2 hs2=>?_
 obtain ⟨oD,esD,epD,hoD,hdD,hcD⟩:=hn2.count (PySem.Within.cons name v hw)
 refine wpAny_bind (wpAny_lookBehind hoD (by rw [hdD]; exact pastItsLine_dict (le_trans hcD (by rw [length_cons]; omega))) ?_)
 exact wpAny_pure (h _ ⟨(hs2.2 _ (Ne.symm I.ne)).trans I.obj,hn2,I.ne⟩ hs2)
theorem Zy {R:Result→Shared→Prop} {vs:List Value} {kw:List (Str× Value)} (X:K.In s.heap) (hm:makesIn K C = true)
  (hi:findIn K (.ref C) "__init__" = some (some (.ref f))) (hf:typeIn K (.ref f) = some (.type "function"))
  (h:codeAny (model prog w) (A.under (.builtin "type.__call__" ⟨.ref C :: vs,kw⟩)) (.call (.ref f) ⟨.ref (s.heap.objs.size + 1) :: vs,kw⟩) (PySem.W.InitBack (s.heap.objs.size + 1) R)
   { s with heap:=(s.heap.push emptyDict).push (instObj C s.heap.objs.size) }) :
  codeAny (model prog w) A (.call (.ref C) ⟨vs,kw⟩) R s:=by
 obtain ⟨hh,g,d,t,os⟩:=s
 exact PySem.W.make_core (PySem.W.makes_of X hm) (PySem.W.looks_findIn X hi) (λ self=>PySem.W.bind_fn X self hf) (.inl rfl) h
end
def Ce (f:Str) (v:V):List (Str× V)→List (Str× V)
 | []=>[(f,v)]
 | (g,x) :: r=>if g = f then (g,v) :: r else (g,x) :: Ce f v r
theorem Mn (f g:Str) (v:V):∀ fs:List (Str× V),(Ce f v fs).lookup g = if g = f then some v else fs.lookup g
 | []=>by
  show List.lookup g [(f,v)] = _
  by_cases h:g = f
  ·have hb:(g == f) = true:=beq_iff_eq.mpr h
   simp only [List.lookup,hb,if_pos h]
  ·have hb:(g == f) = false:=beq_eq_false_iff_ne.mpr h
   simp only [List.lookup,hb,if_neg h]
 | (k,x) :: r=>by
  have ih:=Mn f g v r
  rw [show Ce f v ((k,x) :: r) = (if k = f then (k,v) :: r else (k,x) :: Ce f v r) from rfl]
  by_cases hk:k = f
  ·rw [if_pos hk]
   by_cases h:g = k
   ·have hb:(g == k) = true:=beq_iff_eq.mpr h
    simp only [List.lookup,hb,if_pos (h.trans hk)]
   ·have hb:(g == k) = false:=beq_eq_false_iff_ne.mpr h
    simp only [List.lookup,hb,if_neg (λ e:g = f=>h (e.trans hk.symm))]
  ·rw [if_neg hk]
   by_cases h:g = k
   ·have hb:(g == k) = true:=beq_iff_eq.mpr h
    simp only [List.lookup,hb,if_neg (λ e:g = f=>hk (h.symm.trans e))]
   ·have hb:(g == k) = false:=beq_eq_false_iff_ne.mpr h
    simp only [List.lookup,hb]
    exact ih
theorem Lb (f:Str) (v:V):∀ fs:List (Str× V),f∈(Ce f v fs).map (·.1)∧∀ g,g∈fs.map (·.1)→g∈(Ce f v fs).map (·.1)
 | []=>⟨by simp [Ce],λ g h=>by simp at h⟩
 | (k,x) :: r=>by
  obtain ⟨i1,i2⟩:=Lb f v r
  rw [show Ce f v ((k,x) :: r) = (if k = f then (k,v) :: r else (k,x) :: Ce f v r) from rfl]
  by_cases hk:k = f
  ·rw [if_pos hk]
   subst hk
   exact ⟨by simp,λ g h=>by simpa using h⟩
  ·rw [if_neg hk]
   refine ⟨?_,λ g h=>?_⟩
   ·rw [map_cons]
    exact mem_cons_of_mem _ i1
   ·rw [map_cons] at h ⊢
    rcases mem_cons.mp h with e | e
    ·exact mem_cons.mpr (.inl e)
    ·exact mem_cons_of_mem _ (i2 g e)
theorem Mp (f:Str) (v:V):∀ fs:List (Str× V),(Ce f v fs).length≤fs.length + 1
 | []=>by simp [Ce]
 | (k,x) :: r=>by
  have ih:=Mp f v r
  rw [show Ce f v ((k,x) :: r) = (if k = f then (k,v) :: r else (k,x) :: Ce f v r) from rfl]
  by_cases hk:k = f
  ·rw [if_pos hk,length_cons,length_cons]; omega
  ·rw [if_neg hk,length_cons,length_cons]; omega
theorem Fo.some_of {v:V} {o:Option Value} (r:Fo (some v) o):∃ u,o = some u∧Bd v u:=by
 cases o with
 | none=>exact (show False from r).elim
 | some u=>exact ⟨u,rfl,r⟩
theorem Fo.none_of {o:Option Value} (r:Fo none o):o = none:=by
 cases o with
 | none=>rfl
 | some u=>exact (show False from r).elim
theorem Ww {v:V} {u:Value} (r:Bd v u):handedIn u = true:=by
 cases v with
 | non=>cases (show u = Value.none from r); rfl
 | bl b=>cases (show u = Value.bool b from r); rfl
 | int i=>obtain ⟨t,e⟩:=(show ∃ t,u = Value.int i t from r); cases e; rfl
 | str x=>obtain ⟨t,e⟩:=(show ∃ t,u = Value.str x t from r); cases e; rfl
 | byt b=>obtain ⟨t,e⟩:=(show ∃ t,u = Value.bytes b t from r); cases e; rfl
 | flt b=>obtain ⟨t,e⟩:=(show ∃ t,u = Value.float b t from r); cases e; rfl
 | ref a=>cases (show u = Value.ref a from r); rfl
 | ty n=>cases (show u = Value.type n from r); rfl
section
variable {P:Program} {w:World} {H H':Hp} {h h':Heap} {a C dx:Addr} {fs fs':List (Str× V)}
theorem Mf (hok:HOk P w H h) (e:H a = some (.ins C dx fs)):∃ mA,M9 h a dx C mA∧(∀ f,Fo (fs.lookup f) (mA f))∧PySem.Within mA (fs.map (·.1))∧fs.length≤1000∧H dx = some (.own a):=by
 obtain ⟨d,z,ne,ob,mA,n,r,q⟩:=(show B5 P w H h a (.ins C dx fs) from hok a _ e)
 exact ⟨mA,⟨ob,n,ne⟩,r,q,z,d⟩
end
structure Cls (K:PySem.W.Frag) (C:Addr):Prop where
 pg:plainGet K C Str.empty = true
 hd:hasDictIn K C = true
 po:plainOver K C = true
 sa:findIn K (.ref C) "__setattr__" = some (some (.builtin "object.__setattr__"))
theorem Cls.get {K:PySem.W.Frag} {C:Addr} (c:Cls K C) (f:Str):plainGet K C f = true:=c.pg
def Dl (K:PySem.W.Frag) (C:Addr) (f:Str):Prop:=findIn K (.ref C) f = some none
theorem Dl.taker {K:PySem.W.Frag} {C:Addr} {f:Str} (n:Dl K C f):takerIn K C f = some none:=by
 unfold takerIn
 rw [show findIn K (.ref C) f = some none from n]
 rfl
structure Hz (K:PySem.W.Frag) (C:Addr) (m:Str) (f:Addr):Prop where
 at_:findIn K (.ref C) m = some (some (.ref f))
 fn:isFn K (.ref f) = true
 kp:keepIn K (.ref f) = true
section
variable {X:Cx} {pins:List (Addr× Obj)} {σ:St} {H:Hp} {s:Shared} {a C dx:Addr} {fs:List (Str× V)} {f:Str} {v:V} {A:Around} {E:Value→Shared→Prop}
theorem Uz {b:Bool} {Q:Value→Shared→Prop} (I:Inv X pins σ H s) (e:H a = some (.ins C dx fs)) (c:Cls X.K C) (n:Dl X.K C f) (l:fs.lookup f = some v)
  (h:∀ u s',Inv X pins σ H s'→Bd v u→Q u s'):wpAny (model X.prog X.w) A (getAttr (.ref a) f b) Q E s:=by
 obtain ⟨mA,O,r,_,_,_⟩:=Mf I.hok e
 obtain ⟨u,hu,ru⟩:=Fo.some_of (v:=v) (o:=mA f) (by rw [← l]; exact r f)
 exact Abh I.kIn O (c.get f) c.hd n hu (Ww ru) (h u _ (I.tok _) ru)
theorem N1 {m:Str} {g:Addr} {pl:Sem Bool} {Q:Value× List Value→Shared→Prop} (I:Inv X pins σ H s) (e:H a = some (.ins C dx fs)) (c:Cls X.K C) (k:Hz X.K C m g) (l:fs.lookup m = none)
  (h:Q (.ref g,[.ref a]) s):wpAny (model X.prog X.w) A (getMethod (.ref a) m pl) Q E s:=by
 obtain ⟨mA,O,r,_,_,_⟩:=Mf I.hok e
 have hn:mA m = none:=Fo.none_of (by rw [← l]; exact r m)
 exact Zr I.kIn O (c.get m) k.at_ k.fn hn h
theorem Vu {y:V} {u:Value} {Q:Unit→Shared→Prop} (I:Inv X pins σ H s) (e:H a = some (.ins C dx fs)) (c:Cls X.K C) (n:Dl X.K C f) (hl:fs.length < 1000) (ry:Bd y u)
  (h:∀ s',Inv X pins σ (upd H a (.ins C dx (Ce f y fs))) s'→Q () s'):wpAny (model X.prog X.w) A (setAttr (.ref a) f u) Q E s:=by
 obtain ⟨mA,O,r,wi,_,ho⟩:=Mf I.hok e
 have hz:(fs.map (·.1)).length≤sizeLine:=by rw [length_map,sizeLine_eq]; omega
 refine Abq I.kIn O c.sa c.po n.taker c.hd wi hz λ h' O' sb=>h _ ?_
 have hd:∃ o,h'.get? dx = some o:=let ⟨o,_,_,e',_⟩:=O'.ns; ⟨o,e'⟩
 refine I.write (x:=a) (e:=dx) (by rw [e]; exact True.intro) (.inr ho) (λ b q hb z=>(sb.2 b hb).trans z) hd ?_
 refine ⟨by rw [upd_ne O.ne]; exact ho,?_,O.ne,O'.obj,_,O'.ns,λ g=>?_,λ g hg=>?_⟩
 ·have:=Mp f y fs; omega
 ·show Fo ((Ce f y fs).lookup g) (if g = f then some u else mA g)
  rw [Mn]
  by_cases q:g = f
  ·rw [if_pos q,if_pos q]; exact ry
  ·rw [if_neg q,if_neg q]; exact r g
 ·by_cases q:g = f
  ·rw [q]; exact (Lb f y fs).1
  ·refine (Lb f y fs).2 g (wi g λ z=>hg ?_)
   show (if g = f then some u else mA g) = none
   rw [if_neg q]; exact z
theorem Inv.made (I:Inv X pins σ H s):Inv X pins σ (upd (upd H s.heap.objs.size (.own (s.heap.objs.size + 1))) (s.heap.objs.size + 1) (.ins C s.heap.objs.size []))
  { s with heap:=(s.heap.push emptyDict).push (instObj C s.heap.objs.size) }:=by
 have e1:(s.heap.push emptyDict).get? s.heap.objs.size = some emptyDict:=Heap.get?_push_size s.heap rfl
 have e2:((s.heap.push emptyDict).push (instObj C s.heap.objs.size)).get? (s.heap.objs.size + 1) = some (instObj C s.heap.objs.size):=by
  have:=Heap.get?_push_size (s.heap.push emptyDict) (o:=instObj C s.heap.objs.size) rfl
  rwa [Heap.size_push] at this
 have e3:(s.heap.push emptyDict).Ns s.heap.objs.size (λ _=>none):=⟨emptyDict,#[],_,e1,Z,(λ e he=>absurd he (by simp)),λ _=>rfl⟩
 have I1:=I.laid (a:=s.heap.objs.size) (o:=.own (s.heap.objs.size + 1)) (h':=s.heap.push emptyDict) (t':=s.toks) (λ b u q=>Heap.get?_push_of_some _ q) (le_refl _) ⟨_,e1⟩
 refine I1.laid (a:=s.heap.objs.size + 1) (o:=.ins C s.heap.objs.size []) (t':=s.toks) (λ b u q=>Heap.get?_push_of_some _ q) (le_of_eq (Heap.size_push _ _)) ?_
 have ne:s.heap.objs.size≠s.heap.objs.size + 1:=ne_of_lt (lt_succ_self _)
 refine ⟨by rw [upd_ne ne,Ab],zero_le _,ne,e2,λ _=>none,(Heap.Ns1.of_empty e3).at λ o q=>Heap.get?_push_of_some _ q,λ _=>True.intro,λ y hy=>absurd rfl hy⟩
theorem AbG {prog:Program} {w:World} {env:Env} {e:Expr} {f:Str} {pos:Pos} {s:Shared} {Q:Value→Shared→Prop} (hb:attributeBase e f env (eval e env) = eval e env)
  (h:wpAny (model prog w) A (eval e env) (λ o s₁=>wpAny (model prog w) A (getAttr o f true) Q E s₁) E s):wpAny (model prog w) A (eval (.Attribute e f pos) env) Q E s :=
 Attribute_any_ h (by rw [arm_eval_Attribute,hb])
end
inductive Yp (K:PySem.W.Frag) (f:Str) (x:V) (H1:Hp) (Q:VK):Prop
 | mk (a C dx:Addr) (fs:List (Str× V)) (v:V) (_:x = .ref a) (_:H1 a = some (.ins C dx fs)) (_:Cls K C) (_:Dl K C f) (_:fs.lookup f = some v) (_:Q v H1):Yp K f x H1 Q
def Abw (K:PySem.W.Frag) (ta:TE) (f:Str):TE:=λ σ H Q=>ta σ H λ x H1=>Yp K f x H1 Q
inductive Xp (K:PySem.W.Frag) (f:Str) (y x:V) (H2:Hp) (R:Hp→Prop):Prop
 | mk (a C dx:Addr) (fs:List (Str× V)) (_:x = .ref a) (_:H2 a = some (.ins C dx fs)) (_:Cls K C) (_:Dl K C f) (_:fs.length < 1000) (_:R (upd H2 a (.ins C dx (Ce f y fs)))):Xp K f y x H2 R
def Ade (K:PySem.W.Frag) (ta tv:TE) (f:Str):TS:=λ D σ H=>tv σ H λ y H1=>ta σ H1 λ x H2=>Xp K f y x H2 (D.nx σ)
section
variable {X:Cx} {o e value:Expr} {f:Str} {pos pos' tpos:Pos} {ta tv:TE}
theorem Ar (he:PE X e ta) (hb:attributeBase e f X.env (eval e X.env) = eval e X.env):PE X (.Attribute e f pos) (Abw X.K ta f):=by
 intro pins s σ H Q I h
 refine AbG hb (thn (he pins s σ H _ I h) λ u s1 ⟨x,H1,I1,rx,a,C,dx,fs,v,ex,ea,c,n,l,q⟩=>?_)
 subst ex
 obtain rfl:u = Value.ref a:=rx
 exact Uz I1 ea c n l λ u' s2 I2 ru=>⟨v,H1,I2,ru,q⟩
theorem Cc (ha:PE X o ta) (hv:PE X value tv) (hs:swapsWith value (some (.Attribute o f pos')) pos.line X.env = pure false):PS X (.Assign [.Attribute o f pos'] value pos) (Ade X.K ta tv f):=by
 intro pins s σ H D I h
 refine plainObj_wpAny_Assign_Attribute (thn (hv pins s σ H _ I h) λ u s1 ⟨y,H1,I1,ry,q⟩=>thn (ha pins s1 σ H1 _ I1 q) λ ov s2 ⟨x,H2,I2,rx,a,C,dx,fs,ex,ea,c,n,l,q2⟩=>?_) hs
 subst ex
 obtain rfl:ov = Value.ref a:=rx
 exact Vu I2 ea c n l ry λ s3 I3=>⟨σ,_,I3,q2⟩
end
section
variable {X:Cx} {pins:List (Addr× Obj)} {σ:St} {H:Hp} {s:Shared} {A:Around} {E:Value→Shared→Prop} {Q:Value→Shared→Prop} {c:Value} {b:Bool}
inductive G5 (K:PySem.W.Frag) (H:Hp):V→Value→Prop where
 | non:G5 K H .non (.type "NoneType")
 | bl (x:Bool):G5 K H (.bl x) (.type "bool")
 | int (i:Int):G5 K H (.int i) (.type "int")
 | str (x:Str):G5 K H (.str x) (.type "str")
 | flt (x:UInt64):G5 K H (.flt x) (.type "float")
 | lst {a:Addr} {xs:List V} (e:H a = some (.lst xs)):G5 K H (.ref a) (.type "list")
 | frz {a:Addr} {o:Obj} {xs:List V} (e:H a = some (.frz o (.lst xs))):G5 K H (.ref a) (.type "list")
 | tup {a:Addr} {xs:List V} (e:H a = some (.tup xs)):G5 K H (.ref a) (.type "tuple")
 | dK {a:Addr} {kvs:List (Key× V)} (e:H a = some (.dK kvs)):G5 K H (.ref a) (.type "dict")
 | dT {a:Addr} {kvs:List (List Key× V)} (e:H a = some (.dT kvs)):G5 K H (.ref a) (.type "dict")
 | ins {a C dx:Addr} {fs:List (Str× V)} (e:H a = some (.ins C dx fs)) (cl:Cls K C) (ha:findIn K (.ref C) "__class__" = some (some (.builtin "object.__class__")))
   (hn:PySem.W.specialIn K (.builtin "object.__class__") "__get__" = some (some (.builtin "getset_descriptor.__get__"))) (htk:PySem.W.takesIn K (.builtin "object.__class__") = some true)
   (hm:mroIn K C (.type "object") = some true):G5 K H (.ref a) (.ref C)
theorem Wj {x:V} {u t:Value} (I:Inv X pins σ H s) (rx:Bd x u) (ty:G5 X.K H x t) (e:kitOne X.K t c = some b) (h:∀ tk,Q (.bool b) { s with toks:=tk }) :
  wpAny (model X.prog X.w) A (call (.builtin "isinstance") [u,c]) Q E s:=by
 cases ty with
 | non=>cases (show u = Value.none from rx); exact kia_one PySem.W.kitx_none I.kIn True.intro e (λ z=>nomatch z) h
 | bl y=>cases (show u = Value.bool y from rx); exact kia_one PySem.W.kitx_bool I.kIn True.intro e (λ z=>nomatch z) h
 | int i=>obtain ⟨t,q⟩:=(show ∃ t,u = Value.int i t from rx); cases q; exact kia_one PySem.W.kitx_int I.kIn True.intro e (λ z=>nomatch z) h
 | str y=>obtain ⟨t,q⟩:=(show ∃ t,u = Value.str y t from rx); cases q; exact kia_one PySem.W.kitx_str I.kIn True.intro e (λ z=>nomatch z) h
 | flt y=>obtain ⟨t,q⟩:=(show ∃ t,u = Value.float y t from rx); cases q; exact kia_one PySem.W.kitx_float I.kIn True.intro e (λ z=>nomatch z) h
 | @lst a xs ea =>
  cases (show u = Value.ref a from rx)
  obtain ⟨_,_,n,_,h1⟩:=(show B5 X.prog X.w H s.heap a (.lst xs) from I.hok a _ ea)
  exact kia_one kitx_list I.kIn ⟨_,h1,Z⟩ e (λ z=>nomatch z) h
 | @frz a ob xs ea =>
  cases (show u = Value.ref a from rx)
  obtain ⟨_,_,_,n,_,h1⟩:=(show B5 X.prog X.w H s.heap a (.frz ob (.lst xs)) from I.hok a _ ea)
  exact kia_one kitx_list I.kIn ⟨_,h1,Z⟩ e (λ z=>nomatch z) h
 | @tup a xs ea =>
  cases (show u = Value.ref a from rx)
  obtain ⟨_,_,_,p⟩:=(show B5 X.prog X.w H s.heap a (.tup xs) from I.hok a _ ea)
  obtain ⟨o,h1,h2,_⟩:=p
  exact kia_one kitx_tuple I.kIn ⟨o,h1,h2⟩ e (λ z=>nomatch z) h
 | @dK a kvs ea =>
  cases (show u = Value.ref a from rx)
  obtain ⟨_,_,vs,_,p⟩:=(show B5 X.prog X.w H s.heap a (.dK kvs) from I.hok a _ ea)
  obtain ⟨o,es,ep,h1,h2,_⟩:=p
  exact kia_one kitx_dict I.kIn ⟨o,h1,h2.1⟩ e (λ z=>nomatch z) h
 | @dT a kvs ea =>
  cases (show u = Value.ref a from rx)
  obtain ⟨_,_,xs,_,o,es,ep,h1,h2,_⟩:=(show B5 X.prog X.w H s.heap a (.dT kvs) from I.hok a _ ea)
  exact kia_one kitx_dict I.kIn ⟨o,h1,h2.1⟩ e (λ z=>nomatch z) h
 | @ins a C dx fs ea cl ha hn htk hm =>
  cases (show u = Value.ref a from rx)
  obtain ⟨mA,O,_⟩:=Mf I.hok ea
  obtain ⟨od,J,_⟩:=O.look
  exact kia_one (PySem.W.kitx_own (cl.get _) cl.hd ha hn htk hm) I.kIn J e (λ z=>nomatch z) h
end
end L2
namespace L2
open PySem PySem.Spec PyProof.Rows
structure Ct (k:Nat) (A:Around):Prop where
 hd:A.handled = none
 dp:A.depth + 3 * k + 5 < recursionLimit
 un:A.units + 16 * k + 200 < cLine
theorem Ct.mono {j k:Nat} {A:Around} (r:Ct k A) (h:j≤k):Ct j A:=⟨r.hd,by have:=r.dp; omega,by have:=r.un; omega⟩
theorem Ct.deeper {k:Nat} {A:Around} (r:Ct (k + 1) A) (env:Env):Ct k (A.deeper env) :=
 ⟨r.hd,by have:=r.dp; show A.depth + 1 + 3 * k + 5 < _; omega,by have:=r.un; show A.units + 3 + 16 * k + 200 < _; omega⟩
theorem Vn {A:Around} {C:Addr} {us:List Value} {kw:List (Str× Value)}:(A.under (.builtin "type.__call__" ⟨.ref C :: us,kw⟩)).depth = A.depth + 1:=by
 first | rfl | simp [Around.under,Code.weight,Code.isCreation,Code.isGuard,Code.isCaller,Code.frames,Code.isFrame,guardIds]
theorem Va {A:Around} {C:Addr} {us:List Value} {kw:List (Str× Value)}:(A.under (.builtin "type.__call__" ⟨.ref C :: us,kw⟩)).units = A.units + 1:=by
 first | rfl | simp [Around.under,Code.cUnits,Code.frames,Code.isFrame]
theorem Ct.make {k:Nat} {A:Around} (r:Ct (k + 1) A) (C:Addr) (us:List Value) (kw:List (Str× Value)):Ct k (A.under (.builtin "type.__call__" ⟨.ref C :: us,kw⟩)) :=
 ⟨r.hd,by have:=r.dp; rw [Vn]; omega,by have:=r.un; rw [Va]; omega⟩
theorem Ct.depth {k:Nat} {A:Around} (r:Ct k A):A.depth < recursionLimit:=by have:=r.dp; omega
theorem Ct.units {k:Nat} {A:Around} (r:Ct k A):A.units + 64 < cLine:=by have:=r.un; omega
def Dp:TA:=λ _ H Q=>Q [] H
def B4 (ta:TE) (tr:TA):TA:=λ σ H Q=>ta σ H λ x H1=>tr σ H1 λ xs H2=>Q (x :: xs) H2
section
variable {X:Cx} {e:Expr} {es:List Expr} {te:TE} {t:TA} {pos:Pos}
theorem Ac:PA X [] Dp:=λ _ _ _ _ H Q I h=>Calls.spliced_nil ⟨[],H,I,.nil,h⟩
theorem Aa (ha:PE X e te) (hr:PA X es t) (hs:starEach (e :: es) X.env = (false,eval e X.env) :: starEach es X.env:=by rfl):PA X (e :: es) (B4 te t):=by
 intro pos pins s σ H Q I h
 rw [hs]
 show wpAny _ _ (spliced ((false,eval e X.env) :: backTo pos (starEach es X.env))) _ _ s
 refine Calls.spliced_cons (thn (ha pins s σ H _ I h) λ u s1 ⟨x,H1,I1,r1,q1⟩=>?_)
 exact thn (hr pos pins s1 σ H1 _ I1 q1) λ us s2 ⟨xs,H2,I2,r2,q2⟩=>⟨x :: xs,H2,I2,.cons r1 r2,q2⟩
def Q3 (t:TA):TE:=λ σ H Q=>t σ H λ xs H1=>xs.length≤sizeLine∧∀ p,H1 p = none→Q (.ref p) (upd H1 p (.tup xs))
def AaJ (t:TA):TE:=λ σ H Q=>t σ H λ xs H1=>xs.length≤sizeLine∧∀ p,H1 p = none→Q (.ref p) (upd H1 p (.lst xs))
theorem Be {x1} (h:PA X es t):PE X (.Tuple es x1 pos) (Q3 t):=by
 intro pins s σ H Q I hq
 refine wpAny_Tuple_spliced (thn (h pos pins s σ H _ I hq) λ us s1 ⟨xs,H1,I1,r,z,q⟩=>⟨by rw [← r.length]; exact z,?_⟩)
 have hf:H1 s1.heap.objs.size = none:=I1.hok.fresh (le_refl _)
 refine ⟨.ref s1.heap.objs.size,upd H1 s1.heap.objs.size (.tup xs),I1.laid (t':=s1.toks) (λ b u e=>Heap.get?_push_of_some _ e) (le_refl _) ?_,Z,q _ hf⟩
 exact ⟨z,us,r,⟨_,Heap.get?_push_size _ rfl,Z,_,Z⟩⟩
theorem A5 (h:PA X es t):PE X (.List es pos) (AaJ t):=by
 intro pins s σ H Q I hq
 refine wpAny_List_spliced (thn (h pos pins s σ H _ I hq) λ us s1 ⟨xs,H1,I1,r,z,q⟩=>⟨by rw [← r.length]; exact z,?_⟩)
 have hf:H1 s1.heap.objs.size = none:=I1.hok.fresh (le_refl _)
 refine ⟨.ref s1.heap.objs.size,upd H1 s1.heap.objs.size (.lst xs),I1.laid (t':=s1.toks) (λ b u e=>Heap.get?_push_of_some _ e) (le_refl _) ?_,Z,q _ hf⟩
 exact ⟨z,us,0,r,Heap.get?_push_size _ rfl⟩
end
abbrev Sp:=List V→Hp→VK→XK→Prop
abbrev CXT:=List Env→Hp→Shared→XK→Value→Shared→Prop
structure M3 (P:Program) (w:World) (K:PySem.W.Frag) (mg:Str→Option Value) (base:Heap) (A:Around) (outer:List Env) (s:Shared) (H:Hp):Prop where
 frames:A.frames = some outer
 mod:Mod K mg base
 bs:∀ b o,base.get? b = some o→s.heap.get? b = some o∧H b = none
 bsz:base.objs.size≤s.heap.objs.size
 funs:s.heap.FunFrames base outer
 frf:∀ b∈frs outer,H b = none
 hok:HOk P w H s.heap
 bare:AllBare s.gens
def CE (outer:List Env) (P:Program) (w:World) (H:Hp) (s:Shared) (Q:VK) (u:Value) (s':Shared):Prop :=
 ∃ v H',s'.os = s.os∧AllBare s'.gens∧Un (frs outer) [] H H' s.heap s'.heap∧HOk P w H' s'.heap∧Bd v u∧Q v H'
def CR (CX:CXT) (outer:List Env) (P:Program) (w:World) (H:Hp) (s:Shared) (Q:VK) (E:XK) (r:Result) (s':Shared):Prop :=
 match r with
 | .ok (.ret u)=>CE outer P w H s Q u s'
 | .ok _=>False
 | .error e=>CX outer H s E e s'
structure Cj (P:Program) (w:World) (K:PySem.W.Frag) (mg:Str→Option Value) (base:Heap) (CX:CXT) (k:Nat) (f:Addr) (fd:FuncData) (ps:List Str) (sp:Sp):Prop where
 len:∀ vs H Q E,sp vs H Q E→vs.length = ps.length
 run:∀ (A:Around) (outer:List Env) (s:Shared) (H:Hp) (args:Args) (us:List Value) (vs:List V) (Q:VK) (E:XK),Ct k A→M3 P w K mg base A outer s H→BindsTo s fd args (ps.zip us)→Bb vs us→sp vs H Q E →
  codeAny (model P w) A (.call (.ref f) args) (CR CX outer P w H s Q E) s
theorem Cj.mono {P:Program} {w:World} {K:PySem.W.Frag} {mg:Str→Option Value} {base:Heap} {CX:CXT} {j k:Nat} {f:Addr} {fd:FuncData} {ps:List Str} {sp:Sp} (F:Cj P w K mg base CX j f fd ps sp) (h:j≤k) :
  Cj P w K mg base CX k f fd ps sp:=⟨F.len,λ A outer s H args us vs Q E hr=>F.run A outer s H args us vs Q E (hr.mono h)⟩
theorem M3.make {P:Program} {w:World} {K:PySem.W.Frag} {mg:Str→Option Value} {base:Heap} {A:Around} {outer:List Env} {s:Shared} {H:Hp} (e:M3 P w K mg base A outer s H) (C:Addr) (us:List Value) (kw:List (Str× Value)) :
  M3 P w K mg base (A.under (.builtin "type.__call__" ⟨.ref C :: us,kw⟩)) outer s H:=⟨by first | exact e.frames | (simpa [Around.under,Code.envs,Code.isFrame,pushEnvs] using e.frames),e.mod,e.bs,e.bsz,e.funs,e.frf,e.hok,e.bare⟩
section
variable {X:Cx} {pins:List (Addr× Obj)} {σ:St} {H:Hp} {s s':Shared}
theorem Inv.env0 (I:Inv X pins σ H s):M3 X.prog X.w X.K X.mg X.base X.A X.stack s H :=
 ⟨I.ok.frames,I.ok.mod,I.bs,le_trans I.ok.bsz I.sz,I.stack,I.stkFree,I.hok,I.bare⟩
theorem Inv.after {Q:VK} {u:Value} (I:Inv X pins σ H s) (h:CE X.stack X.prog X.w H s Q u s'):EP X pins σ Q u s':=by
 obtain ⟨v,H',os,bare,un,hok,r,q⟩:=h
 obtain ⟨hh,g,d,t,os'⟩:=s'
 obtain rfl:os' = s.os:=os
 exact ⟨v,H',I.call (h':=hh) (g':=g) (d':=d) (t':=t) (ch:=[]) un hok bare (λ b z=>absurd z (by simp)),r,q⟩
end
def Mi (sp:Sp) (dvs:List V) (E:XK) (t:TA):TE:=λ σ H Q=>t σ H λ vs H1=>sp (vs ++ dvs) H1 Q E
inductive Tu (C:Addr) (m:Str) (x:V) (H1:Hp) (R:Prop):Prop
 | mk (a dx:Addr) (fs:List (Str× V)) (_:x = .ref a) (_:H1 a = some (.ins C dx fs)) (_:fs.lookup m = none) (_:R):Tu C m x H1 R
def Ny (C:Addr) (m:Str) (sp:Sp) (dvs:List V) (E:XK) (ta:TE) (t:TA):TE:=λ σ H Q=>ta σ H λ x H1=>Tu C m x H1 (t σ H1 λ vs H2=>sp (x :: (vs ++ dvs)) H2 Q E)
def Ac8 (C:Addr) (sp:Sp) (dvs:List V) (E:XK) (t:TA):TE:=λ σ H Q=>t σ H λ vs H1=>∀ x dx,H1 x = none→H1 dx = none→dx≠x →
 sp (.ref x :: (vs ++ dvs)) (upd (upd H1 dx (.own x)) x (.ins C dx [])) (λ v H2=>v = .non∧Q (.ref x) H2) E
def B7 (K:PySem.W.Frag) (fd:FuncData) (ps:List Str) (ds:List Value):Prop :=
 ∀ (s:Shared) (us:List Value),K.In s.heap→(us ++ ds).length = ps.length→BindsTo s fd ⟨us,[]⟩ (ps.zip (us ++ ds))
theorem B7.all {K:PySem.W.Frag} {fd:FuncData} {ps:List Str} (h:∀ us:List Value,us.length = ps.length→bindArgs fd ⟨us,[]⟩ = pure (ps.zip us)):B7 K fd ps []:=λ s us _ hl=>by
 rw [append_nil] at hl ⊢
 exact .of_eq (h us hl)
def Fr (CX:CXT) (X:Cx) (E:XK):Prop:=∀ (pins:List (Addr× Obj)) (σ:St) (H:Hp) (s:Shared) (e:Value) (s':Shared),Inv X pins σ H s→CX X.stack H s E e s'→X.xe e s'
section
variable {X:Cx} {CX:CXT} {k:Nat} {f C:Addr} {fd:FuncData} {ps:List Str} {sp:Sp} {dvs:List V} {ds:List Value} {E:XK} {x m:Str} {p pos apos:Pos} {e o:Expr} {es:List Expr} {ta:TE} {t:TA}
theorem Rj {pins:List (Addr× Obj)} {σ:St} {H:Hp} {s:Shared} {Q:VK} {us:List Value} {vs:List V} (F:Cj X.prog X.w X.K X.mg X.base CX k f fd ps sp) (hr:Ct k X.A) (hb:B7 X.K fd ps ds) (hd:Bb dvs ds) (hx:Fr CX X E)
  (I:Inv X pins σ H s) (r:Bb vs us) (h:sp (vs ++ dvs) H Q E):wpAny (model X.prog X.w) X.A (call (.ref f) us) (EP X pins σ Q) X.xe s:=by
 have r2:Bb (vs ++ dvs) (us ++ ds):=r.append hd
 have hl:(us ++ ds).length = ps.length:=by rw [← r2.length]; exact F.len _ _ _ _ h
 refine wpAny_call (codeAny_mono (F.run X.A X.stack s H ⟨us,[]⟩ (us ++ ds) (vs ++ dvs) Q E hr I.env0 (hb s us I.kIn hl) r2 h) λ r s' hq=>?_)
 cases r with
 | error e=>exact hx pins σ H s e s' I hq
 | ok fl =>
  cases fl with
  | ret u=>exact I.after hq
  | next=>exact False.elim hq
  | brk=>exact False.elim hq
  | cont=>exact False.elim hq
theorem AbC (F:Cj X.prog X.w X.K X.mg X.base CX k f fd ps sp) (hr:Ct k X.A) (hg:Gl X x) (hm:X.mg x = some (.ref f)) (hk:keepIn X.K (.ref f) = true) (hb:B7 X.K fd ps ds) (hd:Bb dvs ds) (hx:Fr CX X E)
  (ha:PA X (e :: es) t) (hdb:(x == ("__debug__" : Str)) = false:=by decide) (he:starEach (e :: es) X.env = (false,eval e X.env) :: starEach es X.env:=by rfl) (hpl:(backTo pos (starEach es X.env)).any (·.1) = false:=by rfl) :
  PE X (.Call (.Name x p) (e :: es) [] pos) (Mi sp dvs E t):=by
 intro pins s σ H Q I h
 refine wpAny_Call_Name_kw (Ou I hg hm ?_ hdb)
 refine callWith_K (h₀:=X.base) I.ok.mod.kin hk (thn (ha pos pins s σ H _ I h) λ us s1 ⟨vs,H1,I1,r,q⟩=>⟨I1.kIn,?_⟩) he hpl
 exact Rj F hr hb hd hx I1 r q
theorem Aau {pl:Sem Bool} (he:PE X o ta) (c:Cls X.K C) (hm:Hz X.K C m f) (F:Cj X.prog X.w X.K X.mg X.base CX k f fd ps sp) (hr:Ct k X.A) (hb:B7 X.K fd ps ds) (hd:Bb dvs ds) (hx:Fr CX X E) (ha:PA X (e :: es) t)
  (hst:starEach (e :: es) X.env = (false,eval e X.env) :: starEach es X.env:=by rfl) (hpl:(backTo pos (starEach es X.env)).any (·.1) = false:=by rfl)
  (ht:eval (.Call (.Attribute o m apos) (e :: es) [] pos) X.env = (do
   let ov ← eval o X.env
   standAt apos.atName
   let (f,first) ← holding [ov] (getMethod ov m pl)
   callWith pos f first (backTo pos (starEach (e :: es) X.env)) (backToKw pos (keywordEach [] X.env))):=by rfl) :
  PE X (.Call (.Attribute o m apos) (e :: es) [] pos) (Ny C m sp dvs E ta t):=by
 intro pins s σ H Q I h
 refine methodCall_KW (pl:=pl) (thn (he pins s σ H _ I h) λ u s1 ⟨x,H1,I1,rx,a,dx,fs,ex,ea,l,q⟩=>?_) ht
 subst ex
 obtain rfl:u = Value.ref a:=rx
 refine N1 I1 ea c hm l ?_
 refine callWith_K (first:=[.ref a]) (h₀:=X.base) I.ok.mod.kin hm.kp (thn (ha pos pins s1 σ H1 _ I1 q) λ us s2 ⟨vs,H2,I2,r,q2⟩=>⟨I2.kIn,?_⟩) hst hpl
 exact Rj (us:=.ref a :: us) (vs:=.ref a :: vs) F hr hb hd hx I2 (.cons rfl r) q2
theorem Z1 {pl:Sem Bool} (he:PE X o ta) (c:Cls X.K C) (hm:Hz X.K C m f) (F:Cj X.prog X.w X.K X.mg X.base CX k f fd ps sp) (hr:Ct k X.A) (hb:B7 X.K fd ps ds) (hd:Bb dvs ds) (hx:Fr CX X E)
  (ht:eval (.Call (.Attribute o m apos) [] [] pos) X.env = (do
   let ov ← eval o X.env
   standAt apos.atName
   let (f,first) ← holding [ov] (getMethod ov m pl)
   callWith pos f first (backTo pos (starEach [] X.env)) (backToKw pos (keywordEach [] X.env))):=by rfl) :
  PE X (.Call (.Attribute o m apos) [] [] pos) (Ny C m sp dvs E ta Dp):=by
 intro pins s σ H Q I h
 refine methodCall_KW (pl:=pl) (thn (he pins s σ H _ I h) λ u s1 ⟨x,H1,I1,rx,a,dx,fs,ex,ea,l,q⟩=>?_) ht
 subst ex
 obtain rfl:u = Value.ref a:=rx
 refine N1 I1 ea c hm l ?_
 exact PySem.W.callWith_K0 (first:=[.ref a]) I1.kIn hm.kp (Rj (us:=[.ref a]) (vs:=[.ref a]) F hr hb hd hx I1 (.cons rfl .nil) q)
structure Mk (K:PySem.W.Frag) (C f:Addr):Prop where
 makes:makesIn K C = true
 init:findIn K (.ref C) "__init__" = some (some (.ref f))
 fn:isFn K (.ref f) = true
 kp:keepIn K (.ref C) = true
theorem Z8 {pins:List (Addr× Obj)} {σ:St} {H:Hp} {s:Shared} {Q:VK} {us:List Value} {vs:List V} (M:Mk X.K C f) (F:Cj X.prog X.w X.K X.mg X.base CX k f fd ps sp) (hr:Ct (k + 1) X.A) (hb:B7 X.K fd ps ds) (hd:Bb dvs ds)
  (hx:Fr CX X E) (I:Inv X pins σ H s) (r:Bb vs us)
  (h:∀ x dx,H x = none→H dx = none→dx≠x→sp (.ref x :: (vs ++ dvs)) (upd (upd H dx (.own x)) x (.ins C dx [])) (λ v H2=>v = .non∧Q (.ref x) H2) E) :
  wpAny (model X.prog X.w) X.A (call (.ref C) us) (EP X pins σ Q) X.xe s:=by
 have hq:=h (s.heap.objs.size + 1) s.heap.objs.size (I.hok.fresh (le_succ _)) (I.hok.fresh (le_refl _)) (ne_of_lt (lt_succ_self _))
 have I2:=Inv.made (C:=C) I
 have r2:Bb (V.ref (s.heap.objs.size + 1) :: (vs ++ dvs)) (Value.ref (s.heap.objs.size + 1) :: (us ++ ds)):=.cons rfl (r.append hd)
 have hl:(Value.ref (s.heap.objs.size + 1) :: us ++ ds).length = ps.length:=by
  have e:=r2.length
  rw [F.len _ _ _ _ hq] at e
  exact e.symm
 refine wpAny_call (Zy (f:=f) I.kIn M.makes M.init (beq_iff_eq.mp M.fn) (codeAny_mono (F.run _ X.stack _ _ ⟨Value.ref (s.heap.objs.size + 1) :: us,[]⟩ (Value.ref (s.heap.objs.size + 1) :: (us ++ ds)) _ _ E (hr.make C us [])
  (I2.env0.make C us []) (hb _ (Value.ref (s.heap.objs.size + 1) :: us) I2.kIn hl) r2 hq) λ r s' hq'=>?_))
 cases r with
 | error e=>exact hx pins σ _ _ e s' I2 hq'
 | ok fl =>
  cases fl with
  | ret u =>
   obtain ⟨v,H',I3,rv,ev,q3⟩:=I2.after hq'
   subst ev
   exact ⟨rv,⟨V.ref (s.heap.objs.size + 1),H',I3,Z,q3⟩⟩
  | next=>exact False.elim hq'
  | brk=>exact False.elim hq'
  | cont=>exact False.elim hq'
theorem Tv (M:Mk X.K C f) (F:Cj X.prog X.w X.K X.mg X.base CX k f fd ps sp) (hr:Ct (k + 1) X.A) (hg:Gl X x) (hm:X.mg x = some (.ref C)) (hb:B7 X.K fd ps ds) (hd:Bb dvs ds) (hx:Fr CX X E)
  (ha:PA X (e :: es) t) (hdb:(x == ("__debug__" : Str)) = false:=by decide) (he:starEach (e :: es) X.env = (false,eval e X.env) :: starEach es X.env:=by rfl) (hpl:(backTo pos (starEach es X.env)).any (·.1) = false:=by rfl) :
  PE X (.Call (.Name x p) (e :: es) [] pos) (Ac8 C sp dvs E t):=by
 intro pins s σ H Q I h
 refine wpAny_Call_Name_kw (Ou I hg hm ?_ hdb)
 refine callWith_K (h₀:=X.base) I.ok.mod.kin M.kp (thn (ha pos pins s σ H _ I h) λ us s1 ⟨vs,H1,I1,r,q⟩=>⟨I1.kIn,?_⟩) he hpl
 exact Z8 M F hr hb hd hx I1 r q
end
def PK (X:Cx) (kws:List Keyword) (t:TA):Prop :=
 ∀ (pos:Pos) (pins:List (Addr× Obj)) (s:Shared) (σ:St) (H:Hp) (Q:List V→Hp→Prop),Inv X pins σ H s→t σ H Q→wpAny (model X.prog X.w) X.A (evalAll ((backToKw pos (keywordEach kws X.env)).map (·.2))) (AP X pins σ Q) X.xe s
section
variable {X:Cx} {CX:CXT} {k:Nat} {f C:Addr} {fd:FuncData} {ps ks:List Str} {sp:Sp} {E:XK} {x m:Str} {p pos apos kpos:Pos} {e o:Expr} {es:List Expr} {kws:List Keyword} {te ta:TE} {t tk:TA} {nm:Option Str}
theorem Ab0:PK X [] Dp:=λ _ _ _ _ H Q I h=>wpAny_evalAll_nil ⟨[],H,I,.nil,h⟩
theorem AbZ (ha:PE X e te) (hr:PK X kws t):PK X (⟨nm,e,kpos⟩ :: kws) (B4 te t):=by
 intro pos pins s σ H Q I h
 show wpAny _ _ (evalAll ((do let v ← eval e X.env; standAt pos; pure v) :: (backToKw pos (keywordEach kws X.env)).map (·.2))) _ _ s
 refine wpAny_evalAll_cons (wpAny_bind (thn (ha pins s σ H _ I h) λ u s1 ⟨x,H1,I1,r1,q1⟩=>wpAny_bind (wpAny_standAt (wpAny_pure ?_))))
 exact thn (hr pos pins s1 σ H1 _ I1 q1) λ us s2 ⟨xs,H2,I2,r2,q2⟩=>⟨x :: xs,H2,I2,.cons r1 r2,q2⟩
variable {g:List Value→List Value→List Value} {gV:List V→List V→List V}
end
structure A7 (N P:List Str) (sc:Scope):Prop where
 kind:sc.kind = .function
 co:sc.isCoroutine = false
 gen:sc.isGenerator = false
 nd:N.Nodup
 pre:N.take P.length = P
 par:∀ x∈P,sc.names.lookup x = some .local∨sc.names.lookup x = some .cell
 nofree:∀ y∈sc.names,y.2≠.free
theorem Pr {kindOf:Str→Option NameKind} {x:Str}:∀ {binds:List (Str× Value)} {m:Str→Option Value},(∀ v,(x,v)∉binds)→bindL kindOf binds m x = m x
 | [],_,_=>rfl
 | (n,v) :: r,m,h=>by
  unfold bindL
  rw [Pr λ w hw=>h w (mem_cons_of_mem _ hw)]
  split
  ·have:x≠n:=by rintro rfl; exact h v mem_cons_self
   simp [this]
  ·rfl
theorem Pm {kindOf:Str→Option NameKind} {x:Str}:∀ {binds:List (Str× Value)} {m:Str→Option Value},(∀ v,(x,v)∉binds)→bindC kindOf binds m x = m x
 | [],_,_=>rfl
 | (n,v) :: r,m,h=>by
  unfold bindC
  rw [Pm λ w hw=>h w (mem_cons_of_mem _ hw)]
  split
  ·rfl
  ·have:x≠n:=by rintro rfl; exact h v mem_cons_self
   simp [this]
theorem Px {kindOf:Str→Option NameKind} {x:Str} {v:Value}:∀ {P:List Str} {vs:List Value} {i:Nat} {m:Str→Option Value},P.Nodup→P[i]? = some x→vs[i]? = some v→kindOf x = some .local →
  bindL kindOf (P.zip vs) m x = some v
 | [],_,_,_,_,h,_,_=>by simp at h
 | _ :: _,[],_,_,_,_,h,_=>by simp at h
 | p :: P,w :: vs,0,m,nd,h1,h2,hk=>by
  simp at h1 h2; subst h1; subst h2
  show bindL kindOf ((p,w) :: P.zip vs) m p = _
  unfold bindL
  rw [Pr λ v hv=>(nodup_cons.mp nd).1 (of_mem_zip hv).1,if_pos hk]
  simp
 | p :: P,w :: vs,i + 1,m,nd,h1,h2,hk=>by
  show bindL kindOf ((p,w) :: P.zip vs) m x = _
  unfold bindL
  exact Px (i:=i) (nodup_cons.mp nd).2 (by simpa using h1) (by simpa using h2) hk
theorem Pw {kindOf:Str→Option NameKind} {x:Str} {v:Value}:∀ {P:List Str} {vs:List Value} {i:Nat} {m:Str→Option Value},P.Nodup→P[i]? = some x→vs[i]? = some v→kindOf x≠some .local →
  bindC kindOf (P.zip vs) m x = some v
 | [],_,_,_,_,h,_,_=>by simp at h
 | _ :: _,[],_,_,_,_,h,_=>by simp at h
 | p :: P,w :: vs,0,m,nd,h1,h2,hk=>by
  simp at h1 h2; subst h1; subst h2
  show bindC kindOf ((p,w) :: P.zip vs) m p = _
  unfold bindC
  rw [Pm λ v hv=>(nodup_cons.mp nd).1 (of_mem_zip hv).1,if_neg hk]
  simp
 | p :: P,w :: vs,i + 1,m,nd,h1,h2,hk=>by
  show bindC kindOf ((p,w) :: P.zip vs) m x = _
  unfold bindC
  exact Pw (i:=i) (nodup_cons.mp nd).2 (by simpa using h1) (by simpa using h2) hk
def Ik (N:List Str) (vs:List V):St:=vs.map some ++ List.replicate (N.length - vs.length) none
def M5 (CX:CXT) (P:Program) (w:World) (K:PySem.W.Frag) (mg:Str→Option Value) (base:Heap) (N:List Str) (qual:Str) (scope:Scope) (f:Addr) (cd:Value) (A:Around) (outer:List Env) (s:Shared) (H:Hp) (E:XK):Cx where
 prog:=P
 w:=w
 K:=K
 mg:=mg
 base:=base
 A:=A.deeper (envOfC qual scope s.heap.objs.size f cd)
 N:=N
 s₀:=s
 H₀:=H
 env:=envOfC qual scope s.heap.objs.size f cd
 outer:=outer
 stack:=envOfC qual scope s.heap.objs.size f cd :: outer
 ex:=[]
 calm:=true
 fn:=λ _=>true
 pn:=[]
 xe:=λ e s'=>wpAny (model P w) (A.deeper (envOfC qual scope s.heap.objs.size f cd)) (leaving (envOfC qual scope s.heap.objs.size f cd) e) (λ _ s''=>CX outer H s E e s'') (λ e' s''=>CX outer H s E e' s'') s'
theorem Qx {sc:Scope} {n:Nat} {x:Str} (h:sc.names.lookup x = some .cell):∃ c,(cellsFrom n sc.names []).lookup x = some c:=by
 have q:=cellsFrom_some sc.names n [] (.inl h)
 exact Option.isSome_iff_exists.mp q
theorem Wn {CX:CXT} {P:Program} {w:World} {K:PySem.W.Frag} {mg:Str→Option Value} {base:Heap} {N ps:List Str} {qual:Str} {scope:Scope} {f:Addr} {cd:Value} {A:Around} {outer:List Env} {s s1:Shared} {H:Hp} {E:XK} {us:List Value} {vs:List V}
  (S:A7 N ps scope) (hd:A.handled = none) (e0:M3 P w K mg base A outer s H) (hl:vs.length = ps.length) (r:Bb vs us)
  (x:InCallC s s.heap.objs.size (bindL (envOfC qual scope s.heap.objs.size f cd).kindOf (ps.zip us) λ _=>none) (cellsFrom (s.heap.objs.size + 1) scope.names []) (bindC (envOfC qual scope s.heap.objs.size f cd).kindOf (ps.zip us) λ _=>none) s1) :
  Inv (M5 CX P w K mg base N qual scope f cd A outer s H E) [] (Ik N vs) H s1:=by
 have hpl:ps.length≤N.length:=by have:=congrArg length S.pre; rw [length_take] at this; omega
 obtain ⟨h1,tk,rfl,hk⟩:=x.done
 have noA:∀ b:Addr,b∉(M5 CX P w K mg base N qual scope f cd A outer s H E).ex:=λ b z=>absurd (show b∈([]:List Addr) from z) (by simp)
 refine ⟨⟨e0.mod,S.kind,Z,Z,le_refl _,λ y z c h1 h2=>?_,λ y hy=>?_,λ y c _ h=>?_,λ _=>hd,Around.frames_deeper e0.frames,.inr ⟨rfl,rfl⟩,λ b z=>absurd z (noA b),e0.bs,e0.bsz,λ b _ _=>noA b,λ b z=>absurd z (noA b),e0.funs,e0.frf⟩,
  rfl,e0.bare,Un.kept hk,⟨_,x.toInCall.ns,λ i y v h1 h2 h3=>?_⟩,λ y c h=>⟨_,x.cell y c h⟩,e0.hok.fresh (le_refl _),λ y c h=>?_,λ p hp=>absurd (show p∈([]:List (Addr× Obj)) from hp) (by simp),e0.hok.kept hk,?_⟩
 ·exact name_of_addr x.apart (PySem.mem_of_lookup h1) (PySem.mem_of_lookup h2)
 ·have hy:scope.names.lookup y = some .cell∨scope.names.lookup y = some .free:=hy
  rcases hy with hy | hy
  ·exact Qx hy
  ·exact absurd rfl (S.nofree _ (PySem.mem_of_lookup hy))
 ·exact le_of_lt (x.above y c (PySem.mem_of_lookup h))
 ·have hi:i < vs.length:=by
   unfold Ik at h2
   by_cases hi:i < vs.length
   ·exact hi
   ·rw [getElem?_append_right (by simpa using hi)] at h2
    rw [List.getElem?_replicate] at h2
    split at h2 <;> cases h2
  have ha:vs[i]? = some v:=by
   unfold Ik at h2
   rw [getElem?_append_left (by simpa using hi),getElem?_map] at h2
   cases e:vs[i]? with
   | none=>rw [e] at h2; cases h2
   | some a=>rw [e] at h2; cases h2; rfl
  obtain ⟨u,hu,rv⟩:=r.get ha
  have hp:ps[i]? = some y:=by
   rw [← S.pre,List.getElem?_take_of_lt (by omega)]; exact h1
  have ndP:ps.Nodup:=by rw [← S.pre]; exact S.nd.sublist (List.take_sublist _ _)
  refine ⟨u,rv,?_⟩
  rcases S.par y (mem_of_getElem? hp) with k | k
  ·exact .inl ⟨k,Px ndP hp hu k⟩
  ·obtain ⟨c,e⟩:=Qx (n:=s.heap.objs.size + 1) k
   refine .inr ⟨.inl k,c,e,?_⟩
   have q:=x.cell y c e
   rw [Pw ndP hp hu (by show scope.names.lookup y≠_; rw [k]; decide)] at q
   exact q
 ·exact e0.hok.fresh (le_of_lt (x.above y c (PySem.mem_of_lookup h)))
 ·unfold Ik
  show _ = N.length
  rw [length_append,length_map,length_replicate]
  omega
theorem AdF {CX:CXT} {P:Program} {w:World} {K:PySem.W.Frag} {mg:Str→Option Value} {base:Heap} {k:Nat} {f:Addr} {name qual:Str} {params:Arguments} {body:List Stmt} {scope:Scope} {dV kV doc pm cdv ct oc:Value} {an od:Option Addr}
  {osl:Array (Option Value)} {N ps:List Str} {sp:Sp} (lk:K.lookup f = some ⟨oc,od,.func (fnOf name qual params body scope dV kV doc pm an cdv ct),osl⟩) (hcd:codeIn K cdv qual = true) (S:A7 N ps scope)
  (len:∀ vs H Q E,sp vs H Q E→vs.length = ps.length)
  (hbody:∀ (A:Around) (outer:List Env) (s:Shared) (H:Hp) (vs:List V) (Q:VK) (E:XK),Ct k (A.deeper (envOfC qual scope s.heap.objs.size f cdv))→sp vs H Q E →
   ∃ t,PSs (M5 CX P w K mg base N qual scope f cdv A outer s H E) body t∧t { nx:=λ _ H'=>Q .non H',rt:=Q } (Ik N vs) H) :
  Cj P w K mg base CX (k + 1) f (fnOf name qual params body scope dV kV doc pm an cdv ct) ps sp:=by
 refine ⟨len,λ A outer s H args us vs Q E hr e0 hb r hsp=>?_⟩
 have hl:=len _ _ _ _ hsp
 have KX:K.In s.heap:=e0.mod.kin.keeps λ b o e=>(e0.bs b o e).1
 have lim:s.heap.NoLimit:=e0.mod.nolimit.keeps λ b o e=>(e0.bs b o e).1
 have hkind:∀ y∈ps.zip us,scope.names.lookup y.1 = some .local∨(scope.names.lookup y.1 = some .cell∧((cellsFrom (s.heap.objs.size + 1) scope.names []).lookup y.1).isSome = true):=λ ⟨n,v⟩ hy=>by
  rcases S.par n (of_mem_zip hy).1 with q | q
  ·exact .inl q
  ·exact .inr ⟨q,cellsFrom_some _ _ _ (.inl q)⟩
 refine codeAny_call_function hr.depth (KX _ _ lk) rfl S.co S.gen rfl (PySem.W.codeRec_of KX hcd) (hb _ _ _ _ ?_)
 refine wpAny_newFunctionEnv_cells S.kind hkind λ env he s1 x=>?_
 subst he
 refine ⟨lim.keeps x.toInCall.keep,codeAny_func ?_⟩
 obtain ⟨t,ht,hq⟩:=hbody A outer s H vs Q E (hr.deeper _) hsp
 have I:Inv (M5 CX P w K mg base N qual scope f cdv A outer s H E) [] (Ik N vs) H s1:=Wn S hr.hd e0 hl r x
 refine wpAny_mono (ht [] s1 (Ik N vs) H _ I hq) (λ fl s' hs=>?_) λ e s' hs=>hs
 have fin:∀ {σ':St} {H':Hp} {v:V} {u:Value},Inv (M5 CX P w K mg base N qual scope f cdv A outer s H E) [] σ' H' s'→Bd v u→Q v H'→CE outer P w H s Q u s' :=
  λ {σ' H' v u} J rv q=>⟨v,H',J.os,J.bare,J.base,J.hok,rv,q⟩
 cases fl with
 | ret u =>
  obtain ⟨v,σ',H',J,rv,q⟩:=hs
  exact fin J rv q
 | next =>
  obtain ⟨σ',H',J,q⟩:=hs
  exact fin (v:=V.non) (u:=Value.none) J rfl q
 | brk =>
  obtain ⟨_,_,_,q⟩:=hs
  exact False.elim q
 | cont =>
  obtain ⟨_,_,_,q⟩:=hs
  exact False.elim q
end L2
namespace L2
open PySem PySem.Spec PyProof.Rows
section
variable {X:Cx} {x:Str} {p pos:Pos} {e:Expr} {es:List Expr} {t:TA} {id T:String} {r:List V→Hp→VK→Prop}
def tCB (r:List V→Hp→VK→Prop) (t:TA):TE:=λ σ H Q=>t σ H λ vs H1=>r vs H1 Q
theorem A4 (hc:Fy X (.builtin id) r) (hg:Gl X x) (hm:X.mg x = none) (hv:bootBuiltins x = some (.builtin id)) (ha:PA X (e :: es) t) (hn:x≠ "__name__" := by decide) (hdb:(x == ("__debug__" : Str)) = false:=by decide)
  (he:starEach (e :: es) X.env = (false,eval e X.env) :: starEach es X.env:=by rfl) (hpl:(backTo pos (starEach es X.env)).any (·.1) = false:=by rfl):PE X (.Call (.Name x p) (e :: es) [] pos) (tCB r t):=by
 intro pins s σ H Q I h
 refine wpAny_Call_Name_kw (Gh I hg hm hv ?_ hn hdb)
 exact PyProof.Rows.callWith_builtin1 (thn (ha pos pins s σ H _ I h) λ us s1 ⟨vs,H1,I1,r1,q1⟩=>hc pins s1 σ H1 vs us Q I1 r1 q1) he hpl
theorem F6 (hc:Fy X (.type T) r) (hg:Gl X x) (hm:X.mg x = none) (hv:bootBuiltins x = some (.type T)) (ha:PA X (e :: es) t) (hn:x≠ "__name__" := by decide) (hdb:(x == ("__debug__" : Str)) = false:=by decide)
  (he:starEach (e :: es) X.env = (false,eval e X.env) :: starEach es X.env:=by rfl) (hpl:(backTo pos (starEach es X.env)).any (·.1) = false:=by rfl):PE X (.Call (.Name x p) (e :: es) [] pos) (tCB r t):=by
 intro pins s σ H Q I h
 refine wpAny_Call_Name_kw (Gh I hg hm hv ?_ hn hdb)
 exact PyProof.Rows.callWith_type1 (thn (ha pos pins s σ H _ I h) λ us s1 ⟨vs,H1,I1,r1,q1⟩=>hc pins s1 σ H1 vs us Q I1 r1 q1) he hpl
end
end L2
namespace HT
open PySem PyProof.Rows
section
open PySem.SeqAt
open PySem.AutoSeq1 (wpAny_loadPart')
open PySem.MeetsSeq PySem.MeetsSeq2 PySem.MeetsSeq3
end
section
variable {prog:Program} {w:World} {A:Around} {E:Value→Shared→Prop} {s:Shared}
theorem Ado {t b:Addr} {vs ws:List Value} {Q:Value→Shared→Prop} (ht:IsTup s.heap t vs.toArray) (hb:IsTup s.heap b ws.toArray) (hv:vs≠[])
  (h1:ws = []→Q (.ref t) s) (h2:ws≠[]→Q (.ref s.heap.objs.size) { s with heap:=s.heap.push { cls:=.type "tuple", data:=.seq (vs ++ ws).toArray } })
  (hsz:vs.length + ws.length≤sizeLine):wpAny (model prog w) A (binaryOp .Add (.ref t) (.ref b)) Q E s:=by
 obtain ⟨⟨cls,dd,data,sl⟩,ho,hc,n,hd⟩:=id ht
 obtain ⟨⟨cls2,dd2,data2,sl2⟩,ho2,hc2,n2,hd2⟩:=id hb
 simp only at hc hd hc2 hd2
 subst hc hd hc2 hd2
 have e:vs.toArray ++ ws.toArray = (vs ++ ws).toArray:=by simp
 by_cases hw:ws = []
 ·exact concat_meets ⟨_,ho,Z⟩ ⟨_,ho2,Z⟩ noFill_tuple_add seq_tuple_add PySem.F.slot_tuple_add PySem.F.entry_tuple_add (PySem.F.args_tuple_add_2 _ _)
   (tuple_addW1 t b vs.toArray ws.toArray n n2 dd dd2 sl sl2 (by simpa using hv) (by simp [hw])) ⟨ho,ho2,h1 hw⟩
 ·refine concat_meets ⟨_,ho,Z⟩ ⟨_,ho2,Z⟩ noFill_tuple_add seq_tuple_add PySem.F.slot_tuple_add PySem.F.entry_tuple_add (PySem.F.args_tuple_add_2 _ _)
   (tuple_addW2 t b vs.toArray ws.toArray n n2 dd dd2 sl sl2 (by simpa using hv) (by simpa using hw) (by rw [size_toArray,size_toArray]; exact hsz)) ⟨ho,ho2,?_⟩
  rw [e]
  exact h2 hw
def sIx (n d:Nat):Option Int→Nat
 | none=>d
 | some v=>if v < 0 then (v + (n:Int)).toNat else min v.toNat n
theorem Adq (n d k:Nat):sIx n d (some (k:Int)) = min k n:=by
 show (if (k:Int) < 0 then ((k:Int) + (n:Int)).toNat else min (k:Int).toNat n) = min k n
 rw [if_neg (by omega),Int.toNat_natCast]
theorem Ab3 (n d:Nat) (hd:d≤n) (o:Option Int):sIx n d o≤n:=by
 cases o with
 | none=>exact hd
 | some v =>
  show (if v < 0 then (v + (n:Int)).toNat else min v.toNat n)≤n
  by_cases hv:v < 0
  ·rw [if_pos hv]; omega
  ·rw [if_neg hv]; exact min_le_right _ _
theorem Tj (v:Int) (n d:Nat):(if v < 0 then max (v + (n:Int)) 0 else min v (n:Int)) = ((sIx n d (some v):Nat):Int):=by
 show (if v < 0 then max (v + (n:Int)) 0 else min v (n:Int)) = (((if v < 0 then (v + (n:Int)).toNat else min v.toNat n):Nat):Int)
 by_cases hv:v < 0
 ·simp only [if_pos hv]; omega
 ·simp only [if_neg hv]; omega
theorem Vx (lo hi:Option Int) (n:Nat):Builtin.Slice.sliceAdjust lo hi 1 (n:Int) = (((sIx n 0 lo:Nat):Int),((sIx n n hi:Nat):Int)):=by
 have h1:¬ ((1:Int) < 0):=by omega
 unfold Builtin.Slice.sliceAdjust
 simp only [h1,if_false]
 refine Prod.ext ?_ ?_
 ·cases lo with
  | none=>rfl
  | some v=>exact Tj v n 0
 ·cases hi with
  | none=>rfl
  | some v=>exact Tj v n n
theorem Vs (i j:Nat):Builtin.Slice.slicePlaces (i:Int) (j:Int) 1 = j - i:=by
 unfold Builtin.Slice.slicePlaces
 have h1:(1:Int) > 0:=by omega
 simp only [h1,if_true,Int.ediv_one]
 split <;> omega
theorem Nt {v:Value} {o:Option Int} {Q:Option Int→Shared→Prop} (p:IsPart v o) (h:Q o s):wpAny (model prog w) A (Builtin.Slice.slicePartIndex v) Q E s:=by
 cases p with
 | none=>exact slicePart_none h
 | int i t=>exact slicePart_int h
theorem M7 {sl:Addr} {vl vu:Value} {lo hi:Option Int} {n:Nat} {Q:Int× Int× Nat→Shared→Prop} (hs:s.heap.IsSliceOf sl vl vu .none) (pl:IsPart vl lo) (pu:IsPart vu hi)
  (h:Q (((sIx n 0 lo:Nat):Int),1,sIx n n hi - sIx n 0 lo) s):wpAny (model prog w) A (Builtin.Slice.sliceApplied (.ref sl) (pure (n:Int))) Q E s:=by
 obtain ⟨os,hos,hcs,hds⟩:=id hs
 unfold Builtin.Slice.sliceApplied Builtin.Slice.sliceFields
 refine wpAny_bind (wpAny_bind (wpAny_field hos hds (x:=vl) rfl (wpAny_bind (wpAny_field hos hds (x:=vu) rfl (wpAny_bind (wpAny_field hos hds (x:=.none) rfl (wpAny_pure ?_)))))))
 refine wpAny_bind (slicePart_none ?_)
 show wpAny _ _ (if ((1:Int) == 0) = true then _ else _) _ _ s
 rw [if_neg (by decide)]
 refine wpAny_bind (Nt pl (wpAny_bind (Nt pu (wpAny_bind (wpAny_pure ?_)))))
 show wpAny _ _ (match Builtin.Slice.sliceAdjust lo hi 1 (n:Int) with | (lo,hi)=>pure (lo,(1:Int),Builtin.Slice.slicePlaces lo hi 1)) _ _ s
 rw [Vx lo hi n]
 show wpAny _ _ (pure (((sIx n 0 lo:Nat):Int),(1:Int),Builtin.Slice.slicePlaces ((sIx n 0 lo:Nat):Int) ((sIx n n hi:Nat):Int) 1)) _ _ s
 rw [Vs]
 exact wpAny_pure h
theorem AaU (xs:Array Value) (i k:Nat):((List.range k).filterMap λ (m:Nat)=>xs[((i:Int) + (m:Int) * 1).toNat]?).toArray = ((xs.toList.drop i).take k).toArray:=by
 have e:(λ (m:Nat)=>xs[((i:Int) + (m:Int) * 1).toNat]?) = λ m=>xs[i + m]?:=by
  funext m
  have:((i:Int) + (m:Int) * 1).toNat = i + m:=by omega
  rw [this]
 rw [e]
 have:=pick_run xs i k
 rw [List.filterMap_map] at this
 have e2:((λ x=>xs[x]?) ∘ λ x=>i + x) = λ m=>xs[i + m]?:=rfl
 rw [e2] at this
 rw [this]
theorem Ys {t sl:Addr} {items:Array Value} {vl vu:Value} {lo hi:Option Int} {Q:Value→Shared→Prop} (ht:IsTup s.heap t items) (hs:s.heap.IsSliceOf sl vl vu .none) (pl:IsPart vl lo) (pu:IsPart vu hi)
  (hw:¬ (sIx items.size 0 lo = 0∧sIx items.size items.size hi = items.size))
  (h:Q (.ref s.heap.objs.size) { s with heap:=s.heap.push { cls:=.type "tuple", data:=.seq ((items.toList.drop (sIx items.size 0 lo)).take (sIx items.size items.size hi - sIx items.size 0 lo)).toArray } })
  (hsz:items.size≤sizeLine):wpAny (model prog w) A (getItem (.ref t) (.ref sl)) Q E s:=by
 have htake:sizeOk (.seq ((items.toList.drop (sIx items.size 0 lo)).take (sIx items.size items.size hi - sIx items.size 0 lo)).toArray):=by
  show ((items.toList.drop (sIx items.size 0 lo)).take (sIx items.size items.size hi - sIx items.size 0 lo)).toArray.size≤sizeLine
  rw [size_toArray,length_take,length_drop,Array.length_toList]
  omega
 have hj:sIx items.size items.size hi≤items.size:=Ab3 _ _ (le_refl _) hi
 obtain ⟨os,hos,hcs,hds⟩:=id hs
 have hTs:s.TypeIs (.ref sl) "slice" := ⟨os,hos,hcs⟩
 unfold getItem
 try with_reducible refine wpAny_holding ?_
 first | refine wpAny_bind (wpAny_pure ?_) | skip
 refine wpAny_bind (wpAny_sequenceKey ht.typeIs (by decide) ?_)
 refine wpAny_bind (wpAny_callSpecial?_slot (name:=Str.ofString "__getitem__") ht.typeIs PyProof.Rows.slot_tuple_getitem
  (wpAny_call_entry PyProof.Rows.slot_tuple_getitem ht.typeIs entry_tuple_getitem ?_ (args_tuple_getitem _ _)))
 show wpAny _ _ (Builtin.Tuple.tupleItemsOf (.ref t) >>= _) _ _ s
 refine wpAny_bind (tupleItemsOf_ ht ?_)
 refine wpAny_bind (wpAny_typeOf hTs ?_)
 rw [if_pos (by decide)]
 refine wpAny_bind (M7 hs pl pu ?_)
 have hno:¬ ((((sIx items.size 0 lo:Nat):Int) == 0 && (1:Int) == 1 && (sIx items.size items.size hi - sIx items.size 0 lo) == items.size) = true):=by
  intro q
  rw [Bool.and_eq_true,Bool.and_eq_true] at q
  have q1:((sIx items.size 0 lo:Nat):Int) = 0:=eq_of_beq q.1.1
  have q2:sIx items.size items.size hi - sIx items.size 0 lo = items.size:=eq_of_beq q.2
  exact hw ⟨by omega,by omega⟩
 show wpAny _ _ (if (((sIx items.size 0 lo:Nat):Int) == 0 && (1:Int) == 1 && (sIx items.size items.size hi - sIx items.size 0 lo) == items.size) = true then _ else _) _ _ s
 rw [if_neg hno,AaU]
 first
  | exact wpAny_bind (m:=Builtin.Tuple.tupleExact _) (wpAny_newObj_type (wpAny_pure ⟨_,rfl,wpAny_pure h⟩) htake)
  | exact wpAny_bind (m:=Builtin.Tuple.tupleExact _) (wpAny_newObj_type (wpAny_bind (wpAny_pure (wpAny_pure ⟨_,rfl,wpAny_pure h⟩))) htake)
  | exact wpAny_bind (wpAny_bind (m:=Builtin.Tuple.tupleExact _) (wpAny_newObj_type (wpAny_pure (wpAny_pure ⟨_,rfl,wpAny_pure h⟩)) htake))
  | exact wpAny_bind (wpAny_bind (m:=Builtin.Tuple.tupleExact _) (wpAny_newObj_type (wpAny_pure ⟨_,rfl,wpAny_pure h⟩) htake))
end
end HT
namespace L2
open PySem PySem.Spec PyProof.Rows
abbrev TO:=St→Hp→(Option Int→Hp→Prop)→Prop
def PO (X:Cx) (e:Option Expr) (t:TO):Prop :=
 ∀ (pins:List (Addr× Obj)) (s:Shared) (σ:St) (H:Hp) (Q:Option Int→Hp→Prop),Inv X pins σ H s→t σ H Q →
  wpAny (model X.prog X.w) X.A (evalPart e X.env) (λ u s'=>∃ o H',Inv X pins σ H' s'∧IsPart u o∧Q o H') X.xe s
def AbN:TO:=λ _ H Q=>Q none H
def Ac2 (t:TE):TO:=λ σ H Q=>t σ H λ x H1=>∃ i,x = .int i∧Q (some i) H1
theorem Kq {ns:List Int}:∀ {us:List Value},Bb (ns.map V.int) us→IntsAre us ns:=by
 induction ns with
 | nil=>intro us r; rw [map_nil] at r; cases r; exact .nil
 | cons n ns ih =>
  intro us r
  rw [map_cons] at r
  cases r with
  | cons r1 r2 =>
   obtain ⟨t,e⟩:=r1
   subst e
   exact .cons n t (ih r2)
section
variable {X:Cx} {e:Expr} {te:TE} {lo hi:Option Expr} {tl th:TO} {pos p2:Pos}
theorem Abm:PO X none AbN:=by
 intro pins s σ H Q I h
 rw [evalPart_none]
 exact wpAny_pure ⟨none,H,I,.none,h⟩
theorem Op (h:PE X e te):PO X (some e) (Ac2 te):=by
 intro pins s σ H Q I hw
 rw [evalPart_some]
 refine thn (h pins s σ H _ I hw) λ u s1 ⟨x,H1,I1,r1,q1⟩=>?_
 obtain ⟨i,rfl,q⟩:=q1
 obtain ⟨t,rfl⟩:=r1
 exact ⟨some i,H1,I1,.int i t,q⟩
def SlR (X:Cx) (r:V→Option Int→Option Int→Hp→VK→Prop):Prop :=
 ∀ (pins:List (Addr× Obj)) (s:Shared) (σ:St) (H:Hp) (x:V) (v vl vu:Value) (lo hi:Option Int) (sl:Addr) (Q:VK),Inv X pins σ H s→Bd x v→s.heap.IsSliceOf sl vl vu .none→IsPart vl lo→IsPart vu hi→r x lo hi H Q →
  ∃ T id,typeLookup (.type T) "__getitem__" = pure (some (.builtin id))∧s.TypeIs v T∧wpAny (model X.prog X.w) X.A (getItem v (.ref sl)) (EP X pins σ Q) X.xe s
def tSl (r:V→Option Int→Option Int→Hp→VK→Prop) (te:TE) (tl th:TO):TE:=λ σ H Q=>te σ H λ x H1=>tl σ H1 λ l H2=>th σ H2 λ u H3=>r x l u H3 Q
theorem Ra {r:V→Option Int→Option Int→Hp→VK→Prop} (hr:SlR X r) (he:PE X e te) (hl:PO X lo tl) (hu:PO X hi th):PE X (.Subscript e (.Slice lo hi none p2) pos) (tSl r te tl th):=by
 intro pins s σ H Q I h
 refine Subscript_ (thn (he pins s σ H _ I h) λ v s1 ⟨x,H1,I1,r1,q1⟩=>?_)
 refine wpAny_Slice (thn (hl pins s1 σ H1 _ I1 q1) λ vl s2 ⟨l,H2,I2,pl,q2⟩=>thn (hu pins s2 σ H2 _ I2 q2) λ vu s3 ⟨u,H3,I3,pu,q3⟩=>?_)
 rw [evalPart_none]
 refine wpAny_pure ?_
 have I4:Inv X pins σ H3 { s3 with heap:=s3.heap.push { cls:=.type "slice", data:=.fields #[vl,vu,.none] } }:=I3.kept (t':=s3.toks) λ b ob q=>Heap.get?_push_of_some _ q
 obtain ⟨T,id,hT,ht,hg⟩:=hr pins { s3 with heap:=s3.heap.push { cls:=.type "slice", data:=.fields #[vl,vu,.none] } } σ H3 x v vl vu l u s3.heap.objs.size Q I4 r1 (Heap.IsSliceOf.new ..) pl pu q3
 show wpAny (model X.prog X.w) X.A (subscriptTail e (.Slice lo hi none p2) v (.ref s3.heap.objs.size)) (EP X pins σ Q) X.xe { s3 with heap:=s3.heap.push { cls:=.type "slice", data:=.fields #[vl,vu,.none] } }
 exact tail_any (ops:=[.ref s3.heap.objs.size,v]) ht hT hg (by with_unfolding_all rfl)
def Ie (xs:List V) (lo hi:Option Int):List V:=(xs.drop (HT.sIx xs.length 0 lo)).take (HT.sIx xs.length xs.length hi - HT.sIx xs.length 0 lo)
theorem Mo (xs:List V) (lo hi:Option Int):(Ie xs lo hi).length≤xs.length:=by
 unfold Ie
 rw [length_take,length_drop]
 omega
def Adg (K:PySem.W.Frag):V→Option Int→Option Int→Hp→VK→Prop:=λ x lo hi H Q=>∃ a xs,x = .ref a∧SqT K H a xs ∧
 ¬ (HT.sIx xs.length 0 lo = 0∧HT.sIx xs.length xs.length hi = xs.length)∧∀ p,H p = none→Q (.ref p) (upd H p (.tup (Ie xs lo hi)))
theorem AcG:SlR X (Adg X.K):=by
 intro pins s σ H x v vl vu lo hi sl Q I rx hs pl pu h
 obtain ⟨a,xs,rfl,hx,hw,q⟩:=h
 cases rx
 obtain ⟨its,r,ht,hz⟩:=I.tuple hx
 have hlen:its.toArray.size = xs.length:=by rw [size_toArray]; exact r.length.symm
 refine ⟨"tuple", _,PyProof.Rows.slot_tuple_getitem.lookup,ht.typeIs,?_⟩
 refine HT.Ys ht hs pl pu (by rw [hlen]; exact hw) ?_ (by rw [hlen]; exact hz)
 rw [hlen]
 refine ⟨.ref s.heap.objs.size,_,I.laid (t':=s.toks) (o:=.tup (Ie xs lo hi)) (λ b ob q=>Heap.get?_push_of_some _ q) (le_refl _) ?_,Z,q _ (I.hok.fresh (le_refl _))⟩
 exact ⟨le_trans (Mo xs lo hi) hz,_,(r.drop (HT.sIx xs.length 0 lo)).take (HT.sIx xs.length xs.length hi - HT.sIx xs.length 0 lo),IsTup.new _ _⟩
def Ac0 (K:PySem.W.Frag):R2:=λ x y H Q=>∃ a b xs ys,x = .ref a∧y = .ref b∧SqT K H a xs∧SqT K H b ys∧xs≠[]∧xs.length + ys.length≤sizeLine ∧
 (ys = []→Q (.ref a) H)∧(ys≠[]→∀ p,H p = none→Q (.ref p) (upd H p (.tup (xs ++ ys))))
theorem Bb.nil_iff {xs:List V} {us:List Value} (r:Bb xs us):us = []↔xs = []:=by
 cases r with
 | nil=>simp
 | cons _ _=>simp
theorem Aax:OpR X (binaryOp .Add) (Ac0 X.K):=by
 intro pins s σ H x y v u Q I rx ry h
 obtain ⟨a,b,xs,ys,rfl,rfl,ha,hb,hx,hz,q1,q2⟩:=h
 cases rx
 cases ry
 obtain ⟨its,r1,p1,_⟩:=I.tuple ha
 obtain ⟨its2,r2,p2,_⟩:=I.tuple hb
 refine HT.Ado p1 p2 (λ z=>hx (r1.nil_iff.mp z)) (λ z=>⟨.ref a,H,I,Z,q1 (r2.nil_iff.mp z)⟩) (λ z=>?_) (by rw [← r1.length,← r2.length]; exact hz)
 refine ⟨.ref s.heap.objs.size,_,I.laid (t':=s.toks) (o:=.tup (xs ++ ys)) (λ b ob q=>Heap.get?_push_of_some _ q) (le_refl _) ?_,Z,q2 (λ w=>z (r2.nil_iff.mpr w)) _ (I.hok.fresh (le_refl _))⟩
 exact ⟨by rw [length_append]; exact hz,_,r1.append r2,IsTup.new _ _⟩
end
end L2
namespace L2
open PySem PySem.Spec PyProof.Rows
def ixN (n:Nat) (i:Int):Option Nat:=if 0≤i then (if i < n then some i.toNat else none) else if -(n:Int)≤i then some (i + n).toNat else none
def atI {α:Type} (xs:List α) (i:Int):Option α:=(ixN xs.length i).bind λ j=>xs[j]?
theorem Up {n:Nat} {i:Int} {j:Nat} (h:ixN n i = some j):seqIndex? i n = some j∧j < n∧-(n:Int)≤i∧i < n:=by
 unfold ixN at h
 by_cases h0:0≤i
 ·rw [if_pos h0] at h
  by_cases h1:i < n
  ·rw [if_pos h1] at h
   have e:i.toNat = j:=Option.some.inj h
   exact ⟨by rw [seqIndex_of h0 h1,e],by omega,by omega,h1⟩
  ·rw [if_neg h1] at h; cases h
 ·rw [if_neg h0] at h
  by_cases h1:-(n:Int)≤i
  ·rw [if_pos h1] at h
   have e:(i + n).toNat = j:=Option.some.inj h
   exact ⟨by rw [seqIndex_neg (by omega) h1,e],by omega,h1,by omega⟩
  ·rw [if_neg h1] at h; cases h
theorem Te {α:Type} {xs:List α} {i:Int} {v:α} (h:atI xs i = some v):∃ j,seqIndex? i xs.length = some j∧xs[j]? = some v∧j < xs.length∧-(xs.length:Int)≤i∧i < xs.length:=by
 unfold atI at h
 cases e:ixN xs.length i with
 | none=>rw [e] at h; cases h
 | some j =>
  rw [e] at h
  obtain ⟨h1,h2,h3,h4⟩:=Up e
  exact ⟨j,h1,h,h2,h3,h4⟩
theorem Ah {α:Type} {xs:List α} {j:Nat} {v:α} (h:xs[j]? = some v):atI xs (j:Int) = some v:=by
 have hj:j < xs.length:=(List.getElem?_eq_some_iff.mp h).1
 have e:ixN xs.length (j:Int) = some j:=by
  unfold ixN
  rw [if_pos (by omega),if_pos (by omega)]; simp
 unfold atI; rw [e]; exact h
def AbD (b:Expr):Prop:=∀ o i,subscripted b false o i = operate [o,i] (getItem o i)
def IxR (X:Cx) (r:R2):Prop :=
 ∀ (value slice:Expr) (pins:List (Addr× Obj)) (s:Shared) (σ:St) (H:Hp) (x y:V) (v u:Value) (Q:VK),Inv X pins σ H s→Bd x v→Bd y u→r x y H Q →
  subscripted slice false v u = operate [v,u] (getItem v u)→wpAny (model X.prog X.w) X.A (subscriptTail value slice v u) (EP X pins σ Q) X.xe s
def MtR (X:Cx) (id:String) (r:V→List V→Hp→VK→Prop):Prop :=
 ∀ (pins:List (Addr× Obj)) (s:Shared) (σ:St) (H:Hp) (x:V) (xs:List V) (v:Value) (us:List Value) (Q:VK),Inv X pins σ H s→Bd x v→Bb xs us→r x xs H Q →
  wpAny (model X.prog X.w) X.A (call (.builtin id) (v :: us)) (EP X pins σ Q) X.xe s
section
variable {X:Cx} {a b:Expr} {ta tb:TE} {pos:Pos}
theorem Ao {r:R2} (hr:IxR X r) (ha:PE X a ta) (hb:PE X b tb) (hs:AbD b):PE X (.Subscript a b pos) (tOp r ta tb):=by
 intro pins s σ H Q I h
 exact Subscript_ (AaR ha hb I h λ v u s2 x y H2 I2 rx ry q=>hr a b pins s2 σ H2 x y v u Q I2 rx ry q (hs _ _))
inductive V6 (K:PySem.W.Frag) (x y:V) (H:Hp) (Q:VK):Prop
 | mk (p) (xs) (i) (v) (_:x = .ref p) (_:y = .int i) (_:SqL K H p xs) (_:atI xs i = some v) (_:Q v H):V6 K x y H Q
def AcP (K:PySem.W.Frag):R2:=λ x y H Q=>V6 K x y H Q
inductive Xd (K:PySem.W.Frag) (x y:V) (H:Hp) (Q:VK):Prop
 | mk (p) (xs) (i) (v) (_:x = .ref p) (_:y = .int i) (_:SqT K H p xs) (_:atI xs i = some v) (_:Q v H):Xd K x y H Q
def G1 (K:PySem.W.Frag):R2:=λ x y H Q=>Xd K x y H Q
theorem Bz:IxR X (AcP X.K):=by
 intro value slice pins s σ H x y v u Q I rx ry h hs
 obtain ⟨p,xs,i,z,rfl,rfl,hq,he,q⟩:=h
 cases rx
 obtain ⟨t,rfl⟩:=ry
 obtain ⟨its,r,pl,hz⟩:=I.list hq
 obtain ⟨j,h1,h2,h3,h4,h5⟩:=Te he
 obtain ⟨w,ew,rw'⟩:=r.get h2
 have hl:=r.length
 have hn:=Lh
 have fin:EP X pins σ Q w s:=⟨z,H,I,rw',q⟩
 by_cases h0:0≤i
 ·have hj:i.toNat = j:=by
   rw [seqIndex_of h0 h5] at h1
   exact Option.some.inj h1
  exact item_listR pl.isList h0 (by omega) (by rw [hj]; simpa using ew) fin hs
 ·have hj:(i + (its.toArray.size:Int)).toNat = j:=by
   rw [seqIndex_neg (by omega) h4] at h1
   rw [size_toArray,← hl]
   exact Option.some.inj h1
  exact subscriptTail_builtinR (x:=w) pl.isList.typeIs slot_list_getitem.lookup
   (wpAny_getItem_list_neg (Q:=λ r s'=>r = w∧EP X pins σ Q r s') pl.isList (by omega) (by rw [size_toArray] <;> omega) (by omega) (by rw [hj]; simpa using ew) ⟨Z,fin⟩) hs
theorem Ap:IxR X (G1 X.K):=by
 intro value slice pins s σ H x y v u Q I rx ry h hs
 obtain ⟨p,xs,i,z,rfl,rfl,hq,he,q⟩:=h
 cases rx
 obtain ⟨t,rfl⟩:=ry
 obtain ⟨its,r,pl,hz⟩:=I.tuple hq
 obtain ⟨j,h1,h2,h3,h4,h5⟩:=Te he
 obtain ⟨w,ew,rw'⟩:=r.get h2
 have hl:=r.length
 have hn:=Lh
 have fin:EP X pins σ Q w s:=⟨z,H,I,rw',q⟩
 exact subscriptTail_builtinR (x:=w) pl.typeIs slot_tuple_getitem.lookup
  (getItem_tuple (j:=j) (Q:=λ r s'=>r = w∧EP X pins σ Q r s') pl (by omega) (by omega) (by rw [size_toArray,← hl]; exact h1) (by simpa using ew) ⟨Z,fin⟩) hs
theorem V0 (its:List Value) (n j:Nat) (u:Value):Obj.mapSeq (·.setIfInBounds j u) { cls:=.type "list", data:=.seq its.toArray n } = { cls:=.type "list", data:=.seq (its.set j u).toArray n }:=by
 simp [Obj.mapSeq]
theorem Inv.lst {pins:List (Addr× Obj)} {σ:St} {H:Hp} {s:Shared} {p:Addr} {xs:List V} (I:Inv X pins σ H s) (h:H p = some (.lst xs)) :
  ∃ (its:List Value) (n:Nat),Bb xs its∧s.heap.get? p = some { cls:=.type "list", data:=.seq its.toArray n }∧xs.length≤sizeLine:=by
 obtain ⟨z,its,n,r,e⟩:=I.hok p _ h
 exact ⟨its,n,r,e,z⟩
theorem Inv.lstUpd {pins:List (Addr× Obj)} {σ:St} {H:Hp} {s:Shared} {p:Addr} {xs ys:List V} {its its':List Value} {n n':Nat} {f:Obj→Obj} (I:Inv X pins σ H s) (h:H p = some (.lst xs))
  (ho:s.heap.get? p = some { cls:=.type "list", data:=.seq its.toArray n }) (hf:f { cls:=.type "list", data:=.seq its.toArray n } = { cls:=.type "list", data:=.seq its'.toArray n' }) (r:Bb ys its') (hz:ys.length≤sizeLine) (t:Nat) :
  Inv X pins σ (upd H p (.lst ys)) { s with heap:=s.heap.update p f,toks:=t }:=by
 have e:(s.heap.update p f).get? p = some { cls:=.type "list", data:=.seq its'.toArray n' }:=by
  rw [Heap.get?_update_self f ho (by rw [hf] <;> rfl),hf]
 refine I.write (x:=p) (e:=p) (by rw [h]; trivial) (.inl rfl) (λ b u hb q=>(Heap.get?_update_other _ _ (Ne.symm hb)).trans q) ⟨_,e⟩ ?_
 exact ⟨hz,its',n',r,e⟩
inductive Tf (o i v:V) (H:Hp) (Q:Hp→Prop):Prop
 | mk (p:Addr) (xs:List V) (k:Int) (j:Nat) (_:o = .ref p) (_:i = .int k) (_:H p = some (.lst xs)) (_:ixN xs.length k = some j) (_:Q (upd H p (.lst (xs.set j v)))):Tf o i v H Q
def AdK:V→V→V→Hp→(Hp→Prop)→Prop:=λ o i v H Q=>Tf o i v H Q
theorem Na:Acf X AdK:=by
 intro pins s σ H o i v ov iv u Q I ro ri rv h
 obtain ⟨p,xs,k,j,rfl,rfl,hp,hj,q⟩:=h
 cases ro
 obtain ⟨t,rfl⟩:=ri
 obtain ⟨its,n,r,ho,hz⟩:=I.lst hp
 obtain ⟨h1,h2,h3,h4⟩:=Up hj
 have hl:=r.length
 have hn:=Lh
 have I':Inv X pins σ (upd H p (.lst (xs.set j v))) { s with heap:=s.heap.update p (Obj.mapSeq (·.setIfInBounds j u)) } :=
  I.lstUpd hp ho (V0 its n j u) (r.set rv j) (by rw [length_set]; exact hz) s.toks
 by_cases h0:0≤k
 ·have hk:k.toNat = j:=by
   rw [seqIndex_of h0 h4] at h1
   exact Option.some.inj h1
  exact PySem.W.ki_setAt ho h0 (by omega) (by rw [size_toArray,← hl]; exact h4) (by rw [hk]; exact ⟨_,I',q⟩)
 ·have hk:(k + (its.toArray.size:Int)).toNat = j:=by
   rw [seqIndex_neg (by omega) h3] at h1
   rw [size_toArray,← hl]
   exact Option.some.inj h1
  exact PySem.W.ki_setBack ho (by omega) (by rw [size_toArray,← hl]; exact h3) (by omega) (by rw [hk]; exact ⟨_,I',q⟩)
theorem Ri (lo hi:Option Int) (n:Nat):(sliceBounds lo hi none n).1 = ((HT.sIx n 0 lo:Nat):Int)∧(sliceBounds lo hi none n).2.1 = ((HT.sIx n n hi:Nat):Int)∧(sliceBounds lo hi none n).2.2 = 1:=by
 refine ⟨?_,?_,Z⟩
 ·cases lo with
  | none=>simp [sliceBounds,HT.sIx]
  | some i =>
   simp only [sliceBounds,HT.sIx,Option.getD_none,show (1:Int) > 0 by decide,if_true]
   by_cases h:i < 0
   ·simp only [h,if_true] <;> omega
   ·simp only [h,if_false] <;> omega
 ·cases hi with
  | none=>simp [sliceBounds,HT.sIx]
  | some i =>
   simp only [sliceBounds,HT.sIx,Option.getD_none,show (1:Int) > 0 by decide,if_true]
   by_cases h:i < 0
   ·simp only [h,if_true] <;> omega
   ·simp only [h,if_false] <;> omega
theorem Qf (its:List Value) (lo hi:Option Int):slicePick its.toArray lo hi none = ((its.drop (HT.sIx its.length 0 lo)).take (HT.sIx its.length its.length hi - HT.sIx its.length 0 lo)).toArray:=by
 obtain ⟨h1,h2,h3⟩:=Ri lo hi its.toArray.size
 unfold slicePick
 rw [h1,h2,h3]
 simp only [sliceRange_one,pick_run,size_toArray] <;> rfl
def Adc (K:PySem.W.Frag):V→Option Int→Option Int→Hp→VK→Prop:=λ x lo hi H Q=>∃ a xs,x = .ref a∧SqL K H a xs∧∀ p,H p = none→Q (.ref p) (upd H p (.lst (Ie xs lo hi)))
theorem Aay:SlR X (Adc X.K):=by
 intro pins s σ H x v vl vu lo hi sl Q I rx hs pl pu h
 obtain ⟨a,xs,rfl,hx,q⟩:=h
 cases rx
 obtain ⟨its,r,ht,hz⟩:=I.list hx
 have hlen:=r.length
 refine ⟨"list", _,slot_list_getitem.lookup,ht.isList.typeIs,?_⟩
 refine wpAny_getItem_list_slice ht.isList hs pl pu .none (by simp) ?_ (by rw [size_toArray] <;> omega)
 rw [Qf,← hlen]
 refine ⟨.ref s.heap.objs.size,_,I.laid (t':=s.toks) (o:=.lst (Ie xs lo hi)) (λ b ob q=>Heap.get?_push_of_some _ q) (le_refl _) ?_,Z,q _ (I.hok.fresh (le_refl _))⟩
 exact ⟨le_trans (Mo xs lo hi) hz,_,0,(r.drop (HT.sIx xs.length 0 lo)).take (HT.sIx xs.length xs.length hi - HT.sIx xs.length 0 lo),Heap.get?_push_size _ rfl⟩
def Jn:V→Bool
 | .non=>true
 | .bl _=>true
 | .int _=>true
 | .str _=>true
 | _=>false
def eqV:V→V→Bool
 | .non,.non=>true
 | .bl a,.bl b=>a == b
 | .bl a,.int b=>(if a then 1 else 0) == b
 | .int a,.bl b=>a == (if b then 1 else 0)
 | .int a,.int b=>a == b
 | .str a,.str b=>a == b
 | _,_=>false
theorem AcX {A:Around} {s:Shared} {y x:V} {u v:Value} (ry:Bd y u) (rx:Bd x v) (fy:Jn y = true) (fx:Jn x = true):SeqAt.EqAt A s u v (eqV y x):=by
 cases y with
 | non =>
  cases ry
  cases x with
  | non=>cases rx; exact SeqAt.EqAt.same _
  | bl b=>cases rx; exact SeqAt.EqAt.none_bool b
  | int b=>obtain ⟨t,rfl⟩:=rx; exact SeqAt.EqAt.none_int b t
  | str b=>obtain ⟨t,rfl⟩:=rx; exact SeqAt.EqAt.none_str b t
  | _=>exact absurd (show false = true from fx) Bool.false_ne_true
 | bl a =>
  cases ry
  cases x with
  | non=>cases rx; exact SeqAt.EqAt.bool_none a
  | bl b=>cases rx; exact SeqAt.EqAt.bool_bool a b
  | int b=>obtain ⟨t,rfl⟩:=rx; exact SeqAt.EqAt.bool_int a b t
  | str b=>obtain ⟨t,rfl⟩:=rx; exact SeqAt.EqAt.bool_str a b t
  | _=>exact absurd (show false = true from fx) Bool.false_ne_true
 | int a =>
  obtain ⟨t',rfl⟩:=ry
  cases x with
  | non=>cases rx; exact SeqAt.EqAt.int_none a t'
  | bl b=>cases rx; exact SeqAt.EqAt.int_bool a t' b
  | int b=>obtain ⟨t,rfl⟩:=rx; exact SeqAt.EqAt.int_int a t' b t
  | str b=>obtain ⟨t,rfl⟩:=rx; exact SeqAt.EqAt.int_str a t' b t
  | _=>exact absurd (show false = true from fx) Bool.false_ne_true
 | str a =>
  obtain ⟨t',rfl⟩:=ry
  cases x with
  | non=>cases rx; exact SeqAt.EqAt.str_none a t'
  | bl b=>cases rx; exact SeqAt.EqAt.str_bool a t' b
  | int b=>obtain ⟨t,rfl⟩:=rx; exact SeqAt.EqAt.str_int a t' b t
  | str b=>obtain ⟨t,rfl⟩:=rx; exact SeqAt.EqAt.str_str a t' b t
  | _=>exact absurd (show false = true from fx) Bool.false_ne_true
 | _=>exact absurd (show false = true from fy) Bool.false_ne_true
def eqU (x:V) (u:Value):Bool:=match u with
 | .none=>eqV .non x
 | .bool b=>eqV (.bl b) x
 | .int i _=>eqV (.int i) x
 | .str z _=>eqV (.str z) x
 | _=>false
theorem Wv {x y:V} {u:Value} (r:Bd y u) (f:Jn y = true):eqU x u = eqV y x:=by
 cases y with
 | non=>cases r; rfl
 | bl b=>cases r; rfl
 | int i=>obtain ⟨t,rfl⟩:=r; rfl
 | str z=>obtain ⟨t,rfl⟩:=r; rfl
 | _=>exact absurd (show false = true from f) Bool.false_ne_true
theorem Ox {x:V}:∀ {xs:List V} {us:List Value},Bb xs us→xs.all Jn = true→us.any (eqU x) = xs.any λ y=>eqV y x
 | _,_,.nil,_=>rfl
 | y :: xs,u :: us,.cons r t,f=>by
  rw [all_cons,Bool.and_eq_true] at f
  rw [any_cons,any_cons,Wv r f.1,Ox t f.2]
theorem M2 {A:Around} {s:Shared} {x:V} {v:Value} (rx:Bd x v) (fx:Jn x = true):∀ {xs:List V} {us:List Value},Bb xs us→xs.all Jn = true→∀ u∈us,SeqAt.EqAt A s u v (eqU x u)
 | _,_,.nil,_=>λ u hu=>by cases hu
 | y :: xs,u :: us,.cons r t,f=>λ u' hu=>by
  rw [all_cons,Bool.and_eq_true] at f
  rcases mem_cons.mp hu with rfl | hu
  ·rw [Wv r f.1]; exact AcX r rx f.1 fx
  ·exact M2 rx fx t f.2 u' hu
def inV (x:V) (xs:List V):Bool:=xs.any λ y=>eqV y x
inductive Aak (K:PySem.W.Frag) (neg:Bool) (x y:V) (H:Hp) (Q:VK):Prop
 | mk (p) (xs) (_:y = .ref p) (_:(SqL K H p xs∨SqT K H p xs)) (_:Jn x = true) (_:xs.all Jn = true) (_:Q (.bl (if neg then !inV x xs else inV x xs)) H):Aak K neg x y H Q
def rIn (K:PySem.W.Frag) (neg:Bool):R2:=λ x y H Q=>Aak K neg x y H Q
theorem Jo:OpR X (compareOp .In) (rIn X.K false):=by
 intro pins s σ H x y v u Q I rx ry h
 obtain ⟨p,xs,rfl,hq,fx,fs,q⟩:=h
 cases ry
 rcases hq with hq | hq
 ·obtain ⟨its,r,pl,hz⟩:=I.list hq
  refine SeqAt.in_listAt (eqU x) pl.isList (λ w hw=>M2 rx fx r fs w (by simpa using hw)) ⟨.bl _,H,I,Z,?_⟩
  rw [show its.toArray.any (eqU x) = its.any (eqU x) by simp,Ox r fs]
  exact q
 ·obtain ⟨its,r,pl,hz⟩:=I.tuple hq
  refine SeqAt.in_tupleAt (eqU x) pl (λ w hw=>M2 rx fx r fs w (by simpa using hw)) ⟨.bl _,H,I,Z,?_⟩
  rw [show its.toArray.any (eqU x) = its.any (eqU x) by simp,Ox r fs]
  exact q
theorem Rz:Fy X (.builtin "len") (λ xs H Q=>∃ p ys,xs = [.ref p]∧(SqL X.K H p ys∨SqT X.K H p ys)∧Q (.int ys.length) H):=by
 intro pins s σ H xs us Q I r h
 obtain ⟨p,ys,rfl,hq,q⟩:=h
 obtain ⟨u,rfl,rx⟩:=Qs r
 cases rx
 have hn:=Lh
 rcases hq with hq | hq
 ·obtain ⟨its,r',pl,hz⟩:=I.list hq
  have hlen:=r'.length
  exact Calls.call_len_list pl.isList (by simp only [size_toArray] <;> omega) ⟨.int ys.length,H,I.tok _,⟨s.toks + 1,by rw [size_toArray,hlen]⟩,q⟩
 ·obtain ⟨its,r',pl,hz⟩:=I.tuple hq
  have hlen:=r'.length
  exact len_tuple pl (by simp only [size_toArray] <;> omega) ⟨.int ys.length,H,I.tok _,⟨s.toks + 1,by rw [size_toArray,hlen]⟩,q⟩
theorem Hx:Fy X (.type "tuple") (λ xs H Q=>∃ p ys,xs = [.ref p]∧((SqL X.K H p ys∧∀ l,H l = none→Q (.ref l) (upd H l (.tup ys)))∨(SqT X.K H p ys∧Q (.ref p) H))):=by
 intro pins s σ H xs us Q I r h
 obtain ⟨p,ys,rfl,h⟩:=h
 obtain ⟨u,rfl,rx⟩:=Qs r
 cases rx
 rcases h with ⟨hq,q⟩ | ⟨hq,q⟩
 ·obtain ⟨its,r',pl,hz⟩:=I.list hq
  have hlen:=r'.length
  refine call_tuple_list pl.isList (λ h' kp=>?_) (by simp only [size_toArray] <;> omega)
  have I1:Inv X pins σ H { s with heap:=h' }:=I.kept (t':=s.toks) kp
  have I2:Inv X pins σ (upd H h'.objs.size (.tup ys)) { s with heap:=h'.push { cls:=.type "tuple", data:=.seq its.toArray } } :=
   I1.laid (t':=s.toks) (λ b o e=>Heap.get?_push_of_some _ e) (le_refl _) (show B5 X.prog X.w _ _ _ (.tup ys) from ⟨hz,its,r',IsTup.new _ _⟩)
  exact ⟨.ref h'.objs.size,_,I2,Z,q _ (I1.hok.fresh (le_refl _))⟩
 ·obtain ⟨its,r',pl,hz⟩:=I.tuple hq
  exact call_tuple_same pl ⟨.ref p,H,I,Z,q⟩
def tyV (K:PySem.W.Frag) (T:String) (x:V) (H:Hp):Prop:=match x with
 | .str _=>T = "str"
 | .int _=>T = "int"
 | .ref p=>(T = "list" ∧ ∃ xs,SqL K H p xs)∨(T = "tuple" ∧ ∃ o,K.lookup p = some o∧o.cls = .type "tuple" ∧ o.dict = none) ∨
   (T = "dict" ∧ ((∃ kvs,H p = some (.dK kvs))∨∃ kvs,H p = some (.dT kvs)))∨(T = "set" ∧ ∃ S n,H p = some (.set S n))
 | _=>False
theorem Xs {pins:List (Addr× Obj)} {σ:St} {H:Hp} {s:Shared} {T:String} {x:V} {v:Value} (I:Inv X pins σ H s) (r:Bd x v) (ty:tyV X.K T x H) :
  s.TypeIs v T∧∀ a,v = .ref a→∃ ob,s.heap.get? a = some ob∧ob.dict = none:=by
 cases x with
 | str z =>
  obtain ⟨t,rfl⟩:=r
  cases (show T = "str" from ty)
  exact ⟨typeIs_str s z t,λ _ e=>nomatch e⟩
 | int i =>
  obtain ⟨t,rfl⟩:=r
  cases (show T = "int" from ty)
  exact ⟨typeIs_int s i t,λ _ e=>nomatch e⟩
 | ref p =>
  cases r
  rcases ty with ⟨rfl,xs,hq⟩ | ⟨rfl,o,hk,hc,hd⟩ | ⟨rfl,hk⟩ | ⟨rfl,S,n,hk⟩
  ·obtain ⟨its,_,pl,_⟩:=I.list hq
   refine ⟨pl.isList.typeIs,λ a e=>?_⟩
   cases e
   obtain ⟨o,n,e,c,hd,_⟩:=pl
   exact ⟨o,e,hd⟩
  ·refine ⟨⟨o,I.kIn p o hk,hc⟩,λ a e=>?_⟩
   cases e
   exact ⟨o,I.kIn _ o hk,hd⟩
  ·have z:∃ o,s.heap.get? p = some o∧o.ExactDict:=by
    rcases hk with ⟨kvs,hk⟩ | ⟨kvs,hk⟩
    ·obtain ⟨_,_,_,_,o,_,_,e,ex,_⟩:=I.hok p _ hk
     exact ⟨o,e,ex⟩
    ·obtain ⟨_,_,_,_,o,_,_,e,ex,_⟩:=I.hok p _ hk
     exact ⟨o,e,ex⟩
   obtain ⟨o,e,ex⟩:=z
   refine ⟨⟨o,e,ex.1⟩,λ a e2=>?_⟩
   cases e2
   exact ⟨o,e,ex.2.1⟩
  ·obtain ⟨o,_,_,_,e,ex,_⟩:=I.hok p _ hk
   refine ⟨⟨o,e,ex.1⟩,λ a e2=>?_⟩
   cases e2
   exact ⟨o,e,ex.2.1⟩
 | _=>exact False.elim ty
def Adh (K:PySem.W.Frag) (T:String) (r:V→List V→Hp→VK→Prop) (to:TE):TE:=λ σ H Q=>to σ H λ x H1=>tyV K T x H1∧r x [] H1 Q
def tBM (K:PySem.W.Frag) (T:String) (r:V→List V→Hp→VK→Prop) (to:TE) (t:TA):TE:=λ σ H Q=>to σ H λ x H1=>tyV K T x H1∧t σ H1 λ xs H2=>r x xs H2 Q
variable {o e:Expr} {es:List Expr} {to:TE} {t:TA} {name:Str} {apos cpos:Pos} {T id:String} {r:V→List V→Hp→VK→Prop}
theorem Lx (pa:PlainAttrs T) (slot:Slot T name id) (hty:typeOf (.builtin id) = pure (.type "method_descriptor")) (hm:MtR X id r) (ho:PE X o to)
  (hbase:attributeBase o name X.env (eval o X.env) = eval o X.env:=by rfl) (hline:(apos.endLine == cpos.line) = true:=by rfl):PE X (.Call (.Attribute o name apos) [] [] cpos) (Adh X.K T r to):=by
 intro pins s σ H Q I h
 refine wpAny_Call_method0_late hbase hline (thn (ho pins s σ H _ I h) λ v s1 ⟨x,H1,I1,r1,ty,q1⟩=>?_)
 obtain ⟨h1,h2⟩:=Xs I1 r1 ty
 exact ⟨T,id,pa,slot,hty,h1,h2,Calls.callWith_builtin rfl (PySem.evalArgs_none (hm pins s1 σ H1 x [] v [] Q I1 r1 .nil q1))⟩
theorem E1 (pa:PlainAttrs T) (slot:Slot T name id) (hty:typeOf (.builtin id) = pure (.type "method_descriptor")) (hm:MtR X id r) (ho:PE X o to) (ha:PA X (e :: es) t)
  (hbase:attributeBase o name X.env (eval o X.env) = eval o X.env:=by rfl)
  (hfew:((backTo cpos (starEach (e :: es) X.env)).all (λ x=>!x.1) && (backToKw cpos (keywordEach [] X.env)).all (λ x=>x.1.isSome)
   && decide ((e :: es).length + ([]:List Keyword).length + (if ([]:List Keyword).isEmpty then 0 else 1) < 30)) = true:=by rfl)
  (hline:(apos.endLine == cpos.line) = true:=by rfl) (hs:starEach (e :: es) X.env = (false,eval e X.env) :: starEach es X.env:=by rfl) (hplain:(backTo cpos (starEach es X.env)).any (·.1) = false:=by rfl) :
  PE X (.Call (.Attribute o name apos) (e :: es) [] cpos) (tBM X.K T r to t):=by
 intro pins s σ H Q I h
 refine wpAny_Call_method_late hbase hfew hline rfl (thn (ho pins s σ H _ I h) λ v s1 ⟨x,H1,I1,r1,ty,q1⟩=>?_)
 obtain ⟨h1,h2⟩:=Xs I1 r1 ty
 refine ⟨T,id,pa,slot,hty,h1,h2,?_⟩
 have hA:=ha cpos pins s1 σ H1 _ I1 q1
 rw [hs] at hA ⊢
 refine Calls.callWith_builtin (by show (false || (backTo cpos (starEach es X.env)).any (·.1)) = false; rw [hplain] <;> rfl) (Calls.evalArgs_plain ?_)
 exact thn hA λ us s2 ⟨vs,H2,I2,r2,q2⟩=>hm pins s2 σ H2 x vs v us Q I2 r1 r2 q2
end
end L2
namespace L2
open PySem PySem.Spec PyProof.Rows
def MtM (X:Cx) (id:String) (r:V→List V→Hp→VK→Prop):Prop :=
 ∀ (pins:List (Addr× Obj)) (s:Shared) (σ:St) (H:Hp) (x:V) (xs:List V) (v:Value) (us:List Value) (Q:VK),Inv X pins σ H s→Bd x v→Bb xs us→r x xs H Q →
  wpAny (model X.prog X.w) X.A (call (.builtin id) (v :: us)) (EP X pins σ Q) X.xe s
theorem Bb.one:∀ {x:V} {us:List Value},Bb [x] us→∃ u,us = [u]∧Bd x u
 | _,_,.cons r .nil=>⟨_,rfl,r⟩
theorem Bb.two:∀ {x y:V} {us:List Value},Bb [x,y] us→∃ u v,us = [u,v]∧Bd x u∧Bd y v
 | _,_,_,.cons r (.cons q .nil)=>⟨_,_,rfl,r,q⟩
theorem Bb.zero:∀ {us:List Value},Bb [] us→us = []
 | _,.nil=>rfl
theorem Bb.dropLast {xs:List V} {us:List Value} (h:Bb xs us):Bb xs.dropLast us.dropLast:=by
 induction h with
 | nil=>exact .nil
 | cons r t ih =>
  cases t with
  | nil=>exact .nil
  | cons q t'=>exact .cons r ih
theorem U6 {α:Type} (l:List α):l.eraseIdx (l.length - 1) = l.dropLast:=by
 induction l with
 | nil=>rfl
 | cons a r ih =>
  cases r with
  | nil=>rfl
  | cons b r =>
   have e:(a :: b :: r).length - 1 = ((b :: r).length - 1) + 1:=by
    have h1:(a :: b :: r).length = r.length + 2:=rfl
    have h2:(b :: r).length = r.length + 1:=rfl
    omega
   rw [e,List.eraseIdx_cons_succ,ih]
   all_goals rfl
section
variable {X:Cx} {pins:List (Addr× Obj)} {σ:St} {H:Hp} {s:Shared} {l b:Addr} {xs ys zs:List V}
theorem Inv.lset {its its':List Value} {n:Nat} {f:Array Value→Array Value} {t':Nat} (I:Inv X pins σ H s) (hH:H l = some (.lst xs))
  (e:s.heap.get? l = some { cls:=.type "list", data:=.seq its.toArray n }) (hf:f its.toArray = its'.toArray) (hv:Bb ys its') (hz:ys.length≤sizeLine) :
  Inv X pins σ (upd H l (.lst ys)) { s with heap:=s.heap.update l (Obj.mapSeq f),toks:=t' }:=by
 have q:=PySem.IsL.update e f
 rw [hf] at q
 refine I.write (x:=l) (e:=l) (by rw [hH]; exact trivial) (.inl rfl) (λ b' u hb hu=>(Heap.get?_update_other s.heap (Obj.mapSeq f) (Ne.symm hb)).trans hu) ⟨_,q⟩ ?_
 exact ⟨hz,its',_,hv,q⟩
theorem Inv.lnew {its:List Value} {t':Nat} (I:Inv X pins σ H s) (hv:Bb ys its) (hz:ys.length≤sizeLine) :
  Inv X pins σ (upd H s.heap.objs.size (.lst ys)) { s with heap:=s.heap.push { cls:=.type "list", data:=.seq its.toArray },toks:=t' } :=
 I.laid (λ _ _ q=>Heap.get?_push_of_some _ q) (le_refl _) ⟨hz,its,0,hv,Heap.get?_push_size _ rfl⟩
theorem Inv.fresh (I:Inv X pins σ H s):H s.heap.objs.size = none:=I.hok.fresh (le_refl _)
theorem Inv.lstM (I:Inv X pins σ H s) (hH:H l = some (.lst xs)):xs.length≤sizeLine∧∃ (its:List Value) (n:Nat),Bb xs its∧xs.length = its.length∧s.heap.get? l = some { cls:=.type "list", data:=.seq its.toArray n }:=by
 obtain ⟨z,its,n,r,e⟩:=I.hok l _ hH
 exact ⟨z,its,n,r,r.length,e⟩
theorem AaP {n:Nat} (h:n≤sizeLine):Builtin.List.listTooLong n = false:=by
 unfold Builtin.List.listTooLong
 exact decide_eq_false (by omega)
end
section
variable {X:Cx}
inductive P5 (x:V) (vs:List V) (H:Hp) (Q:VK):Prop
 | mk (l:Addr) (xs:List V) (y:V) (_:x = .ref l) (_:vs = [y]) (_:H l = some (.lst xs)) (_:xs.length < sizeLine) (_:Q .non (upd H l (.lst (xs ++ [y])))):P5 x vs H Q
def AbB:V→List V→Hp→VK→Prop:=λ x vs H Q=>P5 x vs H Q
theorem Ck:MtM X "list.append" AbB:=by
 intro pins s σ H x vs v us Q I rx rv h
 obtain ⟨l,xs,y,rfl,rfl,hH,hz,q⟩:=h
 cases rx
 obtain ⟨u,rfl,ru⟩:=rv.one
 obtain ⟨z,its,n,r,hl,e⟩:=I.lstM hH
 refine call_meets F.slot_list_append ⟨_,e,Z⟩ F.entry_list_append (F.args_list_append_2 _ _) (PySem.list_append l its.toArray n u (by rw [size_toArray]; omega)) ⟨e,?_⟩
 refine ⟨.non,_,I.lset (its':=its ++ [u]) hH e (by simp) (r.append (.cons ru .nil)) ?_,Z,q⟩
 rw [length_append,length_singleton]
 omega
def AbP:V→List V→Hp→VK→Prop:=λ x vs H Q=>∃ l b xs zs,x = .ref l∧vs = [.ref b]∧H l = some (.lst xs)∧H b = some (.lst zs)∧xs.length + zs.length≤sizeLine∧Q .non (upd H l (.lst (xs ++ zs)))
theorem X9:MtM X "list.extend" AbP:=by
 intro pins s σ H x vs v us Q I rx rv h
 obtain ⟨l,b,xs,zs,rfl,rfl,hH,hB,hz,q⟩:=h
 cases rx
 obtain ⟨u,rfl,ru⟩:=rv.one
 cases ru
 obtain ⟨z,its,n,r,hl,e⟩:=I.lstM hH
 obtain ⟨z2,its2,n2,r2,hl2,e2⟩:=I.lstM hB
 have hsz:its.toArray.size + its2.toArray.size≤sizeLine:=by rw [size_toArray,size_toArray]; omega
 have hlong:¬ (!its.toArray.isEmpty && Builtin.List.listTooLong (its.toArray.size + its2.toArray.size)) = true:=by
  rw [AaP hsz,Bool.and_false]
  exact Bool.false_ne_true
 refine call_meets F.slot_list_extend ⟨_,e,Z⟩ F.entry_list_extend (F.args_list_extend_2 _ _)
  (AutoSeq1.list_extend_list_list_0 l its.toArray n b its2.toArray n2 hlong (by rw [size_toArray]; omega) (by omega)) ⟨e,e2,?_⟩
 refine ⟨.non,_,I.lset (its':=its ++ its2) hH e (by simp) (r.append r2) ?_,Z,q⟩
 rw [length_append]
 omega
def AdS:V→List V→Hp→VK→Prop:=λ x vs H Q=>∃ l xs y,x = .ref l∧vs = []∧H l = some (.lst xs)∧xs[xs.length - 1]? = some y∧Q y (upd H l (.lst xs.dropLast))
theorem Lj:MtM X "list.pop" AdS:=by
 intro pins s σ H x vs v us Q I rx rv h
 obtain ⟨l,xs,y,rfl,rfl,hH,hy,q⟩:=h
 cases rx
 have hus:=rv.zero
 subst hus
 obtain ⟨z,its,n,r,hl,e⟩:=I.lstM hH
 obtain ⟨u,hu,ru⟩:=r.get hy
 have hy':its.toArray[its.toArray.size - 1]? = some u:=by
  show its.toArray[its.length - 1]? = some u
  rw [← Array.getElem?_toList,← hl]
  exact hu
 refine call_meets F.slot_list_pop ⟨_,e,Z⟩ F.entry_list_pop (F.args_list_pop_1 _) (MeetsSeq.list_pop_last l its.toArray n u hy' (by rw [size_toArray]; omega)) ⟨e,?_⟩
 refine ⟨y,_,I.lset (its':=its.dropLast) hH e ?_ r.dropLast ?_,ru,q⟩
 ·show its.toArray.eraseIdxIfInBounds (its.toArray.size - 1) = its.dropLast.toArray
  rw [size_toArray,List.eraseIdxIfInBounds_toArray,U6]
 ·rw [List.length_dropLast]
  omega
inductive Xz  (x y:V) (H:Hp) (Q:VK):Prop
 | mk (l) (b) (xs) (zs) (_:x = .ref l) (_:y = .ref b) (_:H l = some (.lst xs)) (_:H b = some (.lst zs)) (_:xs.length + zs.length≤sizeLine) (_:∀ p,H p = none→Q (.ref p) (upd H p (.lst (xs ++ zs)))):Xz  x y H Q
def Adf:R2:=λ x y H Q=>Xz  x y H Q
theorem Ji:OpR X (binaryOp .Add) Adf:=by
 intro pins s σ H x y v u Q I rx ry h
 obtain ⟨l,b,xs,zs,rfl,rfl,hH,hB,hz,q⟩:=h
 cases rx
 cases ry
 obtain ⟨z,its,n,r,hl,e⟩:=I.lstM hH
 obtain ⟨z2,its2,n2,r2,hl2,e2⟩:=I.lstM hB
 refine PySem.P.add_list e e2 ?_ (by rw [size_toArray,size_toArray]; omega)
 have ea:its.toArray ++ its2.toArray = (its ++ its2).toArray:=by simp
 rw [ea]
 exact ⟨.ref _,_,I.lnew (t':=s.toks) (r.append r2) (by rw [length_append]; omega),Z,q _ I.fresh⟩
end
section
variable {prog:Program} {w:World} {A:Around} {E:Value→Shared→Prop} {s:Shared}
end
section
variable {X:Cx}
end
end L2
namespace Att
open PySem PySem.W PySem.Calls PyProof.Rows
theorem Oi {P:Params} {h:Heap}:∀ (ns:List Int) (vs:List Value),WellAll P h vs (ns.map WData.int)→IntsAre vs ns:=by
 intro ns
 induction ns with
 | nil =>
  intro vs w
  rw [map_nil] at w
  cases w
  exact .nil
 | cons n ns ih =>
  intro vs w
  rw [map_cons] at w
  cases w with
  | cons a b =>
   cases a
   exact .cons _ _ (ih _ b)
theorem Xa {l:OpenLaw} {n:Nat} (hn:l.most = some n) {P:Params} {h:Heap} {args:List WData} {vals:List Value}
  (hpre:l.row.toRowW.claim.pre args = true) (hwl:WellAll P h vals args) :
  ∃ a vs ns,vals = [Value.ref a]∧args = [WData.list (ns.map WData.int)]∧h.get? a = some { cls:=.type "list", data:=.seq vs.toArray }∧IntsAre vs ns∧ns.length≤n:=by
 have hsh:WShape.hasAll [] args [.list .int] = true:=(pre_splitW hpre).1
 have hc:l.pre.holds [] { args:=args } = true:=(pre_splitW hpre).2
 obtain ⟨d,r,rfl,h1,h2⟩:=hasAllW_cons hsh
 obtain rfl:=hasAllW_nil h2
 obtain ⟨xs,rfl,h3⟩:=hasW_list h1
 obtain ⟨ns,rfl⟩:=items_int h3
 have hlen:ns.length≤n:=by
  unfold OpenLaw.pre at hc
  have h4:(WTm.not (.lt (.lit (.int (n:Int))) (.len (.arg 0)))).holds [] { args:=[.list (ns.map .int)] } = true:=by
   have h4:=(holds_andW hc).1
   rw [hn] at h4
   exact h4
  have h5:=condW_of h4 (w_not (w_lt w_lit (w_len_list (w_arg rfl))))
  rw [length_map] at h5
  refine Nat.le_of_not_lt λ q=>?_
  have q':(n:Int) < ((ns.length:Nat):Int):=by omega
  first
   | (rw [decide_eq_true q'] at h5; exact absurd h5 (by decide))
   | (simp at h5; omega)
 cases hwl with
 | cons w1 w2 =>
  cases w2
  cases w1 with
  | list ho hall=>exact ⟨_,_,ns,rfl,rfl,ho,Oi ns _ hall,hlen⟩
theorem X3 (l:OpenLaw) (args:List WData):l.row.toRowW.claim.post args (.bool true) args = true :=
 postW_of (r:=l.row.toRowW) (X:=(true == true))
  (show WShape.has [] (.bool true) .bool = true by first | rfl | decide | simp [WShape.has,WShape.arms,WShape.armsAll])
  (show (WTm.eq .res (.lit (.bool true))).value [] { args:=args,res:=some (.bool true),after:=args } = some (.bool (true == true)) from w_eq_bool (w_res rfl) w_lit) rfl
theorem Acs {l:OpenLaw} {n:Nat} {q:Program} {loose:List Str} {XP:(Str→Option Value)→Heap→Prop} {YP:World→Heap→Prop} {d:DefRec}
  (hn:l.most = some n) (hdf:d.params.defaults = [])
  (call:∀ (w:World) (s₀ s₁:Shared) (mg mb:Str→Option Value) (fa:Addr) (o:Obj) (pm cd doc:Value) (a:Addr) (vs:List Value) (ns:List Int),
   Ground q loose [] XP w s₀ mg mb s₁.heap→YP w s₁.heap →
   s₁.heap.get? fa = some o→o.data = .func (docDef d.name d.params d.body d.scope pm cd doc)→s₁.heap.CodeRec cd d.name→mg d.name = some (.ref fa) →
   s₁.heap.get? a = some { cls:=.type "list", data:=.seq vs.toArray }→IntsAre vs ns→ns.length≤n→s₁.gens = #[] →
   codeAny (model l.prog w) callerA (.call (.ref fa) ⟨[.ref a],[]⟩) (λ r s'=>r = .ok (.ret (.bool true))∧OldK s₁.heap s'.heap∧s'.os = s₁.os∧AllBare s'.gens) s₁) :
  WalkO q loose XP YP l.row.toRowW d [] (λ f vs=>PySem.call f vs):=by
 intro w s₀ s₁ mg mb G Y fa o pm cd doc dV kV ho hd hcd hD hmg hg args vals as hpre hlay hrd hwl hlo
 obtain rfl:dV = .none:=Dflts.none hD hdf
 obtain rfl:kV = .none:=Dflts.noKw hD
 obtain ⟨a,vs,ns,rfl,rfl,hobj,hints,hlen⟩:=Xa hn hpre hwl
 refine enter_call (codeAny_mono (call w s₀ s₁ mg mb fa o pm cd doc a vs ns G Y ho (fd_plain hd) hcd hmg hobj hints hlen hg) λ r s' hq=>?_)
 obtain ⟨rfl,h2,h3,h4⟩:=hq
 exact ⟨.inl ⟨.bool true,.bool true,[],Z,λ _=>rfl,.bool true,X3 l _,λ _=>⟨Pairwise.nil,λ _ hm=>(nomatch hm)⟩⟩,h2,h3,h4⟩
section
variable {prog:Program} {w:World} {A:Around} {E:Value→Shared→Prop} {s:Shared} {K:Frag}
def Adr (h:Heap) (L d:Addr):List (Addr× Obj):=(List.range h.objs.size).filterMap λ a=>if a = L∨a = d then none else (h.get? a).map λ o=>(a,o)
end
end Att
namespace L2
open PySem PySem.Spec PyProof.Rows
theorem Jr:∀ {vs:List Value} {ns:List Int},IntsAre vs ns→Bb (ns.map V.int) vs
 | _,_,.nil=>.nil
 | _,_,.cons n t h=>.cons ⟨t,rfl⟩ (Jr h)
def AaB (H:Hp):Prop:=∀ b,H b = none∨∃ o xs,H b = some (.frz o (.lst xs))
theorem Z3 {P:Program} {w:World} {K:PySem.W.Frag} {mg mb:Str→Option Value} {CX:CXT} {k:Nat} {fa a:Addr} {fd:FuncData} {x:Str} {sp:Sp} {s₁:Shared} {vs:List Value} {ns:List Int}
  (KX:K.In s₁.heap) (hns:s₁.heap.Ns mainGlobals mg) (hb:s₁.heap.Ns builtinsNs mb) (hbb:∀ x:Str,x≠ "__name__" → mb x = bootBuiltins x) (hlim:s₁.heap.NoLimit) (hg:s₁.gens = #[])
  (ha:s₁.heap.get? a = some { cls:=.type "list", data:=.seq vs.toArray }) (hi:IntsAre vs ns) (hl:ns.length≤sizeLine) (hr:Ct k callerA)
  (F:∀ base:Heap,K.In base→base.Ns mainGlobals mg→Cj P w K mg base CX k fa fd [x] sp) (hbind:∀ (s:Shared) (u:Value),BindsTo s fd ⟨[u],[]⟩ [(x,u)])
  (hsp:∀ H:Hp,AaB H→SqL K H a (ns.map V.int)→sp [.ref a] H (λ v _=>v = .bl true) λ _ _ _=>False)
  (hCX:∀ H e s',CX [] H s₁ (λ _ _ _=>False) e s'→False) :
  codeAny (model P w) callerA (.call (.ref fa) ⟨[.ref a],[]⟩) (λ r s'=>r = .ok (.ret (.bool true))∧OldK s₁.heap s'.heap∧s'.os = s₁.os∧AllBare s'.gens) s₁:=by
 have rv:=Jr hi
 have lenV:=hi.length
 have core:∀ H:Hp,AaB H→SqL K H a (ns.map V.int)→HOk P w H s₁.heap→(∀ b,H b≠none→b = a)→(H a≠none→K.lookup a = none) →
   codeAny (model P w) callerA (.call (.ref fa) ⟨[.ref a],[]⟩) (λ r s'=>r = .ok (.ret (.bool true))∧OldK s₁.heap s'.heap∧s'.os = s₁.os∧AllBare s'.gens) s₁:=by
  intro H hO hS hok hA hK
  have base_of:∀ {b:Addr} {o:Obj},s₁.heap.get? b = some o→H b = none→(Kv s₁.heap H).get? b = some o:=λ e n=>Z7 e n
  have noA:∀ {b:Addr} {o:Obj} {es:Array DictEntry} {ep:Nat},s₁.heap.get? b = some o→o.data = .dict es ep→H b = none:=λ {b o es ep} e d=>by
   cases q:H b with
   | none=>rfl
   | some u =>
    have e':b = a:=hA b (by rw [q]; simp)
    subst e'
    rw [ha] at e; cases e
    have d':Data.seq vs.toArray _ = Data.dict es ep:=d
    cases d'
  have nsK:∀ {b:Addr} {m:Str→Option Value},s₁.heap.Ns b m→(Kv s₁.heap H).Ns b m:=λ {b m} ⟨o,es,ep,e,d,r⟩=>⟨o,es,ep,base_of e (noA e d),d,r⟩
  have hKb:K.In (Kv s₁.heap H):=λ b o e=>base_of (KX b o e) (by
   cases q:H b with
   | none=>rfl
   | some u =>
    have e':b = a:=hA b (by rw [q]; simp)
    subst e'
    rw [hK (by rw [q]; simp)] at e; cases e)
  have hM:Mod K mg (Kv s₁.heap H):=⟨hKb,nsK hns,⟨mb,nsK hb,hbb⟩,let ⟨mc,h1,h2⟩:=hlim; ⟨mc,nsK h1,h2⟩⟩
  have e0:M3 P w K mg (Kv s₁.heap H) callerA [] s₁ H:=⟨Z,hM,λ b o e=>Abi e,le_of_eq (Wm _ _),trivial,λ b hb=>absurd (show b∈([]:List Addr) from hb) (by simp),hok,.of_eq hg⟩
  refine codeAny_mono ((F _ hKb (nsK hns)).run callerA [] s₁ H ⟨[.ref a],[]⟩ [.ref a] [.ref a] _ _ hr e0 (hbind s₁ (.ref a)) (.cons rfl .nil) (hsp H hO hS)) λ r s' h=>?_
  cases r with
  | error e=>exact (hCX H e s' h).elim
  | ok fl =>
   cases fl with
   | next=>exact False.elim h
   | brk=>exact False.elim h
   | cont=>exact False.elim h
   | ret u =>
    obtain ⟨v,H',os,bare,un,hok',r',q⟩:=h
    have q':v = .bl true:=q
    subst q'
    obtain rfl:u = Value.bool true:=r'
    refine ⟨Z,OldK.of_keep λ b o e=>?_,os,bare⟩
    cases q:H b with
    | none=>exact un.keep b o e q (by intro z; exact absurd (show b∈([]:List Addr) from z) (by simp)) (by simp)
    | some u =>
     rcases hO b with z | ⟨ob,xs,z⟩
     ·rw [q] at z; cases z
     ·have z2:=un.frzs b ob _ z
      obtain ⟨e1,_⟩:=hok b _ z
      obtain ⟨e2,_⟩:=hok' b _ z2
      rw [e] at e1; cases e1
      exact e2
 cases hk:K.lookup a with
 | some o =>
  have e:=KX a o hk
  rw [ha] at e
  cases e
  refine core (λ _=>none) (λ _=>.inl rfl) (.inr ⟨_,vs.toArray,_,hk,Z,Z,Z,by rw [size_toArray,lenV]; exact hl,by simpa using rv⟩) (λ b u z=>by have z':(none:Option HO) = some u:=z; cases z') (λ b z=>absurd rfl z) λ z=>absurd rfl z
 | none =>
  refine core (λ b=>if b = a then some (.frz { cls:=.type "list", data:=.seq vs.toArray } (.lst (ns.map V.int))) else none) (λ b=>?_) (.inl (.inr ⟨{ cls:=.type "list", data:=.seq vs.toArray },if_pos rfl⟩)) (λ b u z=>?_) (λ b z=>?_) λ _=>hk
  ·by_cases hb:b = a
   ·exact .inr ⟨_,_,if_pos hb⟩
   ·exact .inl (if_neg hb)
  ·by_cases hb:b = a
   ·have z':=(if_pos hb).symm.trans z
    cases z'
    subst hb
    exact ⟨ha,by rw [length_map]; exact hl,vs,_,rv,ha⟩
   ·have z':=(if_neg hb).symm.trans z
    cases z'
  ·by_cases hb:b = a
   ·exact hb
   ·exact absurd (if_neg hb) z
end L2
namespace L2
open PySem PySem.Spec PyProof.Rows
abbrev KOf {K:PySem.W.Frag} {h:Heap} (_:K.In h):PySem.W.Frag:=K
theorem Adp {l:PySem.W.OpenLaw} {n k:Nat} {q:Program} {loose:List Str} {XP:(Str→Option Value)→Heap→Prop} {YP:World→Heap→Prop} {d:DefRec} {K:Params→PySem.W.Frag} {CX:World→CXT} {sp:World→Sp} {x:Str}
  (hn:l.most = some n) (hn2:n≤sizeLine) (hdf:d.params.defaults = []) (hr:Ct k callerA)
  (hY:∀ (w:World) (h:Heap),YP w h→(K w.params).In h)
  (F:∀ (w:World) (mg:Str→Option Value) (fa:Addr) (h:Heap),(K w.params).In h→h.Ns mainGlobals mg→mg d.name = some (.ref fa) →
   ∃ fd:FuncData,(∀ (s:Shared) (u:Value),BindsTo s fd ⟨[u],[]⟩ [(x,u)]) ∧
    ∀ base:Heap,(K w.params).In base→base.Ns mainGlobals mg→Cj l.prog w (K w.params) mg base (CX w) k fa fd [x] (sp w))
  (hsp:∀ (w:World) (H:Hp) (a:Addr) (ns:List Int),ns.length≤n→AaB H→SqL (K w.params) H a (ns.map V.int)→sp w [.ref a] H (λ v _=>v = .bl true) λ _ _ _=>False)
  (hCX:∀ (w:World) (H:Hp) (s:Shared) (e:Value) (s':Shared),CX w [] H s (λ _ _ _=>False) e s'→False) :
  PySem.W.WalkO q loose XP YP l.row.toRowW d [] (λ f vs=>PySem.call f vs):=by
 refine Att.Acs hn hdf λ w s₀ s₁ mg mb fa o pm cd doc a vs ns G Y ho hd hcd hmg hobj hints hlen hg=>?_
 have KX:=hY w _ Y
 obtain ⟨fd,hb,hF⟩:=F w mg fa _ KX G.T.g hmg
 exact Z3 KX G.T.g G.T.b G.T.builtins G.T.nolimit hg hobj hints (le_trans hlen hn2) hr hF hb (λ H hO hS=>hsp w H a ns hlen hO hS) λ H e s'=>hCX w H s₁ e s'
end L2
namespace L2
open PySem PySem.Spec PyProof.Rows
def Es (s:Stmt) (j:Nat):Stmt:=match s with
 | .ClassDef _ _ _ body _ _ _ _ _ _ _=>body.getD j (.Pass ⟨0,0,0,0⟩)
 | _=>.Pass ⟨0,0,0,0⟩
def Cr (s:Stmt):Arguments:=match s with
 | .FunctionDef _ a _ _ _ _ _ _ _ _=>a
 | _=>{ posonlyargs:=[],args:=[],vararg:=none,kwonlyargs:=[],kw_defaults:=[],kwarg:=none,defaults:=[] }
def Cf (s:Stmt):List Stmt:=match s with
 | .FunctionDef _ _ b _ _ _ _ _ _ _=>b
 | _=>[]
def Aj (s:Stmt):Scope:=match s with
 | .FunctionDef _ _ _ _ _ _ sc _ _ _=>sc
 | _=>{ kind:=.function,names:=[],isGenerator:=false,isCoroutine:=false }
abbrev CX0:CXT:=λ _ _ _ _ _ _=>False
abbrev E0:XK:=λ _ _ _=>False
theorem Al {X:Cx}:Fr CX0 X E0:=λ _ _ _ _ _ _ _ h=>h.elim
structure Fun (K:PySem.W.Frag) (x qual:Str) (st:Stmt) (f:Addr) (fd:FuncData):Prop where
 ex:∃ (oc:Value) (od:Option Addr) (kV doc pm:Value) (an:Option Addr) (cdv ct:Value) (osl:Array (Option Value)),
  fd = fnOf x qual (Cr st) (Cf st) (Aj st) .none kV doc pm an cdv ct∧K.lookup f = some ⟨oc,od,.func fd,osl⟩∧codeIn K cdv qual = true
 kp:keepIn K (.ref f) = true
section
variable {P:Program} {w:World} {K:PySem.W.Frag} {mg:Str→Option Value} {base:Heap}
theorem Fun.ok {x qual:Str} {st:Stmt} {f:Addr} {fd:FuncData} {N ps:List Str} {k:Nat} {sp:Sp} (F:Fun K x qual st f fd) (S:A7 N ps (Aj st)) (len:∀ vs H Q E,sp vs H Q E→vs.length = ps.length)
  (hbody:∀ (cdv:Value) (A:Around) (outer:List Env) (s:Shared) (H:Hp) (vs:List V) (Q:VK) (E:XK),Ct k (A.deeper (envOfC qual (Aj st) s.heap.objs.size f cdv))→sp vs H Q E →
   ∃ t,PSs (M5 CX0 P w K mg base N qual (Aj st) f cdv A outer s H E).nox (Cf st) t∧t { nx:=λ _ H'=>Q .non H',rt:=Q } (Ik N vs) H):Cj P w K mg base CX0 (k + 1) f fd ps sp:=by
 obtain ⟨oc,od,kV,doc,pm,an,cdv,ct,osl,rfl,lk,hcd⟩:=F.ex
 refine AdF lk hcd S len λ A outer s H vs Q E hr hsp=>?_
 obtain ⟨t,h,q⟩:=hbody cdv A outer s H vs Q E hr hsp
 exact ⟨t,h.nox,q⟩
theorem Fun.binds {x qual:Str} {st:Stmt} {f:Addr} {fd:FuncData} {ps:List Str} (F:Fun K x qual st f fd)
  (h:∀ (kV doc pm:Value) (an:Option Addr) (cdv ct:Value) (us:List Value),us.length = ps.length→bindArgs (fnOf x qual (Cr st) (Cf st) (Aj st) .none kV doc pm an cdv ct) ⟨us,[]⟩ = pure (ps.zip us)):B7 K fd ps []:=by
 obtain ⟨oc,od,kV,doc,pm,an,cdv,ct,osl,rfl,lk,hcd⟩:=F.ex
 exact .all (h kV doc pm an cdv ct)
theorem Ch {x qual:Str} {st:Stmt} {f:Addr} {oc:Value} {od an:Option Addr} {osl:Array (Option Value)} {kV doc pm cdv ct:Value} (l:K.lookup f = some ⟨oc,od,.func (fnOf x qual (Cr st) (Cf st) (Aj st) .none kV doc pm an cdv ct),osl⟩)
  (c:codeIn K cdv qual = true) (k:keepIn K (.ref f) = true):Fun K x qual st f (fnOf x qual (Cr st) (Cf st) (Aj st) .none kV doc pm an cdv ct):=⟨⟨oc,od,kV,doc,pm,an,cdv,ct,osl,Z,l,c⟩,k⟩
end
theorem F2 {n:Nat} (h:n≤1000):n < sizeLine:=lt_of_le_of_lt h (by decide)
section
variable {X:Cx}
theorem pv (i:Nat) {x:Str} {pos:Pos} (hN:X.N[i]? = some x:=by rfl) (hv:Vis X.env.scope x:=by first | exact Or.inl rfl | exact Or.inr (Or.inl rfl) | exact Or.inr (Or.inr rfl)) (hd:(x == ("__debug__" : Str)) = false:=by decide)
  (hcd:(x == ("__classdict__" : Str)) = false:=by decide):PE X (.Name x pos) (Bt i):=Aco hN hv hd hcd
end
theorem Dq {A B:Prop} (h:B):if false = true then A else B:=by
 rw [if_neg Bool.false_ne_true]
 exact h
theorem Dy {A B:Prop} (h:A):if true = true then A else B:=by
 rw [if_pos rfl]
 exact h
theorem Ay {c A B:Prop} [Decidable c] (h1:c→A) (h2:¬ c→B):if c then A else B:=by
 by_cases h:c
 ·rw [if_pos h]
  exact h1 h
 ·rw [if_neg h]
  exact h2 h
def Same (H H':Hp):Prop:=∀ b o,H b = some o→H' b = some o
theorem Same.refl (H:Hp):Same H H:=λ _ _ h=>h
theorem Same.trans {H H1 H2:Hp} (a:Same H H1) (b:Same H1 H2):Same H H2:=λ c o h=>b c o (a c o h)
theorem Same.free {H H':Hp} (e:Same H H') {l:Addr} (h:H' l = Option.none):H l = Option.none:=by
 cases q:H l with
 | none=>rfl
 | some o =>
  rw [e l o q] at h
  cases h
theorem Same.seq {K:PySem.W.Frag} {H H':Hp} {a:Addr} {xs:List V} (e:Same H H') (h:SqL K H a xs):SqL K H' a xs:=by
 rcases h with (h | ⟨o,h⟩) | h
 ·exact .inl (.inl (e _ _ h))
 ·exact .inl (.inr ⟨o,e _ _ h⟩)
 ·exact .inr h
end L2
section
set_option Elab.async false
set_option linter.all false
set_option maxRecDepth 100000
set_option maxHeartbeats 64000000
namespace L2
open PySem PySem.Spec PyProof.Rows
theorem Wt {prog:Program} {w:World} {A:Around} {R:Result→Shared→Prop} {s:Shared} {elt target iter:Expr} {ifs:List Expr} {scope:Scope} {pos:Pos} {it acc:Value} {env:Env} (I:Nat→Shared→Prop)
  (turn:∀ n s,I n s→wpAny (model prog w) A (pyNext it) (λ r s₁=>match r with
   | none=>R (.ok .next) s₁
   | some v=>wpAny (model prog w) A (letOwnedTupleGo target it v) (λ _ s₀=>wpAny (model prog w) A (assign target env v) (λ _ s₂ =>
     wpAny (model prog w) A (forIn ifs true λ c r=>if r = true then do let ok ← isTrue c env (eval c env); pure (ForInStep.yield ok) else pure (ForInStep.yield r)) (λ ok s₃ =>
      if ok = true then wpAny (model prog w) A (eval elt env) (λ x s₄ =>
       wpAny (model prog w) A (call (.builtin "list.append") [acc,x]) (λ _ s₅=>∃ m,m < n∧I m s₅) (λ _ _=>False) s₄) (λ _ _=>False) s₃
      else ∃ m,m < n∧I m s₃) (λ _ _=>False) s₂) (λ _ _=>False) s₀) (λ _ _=>False) s₁) (λ _ _=>False) s)
  (n:Nat) (h:I n s) :
  codeAny (model prog w) A (.compLoop (.ListComp elt [⟨target,iter,ifs,0⟩] scope pos) 0 it acc env) R s:=by
 refine codeAny_loop rfl I (λ n s hI=>?_) n h
 show wpAny _ A ((compTurn (.ListComp elt [⟨target,iter,ifs,0⟩] scope pos) 0 it acc env).onRaise (λ x=>do noteFrame x env; theTreesLotGoes x)) _ _ s
 refine wpAny_noted ?_
 rw [compTurn_list]
 refine wpAny_bind (wpAny_standAt (wpAny_bind (wpAny_mono (turn n s hI) (λ r s₁ h₁=>?_) λ _ _ h'=>h'.elim)))
 cases r with
 | none=>exact wpAny_pure h₁
 | some v =>
  refine wpAny_bind (wpAny_mono h₁ (λ _ s₀ h₀=>?_) λ _ _ h'=>h'.elim)
  refine wpAny_bind (wpAny_mono h₀ (λ _ s₂ h₂=>wpAny_bind (wpAny_mono h₂ (λ ok s₃ h₃=>?_) λ _ _ h'=>h'.elim)) λ _ _ h'=>h'.elim)
  cases ok with
  | false=>exact wpAny_pure ⟨rfl,h₃⟩
  | true =>
   exact wpAny_bind (wpAny_bind (wpAny_mono h₃ (λ x s₄ h₄=>wpAny_bind (wpAny_mono h₄ (λ _ s₅ h₅=>wpAny_pure (wpAny_pure ⟨Z,h₅⟩)) λ _ _ h'=>h'.elim)) λ _ _ h'=>h'.elim))
theorem Ng {scope:Scope} {env:Env} (hf:∀ y∈scope.names,y.2 = .free→∃ c,env.cells.lookup y.1 = some c) :
  ∃ cl,closureFor scope env = pure cl∧(∀ x c,cl.lookup x = some c→env.cells.lookup x = some c)∧∀ x,(x,NameKind.free)∈scope.names→∃ c,cl.lookup x = some c:=by
 have go:∀ (l:List (Str× NameKind)) (acc:List (Str× Addr)),(∀ y∈l,y.2 = .free→∃ c,env.cells.lookup y.1 = some c)→(∀ x c,acc.lookup x = some c→env.cells.lookup x = some c) →
   ∃ cl:List (Str× Addr),(forIn l acc (λ x (r:List (Str× Addr))=>match x with | (name,kind)=>if (kind == NameKind.free) = true then do let a ← cellOf env name; pure (ForInStep.yield ((name,a) :: r)) else pure (ForInStep.yield r)):Sem (List (Str× Addr))) = pure cl ∧
    (∀ x c,cl.lookup x = some c→env.cells.lookup x = some c)∧(∀ x,(x,NameKind.free)∈l→∃ c,cl.lookup x = some c)∧∀ x c,acc.lookup x = some c→∃ c',cl.lookup x = some c':=by
  intro l
  induction l with
  | nil=>intro acc _ ha; exact ⟨acc,rfl,ha,λ x h=>absurd h (by simp),λ x c h=>⟨c,h⟩⟩
  | cons y r ih =>
   intro acc hl ha
   obtain ⟨name,kind⟩:=y
   by_cases hk:kind = .free
   ·subst hk
    obtain ⟨c,hc⟩:=hl (name,.free) mem_cons_self rfl
    have ha':∀ x c',((name,c) :: acc).lookup x = some c'→env.cells.lookup x = some c':=λ x c' h=>by
     rw [lookup_cons] at h
     cases e:x == name with
     | true=>rw [e] at h; cases h; rw [eq_of_beq e]; exact hc
     | false=>rw [e] at h; exact ha x c' h
    obtain ⟨cl,e,h1,h2,h3⟩:=ih ((name,c) :: acc) (λ y hy=>hl y (mem_cons_of_mem _ hy)) ha'
    refine ⟨cl,?_,h1,λ x hx=>?_,λ x c' h=>?_⟩
    ·rw [List.forIn_cons,← e]
     have ec:cellOf env name = pure c:=by unfold cellOf; rw [hc]
     show (if (NameKind.free == NameKind.free) = true then _ else _) >>= _ = _
     rw [if_pos (by rfl),ec]
     rfl
    ·rcases mem_cons.mp hx with z | z
     ·cases z
      exact h3 name c (by rw [lookup_cons]; simp)
     ·exact h2 x z
    ·cases e:x == name with
     | true=>exact h3 x c (by rw [lookup_cons,e])
     | false=>exact h3 x c' (by rw [lookup_cons,e]; exact h)
   ·have hb:(kind == NameKind.free) = false:=by simpa using hk
    obtain ⟨cl,e,h1,h2,h3⟩:=ih acc (λ y hy=>hl y (mem_cons_of_mem _ hy)) ha
    refine ⟨cl,?_,h1,λ x hx=>?_,h3⟩
    ·rw [List.forIn_cons,← e]
     show (if (kind == NameKind.free) = true then _ else _) >>= _ = _
     rw [if_neg (by rw [hb]; decide)]
     rfl
    ·rcases mem_cons.mp hx with z | z
     ·cases z; exact absurd rfl hk
     ·exact h2 x z
 obtain ⟨cl,e,h1,h2,_⟩:=go scope.names [] hf (λ x c h=>by simp at h)
 refine ⟨cl,?_,h1,h2⟩
 unfold closureFor
 show (forIn scope.names [] _ >>= λ cs=>pure cs) = _
 refine Eq.trans (congrArg (λ t=>t >>= λ cs=>pure cs) e) ?_
 rfl
theorem Hb {env:Env}:∀ {names:List (Str× NameKind)} {x:Str} {k':NameKind},
  (names.map λ (n,k)=>if (k == NameKind.free && env.scope.kind == .function && env.kindOf n == some .cell) then (n,NameKind.cell) else (n,k)).lookup x = some k' →
  ∃ k,names.lookup x = some k∧(k' = k∨(k = .free∧k' = .cell))
 | [],_,_,h=>by simp at h
 | (n,k) :: r,x,k',h=>by
  have ih:=@Hb env r x k'
  have h:List.lookup x ((if (k == NameKind.free && env.scope.kind == .function && env.kindOf n == some .cell) = true then (n,NameKind.cell) else (n,k)) :: r.map λ (n,k)=>if (k == NameKind.free && env.scope.kind == .function && env.kindOf n == some .cell) then (n,NameKind.cell) else (n,k)) = some k':=h
  by_cases hc:(k == NameKind.free && env.scope.kind == .function && env.kindOf n == some .cell) = true
  ·rw [if_pos hc,lookup_cons] at h
   rw [lookup_cons]
   cases e:x == n with
   | true =>
    rw [e] at h
    cases h
    refine ⟨k,Z,.inr ⟨?_,Z⟩⟩
    simp only [Bool.and_eq_true,beq_iff_eq] at hc
    exact hc.1.1
   | false=>rw [e] at h; exact ih h
  ·rw [if_neg hc,lookup_cons] at h
   rw [lookup_cons]
   cases e:x == n with
   | true=>rw [e] at h; cases h; exact ⟨k,rfl,.inl rfl⟩
   | false=>rw [e] at h; exact ih h
def Eh (X:Cx) (s2:Shared) (H2:Hp) (fp:List Addr) (N:List Str) (scope:Scope) (cl:List (Str× Addr)) (C:Addr):Cx where
 prog:=X.prog
 w:=X.w
 K:=X.K
 mg:=X.mg
 base:=X.base
 A:=X.A
 N:=N
 s₀:=s2
 H₀:=H2
 env:=compEnvC scope cl C X.env
 outer:=X.stack
 stack:=X.stack
 ex:=fp
 fn:=λ _=>false
 calm:=X.calm
 pn:=[]
 xe:=λ _ _=>False
def Qn (k:Nat) (g:TG):Prop:=∀ x σ H Q,g x σ H Q→g x σ H λ σ2 H2=>(∀ i,k≤i→σ2[i]? = σ[i]?)∧Q σ2 H2
theorem Bo {k i:Nat} (h:i < k):Qn k (B1 i):=λ x σ H Q q=>⟨λ j hj=>by rw [getElem?_set_ne (by omega)],q⟩
def Rh (X:Cx) (ifs:List Expr) (t:TT):Prop :=
 ∀ (pins:List (Addr× Obj)) (s:Shared) (σ:St) (H:Hp) (Q:Bool→Hp→Prop),Inv X pins σ H s→t σ H Q →
  wpAny (model X.prog X.w) X.A (forIn ifs true λ c r=>if r = true then do let ok ← isTrue c X.env (eval c X.env); pure (ForInStep.yield ok) else pure (ForInStep.yield r)) (TP X pins σ Q) X.xe s
def C1:TT:=λ _ H Q=>Q true H
theorem Df {X:Cx}:Rh X [] C1:=λ pins s σ H Q I h=>wpAny_tests_nil ⟨H,I,h⟩
theorem F3 {X:Cx} {c:Expr} {t:TT} (h:PT X c t):Rh X [c] t:=λ pins s σ H Q I q=>wpAny_tests_one (h pins s σ H Q I q)
def J7 (k:Nat) (js:List Nat) (σ:St):St:=List.replicate k none ++ js.map λ j=>(σ[j]?).join
def Aap (k:Nat) (js:List Nat) (wi:TI) (g:TG) (tc:TT) (te:TE):TE:=λ σ H Q=>wi σ H λ J H1=>∃ W:Nat→Nat→List V→Hp→Prop,(∃ m,W 0 m [] H1)∧∀ i m ys H,W i m ys H →
 (J.stop i H∧∀ D,H D = none→Q (.ref D) (upd H D (.lst ys))) ∨
 (J.go i H∧ys.length < sizeLine∧∀ x H',J.yld i H x H'→g x (J7 k js σ) H' λ σ2 H2=>tc σ2 H2 λ b H3=>if b = true then te σ2 H3 λ y H4=>∃ m',m' < m∧W (i + 1) m' (ys ++ [y]) H4 else ∃ m',m' < m∧W (i + 1) m' ys H3)
theorem Un.later {P:Program} {w:World} {fs ex:List Addr} {H H1 H2:Hp} {h h1 h2:Heap} (u:Un fs ex H H1 h h1) (ok:HOk P w H h) (ag:∀ b,b < h.objs.size→H2 b = H1 b) (k:∀ b o,b < h.objs.size→h1.get? b = some o→h2.get? b = some o):Un fs ex H H2 h h2 where
 keep:=λ b o e n hb hx=>k b o (Heap.lt_size e) (u.keep b o e n hb hx)
 slot:=λ b o e n hb hx=>let ⟨sl,q⟩:=u.slot b o e n hb hx; ⟨sl,k b _ (Heap.lt_size e) q⟩
 free:=λ b o e n hx=>by rw [ag b (Heap.lt_size e)]; exact u.free b o e n hx
 there:=λ b o e hx=>let ⟨o',q⟩:=u.there b o e hx; ⟨o',k b _ (Heap.lt_size e) q⟩
 tups:=λ b xs e=>by rw [ag b (ok.lt e)]; exact u.tups b xs e
 frzs:=λ b o x e=>by rw [ag b (ok.lt e)]; exact u.frzs b o x e
 tbls:=λ b ps e=>by rw [ag b (ok.lt e)]; exact u.tbls b ps e
section
variable {X:Cx} {elt tg iter:Expr} {ifs:List Expr} {scope:Scope} {pos:Pos} {wi:TI} {g:TG} {tc:TT} {te:TE}
structure Lm (X:Cx) (scope:Scope) (own:List Str) (fr:List (Str× Nat)):Prop where
 kind:scope.kind = .function
 cell:∀ y∈scope.names,y.2≠.cell
 loc:∀ y∈scope.names,y.2 = .local→scope.names.lookup y.1 = some .local
 free:∀ y∈scope.names,y.2 = .free→X.env.kindOf y.1 = some .cell
 fr:∀ p∈fr,scope.names.lookup p.1 = some .free∧X.N[p.2]? = some p.1
def Th (sc scope:Scope) (N:List Str) (fr:List (Str× Nat)):Bool :=
 (decide (scope.kind = .function) && scope.names.all (λ y=>decide (y.2≠.cell)) && scope.names.all (λ y=>decide (y.2 = .local→scope.names.lookup y.1 = some .local)) &&
  scope.names.all (λ y=>decide (y.2 = .free→sc.names.lookup y.1 = some .cell)) && fr.all λ p=>decide (scope.names.lookup p.1 = some .free) && decide (N[p.2]? = some p.1))
theorem Ci {own:List Str} {fr:List (Str× Nat)} (sc:Scope) (N:List Str) (h:Th sc scope N fr = true) (hs:X.env.scope = sc:=by rfl) (hN:X.N = N:=by rfl):Lm X scope own fr:=by
 subst hs hN
 unfold Th at h
 simp only [Bool.and_eq_true,all_eq_true,decide_eq_true_eq] at h
 obtain ⟨⟨⟨⟨h1,h2⟩,h3⟩,h4⟩,h5⟩:=h
 exact ⟨h1,h2,h3,h4,h5⟩
theorem Pc {own:List Str} {fr:List (Str× Nat)} {pins:List (Addr× Obj)} {s2:Shared} {σ:St} {H2:Hp} {it:Addr} {fp:List Addr} {tn:Nat→Heap→Prop} {J:It} {cl:List (Str× Addr)} {E:Value→Shared→Prop}
  {W:Nat→Nat→List V→Hp→Prop} {m0:Nat} {RR:Value→Addr→Result→Shared→Prop} {Fin:Addr→List V→Hp→Prop}
  (hc:X.calm = true) (S:Lm X scope own fr) (cl1:∀ x c,cl.lookup x = some c→X.env.cells.lookup x = some c) (cl2:∀ x,(x,NameKind.free)∈scope.names→∃ c,cl.lookup x = some c)
  (hg:∀ s2 H2 fp cl C,PG (Eh X s2 H2 fp (own ++ fr.map (·.1)) scope cl C) tg g) (hk:Qn own.length g)
  (hi:∀ s2 H2 fp cl C,Rh (Eh X s2 H2 fp (own ++ fr.map (·.1)) scope cl C) ifs tc) (he:∀ s2 H2 fp cl C,PE (Eh X s2 H2 fp (own ++ fr.map (·.1)) scope cl C) elt te)
  (I2:Inv X pins σ H2 s2) (T:Lo X.prog X.w X.K tg J fp it tn) (st2:tn 0 s2.heap) (f2:∀ b∈fp,Ja X pins H2 b) (w0:W 0 m0 [] H2)
  (turn:∀ i m ys H,W i m ys H →
   (J.stop i H∧∀ D,H D = none→Fin D ys H) ∨
   (J.go i H∧ys.length < sizeLine∧∀ x H',J.yld i H x H'→g x (J7 own.length (fr.map (·.2)) σ) H' λ σ2 H2=>tc σ2 H2 λ b H3=>if b = true then te σ2 H3 λ y H4=>∃ m',m' < m∧W (i + 1) m' (ys ++ [y]) H4 else ∃ m',m' < m∧W (i + 1) m' ys H3))
  (hRR:∀ D C oC mC s4 H4 ys,Fin D ys H4→Inv X (pins ++ [(C,oC)]) σ (upd H4 D (.lst ys)) s4→s4.heap.Ns C mC→Ja X pins (upd H4 D (.lst ys)) C→RR (.ref D) C (.ok .next) s4) :
  wpAny (model X.prog X.w) X.A (newList []) (λ acc s₃=>wpAny (model X.prog X.w) X.A (newFunctionEnv scope X.env.globals cl [] X.env.qual none .none (some X.env)) (λ cenv s₄ =>
   codeAny (model X.prog X.w) X.A (.compStart (.ListComp elt [⟨tg,iter,ifs,0⟩] scope pos) 0 (.ref it) acc { cenv with scope:=relabel scope X.env }) (RR acc cenv.locals) s₄) E s₃) E s2:=by
 refine wpAny_newObj_type (wpAny_newFunctionEnv S.cell (by intro y hy; simp at hy) (λ h₁ hns₁ hsb₁=>?_) S.kind)
 dsimp only at hns₁ hsb₁ ⊢
 generalize hH2:s2.heap.push { cls:=.type "list", dict:=none,data:=.seq ([]:List Value).toArray } = Hh at hns₁ hsb₁ ⊢
 have hC:Hh.objs.size = s2.heap.objs.size + 1:=by rw [← hH2,Heap.size_push]
 have hDC:s2.heap.objs.size≠Hh.objs.size:=by rw [hC]; exact ne_of_lt (lt_succ_self _)
 have hCle:s2.heap.objs.size≤Hh.objs.size:=by rw [hC]; exact le_succ _
 have old:∀ b o,s2.heap.get? b = some o→h₁.get? b = some o:=λ b o e=>hsb₁.extBut b o (ne_of_lt (lt_of_lt_of_le (Heap.lt_size e) hCle)) (Heap.get?_push_of_some _ (hH2 ▸ Heap.get?_push_of_some _ e))
 have hacc:h₁.get? s2.heap.objs.size = some (LCg.lst []):=hsb₁.extBut _ _ hDC (Heap.get?_push_of_some _ (hH2 ▸ Heap.get?_push_size _ rfl))
 let Y:Cx:=Eh X s2 H2 fp (own ++ fr.map (·.1)) scope cl Hh.objs.size
 let D:=s2.heap.objs.size
 let σY:St:=J7 own.length (fr.map (·.2)) σ
 have fpl:∀ b∈fp,b < s2.heap.objs.size:=λ b hb=>let ⟨o,e,_⟩:=T.obj 0 _ st2 b hb; Heap.lt_size e
 have nfs:∀ b,s2.heap.objs.size≤b→b∉Y.fs:=λ b hb z=>by
  rcases mem_cons.mp (I2.stkSub b z) with e | e
  ·rw [e] at hb; exact absurd I2.lt (not_lt.mpr hb)
  ·exact I2.nofs hb e
 have hkY:∀ x,(Y.env.kindOf x = some .cell∨Y.env.kindOf x = some .free)→scope.names.lookup x = some .free:=λ x hx=>by
  have q:∃ k',(relabel scope X.env).names.lookup x = some k'∧(k' = .cell∨k' = .free):=by
   rcases hx with z | z
   ·exact ⟨_,z,.inl rfl⟩
   ·exact ⟨_,z,.inr rfl⟩
  obtain ⟨k',e,hk'⟩:=q
  obtain ⟨k,e',h'⟩:=Hb e
  have nc:k≠.cell:=S.cell (x,k) (PySem.mem_of_lookup e')
  rcases h' with z | ⟨z,_⟩
  ·subst z
   rcases hk' with z | z
   ·exact absurd z nc
   ·rw [z] at e'; exact e'
  ·rw [z] at e'; exact e'
 have okY:Y.Ok:=by
  refine ⟨I2.ok.mod,S.kind,I2.ok.glob,I2.ok.blt,hCle,λ x y c h1 h2=>I2.ok.inj x y c (cl1 x c h1) (cl1 y c h2),λ x hx=>cl2 x (PySem.mem_of_lookup (hkY x hx)),(λ x c z _=>nomatch z),I2.ok.hd,I2.ok.frames,.inl rfl,λ b hb=>⟨?_,λ x c e=>(f2 b hb).2.2.2.2.1 x c (cl1 x c e)⟩,
   λ b o e=>I2.bs b o e,le_trans I2.ok.bsz I2.sz,λ b o e hb=>?_,λ b hb z=>?_,I2.stack,I2.stkFree⟩
  ·exact ne_of_lt (lt_of_lt_of_le (fpl b hb) hCle)
  ·rcases (f2 b hb).2.2.2.1 with z | z
   ·exact I2.ok.noex b o e z
   ·exact absurd (lt_of_lt_of_le (Heap.lt_size e) (le_trans I2.ok.bsz z)) (lt_irrefl _)
  ·rcases mem_cons.mp (I2.stkSub b z) with e | e
   ·exact (f2 b hb).2.1 e
   ·exact (f2 b hb).2.2.1 e
 have σYl:σY.length = Y.N.length:=by
  show (J7 own.length (fr.map (·.2)) σ).length = (own ++ fr.map (·.1)).length
  unfold J7
  rw [length_append,length_append,length_replicate,length_map,length_map,length_map]
 have lookY:∀ (h:Heap) (m:Str→Option Value),(∀ c v,(∃ x,X.env.cells.lookup x = some c)→s2.heap.IsCell c v→h.IsCell c v)→∀ (i:Nat) (x:Str) (v:V),Y.N[i]? = some x→σY[i]? = some (some v)→Vis Y.env.scope x→∃ u,Bd v u∧Acd Y.env h m x u:=by
  intro h m hcells i x v hN hσ hv
  have hN:(own ++ fr.map (·.1))[i]? = some x:=hN
  have hσ:(List.replicate own.length none ++ (fr.map (·.2)).map λ j=>(σ[j]?).join)[i]? = some (some v):=hσ
  by_cases hio:i < own.length
  ·rw [getElem?_append_left (by simpa using hio),List.getElem?_replicate,if_pos hio] at hσ
   cases hσ
  ·rw [getElem?_append_right (by simpa using hio)] at hσ
   rw [getElem?_append_right (by simpa using hio)] at hN
   rw [length_replicate] at hσ
   rw [getElem?_map] at hN
   rw [getElem?_map,getElem?_map] at hσ
   cases ep:fr[i - own.length]? with
   | none=>rw [ep] at hN; cases hN
   | some p =>
    rw [ep] at hN hσ
    cases hN
    have hσ:(σ[p.2]?).join = some v:=Option.some.inj hσ
    obtain ⟨hfree,hXN⟩:=S.fr p (mem_of_getElem? ep)
    have hXk:X.env.kindOf p.1 = some .cell:=S.free (p.1,.free) (PySem.mem_of_lookup hfree) rfl
    obtain ⟨m',hn',hl'⟩:=I2.loc
    have hσ':σ[p.2]? = some (some v):=by
     cases e:σ[p.2]? with
     | none=>rw [e] at hσ; cases hσ
     | some o=>rw [e] at hσ; cases o with
      | none=>cases hσ
      | some v'=>cases hσ; rfl
    obtain ⟨u,r,l⟩:=hl' p.2 p.1 v hXN hσ' (.inr (.inl hXk))
    refine ⟨u,r,?_⟩
    rcases l with ⟨l,_⟩ | ⟨_,c,hcl,hcell⟩
    ·rw [hXk] at l; cases l
    ·obtain ⟨c',hc'⟩:=cl2 p.1 (PySem.mem_of_lookup hfree)
     have e2:=cl1 _ _ hc'
     rw [hcl] at e2
     cases e2
     refine .inr ⟨?_,c,hc',hcells c _ ⟨_,hcl⟩ hcell⟩
     rcases hv with z | z | z
     ·obtain ⟨k,e1,e3⟩:=Hb z
      rw [hfree] at e1
      cases e1
      rcases e3 with e3 | ⟨_,e3⟩
      ·exact .inr (by cases e3)
      ·exact .inr (by cases e3)
     ·exact .inl z
     ·exact .inr z
 have IY:Inv Y [(D,LCg.lst [])] σY H2 { s2 with heap:=h₁,toks:=s2.toks + ([]:List (Str× Value)).length }:=by
  refine ⟨okY,Z,I2.bare,Un.kept old,⟨_,hns₁,lookY _ _ λ c v _ ⟨o,e,d⟩=>⟨o,old c o e,d⟩⟩,λ x c e=>?_,I2.hok.fresh hCle,λ x c e=>I2.freeC x c (cl1 x c e),λ p hp=>?_,I2.hok.kept old,σYl⟩
  ·obtain ⟨v,o,e1,d⟩:=I2.cell x c (cl1 x c e)
   exact ⟨v,o,old c o e1,d⟩
  ·have hp:p∈[(D,LCg.lst [])]:=by simpa [Y,Eh] using hp
   rw [mS hp]
   exact ⟨hacc,I2.hok.fresh (le_refl _),hDC,nfs _ (le_refl _),λ v z=>nomatch z⟩
 have stat:∀ {us:List Value} {H':Hp},(∀ b∈fp,H' b = none)→∀ b∈fp,Ja Y [(D,LCg.lst us)] H' b:=λ {us H'} hn b hb=>by
  refine ⟨hn b hb,ne_of_lt (lt_of_lt_of_le (fpl b hb) hCle),λ z=>?_,.inl hb,λ x c e=>(f2 b hb).2.2.2.2.1 x c (cl1 x c e),λ p hp=>?_⟩
  ·exact okY.exfs b hb z
  ·have hp:p∈[(D,LCg.lst us)]:=by simpa [Y,Eh] using hp
   rw [mS hp]
   exact λ z=>absurd (fpl b hb) (by rw [← z]; exact lt_irrefl _)
 have loop:∀ s₃:Shared,s₃ = { s2 with heap:=h₁,toks:=s2.toks + ([]:List (Str× Value)).length } →
   codeAny (model X.prog X.w) X.A (.compLoop (.ListComp elt [⟨tg,iter,ifs,0⟩] scope pos) 0 (.ref it) (.ref s2.heap.objs.size) (compEnvC scope cl Hh.objs.size X.env))
    (RR (.ref s2.heap.objs.size) Hh.objs.size) s₃:=by
  rintro s₃ rfl
  refine Wt (λ n s'=>∃ i ys us H',Inv Y [(D,LCg.lst us)] σY H' s'∧Bb ys us∧ys.length≤sizeLine∧tn i s'.heap∧(∀ b∈fp,H' b = none)∧W i n ys H') ?_ m0
   ⟨0,[],[],H2,IY,.nil,zero_le _,T.keep _ _ _ st2 λ b _ o e=>old b o e,λ b hb=>(f2 b hb).1,w0⟩
  rintro n s3 ⟨i,ys,us,H3,I3,rv,hsz,st3,fr3,w3⟩
  rcases turn i n ys H3 w3 with ⟨stop,qn⟩ | ⟨go,hlt,step⟩
  ·refine thn (T.done Y rfl rfl rfl hc i _ s3 σY H3 _ I3 (stat fr3) st3 stop) λ r s4 ⟨hr,I4⟩=>?_
   subst hr
   have pinD:=I4.pin (D,LCg.lst us) (mem_append_right _ (mem_singleton.mpr rfl))
   obtain ⟨mC,hnC,_⟩:=I4.loc
   obtain ⟨oC,esC,epC,hoC,hdC,hxC⟩:=id hnC
   have hDn:H3 D = none:=pinD.2.1
   have ag:∀ b,b < s2.heap.objs.size→(upd H3 D (.lst ys)) b = H3 b:=λ b hb=>upd_ne (ne_of_lt hb)
   have hokU:HOk X.prog X.w (upd H3 D (.lst ys)) s4.heap:=λ a o e=>by
    by_cases ha:a = D
    ·subst ha
     rw [Ab] at e
     cases e
     exact ⟨hsz,us,_,rv,pinD.1⟩
    ·rw [upd_ne ha] at e
     refine (I4.hok a o e).stay (λ _ _ _ q=>q) (λ b q=>?_) (λ b xs q=>?_)
     ·rw [upd_ne (A9 q hDn)]; exact q
     ·rw [upd_ne (A9 q hDn)]; exact q
   have IX:Inv X pins σ (upd H3 D (.lst ys)) s4:=I2.call' (ch:=fp) I4.os (I4.base.later I2.hok ag λ b o _ e=>e) hokU I4.bare λ b hb=>⟨(f2 b hb).2.2.2.1,(f2 b hb).2.1,(f2 b hb).2.2.2.2.1,(f2 b hb).2.2.2.2.2⟩
   have hCn:(upd H3 D (.lst ys)) Hh.objs.size = none:=by rw [upd_ne (Ne.symm hDC)]; exact I4.free
   have fC:Ja X pins (upd H3 D (.lst ys)) Hh.objs.size:=I2.fpOk hCle hCn
   refine hRR D Hh.objs.size oC mC s4 H3 ys (qn D hDn) (IX.pins_of λ p hp=>?_) hnC fC
   rcases mem_append.mp hp with z | z
   ·exact IX.pin p (mem_append_right _ z)
   ·rw [mS z]
    exact ⟨hoC,hCn,fC.2.1,fC.2.2.1,λ v z=>by rw [hdC] at z; cases z⟩
  ·refine thn (T.item Y rfl rfl rfl hc i _ s3 σY H3 _ I3 (stat fr3) st3 go) λ r s4 ⟨u,hr,h4⟩=>?_
   subst hr
   refine thn h4 λ _ s5 ⟨x,H5,I5,r5,y5,st5,fr5⟩=>?_
   have I5':=I5.pinned (stat fr5) (T.obj _ _ st5)
   refine thn (hg _ _ _ _ _ _ s5 σY H5 x u _ I5' r5 (hk _ _ _ _ (step x H5 y5))) λ _ s6 ⟨σ6,H6,I6,hext,q6⟩=>?_
   refine thn (hi _ _ _ _ _ _ s6 σ6 H6 _ I6 q6) λ b s7 ⟨H7,I7,q7⟩=>?_
   have back:∀ {s8:Shared} {H8:Hp} {us8:List Value},Inv Y ([(D,LCg.lst us8)] ++ Ge fp s5.heap) σ6 H8 s8→Inv Y [(D,LCg.lst us8)] σY H8 s8∧tn (i + 1) s8.heap∧∀ b∈fp,H8 b = none:=λ {s8 H8 us8} I8=>by
    refine ⟨I8.unpinned.weak (σYl.trans I8.len.symm) λ j v hj=>?_,T.keep _ _ _ st5 λ b hb o e=>(I8.pin (b,o) (mem_append_right _ (mem_append_right _ (Ih hb e)))).1,λ b hb=>?_⟩
    ·have hjo:own.length≤j:=by
      rcases lt_or_ge j own.length with z | z
      ·have hj:(List.replicate own.length none ++ (fr.map (·.2)).map λ j=>(σ[j]?).join)[j]? = some (some v):=hj
       rw [getElem?_append_left (by simpa using z),List.getElem?_replicate,if_pos z] at hj
       cases hj
      ·exact z
     rw [hext j hjo]
     exact hj
    ·obtain ⟨o,e,d⟩:=T.obj _ _ st5 b hb
     exact (I8.pin (b,o) (mem_append_right _ (mem_append_right _ (Ih hb e)))).2.1
   cases b with
   | false =>
    rw [if_neg Bool.false_ne_true] at q7 ⊢
    obtain ⟨m',hm,w7⟩:=q7
    obtain ⟨I8,t8,f8⟩:=back I7
    exact ⟨m',hm,i + 1,ys,us,H7,I8,rv,hsz,t8,f8,w7⟩
   | true =>
    rw [if_pos rfl] at q7 ⊢
    refine thn (he _ _ _ _ _ _ s7 σ6 H7 _ I7 q7) λ vy s8 ⟨y,H8,I8,ry,m',hm,w8⟩=>?_
    have pinD:=I8.pin (D,LCg.lst us) (mem_append_right _ (mem_append_left _ (mem_singleton.mpr rfl)))
    refine append_at (hsz:=by rw [size_toArray,← rv.length]; exact hsz) pinD.1 λ h₅ hs₅ hD₅=>?_
    have hD₅':h₅.get? D = some (LCg.lst (us ++ [vy])):=hD₅.trans (congrArg some (LCg.lst_snoc us vy))
    have Ia:Inv Y (Ge fp s5.heap) σ6 H8 s8:=I8.pins_of λ p hp=>I8.pin p (mem_append_right _ (mem_append_right _ hp))
    have Ib:Inv Y (Ge fp s5.heap) σ6 H8 { s8 with heap:=h₅ }:=Ia.turned (it:=D) (t':=s8.toks) (λ b o hb e=>hs₅.extBut b o hb e) pinD.2.1 hDC (.inr (le_refl _))
     (λ x c e z=>by
      obtain ⟨v,q⟩:=I2.cell x c (cl1 x c e)
      exact absurd q.lt (by rw [z]; exact lt_irrefl _))
     (λ p hp=>by
      have hp:p∈Ge fp s5.heap:=by simpa [Y,Eh] using hp
      exact λ z=>absurd (fpl p.1 (Qc hp).1) (by rw [z]; exact lt_irrefl _))
    have Ic:Inv Y ([(D,LCg.lst (us ++ [vy]))] ++ Ge fp s5.heap) σ6 H8 { s8 with heap:=h₅ }:=Ib.pins_of λ p hp=>by
     rcases mem_append.mp hp with z | z
     ·rw [mS z]
      exact ⟨hD₅',pinD.2.1,hDC,nfs _ (le_refl _),λ v z=>nomatch z⟩
     ·exact Ib.pin p (mem_append_right _ z)
    obtain ⟨I9,t9,f9⟩:=back Ic
    exact ⟨m',hm,i + 1,ys ++ [y],us ++ [vy],H8,I9,rv.append (.cons ry .nil),by rw [length_append,length_singleton]; omega,t9,f9,w8⟩
 exact codeAny_compStart_list (loop _ rfl) (T.self X.A 0 _ _ _ (T.keep _ _ _ st2 λ b _ o e=>old b o e) (loop _ rfl))
theorem Nh {own:List Str} {fr:List (Str× Nat)} {pins:List (Addr× Obj)} {s:Shared} {σ:St} {H:Hp} (S:Lm X scope own fr) (I:Inv X pins σ H s):∀ y∈scope.names,y.2 = .free→∃ c,X.env.cells.lookup y.1 = some c :=
 λ y hy e=>I.ok.has y.1 (.inl (S.free y hy e))
theorem Cu (own:List Str) (fr:List (Str× Nat)) (hc:X.calm = true) (S:Lm X scope own fr) (hit:PI X tg iter wi)
  (hg:∀ s2 H2 fp cl C,PG (Eh X s2 H2 fp (own ++ fr.map (·.1)) scope cl C) tg g) (hk:Qn own.length g)
  (hi:∀ s2 H2 fp cl C,Rh (Eh X s2 H2 fp (own ++ fr.map (·.1)) scope cl C) ifs tc) (he:∀ s2 H2 fp cl C,PE (Eh X s2 H2 fp (own ++ fr.map (·.1)) scope cl C) elt te)
  (hs:∀ x,foldedSetIterable iter X.env x = pure x:=by intro _; rfl) :
  PE X (.ListComp elt [⟨tg,iter,ifs,0⟩] scope pos) (Aap own.length (fr.map (·.2)) wi g tc te):=by
 intro pins s σ H Q I h
 obtain ⟨cl,hclos,cl1,cl2⟩:=Ng (Nh S I)
 rw [eval_ListComp]
 refine wpAny_comprehension_free (use:=none) rfl hs hclos S.kind S.loc (thn (hit pins s σ H _ I h) λ v s1 h1=>thn h1 λ itv s2 h2=>?_)
 obtain ⟨it,fp,tn,J,H2,e,I2,T,st2,f2,W,⟨m0,w0⟩,turn⟩:=h2
 subst e
 refine Pc (RR:=λ acc C=>compPost (model X.prog X.w) X.A X.xe none (EP X pins σ Q) acc C) (Fin:=λ D ys H=>Q (.ref D) (upd H D (.lst ys))) hc S cl1 cl2 hg hk hi he I2 T st2 f2 w0 turn ?_
 intro D C oC mC s4 H4 ys fin IC hn fC
 refine ⟨mC,hn,λ h' hs'=>⟨.ref D,_,?_,Z,fin⟩⟩
 exact IC.unpinned.turned (t':=s4.toks) (λ b o hb e=>hs'.extBut b o hb e) fC.1 fC.2.1 fC.2.2.2.1 fC.2.2.2.2.1 fC.2.2.2.2.2
def Zm (j k:Nat) (js:List Nat) (wi:TI) (g:TG) (tc:TT) (te:TE):TS:=λ D σ H=>Aap k js wi g tc te σ H λ v H'=>D.nx (σ.set j (some v)) H'
theorem Ff {j:Nat} {y:Str} {py spos:Pos} (own:List Str) (fr:List (Str× Nat)) (hN:X.N.Nodup) (hj:X.N[j]? = some y) (hy:Loc X.env.scope y) (hc:X.calm = true) (S:Lm X scope own fr) (hit:PI X tg iter wi)
  (hg:∀ s2 H2 fp cl C,PG (Eh X s2 H2 fp (own ++ fr.map (·.1)) scope cl C) tg g) (hk:Qn own.length g)
  (hi:∀ s2 H2 fp cl C,Rh (Eh X s2 H2 fp (own ++ fr.map (·.1)) scope cl C) ifs tc) (he:∀ s2 H2 fp cl C,PE (Eh X s2 H2 fp (own ++ fr.map (·.1)) scope cl C) elt te)
  (hsw:swapsWith (.ListComp elt [⟨tg,iter,ifs,0⟩] scope pos) (some (.Name y py)) spos.line X.env = pure true:=by rfl)
  (hs:∀ x,foldedSetIterable iter X.env x = pure x:=by intro _; rfl)
  (hf:X.fn y = true∨X.env.scope.names.lookup y = some .local:=by first | exact .inl rfl | exact .inr rfl | assumption) :
  PS X (.Assign [.Name y py] (.ListComp elt [⟨tg,iter,ifs,0⟩] scope pos) spos) (Zm j own.length (fr.map (·.2)) wi g tc te):=by
 intro pins s σ H Dn I h
 obtain ⟨cl,hclos,cl1,cl2⟩:=Ng (Nh S I)
 rw [exec_Assign_Name_used _ _ _ _ hsw]
 refine wpAny_bind (wpAny_standAt (wpAny_bind ?_))
 show wpAny _ X.A (do let _ ← comprehension (.ListComp elt [⟨tg,iter,ifs,0⟩] scope pos) scope X.env _ (newList []) false (eval iter X.env) (some (assign (.Name y py) X.env))) _ _ s
 refine wpAny_bind (wpAny_mono (wpAny_comprehension_free (use:=some (assign (.Name y py) X.env)) (Q:=λ _ s'=>SP X pins Dn .next s') rfl hs hclos S.kind S.loc
  (thn (hit pins s σ H _ I h) λ v s1 h1=>thn h1 λ itv s2 h2=>?_)) (λ _ s' hq=>wpAny_pure (wpAny_pure hq)) λ _ _ e=>e)
 obtain ⟨it,fp,tn,J,H2,e,I2,T,st2,f2,W,⟨m0,w0⟩,turn⟩:=h2
 subst e
 refine Pc (RR:=λ acc C=>compPost (model X.prog X.w) X.A X.xe (some (assign (.Name y py) X.env)) (λ _ s'=>SP X pins Dn .next s') acc C) (Fin:=λ D ys H=>Dn.nx (σ.set j (some (.ref D))) (upd H D (.lst ys))) hc S cl1 cl2 hg hk hi he I2 T st2 f2 w0 turn ?_
 intro D C oC mC s4 H4 ys fin IC hn fC
 show wpAny _ X.A (assign (.Name y py) X.env (.ref D)) _ _ _
 refine wpAny_assign_Name (M1 (v:=.ref D) IC hN hj hy rfl (λ s5 I5=>?_) hf)
 have pC:=I5.pin (C,oC) (mem_append_right _ (mem_append_right _ (mem_singleton.mpr rfl)))
 have pC4:=IC.pin (C,oC) (mem_append_right _ (mem_append_right _ (mem_singleton.mpr rfl)))
 refine ⟨mC,hn.at' λ o e=>?_,λ h' hs'=>⟨_,_,?_,fin⟩⟩
 ·have e':=pC4.1
  rw [e] at e'
  cases e'
  exact pC.1
 ·exact I5.unpinned.turned (t':=s5.toks) (λ b o hb e=>hs'.extBut b o hb e) fC.1 fC.2.1 fC.2.2.2.1 fC.2.2.2.2.1 fC.2.2.2.2.2
end
theorem Abf {J:It} {xs:List V} {g:TG} {tc:TT} {te:TE} {σY:St} {H:Hp} {F:Addr→List V→Hp→Prop} (Pv:Nat→List V→Hp→Prop) (h0:Pv 0 [] H) (hz:xs.length≤sizeLine)
  (hgo:∀ i ys H,i < xs.length→Pv i ys H→J.go i H) (hst:∀ ys H,Pv xs.length ys H→J.stop xs.length H)
  (hy:∀ i ys H x H',Pv i ys H→J.yld i H x H'→H' = H∧xs[i]? = some x)
  (hs:∀ i x ys H,xs[i]? = some x→Pv i ys H→g x σY H λ σ2 H2=>tc σ2 H2 λ b H3=>if b = true then te σ2 H3 λ y H4=>Pv (i + 1) (ys ++ [y]) H4 else Pv (i + 1) ys H3)
  (mono:∀ x σ H Q Q',(∀ σ2 H2,Q σ2 H2→Q' σ2 H2)→g x σ H Q→g x σ H Q')
  (monoT:∀ σ H Q Q',(∀ b H1,Q b H1→Q' b H1)→tc σ H Q→tc σ H Q') (monoE:∀ σ H Q Q',(∀ v H1,Q v H1→Q' v H1)→te σ H Q→te σ H Q')
  (hd:∀ ys H,Pv xs.length ys H→∀ D,H D = none→F D ys H) :
  ∃ W:Nat→Nat→List V→Hp→Prop,(∃ m,W 0 m [] H)∧∀ i m ys H,W i m ys H →
   (J.stop i H∧∀ D,H D = none→F D ys H) ∨
   (J.go i H∧ys.length < sizeLine∧∀ x H',J.yld i H x H'→g x σY H' λ σ2 H2=>tc σ2 H2 λ b H3=>if b = true then te σ2 H3 λ y H4=>∃ m',m' < m∧W (i + 1) m' (ys ++ [y]) H4 else ∃ m',m' < m∧W (i + 1) m' ys H3):=by
 refine ⟨λ i m ys H=>m = xs.length - i∧i≤xs.length∧ys.length≤i∧Pv i ys H,⟨xs.length,by simp,zero_le _,le_refl _,h0⟩,?_⟩
 rintro i m ys H ⟨rfl,hi,hyl,p⟩
 by_cases hlt:i < xs.length
 ·refine .inr ⟨hgo i ys H hlt p,by omega,λ x H' y=>?_⟩
  obtain ⟨e,hx⟩:=hy i ys H x H' p y
  subst e
  refine mono _ _ _ _ _ (λ σ2 H2 q=>monoT _ _ _ _ (λ b H3 q2=>?_) q) (hs i x ys _ hx p)
  cases b with
  | true =>
   rw [if_pos rfl] at q2 ⊢
   exact monoE _ _ _ _ (λ v H4 q4=>⟨xs.length - (i + 1),by omega,Z,hlt,by rw [length_append,length_singleton]; omega,q4⟩) q2
  | false =>
   rw [if_neg Bool.false_ne_true] at q2 ⊢
   exact ⟨xs.length - (i + 1),by omega,Z,hlt,by omega,q2⟩
 ·have e:i = xs.length:=by omega
  subst e
  exact .inl ⟨hst ys H p,hd ys H p⟩
section
variable {X:Cx} {pins:List (Addr× Obj)} {σ:St} {H H':Hp} {s:Shared} {h':Heap}
theorem Inv.turnedL {its:List Addr} {t':Nat} (I:Inv X pins σ H s) (hf:∀ b∈its,Ja X pins H b) (k:∀ b o,b∉its→s.heap.get? b = some o→h'.get? b = some o)
  (ag:∀ b,b < s.heap.objs.size→H' b = H b) (hok:HOk X.prog X.w H' h'):Inv X pins σ H' { s with heap:=h',toks:=t' }:=by
 refine I.step (g':=s.gens) (d':=s.drawn) (ch:=its) (λ b hb=>⟨(hf b hb).2.2.2.1,(hf b hb).2.1,(hf b hb).2.2.2.2.1,(hf b hb).2.2.2.2.2⟩) (λ b o _ _ hc e _=>k b o hc e) (λ b o _ _ hc e _=>⟨o.slots,k b o hc e⟩)
  (λ b o _ e n=>by rw [ag b (Heap.lt_size e)]; exact n) (λ b o hc e=>⟨o,k b o hc e⟩) (λ b xs e=>by rw [ag b (I.hok.lt e)]; exact e) (λ b o u e=>by rw [ag b (I.hok.lt e)]; exact e)
  (λ b ps e=>⟨#[],by rw [ag b (I.hok.lt e),e]; simp⟩) (λ m hm=>?_) hok I.bare
 obtain ⟨o,es,ep,ho,r⟩:=hm
 exact ⟨o,es,ep,k _ o (λ z=>(hf _ z).2.1 rfl) ho,r⟩
theorem HOk.turned {its:List Addr} (ok:HOk X.prog X.w H s.heap) (hf:∀ b∈its,H b = none) (k:∀ b o,b∉its→s.heap.get? b = some o→h'.get? b = some o):HOk X.prog X.w H h':=λ b u e=>by
 refine (ok b u e).stay (λ c v hc q=>k c v (λ z=>?_) q) (λ _ q=>q) λ _ _ q=>q
 rcases hc with y | y
 ·rw [← y,hf c z] at e; cases e
 ·rw [hf c z] at y; cases y
theorem HOk.turnedNew {its:List Addr} {T:Addr} {o:HO} (ok:HOk X.prog X.w H s.heap) (hf:∀ b∈its,H b = none) (k:∀ b o,b∉its→s.heap.get? b = some o→h'.get? b = some o) (hT:s.heap.objs.size≤T)
  (new:B5 X.prog X.w (upd H T o) h' T o):HOk X.prog X.w (upd H T o) h':=λ b u e=>by
 by_cases hb:b = T
 ·subst hb
  rw [Ab] at e
  cases e
  exact new
 ·rw [upd_ne hb] at e
  have hn:H T = none:=ok.fresh hT
  refine (HOk.turned (s:=s) ok hf k b u e).stay (λ _ _ _ q=>q) (λ c q=>?_) λ c xs q=>?_
  ·rw [upd_ne (A9 q hn)]; exact q
  ·rw [upd_ne (A9 q hn)]; exact q
end
def Ite (K:PySem.W.Frag) (l:Addr):It :=
 ⟨λ i H=>∃ xs x,SqL K H l xs∧xs[i]? = some x,
  λ i H v H'=>∃ T x,v = .ref T∧H T = none∧H' = upd H T (.tup [.int i,x])∧∀ xs,SqL K H l xs→xs[i]? = some x,
  λ i H=>∃ xs,SqL K H l xs∧xs.length≤i⟩
theorem Xm {P:Program} {w:World} {K:PySem.W.Frag} {elts:List Expr} {x1} {tp:Pos} {e it l:Addr} (hei:e≠it) :
  Lo P w K (.Tuple elts x1 tp) (Ite K l) [e,it] e (λ i h=>(∃ old,IsEnum h e it i old)∧h.IsListIter it l i) where
 mem:=by simp
 obj:=λ i h ⟨⟨old,h1⟩,h4⟩ c hc=>by
  simp only [mem_cons,mem_nil_iff,or_false] at hc
  rcases hc with rfl | rfl
  ·exact ⟨_,h1,λ v z=>nomatch z⟩
  ·obtain ⟨o,e,c,d⟩:=h4
   exact ⟨o,e,λ v z=>by rw [d] at z; cases z⟩
 keep:=λ i h h' ⟨⟨old,h1⟩,h4⟩ k=>⟨⟨old,k _ (by simp) _ h1⟩,h4.at λ o e=>k _ (by simp) o e⟩
 item:=by
  intro X hP hw hK hc i pins s σ H E I hf st hg
  subst hP hw hK
  obtain ⟨⟨old,h1⟩,h4⟩:=st
  obtain ⟨xs,x,q1,e1⟩:=hg
  obtain ⟨its1,rv1,p1,hz1⟩:=I.list q1
  obtain ⟨u,hu,ru⟩:=rv1.get e1
  refine wpAny_pyNext_enum_item h1 h4 p1.isList (x:=u) (by simpa using hu) hei λ h' a1 a3 a5 a6 a7=>?_
  refine ⟨_,Z,wpAny_letOwnedTupleGo_enum (s:={ s with heap:=h',toks:=s.toks + 1 }) a1 λ h'' b1 b2=>?_⟩
  have b2:Heap.SameBut e h' h'':=b2
  have zl:e < s.heap.objs.size:=Heap.lt_size h1
  have Tz:s.heap.objs.size≠e:=ne_of_gt zl
  have k:∀ b o,b∉[e,it]→s.heap.get? b = some o→h''.get? b = some o:=λ b o hb q=>by
   simp only [mem_cons,mem_nil_iff,or_false,not_or] at hb
   exact b2.extBut b o hb.1 (a7 b o hb.1 hb.2 q)
  have pT:h''.get? s.heap.objs.size = some { cls:=.type "tuple", data:=.seq #[.int i s.toks,u] }:=b2.extBut _ _ Tz a5
  have hn:H s.heap.objs.size = none:=I.hok.fresh (le_refl _)
  have fpl:∀ b∈[e,it],s.heap.objs.size≠b:=λ b hb=>by
   simp only [mem_cons,mem_nil_iff,or_false] at hb
   rcases hb with rfl | rfl
   ·exact Tz
   ·obtain ⟨o,q,_⟩:=h4; exact ne_of_gt (Heap.lt_size q)
  have hok:HOk X.prog X.w (upd H s.heap.objs.size (.tup [.int i,x])) h'':=HOk.turnedNew (s:=s) I.hok (λ b hb=>(hf b hb).1) k (le_refl _) ⟨zN2,[.int i s.toks,u],.cons ⟨_,Z⟩ (.cons ru .nil),_,pT,Z,_,Z⟩
  have I1:Inv X pins σ (upd H s.heap.objs.size (.tup [.int i,x])) { s with heap:=h'',toks:=s.toks + 1 }:=I.turnedL (t':=s.toks + 1) hf k (λ b hb=>upd_ne (ne_of_lt hb)) hok
  refine ⟨.ref s.heap.objs.size,_,I1,Z,⟨_,x,Z,hn,Z,λ zs hz=>by rw [I.list_inj hz q1]; exact e1⟩,?_,λ b hb=>by rw [upd_ne (Ne.symm (fpl b hb))]; exact (hf b hb).1⟩
  exact ⟨⟨_,b1⟩,a3.extBut b2.extBut hei.symm⟩
 done:=by
  intro X hP hw hK hc i pins s σ H E I hf st hg
  subst hP hw hK
  obtain ⟨⟨old,h1⟩,h4⟩:=st
  obtain ⟨xs,q1,hx⟩:=hg
  obtain ⟨its1,rv1,p1,hz1⟩:=I.list q1
  have l1:=rv1.length
  refine wpAny_pyNext_enum_end (I.ok.hd hc) h1 h4 p1.isList (by simp; omega) λ h' a7=>?_
  have k:∀ b o,b∉[e,it]→s.heap.get? b = some o→h'.get? b = some o:=λ b o hb q=>by
   simp only [mem_cons,mem_nil_iff,or_false,not_or] at hb
   exact a7 b o hb.2 q
  exact ⟨Z,I.turnedL (t':=s.toks) hf k (λ _ _=>rfl) (HOk.turned (s:=s) I.hok (λ b hb=>(hf b hb).1) k)⟩
 self:=λ _ _ _ _ _ st h=>by
  obtain ⟨⟨old,h1⟩,_⟩:=st
  refine wpAny_pyIter_slot (T:= "enumerate") ⟨_,h1,Z⟩ F.slot_enumerate_iter (wpAny_call_entry F.slot_enumerate_iter ⟨_,h1,Z⟩ F.entry_enumerate_iter ?_ (F.args_enumerate_iter_1 _))
  show wpAny _ _ (ret (.ref _)) _ _ _
  exact wpAny_pure ⟨_,Z, "enumerate", _,⟨_,h1,Z⟩,F.slot_enumerate_next.lookup,h⟩
section
variable {X:Cx}
def AdC (K:PySem.W.Frag) (ta:TA):TI:=λ σ H R=>ta σ H λ vs H1=>∃ l,vs = [.ref l]∧(∃ xs,SqL K H1 l xs)∧R (Ite K l) H1
theorem Aa1 {elts:List Expr} {x1} {tp:Pos} {a:Expr} {ta:TA} {p pos:Pos} (hg:Gl X "enumerate") (hm:X.mg "enumerate" = none) (ha:PA X [a] ta) (hs:starEach [a] X.env = [(false,eval a X.env)]:=by rfl) :
  PI X (.Tuple elts x1 tp) (.Call (.Name "enumerate" p) [a] [] pos) (AdC X.K ta):=by
 intro pins s σ H R I h
 refine Call_ (Gh I hg hm boot_enumerate (PyProof.Rows.callWith_type1 (thn (ha pos pins s σ H _ I h) λ us s1 ⟨vs,H1,I1,r1,q1⟩=>?_) hs rfl))
 obtain ⟨l,e,⟨xs,hx⟩,q⟩:=q1
 subst e
 obtain ⟨u,rfl,ru⟩:=r1.one
 cases ru
 obtain ⟨its1,rv1,p1,hz1⟩:=I1.list hx
 refine call_enumerate_list p1.isList λ h' a1 a4 a6 a7=>?_
 have I2:Inv X pins σ H1 { s1 with heap:=h' }:=I1.kept (t':=s1.toks) a7
 have T:=Xm (P:=X.prog) (w:=X.w) (K:=X.K) (elts:=elts) (x1:=x1) (tp:=tp) (e:=s1.heap.objs.size + 1) (it:=s1.heap.objs.size) (l:=l) (ne_of_gt (lt_succ_self _))
 refine T.self X.A 0 { s1 with heap:=h' } _ _ ⟨⟨_,a1⟩,a4⟩ ?_
 refine ⟨_,_,_,_,H1,Z,I2,T,⟨⟨_,a1⟩,a4⟩,λ b hb=>?_,q⟩
 have hb:s1.heap.objs.size≤b:=by
  simp only [mem_cons,mem_nil_iff,or_false] at hb
  rcases hb with rfl | rfl
  ·exact Nat.le_add_right _ 1
  ·exact le_refl _
 exact I1.fpOk hb (I1.hok.fresh hb)
end
theorem Zl {K:PySem.W.Frag} {l:Addr} {xs:List V} {g:TG} {tb:TS} {D:Jh} {σ:St} {H:Hp} (Pv:Nat→St→Hp→Prop) (h0:Pv 0 σ H) (hl:∀ i σ H,i≤xs.length→Pv i σ H→SqL K H l xs)
  (hs:∀ i x T σ H,xs[i]? = some x→Pv i σ H→H T = none→g (.ref T) σ (upd H T (.tup [.int i,x])) λ σ2 H2=>tb { D with nx:=Pv (i + 1),ct:=Pv (i + 1),bk:=D.nx } σ2 H2) (hd:∀ σ H,Pv xs.length σ H→D.nx σ H) :
  ∃ W:Nat→Nat→St→Hp→Prop,(∃ m,W 0 m σ H)∧∀ i m σ H,W i m σ H →
   ((Ite K l).stop i H∧D.nx σ H)∨((Ite K l).go i H∧∃ N:St→Hp→Prop,(∀ σ' H',N σ' H'→∃ m',m' < m∧W (i + 1) m' σ' H')∧∀ x H',(Ite K l).yld i H x H'→g x σ H' λ σ2 H2=>tb { D with nx:=N,ct:=N,bk:=D.nx } σ2 H2):=by
 refine ⟨λ i m σ H=>m = xs.length - i∧i≤xs.length∧Pv i σ H,⟨xs.length,by simp,zero_le _,h0⟩,?_⟩
 rintro i m σ H ⟨rfl,hi,p⟩
 have q1:=hl i σ H hi p
 by_cases hlt:i < xs.length
 ·refine .inr ⟨⟨xs,xs[i],q1,by simp [hlt]⟩,Pv (i + 1),λ σ' H' p'=>⟨xs.length - (i + 1),by omega,rfl,hlt,p'⟩,λ x H' y=>?_⟩
  obtain ⟨T,a,rfl,hT,rfl,y1⟩:=y
  exact hs i a T σ H (y1 xs q1) p hT
 ·have e:i = xs.length:=by omega
  subst e
  exact .inl ⟨⟨xs,q1,le_refl _⟩,hd σ H p⟩
inductive Nd where
 | s (x:Str)
 | i (n:Int)
 | t (xs:List Nd)
def Tp (H H':Hp):Prop:=∀ b xs,H b = some (.tup xs)→H' b = some (.tup xs)
theorem Tp.trans {H H1 H2:Hp} (a:Tp H H1) (b:Tp H1 H2):Tp H H2:=λ c xs h=>b c xs (a c xs h)
theorem Same.tp {H H':Hp} (h:Same H H'):Tp H H':=λ b xs e=>h b _ e
theorem Tp.new {H:Hp} {a:Addr} {o:HO} (h:H a = none):Tp H (upd H a o):=λ b xs e=>by rw [upd_ne (A9 e h)]; exact e
theorem Tp.lst {H:Hp} {a:Addr} {o:HO} {ys:List V} (h:H a = some (.lst ys)):Tp H (upd H a o):=λ b xs e=>by rw [upd_ne (Bl e h (by intro z; cases z))]; exact e
theorem Ad {H:Hp} {p:Addr} (h:H p = none) (o:HO):Same H (upd H p o):=λ b u q=>by rw [upd_ne (A9 q h)]; exact q
theorem Same.young {H H1:Hp} {p:Addr} (g:Same H H1) (h:H p = none) (o:HO):Same H (upd H1 p o):=λ b u q=>by rw [upd_ne (A9 q h)]; exact g b u q
def isT:Nd→Bool
 | .t _=>true
 | _=>false
mutual
def pre:Nd→List Nd
 | .t xs=>.t xs :: Dj xs
 | .s _=>[]
 | .i _=>[]
def Dj:List Nd→List Nd
 | []=>[]
 | x :: r=>Dj r ++ pre x
end
mutual
def D3:Nd→Bool
 | .t xs=>decide (xs.length≤8) && Bi xs
 | .s _=>true
 | .i _=>true
def Bi:List Nd→Bool
 | []=>true
 | x :: r=>D3 x && Bi r
end
def cnt (n:Nd):Nat:=(pre n).length
theorem C9 (xs:List Nd):pre (.t xs) = .t xs :: Dj xs:=by rw [pre]
theorem Dm (x:Str):pre (.s x) = []:=by rw [pre]
theorem Fg (x:Int):pre (.i x) = []:=by rw [pre]
theorem Ca:Dj [] = []:=by rw [Dj]
theorem A6 (x:Nd) (r:List Nd):Dj (x :: r) = Dj r ++ pre x:=by rw [Dj]
theorem J0:∀ (a b:List Nd),Dj (a ++ b) = Dj b ++ Dj a
 | [],b=>by rw [Ca]; simp
 | x :: a,b=>by
  show Dj (x :: (a ++ b)) = _
  rw [A6,A6,J0 a b,append_assoc]
theorem Aa3 {n:Nd} (h:isT n = false):pre n = []:=by
 cases n with
 | s x=>exact Dm x
 | i x=>exact Fg x
 | t xs=>cases h
def inner (xs:List Nd):List Nd:=xs.filter isT
theorem N7:∀ xs:List Nd,Dj (inner xs) = Dj xs
 | []=>rfl
 | x :: r=>by
  unfold inner
  rw [filter_cons,A6]
  have ih:=N7 r
  unfold inner at ih
  cases e:isT x with
  | true=>rw [if_pos rfl,A6,ih]
  | false=>rw [if_neg Bool.false_ne_true,ih,Aa3 e,append_nil]
theorem Ga {xs:List Nd} (h1:xs.length≤8) (h2:Bi xs = true):D3 (.t xs) = true:=by rw [D3]; simp [h1,h2]
theorem Sl {xs:List Nd} (h:D3 (.t xs) = true):xs.length≤8:=by
 rw [D3,Bool.and_eq_true] at h
 exact of_decide_eq_true h.1
theorem Abk {xs:List Nd} (h:D3 (.t xs) = true):Bi xs = true:=by
 rw [D3,Bool.and_eq_true] at h
 exact h.2
theorem P8:Bi [] = true:=by rw [Bi]
theorem Ii {x:Nd} {r:List Nd} (h1:D3 x = true) (h2:Bi r = true):Bi (x :: r) = true:=by rw [Bi]; simp [h1,h2]
theorem Ln:∀ {a b:List Nd},Bi a = true→Bi b = true→Bi (a ++ b) = true
 | [],b,_,h=>h
 | x :: a,b,h,h'=>by
  rw [Bi,Bool.and_eq_true] at h
  exact Ii h.1 (Ln h.2 h')
theorem Kj:∀ {a b:List Nd},Bi (a ++ b) = true→Bi a = true∧Bi b = true
 | [],b,h=>⟨P8,h⟩
 | x :: a,b,h=>by
  have h:Bi (x :: (a ++ b)) = true:=h
  rw [Bi,Bool.and_eq_true] at h
  exact ⟨Ii h.1 (Kj h.2).1,(Kj h.2).2⟩
theorem AaX {x:Nd} (h:Bi [x] = true):D3 x = true:=by
 rw [Bi,Bool.and_eq_true] at h
 exact h.1
theorem Jx:∀ {xs:List Nd},Bi xs = true→Bi (inner xs) = true
 | [],h=>h
 | x :: r,h=>by
  rw [Bi,Bool.and_eq_true] at h
  unfold inner
  rw [filter_cons]
  split
  ·exact Ii h.1 (Jx h.2)
  ·exact Jx h.2
theorem AbX {xs:List Nd}:∀ x∈inner xs,isT x = true:=λ x h=>(mem_filter.mp h).2
theorem He {n:Nat} (h:n≤1000):n≤sizeLine:=le_of_lt (F2 h)
theorem Dz {α:Type} {xs:List α} {v:α} (h:xs[xs.length - 1]? = some v):atI xs (-1) = some v:=by
 have hl:0 < xs.length:=by
  rcases Nat.eq_zero_or_pos xs.length with z | z
  ·rw [length_eq_zero_iff.mp z] at h; simp at h
  ·exact z
 unfold atI ixN
 rw [if_neg (by omega),if_pos (by omega)]
 show xs[((-1:Int) + xs.length).toNat]? = some v
 rw [show ((-1:Int) + (xs.length:Int)).toNat = xs.length - 1 by omega]
 exact h
theorem G4 {α:Type} {xs:List α} {v:α} (h1:2≤xs.length) (h:xs[xs.length - 2]? = some v):atI xs (-2) = some v:=by
 unfold atI ixN
 rw [if_neg (by omega),if_pos (by omega)]
 show xs[((-2:Int) + xs.length).toNat]? = some v
 rw [show ((-2:Int) + (xs.length:Int)).toNat = xs.length - 2 by omega]
 exact h
theorem Kw {H:Hp} {p q:Addr} {a b:HO} (h:H p = none) (h2:(upd H p a) q = none):Same H (upd (upd H p a) q b)∧(upd (upd H p a) q b) p = some a∧(upd (upd H p a) q b) q = some b :=
 ⟨(Ad h a).trans (Ad h2 b),Ad h2 b _ _ Ab,Ab⟩
theorem Adm {H:Hp} {p q r:Addr} {a b c:HO} (h:H p = none) (h2:(upd H p a) q = none) (h3:(upd (upd H p a) q b) r = none) :
  Same H (upd (upd (upd H p a) q b) r c)∧(upd (upd (upd H p a) q b) r c) p = some a∧(upd (upd (upd H p a) q b) r c) q = some b∧(upd (upd (upd H p a) q b) r c) r = some c :=
 ⟨((Ad h a).trans (Ad h2 b)).trans (Ad h3 c),Ad h3 c _ _ (Ad h2 b _ _ Ab),Ad h3 c _ _ Ab,Ab⟩
def Ba (K:PySem.W.Frag) (mg:Str→Option Value) (x:Str) (ps:List Str) (st:Stmt):Prop:=∃ f fd,Fun K x x st f fd∧mg x = some (.ref f)∧B7 K fd ps []
def Am (P:Program) (w:World) (K:PySem.W.Frag) (mg:Str→Option Value) (base:Heap) (k:Nat) (x:Str) (ps:List Str) (sp:Sp):Prop :=
 ∃ f fd,Cj P w K mg base CX0 k f fd ps sp∧B7 K fd ps []∧keepIn K (.ref f) = true∧mg x = some (.ref f)
section
variable {P:Program} {w:World} {K:PySem.W.Frag} {mg:Str→Option Value} {base:Heap}
theorem Am.mono {j k:Nat} {x:Str} {ps:List Str} {sp:Sp} (C:Am P w K mg base j x ps sp) (h:j≤k):Am P w K mg base k x ps sp:=by
 obtain ⟨f,fd,F,b,kp,m⟩:=C
 exact ⟨f,fd,F.mono h,b,kp,m⟩
theorem Ba.ok {x:Str} {st:Stmt} {N ps:List Str} {k:Nat} {sp:Sp} (F:Ba K mg x ps st) (S:A7 N ps (Aj st)) (len:∀ vs H Q E,sp vs H Q E→vs.length = ps.length)
  (hbody:∀ (f:Addr) (cdv:Value) (A:Around) (outer:List Env) (s:Shared) (H:Hp) (vs:List V) (Q:VK) (E:XK),Ct k (A.deeper (envOfC x (Aj st) s.heap.objs.size f cdv))→sp vs H Q E →
   ∃ t,PSs (M5 CX0 P w K mg base N x (Aj st) f cdv A outer s H E).nox (Cf st) t∧t { nx:=λ _ H'=>Q .non H',rt:=Q } (Ik N vs) H):Am P w K mg base (k + 1) x ps sp:=by
 obtain ⟨f,fd,F,m,b⟩:=F
 exact ⟨f,fd,F.ok S len (hbody f),b,F.kp,m⟩
theorem Ba.zero {x:Str} {st:Stmt} {ps:List Str} {sp:Sp} (F:Ba K mg x ps st) (no:∀ vs H Q E,¬ sp vs H Q E):Am P w K mg base 0 x ps sp:=by
 obtain ⟨f,fd,F,m,b⟩:=F
 exact ⟨f,fd,⟨λ vs H Q E h=>absurd h (no vs H Q E),λ A outer s H args us vs Q E _ _ _ _ h=>absurd h (no vs H Q E)⟩,b,F.kp,m⟩
end
section
variable {X:Cx} {x:Str} {p pos:Pos} {e:Expr} {es:List Expr} {t:TA} {k j:Nat} {ps:List Str} {sp:Sp} {E:XK}
theorem Av (C:Am X.prog X.w X.K X.mg X.base j x ps sp) (hr:Ct k X.A) (hg:Gl X x) (hx:Fr CX0 X E) (ha:PA X (e :: es) t) (hj:j≤k:=by first | decide | omega)
  (hdb:(x == ("__debug__" : Str)) = false:=by decide) (he:starEach (e :: es) X.env = (false,eval e X.env) :: starEach es X.env:=by rfl) (hpl:(backTo pos (starEach es X.env)).any (·.1) = false:=by rfl) :
  PE X (.Call (.Name x p) (e :: es) [] pos) (Mi sp [] E t):=by
 obtain ⟨f,fd,F,b,kp,m⟩:=C
 exact AbC (F.mono hj) hr hg m kp b .nil hx ha hdb he hpl
end
section
variable {X:Cx}
def Adn (K:PySem.W.Frag):List V→Hp→VK→Prop:=λ xs H Q=>∃ p ys,xs = [.ref p]∧(SqL K H p ys∨SqT K H p ys)∧Q (.int ys.length) H
theorem Br:Fy X (.builtin "len") (Adn X.K):=Rz
def Acy:List V→Hp→VK→Prop:=λ xs H Q=>(∃ i,xs = [.int i]∧Q (.int i) H)∨∃ k,xs = [.bl k]∧Q (.int (if k then 1 else 0)) H
theorem V3:Fy X (.type "int") Acy:=Xu
theorem S0:Fy X (.builtin "sorted") (λ xs H Q=>∃ p ns,xs = [.ref p]∧SqL X.K H p ((ns:List Int).map V.int)∧ns.length < 64 ∧
  ∀ r (ms:List Int),H r = none→ms.Perm ns→ms.Pairwise (·≤·)→Q (.ref r) (upd H r (.lst (ms.map V.int)))):=by
 intro pins s σ H xs us Q I r h
 obtain ⟨p,ns,rfl,hS,hl,q⟩:=h
 obtain ⟨u,rfl,ru⟩:=r.one
 cases ru
 obtain ⟨its,rv,pl,hz⟩:=I.list hS
 have hI:=Kq rv
 have el:=rv.length
 rw [length_map] at el
 refine sorted_ints pl.isList hI (by omega) λ out ns' a1 a2 a3=>?_
 obtain ⟨e,he⟩:=sortedAll_at s.heap its out
 have hlen:=a2.length_eq
 have hn:H (s.heap.objs.size + 1) = none:=I.hok.fresh (le_succ _)
 refine ⟨.ref (s.heap.objs.size + 1),_,I.laid (t':=s.toks) (o:=.lst (ns'.map V.int)) (λ b o e=>sortedAll_old e) (le_succ _) ?_,Z,q _ ns' hn a2 a3⟩
 refine ⟨by rw [length_map]; exact He (by omega),out.toList,e,Jr a1,?_⟩
 rw [he]
theorem Zh:∀ {bs:List Bool} {us:List Value},Bb (bs.map V.bl) us→LSm.BoolsAre us bs:=by
 intro bs us h
 induction bs generalizing us with
 | nil=>cases h; exact .nil
 | cons b r ih =>
  cases h with
  | cons a t =>
   cases (show _ = Value.bool b from a)
   exact .cons _ (ih t)
theorem Jf (hc:X.calm = true):Fy X (.builtin "all") (λ xs H Q=>∃ p bs,xs = [.ref p]∧SqL X.K H p ((bs:List Bool).map V.bl)∧Q (.bl (bs.all id)) H):=by
 intro pins s σ H xs us Q I r h
 obtain ⟨p,bs,rfl,hS,q⟩:=h
 obtain ⟨u,rfl,ru⟩:=r.one
 cases ru
 obtain ⟨its,rv,pl,hz⟩:=I.list hS
 have hh:X.A.handled = none:=I.ok.hd hc
 have hb:=Zh rv
 have hlt:p < s.heap.objs.size:=by obtain ⟨_,e,_⟩:=pl.isList; exact Heap.lt_size e
 refine call_all_walk (wpAny_pyIter_list pl.isList ?_)
 refine ⟨s.heap.objs.size,[s.heap.objs.size,p],[s.heap.objs.size],its.toArray.size,_,_,λ i=>(bs[i]?).getD true,rfl,Walks.list (A:=X.A.in1) hh _ p (ne_of_lt hlt) its.toArray,
  ⟨⟨_,Heap.get?_push_size _ rfl,rfl,rfl⟩,pl.isList.push _⟩,λ i v s' Q' E' hP hQ=>?_,λ h' tk hk=>?_⟩
 ·obtain ⟨b,e,rfl⟩:=hb.get i v (by simpa using hP)
  simp only [e,Option.getD_some] at hQ
  exact wpAny_truthy_bool hQ
 ·have e:((List.range its.toArray.size).all λ i=>(bs[i]?).getD true) = bs.all id:=by
   rw [size_toArray,hb.length]; exact LSm.range_all bs
  rw [e]
  exact ⟨.bl _,H,I.kept (t':=tk) (LSm.kept_iter hk),Z,q⟩
end
abbrev L9 (J:It) (g:TG) (tc:TT) (te:TE) (σY:St) (F:Addr→List V→Hp→Prop) (H:Hp):Prop :=
 ∃ W:Nat→Nat→List V→Hp→Prop,(∃ m,W 0 m [] H)∧∀ i m ys H,W i m ys H →
   (J.stop i H∧∀ D,H D = none→F D ys H) ∨
   (J.go i H∧ys.length < sizeLine∧∀ x H',J.yld i H x H'→g x σY H' λ σ2 H2=>tc σ2 H2 λ b H3=>if b = true then te σ2 H3 λ y H4=>∃ m',m' < m∧W (i + 1) m' (ys ++ [y]) H4 else ∃ m',m' < m∧W (i + 1) m' ys H3)
theorem I0 {J:It} {k:Nat} {g:TG} {tc:TT} {te:TE} {σY:St} {H:Hp} {F:Addr→List V→Hp→Prop} (Pv:Nat→List V→Hp→Prop) (h0:Pv 0 [] H) (hz:k≤sizeLine)
  (hgo:∀ i ys H,i < k→Pv i ys H→J.go i H) (hst:∀ ys H,Pv k ys H→J.stop k H)
  (hs:∀ i x ys H H' (N:List V→Hp→Prop),i < k→Pv i ys H→J.yld i H x H'→ys.length≤i→(∀ ys' H',ys'.length≤i + 1→Pv (i + 1) ys' H'→N ys' H')→g x σY H' λ σ2 H2=>tc σ2 H2 λ b H3=>if b = true then te σ2 H3 λ y H4=>N (ys ++ [y]) H4 else N ys H3)
  (hd:∀ ys H,ys.length≤k→Pv k ys H→∀ D,H D = none→F D ys H):L9 J g tc te σY F H:=by
 refine ⟨λ i m ys H=>m = k - i∧i≤k∧ys.length≤i∧Pv i ys H,⟨k,by simp,zero_le _,le_refl _,h0⟩,?_⟩
 rintro i m ys H ⟨rfl,hi,hyl,p⟩
 by_cases hlt:i < k
 ·refine .inr ⟨hgo i ys H hlt p,by omega,λ x H' y=>?_⟩
  exact hs i x ys H H' (λ ys' H4=>∃ m',m' < k - i∧m' = k - (i + 1)∧i + 1≤k∧ys'.length≤i + 1∧Pv (i + 1) ys' H4) hlt p y hyl λ ys' H4 l q=>⟨k - (i + 1),by omega,Z,hlt,l,q⟩
 ·have e:i = k:=by omega
  subst e
  exact .inl ⟨hst ys H p,hd ys H hyl p⟩
theorem E4 {K:PySem.W.Frag} {a:Addr} {xs:List V} {g:TG} {tc:TT} {te:TE} {σY:St} {H:Hp} {F:Addr→List V→Hp→Prop} (Pv:Nat→List V→Hp→Prop) (h0:Pv 0 [] H) (hz:xs.length≤sizeLine) (hl:∀ i ys H,Pv i ys H→SqL K H a xs)
  (hs:∀ i x ys H (N:List V→Hp→Prop),xs[i]? = some x→Pv i ys H→(∀ ys' H',ys'.length≤i + 1→Pv (i + 1) ys' H'→N ys' H')→ys.length≤i→g x σY H λ σ2 H2=>tc σ2 H2 λ b H3=>if b = true then te σ2 H3 λ y H4=>N (ys ++ [y]) H4 else N ys H3)
  (hd:∀ ys H,ys.length≤xs.length→Pv xs.length ys H→∀ D,H D = none→F D ys H):L9 (Itl K a) g tc te σY F H :=
 I0 Pv h0 hz (λ i ys H hi p=>⟨xs,xs[i],hl i ys H p,by simp [hi]⟩) (λ ys H p=>⟨xs,hl _ ys H p,le_refl _⟩)
  (λ i x ys H H' N hi p ⟨e,y⟩ hyl k=>by subst e; exact hs i x ys _ N (y xs (hl i ys _ p)) p k hyl) hd
theorem Ky {K:PySem.W.Frag} {a:Addr} {xs:List V} {g:TG} {tc:TT} {te:TE} {σY:St} {H:Hp} {F:Addr→List V→Hp→Prop} (Pv:Nat→List V→Hp→Prop) (h0:Pv 0 [] H) (hz:xs.length≤sizeLine) (hl:∀ i ys H,Pv i ys H→SqT K H a xs)
  (hs:∀ i x ys H (N:List V→Hp→Prop),xs[i]? = some x→Pv i ys H→(∀ ys' H',ys'.length≤i + 1→Pv (i + 1) ys' H'→N ys' H')→ys.length≤i→g x σY H λ σ2 H2=>tc σ2 H2 λ b H3=>if b = true then te σ2 H3 λ y H4=>N (ys ++ [y]) H4 else N ys H3)
  (hd:∀ ys H,ys.length≤xs.length→Pv xs.length ys H→∀ D,H D = none→F D ys H):L9 (Itt K a) g tc te σY F H :=
 I0 Pv h0 hz (λ i ys H hi p=>⟨xs,xs[i],hl i ys H p,by simp [hi]⟩) (λ ys H p=>⟨xs,hl _ ys H p,le_refl _⟩)
  (λ i x ys H H' N hi p ⟨e,y⟩ hyl k=>by subst e; exact hs i x ys _ N (y xs (hl i ys _ p)) p k hyl) hd
theorem F8 {lo:Int} {n:Nat} {g:TG} {tc:TT} {te:TE} {σY:St} {H:Hp} {F:Addr→List V→Hp→Prop} (Pv:Nat→List V→Hp→Prop) (h0:Pv 0 [] H) (hz:n≤sizeLine)
  (hs:∀ i ys H (N:List V→Hp→Prop),i < n→Pv i ys H→(∀ ys' H',ys'.length≤i + 1→Pv (i + 1) ys' H'→N ys' H')→ys.length≤i→g (.int (lo + i)) σY H λ σ2 H2=>tc σ2 H2 λ b H3=>if b = true then te σ2 H3 λ y H4=>N (ys ++ [y]) H4 else N ys H3)
  (hd:∀ ys H,ys.length≤n→Pv n ys H→∀ D,H D = none→F D ys H):L9 (Itr lo n) g tc te σY F H :=
 I0 Pv h0 hz (λ i ys H hi p=>hi) (λ ys H p=>le_refl _)
  (λ i x ys H H' N hi p ⟨e,y⟩ hyl k=>by subst e y; exact hs i ys _ N hi p k hyl) hd
end L2
end
section
set_option Elab.async false
set_option linter.all false
set_option maxRecDepth 100000
namespace L2
open PySem PySem.Spec PyProof.Rows
section
variable {κ:Type} [DecidableEq κ]
def Ek (kvs:List (κ× V)) (k:κ):Option V:=(kvs.find? λ kv=>decide (kv.1 = k)).map (·.2)
def Do (kvs:List (κ× V)) (k:κ) (v:V):List (κ× V) :=
 if (kvs.any λ kv=>decide (kv.1 = k)) = true then kvs.map (λ kv=>if kv.1 = k then (kv.1,v) else kv) else kvs ++ [(k,v)]
theorem Ha {p:κ× V} {r:List (κ× V)} {k:κ} (e:p.1 = k):Ek (p :: r) k = some p.2:=by simp [Ek,find?_cons,e]
theorem E5 {p:κ× V} {r:List (κ× V)} {k:κ} (e:¬ p.1 = k):Ek (p :: r) k = Ek r k:=by simp [Ek,find?_cons,e]
theorem Sm (k:κ):∀ kvs:List (κ× V),(kvs.any λ kv=>decide (kv.1 = k)) = (Ek kvs k).isSome
 | []=>rfl
 | p :: r=>by
  rw [any_cons]
  by_cases e:p.1 = k
  ·simp only [Ha e,decide_eq_true e,Bool.true_or,Option.isSome_some]
  ·rw [E5 e,decide_eq_false e,Bool.false_or]; exact Sm k r
theorem Jy (kvs:List (κ× V)) (k:κ) (v:V):(Do kvs k v).length≤kvs.length + 1:=by
 unfold Do
 split
 ·rw [length_map]; omega
 ·rw [length_append,length_cons,List.length_nil]; omega
theorem Fo.isSome_eq {o:Option V} {u:Option Value} (r:Fo o u):o.isSome = u.isSome:=by
 cases o with
 | none=>cases u with
  | none=>rfl
  | some _=>exact (show False from r).elim
 | some _=>cases u with
  | none=>exact (show False from r).elim
  | some _=>rfl
theorem KV.val {kvs:List (κ× V)} {vs:List (κ× Value)} (r:KV kvs vs) (k:κ):Fo (Ek kvs k) (valueAt vs k):=by
 unfold KV at r
 induction r with
 | nil=>exact True.intro
 | @cons p q ps qs h t ih =>
  obtain ⟨h1,h2⟩:=h
  by_cases e:p.1 = k
  ·have e':q.1 = k:=h1.symm.trans e
   have b:valueAt (q :: qs) k = some q.2:=by simp [valueAt,find?_cons,e']
   rw [Ha e,b]; exact h2
  ·have e':¬ q.1 = k:=λ z=>e (h1.trans z)
   have b:valueAt (q :: qs) k = valueAt qs k:=by simp [valueAt,find?_cons,e']
   rw [E5 e,b]; exact ih
theorem KV.any {kvs:List (κ× V)} {vs:List (κ× Value)} (r:KV kvs vs) (k:κ):(kvs.any λ kv=>decide (kv.1 = k)) = vs.any λ kv=>decide (kv.1 = k):=by
 unfold KV at r
 induction r with
 | nil=>rfl
 | cons h t ih=>rw [any_cons,any_cons,ih,h.1]
theorem KV.repl {kvs:List (κ× V)} {vs:List (κ× Value)} (r:KV kvs vs) (k:κ) {y:V} {u:Value} (ry:Bd y u) :
  KV (kvs.map λ kv=>if kv.1 = k then (kv.1,y) else kv) (vs.map λ kv=>if kv.1 = k then (kv.1,u) else kv):=by
 unfold KV at r ⊢
 induction r with
 | nil=>exact .nil
 | @cons p q ps qs h t ih =>
  rw [map_cons,map_cons]
  refine .cons ?_ ih
  obtain ⟨h1,h2⟩:=h
  by_cases e:p.1 = k
  ·rw [if_pos e,if_pos (h1.symm.trans e)]; exact ⟨h1,ry⟩
  ·rw [if_neg e,if_neg (λ z=>e (h1.trans z))]; exact ⟨h1,h2⟩
theorem KV.put {kvs:List (κ× V)} {vs:List (κ× Value)} (r:KV kvs vs) (k:κ) {y:V} {u:Value} (ry:Bd y u):KV (Do kvs k y) (stored vs k u):=by
 unfold Do stored
 rw [r.any k]
 by_cases e:(vs.any λ kv=>decide (kv.1 = k)) = true
 ·rw [if_pos e,if_pos e]; exact r.repl k ry
 ·rw [if_neg e,if_neg e]; exact Paired.snoc r ⟨Z,ry⟩
theorem KV.length {kvs:List (κ× V)} {vs:List (κ× Value)} (r:KV kvs vs):kvs.length = vs.length:=Paired.length r
end
theorem Ma {P:Program} {w:World} {k:Key} {u:Value} (r:Bd (kV k) u):(mixKind P w).is k u = true:=by
 cases k with
 | inl i=>obtain ⟨t,e⟩:=(show ∃ t,u = Value.int i t from r); subst e; exact S5 P w i t
 | inr x=>obtain ⟨t,e⟩:=(show ∃ t,u = Value.str x t from r); subst e; exact Sx P w x t
theorem Pk {P:Program} {w:World}:∀ {ks:List Key} {us:List Value},Bb (ks.map kV) us→ItemsAre (mixKind P w) ks us
 | [],_,r=>by rw [map_nil] at r; cases r; exact .nil
 | k :: ks,_,r=>by
  rw [map_cons] at r
  cases r with
  | cons h t=>exact .cons (Ma h) (Pk t)
abbrev KT (H:Hp):List (List Key× V)→List (List Key× Addr× Value)→Prop:=Paired λ p q=>p.1 = q.1∧H q.2.1 = some (.tup (p.1.map kV))∧Bd p.2 q.2.2
theorem KT.val {H:Hp} {kvs:List (List Key× V)} {xs:List (List Key× Addr× Value)} (r:KT H kvs xs) (k:List Key):Fo (Ek kvs k) ((atKey xs k).map (·.2)):=by
 induction r with
 | nil=>exact True.intro
 | @cons p q ps qs h t ih =>
  obtain ⟨h1,_,h2⟩:=h
  by_cases e:p.1 = k
  ·have e':q.1 = k:=h1.symm.trans e
   have b:atKey (q :: qs) k = some q.2:=by simp [atKey,find?_cons,e']
   rw [Ha e,b]; exact h2
  ·have e':¬ q.1 = k:=λ z=>e (h1.trans z)
   have b:atKey (q :: qs) k = atKey qs k:=by simp [atKey,find?_cons,e']
   rw [E5 e,b]; exact ih
theorem KT.repl {H:Hp} {kvs:List (List Key× V)} {xs:List (List Key× Addr× Value)} (r:KT H kvs xs) (k:List Key) {y:V} {u:Value} (ry:Bd y u) :
  KT H (kvs.map λ kv=>if kv.1 = k then (kv.1,y) else kv) (xs.map (putAt k u)):=by
 induction r with
 | nil=>exact .nil
 | @cons p q ps qs h t ih =>
  rw [map_cons,map_cons]
  refine .cons ?_ ih
  obtain ⟨h1,h2,h3⟩:=h
  unfold putAt
  by_cases e:p.1 = k
  ·rw [if_pos e,if_pos (h1.symm.trans e)]; exact ⟨h1,h2,ry⟩
  ·rw [if_neg e,if_neg (λ z=>e (h1.trans z))]; exact ⟨h1,h2,h3⟩
theorem KT.put {H:Hp} {kvs:List (List Key× V)} {xs:List (List Key× Addr× Value)} (r:KT H kvs xs) (k:List Key) {b:Addr} {y:V} {u:Value} (hb:H b = some (.tup (k.map kV))) (ry:Bd y u) :
  KT H (Do kvs k y) (storedH xs k b u):=by
 have e:(kvs.any λ kv=>decide (kv.1 = k)) = (atKey xs k).isSome:=by
  rw [Sm,(r.val k).isSome_eq,Option.isSome_map]
 unfold Do storedH
 rw [e]
 by_cases q:(atKey xs k).isSome = true
 ·rw [if_pos q,if_pos q]; exact r.repl k ry
 ·rw [if_neg q,if_neg q]; exact Paired.snoc r ⟨Z,hb,ry⟩
theorem KT.keeps {H H':Hp} {kvs:List (List Key× V)} {xs:List (List Key× Addr× Value)} (r:KT H kvs xs) (ht:∀ b ys,H b = some (.tup ys)→H' b = some (.tup ys)):KT H' kvs xs :=
 Paired.mapP r λ _ _ z=>⟨z.1,ht _ _ z.2.1,z.2.2⟩
section
variable {P:Program} {w:World} {H:Hp} {h:Heap} {a:Addr}
theorem Aal {u:HO} (ok:HOk P w H h) (e:Rd H a u):B5 P w H h a u:=e.ok ok
theorem Kt {kvs:List (Key× V)} (ok:HOk P w H h) (e:Rd H a (.dK kvs)):kvs.length≤sizeLine∧(a == sysModules) = false∧∃ vs,KV kvs vs∧h.DictOf (mixKind P w) a vs :=
 show B5 P w H h a (.dK kvs) from Aal ok e
theorem AaZ {kvs:List (Key× V)} (ok:HOk P w H h) (e:H a = some (.dK kvs)):kvs.length≤sizeLine∧(a == sysModules) = false∧∃ vs,KV kvs vs∧h.DictOf (mixKind P w) a vs:=Kt ok (.inl e)
theorem K7 {ks:List Key} (ok:HOk P w H h) (e:H a = some (.tup (ks.map kV))):(tupleKind (mixKind P w)).is h ks a:=by
 obtain ⟨_,its,r,o,h1,h2,n,h3⟩:=(show B5 P w H h a (.tup (ks.map kV)) from ok a _ e)
 exact ⟨o,its.toArray,n,h1,h2,h3,by simpa using Pk r⟩
theorem Nk {kvs:List (List Key× V)} (ok:HOk P w H h) (e:Rd H a (.dT kvs)):kvs.length≤sizeLine∧(a == sysModules) = false ∧
  ∃ xs,KT H kvs xs∧h.DictOfH (tupleKind (mixKind P w)) a xs:=by
 obtain ⟨z,y,xs,r,o,es,ep,h1,h2,h3,h4,h5⟩:=(show B5 P w H h a (.dT kvs) from Aal ok e)
 refine ⟨z,y,xs,r,o,es,ep,h1,h2,h3,h4,λ x hx=>?_,h5⟩
 have all:∀ {l:List (List Key× V)} {m:List (List Key× Addr× Value)},KT H l m→∀ x∈m,(tupleKind (mixKind P w)).is h x.1 x.2.1:=by
  intro l m q
  induction q with
  | nil=>intro x hx; exact nomatch hx
  | @cons p q ps qs hq t ih =>
   intro x hx
   rcases mem_cons.mp hx with e | hx
   ·subst e
    exact K7 ok (by rw [← hq.1]; exact hq.2.1)
   ·exact ih x hx
 exact all r x hx
theorem AdI {kvs:List (List Key× V)} (ok:HOk P w H h) (e:H a = some (.dT kvs)):kvs.length≤sizeLine∧(a == sysModules) = false ∧
  ∃ xs,KT H kvs xs∧h.DictOfH (tupleKind (mixKind P w)) a xs:=Nk ok (.inl e)
end
def Gi (H:Hp) (a:Addr) (y:V) (r:Option V):Prop :=
 (∃ kvs k,Rd H a (.dK kvs)∧y = kV k∧r = Ek kvs k)∨∃ kvs k b,Rd H a (.dT kvs)∧y = .ref b∧H b = some (.tup (k.map kV))∧r = Ek kvs k
def R1 (H:Hp) (a:Addr) (y v:V) (H':Hp):Prop :=
 (∃ kvs k,H a = some (.dK kvs)∧y = kV k∧kvs.length < sizeLine∧H' = upd H a (.dK (Do kvs k v))) ∨
 ∃ kvs k b,H a = some (.dT kvs)∧y = .ref b∧H b = some (.tup (k.map kV))∧kvs.length < sizeLine∧H' = upd H a (.dT (Do kvs k v))
theorem Gi.k {H:Hp} {a:Addr} {kvs:List (Key× V)} {k:Key} (e:H a = some (.dK kvs)):Gi H a (kV k) (Ek kvs k):=.inl ⟨kvs,k,.inl e,Z,Z⟩
theorem R1.k {H:Hp} {a:Addr} {kvs:List (Key× V)} {k:Key} {v:V} (e:H a = some (.dK kvs)) (hl:kvs.length < sizeLine):R1 H a (kV k) v (upd H a (.dK (Do kvs k v))):=.inl ⟨kvs,k,e,Z,hl,Z⟩
section
variable {X:Cx} {pins:List (Addr× Obj)} {σ:St} {H:Hp} {s:Shared} {a:Addr} {y v:V} {u r:Value} {o:Option V} {A:Around} {E:Value→Shared→Prop}
theorem Inv.big (I:Inv X pins σ H s):sysModules < s.heap.objs.size:=by
 have h:mainGlobals < s.heap.objs.size:=(I.mod.glob.keeps I.bk).lt
 exact lt_trans (by decide) h
theorem V8 {Q:Value→Shared→Prop} (hu:A.units + 1 < cLine) (I:Inv X pins σ H s) (g:Gi H a y (some v)) (ry:Bd y u) (h:∀ w' s',Inv X pins σ H s'→Bd v w'→Q w' s') :
  wpAny (model X.prog X.w) A (getItem (.ref a) u) Q E s:=by
 rcases g with ⟨kvs,k,e,ey,l⟩ | ⟨kvs,k,b,e,ey,eb,l⟩
 ·subst ey
  obtain ⟨z,hd,vs,rel,dd⟩:=Kt I.hok e
  obtain ⟨w',hw,rw'⟩:=Fo.some_of (v:=v) (o:=valueAt vs k) (by rw [l]; exact rel.val k)
  exact wpAny_getItem_of (Ma ry) dd.mapOf hw (h w' _ (I.tok _) rw')
 ·subst ey
  cases (show u = Value.ref b from ry)
  obtain ⟨z,hd,xs,rel,dd⟩:=Nk I.hok e
  obtain ⟨w',hw,rw'⟩:=Fo.some_of (v:=v) (o:=(atKey xs k).map (·.2)) (by rw [l]; exact rel.val k)
  obtain ⟨p,hp,hp2⟩:=Option.map_eq_some_iff.mp hw
  refine wpAny_getItem_heap (tupleKind_room_in1 hu) (K7 I.hok eb) dd hp ?_
  rw [hp2]
  exact h w' _ (I.tok _) rw'
theorem Adj {Q:Value→Shared→Prop} (hu:A.units + 1 < cLine) (I:Inv X pins σ H s) (g:Gi H a y o) (ry:Bd y u) (h:∀ s',Inv X pins σ H s'→Q (.bool o.isSome) s') :
  wpAny (model X.prog X.w) A (compareOp .In u (.ref a)) Q E s:=by
 rcases g with ⟨kvs,k,e,ey,l⟩ | ⟨kvs,k,b,e,ey,eb,l⟩
 ·subst ey
  obtain ⟨z,hd,vs,rel,dd⟩:=Kt I.hok e
  refine wpAny_in_of (Ma ry) hd dd.mapOf ?_
  rw [← (rel.val k).isSome_eq,← l]
  exact h _ (I.tok _)
 ·subst ey
  cases (show u = Value.ref b from ry)
  obtain ⟨z,hd,xs,rel,dd⟩:=Nk I.hok e
  refine wpAny_in_heap (tupleKind_room_in1 hu) (K7 I.hok eb) hd dd ?_
  have q:=(rel.val k).isSome_eq
  rw [Option.isSome_map] at q
  rw [← q,← l]
  exact h _ (I.tok _)
theorem AbI {Q:Value→Shared→Prop} (hu:A.units + 1 < cLine) (I:Inv X pins σ H s) (g:Gi H a y o) (ry:Bd y u) (h:∀ s',Inv X pins σ H s'→Q (.bool (!o.isSome)) s') :
  wpAny (model X.prog X.w) A (compareOp .NotIn u (.ref a)) Q E s:=by
 rcases g with ⟨kvs,k,e,ey,l⟩ | ⟨kvs,k,b,e,ey,eb,l⟩
 ·subst ey
  obtain ⟨z,hd,vs,rel,dd⟩:=Kt I.hok e
  refine wpAny_notIn_of (Ma ry) hd dd.mapOf ?_
  rw [← (rel.val k).isSome_eq,← l]
  exact h _ (I.tok _)
 ·subst ey
  cases (show u = Value.ref b from ry)
  obtain ⟨z,hd,xs,rel,dd⟩:=Nk I.hok e
  refine wpAny_notIn_heap (tupleKind_room_in1 hu) (K7 I.hok eb) hd dd ?_
  have q:=(rel.val k).isSome_eq
  rw [Option.isSome_map] at q
  rw [← q,← l]
  exact h _ (I.tok _)
theorem O4 {h':Heap} {t':Nat} {ob:HO} (I:Inv X pins σ H s) (mu:Mut (H a)) (hs:Heap.SameBut a s.heap h') (he:∃ q,h'.get? a = some q) (new:B5 X.prog X.w (upd H a ob) h' a ob) :
  Inv X pins σ (upd H a ob) { s with heap:=h',toks:=t' } :=
 I.write (x:=a) (e:=a) mu (.inl rfl) (λ b q hb z=>(hs.2 b hb).trans z) he new
theorem X0 {P:Program} {w:World} {H':Hp} {h':Heap} {kvs:List (Key× V)} {vs:List (Key× Value)} (z:kvs.length≤sizeLine) (hd:(a == sysModules) = false) (rel:KV kvs vs) (dd:h'.DictOf (mixKind P w) a vs) :
  B5 P w H' h' a (.dK kvs):=⟨z,hd,vs,rel,dd⟩
theorem Wx {H':Hp} {Q:Unit→Shared→Prop} (hu:A.units + 1 < cLine) (I:Inv X pins σ H s) (g:R1 H a y v H') (ry:Bd y u) (rv:Bd v r) (h:∀ s',Inv X pins σ H' s'→Q () s') :
  wpAny (model X.prog X.w) A (setItem (.ref a) u r) Q E s:=by
 rcases g with ⟨kvs,k,e,ey,l,eH⟩ | ⟨kvs,k,b,e,ey,eb,l,eH⟩
 ·subst ey eH
  obtain ⟨z,hd,vs,rel,dd⟩:=AaZ I.hok e
  have hz:vs.length≤sizeLine:=by rw [← rel.length]; exact z
  have hl:(Do kvs k v).length≤sizeLine:=by have:=Jy kvs k v; omega
  refine wpAny_setItem_pairs (hsz:=hz) (Ma ry) dd λ h' dd' hs=>h _ ?_
  have he:∃ q,h'.get? a = some q:=let ⟨q,_,_,hq,_⟩:=dd'; ⟨q,hq⟩
  exact O4 I (by rw [e]; exact True.intro) hs he (X0 hl hd (rel.put k rv) dd')
 ·subst ey eH
  cases (show u = Value.ref b from ry)
  obtain ⟨z,hd,xs,rel,dd⟩:=AdI I.hok e
  have hz:xs.length≤sizeLine:=by rw [← Paired.length rel]; exact z
  have hl:(Do kvs k v).length≤sizeLine:=by have:=Jy kvs k v; omega
  refine wpAny_setItem_heap (hsz:=hz) (tupleKind_room_in1 hu) (K7 I.hok eb) dd λ h' dd' hs=>h _ ?_
  obtain ⟨q,es,ep,hq,h2,h3,h4,_,h5⟩:=dd'
  refine O4 I (by rw [e]; exact True.intro) hs ⟨q,hq⟩ ⟨hl,hd,_,(rel.put k eb rv).keeps λ c ys ec=>?_,q,es,ep,hq,h2,h3,h4,h5⟩
  rw [upd_ne (Bl ec e (λ z=>nomatch z))]
  exact ec
end
section
variable {X:Cx} {pins:List (Addr× Obj)} {σ:St} {H:Hp} {s:Shared} {a:Addr} {kvs:List (Key× V)} {k:Key} {u:Value} {A:Around} {E:Value→Shared→Prop}
end
def Ack (i:Expr):Prop:=∀ ov iv,subscripted i false ov iv = operate [ov,iv] (getItem ov iv)
theorem Aaw {prog:Program} {w:World} {A:Around} {E:Value→Shared→Prop} {s:Shared} {env:Env} {value slice:Expr} {pos:Pos} {T id:String} {Q:Value→Shared→Prop}
  (hl:typeLookup (.type T) "__getitem__" = pure (some (.builtin id))) (hs:Ack slice)
  (h:wpAny (model prog w) A (eval value env) (λ o s₁=>wpAny (model prog w) A (eval slice env) (λ i s₂=>s₂.TypeIs o T∧wpAny (model prog w) A (getItem o i) Q E s₂) E s₁) E s) :
  wpAny (model prog w) A (eval (.Subscript value slice pos) env) Q E s:=by
 refine Subscript_ (wpAny_mono h (λ o s₁ h₁=>wpAny_mono h₁ (λ i s₂ h₂=>?_) λ _ _ x=>x) λ _ _ x=>x)
 obtain ⟨hT,h₂⟩:=h₂
 unfold subscriptTail
 refine wpAny_bind ?_
 rw [getitemInPython_of_ne hT.not_modules]
 refine wpAny_bind (wpAny_specialOf hT hl ?_)
 have fin:wpAny (model prog w) A (subscripted slice false o i) (λ r s₃=>wpAny (model prog w) A (letTemporaryGo value o r >>= λ _=>pure r) Q E s₃) E s₂:=by
  rw [hs o i]
  exact wpAny_operating (wpAny_mono h₂ (λ r s₃ h₃=>wpAny_bind (wpAny_letTemporaryGo (wpAny_pure h₃))) λ _ _ x=>x)
 first
  | exact wpAny_pure (wpAny_bind fin)
  | exact wpAny_bind (wpAny_pure (wpAny_bind fin))
  | exact wpAny_bind fin
theorem Sr {X:Cx} {pins:List (Addr× Obj)} {σ:St} {H:Hp} {s:Shared} {a:Addr} {y:V} {o:Option V} (I:Inv X pins σ H s) (g:Gi H a y o):s.TypeIs (.ref a) "dict" := by
 rcases g with ⟨kvs,k,e,_,_⟩ | ⟨kvs,k,b,e,_,_,_⟩
 ·obtain ⟨_,_,vs,_,dd⟩:=Kt I.hok e
  exact dd.typeIs
 ·obtain ⟨_,_,xs,_,dd⟩:=Nk I.hok e
  exact dd.typeIs
inductive Tn (x y:V) (H2:Hp) (Q:VK):Prop
 | mk (a:Addr) (v:V) (_:x = .ref a) (_:Gi H2 a y (some v)) (_:Q v H2):Tn x y H2 Q
def Qi (td ty:TE):TE:=λ σ H Q=>td σ H λ x H1=>ty σ H1 λ y H2=>Tn x y H2 Q
def AcD (ty td:TE):TE:=λ σ H Q=>ty σ H λ y H1=>td σ H1 λ x H2=>∃ a o,x = .ref a∧Gi H2 a y o∧Q (.bl o.isSome) H2
def AbK (ty td:TE):TE:=λ σ H Q=>ty σ H λ y H1=>td σ H1 λ x H2=>∃ a o,x = .ref a∧Gi H2 a y o∧Q (.bl (!o.isSome)) H2
def AdD (td ty tv:TE):TS:=λ D σ H=>tv σ H λ v H1=>td σ H1 λ x H2=>ty σ H2 λ y H3=>∃ a H4,x = .ref a∧R1 H3 a y v H4∧D.nx σ H4
section
variable {X:Cx} {o i e value:Expr} {pos pos' tpos:Pos} {td ty tv:TE}
theorem Ml (hu:X.A.units + 1 < cLine) (ho:PE X o td) (hi:PE X i ty) (hs:Ack i):PE X (.Subscript o i pos) (Qi td ty):=by
 intro pins s σ H Q I h
 refine Aaw PySem.F.slot_dict_getitem.lookup hs (thn (ho pins s σ H _ I h) λ u s1 ⟨x,H1,I1,rx,q1⟩=>thn (hi pins s1 σ H1 _ I1 q1) λ iv s2 ⟨y,H2,I2,ry,a,v,ex,g,q2⟩=>?_)
 subst ex
 obtain rfl:u = Value.ref a:=rx
 exact ⟨Sr I2 g,V8 hu I2 g ry λ w' s3 I3 rw'=>⟨v,H2,I3,rw',q2⟩⟩
theorem Wq (hu:X.A.units + 1 < cLine) (hi:PE X i ty) (ho:PE X o td):PC X .In i o (AcD ty td):=by
 intro pins s σ H Q I h
 refine thn (hi pins s σ H _ I h) λ iv s1 ⟨y,H1,I1,ry,q1⟩=>thn (ho pins s1 σ H1 _ I1 q1) λ u s2 ⟨x,H2,I2,rx,a,ov,ex,g,q2⟩=>?_
 subst ex
 obtain rfl:u = Value.ref a:=rx
 exact Adj hu I2 g ry λ s3 I3=>⟨.bl ov.isSome,H2,I3,Z,q2⟩
theorem Pb (hu:X.A.units + 1 < cLine) (hi:PE X i ty) (ho:PE X o td):PC X .NotIn i o (AbK ty td):=by
 intro pins s σ H Q I h
 refine thn (hi pins s σ H _ I h) λ iv s1 ⟨y,H1,I1,ry,q1⟩=>thn (ho pins s1 σ H1 _ I1 q1) λ u s2 ⟨x,H2,I2,rx,a,ov,ex,g,q2⟩=>?_
 subst ex
 obtain rfl:u = Value.ref a:=rx
 exact AbI hu I2 g ry λ s3 I3=>⟨.bl (!ov.isSome),H2,I3,Z,q2⟩
theorem L6 (hu:X.A.units + 1 < cLine) (ho:PE X o td) (hi:PE X i ty) (hv:PE X value tv) (hs:swapsWith value (some (.Subscript o i pos')) pos.line X.env = pure false) :
  PS X (.Assign [.Subscript o i pos'] value pos) (AdD td ty tv):=by
 intro pins s σ H D I h
 refine wpAny_Assign_Subscript (thn (hv pins s σ H _ I h) λ r s1 ⟨v,H1,I1,rv,q1⟩=>thn (ho pins s1 σ H1 _ I1 q1) λ u s2 ⟨x,H2,I2,rx,q2⟩=>thn (hi pins s2 σ H2 _ I2 q2) λ iv s3 ⟨y,H3,I3,ry,a,H4,ex,g,q3⟩=>?_) hs
 subst ex
 obtain rfl:u = Value.ref a:=rx
 exact Wx hu I3 g ry rv λ s4 I4=>⟨σ,H4,I4,q3⟩
end
theorem Sc {P:Program} {w:World} {H:Hp} (h:Heap) (hb:sysModules < h.objs.size):B5 P w H (h.push { cls:=.type "dict", data:=.dict #[] }) h.objs.size (.dK []) :=
 ⟨zero_le _,beq_eq_false_iff_ne.mpr (Ne.symm (ne_of_lt hb)),[],.nil,Heap.DictOf.new h⟩
def Ab7:TE:=λ _ H Q=>∀ p,H p = none→Q (.ref p) (upd H p (.dK []))
section
variable {X:Cx} {pos:Pos}
theorem Je:PE X (.Dict [] [] pos) Ab7:=λ pins s σ H Q I h =>
 wpAny_Dict_empty ⟨.ref s.heap.objs.size,_,I.laid (a:=s.heap.objs.size) (o:=.dK []) (t':=s.toks) (λ _ _ q=>Heap.get?_push_of_some _ q) (le_refl _) (Sc s.heap I.big),Z,h _ (I.hok.fresh (le_refl _))⟩
end
def R6:List (TE× TE)→St→Hp→(List (V× V)→Hp→Prop)→Prop
 | [],_,H,Q=>Q [] H
 | (tk,tv) :: r,σ,H,Q=>tk σ H λ x H1=>tv σ H1 λ y H2=>R6 r σ H2 λ ps H3=>Q ((x,y) :: ps) H3
abbrev VV:List (V× V)→List (Value× Value)→Prop:=Paired λ p q=>Bd p.1 q.1∧Bd p.2 q.2
def PPs (X:Cx) (pos:Pos) (keys:List (Option Expr)) (values:List Expr) (trs:List (TE× TE)):Prop :=
 ∀ (pins:List (Addr× Obj)) (s:Shared) (σ:St) (H:Hp) (Q:List (V× V)→Hp→Prop),Inv X pins σ H s→R6 trs σ H Q →
  wpAny (model X.prog X.w) X.A (evalPairs (pairTrees keys values X.env pos)) (λ vs s'=>∃ ps H',Inv X pins σ H' s'∧VV ps vs∧Q ps H') X.xe s
theorem Tw {X:Cx} {pos:Pos}:PPs X pos [] [] []:=λ pins s σ H Q I h=>pairTrees_nil_walk ⟨[],H,I,.nil,h⟩
theorem Mt {X:Cx} {pos:Pos} {k v:Expr} {ks:List (Option Expr)} {vs:List Expr} {tk tv:TE} {trs:List (TE× TE)} (hk:PE X k tk) (hv:PE X v tv) (hr:PPs X pos ks vs trs) :
  PPs X pos (some k :: ks) (v :: vs) ((tk,tv) :: trs):=λ pins s σ H Q I h =>
 pairTrees_cons_walk (thn (hk pins s σ H _ I h) λ u s1 ⟨x,H1,I1,rx,q1⟩=>thn (hv pins s1 σ H1 _ I1 q1) λ w2 s2 ⟨y,H2,I2,ry,q2⟩ =>
  thn (hr pins s2 σ H2 _ I2 q2) λ ws s3 ⟨ps,H3,I3,rel,q3⟩=>⟨(x,y) :: ps,H3,I3,.cons ⟨rx,ry⟩ rel,q3⟩)
def Du (kvs more:List (Key× V)):List (Key× V):=more.foldl (λ acc kv=>Do acc kv.1 kv.2) kvs
theorem KV.merge:∀ {more:List (Key× V)} {rs:List (Key× Value)} {kvs:List (Key× V)} {vs:List (Key× Value)},KV more rs→KV kvs vs→KV (Du kvs more) (merged vs rs):=by
 intro more rs kvs vs r
 unfold KV at r
 induction r generalizing kvs vs with
 | nil=>intro q; exact q
 | @cons p q ps qs h t ih =>
  intro r0
  have e:KV (Do kvs p.1 p.2) (stored vs q.1 q.2):=by
   have:=r0.put p.1 h.2
   rw [← h.1]; exact this
  exact ih e
theorem K5:∀ (more kvs:List (Key× V)),(Du kvs more).length≤kvs.length + more.length
 | [],kvs=>by show kvs.length≤kvs.length + 0; omega
 | p :: r,kvs=>by
  have h1:=K5 r (Do kvs p.1 p.2)
  have h2:=Jy kvs p.1 p.2
  show (Du (Do kvs p.1 p.2) r).length≤_
  rw [length_cons]; omega
theorem N0 {P:Program} {w:World}:∀ {kvs:List (Key× V)} {ws:List (Value× Value)},VV (kvs.map λ kv=>(kV kv.1,kv.2)) ws→∃ rs,Carries (mixKind P w) ws rs∧KV kvs rs
 | [],_,r=>by rw [map_nil] at r; cases r; exact ⟨[],True.intro,.nil⟩
 | p :: kvs,_,r=>by
  rw [map_cons] at r
  cases r with
  | @cons a b as bs h t =>
   obtain ⟨rs,c,q⟩:=N0 (P:=P) (w:=w) t
   obtain ⟨b1,b2⟩:=b
   exact ⟨(p.1,b2) :: rs,⟨Ma h.1,Z,c⟩,.cons ⟨Z,h.2⟩ q⟩
def AdH (trs:List (TE× TE)):TE:=λ σ H Q=>∀ p,H p = none→R6 trs σ (upd H p (.dK [])) λ ps H2=>H2 p = some (.dK [])∧∃ kvs:List (Key× V),ps = kvs.map (λ kv=>(kV kv.1,kv.2))∧kvs.length≤15∧Q (.ref p) (upd H2 p (.dK (Du [] kvs)))
theorem S9 {X:Cx} {pos:Pos} {keys:List (Option Expr)} {values:List Expr} {trs:List (TE× TE)} (h:PPs X pos keys values trs) (hall:keys.all (·.isSome) = true) (hl:keys.length = values.length) (h0:keys≠[])
  (h15:keys.length≤15):PE X (.Dict keys values pos) (AdH trs):=by
 intro pins s σ H Q I q
 have hn:=I.hok.fresh (le_refl s.heap.objs.size)
 have I1:=I.laid (a:=s.heap.objs.size) (o:=.dK []) (h':=s.heap.push { cls:=.type "dict", data:=.dict #[] }) (t':=s.toks) (λ _ _ q=>Heap.get?_push_of_some _ q) (le_refl _) (Sc s.heap I.big)
 refine wpAny_Dict_walk (knd:=mixKind X.prog X.w) hall hl h0 h15 (thn (h pins _ σ _ _ I1 (q _ hn)) λ ws s2 ⟨ps,H2,I2,rel,e,kvs,ep,lk,q2⟩=>?_)
 subst ep
 obtain ⟨rs,c,rk⟩:=N0 (P:=X.prog) (w:=X.w) rel
 obtain ⟨z,hd,vs0,r0,dd⟩:=AaZ I2.hok e
 cases r0
 refine ⟨rs,c,dd,λ h' dd' hs=>⟨.ref s.heap.objs.size,_,?_,Z,q2⟩⟩
 have hz:(Du [] kvs).length≤sizeLine:=by
  have h1:=K5 kvs []
  rw [List.length_nil] at h1
  rw [sizeLine_eq]; omega
 have he:∃ q,h'.get? s.heap.objs.size = some q:=let ⟨q,_,_,hq,_⟩:=dd'; ⟨q,hq⟩
 exact O4 I2 (by rw [e]; exact True.intro) hs he (X0 hz hd (rk.merge .nil) dd')
section
variable {X:Cx} {pins:List (Addr× Obj)} {σ:St} {H:Hp} {s:Shared} {a:Addr} {y d:V} {u r:Value} {o:Option V} {A:Around} {E:Value→Shared→Prop}
end
section
variable {X:Cx} {o e f:Expr} {apos cpos:Pos} {td ty tx:TE}
end
section
variable {X:Cx} {pins:List (Addr× Obj)} {σ:St} {H:Hp} {s:Shared} {a:Addr} {kvs:List (Key× V)} {A:Around} {E:Value→Shared→Prop}
end
section
variable {X:Cx} {pins:List (Addr× Obj)} {σ:St} {H:Hp} {s:Shared} {a:Addr} {y:V} {u:Value} {A:Around} {E:Value→Shared→Prop}
end
end L2
namespace L2
open PySem PySem.Spec PyProof.Rows
section
variable {X:Cx}
end
end L2
namespace L2
open PySem PySem.Spec PyProof.Rows
section
variable {κ:Type} [DecidableEq κ]
end
end L2
end
section
set_option Elab.async false
set_option linter.all false
set_option maxRecDepth 100000
set_option maxHeartbeats 64000000
namespace L2
open PySem PySem.Spec PyProof.Rows
def Ach (K:PySem.W.Frag) (a:Addr) (vs:List V):Prop:=∃ (o:Obj) (its:Array Value) (n:Nat),K.lookup a = some o∧o.cls = .type "tuple" ∧ o.data = .seq its n∧its.size≤sizeLine∧Bb vs its.toList
def Fi (K:PySem.W.Frag) (H:Hp) (a:Addr) (vs:List V):Prop:=H a = some (.tup vs)∨Ach K a vs
theorem Fi.mono {K:PySem.W.Frag} {H H':Hp} (T:Tp H H') {a:Addr} {vs:List V} (h:Fi K H a vs):Fi K H' a vs:=h.elim (λ z=>.inl (T a vs z)) .inr
theorem Fi.sq {K:PySem.W.Frag} {H:Hp} {a:Addr} {vs:List V} (h:Fi K H a vs):SqT K H a vs:=h.elim SqT.of .inr
mutual
def PAt (K:PySem.W.Frag) (H:Hp):Nd→V→Prop
 | .s x,v=>v = .str x
 | .i n,v=>v = .int n
 | .t xs,v=>∃ a vs,v = .ref a∧Fi K H a vs∧Bk K H xs vs
def Bk (K:PySem.W.Frag) (H:Hp):List Nd→List V→Prop
 | [],vs=>vs = []
 | x :: xs,vs=>∃ v r,vs = v :: r∧PAt K H x v∧Bk K H xs r
end
mutual
theorem PAt.mono {K:PySem.W.Frag} {H H':Hp} (T:Tp H H'):∀ {n:Nd} {v:V},PAt K H n v→PAt K H' n v
 | .s x,v,h=>h
 | .i n,v,h=>h
 | .t xs,v,h=>by
  obtain ⟨a,vs,e,q,r⟩:=h
  exact ⟨a,vs,e,q.mono T,Bk.mono T r⟩
theorem Bk.mono {K:PySem.W.Frag} {H H':Hp} (T:Tp H H'):∀ {xs:List Nd} {vs:List V},Bk K H xs vs→Bk K H' xs vs
 | [],vs,h=>h
 | x :: xs,vs,h=>by
  obtain ⟨v,r,e,q,l⟩:=h
  exact ⟨v,r,e,PAt.mono T q,Bk.mono T l⟩
end
theorem Bk.nil {K:PySem.W.Frag} {H:Hp}:Bk K H [] []:=by unfold Bk; rfl
theorem Bk.cons {K:PySem.W.Frag} {H:Hp} {x:Nd} {xs:List Nd} {v:V} {r:List V} (a:PAt K H x v) (l:Bk K H xs r):Bk K H (x :: xs) (v :: r):=by unfold Bk; exact ⟨v,r,Z,a,l⟩
theorem PAt.s {K:PySem.W.Frag} {H:Hp} {x:Str}:PAt K H (.s x) (.str x):=by unfold PAt; rfl
theorem PAt.i {K:PySem.W.Frag} {H:Hp} {x:Int}:PAt K H (.i x) (.int x):=by unfold PAt; rfl
theorem PAt.t {K:PySem.W.Frag} {H:Hp} {a:Addr} {xs:List Nd} {vs:List V} (h:Fi K H a vs) (l:Bk K H xs vs):PAt K H (.t xs) (.ref a):=by unfold PAt; exact ⟨a,vs,Z,h,l⟩
theorem PAt.get {K:PySem.W.Frag} {H:Hp} {xs:List Nd} {v:V} (h:PAt K H (.t xs) v):∃ a vs,v = .ref a∧Fi K H a vs∧Bk K H xs vs:=by unfold PAt at h; exact h
theorem PAt.str {K:PySem.W.Frag} {H:Hp} {x:Str} {v:V} (h:PAt K H (.s x) v):v = .str x:=by unfold PAt at h; exact h
theorem PAt.int {K:PySem.W.Frag} {H:Hp} {x:Int} {v:V} (h:PAt K H (.i x) v):v = .int x:=by unfold PAt at h; exact h
theorem Bk.len {K:PySem.W.Frag} {H:Hp}:∀ {xs:List Nd} {vs:List V},Bk K H xs vs→xs.length = vs.length
 | [],vs,h=>by unfold Bk at h; subst h; rfl
 | x :: xs,vs,h=>by
  unfold Bk at h
  obtain ⟨v,r,rfl,q,l⟩:=h
  simp [Bk.len l]
theorem Bk.append {K:PySem.W.Frag} {H:Hp}:∀ {xs ys:List Nd} {vs ws:List V},Bk K H xs vs→Bk K H ys ws→Bk K H (xs ++ ys) (vs ++ ws)
 | [],ys,vs,ws,h,l=>by unfold Bk at h; subst h; exact l
 | x :: xs,ys,vs,ws,h,l=>by
  unfold Bk at h
  obtain ⟨v,r,rfl,q,l'⟩:=h
  exact .cons q (Bk.append l' l)
theorem Bk.at {K:PySem.W.Frag} {H:Hp}:∀ {xs:List Nd} {vs:List V} {i:Nat} {v:V},Bk K H xs vs→vs[i]? = some v→∃ x,xs[i]? = some x∧PAt K H x v
 | [],vs,i,v,h,e=>by unfold Bk at h; subst h; simp at e
 | x :: xs,vs,i,v,h,e=>by
  unfold Bk at h
  obtain ⟨w,r,rfl,q,l⟩:=h
  cases i with
  | zero=>simp at e; subst e; exact ⟨x,rfl,q⟩
  | succ i =>
   obtain ⟨y,e',q'⟩:=Bk.at (i:=i) l (by simpa using e)
   exact ⟨y,by simpa using e',q'⟩
theorem Bk.split {K:PySem.W.Frag} {H:Hp}:∀ {xs ys:List Nd} {vs:List V},Bk K H (xs ++ ys) vs→∃ us ws,vs = us ++ ws∧Bk K H xs us∧Bk K H ys ws
 | [],ys,vs,h=>⟨[],vs,rfl,.nil,h⟩
 | x :: xs,ys,vs,h=>by
  have h:Bk K H (x :: (xs ++ ys)) vs:=h
  unfold Bk at h
  obtain ⟨v,r,rfl,q,l⟩:=h
  obtain ⟨us,ws,rfl,a,b⟩:=Bk.split l
  exact ⟨v :: us,ws,Z,.cons q a,b⟩
theorem Bk.one {K:PySem.W.Frag} {H:Hp} {x:Nd} {vs:List V} (h:Bk K H [x] vs):∃ v,vs = [v]∧PAt K H x v:=by
 unfold Bk at h
 obtain ⟨v,r,rfl,q,l⟩:=h
 unfold Bk at l
 subst l
 exact ⟨v,Z,q⟩
theorem Bk.two {K:PySem.W.Frag} {H:Hp} {x y:Nd} {vs:List V} (h:Bk K H [x,y] vs):∃ v w,vs = [v,w]∧PAt K H x v∧PAt K H y w:=by
 unfold Bk at h
 obtain ⟨v,r,rfl,q,l⟩:=h
 obtain ⟨w,rfl,q'⟩:=l.one
 exact ⟨v,w,Z,q,q'⟩
def TyK (K:PySem.W.Frag) (H:Hp) (x:V) (t:Value):Prop:=G5 K H x t∨∃ a vs,x = .ref a∧Ach K a vs∧t = .type "tuple"
theorem Xi {K:PySem.W.Frag} {H:Hp} {n:Nd} {v:V} (h:PAt K H n v):∃ t,TyK K H v t∧kitOne K t (.type "tuple") = some (isT n):=by
 cases n with
 | s x=>cases h.str; exact ⟨_,.inl (.str x),rfl⟩
 | i x=>cases h.int; exact ⟨_,.inl (.int x),rfl⟩
 | t xs =>
  obtain ⟨a,vs,rfl,q,_⟩:=h.get
  rcases q with q | q
  ·exact ⟨_,.inl (.tup q),Z⟩
  ·exact ⟨_,.inr ⟨a,vs,Z,q,Z⟩,Z⟩
inductive Ty (K:PySem.W.Frag) (xs:List V) (H:Hp) (Q:VK):Prop
 | mk (x:V) (T:String) (t:Value) (b:Bool) (_:xs = [x,.ty T]) (_:TyK K H x t) (_:kitOne K t (.type T) = some b) (_:Q (.bl b) H):Ty K xs H Q
def Ig (K:PySem.W.Frag):List V→Hp→VK→Prop:=λ xs H Q=>Ty K xs H Q
section
variable {X:Cx}
theorem Bs:Fy X (.builtin "isinstance") (Ig X.K):=by
 intro pins s σ H xs us Q I r h
 obtain ⟨x,T,t,b,rfl,ty,e,q⟩:=h
 obtain ⟨u,v,rfl,ru,rv⟩:=r.two
 cases rv
 rcases ty with ty | ⟨a,vs,rfl,⟨o,its,n,lk,hc,hd,hz,rr⟩,rfl⟩
 ·exact Wj I ru ty e λ tk=>⟨.bl b,H,I.tok _,Z,q⟩
 ·cases ru
  exact kia_one kitx_tuple I.kIn ⟨o,I.kIn _ _ lk,hc⟩ e (λ z=>nomatch z) λ tk=>⟨.bl b,H,I.tok _,Z,q⟩
end
def Bf (P:Program) (w:World) (K:PySem.W.Frag) (mg:Str→Option Value) (base:Heap) (k:Nat) (C:Addr) (m:Str) (ps:List Str) (sp:Sp):Prop :=
 ∃ f fd,Cj P w K mg base CX0 k f fd ps sp∧B7 K fd ps []∧Hz K C m f∧Cls K C
section
variable {X:Cx} {o e:Expr} {es:List Expr} {m:Str} {apos pos:Pos} {k j:Nat} {ps:List Str} {sp:Sp} {E:XK} {C:Addr} {ta:TE} {t:TA}
theorem Hu {pl:Sem Bool} (M:Bf X.prog X.w X.K X.mg X.base j C m ps sp) (hr:Ct k X.A) (hx:Fr CX0 X E) (he:PE X o ta) (hj:j≤k:=by first | decide | omega)
  (ht:eval (.Call (.Attribute o m apos) [] [] pos) X.env = (do
   let ov ← eval o X.env
   standAt apos.atName
   let (f,first) ← holding [ov] (getMethod ov m pl)
   callWith pos f first (backTo pos (starEach [] X.env)) (backToKw pos (keywordEach [] X.env))):=by rfl):PE X (.Call (.Attribute o m apos) [] [] pos) (Ny C m sp [] E ta Dp):=by
 obtain ⟨f,fd,F,b,me,c⟩:=M
 exact Z1 he c me (F.mono hj) hr b .nil hx ht
end
def Kp (r:Addr) (H H':Hp):Prop:=∀ b o,b≠r→H b = some o→H' b = some o
theorem Kp.trans {r:Addr} {H H1 H2:Hp} (a:Kp r H H1) (b:Kp r H1 H2):Kp r H H2:=λ c o h e=>b c o h (a c o h e)
theorem Same.kp {r:Addr} {H H':Hp} (g:Same H H'):Kp r H H':=λ b o _ e=>g b o e
theorem Kp.upd {r:Addr} {H:Hp} {o:HO}:Kp r H (L2.upd H r o):=λ b u h e=>by rw [upd_ne h]; exact e
theorem Same.byKp {r:Addr} {H H1 H2:Hp} (g:Same H H1) (h:H r = none) (k:Kp r H1 H2):Same H H2:=λ b o e=>k b o (A9 e h) (g b o e)
theorem Ac6 {x y:Str} {A B:Prop} (h:¬ x = y) (hB:B):if decide (V.str x = V.str y) = true then A else B:=by
 rw [decide_eq_false λ z=>h (V.str.inj z),if_neg Bool.false_ne_true]; exact hB
theorem Acv {x:Str} {A B:Prop} (hA:A):if decide (V.str x = V.str x) = true then A else B:=by
 rw [decide_eq_true rfl,if_pos rfl]; exact hA
theorem Bk.three {K:PySem.W.Frag} {H:Hp} {x y z:Nd} {vs:List V} (h:Bk K H [x,y,z] vs):∃ v w u,vs = [v,w,u]∧PAt K H x v∧PAt K H y w∧PAt K H z u:=by
 unfold Bk at h
 obtain ⟨v,r,rfl,q,l⟩:=h
 obtain ⟨w,u,rfl,q',q''⟩:=l.two
 exact ⟨v,w,u,Z,q,q',q''⟩
theorem Bk.four {K:PySem.W.Frag} {H:Hp} {x y z z':Nd} {vs:List V} (h:Bk K H [x,y,z,z'] vs):∃ v w u u',vs = [v,w,u,u']∧PAt K H x v∧PAt K H y w∧PAt K H z u∧PAt K H z' u':=by
 unfold Bk at h
 obtain ⟨v,r,rfl,q,l⟩:=h
 obtain ⟨w,u,u',rfl,q',q'',q3⟩:=l.three
 exact ⟨v,w,u,u',Z,q,q',q'',q3⟩
section
variable {X:Cx}
end
section
variable {X:Cx}
end
def Fp (xs:Array Nat):Prop:=xs.toList.Pairwise (· < ·)
structure D9 (led:Bool) (t:SetTable):Prop where
 led:t.led = led
 dum:t.dummies = #[]
 rise:Fp t.place
theorem Fp.lt {xs:Array Nat} (h:Fp xs) {i j:Nat} (hj:j < xs.size) (hij:i < j):xs[i]'(by omega) < xs[j]:=by
 have z:=List.pairwise_iff_getElem.mp h i j (by simp; omega) (by simpa using hj) hij
 simpa using z
theorem AaT {xs:Array Nat} {j:Nat} (h:Fp xs):∀ (fuel lo hi:Nat),lo≤hi→hi≤xs.size→hi - lo≤fuel→(∀ i (q:i < xs.size),i < lo→xs[i] < j)→(∀ i (q:i < xs.size),hi≤i→j≤xs[i]) →
  SetTable.below.go xs j fuel lo hi≤xs.size∧(∀ i (q:i < xs.size),i < SetTable.below.go xs j fuel lo hi→xs[i] < j)∧(∀ i (q:i < xs.size),SetTable.below.go xs j fuel lo hi≤i→j≤xs[i]):=by
 intro fuel
 induction fuel with
 | zero =>
  intro lo hi h1 h2 h3 h4 h5
  have e:lo = hi:=by omega
  subst e
  unfold SetTable.below.go
  exact ⟨h2,h4,h5⟩
 | succ fuel ih =>
  intro lo hi h1 h2 h3 h4 h5
  unfold SetTable.below.go
  by_cases c:lo < hi
  ·rw [if_pos c]
   dsimp only
   have hm:(lo + hi) / 2 < xs.size:=by omega
   have eg:xs.getD ((lo + hi) / 2) j = xs[(lo + hi) / 2]:=by simp [Array.getD,hm]
   by_cases d:xs.getD ((lo + hi) / 2) j < j
   ·rw [if_pos d]
    rw [eg] at d
    refine ih _ _ (by omega) h2 (by omega) (λ i hi' hl=>?_) h5
    rcases lt_or_ge i ((lo + hi) / 2) with z | z
    ·exact lt_trans (h.lt hm z) d
    ·have:i = (lo + hi) / 2:=by omega
     subst this
     exact d
   ·rw [if_neg d]
    rw [eg] at d
    refine ih _ _ (by omega) (by omega) (by omega) h4 (λ i hi' hl=>?_)
    rcases lt_or_ge ((lo + hi) / 2) i with z | z
    ·have:=h.lt hi' z; omega
    ·have:i = (lo + hi) / 2:=by omega
     subst this
     omega
  ·rw [if_neg c]
   have e:lo = hi:=by omega
   subst e
   exact ⟨h2,h4,h5⟩
theorem Mu {xs:Array Nat} (h:Fp xs) (j:Nat):SetTable.below xs j≤xs.size∧(∀ i (hi:i < xs.size),i < SetTable.below xs j→xs[i] < j)∧(∀ i (hi':i < xs.size),SetTable.below xs j≤i→j≤xs[i]) :=
 AaT h xs.size 0 xs.size (zero_le _) (le_refl _) (by omega) (λ _ _ z=>by omega) (λ i hi z=>by omega)
theorem Ve {xs:Array Nat} (h:Fp xs) {i:Nat} (hi:i < xs.size):SetTable.below xs (xs[i] + 1) = i + 1:=by
 obtain ⟨h1,h2,h3⟩:=Mu h (xs[i] + 1)
 rcases Nat.lt_trichotomy (SetTable.below xs (xs[i] + 1)) (i + 1) with z | z | z
 ·have:=h3 i hi (by omega); omega
 ·exact z
 ·have a:=h2 (i + 1) (by omega) (by omega)
  have b:=h.lt (i:=i) (j:=i + 1) (by omega) (by omega)
  omega
theorem U7 {xs:Array Nat} (h:Fp xs):SetTable.below xs 0 = 0:=by
 obtain ⟨h1,h2,h3⟩:=Mu h 0
 rcases Nat.eq_zero_or_pos (SetTable.below xs 0) with z | z
 ·exact z
 ·have:=h2 0 (by omega) z; omega
theorem Uu (n:Nat):Fp (Array.range n):=by
 unfold Fp
 rw [Array.toList_range]
 exact List.pairwise_lt_range
theorem Z0 {xs:Array Nat} {j:Nat} (h:Fp xs) (hn:xs[SetTable.below xs j]?≠some j):Fp (SetTable.insertAt xs (SetTable.below xs j) j):=by
 obtain ⟨h1,h2,h3⟩:=Mu h j
 unfold Fp
 rw [SetTable.toList_insertAt,List.pairwise_append]
 refine ⟨Pairwise.sublist (List.take_sublist _ _) h,?_,?_⟩
 ·rw [pairwise_cons]
  refine ⟨λ y hy=>?_,Pairwise.sublist (List.drop_sublist _ _) h⟩
  obtain ⟨i,hi,rfl⟩:=List.mem_iff_getElem.mp hy
  rw [length_drop,Array.length_toList] at hi
  rw [List.getElem_drop,Array.getElem_toList]
  have a:=h3 (SetTable.below xs j + i) (by omega) (by omega)
  rcases Nat.eq_zero_or_pos i with z | z
  ·subst z
   rcases lt_or_ge j (xs[SetTable.below xs j + 0]'(by omega)) with y | y
   ·exact y
   ·exact absurd (by rw [Array.getElem?_eq_getElem (by omega)]; congr 1; simp at a y ⊢; omega) hn
  ·have b:=h3 (SetTable.below xs j) (by omega) (le_refl _)
   have c:=h.lt (i:=SetTable.below xs j) (j:=SetTable.below xs j + i) (by omega) (by omega)
   omega
 ·intro a ha b hb
  obtain ⟨i,hi,rfl⟩:=List.mem_iff_getElem.mp ha
  rw [length_take,Array.length_toList] at hi
  rw [List.getElem_take,Array.getElem_toList]
  have q:=h2 i (by omega) (by omega)
  rcases mem_cons.mp hb with z | z
  ·omega
  ·obtain ⟨l,hl,rfl⟩:=List.mem_iff_getElem.mp z
   rw [length_drop,Array.length_toList] at hl
   rw [List.getElem_drop,Array.getElem_toList]
   have:=h3 (SetTable.below xs j + l) (by omega) (by omega)
   omega
theorem P0 (j:Nat):SetTable.has #[] j = false:=by
 unfold SetTable.has
 simp
theorem Za {t:SetTable} {f:Nat→Int} {h:Int} (hd:t.dummies = #[]):∀ (fuel:Nat) (p:SetTable.Probe) (j:Nat) (d:Option Nat),p.dummy = none→SetTable.probe.go t f h fuel p = some (.empty j d)→d = none∧t.place[SetTable.below t.place j]?≠some j:=by
 intro fuel
 induction fuel with
 | zero=>intro p j d _ e; unfold SetTable.probe.go at e; cases e
 | succ fuel ih =>
  intro p j d hp e
  unfold SetTable.probe.go at e
  have hs:t.slot p.j = (if t.place[SetTable.below t.place p.j]? == some p.j then SetTable.Slot.live (SetTable.below t.place p.j) else SetTable.Slot.empty):=by
   unfold SetTable.slot
   dsimp only
   rw [hd,P0]
   rfl
  rw [hs] at e
  have adv:(t.advance p).dummy = none:=by
   unfold SetTable.advance
   split
   ·exact hp
   ·exact hp
  by_cases c:(t.place[SetTable.below t.place p.j]? == some p.j) = true
  ·rw [if_pos c] at e
   dsimp only at e
   split at e
   ·cases e
   ·exact ih _ _ _ adv e
  ·rw [if_neg c] at e
   dsimp only at e
   cases e
   exact ⟨hp,λ z=>c (by rw [z]; simp)⟩
theorem AbM {t:SetTable} {h:Int} {j:Nat} {b:Bool} (hd:t.dummies = #[]) (e:t.freeSlot h = some (j,b)):t.place[SetTable.below t.place j]?≠some j:=by
 unfold SetTable.freeSlot SetTable.probe at e
 split at e
 ·rename_i j' d hq
  obtain ⟨rfl,z⟩:=Za hd _ _ _ _ rfl hq
  cases e
  exact z
 ·cases e
theorem D9.standIn {led:Bool} {t:SetTable} (h:D9 led t) (n:Nat):D9 led (t.standIn n):=⟨h.led,Z,Uu n⟩
theorem D9.plainOff {led:Bool} {t:SetTable} (h:D9 led t):D9 led { t with plain:=false }:=⟨h.led,h.dum,h.rise⟩
theorem D9.layNew {led:Bool} {t:SetTable} (h:D9 led t) (es:Array (Int× Value)) (k:Int) (x:Value):D9 led (layNew t es k x).2.1:=by
 unfold PySem.layNew
 split
 ·rename_i j b e
  dsimp only
  have z:=AbM h.dum e
  have q:D9 led (t.put j).1:=by
   unfold SetTable.put
   refine ⟨h.led,?_,Z0 h.rise z⟩
   dsimp only
   rw [h.dum,P0]
   rfl
  unfold SetTable.orStandIn
  split
  ·exact q
  ·exact q.standIn _
 ·exact h.standIn _
theorem We (owner:Array (Option Nat)) (m:Nat):Fp (((List.range m).filterMap λ j=>(owner.getD j none).map (j,·)).map (·.1)).toArray:=by
 unfold Fp
 have e:((List.range m).filterMap λ j=>(owner.getD j none).map (j,·)).map (·.1) = (List.range m).filter λ j=>(owner.getD j none).isSome:=by
  induction List.range m with
  | nil=>rfl
  | cons a l ih =>
   rw [filterMap_cons,filter_cons]
   cases q:owner.getD a none with
   | none=>simpa [q] using ih
   | some y=>simpa [q] using ih
 simp only [e]
 exact Pairwise.sublist List.filter_sublist List.pairwise_lt_range
theorem D9.relay {led:Bool} {t:SetTable} (h:D9 led t) (es:Array (Int× Value)) (n:Nat):D9 led (relayAll t es n).2.1:=by
 unfold relayAll
 split
 ·rename_i t' order e
  dsimp only
  split
  ·unfold SetTable.relaid SetTable.laid at e
   simp only [Option.bind_eq_bind,Option.bind_eq_some_iff] at e
   obtain ⟨owner,_,e2⟩:=e
   cases e2
   exact ⟨h.led,Z,We owner _⟩
  ·exact h.standIn _
 ·exact h.standIn _
theorem K0 {α:Type}:∀ (l:List α) (i:Nat) (h:i < l.length),(l[i] :: l.eraseIdx i).Perm l
 | [],i,h=>by simp at h
 | a :: l,0,h=>by simp
 | a :: l,i + 1,h=>by
  have hi:i < l.length:=by simpa using h
  have:=K0 l i hi
  simp only [List.getElem_cons_succ,List.eraseIdx_cons_succ]
  exact (List.Perm.swap _ _ _).trans (this.cons a)
theorem Aas {α:Type} (next:Nat→Nat):∀ (fuel k:Nat) (left:List α) (out:Array α),left.length = fuel→(pickOrder.go next fuel k left out).toList.Perm (out.toList ++ left):=by
 intro fuel
 induction fuel with
 | zero =>
  intro k left out hl
  rw [length_eq_zero_iff.mp hl]
  unfold pickOrder.go
  simp
 | succ fuel ih =>
  intro k left out hl
  have hi:next k % left.length < left.length:=mod_lt _ (by omega)
  unfold pickOrder.go
  rw [getElem?_eq_getElem hi]
  dsimp only
  refine (ih _ _ _ (by rw [List.length_eraseIdx_of_lt hi]; omega)).trans ?_
  rw [Array.toList_push,append_assoc]
  refine List.Perm.append_left _ ?_
  exact K0 _ _ hi
theorem Lw {α:Type} (next:Nat→Nat) (xs:Array α):(pickOrder next xs).toList.Perm xs.toList:=by
 have:=Aas next xs.size 0 xs.toList #[] (by simp)
 unfold pickOrder
 simpa using this
theorem AbE {M:Model} {A:Around} {E:Value→Shared→Prop} {α:Type}:∀ (n:Nat) (xs:List α) (s:Shared) (Q:List α→Shared→Prop),xs.length = n →
  (∀ ys d,List.Perm ys xs→Q ys { s with drawn:=d })→wpAny M A (drawOrder n xs) Q E s:=by
 intro n
 induction n with
 | zero =>
  intro xs s Q hl h
  unfold drawOrder
  have e:xs = []:=length_eq_zero_iff.mp hl
  subst e
  exact wpAny_pure (h [] s.drawn .nil)
 | succ n ih =>
  intro xs s Q hl h
  cases xs with
  | nil=>cases hl
  | cons x r =>
   unfold drawOrder
   refine wpAny_bind (m:=choose .order (x :: r).length) ?_
   intro Γ p hΓ
   show Sem.wp M Γ (.choose .order (x :: r).length .pure) _ _ p s
   rw [Sem.wp_choose]
   refine ⟨by simp,?_⟩
   generalize hg:M.w.draws .order (s.drawn.get .order) % (x :: r).length = i
   have hi:i < (x :: r).length:=by rw [← hg]; exact mod_lt _ (by simp)
   have g:wpAny M A (do
     match (x :: r)[i]? with
     | some y=>return y :: (← drawOrder n ((x :: r).eraseIdx i))
     | none=>unsupported "internal:drawOrder") Q E { s with drawn:=s.drawn.bump .order }:=by
    rw [getElem?_eq_getElem hi]
    dsimp only
    refine wpAny_bind (ih _ _ _ (by rw [List.length_eraseIdx_of_lt hi]; simp at hl ⊢; omega) λ ys d hp=>wpAny_pure ?_)
    exact h _ d ((List.Perm.cons _ hp).trans (K0 _ _ hi))
   trace_state
   exact g
theorem Jz {α β:Type} {F:α→β→Prop} {l l':List α} (p:List.Perm l' l):∀ {ms:List β},PySem.Paired F l ms→∃ ms',List.Perm ms' ms∧PySem.Paired F l' ms':=by
 replace p:=p.symm
 induction p with
 | nil=>intro ms h; exact ⟨ms,.refl _,h⟩
 | cons x _ ih =>
  intro ms h
  cases h with
  | cons f t =>
   obtain ⟨ms',q,r⟩:=ih t
   exact ⟨_ :: ms',q.cons _,.cons f r⟩
 | swap x y l =>
  intro ms h
  cases h with
  | cons f t =>
   cases t with
   | cons g u=>exact ⟨_,List.Perm.swap _ _ _,.cons g (.cons f u)⟩
 | trans _ _ ih1 ih2 =>
  intro ms h
  obtain ⟨m1,p1,r1⟩:=ih1 h
  obtain ⟨m2,p2,r2⟩:=ih2 r1
  exact ⟨m2,p2.trans p1,r2⟩
theorem Js {κ:Type} [DecidableEq κ]:∀ {l l':List κ},l.Nodup→(∀ x∈l,x∈l')→l.length≤l'.length
 | [],_,_,_=>zero_le _
 | a :: t,l',n,h=>by
  have n:=nodup_cons.mp n
  have ha:=h a mem_cons_self
  have:=Js (l:=t) (l':=l'.erase a) n.2 λ x hx=>(List.mem_erase_of_ne (show x≠a from λ e=>n.1 (e ▸ hx))).mpr (h x (mem_cons_of_mem _ hx))
  rw [List.length_erase_of_mem ha] at this
  have hp:0 < l'.length:=List.length_pos_of_mem ha
  rw [length_cons]
  omega
section
variable {prog:Program} {w:World} {κ:Type} [DecidableEq κ] (knd:PySem.KeyKind prog w κ)
structure Db (h:Heap) (a:Addr) (ks:List κ) (o:Obj) (es:Array (Int× Value)) (ep:Nat) (t:SetTable) (ms:List κ):Prop where
 at':h.get? a = some o
 ex:o.ExactSet
 dat:o.data = .set es ep t
 el:ElemsOf knd es.toList
 pr:PySem.Paired (λ e k=>knd.is k e.2 = true) es.toList ms
 nd:ms.Nodup
 mem:∀ k,k∈ms↔k∈ks
 sm:es.size < scanBound
 fit:t.fits es.size = true
 tab:D9 (!w.params.followText "set-order") t
def SetT (h:Heap) (a:Addr) (ks:List κ):Prop:=∃ o es ep t ms,Db knd h a ks o es ep t ms
variable {knd}
variable {A:Around} {E:Value→Shared→Prop} {s:Shared} {a:Addr} {ks:List κ} {k:κ} {x:Value}
theorem Db.keep {h h':Heap} {o es ep t ms} (S:Db knd h a ks o es ep t ms) (k:h'.get? a = some o):Db knd h' a ks o es ep t ms:=⟨k,S.ex,S.dat,S.el,S.pr,S.nd,S.mem,S.sm,S.fit,S.tab⟩
theorem SetT.keep {h h':Heap} (S:SetT knd h a ks) (k:∀ o,h.get? a = some o→h'.get? a = some o):SetT knd h' a ks:=by
 obtain ⟨o,es,ep,t,ms,D⟩:=S
 exact ⟨o,es,ep,t,ms,D.keep (k o D.at')⟩
theorem SetT.congr {h:Heap} {ks':List κ} (S:SetT knd h a ks) (e:∀ k,k∈ks↔k∈ks'):SetT knd h a ks':=by
 obtain ⟨o,es,ep,t,ms,D⟩:=S
 exact ⟨o,es,ep,t,ms,⟨D.at',D.ex,D.dat,D.el,D.pr,D.nd,λ k=>(D.mem k).trans (e k),D.sm,D.fit,D.tab⟩⟩
theorem Db.size {h:Heap} {o es ep t ms} (S:Db knd h a ks o es ep t ms):es.size = ms.length:=by rw [← PySem.Paired.length S.pr]; simp
theorem Db.put {h:Heap} {o es ep t ms} (S:Db knd h a ks o es ep t ms) {es':Array (Int× Value)} {t':SetTable} {ms' ks':List κ} (e1:ElemsOf knd es'.toList) (e2:PySem.Paired (λ e k=>knd.is k e.2 = true) es'.toList ms') (e3:ms'.Nodup)
  (e4:∀ k,k∈ms'↔k∈ks') (e5:es'.size < scanBound) (e6:t'.fits es'.size = true) (e7:D9 (!w.params.followText "set-order") t') :
  ∃ o',Db knd (h.update a (Obj.putSet es' t')) a ks' o' es' (ep + 1) t' ms':=by
 have hg:=Heap.get?_update_self (Obj.putSet es' t') S.at' (by rw [putSet_of es' t' S.dat]; rfl)
 rw [putSet_of es' t' S.dat] at hg
 exact ⟨_,hg,S.ex,Z,e1,e2,e3,e4,e5,e6,e7⟩
theorem Aab {l:List (Int× Value)} {ms:List κ} (p:PySem.Paired (λ e k=>knd.is k e.2 = true) l ms):k∈ms↔∃ e∈l,knd.is k e.2 = true:=by
 induction p with
 | nil=>simp
 | cons f _ ih =>
  rename_i e m l ms _
  rw [mem_cons,ih]
  constructor
  ·rintro (rfl | ⟨e',h1,h2⟩)
   ·exact ⟨e,mem_cons_self,f⟩
   ·exact ⟨e',mem_cons_of_mem _ h1,h2⟩
  ·rintro ⟨e',h1,h2⟩
   rcases mem_cons.mp h1 with rfl | h1
   ·exact .inl (knd.inj _ _ _ h2 f)
   ·exact .inr ⟨e',h1,h2⟩
theorem Sk {g:Bool→Sem Unit} (hg:∀ (b:Bool) (s₁:Shared) (Q':Unit→Shared→Prop),Q' () s₁→wpAny (model prog w) A (g b) Q' E s₁) {o es ep t ms} (S:Db knd s.heap a ks o es ep t ms)
  {es1:Array (Int× Value)} {t1:SetTable} {ms1 ks1:List κ} (e1:ElemsOf knd es1.toList) (e2:PySem.Paired (λ e k=>knd.is k e.2 = true) es1.toList ms1) (e3:ms1.Nodup)
  (e4:∀ k,k∈ms1↔k∈ks1) (e5:es1.size < scanBound) (e6:t1.fits es1.size = true) (e7:D9 (!w.params.followText "set-order") t1) {dm:Bool} {R:Option Bool→Shared→Prop}
  (h:∀ h',Heap.SameBut a s.heap h'→SetT knd h' a ks1→R (some true) { s with heap:=h' }) :
  wpAny (model prog w) A (do
   storeSet a es1 t1
   if (!dm && t1.tooFull) = true then do
    g (relayAll t1 es1 (SetTable.grown es1.size)).2.2
    storeSet a (relayAll t1 es1 (SetTable.grown es1.size)).1 (relayAll t1 es1 (SetTable.grown es1.size)).2.1
    pure (some true)
   else pure (some true)) R E s:=by
 refine wpAny_bind (wpAny_storeSet_of S.at' S.dat ?_ (fits_of_scanBound e5))
 obtain ⟨o1,S1⟩:=S.put e1 e2 e3 e4 e5 e6 e7
 have b1:=Heap.SameBut.update s.heap a (Obj.putSet es1 t1)
 by_cases c:(!dm && t1.tooFull) = true
 ·rw [if_pos c]
  have p2:=relayAll_perm t1 es1 (SetTable.grown es1.size)
  have f2:=relayAll_fits t1 es1 (SetTable.grown es1.size)
  have q2:=e7.relay es1 (SetTable.grown es1.size)
  generalize relayAll t1 es1 (SetTable.grown es1.size) = Rl at p2 f2 q2 ⊢
  obtain ⟨es2,t2,gv⟩:=Rl
  dsimp only at p2 f2 q2 ⊢
  obtain ⟨ms2,pm,r2⟩:=Jz p2 e2
  have hz:es2.size = es1.size:=by have:=p2.length_eq; simpa using this
  refine wpAny_bind (hg _ _ _ ?_)
  refine wpAny_bind (wpAny_storeSet_of S1.at' S1.dat ?_ (fits_of_scanBound (by omega)))
  obtain ⟨o2,S2⟩:=S1.put (e1.perm p2) r2 (pm.nodup_iff.mpr e3) (λ k=>pm.mem_iff.trans (e4 k)) (by omega) f2 q2
  exact wpAny_pure (h _ (b1.trans (Heap.SameBut.update _ a _)) ⟨_,_,_,_,_,S2⟩)
 ·rw [if_neg c]
  exact wpAny_pure (h _ b1 ⟨_,_,_,_,_,S1⟩)
theorem Vq {Q:Bool→Shared→Prop} (hk:knd.is k x = true) (hx:x.scannable = true) (S:SetT knd s.heap a ks) (hr:ks.length + 1 < scanBound)
  (h:∀ b h',Heap.SameBut a s.heap h'→SetT knd h' a (ks ++ [k])→Q b { s with heap:=h' }):wpAny (model prog w) A (setAddHashed a x (knd.hash k)) Q E s:=by
 obtain ⟨o,es,ep,t,ms,D⟩:=S
 have hz:=D.size
 have hml:ms.length≤ks.length:=Js D.nd λ k hk=>(D.mem k).mp hk
 unfold setAddHashed setAddHashedIn
 refine wpAny_holding (wpAny_bind (wpAny_setState_of D.at' D.dat D.fit ?_))
 dsimp only
 rw [byScan_of hx D.sm D.el,if_pos rfl]
 unfold setAddByScan
 refine wpAny_bind (wpAny_bind (wpAny_rule (wpAny_bind (wpAny_setScan_of hk D.at' D.dat D.fit D.el ?_))))
 cases hf:List.findIdx? (λ e=>knd.is k e.2) es.toList with
 | some j =>
  dsimp only
  obtain ⟨hj,pj,_⟩:=List.findIdx?_eq_some_iff_getElem.mp hf
  have hin:k∈ms:=(Aab D.pr).mpr ⟨_,getElem_mem hj,pj⟩
  refine wpAny_pure (wpAny_pure ?_)
  have q:=h false s.heap (Heap.SameBut.refl a s.heap) (SetT.congr ⟨o,es,ep,t,ms,D⟩ λ k'=>?_)
  ·cases s; exact q
  ·rw [mem_append,mem_singleton]
   exact ⟨.inl,λ z=>z.elim id λ z=>by subst z; exact (D.mem _).mp hin⟩
 | none =>
  dsimp only
  have hout:¬ k∈ms:=λ z=>by
   obtain ⟨e,he,q⟩:=(Aab D.pr).mp z
   have:=List.findIdx?_eq_none_iff.mp hf e he
   rw [q] at this; cases this
  have p1:=layNew_perm t es (knd.hash k) x
  have f1:=layNew_fits t es (knd.hash k) x
  have q1:=D.tab.layNew es (knd.hash k) x
  generalize layNew t es (knd.hash k) x = L at p1 f1 q1 ⊢
  obtain ⟨es1,t1,dm,gv⟩:=L
  dsimp only at p1 f1 q1 ⊢
  rw [Array.toList_push] at p1
  have e1:=(D.el.push hk hx).perm p1
  obtain ⟨ms1,pm,r1⟩:=Jz p1 (D.pr.snoc (F:=λ (e:Int× Value) k=>knd.is k e.2 = true) hk)
  have z1:es1.size = es.size + 1:=by have:=p1.length_eq; simpa using this
  have e3:ms1.Nodup:=pm.nodup_iff.mpr (nodup_append.mpr ⟨D.nd,by simp,λ y hy z hz=>by rw [mem_singleton] at hz; subst hz; exact λ e=>hout (e ▸ hy)⟩)
  have e4:∀ k',k'∈ms1↔k'∈ks ++ [k]:=λ k'=>by rw [pm.mem_iff,mem_append,mem_append,D.mem]
  have gw:∀ (b:Bool) (s₁:Shared) (Q':Unit→Shared→Prop),Q' () s₁→wpAny (model prog w) A (match b with | true=>rule "set.scan.the-table-gave-way" | false=>pure ()) Q' E s₁:=λ b s₁ Q' q=>by
   cases b
   ·exact wpAny_pure q
   ·exact wpAny_rule q
  refine wpAny_bind (gw _ _ _ ?_)
  have fin:∀ h',Heap.SameBut a s.heap h'→SetT knd h' a (ks ++ [k])→wpAny (model prog w) A (pure true) Q E { s with heap:=h' }:=λ h' b S'=>wpAny_pure (h true h' b S')
  split
  ·refine wpAny_bind ?_
   rw [hashByValue_scannable 8 hx]
   refine wpAny_pure ?_
   refine Sk gw D e1 r1 e3 e4 (by omega) (by split; exact f1; exact SetTable.fits_plain_off f1) (by split; exact q1; exact q1.plainOff) ?_
   intro h' b S'
   exact fin h' b S'
  ·refine wpAny_bind (wpAny_pure ?_)
   rw [if_pos rfl]
   refine Sk gw D e1 r1 e3 e4 (by omega) f1 q1 ?_
   intro h' b S'
   exact fin h' b S'
end
section
variable {prog:Program} {w:World} {κ:Type} [DecidableEq κ] {knd:PySem.KeyKind prog w κ}
theorem Zn {A:Around} {R:Result→Shared→Prop} {I:Addr} {fp wr:List Addr} {G:Array GenState→Array GenState→Prop} {n:Nat} {P:Nat→Value→Prop} {St:Nat→Shared→Prop} (W:WalksS prog w A.in1 I fp wr G n P St) (S:Addr) (hSf:S∉fp)
  (ks:List κ) (hn:ks.length = n) (hv:∀ i v,P i v→∃ k,ks[i]? = some k∧knd.is k v = true∧v.scannable = true) (hb:n + 1 < scanBound) :
  ∀ (j i:Nat) (s:Shared),n - i = j→i≤n→St i s→SetT knd s.heap S (ks.take i)→(∀ s',Moved (S :: wr) G s s'→SetT knd s'.heap S ks→R (.ok (.ret .none)) s') →
   codeAny (model prog w) A (.builtin "set.update.loop" ⟨[.ref S,.ref I],[]⟩) R s:=by
 have hSw:S∉wr:=λ h=>hSf (W.sub _ h)
 have sub:∀ b∈wr,b∈S :: wr:=λ b hb=>mem_cons_of_mem _ hb
 intro j
 induction j with
 | zero =>
  intro i s hj hi st hS hR
  have e:i = n:=by omega
  subst e
  refine codeAny_builtin PyProof.Rows.F.entry_set_update_loop ?_
  rw [Around.under_plainId PyProof.Rows.F.plain_set_update_loop _]
  refine wpAny_bind (m:=pyNext (.ref I)) (W.done s _ _ st λ s' mv=>?_)
  refine wpAny_pure (hR s' (mv.mono sub) ?_)
  rw [take_of_length_le (by omega)] at hS
  exact hS.keep λ o q=>mv.heap S o hSw q
 | succ j ih =>
  intro i s hj hi st hS hR
  have hlt:i < n:=by omega
  refine codeAny_builtin PyProof.Rows.F.entry_set_update_loop ?_
  rw [Around.under_plainId PyProof.Rows.F.plain_set_update_loop _]
  refine wpAny_bind (m:=pyNext (.ref I)) (W.item i s _ _ hlt st λ v s' hP st' mv=>?_)
  obtain ⟨k,ek,hk,hx⟩:=hv i v hP
  have hS':SetT knd s'.heap S (ks.take i):=hS.keep λ o q=>mv.heap S o hSw q
  show wpAny _ A.in1 (holding [v] (setAdd S v) >>= _) _ _ s'
  refine wpAny_bind (wpAny_holding ?_)
  unfold setAdd
  refine wpAny_holding (wpAny_bind (knd.pyHash (k:=k) hk ?_))
  refine Vq (s:={ s' with toks:=s'.toks + 1 }) hk hx hS' (by rw [length_take]; omega) λ b h' sb S2=>?_
  have et:ks.take (i + 1) = ks.take i ++ [k]:=by rw [take_add_one,ek]; rfl
  refine wpAny_pure ⟨plainId_quiet PyProof.Rows.F.plain_set_update_loop _,ih (i + 1) _ (by omega) hlt (W.frame _ s' _ _ st' (le_succ _) λ b hb o q=>?_) (by rw [et]; exact S2) λ s'' mv'' S''=>?_⟩
  ·exact (sb.2 b (λ z:b = S=>hSf (z ▸ hb))).trans q
  ·refine hR s'' (Moved.trans W.gtrans ((mv.mono sub).then_heap (le_succ _) λ b o hb q=>?_) mv'') S''
   exact (sb.2 b (λ z:b = S=>hb (by rw [z]; exact mem_cons_self))).trans q
variable {A:Around} {E:Value→Shared→Prop} {s:Shared}
abbrev setNew (w:World):Obj:={ cls:=.type "set", dict:=none,data:=.set #[] 0 (.fresh 0 0 (!w.params.followText "set-order")) }
theorem Sv (a:Value) {Q:Value→Shared→Prop} (h:Q (.ref s.heap.objs.size) { s with heap:=s.heap.push (setNew w) }) :
  codeAny (model prog w) A (.call (.builtin "set.__new__") ⟨[.type "set", a],[]⟩) (wants Q E) s:=by
 refine codeAny_of_tree ?_
 refine wpAny_bind (m:=checkBuiltinCall "set.__new__" ⟨[.type "set", a],[]⟩) (wpAny_of_eq (PySem.F.newCall_set_1 a) (wpAny_pure ⟨plainId_quiet PySem.F.plain_set_new _,codeAny_builtin PySem.F.entry_set_new ?_⟩))
 rw [Around.under_plainId PySem.F.plain_set_new _]
 unfold Builtin.«set.__new__» Builtin.Frozenset.newClass
 have hsub:=sub_set_self
 obtain ⟨hp,g,d,tk,os⟩:=s
 dsimp only
 wp_walk
 refine wpAny_askSetting (wpAny_pure ?_)
 dsimp only
 simp only [newObj]
 refine wpAny_bind (wpAny_alloc (wpAny_pure ?_))
 exact wpAny_pure h
theorem Xl {h:Heap} {a:Addr} (e:h.get? a = some (setNew w)):SetT knd h a [] :=
 ⟨_,#[],0,_,[],e,⟨rfl,rfl,rfl⟩,Z,λ e he=>by simp at he,.nil,by simp,λ k=>Iff.rfl,by decide,Z,⟨Z,Z,by unfold Fp; exact .nil⟩⟩
end
section
variable {prog:Program} {w:World} {κ:Type} [DecidableEq κ] {knd:PySem.KeyKind prog w κ} {A:Around} {E:Value→Shared→Prop} {s:Shared}
def J2 (knd:PySem.KeyKind prog w κ) (s:Shared) (ks:List κ) (s2:Shared):Prop:=∃ h' tk,s2 = { s with heap:=h',toks:=tk }∧SetT knd h' s.heap.objs.size ks∧∀ b o,b < s.heap.objs.size→s.heap.get? b = some o→h'.get? b = some o
theorem AaQ {l:Addr} {items:Array Value} {ks:List κ} (hh:A.handled = none) (hl:s.heap.IsList l items) (hn:ks.length = items.size) (hv:∀ (i:Nat) (v:Value),items[i]? = some v→∃ k,ks[i]? = some k∧knd.is k v = true∧v.scannable = true) (hb:items.size + 1 < scanBound)
  {Q:Unit→Shared→Prop} (h:∀ s2,J2 knd s ks s2→Q () s2) :
  wpAny (model prog w) A (Builtin.Frozenset.updateFrom "set.__init__" s.heap.objs.size (.ref l)) Q E { s with heap:=s.heap.push (setNew w) }:=by
 obtain ⟨ol,hol,hcl,nl,hdl⟩:=id hl
 have hol':=Heap.get?_push_of_some (setNew w) hol
 have ty:Shared.TypeIs { s with heap:=s.heap.push (setNew w) } (.ref l) "list" := ⟨ol,hol',hcl⟩
 have hll:l < s.heap.objs.size:=Heap.lt_size hol
 have hl1:(s.heap.push (setNew w)).IsList l items:=⟨_,hol',hcl,nl,hdl⟩
 have f1:=PySem.F.sub_list_set
 have f2:=PySem.F.sub_list_frozenset
 unfold Builtin.Frozenset.updateFrom
 refine wpAny_bind (m:=Builtin.Frozenset.isAnySet (.ref l)) ?_
 have e0:Builtin.Frozenset.isAnySet (.ref l) = (isInstance (.ref l) (.type "set") >>= λ b=>if b = true then pure true else isInstance (.ref l) (.type "frozenset")):=by
  unfold Builtin.Frozenset.isAnySet orM toBool
  congr 1
  funext b
  cases b <;> rfl
 rw [e0]
 refine wpAny_bind (wpAny_isInstance ty f1 ?_)
 rw [if_neg Bool.false_ne_true]
 refine wpAny_isInstance ty f2 ?_
 rw [if_neg Bool.false_ne_true]
 refine wpAny_bind (wpAny_typeOf ty ?_)
 rw [if_neg (by decide)]
 refine wpAny_bind (wpAny_pyIter_list hl1 ?_)
 refine wpAny_bind (wpAny_runValue ?_)
 have hh3:A.in1.handled = none:=hh
 have hne:l≠(s.heap.push (setNew w)).objs.size:=by rw [Heap.size_push]; exact ne_of_lt (lt_succ_of_lt hll)
 have hSf:s.heap.objs.size∉[(s.heap.push (setNew w)).objs.size,l]:=by
  rw [Heap.size_push]
  simp only [mem_cons,not_mem_nil,or_false,not_or]
  exact ⟨ne_of_lt (lt_succ_self _),ne_of_gt hll⟩
 refine Zn (knd:=knd) ((Walks.list hh3 _ l hne items).toS) s.heap.objs.size hSf ks hn hv hb (items.size - 0) 0 _ (by omega) (zero_le _) ⟨⟨_,Heap.get?_push_size _ rfl,Z,Z⟩,hl1.push _⟩ ?_ ?_
 ·exact Xl (Heap.get?_push_of_some _ (Heap.get?_push_size _ rfl))
 ·intro s' mv S'
  refine wpAny_pure (h _ ⟨s'.heap,s'.toks,?_,S',λ b o hb e=>?_⟩)
  ·obtain ⟨h',g',d',tk',os'⟩:=s'
   have eg:g' = s.gens:=mv.gens
   have ed:d' = s.drawn:=mv.drawn
   have eo:os' = s.os:=mv.os
   subst eg ed eo
   rfl
  ·refine mv.heap b o ?_ (Heap.get?_push_of_some _ (Heap.get?_push_of_some _ e))
   rw [Heap.size_push]
   simp only [mem_cons,not_mem_nil,or_false,not_or]
   exact ⟨ne_of_lt hb,ne_of_lt (lt_succ_of_lt hb)⟩
theorem Yb {l:Addr} {items:Array Value} {ks:List κ} {Q:Value→Shared→Prop} (hh:A.handled = none) (hl:s.heap.IsList l items) (hn:ks.length = items.size) (hv:∀ (i:Nat) (v:Value),items[i]? = some v→∃ k,ks[i]? = some k∧knd.is k v = true∧v.scannable = true)
  (hb:items.size + 1 < scanBound) (h:∀ s2,J2 knd s ks s2→Q (.ref s.heap.objs.size) s2):wpAny (model prog w) A (call (.type "set") [.ref l]) Q E s:=by
 obtain ⟨c,tl,hm⟩:=PySem.F.called_set.mro
 have q1:=PySem.F.called_set.made
 have q2:=PySem.F.called_set.sub
 refine wpAny_call (codeAny_of_tree ?_)
 refine wpAny_pure ⟨Code.quiet_builtin _ (by decide +kernel),codeAny_builtin PySem.F.entry_type_call ?_⟩
 rw [Around.under_plain (weight_type_call_type "set" [.ref l] []) rfl]
 have q3:=PySem.F.called_set.notType
 have q4:=PySem.F.called_set.canCreate
 have q5:=PySem.F.typeCall_set_1 (.ref l)
 repeat any_goals (first | wp_step | assumption)
 refine codeAny_mono (Sv (w:=w) (.ref l) (E:=E) (Q:=λ obj s₁=>obj = .ref s.heap.objs.size∧s₁ = { s with heap:=s.heap.push (setNew w) }) ⟨Z,Z⟩) λ r s₁ hr=>?_
 cases r with
 | error e=>exact hr
 | ok fl =>
  cases fl with
  | ret obj =>
   obtain ⟨rfl,rfl⟩:=hr
   have hS:(s.heap.push (setNew w)).get? s.heap.objs.size = some (setNew w):=Heap.get?_push_size _ rfl
   have ty:Shared.TypeIs { s with heap:=s.heap.push (setNew w) } (.ref s.heap.objs.size) "set" := ⟨_,hS,Z⟩
   have q6:=PySem.F.called_set.init.lookup
   have q7:=PySem.F.called_set.init.bind (.ref s.heap.objs.size)
   repeat any_goals (first | wp_step | assumption)
   refine codeAny_mono (codeAny_call_builtin (R:=wants (λ r s₂=>r = .none∧J2 knd s ks s₂) E) PySem.F.called_set.init.plain PySem.F.entry_set_init (check_set_init_1 ty ?_)) λ r₂ s₂ hr₂=>?_
   ·unfold Builtin.«set.__init__» noKeywords
    generalize hU:Builtin.Frozenset.updateFrom = U
    have ready:wpAny (model prog w) A.in1.in1 (U "set.__init__" s.heap.objs.size (.ref l)) (λ _ s2=>J2 knd s ks s2) (λ e s'=>wants (λ r s₂=>r = .none∧J2 knd s ks s₂) E (.error e) s') { s with heap:=s.heap.push (setNew w) }:=by
     rw [← hU]
     exact AaQ (A:=A.in1.in1) hh hl hn hv hb λ s2 m=>m
    wp_walk
    refine wpAny_mono ready (λ _ s2 m=>?_) λ _ _ q=>q
    exact wpAny_pure ⟨Z,m⟩
   ·cases r₂ with
    | error e=>exact hr₂
    | ok fl₂ =>
     cases fl₂ with
     | ret r =>
      obtain ⟨rfl,m⟩:=hr₂
      have z:=h _ m
      repeat any_goals (first | wp_step | assumption)
     | _=>exact hr₂.elim
  | _=>exact hr.elim
end
theorem B6:Slot "set_iterator" "__next__" "set_iterator.__next__" :=
 .of (owner:= "set_iterator") (n:= "__next__") (by rw [typeLookup_type,builtinLookup_eq_fast]; kernel_rfl) (by decide +kernel) (by decide +kernel) (by decide +kernel)
  (by first | exact .inl (by decide +kernel) | exact .inr (by decide +kernel)) (by rw [isSubtype_type]; kernel_rfl)
theorem Ez:entryFor table "set_iterator.__next__" = some Builtin.«set_iterator.__next__»:=entryFor_of_tree (by kernel_rfl)
theorem Nm:Manifest.owners.lookup (String.ofList ['r', 'o', 't', 'a', 'r', 'e', 't', 'i', '_', 't', 'e', 's'].reverse) = some Manifest.sig_set_iterator:=by kernel_rfl
theorem Fk (a:Value):argsOk "set_iterator.__next__" ⟨[a],[]⟩:=by
 unfold argsOk
 rw [signature?_of (id:= "set_iterator.__next__") (n:=['_', '_', 't', 'x', 'e', 'n', '_', '_']) (o:=['r', 'o', 't', 'a', 'r', 'e', 't', 'i', '_', 't', 'e', 's']) (by kernel_rfl) Nm]
 kernel_rfl
theorem Pa:entryFor table "set.__iter__" = some Builtin.«frozenset.__iter__» :=
 entryFor_alias (id':= "frozenset.__iter__") (by kernel_rfl) rfl (by decide +kernel) (by kernel_rfl)
abbrev itObj (first:Value) (i:Nat) (a:Addr) (n ep:Nat):Obj:={ cls:=.type "set_iterator", dict:=none,data:=.fields #[first,.int i 0,.ref a,.int n 0,.int ep 0],slots:=#[] }
section
variable {prog:Program} {w:World} {A:Around} {E:Value→Shared→Prop} {s:Shared} {I a:Addr} {i n ep:Nat} {Q:Option Value→Shared→Prop}
theorem Sa {o:Obj} {vs:Array Value} {m:Nat} (hh:A.handled = none) (ho:s.heap.get? I = some o) (hd:o.data = .fields vs) (hm:m < vs.size) {R:PySem.Fin→Shared→Prop} {E':Value→Shared→Prop}
  (h:∀ x h',(⟨h',s.gens,s.drawn,s.toks,s.os⟩:Shared).TypeIs x "StopIteration" → Heap.ExtBut I s.heap h'→E' x { s with heap:=h' }) :
  wpAny (model prog w) A (do setField (.ref I) m .none; raiseNew (← newExc (.type "StopIteration") [])) R E' s:=by
 refine wpAny_bind (wpAny_setField ho hd hm ?_)
 refine wpAny_bind (m:=newExc (.type "StopIteration") []) ?_
 simp only [newExc,newTuple]
 refine wpAny_bind (wpAny_newObj_type ?_ (by size_fits))
 refine wpAny_bind (m:=firstArgMember _ _) (wpAny_of_eq (a:=Value.none) (by first | rfl | (simp only [firstArgMember]; rfl)) ?_)
 refine wpAny_newObj_type ?_ (by size_fits)
 simp only [raiseNew]
 refine wpAny_bind (wpAny_handled ?_)
 rw [hh]
 refine wpAny_bind (wpAny_pure (wpAny_throw ?_))
 exact h _ _ ⟨_,Heap.get?_push_size _ rfl,Z⟩ (((Heap.SameBut.update ..).extBut.push _).push _)
theorem Q9 {slot nx:Nat} {x:Value} (ho:s.heap.get? I = some (itObj (.int slot 0) i a n ep)) (hz:∀ (A:Around) (E:Value→Shared→Prop) (Q:Array (Int× Value)→Shared→Prop),(∀ es,es.size = n→Q es s)→wpAny (model prog w) A (setEntries a) Q E s)
  (hN:∀ (A:Around) (E:Value→Shared→Prop) (Q:Option (Value× Nat)→Shared→Prop),Q (some (x,nx)) s→wpAny (model prog w) A (setNext a slot i ep) Q E s)
  (hQ:∀ h',h'.get? I = some (itObj (.int nx 0) (i + 1) a n ep)→Heap.SameBut I s.heap h'→Q (some x) { s with heap:=h' }):wpAny (model prog w) A (pyNext (.ref I)) Q E s:=by
 have ty:s.TypeIs (.ref I) "set_iterator" := ⟨_,ho,Z⟩
 unfold pyNext
 refine wpAny_bind (wpAny_attempt (wpAny_callSpecial?_slot (name:=Str.ofString "__next__") ty B6 (wpAny_call_entry B6 ty Ez ?_ (Fk _))))
 unfold Builtin.«set_iterator.__next__»
 refine wpAny_bind (m:=slotArgs "__next__" 0 _) (wpAny_pure ?_)
 refine wpAny_bind (wpAny_fieldsOf ho rfl ?_)
 show wpAny _ _ (setEntries a >>= _) _ _ s
 refine wpAny_bind (hz _ _ _ λ es e=>?_)
 rw [if_neg (by rw [e]; simp)]
 show wpAny _ _ (setNext a (slot:Int).toNat (i:Int).toNat (ep:Int).toNat >>= _) _ _ s
 simp only [Int.toNat_natCast]
 refine wpAny_bind (hN _ _ _ ?_)
 dsimp only
 refine wpAny_bind (wpAny_setField_rec ho (by simp) λ h1 e1 b1=>?_)
 refine wpAny_bind (wpAny_setField_rec (s:={ s with heap:=h1 }) e1 (by simp) λ h2 e2 b2=>?_)
 refine wpAny_pure ⟨_,Z,wpAny_pure (hQ h2 ?_ (b1.trans b2))⟩
 rw [e2]
 simp [rawInt]
theorem Qv {slot:Nat} (hh:A.handled = none) (ho:s.heap.get? I = some (itObj (.int slot 0) i a n ep)) (hz:∀ (A:Around) (E:Value→Shared→Prop) (Q:Array (Int× Value)→Shared→Prop),(∀ es,es.size = n→Q es s)→wpAny (model prog w) A (setEntries a) Q E s)
  (hN:∀ (A:Around) (E:Value→Shared→Prop) (Q:Option (Value× Nat)→Shared→Prop),Q none s→wpAny (model prog w) A (setNext a slot i ep) Q E s)
  (hQ:∀ h',Heap.ExtBut I s.heap h'→Q none { s with heap:=h' }):wpAny (model prog w) A (pyNext (.ref I)) Q E s:=by
 have ty:s.TypeIs (.ref I) "set_iterator" := ⟨_,ho,Z⟩
 unfold pyNext
 refine wpAny_bind (wpAny_attempt (wpAny_callSpecial?_slot (name:=Str.ofString "__next__") ty B6 (wpAny_call_entry B6 ty Ez ?_ (Fk _))))
 unfold Builtin.«set_iterator.__next__»
 refine wpAny_bind (m:=slotArgs "__next__" 0 _) (wpAny_pure ?_)
 refine wpAny_bind (wpAny_fieldsOf ho rfl ?_)
 show wpAny _ _ (setEntries a >>= _) _ _ s
 refine wpAny_bind (hz _ _ _ λ es e=>?_)
 rw [if_neg (by rw [e]; simp)]
 show wpAny _ _ (setNext a (slot:Int).toNat (i:Int).toNat (ep:Int).toNat >>= _) _ _ s
 simp only [Int.toNat_natCast]
 refine wpAny_bind (hN _ _ _ ?_)
 dsimp only
 refine Sa (A:=A.in1) hh ho rfl (by simp) λ x h' ty' b=>?_
 refine wpAny_bind (wpAny_isInstance (T:= "StopIteration") (b:=true) ty' isSubtype_stop ?_)
 exact wpAny_pure (hQ h' b)
theorem Yv {tp:Addr} {pl:List Nat} {q:Nat} {x:Value} {h0:Int} {es0:Array (Int× Value)} {t:SetTable} (ho:s.heap.get? I = some (itObj (.ref tp) i a n ep)) (htp:s.heap.get? tp = some { cls:=.type "tuple", data:=.seq (pl.map λ (p:Nat)=>rawInt p).toArray }) (hz:∀ (A:Around) (E:Value→Shared→Prop) (Q:Array (Int× Value)→Shared→Prop),(∀ es,es.size = n→Q es s)→wpAny (model prog w) A (setEntries a) Q E s)
  (hS:∀ (A:Around) (E:Value→Shared→Prop) (Q:Array (Int× Value)× Nat× SetTable→Shared→Prop),Q (es0,ep,t) s→wpAny (model prog w) A (setState a) Q E s)
  (hp:pl[i]? = some q) (hx:es0[q]? = some (h0,x)) (hQ:∀ h',h'.get? I = some (itObj (.ref tp) (i + 1) a n ep)→Heap.SameBut I s.heap h'→Q (some x) { s with heap:=h' }):wpAny (model prog w) A (pyNext (.ref I)) Q E s:=by
 have ty:s.TypeIs (.ref I) "set_iterator" := ⟨_,ho,Z⟩
 unfold pyNext
 refine wpAny_bind (wpAny_attempt (wpAny_callSpecial?_slot (name:=Str.ofString "__next__") ty B6 (wpAny_call_entry B6 ty Ez ?_ (Fk _))))
 unfold Builtin.«set_iterator.__next__»
 refine wpAny_bind (m:=slotArgs "__next__" 0 _) (wpAny_pure ?_)
 refine wpAny_bind (wpAny_fieldsOf ho rfl ?_)
 show wpAny _ _ (setEntries a >>= _) _ _ s
 refine wpAny_bind (hz _ _ _ λ es e=>?_)
 rw [if_neg (by rw [e]; simp)]
 show wpAny _ _ (seqItems? (.ref tp) >>= _) _ _ s
 refine wpAny_bind (wpAny_seqItems htp rfl ?_)
 dsimp only
 have hq:(pl.map λ (p:Nat)=>rawInt p).toArray[(i:Int).toNat]? = some (rawInt q):=by simp [hp]
 rw [hq]
 show wpAny _ _ (setNextDrawn a (q:Int).toNat (ep:Int).toNat >>= _) _ _ s
 simp only [Int.toNat_natCast]
 unfold setNextDrawn
 refine wpAny_bind (wpAny_bind (hS _ _ _ ?_))
 dsimp only
 rw [if_neg (by simp),hx]
 refine wpAny_pure ?_
 refine wpAny_bind (wpAny_setField_rec ho (by simp) λ h1 e1 b1=>?_)
 refine wpAny_pure ⟨_,Z,wpAny_pure (hQ h1 ?_ b1)⟩
 rw [e1]
 simp [rawInt]
theorem Zz {tp:Addr} {pl:List Nat} (hh:A.handled = none) (ho:s.heap.get? I = some (itObj (.ref tp) i a n ep)) (htp:s.heap.get? tp = some { cls:=.type "tuple", data:=.seq (pl.map λ (p:Nat)=>rawInt p).toArray }) (hz:∀ (A:Around) (E:Value→Shared→Prop) (Q:Array (Int× Value)→Shared→Prop),(∀ es,es.size = n→Q es s)→wpAny (model prog w) A (setEntries a) Q E s)
  (hp:pl[i]? = none) (hQ:∀ h',Heap.ExtBut I s.heap h'→Q none { s with heap:=h' }):wpAny (model prog w) A (pyNext (.ref I)) Q E s:=by
 have ty:s.TypeIs (.ref I) "set_iterator" := ⟨_,ho,Z⟩
 unfold pyNext
 refine wpAny_bind (wpAny_attempt (wpAny_callSpecial?_slot (name:=Str.ofString "__next__") ty B6 (wpAny_call_entry B6 ty Ez ?_ (Fk _))))
 unfold Builtin.«set_iterator.__next__»
 refine wpAny_bind (m:=slotArgs "__next__" 0 _) (wpAny_pure ?_)
 refine wpAny_bind (wpAny_fieldsOf ho rfl ?_)
 show wpAny _ _ (setEntries a >>= _) _ _ s
 refine wpAny_bind (hz _ _ _ λ es e=>?_)
 rw [if_neg (by rw [e]; simp)]
 show wpAny _ _ (seqItems? (.ref tp) >>= _) _ _ s
 refine wpAny_bind (wpAny_seqItems htp rfl ?_)
 dsimp only
 have hq:(pl.map λ (p:Nat)=>rawInt p).toArray[(i:Int).toNat]? = none:=by simpa using hp
 rw [hq]
 dsimp only
 refine wpAny_bind (wpAny_setField_rec ho (by simp) λ h1 e1 b1=>?_)
 refine Sa (s:={ s with heap:=h1 }) (A:=A.in1) hh e1 rfl (by simp) λ x h' ty' b=>?_
 refine wpAny_bind (wpAny_isInstance (T:= "StopIteration") (b:=true) ty' isSubtype_stop ?_)
 exact wpAny_pure (hQ h' λ b' o' hb e=>b b' o' hb (b1.extBut b' o' hb e))
end
theorem Ka:Slot "set_iterator" "__iter__" "set_iterator.__iter__" :=
 .of (owner:= "set_iterator") (n:= "__iter__") (by rw [typeLookup_type,builtinLookup_eq_fast]; kernel_rfl) (by decide +kernel) (by decide +kernel) (by decide +kernel)
  (by first | exact .inl (by decide +kernel) | exact .inr (by decide +kernel)) (by rw [isSubtype_type]; kernel_rfl)
theorem Nw:entryFor table "set_iterator.__iter__" = some Builtin.«dict_keyiterator.__iter__» :=
 entryFor_alias (id':= "dict_keyiterator.__iter__") (by kernel_rfl) rfl (by decide +kernel) (by kernel_rfl)
theorem Oz (a:Value):argsOk "set_iterator.__iter__" ⟨[a],[]⟩:=by
 unfold argsOk
 rw [signature?_of (id:= "set_iterator.__iter__") (n:=['_', '_', 'r', 'e', 't', 'i', '_', '_']) (o:=['r', 'o', 't', 'a', 'r', 'e', 't', 'i', '_', 't', 'e', 's']) (by kernel_rfl) Nm]
 kernel_rfl
section
variable {prog:Program} {w:World} {κ:Type} [DecidableEq κ] {knd:PySem.KeyKind prog w κ} {A:Around} {E:Value→Shared→Prop} {s:Shared} {a I:Addr} {ks:List κ} {o:Obj} {es:Array (Int× Value)} {ep:Nat} {t:SetTable} {ms:List κ}
theorem L4 {Q:Value→Shared→Prop} (ty:s.TypeIs (.ref I) "set_iterator") (h:Q (.ref I) s):wpAny (model prog w) A (pyIter (.ref I)) Q E s:=by
 refine wpAny_pyIter_slot ty Ka (wpAny_call_entry Ka ty Nw ?_ (Oz _))
 show wpAny _ _ (ret (.ref I)) _ _ s
 exact wpAny_pure ⟨_,Z, "set_iterator", _,ty,B6.lookup,h⟩
theorem Mb {Q:Bool→Shared→Prop} (h:Q (w.params.followText "set-order") s):wpAny (model prog w) A setsByText Q E s:=by
 unfold setsByText
 exact wpAny_bind (wpAny_askSetting (wpAny_pure h))
theorem Db.state (D:Db knd s.heap a ks o es ep t ms) {Q:Array (Int× Value)× Nat× SetTable→Shared→Prop} (h:Q (es,ep,t) s):wpAny (model prog w) A (setState a) Q E s:=wpAny_setState_of D.at' D.dat D.fit h
theorem Db.entries (D:Db knd s.heap a ks o es ep t ms) {Q:Array (Int× Value)→Shared→Prop} (h:Q es s):wpAny (model prog w) A (setEntries a) Q E s:=by
 unfold setEntries
 exact wpAny_bind (D.state (wpAny_pure h))
theorem Pd (D:Db knd s.heap a ks o es ep t ms) (ft:w.params.followText "set-order" = true) {slot given:Nat} {Q:Option (Value× Nat)→Shared→Prop} (h:Q (((pickOrder (w.params.setOrder a ep) es)[given]?).map λ e=>(e.2,slot)) s) :
  wpAny (model prog w) A (setNext a slot given ep) Q E s:=by
 unfold setNext
 refine wpAny_bind (D.state ?_)
 dsimp only
 refine wpAny_bind (Mb ?_)
 rw [if_pos ft,if_neg (by simp)]
 refine wpAny_bind ?_
 unfold setWalk
 refine wpAny_bind (D.state ?_)
 dsimp only
 refine wpAny_bind (Mb ?_)
 rw [if_pos ft]
 refine wpAny_bind (wpAny_askSetting (wpAny_pure ?_))
 exact wpAny_pure h
theorem Oh (D:Db knd s.heap a ks o es ep t ms) (ft:w.params.followText "set-order" = false) (hd:(!t.plain && decide (es.size > 1)) = false) {slot given:Nat} {Q:Option (Value× Nat)→Shared→Prop}
  (h:Q (match es[SetTable.below t.place slot]?,t.place[SetTable.below t.place slot]? with | some (_,x),some j=>some (x,j + 1) | _,_=>none) s) :
  wpAny (model prog w) A (setNext a slot given ep) Q E s:=by
 have hl:t.led = true:=by rw [D.tab.led,ft]; rfl
 unfold setNext
 refine wpAny_bind (D.state ?_)
 dsimp only
 refine wpAny_bind (Mb ?_)
 rw [if_neg (by rw [ft]; exact Bool.false_ne_true)]
 show wpAny _ _ (if (!t.plain && decide (es.size > 1)) = true then _ else _) _ _ s
 rw [hd,if_neg Bool.false_ne_true]
 refine wpAny_bind ?_
 show wpAny _ _ (if (!t.led && !es.isEmpty) = true then _ else _) _ _ s
 rw [hl]
 exact wpAny_pure (wpAny_pure h)
end
def Ll (pl:Array Nat):Nat→Nat
 | 0=>0
 | i + 1=>pl.getD i 0 + 1
theorem Nu {pl:Array Nat} (h:Fp pl) {i:Nat} (hi:i≤pl.size):SetTable.below pl (Ll pl i) = i:=by
 cases i with
 | zero=>exact U7 h
 | succ i =>
  have e:pl.getD i 0 = pl[i]:=by simp [Array.getD,show i < pl.size by omega]
  show SetTable.below pl (pl.getD i 0 + 1) = i + 1
  rw [e]
  exact Ve h (by omega)
section
variable {prog:Program} {w:World} {κ:Type} [DecidableEq κ] {knd:PySem.KeyKind prog w κ} {A:Around} {E:Value→Shared→Prop} {s:Shared} {a I:Addr} {ks:List κ} {o:Obj} {es:Array (Int× Value)} {ep:Nat} {t:SetTable} {ms:List κ}
theorem Is (D:Db knd s.heap a ks o es ep t ms):∀ (A:Around) (E:Value→Shared→Prop) (Q:Array (Int× Value)→Shared→Prop),(∀ es',es'.size = es.size→Q es' s)→wpAny (model prog w) A (setEntries a) Q E s:=λ _ _ _ q=>D.entries (q es rfl)
theorem X1 {h0:Heap} (D:Db knd h0 a ks o es ep t ms) (ft:w.params.followText "set-order" = true) (hh:A.handled = none) (hne:a≠I) :
  Walks prog w A I [I,a] [I] es.size (λ i v=>((pickOrder (w.params.setOrder a ep) es).toList.map (·.2))[i]? = some v) (λ i h=>h.get? I = some (itObj (.int (0:Nat) 0) i a es.size ep)∧h.get? a = some o) where
 sub:=λ b hb=>by simp at hb; simp [hb]
 frame:=λ _ _ _ st hk=>⟨hk I (by simp) _ st.1,hk a (by simp) _ st.2⟩
 item:=λ i s Q E hi st hQ=>by
  have D':=D.keep st.2
  have hp:=(Lw (w.params.setOrder a ep) es).length_eq
  have hl:i < (pickOrder (w.params.setOrder a ep) es).size:=by simp at hp; omega
  refine Q9 (x:=((pickOrder (w.params.setOrder a ep) es)[i]).2) (nx:=0) st.1 (Is D') (λ _ _ _ q=>Pd D' ft (by rw [Array.getElem?_eq_getElem hl]; exact q)) λ h' e1 b1=>?_
  exact hQ _ h' s.toks (by simp [hl]) ⟨e1,(b1.2 a hne).trans st.2⟩ λ b u hb e=>b1.extBut b u (λ z=>hb (by simp [z])) e
 done:=λ s Q E st hQ=>by
  have D':=D.keep st.2
  have hp:=(Lw (w.params.setOrder a ep) es).length_eq
  have hl:¬ es.size < (pickOrder (w.params.setOrder a ep) es).size:=by simp at hp; omega
  refine Qv hh st.1 (Is D') (λ _ _ _ q=>Pd D' ft (by rw [Array.getElem?_eq_none (by omega)]; exact q)) λ h' b1=>?_
  exact hQ h' s.toks λ b u hb e=>b1 b u (λ z=>hb (by simp [z])) e
 self:=λ _ s _ _ st hQ=>L4 ⟨_,st.1,Z⟩ hQ
theorem Vp {h0:Heap} (D:Db knd h0 a ks o es ep t ms) (ft:w.params.followText "set-order" = false) (hd:(!t.plain && decide (es.size > 1)) = false) (hh:A.handled = none) (hne:a≠I) :
  Walks prog w A I [I,a] [I] es.size (λ i v=>(es.toList.map (·.2))[i]? = some v) (λ i h=>i≤es.size∧h.get? I = some (itObj (.int (Ll t.place i) 0) i a es.size ep)∧h.get? a = some o) where
 sub:=λ b hb=>by simp at hb; simp [hb]
 frame:=λ _ _ _ st hk=>⟨st.1,hk I (by simp) _ st.2.1,hk a (by simp) _ st.2.2⟩
 item:=λ i s Q E hi st hQ=>by
  have D':=D.keep st.2.2
  have hz:t.place.size = es.size:=by have:=D.fit; simp only [SetTable.fits,Bool.and_eq_true,beq_iff_eq] at this; exact this.1
  refine Q9 (x:=es[i].2) (nx:=Ll t.place (i + 1)) st.2.1 (Is D') (λ _ _ _ q=>Oh D' ft hd (by
   rw [Nu D.tab.rise (by omega),Array.getElem?_eq_getElem hi,Array.getElem?_eq_getElem (by omega)]
   have e:Ll t.place (i + 1) = t.place[i]'(by omega) + 1:=by simp [Ll,Array.getD,show i < t.place.size by omega]
   rw [e] at q
   exact q)) λ h' e1 b1=>?_
  exact hQ _ h' s.toks (by simp [hi]) ⟨hi,e1,(b1.2 a hne).trans st.2.2⟩ λ b u hb e=>b1.extBut b u (λ z=>hb (by simp [z])) e
 done:=λ s Q E st hQ=>by
  have D':=D.keep st.2.2
  have hz:t.place.size = es.size:=by have:=D.fit; simp only [SetTable.fits,Bool.and_eq_true,beq_iff_eq] at this; exact this.1
  refine Qv hh st.2.1 (Is D') (λ _ _ _ q=>Oh D' ft hd (by
   rw [Nu D.tab.rise (by omega),Array.getElem?_eq_none (by omega)]
   exact q)) λ h' b1=>?_
  exact hQ h' s.toks λ b u hb e=>b1 b u (λ z=>hb (by simp [z])) e
 self:=λ _ s _ _ st hQ=>L4 ⟨_,st.2.1,Z⟩ hQ
abbrev Oe (pl:List Nat):Obj:={ cls:=.type "tuple", data:=.seq (pl.map λ (p:Nat)=>rawInt p).toArray }
theorem U3 {h0:Heap} {tp:Addr} {pl:List Nat} (D:Db knd h0 a ks o es ep t ms) (hp:pl.Perm (List.range es.size)) (hh:A.handled = none) (hne:a≠I) (hnt:tp≠I) :
  Walks prog w A I [I,a,tp] [I] es.size (λ i v=>(pl.map λ p=>((es[p]?).map (·.2)).getD .none)[i]? = some v) (λ i h=>h.get? I = some (itObj (.ref tp) i a es.size ep)∧h.get? a = some o∧h.get? tp = some (Oe pl)) where
 sub:=λ b hb=>by simp at hb; simp [hb]
 frame:=λ _ _ _ st hk=>⟨hk I (by simp) _ st.1,hk a (by simp) _ st.2.1,hk tp (by simp) _ st.2.2⟩
 item:=λ i s Q E hi st hQ=>by
  have D':=D.keep st.2.1
  have hl:i < pl.length:=by rw [hp.length_eq,length_range]; exact hi
  have hm:pl[i] < es.size:=by have:=hp.mem_iff.mp (getElem_mem hl); simpa using this
  refine Yv (q:=pl[i]) (h0:=(es[pl[i]]).1) (x:=(es[pl[i]]).2) st.1 st.2.2 (Is D') (λ _ _ _ q=>D'.state q) (getElem?_eq_getElem hl) (by rw [Array.getElem?_eq_getElem hm]) λ h' e1 b1=>?_
  refine hQ _ h' s.toks ?_ ⟨e1,(b1.2 a hne).trans st.2.1,(b1.2 tp hnt).trans st.2.2⟩ λ b u hb e=>b1.extBut b u (λ z=>hb (by simp [z])) e
  rw [getElem?_map,getElem?_eq_getElem hl,Option.map_some,Array.getElem?_eq_getElem hm]
  rfl
 done:=λ s Q E st hQ=>by
  have D':=D.keep st.2.1
  refine Zz hh st.1 st.2.2 (Is D') (getElem?_eq_none (by rw [hp.length_eq,length_range]; exact le_refl _)) λ h' b1=>?_
  exact hQ h' s.toks λ b u hb e=>b1 b u (λ z=>hb (by simp [z])) e
 self:=λ _ s _ _ st hQ=>L4 ⟨_,st.1,Z⟩ hQ
theorem Ut {pl:List Nat} (hp:pl.Perm (List.range es.size)):(pl.map λ p=>((es[p]?).map (·.2)).getD .none).Perm (es.toList.map (·.2)):=by
 refine (hp.map _).trans ?_
 rw [show (List.range es.size).map (λ p=>((es[p]?).map (·.2)).getD Value.none) = es.toList.map (·.2) from ?_]
 refine List.ext_getElem (by simp) λ i h1 h2=>?_
 simp at h1
 simp [h1]
theorem AaE {Q:Value→Shared→Prop} (D:Db knd s.heap a ks o es ep t ms)
  (h:∀ (h':Heap) (d:Drawn) (I:Addr) (fp:List Addr) (vs:List Value) (St:Nat→Heap→Prop),(∀ b u,s.heap.get? b = some u→h'.get? b = some u)→vs.Perm (es.toList.map (·.2))→s.heap.objs.size≤I→(∀ b∈fp,b = a∨s.heap.objs.size≤b) →
   (∀ A':Around,A'.handled = none→Walks prog w A' I fp [I] es.size (λ i v=>vs[i]? = some v) St)→St 0 h'→Q (.ref I) { s with heap:=h',drawn:=d }):wpAny (model prog w) A (pyIter (.ref a)) Q E s:=by
 have ty:s.TypeIs (.ref a) "set" := ⟨o,D.at',D.ex.1⟩
 have hal:a < s.heap.objs.size:=Heap.lt_size D.at'
 have hal1:a≠s.heap.objs.size:=ne_of_lt hal
 refine wpAny_pyIter_slot ty PySem.F.slot_set_iter (wpAny_call_entry PySem.F.slot_set_iter ty Pa ?_ (PySem.F.args_set_iter_1 _))
 unfold Builtin.«frozenset.__iter__» Builtin.Frozenset.slot0
 refine wpAny_bind (wpAny_bind (m:=slotArgs "__iter__" 0 _) (wpAny_pure ?_))
 refine wpAny_of_eq (a:=a) rfl ?_
 refine wpAny_bind (m:=Builtin.Frozenset.sizeOf a) ?_
 unfold Builtin.Frozenset.sizeOf
 refine wpAny_bind (D.entries (wpAny_pure ?_))
 refine wpAny_bind (m:=setDrawn a) ?_
 unfold setDrawn
 refine wpAny_bind (D.state ?_)
 dsimp only
 refine wpAny_bind (Mb (wpAny_pure ?_))
 have fin:∀ (first:Value) (s1:Shared) (D1:Db knd s1.heap a ks o es ep t ms) (hk:Q (.ref s1.heap.objs.size) { s1 with heap:=s1.heap.push (itObj first 0 a es.size ep) }),wpAny (model prog w) A.in1 (do
   ret (← newFields "set_iterator" [first,rawInt 0,.ref a,rawInt es.size,rawInt (← setEpoch a)])) (λ fin s'=>∃ v,fin = .done (.ret v)∧∃ T' r,s'.TypeIs v T'∧typeLookup (.type T') "__next__" = pure (some r)∧Q v s') E s1:=by
  intro first s1 D1 hk
  refine wpAny_bind (wpAny_setEpoch_of D1.at' D1.dat D1.fit ?_)
  refine wpAny_bind (wpAny_newObj_type ?_ (by size_fits))
  exact wpAny_pure ⟨_,Z, "set_iterator", _,⟨_,Heap.get?_push_size _ rfl,Z⟩,B6.lookup,hk⟩
 cases ft:w.params.followText "set-order" with
 | true =>
  rw [show (!true && _) = false from rfl,if_neg Bool.false_ne_true]
  refine wpAny_bind (wpAny_pure ?_)
  refine fin _ s D ?_
  exact h _ s.drawn s.heap.objs.size _ _ _ (λ b u e=>Heap.get?_push_of_some _ e) ((Lw (w.params.setOrder a ep) es).map _) (le_refl _) (λ b hb=>by simp at hb; rcases hb with z | z; exact .inr (le_of_eq z.symm); exact .inl z)
   (λ A' hA=>X1 D ft hA hal1) ⟨Heap.get?_push_size _ rfl,Heap.get?_push_of_some _ D.at'⟩
 | false =>
  cases hd:(!t.plain && decide (es.size > 1)) with
  | false =>
   show wpAny _ _ (if (!false && (!t.plain && decide (es.size > 1))) = true then _ else _) _ _ s
   rw [hd,show (!false && false) = false from rfl,if_neg Bool.false_ne_true]
   refine wpAny_bind (wpAny_pure ?_)
   refine fin _ s D ?_
   exact h _ s.drawn s.heap.objs.size _ _ _ (λ b u e=>Heap.get?_push_of_some _ e) (.refl _) (le_refl _) (λ b hb=>by simp at hb; rcases hb with z | z; exact .inr (le_of_eq z.symm); exact .inl z)
    (λ A' hA=>Vp D ft hd hA hal1) ⟨zero_le _,Heap.get?_push_size _ rfl,Heap.get?_push_of_some _ D.at'⟩
  | true =>
   show wpAny _ _ (if (!false && (!t.plain && decide (es.size > 1))) = true then _ else _) _ _ s
   rw [hd,show (!false && true) = true from rfl,if_pos rfl]
   refine wpAny_bind (AbE es.size (List.range es.size) s _ (by simp) λ pl d hp=>?_)
   have hpl:pl.length = es.size:=by rw [hp.length_eq,length_range]
   refine wpAny_bind (wpAny_newTuple ?_ (by rw [length_map,hpl]; exact fits_of_scanBound D.sm))
   refine fin _ ⟨s.heap.push (Oe pl),s.gens,d,s.toks,s.os⟩ (D.keep (Heap.get?_push_of_some _ D.at')) ?_
   have hI:(s.heap.push (Oe pl)).objs.size = s.heap.objs.size + 1:=Heap.size_push _ _
   refine h _ d (s.heap.push (Oe pl)).objs.size _ _ _ (λ b u e=>Heap.get?_push_of_some _ (Heap.get?_push_of_some _ e)) (Ut hp) (by rw [hI]; exact le_succ _) (λ b hb=>?_)
    (λ A' hA=>U3 (tp:=s.heap.objs.size) D hp hA (by rw [hI]; exact ne_of_lt (lt_succ_of_lt hal)) (by rw [hI]; exact ne_of_lt (lt_succ_self _))) ⟨Heap.get?_push_size _ rfl,Heap.get?_push_of_some _ (Heap.get?_push_of_some _ D.at'),Heap.get?_push_of_some _ (Heap.get?_push_size _ rfl)⟩
   simp at hb
   rcases hb with z | z | z
   ·exact .inr (by rw [z]; exact le_succ _)
   ·exact .inl z
   ·exact .inr (le_of_eq z.symm)
end
section
variable {prog:Program} {w:World} {κ:Type} [DecidableEq κ] {knd:PySem.KeyKind prog w κ} {A:Around} {E:Value→Shared→Prop} {s:Shared} {a I:Addr} {ks:List κ} {o:Obj} {es:Array (Int× Value)} {ep:Nat} {t:SetTable} {ms:List κ}
theorem Yw {Q:Bool→Shared→Prop} (ty:s.TypeIs (.ref a) "set") (h:Q false s):wpAny (model prog w) A (Builtin.List.listLengthHint (.ref a)) Q E s:=by
 unfold Builtin.List.listLengthHint
 refine wpAny_bind (wpAny_specialOf ty PySem.F.slot_set_len.lookup ?_)
 generalize e:("set.__len__" : String) = nm
 wp_delta
 rw [show splitId nm = some ("set", "__len__") from by subst e; decide +kernel]
 subst e
 refine wpAny_bind (wpAny_isInstance (T:= "set") (b:=true) ty sub_set_self ?_)
 refine wpAny_ite_split (λ c=>absurd c (by decide)) λ _=>?_
 refine wpAny_ite_split (λ _=>?_) λ c=>absurd (by decide +kernel) c
 exact wpAny_bind (wpAny_typeOf ty (wpAny_pure h))
theorem Yx {vs:List Value} {acc:Array Value} {n:Nat} (hn:vs.length = n) (h:ItemsOf (λ i v=>vs[i]? = some v) acc n):acc.toList = vs:=by
 refine List.ext_getElem (by rw [Array.length_toList,h.1,hn]) λ i h1 h2=>?_
 have q:vs[i]? = some (acc.toList[i]):=h.2 i (acc.toList[i]) (by simp at h1; simp [h1])
 rw [getElem?_eq_getElem h2] at q
 exact (Option.some.inj q).symm
theorem U0 {R:Result→Shared→Prop} (D:Db knd s.heap a ks o es ep t ms) (hh:A.handled = none) (S:Addr) (hSa:S≠a) (res:Value) (hS:s.heap.get? S = some { cls:=.type "list", data:=.seq #[] })
  (h:∀ h' tk d acc' c',(∀ b u,b≠S→s.heap.get? b = some u→h'.get? b = some u)→h'.get? S = some { cls:=.type "list", dict:=none,data:=.seq acc' c',slots:=#[] }→acc'.toList.Perm (es.toList.map (·.2))→R (.ok (.ret res)) { s with heap:=h',drawn:=d,toks:=tk }) :
  wpAny (model prog w) A.in1 (Builtin.List.listExtendWith (.ref S) (.ref a) res)
   (λ fin s'=>match fin with | .done f=>R (.ok f) s' | .again c'=>c'.quiet = true∧codeAny (model prog w) A c' R s') (λ e s'=>R (.error e) s') s:=by
 have ty:s.TypeIs (.ref a) "set" := ⟨o,D.at',D.ex.1⟩
 have hSl:S < s.heap.objs.size:=Heap.lt_size hS
 unfold Builtin.List.listExtendWith
 refine wpAny_bind (wpAny_typeOf ty ?_)
 have e1:Builtin.List.listSameRef (.ref S) (.ref a) = false:=by simp [Builtin.List.listSameRef,hSa]
 rw [e1]
 rw [if_neg (by decide)]
 refine wpAny_bind (AaE D λ h1 d I fp vs St k1 pv hI hfp W st=>?_)
 have hSf:S∉fp:=λ z=>by
  rcases hfp S z with q | q
  ·exact hSa q
  ·exact absurd q (Nat.not_le.mpr hSl)
 have hvl:vs.length = es.size:=by rw [pv.length_eq]; simp
 have go:∀ (h2:Heap) (c tk:Nat),St 0 h2→(∀ b u,b≠S→s.heap.get? b = some u→h2.get? b = some u)→h2.get? S = some { cls:=.type "list", data:=.seq #[] c } →
   codeAny (model prog w) A (.builtin "list.extend.loop" ⟨[.ref S,.ref I,res],[]⟩) R { s with heap:=h2,drawn:=d,toks:=tk }:=by
  intro h2 c tk st2 k2 hS2
  refine codeAny_extend_loopS (W A.in1 hh).toS (fits_of_scanBound D.sm) S hSf res es.size 0 _ #[] c rfl (zero_le _) st2 hS2 (ItemsOf.nil _) λ s' acc' c' mv hS' hacc=>?_
  have ee:=Yx hvl hacc
  obtain ⟨h',g',d',tk',os'⟩:=s'
  have eg:g' = s.gens:=mv.gens
  have ed:d' = d:=mv.drawn
  have eo:os' = s.os:=mv.os
  subst eg ed eo
  refine h h' tk' _ acc' c' (λ b u hb e=>mv.heap b u (λ z=>?_) (k2 b u hb e)) hS' (by rw [ee]; exact pv)
  rcases mem_cons.mp z with z | z
  ·exact hb z
  ·rw [mem_singleton] at z
   exact absurd (Heap.lt_size e) (by rw [z]; exact not_lt.mpr hI)
 have hS1:=k1 _ _ hS
 refine wpAny_bind (wpAny_holding (Yw ⟨o,k1 _ _ D.at',D.ex.1⟩ ?_))
 refine wpAny_ite_split (λ _=>?_) λ _=>wpAny_pure ⟨plainId_quiet PySem.F.plain_extend_loop _,go _ _ _ st (λ b u _ e=>k1 b u e) hS1⟩
 refine wpAny_bind (wpAny_rule ?_)
 refine wpAny_bind ?_
 show wpAny _ _ (updateSeq S (·.push .none) >>= λ _=>updateSeq S (·.pop)) _ _ _
 refine wpAny_bind (wpAny_updateSeq hS1 rfl ?_)
 have hS2:=Heap.get?_update_self (Obj.mapSeq (·.push Value.none)) hS1 rfl
 refine wpAny_updateSeq (hz:=by seq_fits) hS2 rfl ?_
 have hS3:=Heap.get?_update_self (Obj.mapSeq (·.pop)) hS2 rfl
 have oth:∀ b u,b≠S→h1.get? b = some u→((h1.update S (Obj.mapSeq (·.push Value.none))).update S (Obj.mapSeq (·.pop))).get? b = some u:=λ b u hb e =>
  (Heap.get?_update_other _ _ (Ne.symm hb)).trans ((Heap.get?_update_other _ _ (Ne.symm hb)).trans e)
 exact wpAny_pure ⟨plainId_quiet PySem.F.plain_extend_loop _,go _ _ _ ((W A.in1 hh).frame 0 _ _ st λ b hb u e=>oth b u (λ z=>hSf (z ▸ hb)) e) (λ b u hb e=>oth b u hb (k1 b u e)) hS3⟩
theorem Ss {R:List Value→Shared→Prop} (D:Db knd s.heap a ks o es ep t ms) (hh:A.handled = none)
  (h:∀ (h':Heap) (tk:Nat) (d:Drawn) (vs:List Value),(∀ b u,s.heap.get? b = some u→h'.get? b = some u)→s.heap.objs.size≤h'.objs.size→vs.Perm (es.toList.map (·.2))→R vs { s with heap:=h',drawn:=d,toks:=tk }) :
  wpAny (model prog w) A (collect (.ref a)) R E s:=by
 unfold collect
 refine wpAny_bind (wpAny_runValue (codeAny_builtin entry_proto_collect' ?_))
 rw [Around.under_plainId PySem.F.plain_proto_collect _]
 refine wpAny_bind (m:=newList []) (wpAny_newObj_type ?_)
 refine wpAny_pure ⟨plainId_quiet PySem.F.plain_list_iadd _,codeAny_builtin entry_list_iadd' ?_⟩
 rw [Around.under_plainId PySem.F.plain_list_iadd _]
 have hS:(s.heap.push { cls:=.type "list", data:=.seq ([]:List Value).toArray }).get? s.heap.objs.size = some { cls:=.type "list", data:=.seq #[] }:=Heap.get?_push_size _ rfl
 show wpAny _ A.in1 (Builtin.List.listExtendWith (.ref s.heap.objs.size) (.ref a) (.ref s.heap.objs.size)) _ _ _
 have key:=U0 (A:=A) (s:={ s with heap:=s.heap.push { cls:=.type "list", data:=.seq ([]:List Value).toArray } })
  (R:=λ (q:Result) (s':Shared)=>∃ h' tk d acc' c',q = .ok (.ret (.ref s.heap.objs.size))∧s' = { s with heap:=h',drawn:=d,toks:=tk }∧(∀ b u,s.heap.get? b = some u→h'.get? b = some u) ∧
   h'.get? s.heap.objs.size = some { cls:=.type "list", dict:=none,data:=.seq acc' c',slots:=#[] }∧acc'.toList.Perm (es.toList.map (·.2)))
  (D.keep (Heap.get?_push_of_some _ D.at')) hh s.heap.objs.size (ne_of_gt (Heap.lt_size D.at')) (.ref s.heap.objs.size) hS
  (λ h' tk d acc' c' k1 e1 p1=>⟨h',tk,d,acc',c',Z,Z,λ b u e=>k1 b u (ne_of_lt (Heap.lt_size e)) (Heap.get?_push_of_some _ e),e1,p1⟩)
 refine wpAny_mono key (λ fin s' x=>?_) λ e s' x=>?_
 ·cases fin with
  | done f =>
   obtain ⟨h',tk,d,acc',c',e,rfl,k1,e1,p1⟩:=x
   cases e
   exact wpAny_bind (m:=load s.heap.objs.size) (wpAny_load e1 (wpAny_pure (h h' tk d acc'.toList k1 (le_of_lt (Heap.lt_size e1)) p1)))
  | again c₁ =>
   refine ⟨x.1,codeAny_mono x.2 λ q s₂ y=>?_⟩
   obtain ⟨h',tk,d,acc',c',rfl,rfl,k1,e1,p1⟩:=y
   exact wpAny_bind (m:=load s.heap.objs.size) (wpAny_load e1 (wpAny_pure (h h' tk d acc'.toList k1 (le_of_lt (Heap.lt_size e1)) p1)))
 ·obtain ⟨_,_,_,_,_,z,_⟩:=x
  cases z
end
section
variable {prog:Program} {w:World} {A:Around} {E:Value→Shared→Prop} {s:Shared} {a:Addr} {ks:List Int}
theorem AbH {vs:List Value} {ns:List Int} (h:PySem.Paired (λ v n=>∃ t,v = Value.int n t) vs ns):IntsAre vs ns:=by
 induction h with
 | nil=>exact .nil
 | cons f _ ih =>
  obtain ⟨t,rfl⟩:=f
  exact .cons _ t ih
theorem Vv {Q:Value→Shared→Prop} (S:SetT (intKind prog w) s.heap a ks) (hh:A.handled = none) (h64:ks.length < 64)
  (h:∀ (h':Heap) (tk:Nat) (d:Drawn) (L:Addr) (out:Array Value) (c:Nat) (ns:List Int),(∀ b u,s.heap.get? b = some u→h'.get? b = some u)→s.heap.objs.size≤L→h'.get? L = some (seqObj "list" out c)→IntsAre out.toList ns→ns.Pairwise (· < ·)→(∀ k,k∈ns↔k∈ks) →
   Q (.ref L) { s with heap:=h',drawn:=d,toks:=tk }):wpAny (model prog w) A (call (.builtin "sorted") [.ref a]) Q E s:=by
 obtain ⟨o,es,ep,t,ms,D⟩:=S
 refine Calls.call_function_entry kind_sorted plain_sorted entry_sorted (args_sorted1 _) ?_
 unfold Builtin.«sorted»
 refine wpAny_bind (m:=checkCount "sorted" 1 1 _) (wpAny_pure ?_)
 refine wpAny_bind (Ss (A:=A.in1) D hh λ h1 tk d vs k1 hsz pv=>?_)
 have pr:PySem.Paired (λ v n=>∃ t,v = Value.int n t) (es.toList.map (·.2)) ms:=by
  have:=D.pr
  generalize es.toList = l at this
  clear pv D
  induction this with
  | nil=>exact .nil
  | cons f _ ih=>exact .cons (Value.isInt_shape f) ih
 obtain ⟨ns,pn,r1⟩:=Jz pv pr
 have hI:=AbH r1
 have hlen:vs.length < 64:=by
  have h1:ms.length≤ks.length:=Js D.nd λ k hk=>(D.mem k).mp hk
  have h2:=pv.length_eq
  have h3:=D.size
  simp at h2
  omega
 refine wpAny_bind (wpAny_newList ?_ (by rw [sizeLine_eq]; omega))
 have hL:(h1.push (seqObj "list" vs.toArray 0)).get? h1.objs.size = some (seqObj "list" vs.toArray 0):=Heap.get?_push_size _ rfl
 refine wpAny_bind (wpAny_holding (wpAny_call_entry slot_list_sort ⟨_,hL,Z⟩ entry_list_sort (list_sort_tree hL hI hlen λ out ns' a1 a2 a3=>⟨_,Z,?_⟩) (args_list_sort _)))
 have hlt:h1.objs.size < (h1.push (seqObj "list" vs.toArray 0)).objs.size:=Heap.lt_size hL
 obtain ⟨c,hc⟩:∃ c,(sortedHeap (h1.push (seqObj "list" vs.toArray 0)) h1.objs.size vs out).get? h1.objs.size = some (seqObj "list" out c):=sortedHeap_at hL
 have p3:=a2.trans pn
 refine wpAny_pure ⟨_,Z,h _ tk d h1.objs.size out c ns' (λ b u e=>?_) ?_ hc a1 ?_ λ k=>p3.mem_iff.trans (D.mem k)⟩
 ·have hb:=Heap.lt_size (k1 b u e)
  rw [sortedHeap_old (ne_of_lt hb) (lt_trans hb hlt)]
  exact Heap.get?_push_of_some _ (k1 b u e)
 ·exact hsz
 ·have nd:ns'.Nodup:=p3.nodup_iff.mpr D.nd
  exact (Pairwise.and a3 nd).imp λ {x y} z=>by omega
end
theorem Qw:∀ {a b:List Int},a.Pairwise (· < ·)→b.Pairwise (· < ·)→(∀ k,k∈a↔k∈b)→a = b
 | [],[],_,_,_=>rfl
 | [],y :: b,_,_,h=>by simpa using (h y).mpr mem_cons_self
 | x :: a,[],_,_,h=>by simpa using (h x).mp mem_cons_self
 | x :: a,y :: b,ha,hb,h=>by
  have ha':=pairwise_cons.mp ha
  have hb':=pairwise_cons.mp hb
  have e:x = y:=by
   rcases mem_cons.mp ((h x).mp mem_cons_self) with z | z
   ·exact z
   ·rcases mem_cons.mp ((h y).mpr mem_cons_self) with z' | z'
    ·exact z'.symm
    ·have:=ha'.1 y z'; have:=hb'.1 x z; omega
  subst e
  congr 1
  refine Qw ha'.2 hb'.2 λ k=>⟨λ z=>?_,λ z=>?_⟩
  ·rcases mem_cons.mp ((h k).mp (mem_cons_of_mem _ z)) with q | q
   ·have:=ha'.1 k z; omega
   ·exact q
  ·rcases mem_cons.mp ((h k).mpr (mem_cons_of_mem _ z)) with q | q
   ·have:=hb'.1 k z; omega
   ·exact q
def ins (k:Int):List Int→List Int
 | []=>[k]
 | x :: r=>if k < x then k :: x :: r else if k = x then x :: r else x :: ins k r
def nub:List Int→List Int
 | []=>[]
 | x :: r=>ins x (nub r)
theorem Os {k j:Int}:∀ {l:List Int},j∈ins k l↔j = k∨j∈l
 | []=>by simp [ins]
 | x :: r=>by
  unfold ins
  split
  ·simp
  ·split
   ·rename_i h; subst h; simp
   ·rw [mem_cons,Os,mem_cons]
    constructor
    ·rintro (z | z | z)
     ·exact .inr (.inl z)
     ·exact .inl z
     ·exact .inr (.inr z)
    ·rintro (z | z | z)
     ·exact .inr (.inl z)
     ·exact .inl z
     ·exact .inr (.inr z)
theorem R3 {k:Int}:∀ {l:List Int},l.Pairwise (· < ·)→(ins k l).Pairwise (· < ·)
 | [],_=>by simp [ins]
 | x :: r,h=>by
  have h':=pairwise_cons.mp h
  unfold ins
  split
  ·rename_i c
   refine pairwise_cons.mpr ⟨λ y hy=>?_,h⟩
   rcases mem_cons.mp hy with z | z
   ·omega
   ·have:=h'.1 y z; omega
  ·split
   ·exact h
   ·refine pairwise_cons.mpr ⟨λ y hy=>?_,R3 h'.2⟩
    rcases Os.mp hy with z | z
    ·omega
    ·exact h'.1 y z
theorem Iu {j:Int}:∀ {l:List Int},j∈nub l↔j∈l
 | []=>by simp [nub]
 | x :: r=>by unfold nub; rw [Os,Iu,mem_cons]
theorem Gu:∀ (l:List Int),(nub l).Pairwise (· < ·)
 | []=>.nil
 | x :: r=>R3 (Gu r)
theorem Aca {l ms:List Int} (h:ms.Pairwise (· < ·)) (m:∀ k,k∈ms↔k∈l):ms = nub l:=Qw h (Gu l) λ k=>(m k).trans Iu.symm
theorem Kg:∀ (l:List Int),(nub l).length≤l.length:=λ l=>Js ((Gu l).imp λ {a b} h=>by omega) λ x hx=>Iu.mp hx
section
variable {X:Cx}
def tSS (K:PySem.W.Frag) (te:TE):TE:=λ σ H Q=>te σ H λ x H1=>∃ l ns,x = .ref l∧SqL K H1 l ((ns:List Int).map V.int)∧ns.length < 64∧∀ r,H1 r = none→Q (.ref r) (upd H1 r (.lst ((nub ns).map V.int)))
theorem Yn:bootBuiltins "set" = some (.type "set"):=by decide +kernel
theorem Tg {e:Expr} {te:TE} {p p2 pos pos2:Pos} (hc:X.calm = true) (hg:Gl X "sorted") (hm:X.mg "sorted" = none) (hg2:Gl X "set") (hm2:X.mg "set" = none) (he:PE X e te)
  (h1:starEach [e] X.env = [(false,eval e X.env)]:=by rfl) (h2:starEach [.Call (.Name "set" p2) [e] [] pos2] X.env = [(false,eval (.Call (.Name "set" p2) [e] [] pos2) X.env)]:=by rfl) :
  PE X (.Call (.Name "sorted" p) [.Call (.Name "set" p2) [e] [] pos2] [] pos) (tSS X.K te):=by
 intro pins s σ H Q I h
 refine wpAny_Call_Name_kw (Gh I hg hm boot_sorted ?_ (by decide) (by decide))
 refine PyProof.Rows.callWith_builtin1 ?_ h2 rfl
 rw [h2]
 refine Calls.spliced_cons ?_
 refine wpAny_Call_Name_kw (Gh I hg2 hm2 Yn ?_ (by decide) (by decide))
 refine PyProof.Rows.callWith_type1 ?_ h1 rfl
 rw [h1]
 refine Calls.spliced_cons (thn (he pins s σ H _ I h) λ u s1 ⟨x,H1,I1,r1,q1⟩=>Calls.spliced_nil ?_)
 obtain ⟨l,ns,rfl,hS,hl,q⟩:=q1
 cases r1
 obtain ⟨its,rv,pl,hz⟩:=I1.list hS
 have hlen:=rv.length
 rw [length_map] at hlen
 have hi:=Kq rv
 have hsz:its.toArray.size = its.length:=by simp
 refine Yb (knd:=intKind X.prog X.w) (ks:=ns) (I1.ok.hd hc) pl.isList (by rw [hsz]; exact hlen) (λ i v hv=>?_) (by rw [hsz]; show its.length + 1 < 4096; omega) λ s2 m=>Calls.spliced_nil ?_
 ·obtain ⟨t,e⟩:=IntsAre.int_at hi i v (by simpa using hv)
  have hil:i < ns.length:=by
   rw [hlen]
   have:=Array.getElem?_eq_some_iff.mp hv
   obtain ⟨z,_⟩:=this
   simpa using z
  subst e
  refine ⟨ns.getD i 0,?_,intKind_is _ _ _ _,Z⟩
  rw [getD_eq_getElem?_getD,getElem?_eq_getElem hil]
  rfl
 obtain ⟨h',tk,rfl,S,k1⟩:=m
 have hsz2:s1.heap.objs.size < h'.objs.size:=by
  obtain ⟨o,es,ep,t,ms,D⟩:=S
  exact Heap.lt_size D.at'
 refine Vv (s:={ s1 with heap:=h',toks:=tk }) S (I1.ok.hd hc) hl λ h2 tk2 d L out c ns' k2 hL eL aI aP aM=>?_
 have hLn:H1 L = none:=I1.hok.fresh (le_trans (le_of_lt hsz2) hL)
 have en:=Aca aP aM
 subst en
 have kp:∀ b u,s1.heap.get? b = some u→h2.get? b = some u:=λ b u e=>k2 b u (k1 b u (Heap.lt_size e) e)
 have hLe:s1.heap.objs.size≤L:=le_trans (le_of_lt hsz2) hL
 have nl:=Kg ns
 have I2:Inv X pins σ (upd H1 L (.lst ((nub ns).map V.int))) { s1 with heap:=h2,gens:=s1.gens,drawn:=d,toks:=tk2 } :=
  I1.call (ch:=[]) (Un.laid kp hLe hLn) (I1.hok.laid kp hLe ⟨by rw [length_map]; exact He (by omega),out.toList,c,Jr aI,by rw [eL]⟩) I1.bare (λ _ z=>nomatch z)
 exact ⟨.ref L,_,I2,Z,q L hLn⟩
end
theorem Bq {α β:Type} {F:α→β→Prop}:∀ {l:List α} {m:List β} {j:Nat} {x:α},PySem.Paired F l m→l[j]? = some x→∃ y,m[j]? = some y∧F x y
 | _,_,j,x,.nil,e=>by simp at e
 | _,_,0,x,.cons f t,e=>by
  simp at e; subst e
  exact ⟨_,Z,f⟩
 | _,_,j + 1,x,.cons f t,e=>by
  obtain ⟨y,e1,e2⟩:=Bq (j:=j) t (by simpa using e)
  exact ⟨y,by simpa using e1,e2⟩
theorem Dc {α β:Type} {F:α→β→Prop}:∀ {l:List α} {m:List β},l.length = m.length→(∀ (j:Nat) (x:α),l[j]? = some x→∃ y,m[j]? = some y∧F x y)→PySem.Paired F l m
 | [],[],_,_=>.nil
 | [],_ :: _,h,_=>by simp at h
 | _ :: _,[],h,_=>by simp at h
 | x :: l,y :: m,h,k=>by
  obtain ⟨y',e,f⟩:=k 0 x rfl
  simp at e; subst e
  exact .cons f (Dc (by simpa using h) λ j z hz=>by simpa using k (j + 1) z (by simpa using hz))
section
variable {X:Cx}
end
section
variable {X:Cx}
end
section
variable {X:Cx}
end
section
variable {X:Cx}
theorem R5 {es:List Expr} {k:Nat} {pos:Pos} {rest:List Expr} {env:Env}:starEach (.Tuple es k pos :: rest) env = (false,eval (.Tuple es k pos) env) :: starEach rest env:=rfl
end
section
variable {X:Cx}
end
section
variable {X:Cx}
end
end L2
end
section
set_option Elab.async false
set_option linter.all false
set_option maxRecDepth 100000
namespace L2
open PySem PySem.Spec PyProof.Rows
section
variable {P:Program} {w:World} {K:PySem.W.Frag} {mg:Str→Option Value} {base:Heap}
end
end L2
end
section
set_option Elab.async false
set_option linter.all false
set_option maxRecDepth 100000
set_option maxHeartbeats 64000000
namespace L2
open PySem PySem.Spec PyProof.Rows
section
variable {P:Program} {w:World} {K:PySem.W.Frag} {mg:Str→Option Value} {base:Heap} {N:List Str} {qual:Str} {scope:Scope} {f:Addr} {cd:Value} {A:Around} {outer:List Env} {s₀:Shared} {H₀:Hp} {E:XK}
end
section
variable {X:Cx} {k j:Nat} {f:Addr} {fd:FuncData} {ps:List Str} {sp:Sp} {x:Str} {p pos:Pos} {e:Expr} {es:List Expr} {t:TA}
end
section
variable {P:Program} {w:World} {K:PySem.W.Frag} {mg:Str→Option Value} {base:Heap}
end
section
variable {P:Program} {w:World} {K:PySem.W.Frag} {mg:Str→Option Value} {base:Heap} {N:List Str} {qual:Str} {scope:Scope} {f:Addr} {cd:Value} {A:Around} {outer:List Env} {s₀:Shared} {H₀:Hp} {E:XK}
end
abbrev Cx.hold (X:Cx) (u:Value):Cx:={ X with A:=X.A.mark (some u),calm:=false,xe:=λ _ _=>False }
section
variable {X:Cx} {pins:List (Addr× Obj)} {σ:St} {H:Hp} {s:Shared} {u:Value}
end
section
variable {X:Cx} {pins:List (Addr× Obj)} {σ:St} {H H':Hp} {s s':Shared} {B:Heap} {ea C:Addr} {a0:Value}
end
section
variable {X:Cx} {x:Str} {np pos:Pos} {b0:Stmt} {suite:List Stmt} {hs:List ExceptHandler} {C0:Addr} {t:TS} {r:Addr→TS}
end
end L2
end
section
set_option Elab.async false
set_option linter.all false
set_option maxRecDepth 100000
set_option maxHeartbeats 64000000
namespace L2
open PySem PySem.Spec PyProof.Rows
open PySem.Builtin.Str
section
variable {X:Cx}
end
section
variable {X:Cx}
end
def Its (x:Str):It:=⟨λ i _=>i < x.cps.size,λ i H v H'=>H' = H∧∃ c,x.cps[i]? = some c∧v = .str ⟨#[c]⟩,λ i _=>x.cps.size≤i⟩
section
variable {X:Cx} {pins:List (Addr× Obj)} {σ:St} {H:Hp} {s:Shared}
end
section
variable {X:Cx}
end
end L2
end
section
set_option Elab.async false
set_option linter.all false
set_option maxRecDepth 100000
set_option maxHeartbeats 64000000
namespace L2
open PySem PySem.Spec PyProof.Rows
open PySem.Builtin.Str PySem.StrLaws
def Of (cur:List Nat):List (List Nat):=if cur = [] then [] else [cur]
def wd:List Nat→List Nat→List (List Nat)
 | cur,[]=>Of cur
 | cur,c :: l=>if Unicode.isSpace c = true then Of cur ++ wd [] l else wd (cur ++ [c]) l
def isM (c:Nat):Bool:=c == 123 || c == 125 || c == 59 || c == 124
def tok:List Nat→List Nat→List (List Nat)
 | cur,[]=>Of cur
 | cur,c :: l=>if Unicode.isSpace c = true then Of cur ++ tok [] l else if isM c = true then Of cur ++ [c] :: tok [] l else tok (cur ++ [c]) l
end L2
end
section
set_option Elab.async false
set_option linter.all false
set_option maxRecDepth 100000
set_option maxHeartbeats 64000000
namespace L2
open PySem PySem.Spec PyProof.Rows
section
variable {P:Program} {w:World} {K:PySem.W.Frag} {mg:Str→Option Value} {base:Heap} {N:List Str} {qual:Str} {scope:Scope} {f:Addr} {cd:Value} {A:Around} {outer:List Env} {s₀:Shared} {H₀:Hp} {E:XK}
end
section
variable {X:Cx}
theorem Inv.freeze {pins:List (Addr× Obj)} {σ:St} {H:Hp} {s:Shared} {d:Addr} {kvs:List (Key× V)} (I:Inv X pins σ H s) (h:H d = some (.dK kvs)):∃ o,Inv X pins σ (upd H d (.frz o (.dK kvs))) s:=by
 have hk:=I.hok d _ h
 obtain ⟨z1,z2,vs,r,o,es,ep,e,rest⟩:=id hk
 have ne:∀ {b:Addr} {u:HO},H b = some u→u≠.dK kvs→b≠d:=λ hb hu hz=>by
  rw [hz,h] at hb
  exact hu (Option.some.inj hb).symm
 have nn:∀ {b:Addr},H b = none→b≠d:=λ hb hz=>by rw [hz,h] at hb; cases hb
 refine ⟨o,I.un (h':=s.heap) (t':=s.toks) ⟨λ b ob q _ _ _=>q,λ b ob q _ _ _=>⟨ob.slots,q⟩,λ b ob q n _=>by rw [upd_ne (nn n)]; exact n,λ b ob q _=>⟨ob,q⟩,λ b xs q=>by rw [upd_ne (ne q (by intro z; cases z))]; exact q,λ b ob u q=>by rw [upd_ne (ne q (by intro z; cases z))]; exact q,λ b ps q=>⟨#[],by rw [upd_ne (ne q (by intro z; cases z)),Array.append_empty]; exact q⟩⟩ λ b u q=>?_⟩
 have stay:∀ {b:Addr} {u:HO},B5 X.prog X.w H s.heap b u→B5 X.prog X.w (upd H d (.frz o (.dK kvs))) s.heap b u:=λ x=>x.stay (λ _ _ _ q=>q) (λ c hc=>by rw [upd_ne (ne hc (by intro z; cases z))]; exact hc) λ c xs hc=>by rw [upd_ne (ne hc (by intro z; cases z))]; exact hc
 by_cases hb:b = d
 ·subst hb
  rw [Ab] at q
  cases q
  exact ⟨e,stay hk⟩
 ·rw [upd_ne hb] at q
  exact stay (I.hok b u q)
def Adl (t:TE):TE:=λ σ H Q=>t σ H λ v H1=>∃ d kvs,v = .ref d∧H1 d = some (.dK kvs)∧∀ o,Q v (upd H1 d (.frz o (.dK kvs)))
theorem Oj {e:Expr} {t:TE} (he:PE X e t):PE X e (Adl t):=by
 intro pins s σ H Q I h
 refine thn (he pins s σ H _ I h) λ u s1 ⟨v,H1,I1,r1,d,kvs,e,hd,q⟩=>?_
 obtain ⟨o,I2⟩:=I1.freeze hd
 exact ⟨v,_,I2,r1,q o⟩
theorem Qp {P:Program} {w:World} {k:Key} {v:Value} (h:(mixKind P w).is k v = true):Bd (kV k) v:=by
 rw [Vm] at h
 rcases Cm h with ⟨i,t,rfl,rfl⟩ | ⟨x,t,rfl,rfl⟩
 ·exact ⟨t,Z⟩
 ·exact ⟨t,Z⟩
theorem Kb (hc:X.calm = true):Fy X (.type "list") (λ xs H Q=>∃ (a:Addr) (kvs:List (Key× V)),xs = [.ref a]∧Rd H a (.dK kvs)∧∀ r,H r = none→Q (.ref r) (upd H r (.lst (kvs.map λ p=>kV p.1)))):=by
 intro pins s σ H xs us Q I r h
 obtain ⟨a,kvs,rfl,ha,q⟩:=h
 obtain ⟨u,rfl,ru⟩:=r.one
 cases ru
 obtain ⟨z,hd,vs,rel,dd⟩:=Kt I.hok ha
 obtain ⟨ep,hat⟩:=dd.dictAt
 have hvl:=PySem.Paired.length rel
 refine PySem.W.kdl_call (PySem.W.kdl_dict (knd:=mixKind X.prog X.w) (kvs:=vs) (ep:=ep) hd) (I.ok.hd hc) hat (by omega) λ h1 tk acc c k1 e1 hacc=>?_
 have hal:acc.toList.length = vs.length:=by rw [Array.length_toList]; exact hacc.1
 have hV:Bb (kvs.map λ p=>kV p.1) acc.toList:=by
  refine Dc (by rw [length_map,hal]; omega) λ j x e=>?_
  rw [getElem?_map] at e
  cases ej:kvs[j]? with
  | none=>rw [ej] at e; cases e
  | some p =>
   rw [ej] at e
   cases e
   have hj:j < acc.toList.length:=by have:=(List.getElem?_eq_some_iff.mp ej).1; omega
   refine ⟨acc.toList[j],getElem?_eq_getElem hj,?_⟩
   obtain ⟨k,x,e1,e2⟩:=hacc.2 j acc.toList[j] (by rw [← Array.getElem?_toList]; exact getElem?_eq_getElem hj)
   obtain ⟨y,e4,e5,_⟩:=Bq rel ej
   rw [e1] at e4
   cases e4
   show Bd (kV p.1) _
   rw [show p.1 = k from e5]
   exact Qp e2
 exact ⟨.ref s.heap.objs.size,_,I.laid (t':=tk) (o:=.lst (kvs.map λ p=>kV p.1)) k1 (le_refl _) ⟨by rw [length_map]; exact z,acc.toList,c,hV,by rw [e1]⟩,Z,q _ (I.hok.fresh (le_refl _))⟩
def Itk (d:Addr) (o:Obj) (kvs:List (Key× V)):It :=
 ⟨λ i H=>H d = some (.frz o (.dK kvs))∧i < kvs.length,
  λ i H v H'=>H' = H∧∃ p,kvs[i]? = some p∧v = kV p.1,
  λ i H=>H d = some (.frz o (.dK kvs))∧kvs.length≤i⟩
theorem J6 {P:Program} {w:World} {H:Hp} {h:Heap} {d:Addr} {o:Obj} {kvs:List (Key× V)} (ok:HOk P w H h) (e:H d = some (.frz o (.dK kvs))):h.get? d = some o∧∃ vs ep,KV kvs vs∧h.DictAt (mixKind P w) d vs ep∧(d == sysModules) = false∧∃ es,o.data = .dict es ep:=by
 obtain ⟨e1,z,sm,vs,rel,o',es,ep,e2,r⟩:=(show B5 P w H h d (.frz o (.dK kvs)) from ok d _ e)
 have:o' = o:=Option.some.inj (e2.symm.trans e1)
 subst this
 exact ⟨e1,vs,ep,rel,⟨o',es,e2,r⟩,sm,es,r.2.1⟩
theorem Ql {o:Obj} {es es':Array DictEntry} {ep ep':Nat} (h:o.data = .dict es ep) (h':o.data = .dict es' ep'):ep' = ep:=by
 rw [h] at h'
 cases h'
 rfl
theorem V4 {P:Program} {w:World} {K:PySem.W.Frag} {tg:Expr} {it d:Addr} {o:Obj} {kvs:List (Key× V)} {ep:Nat} (hep:∃ es,o.data = .dict es ep):Lo P w K tg (Itk d o kvs) [it] it (λ i h=>h.IsKeyIter it d i kvs.length ep) where
 mem:=by simp
 obj:=λ i h st b hb=>by
  cases mS hb
  obtain ⟨ob,e,c,dt⟩:=st
  exact ⟨ob,e,λ v z=>by rw [dt] at z; cases z⟩
 keep:=λ i h h' st k=>by
  obtain ⟨ob,e,c,dt⟩:=st
  exact ⟨ob,k _ (by simp) _ e,c,dt⟩
 item:=by
  intro X hP hw hK hc i pins s σ H E I hf st hg
  subst hP hw hK
  obtain ⟨hd,hi⟩:=hg
  obtain ⟨e1,vs,ep',rel,hat,sm,es',de⟩:=J6 I.hok hd
  obtain ⟨es,de0⟩:=hep
  have:ep' = ep:=Ql de0 de
  subst this
  have hvl:=PySem.Paired.length rel
  have hiv:i < vs.length:=by omega
  obtain ⟨⟨k,x⟩,hp⟩:∃ p,vs[i] = p:=⟨_,rfl⟩
  have hx:vs[i]? = some (k,x):=by rw [getElem?_eq_getElem hiv,hp]
  obtain ⟨y,e4,e5,_⟩:=Bq rel (getElem?_eq_getElem hi)
  rw [hx] at e4
  cases e4
  rw [hvl] at st ⊢
  refine wpAny_pyNext_dict_item st hat hx λ key h' hkey hit' hs'=>?_
  obtain ⟨oi,ei,ci,di⟩:=id hit'
  refine ⟨key,Z,Qj (s:={ s with heap:=h' }) ei ci di (by decide) ?_⟩
  have k1:∀ b ob,b∉[it]→s.heap.get? b = some ob→h'.get? b = some ob:=λ b ob hb q=>hs'.extBut b ob (λ z=>hb (by simp [z])) q
  have I1:Inv X pins σ H { s with heap:=h' }:=I.turnedL (t':=s.toks) hf k1 (λ _ _=>rfl) (HOk.turned (s:=s) I.hok (λ b hb=>(hf b hb).1) k1)
  exact ⟨kV k,H,I1,Qp hkey,⟨rfl,_,getElem?_eq_getElem hi,by rw [show (kvs[i]).1 = k from e5]⟩,hit',λ b hb=>(hf b hb).1⟩
 done:=by
  intro X hP hw hK hc i pins s σ H E I hf st hg
  subst hP hw hK
  obtain ⟨hd,hi⟩:=hg
  obtain ⟨e1,vs,ep',rel,hat,sm,es',de⟩:=J6 I.hok hd
  obtain ⟨es,de0⟩:=hep
  have:ep' = ep:=Ql de0 de
  subst this
  have hvl:=PySem.Paired.length rel
  rw [hvl] at st
  refine wpAny_pyNext_dict_end (I.ok.hd hc) st hat (getElem?_eq_none (by omega)) λ h' he'=>?_
  have k1:∀ b ob,b∉[it]→s.heap.get? b = some ob→h'.get? b = some ob:=λ b ob hb q=>he' b ob (λ z=>hb (by simp [z])) q
  exact ⟨Z,I.turnedL (t':=s.toks) hf k1 (λ _ _=>rfl) (HOk.turned (s:=s) I.hok (λ b hb=>(hf b hb).1) k1)⟩
 self:=λ _ _ _ _ _ st h=>wpAny_pyIter_keyiter st h
def AdJ (te:TE):TI:=λ σ H R=>te σ H λ x H1=>∃ d o kvs,x = .ref d∧H1 d = some (.frz o (.dK kvs))∧R (Itk d o kvs) H1
theorem Abg {tg l:Expr} {te:TE} (hl:PE X l te):PI X tg l (AdJ te):=by
 intro pins s σ H R I h
 refine thn (hl pins s σ H _ I h) λ u s1 ⟨x,H1,I1,r1,d,o,kvs,e,hd,q⟩=>?_
 subst e
 cases r1
 obtain ⟨e1,vs,ep,rel,hat,sm,es,de⟩:=J6 I1.hok hd
 have hvl:=PySem.Paired.length rel
 refine wpAny_pyIter_dict sm hat ?_
 have I2:Inv X pins σ H1 { s1 with heap:=s1.heap.push { cls:=.type "dict_keyiterator", data:=.fields #[.ref d,.int 0 0,.int vs.length 0,.int ep 0] } }:=I1.kept (t':=s1.toks) λ b ob q=>Heap.get?_push_of_some _ q
 refine ⟨_,_,_,_,H1,Z,I2,V4 ⟨es,de⟩,⟨_,Heap.get?_push_size _ rfl,rfl,by rw [hvl]; rfl⟩,λ b hb=>?_,q⟩
 cases mS hb
 exact I1.fpOk (le_refl _) (I1.hok.fresh (le_refl _))
def K3:Hp→List (Addr× Key× V)→Hp
 | H,[]=>H
 | H,p :: r=>K3 (upd H p.1 (.tup [kV p.2.1,p.2.2])) r
theorem Mw:∀ {l:List (Addr× Key× V)} {H:Hp} {b:Addr},b∉l.map (·.1)→K3 H l b = H b
 | [],_,_,_=>rfl
 | p :: r,H,b,h=>by
  rw [map_cons,mem_cons,not_or] at h
  show K3 (upd H p.1 _) r b = _
  rw [Mw h.2,upd_ne h.1]
theorem Tb:∀ {l:List (Addr× Key× V)} {H:Hp} {p:Addr× Key× V},(l.map (·.1)).Nodup→p∈l→K3 H l p.1 = some (.tup [kV p.2.1,p.2.2])
 | q :: r,H,p,nd,h=>by
  rw [map_cons,nodup_cons] at nd
  show K3 (upd H q.1 _) r p.1 = _
  rcases mem_cons.mp h with z | z
  ·subst z
   rw [Mw nd.1,Ab]
  ·exact Tb nd.2 z
inductive AaN (H:Hp) (kvs:List (Key× V)) (l:Addr) (ts:List Addr) (H':Hp):Prop
 | mk (g:∀ b u,H b = some u→H' b = some u) (fl:H l = none) (el:H' l = some (.lst (ts.map V.ref))) (le:ts.length = kvs.length) (ft:∀ t∈ts,H t = none∧t≠l) (nd:ts.Nodup) (et:∀ (j:Nat) (t:Addr) (p:Key× V),ts[j]? = some t→kvs[j]? = some p→H' t = some (.tup [kV p.1,p.2])):AaN H kvs l ts H'
def AbR (to:TE):TE:=λ σ H Q=>to σ H λ x H1=>∃ a kvs,x = .ref a∧Rd H1 a (.dK kvs)∧∀ l ts H2,AaN H1 kvs l ts H2→Q (.ref l) H2
theorem Hr {o:Expr} {to:TE} {p ap cp pos:Pos} (hc:X.calm = true) (hg:Gl X "list") (hm:X.mg "list" = none) (ho:PE X o to)
  (hbase:attributeBase o "items" X.env (eval o X.env) = eval o X.env:=by rfl) (hline:(ap.endLine == cp.line) = true:=by rfl)
  (h1:starEach [.Call (.Attribute o "items" ap) [] [] cp] X.env = [(false,eval (.Call (.Attribute o "items" ap) [] [] cp) X.env)]:=by rfl) :
  PE X (.Call (.Name "list" p) [.Call (.Attribute o "items" ap) [] [] cp] [] pos) (AbR to):=by
 intro pins s σ H Q I h
 refine wpAny_Call_Name_kw (Gh I hg hm (show bootBuiltins "list" = some (.type "list") by decide +kernel) ?_ (by decide) (by decide))
 refine PyProof.Rows.callWith_type1 ?_ h1 rfl
 rw [h1]
 refine Calls.spliced_cons (wpAny_Call_method0_late hbase hline (thn (ho pins s σ H _ I h) λ u s1 ⟨x,H1,I1,r1,a,kvs,e,ha,q⟩=>?_))
 subst e
 cases r1
 obtain ⟨z,sm,vs,rel,dd⟩:=Kt I1.hok ha
 obtain ⟨ep,hat⟩:=dd.dictAt
 obtain ⟨od,es,hod,hex,hrest⟩:=id hat
 have hvl:=PySem.Paired.length rel
 refine ⟨"dict", "dict.items", PySem.F.plainAttrs_dict,PySem.F.slot_dict_items,PySem.F.type_dict_items,dd.typeIs,λ b eb=>by cases eb; exact ⟨od,hod,hex.2.1⟩,Calls.callWith_builtin rfl (PySem.evalArgs_none ?_)⟩
 refine call_meetsIn PySem.F.slot_dict_items dd.typeIs PySem.F.entry_dict_items (PySem.F.args_dict_items_1 _) (meets_dict_items (mixKind X.prog X.w) a sm) ⟨⟨vs,dd⟩,?_⟩
 refine Calls.spliced_nil ?_
 have vw:(s1.heap.push { cls:=.type "dict_items", data:=.fields #[.ref a] }).IsItemsView s1.heap.objs.size a:=⟨_,Heap.get?_push_size _ rfl,Z,Z⟩
 refine PySem.W.kdx_call (s:={ s1 with heap:=s1.heap.push { cls:=.type "dict_items", data:=.fields #[.ref a] } }) (knd:=mixKind X.prog X.w) (kvs:=vs) (ep:=ep) (I1.ok.hd hc) vw (hat.push _) (by omega) λ h' tk acc c as k1 e1 hl hG hacc=>?_
 have sz:(s1.heap.push { cls:=.type "dict_items", data:=.fields #[.ref a] }).objs.size = s1.heap.objs.size + 1:=Heap.size_push _ _
 have kp:∀ b ob,s1.heap.get? b = some ob→h'.get? b = some ob:=λ b ob e=>k1 b ob (Heap.get?_push_of_some _ e)
 have alt:∀ t∈as,s1.heap.objs.size + 1 < t:=λ t ht=>by have:=hG.above t ht; rw [← sz]; exact this
 have asnd:as.Nodup:=hG.rise.imp λ h=>ne_of_lt h
 have zl:as.length = kvs.length:=by omega
 have zm:(as.zip kvs).map (·.1) = as:=by rw [List.map_fst_zip (by omega)]
 have fr:∀ {b:Addr},s1.heap.objs.size≤b→H1 b = none:=λ hb=>I1.hok.fresh hb
 have off:∀ {b:Addr} {ob:Obj},s1.heap.get? b = some ob→b≠s1.heap.objs.size + 1∧b∉as:=λ e=>by
  have hb:@LT.lt Nat _ _ s1.heap.objs.size:=Heap.lt_size e
  exact ⟨ne_of_lt (lt_succ_of_lt hb),λ hm=>absurd (lt_trans (lt_succ_of_lt hb) (alt _ hm)) (lt_irrefl _)⟩
 have off':∀ {b:Addr} {ub:HO},H1 b = some ub→b≠s1.heap.objs.size + 1∧b∉as:=λ e=>by
  have hb:@LT.lt Nat _ _ s1.heap.objs.size:=I1.hok.lt e
  exact ⟨ne_of_lt (lt_succ_of_lt hb),λ hm=>absurd (lt_trans (lt_succ_of_lt hb) (alt _ hm)) (lt_irrefl _)⟩
 have at2:∀ {b:Addr},b≠s1.heap.objs.size + 1→b∉as→(upd (K3 H1 (as.zip kvs)) (s1.heap.objs.size + 1) (.lst (as.map V.ref))) b = H1 b:=λ n1 n2=>by
  rw [upd_ne n1,Mw (by rw [zm]; exact n2)]
 have atT:∀ (j:Nat) (t:Addr) (p:Key× V),as[j]? = some t→kvs[j]? = some p→(upd (K3 H1 (as.zip kvs)) (s1.heap.objs.size + 1) (.lst (as.map V.ref))) t = some (.tup [kV p.1,p.2]):=λ j t p hj hp=>by
  have ht:t∈as:=mem_of_getElem? hj
  have nt:t≠s1.heap.objs.size + 1:=ne_of_gt (alt t ht)
  rw [upd_ne nt]
  refine Tb (l:=as.zip kvs) (p:=(t,p)) (by rw [zm]; exact asnd) ?_
  refine mem_of_getElem? (i:=j) ?_
  rw [List.getElem?_zip_eq_some]
  exact ⟨hj,hp⟩
 have ok2:HOk X.prog X.w (upd (K3 H1 (as.zip kvs)) (s1.heap.objs.size + 1) (.lst (as.map V.ref))) h':=λ b ub eb=>by
  by_cases n1:b = s1.heap.objs.size + 1
  ·subst n1
   rw [Ab] at eb
   cases eb
   have e1':h'.get? (s1.heap.objs.size + 1) = some { cls:=.type "list", dict:=none,data:=.seq acc c,slots:=#[] }:=by rw [← sz]; exact e1
   refine ⟨by rw [length_map]; omega,acc.toList,c,?_,by rw [e1']⟩
   rw [hacc]
   clear hacc e1 e1' hl hG alt asnd zl zm off off' at2 atT
   induction as with
   | nil=>exact .nil
   | cons t r ih=>exact .cons rfl ih
  ·by_cases n2:b∈as
   ·obtain ⟨j,hj⟩:=getElem?_of_mem n2
    have hjl:j < kvs.length:=by have:=(List.getElem?_eq_some_iff.mp hj).1; omega
    have hp:kvs[j]? = some kvs[j]:=getElem?_eq_getElem hjl
    rw [atT j b _ hj hp] at eb
    cases eb
    obtain ⟨key,k,x,e3,e4,e5⟩:=hG.pairs j b hj
    obtain ⟨y,e6,e7,e8⟩:=Bq rel hp
    rw [e3] at e6
    cases e6
    refine ⟨by show 2≤sizeLine; decide,[key,x],.cons (by rw [show (kvs[j]).1 = k from e7]; exact Qp e4) (.cons e8 .nil),_,e5,Z,_,Z⟩
   ·rw [at2 n1 n2] at eb
    exact (I1.hok b ub eb).stay (λ c ob _ e=>kp c ob e) (λ c hcx=>by obtain ⟨m1,m2⟩:=off' hcx; rw [at2 m1 m2]; exact hcx) λ c xs hcx=>by obtain ⟨m1,m2⟩:=off' hcx; rw [at2 m1 m2]; exact hcx
 have I2:=I1.un (h':=h') (t':=tk) (H':=upd (K3 H1 (as.zip kvs)) (s1.heap.objs.size + 1) (.lst (as.map V.ref))) ⟨λ b ob e _ _ _=>kp b ob e,λ b ob e _ _ _=>⟨ob.slots,kp b ob e⟩,λ b ob e n _=>by obtain ⟨m1,m2⟩:=off e; rw [at2 m1 m2]; exact n,λ b ob e _=>⟨ob,kp b ob e⟩,λ b xs e=>by obtain ⟨m1,m2⟩:=off' e; rw [at2 m1 m2]; exact e,λ b ob ux e=>by obtain ⟨m1,m2⟩:=off' e; rw [at2 m1 m2]; exact e,λ b ps e=>⟨#[],by obtain ⟨m1,m2⟩:=off' e; rw [at2 m1 m2,Array.append_empty]; exact e⟩⟩ ok2
 refine ⟨.ref (s1.heap.objs.size + 1),_,I2,by rw [sz]; rfl,q _ as _ ⟨λ b ub e=>by obtain ⟨m1,m2⟩:=off' e; rw [at2 m1 m2]; exact e,fr (le_succ _),Ab,zl,λ t ht=>⟨fr (le_of_lt (Nat.lt_of_succ_lt (alt t ht))),ne_of_gt (alt t ht)⟩,asnd,atT⟩⟩
abbrev ItO (h:Heap) (it d:Addr) (i n ep:Nat) (c0 c1 ok ov:Value):Prop :=
 h.get? it = some { cls:=.type "dict_itemiterator", dict:=none,data:=.fields #[c0,c1,.ref d,.int i 0,.int n 0,.int ep 0,ok,ov],slots:=#[] }
theorem Ada {P:Program} {w:World} {A:Around} {E:Value→Shared→Prop} {s:Shared} {a:Addr} {Q:Option Obj→Shared→Prop} (ha:s.heap.get? a = none) (h:Q none s):wpAny (model P w) A (loadIfAlive a) Q E s:=by
 have q:Q (s.heap.get? a) s:=by rw [ha]; exact h
 exact λ _ _ _=>q
theorem AaL {P:Program} {w:World} {κ:Type} [DecidableEq κ] {knd:KeyKind P w κ} {A:Around} {E:Value→Shared→Prop} {s:Shared} {it d a:Addr} {f:Bool} {i ep:Nat} {vs:List (κ× Value)} {k:κ} {x ok ov:Value} {Q:Option Value→Shared→Prop}
  (hit:KdxIt s.heap it d i vs.length ep ok ov a f) (hat:s.heap.DictAt knd d vs ep) (hx:vs[i]? = some (k,x))
  (hQ:∀ key h',knd.is k key = true→(∃ ok' ov' a' f',KdxIt h' it d (i + 1) vs.length ep ok' ov' a' f')→h'.get? s.heap.objs.size = some { cls:=.type "tuple", data:=.seq #[key,x] } →
   (∀ b o,b≠it→s.heap.get? b = some o→h'.get? b = some o)→Q (some (.ref s.heap.objs.size)) { s with heap:=h' }) :
  wpAny (model P w) A (pyNext (.ref it)) Q E s:=by
 obtain ⟨hp,gn,dr,tk,os⟩:=s
 obtain ⟨od,es,god,_,dod,_,prs,_⟩:=id hat
 have ty:Shared.TypeIs ⟨hp,gn,dr,tk,os⟩ (.ref it) "dict_itemiterator" := ⟨_,hit,Z⟩
 have isz:es.size = vs.length:=by rw [← prs.length]; simp
 have il:i < es.size:=by rw [isz]; exact (List.getElem?_eq_some_iff.mp hx).1
 obtain ⟨ky,vl⟩:=prs.get? (e:=es[i]) (by simp [il]) hx
 have itl:it < hp.objs.size:=Heap.lt_size hit
 unfold pyNext
 refine wpAny_bind (wpAny_attempt (wpAny_callSpecial?_slot (name:=Str.ofString "__next__") ty PySem.F.slot_dict_itemiterator_next (wpAny_call_entry PySem.F.slot_dict_itemiterator_next ty PySem.F.entry_dict_itemiterator_next ?_ (PySem.F.args_dict_itemiterator_next_1 _))))
 refine wpAny_bind (wpAny_pure (wpAny_bind (wpAny_bind (wpAny_bind (wpAny_typeNameOfWhole_itemiter ty (wpAny_pure ?_))))))
 refine wpAny_bind (wpAny_fieldsOf hit rfl ?_)
 simp only [show Builtin.Dict_items.ownsTuple "dict_itemiterator" = true by decide,if_true]
 show wpAny _ _ (if (Value.ref d == Value.none) = true then _ else _) _ _ (⟨hp,gn,dr,tk,os⟩:Shared)
 rw [if_neg (show ¬ (Value.ref d == Value.none) = true from λ z=>nomatch z)]
 refine wpAny_bind (wpAny_pure (wpAny_bind (wpAny_dictEntries god dod ?_)))
 rw [if_neg (by rw [isz]; simp)]
 refine wpAny_bind (wpAny_pure (wpAny_bind (wpAny_dictEpoch god dod ?_)))
 rw [if_neg (by simp)]
 refine wpAny_pure ?_
 simp only [show ¬ (i:Int) < 0 by omega,if_false,Int.toNat_natCast,Array.getElem?_eq_getElem il]
 refine wpAny_bind (wpAny_bind (wpAny_typeNameOfWhole_itemiter ty (wpAny_pure (wpAny_bind (wpAny_isOneOf_itemiter ty ?_)))))
 show wpAny _ _ (setField (.ref it) 3 (rawInt ((i:Int) + 1)) >>= _) _ _ (⟨hp,gn,dr,tk,os⟩:Shared)
 refine wpAny_bind (wpAny_setField_rec hit (by simp) λ k1 e1 s1=>?_)
 have s1:Heap.SameBut it hp k1:=s1
 have e1:KdxIt k1 it d (i + 1) vs.length ep ok ov a f:=by
  unfold KdxIt
  rw [show ((i + 1:Nat):Int) = (i:Int) + 1 by omega]
  simpa [rawInt] using e1
 have ty1:Shared.TypeIs ⟨k1,gn,dr,tk,os⟩ (.ref it) "dict_itemiterator" := ⟨_,e1,Z⟩
 refine wpAny_bind (wpAny_holding (wpAny_bind (wpAny_isOneOf_itemiter ty1 (wpAny_bind (wpAny_isOneOf_itemiter ty1 ?_)))))
 show wpAny _ _ (Builtin.Dict_items.pairFromOwner (.ref it) 6 es[i].key es[i].val) _ _ (⟨k1,gn,dr,tk,os⟩:Shared)
 unfold Builtin.Dict_items.pairFromOwner
 refine wpAny_bind (wpAny_newTuple ?_)
 have z1:k1.objs.size = hp.objs.size:=s1.1
 have e2:KdxIt (k1.push { cls:=.type "tuple", data:=.seq #[es[i].key,es[i].val] }) it d (i + 1) vs.length ep ok ov a f:=Heap.get?_push_of_some _ e1
 have t2:(k1.push { cls:=.type "tuple", data:=.seq #[es[i].key,es[i].val] }).get? hp.objs.size = some { cls:=.type "tuple", data:=.seq #[es[i].key,es[i].val] }:=by rw [← z1]; exact Heap.get?_push_size _ rfl
 have kp2:∀ b o,b≠it→hp.get? b = some o→(k1.push { cls:=.type "tuple", data:=.seq #[es[i].key,es[i].val] }).get? b = some o:=λ b o hb e=>Heap.get?_push_of_some _ (s1.extBut b o hb e)
 have tit:hp.objs.size≠it:=ne_of_gt itl
 rw [z1]
 generalize k1.push { cls:=.type "tuple", data:=.seq #[es[i].key,es[i].val] } = k2 at e2 t2 kp2 ⊢
 have fin:∀ k3:Heap,(∃ ok' ov' a' f',KdxIt k3 it d (i + 1) vs.length ep ok' ov' a' f')→Heap.SameBut it k2 k3→Q (some (.ref hp.objs.size)) ⟨k3,gn,dr,tk,os⟩:=λ k3 e3 s3 =>
  hQ es[i].key k3 ky e3 (by rw [← vl]; exact s3.extBut _ _ tit t2) λ b o hb e=>s3.extBut b o hb (kp2 b o hb e)
 show wpAny _ _ (Builtin.Dict_items.ownedTupleIsFree (.ref it) >>= _) _ _ (⟨k2,gn,dr,tk,os⟩:Shared)
 refine wpAny_bind ?_
 unfold Builtin.Dict_items.ownedTupleIsFree
 refine wpAny_bind (wpAny_field e2 rfl (x:=rawInt a) rfl ?_)
 show wpAny _ _ (loadIfAlive (a:Int).toNat >>= _) _ _ (⟨k2,gn,dr,tk,os⟩:Shared)
 rw [Int.toNat_natCast]
 cases hk:k2.get? a with
 | none =>
  refine wpAny_bind (Ada hk ?_)
  simp only [Option.isNone_none,if_true]
  refine wpAny_pure ?_
  simp only [if_true]
  refine wpAny_bind (wpAny_field e2 rfl (x:=ok) rfl (wpAny_bind (wpAny_field e2 rfl (x:=ov) rfl ?_)))
  refine wpAny_bind (wpAny_setField_rec e2 (by simp) λ k3 e3 s3=>?_)
  refine wpAny_bind (wpAny_setField_rec e3 (by simp) λ k4 e4 s4=>?_)
  refine wpAny_bind (wpAny_setField_rec e4 (by simp) λ k5 e5 s5=>?_)
  refine wpAny_bind (wpAny_setField_rec e5 (by simp) λ k6 e6 s6=>?_)
  have s3:Heap.SameBut it k2 k3:=s3
  have s4:Heap.SameBut it k3 k4:=s4
  have s5:Heap.SameBut it k4 k5:=s5
  have s6:Heap.SameBut it k5 k6:=s6
  have e6:KdxIt k6 it d (i + 1) vs.length ep es[i].key es[i].val hp.objs.size false:=e6
  refine wpAny_bind (wpAny_letGo (wpAny_pure (wpAny_pure ⟨_,Z,wpAny_pure (fin k6 ⟨_,_,_,_,e6⟩ (((s3.trans s4).trans s5).trans s6))⟩)))
 | some oa =>
  refine wpAny_bind (PySem.W.kdx_alive hk ?_)
  simp only [Option.isNone_some,Bool.false_eq_true,if_false]
  refine wpAny_bind (wpAny_field e2 rfl (x:=.bool f) rfl ?_)
  cases f with
  | true =>
   rw [if_neg (show ¬ (Value.bool true != Value.bool true) = true from λ z=>nomatch z)]
   refine wpAny_pure ?_
   simp only [Bool.false_eq_true,if_false]
   exact wpAny_pure (wpAny_pure ⟨_,Z,wpAny_pure (fin k2 ⟨_,_,_,_,e2⟩ (Heap.SameBut.refl _ _))⟩)
  | false =>
   rw [if_pos (show (Value.bool false != Value.bool true) = true by rfl)]
   refine wpAny_bind (wpAny_setField_rec e2 (by simp) λ k3 e3 s3=>wpAny_pure ?_)
   have s3:Heap.SameBut it k2 k3:=s3
   have e3:KdxIt k3 it d (i + 1) vs.length ep ok ov a true:=e3
   simp only [Bool.false_eq_true,if_false]
   exact wpAny_pure (wpAny_pure ⟨_,Z,wpAny_pure (fin k3 ⟨_,_,_,_,e3⟩ s3)⟩)
def Iti (d:Addr) (o:Obj) (kvs:List (Key× V)):It :=
 ⟨λ i H=>H d = some (.frz o (.dK kvs))∧i < kvs.length,
  λ i H v H'=>∃ T p,v = .ref T∧H T = none∧kvs[i]? = some p∧H' = upd H T (.tup [kV p.1,p.2]),
  λ i H=>H d = some (.frz o (.dK kvs))∧kvs.length≤i⟩
def TnI (it d:Addr) (n ep:Nat) (i:Nat) (h:Heap):Prop:=(∃ ok ov,IsItemIter h it d i n ep ok ov)∨∃ ok ov a f,KdxIt h it d i n ep ok ov a f
theorem TnI.at {it d:Addr} {n ep i:Nat} {h:Heap} (x:TnI it d n ep i h):∃ c0 c1 ok ov,ItO h it d i n ep c0 c1 ok ov:=by
 rcases x with ⟨ok,ov,e⟩ | ⟨ok,ov,a,f,e⟩
 ·exact ⟨_,_,ok,ov,e⟩
 ·exact ⟨_,_,ok,ov,e⟩
theorem Vd {P:Program} {w:World} {K:PySem.W.Frag} {x:Str} {np:Pos} {it d:Addr} {o:Obj} {kvs:List (Key× V)} {ep:Nat} (hep:∃ es,o.data = .dict es ep):Lo P w K (.Name x np) (Iti d o kvs) [it] it (TnI it d kvs.length ep) where
 mem:=by simp
 obj:=λ i h st b hb=>by
  cases mS hb
  obtain ⟨c0,c1,ok,ov,e⟩:=st.at
  exact ⟨_,e,λ v z=>nomatch z⟩
 keep:=λ i h h' st k=>by
  rcases st with ⟨ok,ov,e⟩ | ⟨ok,ov,a,f,e⟩
  ·exact .inl ⟨ok,ov,k _ (by simp) _ e⟩
  ·exact .inr ⟨ok,ov,a,f,k _ (by simp) _ e⟩
 item:=by
  intro X hP hw hK hc i pins s σ H E I hf st hg
  subst hP hw hK
  obtain ⟨hd,hi⟩:=hg
  obtain ⟨e1,vs,ep',rel,hat,sm,es',de⟩:=J6 I.hok hd
  obtain ⟨es,de0⟩:=hep
  have:ep' = ep:=Ql de0 de
  subst this
  have hvl:=PySem.Paired.length rel
  have hiv:i < vs.length:=by omega
  obtain ⟨⟨k,y⟩,hp⟩:∃ p,vs[i] = p:=⟨_,rfl⟩
  have hx:vs[i]? = some (k,y):=by rw [getElem?_eq_getElem hiv,hp]
  obtain ⟨z,e4,e5,e6⟩:=Bq rel (getElem?_eq_getElem hi)
  rw [hx] at e4
  cases e4
  have itl:it < s.heap.objs.size:=by obtain ⟨_,_,_,_,e⟩:=st.at; exact Heap.lt_size e
  have go:∀ (key:Value) (h':Heap),(mixKind X.prog X.w).is k key = true→TnI it d kvs.length ep' (i + 1) h'→h'.get? s.heap.objs.size = some { cls:=.type "tuple", data:=.seq #[key,y] }→(∀ b ob,b≠it→s.heap.get? b = some ob→h'.get? b = some ob) →
    ∃ u,some (Value.ref s.heap.objs.size) = some u∧wpAny (model X.prog X.w) X.A (letOwnedTupleGo (.Name x np) (.ref it) u) (λ _ s2=>∃ x H',Inv X pins σ H' s2∧Bd x u∧(Iti d o kvs).yld i H x H'∧TnI it d kvs.length ep' (i + 1) s2.heap∧∀ b∈[it],H' b = none) E { s with heap:=h' }:=by
   intro key h' hkey st' tT kp
   refine ⟨_,Z,wpAny_pure ?_⟩
   have k1:∀ b ob,b∉[it]→s.heap.get? b = some ob→h'.get? b = some ob:=λ b ob hb q=>kp b ob (λ z=>hb (by simp [z])) q
   have hn:H s.heap.objs.size = none:=I.hok.fresh (le_refl _)
   have hok:HOk X.prog X.w (upd H s.heap.objs.size (.tup [kV (kvs[i]).1,(kvs[i]).2])) h':=HOk.turnedNew (s:=s) I.hok (λ b hb=>(hf b hb).1) k1 (le_refl _) ⟨zN2,[key,y],.cons (by rw [show (kvs[i]).1 = k from e5]; exact Qp hkey) (.cons e6 .nil),_,tT,Z,_,Z⟩
   have I1:Inv X pins σ (upd H s.heap.objs.size (.tup [kV (kvs[i]).1,(kvs[i]).2])) { s with heap:=h' }:=I.turnedL (t':=s.toks) hf k1 (λ b hb=>upd_ne (ne_of_lt hb)) hok
   refine ⟨.ref s.heap.objs.size,_,I1,Z,⟨_,_,rfl,hn,getElem?_eq_getElem hi,rfl⟩,st',λ b hb=>?_⟩
   cases mS hb
   rw [upd_ne (ne_of_lt itl)]
   exact (hf it (by simp)).1
  rcases st with ⟨ok,ov,e⟩ | ⟨ok,ov,a,f,e⟩
  ·rw [hvl] at e
   refine wpAny_pyNext_items_item e hat hx λ key h' hkey hit' tT _ kp=>go key h' hkey (.inr ⟨key,y,_,false,by rw [hvl]; exact hit'⟩) tT kp
  ·rw [hvl] at e
   refine AaL e hat hx λ key h' hkey ⟨ok',ov',a',f',hit'⟩ tT kp=>go key h' hkey (.inr ⟨ok',ov',a',f',by rw [hvl]; exact hit'⟩) tT kp
 done:=by
  intro X hP hw hK hc i pins s σ H E I hf st hg
  subst hP hw hK
  obtain ⟨hd,hi⟩:=hg
  obtain ⟨e1,vs,ep',rel,hat,sm,es',de⟩:=J6 I.hok hd
  obtain ⟨es,de0⟩:=hep
  have:ep' = ep:=Ql de0 de
  subst this
  have hvl:=PySem.Paired.length rel
  have fin:∀ h',Heap.ExtBut it s.heap h'→(none:Option Value) = none∧Inv X pins σ H { s with heap:=h' }:=λ h' he'=>by
   have k1:∀ b ob,b∉[it]→s.heap.get? b = some ob→h'.get? b = some ob:=λ b ob hb q=>he' b ob (λ z=>hb (by simp [z])) q
   exact ⟨Z,I.turnedL (t':=s.toks) hf k1 (λ _ _=>rfl) (HOk.turned (s:=s) I.hok (λ b hb=>(hf b hb).1) k1)⟩
  rcases st with ⟨ok,ov,e⟩ | ⟨ok,ov,a,f,e⟩
  ·rw [hvl] at e
   exact wpAny_pyNext_items_end (I.ok.hd hc) e hat (getElem?_eq_none (by omega)) fin
  ·rw [hvl] at e
   exact PySem.W.kdx_end_out (I.ok.hd hc) e hat (getElem?_eq_none (by omega)) fin
 self:=λ _ _ _ _ _ st h=>by
  obtain ⟨c0,c1,ok,ov,e⟩:=st.at
  refine wpAny_pyIter_slot (T:= "dict_itemiterator") ⟨_,e,Z⟩ PySem.F.slot_dict_itemiterator_iter (wpAny_call_entry PySem.F.slot_dict_itemiterator_iter ⟨_,e,Z⟩ PySem.W.kcp_entry ?_ (PySem.F.args_dict_itemiterator_iter_1 _))
  show wpAny _ _ (ret (.ref it)) _ _ _
  exact wpAny_pure ⟨_,Z, "dict_itemiterator", _,⟨_,e,Z⟩,PySem.F.slot_dict_itemiterator_next.lookup,h⟩
def Abu (to:TE):TI:=λ σ H R=>to σ H λ x H1=>∃ d o kvs,x = .ref d∧H1 d = some (.frz o (.dK kvs))∧R (Iti d o kvs) H1
theorem Ms {x:Str} {np:Pos} {o:Expr} {to:TE} {ap cp:Pos} (ho:PE X o to) (hbase:attributeBase o "items" X.env (eval o X.env) = eval o X.env:=by rfl) (hline:(ap.endLine == cp.line) = true:=by rfl) :
  PI X (.Name x np) (.Call (.Attribute o "items" ap) [] [] cp) (Abu to):=by
 intro pins s σ H R I h
 refine wpAny_Call_method0_late hbase hline (thn (ho pins s σ H _ I h) λ u s1 ⟨y,H1,I1,r1,d,ob,kvs,e,hd,q⟩=>?_)
 subst e
 cases r1
 obtain ⟨e1,vs,ep,rel,hat,sm,es,de⟩:=J6 I1.hok hd
 obtain ⟨od,es',hod,hex,hrest⟩:=id hat
 have dd:=hat.dictOf
 have hvl:=PySem.Paired.length rel
 refine ⟨"dict", "dict.items", PySem.F.plainAttrs_dict,PySem.F.slot_dict_items,PySem.F.type_dict_items,dd.typeIs,λ b eb=>by cases eb; exact ⟨od,hod,hex.2.1⟩,Calls.callWith_builtin rfl (PySem.evalArgs_none ?_)⟩
 refine call_meetsIn PySem.F.slot_dict_items dd.typeIs PySem.F.entry_dict_items (PySem.F.args_dict_items_1 _) (meets_dict_items (mixKind X.prog X.w) d sm) ⟨⟨vs,dd⟩,?_⟩
 refine wpAny_pyIter_items (s:={ s1 with heap:=s1.heap.push { cls:=.type "dict_items", data:=.fields #[.ref d] } }) (knd:=mixKind X.prog X.w) (kvs:=vs) (ep:=ep) (v:=s1.heap.objs.size) ⟨_,Heap.get?_push_size _ rfl,Z,Z⟩ (hat.push _) ?_
 have kp:∀ b oo,s1.heap.get? b = some oo→((s1.heap.push { cls:=.type "dict_items", data:=.fields #[.ref d] }).push { cls:=.type "dict_itemiterator", data:=.fields #[.none,.bool false,.ref d,.int 0 0,.int vs.length 0,.int ep 0,.none,.none] }).get? b = some oo:=λ b oo e=>Heap.get?_push_of_some _ (Heap.get?_push_of_some _ e)
 have I2:=I1.kept (t':=s1.toks) kp
 have sz:(s1.heap.push { cls:=.type "dict_items", data:=.fields #[.ref d] }).objs.size = s1.heap.objs.size + 1:=Heap.size_push _ _
 have le:s1.heap.objs.size≤(s1.heap.push { cls:=.type "dict_items", data:=.fields #[.ref d] }).objs.size:=by rw [sz]; exact le_succ _
 refine ⟨_,_,_,_,H1,Z,I2,Vd ⟨es,de⟩,.inl ⟨.none,.none,?_⟩,λ b hb=>?_,q⟩
 ·rw [hvl]; exact Heap.get?_push_size _ rfl
 ·cases mS hb
  exact I1.fpOk le (I1.hok.fresh le)
theorem Aq {o e:Expr} {es:List Expr} {m:Str} {apos pos:Pos} {k j:Nat} {ps:List Str} {sp:Sp} {E:XK} {C:Addr} {ta:TE} {t:TA} {pl:Sem Bool} (M:Bf X.prog X.w X.K X.mg X.base j C m ps sp) (hr:Ct k X.A) (hx:Fr CX0 X E) (he:PE X o ta) (ha:PA X (e :: es) t) (hj:j≤k:=by first | decide | omega)
  (hst:starEach (e :: es) X.env = (false,eval e X.env) :: starEach es X.env:=by rfl) (hpl:(backTo pos (starEach es X.env)).any (·.1) = false:=by rfl)
  (ht:eval (.Call (.Attribute o m apos) (e :: es) [] pos) X.env = (do
   let ov ← eval o X.env
   standAt apos.atName
   let (f,first) ← holding [ov] (getMethod ov m pl)
   callWith pos f first (backTo pos (starEach (e :: es) X.env)) (backToKw pos (keywordEach [] X.env))):=by rfl):PE X (.Call (.Attribute o m apos) (e :: es) [] pos) (Ny C m sp [] E ta t):=by
 obtain ⟨f,fd,F,b,me,c⟩:=M
 exact Aau he c me (F.mono hj) hr b .nil hx ha hst hpl ht
end
end L2
end
section
set_option Elab.async false
set_option linter.all false
set_option maxRecDepth 100000
set_option maxHeartbeats 64000000
namespace My
open PySem L2
def top (i:Nat):Stmt:=PySem.Challenge.pw_signalwise_k44_net_form.main.body.getD i (.Pass ⟨0,0,0,0⟩)
abbrev Hj:Stmt:=top 4
theorem So:A7 ["part"] ["part"] (Aj Hj):=⟨Z,Z,Z,by decide +kernel,Z,by decide +kernel,by decide +kernel⟩
abbrev E3:Stmt:=top 5
theorem Mx:A7 ["code"] ["code"] (Aj E3):=⟨Z,Z,Z,by decide +kernel,Z,by decide +kernel,by decide +kernel⟩
abbrev Fn:Stmt:=top 6
theorem Nq:A7 ["code"] ["code"] (Aj Fn):=⟨Z,Z,Z,by decide +kernel,Z,by decide +kernel,by decide +kernel⟩
abbrev Eo:Stmt:=top 8
theorem Oy:A7 ["part"] ["part"] (Aj Eo):=⟨Z,Z,Z,by decide +kernel,Z,by decide +kernel,by decide +kernel⟩
abbrev Go:Stmt:=top 9
theorem Fx:A7 ["part", "found", "waiting", "here"] ["part"] (Aj Go):=⟨Z,Z,Z,by decide +kernel,Z,by decide +kernel,by decide +kernel⟩
abbrev Gn:Stmt:=top 11
theorem S8:A7 ["part"] ["part"] (Aj Gn):=⟨Z,Z,Z,by decide +kernel,Z,by decide +kernel,by decide +kernel⟩
abbrev Jm:Stmt:=top 16
theorem E9:A7 ["program", "wiring", "body", "sign", "senders", "ends", "nexts"] ["program"] (Aj Jm):=⟨Z,Z,Z,by decide +kernel,Z,by decide +kernel,by decide +kernel⟩
abbrev Fu:Stmt:=top 17
theorem Gc:A7 ["wiring", "part", "whole", "inner", "piece"] ["wiring", "part"] (Aj Fu):=⟨Z,Z,Z,by decide +kernel,Z,by decide +kernel,by decide +kernel⟩
abbrev Hg:Stmt:=top 18
theorem Rg:A7 ["wiring", "part", "whole"] ["wiring", "part", "whole"] (Aj Hg):=⟨Z,Z,Z,by decide +kernel,Z,by decide +kernel,by decide +kernel⟩
abbrev Hk:Stmt:=top 19
theorem Lr:A7 ["wiring", "rest", "whole", "begun"] ["wiring", "rest", "whole"] (Aj Hk):=⟨Z,Z,Z,by decide +kernel,Z,by decide +kernel,by decide +kernel⟩
abbrev Fl:Stmt:=top 20
theorem Gj:A7 ["wiring", "rest", "whole", "memory", "comes", "coming", "staying"] ["wiring", "rest", "whole", "memory", "comes"] (Aj Fl):=⟨Z,Z,Z,by decide +kernel,Z,by decide +kernel,by decide +kernel⟩
abbrev Hf:Stmt:=top 21
theorem Jc:A7 ["wiring", "part", "whole", "first", "second", "kept", "inner"] ["wiring", "part", "whole", "first", "second"] (Aj Hf):=⟨Z,Z,Z,by decide +kernel,Z,by decide +kernel,by decide +kernel⟩
abbrev Fw:Stmt:=top 22
theorem Jk:A7 ["wiring", "whole", "first", "second", "going_on", "going_past"] ["wiring", "whole", "first", "second"] (Aj Fw):=⟨Z,Z,Z,by decide +kernel,Z,by decide +kernel,by decide +kernel⟩
abbrev Jw:Stmt:=top 23
theorem Gd:A7 ["wiring", "sign", "whole", "first", "second", "begun", "inner", "asked", "going_on"] ["wiring", "sign", "whole", "first", "second"] (Aj Jw):=⟨Z,Z,Z,by decide +kernel,Z,by decide +kernel,by decide +kernel⟩
abbrev Fz:Stmt:=top 24
theorem Dg:A7 ["wiring", "whole", "first", "second", "sides", "inner", "other", "idle", "ended"] ["wiring", "whole", "first", "second"] (Aj Fz):=⟨Z,Z,Z,by decide +kernel,Z,by decide +kernel,by decide +kernel⟩
abbrev C2:Stmt:=top 25
theorem Cv:A7 ["wiring", "sides", "codes", "code", "here", "needed", "side"] ["wiring", "sides"] (Aj C2):=⟨Z,Z,Z,by decide +kernel,Z,by decide +kernel,by decide +kernel⟩
abbrev Fc:Stmt:=top 26
theorem Qh:A7 ["wiring", "part", "whole", "inner"] ["wiring", "part", "whole", "inner"] (Aj Fc):=⟨Z,Z,Z,by decide +kernel,Z,by decide +kernel,by decide +kernel⟩
abbrev Fb:Stmt:=top 27
theorem K6:A7 ["wiring", "rest", "whole", "inner", "memory"] ["wiring", "rest", "whole", "inner"] (Aj Fb):=⟨Z,Z,Z,by decide +kernel,Z,by decide +kernel,by decide +kernel⟩
abbrev E2:Stmt:=top 28
theorem Cw:A7 ["wiring", "part", "whole", "inner", "sign", "skips", "goes", "held", "code"] ["wiring", "part", "whole", "inner"] (Aj E2):=⟨Z,Z,Z,by decide +kernel,Z,by decide +kernel,by decide +kernel⟩
abbrev Hl:Stmt:=top 29
theorem Ru:A7 ["wiring", "whole", "code"] ["wiring", "whole", "code"] (Aj Hl):=⟨Z,Z,Z,by decide +kernel,Z,by decide +kernel,by decide +kernel⟩
abbrev Gp:Stmt:=top 31
theorem Qe:A7 ["_law_cell"] ["_law_cell"] (Aj Gp):=⟨Z,Z,Z,by decide +kernel,Z,by decide +kernel,by decide +kernel⟩
abbrev Ju:Stmt:=top 32
theorem Vg:A7 ["_law_script", "_law_k"] ["_law_script", "_law_k"] (Aj Ju):=⟨Z,Z,Z,by decide +kernel,Z,by decide +kernel,by decide +kernel⟩
abbrev Hm:Stmt:=top 33
theorem Li:A7 ["_law_seed", "_law_signs", "_law_lot"] ["_law_seed", "_law_signs"] (Aj Hm):=⟨Z,Z,Z,by decide +kernel,Z,by decide +kernel,by decide +kernel⟩
abbrev Eu:Stmt:=top 34
theorem Le:A7 ["_law_part", "_law_inner"] ["_law_part"] (Aj Eu):=⟨Z,Z,Z,by decide +kernel,Z,by decide +kernel,by decide +kernel⟩
abbrev Gm:Stmt:=top 35
theorem En:A7 ["_law_stack", "_law_seed", "_law_signs", "_law_lot", "_law_sign", "_law_one", "_law_other"] ["_law_stack", "_law_seed", "_law_signs"] (Aj Gm):=⟨Z,Z,Z,by decide +kernel,Z,by decide +kernel,by decide +kernel⟩
abbrev Hi:Stmt:=top 36
theorem Ec:A7 ["_law_cells", "_law_signs", "_law_stack", "_law_cell", "_law_seed", "_law_one", "_law_other"] ["_law_cells", "_law_signs"] (Aj Hi):=⟨Z,Z,Z,by decide +kernel,Z,by decide +kernel,by decide +kernel⟩
abbrev Dv:Stmt:=top 37
theorem Bp:A7 ["_law_part", "_law_k", "_law_word", "_law_one", "_law_other"] ["_law_part", "_law_k"] (Aj Dv):=⟨Z,Z,Z,by decide +kernel,Z,by decide +kernel,by decide +kernel⟩
abbrev Fm:Stmt:=top 38
theorem Cn:A7 ["_law_script", "_law_most", "_law_seed", "_law_came", "_law_outs", "_law_signs", "_law_body_here", "_law_many"] ["_law_script", "_law_most"] (Aj Fm):=⟨Z,Z,Z,by decide +kernel,Z,by decide +kernel,by decide +kernel⟩
abbrev Et:Stmt:=top 39
theorem Q5:A7 ["_law_gate_here", "_law_count", "_law_signs", "_law_rests"] ["_law_gate_here", "_law_count", "_law_signs", "_law_rests"] (Aj Et):=⟨Z,Z,Z,by decide +kernel,Z,by decide +kernel,by decide +kernel⟩
abbrev Dh:Stmt:=top 40
theorem N9:A7 ["_law_found", "_law_many", "_law_count"] ["_law_found", "_law_many", "_law_count"] (Aj Dh):=⟨Z,Z,Z,by decide +kernel,Z,by decide +kernel,by decide +kernel⟩
abbrev Fv:Stmt:=top 41
theorem Lp:A7 ["_law_net", "_law_signs", "_law_rests", "_law_count"] ["_law_net", "_law_signs", "_law_rests"] (Aj Fv):=⟨Z,Z,Z,by decide +kernel,Z,by decide +kernel,by decide +kernel⟩
abbrev Fd:Stmt:=top 42
theorem Qg:A7 ["_law_part"] ["_law_part"] (Aj Fd):=⟨Z,Z,Z,by decide +kernel,Z,by decide +kernel,by decide +kernel⟩
abbrev Cy:Stmt:=top 43
theorem Bx:A7 ["_law_net", "_law_free", "_law_number", "_law_count", "_law_came", "_law_left", "_law_one", "_law_row"] ["_law_net"] (Aj Cy):=⟨Z,Z,Z,by decide +kernel,Z,by decide +kernel,by decide +kernel⟩
abbrev K4:Stmt:=top 44
theorem Nr:A7 ["_law_script", "_law_program_here", "_law_rests", "_law_net"] ["_law_script"] (Aj K4):=⟨Z,Z,Z,by decide +kernel,Z,by decide +kernel,by decide +kernel⟩
abbrev Abr:Stmt:=top 13
abbrev Em:Stmt:=top 14
structure Txt (mg:Str→Option Value):Prop where
 n_all:mg "all" = none
 n_bool:mg "bool" = none
 n_enumerate:mg "enumerate" = none
 n_int:mg "int" = none
 n_isinstance:mg "isinstance" = none
 n_len:mg "len" = none
 n_list:mg "list" = none
 n_max:mg "max" = none
 n_range:mg "range" = none
 n_set:mg "set" = none
 n_sorted:mg "sorted" = none
 n_str:mg "str" = none
 n_tuple:mg "tuple" = none
abbrev Gw:=Str× List Int
structure Ws where
 gs:List Gw
 sn:List (List Int)
 lv:List (Int× Int)
def Ws.nx (s:Ws):Int:=(s.gs.length:Int)
def Ws.add (s:Ws) (w:Str) (ns:List Int):Ws:=⟨s.gs ++ [(w,ns)],s.sn,s.lv⟩
def Ws.fil (s:Ws) (n:Int) (w:Str) (ns:List Int):Ws:=⟨s.gs.set n.toNat (w,ns),s.sn,s.lv⟩
def Ws.som (s:Ws) (ns:List Int):Int× Ws:=if ns.length = 1 then (ns.headD 0,s) else (s.nx,s.add "some" ns)
def Hy (l:List (Int× Int)) (k v:Int):List (Int× Int):=if (l.any λ p=>decide (p.1 = k)) = true then l.map (λ p=>if p.1 = k then (p.1,v) else p) else l ++ [(k,v)]
def Ws.lev (s:Ws) (k v:Int):Ws:=⟨s.gs,s.sn,Hy s.lv k v⟩
def Ws.sen (s:Ws) (x:Int) (g:Int):Ws:=⟨s.gs,s.sn.set x.toNat (s.sn.getD x.toNat [] ++ [g]),s.lv⟩
def kvI (p:Int× Int):Key× V:=(Sum.inl p.1,V.int p.2)
theorem Mr (l:List (Int× Int)) (k v:Int):(Hy l k v).map kvI = Do (l.map kvI) (Sum.inl k) (V.int v):=by
 have e:((l.map kvI).any λ kv=>decide (kv.1 = (Sum.inl k:Key))) = l.any λ p=>decide (p.1 = k):=by
  rw [List.any_map]
  congr 1
  funext p
  show decide ((Sum.inl p.1:Key) = Sum.inl k) = _
  by_cases h:p.1 = k
  ·rw [decide_eq_true h,decide_eq_true (congrArg Sum.inl h)]
  ·rw [decide_eq_false h,decide_eq_false (λ z=>h (Sum.inl.inj z))]
 unfold Hy Do
 rw [e]
 split
 ·rw [map_map,map_map]
  congr 1
  funext p
  show kvI (if p.1 = k then (p.1,v) else p) = if (Sum.inl p.1:Key) = Sum.inl k then ((Sum.inl p.1:Key),V.int v) else kvI p
  by_cases h:p.1 = k
  ·rw [if_pos h,if_pos (congrArg Sum.inl h)]; rfl
  ·rw [if_neg h,if_neg (λ z=>h (Sum.inl.inj z))]
 ·rw [map_append]; rfl
theorem Rn {l:List (Int× Int)} {k v:Int} (h:∀ p∈l,¬ p.1 = k):Hy l k v = l ++ [(k,v)]:=by
 unfold Hy
 rw [if_neg]
 intro z
 obtain ⟨p,hp,e⟩:=any_eq_true.mp z
 exact h p hp (of_decide_eq_true e)
structure Lc where
 dx:Addr
 gl:Addr
 sl:Addr
 nl:Addr
 ld:Addr
 rs:List Addr
def Lc.S (L:Lc):List Addr:=L.gl :: L.ld :: L.rs
def wsF (L:Lc):List (Str× V):=[("gates", .ref L.gl),("signs", .ref L.sl),("senders", .ref L.nl),("leavers", .ref L.ld)]
def GwAt (H:Hp) (g:Gw) (v:V):Prop:=∃ t u,v = .ref t∧H t = some (.tup [.str g.1,.ref u])∧H u = some (.tup (g.2.map V.int))
theorem GwAt.mono {H H':Hp} {g:Gw} {v:V} (h:GwAt H g v) (T:Tp H H'):GwAt H' g v:=by
 obtain ⟨t,u,e,h1,h2⟩:=h
 exact ⟨t,u,e,T _ _ h1,T _ _ h2⟩
inductive Au (C:Addr) (H:Hp) (o:Addr) (L:Lc) (n:Nat) (s:Ws):Prop
 | mk (gvs:List V) (ho:H o = some (.ins C L.dx (wsF L))) (hg:H L.gl = some (.lst gvs)) (hp:PySem.Paired (GwAt H) s.gs gvs) (hs:H L.sl = some (.lst ((List.range n).map λ (i:Nat)=>V.int (i:Int))))
   (hn:H L.nl = some (.lst (L.rs.map V.ref))) (hr:PySem.Paired (λ l r=>H r = some (.lst ((l:List Int).map V.int))) s.sn L.rs) (hl:H L.ld = some (.dK (s.lv.map kvI))) (nd:(L.gl :: L.sl :: L.nl :: L.rs).Nodup):Au C H o L n s
def KpS (S:List Addr) (H H':Hp):Prop:=∀ b u,b∉S→H b = some u→H' b = some u
theorem KpS.refl (S:List Addr) (H:Hp):KpS S H H:=λ _ _ _ h=>h
theorem KpS.trans {S:List Addr} {H H1 H2:Hp} (a:KpS S H H1) (b:KpS S H1 H2):KpS S H H2:=λ c u h e=>b c u h (a c u h e)
theorem Same.kpS {S:List Addr} {H H':Hp} (g:Same H H'):KpS S H H':=λ b u _ e=>g b u e
theorem KpS.upd {S:List Addr} {r:Addr} {H:Hp} {u:HO} (h:r∈S):KpS S H (L2.upd H r u):=λ b v n e=>by
 have hb:b≠r:=λ z=>n (by rw [z]; exact h)
 rw [upd_ne hb]
 exact e
theorem KpS.more {S S':List Addr} {H H':Hp} (k:KpS S H H') (h:∀ b∈S,b∈S'):KpS S' H H':=λ b u n e=>k b u (λ z=>n (h b z)) e
theorem Au.off {C o:Addr} {H:Hp} {L:Lc} {n:Nat} {s:Ws} (w:Au C H o L n s) {b:Addr} {u:HO} (e:H b = some u) (h1:∀ xs,u≠.lst xs) (h2:∀ kvs,u≠.dK kvs):b∉L.S:=λ z=>by
 obtain ⟨gvs,ho,hg,hp,hs,hn,hr,hl,nd⟩:=w
 rcases mem_cons.mp z with z | z
 ·rw [z,hg] at e; exact h1 _ (Option.some.inj e).symm
 ·rcases mem_cons.mp z with z | z
  ·rw [z,hl] at e; exact h2 _ (Option.some.inj e).symm
  ·obtain ⟨j,hj⟩:=getElem?_of_mem z
   have hl2:=PySem.Paired.length hr
   have hjl:j < s.sn.length:=by have:=(List.getElem?_eq_some_iff.mp hj).1; omega
   obtain ⟨y,e1,e2⟩:=Bq hr (getElem?_eq_getElem hjl)
   rw [hj] at e1
   cases e1
   rw [e2] at e
   exact h1 _ (Option.some.inj e).symm
theorem Au.tp {C o:Addr} {H H':Hp} {L:Lc} {n:Nat} {s:Ws} (w:Au C H o L n s) (k:KpS L.S H H'):Tp H H':=λ b xs e=>k b _ (w.off e (λ _ z=>nomatch z) λ _ z=>nomatch z) e
theorem Au.same {C o:Addr} {H H':Hp} {L:Lc} {n:Nat} {s:Ws} (w:Au C H o L n s) (g:Same H H'):Au C H' o L n s:=by
 obtain ⟨gvs,ho,hg,hp,hs,hn,hr,hl,nd⟩:=w
 exact ⟨gvs,g _ _ ho,g _ _ hg,Paired.mapP hp λ _ _ a=>a.mono g.tp,g _ _ hs,g _ _ hn,Paired.mapP hr λ _ _ a=>g _ _ a,g _ _ hl,nd⟩
theorem Au.keep {C o:Addr} {H H':Hp} {L:Lc} {n:Nat} {s:Ws} (w:Au C H o L n s) (T:List Addr) (g:KpS T H H') (tp:Tp H H') (h:∀ b∈T,b≠o∧b≠L.sl∧b≠L.nl∧b∉L.S):Au C H' o L n s:=by
 obtain ⟨gvs,ho,hg,hp,hs,hn,hr,hl,nd⟩:=w
 refine ⟨gvs,g _ _ (λ z=>(h _ z).1 rfl) ho,g _ _ (λ z=>(h _ z).2.2.2 (mem_cons_self)) hg,Paired.mapP hp λ _ _ a=>a.mono tp,g _ _ (λ z=>(h _ z).2.1 rfl) hs,g _ _ (λ z=>(h _ z).2.2.1 rfl) hn,?_,g _ _ (λ z=>(h _ z).2.2.2 (mem_cons_of_mem _ mem_cons_self)) hl,nd⟩
 refine Dc (PySem.Paired.length hr) λ j x e=>?_
 obtain ⟨y,e1,e2⟩:=Bq hr e
 exact ⟨y,e1,g _ _ (λ z=>(h _ z).2.2.2 (mem_cons_of_mem _ (mem_cons_of_mem _ (mem_of_getElem? e1)))) e2⟩
theorem Au.gates {C o:Addr} {H:Hp} {L:Lc} {n:Nat} {s:Ws} (w:Au C H o L n s) {gs:List Gw} {gvs:List V} (hp:PySem.Paired (GwAt H) gs gvs):Au C (upd H L.gl (.lst gvs)) o L n ⟨gs,s.sn,s.lv⟩:=by
 obtain ⟨gvs0,ho,hg,hp0,hs,hn,hr,hl,nd⟩:=w
 have tp:Tp H (upd H L.gl (.lst gvs)):=Tp.lst hg
 have ns:L.sl≠L.gl:=λ z=>by rw [z] at nd; simp at nd
 have nn:L.nl≠L.gl:=λ z=>by rw [z] at nd; simp at nd
 have nr:∀ r∈L.rs,r≠L.gl:=λ r hr z=>by rw [← z] at nd; simp [hr] at nd
 refine ⟨gvs,by rw [upd_ne (Bl ho hg (by intro z; cases z))]; exact ho,Ab,Paired.mapP hp λ _ _ a=>a.mono tp,by rw [upd_ne ns]; exact hs,by rw [upd_ne nn]; exact hn,?_,by rw [upd_ne (Bl hl hg (by intro z; cases z))]; exact hl,nd⟩
 refine Dc (PySem.Paired.length hr) λ j x e=>?_
 obtain ⟨y,e1,e2⟩:=Bq hr e
 exact ⟨y,e1,by rw [upd_ne (nr y (mem_of_getElem? e1))]; exact e2⟩
abbrev Iw:Stmt:=Es Em 0
abbrev L5:Stmt:=Es Em 1
abbrev Kh:Stmt:=Es Em 2
abbrev Ol:Stmt:=Es Em 3
abbrev Iq:Stmt:=Es Em 4
abbrev Io:Stmt:=Es Em 5
abbrev Jv:Stmt:=Es Em 6
abbrev Hc:Stmt:=Es Em 7
abbrev Ip:Stmt:=Es Em 8
abbrev Mm:Stmt:=Es Abr 0
theorem Tm:A7 ["self", "word", "numbers"] ["self", "word", "numbers"] (Aj L5):=⟨Z,Z,Z,by decide +kernel,Z,by decide +kernel,by decide +kernel⟩
theorem Rv:A7 ["self"] ["self"] (Aj Kh):=⟨Z,Z,Z,by decide +kernel,Z,by decide +kernel,by decide +kernel⟩
theorem Aa6:A7 ["self", "number", "word", "numbers"] ["self", "number", "word", "numbers"] (Aj Ol):=⟨Z,Z,Z,by decide +kernel,Z,by decide +kernel,by decide +kernel⟩
theorem Sz:A7 ["self", "number"] ["self", "number"] (Aj Iq):=⟨Z,Z,Z,by decide +kernel,Z,by decide +kernel,by decide +kernel⟩
theorem Sw:A7 ["self", "numbers"] ["self", "numbers"] (Aj Io):=⟨Z,Z,Z,by decide +kernel,Z,by decide +kernel,by decide +kernel⟩
theorem Uv:A7 ["self", "numbers"] ["self", "numbers"] (Aj Jv):=⟨Z,Z,Z,by decide +kernel,Z,by decide +kernel,by decide +kernel⟩
theorem S7:A7 ["self"] ["self"] (Aj Ip):=⟨Z,Z,Z,by decide +kernel,Z,by decide +kernel,by decide +kernel⟩
theorem Y3:A7 ["self", "runs", "kept", "stays"] ["self", "runs", "kept", "stays"] (Aj Mm):=⟨Z,Z,Z,by decide +kernel,Z,by decide +kernel,by decide +kernel⟩
structure B3 (K:PySem.W.Frag) (mg:Str→Option Value) (C CP:Addr):Prop extends Txt mg where
 cl:Cls K C
 nG:Dl K C "gates"
 nS:Dl K C "signs"
 nN:Dl K C "senders"
 nL:Dl K C "leavers"
 clP:Cls K CP
 nR:Dl K CP "runs"
 nK:Dl K CP "kept"
 nT:Dl K CP "stays"
 nE:Dl K CP "rests"
 nC:Dl K CP "codes"
 m_Wired:mg "Wired" = some (.ref CP)
 m_Wiring:mg "Wiring" = some (.ref C)
 m_EN:∃ t,mg "ENDED" = some (.int 0 t)
 m_RE:∃ t,mg "RESTS" = some (.int 1 t)
 m_LE:∃ t,mg "LEAVES" = some (.int 2 t)
inductive Q4 (C:Addr) (vs:List V) (H:Hp) (Q:VK):Prop
 | mk (o nl':Addr) (w:Str) (ns:List Int) (L:Lc) (n:Nat) (s:Ws) (_:vs = [.ref o,.str w,.ref nl']) (_:Au C H o L n s) (_:H nl' = some (.lst (ns.map V.int))) (_:s.gs.length≤1000000) (_:∀ H',KpS L.S H H'→Au C H' o L n (s.add w ns)→Q (.int s.nx) H'):Q4 C vs H Q
def Gb (C:Addr):Sp:=λ vs H Q _=>Q4 C vs H Q
inductive Pi (C:Addr) (vs:List V) (H:Hp) (Q:VK):Prop
 | mk (o:Addr) (L:Lc) (n:Nat) (s:Ws) (_:vs = [.ref o]) (_:Au C H o L n s) (_:s.gs.length≤1000000) (_:∀ H',KpS L.S H H'→Au C H' o L n (s.add "some" [])→Q (.int s.nx) H'):Pi C vs H Q
def Ot (C:Addr):Sp:=λ vs H Q _=>Pi C vs H Q
inductive Rm (C:Addr) (vs:List V) (H:Hp) (Q:VK):Prop
 | mk (o nl':Addr) (g:Int) (w:Str) (ns:List Int) (L:Lc) (n:Nat) (s:Ws) (_:vs = [.ref o,.int g,.str w,.ref nl']) (_:Au C H o L n s) (_:H nl' = some (.lst (ns.map V.int))) (_:0≤g) (_:g < s.nx) (_:∀ H',KpS L.S H H'→Au C H' o L n (s.fil g w ns)→Q .non H'):Rm C vs H Q
def Gk (C:Addr):Sp:=λ vs H Q _=>Rm C vs H Q
inductive Uh (C:Addr) (vs:List V) (H:Hp) (Q:VK):Prop
 | mk (o:Addr) (g:Int) (L:Lc) (n:Nat) (s:Ws) (_:vs = [.ref o,.int g]) (_:Au C H o L n s) (_:s.gs.length≤1000000) (_:∀ H',KpS L.S H H'→Au C H' o L n (s.add "not" [g])→Q (.int s.nx) H'):Uh C vs H Q
def Kx (C:Addr):Sp:=λ vs H Q _=>Uh C vs H Q
inductive Pf (C:Addr) (vs:List V) (H:Hp) (Q:VK):Prop
 | mk (o nl':Addr) (ns:List Int) (L:Lc) (n:Nat) (s:Ws) (_:vs = [.ref o,.ref nl']) (_:Au C H o L n s) (_:H nl' = some (.lst (ns.map V.int))) (_:s.gs.length≤1000000) (_:∀ H',KpS L.S H H'→Au C H' o L n (s.add "all" ns)→Q (.int s.nx) H'):Pf C vs H Q
def Fh (C:Addr):Sp:=λ vs H Q _=>Pf C vs H Q
inductive Q8 (C:Addr) (vs:List V) (H:Hp) (Q:VK):Prop
 | mk (o nl':Addr) (ns:List Int) (L:Lc) (n:Nat) (s:Ws) (_:vs = [.ref o,.ref nl']) (_:Au C H o L n s) (_:H nl' = some (.lst (ns.map V.int))) (_:s.gs.length≤1000000) (_:∀ H',KpS L.S H H'→Au C H' o L n (s.som ns).2→Q (.int (s.som ns).1) H'):Q8 C vs H Q
def Ft (C:Addr):Sp:=λ vs H Q _=>Q8 C vs H Q
theorem Us {n:Nat} (h:n≤1000000):n < sizeLine:=lt_of_le_of_lt h (by decide)
section
variable {P:Program} {w:World} {K:PySem.W.Frag} {mg:Str→Option Value} {base:Heap} {C CP:Addr}
seal PSs PS PE PA PT
theorem Aa9 {f:Addr} {fd:FuncData} (F:Fun K "gate" "Wiring.gate" L5 f fd) (T:B3 K mg C CP):Cj P w K mg base CX0 1 f fd ["self", "word", "numbers"] (Gb C):=by
 refine F.ok Tm (λ vs H Q E h=>?_) (λ cdv A outer s0 H vs Q E hr h=>?_)
 ·obtain ⟨o,nl',w,ns,L,n,s,rfl,_⟩:=h; rfl
 obtain ⟨o,nl',w,ns,L,n,s,rfl,W,hnl,hb,q⟩:=h
 obtain ⟨gvs,ho,hg,hp,rest⟩:=id W
 have gl:=PySem.Paired.length hp
 refine ⟨_,(Ae (Bg (E1 PySem.F.plainAttrs_list PySem.F.slot_list_append PySem.F.type_list_append Ck (Ar (pv 0) rfl) (Aa (Be (Aa (pv 1) (Aa (F6 Hx rfl T.n_tuple (by decide +kernel) (Aa (pv 2) Ac)) Ac))) Ac)))
  (Ai (Aw (Bj Nf (A4 Br rfl T.n_len PySem.boot_len (Aa (Ar (pv 0) rfl) Ac)) Ag)))),?_⟩
 refine ⟨_,Z,o,C,L.dx,_,.ref L.gl,Z,ho,T.cl,T.nG,Z,.inl ⟨Z,_,SqL.of hg⟩,_,Z,_,Z,nl',_,Z,.inl ⟨SqL.of hnl,λ t2 ht2=>⟨zN2,λ t1 ht1=>?_⟩⟩⟩
 have g1:=Ad ht2 (.tup (ns.map V.int))
 have g2:=Ad ht1 (.tup [V.str w,.ref t2])
 have g12:=g1.trans g2
 have W2:=W.same g12
 refine ⟨L.gl,gvs,.ref t1,Z,Z,g12 _ _ hg,Us (by omega),?_⟩
 have pn:PySem.Paired (GwAt (upd (upd H t2 (.tup (ns.map V.int))) t1 (.tup [V.str w,.ref t2]))) (s.gs ++ [(w,ns)]) (gvs ++ [.ref t1]):=by
  refine Dc (by rw [length_append,length_append,gl]; rfl) λ j x e=>?_
  rcases lt_or_ge j s.gs.length with hj | hj
  ·rw [getElem?_append_left hj] at e
   obtain ⟨y,e1,e2⟩:=Bq hp e
   exact ⟨y,by rw [getElem?_append_left (by omega)]; exact e1,e2.mono g12.tp⟩
  ·rw [getElem?_append_right hj] at e
   have hj0:j - s.gs.length = 0:=by
    have:=(List.getElem?_eq_some_iff.mp e).1
    rw [length_singleton] at this
    omega
   rw [hj0] at e
   cases e
   refine ⟨.ref t1,by rw [getElem?_append_right (by omega),show j - gvs.length = 0 by omega]; rfl,t1,t2,Z,Ab,g2 _ _ Ab⟩
 have W3:=W2.gates pn
 have ho3:(upd (upd (upd H t2 (.tup (ns.map V.int))) t1 (.tup [V.str w,.ref t2])) L.gl (.lst (gvs ++ [.ref t1]))) o = some (.ins C L.dx (wsF L)):=by
  obtain ⟨_,ho3,_⟩:=W3
  exact ho3
 refine ⟨_,Z,o,C,L.dx,_,.ref L.gl,Z,ho3,T.cl,T.nG,Z,L.gl,_,Z,.inl (SqL.of Ab),_,_,Z,Z,?_⟩
 have e:(((gvs ++ [V.ref t1]).length:Nat):Int) - 1 = s.nx:=by
  unfold Ws.nx
  rw [length_append,length_singleton]
  omega
 dsimp only
 rw [e]
 exact q _ ((Same.kpS g12).trans (KpS.upd mem_cons_self)) W3
theorem AaW {f:Addr} {fd:FuncData} (F:Fun K "later" "Wiring.later" Kh f fd) (T:B3 K mg C CP) (aH:Bf P w K mg base 1 C "gate" ["self", "word", "numbers"] (Gb C)):Cj P w K mg base CX0 2 f fd ["self"] (Ot C):=by
 refine F.ok Rv (λ vs H Q E h=>?_) (λ cdv A outer s0 H vs Q E hr h=>?_)
 ·obtain ⟨o,L,n,s,rfl,_⟩:=h; rfl
 obtain ⟨o,L,n,s,rfl,W,hb,q⟩:=h
 obtain ⟨gvs,ho,rest⟩:=id W
 refine ⟨_,(Ai (Aw (Aq aH hr Al (pv 0) (Aa An (Aa (A5 Ac) Ac))))),?_⟩
 refine ⟨_,Z,o,L.dx,_,Z,ho,Z,zN0,λ l hl=>?_⟩
 have g:=Ad hl (.lst [])
 exact ⟨o,l, "some", [],L,n,s,Z,W.same g,Ab,hb,λ H' k W'=>q _ ((Same.kpS g).trans k) W'⟩
theorem Su {f:Addr} {fd:FuncData} (F:Fun K "opposite" "Wiring.opposite" Iq f fd) (T:B3 K mg C CP) (aH:Bf P w K mg base 1 C "gate" ["self", "word", "numbers"] (Gb C)):Cj P w K mg base CX0 2 f fd ["self", "number"] (Kx C):=by
 refine F.ok Sz (λ vs H Q E h=>?_) (λ cdv A outer s0 H vs Q E hr h=>?_)
 ·obtain ⟨o,g,L,n,s,rfl,_⟩:=h; rfl
 obtain ⟨o,g,L,n,s,rfl,W,hb,q⟩:=h
 obtain ⟨gvs,ho,rest⟩:=id W
 refine ⟨_,(Ai (Aw (Aq aH hr Al (pv 0) (Aa An (Aa (A5 (Aa (pv 1) Ac)) Ac))))),?_⟩
 refine ⟨_,Z,o,L.dx,_,Z,ho,Z,_,Z,zN1,λ l hl=>?_⟩
 have g1:=Ad hl (.lst [V.int g])
 exact ⟨o,l, "not", [g],L,n,s,Z,W.same g1,Ab,hb,λ H' k W'=>q _ ((Same.kpS g1).trans k) W'⟩
theorem Vh {f:Addr} {fd:FuncData} (F:Fun K "every_of" "Wiring.every_of" Io f fd) (T:B3 K mg C CP) (aH:Bf P w K mg base 1 C "gate" ["self", "word", "numbers"] (Gb C)):Cj P w K mg base CX0 2 f fd ["self", "numbers"] (Fh C):=by
 refine F.ok Sw (λ vs H Q E h=>?_) (λ cdv A outer s0 H vs Q E hr h=>?_)
 ·obtain ⟨o,nl',ns,L,n,s,rfl,_⟩:=h; rfl
 obtain ⟨o,nl',ns,L,n,s,rfl,W,hn,hb,q⟩:=h
 obtain ⟨gvs,ho,rest⟩:=id W
 refine ⟨_,(Ai (Aw (Aq aH hr Al (pv 0) (Aa An (Aa (pv 1) Ac))))),?_⟩
 refine ⟨_,Z,o,L.dx,_,Z,ho,Z,_,Z,?_⟩
 exact ⟨o,nl', "all", ns,L,n,s,Z,W,hn,hb,q⟩
theorem Xr {f:Addr} {fd:FuncData} (F:Fun K "some_of" "Wiring.some_of" Jv f fd) (T:B3 K mg C CP) (aH:Bf P w K mg base 1 C "gate" ["self", "word", "numbers"] (Gb C)):Cj P w K mg base CX0 2 f fd ["self", "numbers"] (Ft C):=by
 refine F.ok Uv (λ vs H Q E h=>?_) (λ cdv A outer s0 H vs Q E hr h=>?_)
 ·obtain ⟨o,nl',ns,L,n,s,rfl,_⟩:=h; rfl
 obtain ⟨o,nl',ns,L,n,s,rfl,W,hn,hb,q⟩:=h
 obtain ⟨gvs,ho,rest⟩:=id W
 refine ⟨_,(Ai (Aw (Gs (As Bm (A4 Br rfl T.n_len PySem.boot_len (Aa (pv 1) Ac)) Ag (Ax _)) (Ao Bz (pv 1) Ag (λ _ _=>rfl)) (Aq aH hr Al (pv 0) (Aa An (Aa (pv 1) Ac)))))),?_⟩
 refine ⟨_,Z,nl',_,Z,.inl (SqL.of hn),Z,_,Z,Ay (λ c=>?_) λ c=>?_⟩
 ·have c:ns.length = 1:=by
   have:=V.int.inj (of_decide_eq_true c)
   rw [length_map] at this
   omega
  obtain ⟨x,rfl⟩:∃ x,ns = [x]:=List.length_eq_one_iff.mp c
  refine ⟨_,Z,nl',_,_,.int x,Z,Z,SqL.of hn,Ah (j:=0) rfl,?_⟩
  have e:s.som [x] = (x,s):=by unfold Ws.som; rw [if_pos (show [x].length = 1 from rfl)]; rfl
  rw [e] at q
  exact q H (KpS.refl _ _) W
 ·have c:¬ ns.length = 1:=λ z=>c (decide_eq_true (by rw [length_map,z]; rfl))
  have e:s.som ns = (s.nx,s.add "some" ns):=by unfold Ws.som; rw [if_neg c]
  rw [e] at q
  refine ⟨_,Z,o,L.dx,_,Z,ho,Z,_,Z,?_⟩
  exact ⟨o,nl', "some", ns,L,n,s,Z,W,hn,hb,q⟩
theorem Abc {f:Addr} {fd:FuncData} (F:Fun K "fill" "Wiring.fill" Ol f fd) (T:B3 K mg C CP):Cj P w K mg base CX0 1 f fd ["self", "number", "word", "numbers"] (Gk C):=by
 refine F.ok Aa6 (λ vs H Q E h=>?_) (λ cdv A outer s0 H vs Q E hr h=>?_)
 ·obtain ⟨o,nl',g,w,ns,L,n,s,rfl,_⟩:=h; rfl
 obtain ⟨o,nl',g,w,ns,L,n,s,rfl,W,hnl,g0,g1,q⟩:=h
 obtain ⟨gvs,ho,hg,hp,rest⟩:=id W
 have gl:=PySem.Paired.length hp
 refine ⟨_,(Ai (Fq (Be (Aa (pv 2) (Aa (F6 Hx rfl T.n_tuple (by decide +kernel) (Aa (pv 3) Ac)) Ac))) (Rf (Ar (pv 0) rfl) (pv 1) Na))),?_⟩
 refine ⟨_,Z,_,Z,nl',_,Z,.inl ⟨SqL.of hnl,λ t2 ht2=>⟨zN2,λ t1 ht1=>?_⟩⟩⟩
 have k1:=Ad ht2 (.tup (ns.map V.int))
 have k2:=Ad ht1 (.tup [V.str w,.ref t2])
 have k12:=k1.trans k2
 have W2:=W.same k12
 have gn:g.toNat < gvs.length:=by unfold Ws.nx at g1; omega
 refine ⟨_,Z,o,C,L.dx,_,.ref L.gl,Z,k12 _ _ ho,T.cl,T.nG,Z,_,Z,L.gl,gvs,g,g.toNat,Z,Z,k12 _ _ hg,?_,?_⟩
 ·unfold ixN; rw [if_pos g0,if_pos (by omega)]
 have pn:PySem.Paired (GwAt (upd (upd H t2 (.tup (ns.map V.int))) t1 (.tup [V.str w,.ref t2]))) (s.gs.set g.toNat (w,ns)) (gvs.set g.toNat (.ref t1)):=by
  refine Dc (by rw [length_set,length_set,gl]) λ j x e=>?_
  by_cases hj:j = g.toNat
  ·subst hj
   rw [getElem?_set_self (by omega)] at e
   cases e
   exact ⟨.ref t1,by rw [getElem?_set_self gn],t1,t2,Z,Ab,k2 _ _ Ab⟩
  ·rw [getElem?_set_ne (Ne.symm hj)] at e
   obtain ⟨y,e1,e2⟩:=Bq hp e
   exact ⟨y,by rw [getElem?_set_ne (Ne.symm hj)]; exact e1,e2.mono k12.tp⟩
 exact q _ ((Same.kpS k12).trans (KpS.upd mem_cons_self)) (W2.gates pn)
structure Wr where
 runs:Int
 kept:Int
 stays:Int
 rests:Int
 codes:List (Int× Int)
def wdV (x y z:Int) (rv cv:V):List (Str× V):=[("runs", .int x),("kept", .int y),("stays", .int z),("rests", rv),("codes", cv)]
inductive B2 (CP:Addr) (H:Hp) (a:Addr) (r:Wr):Prop
 | mk (dx d:Addr) (ob:Obj) (ha:H a = some (.ins CP dx (wdV r.runs r.kept r.stays (.int r.rests) (.ref d)))) (hd:H d = some (.frz ob (.dK (r.codes.map kvI)))):B2 CP H a r
def Ws.add3 (s:Ws):Ws:=((s.add "some" []).add "some" []).add "some" []
theorem Az (s:Ws) (w:Str) (ns:List Int):(s.add w ns).nx = s.nx + 1:=by unfold Ws.nx Ws.add; rw [length_append,length_singleton]; omega
theorem Af (s:Ws) (w:Str) (ns:List Int):(s.add w ns).gs.length = s.gs.length + 1:=by unfold Ws.add; rw [length_append,length_singleton]
theorem Au.fresh {C o:Addr} {H H':Hp} {L:Lc} {n:Nat} {s:Ws} (w:Au C H' o L n s) (k:KpS L.S H H') {a:Addr} (na:H' a = none):H a = none:=by
 cases e:H a with
 | none=>rfl
 | some u =>
  have:a∈L.S:=Classical.byContradiction λ z=>by rw [k a u z e] at na; cases na
  obtain ⟨gvs3,_,hg3,_,_,_,hr3,hl3,_⟩:=w
  rcases mem_cons.mp this with z | z
  ·rw [z,hg3] at na; cases na
  ·rcases mem_cons.mp z with z | z
   ·rw [z,hl3] at na; cases na
   ·obtain ⟨j,hj⟩:=getElem?_of_mem z
    have hl2:=PySem.Paired.length hr3
    have hjl:=(List.getElem?_eq_some_iff.mp hj).1
    obtain ⟨y,e1,e2⟩:=Bq hr3 (getElem?_eq_getElem (show j < _ by rw [hl2]; exact hjl))
    rw [hj] at e1
    cases e1
    rw [e2] at na
    cases na
theorem Ls {CP a dx:Addr} {fs:List (Str× V)} {H H':Hp} (ha:H a = some (.ins CP dx fs)) (k:KpS [a] H H'):Tp H H':=λ b xs e=>k b _ (λ z=>by rw [mS z,ha] at e; cases e) e
theorem Au.obj {C CP o a dx:Addr} {H H':Hp} {L:Lc} {n:Nat} {s:Ws} {fs:List (Str× V)} (w:Au C H o L n s) (ha:H a = some (.ins CP dx fs)) (ao:a≠o) (k:KpS [a] H H'):Au C H' o L n s:=by
 refine w.keep [a] k (Ls ha k) λ b hb=>?_
 rw [mS hb]
 have off:=w.off ha (λ _ z=>nomatch z) λ _ z=>nomatch z
 obtain ⟨gvs,ho,hg,hp,hs,hn,hr,hl,nd⟩:=w
 exact ⟨ao,Bl ha hs (by intro z; cases z),Bl ha hn (by intro z; cases z),off⟩
inductive P6 (CP:Addr) (vs:List V) (H:Hp) (Q:VK):Prop
 | mk (a dx:Addr) (x y z:Int) (_:vs = [.ref a,.int x,.int y,.int z]) (_:H a = some (.ins CP dx [])) (_:∀ d H',KpS [a] H H'→H' a = some (.ins CP dx (wdV x y z .non (.ref d)))→Q .non H'):P6 CP vs H Q
def T8 (CP:Addr):Sp:=λ vs H Q _=>P6 CP vs H Q
inductive Tl (C CP:Addr) (vs:List V) (H:Hp) (Q:VK):Prop
 | mk (o:Addr) (L:Lc) (n:Nat) (s:Ws) (_:vs = [.ref o]) (_:Au C H o L n s) (_:s.gs.length + 3≤1000000) (_:∀ a dx cv H',KpS L.S H H'→H a = none→H' a = some (.ins CP dx (wdV s.nx (s.nx + 1) (s.nx + 2) .non cv))→Au C H' o L n s.add3→Q (.ref a) H'):Tl C CP vs H Q
def Qk (C CP:Addr):Sp:=λ vs H Q _=>Tl C CP vs H Q
theorem Yz {f:Addr} {fd:FuncData} (F:Fun K "__init__" "Wired.__init__" Mm f fd) (T:B3 K mg C CP):Cj P w K mg base CX0 1 f fd ["self", "runs", "kept", "stays"] (T8 CP):=by
 refine F.ok Y3 (λ vs H Q E h=>?_) (λ cdv A outer s0 H vs Q E hr h=>?_)
 ·obtain ⟨a,dx,x,y,z,rfl,_⟩:=h; rfl
 obtain ⟨a,dx,x,y,z,rfl,ha,q⟩:=h
 refine ⟨_,(Ae (Cc (pv 0) (pv 1) rfl)
  (Ae (Cc (pv 0) (pv 2) rfl)
  (Ae (Cc (pv 0) (pv 3) rfl)
  (Ae (Cc (pv 0) AcR rfl)
  (Ai (Cc (pv 0) Je rfl)))))),?_⟩
 refine ⟨_,Z,_,Z,a,CP,dx,[],Z,ha,T.clP,T.nR,(by show 0 < 1000; decide),?_⟩
 refine ⟨_,Z,_,Z,a,CP,dx,_,Z,Ab,T.clP,T.nK,(by show 1 < 1000; decide),?_⟩
 refine ⟨_,Z,_,Z,a,CP,dx,_,Z,Ab,T.clP,T.nT,(by show 2 < 1000; decide),?_⟩
 refine ⟨_,Z,a,CP,dx,_,Z,Ab,T.clP,T.nE,(by show 3 < 1000; decide),?_⟩
 refine λ d hd=>?_
 have hda:a≠d:=λ e=>by rw [← e,Ab] at hd; cases hd
 refine ⟨_,Z,a,CP,dx,_,Z,(by rw [upd_ne hda]; exact Ab),T.clP,T.nC,(by show 4 < 1000; decide),?_⟩
 refine q d _ ?_ Ab
 have kk:∀ (H1:Hp) (u:HO),KpS [a] H1 (upd H1 a u):=λ H1 u=>KpS.upd mem_cons_self
 exact ((((((kk _ _).trans (kk _ _)).trans (kk _ _)).trans (kk _ _)).trans (Same.kpS (Ad hd _)))).trans (kk _ _)
theorem U9 {f fI:Addr} {fd fdI:FuncData} (F:Fun K "new_part" "Wiring.new_part" Ip f fd) (T:B3 K mg C CP) (MkP:Mk K CP fI) (GI:Cj P w K mg base CX0 1 fI fdI ["self", "runs", "kept", "stays"] (T8 CP)) (bI:B7 K fdI ["self", "runs", "kept", "stays"] []) (bQ:Bf P w K mg base 2 C "later" ["self"] (Ot C)):Cj P w K mg base CX0 3 f fd ["self"] (Qk C CP):=by
 refine F.ok S7 (λ vs H Q E h=>?_) (λ cdv A outer s0 H vs Q E hr h=>?_)
 ·obtain ⟨o,L,n,s,rfl,_⟩:=h; rfl
 obtain ⟨o,L,n,s,rfl,W,hb,q⟩:=h
 obtain ⟨gvs,ho,rest⟩:=id W
 refine ⟨_,(Ai (Aw (Tv MkP GI (hr.mono (by decide)) rfl T.m_Wired bI .nil Al (Aa (Hu bQ hr Al (pv 0)) (Aa (Hu bQ hr Al (pv 0)) (Aa (Hu bQ hr Al (pv 0)) Ac)))))),?_⟩
 refine ⟨_,Z,o,L.dx,_,Z,ho,Z,o,L,n,s,Z,W,by omega,λ H1 k1 W1=>?_⟩
 obtain ⟨_,ho1,_⟩:=id W1
 refine ⟨_,Z,o,L.dx,_,Z,ho1,Z,o,L,n,_,Z,W1,by rw [Af]; omega,λ H2 k2 W2=>?_⟩
 obtain ⟨_,ho2,_⟩:=id W2
 refine ⟨_,Z,o,L.dx,_,Z,ho2,Z,o,L,n,_,Z,W2,by rw [Af,Af]; omega,λ H3 k3 W3=>?_⟩
 have k13:=(k1.trans k2).trans k3
 refine λ a dx na nd ne=>?_
 have sA:Same H3 (upd (upd H3 dx (.own a)) a (.ins CP dx [])):=λ b u e=>by
  rw [upd_ne (A9 e na),upd_ne (A9 e nd)]
  exact e
 refine ⟨a,dx,_,_,_,Z,Ab,λ d H4 k4 e4=>⟨Z,?_⟩⟩
 have fa:=W3.fresh k13 na
 have Wa:=W3.same sA
 have ao:a≠o:=λ z=>by obtain ⟨_,ho3,_⟩:=id W3; rw [z,ho3] at na; cases na
 simp only [Az] at e4
 rw [show s.nx + 1 + 1 = s.nx + 2 by omega] at e4
 exact q a dx _ H4 (λ b u hb e=>k4 b u (λ z=>by rw [mS z,fa] at e; cases e) (sA b u (k13 b u hb e))) fa e4 (Wa.obj Ab ao k4)
def Fj (ps:List (Int× Int)) (c:Int):List Int:=(ps.filter λ p=>decide (p.1 = c)).map (·.2)
def jstep (ps:List (Int× Int)) (a:List (Int× Int)× Ws) (c:Int):List (Int× Int)× Ws:=(a.1 ++ [(c,(a.2.som (Fj ps c)).1)],(a.2.som (Fj ps c)).2)
def jfold (ps:List (Int× Int)) (cs:List Int) (s:Ws):List (Int× Int)× Ws:=cs.foldl (jstep ps) ([],s)
def Ws.jnd (s:Ws) (ps:List (Int× Int)):List (Int× Int)× Ws:=jfold ps (nub (ps.map (·.1))) s
theorem Nl (ps:List (Int× Int)) (cs:List Int) (c:Int) (s:Ws):jfold ps (cs ++ [c]) s = jstep ps (jfold ps cs s) c:=by unfold jfold; rw [foldl_append]; rfl
theorem Im (ps:List (Int× Int)) (cs:List Int) (s:Ws):(jfold ps cs s).1.map (·.1) = cs:=by
 have k:∀ (cs:List Int) (a:List (Int× Int)× Ws),(cs.foldl (jstep ps) a).1.map (·.1) = a.1.map (·.1) ++ cs:=by
  intro cs
  induction cs with
  | nil=>intro a; simp
  | cons c cs ih=>intro a; rw [foldl_cons,ih]; unfold jstep; simp
 have:=k cs ([],s)
 rw [map_nil,nil_append] at this
 exact this
theorem Mh (s:Ws) (ns:List Int):(s.som ns).2.gs.length≤s.gs.length + 1:=by
 unfold Ws.som
 split
 ·exact le_succ _
 ·rw [Af]; exact le_refl _
theorem Lq (ps:List (Int× Int)) (cs:List Int) (s:Ws):(jfold ps cs s).2.gs.length≤s.gs.length + cs.length:=by
 have k:∀ (cs:List Int) (a:List (Int× Int)× Ws),(cs.foldl (jstep ps) a).2.gs.length≤a.2.gs.length + cs.length:=by
  intro cs
  induction cs with
  | nil=>intro a; exact le_refl _
  | cons c cs ih =>
   intro a
   rw [foldl_cons,length_cons]
   have h1:=ih (jstep ps a c)
   have h2:(jstep ps a c).2.gs.length≤a.2.gs.length + 1:=Mh _ _
   omega
 exact k cs ([],s)
def G7 (H:Hp) (p:Int× Int) (v:V):Prop:=∃ t,v = .ref t∧H t = some (.tup [.int p.1,.int p.2])
theorem G7.mono {H H':Hp} {p:Int× Int} {v:V} (h:G7 H p v) (T:Tp H H'):G7 H' p v:=by
 obtain ⟨t,e,h1⟩:=h
 exact ⟨t,e,T _ _ h1⟩
theorem Au.offN {C o:Addr} {H:Hp} {L:Lc} {n:Nat} {s:Ws} (w:Au C H o L n s) {b:Addr} (e:H b = none):b∉L.S:=λ z=>by
 obtain ⟨gvs3,_,hg3,_,_,_,hr3,hl3,_⟩:=w
 rcases mem_cons.mp z with z | z
 ·rw [z,hg3] at e; cases e
 ·rcases mem_cons.mp z with z | z
  ·rw [z,hl3] at e; cases e
  ·obtain ⟨j,hj⟩:=getElem?_of_mem z
   have hl2:=PySem.Paired.length hr3
   have hjl:=(List.getElem?_eq_some_iff.mp hj).1
   obtain ⟨y,e1,e2⟩:=Bq hr3 (getElem?_eq_getElem (show j < _ by rw [hl2]; exact hjl))
   rw [hj] at e1
   cases e1
   rw [e2] at e
   cases e
theorem Au.atD {C o d:Addr} {H:Hp} {L:Lc} {n:Nat} {s:Ws} {kvs:List (Key× V)} (w:Au C H o L n s) (hd:H d = some (.dK kvs)) (dS:d∉L.S) (u:HO):Au C (upd H d u) o L n s:=by
 refine w.keep [d] (KpS.upd mem_cons_self) (λ b xs e=>by rw [upd_ne (Bl e hd (by intro z; cases z))]; exact e) λ b hb=>?_
 rw [mS hb]
 obtain ⟨gvs,ho,hg,hp,hs,hn,hr,hl,nd⟩:=w
 exact ⟨Bl hd ho (by intro z; cases z),Bl hd hs (by intro z; cases z),Bl hd hn (by intro z; cases z),dS⟩
inductive Q1 (C:Addr) (vs:List V) (H:Hp) (Q:VK):Prop
 | mk (o pl:Addr) (ps:List (Int× Int)) (pvs:List V) (L:Lc) (n:Nat) (s:Ws) (_:vs = [.ref o,.ref pl]) (_:Au C H o L n s) (_:H pl = some (.lst pvs)) (_:pl∉L.S) (_:PySem.Paired (G7 H) ps pvs) (_:ps.length < 64) (_:s.gs.length + 64≤1000000) (_:∀ d ob H',KpS L.S H H'→H d = none→H' d = some (.frz ob (.dK ((s.jnd ps).1.map kvI)))→Au C H' o L n (s.jnd ps).2→Q (.ref d) H'):Q1 C vs H Q
def Hn (C:Addr):Sp:=λ vs H Q _=>Q1 C vs H Q
theorem Lf:A7 ["self", "pairs", "codes", "code"] ["self", "pairs"] (Aj Hc):=⟨Z,Z,Z,by decide +kernel,Z,by decide +kernel,by decide +kernel⟩
theorem Wl {f:Addr} {fd:FuncData} (F:Fun K "joined" "Wiring.joined" Hc f fd) (T:B3 K mg C CP) (aB:Bf P w K mg base 2 C "some_of" ["self", "numbers"] (Ft C)):Cj P w K mg base CX0 3 f fd ["self", "pairs"] (Hn C):=by
 refine F.ok Lf (λ vs H Q E h=>?_) (λ cdv A outer s0 H vs Q E hr h=>?_)
 ·obtain ⟨o,pl,ps,pvs,L,n,s,rfl,_⟩:=h; rfl
 obtain ⟨o,pl,ps,pvs,L,n,s,rfl,W,hpl,plS,hps,h64,hb,q⟩:=h
 have hu:=lt_of_le_of_lt (add_le_add_left (show 1≤64 by decide) _) hr.units
 have lp:=PySem.Paired.length hps
 have tkA:ps.take pvs.length = ps:=take_of_length_le (by omega)
 refine ⟨_,(Ae (Bh (i:=2) Lf.nd rfl (Or.inl rfl) Je)
  (Ae (Dr PassesOwn.never rfl (Cz (Tg rfl rfl T.n_sorted rfl T.n_set (Cu (g:=(B1 0)) (tc:=C1) (te:=(tOp (G1 K) (Bt 0) (tC (.int 0)))) ["pair"] [] rfl (Ci (Aj Hc) ["self", "pairs", "codes", "code"] (by decide +kernel)) (Cz (pv 1)) (λ s2 H2 fp cl C=>A3 (i:=0) (show Nodup [("pair" : Str)] from by decide +kernel) rfl (Or.inl rfl)) (Bo (by decide)) (λ s2 H2 fp cl C=>Df) (λ s2 H2 fp cl C=>(Ao Ap (pv 0) Ag (λ _ _=>rfl)))))) (A3 (i:=3) Lf.nd rfl (Or.inr rfl))
   (Ai (L6 hu (pv 2) (pv 3) (Aq aB hr Al (pv 0) (Aa (Cu (g:=(B1 0)) (tc:=(Kn (tOp rEq (tOp (G1 K) (Bt 0) (tC (.int 0))) (Bt 1)))) (te:=(tOp (G1 K) (Bt 0) (tC (.int 1)))) ["pair"] [("code", 3)] rfl (Ci (Aj Hc) ["self", "pairs", "codes", "code"] (by decide +kernel)) (Cz (pv 1)) (λ s2 H2 fp cl C=>A3 (i:=0) (show Nodup [("pair" : Str),("code" : Str)] from by decide +kernel) rfl (Or.inl rfl)) (Bo (by decide)) (λ s2 H2 fp cl C=>F3 (As Bm (Ao Ap (pv 0) Ag (λ _ _=>rfl)) (pv 1) (Ax _))) (λ s2 H2 fp cl C=>(Ao Ap (pv 0) Ag (λ _ _=>rfl)))) Ac)) rfl)))
  (Ai (Aw (Oj (pv 2)))))),?_⟩
 refine λ d hd=>?_
 have g1:=Ad hd (.dK [])
 have hd1:=Ab (H:=H) (a:=d) (o:=.dK [])
 have W1:=W.same g1
 have hpl1:=g1 _ _ hpl
 have hps1:PySem.Paired (G7 (upd H d (.dK []))) ps pvs:=Paired.mapP hps λ _ _ a=>a.mono g1.tp
 refine ⟨_,Z,pl,Z,⟨_,SqL.of hpl1⟩,E4 (K:=K) (xs:=pvs) (λ i ys H'=>H' = upd H d (.dK [])∧ys = ((ps.take i).map (·.1)).map V.int) ⟨Z,Z⟩ (by rw [← lp]; exact le_trans (le_of_lt h64) (by decide)) (λ i ys H' hh=>by rw [hh.1]; exact SqL.of hpl1) ?_ ?_⟩
 ·rintro i x ys H' N hi ⟨rfl,rfl⟩ hN hyl
  have hil:i < ps.length:=by have:=(List.getElem?_eq_some_iff.mp hi).1; omega
  obtain ⟨y,e1,t,rfl,et⟩:=Bq hps1 (getElem?_eq_getElem hil)
  rw [hi] at e1
  cases e1
  refine ⟨_,Z,t,_,_,.int (ps[i]).1,Z,Z,SqT.of et,Ah (j:=0) rfl,hN _ _ ?_ ⟨Z,?_⟩⟩
  ·rw [length_append,length_singleton]; omega
  ·rw [take_succ,getElem?_eq_getElem hil,map_append,map_append]; rfl
 rintro ys H' hyl ⟨rfl,rfl⟩ D0 hD0
 rw [tkA]
 have g2:=Ad hD0 (.lst ((ps.map (·.1)).map V.int))
 refine ⟨D0,ps.map (·.1),Z,SqL.of Ab,by rw [length_map]; exact h64,λ l2 hl2=>?_⟩
 have g3:=Ad hl2 (.lst ((nub (ps.map (·.1))).map V.int))
 have g23:=g2.trans g3
 have W3:=W1.same g23
 have nl:=Kg (ps.map (·.1))
 rw [length_map] at nl
 have hl23:(upd (upd (upd H d (.dK [])) D0 (.lst ((ps.map (·.1)).map V.int))) l2 (.lst ((nub (ps.map (·.1))).map V.int))) l2 = some (.lst ((nub (ps.map (·.1))).map V.int)):=Ab
 have hd3:=g23 _ _ hd1
 have hpl3:=g23 _ _ hpl1
 have hps3:=Paired.mapP hps1 λ _ _ a=>a.mono g23.tp
 have l2S:l2∉L.S:=(W1.same g2).offN hl2
 have dS:d∉L.S:=W.offN hd
 have l2d:l2≠d:=λ z=>by rw [z,g2 _ _ hd1] at hl2; cases hl2
 have g03:=g1.trans g23
 generalize (upd (upd (upd H d (.dK [])) D0 (.lst ((ps.map (·.1)).map V.int))) l2 (.lst ((nub (ps.map (·.1))).map V.int))) = H3 at W3 hl23 hd3 hpl3 hps3 g03
 have nodup:(nub (ps.map (·.1))).Pairwise (· < ·):=Gu _
 generalize hcs:nub (ps.map (·.1)) = cs at hl23 nl nodup
 have qq:=q
 unfold Ws.jnd at qq
 rw [hcs] at qq
 refine ⟨l2,Z,⟨_,SqL.of hl23⟩,F0 (K:=K) (a:=l2) (xs:=cs.map V.int) (λ i σ H'=>∃ x3,σ = [some (.ref o),some (.ref pl),some (.ref d),x3]∧KpS (d :: L.S) H3 H'∧H' d = some (.dK ((jfold ps (cs.take i) s).1.map kvI))∧Au C H' o L n (jfold ps (cs.take i) s).2) ⟨none,Z,KpS.refl _ _,hd3,W3⟩ (λ i σ H' _ ⟨_,_,k,_⟩=>SqL.of (k _ _ (λ z=>(mem_cons.mp z).elim l2d l2S) hl23)) ?_ ?_⟩
 ·rintro i x σ H4 hi ⟨x3,rfl,k4,hd4,W4⟩
  rw [getElem?_map] at hi
  obtain ⟨c,hc,rfl⟩:∃ c,cs[i]? = some c∧x = V.int c:=by
   cases e:cs[i]? with
   | none=>rw [e] at hi; cases hi
   | some c=>rw [e] at hi; exact ⟨c,rfl,(Option.some.inj hi).symm⟩
  have hil:=(List.getElem?_eq_some_iff.mp hc).1
  have tp4:Tp H3 H4:=λ b xs e=>k4 b _ (λ z=>by
   rcases mem_cons.mp z with z | z
   ·rw [z,hd3] at e; cases e
   ·exact W3.off e (λ _ z=>nomatch z) (λ _ z=>nomatch z) z) e
  have pld:pl≠d:=λ z=>by rw [z,hd3] at hpl3; cases hpl3
  have hpl4:=k4 _ _ (λ z=>(mem_cons.mp z).elim pld plS) hpl3
  have hps4:=Paired.mapP hps3 λ _ _ a=>a.mono tp4
  obtain ⟨_,ho4,_⟩:=id W4
  refine ⟨_,Z,o,L.dx,_,Z,ho4,Z,?_⟩
  refine ⟨_,Z,pl,Z,⟨_,SqL.of hpl4⟩,E4 (K:=K) (xs:=pvs) (λ j ys H'=>H' = H4∧ys = (Fj (ps.take j) c).map V.int) ⟨Z,Z⟩ (by rw [← lp]; exact le_trans (le_of_lt h64) (by decide)) (λ i ys H' hh=>by rw [hh.1]; exact SqL.of hpl4) ?_ ?_⟩
  ·rintro j x ys H' N hj ⟨rfl,rfl⟩ hN hyl
   have hjl:j < ps.length:=by have:=(List.getElem?_eq_some_iff.mp hj).1; omega
   obtain ⟨y,e1,t,rfl,et⟩:=Bq hps4 (getElem?_eq_getElem hjl)
   rw [hj] at e1
   cases e1
   have tk:Fj (ps.take (j + 1)) c = Fj (ps.take j) c ++ (if (ps[j]).1 = c then [(ps[j]).2] else []):=by
    unfold Fj
    rw [take_succ,getElem?_eq_getElem hjl,filter_append,map_append]
    congr 1
    by_cases z:(ps[j]).1 = c
    ·rw [if_pos z]; simp [z]
    ·rw [if_neg z]; simp [z]
   refine ⟨_,Z,t,_,_,.int (ps[j]).1,Z,Z,SqT.of et,Ah (j:=0) rfl,_,Z,Z,_,Z,Ay (λ z=>?_) λ z=>?_⟩
   ·have z:(ps[j]).1 = c:=V.int.inj (of_decide_eq_true z)
    refine ⟨_,Z,t,_,_,.int (ps[j]).2,Z,Z,SqT.of et,Ah (j:=1) rfl,hN _ _ ?_ ⟨Z,?_⟩⟩
    ·rw [length_append,length_singleton]; omega
    ·rw [tk,if_pos z,map_append]; rfl
   ·have z:¬ (ps[j]).1 = c:=λ y=>z (decide_eq_true (congrArg V.int y))
    refine hN _ _ (by omega) ⟨Z,?_⟩
    rw [tk,if_neg z,append_nil]
  rintro ys H' hyl ⟨rfl,rfl⟩ D1 hD1
  rw [tkA]
  have g5:=Ad hD1 (.lst ((Fj ps c).map V.int))
  have W5:=W4.same g5
  have lj:=Lq ps (cs.take i) s
  rw [length_take] at lj
  refine ⟨o,D1,Fj ps c,L,n,_,Z,W5,Ab,by omega,λ H6 k6 W6=>?_⟩
  have hd6:=k6 _ _ dS (g5 _ _ hd4)
  have nk:∀ p∈(jfold ps (cs.take i) s).1,¬ p.1 = c:=λ p hp z=>by
   have hm:p.1∈(jfold ps (cs.take i) s).1.map (·.1):=mem_map_of_mem hp
   rw [Im] at hm
   obtain ⟨m,hm2⟩:=getElem?_of_mem hm
   rw [List.getElem?_take] at hm2
   split at hm2
   ·rename_i hmi
    have hmc:=(List.getElem?_eq_some_iff.mp hm2)
    obtain ⟨h1,h2⟩:=hmc
    obtain ⟨h3,h4⟩:=List.getElem?_eq_some_iff.mp hc
    have:=List.pairwise_iff_getElem.mp nodup m i h1 h3 hmi
    rw [h2,h4,z] at this
    exact absurd this (Int.lt_irrefl _)
   ·cases hm2
  refine ⟨_,Z,_,Z,d,_,Z,.inl ⟨_,Sum.inl c,hd6,Z,?_,Z⟩,?_⟩
  ·rw [length_map,← length_map (f:=(·.1)),Im,length_take]
   exact lt_of_le_of_lt (show _≤64 by omega) (by decide)
  have W7:=W6.atD hd6 dS (.dK (Do ((jfold ps (cs.take i) s).1.map kvI) (Sum.inl c) (V.int ((jfold ps (cs.take i) s).2.som (Fj ps c)).1)))
  have tk1:cs.take (i + 1) = cs.take i ++ [c]:=by rw [take_succ,hc]; rfl
  refine ⟨_,Z,((k4.trans (Same.kpS g5)).trans (k6.more λ b hb=>mem_cons_of_mem _ hb)).trans (KpS.upd mem_cons_self),?_,?_⟩
  ·rw [Ab,← Mr,Rn nk,tk1,Nl]
   rfl
  ·rw [tk1,Nl]
   exact W7
 ·rintro σ H4 ⟨x3,rfl,k4,hd4,W4⟩
  rw [length_map,take_of_length_le (le_refl _)] at hd4 W4
  refine ⟨_,Z,d,_,Z,hd4,λ ob=>?_⟩
  refine qq d ob _ (λ b u hb e=>?_) hd Ab (W4.atD hd4 dS _)
  have bd:b≠d:=A9 e hd
  rw [upd_ne bd]
  exact k4 b u (λ z=>(mem_cons.mp z).elim bd hb) (g03 b u e)
theorem Au.lev {C o:Addr} {H:Hp} {L:Lc} {n:Nat} {s:Ws} (w:Au C H o L n s) (k v:Int):Au C (upd H L.ld (.dK (Do (s.lv.map kvI) (Sum.inl k) (V.int v)))) o L n (s.lev k v):=by
 obtain ⟨gvs,ho,hg,hp,hs,hn,hr,hl,nd⟩:=w
 have tp:Tp H (upd H L.ld (.dK (Do (s.lv.map kvI) (Sum.inl k) (V.int v)))):=λ b xs e=>by rw [upd_ne (Bl e hl (by intro z; cases z))]; exact e
 refine ⟨gvs,by rw [upd_ne (Bl ho hl (by intro z; cases z))]; exact ho,by rw [upd_ne (Bl hg hl (by intro z; cases z))]; exact hg,Paired.mapP hp λ _ _ a=>a.mono tp,by rw [upd_ne (Bl hs hl (by intro z; cases z))]; exact hs,by rw [upd_ne (Bl hn hl (by intro z; cases z))]; exact hn,Paired.mapP hr λ _ _ a=>by rw [upd_ne (Bl a hl (by intro z; cases z))]; exact a,?_,nd⟩
 rw [Ab]
 show _ = some (HO.dK ((Hy s.lv k v).map kvI))
 rw [Mr]
def Ws.lvg (s:Ws) (k kept stays mem comes:Int):Ws:=(((s.add "all" [comes,kept]).add "all" [mem,stays]).add "some" [s.nx,s.nx + 1]).lev k (s.nx + 2)
theorem Au.objOff {C CP o a dx:Addr} {H:Hp} {L:Lc} {n:Nat} {s:Ws} {x y z:Int} {rv cv:V} (w:Au C H o L n s) (ha:H a = some (.ins CP dx (wdV x y z rv cv))):a≠o∧a∉L.S:=by
 refine ⟨?_,w.off ha (λ _ z=>nomatch z) λ _ z=>nomatch z⟩
 obtain ⟨gvs,ho,_⟩:=w
 refine Bl ha ho λ z=>?_
 have:=(HO.ins.inj z).2.2
 unfold wdV wsF at this
 simp at this
inductive Q7 (C CP:Addr) (vs:List V) (H:Hp) (Q:VK):Prop
 | mk (o a dx:Addr) (k mem comes x y z:Int) (rv cv:V) (L:Lc) (n:Nat) (s:Ws) (_:vs = [.ref o,.int k,.ref a,.int mem,.int comes]) (_:Au C H o L n s) (_:H a = some (.ins CP dx (wdV x y z rv cv))) (_:s.gs.length + 3≤1000000) (_:s.lv.length≤1000000) (_:∀ H',KpS L.S H H'→Au C H' o L n (s.lvg k y z mem comes)→Q .non H'):Q7 C CP vs H Q
def Ro (C CP:Addr):Sp:=λ vs H Q _=>Q7 C CP vs H Q
def cgt (codes:List (Int× Int)) (c:Int) (s:Ws):Int× Ws:=match codes.lookup c with
 | some g=>(g,s)
 | none=>s.som []
inductive Xk (C CP:Addr) (vs:List V) (H:Hp) (Q:VK):Prop
 | mk (o a:Addr) (c:Int) (r:Wr) (L:Lc) (n:Nat) (s:Ws) (_:vs = [.ref o,.ref a,.int c]) (_:Au C H o L n s) (_:B2 CP H a r) (_:s.gs.length≤1000000) (_:∀ H',KpS L.S H H'→Au C H' o L n (cgt r.codes c s).2→Q (.int (cgt r.codes c s).1) H'):Xk C CP vs H Q
def Rw (C CP:Addr):Sp:=λ vs H Q _=>Xk C CP vs H Q
theorem M0 (l:List (Int× Int)) (c:Int):Ek (l.map kvI) (Sum.inl c) = (l.lookup c).map V.int:=by
 induction l with
 | nil=>rfl
 | cons p r ih =>
  rw [map_cons]
  by_cases h:p.1 = c
  ·rw [Ha (show (kvI p).1 = Sum.inl c by rw [← h]; rfl)]
   obtain ⟨p1,p2⟩:=p
   cases h
   rw [List.lookup_cons_self]
   rfl
  ·rw [E5 (show ¬ (kvI p).1 = Sum.inl c from λ z=>h (Sum.inl.inj z)),ih]
   obtain ⟨p1,p2⟩:=p
   have:(c == p1) = false:=by simpa using λ z=>h z.symm
   rw [lookup_cons,this]
theorem Uy (F:Ba K mg "wire_leaving" ["wiring", "rest", "whole", "memory", "comes"] Fl) (T:B3 K mg C CP) (aA:Bf P w K mg base 2 C "every_of" ["self", "numbers"] (Fh C)) (aB:Bf P w K mg base 2 C "some_of" ["self", "numbers"] (Ft C)):Am P w K mg base 3 "wire_leaving" ["wiring", "rest", "whole", "memory", "comes"] (Ro C CP):=by
 refine F.ok Gj (λ vs H Q E h=>?_) (λ f cdv A outer s0 H vs Q E hr h=>?_)
 ·obtain ⟨o,a,dx,k,mem,comes,x,y,z,rv,cv,L,n,s,rfl,_⟩:=h; rfl
 obtain ⟨o,a,dx,k,mem,comes,x,y,z,rv,cv,L,n,s,rfl,W,ha,hb,hv,q⟩:=h
 have hu:=lt_of_le_of_lt (add_le_add_left (show 1≤64 by decide) _) hr.units
 obtain ⟨ao,aS⟩:=W.objOff ha
 refine ⟨_,(Ae (Bh (i:=5) Gj.nd rfl (Or.inl rfl) (Aq aA hr Al (pv 0) (Aa (A5 (Aa (pv 4) (Aa (Ar (pv 2) rfl) Ac))) Ac)))
  (Ae (Bh (i:=6) Gj.nd rfl (Or.inl rfl) (Aq aA hr Al (pv 0) (Aa (A5 (Aa (pv 3) (Aa (Ar (pv 2) rfl) Ac))) Ac)))
  (Ai (L6 hu (Ar (pv 0) rfl) (pv 1) (Aq aB hr Al (pv 0) (Aa (A5 (Aa (pv 5) (Aa (pv 6) Ac))) Ac)) rfl)))),?_⟩
 obtain ⟨_,ho,_⟩:=id W
 refine ⟨_,Z,o,L.dx,_,Z,ho,Z,_,Z,_,Z,a,CP,dx,_,.int y,Z,ha,T.clP,T.nK,Z,zN2,λ l1 h1=>?_⟩
 have g1:=Ad h1 (.lst [V.int comes,.int y])
 refine ⟨o,l1,[comes,y],L,n,s,Z,W.same g1,Ab,by omega,λ H1 k1 W1=>?_⟩
 have ha1:=k1 _ _ aS (g1 _ _ ha)
 obtain ⟨_,ho1,_⟩:=id W1
 refine ⟨_,Z,o,L.dx,_,Z,ho1,Z,_,Z,_,Z,a,CP,dx,_,.int z,Z,ha1,T.clP,T.nT,Z,zN2,λ l2 h2=>?_⟩
 have g2:=Ad h2 (.lst [V.int mem,.int z])
 refine ⟨o,l2,[mem,z],L,n,_,Z,W1.same g2,Ab,by rw [Af]; omega,λ H2 k2 W2=>?_⟩
 obtain ⟨_,ho2,_⟩:=id W2
 refine ⟨_,Z,o,L.dx,_,Z,ho2,Z,_,Z,_,Z,zN2,λ l3 h3=>?_⟩
 have g3:=Ad h3 (.lst [V.int s.nx,.int (s.add "all" [comes,y]).nx])
 refine ⟨o,l3,[s.nx,(s.add "all" [comes,y]).nx],L,n,_,Z,W2.same g3,Ab,by rw [Af,Af]; omega,λ H3 k3 W3=>?_⟩
 have e3:((s.add "all" [comes,y]).add "all" [mem,z]).som [s.nx,(s.add "all" [comes,y]).nx] = (s.nx + 2,((s.add "all" [comes,y]).add "all" [mem,z]).add "some" [s.nx,s.nx + 1]):=by
  unfold Ws.som
  rw [if_neg (by simp),Az,Az,show s.nx + 1 + 1 = s.nx + 2 by omega]
 rw [e3] at W3 ⊢
 obtain ⟨gvs3,ho3,hg3,hp3,hs3,hn3,hr3,hl3,nd3⟩:=id W3
 refine ⟨_,Z,o,C,L.dx,_,.ref L.ld,Z,ho3,T.cl,T.nL,Z,_,Z,L.ld,_,Z,.inl ⟨_,Sum.inl k,hl3,Z,?_,Z⟩,?_⟩
 ·rw [length_map]
  exact lt_of_le_of_lt (show s.lv.length≤1000000 from hv) (by decide)
 ·refine q _ ?_ (W3.lev k (s.nx + 2))
  exact ((((((Same.kpS g1).trans k1).trans (Same.kpS g2)).trans k2).trans (Same.kpS g3)).trans k3).trans (KpS.upd (mem_cons_of_mem _ mem_cons_self))
theorem Sy (F:Ba K mg "code_gate" ["wiring", "whole", "code"] Hl) (T:B3 K mg C CP) (aB:Bf P w K mg base 2 C "some_of" ["self", "numbers"] (Ft C)):Am P w K mg base 3 "code_gate" ["wiring", "whole", "code"] (Rw C CP):=by
 refine F.ok Ru (λ vs H Q E h=>?_) (λ f cdv A outer s0 H vs Q E hr h=>?_)
 ·obtain ⟨o,a,c,r,L,n,s,rfl,_⟩:=h; rfl
 obtain ⟨o,a,c,r,L,n,s,rfl,W,D,hb,q⟩:=h
 have hu:=lt_of_le_of_lt (add_le_add_left (show 1≤64 by decide) _) hr.units
 obtain ⟨dx,d,ob,ha,hd⟩:=D
 obtain ⟨_,ho,_⟩:=id W
 refine ⟨_,(Ai (Aw (Gs (Nj (Wq hu (pv 2) (Ar (pv 1) rfl)) (by rfl)) (Ml hu (Ar (pv 1) rfl) (pv 2) (λ _ _=>rfl)) (Aq aB hr Al (pv 0) (Aa (A5 Ac) Ac))))),?_⟩
 have dg:Gi H d (.int c) ((r.codes.lookup c).map V.int):=.inl ⟨_,Sum.inl c,.inr ⟨ob,hd⟩,Z,(M0 _ _).symm⟩
 refine ⟨_,Z,_,Z,a,CP,dx,_,.ref d,Z,ha,T.clP,T.nC,Z,d,_,Z,dg,_,Z,?_⟩
 cases e:r.codes.lookup c with
 | some g =>
  have ec:cgt r.codes c s = (g,s):=by unfold cgt; rw [e]
  rw [ec] at q
  rw [e] at dg
  exact Dy ⟨_,Z,a,CP,dx,_,.ref d,Z,ha,T.clP,T.nC,Z,_,Z,d,.int g,Z,dg,q H (KpS.refl _ _) W⟩
 | none =>
  have ec:cgt r.codes c s = s.som []:=by unfold cgt; rw [e]
  rw [ec] at q
  refine Dq ⟨_,Z,o,L.dx,_,Z,ho,Z,zN0,λ l hl=>?_⟩
  have g1:=Ad hl (.lst [])
  exact ⟨o,l,[],L,n,s,Z,W.same g1,Ab,hb,λ H' k W'=>q _ ((Same.kpS g1).trans k) W'⟩
end
inductive Pt where
 | nothing
 | rest (k:Int)
 | send (s:Int)
 | exit (d:Int)
 | stay (ks:List Int)
 | iff (s:Int) (p q:Pt)
 | again (k:Int) (p:Pt)
 | hold (s:Int) (p:Pt)
 | watch (s:Int) (p:Pt)
 | trap (p:Pt)
 | thn (p q:Pt)
 | bes (p q:Pt)
def Pt.nd:Pt→Nd
 | .nothing=>.t [.s "nothing"]
 | .rest k=>.t [.s "rest", .i k]
 | .send s=>.t [.s "send", .i s]
 | .exit d=>.t [.s "exit", .i d]
 | .stay ks=>.t [.s "stay", .t (ks.map Nd.i)]
 | .iff s p q=>.t [.s "if", .i s,p.nd,q.nd]
 | .again k p=>.t [.s "again", .i k,p.nd]
 | .hold s p=>.t [.s "hold", .i s,p.nd]
 | .watch s p=>.t [.s "watch", .i s,p.nd]
 | .trap p=>.t [.s "trap", p.nd]
 | .thn p q=>.t [.s "then", p.nd,q.nd]
 | .bes p q=>.t [.s "beside", p.nd,q.nd]
def Pt.hg:Pt→Nat
 | .iff _ p q=>max p.hg q.hg + 1
 | .thn p q=>max p.hg q.hg + 1
 | .bes p q=>max p.hg q.hg + 1
 | .again _ p=>p.hg + 1
 | .hold _ p=>p.hg + 1
 | .watch _ p=>p.hg + 1
 | .trap p=>p.hg + 1
 | .nothing=>1
 | .rest _=>1
 | .send _=>1
 | .exit _=>1
 | .stay _=>1
def Pt.sc:Pt→Nat
 | .send _=>1
 | .iff _ p q=>p.sc + q.sc
 | .thn p q=>p.sc + q.sc
 | .bes p q=>p.sc + q.sc
 | .again _ p=>p.sc
 | .hold _ p=>p.sc
 | .watch _ p=>p.sc
 | .trap p=>p.sc
 | .nothing=>0
 | .rest _=>0
 | .exit _=>0
 | .stay _=>0
def Pt.lc:Pt→Nat
 | .rest _=>1
 | .stay ks=>ks.length
 | .iff _ p q=>max p.lc q.lc
 | .thn p q=>max p.lc q.lc
 | .bes p q=>p.lc + q.lc
 | .again _ p=>max 1 p.lc
 | .hold _ p=>p.lc
 | .watch _ p=>p.lc
 | .trap p=>p.lc
 | .nothing=>0
 | .send _=>0
 | .exit _=>0
def lp (p:Pt) (a b:List Int× Pt):Pt :=
 match p with
 | .thn _ q=>if b.1 = [] then .thn a.2 q else b.2
 | .bes _ _=>if ¬ a.1 = []∧¬ b.1 = [] then .bes a.2 b.2 else if ¬ a.1 = [] then a.2 else if ¬ b.1 = [] then b.2 else p
 | _=>if ¬ a.1 = [] then a.2 else if ¬ b.1 = [] then b.2 else p
def lr (p:Pt) (a:List Int× Pt):Pt :=
 if a.1 = [] then p else
 match p with
 | .again k _=>.again k a.2
 | .trap _=>.trap a.2
 | .hold s _=>.iff s (.stay a.1) a.2
 | .watch s _=>.iff s .nothing a.2
 | _=>p
def F7 (c:Int):Int:=if c = 2 then 0 else if 2 < c then c - 1 else c
def agC (c:Int):Int:=if c = 0 then 1 else c
abbrev Dd:=Int× List Int× List Int
def Ac5 (a b:Dd):Dd:=(b.1,a.2.1 ++ b.2.1,b.2.2)
def AdA (a b:Dd):Dd:=(if b.1 > a.1 then b.1 else a.1,a.2.1 ++ b.2.1,if (if b.1 > a.1 then b.1 else a.1) = 1 then a.2.2 ++ b.2.2 else [])
def AdT (k:Int) (a:Dd):Dd:=(agC a.1,a.2.1,if a.1 = 0 then [k] else a.2.2)
def beg (th:List Int):Pt→Dd
 | .thn p q=>if (beg th p).1 = 0 then Ac5 (beg th p) (beg th q) else beg th p
 | .bes p q=>AdA (beg th p) (beg th q)
 | .iff s p q=>if s∈th then beg th p else beg th q
 | .again k p=>AdT k (beg th p)
 | .hold _ p=>beg th p
 | .watch _ p=>beg th p
 | .trap p=>(F7 (beg th p).1,(beg th p).2.1,(beg th p).2.2)
 | .nothing=>(0,[],[])
 | .send s=>(0,[s],[])
 | .exit d=>(2 + d,[],[])
 | .rest k=>(1,[],[k])
 | .stay ks=>(1,[],ks)
theorem Pt.hg_pos (p:Pt):1≤p.hg:=by cases p <;> exact Nat.le_add_left 1 _
theorem Aae {b:Bool} {A B:Prop} (h:b = false) (hB:B):if b = true then A else B:=by rw [h,if_neg Bool.false_ne_true]; exact hB
theorem Aaf {b:Bool} {A B:Prop} (h:b = true) (hA:A):if b = true then A else B:=by rw [h,if_pos rfl]; exact hA
theorem Acn {i j:Int} {A B:Prop} (h1:i = j→A) (h2:¬ i = j→B):if decide (V.int i = V.int j) = true then A else B:=by
 by_cases c:i = j
 ·rw [decide_eq_true (congrArg V.int c),if_pos rfl]; exact h1 c
 ·rw [decide_eq_false (λ z=>c (V.int.inj z)),if_neg Bool.false_ne_true]; exact h2 c
theorem G0 {x y:Str} {A B:Prop} (h1:x = y→A) (h2:¬ x = y→B):if decide (V.str x = V.str y) = true then A else B:=by
 by_cases c:x = y
 ·subst c; exact Acv (h1 rfl)
 ·exact Ac6 c (h2 c)
theorem AcB {b:Bool} {A B:Prop} (h1:b = true→A) (h2:b = false→B):if b = true then A else B:=by
 cases b with
 | true=>rw [if_pos rfl]; exact h1 rfl
 | false=>rw [if_neg Bool.false_ne_true]; exact h2 rfl
def wdP:Pt→Str
 | .nothing=> "nothing"
 | .rest _=> "rest"
 | .send _=> "send"
 | .exit _=> "exit"
 | .stay _=> "stay"
 | .iff _ _ _=> "if"
 | .again _ _=> "again"
 | .hold _ _=> "hold"
 | .watch _ _=> "watch"
 | .trap _=> "trap"
 | .thn _ _=> "then"
 | .bes _ _=> "beside"
theorem Ac9 (p:Pt):∃ r,Pt.nd p = .t (.s (wdP p) :: r):=by cases p <;> exact ⟨_,Z⟩
theorem Oa {K:PySem.W.Frag} {H:Hp} {p:Pt} {v:V} (h:PAt K H (Pt.nd p) v):∃ a vs,v = .ref a∧Fi K H a (.str (wdP p) :: vs):=by
 obtain ⟨r,e⟩:=Ac9 p
 rw [e] at h
 obtain ⟨a,vs,rfl,hs,hx⟩:=PAt.get h
 unfold Bk at hx
 obtain ⟨v,r',rfl,q,l⟩:=hx
 cases q.str
 exact ⟨a,r',Z,hs⟩
theorem AcL {p:Pt} (e:wdP p = "then"):∃ p1 p2,p = .thn p1 p2:=by cases p <;> first | exact ⟨_,_,Z⟩ | (dsimp only [wdP] at e; exact absurd e (by decide +kernel))
theorem AcM {p:Pt} (e:wdP p = "if"):∃ x p1 p2,p = .iff x p1 p2:=by cases p <;> first | exact ⟨_,_,_,Z⟩ | (dsimp only [wdP] at e; exact absurd e (by decide +kernel))
theorem Uk {p:Pt} (e:wdP p = "hold"):∃ x p1,p = .hold x p1:=by cases p <;> first | exact ⟨_,_,Z⟩ | (dsimp only [wdP] at e; exact absurd e (by decide +kernel))
theorem Y6 {p:Pt} (e:wdP p = "watch"):∃ x p1,p = .watch x p1:=by cases p <;> first | exact ⟨_,_,Z⟩ | (dsimp only [wdP] at e; exact absurd e (by decide +kernel))
theorem Aat {p:Pt} (e:wdP p = "trap"):∃ p1,p = .trap p1:=by cases p <;> first | exact ⟨_,Z⟩ | (dsimp only [wdP] at e; exact absurd e (by decide +kernel))
theorem Abp {p:Pt} (e:wdP p = "exit"):∃ k,p = .exit k:=by cases p <;> first | exact ⟨_,Z⟩ | (dsimp only [wdP] at e; exact absurd e (by decide +kernel))
theorem Aav {p:Pt} (e:wdP p = "send"):∃ k,p = .send k:=by cases p <;> first | exact ⟨_,Z⟩ | (dsimp only [wdP] at e; exact absurd e (by decide +kernel))
theorem Aba {p:Pt} (e:wdP p = "stay"):∃ k,p = .stay k:=by cases p <;> first | exact ⟨_,Z⟩ | (dsimp only [wdP] at e; exact absurd e (by decide +kernel))
theorem Uc {p:Pt} (e:wdP p = "rest"):∃ k,p = .rest k:=by cases p <;> first | exact ⟨_,Z⟩ | (dsimp only [wdP] at e; exact absurd e (by decide +kernel))
theorem hgl {a b n:Nat} (h:max a b + 1≤n + 1):a≤n:=le_trans (Nat.le_max_left _ _) (le_of_succ_le_succ h)
theorem hgr {a b n:Nat} (h:max a b + 1≤n + 1):b≤n:=le_trans (Nat.le_max_right _ _) (le_of_succ_le_succ h)
def K8:Pt→Bool
 | .nothing=>true
 | .rest _=>true
 | .send _=>true
 | .exit _=>true
 | .stay _=>true
 | _=>false
def Acq:Pt→Bool
 | .iff _ _ _=>true
 | .thn _ _=>true
 | .bes _ _=>true
 | _=>false
def Ev:Pt→Bool
 | .again _ _=>true
 | .hold _ _=>true
 | .watch _ _=>true
 | .trap _=>true
 | _=>false
theorem Aac {p:Pt} {A B:Prop} (h1:Ev p = true→A) (h2:Ev p = false→B):if (if false = true then !inV (V.str (wdP p)) [V.str "again", V.str "hold", V.str "watch", V.str "trap"] else inV (V.str (wdP p)) [V.str "again", V.str "hold", V.str "watch", V.str "trap"]) = true then A else B:=by
 rw [show (if false = true then !inV (V.str (wdP p)) [V.str "again", V.str "hold", V.str "watch", V.str "trap"] else inV (V.str (wdP p)) [V.str "again", V.str "hold", V.str "watch", V.str "trap"]) = Ev p from by cases p <;> (dsimp only [wdP,Ev]; decide +kernel)]
 exact AcB h1 h2
theorem AbT {p:Pt} (h:K8 p = true) (n1:¬ wdP p = "exit") (n2:¬ wdP p = "rest") (n3:¬ wdP p = "stay"):(beg [] p).1 = 0:=by cases p <;> first | rfl | exact absurd rfl n1 | exact absurd rfl n2 | exact absurd rfl n3 | cases h
inductive Pe (K:PySem.W.Frag) (vs:List V) (H:Hp) (Q:VK):Prop
 | mk (v) (p) (_:vs = [v]) (_:PAt K H (Pt.nd p) v) (_:K8 p = true) (_:Q (.int (beg [] p).1) H):Pe K vs H Q
def T6 (K:PySem.W.Frag):Sp:=λ vs H Q _=>Pe K vs H Q
inductive Tx  (vs:List V) (H:Hp) (Q:VK):Prop
 | mk (c:Int) (_:vs = [.int c]) (_:Q (.int (agC c)) H):Tx  vs H Q
def Uw:Sp:=λ vs H Q _=>Tx  vs H Q
inductive Ti  (vs:List V) (H:Hp) (Q:VK):Prop
 | mk (c:Int) (_:vs = [.int c]) (_:Q (.int (F7 c)) H):Ti  vs H Q
def Vc:Sp:=λ vs H Q _=>Ti  vs H Q
theorem B3.gE {K:PySem.W.Frag} {mg:Str→Option Value} {C CP:Addr} (T:B3 K mg C CP):∃ u,mg "ENDED" = some u∧Bd (.int 0) u:=by
 obtain ⟨t,h⟩:=T.m_EN; exact ⟨_,h,t,rfl⟩
theorem B3.gR {K:PySem.W.Frag} {mg:Str→Option Value} {C CP:Addr} (T:B3 K mg C CP):∃ u,mg "RESTS" = some u∧Bd (.int 1) u:=by
 obtain ⟨t,h⟩:=T.m_RE; exact ⟨_,h,t,rfl⟩
theorem B3.gL {K:PySem.W.Frag} {mg:Str→Option Value} {C CP:Addr} (T:B3 K mg C CP):∃ u,mg "LEAVES" = some u∧Bd (.int 2) u:=by
 obtain ⟨t,h⟩:=T.m_LE; exact ⟨_,h,t,rfl⟩
section
variable {P:Program} {w:World} {K:PySem.W.Frag} {mg:Str→Option Value} {base:Heap} {C CP:Addr}
theorem S6 (F:Ba K mg "leaf_code" ["part"] Hj) (T:B3 K mg C CP):Am P w K mg base 1 "leaf_code" ["part"] (T6 K):=by
 refine F.ok So (λ vs H Q E h=>?_) (λ f cdv A outer s H vs Q E hr h=>?_)
 ·obtain ⟨v,p,rfl,_⟩:=h; rfl
 obtain ⟨v,p,rfl,hp,lf,q⟩:=h
 obtain ⟨uE,hE,rE⟩:=T.gE
 obtain ⟨uR,hR,rR⟩:=T.gR
 obtain ⟨uL,hL,rL⟩:=T.gL
 refine ⟨_,(Ae (Bn (As Bm (Ao Ap (pv 0) Ag (λ _ _=>rfl)) An (Ax _))
   (Ai (Aw (Bj Ds (Cb rfl hL rL) (Ao Ap (pv 0) Ag (λ _ _=>rfl)))))
   Bc)
  (Ae (Bn (PW.pt (D8 (As Bm (Ao Ap (pv 0) Ag (λ _ _=>rfl)) An (Ax _)) (E8 (As Bm (Ao Ap (pv 0) Ag (λ _ _=>rfl)) An (Ax _)))))
   (Ai (Aw (Cb rfl hR rR)))
   Bc)
  (Ai (Aw (Cb rfl hE rE))))),?_⟩
 obtain ⟨a,vs,rfl,hs⟩:=Oa hp
 refine ⟨_,Z,a,_,_,_,Z,Z,hs.sq,Ah (j:=0) rfl,Z,_,Z,G0 (λ e=>?_) λ n1=>⟨_,Z,a,_,_,_,Z,Z,hs.sq,Ah (j:=0) rfl,Z,_,Z,G0 (λ e=>Dy ?_) λ n2=>⟨_,Z,a,_,_,_,Z,Z,hs.sq,Ah (j:=0) rfl,Z,_,Z,G0 (λ e=>?_) λ n3=>?_⟩⟩⟩
 ·obtain ⟨x,rfl⟩:=Abp e
  obtain ⟨a',vs',ev,hs,hx⟩:=PAt.get hp
  cases ev
  obtain ⟨x0,x1,rfl,h0,h1⟩:=hx.two
  cases h0.str
  cases h1.int
  exact ⟨_,Z,a,_,_,_,Z,Z,hs.sq,Ah (j:=1) rfl,_,_,Z,Z,q⟩
 ·obtain ⟨x,rfl⟩:=Uc e
  exact q
 ·obtain ⟨x,rfl⟩:=Aba e
  exact q
 ·rw [AbT lf n1 n2 n3] at q
  exact q
theorem Ab5 (F:Ba K mg "code_of_again" ["code"] E3) (T:B3 K mg C CP):Am P w K mg base 1 "code_of_again" ["code"] Uw:=by
 refine F.ok Mx (λ vs H Q E h=>?_) (λ f cdv A outer s H vs Q E hr h=>?_)
 ·obtain ⟨c,rfl,_⟩:=h; rfl
 obtain ⟨c,rfl,q⟩:=h
 obtain ⟨uE,hE,rE⟩:=T.gE
 obtain ⟨uR,hR,rR⟩:=T.gR
 obtain ⟨uL,hL,rL⟩:=T.gL
 refine ⟨_,(Ai (Aw (Gs (As Bm (pv 0) (Cb rfl hE rE) (Ax _)) (Cb rfl hR rR) (pv 0)))),?_⟩
 unfold agC at q
 refine ⟨_,Z,Z,_,Z,Acn (λ c=>?_) λ c=>?_⟩
 ·rw [if_pos c] at q; exact q
 ·rw [if_neg c] at q; exact ⟨_,Z,q⟩
theorem Ab6 (F:Ba K mg "code_of_trap" ["code"] Fn) (T:B3 K mg C CP):Am P w K mg base 1 "code_of_trap" ["code"] Vc:=by
 refine F.ok Nq (λ vs H Q E h=>?_) (λ f cdv A outer s H vs Q E hr h=>?_)
 ·obtain ⟨c,rfl,_⟩:=h; rfl
 obtain ⟨c,rfl,q⟩:=h
 obtain ⟨uE,hE,rE⟩:=T.gE
 obtain ⟨uR,hR,rR⟩:=T.gR
 obtain ⟨uL,hL,rL⟩:=T.gL
 refine ⟨_,(Ae (Bn (As Bm (pv 0) (Cb rfl hL rL) (Ax _))
   (Ai (Aw (Cb rfl hE rE)))
   Bc)
  (Ai (Aw (Gs (As V1 (pv 0) (Cb rfl hL rL) (Ax _)) (Bj Nf (pv 0) Ag) (pv 0))))),?_⟩
 unfold F7 at q
 refine ⟨_,Z,Z,_,Z,Acn (λ c=>?_) λ c=>?_⟩
 ·rw [if_pos c] at q; exact q
 ·rw [if_neg c] at q
  refine ⟨_,Z,_,_,Z,Z,_,Z,Ay (λ c=>?_) λ c=>?_⟩
  ·rw [if_pos (of_decide_eq_true c)] at q; exact ⟨_,Z,_,_,Z,Z,q⟩
  ·rw [if_neg (λ z=>c (decide_eq_true z))] at q; exact ⟨_,Z,q⟩
end
theorem Au.setA {C CP o a dx:Addr} {H:Hp} {L:Lc} {n:Nat} {s:Ws} {x y z:Int} {rv cv:V} (w:Au C H o L n s) (ha:H a = some (.ins CP dx (wdV x y z rv cv))) (u:HO):Au C (upd H a u) o L n s :=
 w.obj ha (w.objOff ha).1 (KpS.upd mem_cons_self)
theorem Au.offF {C o d:Addr} {H:Hp} {L:Lc} {n:Nat} {s:Ws} {ob:Obj} {u:HO} (w:Au C H o L n s) (e:H d = some (.frz ob u)):d∉L.S:=w.off e (λ _ z=>nomatch z) λ _ z=>nomatch z
theorem M8 {H:Hp} {p a:Addr} {u1 u2 x:HO} (h:H a = some x) (ap:a≠p):upd (upd H p u1) p u2 a = some x:=by rw [upd_ne ap,upd_ne ap]; exact h
theorem Au.frz2 {C o d:Addr} {H:Hp} {L:Lc} {n:Nat} {s:Ws} {kvs:List (Key× V)} (w:Au C H o L n s) (hd:H d = some (.dK kvs)) (dS:d∉L.S) (u:HO) (ob:Obj):Au C (upd (upd H d u) d (.frz ob u)) o L n s:=by
 have e:upd (upd H d u) d (.frz ob u) = upd H d (.frz ob u):=by
  funext b
  by_cases h:b = d
  ·rw [h,Ab,Ab]
  ·rw [upd_ne h,upd_ne h,upd_ne h]
 rw [e]
 exact w.atD hd dS _
def Jj (C CP o a:Addr) (L:Lc) (n:Nat) (Q:VK) (H:Hp) (p:Wr× Ws):Prop:=∀ H',KpS (a :: L.S) H H'→Au C H' o L n p.2→B2 CP H' a p.1→Q .non H'
def Vz (k x y z:Int) (s:Ws):Wr× Ws:=(⟨x,y,z,s.nx,[(0,s.nx + 3),(1,s.nx + 2)]⟩,((((s.add "memory" [k]).add "not" [s.nx]).add "all" [x,s.nx + 1]).add "all" [x,s.nx]).lvg k y z s.nx (s.nx + 2))
inductive Qd (C CP:Addr) (vs:List V) (H:Hp) (Q:VK):Prop
 | mk (o a dx:Addr) (k x y z:Int) (rv cv:V) (L:Lc) (n:Nat) (s:Ws) (_:vs = [.ref o,.int k,.ref a]) (_:Au C H o L n s) (_:H a = some (.ins CP dx (wdV x y z rv cv))) (_:s.gs.length + 16≤1000000) (_:s.lv.length≤1000000) (_:Jj C CP o a L n Q H (Vz k x y z s)):Qd C CP vs H Q
def Ul (C CP:Addr):Sp:=λ vs H Q _=>Qd C CP vs H Q
section
variable {P:Program} {w:World} {K:PySem.W.Frag} {mg:Str→Option Value} {base:Heap} {C CP:Addr}
seal PSs PS PE PA PT
theorem Zu (F:Ba K mg "wire_rest" ["wiring", "rest", "whole"] Hk) (T:B3 K mg C CP) (aH:Bf P w K mg base 1 C "gate" ["self", "word", "numbers"] (Gb C)) (aE:Bf P w K mg base 2 C "opposite" ["self", "number"] (Kx C)) (aA:Bf P w K mg base 2 C "every_of" ["self", "numbers"] (Fh C)) (aR:Am P w K mg base 3 "wire_leaving" ["wiring", "rest", "whole", "memory", "comes"] (Ro C CP)):Am P w K mg base 4 "wire_rest" ["wiring", "rest", "whole"] (Ul C CP):=by
 refine F.ok Lr (λ vs H Q E h=>?_) (λ f cdv A outer s0 H vs Q E hr h=>?_)
 ·obtain ⟨o,a,dx,k,x,y,z,rv,cv,L,n,s,rfl,_⟩:=h; rfl
 obtain ⟨o,a,dx,k,x,y,z,rv,cv,L,n,s,rfl,W,ha,hb,hv,q⟩:=h
 obtain ⟨uE,hE,rE⟩:=T.gE
 obtain ⟨uR,hR,rR⟩:=T.gR
 obtain ⟨ao,aS⟩:=W.objOff ha
 have sub:∀ b∈L.S,b∈a :: L.S:=λ b h=>mem_cons_of_mem _ h
 refine ⟨_,(Ae (Cc (pv 2) (Aq aH hr Al (pv 0) (Aa An (Aa (A5 (Aa (pv 1) Ac)) Ac))) rfl)
  (Ae (Bh (i:=3) Lr.nd rfl (Or.inl rfl) (Aq aA hr Al (pv 0) (Aa (A5 (Aa (Ar (pv 2) rfl) (Aa (Aq aE hr Al (pv 0) (Aa (Ar (pv 2) rfl) Ac)) Ac))) Ac)))
  (Ae (Cc (pv 2) (Oj (S9 (Mt (Cb rfl hE rE) (Aq aA hr Al (pv 0) (Aa (A5 (Aa (Ar (pv 2) rfl) (Aa (Ar (pv 2) rfl) Ac))) Ac)) (Mt (Cb rfl hR rR) (pv 3) Tw)) rfl rfl (by simp) (by decide))) rfl)
  (Ai (Bg (Av aR hr rfl Al (Aa (pv 0) (Aa (pv 1) (Aa (pv 2) (Aa (Ar (pv 2) rfl) (Aa (pv 3) Ac))))))))))),?_⟩
 obtain ⟨_,ho,_⟩:=id W
 refine ⟨_,Z,o,L.dx,_,Z,ho,Z,_,Z,zN1,λ l1 h1=>?_⟩
 have g1:=Ad h1 (.lst [V.int k])
 refine ⟨o,l1, "memory", [k],L,n,s,Z,W.same g1,Ab,by omega,λ H1 k1 W1=>?_⟩
 have ha1:=k1 _ _ aS (g1 _ _ ha)
 refine ⟨_,Z,a,CP,dx,_,Z,ha1,T.clP,T.nE,(by show 5 < 1000; decide),?_⟩
 have W1a:=W1.setA ha1 (.ins CP dx (wdV x y z (.int s.nx) cv))
 have hA1:(upd H1 a (.ins CP dx (wdV x y z (.int s.nx) cv))) a = some (.ins CP dx (wdV x y z (.int s.nx) cv)):=Ab
 obtain ⟨_,ho1,_⟩:=id W1a
 refine ⟨_,Z,o,L.dx,_,Z,ho1,Z,_,Z,a,CP,dx,_,.int x,Z,hA1,T.clP,T.nR,Z,_,Z,o,L.dx,_,Z,ho1,Z,_,Z,a,CP,dx,_,.int s.nx,Z,hA1,T.clP,T.nE,Z,?_⟩
 refine ⟨o,_,L,n,_,Z,W1a,by rw [Af]; omega,λ H2 k2 W2=>⟨zN2,λ l3 h3=>?_⟩⟩
 have g3:=Ad h3 (.lst [V.int x,.int (s.add "memory" [k]).nx])
 have hA2:=k2 _ _ aS hA1
 refine ⟨o,l3,[x,(s.add "memory" [k]).nx],L,n,_,Z,W2.same g3,Ab,by rw [Af,Af]; omega,λ H3 k3 W3=>?_⟩
 have hA3:=k3 _ _ aS (g3 _ _ hA2)
 refine λ p hp=>?_
 have gp:=Ad hp (.dK [])
 have W3p:=W3.same gp
 have pS:=W3.offN hp
 obtain ⟨_,ho3,_⟩:=id W3p
 refine ⟨_,Z,o,L.dx,_,Z,ho3,Z,_,Z,a,CP,dx,_,.int x,Z,gp _ _ hA3,T.clP,T.nR,Z,_,Z,a,CP,dx,_,.int s.nx,Z,gp _ _ hA3,T.clP,T.nE,Z,zN2,λ l4 h4=>?_⟩
 have g4:=Ad h4 (.lst [V.int x,.int s.nx])
 refine ⟨o,l4,[x,s.nx],L,n,_,Z,W3p.same g4,Ab,by rw [Af,Af,Af]; omega,λ H4 k4 W4=>?_⟩
 have hA4:=k4 _ _ aS (g4 _ _ (gp _ _ hA3))
 have hp4:H4 p = some (.dK []):=k4 _ _ pS (g4 _ _ Ab)
 refine ⟨_,Z,hp4,[(Sum.inl 0,_),(Sum.inl 1,_)],Z,(by show 2≤15; decide),p,_,Z,Ab,λ ob=>?_⟩
 have ap:a≠p:=Bl hA4 hp4 (by intro z; cases z)
 have Wg:=W4.frz2 hp4 pS (.dK (Du [] [(Sum.inl 0,V.int (((s.add "memory" [k]).add "not" [s.nx]).add "all" [x,(s.add "memory" [k]).nx]).nx),(Sum.inl 1,V.int ((s.add "memory" [k]).add "not" [s.nx]).nx)])) ob
 refine ⟨_,Z,a,CP,dx,_,Z,M8 hA4 ap,T.clP,T.nC,(by show 5 < 1000; decide),?_⟩
 have hA5:=M8 (u1:=.dK (Du [] [(Sum.inl 0,V.int (((s.add "memory" [k]).add "not" [s.nx]).add "all" [x,(s.add "memory" [k]).nx]).nx),(Sum.inl 1,V.int ((s.add "memory" [k]).add "not" [s.nx]).nx)])) (u2:=.frz ob (.dK (Du [] [(Sum.inl 0,V.int (((s.add "memory" [k]).add "not" [s.nx]).add "all" [x,(s.add "memory" [k]).nx]).nx),(Sum.inl 1,V.int ((s.add "memory" [k]).add "not" [s.nx]).nx)]))) hA4 ap
 have Wh:=Wg.setA hA5 (.ins CP dx (wdV x y z (.int s.nx) (.ref p)))
 refine ⟨_,Z,_,Z,_,Z,_,Z,a,CP,dx,_,.int s.nx,Z,Ab,T.clP,T.nE,Z,_,Z,o,a,dx,k,_,_,x,y,z,_,_,L,n,_,Z,Wh,Ab,by rw [Af,Af,Af,Af]; omega,hv,λ H6 k6 W6=>?_⟩
 have hA6:=k6 _ _ aS Ab
 have hp6:=k6 p _ pS (by rw [upd_ne (Ne.symm ap)]; exact Ab)
 have en:((s.add "memory" [k]).add "not" [s.nx]).nx = s.nx + 2:=by rw [Az,Az]; omega
 have en3:(((s.add "memory" [k]).add "not" [s.nx]).add "all" [x,(s.add "memory" [k]).nx]).nx = s.nx + 3:=by rw [Az,Az,Az]; omega
 rw [en,en3] at hp6
 refine q H6 ?_ ?_ ⟨dx,p,ob,hA6,hp6⟩
 ·refine ((((((Same.kpS g1).trans (k1.more sub)).trans (KpS.upd mem_cons_self)).trans (k2.more sub)).trans (Same.kpS g3)).trans (k3.more sub)).trans λ b u nb e=>?_
  have bp:b≠p:=A9 e hp
  have ba:b≠a:=λ z=>nb (by rw [z]; exact mem_cons_self)
  refine k6.more sub b u nb ?_
  rw [upd_ne ba]
  exact M8 (k4.more sub b u nb (g4 _ _ (gp _ _ e))) bp
 ·have:=W6
  rw [en,Az] at this
  exact this
theorem Au.senR {C o:Addr} {H:Hp} {L:Lc} {n:Nat} {s:Ws} (w:Au C H o L n s) {i:Nat} {r:Addr} {row:List Int} (hi:L.rs[i]? = some r) (hw:s.sn[i]? = some row) (g:Int):Au C (upd H r (.lst (row.map V.int ++ [V.int g]))) o L n ⟨s.gs,s.sn.set i (row ++ [g]),s.lv⟩:=by
 obtain ⟨gvs,ho,hg,hp,hs,hn,hr,hl,nd⟩:=w
 obtain ⟨r',e1,e2⟩:=Bq hr hw
 rw [hi] at e1
 cases e1
 have tp:Tp H (upd H r (.lst (row.map V.int ++ [V.int g]))):=Tp.lst e2
 have hm:r∈L.rs:=mem_of_getElem? hi
 have n3:=(nodup_cons.mp nd)
 have n4:=(nodup_cons.mp n3.2)
 have n5:=(nodup_cons.mp n4.2)
 have a1:L.gl≠r:=λ z=>n3.1 (by rw [z]; exact mem_cons_of_mem _ (mem_cons_of_mem _ hm))
 have a2:L.sl≠r:=λ z=>n4.1 (by rw [z]; exact mem_cons_of_mem _ hm)
 have a3:L.nl≠r:=λ z=>n5.1 (by rw [z]; exact hm)
 refine ⟨gvs,by rw [upd_ne (Bl ho e2 (by intro z; cases z))]; exact ho,by rw [upd_ne a1]; exact hg,Paired.mapP hp λ _ _ a=>a.mono tp,by rw [upd_ne a2]; exact hs,by rw [upd_ne a3]; exact hn,?_,by rw [upd_ne (Bl hl e2 (by intro z; cases z))]; exact hl,nd⟩
 refine Dc (by rw [length_set]; exact PySem.Paired.length hr) λ j x e=>?_
 have hj:j < s.sn.length:=by have:=(List.getElem?_eq_some_iff.mp e).1; rwa [length_set] at this
 rw [getElem?_set] at e
 by_cases hji:i = j
 ·subst hji
  rw [if_pos rfl,if_pos hj] at e
  cases e
  exact ⟨r,hi,by rw [Ab,map_append]; rfl⟩
 ·rw [if_neg hji] at e
  obtain ⟨y,f1,f2⟩:=Bq hr e
  refine ⟨y,f1,?_⟩
  rw [upd_ne]
  ·exact f2
  ·intro z
   rw [z] at f1
   have h1:=(List.getElem?_eq_some_iff.mp hi)
   have h2:=(List.getElem?_eq_some_iff.mp f1)
   exact hji ((getElem_inj n5.2).mp (h1.2.trans h2.2.symm))
def wLf (c x y z:Int) (s:Ws):Wr× Ws:=(⟨x,y,z,s.nx,[(c,x)]⟩,s.add "some" [])
def Jq (x y z:Int) (s:Ws):Pt→Wr× Ws
 | .rest k=>Vz k x y z s
 | .send i=>wLf 0 x y z (s.sen i x)
 | p=>wLf (beg [] p).1 x y z s
def Y8 (m:Nat):Pt→Prop
 | .send i=>0≤i∧i < m
 | _=>True
inductive Pu (K:PySem.W.Frag) (C CP:Addr) (vs:List V) (H:Hp) (Q:VK):Prop
 | mk (o a dx:Addr) (v:V) (p:Pt) (x y z:Int) (rv cv:V) (L:Lc) (n:Nat) (s:Ws) (_:vs = [.ref o,v,.ref a]) (_:Au C H o L n s) (_:PAt K H p.nd v) (_:K8 p = true) (_:Y8 s.sn.length p) (_:(∀ r∈s.sn,r.length≤1000000)) (_:H a = some (.ins CP dx (wdV x y z rv cv))) (_:s.gs.length + 16≤1000000) (_:s.lv.length≤1000000) (_:Jj C CP o a L n Q H (Jq x y z s p)):Pu K C CP vs H Q
def O6 (K:PySem.W.Frag) (C CP:Addr):Sp:=λ vs H Q _=>Pu K C CP vs H Q
theorem Yu (F:Ba K mg "wire_leaf" ["wiring", "part", "whole"] Hg) (T:B3 K mg C CP) (aB:Bf P w K mg base 2 C "some_of" ["self", "numbers"] (Ft C)) (cS:Am P w K mg base 1 "leaf_code" ["part"] (T6 K)) (cT:Am P w K mg base 4 "wire_rest" ["wiring", "rest", "whole"] (Ul C CP)):Am P w K mg base 5 "wire_leaf" ["wiring", "part", "whole"] (O6 K C CP):=by
 refine F.ok Rg (λ vs H Q E h=>?_) (λ f cdv A outer s0 H vs Q E hr h=>?_)
 ·obtain ⟨o,a,dx,v,p,x,y,z,rv,cv,L,n,s,rfl,_⟩:=h; rfl
 obtain ⟨o,a,dx,v,p,x,y,z,rv,cv,L,n,s,rfl,W,hp,lf,sg,rl,ha,hb,hv,q⟩:=h
 refine ⟨_,(Ae (Bn (As Bm (Ao Ap (pv 1) Ag (λ _ _=>rfl)) An (Ax _))
   (Ae (Bg (Av cT hr rfl Al (Aa (pv 0) (Aa (Ao Ap (pv 1) Ag (λ _ _=>rfl)) (Aa (pv 2) Ac)))))
  (Ai (Uj)))
   Bc)
  (Ae (Bn (As Bm (Ao Ap (pv 1) Ag (λ _ _=>rfl)) An (Ax _))
   (Ai (Bg (E1 PySem.F.plainAttrs_list PySem.F.slot_list_append PySem.F.type_list_append Ck (Ao Bz (Ar (pv 0) rfl) (Ao Ap (pv 1) Ag (λ _ _=>rfl)) (λ _ _=>rfl)) (Aa (Ar (pv 2) rfl) Ac))))
   Bc)
  (Ae (Cc (pv 2) (Aq aB hr Al (pv 0) (Aa (A5 Ac) Ac)) rfl)
  (Ai (Cc (pv 2) (Oj (S9 (Mt (Av cS hr rfl Al (Aa (pv 1) Ac)) (Ar (pv 2) rfl) Tw) rfl rfl (by simp) (by decide))) rfl))))),?_⟩
 obtain ⟨t,vs,rfl,hs⟩:=Oa hp
 obtain ⟨ao,aS⟩:=W.objOff ha
 have sub:∀ b∈L.S,b∈a :: L.S:=λ b h=>mem_cons_of_mem _ h
 refine ⟨_,Z,t,_,_,_,Z,Z,hs.sq,Ah (j:=0) rfl,Z,_,Z,G0 (λ e=>?_) λ n1=>⟨_,Z,t,_,_,_,Z,Z,hs.sq,Ah (j:=0) rfl,Z,_,Z,G0 (λ e=>?_) λ n2=>?_⟩⟩
 ·obtain ⟨k,rfl⟩:=Uc e
  obtain ⟨a',vs',ev,hs,hx⟩:=PAt.get hp
  cases ev
  obtain ⟨x0,x1,rfl,h0,h1⟩:=hx.two
  cases h0.str
  cases h1.int
  exact ⟨_,Z,_,Z,t,_,_,_,Z,Z,hs.sq,Ah (j:=1) rfl,_,Z,o,a,dx,k,x,y,z,rv,cv,L,n,s,Z,W,ha,hb,hv,q⟩
 ·obtain ⟨i,rfl⟩:=Aav e
  have hp0:=hp
  obtain ⟨a',vs',ev,hs,hx⟩:=PAt.get hp
  cases ev
  obtain ⟨x0,x1,rfl,h0,h1⟩:=hx.two
  cases h0.str
  cases h1.int
  obtain ⟨gvs,ho,hg,hpg,hs',hn,hr',hl,nd⟩:=id W
  obtain ⟨i0,i1⟩:=sg
  obtain ⟨j,rfl⟩:∃ j:Nat,i = (j:Int):=⟨i.toNat,(Int.toNat_of_nonneg i0).symm⟩
  have hj:j < s.sn.length:=by omega
  obtain ⟨r,f1,f2⟩:=Bq hr' (getElem?_eq_getElem hj)
  refine ⟨_,Z,o,C,L.dx,_,.ref L.nl,Z,ho,T.cl,T.nN,Z,_,Z,t,_,_,_,Z,Z,hs.sq,Ah (j:=1) rfl,L.nl,_,_,.ref r,Z,Z,SqL.of hn,Ah (by rw [getElem?_map,f1]; rfl),.inl ⟨Z,_,SqL.of f2⟩,_,Z,a,CP,dx,_,.int x,Z,ha,T.clP,T.nR,Z,r,_,.int x,Z,Z,f2,?_,?_⟩
  ·rw [length_map]
   exact Us (rl _ (getElem_mem hj))
  have W0:=W.senR f1 (getElem?_eq_getElem hj) x
  have eS:(⟨s.gs,s.sn.set j (s.sn[j] ++ [x]),s.lv⟩:Ws) = s.sen (j:Int) x:=by
   unfold Ws.sen
   rw [Int.toNat_natCast,getD_eq_getElem?_getD,getElem?_eq_getElem hj]
   rfl
  rw [eS] at W0
  have WX:=W0
  have rS:r∈L.S:=mem_cons_of_mem _ (mem_cons_of_mem _ (mem_of_getElem? f1))
  have hAX:(upd H r (.lst (s.sn[j].map V.int ++ [V.int x]))) a = some (.ins CP dx (wdV x y z rv cv)):=by rw [upd_ne (Bl ha f2 (by intro z; cases z))]; exact ha
  have hpX:=hp0.mono (show Tp H (upd H r (.lst (s.sn[j].map V.int ++ [V.int x]))) from Tp.lst f2)
  have qX:∀ H',KpS (a :: L.S) (upd H r (.lst (s.sn[j].map V.int ++ [V.int x]))) H'→Au C H' o L n (wLf (beg [] (Pt.send (j:Int))).1 x y z (s.sen j x)).2→B2 CP H' a (wLf (beg [] (Pt.send (j:Int))).1 x y z (s.sen j x)).1→Q .non H':=λ H' k W D=>q H' ((KpS.upd (mem_cons_of_mem _ rS)).trans k) W D
  obtain ⟨_,hoX,_⟩:=id WX
  refine ⟨_,Z,o,L.dx,_,Z,hoX,Z,zN0,λ l1 h1=>?_⟩
  have g1:=Ad h1 (.lst [])
  refine ⟨o,l1,[],L,n,_,Z,WX.same g1,Ab,by show s.gs.length≤1000000; omega,λ H2 k2 W2=>?_⟩
  have hA2:=k2 _ _ aS (g1 _ _ hAX)
  refine ⟨_,Z,a,CP,dx,_,Z,hA2,T.clP,T.nE,(by show 5 < 1000; decide),?_⟩
  have W3:=W2.setA hA2 (.ins CP dx (wdV x y z (.int (s.sen (j:Int) x).nx) cv))
  refine λ d hd=>?_
  have hd2:H2 d = none:=by
   cases e:H2 d with
   | none=>rfl
   | some u=>rw [upd_ne (λ z=>by rw [z] at hd; rw [Ab] at hd; cases hd),e] at hd; cases hd
  have dS:=W3.offN hd
  have gp:=Ad hd (.dK [])
  have pX:PAt K (upd (upd H2 a (.ins CP dx (wdV x y z (.int (s.sen (j:Int) x).nx) cv))) d (.dK [])) (Pt.send (j:Int)).nd (.ref t):=((((hpX.mono g1.tp).mono ((WX.same g1).tp k2)).mono (Ls hA2 (KpS.upd mem_cons_self))).mono gp.tp)
  refine ⟨_,Z,_,Pt.send (j:Int),Z,pX,lf,_,Z,a,CP,dx,_,.int x,Z,gp _ _ Ab,T.clP,T.nR,Z,Ab,[(Sum.inl (beg [] (Pt.send (j:Int))).1,V.int x)],Z,(by show 1≤15; decide),d,_,Z,Ab,λ ob=>?_⟩
  have ad:a≠d:=λ z=>by rw [← z,Ab] at hd; cases hd
  have Wg:=(W3.same gp).frz2 Ab dS (.dK (Du [] [(Sum.inl (beg [] (Pt.send (j:Int))).1,V.int x)])) ob
  have hA4:=M8 (u1:=.dK (Du [] [(Sum.inl (beg [] (Pt.send (j:Int))).1,V.int x)])) (u2:=.frz ob (.dK (Du [] [(Sum.inl (beg [] (Pt.send (j:Int))).1,V.int x)]))) (gp _ _ Ab) ad
  refine ⟨_,Z,a,CP,dx,_,Z,hA4,T.clP,T.nC,(by show 5 < 1000; decide),?_⟩
  refine qX _ ?_ (Wg.setA hA4 _) ⟨dx,d,ob,Ab,by rw [upd_ne (Ne.symm ad)]; exact Ab⟩
  refine ((Same.kpS g1).trans (k2.more sub)).trans λ b u nb e=>?_
  have ba:b≠a:=λ z=>nb (by rw [z]; exact mem_cons_self)
  have bd:b≠d:=A9 e hd2
  rw [upd_ne ba]
  refine M8 ?_ bd
  rw [upd_ne bd,upd_ne ba]
  exact e
 ·have WX:=W
  have hAX:=ha
  have hpX:=hp
  have qX:∀ H',KpS (a :: L.S) H H'→Au C H' o L n (wLf (beg [] p).1 x y z s).2→B2 CP H' a (wLf (beg [] p).1 x y z s).1→Q .non H':=by
   have:Jq x y z s p = wLf (beg [] p).1 x y z s:=by cases p <;> first | rfl | exact absurd rfl n1 | exact absurd rfl n2
   rw [this] at q
   exact q
  obtain ⟨_,hoX,_⟩:=id WX
  refine ⟨_,Z,o,L.dx,_,Z,hoX,Z,zN0,λ l1 h1=>?_⟩
  have g1:=Ad h1 (.lst [])
  refine ⟨o,l1,[],L,n,_,Z,WX.same g1,Ab,by omega,λ H2 k2 W2=>?_⟩
  have hA2:=k2 _ _ aS (g1 _ _ hAX)
  refine ⟨_,Z,a,CP,dx,_,Z,hA2,T.clP,T.nE,(by show 5 < 1000; decide),?_⟩
  have W3:=W2.setA hA2 (.ins CP dx (wdV x y z (.int s.nx) cv))
  refine λ d hd=>?_
  have hd2:H2 d = none:=by
   cases e:H2 d with
   | none=>rfl
   | some u=>rw [upd_ne (λ z=>by rw [z] at hd; rw [Ab] at hd; cases hd),e] at hd; cases hd
  have dS:=W3.offN hd
  have gp:=Ad hd (.dK [])
  have pX:PAt K (upd (upd H2 a (.ins CP dx (wdV x y z (.int s.nx) cv))) d (.dK [])) p.nd (.ref t):=((((hpX.mono g1.tp).mono ((WX.same g1).tp k2)).mono (Ls hA2 (KpS.upd mem_cons_self))).mono gp.tp)
  refine ⟨_,Z,_,p,Z,pX,lf,_,Z,a,CP,dx,_,.int x,Z,gp _ _ Ab,T.clP,T.nR,Z,Ab,[(Sum.inl (beg [] p).1,V.int x)],Z,(by show 1≤15; decide),d,_,Z,Ab,λ ob=>?_⟩
  have ad:a≠d:=λ z=>by rw [← z,Ab] at hd; cases hd
  have Wg:=(W3.same gp).frz2 Ab dS (.dK (Du [] [(Sum.inl (beg [] p).1,V.int x)])) ob
  have hA4:=M8 (u1:=.dK (Du [] [(Sum.inl (beg [] p).1,V.int x)])) (u2:=.frz ob (.dK (Du [] [(Sum.inl (beg [] p).1,V.int x)]))) (gp _ _ Ab) ad
  refine ⟨_,Z,a,CP,dx,_,Z,hA4,T.clP,T.nC,(by show 5 < 1000; decide),?_⟩
  refine qX _ ?_ (Wg.setA hA4 _) ⟨dx,d,ob,Ab,by rw [upd_ne (Ne.symm ad)]; exact Ab⟩
  refine ((Same.kpS g1).trans (k2.more sub)).trans λ b u nb e=>?_
  have ba:b≠a:=λ z=>nb (by rw [z]; exact mem_cons_self)
  have bd:b≠d:=A9 e hd2
  rw [upd_ne ba]
  refine M8 ?_ bd
  rw [upd_ne bd,upd_ne ba]
  exact e
theorem Ki {d:Addr} {o:Obj} {kvs:List (Key× V)} {g:TG} {tc:TT} {te:TE} {σY:St} {H:Hp} {F:Addr→List V→Hp→Prop} (Pv:Nat→List V→Hp→Prop) (h0:Pv 0 [] H) (hz:kvs.length≤sizeLine) (hl:∀ i ys H,Pv i ys H→H d = some (.frz o (.dK kvs)))
  (hs:∀ i p T ys H (N:List V→Hp→Prop),kvs[i]? = some p→Pv i ys H→H T = none→(∀ ys' H',ys'.length≤i + 1→Pv (i + 1) ys' H'→N ys' H')→ys.length≤i→g (.ref T) σY (upd H T (.tup [kV p.1,p.2])) λ σ2 H2=>tc σ2 H2 λ b H3=>if b = true then te σ2 H3 λ y H4=>N (ys ++ [y]) H4 else N ys H3)
  (hd:∀ ys H,ys.length≤kvs.length→Pv kvs.length ys H→∀ D,H D = none→F D ys H):L9 (Iti d o kvs) g tc te σY F H :=
 I0 Pv h0 hz (λ i ys H hi p=>⟨hl i ys H p,hi⟩) (λ ys H p=>⟨hl _ ys H p,le_refl _⟩)
  (λ i x ys H H' N hi p ⟨T,z,e1,hT,y,e2⟩ hyl k=>by subst e1 e2; exact hs i z T ys _ N y p hT k hyl) hd
theorem B2.kp {C CP o a:Addr} {H H':Hp} {L:Lc} {n:Nat} {s:Ws} {r:Wr} (D:B2 CP H a r) (W:Au C H o L n s) (k:KpS L.S H H'):B2 CP H' a r:=by
 obtain ⟨dx,d,ob,ha,hd⟩:=D
 exact ⟨dx,d,ob,k _ _ (W.objOff ha).2 ha,k _ _ (W.offF hd) hd⟩
theorem B2.same {CP a:Addr} {H H':Hp} {r:Wr} (D:B2 CP H a r) (g:Same H H'):B2 CP H' a r:=by
 obtain ⟨dx,d,ob,ha,hd⟩:=D
 exact ⟨dx,d,ob,g _ _ ha,g _ _ hd⟩
theorem J4 {H H':Hp} {l:Addr} {ts:List Addr} {codes:List (Int× Int)} (h:AaN H (codes.map kvI) l ts H'):PySem.Paired (G7 H') codes (ts.map V.ref):=by
 obtain ⟨g,fl,el,le,ft,nd,et⟩:=h
 refine Dc (by rw [length_map,le,length_map]) λ j x e=>?_
 have hj:j < ts.length:=by rw [le,length_map]; exact (List.getElem?_eq_some_iff.mp e).1
 exact ⟨.ref ts[j],by rw [getElem?_map,getElem?_eq_getElem hj]; rfl,ts[j],Z,et j ts[j] (kvI x) (getElem?_eq_getElem hj) (by rw [getElem?_map,e]; rfl)⟩
theorem Co {α β:Type} {F:α→β→Prop} {l1 l2:List α} {m1 m2:List β} (h1:PySem.Paired F l1 m1) (h2:PySem.Paired F l2 m2):PySem.Paired F (l1 ++ l2) (m1 ++ m2):=by
 have e1:=PySem.Paired.length h1
 have e2:=PySem.Paired.length h2
 refine Dc (by rw [length_append,length_append,e1,e2]) λ j x e=>?_
 rcases lt_or_ge j l1.length with hj | hj
 ·rw [getElem?_append_left hj] at e
  obtain ⟨y,f1,f2⟩:=Bq h1 e
  exact ⟨y,by rw [getElem?_append_left (by omega)]; exact f1,f2⟩
 ·rw [getElem?_append_right hj] at e
  obtain ⟨y,f1,f2⟩:=Bq h2 e
  exact ⟨y,by rw [getElem?_append_right (by omega),← e1]; exact f1,f2⟩
theorem A8 (s:Ws) (g:Int) (w:Str) (ns:List Int):(s.fil g w ns).gs.length = s.gs.length:=by unfold Ws.fil; rw [length_set]
theorem Fa (s:Ws) (g:Int) (w:Str) (ns:List Int):(s.fil g w ns).nx = s.nx:=by unfold Ws.nx; rw [A8]
theorem L7 (s:Ws) (ns:List Int):s.gs.length≤(s.som ns).2.gs.length∧(s.som ns).2.gs.length≤s.gs.length + 1:=by
 unfold Ws.som
 split
 ·exact ⟨le_refl _,le_succ _⟩
 ·show _≤(s.add "some" ns).gs.length∧(s.add "some" ns).gs.length≤_
  rw [Af]; omega
theorem De (cs:List (Int× Int)) (c:Int) (s:Ws):s.gs.length≤(cgt cs c s).2.gs.length∧(cgt cs c s).2.gs.length≤s.gs.length + 1:=by
 unfold cgt
 split
 ·exact ⟨le_refl _,le_succ _⟩
 ·exact L7 s []
theorem AcV (cs:List (Int× Int)) (c:Int) (s:Ws):s.nx≤(cgt cs c s).2.nx:=by have:=(De cs c s).1; unfold Ws.nx; omega
def wThen (x y z rr:Int) (r1 r2:Wr) (s:Ws):Wr× Ws :=
 let s3:=((s.add "all" [x,r2.rests]).add "not" [r2.rests]).fil r1.runs "all" [x,s.nx + 1]
 let c:=cgt r1.codes 0 s3
 let s5:=c.2.fil r2.runs "some" [s.nx,c.1]
 let j:=s5.jnd (r1.codes.filter (λ p=>!decide (p.1 = 0)) ++ r2.codes)
 (⟨x,y,z,rr,j.1⟩,j.2)
def Rng (s:Ws) (g:Int):Prop:=0≤g∧g < s.nx
inductive Ps (C CP:Addr) (vs:List V) (H:Hp) (Q:VK):Prop
 | mk (o a dx f g:Addr) (x y z rr:Int) (cv:V) (r1 r2:Wr) (L:Lc) (n:Nat) (s:Ws) (_:vs = [.ref o,.ref a,.ref f,.ref g]) (_:Au C H o L n s) (_:H a = some (.ins CP dx (wdV x y z (.int rr) cv))) (_:B2 CP H f r1) (_:B2 CP H g r2) (_:Rng s r1.runs) (_:Rng s r2.runs) (_:r1.codes.length + r2.codes.length < 64) (_:s.gs.length + 80≤1000000) (_:Jj C CP o a L n Q H (wThen x y z rr r1 r2 s)):Ps C CP vs H Q
def Ts (C CP:Addr):Sp:=λ vs H Q _=>Ps C CP vs H Q
theorem Z4 (F:Ba K mg "wire_then" ["wiring", "whole", "first", "second"] Fw) (T:B3 K mg C CP) (aD:Bf P w K mg base 1 C "fill" ["self", "number", "word", "numbers"] (Gk C)) (aE:Bf P w K mg base 2 C "opposite" ["self", "number"] (Kx C)) (aA:Bf P w K mg base 2 C "every_of" ["self", "numbers"] (Fh C)) (aK:Bf P w K mg base 3 C "joined" ["self", "pairs"] (Hn C)) (aJ:Am P w K mg base 3 "code_gate" ["wiring", "whole", "code"] (Rw C CP)):Am P w K mg base 4 "wire_then" ["wiring", "whole", "first", "second"] (Ts C CP):=by
 refine F.ok Jk (λ vs H Q E h=>?_) (λ fn cdv A outer s0 H vs Q E hr h=>?_)
 ·obtain ⟨o,a,dx,f,g,x,y,z,rr,cv,r1,r2,L,n,s,rfl,_⟩:=h; rfl
 obtain ⟨o,a,dx,f,g,x,y,z,rr,cv,r1,r2,L,n,s,rfl,W,ha,D1,D2,b1,b2,cl,hb,q⟩:=h
 obtain ⟨uE,hE,rE⟩:=T.gE
 obtain ⟨ao,aS⟩:=W.objOff ha
 have sub:∀ b∈L.S,b∈a :: L.S:=λ b h=>mem_cons_of_mem _ h
 refine ⟨_,(Ae (Bh (i:=4) Jk.nd rfl (Or.inl rfl) (Aq aA hr Al (pv 0) (Aa (A5 (Aa (Ar (pv 1) rfl) (Aa (Ar (pv 3) rfl) Ac))) Ac)))
  (Ae (Bg (Aq aD hr Al (pv 0) (Aa (Ar (pv 2) rfl) (Aa An (Aa (A5 (Aa (Ar (pv 1) rfl) (Aa (Aq aE hr Al (pv 0) (Aa (Ar (pv 3) rfl) Ac)) Ac))) Ac)))))
  (Ae (Bg (Aq aD hr Al (pv 0) (Aa (Ar (pv 3) rfl) (Aa An (Aa (A5 (Aa (pv 4) (Aa (Av aJ hr rfl Al (Aa (pv 0) (Aa (pv 2) (Aa (Cb rfl hE rE) Ac)))) Ac))) Ac)))))
  (Ae (Ff (j:=5) (g:=(B1 0)) (tc:=(Kn (tOp rNe (tOp (G1 K) (Bt 0) (tC (.int 0))) (tC (.int 0))))) (te:=(Bt 0)) ["pair"] [] Jk.nd rfl (Or.inl rfl) rfl (Ci (Aj Fw) ["wiring", "whole", "first", "second", "going_on", "going_past"] (by decide +kernel)) (Ms (Ar (pv 2) rfl)) (λ s2 H2 fp cl C=>A3 (i:=0) (show Nodup [("pair" : Str)] from by decide +kernel) rfl (Or.inl rfl)) (Bo (by decide)) (λ s2 H2 fp cl C=>F3 (As Mc (Ao Ap (pv 0) Ag (λ _ _=>rfl)) (Cb rfl hE rE) (Ax _))) (λ s2 H2 fp cl C=>(pv 0)))
  (Ai (Cc (pv 1) (Aq aK hr Al (pv 0) (Aa (Bj Ji (pv 5) (Hr rfl rfl T.n_list (Ar (pv 3) rfl))) Ac)) rfl)))))),?_⟩
 obtain ⟨_,ho,_⟩:=id W
 obtain ⟨fx,d1,o1,hf,hd1⟩:=id D1
 obtain ⟨gx,d2,o2,hg,hd2⟩:=id D2
 have fS:=(W.objOff hf).2
 have gS:=(W.objOff hg).2
 refine ⟨_,Z,o,L.dx,_,Z,ho,Z,_,Z,a,CP,dx,_,.int x,Z,ha,T.clP,T.nR,Z,_,Z,g,CP,gx,_,.int r2.rests,Z,hg,T.clP,T.nE,Z,zN2,λ l1 h1=>?_⟩
 have g1:=Ad h1 (.lst [V.int x,.int r2.rests])
 refine ⟨o,l1,[x,r2.rests],L,n,s,Z,W.same g1,Ab,by omega,λ H1 k1 W1=>?_⟩
 have k1:=(Same.kpS g1).trans k1
 obtain ⟨_,ho1,_⟩:=id W1
 have ha1:=k1 _ _ aS ha
 have hf1:=k1 _ _ fS hf
 have hg1:=k1 _ _ gS hg
 refine ⟨_,Z,o,L.dx,_,Z,ho1,Z,_,Z,f,CP,fx,_,.int r1.runs,Z,hf1,T.clP,T.nR,Z,_,Z,a,CP,dx,_,.int x,Z,ha1,T.clP,T.nR,Z,_,Z,o,L.dx,_,Z,ho1,Z,_,Z,g,CP,gx,_,.int r2.rests,Z,hg1,T.clP,T.nE,Z,?_⟩
 refine ⟨o,_,L,n,_,Z,W1,by rw [Af]; omega,λ H2 k2 W2=>⟨zN2,λ l2 h2=>?_⟩⟩
 have g2:=Ad h2 (.lst [V.int x,.int (s.add "all" [x,r2.rests]).nx])
 have k2:=(k1.trans k2).trans (Same.kpS g2)
 refine ⟨o,l2,r1.runs, "all", [x,(s.add "all" [x,r2.rests]).nx],L,n,_,Z,W2.same g2,Ab,b1.1,by rw [Az,Az]; have:=b1.2; omega,λ H3 k3 W3=>?_⟩
 have k3:=k2.trans k3
 rw [Az] at W3
 obtain ⟨_,ho3,_⟩:=id W3
 have D13:=D1.kp W k3
 refine ⟨_,Z,o,L.dx,_,Z,ho3,Z,_,Z,g,CP,gx,_,.int r2.runs,Z,k3 _ _ gS hg,T.clP,T.nR,Z,_,Z,_,Z,_,Z,o,f,0,r1,L,n,_,Z,W3,D13,by rw [A8,Af,Af]; omega,λ H4 k4 W4=>⟨zN2,λ l4 h4=>?_⟩⟩
 have g4:=Ad h4 (.lst [V.int s.nx,.int (cgt r1.codes 0 (((s.add "all" [x,r2.rests]).add "not" [r2.rests]).fil r1.runs "all" [x,s.nx + 1])).1])
 have k4:=(k3.trans k4).trans (Same.kpS g4)
 have lc:=De r1.codes 0 (((s.add "all" [x,r2.rests]).add "not" [r2.rests]).fil r1.runs "all" [x,s.nx + 1])
 have lx:=AcV r1.codes 0 (((s.add "all" [x,r2.rests]).add "not" [r2.rests]).fil r1.runs "all" [x,s.nx + 1])
 rw [A8,Af,Af] at lc
 rw [Fa,Az,Az] at lx
 refine ⟨o,l4,r2.runs, "some", [s.nx,_],L,n,_,Z,W4.same g4,Ab,b2.1,by have:=b2.2; omega,λ H5 k5 W5=>?_⟩
 have k5:=k4.trans k5
 obtain ⟨_,ho5,_⟩:=id W5
 have hf5:=k5 _ _ fS hf
 have hd5:=k5 _ _ (W.offF hd1) hd1
 refine ⟨_,Z,f,CP,fx,_,.ref d1,Z,hf5,T.clP,T.nC,Z,d1,o1,_,Z,hd5,Ki (λ i ys H'=>Same H5 H'∧PySem.Paired (G7 H') ((r1.codes.take i).filter (λ p=>!decide (p.1 = 0))) ys) ⟨Same.refl _,.nil⟩ (by rw [length_map]; exact le_trans (by omega:r1.codes.length≤64) (by decide)) (λ i ys H' hh=>hh.1 _ _ hd5) ?_ ?_⟩
 ·rintro i p t ys H' N hi ⟨gg,hy⟩ ht hN hyl
  have hil:i < r1.codes.length:=by have:=(List.getElem?_eq_some_iff.mp hi).1; rwa [length_map] at this
  rw [getElem?_map,getElem?_eq_getElem hil] at hi
  cases hi
  have gt:=Ad ht (.tup [V.int (r1.codes[i]).1,V.int (r1.codes[i]).2])
  have tk:r1.codes.take (i + 1) = r1.codes.take i ++ [r1.codes[i]]:=by rw [take_succ,getElem?_eq_getElem hil]; rfl
  have hy':PySem.Paired (G7 (upd H' t (.tup [V.int (r1.codes[i]).1,V.int (r1.codes[i]).2]))) _ ys:=Paired.mapP hy λ _ _ a=>a.mono gt.tp
  refine ⟨_,Z,t,_,_,_,Z,Z,SqT.of Ab,Ah (j:=0) rfl,Z,_,Z,?_⟩
  by_cases h0:(r1.codes[i]).1 = 0
  ·refine Aae ?_ (hN _ _ (by omega) ⟨gg.trans gt,?_⟩)
   ·show (!decide (V.int (r1.codes[i]).1 = V.int 0)) = false
    rw [h0]; decide
   ·rw [tk,filter_append,show filter (λ p=>!decide (p.1 = 0)) [r1.codes[i]] = [] by simp [h0],append_nil]
    exact hy'
  ·refine Aaf ?_ ⟨_,Z,hN _ _ (by rw [length_append,length_singleton]; omega) ⟨gg.trans gt,?_⟩⟩
   ·show (!decide (V.int (r1.codes[i]).1 = V.int 0)) = true
    rw [decide_eq_false (λ z=>h0 (V.int.inj z))]; rfl
   ·rw [tk,filter_append,show filter (λ p=>!decide (p.1 = 0)) [r1.codes[i]] = [r1.codes[i]] by simp [h0]]
    exact Co hy' (.cons ⟨t,Z,Ab⟩ .nil)
 rintro ys H6 hyl ⟨g6,hy⟩ D6 hD6
 rw [length_map,take_length] at hy
 have gD:=Ad hD6 (.lst ys)
 have k7:=(k5.trans (Same.kpS g6)).trans (Same.kpS gD)
 have W7:=(W5.same g6).same gD
 have hg7:=k7 _ _ gS hg
 have hd7:=k7 _ _ (W.offF hd2) hd2
 obtain ⟨_,ho7,_⟩:=id W7
 refine ⟨_,Z,o,L.dx,_,Z,ho7,Z,_,Z,_,Z,g,CP,gx,_,.ref d2,Z,hg7,T.clP,T.nC,Z,d2,_,Z,.inr ⟨o2,hd7⟩,λ l8 ts H8 q8=>?_⟩
 have p8:=J4 q8
 obtain ⟨g8,fl,el,le,ft,nd,et⟩:=q8
 have g8:Same _ H8:=g8
 have W8:=W7.same g8
 have y8:=Paired.mapP hy λ _ _ a=>a.mono (gD.trans g8).tp
 have lp:=PySem.Paired.length hy
 have lf:=length_filter_le (λ p:Int× Int=>!decide (p.1 = 0)) r1.codes
 rw [length_map] at le
 refine ⟨D6,l8,ys,_,Z,Z,g8 _ _ Ab,el,by rw [length_map]; exact le_trans (by omega:ys.length + ts.length≤64) (by decide),λ l9 h9=>?_⟩
 have g9:=Ad h9 (.lst (ys ++ ts.map V.ref))
 have k9:=(k7.trans (Same.kpS g8)).trans (Same.kpS g9)
 refine ⟨o,l9,_,_,L,n,_,Z,W8.same g9,Ab,W8.offN h9,Paired.mapP (Co y8 p8) λ _ _ a=>a.mono g9.tp,by rw [length_append]; omega,by rw [A8]; omega,λ d ob HA kA dA eA WA=>?_⟩
 have kA:=k9.trans kA
 have haA:=kA _ _ aS ha
 refine ⟨_,Z,a,CP,dx,_,Z,haA,T.clP,T.nC,(by show 5 < 1000; decide),?_⟩
 have ad:a≠d:=Bl haA eA (by intro z; cases z)
 exact q _ ((kA.more sub).trans (KpS.upd mem_cons_self)) (WA.setA haA _) ⟨dx,d,ob,Ab,by rw [upd_ne (Ne.symm ad)]; exact eA⟩
def Cg (x bg:Int) (s:Ws) (it:Wr× Int):Ws:=((s.add "all" [x,it.1.rests]).add "all" [bg,it.2]).fil it.1.runs "some" [s.nx,s.nx + 1]
def wIf (x y z rr sg:Int) (r1 r2:Wr) (s:Ws):Wr× Ws :=
 let s5:=[(r1,sg),(r2,s.nx + 2)].foldl (Cg x (s.nx + 1)) (((s.add "not" [rr]).add "all" [x,s.nx]).add "not" [sg])
 let j:=s5.jnd (r1.codes ++ r2.codes)
 (⟨x,y,z,rr,j.1⟩,j.2)
theorem Md (x bg:Int) (s:Ws) (it:Wr× Int):(Cg x bg s it).gs.length = s.gs.length + 2:=by unfold Cg; rw [A8,Af,Af]
theorem Ov (x bg:Int) (its:List (Wr× Int)) (s:Ws):(its.foldl (Cg x bg) s).gs.length = s.gs.length + 2 * its.length:=by
 induction its generalizing s with
 | nil=>rfl
 | cons it r ih=>rw [foldl_cons,ih,Md,length_cons]; omega
inductive Ta (C CP:Addr) (vs:List V) (H:Hp) (Q:VK):Prop
 | mk (o a dx f g:Addr) (x y z rr sg:Int) (cv:V) (r1 r2:Wr) (L:Lc) (n:Nat) (s:Ws) (_:vs = [.ref o,.int sg,.ref a,.ref f,.ref g]) (_:Au C H o L n s) (_:H a = some (.ins CP dx (wdV x y z (.int rr) cv))) (_:B2 CP H f r1) (_:B2 CP H g r2) (_:Rng s r1.runs) (_:Rng s r2.runs) (_:r1.codes.length + r2.codes.length < 64) (_:s.gs.length + 80≤1000000) (_:Jj C CP o a L n Q H (wIf x y z rr sg r1 r2 s)):Ta C CP vs H Q
def Aah (C CP:Addr):Sp:=λ vs H Q _=>Ta C CP vs H Q
theorem Abz (F:Ba K mg "wire_if" ["wiring", "sign", "whole", "first", "second"] Jw) (T:B3 K mg C CP) (aD:Bf P w K mg base 1 C "fill" ["self", "number", "word", "numbers"] (Gk C)) (aE:Bf P w K mg base 2 C "opposite" ["self", "number"] (Kx C)) (aA:Bf P w K mg base 2 C "every_of" ["self", "numbers"] (Fh C)) (aK:Bf P w K mg base 3 C "joined" ["self", "pairs"] (Hn C)):Am P w K mg base 4 "wire_if" ["wiring", "sign", "whole", "first", "second"] (Aah C CP):=by
 refine F.ok Gd (λ vs H Q E h=>?_) (λ fn cdv A outer s0 H vs Q E hr h=>?_)
 ·obtain ⟨o,a,dx,f,g,x,y,z,rr,sg,cv,r1,r2,L,n,s,rfl,_⟩:=h; rfl
 obtain ⟨o,a,dx,f,g,x,y,z,rr,sg,cv,r1,r2,L,n,s,rfl,W,ha,D1,D2,b1,b2,cl,hb,q⟩:=h
 obtain ⟨ao,aS⟩:=W.objOff ha
 have sub:∀ b∈L.S,b∈a :: L.S:=λ b h=>mem_cons_of_mem _ h
 refine ⟨_,(Ae (Bh (i:=5) Gd.nd rfl (Or.inl rfl) (Aq aA hr Al (pv 0) (Aa (A5 (Aa (Ar (pv 2) rfl) (Aa (Aq aE hr Al (pv 0) (Aa (Ar (pv 2) rfl) Ac)) Ac))) Ac)))
  (Ae (Dr PassesOwn.never rfl (Gf (Be (Aa (Be (Aa (pv 3) (Aa (pv 1) Ac))) (Aa (Be (Aa (pv 4) (Aa (Aq aE hr Al (pv 0) (Aa (pv 1) Ac)) Ac))) Ac)))) (Fs rfl (B0 (A3 (i:=6) Gd.nd rfl (Or.inl rfl)) (B0 (A3 (i:=7) Gd.nd rfl (Or.inl rfl)) Ep)))
   (Ae (Bh (i:=8) Gd.nd rfl (Or.inl rfl) (Aq aA hr Al (pv 0) (Aa (A5 (Aa (Ar (pv 2) rfl) (Aa (Ar (pv 6) rfl) Ac))) Ac)))
  (Ai (Bg (Aq aD hr Al (pv 0) (Aa (Ar (pv 6) rfl) (Aa An (Aa (A5 (Aa (pv 8) (Aa (Aq aA hr Al (pv 0) (Aa (A5 (Aa (pv 5) (Aa (pv 7) Ac))) Ac)) Ac))) Ac))))))))
  (Ai (Cc (pv 2) (Aq aK hr Al (pv 0) (Aa (Bj Ji (Hr rfl rfl T.n_list (Ar (pv 3) rfl)) (Hr rfl rfl T.n_list (Ar (pv 4) rfl))) Ac)) rfl)))),?_⟩
 obtain ⟨_,ho,_⟩:=id W
 obtain ⟨fx,d1,o1,hf,hd1⟩:=id D1
 obtain ⟨gx,d2,o2,hg,hd2⟩:=id D2
 have fS:=(W.objOff hf).2
 have gS:=(W.objOff hg).2
 refine ⟨_,Z,o,L.dx,_,Z,ho,Z,_,Z,a,CP,dx,_,.int x,Z,ha,T.clP,T.nR,Z,_,Z,o,L.dx,_,Z,ho,Z,_,Z,a,CP,dx,_,.int rr,Z,ha,T.clP,T.nE,Z,?_⟩
 refine ⟨o,_,L,n,_,Z,W,by omega,λ H1 k1 W1=>⟨zN2,λ l1 h1=>?_⟩⟩
 have g1:=Ad h1 (.lst [V.int x,.int s.nx])
 refine ⟨o,l1,[x,s.nx],L,n,_,Z,W1.same g1,Ab,by rw [Af]; omega,λ H2 k2 W2=>?_⟩
 have k2:=(k1.trans (Same.kpS g1)).trans k2
 refine ⟨_,Z,_,Z,zN2,λ t1 ht1=>?_⟩
 have gt1:=Ad ht1 (.tup [V.ref f,.int sg])
 have W2t:=W2.same gt1
 obtain ⟨_,ho2,_⟩:=id W2t
 refine ⟨_,Z,_,Z,o,L.dx,_,Z,ho2,Z,_,Z,o,_,L,n,_,Z,W2t,by rw [Af,Af]; omega,λ H3 k3 W3=>⟨zN2,λ t2 ht2=>⟨zN2,λ t3 ht3=>?_⟩⟩⟩
 have eb:(s.add "not" [rr]).nx = s.nx + 1:=Az _ _ _
 have eq:((s.add "not" [rr]).add "all" [x,s.nx]).nx = s.nx + 2:=by rw [Az,Az]; omega
 rw [eb]
 rw [eq] at ht3 ⊢
 have gt2:=Ad ht2 (.tup [V.ref g,.int (s.nx + 2)])
 have gt3:=Ad ht3 (.tup [V.ref t1,V.ref t2])
 have W4:=(W3.same gt2).same gt3
 have et1:=(gt2.trans gt3) _ _ (W2t.tp k3 _ _ Ab)
 have et2:=gt3 _ _ (Ab (H:=H3) (a:=t2) (o:=.tup [V.ref g,.int (s.nx + 2)]))
 have k4:=(((k2.trans (Same.kpS gt1)).trans k3).trans (Same.kpS gt2)).trans (Same.kpS gt3)
 generalize eH4:upd (upd H3 t2 (.tup [V.ref g,.int (s.nx + 2)])) t3 (.tup [V.ref t1,V.ref t2]) = H4 at *
 have et3:H4 t3 = some (.tup [V.ref t1,V.ref t2]):=by rw [← eH4]; exact Ab
 refine ⟨t3,Z,⟨_,SqT.of et3⟩,Iv (K:=K) (a:=t3) (xs:=[V.ref t1,V.ref t2]) (λ i σ H'=>∃ x6 x7 x8,σ = [some (.ref o),some (.int sg),some (.ref a),some (.ref f),some (.ref g),some (.int (s.nx + 1)),x6,x7,x8]∧KpS L.S H4 H'∧Au C H' o L n (([(r1,sg),(r2,s.nx + 2)].take i).foldl (Cg x (s.nx + 1)) (((s.add "not" [rr]).add "all" [x,s.nx]).add "not" [sg]))) ⟨none,none,none,Z,KpS.refl _ _,W4⟩ ?_ ?_ ?_⟩
 ·rintro i σ H' _ ⟨_,_,_,_,k,_⟩
  exact SqT.of (W4.tp k _ _ et3)
 ·rintro i v σ H' hi ⟨x6,x7,x8,rfl,k5,W5⟩
  obtain ⟨b,bx,db,ob,rb,qb,t,e1,e2,hbo,hbS,rg,ei⟩:∃ (b bx db:Addr) (ob:Obj) (rb:Wr) (qb:Int) (t:Addr),v = .ref t∧H4 t = some (.tup [V.ref b,.int qb])∧H4 b = some (.ins CP bx (wdV rb.runs rb.kept rb.stays (.int rb.rests) (.ref db)))∧b∉L.S∧Rng s rb.runs∧[(r1,sg),(r2,s.nx + 2)][i]? = some (rb,qb):=by
   match i,hi with
   | 0,hi=>cases hi; exact ⟨f,fx,d1,o1,r1,sg,t1,rfl,et1,k4 _ _ fS hf,fS,b1,rfl⟩
   | 1,hi=>cases hi; exact ⟨g,gx,d2,o2,r2,s.nx + 2,t2,rfl,et2,k4 _ _ gS hg,gS,b2,rfl⟩
   | (j + 2),hi=>cases hi
  subst e1
  have hi2:i < 2:=(List.getElem?_eq_some_iff.mp ei).1
  have tk:[(r1,sg),(r2,s.nx + 2)].take (i + 1) = [(r1,sg),(r2,s.nx + 2)].take i ++ [(rb,qb)]:=by rw [take_succ,ei]; rfl
  have ln:=Ov x (s.nx + 1) ([(r1,sg),(r2,s.nx + 2)].take i) (((s.add "not" [rr]).add "all" [x,s.nx]).add "not" [sg])
  have l2:([(r1,sg),(r2,s.nx + 2)].take i).length≤2:=by rw [length_take]; exact min_le_right _ _
  rw [Af,Af,Af] at ln
  rw [tk,foldl_append]
  generalize ([(r1,sg),(r2,s.nx + 2)].take i).foldl (Cg x (s.nx + 1)) (((s.add "not" [rr]).add "all" [x,s.nx]).add "not" [sg]) = s5 at *
  have ha5:=k5 _ _ aS (k4 _ _ aS ha)
  have hb5:=k5 _ _ hbS hbo
  obtain ⟨_,ho5,_⟩:=id W5
  refine ⟨t,_,Z,SqT.of (W4.tp k5 _ _ e2),Z,_,_,Z,_,_,Z,Z,_,Z,o,L.dx,_,Z,ho5,Z,_,Z,a,CP,dx,_,.int x,Z,ha5,T.clP,T.nR,Z,_,Z,b,CP,bx,_,.int rb.rests,Z,hb5,T.clP,T.nE,Z,zN2,λ l6 h6=>?_⟩
  have g6:=Ad h6 (.lst [V.int x,.int rb.rests])
  refine ⟨o,l6,[x,rb.rests],L,n,_,Z,W5.same g6,Ab,by omega,λ H6 k6 W6=>?_⟩
  have k6:=(k5.trans (Same.kpS g6)).trans k6
  obtain ⟨_,ho6,_⟩:=id W6
  refine ⟨_,Z,o,L.dx,_,Z,ho6,Z,_,Z,b,CP,bx,_,.int rb.runs,Z,k6 _ _ hbS hbo,T.clP,T.nR,Z,_,Z,_,Z,o,L.dx,_,Z,ho6,Z,_,Z,_,Z,zN2,λ l7 h7=>?_⟩
  have g7:=Ad h7 (.lst [V.int (s.nx + 1),.int qb])
  refine ⟨o,l7,[s.nx + 1,qb],L,n,_,Z,W6.same g7,Ab,by rw [Af]; omega,λ H8 k8 W8=>⟨zN2,λ l8 h8=>?_⟩⟩
  rw [Az]
  have g8:=Ad h8 (.lst [V.int s5.nx,.int (s5.nx + 1)])
  refine ⟨o,l8,rb.runs, "some", [s5.nx,s5.nx + 1],L,n,_,Z,W8.same g8,Ab,rg.1,?_,λ H9 k9 W9=>?_⟩
  ·rw [Az,Az]
   have:=rg.2
   unfold Ws.nx at this ⊢
   omega
  ·exact ⟨_,_,_,Z,(((k6.trans (Same.kpS g7)).trans k8).trans (Same.kpS g8)).trans k9,W9⟩
 ·rintro σ H5 ⟨x6,x7,x8,rfl,k5,W5⟩
  have k5:=k4.trans k5
  have ln:=Ov x (s.nx + 1) [(r1,sg),(r2,s.nx + 2)] (((s.add "not" [rr]).add "all" [x,s.nx]).add "not" [sg])
  rw [Af,Af,Af,show [(r1,sg),(r2,s.nx + 2)].length = 2 from rfl] at ln
  have W5:Au C H5 o L n ([(r1,sg),(r2,s.nx + 2)].foldl (Cg x (s.nx + 1)) (((s.add "not" [rr]).add "all" [x,s.nx]).add "not" [sg])):=W5
  have hf5:=k5 _ _ fS hf
  have hd5:=k5 _ _ (W.offF hd1) hd1
  obtain ⟨_,ho5,_⟩:=id W5
  refine ⟨_,Z,o,L.dx,_,Z,ho5,Z,_,Z,f,CP,fx,_,.ref d1,Z,hf5,T.clP,T.nC,Z,d1,_,Z,.inr ⟨o1,hd5⟩,λ l6 us H6 q6=>?_⟩
  have p6:=J4 q6
  obtain ⟨g6,fl6,el6,le6,_⟩:=q6
  have g6:Same _ H6:=g6
  have k6:=k5.trans (Same.kpS g6)
  have W6:=W5.same g6
  refine ⟨_,Z,g,CP,gx,_,.ref d2,Z,k6 _ _ gS hg,T.clP,T.nC,Z,d2,_,Z,.inr ⟨o2,k6 _ _ (W.offF hd2) hd2⟩,λ l8 ts H8 q8=>?_⟩
  have p8:=J4 q8
  obtain ⟨g8,fl,el,le,ft,nd,et⟩:=q8
  have g8:Same _ H8:=g8
  have W8:=W6.same g8
  have y8:=Paired.mapP p6 λ _ _ a=>a.mono g8.tp
  rw [length_map] at le le6
  refine ⟨l6,l8,_,_,Z,Z,g8 _ _ el6,el,by rw [length_map,length_map]; exact le_trans (by omega:us.length + ts.length≤64) (by decide),λ l9 h9=>?_⟩
  have g9:=Ad h9 (.lst (us.map V.ref ++ ts.map V.ref))
  have k9:=(k6.trans (Same.kpS g8)).trans (Same.kpS g9)
  refine ⟨o,l9,_,_,L,n,_,Z,W8.same g9,Ab,W8.offN h9,Paired.mapP (Co y8 p8) λ _ _ a=>a.mono g9.tp,by rw [length_append]; omega,by omega,λ d ob HA kA dA eA WA=>?_⟩
  have kA:=k9.trans kA
  have haA:=kA _ _ aS ha
  refine ⟨_,Z,a,CP,dx,_,Z,haA,T.clP,T.nC,(by show 5 < 1000; decide),?_⟩
  have ad:a≠d:=Bl haA eA (by intro z; cases z)
  exact q _ ((kA.more sub).trans (KpS.upd mem_cons_self)) (WA.setA haA _) ⟨dx,d,ob,Ab,by rw [upd_ne (Ne.symm ad)]; exact eA⟩
theorem Wd {d:Addr} {o:Obj} {kvs:List (Key× V)} {g:TG} {tc:TT} {te:TE} {σY:St} {H:Hp} {F:Addr→List V→Hp→Prop} (Pv:Nat→List V→Hp→Prop) (h0:Pv 0 [] H) (hz:kvs.length≤sizeLine) (hl:∀ i ys H,Pv i ys H→H d = some (.frz o (.dK kvs)))
  (hs:∀ i p ys H (N:List V→Hp→Prop),kvs[i]? = some p→Pv i ys H→(∀ ys' H',ys'.length≤i + 1→Pv (i + 1) ys' H'→N ys' H')→ys.length≤i→g (kV p.1) σY H λ σ2 H2=>tc σ2 H2 λ b H3=>if b = true then te σ2 H3 λ y H4=>N (ys ++ [y]) H4 else N ys H3)
  (hd:∀ ys H,ys.length≤kvs.length→Pv kvs.length ys H→∀ D,H D = none→F D ys H):L9 (Itk d o kvs) g tc te σY F H :=
 I0 Pv h0 hz (λ i ys H hi p=>⟨hl i ys H p,hi⟩) (λ ys H p=>⟨hl _ ys H p,le_refl _⟩)
  (λ i x ys H H' N hi p ⟨e,z,y,e1⟩ hyl k=>by subst e e1; exact hs i z ys _ N y p k hyl) hd
abbrev Cd:=List (Int× Int)
def leC (side:Cd) (c:Int):List Int:=((side.map (·.1)).filter (λ k=>decide (k≤c))).map λ k=>(side.lookup k).getD 0
def nstep (c:Int) (a:List Int× Ws) (side:Cd):List Int× Ws:=(a.1 ++ [(a.2.som (leC side c)).1],(a.2.som (leC side c)).2)
def Bu (cs:List Cd) (c:Int):List Int:=cs.filterMap λ side=>side.lookup c
def needC (cs:List Cd) (c:Int) (s:Ws):List Int× Ws:=cs.foldl (nstep c) ([(s.som (Bu cs c)).1],(s.som (Bu cs c)).2)
def gstep (cs:List Cd) (a:Cd× Ws) (c:Int):Cd× Ws:=(a.1 ++ [(c,(needC cs c a.2).2.nx)],(needC cs c a.2).2.add "all" (needC cs c a.2).1)
def gfold (cs:List Cd) (ks:List Int) (s:Ws):Cd× Ws:=ks.foldl (gstep cs) ([],s)
def Ws.grc (s:Ws) (c0 c1:Cd):Cd× Ws:=gfold [c0,c1] (nub (c0.map (·.1) ++ c1.map (·.1))) s
theorem Vt (cs:List Cd) (ks:List Int) (c:Int) (s:Ws):gfold cs (ks ++ [c]) s = gstep cs (gfold cs ks s) c:=by unfold gfold; rw [foldl_append]; rfl
theorem Ij (cs:List Cd) (ks:List Int) (s:Ws):(gfold cs ks s).1.map (·.1) = ks:=by
 have k:∀ (ks:List Int) (a:Cd× Ws),(ks.foldl (gstep cs) a).1.map (·.1) = a.1.map (·.1) ++ ks:=by
  intro ks
  induction ks with
  | nil=>intro a; simp
  | cons c ks ih=>intro a; rw [foldl_cons,ih]; unfold gstep; simp
 have:=k ks ([],s)
 rw [map_nil,nil_append] at this
 exact this
theorem Ry (c:Int) (cs:List Cd) (a:List Int× Ws):(cs.foldl (nstep c) a).2.gs.length≤a.2.gs.length + cs.length∧(cs.foldl (nstep c) a).1.length = a.1.length + cs.length:=by
 induction cs generalizing a with
 | nil=>exact ⟨le_refl _,rfl⟩
 | cons d r ih =>
  rw [foldl_cons,length_cons]
  obtain ⟨i1,i2⟩:=ih (nstep c a d)
  have h2:(nstep c a d).2.gs.length≤a.2.gs.length + 1:=Mh _ _
  have h3:(nstep c a d).1.length = a.1.length + 1:=by unfold nstep; rw [length_append,length_singleton]
  omega
theorem Ld (cs:List Cd) (ks:List Int) (s:Ws):(gfold cs ks s).2.gs.length≤s.gs.length + (cs.length + 2) * ks.length:=by
 have k:∀ (ks:List Int) (a:Cd× Ws),(ks.foldl (gstep cs) a).2.gs.length≤a.2.gs.length + (cs.length + 2) * ks.length:=by
  intro ks
  induction ks with
  | nil=>intro a; exact le_refl _
  | cons c ks ih =>
   intro a
   rw [foldl_cons,length_cons]
   have h1:=ih (gstep cs a c)
   have h2:(gstep cs a c).2.gs.length≤a.2.gs.length + cs.length + 2:=by
    unfold gstep
    dsimp only
    rw [Af]
    have:=(Ry c cs ([(a.2.som (Bu cs c)).1],(a.2.som (Bu cs c)).2)).1
    have h3:=Mh a.2 (Bu cs c)
    unfold needC
    dsimp only at this
    omega
   rw [Nat.mul_succ]
   omega
 exact k ks ([],s)
theorem Au.offN4 {C o:Addr} {H:Hp} {L:Lc} {n:Nat} {s:Ws} (w:Au C H o L n s) {b:Addr} (e:H b = none):b≠o∧b≠L.sl∧b≠L.nl∧b∉L.S:=by
 have off:=w.offN e
 obtain ⟨gvs,ho,hg,hp,hs,hn,hr,hl,nd⟩:=w
 exact ⟨λ z=>(by rw [z,ho] at e; cases e),λ z=>(by rw [z,hs] at e; cases e),λ z=>(by rw [z,hn] at e; cases e),off⟩
theorem Tt (l:Cd):((l.map kvI).map λ p=>kV p.1) = (l.map (·.1)).map V.int:=by rw [map_map,map_map]; rfl
theorem On {H:Hp} {d:Addr} {ob:Obj} {l:Cd} (h:H d = some (.frz ob (.dK (l.map kvI)))) (c:Int):Gi H d (.int c) ((l.lookup c).map V.int):=.inl ⟨_,Sum.inl c,.inr ⟨ob,h⟩,Z,(M0 _ _).symm⟩
theorem Kz {l:Cd} {k:Int} (h:k∈l.map (·.1)):∃ v,l.lookup k = some v:=by
 induction l with
 | nil=>cases h
 | cons p r ih =>
  obtain ⟨p1,p2⟩:=p
  rw [lookup_cons]
  by_cases e:k = p1
  ·subst e; exact ⟨p2,by rw [beq_self_eq_true]⟩
  ·have:(k == p1) = false:=by simpa using e
   rw [this]
   rcases mem_cons.mp h with z | z
   ·exact absurd z e
   ·exact ih z
inductive Yf (C:Addr) (vs:List V) (H:Hp) (Q:VK):Prop
 | mk (o sl d0 d1:Addr) (ob0 ob1:Obj) (c0 c1:Cd) (L:Lc) (n:Nat) (s:Ws) (_:vs = [.ref o,.ref sl]) (_:Au C H o L n s) (_:H sl = some (.lst [.ref d0,.ref d1])) (_:sl∉L.S) (_:H d0 = some (.frz ob0 (.dK (c0.map kvI)))) (_:H d1 = some (.frz ob1 (.dK (c1.map kvI)))) (_:c0.length + c1.length < 64) (_:s.gs.length + 260≤1000000) (_:∀ d ob H',KpS L.S H H'→H d = none→H' d = some (.frz ob (.dK ((s.grc c0 c1).1.map kvI)))→Au C H' o L n (s.grc c0 c1).2→Q (.ref d) H'):Yf C vs H Q
def AcO (C:Addr):Sp:=λ vs H Q _=>Yf C vs H Q
theorem U4 (F:Ba K mg "greater_codes" ["wiring", "sides"] C2) (T:B3 K mg C CP) (aA:Bf P w K mg base 2 C "every_of" ["self", "numbers"] (Fh C)) (aB:Bf P w K mg base 2 C "some_of" ["self", "numbers"] (Ft C)):Am P w K mg base 3 "greater_codes" ["wiring", "sides"] (AcO C):=by
 refine F.ok Cv (λ vs H Q E h=>?_) (λ fn cdv A outer s0 H vs Q E hr h=>?_)
 ·obtain ⟨o,sl,d0,d1,ob0,ob1,c0,c1,L,n,s,rfl,_⟩:=h; rfl
 obtain ⟨o,sl,d0,d1,ob0,ob1,c0,c1,L,n,s,rfl,W,hsl,slS,h0,h1,h64,hb,q⟩:=h
 have hu:=lt_of_le_of_lt (add_le_add_left (show 1≤64 by decide) _) hr.units
 refine ⟨_,(Ae (Bh (i:=2) Cv.nd rfl (Or.inl rfl) Je)
  (Ae (Dr PassesOwn.never rfl (Cz (Tg rfl rfl T.n_sorted rfl T.n_set (Bj Ji (F6 (Kb rfl) rfl T.n_list (by decide +kernel) (Aa (Ao Bz (pv 1) Ag (λ _ _=>rfl)) Ac)) (F6 (Kb rfl) rfl T.n_list (by decide +kernel) (Aa (Ao Bz (pv 1) Ag (λ _ _=>rfl)) Ac))))) (A3 (i:=3) Cv.nd rfl (Or.inr rfl))
   (Ae (Ff (j:=4) (g:=(B1 0)) (tc:=(tB (AcD (Bt 1) (Bt 0)))) (te:=(Qi (Bt 0) (Bt 1))) ["side"] [("code", 3)] Cv.nd rfl (Or.inl rfl) rfl (Ci (Aj C2) ["wiring", "sides", "codes", "code", "here", "needed", "side"] (by decide +kernel)) (Cz (pv 1)) (λ s2 H2 fp cl C=>A3 (i:=0) (show Nodup [("side" : Str),("code" : Str)] from by decide +kernel) rfl (Or.inl rfl)) (Bo (by decide)) (λ s2 H2 fp cl C=>F3 (Nj (Wq hu (pv 1) (pv 0)) (by rfl))) (λ s2 H2 fp cl C=>(Ml hu (pv 0) (pv 1) (λ _ _=>rfl))))
  (Ae (Bh (i:=5) Cv.nd rfl (Or.inl rfl) (A5 (Aa (Aq aB hr Al (pv 0) (Aa (pv 4) Ac)) Ac)))
  (Ae (Dr PassesOwn.never rfl (Cz (pv 1)) (A3 (i:=6) Cv.nd rfl (Or.inr rfl))
   (Ai (Bg (E1 PySem.F.plainAttrs_list PySem.F.slot_list_append PySem.F.type_list_append Ck (pv 5) (Aa (Aq aB hr Al (pv 0) (Aa (Cu (g:=(B1 0)) (tc:=(Kn (tOp (rI0 λ i j=>.bl (decide (i≤j))) (Bt 0) (Bt 2)))) (te:=(Qi (Bt 1) (Bt 0))) ["least"] [("side", 6),("code", 3)] rfl (Ci (Aj C2) ["wiring", "sides", "codes", "code", "here", "needed", "side"] (by decide +kernel)) (Abg (pv 6)) (λ s2 H2 fp cl C=>A3 (i:=0) (show Nodup [("least" : Str),("side" : Str),("code" : Str)] from by decide +kernel) rfl (Or.inl rfl)) (Bo (by decide)) (λ s2 H2 fp cl C=>F3 (As Vl (pv 0) (pv 2) (Ax _))) (λ s2 H2 fp cl C=>(Ml hu (pv 1) (pv 0) (λ _ _=>rfl)))) Ac)) Ac)))))
  (Ai (L6 hu (pv 2) (pv 3) (Aq aA hr Al (pv 0) (Aa (pv 5) Ac)) rfl))))))
  (Ai (Aw (Oj (pv 2)))))),?_⟩
 refine λ d hd=>?_
 have g1:=Ad hd (.dK [])
 have hd1:=Ab (H:=H) (a:=d) (o:=.dK [])
 have W1:=W.same g1
 refine ⟨_,Z,sl,_,_,_,Z,Z,SqL.of (g1 _ _ hsl),Ah (j:=0) rfl,d0,_,Z,.inr ⟨ob0,g1 _ _ h0⟩,λ r1 hr1=>?_⟩
 rw [Tt]
 have g2:=Ad hr1 (.lst ((c0.map (·.1)).map V.int))
 have g12:=g1.trans g2
 refine ⟨_,Z,sl,_,_,_,Z,Z,SqL.of (g12 _ _ hsl),Ah (j:=1) rfl,d1,_,Z,.inr ⟨ob1,g12 _ _ h1⟩,λ r2 hr2=>?_⟩
 rw [Tt]
 have g3:=Ad hr2 (.lst ((c1.map (·.1)).map V.int))
 have g13:=g12.trans g3
 refine ⟨r1,r2,_,_,Z,Z,g3 _ _ Ab,Ab,?_,λ r3 hr3=>?_⟩
 ·rw [length_map,length_map,length_map,length_map]
  exact le_trans (le_of_lt h64) (by decide)
 rw [← map_append]
 have g4:=Ad hr3 (.lst ((c0.map (·.1) ++ c1.map (·.1)).map V.int))
 have g14:=g13.trans g4
 refine ⟨r3,c0.map (·.1) ++ c1.map (·.1),Z,SqL.of Ab,by rw [length_append,length_map,length_map]; exact h64,λ l2 hl2=>?_⟩
 have g5:=Ad hl2 (.lst ((nub (c0.map (·.1) ++ c1.map (·.1))).map V.int))
 have g03:=g14.trans g5
 have W3:=W.same g03
 have hl23:=Ab (H:=upd (upd (upd (upd H d (.dK [])) r1 (.lst ((c0.map (·.1)).map V.int))) r2 (.lst ((c1.map (·.1)).map V.int))) r3 (.lst ((c0.map (·.1) ++ c1.map (·.1)).map V.int))) (a:=l2) (o:=.lst ((nub (c0.map (·.1) ++ c1.map (·.1))).map V.int))
 have hd3:=(((g2.trans g3).trans g4).trans g5) _ _ hd1
 have nl:=Kg (c0.map (·.1) ++ c1.map (·.1))
 rw [length_append,length_map,length_map] at nl
 have dS:d∉L.S:=W.offN hd
 have l2S:l2∉L.S:=((W.same g14)).offN hl2
 have l2d:l2≠d:=λ z=>by rw [z,((g2.trans g3).trans g4) _ _ hd1] at hl2; cases hl2
 generalize upd (upd (upd (upd (upd H d (.dK [])) r1 (.lst ((c0.map (·.1)).map V.int))) r2 (.lst ((c1.map (·.1)).map V.int))) r3 (.lst ((c0.map (·.1) ++ c1.map (·.1)).map V.int))) l2 (.lst ((nub (c0.map (·.1) ++ c1.map (·.1))).map V.int)) = H3 at W3 hl23 hd3 g03
 have nodup:(nub (c0.map (·.1) ++ c1.map (·.1))).Pairwise (· < ·):=Gu _
 have qq:=q
 unfold Ws.grc at qq
 generalize hcs:nub (c0.map (·.1) ++ c1.map (·.1)) = cs at hl23 nl nodup qq
 refine ⟨l2,Z,⟨_,SqL.of hl23⟩,F0 (K:=K) (a:=l2) (xs:=cs.map V.int) (λ i σ H'=>∃ x3 x4 x5 x6,σ = [some (.ref o),some (.ref sl),some (.ref d),x3,x4,x5,x6]∧KpS (d :: L.S) H3 H'∧H' d = some (.dK ((gfold [c0,c1] (cs.take i) s).1.map kvI))∧Au C H' o L n (gfold [c0,c1] (cs.take i) s).2) ⟨none,none,none,none,Z,KpS.refl _ _,hd3,W3⟩ (λ i σ H' _ ⟨_,_,_,_,_,k,_⟩=>SqL.of (k _ _ (λ z=>(mem_cons.mp z).elim l2d l2S) hl23)) ?_ ?_⟩
 ·rintro i x σ H4 hi ⟨x3,x4,x5,x6,rfl,k4,hd4,W4⟩
  rw [getElem?_map] at hi
  obtain ⟨c,hc,rfl⟩:∃ c,cs[i]? = some c∧x = V.int c:=by
   cases e:cs[i]? with
   | none=>rw [e] at hi; cases hi
   | some c=>rw [e] at hi; exact ⟨c,rfl,(Option.some.inj hi).symm⟩
  have hil:=(List.getElem?_eq_some_iff.mp hc).1
  have lg:=Ld [c0,c1] (cs.take i) s
  rw [length_take,show [c0,c1].length = 2 from rfl,Nat.min_eq_left (le_of_lt hil)] at lg
  have nk:∀ p∈(gfold [c0,c1] (cs.take i) s).1,¬ p.1 = c:=λ p hp z=>by
   have hm:p.1∈(gfold [c0,c1] (cs.take i) s).1.map (·.1):=mem_map_of_mem hp
   rw [Ij] at hm
   obtain ⟨m,hm2⟩:=getElem?_of_mem hm
   rw [List.getElem?_take] at hm2
   split at hm2
   ·rename_i hmi
    obtain ⟨h1,h2⟩:=(List.getElem?_eq_some_iff.mp hm2)
    obtain ⟨h3,h4⟩:=List.getElem?_eq_some_iff.mp hc
    have:=List.pairwise_iff_getElem.mp nodup m i h1 h3 hmi
    rw [h2,h4,z] at this
    exact absurd this (Int.lt_irrefl _)
   ·cases hm2
  have lk:(gfold [c0,c1] (cs.take i) s).1.length < 64:=by
   rw [← length_map (f:=(·.1)),Ij,length_take]
   omega
  have tk1:cs.take (i + 1) = cs.take i ++ [c]:=by rw [take_succ,hc]; rfl
  rw [tk1,Vt]
  generalize gfold [c0,c1] (cs.take i) s = acc at *
  have h03:=g03 _ _ h0
  have h13:=g03 _ _ h1
  have s3:=g03 _ _ hsl
  have dn:∀ {b:Addr} {u:HO},H b = some u→b≠d:=λ e=>A9 e hd
  have kk:∀ (b:Addr) (u:HO),b∉L.S→H b = some u→H4 b = some u:=λ b u hbS e=>k4 b u (λ z=>(mem_cons.mp z).elim (dn e) hbS) (g03 b u e)
  have s4:=kk _ _ slS hsl
  have f0:=kk _ _ (W.offF h0) h0
  have f1:=kk _ _ (W.offF h1) h1
  have sdA:∀ (j:Nat) (v:V),[V.ref d0,V.ref d1][j]? = some v→∃ (e:Addr) (obe:Obj) (ce:Cd),v = .ref e∧[c0,c1][j]? = some ce∧H e = some (.frz obe (.dK (ce.map kvI)))∧ce.length < 64:=by
   intro j v hv
   match j,hv with
   | 0,hv=>cases hv; exact ⟨d0,ob0,c0,rfl,rfl,h0,by omega⟩
   | 1,hv=>cases hv; exact ⟨d1,ob1,c1,rfl,rfl,h1,by omega⟩
   | (m + 2),hv=>cases hv
  refine ⟨_,Z,sl,Z,⟨_,SqL.of s4⟩,E4 (K:=K) (xs:=[V.ref d0,V.ref d1]) (λ j ys H'=>H' = H4∧ys = (Bu ([c0,c1].take j) c).map V.int) ⟨Z,Z⟩ zN2 (λ i ys H' hh=>by rw [hh.1]; exact SqL.of s4) ?_ ?_⟩
  ·rintro j x ys H' N hj ⟨rfl,rfl⟩ hN hyl
   obtain ⟨e,obe,ce,rfl,ej,he,_⟩:=sdA j x hj
   have hcj:=[c0,c1].take_succ (i:=j)
   rw [ej] at hcj
   have he4:=kk _ _ (W.offF he) he
   refine ⟨_,Z,_,Z,e,_,Z,On he4 c,_,Z,?_⟩
   cases hl:ce.lookup c with
   | none =>
    refine Aae rfl (hN _ _ (by omega) ⟨Z,?_⟩)
    rw [hcj]
    unfold Bu
    rw [filterMap_append]
    simp [hl]
   | some v =>
    have dg:=On he4 c
    rw [hl] at dg
    refine Aaf rfl ⟨_,Z,_,Z,e,.int v,Z,dg,hN _ _ (by rw [length_append,length_singleton]; omega) ⟨Z,?_⟩⟩
    rw [hcj]
    unfold Bu
    rw [filterMap_append,map_append]
    simp [hl]
  rintro ys H' hyl ⟨rfl,rfl⟩ D1 hD1
  have g5:=Ad hD1 (.lst ((Bu [c0,c1] c).map V.int))
  have W5:=W4.same g5
  obtain ⟨_,ho5,_⟩:=id W5
  refine ⟨_,Z,o,L.dx,_,Z,ho5,Z,_,Z,o,D1,Bu [c0,c1] c,L,n,_,Z,W5,Ab,by omega,λ H6 k6 W6=>⟨zN1,λ l7 h7=>?_⟩⟩
  have g7:=Ad h7 (.lst [V.int (acc.2.som (Bu [c0,c1] c)).1])
  have W7:=W6.same g7
  have l7S:=W6.offN h7
  have l7o:=W6.offN4 h7
  have k47:=((Same.kpS g5).trans k6).trans (Same.kpS g7)
  have hd7:=k47 _ _ dS hd4
  have s7:=k47 _ _ slS s4
  have dl7:d≠l7:=A9 (k6 _ _ dS (g5 _ _ hd4)) h7
  have sl7:sl≠l7:=A9 (k6 _ _ slS (g5 _ _ s4)) h7
  have ls:=Mh acc.2 (Bu [c0,c1] c)
  have hl7:=Ab (H:=H6) (a:=l7) (o:=.lst [V.int (acc.2.som (Bu [c0,c1] c)).1])
  generalize upd H6 l7 (.lst [V.int (acc.2.som (Bu [c0,c1] c)).1]) = H7 at *
  refine ⟨_,Z,sl,Z,⟨_,SqL.of s7⟩,F0 (K:=K) (a:=sl) (xs:=[V.ref d0,V.ref d1]) (λ j σ H'=>∃ x6,σ = [some (.ref o),some (.ref sl),some (.ref d),some (.int c),some (.ref D1),some (.ref l7),x6]∧KpS (l7 :: L.S) H7 H'∧H' l7 = some (.lst ((([c0,c1].take j).foldl (nstep c) ([(acc.2.som (Bu [c0,c1] c)).1],(acc.2.som (Bu [c0,c1] c)).2)).1.map V.int))∧Au C H' o L n (([c0,c1].take j).foldl (nstep c) ([(acc.2.som (Bu [c0,c1] c)).1],(acc.2.som (Bu [c0,c1] c)).2)).2) ⟨_,Z,KpS.refl _ _,hl7,W7⟩ (λ i σ H' _ ⟨_,_,k,_⟩=>SqL.of (k _ _ (λ z=>(mem_cons.mp z).elim sl7 slS) s7)) ?_ ?_⟩
  ·rintro j v σ H8 hj ⟨x6',rfl,k8,hl8,W8⟩
   obtain ⟨e,obe,ce,rfl,ej,he,lce⟩:=sdA j v hj
   have hcj:=[c0,c1].take_succ (i:=j)
   rw [ej] at hcj
   rw [hcj,foldl_append]
   have lnf:=Ry c ([c0,c1].take j) ([(acc.2.som (Bu [c0,c1] c)).1],(acc.2.som (Bu [c0,c1] c)).2)
   have l2':([c0,c1].take j).length≤2:=by rw [length_take]; exact min_le_right _ _
   generalize ([c0,c1].take j).foldl (nstep c) ([(acc.2.som (Bu [c0,c1] c)).1],(acc.2.som (Bu [c0,c1] c)).2) = m at *
   dsimp only at lnf
   rw [length_singleton] at lnf
   have he8:H8 e = some (.frz obe (.dK (ce.map kvI))):=k8 _ _ (λ z=>(mem_cons.mp z).elim (λ z=>by
    have:=k47 _ _ (W.offF he) (kk _ _ (W.offF he) he)
    rw [z,hl7] at this; cases this) (W.offF he)) (k47 _ _ (W.offF he) (kk _ _ (W.offF he) he))
   obtain ⟨_,ho8,_⟩:=id W8
   refine ⟨_,Z,.inl ⟨Z,_,SqL.of hl8⟩,_,Z,o,L.dx,_,Z,ho8,Z,_,Z,e,obe,_,Z,he8,Wd (λ j ys H'=>H' = H8∧ys = ((((ce.map (·.1)).take j).filter (λ k=>decide (k≤c))).map λ k=>(ce.lookup k).getD 0).map V.int) ⟨Z,Z⟩ (by rw [length_map]; exact le_trans (le_of_lt lce) (by decide)) (λ i ys H' hh=>by rw [hh.1]; exact he8) ?_ ?_⟩
   ·rintro t p ys H' N ht ⟨rfl,rfl⟩ hN hyl
    have htl:t < ce.length:=by have:=(List.getElem?_eq_some_iff.mp ht).1; rwa [length_map] at this
    rw [getElem?_map,getElem?_eq_getElem htl] at ht
    cases ht
    have tkt:(ce.map (·.1)).take (t + 1) = (ce.map (·.1)).take t ++ [(ce[t]).1]:=by rw [take_succ,getElem?_map,getElem?_eq_getElem htl]; rfl
    obtain ⟨v,hv⟩:=Kz (l:=ce) (k:=(ce[t]).1) (mem_map_of_mem (getElem_mem htl))
    have dg:=On he8 (ce[t]).1
    rw [hv] at dg
    refine ⟨_,Z,_,Z,_,_,Z,Z,_,Z,Ay (λ z=>?_) λ z=>?_⟩
    ·have z:=of_decide_eq_true z
     refine ⟨_,Z,_,Z,e,.int v,Z,dg,hN _ _ (by rw [length_append,length_singleton]; omega) ⟨Z,?_⟩⟩
     rw [tkt,filter_append,map_append,map_append]
     simp [z,hv]
    ·have z:¬ (ce[t]).1≤c:=λ y=>z (decide_eq_true y)
     refine hN _ _ (by omega) ⟨Z,?_⟩
     rw [tkt,filter_append,map_append,map_append]
     simp [z]
   rintro ys H' hyl ⟨rfl,rfl⟩ D2 hD2
   have eL:((((ce.map (·.1)).take (ce.map kvI).length).filter (λ k=>decide (k≤c))).map λ k=>(ce.lookup k).getD 0) = leC ce c:=by
    rw [take_of_length_le (by rw [length_map,length_map]; exact le_refl _)]
    rfl
   rw [eL]
   have g9:=Ad hD2 (.lst ((leC ce c).map V.int))
   refine ⟨o,D2,leC ce c,L,n,_,Z,W8.same g9,Ab,by omega,λ H9 k9 W9=>?_⟩
   have hl9:=k9 _ _ l7S (g9 _ _ hl8)
   refine ⟨l7,_,_,Z,Z,hl9,by rw [length_map,lnf.2]; exact lt_of_le_of_lt (by omega:_≤64) (by decide),?_⟩
   refine ⟨_,Z,?_,?_,?_⟩
   ·exact ((k8.trans (Same.kpS g9)).trans (k9.more λ b hb=>mem_cons_of_mem _ hb)).trans (KpS.upd mem_cons_self)
   ·rw [Ab]
    show _ = some (HO.lst ((m.1 ++ [(m.2.som (leC ce c)).1]).map V.int))
    rw [map_append]; rfl
   ·exact W9.keep [l7] (KpS.upd mem_cons_self) (Tp.lst hl9) λ b hb'=>by
     rw [mS hb']
     exact l7o
  ·rintro σ H8 ⟨x6',rfl,k8,hl8,W8⟩
   have ht2:[c0,c1].take [V.ref d0,V.ref d1].length = [c0,c1]:=rfl
   rw [ht2] at hl8 W8
   have lnf:=Ry c [c0,c1] ([(acc.2.som (Bu [c0,c1] c)).1],(acc.2.som (Bu [c0,c1] c)).2)
   dsimp only at lnf
   rw [length_singleton,show [c0,c1].length = 2 from rfl] at lnf
   have hl8:H8 l7 = some (.lst ((needC [c0,c1] c acc.2).1.map V.int)):=hl8
   have W8:Au C H8 o L n (needC [c0,c1] c acc.2).2:=W8
   have lnf:(needC [c0,c1] c acc.2).2.gs.length≤_∧_:=lnf
   obtain ⟨_,ho8,_⟩:=id W8
   refine ⟨_,Z,o,L.dx,_,Z,ho8,Z,_,Z,o,l7,(needC [c0,c1] c acc.2).1,L,n,_,Z,W8,hl8,by omega,λ H9 k9 W9=>?_⟩
   have hd9:=k9 _ _ dS (k8 _ _ (λ z=>(mem_cons.mp z).elim dl7 dS) hd7)
   refine ⟨_,Z,_,Z,d,_,Z,.inl ⟨_,Sum.inl c,hd9,Z,?_,Z⟩,?_⟩
   ·rw [length_map]
    exact lt_of_lt_of_le lk (by decide)
   refine ⟨_,_,_,_,Z,?_,?_,W9.atD hd9 dS _⟩
   ·intro b u nb e
    have bd:b≠d:=λ z=>nb (by rw [z]; exact mem_cons_self)
    have bS:b∉L.S:=λ z=>nb (mem_cons_of_mem _ z)
    rw [upd_ne bd]
    have e7:=k47 b u bS (k4 b u nb e)
    refine k9 b u bS (k8 b u (λ z=>(mem_cons.mp z).elim (λ z=>?_) bS) e7)
    have:=k6 b u bS (g5 b u (k4 b u nb e))
    rw [z,h7] at this
    cases this
   ·rw [Ab,← Mr,Rn nk]
    rfl
 ·rintro σ H4 ⟨x3,x4,x5,x6,rfl,k4,hd4,W4⟩
  rw [length_map,take_of_length_le (le_refl _)] at hd4 W4
  refine ⟨_,Z,d,_,Z,hd4,λ ob=>?_⟩
  refine qq d ob _ (λ b u hb e=>?_) hd Ab (W4.atD hd4 dS _)
  have bd:b≠d:=A9 e hd
  rw [upd_ne bd]
  exact k4 b u (λ z=>(mem_cons.mp z).elim bd hb) (g03 b u e)
theorem F1 (s:Ws) (ps:Cd):(s.jnd ps).2.gs.length≤s.gs.length + ps.length∧(s.jnd ps).1.length≤ps.length:=by
 have h1:=Lq ps (nub (ps.map (·.1))) s
 have h2:=Kg (ps.map (·.1))
 rw [length_map] at h2
 have h3:(s.jnd ps).1.length = (nub (ps.map (·.1))).length:=by
  unfold Ws.jnd
  rw [← length_map (f:=(·.1)),Im]
 refine ⟨?_,by omega⟩
 unfold Ws.jnd
 omega
theorem K9 (s:Ws) (ps:Cd):s.gs.length≤(s.jnd ps).2.gs.length:=by
 have k:∀ (cs:List Int) (a:Cd× Ws),a.2.gs.length≤(cs.foldl (jstep ps) a).2.gs.length:=by
  intro cs
  induction cs with
  | nil=>intro a; exact le_refl _
  | cons c cs ih=>intro a; rw [foldl_cons]; exact le_trans (show a.2.gs.length≤(jstep ps a c).2.gs.length from (L7 a.2 _).1) (ih _)
 exact k _ ([],s)
def bsS (x:Int) (s:Ws) (it:Wr× Wr):Ws:=((((s.add "not" [it.1.rests]).add "all" [it.2.rests,s.nx]).add "not" [s.nx + 1]).fil it.1.runs "all" [x,s.nx + 2]).add "all" [x,s.nx + 1]
def Ey (x:Int) (a:List Cd× Ws) (it:Wr× Wr):List Cd× Ws:=(a.1 ++ [((bsS x a.2 it).jnd (it.1.codes ++ [(0,a.2.nx + 3)])).1],((bsS x a.2 it).jnd (it.1.codes ++ [(0,a.2.nx + 3)])).2)
def Dt (x:Int) (its:List (Wr× Wr)) (s:Ws):List Cd× Ws:=its.foldl (Ey x) ([],s)
def wBes (x y z rr:Int) (r1 r2:Wr) (s:Ws):Wr× Ws :=
 let m:=Dt x [(r1,r2),(r2,r1)] s
 let g:=m.2.grc (m.1.getD 0 []) (m.1.getD 1 [])
 (⟨x,y,z,rr,g.1⟩,g.2)
theorem Vi (x:Int) (its:List (Wr× Wr)) (it:Wr× Wr) (s:Ws):Dt x (its ++ [it]) s = Ey x (Dt x its s) it:=by unfold Dt; rw [foldl_append]; rfl
theorem G8 (x:Int) (s:Ws) (it:Wr× Wr):(bsS x s it).gs.length = s.gs.length + 4:=by unfold bsS; rw [Af,A8,Af,Af,Af]
theorem Ly (x:Int) (its:List (Wr× Wr)) (s:Ws) (m:Nat) (h:∀ it∈its,it.1.codes.length≤m):(Dt x its s).2.gs.length≤s.gs.length + its.length * (m + 5)∧s.gs.length≤(Dt x its s).2.gs.length:=by
 have k:∀ (its:List (Wr× Wr)) (a:List Cd× Ws),(∀ it∈its,it.1.codes.length≤m)→(its.foldl (Ey x) a).2.gs.length≤a.2.gs.length + its.length * (m + 5)∧a.2.gs.length≤(its.foldl (Ey x) a).2.gs.length:=by
  intro its
  induction its with
  | nil=>intro a _; exact ⟨by simp,le_refl _⟩
  | cons it r ih =>
   intro a hm
   rw [foldl_cons,length_cons]
   obtain ⟨i1,i2⟩:=ih (Ey x a it) λ j hj=>hm j (mem_cons_of_mem _ hj)
   have h1:=hm it mem_cons_self
   have h2:=(F1 (bsS x a.2 it) (it.1.codes ++ [(0,a.2.nx + 3)])).1
   have h3:=K9 (bsS x a.2 it) (it.1.codes ++ [(0,a.2.nx + 3)])
   rw [length_append,length_singleton] at h2
   rw [G8] at h2 h3
   have h4:(Ey x a it).2 = ((bsS x a.2 it).jnd (it.1.codes ++ [(0,a.2.nx + 3)])).2:=rfl
   rw [h4] at i1 i2
   rw [Nat.succ_mul]
   omega
 exact k its ([],s) h
def Z2 (H:Hp) (c:Cd) (v:V):Prop:=∃ d ob,v = .ref d∧H d = some (.frz ob (.dK (c.map kvI)))
inductive R9 (C CP:Addr) (vs:List V) (H:Hp) (Q:VK):Prop
 | mk (o a dx f g:Addr) (x y z rr:Int) (cv:V) (r1 r2:Wr) (L:Lc) (n:Nat) (s:Ws) (_:vs = [.ref o,.ref a,.ref f,.ref g]) (_:Au C H o L n s) (_:H a = some (.ins CP dx (wdV x y z (.int rr) cv))) (_:B2 CP H f r1) (_:B2 CP H g r2) (_:Rng s r1.runs) (_:Rng s r2.runs) (_:r1.codes.length≤20) (_:r2.codes.length≤20) (_:s.gs.length + 500≤1000000) (_:Jj C CP o a L n Q H (wBes x y z rr r1 r2 s)):R9 C CP vs H Q
def Wb (C CP:Addr):Sp:=λ vs H Q _=>R9 C CP vs H Q
theorem AbO (F:Ba K mg "wire_beside" ["wiring", "whole", "first", "second"] Fz) (T:B3 K mg C CP) (aD:Bf P w K mg base 1 C "fill" ["self", "number", "word", "numbers"] (Gk C)) (aE:Bf P w K mg base 2 C "opposite" ["self", "number"] (Kx C)) (aA:Bf P w K mg base 2 C "every_of" ["self", "numbers"] (Fh C)) (aK:Bf P w K mg base 3 C "joined" ["self", "pairs"] (Hn C)) (bG:Am P w K mg base 3 "greater_codes" ["wiring", "sides"] (AcO C)):Am P w K mg base 4 "wire_beside" ["wiring", "whole", "first", "second"] (Wb C CP):=by
 refine F.ok Dg (λ vs H Q E h=>?_) (λ fn cdv A outer s0 H vs Q E hr h=>?_)
 ·obtain ⟨o,a,dx,f,g,x,y,z,rr,cv,r1,r2,L,n,s,rfl,_⟩:=h; rfl
 obtain ⟨o,a,dx,f,g,x,y,z,rr,cv,r1,r2,L,n,s,rfl,W,ha,D1,D2,b1,b2,cl1,cl2,hb,q⟩:=h
 obtain ⟨uE,hE,rE⟩:=T.gE
 obtain ⟨ao,aS⟩:=W.objOff ha
 have sub:∀ b∈L.S,b∈a :: L.S:=λ b h=>mem_cons_of_mem _ h
 refine ⟨_,(Ae (Bh (i:=4) Dg.nd rfl (Or.inl rfl) (A5 Ac))
  (Ae (Dr PassesOwn.never rfl (Gf (Be (Aa (Be (Aa (pv 2) (Aa (pv 3) Ac))) (Aa (Be (Aa (pv 3) (Aa (pv 2) Ac))) Ac)))) (Fs rfl (B0 (A3 (i:=5) Dg.nd rfl (Or.inl rfl)) (B0 (A3 (i:=6) Dg.nd rfl (Or.inl rfl)) Ep)))
   (Ae (Bh (i:=7) Dg.nd rfl (Or.inl rfl) (Aq aA hr Al (pv 0) (Aa (A5 (Aa (Ar (pv 6) rfl) (Aa (Aq aE hr Al (pv 0) (Aa (Ar (pv 5) rfl) Ac)) Ac))) Ac)))
  (Ae (Bg (Aq aD hr Al (pv 0) (Aa (Ar (pv 5) rfl) (Aa An (Aa (A5 (Aa (Ar (pv 1) rfl) (Aa (Aq aE hr Al (pv 0) (Aa (pv 7) Ac)) Ac))) Ac)))))
  (Ae (Bh (i:=8) Dg.nd rfl (Or.inl rfl) (Be (Aa (Cb rfl hE rE) (Aa (Aq aA hr Al (pv 0) (Aa (A5 (Aa (Ar (pv 1) rfl) (Aa (pv 7) Ac))) Ac)) Ac))))
  (Ai (Bg (E1 PySem.F.plainAttrs_list PySem.F.slot_list_append PySem.F.type_list_append Ck (pv 4) (Aa (Aq aK hr Al (pv 0) (Aa (Bj Ji (Hr rfl rfl T.n_list (Ar (pv 5) rfl)) (A5 (Aa (pv 8) Ac))) Ac)) Ac))))))))
  (Ai (Cc (pv 1) (Av bG hr rfl Al (Aa (pv 0) (Aa (pv 4) Ac))) rfl)))),?_⟩
 obtain ⟨fx,d1,o1,hf,hd1⟩:=id D1
 obtain ⟨gx,d2,o2,hg,hd2⟩:=id D2
 have fS:=(W.objOff hf).2
 have gS:=(W.objOff hg).2
 refine ⟨zN0,λ ls hls=>?_⟩
 have gl:=Ad hls (.lst [])
 have lsO:=W.offN4 hls
 refine ⟨_,Z,_,Z,zN2,λ t1 ht1=>⟨_,Z,_,Z,zN2,λ t2 ht2=>⟨zN2,λ t3 ht3=>?_⟩⟩⟩
 have gt1:=Ad ht1 (.tup [V.ref f,.ref g])
 have gt2:=Ad ht2 (.tup [V.ref g,.ref f])
 have gt3:=Ad ht3 (.tup [V.ref t1,V.ref t2])
 have g4:=((gl.trans gt1).trans gt2).trans gt3
 have W4:=W.same g4
 have et1:=(gt2.trans gt3) _ _ (Ab (H:=upd H ls (.lst [])) (a:=t1) (o:=.tup [V.ref f,.ref g]))
 have et2:=gt3 _ _ (Ab (H:=upd (upd H ls (.lst [])) t1 (.tup [V.ref f,.ref g])) (a:=t2) (o:=.tup [V.ref g,.ref f]))
 have els:=((gt1.trans gt2).trans gt3) _ _ (Ab (H:=H) (a:=ls) (o:=.lst []))
 generalize eH4:upd (upd (upd (upd H ls (.lst [])) t1 (.tup [V.ref f,.ref g])) t2 (.tup [V.ref g,.ref f])) t3 (.tup [V.ref t1,V.ref t2]) = H4 at *
 have et3:H4 t3 = some (.tup [V.ref t1,V.ref t2]):=by rw [← eH4]; exact Ab
 have tp4:∀ {H':Hp},KpS (ls :: L.S) H4 H'→Tp H4 H':=λ k b xs e=>k b _ (λ z=>by
  rcases mem_cons.mp z with z | z
  ·rw [z,els] at e; cases e
  ·exact W4.off e (λ _ z=>nomatch z) (λ _ z=>nomatch z) z) e
 refine ⟨t3,Z,⟨_,SqT.of et3⟩,Iv (K:=K) (a:=t3) (xs:=[V.ref t1,V.ref t2]) (λ i σ H'=>∃ x5 x6 x7 x8 svs,σ = [some (.ref o),some (.ref a),some (.ref f),some (.ref g),some (.ref ls),x5,x6,x7,x8]∧KpS (ls :: L.S) H4 H'∧H' ls = some (.lst svs)∧PySem.Paired (Z2 H') (Dt x ([(r1,r2),(r2,r1)].take i) s).1 svs∧Au C H' o L n (Dt x ([(r1,r2),(r2,r1)].take i) s).2) ⟨none,none,none,none,[],Z,KpS.refl _ _,els,.nil,W4⟩ ?_ ?_ ?_⟩
 ·rintro i σ H' _ ⟨_,_,_,_,_,_,k,_⟩
  exact SqT.of (tp4 k _ _ et3)
 ·rintro i v σ H5 hi ⟨x5,x6,x7,x8,svs,rfl,k5,hl5,hp5,W5⟩
  obtain ⟨b,bx,db,e,ex,de,ob,rb,re,t,rfl,e2,hbo,hdb,heo,rg,ei,lb⟩:∃ (b bx db e ex de:Addr) (ob:Obj) (rb re:Wr) (t:Addr),v = .ref t∧H4 t = some (.tup [V.ref b,.ref e])∧H b = some (.ins CP bx (wdV rb.runs rb.kept rb.stays (.int rb.rests) (.ref db)))∧H db = some (.frz ob (.dK (rb.codes.map kvI)))∧H e = some (.ins CP ex (wdV re.runs re.kept re.stays (.int re.rests) (.ref de)))∧Rng s rb.runs∧[(r1,r2),(r2,r1)][i]? = some (rb,re)∧rb.codes.length≤20:=by
   match i,hi with
   | 0,hi=>cases hi; exact ⟨f,fx,d1,g,gx,d2,o1,r1,r2,t1,rfl,et1,hf,hd1,hg,b1,rfl,cl1⟩
   | 1,hi=>cases hi; exact ⟨g,gx,d2,f,fx,d1,o2,r2,r1,t2,rfl,et2,hg,hd2,hf,b2,rfl,cl2⟩
   | (j + 2),hi=>cases hi
  have tk:[(r1,r2),(r2,r1)].take (i + 1) = [(r1,r2),(r2,r1)].take i ++ [(rb,re)]:=by rw [take_succ,ei]; rfl
  have ln:=Ly x ([(r1,r2),(r2,r1)].take i) s 20 (λ it hit=>by
   have:=List.mem_of_mem_take hit
   simp at this
   rcases this with z | z <;> rw [z]
   ·exact cl1
   ·exact cl2)
  have l2:([(r1,r2),(r2,r1)].take i).length≤2:=by rw [length_take]; exact min_le_right _ _
  have l3:([(r1,r2),(r2,r1)].take i).length * (20 + 5)≤50:=by omega
  have pl5:=PySem.Paired.length hp5
  have pb5:(Dt x ([(r1,r2),(r2,r1)].take i) s).1.length≤2:=by
   have:∀ (its:List (Wr× Wr)) (a:List Cd× Ws),(its.foldl (Ey x) a).1.length = a.1.length + its.length:=by
    intro its
    induction its with
    | nil=>intro a; rfl
    | cons it r ih=>intro a; rw [foldl_cons,ih,length_cons]; unfold Ey; rw [length_append,length_singleton]; omega
   have h:=this ([(r1,r2),(r2,r1)].take i) ([],s)
   unfold Dt
   rw [h]
   simpa using l2
  rw [tk,Vi]
  generalize Dt x ([(r1,r2),(r2,r1)].take i) s = acc at *
  have kk:∀ (c:Addr) (u:HO),c∉L.S→H c = some u→H5 c = some u:=λ c u hc h=>k5 c u (λ z=>(mem_cons.mp z).elim (A9 h hls) hc) (g4 c u h)
  have bS:=(W.objOff hbo).2
  have eS:=(W.objOff heo).2
  have dbS:=W.offF hdb
  have ha5:=kk _ _ aS ha
  have hb5:=kk _ _ bS hbo
  have he5:=kk _ _ eS heo
  have hdb5:=kk _ _ dbS hdb
  obtain ⟨_,ho5,_⟩:=id W5
  refine ⟨t,_,Z,SqT.of (tp4 k5 _ _ e2),Z,_,_,Z,_,_,Z,Z,_,Z,o,L.dx,_,Z,ho5,Z,_,Z,e,CP,ex,_,.int re.rests,Z,he5,T.clP,T.nE,Z,_,Z,o,L.dx,_,Z,ho5,Z,_,Z,b,CP,bx,_,.int rb.rests,Z,hb5,T.clP,T.nE,Z,?_⟩
  refine ⟨o,_,L,n,_,Z,W5,by omega,λ H6 k6 W6=>⟨zN2,λ l6 h6=>?_⟩⟩
  have g6:=Ad h6 (.lst [V.int re.rests,.int acc.2.nx])
  refine ⟨o,l6,[re.rests,acc.2.nx],L,n,_,Z,W6.same g6,Ab,by rw [Af]; omega,λ H7 k7 W7=>?_⟩
  have k7:=(k6.trans (Same.kpS g6)).trans k7
  obtain ⟨_,ho7,_⟩:=id W7
  refine ⟨_,Z,o,L.dx,_,Z,ho7,Z,_,Z,b,CP,bx,_,.int rb.runs,Z,k7 _ _ bS hb5,T.clP,T.nR,Z,_,Z,a,CP,dx,_,.int x,Z,k7 _ _ aS ha5,T.clP,T.nR,Z,_,Z,o,L.dx,_,Z,ho7,Z,_,Z,o,_,L,n,_,Z,W7,by rw [Af,Af]; omega,λ H8 k8 W8=>⟨zN2,λ l8 h8=>?_⟩⟩
  have n1:(acc.2.add "not" [rb.rests]).nx = acc.2.nx + 1:=Az _ _ _
  have n2:((acc.2.add "not" [rb.rests]).add "all" [re.rests,acc.2.nx]).nx = acc.2.nx + 2:=by rw [Az,Az]; omega
  rw [n1] at W8
  rw [n2]
  have g8:=Ad h8 (.lst [V.int x,.int (acc.2.nx + 2)])
  refine ⟨o,l8,rb.runs, "all", [x,acc.2.nx + 2],L,n,_,Z,W8.same g8,Ab,rg.1,?_,λ H9 k9 W9=>?_⟩
  ·rw [Az,n2]
   have:=rg.2
   unfold Ws.nx at this ⊢
   omega
  have k9:=((k7.trans k8).trans (Same.kpS g8)).trans k9
  obtain ⟨_,ho9,_⟩:=id W9
  refine ⟨_,Z,o,L.dx,_,Z,ho9,Z,_,Z,a,CP,dx,_,.int x,Z,k9 _ _ aS ha5,T.clP,T.nR,Z,_,Z,zN2,λ la ha'=>?_⟩
  rw [n1]
  have ga:=Ad ha' (.lst [V.int x,.int (acc.2.nx + 1)])
  refine ⟨o,la,[x,acc.2.nx + 1],L,n,_,Z,W9.same ga,Ab,by rw [A8,Af,Af,Af]; omega,λ HA kA WA=>⟨zN2,λ tA htA=>?_⟩⟩
  have n3:((((acc.2.add "not" [rb.rests]).add "all" [re.rests,acc.2.nx]).add "not" [acc.2.nx + 1]).fil rb.runs "all" [x,acc.2.nx + 2]).nx = acc.2.nx + 3:=by rw [Fa,Az,Az,Az]; omega
  rw [n3]
  have WA:Au C HA o L n (bsS x acc.2 (rb,re)):=WA
  have gA:=Ad htA (.tup [V.int 0,.int (acc.2.nx + 3)])
  have kA:=((k9.trans (Same.kpS ga)).trans kA).trans (Same.kpS gA)
  have WA:=WA.same gA
  have etA:=Ab (H:=HA) (a:=tA) (o:=.tup [V.int 0,.int (acc.2.nx + 3)])
  generalize upd HA tA (.tup [V.int 0,.int (acc.2.nx + 3)]) = HB at *
  have lsS:=lsO.2.2.2
  have hlB:=kA _ _ lsS hl5
  obtain ⟨_,hoB,_⟩:=id WA
  refine ⟨_,Z,.inl ⟨Z,_,SqL.of hlB⟩,_,Z,o,L.dx,_,Z,hoB,Z,_,Z,b,CP,bx,_,.ref db,Z,kA _ _ bS hb5,T.clP,T.nC,Z,db,_,Z,.inr ⟨ob,kA _ _ dbS hdb5⟩,λ lC ts HC qC=>⟨_,Z,zN1,λ lD hD=>?_⟩⟩
  have pC:=J4 qC
  obtain ⟨gC,flC,elC,leC,_⟩:=qC
  have gC:Same _ HC:=gC
  have gD:=Ad hD (.lst [V.ref tA])
  rw [length_map] at leC
  refine ⟨lC,lD,_,_,Z,Z,gD _ _ elC,Ab,by rw [length_map,length_singleton]; exact le_trans (by omega:_≤64) (by decide),λ lE hE'=>?_⟩
  have gE:=Ad hE' (.lst (ts.map V.ref ++ [V.ref tA]))
  have gCE:=(gC.trans gD).trans gE
  have WE:=WA.same gCE
  have pE:PySem.Paired (G7 (upd (upd HC lD (.lst [V.ref tA])) lE (.lst (ts.map V.ref ++ [V.ref tA])))) (rb.codes ++ [(0,acc.2.nx + 3)]) (ts.map V.ref ++ [V.ref tA]):=Co (Paired.mapP pC λ _ _ a=>a.mono (gD.trans gE).tp) (.cons ⟨tA,Z,gCE _ _ etA⟩ .nil)
  refine ⟨o,lE,_,_,L,n,_,Z,WE,Ab,(WA.same (gC.trans gD)).offN hE',pE,by rw [length_append,length_singleton]; omega,by rw [G8]; omega,λ dF oF HF kF nF eF WF=>?_⟩
  have kF:=(kA.trans (Same.kpS gCE)).trans kF
  have hlF:=kF _ _ lsS hl5
  refine ⟨ls,_,_,Z,Z,hlF,by rw [← pl5]; exact lt_of_le_of_lt pb5 (by decide),?_⟩
  refine ⟨_,_,_,_,_,Z,?_,Ab,?_,?_⟩
  ·exact (k5.trans (kF.more λ b hb=>mem_cons_of_mem _ hb)).trans (KpS.upd mem_cons_self)
  ·have fz:∀ (c:Cd) (v:V),Z2 H5 c v→Z2 (upd HF ls (.lst (svs ++ [V.ref dF]))) c v:=by
    rintro c v ⟨d,od,rfl,h⟩
    refine ⟨d,od,Z,?_⟩
    have:=kF _ _ (W5.offF h) h
    rw [upd_ne (Bl this hlF (by intro z; cases z))]
    exact this
   refine Co (Paired.mapP hp5 fz) (.cons ⟨dF,oF,Z,?_⟩ .nil)
   rw [upd_ne (Bl eF hlF (by intro z; cases z))]
   exact eF
  ·exact WF.keep [ls] (KpS.upd mem_cons_self) (Tp.lst hlF) λ b hb'=>by rw [mS hb']; exact lsO
 ·rintro σ H5 ⟨x5,x6,x7,x8,svs,rfl,k5,hl5,hp5,W5⟩
  have ht2:[(r1,r2),(r2,r1)].take [V.ref t1,V.ref t2].length = [(r1,r2),(r2,r1)]:=rfl
  rw [ht2] at hp5 W5
  have kk:∀ (c:Addr) (u:HO),c∉L.S→H c = some u→H5 c = some u:=λ c u hc h=>k5 c u (λ z=>(mem_cons.mp z).elim (A9 h hls) hc) (g4 c u h)
  have ln:=(Ly x [(r1,r2),(r2,r1)] s 20 (λ it hit=>by
   simp at hit
   rcases hit with z | z <;> rw [z]
   ·exact cl1
   ·exact cl2)).1
  obtain ⟨c0,c1,ec,h0,h1⟩:∃ c0 c1,(Dt x [(r1,r2),(r2,r1)] s).1 = [c0,c1]∧c0.length≤21∧c1.length≤21:=by
   refine ⟨_,_,Z,?_,?_⟩
   ·refine le_trans (F1 _ _).2 ?_
    rw [length_append,length_singleton]
    show r1.codes.length + 1≤21
    omega
   ·refine le_trans (F1 _ _).2 ?_
    rw [length_append,length_singleton]
    show r2.codes.length + 1≤21
    omega
  have qq:=q
  unfold wBes at qq
  dsimp only at qq
  rw [ec] at qq hp5
  generalize (Dt x [(r1,r2),(r2,r1)] s).2 = sB at *
  cases hp5 with
  | cons p0 r0 =>
  cases r0 with
  | cons p1 r1' =>
  cases r1'
  obtain ⟨e0,f0,rfl,q0⟩:=p0
  obtain ⟨e1,f1,rfl,q1⟩:=p1
  refine ⟨_,Z,_,Z,o,ls,e0,e1,f0,f1,c0,c1,L,n,sB,Z,W5,hl5,lsO.2.2.2,q0,q1,by omega,by simp at ln; omega,λ d ob HA kA dA eA WA=>?_⟩
  have haA:=kA _ _ aS (kk _ _ aS ha)
  refine ⟨_,Z,a,CP,dx,_,Z,haA,T.clP,T.nC,(by show 5 < 1000; decide),?_⟩
  have ad:a≠d:=Bl haA eA (by intro z; cases z)
  refine qq _ (λ b u nb e=>?_) (WA.setA haA _) ⟨dx,d,ob,Ab,by rw [upd_ne (Ne.symm ad)]; exact eA⟩
  have ba:b≠a:=λ z=>nb (by rw [z]; exact mem_cons_self)
  have bS:b∉L.S:=λ z=>nb (mem_cons_of_mem _ z)
  rw [upd_ne ba]
  exact kA b u bS (kk b u bS e)
theorem Xt (x y z rr:Int) (r1 r2:Wr) (s:Ws) (h:r1.codes.length + r2.codes.length≤40):s.gs.length≤(wThen x y z rr r1 r2 s).2.gs.length∧(wThen x y z rr r1 r2 s).2.gs.length≤s.gs.length + 43:=by
 unfold wThen
 dsimp only
 have h1:=De r1.codes 0 (((s.add "all" [x,r2.rests]).add "not" [r2.rests]).fil r1.runs "all" [x,s.nx + 1])
 rw [A8,Af,Af] at h1
 have h2:=(F1 ((cgt r1.codes 0 (((s.add "all" [x,r2.rests]).add "not" [r2.rests]).fil r1.runs "all" [x,s.nx + 1])).2.fil r2.runs "some" [s.nx,(cgt r1.codes 0 (((s.add "all" [x,r2.rests]).add "not" [r2.rests]).fil r1.runs "all" [x,s.nx + 1])).1]) (r1.codes.filter (λ p=>!decide (p.1 = 0)) ++ r2.codes)).1
 have h3:=K9 ((cgt r1.codes 0 (((s.add "all" [x,r2.rests]).add "not" [r2.rests]).fil r1.runs "all" [x,s.nx + 1])).2.fil r2.runs "some" [s.nx,(cgt r1.codes 0 (((s.add "all" [x,r2.rests]).add "not" [r2.rests]).fil r1.runs "all" [x,s.nx + 1])).1]) (r1.codes.filter (λ p=>!decide (p.1 = 0)) ++ r2.codes)
 have h4:=length_filter_le (λ p:Int× Int=>!decide (p.1 = 0)) r1.codes
 rw [A8] at h2 h3
 rw [length_append] at h2
 omega
theorem Abn (x y z rr sg:Int) (r1 r2:Wr) (s:Ws) (h:r1.codes.length + r2.codes.length≤40):s.gs.length≤(wIf x y z rr sg r1 r2 s).2.gs.length∧(wIf x y z rr sg r1 r2 s).2.gs.length≤s.gs.length + 47:=by
 unfold wIf
 dsimp only
 have h1:=Ov x (s.nx + 1) [(r1,sg),(r2,s.nx + 2)] (((s.add "not" [rr]).add "all" [x,s.nx]).add "not" [sg])
 rw [Af,Af,Af,show [(r1,sg),(r2,s.nx + 2)].length = 2 from rfl] at h1
 have h2:=(F1 ([(r1,sg),(r2,s.nx + 2)].foldl (Cg x (s.nx + 1)) (((s.add "not" [rr]).add "all" [x,s.nx]).add "not" [sg])) (r1.codes ++ r2.codes)).1
 have h3:=K9 ([(r1,sg),(r2,s.nx + 2)].foldl (Cg x (s.nx + 1)) (((s.add "not" [rr]).add "all" [x,s.nx]).add "not" [sg])) (r1.codes ++ r2.codes)
 rw [length_append] at h2
 omega
theorem AaY (cs:List Cd) (ks:List Int) (s:Ws):s.gs.length≤(gfold cs ks s).2.gs.length:=by
 have nf:∀ (c:Int) (l:List Cd) (a:List Int× Ws),a.2.gs.length≤(l.foldl (nstep c) a).2.gs.length:=by
  intro c l
  induction l with
  | nil=>intro a; exact le_refl _
  | cons d r ih=>intro a; rw [foldl_cons]; exact le_trans (show a.2.gs.length≤(nstep c a d).2.gs.length from (L7 a.2 _).1) (ih _)
 have k:∀ (ks:List Int) (a:Cd× Ws),a.2.gs.length≤(ks.foldl (gstep cs) a).2.gs.length:=by
  intro ks
  induction ks with
  | nil=>intro a; exact le_refl _
  | cons c ks ih =>
   intro a
   rw [foldl_cons]
   refine le_trans ?_ (ih _)
   unfold gstep
   dsimp only
   rw [Af]
   have h1:=(L7 a.2 (Bu cs c)).1
   have h2:=nf c cs ([(a.2.som (Bu cs c)).1],(a.2.som (Bu cs c)).2)
   unfold needC
   dsimp only at h2
   omega
 exact k ks ([],s)
theorem Uf (s:Ws) (c0 c1:Cd):s.gs.length≤(s.grc c0 c1).2.gs.length∧(s.grc c0 c1).2.gs.length≤s.gs.length + 4 * (c0.length + c1.length)∧(s.grc c0 c1).1.length≤c0.length + c1.length:=by
 have h1:=Ld [c0,c1] (nub (c0.map (·.1) ++ c1.map (·.1))) s
 have h2:=Kg (c0.map (·.1) ++ c1.map (·.1))
 rw [length_append,length_map,length_map] at h2
 rw [show [c0,c1].length = 2 from rfl] at h1
 have h3:(s.grc c0 c1).1.length = (nub (c0.map (·.1) ++ c1.map (·.1))).length:=by
  unfold Ws.grc
  rw [← length_map (f:=(·.1)),Ij]
 refine ⟨AaY _ _ _,?_,by omega⟩
 unfold Ws.grc
 omega
theorem Zx (x y z rr:Int) (r1 r2:Wr) (s:Ws) (h1:r1.codes.length≤20) (h2:r2.codes.length≤20):s.gs.length≤(wBes x y z rr r1 r2 s).2.gs.length∧(wBes x y z rr r1 r2 s).2.gs.length≤s.gs.length + 218:=by
 have ln:=Ly x [(r1,r2),(r2,r1)] s 20 (λ it hit=>by
  simp at hit
  rcases hit with z | z <;> rw [z]
  ·exact h1
  ·exact h2)
 obtain ⟨c0,c1,ec,g0,g1⟩:∃ c0 c1,(Dt x [(r1,r2),(r2,r1)] s).1 = [c0,c1]∧c0.length≤21∧c1.length≤21:=by
  refine ⟨_,_,Z,?_,?_⟩
  ·refine le_trans (F1 _ _).2 ?_
   rw [length_append,length_singleton]
   show r1.codes.length + 1≤21
   omega
  ·refine le_trans (F1 _ _).2 ?_
   rw [length_append,length_singleton]
   show r2.codes.length + 1≤21
   omega
 unfold wBes
 dsimp only
 rw [ec]
 have h3:=Uf (Dt x [(r1,r2),(r2,r1)] s).2 c0 c1
 simp at ln
 show _≤((Dt x [(r1,r2),(r2,r1)] s).2.grc c0 c1).2.gs.length∧((Dt x [(r1,r2),(r2,r1)] s).2.grc c0 c1).2.gs.length≤_
 omega
def pfS (kept:List Int) (z:Int) (s:Ws) (r:Wr):Ws:=(s.fil r.kept "all" kept).fil r.stays "some" [z]
theorem Lu (kept:List Int) (z:Int) (rs:List Wr) (s:Ws):(rs.foldl (pfS kept z) s).gs.length = s.gs.length:=by
 induction rs generalizing s with
 | nil=>rfl
 | cons r rs ih=>rw [foldl_cons,ih]; unfold pfS; rw [A8,A8]
def Hs (p:Pt) (x y z:Int) (r1 r2:Wr) (s:Ws):Wr× Ws× List Int :=
 match p with
 | .thn _ _=>((wThen x y z s.nx r1 r2 (s.add "some" [r1.rests,r2.rests])).1,(wThen x y z s.nx r1 r2 (s.add "some" [r1.rests,r2.rests])).2,[y])
 | .iff i _ _=>((wIf x y z s.nx i r1 r2 (s.add "some" [r1.rests,r2.rests])).1,(wIf x y z s.nx i r1 r2 (s.add "some" [r1.rests,r2.rests])).2,[y])
 | _=>((wBes x y z s.nx r1 r2 (s.add "some" [r1.rests,r2.rests])).1,(cgt (wBes x y z s.nx r1 r2 (s.add "some" [r1.rests,r2.rests])).1.codes 1 (wBes x y z s.nx r1 r2 (s.add "some" [r1.rests,r2.rests])).2).2,[y,(cgt (wBes x y z s.nx r1 r2 (s.add "some" [r1.rests,r2.rests])).1.codes 1 (wBes x y z s.nx r1 r2 (s.add "some" [r1.rests,r2.rests])).2).1])
def Eb (p:Pt) (x y z:Int) (r1 r2:Wr) (s:Ws):Wr× Ws:=((Hs p x y z r1 r2 s).1,[r1,r2].foldl (pfS (Hs p x y z r1 r2 s).2.2 z) (Hs p x y z r1 r2 s).2.1)
def Ko (m:Nat):Pt→Prop
 | .iff i _ _=>0≤i∧i < m
 | .hold i _=>0≤i∧i < m
 | .watch i _=>0≤i∧i < m
 | _=>True
def Gz (s:Ws) (r:Wr):Prop:=Rng s r.runs∧Rng s r.kept∧Rng s r.stays
inductive Pq (K:PySem.W.Frag) (C CP:Addr) (vs:List V) (H:Hp) (Q:VK):Prop
 | mk (o a dx f g:Addr) (v:V) (p:Pt) (x y z:Int) (cv:V) (r1 r2:Wr) (L:Lc) (n:Nat) (s:Ws) (_:vs = [.ref o,v,.ref a,.ref f,.ref g]) (_:Au C H o L n s) (_:PAt K H p.nd v) (_:Acq p = true) (_:Ko n p) (_:H a = some (.ins CP dx (wdV x y z .non cv))) (_:B2 CP H f r1) (_:B2 CP H g r2) (_:Gz s r1) (_:Gz s r2) (_:r1.codes.length≤20) (_:r2.codes.length≤20) (_:s.gs.length + 600≤1000000) (_:Jj C CP o a L n Q H (Eb p x y z r1 r2 s)):Pq K C CP vs H Q
def O8 (K:PySem.W.Frag) (C CP:Addr):Sp:=λ vs H Q _=>Pq K C CP vs H Q
theorem Zi (F:Ba K mg "wire_pair" ["wiring", "part", "whole", "first", "second"] Hf) (T:B3 K mg C CP) (aD:Bf P w K mg base 1 C "fill" ["self", "number", "word", "numbers"] (Gk C)) (aB:Bf P w K mg base 2 C "some_of" ["self", "numbers"] (Ft C)) (aJ:Am P w K mg base 3 "code_gate" ["wiring", "whole", "code"] (Rw C CP)) (cU:Am P w K mg base 4 "wire_then" ["wiring", "whole", "first", "second"] (Ts C CP)) (eJ:Am P w K mg base 4 "wire_if" ["wiring", "sign", "whole", "first", "second"] (Aah C CP)) (cD:Am P w K mg base 4 "wire_beside" ["wiring", "whole", "first", "second"] (Wb C CP)):Am P w K mg base 5 "wire_pair" ["wiring", "part", "whole", "first", "second"] (O8 K C CP):=by
 refine F.ok Jc (λ vs H Q E h=>?_) (λ fn cdv A outer s0 H vs Q E hr h=>?_)
 ·obtain ⟨o,a,dx,f,g,v,p,x,y,z,cv,r1,r2,L,n,s,rfl,_⟩:=h; rfl
 obtain ⟨o,a,dx,f,g,v,p,x,y,z,cv,r1,r2,L,n,s,rfl,W,hp,pr,sg,ha,D1,D2,b1,b2,cl1,cl2,hb,q⟩:=h
 obtain ⟨uE,hE,rE⟩:=T.gE
 obtain ⟨uR,hR,rR⟩:=T.gR
 obtain ⟨ao,aS⟩:=W.objOff ha
 have sub:∀ b∈L.S,b∈a :: L.S:=λ b h=>mem_cons_of_mem _ h
 refine ⟨_,(Ae (Cc (pv 2) (Aq aB hr Al (pv 0) (Aa (A5 (Aa (Ar (pv 3) rfl) (Aa (Ar (pv 4) rfl) Ac))) Ac)) rfl)
  (Ae (Bh (i:=5) Jc.nd rfl (Or.inl rfl) (A5 (Aa (Ar (pv 2) rfl) Ac)))
  (Ae (Bn (As Bm (Ao Ap (pv 1) Ag (λ _ _=>rfl)) An (Ax _))
   (Ai (Bg (Av cU hr rfl Al (Aa (pv 0) (Aa (pv 2) (Aa (pv 3) (Aa (pv 4) Ac)))))))
   (Ai (Bn (As Bm (Ao Ap (pv 1) Ag (λ _ _=>rfl)) An (Ax _))
   (Ai (Bg (Av eJ hr rfl Al (Aa (pv 0) (Aa (Ao Bz (Ar (pv 0) rfl) (Ao Ap (pv 1) Ag (λ _ _=>rfl)) (λ _ _=>rfl)) (Aa (pv 2) (Aa (pv 3) (Aa (pv 4) Ac))))))))
   (Ae (Bg (Av cD hr rfl Al (Aa (pv 0) (Aa (pv 2) (Aa (pv 3) (Aa (pv 4) Ac))))))
  (Ai (Bg (E1 PySem.F.plainAttrs_list PySem.F.slot_list_append PySem.F.type_list_append Ck (pv 5) (Aa (Av aJ hr rfl Al (Aa (pv 0) (Aa (pv 2) (Aa (Cb rfl hR rR) Ac)))) Ac))))))))
  (Ai (Dr PassesOwn.never rfl (Gf (Be (Aa (pv 3) (Aa (pv 4) Ac)))) (A3 (i:=6) Jc.nd rfl (Or.inl rfl))
   (Ae (Bg (Aq aD hr Al (pv 0) (Aa (Ar (pv 6) rfl) (Aa An (Aa (pv 5) Ac)))))
  (Ai (Bg (Aq aD hr Al (pv 0) (Aa (Ar (pv 6) rfl) (Aa An (Aa (A5 (Aa (Ar (pv 2) rfl) Ac)) Ac)))))))))))),?_⟩
 obtain ⟨fx,d1,o1,hf,hd1⟩:=id D1
 obtain ⟨gx,d2,o2,hg,hd2⟩:=id D2
 have fS:=(W.objOff hf).2
 have gS:=(W.objOff hg).2
 have fa:f≠a:=Bl hf ha (by intro z; have:=(HO.ins.inj z).2.2; unfold wdV at this; simp at this)
 have ga:g≠a:=Bl hg ha (by intro z; have:=(HO.ins.inj z).2.2; unfold wdV at this; simp at this)
 obtain ⟨_,ho,_⟩:=id W
 refine ⟨_,Z,o,L.dx,_,Z,ho,Z,_,Z,f,CP,fx,_,.int r1.rests,Z,hf,T.clP,T.nE,Z,_,Z,g,CP,gx,_,.int r2.rests,Z,hg,T.clP,T.nE,Z,zN2,λ l1 h1=>?_⟩
 have g1:=Ad h1 (.lst [V.int r1.rests,.int r2.rests])
 refine ⟨o,l1,[r1.rests,r2.rests],L,n,s,Z,W.same g1,Ab,by omega,λ H1 k1 W1=>?_⟩
 have e1:s.som [r1.rests,r2.rests] = (s.nx,s.add "some" [r1.rests,r2.rests]):=by unfold Ws.som; rw [if_neg (by simp)]
 rw [e1] at W1 ⊢
 have k1:=(Same.kpS g1).trans k1
 have ha1:=k1 _ _ aS ha
 refine ⟨_,Z,a,CP,dx,_,Z,ha1,T.clP,T.nE,(by show 5 < 1000; decide),?_⟩
 have W2:=W1.setA ha1 (.ins CP dx (Ce "rests" (V.int (s.nx,s.add "some" [r1.rests,r2.rests]).1) (wdV x y z .non cv)))
 have hA2:(upd H1 a (.ins CP dx (Ce "rests" (V.int (s.nx,s.add "some" [r1.rests,r2.rests]).1) (wdV x y z .non cv)))) a = some (.ins CP dx (wdV x y z (.int s.nx) cv)):=Ab
 have k2:KpS (a :: L.S) H (upd H1 a (.ins CP dx (Ce "rests" (V.int (s.nx,s.add "some" [r1.rests,r2.rests]).1) (wdV x y z .non cv)))):=(k1.more sub).trans (KpS.upd mem_cons_self)
 have tp2:Tp H (upd H1 a (.ins CP dx (Ce "rests" (V.int (s.nx,s.add "some" [r1.rests,r2.rests]).1) (wdV x y z .non cv)))):=(W.tp k1).trans (Ls ha1 (KpS.upd mem_cons_self))
 generalize upd H1 a (.ins CP dx (Ce "rests" (V.int (s.nx,s.add "some" [r1.rests,r2.rests]).1) (wdV x y z .non cv))) = H2 at *
 refine ⟨_,Z,a,CP,dx,_,.int y,Z,hA2,T.clP,T.nK,Z,zN1,λ lk hlk=>?_⟩
 have tpk:=k2
 have g3:=Ad hlk (.lst [V.int y])
 have lkO:=W2.offN4 hlk
 have lkS:=lkO.2.2.2
 have lka:lk≠a:=λ z=>by rw [z,hA2] at hlk; cases hlk
 have W3:=W2.same g3
 have hA3:=g3 _ _ hA2
 have hk3:=Ab (H:=H2) (a:=lk) (o:=.lst [V.int y])
 have k3:=k2.trans (Same.kpS (S:=a :: L.S) g3)
 have tp3:=tp2.trans g3.tp
 have nk:∀ {H':Hp},KpS (a :: L.S) (upd H2 lk (.lst [V.int y])) H'→KpS (a :: L.S) H H':=λ k=>k3.trans k
 generalize upd H2 lk (.lst [V.int y]) = H3 at *
 have fa':f∉a :: L.S:=λ z=>(mem_cons.mp z).elim fa fS
 have ga':g∉a :: L.S:=λ z=>(mem_cons.mp z).elim ga gS
 have d1':d1∉a :: L.S:=λ z=>(mem_cons.mp z).elim (Bl hd1 ha (by intro z; cases z)) (W.offF hd1)
 have d2':d2∉a :: L.S:=λ z=>(mem_cons.mp z).elim (Bl hd2 ha (by intro z; cases z)) (W.offF hd2)
 have D13:B2 CP H3 f r1:=⟨fx,d1,o1,k3 _ _ fa' hf,k3 _ _ d1' hd1⟩
 have D23:B2 CP H3 g r2:=⟨gx,d2,o2,k3 _ _ ga' hg,k3 _ _ d2' hd2⟩
 have lkA:lk∉a :: L.S:=λ z=>(mem_cons.mp z).elim lka lkS
 have hb3:∀ r:Wr,Gz s r→Rng (s.add "some" [r1.rests,r2.rests]) r.runs:=λ r h=>⟨h.1.1,by rw [Az]; have:=h.1.2; omega⟩
 obtain ⟨t,vs,rfl,hs⟩:=Oa (hp.mono tp3)
 have hp3:=hp.mono tp3
 refine ⟨_,Z,t,_,_,_,Z,Z,hs.sq,Ah (j:=0) rfl,Z,_,Z,G0 (λ e=>?_) λ n1=>⟨_,Z,t,_,_,_,Z,Z,hs.sq,Ah (j:=0) rfl,Z,_,Z,G0 (λ e=>?_) λ n2=>?_⟩⟩
 ·obtain ⟨p1,p2,rfl⟩:=AcL e
  refine ⟨_,Z,_,Z,_,Z,_,Z,o,a,dx,f,g,x,y,z,s.nx,cv,r1,r2,L,n,_,Z,W3,hA3,D13,D23,hb3 r1 b1,hb3 r2 b2,by omega,by rw [Af]; omega,λ HZ kZ WZ DZ=>?_⟩
  have hkZ:=kZ _ _ lkA hk3
  have kZ:=nk kZ
  have lZ:=Xt x y z s.nx r1 r2 (s.add "some" [r1.rests,r2.rests]) (by omega)
  rw [Af] at lZ
  have q:∀ H',KpS (a :: L.S) H H'→Au C H' o L n ([r1,r2].foldl (pfS [y] z) (wThen x y z s.nx r1 r2 (s.add "some" [r1.rests,r2.rests])).2)→B2 CP H' a (wThen x y z s.nx r1 r2 (s.add "some" [r1.rests,r2.rests])).1→Q .non H':=q
  have zeq:(wThen x y z s.nx r1 r2 (s.add "some" [r1.rests,r2.rests])).1.stays = z:=rfl
  generalize wThen x y z s.nx r1 r2 (s.add "some" [r1.rests,r2.rests]) = w2 at *
  obtain ⟨rZ,sZ⟩:=w2
  dsimp only at WZ DZ lZ q zeq
  have W9:=WZ
  refine ⟨_,Z,_,Z,zN2,λ tZ htZ=>?_⟩
  have gZ:=Ad htZ (.tup [V.ref f,.ref g])
  have WY:=WZ.same gZ
  have eZ:=Ab (H:=HZ) (a:=tZ) (o:=.tup [V.ref f,.ref g])
  have kY:=kZ.trans (Same.kpS (S:=a :: L.S) gZ)
  have DY:=DZ.same gZ
  have hkY:=gZ _ _ hkZ
  generalize upd HZ tZ (.tup [V.ref f,.ref g]) = HY at *
  refine ⟨tZ,Z,⟨_,SqT.of eZ⟩,Iv (K:=K) (a:=tZ) (xs:=[V.ref f,V.ref g]) (λ i σ H'=>∃ x6,σ = [some (.ref o),some (.ref t),some (.ref a),some (.ref f),some (.ref g),some (.ref lk),x6]∧KpS L.S HY H'∧Au C H' o L n (([r1,r2].take i).foldl (pfS [y] z) sZ)) ⟨none,Z,KpS.refl _ _,WY⟩ ?_ ?_ ?_⟩
  ·rintro i σ H' _ ⟨_,_,k,_⟩
   exact SqT.of (WY.tp k _ _ eZ)
  ·rintro i v σ HX hi ⟨x6,rfl,kX,WX⟩
   obtain ⟨b,bx,db,rb,rfl,hbo,rgk,rgs,ei⟩:∃ (b bx db:Addr) (rb:Wr),v = .ref b∧H b = some (.ins CP bx (wdV rb.runs rb.kept rb.stays (.int rb.rests) (.ref db)))∧Rng s rb.kept∧Rng s rb.stays∧[r1,r2][i]? = some rb:=by
    match i,hi with
    | 0,hi=>cases hi; exact ⟨f,fx,d1,r1,rfl,hf,b1.2.1,b1.2.2,rfl⟩
    | 1,hi=>cases hi; exact ⟨g,gx,d2,r2,rfl,hg,b2.2.1,b2.2.2,rfl⟩
    | (j + 2),hi=>cases hi
   have bS:=(W.objOff hbo).2
   have ba:b≠a:=Bl hbo ha (by intro z; have:=(HO.ins.inj z).2.2; unfold wdV at this; simp at this)
   have tk:[r1,r2].take (i + 1) = [r1,r2].take i ++ [rb]:=by rw [take_succ,ei]; rfl
   have lp:=Lu [y] z ([r1,r2].take i) sZ
   rw [tk,foldl_append]
   generalize ([r1,r2].take i).foldl (pfS [y] z) sZ = sX at *
   have hbY:=kY _ _ (λ z=>(mem_cons.mp z).elim ba bS) hbo
   have hbX:=kX _ _ bS hbY
   obtain ⟨dyx,dyd,dyo,haY,_⟩:=id DY
   have aS':=(WY.objOff haY).2
   have haX:=kX _ _ aS' haY
   have hkX:=kX _ _ lkS hkY
   obtain ⟨_,hoX,_⟩:=id WX
   refine ⟨_,Z,o,L.dx,_,Z,hoX,Z,_,Z,b,CP,bx,_,.int rb.kept,Z,hbX,T.clP,T.nK,Z,_,Z,o,lk,rb.kept, "all", [y],L,n,_,Z,WX,hkX,rgk.1,?_,λ HV kV WV=>?_⟩
   ·have:=rgk.2
    unfold Ws.nx at this ⊢
    omega
   have kV:=kX.trans kV
   obtain ⟨_,hoV,_⟩:=id WV
   refine ⟨_,Z,o,L.dx,_,Z,hoV,Z,_,Z,b,CP,bx,_,.int rb.stays,Z,kV _ _ bS hbY,T.clP,T.nT,Z,_,Z,a,CP,dyx,_,.int z,Z,(zeq ▸ kV _ _ aS' haY),T.clP,T.nT,Z,zN1,λ lU hU=>?_⟩
   have gU:=Ad hU (.lst [V.int z])
   refine ⟨o,lU,rb.stays, "some", [z],L,n,_,Z,WV.same gU,Ab,rgs.1,?_,λ HT kT WT=>⟨_,Z,(kV.trans (Same.kpS gU)).trans kT,WT⟩⟩
   rw [Fa]
   have:=rgs.2
   unfold Ws.nx at this ⊢
   omega
  ·rintro σ HX ⟨x6,rfl,kX,WX⟩
   have WX:Au C HX o L n ([r1,r2].foldl (pfS [y] z) sZ):=WX
   exact q _ (kY.trans (kX.more sub)) WX (DY.kp WY kX)
 ·obtain ⟨i,p1,p2,rfl⟩:=AcM e
  have hp:=hp3
  obtain ⟨a',vs',ev,hs,hx⟩:=PAt.get hp
  cases ev
  obtain ⟨x0,x1,x2,x3,rfl,h0,h1,h2,h3⟩:=hx.four
  cases h0.str
  cases h1.int
  obtain ⟨i0,i1⟩:=sg
  obtain ⟨j,rfl⟩:∃ j:Nat,i = (j:Int):=⟨i.toNat,(Int.toNat_of_nonneg i0).symm⟩
  obtain ⟨gvs3,ho3,hg3,hpg3,hs3,_⟩:=id W3
  refine ⟨_,Z,_,Z,o,C,L.dx,_,.ref L.sl,Z,ho3,T.cl,T.nS,Z,_,Z,t,_,_,_,Z,Z,hs.sq,Ah (j:=1) rfl,L.sl,_,_,.int (j:Int),Z,Z,SqL.of hs3,Ah (by rw [getElem?_map,getElem?_range (by omega)]; rfl),_,Z,_,Z,_,Z,o,a,dx,f,g,x,y,z,s.nx,(j:Int),cv,r1,r2,L,n,_,Z,W3,hA3,D13,D23,hb3 r1 b1,hb3 r2 b2,by omega,by rw [Af]; omega,λ HZ kZ WZ DZ=>?_⟩
  have hkZ:=kZ _ _ lkA hk3
  have kZ:=nk kZ
  have lZ:=Abn x y z s.nx (j:Int) r1 r2 (s.add "some" [r1.rests,r2.rests]) (by omega)
  rw [Af] at lZ
  have q:∀ H',KpS (a :: L.S) H H'→Au C H' o L n ([r1,r2].foldl (pfS [y] z) (wIf x y z s.nx (j:Int) r1 r2 (s.add "some" [r1.rests,r2.rests])).2)→B2 CP H' a (wIf x y z s.nx (j:Int) r1 r2 (s.add "some" [r1.rests,r2.rests])).1→Q .non H':=q
  have zeq:(wIf x y z s.nx (j:Int) r1 r2 (s.add "some" [r1.rests,r2.rests])).1.stays = z:=rfl
  generalize wIf x y z s.nx (j:Int) r1 r2 (s.add "some" [r1.rests,r2.rests]) = w2 at *
  obtain ⟨rZ,sZ⟩:=w2
  dsimp only at WZ DZ lZ q zeq
  have W9:=WZ
  refine ⟨_,Z,_,Z,zN2,λ tZ htZ=>?_⟩
  have gZ:=Ad htZ (.tup [V.ref f,.ref g])
  have WY:=WZ.same gZ
  have eZ:=Ab (H:=HZ) (a:=tZ) (o:=.tup [V.ref f,.ref g])
  have kY:=kZ.trans (Same.kpS (S:=a :: L.S) gZ)
  have DY:=DZ.same gZ
  have hkY:=gZ _ _ hkZ
  generalize upd HZ tZ (.tup [V.ref f,.ref g]) = HY at *
  refine ⟨tZ,Z,⟨_,SqT.of eZ⟩,Iv (K:=K) (a:=tZ) (xs:=[V.ref f,V.ref g]) (λ i σ H'=>∃ x6,σ = [some (.ref o),some (.ref t),some (.ref a),some (.ref f),some (.ref g),some (.ref lk),x6]∧KpS L.S HY H'∧Au C H' o L n (([r1,r2].take i).foldl (pfS [y] z) sZ)) ⟨none,Z,KpS.refl _ _,WY⟩ ?_ ?_ ?_⟩
  ·rintro i σ H' _ ⟨_,_,k,_⟩
   exact SqT.of (WY.tp k _ _ eZ)
  ·rintro i v σ HX hi ⟨x6,rfl,kX,WX⟩
   obtain ⟨b,bx,db,rb,rfl,hbo,rgk,rgs,ei⟩:∃ (b bx db:Addr) (rb:Wr),v = .ref b∧H b = some (.ins CP bx (wdV rb.runs rb.kept rb.stays (.int rb.rests) (.ref db)))∧Rng s rb.kept∧Rng s rb.stays∧[r1,r2][i]? = some rb:=by
    match i,hi with
    | 0,hi=>cases hi; exact ⟨f,fx,d1,r1,rfl,hf,b1.2.1,b1.2.2,rfl⟩
    | 1,hi=>cases hi; exact ⟨g,gx,d2,r2,rfl,hg,b2.2.1,b2.2.2,rfl⟩
    | (j + 2),hi=>cases hi
   have bS:=(W.objOff hbo).2
   have ba:b≠a:=Bl hbo ha (by intro z; have:=(HO.ins.inj z).2.2; unfold wdV at this; simp at this)
   have tk:[r1,r2].take (i + 1) = [r1,r2].take i ++ [rb]:=by rw [take_succ,ei]; rfl
   have lp:=Lu [y] z ([r1,r2].take i) sZ
   rw [tk,foldl_append]
   generalize ([r1,r2].take i).foldl (pfS [y] z) sZ = sX at *
   have hbY:=kY _ _ (λ z=>(mem_cons.mp z).elim ba bS) hbo
   have hbX:=kX _ _ bS hbY
   obtain ⟨dyx,dyd,dyo,haY,_⟩:=id DY
   have aS':=(WY.objOff haY).2
   have haX:=kX _ _ aS' haY
   have hkX:=kX _ _ lkS hkY
   obtain ⟨_,hoX,_⟩:=id WX
   refine ⟨_,Z,o,L.dx,_,Z,hoX,Z,_,Z,b,CP,bx,_,.int rb.kept,Z,hbX,T.clP,T.nK,Z,_,Z,o,lk,rb.kept, "all", [y],L,n,_,Z,WX,hkX,rgk.1,?_,λ HV kV WV=>?_⟩
   ·have:=rgk.2
    unfold Ws.nx at this ⊢
    omega
   have kV:=kX.trans kV
   obtain ⟨_,hoV,_⟩:=id WV
   refine ⟨_,Z,o,L.dx,_,Z,hoV,Z,_,Z,b,CP,bx,_,.int rb.stays,Z,kV _ _ bS hbY,T.clP,T.nT,Z,_,Z,a,CP,dyx,_,.int z,Z,(zeq ▸ kV _ _ aS' haY),T.clP,T.nT,Z,zN1,λ lU hU=>?_⟩
   have gU:=Ad hU (.lst [V.int z])
   refine ⟨o,lU,rb.stays, "some", [z],L,n,_,Z,WV.same gU,Ab,rgs.1,?_,λ HT kT WT=>⟨_,Z,(kV.trans (Same.kpS gU)).trans kT,WT⟩⟩
   rw [Fa]
   have:=rgs.2
   unfold Ws.nx at this ⊢
   omega
  ·rintro σ HX ⟨x6,rfl,kX,WX⟩
   have WX:Au C HX o L n ([r1,r2].foldl (pfS [y] z) sZ):=WX
   exact q _ (kY.trans (kX.more sub)) WX (DY.kp WY kX)
 ·obtain ⟨p1,p2,rfl⟩:∃ p1 p2,p = .bes p1 p2:=by
   cases p <;> first | exact absurd rfl n1 | exact absurd rfl n2 | exact ⟨_,_,Z⟩ | cases pr
  refine ⟨_,Z,_,Z,_,Z,_,Z,o,a,dx,f,g,x,y,z,s.nx,cv,r1,r2,L,n,_,Z,W3,hA3,D13,D23,hb3 r1 b1,hb3 r2 b2,cl1,cl2,by rw [Af]; omega,λ HQ kQ WQ DQ=>?_⟩
  have hkQ:=kQ _ _ lkA hk3
  have kQ:=nk kQ
  have lZ:=Zx x y z s.nx r1 r2 (s.add "some" [r1.rests,r2.rests]) cl1 cl2
  rw [Af] at lZ
  have q:∀ H',KpS (a :: L.S) H H'→Au C H' o L n ([r1,r2].foldl (pfS [y,(cgt (wBes x y z s.nx r1 r2 (s.add "some" [r1.rests,r2.rests])).1.codes 1 (wBes x y z s.nx r1 r2 (s.add "some" [r1.rests,r2.rests])).2).1] z) (cgt (wBes x y z s.nx r1 r2 (s.add "some" [r1.rests,r2.rests])).1.codes 1 (wBes x y z s.nx r1 r2 (s.add "some" [r1.rests,r2.rests])).2).2)→B2 CP H' a (wBes x y z s.nx r1 r2 (s.add "some" [r1.rests,r2.rests])).1→Q .non H':=q
  have zeq:(wBes x y z s.nx r1 r2 (s.add "some" [r1.rests,r2.rests])).1.stays = z:=rfl
  generalize wBes x y z s.nx r1 r2 (s.add "some" [r1.rests,r2.rests]) = w2 at *
  obtain ⟨rZ,sQ⟩:=w2
  dsimp only at WQ DQ lZ q zeq
  refine ⟨_,Z,.inl ⟨rfl,_,SqL.of hkQ⟩,_,Z,_,Z,o,a,1,rZ,L,n,sQ,Z,WQ,DQ,by omega,λ HW kW WW=>?_⟩
  have lc:=De rZ.codes 1 sQ
  generalize cgt rZ.codes 1 sQ = c2 at *
  obtain ⟨gZ',sZ⟩:=c2
  dsimp only at WW lc q
  have hkW:=kW _ _ lkS hkQ
  refine ⟨lk,_,_,Z,Z,hkW,(by show 1 < sizeLine; decide),?_⟩
  have WZ:=WW.keep [lk] (H':=upd HW lk (.lst [V.int y,.int gZ'])) (KpS.upd mem_cons_self) (Tp.lst hkW) λ b hb'=>by rw [mS hb']; exact lkO
  have DZ:B2 CP (upd HW lk (.lst [V.int y,.int gZ'])) a rZ:=by
   obtain ⟨e1,e2,e3,e4,e5⟩:=DQ.kp WQ kW
   exact ⟨e1,e2,e3,by rw [upd_ne (Ne.symm lka)]; exact e4,by rw [upd_ne (Bl e5 hkW (by intro z; cases z))]; exact e5⟩
  have hkZ:(upd HW lk (.lst [V.int y,.int gZ'])) lk = some (.lst ([y,gZ'].map V.int)):=Ab
  have kZ:KpS (a :: L.S) H (upd HW lk (.lst [V.int y,.int gZ'])):=λ b u nb e=>by
   have bk:b≠lk:=λ z=>by
    have:=tpk b u nb e
    rw [z] at this
    rw [hlk] at this
    cases this
   rw [upd_ne bk]
   exact (kW.more sub) b u nb (kQ b u nb e)
  have tz:[V.int y] ++ [V.int gZ'] = [V.int y,V.int gZ']:=rfl
  rw [tz]
  generalize upd HW lk (.lst [V.int y,.int gZ']) = HZ at *
  have W9:=WZ
  refine ⟨_,Z,_,Z,zN2,λ tZ htZ=>?_⟩
  have gZ:=Ad htZ (.tup [V.ref f,.ref g])
  have WY:=WZ.same gZ
  have eZ:=Ab (H:=HZ) (a:=tZ) (o:=.tup [V.ref f,.ref g])
  have kY:=kZ.trans (Same.kpS (S:=a :: L.S) gZ)
  have DY:=DZ.same gZ
  have hkY:=gZ _ _ hkZ
  generalize upd HZ tZ (.tup [V.ref f,.ref g]) = HY at *
  refine ⟨tZ,Z,⟨_,SqT.of eZ⟩,Iv (K:=K) (a:=tZ) (xs:=[V.ref f,V.ref g]) (λ i σ H'=>∃ x6,σ = [some (.ref o),some (.ref t),some (.ref a),some (.ref f),some (.ref g),some (.ref lk),x6]∧KpS L.S HY H'∧Au C H' o L n (([r1,r2].take i).foldl (pfS [y,gZ'] z) sZ)) ⟨none,Z,KpS.refl _ _,WY⟩ ?_ ?_ ?_⟩
  ·rintro i σ H' _ ⟨_,_,k,_⟩
   exact SqT.of (WY.tp k _ _ eZ)
  ·rintro i v σ HX hi ⟨x6,rfl,kX,WX⟩
   obtain ⟨b,bx,db,rb,rfl,hbo,rgk,rgs,ei⟩:∃ (b bx db:Addr) (rb:Wr),v = .ref b∧H b = some (.ins CP bx (wdV rb.runs rb.kept rb.stays (.int rb.rests) (.ref db)))∧Rng s rb.kept∧Rng s rb.stays∧[r1,r2][i]? = some rb:=by
    match i,hi with
    | 0,hi=>cases hi; exact ⟨f,fx,d1,r1,rfl,hf,b1.2.1,b1.2.2,rfl⟩
    | 1,hi=>cases hi; exact ⟨g,gx,d2,r2,rfl,hg,b2.2.1,b2.2.2,rfl⟩
    | (j + 2),hi=>cases hi
   have bS:=(W.objOff hbo).2
   have ba:b≠a:=Bl hbo ha (by intro z; have:=(HO.ins.inj z).2.2; unfold wdV at this; simp at this)
   have tk:[r1,r2].take (i + 1) = [r1,r2].take i ++ [rb]:=by rw [take_succ,ei]; rfl
   have lp:=Lu [y,gZ'] z ([r1,r2].take i) sZ
   rw [tk,foldl_append]
   generalize ([r1,r2].take i).foldl (pfS [y,gZ'] z) sZ = sX at *
   have hbY:=kY _ _ (λ z=>(mem_cons.mp z).elim ba bS) hbo
   have hbX:=kX _ _ bS hbY
   obtain ⟨dyx,dyd,dyo,haY,_⟩:=id DY
   have aS':=(WY.objOff haY).2
   have haX:=kX _ _ aS' haY
   have hkX:=kX _ _ lkS hkY
   obtain ⟨_,hoX,_⟩:=id WX
   refine ⟨_,Z,o,L.dx,_,Z,hoX,Z,_,Z,b,CP,bx,_,.int rb.kept,Z,hbX,T.clP,T.nK,Z,_,Z,o,lk,rb.kept, "all", [y,gZ'],L,n,_,Z,WX,hkX,rgk.1,?_,λ HV kV WV=>?_⟩
   ·have:=rgk.2
    unfold Ws.nx at this ⊢
    omega
   have kV:=kX.trans kV
   obtain ⟨_,hoV,_⟩:=id WV
   refine ⟨_,Z,o,L.dx,_,Z,hoV,Z,_,Z,b,CP,bx,_,.int rb.stays,Z,kV _ _ bS hbY,T.clP,T.nT,Z,_,Z,a,CP,dyx,_,.int z,Z,(zeq ▸ kV _ _ aS' haY),T.clP,T.nT,Z,zN1,λ lU hU=>?_⟩
   have gU:=Ad hU (.lst [V.int z])
   refine ⟨o,lU,rb.stays, "some", [z],L,n,_,Z,WV.same gU,Ab,rgs.1,?_,λ HT kT WT=>⟨_,Z,(kV.trans (Same.kpS gU)).trans kT,WT⟩⟩
   rw [Fa]
   have:=rgs.2
   unfold Ws.nx at this ⊢
   omega
  ·rintro σ HX ⟨x6,rfl,kX,WX⟩
   have WX:Au C HX o L n ([r1,r2].foldl (pfS [y,gZ'] z) sZ):=WX
   exact q _ (kY.trans (kX.more sub)) WX (DY.kp WY kX)
def Lz (k x y z:Int) (ri:Wr) (s:Ws):Wr× Ws :=
 let j:=((s.add "memory" [k]).add "some" [s.nx,ri.rests]).jnd (ri.codes.map λ p=>(agC p.1,p.2))
 let c:=cgt ri.codes 0 j.2
 (⟨x,y,z,s.nx + 1,j.1⟩,c.2.lvg k y z s.nx c.1)
inductive Og (C CP:Addr) (vs:List V) (H:Hp) (Q:VK):Prop
 | mk (o a dx f:Addr) (k x y z rr:Int) (cv:V) (ri:Wr) (L:Lc) (n:Nat) (s:Ws) (_:vs = [.ref o,.int k,.ref a,.ref f]) (_:Au C H o L n s) (_:H a = some (.ins CP dx (wdV x y z (.int rr) cv))) (_:B2 CP H f ri) (_:f≠a) (_:ri.codes.length≤20) (_:s.gs.length + 80≤1000000) (_:s.lv.length≤1000000) (_:Jj C CP o a L n Q H (Lz k x y z ri s)):Og C CP vs H Q
def Qz (C CP:Addr):Sp:=λ vs H Q _=>Og C CP vs H Q
theorem Ee (s:Ws) (ps:Cd):(s.jnd ps).2.lv = s.lv:=by
 have sm:∀ (s:Ws) (ns:List Int),(s.som ns).2.lv = s.lv:=λ s ns=>by unfold Ws.som; split <;> rfl
 have k:∀ (cs:List Int) (a:Cd× Ws),(cs.foldl (jstep ps) a).2.lv = a.2.lv:=by
  intro cs
  induction cs with
  | nil=>intro a; rfl
  | cons c cs ih=>intro a; rw [foldl_cons,ih]; exact sm _ _
 exact k _ ([],s)
theorem J5 (cs:Cd) (c:Int) (s:Ws):(cgt cs c s).2.lv = s.lv:=by
 unfold cgt
 split
 ·rfl
 ·unfold Ws.som; split <;> rfl
theorem V9 (F:Ba K mg "wire_again" ["wiring", "rest", "whole", "inner"] Fb) (T:B3 K mg C CP) (aH:Bf P w K mg base 1 C "gate" ["self", "word", "numbers"] (Gb C)) (aB:Bf P w K mg base 2 C "some_of" ["self", "numbers"] (Ft C)) (aK:Bf P w K mg base 3 C "joined" ["self", "pairs"] (Hn C)) (bH:Am P w K mg base 1 "code_of_again" ["code"] Uw) (aJ:Am P w K mg base 3 "code_gate" ["wiring", "whole", "code"] (Rw C CP)) (aR:Am P w K mg base 3 "wire_leaving" ["wiring", "rest", "whole", "memory", "comes"] (Ro C CP)):Am P w K mg base 4 "wire_again" ["wiring", "rest", "whole", "inner"] (Qz C CP):=by
 refine F.ok K6 (λ vs H Q E h=>?_) (λ fn cdv A outer s0 H vs Q E hr h=>?_)
 ·obtain ⟨o,a,dx,f,k,x,y,z,rr,cv,ri,L,n,s,rfl,_⟩:=h; rfl
 obtain ⟨o,a,dx,f,k,x,y,z,rr,cv,ri,L,n,s,rfl,W,ha,D,fa,cl,hb,hv,q⟩:=h
 obtain ⟨uE,hE,rE⟩:=T.gE
 obtain ⟨ao,aS⟩:=W.objOff ha
 have sub:∀ b∈L.S,b∈a :: L.S:=λ b h=>mem_cons_of_mem _ h
 refine ⟨_,(Ae (Bh (i:=4) K6.nd rfl (Or.inl rfl) (Aq aH hr Al (pv 0) (Aa An (Aa (A5 (Aa (pv 1) Ac)) Ac))))
  (Ae (Cc (pv 2) (Aq aB hr Al (pv 0) (Aa (A5 (Aa (pv 4) (Aa (Ar (pv 3) rfl) Ac))) Ac)) rfl)
  (Ae (Cc (pv 2) (Aq aK hr Al (pv 0) (Aa (Cu (g:=(B1 0)) (tc:=C1) (te:=(Q3 (B4 (Mi Uw [] E0 (B4 (tOp (G1 K) (Bt 0) (tC (.int 0))) Dp)) (B4 (tOp (G1 K) (Bt 0) (tC (.int 1))) Dp)))) ["pair"] [] rfl (Ci (Aj Fb) ["wiring", "rest", "whole", "inner", "memory"] (by decide +kernel)) (Ms (Ar (pv 3) rfl)) (λ s2 H2 fp cl C=>A3 (i:=0) (show Nodup [("pair" : Str)] from by decide +kernel) rfl (Or.inl rfl)) (Bo (by decide)) (λ s2 H2 fp cl C=>Df) (λ s2 H2 fp cl C=>(Be (Aa (Av bH hr rfl Al (Aa (Ao Ap (pv 0) Ag (λ _ _=>rfl)) Ac)) (Aa (Ao Ap (pv 0) Ag (λ _ _=>rfl)) Ac))))) Ac)) rfl)
  (Ai (Bg (Av aR hr rfl Al (Aa (pv 0) (Aa (pv 1) (Aa (pv 2) (Aa (pv 4) (Aa (Av aJ hr rfl Al (Aa (pv 0) (Aa (pv 3) (Aa (Cb rfl hE rE) Ac)))) Ac))))))))))),?_⟩
 obtain ⟨fx,d1,o1,hf,hd1⟩:=id D
 have fS:=(W.objOff hf).2
 have dS:=W.offF hd1
 have da:d1≠a:=Bl hd1 ha (by intro z; cases z)
 have fA:f∉a :: L.S:=λ z=>(mem_cons.mp z).elim fa fS
 have dA:d1∉a :: L.S:=λ z=>(mem_cons.mp z).elim da dS
 obtain ⟨_,ho,_⟩:=id W
 refine ⟨_,Z,o,L.dx,_,Z,ho,Z,_,Z,zN1,λ l1 h1=>?_⟩
 have g1:=Ad h1 (.lst [V.int k])
 refine ⟨o,l1, "memory", [k],L,n,s,Z,W.same g1,Ab,by omega,λ H1 k1 W1=>?_⟩
 have k1:=(Same.kpS g1).trans k1
 obtain ⟨_,ho1,_⟩:=id W1
 refine ⟨_,Z,o,L.dx,_,Z,ho1,Z,_,Z,_,Z,f,CP,fx,_,.int ri.rests,Z,k1 _ _ fS hf,T.clP,T.nE,Z,zN2,λ l2 h2=>?_⟩
 have g2:=Ad h2 (.lst [V.int s.nx,.int ri.rests])
 refine ⟨o,l2,[s.nx,ri.rests],L,n,_,Z,W1.same g2,Ab,by rw [Af]; omega,λ H2 k2 W2=>?_⟩
 have e2:(s.add "memory" [k]).som [s.nx,ri.rests] = (s.nx + 1,(s.add "memory" [k]).add "some" [s.nx,ri.rests]):=by unfold Ws.som; rw [if_neg (by simp),Az]
 rw [e2] at W2 ⊢
 have k2:=(k1.trans (Same.kpS g2)).trans k2
 have ha2:=k2 _ _ aS ha
 refine ⟨_,Z,a,CP,dx,_,Z,ha2,T.clP,T.nE,(by show 5 < 1000; decide),?_⟩
 have W3:=W2.setA ha2 (.ins CP dx (Ce "rests" (V.int (s.nx + 1,(s.add "memory" [k]).add "some" [s.nx,ri.rests]).1) (wdV x y z (.int rr) cv)))
 have hA3:(upd H2 a (.ins CP dx (Ce "rests" (V.int (s.nx + 1,(s.add "memory" [k]).add "some" [s.nx,ri.rests]).1) (wdV x y z (.int rr) cv)))) a = some (.ins CP dx (wdV x y z (.int (s.nx + 1)) cv)):=Ab
 have k3:KpS (a :: L.S) H (upd H2 a (.ins CP dx (Ce "rests" (V.int (s.nx + 1,(s.add "memory" [k]).add "some" [s.nx,ri.rests]).1) (wdV x y z (.int rr) cv)))):=(k2.more sub).trans (KpS.upd mem_cons_self)
 generalize upd H2 a (.ins CP dx (Ce "rests" (V.int (s.nx + 1,(s.add "memory" [k]).add "some" [s.nx,ri.rests]).1) (wdV x y z (.int rr) cv))) = H3 at *
 obtain ⟨_,ho3,_⟩:=id W3
 have hd3:=k3 _ _ dA hd1
 refine ⟨_,Z,o,L.dx,_,Z,ho3,Z,_,Z,f,CP,fx,_,.ref d1,Z,k3 _ _ fA hf,T.clP,T.nC,Z,d1,o1,_,Z,hd3,Ki (λ i ys H'=>Same H3 H'∧PySem.Paired (G7 H') ((ri.codes.take i).map λ p=>(agC p.1,p.2)) ys) ⟨Same.refl _,.nil⟩ (by rw [length_map]; exact le_trans (by omega:ri.codes.length≤64) (by decide)) (λ i ys H' hh=>hh.1 _ _ hd3) ?_ ?_⟩
 ·rintro i p t ys H' N hi ⟨gg,hy⟩ ht hN hyl
  have hil:i < ri.codes.length:=by have:=(List.getElem?_eq_some_iff.mp hi).1; rwa [length_map] at this
  rw [getElem?_map,getElem?_eq_getElem hil] at hi
  cases hi
  have gt:=Ad ht (.tup [V.int (ri.codes[i]).1,V.int (ri.codes[i]).2])
  have tk:ri.codes.take (i + 1) = ri.codes.take i ++ [ri.codes[i]]:=by rw [take_succ,getElem?_eq_getElem hil]; rfl
  refine ⟨_,Z,t,_,_,_,Z,Z,SqT.of Ab,Ah (j:=0) rfl,_,Z,_,Z,t,_,_,_,Z,Z,SqT.of Ab,Ah (j:=1) rfl,zN2,λ t2 ht2=>?_⟩
  have gt2:=Ad ht2 (.tup [V.int (agC (ri.codes[i]).1),V.int (ri.codes[i]).2])
  refine hN _ _ (by rw [length_append,length_singleton]; omega) ⟨(gg.trans gt).trans gt2,?_⟩
  rw [tk,map_append]
  exact Co (Paired.mapP hy λ _ _ a=>a.mono (gt.trans gt2).tp) (.cons ⟨t2,Z,Ab⟩ .nil)
 rintro ys H4 hyl ⟨g4,hy⟩ D4 hD4
 rw [length_map,take_length] at hy
 have gD:=Ad hD4 (.lst ys)
 have W5:=(W3.same g4).same gD
 have lp:=PySem.Paired.length hy
 rw [length_map] at lp
 refine ⟨o,D4,_,_,L,n,_,Z,W5,Ab,(W3.same g4).offN hD4,Paired.mapP hy λ _ _ a=>a.mono gD.tp,by rw [length_map]; omega,by rw [Af,Af]; omega,λ d ob H6 k6 nd6 e6 W6=>?_⟩
 have k6:=(Same.kpS (g4.trans gD)).trans k6
 have hA6:=k6 _ _ aS hA3
 refine ⟨_,Z,a,CP,dx,_,Z,hA6,T.clP,T.nC,(by show 5 < 1000; decide),?_⟩
 have ad:a≠d:=Bl hA6 e6 (by intro z; cases z)
 have W7:=W6.setA hA6 (.ins CP dx (wdV x y z (.int (s.nx + 1)) (.ref d)))
 have k7:KpS (a :: L.S) H (upd H6 a (.ins CP dx (wdV x y z (.int (s.nx + 1)) (.ref d)))):=(k3.trans (k6.more sub)).trans (KpS.upd mem_cons_self)
 have D7:B2 CP (upd H6 a (.ins CP dx (wdV x y z (.int (s.nx + 1)) (.ref d)))) f ri:=⟨fx,d1,o1,k7 _ _ fA hf,k7 _ _ dA hd1⟩
 have lj:=(F1 ((s.add "memory" [k]).add "some" [s.nx,ri.rests]) (ri.codes.map λ p=>(agC p.1,p.2))).1
 have vj:=Ee ((s.add "memory" [k]).add "some" [s.nx,ri.rests]) (ri.codes.map λ p=>(agC p.1,p.2))
 rw [Af,Af,length_map] at lj
 unfold Lz at q
 dsimp only at q
 generalize ((s.add "memory" [k]).add "some" [s.nx,ri.rests]).jnd (ri.codes.map λ p=>(agC p.1,p.2)) = jj at *
 obtain ⟨cj,sj⟩:=jj
 dsimp only at lj vj q e6 W7
 refine ⟨_,Z,_,Z,_,Z,_,Z,_,Z,_,Z,o,f,0,ri,L,n,sj,Z,W7,D7,by omega,λ H8 k8 W8=>?_⟩
 have hA8:=k8 _ _ aS Ab
 have hd8:=k8 d _ (W6.offF e6) (by rw [upd_ne (Ne.symm ad)]; exact e6)
 have lc:=De ri.codes 0 sj
 have vc:=J5 ri.codes 0 sj
 refine ⟨o,a,dx,k,_,_,x,y,z,_,_,L,n,_,Z,W8,hA8,by omega,by rw [vc,vj]; exact hv,λ H9 k9 W9=>?_⟩
 exact q _ ((k7.trans (k8.more sub)).trans (k9.more sub)) W9 ⟨dx,d,ob,k9 _ _ aS hA8,k9 _ _ (W8.offF hd8) hd8⟩
def Da (i x:Int) (ri:Wr) (s:Ws):Ws:=((((s.add "all" [x,ri.rests,i]).add "not" [ri.rests]).add "not" [i]).add "some" [s.nx + 1,s.nx + 2]).fil ri.runs "all" [x,s.nx + 3]
def Vb (i x y z rr:Int) (ri:Wr) (s:Ws):Wr× Ws :=
 let j:=(((Da i x ri s).add "all" [s.nx,y]).fil ri.stays "some" [z,s.nx + 4]).jnd (ri.codes ++ [(1,s.nx)])
 (⟨x,y,z,rr,j.1⟩,j.2)
def Sd (i x y z rr:Int) (ri:Wr) (s:Ws):Wr× Ws :=
 let j:=((Da i x ri s).fil ri.stays "some" [z]).jnd (ri.codes ++ [(0,s.nx)])
 (⟨x,y,z,rr,j.1⟩,j.2)
def Ob (x y z rr:Int) (ri:Wr) (s:Ws):Pt→Wr× Ws
 | .hold i _=>Vb i x y z rr ri s
 | .watch i _=>Sd i x y z rr ri s
 | _=>(ri,s)
def Rb:Pt→Bool
 | .hold _ _=>true
 | .watch _ _=>true
 | _=>false
def sgI:Pt→Int
 | .hold i _=>i
 | .watch i _=>i
 | _=>0
theorem Ac7 {K:PySem.W.Frag} {H:Hp} {p:Pt} {v:V} (h:PAt K H (Pt.nd p) v) (z:Rb p = true):∃ a vs,v = .ref a∧Fi K H a (.str (wdP p) :: .int (sgI p) :: vs):=by
 cases p with
 | hold i q =>
  obtain ⟨a,vs,rfl,hs,hx⟩:=PAt.get h
  obtain ⟨x0,x1,x2,rfl,h0,h1,h2⟩:=hx.three
  cases h0.str
  cases h1.int
  exact ⟨a,_,Z,hs⟩
 | watch i q =>
  obtain ⟨a,vs,rfl,hs,hx⟩:=PAt.get h
  obtain ⟨x0,x1,x2,rfl,h0,h1,h2⟩:=hx.three
  cases h0.str
  cases h1.int
  exact ⟨a,_,Z,hs⟩
 | _=>cases z
theorem G6 (i x:Int) (ri:Wr) (s:Ws):(Da i x ri s).gs.length = s.gs.length + 4:=by unfold Da; rw [A8,Af,Af,Af,Af]
theorem Abx (i x:Int) (ri:Wr) (s:Ws):(Da i x ri s).nx = s.nx + 4:=by unfold Ws.nx; rw [G6]; omega
inductive Po (K:PySem.W.Frag) (C CP:Addr) (vs:List V) (H:Hp) (Q:VK):Prop
 | mk (o a dx f:Addr) (v:V) (p:Pt) (x y z rr:Int) (cv:V) (ri:Wr) (L:Lc) (n:Nat) (s:Ws) (_:vs = [.ref o,v,.ref a,.ref f]) (_:Au C H o L n s) (_:PAt K H p.nd v) (_:Rb p = true) (_:Ko n p) (_:H a = some (.ins CP dx (wdV x y z (.int rr) cv))) (_:B2 CP H f ri) (_:f≠a) (_:Gz s ri) (_:ri.codes.length≤20) (_:s.gs.length + 100≤1000000) (_:Jj C CP o a L n Q H (Ob x y z rr ri s p)):Po K C CP vs H Q
def T9 (K:PySem.W.Frag) (C CP:Addr):Sp:=λ vs H Q _=>Po K C CP vs H Q
theorem AaM (F:Ba K mg "wire_skipping" ["wiring", "part", "whole", "inner"] E2) (T:B3 K mg C CP) (aD:Bf P w K mg base 1 C "fill" ["self", "number", "word", "numbers"] (Gk C)) (aE:Bf P w K mg base 2 C "opposite" ["self", "number"] (Kx C)) (aA:Bf P w K mg base 2 C "every_of" ["self", "numbers"] (Fh C)) (aB:Bf P w K mg base 2 C "some_of" ["self", "numbers"] (Ft C)) (aK:Bf P w K mg base 3 C "joined" ["self", "pairs"] (Hn C)):Am P w K mg base 4 "wire_skipping" ["wiring", "part", "whole", "inner"] (T9 K C CP):=by
 refine F.ok Cw (λ vs H Q E h=>?_) (λ fn cdv A outer s0 H vs Q E hr h=>?_)
 ·obtain ⟨o,a,dx,f,v,p,x,y,z,rr,cv,ri,L,n,s,rfl,_⟩:=h; rfl
 obtain ⟨o,a,dx,f,v,p,x,y,z,rr,cv,ri,L,n,s,rfl,W,hp,sk,sg,ha,D,fa,b1,cl,hb,q⟩:=h
 obtain ⟨uE,hE,rE⟩:=T.gE
 obtain ⟨uR,hR,rR⟩:=T.gR
 obtain ⟨ao,aS⟩:=W.objOff ha
 have sub:∀ b∈L.S,b∈a :: L.S:=λ b h=>mem_cons_of_mem _ h
 refine ⟨_,(Ae (Bh (i:=4) Cw.nd rfl (Or.inl rfl) (Ao Bz (Ar (pv 0) rfl) (Ao Ap (pv 1) Ag (λ _ _=>rfl)) (λ _ _=>rfl)))
  (Ae (Bh (i:=5) Cw.nd rfl (Or.inl rfl) (Aq aA hr Al (pv 0) (Aa (A5 (Aa (Ar (pv 2) rfl) (Aa (Ar (pv 3) rfl) (Aa (pv 4) Ac)))) Ac)))
  (Ae (Bh (i:=6) Cw.nd rfl (Or.inl rfl) (Aq aB hr Al (pv 0) (Aa (A5 (Aa (Aq aE hr Al (pv 0) (Aa (Ar (pv 3) rfl) Ac)) (Aa (Aq aE hr Al (pv 0) (Aa (pv 4) Ac)) Ac))) Ac)))
  (Ae (Bg (Aq aD hr Al (pv 0) (Aa (Ar (pv 3) rfl) (Aa An (Aa (A5 (Aa (Ar (pv 2) rfl) (Aa (pv 6) Ac))) Ac)))))
  (Ae (Bh (i:=7) Cw.nd rfl (Or.inl rfl) (Gs (As Bm (Ao Ap (pv 1) Ag (λ _ _=>rfl)) An (Ax _)) (A5 (Aa (Aq aA hr Al (pv 0) (Aa (A5 (Aa (pv 5) (Aa (Ar (pv 2) rfl) Ac))) Ac)) Ac)) (A5 Ac)))
  (Ae (Bg (Aq aD hr Al (pv 0) (Aa (Ar (pv 3) rfl) (Aa An (Aa (Bj Ji (A5 (Aa (Ar (pv 2) rfl) Ac)) (pv 7)) Ac)))))
  (Ae (Bh (i:=8) Cw.nd rfl (Or.inl rfl) (Gs (As Bm (Ao Ap (pv 1) Ag (λ _ _=>rfl)) An (Ax _)) (Cb rfl hR rR) (Cb rfl hE rE)))
  (Ai (Cc (pv 2) (Aq aK hr Al (pv 0) (Aa (Bj Ji (Hr rfl rfl T.n_list (Ar (pv 3) rfl)) (A5 (Aa (Be (Aa (pv 8) (Aa (pv 5) Ac))) Ac))) Ac)) rfl))))))))),?_⟩
 obtain ⟨fx,d1,o1,hf,hd1⟩:=id D
 have fS:=(W.objOff hf).2
 have dS:=W.offF hd1
 obtain ⟨t,vs,rfl,hs⟩:=Ac7 hp sk
 have sg2:0≤sgI p∧sgI p < n:=by cases p <;> first | exact sg | cases sk
 obtain ⟨j,ej⟩:∃ j:Nat,sgI p = (j:Int):=⟨(sgI p).toNat,(Int.toNat_of_nonneg sg2.1).symm⟩
 obtain ⟨gvs,ho,hg,hpg,hs',_⟩:=id W
 clear D
 refine ⟨_,Z,o,C,L.dx,_,.ref L.sl,Z,ho,T.cl,T.nS,Z,_,Z,t,_,_,_,Z,Z,hs.sq,Ah (j:=1) rfl,L.sl,_,_,.int (sgI p),Z,Z,SqL.of hs',?_,?_⟩
 ·rw [ej]
  exact Ah (by rw [getElem?_map,getElem?_range (by omega)]; rfl)
 refine ⟨_,Z,o,L.dx,_,Z,ho,Z,_,Z,a,CP,dx,_,.int x,Z,ha,T.clP,T.nR,Z,_,Z,f,CP,fx,_,.int ri.rests,Z,hf,T.clP,T.nE,Z,_,Z,zN3,λ l1 h1=>?_⟩
 have g1:=Ad h1 (.lst [V.int x,.int ri.rests,.int (sgI p)])
 refine ⟨o,l1,[x,ri.rests,sgI p],L,n,s,Z,W.same g1,Ab,by omega,λ H1 k1 W1=>?_⟩
 have k1:=(Same.kpS g1).trans k1
 obtain ⟨_,ho1,_⟩:=id W1
 refine ⟨_,Z,o,L.dx,_,Z,ho1,Z,_,Z,o,L.dx,_,Z,ho1,Z,_,Z,f,CP,fx,_,.int ri.rests,Z,k1 _ _ fS hf,T.clP,T.nE,Z,o,_,L,n,_,Z,W1,by rw [Af]; omega,λ H2 k2 W2=>?_⟩
 obtain ⟨_,ho2,_⟩:=id W2
 refine ⟨_,Z,o,L.dx,_,Z,ho2,Z,_,Z,o,_,L,n,_,Z,W2,by rw [Af,Af]; omega,λ H3 k3 W3=>⟨zN2,λ l4 h4=>?_⟩⟩
 have n1:(s.add "all" [x,ri.rests,sgI p]).nx = s.nx + 1:=Az _ _ _
 have n2:((s.add "all" [x,ri.rests,sgI p]).add "not" [ri.rests]).nx = s.nx + 2:=by rw [Az,Az]; omega
 have n3:(((s.add "all" [x,ri.rests,sgI p]).add "not" [ri.rests]).add "not" [sgI p]).nx = s.nx + 3:=by rw [Az,Az,Az]; omega
 rw [n1,n2]
 have g4:=Ad h4 (.lst [V.int (s.nx + 1),.int (s.nx + 2)])
 refine ⟨o,l4,[s.nx + 1,s.nx + 2],L,n,_,Z,W3.same g4,Ab,by rw [Af,Af,Af]; omega,λ H5 k5 W5=>?_⟩
 have e5:(((s.add "all" [x,ri.rests,sgI p]).add "not" [ri.rests]).add "not" [sgI p]).som [s.nx + 1,s.nx + 2] = (s.nx + 3,(((s.add "all" [x,ri.rests,sgI p]).add "not" [ri.rests]).add "not" [sgI p]).add "some" [s.nx + 1,s.nx + 2]):=by unfold Ws.som; rw [if_neg (by simp),n3]
 rw [e5] at W5 ⊢
 have k5:=(((k1.trans k2).trans k3).trans (Same.kpS g4)).trans k5
 obtain ⟨_,ho5,_⟩:=id W5
 refine ⟨_,Z,o,L.dx,_,Z,ho5,Z,_,Z,f,CP,fx,_,.int ri.runs,Z,k5 _ _ fS hf,T.clP,T.nR,Z,_,Z,a,CP,dx,_,.int x,Z,k5 _ _ aS ha,T.clP,T.nR,Z,_,Z,zN2,λ l6 h6=>?_⟩
 have g6:=Ad h6 (.lst [V.int x,.int (s.nx + 3)])
 refine ⟨o,l6,ri.runs, "all", [x,s.nx + 3],L,n,_,Z,W5.same g6,Ab,b1.1.1,by rw [Az,n3]; have:=b1.1.2; omega,λ H7 k7' W7'=>?_⟩
 have k7:=(k5.trans (Same.kpS g6)).trans k7'
 have W7:Au C H7 o L n (Da (sgI p) x ri s):=W7'
 have ls:=G6 (sgI p) x ri s
 have nS:=Abx (sgI p) x ri s
 have hs7:=hs.mono (W.tp k7)
 obtain ⟨_,ho7,_⟩:=id W7
 refine ⟨_,Z,t,_,_,_,Z,Z,hs7.sq,Ah (j:=0) rfl,Z,_,Z,G0 (λ e=>?_) λ nh=>?_⟩
 ·obtain ⟨i,p1,rfl⟩:=Uk e
  refine ⟨_,Z,o,L.dx,_,Z,ho7,Z,_,Z,_,Z,a,CP,dx,_,.int y,Z,k7 _ _ aS ha,T.clP,T.nK,Z,zN2,λ l7 h7=>?_⟩
  have g7:=Ad h7 (.lst [V.int s.nx,.int y])
  refine ⟨o,l7,[s.nx,y],L,n,_,Z,W7.same g7,Ab,by omega,λ HG kG WG=>⟨zN1,λ lh hlh=>?_⟩⟩
  rw [nS]
  have gh:=Ad hlh (.lst [V.int (s.nx + 4)])
  have m7:=((k7.trans (Same.kpS g7)).trans kG).trans (Same.kpS gh)
  have V7:=WG.same gh
  have ehl:=Ab (H:=HG) (a:=lh) (o:=.lst [V.int (s.nx + 4)])
  generalize upd HG lh (.lst [V.int (s.nx + 4)]) = HJ at *
  obtain ⟨_,hoJ,_⟩:=id V7
  refine ⟨_,Z,o,L.dx,_,Z,hoJ,Z,_,Z,f,CP,fx,_,.int ri.stays,Z,m7 _ _ fS hf,T.clP,T.nT,Z,_,Z,a,CP,dx,_,.int z,Z,m7 _ _ aS ha,T.clP,T.nT,Z,zN1,λ lz hlz=>⟨_,Z,lz,lh,_,_,Z,Z,Ab,Ad hlz _ _ _ ehl,zN2,λ l8 h8=>?_⟩⟩
  have gz:=Ad hlz (.lst [V.int z])
  have X7:=V7.same gz
  have x7:=m7.trans (Same.kpS gz)
  have q:Jj C CP o a L n Q H (Vb i x y z rr ri s):=q
  have g8:=Ad h8 (.lst ([V.int z] ++ [V.int (s.nx + 4)]))
  refine ⟨o,l8,ri.stays, "some", [z] ++ [s.nx + 4],L,n,_,Z,X7.same g8,Ab,b1.2.2.1,by rw [Az,nS]; have:=b1.2.2.2; omega,λ H9 k9 W9=>?_⟩
  have j9:=(x7.trans (Same.kpS g8)).trans k9
  have hs9:=hs.mono (W.tp j9)
  refine ⟨_,Z,t,_,_,_,Z,Z,hs9.sq,Ah (j:=0) rfl,Z,_,Z,G0 (λ _=>?_) λ n=>absurd e n⟩
  have hf9:=j9 _ _ fS hf
  obtain ⟨_,ho9,_⟩:=id W9
  refine ⟨_,Z,o,L.dx,_,Z,ho9,Z,_,Z,f,CP,fx,_,.ref d1,Z,hf9,T.clP,T.nC,Z,d1,_,Z,.inr ⟨o1,j9 _ _ dS hd1⟩,λ lC ts HC qC=>⟨_,Z,_,Z,zN2,λ tA htA=>⟨zN1,λ lD hD=>?_⟩⟩⟩
  have pC:=J4 qC
  obtain ⟨gC,flC,elC,leC,_⟩:=qC
  have gC:Same _ HC:=gC
  have gA:=Ad htA (.tup [V.int 1,.int s.nx])
  have gD:=Ad hD (.lst [V.ref tA])
  rw [length_map] at leC
  refine ⟨lC,lD,_,_,Z,Z,(gA.trans gD) _ _ elC,Ab,by rw [length_map,length_singleton]; exact le_trans (by omega:_≤64) (by decide),λ lE hE'=>?_⟩
  have gE:=Ad hE' (.lst (ts.map V.ref ++ [V.ref tA]))
  have gCD:=(gC.trans gA).trans gD
  have gCE:=gCD.trans gE
  have WE:=W9.same gCE
  have pE:PySem.Paired (G7 (upd (upd (upd HC tA (.tup [V.int 1,.int s.nx])) lD (.lst [V.ref tA])) lE (.lst (ts.map V.ref ++ [V.ref tA])))) (ri.codes ++ [(1,s.nx)]) (ts.map V.ref ++ [V.ref tA]):=Co (Paired.mapP pC λ _ _ a=>a.mono ((gA.trans gD).trans gE).tp) (.cons ⟨tA,Z,(gD.trans gE) _ _ Ab⟩ .nil)
  refine ⟨o,lE,_,_,L,n,_,Z,WE,Ab,(W9.same gCD).offN hE',pE,by rw [length_append,length_singleton]; omega,by rw [A8,Af,G6]; omega,λ d ob HF kF nF eF WF=>?_⟩
  have jF:=(j9.trans (Same.kpS gCE)).trans kF
  have haF:=jF _ _ aS ha
  refine ⟨_,Z,a,CP,dx,_,Z,haF,T.clP,T.nC,(by show 5 < 1000; decide),?_⟩
  have ad:a≠d:=Bl haF eF (by intro z; cases z)
  exact q _ ((jF.more sub).trans (KpS.upd mem_cons_self)) (WF.setA haF _) ⟨dx,d,ob,Ab,by rw [upd_ne (Ne.symm ad)]; exact eF⟩
 ·obtain ⟨i,p1,rfl⟩:∃ i p1,p = .watch i p1:=by
   cases p <;> first | exact absurd rfl nh | exact ⟨_,_,Z⟩ | cases sk
  refine ⟨zN0,λ lh hlh=>?_⟩
  have gh:=Ad hlh (.lst [])
  have m7:=k7.trans (Same.kpS gh)
  have V7:=W7.same gh
  have ehl:=Ab (H:=H7) (a:=lh) (o:=.lst [])
  generalize upd H7 lh (.lst []) = HJ at *
  obtain ⟨_,hoJ,_⟩:=id V7
  refine ⟨_,Z,o,L.dx,_,Z,hoJ,Z,_,Z,f,CP,fx,_,.int ri.stays,Z,m7 _ _ fS hf,T.clP,T.nT,Z,_,Z,a,CP,dx,_,.int z,Z,m7 _ _ aS ha,T.clP,T.nT,Z,zN1,λ lz hlz=>⟨_,Z,lz,lh,_,_,Z,Z,Ab,Ad hlz _ _ _ ehl,zN1,λ l8 h8=>?_⟩⟩
  have gz:=Ad hlz (.lst [V.int z])
  have X7:=V7.same gz
  have x7:=m7.trans (Same.kpS gz)
  have q:Jj C CP o a L n Q H (Sd i x y z rr ri s):=q
  have g8:=Ad h8 (.lst ([V.int z] ++ []))
  refine ⟨o,l8,ri.stays, "some", [z] ++ [],L,n,_,Z,X7.same g8,Ab,b1.2.2.1,by rw [nS]; have:=b1.2.2.2; omega,λ H9 k9 W9=>?_⟩
  have j9:=(x7.trans (Same.kpS g8)).trans k9
  have hs9:=hs.mono (W.tp j9)
  refine ⟨_,Z,t,_,_,_,Z,Z,hs9.sq,Ah (j:=0) rfl,Z,_,Z,G0 (λ e=>absurd e nh) λ _=>?_⟩
  have hf9:=j9 _ _ fS hf
  obtain ⟨_,ho9,_⟩:=id W9
  refine ⟨_,Z,o,L.dx,_,Z,ho9,Z,_,Z,f,CP,fx,_,.ref d1,Z,hf9,T.clP,T.nC,Z,d1,_,Z,.inr ⟨o1,j9 _ _ dS hd1⟩,λ lC ts HC qC=>⟨_,Z,_,Z,zN2,λ tA htA=>⟨zN1,λ lD hD=>?_⟩⟩⟩
  have pC:=J4 qC
  obtain ⟨gC,flC,elC,leC,_⟩:=qC
  have gC:Same _ HC:=gC
  have gA:=Ad htA (.tup [V.int 0,.int s.nx])
  have gD:=Ad hD (.lst [V.ref tA])
  rw [length_map] at leC
  refine ⟨lC,lD,_,_,Z,Z,(gA.trans gD) _ _ elC,Ab,by rw [length_map,length_singleton]; exact le_trans (by omega:_≤64) (by decide),λ lE hE'=>?_⟩
  have gE:=Ad hE' (.lst (ts.map V.ref ++ [V.ref tA]))
  have gCD:=(gC.trans gA).trans gD
  have gCE:=gCD.trans gE
  have WE:=W9.same gCE
  have pE:PySem.Paired (G7 (upd (upd (upd HC tA (.tup [V.int 0,.int s.nx])) lD (.lst [V.ref tA])) lE (.lst (ts.map V.ref ++ [V.ref tA])))) (ri.codes ++ [(0,s.nx)]) (ts.map V.ref ++ [V.ref tA]):=Co (Paired.mapP pC λ _ _ a=>a.mono ((gA.trans gD).trans gE).tp) (.cons ⟨tA,Z,(gD.trans gE) _ _ Ab⟩ .nil)
  refine ⟨o,lE,_,_,L,n,_,Z,WE,Ab,(W9.same gCD).offN hE',pE,by rw [length_append,length_singleton]; omega,by rw [A8,G6]; omega,λ d ob HF kF nF eF WF=>?_⟩
  have jF:=(j9.trans (Same.kpS gCE)).trans kF
  have haF:=jF _ _ aS ha
  refine ⟨_,Z,a,CP,dx,_,Z,haF,T.clP,T.nC,(by show 5 < 1000; decide),?_⟩
  have ad:a≠d:=Bl haF eF (by intro z; cases z)
  exact q _ ((jF.more sub).trans (KpS.upd mem_cons_self)) (WF.setA haF _) ⟨dx,d,ob,Ab,by rw [upd_ne (Ne.symm ad)]; exact eF⟩
def Cs (x y z:Int) (ri:Wr) (s:Ws):Ws:=((s.fil ri.kept "some" [y]).fil ri.runs "some" [x]).fil ri.stays "some" [z]
def Aar (x y z:Int) (ri:Wr) (s:Ws):Wr× Ws :=
 let j:=(Cs x y z ri s).jnd (ri.codes.map λ p=>(F7 p.1,p.2))
 (⟨x,y,z,ri.rests,j.1⟩,j.2)
def Cp (x y z:Int) (ri:Wr) (s:Ws) (p:Pt):Wr× Ws:=match p with
 | .trap _=>Aar x y z ri s
 | .again k _=>Lz k x y z ri (Cs x y z ri s)
 | p=>Ob x y z ri.rests ri (s.fil ri.kept "some" [y]) p
inductive Od (K:PySem.W.Frag) (C CP:Addr) (vs:List V) (H:Hp) (Q:VK):Prop
 | mk (o a dx f:Addr) (v:V) (p:Pt) (x y z:Int) (cv:V) (ri:Wr) (L:Lc) (n:Nat) (s:Ws) (_:vs = [.ref o,v,.ref a,.ref f]) (_:Au C H o L n s) (_:PAt K H p.nd v) (_:Ev p = true) (_:Ko n p) (_:H a = some (.ins CP dx (wdV x y z .non cv))) (_:B2 CP H f ri) (_:Gz s ri) (_:ri.codes.length≤20) (_:s.gs.length + 200≤1000000) (_:s.lv.length≤1000000) (_:Jj C CP o a L n Q H (Cp x y z ri s p)):Od K C CP vs H Q
def Mz (K:PySem.W.Frag) (C CP:Addr):Sp:=λ vs H Q _=>Od K C CP vs H Q
theorem Xo (F:Ba K mg "wire_round" ["wiring", "part", "whole", "inner"] Fc) (T:B3 K mg C CP) (aD:Bf P w K mg base 1 C "fill" ["self", "number", "word", "numbers"] (Gk C)) (aK:Bf P w K mg base 3 C "joined" ["self", "pairs"] (Hn C)) (bR:Am P w K mg base 1 "code_of_trap" ["code"] Vc) (bJ:Am P w K mg base 4 "wire_skipping" ["wiring", "part", "whole", "inner"] (T9 K C CP)) (cG:Am P w K mg base 4 "wire_again" ["wiring", "rest", "whole", "inner"] (Qz C CP)):Am P w K mg base 5 "wire_round" ["wiring", "part", "whole", "inner"] (Mz K C CP):=by
 refine F.ok Qh (λ vs H Q E h=>?_) (λ fn cdv A outer s0 H vs Q E hr h=>?_)
 ·obtain ⟨o,a,dx,f,v,p,x,y,z,cv,ri,L,n,s,rfl,_⟩:=h; rfl
 obtain ⟨o,a,dx,f,v,p,x,y,z,cv,ri,L,n,s,rfl,W,hp,rd,sg,ha,D,b1,cl,hb,hv,q⟩:=h
 obtain ⟨ao,aS⟩:=W.objOff ha
 have sub:∀ b∈L.S,b∈a :: L.S:=λ b h=>mem_cons_of_mem _ h
 refine ⟨_,(Ae (Bg (Aq aD hr Al (pv 0) (Aa (Ar (pv 3) rfl) (Aa An (Aa (A5 (Aa (Ar (pv 2) rfl) Ac)) Ac)))))
  (Ae (Cc (pv 2) (Ar (pv 3) rfl) rfl)
  (Ae (Bn (PW.pt (D8 (As Bm (Ao Ap (pv 1) Ag (λ _ _=>rfl)) An (Ax _)) (E8 (As Bm (Ao Ap (pv 1) Ag (λ _ _=>rfl)) An (Ax _)))))
   (Ae (Bg (Av bJ hr rfl Al (Aa (pv 0) (Aa (pv 1) (Aa (pv 2) (Aa (pv 3) Ac))))))
  (Ai (Uj)))
   Bc)
  (Ae (Bg (Aq aD hr Al (pv 0) (Aa (Ar (pv 3) rfl) (Aa An (Aa (A5 (Aa (Ar (pv 2) rfl) Ac)) Ac)))))
  (Ae (Bg (Aq aD hr Al (pv 0) (Aa (Ar (pv 3) rfl) (Aa An (Aa (A5 (Aa (Ar (pv 2) rfl) Ac)) Ac)))))
  (Ai (Bn (As Bm (Ao Ap (pv 1) Ag (λ _ _=>rfl)) An (Ax _))
   (Ai (Cc (pv 2) (Aq aK hr Al (pv 0) (Aa (Cu (g:=(B1 0)) (tc:=C1) (te:=(Q3 (B4 (Mi Vc [] E0 (B4 (tOp (G1 K) (Bt 0) (tC (.int 0))) Dp)) (B4 (tOp (G1 K) (Bt 0) (tC (.int 1))) Dp)))) ["pair"] [] rfl (Ci (Aj Fc) ["wiring", "part", "whole", "inner"] (by decide +kernel)) (Ms (Ar (pv 3) rfl)) (λ s2 H2 fp cl C=>A3 (i:=0) (show Nodup [("pair" : Str)] from by decide +kernel) rfl (Or.inl rfl)) (Bo (by decide)) (λ s2 H2 fp cl C=>Df) (λ s2 H2 fp cl C=>(Be (Aa (Av bR hr rfl Al (Aa (Ao Ap (pv 0) Ag (λ _ _=>rfl)) Ac)) (Aa (Ao Ap (pv 0) Ag (λ _ _=>rfl)) Ac))))) Ac)) rfl))
   (Ai (Bg (Av cG hr rfl Al (Aa (pv 0) (Aa (Ao Ap (pv 1) Ag (λ _ _=>rfl)) (Aa (pv 2) (Aa (pv 3) Ac)))))))))))))),?_⟩
 obtain ⟨fx,d1,o1,hf,hd1⟩:=id D
 have fS:=(W.objOff hf).2
 have dS:=W.offF hd1
 have fa:f≠a:=Bl hf ha (by intro z; have:=(HO.ins.inj z).2.2; unfold wdV at this; simp at this)
 have fA:f∉a :: L.S:=λ z=>(mem_cons.mp z).elim fa fS
 have dA:d1∉a :: L.S:=λ z=>(mem_cons.mp z).elim (Bl hd1 ha (by intro z; cases z)) dS
 obtain ⟨_,ho,_⟩:=id W
 refine ⟨_,Z,o,L.dx,_,Z,ho,Z,_,Z,f,CP,fx,_,.int ri.kept,Z,hf,T.clP,T.nK,Z,_,Z,a,CP,dx,_,.int y,Z,ha,T.clP,T.nK,Z,zN1,λ l1 h1=>?_⟩
 have g1:=Ad h1 (.lst [V.int y])
 refine ⟨o,l1,ri.kept, "some", [y],L,n,s,Z,W.same g1,Ab,b1.2.1.1,b1.2.1.2,λ H1 k1' W1=>?_⟩
 have k1:=(Same.kpS g1).trans k1'
 have ha1:=k1 _ _ aS ha
 refine ⟨_,Z,f,CP,fx,_,.int ri.rests,Z,k1 _ _ fS hf,T.clP,T.nE,Z,_,Z,a,CP,dx,_,Z,ha1,T.clP,T.nE,(by show 5 < 1000; decide),?_⟩
 have W2:=W1.setA ha1 (.ins CP dx (Ce "rests" (V.int ri.rests) (wdV x y z .non cv)))
 have hA2:(upd H1 a (.ins CP dx (Ce "rests" (V.int ri.rests) (wdV x y z .non cv)))) a = some (.ins CP dx (wdV x y z (.int ri.rests) cv)):=Ab
 have k2:KpS (a :: L.S) H (upd H1 a (.ins CP dx (Ce "rests" (V.int ri.rests) (wdV x y z .non cv)))):=(k1.more sub).trans (KpS.upd mem_cons_self)
 have tp2:Tp H (upd H1 a (.ins CP dx (Ce "rests" (V.int ri.rests) (wdV x y z .non cv)))):=(W.tp k1).trans (Ls ha1 (KpS.upd mem_cons_self))
 generalize upd H1 a (.ins CP dx (Ce "rests" (V.int ri.rests) (wdV x y z .non cv))) = H2 at *
 have D2:B2 CP H2 f ri:=⟨fx,d1,o1,k2 _ _ fA hf,k2 _ _ dA hd1⟩
 have hp2:=hp.mono tp2
 obtain ⟨t,vs,rfl,hs⟩:=Oa hp2
 have skip:Rb p = true→∀ H',KpS (a :: L.S) H2 H'→Au C H' o L n (Ob x y z ri.rests ri (s.fil ri.kept "some" [y]) p).2→B2 CP H' a (Ob x y z ri.rests ri (s.fil ri.kept "some" [y]) p).1→Q .non H':=λ hsk H' k=>by
  have e:Cp x y z ri s p = Ob x y z ri.rests ri (s.fil ri.kept "some" [y]) p:=by cases p <;> first | rfl | cases hsk
  rw [← e]
  exact q H' (k2.trans k)
 have b2:Gz (s.fil ri.kept "some" [y]) ri:=by unfold Gz Rng at *; rw [Fa]; exact b1
 refine ⟨_,Z,t,_,_,_,Z,Z,hs.sq,Ah (j:=0) rfl,Z,_,Z,G0 (λ e=>Dy ?_) λ n1=>⟨_,Z,t,_,_,_,Z,Z,hs.sq,Ah (j:=0) rfl,Z,_,Z,G0 (λ e=>?_) λ n2=>?_⟩⟩
 ·have hsk:Rb p = true:=by obtain ⟨_,_,rfl⟩:=Uk e; rfl
  exact ⟨_,Z,_,Z,_,Z,_,Z,o,a,dx,f,_,p,x,y,z,ri.rests,cv,ri,L,n,_,Z,W2,hp2,hsk,sg,hA2,D2,fa,b2,cl,by rw [A8]; omega,skip hsk⟩
 ·have hsk:Rb p = true:=by obtain ⟨_,_,rfl⟩:=Y6 e; rfl
  exact ⟨_,Z,_,Z,_,Z,_,Z,o,a,dx,f,_,p,x,y,z,ri.rests,cv,ri,L,n,_,Z,W2,hp2,hsk,sg,hA2,D2,fa,b2,cl,by rw [A8]; omega,skip hsk⟩
 obtain ⟨_,ho2,_⟩:=id W2
 refine ⟨_,Z,o,L.dx,_,Z,ho2,Z,_,Z,f,CP,fx,_,.int ri.runs,Z,k2 _ _ fA hf,T.clP,T.nR,Z,_,Z,a,CP,dx,_,.int x,Z,hA2,T.clP,T.nR,Z,zN1,λ l3 h3=>?_⟩
 have g3:=Ad h3 (.lst [V.int x])
 refine ⟨o,l3,ri.runs, "some", [x],L,n,_,Z,W2.same g3,Ab,b2.1.1,b2.1.2,λ H4 k4' W4=>?_⟩
 have k4:=(Same.kpS g3).trans k4'
 obtain ⟨_,ho4,_⟩:=id W4
 have hA4:=k4 _ _ aS hA2
 have k24:=k2.trans (k4.more sub)
 refine ⟨_,Z,o,L.dx,_,Z,ho4,Z,_,Z,f,CP,fx,_,.int ri.stays,Z,k24 _ _ fA hf,T.clP,T.nT,Z,_,Z,a,CP,dx,_,.int z,Z,hA4,T.clP,T.nT,Z,zN1,λ l5 h5=>?_⟩
 have g5:=Ad h5 (.lst [V.int z])
 refine ⟨o,l5,ri.stays, "some", [z],L,n,_,Z,W4.same g5,Ab,b2.2.2.1,by rw [Fa]; exact b2.2.2.2,λ H6 k6' W6'=>?_⟩
 have W6:Au C H6 o L n (Cs x y z ri s):=W6'
 have k26:=(k4.trans (Same.kpS g5)).trans k6'
 have hA6:=k26 _ _ aS hA2
 have k6:=k2.trans (k26.more sub)
 have hs6:=hs.mono (W2.tp k26)
 have lr:(Cs x y z ri s).gs.length = s.gs.length:=by unfold Cs; rw [A8,A8,A8]
 have lvr:(Cs x y z ri s).lv = s.lv:=rfl
 have D6:B2 CP H6 f ri:=⟨fx,d1,o1,k6 _ _ fA hf,k6 _ _ dA hd1⟩
 refine ⟨_,Z,t,_,_,_,Z,Z,hs6.sq,Ah (j:=0) rfl,Z,_,Z,G0 (λ e=>?_) λ n3=>?_⟩
 ·obtain ⟨p1,rfl⟩:=Aat e
  obtain ⟨_,ho6,_⟩:=id W6
  have hd6:=k6 _ _ dA hd1
  refine ⟨_,Z,o,L.dx,_,Z,ho6,Z,_,Z,f,CP,fx,_,.ref d1,Z,k6 _ _ fA hf,T.clP,T.nC,Z,d1,o1,_,Z,hd6,Ki (λ i ys H'=>Same H6 H'∧PySem.Paired (G7 H') ((ri.codes.take i).map λ p=>(F7 p.1,p.2)) ys) ⟨Same.refl _,.nil⟩ (by rw [length_map]; exact le_trans (by omega:ri.codes.length≤64) (by decide)) (λ i ys H' hh=>hh.1 _ _ hd6) ?_ ?_⟩
  ·rintro i p t ys H' N hi ⟨gg,hy⟩ ht hN hyl
   have hil:i < ri.codes.length:=by have:=(List.getElem?_eq_some_iff.mp hi).1; rwa [length_map] at this
   rw [getElem?_map,getElem?_eq_getElem hil] at hi
   cases hi
   have gt:=Ad ht (.tup [V.int (ri.codes[i]).1,V.int (ri.codes[i]).2])
   have tk:ri.codes.take (i + 1) = ri.codes.take i ++ [ri.codes[i]]:=by rw [take_succ,getElem?_eq_getElem hil]; rfl
   refine ⟨_,Z,t,_,_,_,Z,Z,SqT.of Ab,Ah (j:=0) rfl,_,Z,_,Z,t,_,_,_,Z,Z,SqT.of Ab,Ah (j:=1) rfl,zN2,λ t2 ht2=>?_⟩
   have gt2:=Ad ht2 (.tup [V.int (F7 (ri.codes[i]).1),V.int (ri.codes[i]).2])
   refine hN _ _ (by rw [length_append,length_singleton]; omega) ⟨(gg.trans gt).trans gt2,?_⟩
   rw [tk,map_append]
   exact Co (Paired.mapP hy λ _ _ a=>a.mono (gt.trans gt2).tp) (.cons ⟨t2,Z,Ab⟩ .nil)
  rintro ys H7 hyl ⟨g7,hy⟩ D7 hD7
  rw [length_map,take_length] at hy
  have gD:=Ad hD7 (.lst ys)
  have W8:=(W6.same g7).same gD
  have lp:=PySem.Paired.length hy
  rw [length_map] at lp
  refine ⟨o,D7,_,_,L,n,_,Z,W8,Ab,(W6.same g7).offN hD7,Paired.mapP hy λ _ _ a=>a.mono gD.tp,by rw [length_map]; omega,by omega,λ d ob H9 k9' nd9 e9 W9=>?_⟩
  have k9:=(Same.kpS (g7.trans gD)).trans k9'
  have hA9:=k9 _ _ aS hA6
  refine ⟨_,Z,a,CP,dx,_,Z,hA9,T.clP,T.nC,(by show 5 < 1000; decide),?_⟩
  have ad:a≠d:=Bl hA9 e9 (by intro z; cases z)
  exact q _ ((k6.trans (k9.more sub)).trans (KpS.upd mem_cons_self)) (W9.setA hA9 _) ⟨dx,d,ob,Ab,by rw [upd_ne (Ne.symm ad)]; exact e9⟩
 ·obtain ⟨k,p1,rfl⟩:∃ k p1,p = .again k p1:=by
   cases p <;> first | exact absurd rfl n1 | exact absurd rfl n2 | exact absurd rfl n3 | exact ⟨_,_,Z⟩ | cases rd
  have hp:=hp2
  obtain ⟨t',vs',ev,hs',hx⟩:=PAt.get hp
  cases ev
  obtain ⟨x0,x1,x2,rfl,h0,h1',h2⟩:=hx.three
  cases h0.str
  cases h1'.int
  have hs7:=hs'.mono (W2.tp k26)
  exact ⟨_,Z,_,Z,t,_,_,_,Z,Z,hs7.sq,Ah (j:=1) rfl,_,Z,_,Z,o,a,dx,f,k,x,y,z,ri.rests,cv,ri,L,n,_,Z,W6,hA6,D6,fa,cl,by omega,hv,λ H' kk=>q H' (k6.trans kk)⟩
end
structure Gr (s s':Ws) (c k:Nat):Prop where
 lo:s.gs.length≤s'.gs.length
 hi:s'.gs.length≤s.gs.length + c
 sn:s'.sn.length = s.sn.length
 rows:∀ B:Nat,(∀ r∈s.sn,r.length≤B)→∀ r∈s'.sn,r.length≤B + k
 lv:s'.lv.length≤s.lv.length + k
theorem Gr.refl (s:Ws):Gr s s 0 0:=⟨le_refl _,le_refl _,Z,λ B h=>h,le_refl _⟩
theorem Gr.trans {s s1 s2:Ws} {c1 c2 k1 k2:Nat} (a:Gr s s1 c1 k1) (b:Gr s1 s2 c2 k2):Gr s s2 (c1 + c2) (k1 + k2) where
 lo:=le_trans a.lo b.lo
 hi:=by have:=a.hi; have:=b.hi; omega
 sn:=b.sn.trans a.sn
 rows:=λ B h r hr=>by have:=b.rows (B + k1) (a.rows B h) r hr; omega
 lv:=by have:=a.lv; have:=b.lv; omega
theorem Gr.more {s s':Ws} {c k c' k':Nat} (a:Gr s s' c k) (hc:c≤c') (hk:k≤k'):Gr s s' c' k' where
 lo:=a.lo
 hi:=by have:=a.hi; omega
 sn:=a.sn
 rows:=λ B h r hr=>by have:=a.rows B h r hr; omega
 lv:=by have:=a.lv; omega
theorem Gr.keep {s s':Ws} {c:Nat} (lo:s.gs.length≤s'.gs.length) (hi:s'.gs.length≤s.gs.length + c) (hs:s'.sn = s.sn) (hl:s'.lv = s.lv):Gr s s' c 0:=⟨lo,hi,by rw [hs],λ B h=>by rw [hs]; exact h,by rw [hl]; exact le_refl _⟩
theorem Gr.add (s:Ws) (w:Str) (ns:List Int):Gr s (s.add w ns) 1 0:=.keep (by rw [Af]; omega) (by rw [Af]; omega) rfl rfl
theorem Gr.fil (s:Ws) (g:Int) (w:Str) (ns:List Int):Gr s (s.fil g w ns) 0 0:=.keep (by rw [A8]; omega) (by rw [A8]; omega) rfl rfl
theorem Nn (s:Ws) (ns:List Int):(s.som ns).2.sn = s.sn∧(s.som ns).2.lv = s.lv:=by unfold Ws.som; split <;> exact ⟨Z,Z⟩
theorem Kd (cs:Cd) (c:Int) (s:Ws):(cgt cs c s).2.sn = s.sn∧(cgt cs c s).2.lv = s.lv:=by
 unfold cgt
 split
 ·exact ⟨Z,Z⟩
 ·exact Nn s []
theorem Gr.cgt (cs:Cd) (c:Int) (s:Ws):Gr s (cgt cs c s).2 1 0:=.keep (De cs c s).1 (De cs c s).2 (Kd cs c s).1 (Kd cs c s).2
def KO (cs:Cd):Prop:=∀ p∈cs,0≤p.1∧p.1 < 6
theorem N8:∀ (l:List Int) (a b:Int),a≤b→l.Pairwise (· < ·)→(∀ x∈l,a≤x∧x < b)→(l.length:Int)≤b - a
 | [],a,b,h,_,_=>by simp; omega
 | x :: r,a,b,h,hp,hx=>by
  have h1:=hx x mem_cons_self
  have h2:=pairwise_cons.mp hp
  have:=N8 r (x + 1) b (by omega) h2.2 λ y hy=>⟨by have:=h2.1 y hy; omega,(hx y (mem_cons_of_mem _ hy)).2⟩
  rw [length_cons]
  omega
theorem Jp {l:List Int} (h:∀ x∈l,0≤x∧x < 6):(nub l).length≤6:=by
 have:=N8 (nub l) 0 6 (by decide) (Gu l) λ x hx=>h x (Iu.mp hx)
 omega
theorem KO.keys {cs:Cd} (h:KO cs):∀ x∈cs.map (·.1),0≤x∧x < 6:=λ x hx=>by
 obtain ⟨p,hp,rfl⟩:=mem_map.mp hx
 exact h p hp
theorem KO.of_keys {cs:Cd} (h:∀ x∈cs.map (·.1),0≤x∧x < 6):KO cs:=λ p hp=>h _ (mem_map_of_mem hp)
theorem KO.app {a b:Cd} (ha:KO a) (hb:KO b):KO (a ++ b):=λ p hp=>(mem_append.mp hp).elim (ha p) (hb p)
theorem Ht (s:Ws) (ps:Cd):(s.jnd ps).2.sn = s.sn:=by
 have k:∀ (cs:List Int) (a:Cd× Ws),(cs.foldl (jstep ps) a).2.sn = a.2.sn:=by
  intro cs
  induction cs with
  | nil=>intro a; rfl
  | cons c cs ih=>intro a; rw [foldl_cons,ih]; exact (Nn _ _).1
 exact k _ ([],s)
theorem C4 (s:Ws) {ps:Cd} (h:KO ps):KO (s.jnd ps).1∧(s.jnd ps).1.length≤6:=by
 have e:(s.jnd ps).1.map (·.1) = nub (ps.map (·.1)):=Im _ _ _
 refine ⟨.of_keys λ x hx=>?_,?_⟩
 ·rw [e] at hx
  exact h.keys x (Iu.mp hx)
 ·rw [← length_map (f:=(·.1)),e]
  exact Jp h.keys
theorem Gr.jnd (s:Ws) {ps:Cd} (h:KO ps):Gr s (s.jnd ps).2 6 0:=by
 refine .keep (K9 s ps) ?_ (Ht s ps) (Ee s ps)
 have h1:=Lq ps (nub (ps.map (·.1))) s
 have h2:=Jp h.keys
 unfold Ws.jnd
 omega
theorem Oc (s:Ws) (c0 c1:Cd):(s.grc c0 c1).2.sn = s.sn∧(s.grc c0 c1).2.lv = s.lv:=by
 have nf:∀ (c:Int) (l:List Cd) (a:List Int× Ws),(l.foldl (nstep c) a).2.sn = a.2.sn∧(l.foldl (nstep c) a).2.lv = a.2.lv:=by
  intro c l
  induction l with
  | nil=>intro a; exact ⟨rfl,rfl⟩
  | cons d r ih=>intro a; rw [foldl_cons,(ih _).1,(ih _).2]; exact Nn _ _
 have k:∀ (ks:List Int) (a:Cd× Ws),(ks.foldl (gstep [c0,c1]) a).2.sn = a.2.sn∧(ks.foldl (gstep [c0,c1]) a).2.lv = a.2.lv:=by
  intro ks
  induction ks with
  | nil=>intro a; exact ⟨rfl,rfl⟩
  | cons c ks ih =>
   intro a
   rw [foldl_cons,(ih _).1,(ih _).2]
   have h1:=nf c [c0,c1] ([(a.2.som (Bu [c0,c1] c)).1],(a.2.som (Bu [c0,c1] c)).2)
   have h2:=Nn a.2 (Bu [c0,c1] c)
   exact ⟨h1.1.trans h2.1,h1.2.trans h2.2⟩
 exact k _ ([],s)
theorem Yd (s:Ws) {c0 c1:Cd} (h0:KO c0) (h1:KO c1):KO (s.grc c0 c1).1∧(s.grc c0 c1).1.length≤6:=by
 have e:(s.grc c0 c1).1.map (·.1) = nub (c0.map (·.1) ++ c1.map (·.1)):=Ij _ _ _
 have hk:∀ x∈c0.map (·.1) ++ c1.map (·.1),0≤x∧x < 6:=λ x hx=>(mem_append.mp hx).elim (h0.keys x) (h1.keys x)
 refine ⟨.of_keys λ x hx=>?_,?_⟩
 ·rw [e] at hx
  exact hk x (Iu.mp hx)
 ·rw [← length_map (f:=(·.1)),e]
  exact Jp hk
theorem Gr.grc (s:Ws) {c0 c1:Cd} (h0:KO c0) (h1:KO c1):Gr s (s.grc c0 c1).2 24 0:=by
 refine .keep (Uf s c0 c1).1 ?_ (Oc s c0 c1).1 (Oc s c0 c1).2
 have h2:=Ld [c0,c1] (nub (c0.map (·.1) ++ c1.map (·.1))) s
 have h3:=Jp (l:=c0.map (·.1) ++ c1.map (·.1)) λ x hx=>(mem_append.mp hx).elim (h0.keys x) (h1.keys x)
 rw [show [c0,c1].length = 2 from rfl] at h2
 unfold Ws.grc
 omega
theorem Zj (l:Cd) (k v:Int):(Hy l k v).length≤l.length + 1:=by
 unfold Hy
 split
 ·rw [length_map]; omega
 ·rw [length_append,length_singleton]; omega
theorem Gr.lev (s:Ws) (k v:Int):Gr s (s.lev k v) 0 1:=⟨le_refl _,le_refl _,Z,λ B h r hr=>by have:=h r hr; omega,Zj _ _ _⟩
theorem Gr.sen (s:Ws) (i g:Int):Gr s (s.sen i g) 0 1 where
 lo:=le_refl _
 hi:=le_refl _
 sn:=by unfold Ws.sen; rw [length_set]
 rows:=λ B h r hr=>by
  unfold Ws.sen at hr
  rcases List.mem_or_eq_of_mem_set hr with z | z
  ·have:=h r z; omega
  ·rw [z,length_append,length_singleton]
   have:(s.sn.getD i.toNat []).length≤B:=by
    rw [getD_eq_getElem?_getD]
    cases e:s.sn[i.toNat]? with
    | none=>simp
    | some x=>exact h x (mem_of_getElem? e)
   omega
 lv:=le_succ _
theorem Gr.lvg (s:Ws) (k y z m c:Int):Gr s (s.lvg k y z m c) 3 1:=((((Gr.add _ _ _).trans (.add _ _ _)).trans (.add _ _ _)).trans (.lev _ _ _)).more (by omega) (by omega)
def okN (n:Nat):Pt→Prop
 | .nothing=>True
 | .rest _=>True
 | .send i=>0≤i∧i < n
 | .exit d=>0≤d∧d < 4
 | .stay _=>False
 | .iff i p q=>(0≤i∧i < n)∧okN n p∧okN n q
 | .again _ p=>okN n p
 | .hold i p=>(0≤i∧i < n)∧okN n p
 | .watch i p=>(0≤i∧i < n)∧okN n p
 | .trap p=>okN n p
 | .thn p q=>okN n p∧okN n q
 | .bes p q=>okN n p∧okN n q
def Pt.sz:Pt→Nat
 | .iff _ p q=>p.sz + q.sz + 1
 | .again _ p=>p.sz + 1
 | .hold _ p=>p.sz + 1
 | .watch _ p=>p.sz + 1
 | .trap p=>p.sz + 1
 | .thn p q=>p.sz + q.sz + 1
 | .bes p q=>p.sz + q.sz + 1
 | _=>1
structure Wk (w:Wr× Ws) (x y z:Int) (s:Ws) (c k:Nat):Prop where
 gr:Gr s w.2 c k
 runs:w.1.runs = x
 kept:w.1.kept = y
 stays:w.1.stays = z
 ko:KO w.1.codes
 sh:w.1.codes.length≤6
theorem Wk.more {w:Wr× Ws} {x y z:Int} {s:Ws} {c k c' k':Nat} (h:Wk w x y z s c k) (hc:c≤c') (hk:k≤k'):Wk w x y z s c' k':=⟨h.gr.more hc hk,h.runs,h.kept,h.stays,h.ko,h.sh⟩
theorem rg0:(0:Int)≤0∧(0:Int) < 6:=⟨by decide,by decide⟩
theorem rg1:(0:Int)≤1∧(1:Int) < 6:=⟨by decide,by decide⟩
theorem Rr {c:Int} (x y z:Int) (s:Ws) (hc:0≤c∧c < 6):Wk (wLf c x y z s) x y z s 1 0:=⟨.add _ _ _,Z,Z,Z,λ p hp=>by rw [show (wLf c x y z s).1.codes = [(c,x)] from rfl] at hp; rw [mS hp]; exact hc,by show 1≤6; decide⟩
theorem Q6 {n:Nat} {p:Pt} (x y z:Int) (s:Ws) (lf:K8 p = true) (ok:okN n p):Wk (Jq x y z s p) x y z s 10 1:=by
 cases p with
 | rest k =>
  refine ⟨((((((Gr.add s _ _).trans (.add _ _ _)).trans (.add _ _ _)).trans (.add _ _ _)).trans (.lvg _ _ _ _ _ _))).more (by omega) (by omega),Z,Z,Z,λ p hp=>?_,by show 2≤6; decide⟩
  rcases mem_cons.mp hp with z | z
  ·rw [z]; exact rg0
  ·rw [mS z]; exact rg1
 | send i =>
  have h:=Rr x y z (s.sen i x) (c:=0) ⟨by decide,by decide⟩
  exact ⟨((Gr.sen s i x).trans h.gr).more (by omega) (by omega),Z,Z,Z,h.ko,h.sh⟩
 | exit d=>exact (Rr x y z s (c:=2 + d) ⟨by have:=ok.1; omega,by have:=ok.2; omega⟩).more (by omega) (by omega)
 | nothing=>exact (Rr x y z s (c:=0) ⟨by decide,by decide⟩).more (by omega) (by omega)
 | stay ks=>exact absurd ok id
 | _=>cases lf
theorem AaI {r1 r2:Wr} (x y z rr:Int) (s:Ws) (h1:KO r1.codes) (h2:KO r2.codes):Wk (wThen x y z rr r1 r2 s) x y z s 9 0:=by
 have hk:KO (r1.codes.filter (λ p=>!decide (p.1 = 0)) ++ r2.codes):=KO.app (λ p hp=>h1 p (mem_filter.mp hp).1) h2
 exact ⟨(((((Gr.add s _ _).trans (.add _ _ _)).trans (.fil _ _ _ _)).trans (.cgt _ _ _)).trans (.fil _ _ _ _)).trans (.jnd _ hk) |>.more (by omega) (by omega),Z,Z,Z,(C4 _ hk).1,(C4 _ hk).2⟩
theorem Acg {r1 r2:Wr} (x y z rr sg:Int) (s:Ws) (h1:KO r1.codes) (h2:KO r2.codes):Wk (wIf x y z rr sg r1 r2 s) x y z s 13 0:=by
 have hk:=KO.app h1 h2
 have st:∀ (bg:Int) (s:Ws) (it:Wr× Int),Gr s (Cg x bg s it) 2 0:=λ bg s it=>(((Gr.add s _ _).trans (.add _ _ _)).trans (.fil _ _ _ _)).more (by omega) (by omega)
 exact ⟨(((((Gr.add s _ _).trans (.add _ _ _)).trans (.add _ _ _)).trans (st _ _ _)).trans (st _ _ _)).trans (.jnd _ hk) |>.more (by omega) (by omega),Z,Z,Z,(C4 _ hk).1,(C4 _ hk).2⟩
theorem Ud {r1 r2:Wr} (x y z rr:Int) (s:Ws) (h1:KO r1.codes) (h2:KO r2.codes):Wk (wBes x y z rr r1 r2 s) x y z s 44 0:=by
 have hz:∀ g:Int,KO [((0:Int),g)]:=λ g p hp=>by rw [mS hp]; exact rg0
 have st:∀ (s:Ws) (it:Wr× Wr) (g:Int),KO it.1.codes→Gr s ((bsS x s it).jnd (it.1.codes ++ [(0,g)])).2 10 0:=λ s it g h=>((((((Gr.add s _ _).trans (.add _ _ _)).trans (.add _ _ _)).trans (.fil _ _ _ _)).trans (.add _ _ _)).trans (.jnd _ (h.app (hz g)))).more (by omega) (by omega)
 have g1:=st s (r1,r2) (s.nx + 3) h1
 have g2:=st ((bsS x s (r1,r2)).jnd (r1.codes ++ [(0,s.nx + 3)])).2 (r2,r1) (((bsS x s (r1,r2)).jnd (r1.codes ++ [(0,s.nx + 3)])).2.nx + 3) h2
 have k1:=(C4 (bsS x s (r1,r2)) (h1.app (hz (s.nx + 3)))).1
 have k2:=(C4 (bsS x ((bsS x s (r1,r2)).jnd (r1.codes ++ [(0,s.nx + 3)])).2 (r2,r1)) (h2.app (hz (((bsS x s (r1,r2)).jnd (r1.codes ++ [(0,s.nx + 3)])).2.nx + 3)))).1
 exact ⟨((g1.trans g2).trans (.grc _ k1 k2)).more (by omega) (by omega),Z,Z,Z,(Yd _ k1 k2).1,(Yd _ k1 k2).2⟩
theorem Mq {p:Pt} {r1 r2:Wr} (x y z:Int) (s:Ws) (h1:KO r1.codes) (h2:KO r2.codes):Wk (Eb p x y z r1 r2 s) x y z s 46 0:=by
 have pf:∀ (kept:List Int) (s:Ws) (r:Wr),Gr s (pfS kept z s r) 0 0:=λ kept s r=>(Gr.fil s _ _ _).trans (.fil _ _ _ _)
 have key:∀ (b:Wr× Ws× List Int),Wk (b.1,b.2.1) x y z s 46 0→Wk (b.1,[r1,r2].foldl (pfS b.2.2 z) b.2.1) x y z s 46 0:=λ b h=>⟨(h.gr.trans (pf _ _ _)).trans (pf _ _ _) |>.more (by omega) (by omega),h.runs,h.kept,h.stays,h.ko,h.sh⟩
 refine key (Hs p x y z r1 r2 s) ?_
 have ga:=Gr.add s "some" [r1.rests,r2.rests]
 have bes:Wk ((wBes x y z s.nx r1 r2 (s.add "some" [r1.rests,r2.rests])).1,(cgt (wBes x y z s.nx r1 r2 (s.add "some" [r1.rests,r2.rests])).1.codes 1 (wBes x y z s.nx r1 r2 (s.add "some" [r1.rests,r2.rests])).2).2) x y z s 46 0:=by
  have h:=Ud x y z s.nx (s.add "some" [r1.rests,r2.rests]) h1 h2
  exact ⟨((ga.trans h.gr).trans (.cgt _ _ _)).more (by omega) (by omega),h.runs,h.kept,h.stays,h.ko,h.sh⟩
 cases p with
 | thn p q =>
  have h:=AaI x y z s.nx (s.add "some" [r1.rests,r2.rests]) h1 h2
  exact ⟨(ga.trans h.gr).more (by omega) (by omega),h.runs,h.kept,h.stays,h.ko,h.sh⟩
 | iff i p q =>
  have h:=Acg x y z s.nx i (s.add "some" [r1.rests,r2.rests]) h1 h2
  exact ⟨(ga.trans h.gr).more (by omega) (by omega),h.runs,h.kept,h.stays,h.ko,h.sh⟩
 | _=>exact bes
theorem Lv {p:Pt} {ri:Wr} (x y z:Int) (s:Ws) (rd:Ev p = true) (h:KO ri.codes):Wk (Cp x y z ri s p) x y z s 16 1:=by
 have g3:Gr s (Cs x y z ri s) 0 0:=((Gr.fil s _ _ _).trans (.fil _ _ _ _)).trans (.fil _ _ _ _)
 have g5:∀ (i:Int) (s:Ws),Gr s (Da i x ri s) 4 0:=λ i s=>(((((Gr.add s _ _).trans (.add _ _ _)).trans (.add _ _ _)).trans (.add _ _ _)).trans (.fil _ _ _ _)).more (by omega) (by omega)
 cases p with
 | trap p =>
  have hk:KO (ri.codes.map λ p=>(F7 p.1,p.2)):=λ q hq=>by
   obtain ⟨c,hc,rfl⟩:=mem_map.mp hq
   have:=h c hc
   show 0≤F7 c.1∧F7 c.1 < 6
   unfold F7
   split
   ·omega
   ·split <;> omega
  exact ⟨(g3.trans (.jnd _ hk)).more (by omega) (by omega),Z,Z,Z,(C4 _ hk).1,(C4 _ hk).2⟩
 | again k p =>
  have hk:KO (ri.codes.map λ p=>(agC p.1,p.2)):=λ q hq=>by
   obtain ⟨c,hc,rfl⟩:=mem_map.mp hq
   have:=h c hc
   show 0≤agC c.1∧agC c.1 < 6
   unfold agC
   split <;> omega
  exact ⟨(((((g3.trans (.add _ _ _)).trans (.add _ _ _)).trans (.jnd _ hk)).trans (.cgt _ _ _)).trans (.lvg _ _ _ _ _ _)).more (by omega) (by omega),Z,Z,Z,(C4 _ hk).1,(C4 _ hk).2⟩
 | hold i p =>
  have hk:KO (ri.codes ++ [((1:Int),(s.fil ri.kept "some" [y]).nx)]):=h.app λ p hp=>by rw [mS hp]; exact rg1
  exact ⟨(((((Gr.fil s ri.kept "some" [y]).trans (g5 i _)).trans (.add _ _ _)).trans (.fil _ _ _ _)).trans (.jnd _ hk)).more (by omega) (by omega),Z,Z,Z,(C4 _ hk).1,(C4 _ hk).2⟩
 | watch i p =>
  have hk:KO (ri.codes ++ [((0:Int),(s.fil ri.kept "some" [y]).nx)]):=h.app λ p hp=>by rw [mS hp]; exact rg0
  exact ⟨((((Gr.fil s ri.kept "some" [y]).trans (g5 i _)).trans (.fil _ _ _ _)).trans (.jnd _ hk)).more (by omega) (by omega),Z,Z,Z,(C4 _ hk).1,(C4 _ hk).2⟩
 | _=>cases rd
def wireP:Pt→Ws→Wr× Ws
 | .iff i p q,s=>Eb (.iff i p q) s.nx (s.nx + 1) (s.nx + 2) (wireP p s.add3).1 (wireP q (wireP p s.add3).2).1 (wireP q (wireP p s.add3).2).2
 | .thn p q,s=>Eb (.thn p q) s.nx (s.nx + 1) (s.nx + 2) (wireP p s.add3).1 (wireP q (wireP p s.add3).2).1 (wireP q (wireP p s.add3).2).2
 | .bes p q,s=>Eb (.bes p q) s.nx (s.nx + 1) (s.nx + 2) (wireP p s.add3).1 (wireP q (wireP p s.add3).2).1 (wireP q (wireP p s.add3).2).2
 | .again k p,s=>Cp s.nx (s.nx + 1) (s.nx + 2) (wireP p s.add3).1 (wireP p s.add3).2 (.again k p)
 | .hold i p,s=>Cp s.nx (s.nx + 1) (s.nx + 2) (wireP p s.add3).1 (wireP p s.add3).2 (.hold i p)
 | .watch i p,s=>Cp s.nx (s.nx + 1) (s.nx + 2) (wireP p s.add3).1 (wireP p s.add3).2 (.watch i p)
 | .trap p,s=>Cp s.nx (s.nx + 1) (s.nx + 2) (wireP p s.add3).1 (wireP p s.add3).2 (.trap p)
 | p,s=>Jq s.nx (s.nx + 1) (s.nx + 2) s.add3 p
theorem Gr.add3 (s:Ws):Gr s s.add3 3 0:=((Gr.add s _ _).trans (.add _ _ _)).trans (.add _ _ _)
theorem B9 {n:Nat} (p:Pt):∀ (s:Ws),okN n p→Wk (wireP p s) s.nx (s.nx + 1) (s.nx + 2) s (50 * p.sz) p.sz:=by
 have pair:∀ (p p1 p2:Pt) (s:Ws),p.sz = p1.sz + p2.sz + 1→Wk (wireP p1 s.add3) s.add3.nx (s.add3.nx + 1) (s.add3.nx + 2) s.add3 (50 * p1.sz) p1.sz→Wk (wireP p2 (wireP p1 s.add3).2) (wireP p1 s.add3).2.nx ((wireP p1 s.add3).2.nx + 1) ((wireP p1 s.add3).2.nx + 2) (wireP p1 s.add3).2 (50 * p2.sz) p2.sz→Wk (Eb p s.nx (s.nx + 1) (s.nx + 2) (wireP p1 s.add3).1 (wireP p2 (wireP p1 s.add3).2).1 (wireP p2 (wireP p1 s.add3).2).2) s.nx (s.nx + 1) (s.nx + 2) s (50 * p.sz) p.sz:=λ p p1 p2 s e h1 h2=>by
  have h:=Mq (p:=p) s.nx (s.nx + 1) (s.nx + 2) (wireP p2 (wireP p1 s.add3).2).2 h1.ko h2.ko
  exact ⟨((((Gr.add3 s).trans h1.gr).trans h2.gr).trans h.gr).more (by omega) (by omega),h.runs,h.kept,h.stays,h.ko,h.sh⟩
 have round:∀ (p p1:Pt) (s:Ws),Ev p = true→p.sz = p1.sz + 1→Wk (wireP p1 s.add3) s.add3.nx (s.add3.nx + 1) (s.add3.nx + 2) s.add3 (50 * p1.sz) p1.sz→Wk (Cp s.nx (s.nx + 1) (s.nx + 2) (wireP p1 s.add3).1 (wireP p1 s.add3).2 p) s.nx (s.nx + 1) (s.nx + 2) s (50 * p.sz) p.sz:=λ p p1 s rd e h1=>by
  have h:=Lv (p:=p) s.nx (s.nx + 1) (s.nx + 2) (wireP p1 s.add3).2 rd h1.ko
  exact ⟨(((Gr.add3 s).trans h1.gr).trans h.gr).more (by omega) (by omega),h.runs,h.kept,h.stays,h.ko,h.sh⟩
 have leaf:∀ (p:Pt) (s:Ws),K8 p = true→p.sz = 1→okN n p→Wk (Jq s.nx (s.nx + 1) (s.nx + 2) s.add3 p) s.nx (s.nx + 1) (s.nx + 2) s (50 * p.sz) p.sz:=λ p s lf e ok=>by
  have h:=Q6 s.nx (s.nx + 1) (s.nx + 2) s.add3 lf ok
  exact ⟨((Gr.add3 s).trans h.gr).more (by omega) (by omega),h.runs,h.kept,h.stays,h.ko,h.sh⟩
 induction p with
 | iff i p q ihp ihq=>exact λ s ok=>pair _ p q s rfl (ihp _ ok.2.1) (ihq _ ok.2.2)
 | thn p q ihp ihq=>exact λ s ok=>pair _ p q s rfl (ihp _ ok.1) (ihq _ ok.2)
 | bes p q ihp ihq=>exact λ s ok=>pair _ p q s rfl (ihp _ ok.1) (ihq _ ok.2)
 | again k p ih=>exact λ s ok=>round _ p s rfl rfl (ih _ ok)
 | hold k p ih=>exact λ s ok=>round _ p s rfl rfl (ih _ ok.2)
 | watch k p ih=>exact λ s ok=>round _ p s rfl rfl (ih _ ok.2)
 | trap p ih=>exact λ s ok=>round _ p s rfl rfl (ih _ ok)
 | nothing=>exact λ s ok=>leaf _ s rfl rfl ok
 | rest k=>exact λ s ok=>leaf _ s rfl rfl ok
 | send k=>exact λ s ok=>leaf _ s rfl rfl ok
 | exit k=>exact λ s ok=>leaf _ s rfl rfl ok
 | stay k=>exact λ s ok=>leaf _ s rfl rfl ok
inductive Ph (K:PySem.W.Frag) (vs:List V) (H:Hp) (Q:VK):Prop
 | mk (v) (xs) (_:vs = [v]) (_:PAt K H (.t xs) v) (_:xs.length≤8) (_:∀ r ws,H r = none→Bk K H (inner xs) ws→Q (.ref r) (upd H r (.lst ws))):Ph K vs H Q
def Mg (K:PySem.W.Frag):Sp:=λ vs H Q _=>Ph K vs H Q
section
variable {P:Program} {w:World} {K:PySem.W.Frag} {mg:Str→Option Value} {base:Heap}
theorem Y2 (F:Ba K mg "inner_parts" ["part"] Eo) (T:Txt mg):Am P w K mg base 1 "inner_parts" ["part"] (Mg K):=by
 refine F.ok Oy (λ vs H Q E h=>?_) (λ f cdv A outer s H vs Q E hr h=>?_)
 ·obtain ⟨v,xs,rfl,_⟩:=h
  rfl
 obtain ⟨v,xs,rfl,hv,hl,q⟩:=h
 refine ⟨_,Ai (Aw (Cu (tc:=tB (tCB (Ig K) (B4 (Bt 0) (B4 (tC (.ty "tuple")) Dp)))) ["piece"] [] rfl (Ci (Aj Eo) ["part"] (by decide +kernel)) (Gf (pv 0))
  (λ s2 H2 fp cl C=>A3 (i:=0) (show Nodup [("piece" : Str)] from by decide +kernel) rfl (Or.inl rfl)) (Bo (by decide))
  (λ s2 H2 fp cl C=>F3 (Dk (A4 Bs rfl T.n_isinstance PyProof.Rows.boot_isinstance (Aa (pv 0) (Aa (Cq rfl T.n_tuple (by decide +kernel) (v:=.ty "tuple") rfl) Ac)))))
  (λ s2 H2 fp cl C=>pv 0))),?_⟩
 obtain ⟨a,vs,rfl,ha,hx⟩:=hv.get
 refine ⟨_,Z,a,Z,⟨_,ha.sq⟩,?_⟩
 have hlen:=hx.len
 refine Abf (xs:=vs) (F:=λ D ys H=>Q (.ref D) (upd H D (.lst ys))) (λ i ys H'=>H' = H∧Bk K H (inner (xs.take i)) ys) ⟨Z,by simpa [inner] using Bk.nil⟩ (He (by omega))
  (λ i ys H' hi ⟨e,_⟩=>⟨vs,vs[i],by rw [e]; exact ha.sq,by simp [hi]⟩) (λ ys H' ⟨e,_⟩=>⟨vs,by rw [e]; exact ha.sq,le_refl _⟩)
  (λ i ys H1 x H2 ⟨e,_⟩ ⟨e',y⟩=>⟨e',y vs (by rw [e]; exact ha.sq)⟩) ?_ (λ x σ H Q Q' h q=>h _ _ q) ?_ ?_ ?_
 ·rintro i x ys H' hi ⟨rfl,hy⟩
  obtain ⟨n,hn,hax⟩:=hx.at hi
  obtain ⟨t,ty,ek⟩:=Xi hax
  have hxt:xs.take (i + 1) = xs.take i ++ [n]:=by
   rw [take_add_one,hn]; rfl
  refine ⟨x,Z,_, "tuple", t,_,Z,ty,ek,_,Z,?_⟩
  refine Ay (λ c=>?_) (λ c=>?_)
  ·refine ⟨x,Z,Z,?_⟩
   have:inner (xs.take (i + 1)) = inner (xs.take i) ++ [n]:=by rw [hxt]; simp [inner,c]
   rw [this]
   exact hy.append (.cons hax .nil)
  ·refine ⟨Z,?_⟩
   have:inner (xs.take (i + 1)) = inner (xs.take i):=by rw [hxt]; simp [inner,c]
   rw [this]
   exact hy
 ·rintro σ H Q Q' h ⟨v,e,x,T,t,b,e2,ty,ek,c,e3,q⟩
  exact ⟨v,e,x,T,t,b,e2,ty,ek,c,e3,h _ _ q⟩
 ·rintro σ H Q Q' h ⟨v,e,q⟩
  exact ⟨v,e,h _ _ q⟩
 ·rintro ys H' ⟨rfl,hy⟩ D hD
  refine q D ys hD ?_
  rw [take_of_length_le (by omega)] at hy
  exact hy
end
def kids:Pt→List Pt
 | .iff _ p q=>[p,q]
 | .thn p q=>[p,q]
 | .bes p q=>[p,q]
 | .again _ p=>[p]
 | .hold _ p=>[p]
 | .watch _ p=>[p]
 | .trap p=>[p]
 | _=>[]
theorem Jl (x:Str):isT (.s x) = false:=rfl
theorem Iy (x:Int):isT (.i x) = false:=rfl
theorem Ho (p:Pt):isT p.nd = true:=by cases p <;> rfl
theorem AbU {n:Nat} {p:Pt} (ok:okN n p):∃ xs,p.nd = .t xs∧xs.length≤8∧inner xs = (kids p).map Pt.nd:=by
 cases p with
 | stay ks=>exact absurd ok id
 | iff i p q=>exact ⟨_,rfl,by show 4≤8; decide,by unfold inner; simp [Jl,Iy,Ho,kids]⟩
 | thn p q=>exact ⟨_,rfl,by show 3≤8; decide,by unfold inner; simp [Jl,Iy,Ho,kids]⟩
 | bes p q=>exact ⟨_,rfl,by show 3≤8; decide,by unfold inner; simp [Jl,Iy,Ho,kids]⟩
 | again k p=>exact ⟨_,rfl,by show 3≤8; decide,by unfold inner; simp [Jl,Iy,Ho,kids]⟩
 | hold k p=>exact ⟨_,rfl,by show 3≤8; decide,by unfold inner; simp [Jl,Iy,Ho,kids]⟩
 | watch k p=>exact ⟨_,rfl,by show 3≤8; decide,by unfold inner; simp [Jl,Iy,Ho,kids]⟩
 | trap p=>exact ⟨_,rfl,by show 2≤8; decide,by unfold inner; simp [Jl,Iy,Ho,kids]⟩
 | nothing=>exact ⟨_,rfl,by show 1≤8; decide,by unfold inner; simp [Jl,Iy,kids]⟩
 | rest k=>exact ⟨_,rfl,by show 2≤8; decide,by unfold inner; simp [Jl,Iy,kids]⟩
 | send k=>exact ⟨_,rfl,by show 2≤8; decide,by unfold inner; simp [Jl,Iy,kids]⟩
 | exit k=>exact ⟨_,rfl,by show 2≤8; decide,by unfold inner; simp [Jl,Iy,kids]⟩
def wstep (a:List Wr× Ws) (p:Pt):List Wr× Ws:=(a.1 ++ [(wireP p a.2).1],(wireP p a.2).2)
def wkids (ps:List Pt) (s:Ws):List Wr× Ws:=ps.foldl wstep ([],s)
def szs (ps:List Pt):Nat:=(ps.map Pt.sz).sum
theorem Vj (ps:List Pt) (p:Pt) (s:Ws):wkids (ps ++ [p]) s = wstep (wkids ps s) p:=by unfold wkids; rw [foldl_append]; rfl
theorem Gz.mono {s s':Ws} {r:Wr} (h:Gz s r) (l:s.gs.length≤s'.gs.length):Gz s' r:=by
 unfold Gz Rng Ws.nx at *
 omega
theorem Jd {n:Nat} (p:Pt) (s:Ws) (ok:okN n p):s.gs.length + 3≤(wireP p s).2.gs.length:=by
 have a3:s.add3.gs.length = s.gs.length + 3:=by unfold Ws.add3; rw [Af,Af,Af]
 have pair:∀ (p p1 p2:Pt),okN n p1→okN n p2→s.gs.length + 3≤(Eb p s.nx (s.nx + 1) (s.nx + 2) (wireP p1 s.add3).1 (wireP p2 (wireP p1 s.add3).2).1 (wireP p2 (wireP p1 s.add3).2).2).2.gs.length:=λ p p1 p2 o1 o2=>by
  have h1:=B9 p1 s.add3 o1
  have h2:=B9 p2 (wireP p1 s.add3).2 o2
  have h3:=(Mq (p:=p) s.nx (s.nx + 1) (s.nx + 2) (wireP p2 (wireP p1 s.add3).2).2 h1.ko h2.ko).gr.lo
  have:=h1.gr.lo
  have:=h2.gr.lo
  omega
 have round:∀ (p p1:Pt),Ev p = true→okN n p1→s.gs.length + 3≤(Cp s.nx (s.nx + 1) (s.nx + 2) (wireP p1 s.add3).1 (wireP p1 s.add3).2 p).2.gs.length:=λ p p1 rd o1=>by
  have h1:=B9 p1 s.add3 o1
  have h3:=(Lv (p:=p) s.nx (s.nx + 1) (s.nx + 2) (wireP p1 s.add3).2 rd h1.ko).gr.lo
  have:=h1.gr.lo
  omega
 have leaf:∀ (p:Pt),K8 p = true→okN n p→s.gs.length + 3≤(Jq s.nx (s.nx + 1) (s.nx + 2) s.add3 p).2.gs.length:=λ p lf ok=>by
  have:=(Q6 s.nx (s.nx + 1) (s.nx + 2) s.add3 lf ok).gr.lo
  omega
 cases p with
 | iff i p q=>exact pair _ p q ok.2.1 ok.2.2
 | thn p q=>exact pair _ p q ok.1 ok.2
 | bes p q=>exact pair _ p q ok.1 ok.2
 | again k p=>exact round _ p rfl ok
 | hold k p=>exact round _ p rfl ok.2
 | watch k p=>exact round _ p rfl ok.2
 | trap p=>exact round _ p rfl ok
 | nothing=>exact leaf _ rfl ok
 | rest k=>exact leaf _ rfl ok
 | send k=>exact leaf _ rfl ok
 | exit k=>exact leaf _ rfl ok
 | stay k=>exact leaf _ rfl ok
def Qo (s:Ws) (r:Wr):Prop:=Gz s r∧KO r.codes∧r.codes.length≤6
theorem Pz {n:Nat} (p:Pt) (s:Ws) (ok:okN n p):Qo (wireP p s).2 (wireP p s).1:=by
 have h:=B9 p s ok
 have l:=Jd p s ok
 refine ⟨?_,h.ko,h.sh⟩
 unfold Gz Rng
 rw [h.runs,h.kept,h.stays]
 unfold Ws.nx
 omega
theorem R8 {n:Nat} (ps:List Pt) (s:Ws) (ok:∀ p∈ps,okN n p):Gr s (wkids ps s).2 (50 * szs ps) (szs ps)∧∀ r∈(wkids ps s).1,Qo (wkids ps s).2 r:=by
 have k:∀ (ps:List Pt) (a:List Wr× Ws),(∀ p∈ps,okN n p)→(∀ r∈a.1,Qo a.2 r)→Gr a.2 (ps.foldl wstep a).2 (50 * szs ps) (szs ps)∧∀ r∈(ps.foldl wstep a).1,Qo (ps.foldl wstep a).2 r:=by
  intro ps
  induction ps with
  | nil=>intro a _ h; exact ⟨.refl _,h⟩
  | cons p ps ih =>
   intro a ok h
   rw [foldl_cons]
   have w:=B9 p a.2 (ok p mem_cons_self)
   obtain ⟨i1,i2⟩:=ih (wstep a p) (λ q hq=>ok q (mem_cons_of_mem _ hq)) (λ r hr=>by
    rcases mem_append.mp hr with z | z
    ·obtain ⟨a1,a2,a3⟩:=h r z
     exact ⟨a1.mono w.gr.lo,a2,a3⟩
    ·rw [mS z]
     exact Pz p a.2 (ok p mem_cons_self))
   refine ⟨(w.gr.trans i1).more ?_ ?_,i2⟩
   ·unfold szs; rw [map_cons,sum_cons]; omega
   ·unfold szs; rw [map_cons,sum_cons]; omega
 exact k ps ([],s) ok λ r hr=>nomatch hr
inductive Ur (n:Nat) (p:Pt) (s:Ws):Prop
 | pr (p1 p2:Pt) (e:kids p = [p1,p2]) (h:Acq p = true) (ew:wireP p s = Eb p s.nx (s.nx + 1) (s.nx + 2) (wireP p1 s.add3).1 (wireP p2 (wireP p1 s.add3).2).1 (wireP p2 (wireP p1 s.add3).2).2):Ur n p s
 | rd (p1:Pt) (e:kids p = [p1]) (h:Ev p = true) (ew:wireP p s = Cp s.nx (s.nx + 1) (s.nx + 2) (wireP p1 s.add3).1 (wireP p1 s.add3).2 p):Ur n p s
 | lf (e:kids p = []) (h:K8 p = true) (ew:wireP p s = Jq s.nx (s.nx + 1) (s.nx + 2) s.add3 p):Ur n p s
theorem Aa0 (n:Nat) (p:Pt) (s:Ws):Ur n p s:=by
 cases p with
 | iff i p q=>exact .pr p q rfl rfl rfl
 | thn p q=>exact .pr p q rfl rfl rfl
 | bes p q=>exact .pr p q rfl rfl rfl
 | again k p=>exact .rd p rfl rfl rfl
 | hold k p=>exact .rd p rfl rfl rfl
 | watch k p=>exact .rd p rfl rfl rfl
 | trap p=>exact .rd p rfl rfl rfl
 | _=>exact .lf rfl rfl rfl
theorem AbQ (p:Pt):p.sz = szs (kids p) + 1:=by cases p <;> simp [Pt.sz,kids,szs]
theorem Aa5 {n:Nat} {p:Pt} (ok:okN n p):∀ q∈kids p,okN n q:=by
 cases p <;> intro q hq <;> simp [kids] at hq <;> simp only [okN] at ok <;> first | (rcases hq with z | z <;> rw [z] <;> first | exact ok.1 | exact ok.2 | exact ok.2.1 | exact ok.2.2) | (rw [hq]; first | exact ok | exact ok.2) | skip
theorem AbA {m:Nat} {p:Pt} (h:p.hg≤m + 1):∀ q∈kids p,q.hg≤m:=by
 cases p <;> intro q hq <;> simp [kids] at hq <;> simp only [Pt.hg] at h <;> first | (rcases hq with z | z <;> rw [z] <;> omega) | (rw [hq]; omega) | skip
theorem Sg {n:Nat} {p:Pt} (ok:okN n p):Ko n p:=by cases p <;> first | trivial | exact ok.1
theorem Aaz {n:Nat} {p:Pt} (ok:okN n p):Y8 n p:=by cases p <;> first | trivial | exact ok
inductive Qb (K:PySem.W.Frag) (C CP:Addr) (m:Nat) (vs:List V) (H:Hp) (Q:VK):Prop
 | mk (o:Addr) (v:V) (p:Pt) (L:Lc) (n:Nat) (s:Ws) (_:vs = [.ref o,v]) (_:Au C H o L n s) (_:PAt K H p.nd v) (_:p.hg≤m) (_:okN n p) (_:s.sn.length = n) (_:s.gs.length + 50 * p.sz + 800≤1000000) (_:(∀ r∈s.sn,r.length + p.sz≤1000000)) (_:s.lv.length + p.sz≤1000000) (_:∀ a H',KpS L.S H H'→H a = none→Au C H' o L n (wireP p s).2→B2 CP H' a (wireP p s).1→Q (.ref a) H'):Qb K C CP m vs H Q
def J8 (K:PySem.W.Frag) (C CP:Addr) (m:Nat):Sp:=λ vs H Q _=>Qb K C CP m vs H Q
def AdN (CP:Addr) (H:Hp) (r:Wr) (v:V):Prop:=∃ b,v = .ref b∧B2 CP H b r
section
variable {P:Program} {w:World} {K:PySem.W.Frag} {mg:Str→Option Value} {base:Heap} {C CP:Addr}
seal PSs PS PE PA PT
theorem Zb {m:Nat} (F:Ba K mg "wire_part" ["wiring", "part"] Fu) (T:B3 K mg C CP) (aW:Bf P w K mg base 3 C "new_part" ["self"] (Qk C CP)) (aL:Am P w K mg base 1 "inner_parts" ["part"] (Mg K)) (aU:Am P w K mg base 5 "wire_pair" ["wiring", "part", "whole", "first", "second"] (O8 K C CP)) (aO:Am P w K mg base 5 "wire_round" ["wiring", "part", "whole", "inner"] (Mz K C CP)) (aV:Am P w K mg base 5 "wire_leaf" ["wiring", "part", "whole"] (O6 K C CP)) (bA:Am P w K mg base (m + 6) "wire_part" ["wiring", "part"] (J8 K C CP m)):Am P w K mg base (m + 7) "wire_part" ["wiring", "part"] (J8 K C CP (m + 1)):=by
 refine F.ok Gc (λ vs H Q E h=>?_) (λ fn cdv A outer s0 H vs Q E hr h=>?_)
 ·obtain ⟨o,v,p,L,n,s,rfl,_⟩:=h; rfl
 obtain ⟨o,v,p,L,n,s,rfl,W,hp,hh,ok,hn,hb,rw0,hv,q⟩:=h
 refine ⟨_,(Ae (Bh (i:=2) Gc.nd rfl (Or.inl rfl) (Hu aW hr Al (pv 0)))
  (Ae (Bh (i:=3) Gc.nd rfl (Or.inl rfl) (A5 Ac))
  (Ae (Dr PassesOwn.never rfl (Cz (Av aL hr rfl Al (Aa (pv 1) Ac))) (A3 (i:=4) Gc.nd rfl (Or.inl rfl))
   (Ai (Bg (E1 PySem.F.plainAttrs_list PySem.F.slot_list_append PySem.F.type_list_append Ck (pv 3) (Aa (Av bA hr rfl Al (Aa (pv 0) (Aa (pv 4) Ac))) Ac)))))
  (Ae (Bn (As Bm (A4 Br rfl T.n_len PySem.boot_len (Aa (pv 3) Ac)) Ag (Ax _))
   (Ai (Bg (Av aU hr rfl Al (Aa (pv 0) (Aa (pv 1) (Aa (pv 2) (Aa (Ao Bz (pv 3) Ag (λ _ _=>rfl)) (Aa (Ao Bz (pv 3) Ag (λ _ _=>rfl)) Ac))))))))
   (Ai (Bn (As Bm (A4 Br rfl T.n_len PySem.boot_len (Aa (pv 3) Ac)) Ag (Ax _))
   (Ai (Bg (Av aO hr rfl Al (Aa (pv 0) (Aa (pv 1) (Aa (pv 2) (Aa (Ao Bz (pv 3) Ag (λ _ _=>rfl)) Ac)))))))
   (Ai (Bg (Av aV hr rfl Al (Aa (pv 0) (Aa (pv 1) (Aa (pv 2) Ac)))))))))
  (Ai (Aw (pv 2))))))),?_⟩
 have ez:=AbQ p
 obtain ⟨_,ho,_⟩:=id W
 refine ⟨_,Z,o,L.dx,_,Z,ho,Z,o,L,n,s,Z,W,by omega,λ a dx cv H1 k1 na ha W1=>?_⟩
 have aS:=(W1.objOff ha).2
 refine ⟨zN0,λ li hli=>?_⟩
 have g2:=Ad hli (.lst [])
 have liO:=W1.offN4 hli
 have liS:=liO.2.2.2
 have W2:=W1.same g2
 have ha2:=g2 _ _ ha
 have el2:=Ab (H:=H1) (a:=li) (o:=.lst [])
 have k2:=k1.trans (Same.kpS g2)
 have lia:li≠a:=λ z=>by rw [z,ha] at hli; cases hli
 have hp2:=hp.mono (W.tp k2)
 have liN:∀ b u,b∉L.S→H b = some u→b≠li:=λ b u hb e=>A9 (k1 b u hb e) hli
 generalize upd H1 li (.lst []) = H2 at *
 obtain ⟨xs,ex,lx,ix⟩:=AbU ok
 have hpx:=hp2
 rw [ex] at hpx
 refine ⟨_,Z,v,xs,Z,hpx,lx,λ r ws hr' hw=>?_⟩
 rw [ix] at hw
 have g3:=Ad hr' (.lst ws)
 have W3:=W2.same g3
 have ha3:=g3 _ _ ha2
 have el3:=g3 _ _ el2
 have hp3:=hp2.mono g3.tp
 have er3:=Ab (H:=H2) (a:=r) (o:=.lst ws)
 have rS:=W2.offN hr'
 have rli:r≠li:=λ z=>by rw [z,el2] at hr'; cases hr'
 have hw3:=Bk.mono g3.tp hw
 have k3:=k2.trans (Same.kpS g3)
 generalize upd H2 r (.lst ws) = H3 at *
 have lw:=hw3.len
 rw [length_map] at lw
 have tp3:∀ {H':Hp},KpS (li :: L.S) H3 H'→Tp H3 H':=λ k b xs e=>k b _ (λ z=>by
  rcases mem_cons.mp z with z | z
  ·rw [z,el3] at e; cases e
  ·exact W3.off e (λ _ z=>nomatch z) (λ _ z=>nomatch z) z) e
 have kok:=Aa5 ok
 have kl2:(kids p).length≤2:=by cases p <;> simp [kids]
 have khg:=AbA hh
 have a3l:s.add3.gs.length = s.gs.length + 3:=by unfold Ws.add3; rw [Af,Af,Af]
 have szt:∀ i,szs ((kids p).take i)≤szs (kids p):=λ i=>by
  have:szs (kids p) = szs ((kids p).take i) + szs ((kids p).drop i):=by unfold szs; rw [← List.sum_append,← map_append,List.take_append_drop]
  omega
 refine ⟨r,Z,⟨_,SqL.of er3⟩,F0 (K:=K) (a:=r) (xs:=ws) (λ i σ H'=>∃ x4 svs,σ = [some (.ref o),some v,some (.ref a),some (.ref li),x4]∧KpS (li :: L.S) H3 H'∧H' li = some (.lst svs)∧PySem.Paired (AdN CP H') (wkids ((kids p).take i) s.add3).1 svs∧Au C H' o L n (wkids ((kids p).take i) s.add3).2) ⟨none,[],Z,KpS.refl _ _,el3,.nil,W3⟩ (λ i σ H' _ ⟨_,_,_,k,_⟩=>SqL.of (k _ _ (λ z=>(mem_cons.mp z).elim rli rS) er3)) ?_ ?_⟩
 ·rintro i x σ H4 hi ⟨x4,svs,rfl,k4,hl4,hp4,W4⟩
  have hil:i < (kids p).length:=by have:=(List.getElem?_eq_some_iff.mp hi).1; omega
  obtain ⟨nd,en,hx⟩:=hw3.at hi
  rw [getElem?_map,getElem?_eq_getElem hil] at en
  cases en
  have tk:(kids p).take (i + 1) = (kids p).take i ++ [(kids p)[i]]:=by rw [take_succ,getElem?_eq_getElem hil]; rfl
  have okt:∀ q∈(kids p).take i,okN n q:=λ q hq=>kok q (List.mem_of_mem_take hq)
  obtain ⟨gr,_⟩:=R8 ((kids p).take i) s.add3 okt
  have sz1:szs ((kids p).take i) + ((kids p)[i]).sz≤szs (kids p):=by
   have h1:=szt (i + 1)
   rw [tk] at h1
   unfold szs at h1 ⊢
   rw [map_append,List.sum_append] at h1
   simpa using h1
  have l5:=PySem.Paired.length hp4
  have lk:(wkids ((kids p).take i) s.add3).1.length = i:=by
   have:∀ (ps:List Pt) (a:List Wr× Ws),(ps.foldl wstep a).1.length = a.1.length + ps.length:=by
    intro ps
    induction ps with
    | nil=>intro a; rfl
    | cons q r ih=>intro a; rw [foldl_cons,ih,length_cons]; unfold wstep; rw [length_append,length_singleton]; omega
   have h:=this ((kids p).take i) ([],s.add3)
   unfold wkids
   rw [h,length_take]
   simp
   omega
  rw [tk,Vj]
  generalize wkids ((kids p).take i) s.add3 = acc at *
  have hgi:=gr.hi
  have hsn:=gr.sn
  have hrw:=gr.rows
  have hlv:=gr.lv
  have K1:s.add3.sn = s.sn:=rfl
  have K2:s.add3.lv = s.lv:=rfl
  rw [K1] at hsn hrw
  rw [K2] at hlv
  refine ⟨_,Z,.inl ⟨Z,_,SqL.of hl4⟩,_,Z,_,Z,o,x,(kids p)[i],L,n,acc.2,Z,W4,hx.mono (tp3 k4),khg _ (getElem_mem hil),kok _ (getElem_mem hil),by omega,by omega,λ r hr=>?_,by omega,λ b H5 k5 nb W5 D5=>?_⟩
  ·have:=hrw (1000000 - p.sz) (λ r hr=>by have:=rw0 r hr; omega) r hr
   omega
  have hl5:=k5 _ _ liS hl4
  refine ⟨li,svs,.ref b,Z,Z,hl5,by rw [← l5,lk]; exact lt_of_le_of_lt (by omega:i≤8) (by decide),?_⟩
  refine ⟨_,_,Z,?_,Ab,?_,?_⟩
  ·exact (k4.trans (k5.more λ b hb=>mem_cons_of_mem _ hb)).trans (KpS.upd mem_cons_self)
  ·have keepD:∀ (b:Addr) (r:Wr),B2 CP H5 b r→B2 CP (upd H5 li (.lst (svs ++ [.ref b]))) b r:=λ b r D=>by
    obtain ⟨e1,e2,e3,e4,e5⟩:=D
    exact ⟨e1,e2,e3,by rw [upd_ne (Bl e4 hl5 (by intro z; cases z))]; exact e4,by rw [upd_ne (Bl e5 hl5 (by intro z; cases z))]; exact e5⟩
   have keepE:∀ (b':Addr) (r:Wr),B2 CP H5 b' r→B2 CP (upd H5 li (.lst (svs ++ [.ref b]))) b' r:=λ b' r D=>by
    obtain ⟨e1,e2,e3,e4,e5⟩:=D
    exact ⟨e1,e2,e3,by rw [upd_ne (Bl e4 hl5 (by intro z; cases z))]; exact e4,by rw [upd_ne (Bl e5 hl5 (by intro z; cases z))]; exact e5⟩
   refine Co (Paired.mapP hp4 λ r v ⟨b',eb,D⟩=>⟨b',eb,keepE b' r (D.kp W4 k5)⟩) (.cons ⟨b,Z,keepE b _ D5⟩ .nil)
  ·exact W5.keep [li] (KpS.upd mem_cons_self) (Tp.lst hl5) λ b hb'=>by rw [mS hb']; exact liO
 ·rintro σ H4 ⟨x4,svs,rfl,k4,hl4,hp4,W4⟩
  rw [← lw,take_length] at hp4 W4
  have ha4:=k4 _ _ (λ z=>(mem_cons.mp z).elim (Ne.symm lia) aS) ha3
  have hpv:=hp3.mono (tp3 k4)
  obtain ⟨gr,kk⟩:=R8 (kids p) s.add3 kok
  have hgi:=gr.hi
  have hsn:=gr.sn
  have hrw:=gr.rows
  have hlv:=gr.lv
  rw [show s.add3.sn = s.sn from rfl] at hsn hrw
  rw [show s.add3.lv = s.lv from rfl] at hlv
  have fin:∀ H',KpS (a :: L.S) H4 H'→KpS L.S H H':=λ H' k b u nb e=>by
   have ba:b≠a:=A9 e na
   have e3:=k3 b u nb e
   have bli:b≠li:=λ z=>by
    have:=liN b u nb e
    exact this z
   exact k b u (λ z=>(mem_cons.mp z).elim ba nb) (k4 b u (λ z=>(mem_cons.mp z).elim bli nb) e3)
  cases Aa0 n p s with
  | pr p1 p2 e hk ew =>
   rw [e] at hp4 W4 hgi kk
   have e2:wkids [p1,p2] s.add3 = ([(wireP p1 s.add3).1,(wireP p2 (wireP p1 s.add3).2).1],(wireP p2 (wireP p1 s.add3).2).2):=rfl
   rw [e2] at hp4 W4 hgi kk
   rw [ew] at q
   cases hp4 with
   | cons o1 t1 =>
   cases t1 with
   | cons o2 t2 =>
   cases t2
   obtain ⟨f,rfl,D1⟩:=o1
   obtain ⟨g,rfl,D2⟩:=o2
   have kk1:=kk _ mem_cons_self
   have kk2:=kk _ (mem_cons_of_mem _ mem_cons_self)
   rw [e] at ez
   dsimp only at hgi kk1 kk2 W4
   refine ⟨_,Z,li,_,Z,.inl (SqL.of hl4),Z,_,Z,Dy ⟨_,Z,_,Z,_,Z,_,Z,li,_,_,.ref f,Z,Z,SqL.of hl4,Ah (j:=0) rfl,_,Z,li,_,_,.ref g,Z,Z,SqL.of hl4,Ah (j:=1) rfl,?_⟩⟩
   exact ⟨o,a,dx,f,g,v,p,s.nx,s.nx + 1,s.nx + 2,cv,_,_,L,n,_,Z,W4,hpv,hk,Sg ok,ha4,D1,D2,kk1.1,kk2.1,by have:=kk1.2.2; omega,by have:=kk2.2.2; omega,by omega,λ H' k W' D'=>⟨_,Z,q a H' (fin H' k) na W' D'⟩⟩
  | rd p1 e hk ew =>
   rw [e] at hp4 W4 hgi hlv kk
   have e2:wkids [p1] s.add3 = ([(wireP p1 s.add3).1],(wireP p1 s.add3).2):=rfl
   rw [e2] at hp4 W4 hgi hlv kk
   rw [ew] at q
   cases hp4 with
   | cons o1 t1 =>
   cases t1
   obtain ⟨f,rfl,D1⟩:=o1
   have kk1:=kk _ mem_cons_self
   rw [e] at ez
   dsimp only at hgi hlv kk1 W4
   refine ⟨_,Z,li,_,Z,.inl (SqL.of hl4),Z,_,Z,Dq ⟨_,Z,li,_,Z,.inl (SqL.of hl4),Z,_,Z,Dy ⟨_,Z,_,Z,_,Z,_,Z,li,_,_,.ref f,Z,Z,SqL.of hl4,Ah (j:=0) rfl,?_⟩⟩⟩
   exact ⟨o,a,dx,f,v,p,s.nx,s.nx + 1,s.nx + 2,cv,_,L,n,_,Z,W4,hpv,hk,Sg ok,ha4,D1,kk1.1,by have:=kk1.2.2; omega,by omega,by omega,λ H' k W' D'=>⟨_,Z,q a H' (fin H' k) na W' D'⟩⟩
  | lf e hk ew =>
   rw [e] at hp4 W4
   rw [ew] at q
   cases hp4
   have W4:Au C H4 o L n s.add3:=W4
   refine ⟨_,Z,li,_,Z,.inl (SqL.of hl4),Z,_,Z,Dq ⟨_,Z,li,_,Z,.inl (SqL.of hl4),Z,_,Z,Dq ⟨_,Z,_,Z,_,Z,?_⟩⟩⟩
   refine ⟨o,a,dx,v,p,s.nx,s.nx + 1,s.nx + 2,.non,cv,L,n,_,Z,W4,hpv,hk,?_,λ r hr=>?_,ha4,by omega,?_,λ H' k W' D'=>⟨_,Z,q a H' (fin H' k) na W' D'⟩⟩
   ·show Y8 s.sn.length p
    rw [hn]
    exact Aaz ok
   ·have:=rw0 r hr
    omega
   ·show s.lv.length≤1000000
    omega
theorem Pn (F:Ba K mg "wire_part" ["wiring", "part"] Fu) (T:B3 K mg C CP) (aW:Bf P w K mg base 3 C "new_part" ["self"] (Qk C CP)) (aL:Am P w K mg base 1 "inner_parts" ["part"] (Mg K)) (aU:Am P w K mg base 5 "wire_pair" ["wiring", "part", "whole", "first", "second"] (O8 K C CP)) (aO:Am P w K mg base 5 "wire_round" ["wiring", "part", "whole", "inner"] (Mz K C CP)) (aV:Am P w K mg base 5 "wire_leaf" ["wiring", "part", "whole"] (O6 K C CP)) :
  ∀ m,Am P w K mg base (m + 6) "wire_part" ["wiring", "part"] (J8 K C CP m)
 | 0=>(F.zero (sp:=J8 K C CP 0) λ vs H Q E h=>by obtain ⟨o,v,p,L,n,s,_,_,_,hh,_⟩:=h; exact absurd hh (not_le_of_gt (Pt.hg_pos p))).mono (by decide)
 | m + 1=>Zb F T aW aL aU aO aV (Pn F T aW aL aU aO aV m)
theorem Y4:A7 ["self", "signs"] ["self", "signs"] (Aj Iw):=⟨Z,Z,Z,by decide +kernel,Z,by decide +kernel,by decide +kernel⟩
inductive Pl (C:Addr) (vs:List V) (H:Hp) (Q:VK):Prop
 | mk (o nl' dx gl:Addr) (w:Str) (ns:List Int) (fs:List (Str× V)) (gvs:List V) (_:vs = [.ref o,.str w,.ref nl']) (_:H o = some (.ins C dx fs)) (_:fs.lookup ("gates" : Str) = some (.ref gl)) (_:H gl = some (.lst gvs)) (_:H nl' = some (.lst (ns.map V.int))) (_:gvs.length≤1000000) (_:∀ v H',KpS [gl] H H'→H' gl = some (.lst (gvs ++ [v]))→GwAt H' (w,ns) v→Q (.int (gvs.length:Int)) H'):Pl C vs H Q
def O3 (C:Addr):Sp:=λ vs H Q _=>Pl C vs H Q
inductive Np (C:Addr) (vs:List V) (H:Hp) (Q:VK):Prop
 | mk (o dx gl:Addr) (fs:List (Str× V)) (gvs:List V) (_:vs = [.ref o]) (_:H o = some (.ins C dx fs)) (_:fs.lookup ("gates" : Str) = some (.ref gl)) (_:fs.lookup ("gate" : Str) = none) (_:H gl = some (.lst gvs)) (_:gvs.length≤1000000) (_:∀ v H',KpS [gl] H H'→H' gl = some (.lst (gvs ++ [v]))→GwAt H' ("some", []) v→Q (.int (gvs.length:Int)) H'):Np C vs H Q
def Kk (C:Addr):Sp:=λ vs H Q _=>Np C vs H Q
def wf1 (gl:Addr):List (Str× V):=[("gates", .ref gl)]
def wf2 (gl sl:Addr):List (Str× V):=[("gates", .ref gl),("signs", .ref sl)]
def wf3 (gl sl nl:Addr):List (Str× V):=[("gates", .ref gl),("signs", .ref sl),("senders", .ref nl)]
def ws0 (n:Nat):Ws:=⟨List.replicate n ("some", []),List.replicate n [],[]⟩
inductive P7 (C:Addr) (vs:List V) (H:Hp) (Q:VK):Prop
 | mk (o dx:Addr) (n:Nat) (_:vs = [.ref o,.int n]) (_:H o = some (.ins C dx [])) (_:n≤1000) (_:∀ L H',KpS [o] H H'→Au C H' o L n (ws0 n)→(∀ b∈L.S,H b = none)→Q .non H'):P7 C vs H Q
def Ue (C:Addr):Sp:=λ vs H Q _=>P7 C vs H Q
theorem Z9 {f:Addr} {fd:FuncData} (F:Fun K "gate" "Wiring.gate" L5 f fd) (T:B3 K mg C CP):Cj P w K mg base CX0 1 f fd ["self", "word", "numbers"] (O3 C):=by
 refine F.ok Tm (λ vs H Q E h=>?_) (λ cdv A outer s0 H vs Q E hr h=>?_)
 ·obtain ⟨o,nl',dx,gl,w,ns,fs,gvs,rfl,_⟩:=h; rfl
 obtain ⟨o,nl',dx,gl,w,ns,fs,gvs,rfl,ho,hf,hg,hnl,hb,q⟩:=h
 refine ⟨_,(Ae (Bg (E1 PySem.F.plainAttrs_list PySem.F.slot_list_append PySem.F.type_list_append Ck (Ar (pv 0) rfl) (Aa (Be (Aa (pv 1) (Aa (F6 Hx rfl T.n_tuple (by decide +kernel) (Aa (pv 2) Ac)) Ac))) Ac)))
  (Ai (Aw (Bj Nf (A4 Br rfl T.n_len PySem.boot_len (Aa (Ar (pv 0) rfl) Ac)) Ag)))),?_⟩
 refine ⟨_,Z,o,C,dx,_,.ref gl,Z,ho,T.cl,T.nG,hf,.inl ⟨Z,_,SqL.of hg⟩,_,Z,_,Z,nl',_,Z,.inl ⟨SqL.of hnl,λ t2 ht2=>⟨zN2,λ t1 ht1=>?_⟩⟩⟩
 have g1:=Ad ht2 (.tup (ns.map V.int))
 have g2:=Ad ht1 (.tup [V.str w,.ref t2])
 have g12:=g1.trans g2
 have hg2:=g12 _ _ hg
 refine ⟨gl,gvs,.ref t1,Z,Z,hg2,Us (by omega),?_⟩
 have ho3:(upd (upd (upd H t2 (.tup (ns.map V.int))) t1 (.tup [V.str w,.ref t2])) gl (.lst (gvs ++ [.ref t1]))) o = some (.ins C dx fs):=by
  rw [upd_ne (Bl ho hg (by intro z; cases z))]
  exact g12 _ _ ho
 refine ⟨_,Z,o,C,dx,_,.ref gl,Z,ho3,T.cl,T.nG,hf,gl,_,Z,.inl (SqL.of Ab),_,_,Z,Z,?_⟩
 have e:(((gvs ++ [V.ref t1]).length:Nat):Int) - 1 = (gvs.length:Int):=by
  rw [length_append,length_singleton]
  omega
 dsimp only
 rw [e]
 have t1g:t1≠gl:=λ z=>by rw [z,g1 _ _ hg] at ht1; cases ht1
 have t2g:t2≠gl:=λ z=>by rw [z,hg] at ht2; cases ht2
 exact q (.ref t1) _ ((Same.kpS g12).trans (KpS.upd mem_cons_self)) Ab ⟨t1,t2,Z,by rw [upd_ne t1g]; exact Ab,by rw [upd_ne t2g]; exact g2 _ _ Ab⟩
theorem Wz {f:Addr} {fd:FuncData} (F:Fun K "later" "Wiring.later" Kh f fd) (T:B3 K mg C CP) (aH:Bf P w K mg base 1 C "gate" ["self", "word", "numbers"] (O3 C)):Cj P w K mg base CX0 2 f fd ["self"] (Kk C):=by
 refine F.ok Rv (λ vs H Q E h=>?_) (λ cdv A outer s0 H vs Q E hr h=>?_)
 ·obtain ⟨o,dx,gl,fs,gvs,rfl,_⟩:=h; rfl
 obtain ⟨o,dx,gl,fs,gvs,rfl,ho,hf,hf2,hg,hb,q⟩:=h
 refine ⟨_,(Ai (Aw (Aq aH hr Al (pv 0) (Aa An (Aa (A5 Ac) Ac))))),?_⟩
 refine ⟨_,Z,o,dx,_,Z,ho,hf2,zN0,λ l hl=>?_⟩
 have g:=Ad hl (.lst [])
 exact ⟨o,l,dx,gl, "some", [],fs,gvs,Z,g _ _ ho,hf,g _ _ hg,Ab,hb,λ v H' k e1 e2=>q v H' ((Same.kpS g).trans k) e1 e2⟩
theorem Zt {f:Addr} {fd:FuncData} (F:Fun K "__init__" "Wiring.__init__" Iw f fd) (T:B3 K mg C CP) (eQ:Bf P w K mg base 2 C "later" ["self"] (Kk C)):Cj P w K mg base CX0 3 f fd ["self", "signs"] (Ue C):=by
 refine F.ok Y4 (λ vs H Q E h=>?_) (λ cdv A outer s0 H vs Q E hr h=>?_)
 ·obtain ⟨o,dx,n,rfl,_⟩:=h; rfl
 obtain ⟨o,dx,n,rfl,ho,hn,q⟩:=h
 refine ⟨_,(Ae (Cc (pv 0) (A5 Ac) rfl)
  (Ae (Cc (pv 0) (Cu (g:=(B1 0)) (tc:=C1) (te:=(Ny C "later" (Kk C) [] E0 (Bt 1) Dp)) ["sign"] [("self", 0)] rfl (Ci (Aj Iw) ["self", "signs"] (by decide +kernel)) (E7 rfl T.n_range (Aa (pv 1) Ac)) (λ s2 H2 fp cl C=>A3 (i:=0) (show Nodup [("sign" : Str),("self" : Str)] from by decide +kernel) rfl (Or.inl rfl)) (Bo (by decide)) (λ s2 H2 fp cl C=>Df) (λ s2 H2 fp cl C=>(Hu eQ hr Al (pv 1)))) rfl)
  (Ae (Cc (pv 0) (Cu (g:=(B1 0)) (tc:=C1) (te:=(AaJ Dp)) ["sign"] [] rfl (Ci (Aj Iw) ["self", "signs"] (by decide +kernel)) (E7 rfl T.n_range (Aa (pv 1) Ac)) (λ s2 H2 fp cl C=>A3 (i:=0) (show Nodup [("sign" : Str)] from by decide +kernel) rfl (Or.inl rfl)) (Bo (by decide)) (λ s2 H2 fp cl C=>Df) (λ s2 H2 fp cl C=>(A5 Ac))) rfl)
  (Ai (Cc (pv 0) Je rfl))))),?_⟩
 refine ⟨zN0,λ gl hgl=>?_⟩
 have g1:=Ad hgl (.lst [])
 have go:gl≠o:=λ z=>by rw [z,ho] at hgl; cases hgl
 refine ⟨_,Z,o,C,dx,[],Z,g1 _ _ ho,T.cl,T.nG,(by show 0 < 1000; decide),?_⟩
 have hg1:(upd (upd H gl (.lst [])) o (.ins C dx (wf1 gl))) gl = some (.lst []):=by rw [upd_ne go]; exact Ab
 have ho1:(upd (upd H gl (.lst [])) o (.ins C dx (wf1 gl))) o = some (.ins C dx (wf1 gl)):=Ab
 have k1:KpS [o] H (upd (upd H gl (.lst [])) o (.ins C dx (wf1 gl))):=(Same.kpS g1).trans (KpS.upd mem_cons_self)
 have eH1:Ce "gates" (V.ref gl) ([]:List (Str× V)) = (wf1 gl):=rfl
 rw [eH1]
 generalize upd (upd H gl (.lst [])) o (.ins C dx (wf1 gl)) = H1 at *
 refine ⟨_,Z,n,Z,by omega,Int.lt_of_le_of_lt (Int.ofNat_le.mpr hn) (by decide),?_⟩
 rw [Int.toNat_natCast]
 refine F8 (lo:=0) (n:=n) (λ i ys H'=>KpS [gl] H1 H'∧ys = (List.range i).map (λ (i:Nat)=>V.int (i:Int))∧∃ gvs,H' gl = some (.lst gvs)∧PySem.Paired (GwAt H') (List.replicate i ("some", [])) gvs) ⟨KpS.refl _ _,Z,[],hg1,.nil⟩ (le_trans hn (by decide)) ?_ ?_
 ·rintro i ys H2 N hi ⟨k2,rfl,gvs,hg2,hp2⟩ hN hyl
  have lg:=PySem.Paired.length hp2
  rw [length_replicate] at lg
  have ho2:=k2 _ _ (λ z=>go (mS z).symm) ho1
  refine ⟨_,Z,o,dx,_,Z,ho2,Z,o,dx,gl,_,gvs,Z,ho2,Z,Z,hg2,by omega,λ v H3 k3 e3 w3=>?_⟩
  refine hN _ _ (by rw [length_append,length_singleton]; omega) ⟨k2.trans k3,?_,_,e3,?_⟩
  ·rw [range_succ,map_append,← lg]; rfl
  ·rw [replicate_succ']
   exact Co (Paired.mapP hp2 λ _ _ a=>a.mono (λ b xs e=>k3 b _ (λ z=>by rw [mS z,hg2] at e; cases e) e)) (.cons w3 .nil)
 rintro ys H2 hyl ⟨k2,rfl,gvs,hg2,hp2⟩ sl hsl
 have ho2:=k2 _ _ (λ z=>go (mS z).symm) ho1
 have g3:=Ad hsl (.lst ((List.range n).map (λ (i:Nat)=>V.int (i:Int))))
 refine ⟨_,Z,o,C,dx,_,Z,g3 _ _ ho2,T.cl,T.nS,(by show 1 < 1000; decide),?_⟩
 have so:sl≠o:=λ z=>by rw [z,ho2] at hsl; cases hsl
 have sg:sl≠gl:=λ z=>by rw [z,hg2] at hsl; cases hsl
 have eF2:Ce "signs" (V.ref sl) (wf1 gl) = wf2 gl sl:=rfl
 rw [eF2]
 have hS3:(upd (upd H2 sl (.lst ((List.range n).map (λ (i:Nat)=>V.int (i:Int))))) o (.ins C dx (wf2 gl sl))) sl = some (.lst ((List.range n).map (λ (i:Nat)=>V.int (i:Int)))):=by rw [upd_ne so]; exact Ab
 have ho3:(upd (upd H2 sl (.lst ((List.range n).map (λ (i:Nat)=>V.int (i:Int))))) o (.ins C dx (wf2 gl sl))) o = some (.ins C dx (wf2 gl sl)):=Ab
 have hg3:(upd (upd H2 sl (.lst ((List.range n).map (λ (i:Nat)=>V.int (i:Int))))) o (.ins C dx (wf2 gl sl))) gl = some (.lst gvs):=by rw [upd_ne go,upd_ne (Ne.symm sg)]; exact hg2
 have k3:KpS [o] H2 (upd (upd H2 sl (.lst ((List.range n).map (λ (i:Nat)=>V.int (i:Int))))) o (.ins C dx (wf2 gl sl))):=(Same.kpS g3).trans (KpS.upd mem_cons_self)
 generalize upd (upd H2 sl (.lst ((List.range n).map (λ (i:Nat)=>V.int (i:Int))))) o (.ins C dx (wf2 gl sl)) = H3 at *
 have tpo:∀ {A B:Hp} {c:Addr} {u:HO},KpS [c] A B→A c = some u→(∀ xs,u≠.tup xs)→Tp A B:=λ k e h b xs eb=>k b _ (λ z=>by rw [mS z,e] at eb; exact h xs (Option.some.inj eb)) eb
 have hp3:=Paired.mapP hp2 λ _ _ a=>a.mono (tpo k3 ho2 (λ _ z=>nomatch z))
 refine ⟨_,Z,n,Z,by omega,Int.lt_of_le_of_lt (Int.ofNat_le.mpr hn) (by decide),?_⟩
 rw [Int.toNat_natCast]
 refine F8 (lo:=0) (n:=n) (λ i ys H'=>Same H3 H'∧∃ rs:List Addr,ys = rs.map V.ref∧rs.length = i∧rs.Nodup∧∀ r∈rs,H3 r = none∧H' r = some (.lst [])) ⟨Same.refl _,[],Z,Z,nodup_nil,λ r hr=>nomatch hr⟩ (le_trans hn (by decide)) ?_ ?_
 ·rintro i ys H4 N hi ⟨k4,rs,rfl,lr,nd,hr4⟩ hN hyl
  refine ⟨zN0,λ r hr=>?_⟩
  have g:=Ad hr (.lst [])
  refine hN _ _ (by rw [length_append,length_singleton]; omega) ⟨k4.trans g,rs ++ [r],by rw [map_append]; rfl,by rw [length_append,length_singleton,lr],?_,?_⟩
  ·refine nodup_append.mpr ⟨nd,nodup_cons.mpr ⟨λ z=>(nomatch z),nodup_nil⟩,λ a ha b hb e=>?_⟩
   rw [mS hb] at e
   rw [e] at ha
   rw [(hr4 r ha).2] at hr
   cases hr
  ·intro b hb
   rcases mem_append.mp hb with z | z
   ·exact ⟨(hr4 b z).1,g _ _ (hr4 b z).2⟩
   ·rw [mS z]
    refine ⟨?_,Ab⟩
    cases e:H3 r with
    | none=>rfl
    | some u=>rw [k4 _ _ e] at hr; cases hr
 rintro ys H4 hyl ⟨k4,rs,rfl,lr,nd,hr4⟩ nl hnl
 have g5:=Ad hnl (.lst (rs.map V.ref))
 refine ⟨_,Z,o,C,dx,_,Z,g5 _ _ (k4 _ _ ho3),T.cl,T.nN,(by show 2 < 1000; decide),?_⟩
 have eF3:Ce "senders" (V.ref nl) (wf2 gl sl) = wf3 gl sl nl:=rfl
 rw [eF3]
 have no:nl≠o:=λ z=>by rw [z,k4 _ _ ho3] at hnl; cases hnl
 have ng:nl≠gl:=λ z=>by rw [z,k4 _ _ hg3] at hnl; cases hnl
 have ns:nl≠sl:=λ z=>by rw [z,k4 _ _ hS3] at hnl; cases hnl
 have nr:nl∉rs:=λ z=>by rw [(hr4 nl z).2] at hnl; cases hnl
 have k5:KpS [o] H3 (upd (upd H4 nl (.lst (rs.map V.ref))) o (.ins C dx (wf3 gl sl nl))):=((Same.kpS k4).trans (Same.kpS g5)).trans (KpS.upd mem_cons_self)
 have hn5:(upd (upd H4 nl (.lst (rs.map V.ref))) o (.ins C dx (wf3 gl sl nl))) nl = some (.lst (rs.map V.ref)):=by rw [upd_ne no]; exact Ab
 have ho5:(upd (upd H4 nl (.lst (rs.map V.ref))) o (.ins C dx (wf3 gl sl nl))) o = some (.ins C dx (wf3 gl sl nl)):=Ab
 have hr5:∀ r∈rs,H3 r = none∧(upd (upd H4 nl (.lst (rs.map V.ref))) o (.ins C dx (wf3 gl sl nl))) r = some (.lst []):=λ r hr=>⟨(hr4 r hr).1,by rw [upd_ne (λ z=>by have h:=(hr4 r hr).1; rw [z,ho3] at h; cases h)]; exact g5 _ _ (hr4 r hr).2⟩
 generalize upd (upd H4 nl (.lst (rs.map V.ref))) o (.ins C dx (wf3 gl sl nl)) = H5 at *
 have hg5:=k5 _ _ (λ z=>go (mS z)) hg3
 have hs5:=k5 _ _ (λ z=>so (mS z)) hS3
 have hp5:=Paired.mapP hp3 λ _ _ a=>a.mono (tpo k5 ho3 (λ _ z=>nomatch z))
 refine λ ld hld=>?_
 have g6:=Ad hld (.dK [])
 refine ⟨_,Z,o,C,dx,_,Z,g6 _ _ ho5,T.cl,T.nL,(by show 3 < 1000; decide),?_⟩
 have lo:ld≠o:=λ z=>by rw [z,ho5] at hld; cases hld
 have k6:KpS [o] H5 (upd (upd H5 ld (.dK [])) o (.ins C dx (wsF ⟨dx,gl,sl,nl,ld,rs⟩))):=(Same.kpS g6).trans (KpS.upd mem_cons_self)
 have no1:∀ {c:Addr},c≠o→c∉[o]:=λ h z=>h (mS z)
 have ro:∀ r∈rs,r≠o:=λ r hr z=>by have:=(hr5 r hr).1; rw [z,ho3] at this; cases this
 have kH2:KpS [o] H H2:=λ b u nb e=>k2 b u (λ z=>by rw [mS z,hgl] at e; cases e) (k1 b u nb e)
 have kH3:=kH2.trans k3
 have kH5:=kH3.trans k5
 have back:∀ {A:Hp} {b:Addr},KpS [o] H A→A b = none→b≠o→H b = none:=λ {A b} k e nb=>by
  cases eb:H b with
  | none=>rfl
  | some u=>rw [k b u (no1 nb) eb] at e; cases e
 refine q ⟨dx,gl,sl,nl,ld,rs⟩ _ (kH5.trans k6) ⟨gvs,Ab,k6 _ _ (no1 go) hg5,Paired.mapP hp5 λ _ _ a=>a.mono (tpo k6 ho5 (λ _ z=>nomatch z)),k6 _ _ (no1 so) hs5,k6 _ _ (no1 no) hn5,?_,?_,?_⟩ ?_
 ·refine Dc (by show (List.replicate n []).length = rs.length; rw [length_replicate,lr]) λ j x e=>?_
  have hj:=(List.getElem?_eq_some_iff.mp e).1
  have hj:j < n:=by have h:j < (List.replicate n ([]:List Int)).length:=hj; rwa [length_replicate] at h
  have ex:x = []:=eq_of_mem_replicate (mem_of_getElem? e)
  have hjr:j < rs.length:=by omega
  refine ⟨rs[j],getElem?_eq_getElem hjr,?_⟩
  rw [ex]
  exact k6 _ _ (no1 (ro _ (getElem_mem hjr))) (hr5 _ (getElem_mem hjr)).2
 ·show (upd (upd H5 ld (.dK [])) o (.ins C dx (wsF ⟨dx,gl,sl,nl,ld,rs⟩))) ld = some (.dK [])
  rw [upd_ne lo]
  exact Ab
 ·have rn:∀ {c:Addr} {u:HO},H3 c = some u→c∉rs:=λ e z=>by rw [(hr5 _ z).1] at e; cases e
  refine nodup_cons.mpr ⟨?_,nodup_cons.mpr ⟨?_,nodup_cons.mpr ⟨nr,nd⟩⟩⟩
  ·intro z
   rcases mem_cons.mp z with z | z
   ·exact sg z.symm
   ·rcases mem_cons.mp z with z | z
    ·exact ng z.symm
    ·exact rn hg3 z
  ·intro z
   rcases mem_cons.mp z with z | z
   ·exact ns z.symm
   ·exact rn hS3 z
 ·intro b hb
  rcases mem_cons.mp hb with z | z
  ·rw [z]; exact hgl
  ·rcases mem_cons.mp z with z | z
   ·rw [z]; exact back kH5 hld lo
   ·exact back kH3 (hr5 b z).1 (ro b z)
end
inductive Tk (K:PySem.W.Frag) (vs:List V) (H:Hp) (Q:VK):Prop
 | mk (v) (n) (_:vs = [v]) (_:PAt K H n v) (_:isT n = true) (_:D3 n = true) (_:cnt n≤900) (_:∀ r ws H',Same H H'→H' r = some (.lst ws)→Bk K H' (pre n) ws→Q (.ref r) H'):Tk K vs H Q
def Aaj (K:PySem.W.Frag):Sp:=λ vs H Q _=>Tk K vs H Q
section
variable {P:Program} {w:World} {K:PySem.W.Frag} {mg:Str→Option Value} {base:Heap}
theorem Zf (F:Ba K mg "every_part" ["part"] Go) (aL:Am P w K mg base 1 "inner_parts" ["part"] (Mg K)):Am P w K mg base 2 "every_part" ["part"] (Aaj K):=by
 refine F.ok Fx (λ vs H Q E h=>?_) (λ f cdv A outer s H vs Q E hr h=>?_)
 ·obtain ⟨v,n,rfl,_⟩:=h
  rfl
 obtain ⟨v,n,rfl,hv,hT,hs,hc,q⟩:=h
 refine ⟨_,Ae (Bh (i:=1) Fx.nd rfl (Or.inl rfl) (A5 Ac))
  (Ae (Bh (i:=2) Fx.nd rfl (Or.inl rfl) (A5 (Aa (pv 0) Ac)))
  (Ae (Rx PassesOwn.never (AaF (pv 2) (λ _=>rfl))
   (Ae (Bh (i:=3) Fx.nd rfl (Or.inl rfl) (Lx PySem.F.plainAttrs_list PySem.F.slot_list_pop PySem.F.type_list_pop Lj (pv 2)))
   (Ae (Bg (E1 PySem.F.plainAttrs_list PySem.F.slot_list_append PySem.F.type_list_append Ck (pv 1) (Aa (pv 3) Ac)))
   (Ai (Bg (E1 PySem.F.plainAttrs_list PySem.F.slot_list_extend PySem.F.type_list_extend X9 (pv 2) (Aa (Av aL hr rfl Al (Aa (pv 3) Ac)) Ac)))))))
  (Ai (Aw (pv 1))))),?_⟩
 refine ⟨zN0,λ fo hfo=>⟨_,Z,zN1,λ wa hwa=>?_⟩⟩
 have hwfo:wa≠fo:=by
  rintro rfl
  rw [Ab] at hwa
  cases hwa
 have hwaH:H wa = none:=by rw [upd_ne hwfo] at hwa; exact hwa
 dsimp only [B1,O1]
 refine Qu (λ σ H1=>∃ fs st us ws hv',σ = [some v,some (.ref fo),some (.ref wa),hv']∧Same H H1∧H1 fo = some (.lst us)∧H1 wa = some (.lst ws)∧Bk K H1 fs us∧Bk K H1 st ws∧fs ++ Dj st = pre n∧(∀ x∈st,isT x = true)∧Bi st = true)
  (λ σ H1=>match H1 fo with | some (.lst us)=>1000 - us.length | _=>0) ?_ ?_ ?_
 ·refine ⟨[],[n],[],[v],none,Z,(Ad hfo _).trans (Ad hwa _),?_,Ab,.nil,?_,?_,?_,?_⟩
  ·rw [upd_ne hwfo.symm,Ab]
  ·exact .cons (hv.mono ((Ad hfo _).trans (Ad hwa _)).tp) .nil
  ·show Dj [n] = pre n
   rw [A6,Ca,nil_append]
  ·intro x hx
   rw [mS hx]
   exact hT
  ·exact Ii hs P8
 ·rintro σ H1 ⟨fs,st,us,ws,hv',rfl,g0,hf,hw,aF,aS,e,hTs,hsl⟩
  refine ⟨_,Z,_,.inl ⟨ws,SqL.of hw,Z⟩,?_⟩
  refine Ay (λ c=>?_) (λ c=>?_)
  ·
   have hne:st≠[]:=by
    rintro rfl
    have:=aS.len
    cases ws with
    | nil=>simp at c
    | cons _ _=>simp at this
   obtain ⟨st',x,rfl⟩:∃ st' x,st = st' ++ [x]:=⟨st.dropLast,st.getLast hne,(List.dropLast_concat_getLast hne).symm⟩
   obtain ⟨ws',wx,rfl,aS',aX⟩:=aS.split
   obtain ⟨y,rfl,aY⟩:=aX.one
   have hx:isT x = true:=hTs x (by simp)
   obtain ⟨ns,rfl⟩:∃ ns,x = .t ns:=by
    cases x with
    | t ns=>exact ⟨ns,rfl⟩
    | s _=>cases hx
    | i _=>cases hx
   have hlen:fs.length + (Dj (st' ++ [.t ns])).length = cnt n:=by
    have:=congrArg length e
    rw [length_append] at this
    exact this
   have hpx:Dj (st' ++ [.t ns]) = .t ns :: (Dj ns ++ Dj st'):=by
    rw [J0,A6,Ca,nil_append,C9]; rfl
   have hfl:=aF.len
   have sl:=Kj hsl
   have slx:=AaX sl.2
   have fle:fs.length < 1000:=by rw [hpx] at hlen; simp at hlen; omega
   have wle:(ws' ++ [y]).length≤900:=by
    have h1:=aS.len
    have h2:(st' ++ [Nd.t ns]).length≤(Dj (st' ++ [.t ns])).length:=by
     have:∀ l:List Nd,(∀ x∈l,isT x = true)→l.length≤(Dj l).length:=by
      intro l
      induction l with
      | nil=>intro _; exact zero_le _
      | cons z r ih =>
       intro h
       rw [A6,length_append,length_cons]
       have hz:=h z mem_cons_self
       have:=ih λ x hx=>h x (mem_cons_of_mem _ hx)
       cases z with
       | t zs=>rw [C9,length_cons]; omega
       | s _=>cases hz
       | i _=>cases hz
     exact this _ hTs
    omega
   refine ⟨_,Z,.inl ⟨Z,_,SqL.of hw⟩,wa,_,y,Z,Z,hw,by simp,?_⟩
   have nfw:fo≠wa:=hwfo.symm
   have hf1:(upd H1 wa (.lst (ws' ++ [y]).dropLast)) fo = some (.lst us):=by rw [upd_ne nfw]; exact hf
   have T1:Tp H1 (upd H1 wa (.lst (ws' ++ [y]).dropLast)):=Tp.lst hw
   refine ⟨_,Z,.inl ⟨Z,_,SqL.of hf1⟩,_,Z,fo,_,_,Z,Z,hf1,F2 (by omega),?_⟩
   have T2:=T1.trans (Tp.lst (o:=.lst (us ++ [y])) hf1)
   have hw2:(upd (upd H1 wa (.lst (ws' ++ [y]).dropLast)) fo (.lst (us ++ [y]))) wa = some (.lst ws'):=by rw [upd_ne hwfo,Ab]; simp
   have hf2:(upd (upd H1 wa (.lst (ws' ++ [y]).dropLast)) fo (.lst (us ++ [y]))) fo = some (.lst (us ++ [y])):=Ab
   refine ⟨_,Z,.inl ⟨Z,_,SqL.of hw2⟩,_,Z,y,ns,Z,aY.mono T2,Sl slx,λ r zs hr0 hz=>?_⟩
   have nrw:wa≠r:=A9 hw2 hr0
   have nrf:fo≠r:=A9 hf2 hr0
   have T3:=T2.trans (Tp.new (o:=.lst zs) hr0)
   have zl:=hz.len
   have il:(inner ns).length≤ns.length:=length_filter_le _ _
   refine ⟨wa,r,ws',zs,Z,Z,by rw [upd_ne nrw]; exact hw2,Ab,?_,?_⟩
   ·have:=Sl slx
    simp at wle
    exact He (by omega)
   have T4:=T3.trans (Tp.lst (o:=.lst (ws' ++ zs)) (a:=wa) (ys:=ws') (by rw [upd_ne nrw]; exact hw2))
   refine ⟨⟨fs ++ [.t ns],st' ++ inner ns,us ++ [y],ws' ++ zs,_,Z,?_,?_,Ab,?_,?_,?_,?_,?_⟩,?_⟩
   ·have hr0':H r = none:=by
     cases e:H r with
     | none=>rfl
     | some o =>
      have h1:=g0 r o e
      rw [upd_ne nrf.symm,upd_ne nrw.symm] at hr0
      rw [h1] at hr0
      cases hr0
    exact (((g0.young hwaH _).young hfo _).young hr0' _).young hwaH _
   ·rw [upd_ne nfw,upd_ne nrf]
    exact hf2
   ·exact (aF.mono T4).append (.cons (aY.mono T4) .nil)
   ·have T5:Tp (upd (upd H1 wa (.lst (ws' ++ [y]).dropLast)) fo (.lst (us ++ [y]))) (upd (upd (upd (upd H1 wa (.lst (ws' ++ [y]).dropLast)) fo (.lst (us ++ [y]))) r (.lst zs)) wa (.lst (ws' ++ zs))) :=
     (Tp.new (o:=.lst zs) hr0).trans (Tp.lst (o:=.lst (ws' ++ zs)) (a:=wa) (ys:=ws') (by rw [upd_ne nrw]; exact hw2))
    exact (aS'.mono T4).append (hz.mono T5)
   ·rw [J0,N7,← e,hpx]
    simp
   ·intro x hx
    rcases mem_append.mp hx with z | z
    ·exact hTs x (mem_append_left _ z)
    ·exact AbX x z
   ·exact Ln sl.1 (Jx (Abk slx))
   ·show (match (upd (upd (upd (upd H1 wa (.lst (ws' ++ [y]).dropLast)) fo (.lst (us ++ [y]))) r (.lst zs)) wa (.lst (ws' ++ zs))) fo with | some (.lst us)=>1000 - us.length | _=>0) < (match H1 fo with | some (.lst us)=>1000 - us.length | _=>0)
    rw [upd_ne nfw,upd_ne nrf,hf2,hf]
    show 1000 - (us ++ [y]).length < 1000 - us.length
    rw [length_append,length_singleton]
    omega
  ·
   have hw0:ws = []:=by
    cases ws with
    | nil=>rfl
    | cons _ _=>simp at c
   subst hw0
   have h0:=aS.len
   have:st = []:=length_eq_zero_iff.mp h0
   subst this
   rw [Ca,append_nil] at e
   subst e
   exact ⟨_,Z,q fo us H1 g0 hf aF⟩
 ·rintro σ H Q Q' h ⟨v,e,k,t,q⟩
  exact ⟨v,e,k,t,h _ _ q⟩
def C5:Nd→Option Int
 | .t (.s w :: .i k :: _)=>if w = "rest" ∨ w = "again" then some k else none
 | _=>none
def Sf:Nd→Bool
 | .t (.s _ :: .i _ :: _)=>true
 | .t (.s w :: _)=>decide (¬ w = "rest" ∧ ¬ w = "again")
 | _=>false
def okA (n:Nd):Bool:=(pre n).all Sf
def rests (n:Nd):List Int:=(pre n).filterMap C5
structure Wi (K:PySem.W.Frag) (H:Hp) (n:Nd) (v:V):Prop where
 at':PAt K H n v
 ti:isT n = true
 sl:D3 n = true
 ct:cnt n≤900
 ok:okA n = true
 rl:(rests n).length < 64
inductive Pg (K:PySem.W.Frag) (vs:List V) (H:Hp) (Q:VK):Prop
 | mk (v) (n) (_:vs = [v]) (_:Wi K H n v) (_:∀ r (ms:List Int) H',Same H H'→H' r = some (.lst (ms.map V.int))→ms.Perm (rests n)→ms.Pairwise (·≤·)→Q (.ref r) H'):Pg K vs H Q
def Tr (K:PySem.W.Frag):Sp:=λ vs H Q _=>Pg K vs H Q
theorem Wu {x:Nd} (h:Sf x = true):∃ (w:Str) (ys:List Nd),x = .t (.s w :: ys)∧((w = "rest" ∨ w = "again")→∃ k zs,ys = .i k :: zs):=by
 cases x with
 | s _=>cases h
 | i _=>cases h
 | t xs =>
  cases xs with
  | nil=>cases h
  | cons a r =>
   cases a with
   | i _=>cases h
   | t _=>cases h
   | s w =>
    refine ⟨w,r,Z,λ hw=>?_⟩
    cases r with
    | nil =>
     have h:decide (¬ w = "rest" ∧ ¬ w = "again") = true:=h
     have h:=of_decide_eq_true h
     rcases hw with z | z
     ·exact absurd z h.1
     ·exact absurd z h.2
    | cons b r' =>
     cases b with
     | i k=>exact ⟨k,r',rfl⟩
     | s _ =>
      have h:decide (¬ w = "rest" ∧ ¬ w = "again") = true:=h
      have h:=of_decide_eq_true h
      rcases hw with z | z
      ·exact absurd z h.1
      ·exact absurd z h.2
     | t _ =>
      have h:decide (¬ w = "rest" ∧ ¬ w = "again") = true:=h
      have h:=of_decide_eq_true h
      rcases hw with z | z
      ·exact absurd z h.1
      ·exact absurd z h.2
theorem AaA (F:Ba K mg "rests_of" ["part"] Gn) (T:Txt mg) (cH:Am P w K mg base 2 "every_part" ["part"] (Aaj K)):Am P w K mg base 3 "rests_of" ["part"] (Tr K):=by
 refine F.ok S8 (λ vs H Q E h=>?_) (λ f cdv A outer s H vs Q E hr h=>?_)
 ·obtain ⟨v,n,rfl,_⟩:=h
  rfl
 obtain ⟨v,n,rfl,N,q⟩:=h
 refine ⟨_,(Ai (Aw (A4 S0 rfl T.n_sorted (by decide +kernel) (Aa (Cu (g:=(B1 0)) (tc:=(tOr (Kn (tOp rEq (tOp (G1 K) (Bt 0) (tC (.int 0))) (tC (.str "rest")))) (Kn (tOp rEq (tOp (G1 K) (Bt 0) (tC (.int 0))) (tC (.str "again")))))) (te:=(tOp (G1 K) (Bt 0) (tC (.int 1)))) ["inner"] [] rfl (Ci (Aj Gn) ["part"] (by decide +kernel)) (Cz (Av cH hr rfl Al (Aa (pv 0) Ac))) (λ s2 H2 fp cl C=>A3 (i:=0) (show Nodup [("inner" : Str)] from by decide +kernel) rfl (Or.inl rfl)) (Bo (by decide)) (λ s2 H2 fp cl C=>F3 (PW.pt (D8 (As Bm (Ao Ap (pv 0) Ag (λ _ _=>rfl)) An (Ax _)) (E8 (As Bm (Ao Ap (pv 0) Ag (λ _ _=>rfl)) An (Ax _)))))) (λ s2 H2 fp cl C=>(Ao Ap (pv 0) Ag (λ _ _=>rfl)))) Ac)))),?_⟩
 refine ⟨_,Z,v,n,Z,N.at',N.ti,N.sl,N.ct,λ r ws H1 g1 hr1 aP=>?_⟩
 refine ⟨r,Z,⟨_,SqL.of hr1⟩,?_⟩
 have hlen:=aP.len
 have hcn:(pre n).length≤900:=N.ct
 refine E4 (K:=K) (xs:=ws) (λ i ys H'=>H' = H1∧ys = (((pre n).take i).filterMap C5).map V.int) ⟨Z,by simp⟩ (He (by omega)) (λ i ys H' ⟨e,_⟩=>by rw [e]; exact SqL.of hr1) ?_ ?_
 ·rintro i x ys H' Nx hi ⟨rfl,rfl⟩ hN hyl
  obtain ⟨nd,hn,hax⟩:=aP.at hi
  have hok:Sf nd = true:=all_eq_true.mp N.ok nd (mem_of_getElem? hn)
  obtain ⟨wd,zs,rfl,hw⟩:=Wu hok
  obtain ⟨a,vs,rfl,ha,hx⟩:=hax.get
  unfold Bk at hx
  obtain ⟨v1,vs1,rfl,aX,aY⟩:=hx
  cases aX.str
  have hxt:((pre n).take (i + 1)).filterMap C5 = ((pre n).take i).filterMap C5 ++ (C5 (.t (.s wd :: zs))).toList:=by
   rw [take_add_one,hn,filterMap_append]
   cases e:C5 (.t (.s wd :: zs)) <;> simp [e]
  have yes:(wd = "rest" ∨ wd = "again")→tOp (G1 K) (Bt 0) (tC (.int 1)) ((J7 1 [] (L2.Ik ["part"] [v])).set 0 (some (.ref a))) H' λ y H4=>Nx ((((pre n).take i).filterMap C5).map V.int ++ [y]) H4:=by
   intro hwd
   obtain ⟨k,zs',rfl⟩:=hw hwd
   unfold Bk at aY
   obtain ⟨v2,vs2,rfl,aZ,_⟩:=aY
   cases aZ.int
   refine ⟨_,Z,a,_,_,.int k,Z,Z,ha.sq,Ah (j:=1) rfl,hN _ _ ?_ ⟨Z,?_⟩⟩
   ·rw [length_append,length_singleton]; omega
   ·rw [hxt]
    have:C5 (.t (.s wd :: .i k :: zs')) = some k:=if_pos hwd
    rw [this]
    simp
  have no:¬ (wd = "rest" ∨ wd = "again")→Nx ((((pre n).take i).filterMap C5).map V.int) H':=by
   intro hwd
   refine hN _ _ (by omega) ⟨Z,?_⟩
   rw [hxt]
   have:C5 (.t (.s wd :: zs)) = none:=by
    unfold C5
    split
    ·rename_i e
     cases e
     exact if_neg hwd
    ·rfl
   rw [this]
   simp
  refine ⟨_,Z,a,_,_,.str wd,Z,Z,ha.sq,Ah (j:=0) rfl,Z,_,Z,?_⟩
  refine Ay (λ c=>?_) (λ c=>?_)
  ·refine Dy ?_
   exact yes (.inl (V.str.inj (of_decide_eq_true c)))
  ·refine ⟨_,Z,a,_,_,.str wd,Z,Z,ha.sq,Ah (j:=0) rfl,Z,_,Z,?_⟩
   refine Ay (λ c2=>?_) (λ c2=>?_)
   ·exact yes (.inr (V.str.inj (of_decide_eq_true c2)))
   ·refine no λ z=>?_
    rcases z with z | z
    ·exact c (decide_eq_true (congrArg V.str z))
    ·exact c2 (decide_eq_true (congrArg V.str z))
 ·rintro ys H' hyl ⟨rfl,rfl⟩ D hD
  have e:((pre n).take ws.length).filterMap C5 = rests n:=by
   rw [take_of_length_le (by omega)]; rfl
  rw [e]
  refine ⟨D,rests n,Z,SqL.of Ab,N.rl,λ r2 ms hr2 hp hs=>?_⟩
  exact q r2 ms _ ((g1.trans (Ad hD _)).trans (Ad hr2 _)) Ab hp hs
end
def rsP:Pt→List Int
 | .rest k=>[k]
 | .again k p=>k :: rsP p
 | .iff _ p q=>rsP q ++ rsP p
 | .thn p q=>rsP q ++ rsP p
 | .bes p q=>rsP q ++ rsP p
 | .hold _ p=>rsP p
 | .watch _ p=>rsP p
 | .trap p=>rsP p
 | _=>[]
theorem Ux {w:Str} (h:¬ (w = "rest" ∨ w = "again")) (k:Int) (r:List Nd):C5 (.t (.s w :: .i k :: r)) = none:=by rw [C5,if_neg h]
theorem Ab1 {w:Str} (h:w = "rest" ∨ w = "again") (k:Int) (r:List Nd):C5 (.t (.s w :: .i k :: r)) = some k:=by rw [C5,if_pos h]
theorem Acm {w:Str} (h:¬ w = "rest" ∧ ¬ w = "again") (xs r:List Nd):Sf (.t (.s w :: .t xs :: r)) = true:=decide_eq_true h
theorem AdM {w:Str} (h:¬ w = "rest" ∧ ¬ w = "again"):Sf (.t [.s w]) = true:=decide_eq_true h
theorem Aby (p:Pt):∃ xs,p.nd = .t xs:=by cases p <;> exact ⟨_,Z⟩
structure NdF (p:Pt):Prop where
 rs:rests p.nd = rsP p
 ct:cnt p.nd = p.sz
 sl:D3 p.nd = true
 ok:okA p.nd = true
theorem ndF {n:Nat}:∀ {p:Pt},okN n p→NdF p:=by
 have pre1:∀ (x:Nd),Dj [x] = pre x:=λ x=>by rw [A6,Ca,nil_append]
 have one:∀ (w:Str) (k:Int) (p:Pt),¬ (w = "rest" ∨ w = "again")→NdF p→rests (.t [.s w,.i k,p.nd]) = rsP p∧cnt (.t [.s w,.i k,p.nd]) = p.sz + 1∧D3 (.t [.s w,.i k,p.nd]) = true∧okA (.t [.s w,.i k,p.nd]) = true:=λ w k p h f=>by
  have e:pre (.t [.s w,.i k,p.nd]) = .t [.s w,.i k,p.nd] :: pre p.nd:=by rw [C9,A6,A6,pre1,Dm,Fg,append_nil,append_nil]
  refine ⟨?_,?_,Ga (by show 3≤8; decide) ?_,?_⟩
  ·unfold rests; rw [e,filterMap_cons_none (Ux h _ _)]; exact f.rs
  ·unfold cnt; rw [e,length_cons]; exact congrArg (· + 1) f.ct
  ·rw [Bi,Bi,Bi,Bi,f.sl]; rfl
  ·unfold okA; rw [e,all_cons]; exact f.ok
 have two:∀ (w:Str) (p q:Pt),(¬ w = "rest" ∧ ¬ w = "again")→NdF p→NdF q→rests (.t [.s w,p.nd,q.nd]) = rsP q ++ rsP p∧cnt (.t [.s w,p.nd,q.nd]) = p.sz + q.sz + 1∧D3 (.t [.s w,p.nd,q.nd]) = true∧okA (.t [.s w,p.nd,q.nd]) = true:=λ w p q h f g=>by
  have e:pre (.t [.s w,p.nd,q.nd]) = .t [.s w,p.nd,q.nd] :: (pre q.nd ++ pre p.nd):=by rw [C9,A6,A6,pre1,Dm,append_nil]
  obtain ⟨xs,ex⟩:=Aby p
  refine ⟨?_,?_,Ga (by show 3≤8; decide) ?_,?_⟩
  ·unfold rests
   rw [e,filterMap_cons_none (by rw [ex]; rfl),filterMap_append,← f.rs,← g.rs]; rfl
  ·unfold cnt; rw [e,length_cons,length_append]; have:=f.ct; have:=g.ct; unfold cnt at *; omega
  ·rw [Bi,Bi,Bi,Bi,f.sl,g.sl]; rfl
  ·unfold okA
   rw [e,all_cons,List.all_append]
   have h1:=f.ok
   have h2:=g.ok
   unfold okA at h1 h2
   rw [h1,h2,ex,Acm h]; rfl
 intro p
 induction p with
 | nothing=>exact λ _=>⟨by unfold rests; rw [Pt.nd,C9,A6,Ca,Dm]; rfl,by unfold cnt; rw [Pt.nd,C9,A6,Ca,Dm]; rfl,by rw [Pt.nd]; exact Ga (by show 1≤8; decide) (by rw [Bi,Bi,D3]; rfl),by unfold okA; rw [Pt.nd,C9,A6,Ca,Dm,all_cons,AdM (by decide +kernel)]; rfl⟩
 | rest k=>exact λ _=>⟨by unfold rests; rw [Pt.nd,C9,A6,A6,Ca,Dm,Fg,List.filterMap_cons_some (Ab1 (.inl rfl) _ _)]; rfl,by unfold cnt; rw [Pt.nd,C9,A6,A6,Ca,Dm,Fg]; rfl,by rw [Pt.nd]; exact Ga (by show 2≤8; decide) (by rw [Bi,Bi,Bi,D3,D3]; rfl),by unfold okA; rw [Pt.nd,C9,A6,A6,Ca,Dm,Fg]; rfl⟩
 | send k=>exact λ _=>⟨by unfold rests; rw [Pt.nd,C9,A6,A6,Ca,Dm,Fg,filterMap_cons_none (Ux (by decide +kernel) _ _)]; rfl,by unfold cnt; rw [Pt.nd,C9,A6,A6,Ca,Dm,Fg]; rfl,by rw [Pt.nd]; exact Ga (by show 2≤8; decide) (by rw [Bi,Bi,Bi,D3,D3]; rfl),by unfold okA; rw [Pt.nd,C9,A6,A6,Ca,Dm,Fg]; rfl⟩
 | exit k=>exact λ _=>⟨by unfold rests; rw [Pt.nd,C9,A6,A6,Ca,Dm,Fg,filterMap_cons_none (Ux (by decide +kernel) _ _)]; rfl,by unfold cnt; rw [Pt.nd,C9,A6,A6,Ca,Dm,Fg]; rfl,by rw [Pt.nd]; exact Ga (by show 2≤8; decide) (by rw [Bi,Bi,Bi,D3,D3]; rfl),by unfold okA; rw [Pt.nd,C9,A6,A6,Ca,Dm,Fg]; rfl⟩
 | stay ks=>exact λ ok=>absurd ok id
 | iff i p q ihp ihq =>
  intro ok
  have f:=ihp ok.2.1
  have g:=ihq ok.2.2
  have e:pre (.t [.s "if", .i i,p.nd,q.nd]) = .t [.s "if", .i i,p.nd,q.nd] :: (pre q.nd ++ pre p.nd):=by rw [C9,A6,A6,A6,pre1,Dm,Fg,append_nil,append_nil]
  refine ⟨?_,?_,?_,?_⟩
  ·rw [Pt.nd]; unfold rests
   rw [e,filterMap_cons_none (Ux (by decide +kernel) _ _),filterMap_append,rsP,← f.rs,← g.rs]; rfl
  ·rw [Pt.nd]; unfold cnt; rw [e,length_cons,length_append]; have:=f.ct; have:=g.ct; unfold cnt at *; rw [Pt.sz]; omega
  ·rw [Pt.nd]; exact Ga (by show 4≤8; decide) (by rw [Bi,Bi,Bi,Bi,Bi,f.sl,g.sl]; rfl)
  ·rw [Pt.nd]; unfold okA
   rw [e,all_cons,List.all_append]
   have h1:=f.ok
   have h2:=g.ok
   unfold okA at h1 h2
   rw [h1,h2]; rfl
 | again k p ih =>
  intro ok
  have f:=ih ok
  have e:pre (.t [.s "again", .i k,p.nd]) = .t [.s "again", .i k,p.nd] :: pre p.nd:=by rw [C9,A6,A6,pre1,Dm,Fg,append_nil,append_nil]
  refine ⟨?_,?_,?_,?_⟩
  ·rw [Pt.nd]; unfold rests
   rw [e,List.filterMap_cons_some (Ab1 (.inr rfl) _ _),rsP,← f.rs]; rfl
  ·rw [Pt.nd]; unfold cnt; rw [e,length_cons]; exact congrArg (· + 1) f.ct
  ·rw [Pt.nd]; exact Ga (by show 3≤8; decide) (by rw [Bi,Bi,Bi,Bi,f.sl]; rfl)
  ·rw [Pt.nd]; unfold okA; rw [e,all_cons]; exact f.ok
 | hold i p ih=>exact λ ok=>by obtain ⟨h1,h2,h3,h4⟩:=one "hold" i p (by decide +kernel) (ih ok.2); exact ⟨h1,h2,h3,h4⟩
 | watch i p ih=>exact λ ok=>by obtain ⟨h1,h2,h3,h4⟩:=one "watch" i p (by decide +kernel) (ih ok.2); exact ⟨h1,h2,h3,h4⟩
 | trap p ih =>
  intro ok
  have f:=ih ok
  have e:pre (.t [.s "trap", p.nd]) = .t [.s "trap", p.nd] :: pre p.nd:=by rw [C9,A6,pre1,Dm,append_nil]
  obtain ⟨xs,ex⟩:=Aby p
  refine ⟨?_,?_,?_,?_⟩
  ·rw [Pt.nd]; unfold rests
   rw [e,filterMap_cons_none (by rw [ex]; rfl),rsP,← f.rs]; rfl
  ·rw [Pt.nd]; unfold cnt; rw [e,length_cons]; exact congrArg (· + 1) f.ct
  ·rw [Pt.nd]; exact Ga (by show 2≤8; decide) (by rw [Bi,Bi,Bi,f.sl]; rfl)
  ·rw [Pt.nd]; unfold okA
   have h1:=f.ok
   unfold okA at h1
   rw [e,all_cons,h1,ex,Acm (by decide +kernel)]; rfl
 | thn p q ihp ihq=>exact λ ok=>by obtain ⟨h1,h2,h3,h4⟩:=two "then" p q (by decide +kernel) (ihp ok.1) (ihq ok.2); exact ⟨h1,h2,h3,h4⟩
 | bes p q ihp ihq=>exact λ ok=>by obtain ⟨h1,h2,h3,h4⟩:=two "beside" p q (by decide +kernel) (ihp ok.1) (ihq ok.2); exact ⟨h1,h2,h3,h4⟩
theorem AbL {K:PySem.W.Frag} {H:Hp} {n:Nat} {p:Pt} {v:V} (h:PAt K H p.nd v) (ok:okN n p) (hz:p.sz≤900) (hr:(rsP p).length < 64):Wi K H p.nd v :=
 ⟨h,Ho p,(ndF ok).sl,by rw [(ndF ok).ct]; exact hz,(ndF ok).ok,by rw [(ndF ok).rs]; exact hr⟩
def C7 (s:Ws) (i:Nat):Ws:=(s.add "given" [(i:Int)]).fil (i:Int) "some" (s.nx :: s.sn.getD i [])
def net3 (n:Nat) (p:Pt):Ws:=((((wireP p (ws0 n)).2.add "start" []).fil (wireP p (ws0 n)).1.runs "some" [(wireP p (ws0 n)).2.nx,(wireP p (ws0 n)).1.rests]).fil (wireP p (ws0 n)).1.kept "all" []).fil (wireP p (ws0 n)).1.stays "some" []
def E6 (n:Nat) (p:Pt):Ws:=(List.range n).foldl C7 (net3 n p)
def Dx (n:Nat) (p:Pt):Int× Ws:=cgt (wireP p (ws0 n)).1.codes 0 (E6 n p)
def Ej (n:Nat) (p:Pt):Int× Ws:=cgt (wireP p (ws0 n)).1.codes 1 (Dx n p).2
def Jg (n:Nat) (p:Pt) (ms:List Int):List Int:=ms.map λ k=>((wireP p (ws0 n)).2.lv.lookup k).getD 0
theorem Gr.sg (s:Ws) (i:Nat):Gr s (C7 s i) 1 0:=(Gr.add s _ _).trans (.fil _ _ _ _)
theorem Qq (s:Ws) (is:List Nat):(is.foldl C7 s).lv = s.lv∧(is.foldl C7 s).sn = s.sn∧(is.foldl C7 s).gs.length = s.gs.length + is.length:=by
 induction is generalizing s with
 | nil=>exact ⟨rfl,rfl,rfl⟩
 | cons i r ih =>
  rw [foldl_cons,(ih _).1,(ih _).2.1,(ih _).2.2,length_cons]
  refine ⟨Z,Z,?_⟩
  unfold C7
  rw [A8,Af]
  omega
structure Aam (C:Addr) (H:Hp) (v:V) (n:Nat) (p:Pt) (ms:List Int):Prop where
 h:∃ o L t te ln,v = .ref t∧H t = some (.tup [.ref L.gl,.ref L.sl,.ref te,.ref ln])∧Au C H o L n (Ej n p).2∧H te = some (.tup [.int (Dx n p).1,.int (Ej n p).1])∧H ln = some (.lst ((Jg n p ms).map V.int))
inductive Ug (K:PySem.W.Frag) (C:Addr) (m:Nat) (vs:List V) (H:Hp) (Q:VK):Prop
 | mk (a:Addr) (x0 x1 v:V) (n:Nat) (p:Pt) (_:vs = [.ref a]) (_:H a = some (.tup [x0,x1,.int n,v])) (_:PAt K H p.nd v) (_:p.hg≤m) (_:okN n p) (_:n≤1000) (_:p.sz≤900) (_:(rsP p).length < 64) (_:(∀ k∈rsP p,∃ g,(wireP p (ws0 n)).2.lv.lookup k = some g)) (_:∀ v' ms H',Same H H'→ms.Perm (rsP p)→ms.Pairwise (·≤·)→Aam C H' v' n p ms→Q v' H'):Ug K C m vs H Q
def Aan (K:PySem.W.Frag) (C:Addr) (m:Nat):Sp:=λ vs H Q _=>Ug K C m vs H Q
section
variable {P:Program} {w:World} {K:PySem.W.Frag} {mg:Str→Option Value} {base:Heap} {C CP:Addr}
seal PSs PS PE PA PT
theorem Zw {m:Nat} {fW:Addr} {fdW:FuncData} (F:Ba K mg "net_of" ["program"] Jm) (T:B3 K mg C CP) (MkW:Mk K C fW) (GW:Cj P w K mg base CX0 3 fW fdW ["self", "signs"] (Ue C)) (bW:B7 K fdW ["self", "signs"] []) (aH:Bf P w K mg base 1 C "gate" ["self", "word", "numbers"] (Gb C)) (aD:Bf P w K mg base 1 C "fill" ["self", "number", "word", "numbers"] (Gk C)) (aJ:Am P w K mg base 3 "code_gate" ["wiring", "whole", "code"] (Rw C CP)) (eC:Am P w K mg base 3 "rests_of" ["part"] (Tr K)) (bA:Am P w K mg base (m + 6) "wire_part" ["wiring", "part"] (J8 K C CP m)):Am P w K mg base (m + 7) "net_of" ["program"] (Aan K C m):=by
 refine F.ok E9 (λ vs H Q E h=>?_) (λ fn cdv A outer s0 H vs Q E hr h=>?_)
 ·obtain ⟨a,x0,x1,v,n,p,rfl,_⟩:=h; rfl
 obtain ⟨pa,x0,x1,v,n,p,rfl,hpa,hp,hh,ok,hn,hz,hrs,hk,q⟩:=h
 obtain ⟨uE,hE,rE⟩:=T.gE
 obtain ⟨uR,hR,rR⟩:=T.gR
 have hu:=lt_of_le_of_lt (add_le_add_left (show 1≤64 by decide) _) hr.units
 refine ⟨_,(Ae (Bh (i:=1) E9.nd rfl (Or.inr rfl) (Tv MkW GW (hr.mono (by omega)) rfl T.m_Wiring bW .nil Al (Aa (Ao Ap (pv 0) Ag (λ _ _=>rfl)) Ac)))
  (Ae (Bh (i:=2) E9.nd rfl (Or.inl rfl) (Av bA hr rfl Al (Aa (pv 1) (Aa (Ao Ap (pv 0) Ag (λ _ _=>rfl)) Ac))))
  (Ae (Bg (Aq aD hr Al (pv 1) (Aa (Ar (pv 2) rfl) (Aa An (Aa (A5 (Aa (Aq aH hr Al (pv 1) (Aa An (Aa (A5 Ac) Ac))) (Aa (Ar (pv 2) rfl) Ac))) Ac)))))
  (Ae (Bg (Aq aD hr Al (pv 1) (Aa (Ar (pv 2) rfl) (Aa An (Aa (A5 Ac) Ac)))))
  (Ae (Bg (Aq aD hr Al (pv 1) (Aa (Ar (pv 2) rfl) (Aa An (Aa (A5 Ac) Ac)))))
  (Ae (Dr PassesOwn.never rfl (Aa1 rfl T.n_enumerate (Aa (Ar (pv 1) rfl) Ac)) (Fs rfl (B0 (A3 (i:=3) E9.nd rfl (Or.inl rfl)) (B0 (A3 (i:=4) E9.nd rfl (Or.inl rfl)) Ep)))
   (Ai (Bg (Aq aD hr Al (pv 1) (Aa (Ao Bz (Ar (pv 1) rfl) (pv 3) (λ _ _=>rfl)) (Aa An (Aa (Bj Ji (A5 (Aa (Aq aH hr Al (pv 1) (Aa An (Aa (A5 (Aa (pv 3) Ac)) Ac))) Ac)) (pv 4)) Ac)))))))
  (Ae (Bh (i:=5) E9.nd rfl (Or.inl rfl) (Be (Aa (Av aJ hr rfl Al (Aa (pv 1) (Aa (pv 2) (Aa (Cb rfl hE rE) Ac)))) (Aa (Av aJ hr rfl Al (Aa (pv 1) (Aa (pv 2) (Aa (Cb rfl hR rR) Ac)))) Ac))))
  (Ae (Ff (j:=6) (g:=(B1 0)) (tc:=C1) (te:=(Qi (Abw K (Bt 1) "leavers") (Bt 0))) ["rest"] [("wiring", 1)] E9.nd rfl (Or.inl rfl) rfl (Ci (Aj Jm) ["program", "wiring", "body", "sign", "senders", "ends", "nexts"] (by decide +kernel)) (Cz (Av eC hr rfl Al (Aa (Ao Ap (pv 0) Ag (λ _ _=>rfl)) Ac))) (λ s2 H2 fp cl C=>A3 (i:=0) (show Nodup [("rest" : Str),("wiring" : Str)] from by decide +kernel) rfl (Or.inl rfl)) (Bo (by decide)) (λ s2 H2 fp cl C=>Df) (λ s2 H2 fp cl C=>(Ml hu (Ar (pv 1) rfl) (pv 0) (λ _ _=>rfl))))
  (Ai (Aw (Be (Aa (Ar (pv 1) rfl) (Aa (Ar (pv 1) rfl) (Aa (pv 5) (Aa (pv 6) Ac))))))))))))))),?_⟩
 refine ⟨_,Z,pa,_,_,_,Z,Z,SqT.of hpa,Ah (j:=2) rfl,?_⟩
 refine λ o dx na nd ne=>?_
 have sA:Same H (upd (upd H dx (.own o)) o (.ins C dx [])):=λ b u e=>by
  rw [upd_ne (A9 e na),upd_ne (A9 e nd)]
  exact e
 refine ⟨o,dx,n,Z,Ab,hn,λ L H1 k1 W1 fr=>⟨Z,?_⟩⟩
 have g1:Same H H1:=λ b u e=>k1 b u (λ z=>by rw [mS z,na] at e; cases e) (sA b u e)
 have sm:∀ {H':Hp},KpS L.S H1 H'→Same H H':=λ k b u e=>k b u (λ z=>by
  have:=fr b z
  rw [sA b u e] at this
  cases this) (g1 b u e)
 have wk:=B9 p (ws0 n) ok
 have kd:=Pz p (ws0 n) ok
 have l0:(ws0 n).gs.length = n:=length_replicate
 have hlo:=wk.gr.lo
 have hhi:=wk.gr.hi
 rw [l0] at hlo hhi
 refine ⟨_,Z,_,Z,pa,_,_,_,Z,Z,SqT.of (g1 _ _ hpa),Ah (j:=3) rfl,o,v,p,L,n,ws0 n,Z,W1,hp.mono g1.tp,hh,ok,length_replicate,by rw [l0]; omega,λ r hr=>?_,by show 0 + p.sz≤1000000; omega,λ b H2 k2 nb W2 D2=>?_⟩
 ·rw [eq_of_mem_replicate hr]
  show 0 + p.sz≤1000000
  omega
 obtain ⟨bx,bd,bo,hb2,hbd2⟩:=id D2
 have bS:=(W2.objOff hb2).2
 obtain ⟨_,ho2,_⟩:=id W2
 refine ⟨_,Z,o,L.dx,_,Z,ho2,Z,_,Z,b,CP,bx,_,.int (wireP p (ws0 n)).1.runs,Z,hb2,T.clP,T.nR,Z,_,Z,o,L.dx,_,Z,ho2,Z,zN0,λ l3 h3=>?_⟩
 have g3:=Ad h3 (.lst [])
 refine ⟨o,l3, "start", [],L,n,_,Z,W2.same g3,Ab,by omega,λ H3 k3' W3=>?_⟩
 have k3:=(Same.kpS g3).trans k3'
 refine ⟨_,Z,b,CP,bx,_,.int (wireP p (ws0 n)).1.rests,Z,k3 _ _ bS hb2,T.clP,T.nE,Z,zN2,λ l4 h4=>?_⟩
 have g4:=Ad h4 (.lst [V.int (wireP p (ws0 n)).2.nx,.int (wireP p (ws0 n)).1.rests])
 refine ⟨o,l4,(wireP p (ws0 n)).1.runs, "some", [(wireP p (ws0 n)).2.nx,(wireP p (ws0 n)).1.rests],L,n,_,Z,W3.same g4,Ab,kd.1.1.1,by rw [Az]; have:=kd.1.1.2; omega,λ H5 k5' W5=>?_⟩
 have k5:=(k3.trans (Same.kpS g4)).trans k5'
 obtain ⟨_,ho5,_⟩:=id W5
 refine ⟨_,Z,o,L.dx,_,Z,ho5,Z,_,Z,b,CP,bx,_,.int (wireP p (ws0 n)).1.kept,Z,k5 _ _ bS hb2,T.clP,T.nK,Z,zN0,λ l6 h6=>?_⟩
 have g6:=Ad h6 (.lst [])
 refine ⟨o,l6,(wireP p (ws0 n)).1.kept, "all", [],L,n,_,Z,W5.same g6,Ab,kd.1.2.1.1,by rw [Fa,Az]; have:=kd.1.2.1.2; omega,λ H7 k7' W7=>?_⟩
 have k7:=(k5.trans (Same.kpS g6)).trans k7'
 obtain ⟨_,ho7,_⟩:=id W7
 refine ⟨_,Z,o,L.dx,_,Z,ho7,Z,_,Z,b,CP,bx,_,.int (wireP p (ws0 n)).1.stays,Z,k7 _ _ bS hb2,T.clP,T.nT,Z,zN0,λ l8 h8=>?_⟩
 have g8:=Ad h8 (.lst [])
 refine ⟨o,l8,(wireP p (ws0 n)).1.stays, "some", [],L,n,_,Z,W7.same g8,Ab,kd.1.2.2.1,by rw [Fa,Fa,Az]; have:=kd.1.2.2.2; omega,λ H9 k9' W9'=>?_⟩
 have k9:=(k7.trans (Same.kpS g8)).trans k9'
 have W9:Au C H9 o L n (net3 n p):=W9'
 have l9:(net3 n p).gs.length = (wireP p (ws0 n)).2.gs.length + 1:=by unfold net3; rw [A8,A8,A8,Af]
 have hsn:(net3 n p).sn.length = n:=by
  have h:(net3 n p).sn = (wireP p (ws0 n)).2.sn:=rfl
  rw [h,wk.gr.sn]
  exact length_replicate
 have hrw:∀ r∈(net3 n p).sn,r.length≤1000:=λ r hr=>by
  have:=wk.gr.rows 0 (λ r hr=>by rw [eq_of_mem_replicate hr]; exact le_refl _) r hr
  omega
 obtain ⟨gvs9,ho9,hg9,hpg9,hs9,hn9,hr9,hl9,nd9⟩:=id W9
 have lrs:L.rs.length = n:=by rw [← PySem.Paired.length hr9,hsn]
 refine ⟨_,Z,o,C,L.dx,_,.ref L.nl,Z,ho9,T.cl,T.nN,Z,L.nl,Z,⟨_,SqL.of hn9⟩,Zl (K:=K) (l:=L.nl) (xs:=L.rs.map V.ref) (λ i σ H'=>∃ x3 x4,σ = [some (.ref pa),some (.ref o),some (.ref b),x3,x4,none,none]∧KpS L.S H9 H'∧Au C H' o L n ((List.range i).foldl C7 (net3 n p))) ⟨none,none,Z,KpS.refl _ _,W9⟩ ?_ ?_ ?_⟩
 ·rintro i σ H' _ ⟨_,_,_,_,⟨_,_,_,_,_,hn',_⟩⟩
  exact SqL.of hn'
 ·rintro i x t σ HA hi ⟨x3,x4,rfl,kA,WA⟩ ht
  have hil:i < L.rs.length:=by have:=(List.getElem?_eq_some_iff.mp hi).1; rwa [length_map] at this
  rw [getElem?_map,getElem?_eq_getElem hil] at hi
  cases hi
  have sl:=Qq (net3 n p) (List.range i)
  rw [length_range] at sl
  rw [range_succ,foldl_append]
  generalize (List.range i).foldl C7 (net3 n p) = sI at *
  have gt:=Ad ht (.tup [V.int (i:Int),V.ref L.rs[i]])
  have WB:=WA.same gt
  have kB:=kA.trans (Same.kpS gt)
  obtain ⟨gvsB,hoB,hgB,hpgB,hsB,hnB,hrB,hlB,ndB⟩:=id WB
  refine ⟨t,_,Z,SqT.of Ab,Z,_,_,Z,_,_,Z,Z,_,Z,o,L.dx,_,Z,hoB,Z,_,Z,o,C,L.dx,_,.ref L.sl,Z,hoB,T.cl,T.nS,Z,_,Z,L.sl,_,_,.int (i:Int),Z,Z,SqL.of hsB,Ah (by rw [getElem?_map,getElem?_range (by omega)]; rfl),_,Z,o,L.dx,_,Z,hoB,Z,_,Z,zN1,λ l1 h1=>?_⟩
  have gl1:=Ad h1 (.lst [V.int (i:Int)])
  refine ⟨o,l1, "given", [(i:Int)],L,n,_,Z,WB.same gl1,Ab,by omega,λ HC kC' WC=>⟨zN1,λ l2 h2=>?_⟩⟩
  have kC:=(kB.trans (Same.kpS gl1)).trans kC'
  have gl2:=Ad h2 (.lst [V.int sI.nx])
  have WD:=WC.same gl2
  obtain ⟨gvsD,hoD,hgD,hpgD,hsD,hnD,hrD,hlD,ndD⟩:=id WD
  have hiS:i < sI.sn.length:=by rw [sl.2.1,hsn]; omega
  obtain ⟨rr,f1,f2⟩:=Bq hrD (show (sI.add "given" [(i:Int)]).sn[i]? = some sI.sn[i] from getElem?_eq_getElem hiS)
  rw [getElem?_eq_getElem hil] at f1
  cases f1
  have lrow:(sI.sn[i]).length≤1000:=hrw _ (by rw [← sl.2.1]; exact getElem_mem hiS)
  refine ⟨_,Z,l2,L.rs[i],_,_,Z,Z,Ab,f2,by rw [length_map,length_singleton]; exact le_trans (by omega:_≤2000) (by decide),λ l5 h5=>?_⟩
  have g5:=Ad h5 (.lst ([V.int sI.nx] ++ (sI.sn[i]).map V.int))
  refine ⟨o,l5,(i:Int), "some", sI.nx :: sI.sn[i],L,n,_,Z,WD.same g5,Ab,by omega,by unfold Ws.nx; rw [Af]; omega,λ HE kE WE=>?_⟩
  refine ⟨_,_,Z,((kC.trans (Same.kpS gl2)).trans (Same.kpS g5)).trans kE,?_⟩
  show Au C HE o L n (C7 sI i)
  unfold C7
  rw [getD_eq_getElem?_getD,getElem?_eq_getElem hiS]
  exact WE
 ·rintro σ HA ⟨x3,x4,rfl,kA,WA'⟩
  rw [length_map,lrs] at WA'
  have WA:Au C HA o L n (E6 n p):=WA'
  have sl:=Qq (net3 n p) (List.range n)
  rw [length_range] at sl
  have l4:(E6 n p).gs.length = (net3 n p).gs.length + n:=sl.2.2
  have v4:(E6 n p).lv = (wireP p (ws0 n)).2.lv:=sl.1
  have k2A:=k9.trans kA
  have DA:=D2.kp W2 k2A
  refine ⟨_,Z,_,Z,o,b,0,_,L,n,E6 n p,Z,WA,DA,by omega,λ HB kB WB'=>?_⟩
  have WB:Au C HB o L n (Dx n p).2:=WB'
  have l5:(Dx n p).2.gs.length≤(E6 n p).gs.length + 1:=(De _ _ _).2
  have v5:(Dx n p).2.lv = (E6 n p).lv:=J5 _ _ _
  refine ⟨_,Z,_,Z,o,b,1,_,L,n,(Dx n p).2,Z,WB,DA.kp WA kB,by omega,λ HC kC WC'=>⟨zN2,λ te hte=>?_⟩⟩
  have WC:Au C HC o L n (Ej n p).2:=WC'
  have v6:(Ej n p).2.lv = (wireP p (ws0 n)).2.lv:=(J5 _ _ _).trans (v5.trans v4)
  have gE:=Ad hte (.tup [V.int (cgt (wireP p (ws0 n)).1.codes 0 (E6 n p)).1,.int (cgt (wireP p (ws0 n)).1.codes 1 (Dx n p).2).1])
  have WE:=WC.same gE
  have k1E:KpS L.S H1 (upd HC te (.tup [V.int (cgt (wireP p (ws0 n)).1.codes 0 (E6 n p)).1,.int (cgt (wireP p (ws0 n)).1.codes 1 (Dx n p).2).1])):=(((k2.trans k2A).trans kB).trans kC).trans (Same.kpS gE)
  have ete:(upd HC te (.tup [V.int (cgt (wireP p (ws0 n)).1.codes 0 (E6 n p)).1,.int (cgt (wireP p (ws0 n)).1.codes 1 (Dx n p).2).1])) te = some (.tup [V.int (Dx n p).1,.int (Ej n p).1]):=Ab
  have gHE:=sm k1E
  generalize upd HC te (.tup [V.int (cgt (wireP p (ws0 n)).1.codes 0 (E6 n p)).1,.int (cgt (wireP p (ws0 n)).1.codes 1 (Dx n p).2).1]) = HE at *
  refine ⟨_,Z,pa,_,_,_,Z,Z,SqT.of (gHE _ _ hpa),Ah (j:=3) rfl,v,p.nd,Z,AbL (hp.mono gHE.tp) ok hz hrs,λ r ms HF gF eF pm rise=>?_⟩
  rw [(ndF ok).rs] at pm
  have WF:=WE.same gF
  obtain ⟨gvsF,hoF,hgF,hpgF,hsF,hnF,hrF,hlF,ndF'⟩:=id WF
  rw [v6] at hlF
  have lms:ms.length < 64:=by rw [pm.length_eq]; exact hrs
  refine ⟨r,Z,⟨_,SqL.of eF⟩,E4 (K:=K) (xs:=ms.map V.int) (λ i ys H'=>H' = HF∧ys = ((Jg n p (ms.take i)).map V.int)) ⟨Z,Z⟩ (by rw [length_map]; exact le_trans (le_of_lt lms) (by decide)) (λ i ys H' hh=>by rw [hh.1]; exact SqL.of eF) ?_ ?_⟩
  ·rintro i x ys H' N hi ⟨rfl,rfl⟩ hN hyl
   have hil:i < ms.length:=by have:=(List.getElem?_eq_some_iff.mp hi).1; rwa [length_map] at this
   rw [getElem?_map,getElem?_eq_getElem hil] at hi
   cases hi
   obtain ⟨g,hg⟩:=hk ms[i] (pm.mem_iff.mp (getElem_mem hil))
   have dg:Gi H' L.ld (.int ms[i]) (((wireP p (ws0 n)).2.lv.lookup ms[i]).map V.int):=.inl ⟨_,Sum.inl ms[i],.inl hlF,Z,(M0 _ _).symm⟩
   rw [hg] at dg
   refine ⟨_,Z,o,C,L.dx,_,.ref L.ld,Z,hoF,T.cl,T.nL,Z,_,Z,L.ld,.int g,Z,dg,hN _ _ (by rw [length_append,length_singleton]; omega) ⟨Z,?_⟩⟩
   unfold Jg
   rw [take_succ,getElem?_eq_getElem hil,map_append,map_append]
   show _ = _ ++ [V.int (((wireP p (ws0 n)).2.lv.lookup ms[i]).getD 0)]
   rw [hg]; rfl
  rintro ys H' hyl ⟨rfl,rfl⟩ ln hln
  rw [length_map,take_length]
  have gL:=Ad hln (.lst ((Jg n p ms).map V.int))
  have WG:=WF.same gL
  obtain ⟨gvsG,hoG,_⟩:=id WG
  refine ⟨_,Z,o,C,L.dx,_,.ref L.gl,Z,hoG,T.cl,T.nG,Z,_,Z,o,C,L.dx,_,.ref L.sl,Z,hoG,T.cl,T.nS,Z,_,Z,_,Z,zN4,λ t ht=>?_⟩
  have gT:=Ad ht (.tup [V.ref L.gl,.ref L.sl,.ref te,.ref ln])
  exact q _ ms _ (((gHE.trans gF).trans gL).trans gT) pm rise ⟨o,L,t,te,ln,Z,Ab,WG.same gT,gT _ _ (gL _ _ (gF _ _ ete)),gT _ _ Ab⟩
end
def C3 (l:Cd) (k:Int):Prop:=∃ v,l.lookup k = some v
theorem Re {l:Cd} {k:Int}:C3 l k↔k∈l.map (·.1):=by
 constructor
 ·rintro ⟨v,hv⟩
  induction l with
  | nil=>cases hv
  | cons p r ih =>
   obtain ⟨p1,p2⟩:=p
   rw [lookup_cons] at hv
   by_cases e:k = p1
   ·rw [e]; exact mem_cons_self
   ·have:(k == p1) = false:=by simpa using e
    rw [this] at hv
    exact mem_cons_of_mem _ (ih hv)
 ·exact Kz
theorem Xx (l:Cd) (k v:Int):∀ j,j∈(Hy l k v).map (·.1)↔(j∈l.map (·.1)∨j = k):=by
 intro j
 unfold Hy
 split
 ·rename_i h
  obtain ⟨p,hp,e⟩:=any_eq_true.mp h
  have e:=of_decide_eq_true e
  rw [map_map,show ((λ p:Int× Int=>p.1) ∘ λ p=>if p.1 = k then (p.1,v) else p) = λ p=>p.1 by funext p; show (if p.1 = k then (p.1,v) else p).1 = p.1; split <;> rfl]
  constructor
  ·exact .inl
  ·rintro (z | z)
   ·exact z
   ·rw [z,← e]; exact mem_map_of_mem hp
 ·rw [map_append,mem_append]
  constructor
  ·rintro (z | z)
   ·exact .inl z
   ·exact .inr (mS z)
  ·rintro (z | z)
   ·exact .inl z
   ·exact .inr (by rw [z]; exact mem_cons_self)
theorem Y9 (x y z rr:Int) (r1 r2:Wr) (s:Ws):(wThen x y z rr r1 r2 s).2.lv = s.lv:=by
 unfold wThen
 dsimp only
 rw [Ee]
 exact (J5 _ _ _)
theorem Ab9 (x y z rr sg:Int) (r1 r2:Wr) (s:Ws):(wIf x y z rr sg r1 r2 s).2.lv = s.lv:=by
 unfold wIf
 dsimp only
 rw [Ee]
 rfl
theorem AbY (x y z rr:Int) (r1 r2:Wr) (s:Ws):(wBes x y z rr r1 r2 s).2.lv = s.lv:=by
 unfold wBes
 dsimp only
 rw [(Oc _ _ _).2]
 have st:∀ (a:List Cd× Ws) (it:Wr× Wr),(Ey x a it).2.lv = a.2.lv:=λ a it=>(Ee _ _)
 show (Ey x (Ey x ([],s) (r1,r2)) (r2,r1)).2.lv = s.lv
 rw [st,st]
theorem Q2 (p:Pt) (x y z:Int) (r1 r2:Wr) (s:Ws):(Eb p x y z r1 r2 s).2.lv = s.lv:=by
 have key:∀ (b:Wr× Ws× List Int),([r1,r2].foldl (pfS b.2.2 z) b.2.1).lv = b.2.1.lv:=λ b=>rfl
 show ([r1,r2].foldl (pfS (Hs p x y z r1 r2 s).2.2 z) (Hs p x y z r1 r2 s).2.1).lv = s.lv
 rw [key]
 have bes:(cgt (wBes x y z s.nx r1 r2 (s.add "some" [r1.rests,r2.rests])).1.codes 1 (wBes x y z s.nx r1 r2 (s.add "some" [r1.rests,r2.rests])).2).2.lv = s.lv:=(J5 _ _ _).trans (AbY _ _ _ _ _ _ _)
 cases p with
 | thn p q=>exact Y9 x y z s.nx r1 r2 (s.add "some" [r1.rests,r2.rests])
 | iff i p q=>exact Ab9 x y z s.nx i r1 r2 (s.add "some" [r1.rests,r2.rests])
 | _=>exact bes
theorem To (s:Ws) (k y z m c:Int):∀ j,C3 (s.lvg k y z m c).lv j↔(C3 s.lv j∨j = k):=λ j=>by
 rw [Re,Re]
 exact Xx _ _ _ j
theorem X4 (x y z:Int) (ri:Wr) (s:Ws) {p:Pt} (rd:Ev p = true):∀ j,C3 (Cp x y z ri s p).2.lv j↔(C3 s.lv j∨∃ k q,p = .again k q∧j = k):=by
 have no:∀ {l:Cd} (j:Int),l = s.lv→(∀ k q,¬ p = .again k q)→(C3 l j↔(C3 s.lv j∨∃ k q,p = .again k q∧j = k)):=λ j e h=>by
  rw [e]
  exact ⟨.inl,λ z=>z.elim id λ ⟨k,q,e,_⟩=>absurd e (h k q)⟩
 cases p with
 | trap q=>exact λ j=>no j (Ee _ _) λ _ _ z=>nomatch z
 | hold i q=>exact λ j=>no j (Ee _ _) λ _ _ z=>nomatch z
 | watch i q=>exact λ j=>no j (Ee _ _) λ _ _ z=>nomatch z
 | again k q =>
  intro j
  have e:(Cp x y z ri s (.again k q)).2 = (cgt ri.codes 0 (((((Cs x y z ri s).add "memory" [k]).add "some" [(Cs x y z ri s).nx,ri.rests]).jnd (ri.codes.map λ p=>(agC p.1,p.2))).2)).2.lvg k y z (Cs x y z ri s).nx (cgt ri.codes 0 (((((Cs x y z ri s).add "memory" [k]).add "some" [(Cs x y z ri s).nx,ri.rests]).jnd (ri.codes.map λ p=>(agC p.1,p.2))).2)).1:=rfl
  rw [e,To,J5,Ee]
  constructor
  ·rintro (z | z)
   ·exact .inl z
   ·exact .inr ⟨k,q,Z,z⟩
  ·rintro (z | ⟨k',q',e,z⟩)
   ·exact .inl z
   ·cases e; exact .inr z
 | _=>cases rd
theorem Yq {n:Nat} (p:Pt):∀ (s:Ws),okN n p→(∀ k,C3 (wireP p s).2.lv k↔(C3 s.lv k∨k∈rsP p)):=by
 have pair:∀ (p p1 p2:Pt) (s:Ws) (x y z:Int),rsP p = rsP p2 ++ rsP p1→(∀ s:Ws,∀ k,C3 (wireP p1 s).2.lv k↔(C3 s.lv k∨k∈rsP p1))→(∀ s:Ws,∀ k,C3 (wireP p2 s).2.lv k↔(C3 s.lv k∨k∈rsP p2))→∀ k,C3 (Eb p x y z (wireP p1 s.add3).1 (wireP p2 (wireP p1 s.add3).2).1 (wireP p2 (wireP p1 s.add3).2).2).2.lv k↔(C3 s.lv k∨k∈rsP p):=λ p p1 p2 s x y z e h1 h2 k=>by
  rw [Q2,h2,h1,e,mem_append]
  show (C3 s.lv k∨_)∨_↔_
  constructor
  ·rintro ((z | z) | z)
   ·exact .inl z
   ·exact .inr (.inr z)
   ·exact .inr (.inl z)
  ·rintro (z | z | z)
   ·exact .inl (.inl z)
   ·exact .inr z
   ·exact .inl (.inr z)
 have round:∀ (p p1:Pt) (s:Ws) (x y z:Int),Ev p = true→(∀ k,k∈rsP p↔(k∈rsP p1∨∃ j q,p = .again j q∧k = j))→(∀ s:Ws,∀ k,C3 (wireP p1 s).2.lv k↔(C3 s.lv k∨k∈rsP p1))→∀ k,C3 (Cp x y z (wireP p1 s.add3).1 (wireP p1 s.add3).2 p).2.lv k↔(C3 s.lv k∨k∈rsP p):=λ p p1 s x y z rd e h1 k=>by
  rw [X4 x y z _ _ rd,h1,e]
  show (C3 s.lv k∨_)∨_↔_
  constructor
  ·rintro ((z | z) | z)
   ·exact .inl z
   ·exact .inr (.inl z)
   ·exact .inr (.inr z)
  ·rintro (z | z | z)
   ·exact .inl (.inl z)
   ·exact .inl (.inr z)
   ·exact .inr z
 have lf:∀ {l:Cd} {r:List Int} (s:Ws) (k:Int),l = s.lv→r = []→(C3 l k↔(C3 s.lv k∨k∈r)):=λ s k e er=>by
  rw [e,er]
  exact ⟨.inl,λ z=>z.elim id λ z=>nomatch z⟩
 have noag:∀ {p:Pt} {r:List Int},(∀ j q,¬ p = .again j q)→∀ k:Int,k∈r↔(k∈r∨∃ j q,p = .again j q∧k = j):=λ h k=>⟨.inl,λ z=>z.elim id λ ⟨j,q,e,_⟩=>absurd e (h j q)⟩
 induction p with
 | iff i p q ihp ihq=>exact λ s ok=>pair _ p q s _ _ _ rfl (λ s=>ihp s ok.2.1) (λ s=>ihq s ok.2.2)
 | thn p q ihp ihq=>exact λ s ok=>pair _ p q s _ _ _ rfl (λ s=>ihp s ok.1) (λ s=>ihq s ok.2)
 | bes p q ihp ihq=>exact λ s ok=>pair _ p q s _ _ _ rfl (λ s=>ihp s ok.1) (λ s=>ihq s ok.2)
 | again j p ih =>
  refine λ s ok=>round _ p s _ _ _ rfl (λ k=>?_) (λ s=>ih s ok)
  show k∈j :: rsP p↔_
  rw [mem_cons]
  constructor
  ·rintro (z | z)
   ·exact .inr ⟨j,p,Z,z⟩
   ·exact .inl z
  ·rintro (z | ⟨j',q',e,z⟩)
   ·exact .inr z
   ·cases e; exact .inl z
 | hold i p ih=>exact λ s ok=>round _ p s _ _ _ rfl (noag (r:=rsP p) λ _ _ z=>nomatch z) (λ s=>ih s ok.2)
 | watch i p ih=>exact λ s ok=>round _ p s _ _ _ rfl (noag (r:=rsP p) λ _ _ z=>nomatch z) (λ s=>ih s ok.2)
 | trap p ih=>exact λ s ok=>round _ p s _ _ _ rfl (noag (r:=rsP p) λ _ _ z=>nomatch z) (λ s=>ih s ok)
 | rest j =>
  intro s ok k
  have e:(wireP (.rest j) s).2 = ((((s.add3.add "memory" [j]).add "not" [s.add3.nx]).add "all" [s.nx,s.add3.nx + 1]).add "all" [s.nx,s.add3.nx]).lvg j (s.nx + 1) (s.nx + 2) s.add3.nx (s.add3.nx + 2):=rfl
  rw [e,To]
  show C3 s.lv k∨k = j↔C3 s.lv k∨k∈[j]
  rw [mem_singleton]
 | nothing=>exact λ s ok k=>lf s k rfl rfl
 | send i=>exact λ s ok k=>lf s k rfl rfl
 | exit d=>exact λ s ok k=>lf s k rfl rfl
 | stay ks=>exact λ s ok k=>lf s k rfl rfl
def Ak:Nat:=2000000
def Blw (n lo:Nat) (τ:Nat→Nat) (c v:Nat) (x:Int):Prop:=0≤x∧(x < n∨((lo:Int)≤x∧x < c∧τ x.toNat < v))
theorem Blw.more {n lo:Nat} {τ τ':Nat→Nat} {c c' v v':Nat} {x:Int} (h:Blw n lo τ c v x) (hc:c≤c') (hv:v≤v') (e:∀ j,j < c→τ' j = τ j):Blw n lo τ' c' v' x:=by
 obtain ⟨h0,h | ⟨h1,h2,h3⟩⟩:=h
 ·exact ⟨h0,.inl h⟩
 ·refine ⟨h0,.inr ⟨h1,by omega,?_⟩⟩
  rw [e _ (by omega)]
  omega
structure Rk (n lo m:Nat) (op:Nat→Prop) (τ:Nat→Nat) (s:Ws):Prop where
 rk:∀ (j:Nat) (g:Gw),lo≤j→¬ op j→s.gs[j]? = some g→(g.1 = "all" ∨ g.1 = "some" ∨ (g.1 = "not" ∧ g.2.length = 1))∧(∀ x∈g.2,Blw n lo τ s.gs.length (τ j) x)∨(g.1 = "memory" ∧ ∃ k:Int,g.2 = [k]∧0≤k∧k < m)
def F9 (τ:Nat→Nat) (c v:Nat):Nat→Nat:=λ j=>if j = c then v else τ j
theorem B8 {τ:Nat→Nat} {c v j:Nat} (h:j < c):F9 τ c v j = τ j:=by unfold F9; rw [if_neg (by omega)]
theorem Ef {τ:Nat→Nat} {c v:Nat}:F9 τ c v c = v:=by unfold F9; rw [if_pos rfl]
theorem Rk.addG {n lo m:Nat} {op:Nat→Prop} {τ:Nat→Nat} {s:Ws} (h:Rk n lo m op τ s) {w:Str} {ns:List Int} (v:Nat) (hg:op s.gs.length∨((w = "all" ∨ w = "some" ∨ (w = "not" ∧ ns.length = 1))∧(∀ x∈ns,Blw n lo τ s.gs.length v x))∨(w = "memory" ∧ ∃ k:Int,ns = [k]∧0≤k∧k < m)):Rk n lo m op (F9 τ s.gs.length v) (s.add w ns):=by
 refine ⟨λ j g hj no e=>?_⟩
 have e:(s.gs ++ [(w,ns)])[j]? = some g:=e
 rw [Af]
 rcases lt_or_ge j s.gs.length with hl | hl
 ·rw [getElem?_append_left hl] at e
  rcases h.rk j g hj no e with ⟨a,b⟩ | b
  ·exact .inl ⟨a,λ x hx=>(b x hx).more (le_succ _) (by rw [B8 hl]; exact le_refl _) λ i hi=>B8 hi⟩
  ·exact .inr b
 ·have hje:j = s.gs.length:=by
   have:=(List.getElem?_eq_some_iff.mp e).1
   rw [length_append,length_singleton] at this
   omega
  subst hje
  rw [getElem?_append_right (le_refl _),sub_self] at e
  cases e
  rcases hg with z | ⟨a,b⟩ | z
  ·exact absurd z no
  ·refine .inl ⟨a,λ x hx=>(b x hx).more (le_succ _) (by rw [Ef]; exact le_refl _) λ i hi=>B8 hi⟩
  ·exact .inr z
theorem Rk.filG {n lo m:Nat} {op op':Nat→Prop} {τ:Nat→Nat} {s:Ws} (h:Rk n lo m op τ s) {w:Str} {ns:List Int} {g:Nat} (ho:∀ j,op j→j = g∨op' j) (hw:w = "all" ∨ w = "some") (hb:∀ x∈ns,Blw n lo τ s.gs.length (τ g) x):Rk n lo m op' τ (s.fil (g:Int) w ns):=by
 refine ⟨λ j q hj no e=>?_⟩
 rw [A8]
 have e:(s.gs.set (g:Int).toNat (w,ns))[j]? = some q:=e
 rw [Int.toNat_natCast,getElem?_set] at e
 by_cases hjg:g = j
 ·subst hjg
  rw [if_pos rfl] at e
  split at e
  ·cases e
   exact .inl ⟨hw.elim .inl λ z=>.inr (.inl z),hb⟩
  ·cases e
 ·rw [if_neg hjg] at e
  exact h.rk j q hj (λ z=>(ho j z).elim (λ z=>hjg z.symm) no) e
def CB (lo:Nat) (τ:Nat→Nat) (c:Nat) (x:Int):Prop:=(lo:Int)≤x∧x < c∧Ak * Ak≤τ x.toNat∧τ x.toNat < Ak * Ak + c * Ak
theorem CB.more {lo:Nat} {τ τ':Nat→Nat} {c c':Nat} {x:Int} (h:CB lo τ c x) (hc:c≤c') (e:∀ j,j < c→τ' j = τ j):CB lo τ' c' x:=by
 obtain ⟨h1,h2,h3,h4⟩:=h
 have:c * Ak≤c' * Ak:=mul_le_mul_right _ hc
 have ex:=e x.toNat (by omega)
 exact ⟨h1,by omega,by rw [ex]; exact h3,by rw [ex]; omega⟩
theorem CB.blw {n lo:Nat} {τ:Nat→Nat} {c:Nat} {x:Int} (h:CB lo τ c x):Blw n lo τ c (Ak * Ak + c * Ak) x:=⟨by have:=h.1; omega,.inr ⟨h.1,h.2.1,h.2.2.2⟩⟩
structure RkE (n lo m:Nat) (op:Nat→Prop) (τ:Nat→Nat) (s:Ws) (τ':Nat→Nat) (s':Ws):Prop where
 le:s.gs.length≤s'.gs.length
 ex:∀ j,j < s.gs.length→τ' j = τ j
 rk:Rk n lo m op τ' s'
theorem RkE.trans {n lo m:Nat} {op:Nat→Prop} {τ τ1 τ2:Nat→Nat} {s s1 s2:Ws} (a:RkE n lo m op τ s τ1 s1) (b:RkE n lo m op τ1 s1 τ2 s2):RkE n lo m op τ s τ2 s2 :=
 ⟨le_trans a.le b.le,λ j hj=>(b.ex j (lt_of_lt_of_le hj a.le)).trans (a.ex j hj),b.rk⟩
theorem Rk.addB {n lo m:Nat} {op:Nat→Prop} {τ:Nat→Nat} {s:Ws} (h:Rk n lo m op τ s) (hl:lo≤s.gs.length) {w:Str} {ns:List Int} (hw:w = "all" ∨ w = "some" ∨ (w = "not" ∧ ns.length = 1)) (hb:∀ x∈ns,Blw n lo τ s.gs.length (Ak * Ak + s.gs.length * Ak) x):∃ τ',RkE n lo m op τ s τ' (s.add w ns)∧CB lo τ' (s.add w ns).gs.length s.nx:=by
 refine ⟨F9 τ s.gs.length (Ak * Ak + s.gs.length * Ak),⟨by rw [Af]; omega,λ j hj=>B8 hj,h.addG (Ak * Ak + s.gs.length * Ak) (.inr (.inl ⟨hw,hb⟩))⟩,?_⟩
 rw [Af]
 unfold CB Ws.nx
 rw [Int.toNat_natCast,Ef]
 unfold Ak
 omega
theorem Rk.somB {n lo m:Nat} {op:Nat→Prop} {τ:Nat→Nat} {s:Ws} (h:Rk n lo m op τ s) (hl:lo≤s.gs.length) {ns:List Int} (hb:∀ x∈ns,CB lo τ s.gs.length x):∃ τ',RkE n lo m op τ s τ' (s.som ns).2∧CB lo τ' (s.som ns).2.gs.length (s.som ns).1:=by
 unfold Ws.som
 split
 ·rename_i e
  refine ⟨τ,⟨le_refl _,λ _ _=>rfl,h⟩,?_⟩
  cases ns with
  | nil=>cases e
  | cons a r=>exact hb a mem_cons_self
 ·exact h.addB hl (.inr (.inl rfl)) λ x hx=>(hb x hx).blw
theorem Jb {n lo m:Nat} {op:Nat→Prop} {τ:Nat→Nat} {s:Ws} (h:Rk n lo m op τ s) (hl:lo≤s.gs.length) {ps:Cd} (hb:∀ p∈ps,CB lo τ s.gs.length p.2):∃ τ',RkE n lo m op τ s τ' (s.jnd ps).2∧∀ p∈(s.jnd ps).1,CB lo τ' (s.jnd ps).2.gs.length p.2:=by
 have k:∀ (cs:List Int) (a:Cd× Ws) (τ1:Nat→Nat),RkE n lo m op τ s τ1 a.2→(∀ p∈a.1,CB lo τ1 a.2.gs.length p.2)→∃ τ',RkE n lo m op τ s τ' (cs.foldl (jstep ps) a).2∧∀ p∈(cs.foldl (jstep ps) a).1,CB lo τ' (cs.foldl (jstep ps) a).2.gs.length p.2:=by
  intro cs
  induction cs with
  | nil=>intro a τ1 r ha; exact ⟨τ1,r,ha⟩
  | cons c cs ih =>
   intro a τ1 r ha
   rw [foldl_cons]
   obtain ⟨τ2,r2,c2⟩:=r.rk.somB (le_trans hl r.le) (ns:=Fj ps c) λ x hx=>by
    unfold Fj at hx
    obtain ⟨p,hp,e⟩:=mem_map.mp hx
    rw [← e]
    exact (hb p (mem_filter.mp hp).1).more r.le r.ex
   refine ih (jstep ps a c) τ2 (r.trans r2) λ p hp=>?_
   rcases mem_append.mp hp with z | z
   ·exact (ha p z).more r2.le r2.ex
   ·rw [mS z]; exact c2
 exact k _ ([],s) τ ⟨le_refl _,λ _ _=>rfl,h⟩ λ p hp=>nomatch hp
theorem F4 {l:Cd} {k v:Int} (h:l.lookup k = some v):∃ p∈l,p.2 = v:=by
 induction l with
 | nil=>cases h
 | cons p r ih =>
  obtain ⟨p1,p2⟩:=p
  rw [lookup_cons] at h
  split at h
  ·cases h; exact ⟨_,mem_cons_self,Z⟩
  ·obtain ⟨q,hq,e⟩:=ih h; exact ⟨q,mem_cons_of_mem _ hq,e⟩
theorem X2 {n lo m:Nat} {op:Nat→Prop} {τ:Nat→Nat} {s:Ws} (h:Rk n lo m op τ s) (hl:lo≤s.gs.length) {cs:Cd} (c:Int) (hb:∀ p∈cs,CB lo τ s.gs.length p.2):∃ τ',RkE n lo m op τ s τ' (cgt cs c s).2∧CB lo τ' (cgt cs c s).2.gs.length (cgt cs c s).1:=by
 unfold cgt
 split
 ·rename_i g e
  obtain ⟨p,hp,ep⟩:=F4 e
  refine ⟨τ,⟨le_refl _,λ _ _=>rfl,h⟩,?_⟩
  rw [← ep]
  exact hb p hp
 ·exact h.somB hl λ x hx=>nomatch hx
theorem Ab4 {n lo m:Nat} {op:Nat→Prop} {τ:Nat→Nat} {s:Ws} (h:Rk n lo m op τ s) (hl:lo≤s.gs.length) {c0 c1:Cd} (h0:∀ p∈c0,CB lo τ s.gs.length p.2) (h1:∀ p∈c1,CB lo τ s.gs.length p.2):∃ τ',RkE n lo m op τ s τ' (s.grc c0 c1).2∧∀ p∈(s.grc c0 c1).1,CB lo τ' (s.grc c0 c1).2.gs.length p.2:=by
 have hc:∀ d∈[c0,c1],∀ p∈d,CB lo τ s.gs.length p.2:=λ d hd=>by
  rcases mem_cons.mp hd with z | z
  ·rw [z]; exact h0
  ·rw [mS z]; exact h1
 have nf:∀ (c:Int) (l:List Cd) (a:List Int× Ws) (τ1:Nat→Nat),(∀ d∈l,d∈[c0,c1])→RkE n lo m op τ s τ1 a.2→(∀ x∈a.1,CB lo τ1 a.2.gs.length x)→∃ τ',RkE n lo m op τ1 a.2 τ' (l.foldl (nstep c) a).2∧∀ x∈(l.foldl (nstep c) a).1,CB lo τ' (l.foldl (nstep c) a).2.gs.length x:=by
  intro c l
  induction l with
  | nil=>intro a τ1 _ r ha; exact ⟨τ1,⟨le_refl _,λ _ _=>rfl,r.rk⟩,ha⟩
  | cons d l ih =>
   intro a τ1 hd r ha
   rw [foldl_cons]
   obtain ⟨τ2,r2,c2⟩:=r.rk.somB (le_trans hl r.le) (ns:=leC d c) λ x hx=>by
    unfold leC at hx
    obtain ⟨k,hk,e⟩:=mem_map.mp hx
    obtain ⟨v,hv⟩:=Kz (l:=d) (mem_filter.mp hk).1
    obtain ⟨p,hp,ep⟩:=F4 hv
    rw [hv] at e
    rw [← e]
    show CB lo τ1 a.2.gs.length v
    rw [← ep]
    exact (hc d (hd d mem_cons_self) p hp).more r.le r.ex
   obtain ⟨τ3,r3,c3⟩:=ih (nstep c a d) τ2 (λ e he=>hd e (mem_cons_of_mem _ he)) (r.trans r2) λ x hx=>by
    rcases mem_append.mp hx with z | z
    ·exact (ha x z).more r2.le r2.ex
    ·rw [mS z]; exact c2
   exact ⟨τ3,RkE.trans (s1:=(nstep c a d).2) r2 r3,c3⟩
 have k:∀ (ks:List Int) (a:Cd× Ws) (τ1:Nat→Nat),RkE n lo m op τ s τ1 a.2→(∀ p∈a.1,CB lo τ1 a.2.gs.length p.2)→∃ τ',RkE n lo m op τ s τ' (ks.foldl (gstep [c0,c1]) a).2∧∀ p∈(ks.foldl (gstep [c0,c1]) a).1,CB lo τ' (ks.foldl (gstep [c0,c1]) a).2.gs.length p.2:=by
  intro ks
  induction ks with
  | nil=>intro a τ1 r ha; exact ⟨τ1,r,ha⟩
  | cons c ks ih =>
   intro a τ1 r ha
   rw [foldl_cons]
   obtain ⟨τ2,r2,c2⟩:=r.rk.somB (le_trans hl r.le) (ns:=Bu [c0,c1] c) λ x hx=>by
    unfold Bu at hx
    obtain ⟨d,hd,e⟩:=mem_filterMap.mp hx
    obtain ⟨p,hp,ep⟩:=F4 e
    rw [← ep]
    exact (hc d hd p hp).more r.le r.ex
   obtain ⟨τ3,r3,c3⟩:=nf c [c0,c1] ([(a.2.som (Bu [c0,c1] c)).1],(a.2.som (Bu [c0,c1] c)).2) τ2 (λ d hd=>hd) (r.trans r2) λ x hx=>by rw [mS hx]; exact c2
   have r23:RkE n lo m op τ1 a.2 τ3 (needC [c0,c1] c a.2).2:=r2.trans r3
   have c3:∀ x∈(needC [c0,c1] c a.2).1,CB lo τ3 (needC [c0,c1] c a.2).2.gs.length x:=c3
   obtain ⟨τ4,r4,c4⟩:=r23.rk.addB (le_trans hl (le_trans r.le r23.le)) (w:= "all") (.inl rfl) λ x hx=>(c3 x hx).blw
   have r24:RkE n lo m op τ1 a.2 τ4 (gstep [c0,c1] a c).2:=r23.trans r4
   refine ih (gstep [c0,c1] a c) τ4 (r.trans r24) λ p hp=>?_
   rcases mem_append.mp hp with z | z
   ·exact (ha p z).more r24.le r24.ex
   ·rw [mS z]; exact c4
 exact k _ ([],s) τ ⟨le_refl _,λ _ _=>rfl,h⟩ λ p hp=>nomatch hp
theorem Rk.weak {n lo m:Nat} {op op':Nat→Prop} {τ:Nat→Nat} {s:Ws} (h:Rk n lo m op τ s) (ho:∀ j,op j→op' j):Rk n lo m op' τ s:=⟨λ j g hj no e=>h.rk j g hj (λ z=>no (ho j z)) e⟩
def op3 (op:Nat→Prop) (l:Nat):Nat→Prop:=λ j=>op j∨j = l∨j = l + 1∨j = l + 2
def AB (n:Nat) (τ:Nat→Nat) (c:Nat) (x:Int):Prop:=(n:Int)≤x∧x < c∧τ x.toNat < c
theorem AB.more {n:Nat} {τ τ':Nat→Nat} {c c':Nat} {x:Int} (h:AB n τ c x) (hc:c≤c') (e:∀ j,j < c→τ' j = τ j):AB n τ' c' x:=by
 obtain ⟨h1,h2,h3⟩:=h
 exact ⟨h1,by omega,by rw [e _ (by omega)]; omega⟩
theorem AB.blw {n:Nat} {τ:Nat→Nat} {c v:Nat} {x:Int} (h:AB n τ c x) (hv:c≤v):Blw n n τ c v x:=⟨by have:=h.1; omega,.inr ⟨h.1,h.2.1,by have:=h.2.2; omega⟩⟩
structure Op3 (τ:Nat→Nat) (l:Nat):Prop where
 runs:τ l = Ak * Ak + l * Ak
 kept:τ (l + 1) = 2 * (Ak * Ak) + (l + 1)
 stays:τ (l + 2) = 4 * (Ak * Ak) + (l + 2)
theorem Op3.ex {τ τ':Nat→Nat} {l c:Nat} (h:Op3 τ l) (hc:l + 2 < c) (e:∀ j,j < c→τ' j = τ j):Op3 τ' l:=⟨by rw [e _ (by omega)]; exact h.runs,by rw [e _ (by omega)]; exact h.kept,by rw [e _ (by omega)]; exact h.stays⟩
theorem G3 (s:Ws):s.add3.gs.length = s.gs.length + 3:=by unfold Ws.add3; rw [Af,Af,Af]
theorem Ow {n m:Nat} {op:Nat→Prop} {τ:Nat→Nat} {s:Ws} (h:Rk n n m op τ s):∃ τ',RkE n n m (op3 op s.gs.length) τ s τ' s.add3∧Op3 τ' s.gs.length:=by
 have w:=h.weak (op':=op3 op s.gs.length) λ j z=>.inl z
 have a1:=w.addG (w:= "some") (ns:=[]) (Ak * Ak + s.gs.length * Ak) (.inl (.inr (.inl rfl)))
 have a2:=a1.addG (w:= "some") (ns:=[]) (2 * (Ak * Ak) + (s.gs.length + 1)) (.inl (.inr (.inr (.inl (Af _ _ _)))))
 have a3:=a2.addG (w:= "some") (ns:=[]) (4 * (Ak * Ak) + (s.gs.length + 2)) (.inl (.inr (.inr (.inr (by rw [Af,Af])))))
 rw [Af,Af] at a3
 rw [Af] at a3
 refine ⟨_,⟨by rw [G3]; omega,λ j hj=>?_,a3⟩,⟨?_,?_,?_⟩⟩
 ·rw [B8 (by omega),B8 (by omega),B8 hj]
 ·rw [B8 (by omega),B8 (by omega),Ef]
 ·rw [B8 (by omega),Ef]
 ·rw [Ef]
structure PO (n m:Nat) (op:Nat→Prop) (l:Nat) (τ:Nat→Nat) (s:Ws) (τ':Nat→Nat) (w:Wr× Ws):Prop where
 e:RkE n n m op τ s τ' w.2
 o:Op3 τ' l
 rests:AB n τ' w.2.gs.length w.1.rests
 codes:∀ p∈w.1.codes,CB n τ' w.2.gs.length p.2
theorem Rk.addA {n m:Nat} {op:Nat→Prop} {τ:Nat→Nat} {s:Ws} (h:Rk n n m op τ s) (hl:n≤s.gs.length) {w:Str} {ns:List Int} (hg:((w = "all" ∨ w = "some" ∨ (w = "not" ∧ ns.length = 1))∧(∀ x∈ns,Blw n n τ s.gs.length s.gs.length x))∨(w = "memory" ∧ ∃ k:Int,ns = [k]∧0≤k∧k < m)):∃ τ',RkE n n m op τ s τ' (s.add w ns)∧AB n τ' (s.add w ns).gs.length s.nx:=by
 refine ⟨F9 τ s.gs.length s.gs.length,⟨by rw [Af]; omega,λ j hj=>B8 hj,h.addG s.gs.length (.inr hg)⟩,?_⟩
 rw [Af]
 unfold AB Ws.nx
 rw [Int.toNat_natCast,Ef]
 omega
theorem J9 {n:Nat} {τ:Nat→Nat} {l c:Nat} (o:Op3 τ l) (hn:n≤l) (hc:l < c):CB n τ c (l:Int):=by
 unfold CB
 rw [Int.toNat_natCast,o.runs]
 have:(l + 1) * Ak≤c * Ak:=mul_le_mul_right _ hc
 rw [add_mul] at this
 unfold Ak at *
 omega
theorem AcC {n m:Nat} {op:Nat→Prop} {τ:Nat→Nat} {s:Ws} (c:Int) {l:Nat} (h:Rk n n m op τ s) (o:Op3 τ l) (hn:n≤l) (hl:l + 3≤s.gs.length):∃ τ',PO n m op l τ s τ' (wLf c (l:Int) ((l:Int) + 1) ((l:Int) + 2) s):=by
 obtain ⟨τ1,r1,a1⟩:=h.addA (by omega) (w:= "some") (ns:=[]) (.inl ⟨.inr (.inl rfl),λ x hx=>nomatch hx⟩)
 have o1:=o.ex (by omega) r1.ex
 refine ⟨τ1,r1,o1,a1,λ p hp=>?_⟩
 have hp:p∈[(c,(l:Int))]:=hp
 rw [mS hp]
 exact J9 o1 hn (by show l < (s.add "some" []).gs.length; rw [Af]; omega)
theorem Rk.gsq {n lo m:Nat} {op:Nat→Prop} {τ:Nat→Nat} {s s':Ws} (h:Rk n lo m op τ s) (e:s'.gs = s.gs):Rk n lo m op τ s':=⟨λ j g hj no eg=>by rw [e] at eg ⊢; exact h.rk j g hj no eg⟩
theorem Blw.at {n lo:Nat} {τ:Nat→Nat} {c v:Nat} {j:Nat} (h1:lo≤j) (h2:j < c) (h3:τ j < v):Blw n lo τ c v (j:Int):=⟨by omega,.inr ⟨by omega,by omega,by rw [Int.toNat_natCast]; exact h3⟩⟩
theorem Ye {n m:Nat} {op:Nat→Prop} {τ:Nat→Nat} {s:Ws} (h:Rk n n m op τ s) (hl:n≤s.gs.length) {k y z mem comes:Int} (hc:Blw n n τ s.gs.length (5 * (Ak * Ak)) comes) (hy:Blw n n τ s.gs.length (5 * (Ak * Ak)) y) (hm:Blw n n τ s.gs.length (5 * (Ak * Ak)) mem) (hz:Blw n n τ s.gs.length (5 * (Ak * Ak)) z):∃ τ',RkE n n m op τ s τ' (s.lvg k y z mem comes):=by
 have a1:=h.addG (w:= "all") (ns:=[comes,y]) (5 * (Ak * Ak) + s.gs.length) (.inr (.inl ⟨.inl rfl,λ x hx=>by
  rcases mem_cons.mp hx with e | e
  ·rw [e]; exact hc.more (le_refl _) (by omega) λ _ _=>rfl
  ·rw [mS e]; exact hy.more (le_refl _) (by omega) λ _ _=>rfl⟩))
 have a2:=a1.addG (w:= "all") (ns:=[mem,z]) (5 * (Ak * Ak) + (s.gs.length + 1)) (.inr (.inl ⟨.inl rfl,λ x hx=>by
  rw [Af]
  rcases mem_cons.mp hx with e | e
  ·rw [e]; exact hm.more (le_succ _) (by omega) λ _ hj=>B8 hj
  ·rw [mS e]; exact hz.more (le_succ _) (by omega) λ _ hj=>B8 hj⟩))
 rw [Af] at a2
 have a3:=a2.addG (w:= "some") (ns:=[s.nx,s.nx + 1]) (5 * (Ak * Ak) + (s.gs.length + 2)) (.inr (.inl ⟨.inr (.inl rfl),λ x hx=>by
  rw [Af,Af]
  rcases mem_cons.mp hx with e | e
  ·rw [e]; exact Blw.at hl (by omega) (by rw [B8 (by omega),Ef]; omega)
  ·rw [mS e]
   have:s.nx + 1 = ((s.gs.length + 1:Nat):Int):=by unfold Ws.nx; omega
   rw [this]
   exact Blw.at (by omega) (by omega) (by rw [Ef]; omega)⟩))
 rw [Af,Af] at a3
 refine ⟨_,⟨?_,λ j hj=>?_,a3.gsq rfl⟩⟩
 ·show s.gs.length≤(((s.add "all" [comes,y]).add "all" [mem,z]).add "some" [s.nx,s.nx + 1]).gs.length
  rw [Af,Af,Af]; omega
 ·rw [B8 (by omega),B8 (by omega),B8 hj]
theorem AaK {n m:Nat} {op:Nat→Prop} {τ:Nat→Nat} {s:Ws} {k:Int} {l:Nat} (h:Rk n n m op τ s) (o:Op3 τ l) (hn:n≤l) (hl:l + 3≤s.gs.length) (hb:s.gs.length + 10≤1000000) (hk:0≤k∧k < m):∃ τ',PO n m op l τ s τ' (Vz k (l:Int) ((l:Int) + 1) ((l:Int) + 2) s):=by
 obtain ⟨τ1,r1,a1⟩:=h.addA (by omega) (w:= "memory") (ns:=[k]) (.inr ⟨rfl,k,rfl,hk⟩)
 have l1:=Af s "memory" [k]
 obtain ⟨τ2,r2,a2⟩:=r1.rk.addA (by omega) (w:= "not") (ns:=[s.nx]) (.inl ⟨.inr (.inr ⟨rfl,rfl⟩),λ x hx=>by rw [mS hx]; exact a1.blw (le_refl _)⟩)
 have l2:=Af (s.add "memory" [k]) "not" [s.nx]
 have o2:=(o.ex (by omega) r1.ex).ex (c:=(s.add "memory" [k]).gs.length) (by omega) r2.ex
 have a1':=a1.more r2.le r2.ex
 rw [Az] at a2
 have big:∀ c:Nat,c≤Ak * Ak + c * Ak:=λ c=>by unfold Ak; omega
 obtain ⟨τ3,r3,c3⟩:=r2.rk.addB (by omega) (w:= "all") (ns:=[(l:Int),s.nx + 1]) (.inl rfl) λ x hx=>by
  rcases mem_cons.mp hx with e | e
  ·rw [e]; exact (J9 o2 hn (by omega)).blw
  ·rw [mS e]; exact a2.blw (big _)
 have l3:=Af ((s.add "memory" [k]).add "not" [s.nx]) "all" [(l:Int),s.nx + 1]
 have o3:=o2.ex (by omega) r3.ex
 have a1'':=a1'.more r3.le r3.ex
 obtain ⟨τ4,r4,c4⟩:=r3.rk.addB (by omega) (w:= "all") (ns:=[(l:Int),s.nx]) (.inl rfl) λ x hx=>by
  rcases mem_cons.mp hx with e | e
  ·rw [e]; exact (J9 o3 hn (by omega)).blw
  ·rw [mS e]; exact a1''.blw (big _)
 have l4:=Af (((s.add "memory" [k]).add "not" [s.nx]).add "all" [(l:Int),s.nx + 1]) "all" [(l:Int),s.nx]
 have o4:=o3.ex (by omega) r4.ex
 have a14:=a1''.more r4.le r4.ex
 have c34:=c3.more r4.le r4.ex
 rw [Az,Az] at c34
 have cM:(((((s.add "memory" [k]).add "not" [s.nx]).add "all" [(l:Int),s.nx + 1]).add "all" [(l:Int),s.nx]).gs.length)≤Ak:=by unfold Ak; omega
 have hB:∀ {τ:Nat→Nat} {c:Nat} {x:Int},c≤Ak→CB n τ c x→Blw n n τ c (5 * (Ak * Ak)) x:=λ hc h=>h.blw.more (le_refl _) (by have:=mul_le_mul_right Ak hc; omega) λ _ _=>rfl
 obtain ⟨τ5,r5⟩:=Ye r4.rk (by omega) (k:=k) (y:=(l:Int) + 1) (z:=(l:Int) + 2) (mem:=s.nx) (comes:=s.nx + 2) (hB cM (by rw [show s.nx + 2 = s.nx + 1 + 1 by omega]; exact c34)) (by
   rw [show (l:Int) + 1 = ((l + 1:Nat):Int) by omega]
   exact Blw.at (by omega) (by omega) (by rw [o4.kept]; unfold Ak; omega)) (a14.blw (by unfold Ak at *; omega)) (by
   rw [show (l:Int) + 2 = ((l + 2:Nat):Int) by omega]
   exact Blw.at (by omega) (by omega) (by rw [o4.stays]; unfold Ak; omega))
 refine ⟨τ5,(((r1.trans r2).trans r3).trans r4).trans r5,o4.ex (by omega) r5.ex,a14.more r5.le r5.ex,λ p hp=>?_⟩
 rcases mem_cons.mp hp with e | e
 ·rw [e]
  have:=c4.more r5.le r5.ex
  rw [Az,Az,Az,show s.nx + 1 + 1 + 1 = s.nx + 3 by omega] at this
  exact this
 ·rw [mS e]
  have:=c34.more r5.le r5.ex
  rw [show s.nx + 1 + 1 = s.nx + 2 by omega] at this
  exact this
def opx (op:Nat→Prop) (g:Nat):Nat→Prop:=λ j=>op j∧¬ j = g
theorem Rk.filX {n lo m:Nat} {op:Nat→Prop} {τ:Nat→Nat} {s:Ws} (h:Rk n lo m op τ s) {w:Str} {ns:List Int} (g:Nat) (hw:w = "all" ∨ w = "some") (hb:∀ x∈ns,Blw n lo τ s.gs.length (τ g) x):Rk n lo m (opx op g) τ (s.fil (g:Int) w ns) :=
 h.filG (λ j z=>(Nat.decEq j g).byCases .inl λ e=>.inr ⟨z,e⟩) hw hb
theorem CB.lt {n:Nat} {τ:Nat→Nat} {c c' v:Nat} {x:Int} (h:CB n τ c x) (hc:c≤c') (hv:Ak * Ak + c * Ak≤v):Blw n n τ c' v x:=⟨by have:=h.1; omega,.inr ⟨h.1,by have:=h.2.1; omega,by have:=h.2.2.2; omega⟩⟩
theorem Rk.addT {n m:Nat} {op:Nat→Prop} {τ:Nat→Nat} {s:Ws} (h:Rk n n m op τ s) (hl:n≤s.gs.length) (l:Nat) {ns:List Int} (hb:∀ x∈ns,Blw n n τ s.gs.length (Ak * Ak + l * Ak + s.gs.length) x):∃ τ',RkE n n m op τ s τ' (s.add "all" ns)∧τ' s.gs.length = Ak * Ak + l * Ak + s.gs.length :=
 ⟨F9 τ s.gs.length (Ak * Ak + l * Ak + s.gs.length),⟨by rw [Af]; omega,λ j hj=>B8 hj,h.addG _ (.inr (.inl ⟨.inl rfl,hb⟩))⟩,Ef⟩
theorem Gq {n:Nat} {τ:Nat→Nat} {l c v:Nat} (o:Op3 τ l) (hn:n≤l) (hc:l < c) (hv:Ak * Ak + l * Ak < v):Blw n n τ c v (l:Int):=Blw.at hn hc (by rw [o.runs]; exact hv)
theorem Aa4 {n m:Nat} {op:Nat→Prop} {τ:Nat→Nat} {s:Ws} (h:Rk n n m op τ s) (hl:n≤s.gs.length) (hM:s.gs.length < Ak) {cs:Cd} (c:Int) {l2:Nat} (h2:l2≤s.gs.length) (hb:∀ p∈cs,CB n τ l2 p.2):∃ τ',RkE n n m op τ s τ' (cgt cs c s).2∧Blw n n τ' (cgt cs c s).2.gs.length (Ak * Ak + l2 * Ak) (cgt cs c s).1:=by
 unfold cgt
 split
 ·rename_i g e
  obtain ⟨p,hp,ep⟩:=F4 e
  refine ⟨τ,⟨le_refl _,λ _ _=>rfl,h⟩,?_⟩
  rw [← ep]
  exact (hb p hp).lt h2 (le_refl _)
 ·obtain ⟨τ1,r1,a1⟩:=h.addA hl (w:= "some") (ns:=[]) (.inl ⟨.inr (.inl rfl),λ x hx=>nomatch hx⟩)
  refine ⟨τ1,r1,a1.blw ?_⟩
  rw [Af]
  unfold Ak at *
  omega
theorem Yy {n m:Nat} {op:Nat→Prop} {τ:Nat→Nat} {s:Ws} {l l1 l2:Nat} {rr:Int} {r1 r2:Wr} (h:Rk n n m op τ s) (o:Op3 τ l) (o1:Op3 τ l1) (o2:Op3 τ l2) (hn:n≤l) (d1:l + 3≤l1) (d2:l1 + 3≤l2) (d3:l2 + 3≤s.gs.length) (hb:s.gs.length + 20≤1000000) (e1:r1.runs = l1) (e2:r2.runs = l2) (a2:AB n τ s.gs.length r2.rests) (c1:∀ p∈r1.codes,CB n τ l2 p.2) (c2:∀ p∈r2.codes,CB n τ s.gs.length p.2) :
  ∃ τ',RkE n n m (opx (opx op l1) l2) τ s τ' (wThen (l:Int) ((l:Int) + 1) ((l:Int) + 2) rr r1 r2 s).2∧∀ p∈(wThen (l:Int) ((l:Int) + 1) ((l:Int) + 2) rr r1 r2 s).1.codes,CB n τ' (wThen (l:Int) ((l:Int) + 1) ((l:Int) + 2) rr r1 r2 s).2.gs.length p.2:=by
 obtain ⟨τ1,q1,t1⟩:=h.addT (by omega) l (ns:=[(l:Int),r2.rests]) λ x hx=>by
  rcases mem_cons.mp hx with e | e
  ·rw [e]; exact Gq o hn (by omega) (by omega)
  ·rw [mS e]; exact a2.blw (by unfold Ak; omega)
 have n1:=Af s "all" [(l:Int),r2.rests]
 have a21:=a2.more q1.le q1.ex
 obtain ⟨τ2,q2,b2⟩:=q1.rk.addA (by omega) (w:= "not") (ns:=[r2.rests]) (.inl ⟨.inr (.inr ⟨rfl,rfl⟩),λ x hx=>by rw [mS hx]; exact a21.blw (le_refl _)⟩)
 have n2:=Af (s.add "all" [(l:Int),r2.rests]) "not" [r2.rests]
 have q12:=q1.trans q2
 have o_2:=o.ex (by omega) q12.ex
 have o1_2:=o1.ex (by omega) q12.ex
 have o2_2:=o2.ex (by omega) q12.ex
 rw [Az] at b2
 have m1:(l + 1) * Ak≤l1 * Ak:=mul_le_mul_right _ (by omega)
 have m2:(l + 1) * Ak≤l2 * Ak:=mul_le_mul_right _ (by omega)
 rw [add_mul] at m1 m2
 have q3:=q2.rk.filX l1 (w:= "all") (ns:=[(l:Int),s.nx + 1]) (.inl rfl) λ x hx=>by
  rw [o1_2.runs]
  rcases mem_cons.mp hx with e | e
  ·rw [e]; exact Gq o_2 hn (by omega) (by unfold Ak at *; omega)
  ·rw [mS e]; exact b2.blw (by unfold Ak at *; omega)
 rw [← e1] at q3
 have n3:=A8 ((s.add "all" [(l:Int),r2.rests]).add "not" [r2.rests]) r1.runs "all" [(l:Int),s.nx + 1]
 obtain ⟨τ4,q4,b4⟩:=Aa4 q3 (by omega) (by unfold Ak; omega) (cs:=r1.codes) 0 (l2:=l2) (by omega) λ p hp=>(c1 p hp).more (le_refl _) λ j hj=>q12.ex j (by omega)
 have ex4:∀ j,j < s.gs.length→τ4 j = τ j:=λ j hj=>(q4.ex j (by omega)).trans (q12.ex j hj)
 have le4:=q4.le
 have o2_4:=o2.ex (by omega) ex4
 have q5:=q4.rk.filX l2 (w:= "some") (ns:=[s.nx,(cgt r1.codes 0 (((s.add "all" [(l:Int),r2.rests]).add "not" [r2.rests]).fil r1.runs "all" [(l:Int),s.nx + 1])).1]) (.inr rfl) λ x hx=>by
  rw [o2_4.runs]
  rcases mem_cons.mp hx with e | e
  ·rw [e]
   refine Blw.at (by omega) (by omega) ?_
   rw [q4.ex _ (by omega),q2.ex _ (by omega),t1]
   unfold Ak at *
   omega
  ·rw [mS e]; exact b4
 rw [← e2] at q5
 have n5:=A8 (cgt r1.codes 0 (((s.add "all" [(l:Int),r2.rests]).add "not" [r2.rests]).fil r1.runs "all" [(l:Int),s.nx + 1])).2 r2.runs "some" [s.nx,(cgt r1.codes 0 (((s.add "all" [(l:Int),r2.rests]).add "not" [r2.rests]).fil r1.runs "all" [(l:Int),s.nx + 1])).1]
 obtain ⟨τ6,q6,c6⟩:=Jb q5 (by omega) (ps:=r1.codes.filter (λ p=>!decide (p.1 = 0)) ++ r2.codes) λ p hp=>by
  rcases mem_append.mp hp with z | z
  ·exact (c1 p (mem_filter.mp z).1).more (by omega) λ j hj=>ex4 j (by omega)
  ·exact (c2 p z).more (by omega) ex4
 refine ⟨τ6,⟨?_,λ j hj=>(q6.ex j (by omega)).trans (ex4 j hj),?_⟩,c6⟩
 ·have:=q6.le
  show _≤((_:Ws).jnd _).2.gs.length
  omega
 ·exact q6.rk
theorem Yc {n m:Nat} {op:Nat→Prop} {τ:Nat→Nat} {s:Ws} {l lb bg:Nat} {rb:Wr} {asked:Int} (h:Rk n n m op τ s) (o:Op3 τ l) (ob:Op3 τ lb) (hn:n≤l) (d1:l + 3≤lb) (d3:lb + 3≤s.gs.length) (hb:s.gs.length + 20≤1000000) (e1:rb.runs = lb) (a:AB n τ s.gs.length rb.rests) (b1:n≤bg) (b2:bg < s.gs.length) (b3:τ bg = Ak * Ak + l * Ak + bg) (ha:Blw n n τ s.gs.length (Ak * Ak) asked) :
  ∃ τ',RkE n n m (opx op lb) τ s τ' (Cg (l:Int) (bg:Int) s (rb,asked)):=by
 obtain ⟨τ1,q1,t1⟩:=h.addT (by omega) l (ns:=[(l:Int),rb.rests]) λ x hx=>by
  rcases mem_cons.mp hx with e | e
  ·rw [e]; exact Gq o hn (by omega) (by omega)
  ·rw [mS e]; exact a.blw (by unfold Ak; omega)
 have n1:=Af s "all" [(l:Int),rb.rests]
 obtain ⟨τ2,q2,t2⟩:=q1.rk.addT (by omega) l (ns:=[(bg:Int),asked]) λ x hx=>by
  rcases mem_cons.mp hx with e | e
  ·rw [e]; exact Blw.at b1 (by omega) (by rw [q1.ex _ b2,b3]; omega)
  ·rw [mS e]; exact ha.more (by omega) (by omega) q1.ex
 have n2:=Af (s.add "all" [(l:Int),rb.rests]) "all" [(bg:Int),asked]
 have q12:=q1.trans q2
 have ob2:=ob.ex (by omega) q12.ex
 have m1:(l + 1) * Ak≤lb * Ak:=mul_le_mul_right _ (by omega)
 rw [add_mul] at m1
 have q3:=q2.rk.filX lb (w:= "some") (ns:=[s.nx,s.nx + 1]) (.inr rfl) λ x hx=>by
  rw [ob2.runs]
  rcases mem_cons.mp hx with e | e
  ·rw [e]
   refine Blw.at (by omega) (by omega) ?_
   rw [q2.ex _ (by omega),t1]
   unfold Ak at *
   omega
  ·rw [mS e,show s.nx + 1 = ((s.gs.length + 1:Nat):Int) by unfold Ws.nx; omega]
   refine Blw.at (by omega) (by omega) ?_
   rw [n1] at t2
   rw [t2]
   unfold Ak at *
   omega
 rw [← e1] at q3
 refine ⟨τ2,?_,q12.ex,q3⟩
 have:(Cg (l:Int) (bg:Int) s (rb,asked)).gs.length = s.gs.length + 2:=Md _ _ _ _
 omega
theorem Acc {n m:Nat} {op:Nat→Prop} {τ:Nat→Nat} {s:Ws} {l l1 l2:Nat} {rr sg:Int} {r1 r2:Wr} (h:Rk n n m op τ s) (o:Op3 τ l) (o1:Op3 τ l1) (o2:Op3 τ l2) (hn:n≤l) (d1:l + 3≤l1) (d2:l1 + 3≤l2) (d3:l2 + 3≤s.gs.length) (hb:s.gs.length + 40≤1000000) (e1:r1.runs = l1) (e2:r2.runs = l2) (hr:AB n τ s.gs.length rr) (hs:0≤sg∧sg < n) (a1:AB n τ s.gs.length r1.rests) (a2:AB n τ s.gs.length r2.rests) (c1:∀ p∈r1.codes,CB n τ s.gs.length p.2) (c2:∀ p∈r2.codes,CB n τ s.gs.length p.2) :
  ∃ τ',RkE n n m (opx (opx op l1) l2) τ s τ' (wIf (l:Int) ((l:Int) + 1) ((l:Int) + 2) rr sg r1 r2 s).2∧∀ p∈(wIf (l:Int) ((l:Int) + 1) ((l:Int) + 2) rr sg r1 r2 s).1.codes,CB n τ' (wIf (l:Int) ((l:Int) + 1) ((l:Int) + 2) rr sg r1 r2 s).2.gs.length p.2:=by
 obtain ⟨τ1,q1,b1⟩:=h.addA (by omega) (w:= "not") (ns:=[rr]) (.inl ⟨.inr (.inr ⟨rfl,rfl⟩),λ x hx=>by rw [mS hx]; exact hr.blw (le_refl _)⟩)
 have n1:=Af s "not" [rr]
 have o_1:=o.ex (by omega) q1.ex
 obtain ⟨τ2,q2,t2⟩:=q1.rk.addT (by omega) l (ns:=[(l:Int),s.nx]) λ x hx=>by
  rcases mem_cons.mp hx with e | e
  ·rw [e]; exact Gq o_1 hn (by omega) (by omega)
  ·rw [mS e]; exact b1.blw (by unfold Ak; omega)
 have n2:=Af (s.add "not" [rr]) "all" [(l:Int),s.nx]
 obtain ⟨τ3,q3,b3⟩:=q2.rk.addA (by omega) (w:= "not") (ns:=[sg]) (.inl ⟨.inr (.inr ⟨rfl,rfl⟩),λ x hx=>by rw [mS hx]; exact ⟨hs.1,.inl hs.2⟩⟩)
 have n3:=Af ((s.add "not" [rr]).add "all" [(l:Int),s.nx]) "not" [sg]
 have q13:=(q1.trans q2).trans q3
 have t3:τ3 (s.gs.length + 1) = Ak * Ak + l * Ak + (s.gs.length + 1):=by rw [q3.ex _ (by omega)]; rw [n1] at t2; exact t2
 rw [Az,Az] at b3
 obtain ⟨τ4,q4⟩:=Yc (bg:=s.gs.length + 1) (asked:=sg) q13.rk (o.ex (by omega) q13.ex) (o1.ex (by omega) q13.ex) hn d1 (by omega) (by omega) e1 (a1.more q13.le q13.ex) (by omega) (by omega) t3 ⟨hs.1,.inl hs.2⟩
 have n4:(Cg (l:Int) ((s.gs.length + 1:Nat):Int) (((s.add "not" [rr]).add "all" [(l:Int),s.nx]).add "not" [sg]) (r1,sg)).gs.length = _:=Md _ _ _ _
 have ex4:∀ j,j < s.gs.length→τ4 j = τ j:=λ j hj=>(q4.ex j (by omega)).trans (q13.ex j hj)
 have b3':Blw n n τ4 (Cg (l:Int) ((s.gs.length + 1:Nat):Int) (((s.add "not" [rr]).add "all" [(l:Int),s.nx]).add "not" [sg]) (r1,sg)).gs.length (Ak * Ak) (s.nx + 1 + 1):=(b3.blw (v:=Ak * Ak) (by unfold Ak; omega)).more q4.le (le_refl _) q4.ex
 obtain ⟨τ5,q5⟩:=Yc (bg:=s.gs.length + 1) (asked:=s.nx + 1 + 1) q4.rk (o.ex (by omega) ex4) (o2.ex (by omega) ex4) hn (by omega) (by omega) (by omega) e2 (a2.more (by omega) ex4) (by omega) (by omega) (by rw [q4.ex _ (by omega)]; exact t3) b3'
 have n5:(Cg (l:Int) ((s.gs.length + 1:Nat):Int) (Cg (l:Int) ((s.gs.length + 1:Nat):Int) (((s.add "not" [rr]).add "all" [(l:Int),s.nx]).add "not" [sg]) (r1,sg)) (r2,s.nx + 1 + 1)).gs.length = _:=Md _ _ _ _
 have ex5:∀ j,j < s.gs.length→τ5 j = τ j:=λ j hj=>(q5.ex j (by omega)).trans (ex4 j hj)
 obtain ⟨τ6,q6,c6⟩:=Jb q5.rk (by omega) (ps:=r1.codes ++ r2.codes) λ p hp=>by
  rcases mem_append.mp hp with z | z
  ·exact (c1 p z).more (by omega) ex5
  ·exact (c2 p z).more (by omega) ex5
 have le6:=q6.le
 have E:wIf (l:Int) ((l:Int) + 1) ((l:Int) + 2) rr sg r1 r2 s = (⟨(l:Int),(l:Int) + 1,(l:Int) + 2,rr,((Cg (l:Int) ((s.gs.length + 1:Nat):Int) (Cg (l:Int) ((s.gs.length + 1:Nat):Int) (((s.add "not" [rr]).add "all" [(l:Int),s.nx]).add "not" [sg]) (r1,sg)) (r2,s.nx + 1 + 1)).jnd (r1.codes ++ r2.codes)).1⟩,((Cg (l:Int) ((s.gs.length + 1:Nat):Int) (Cg (l:Int) ((s.gs.length + 1:Nat):Int) (((s.add "not" [rr]).add "all" [(l:Int),s.nx]).add "not" [sg]) (r1,sg)) (r2,s.nx + 1 + 1)).jnd (r1.codes ++ r2.codes)).2):=by
  rw [show ((s.gs.length + 1:Nat):Int) = s.nx + 1 by unfold Ws.nx; omega,show s.nx + 1 + 1 = s.nx + 2 by omega]
  rfl
 rw [E]
 exact ⟨τ6,⟨le_trans (by omega) le6,λ j hj=>(q6.ex j (by omega)).trans (ex5 j hj),q6.rk⟩,c6⟩
theorem Aao {n m:Nat} {op:Nat→Prop} {τ:Nat→Nat} {s:Ws} {l lb:Nat} {rb ro:Wr} (h:Rk n n m op τ s) (o:Op3 τ l) (ob:Op3 τ lb) (hn:n≤l) (d1:l + 3≤lb) (d3:lb + 3≤s.gs.length) (hb:s.gs.length + 20≤1000000) (e1:rb.runs = lb) (a:AB n τ s.gs.length rb.rests) (a':AB n τ s.gs.length ro.rests) (cb:∀ p∈rb.codes,CB n τ s.gs.length p.2) :
  ∃ τ',RkE n n m (opx op lb) τ s τ' ((bsS (l:Int) s (rb,ro)).jnd (rb.codes ++ [(0,s.nx + 3)])).2∧∀ p∈((bsS (l:Int) s (rb,ro)).jnd (rb.codes ++ [(0,s.nx + 3)])).1,CB n τ' ((bsS (l:Int) s (rb,ro)).jnd (rb.codes ++ [(0,s.nx + 3)])).2.gs.length p.2:=by
 obtain ⟨τ1,q1,b1⟩:=h.addA (by omega) (w:= "not") (ns:=[rb.rests]) (.inl ⟨.inr (.inr ⟨rfl,rfl⟩),λ x hx=>by rw [mS hx]; exact a.blw (le_refl _)⟩)
 have n1:=Af s "not" [rb.rests]
 have a1:=a'.more q1.le q1.ex
 obtain ⟨τ2,q2,b2⟩:=q1.rk.addA (by omega) (w:= "all") (ns:=[ro.rests,s.nx]) (.inl ⟨.inl rfl,λ x hx=>by
  rcases mem_cons.mp hx with e | e
  ·rw [e]; exact a1.blw (le_refl _)
  ·rw [mS e]; exact b1.blw (le_refl _)⟩)
 have n2:=Af (s.add "not" [rb.rests]) "all" [ro.rests,s.nx]
 rw [Az] at b2
 obtain ⟨τ3,q3,b3⟩:=q2.rk.addA (by omega) (w:= "not") (ns:=[s.nx + 1]) (.inl ⟨.inr (.inr ⟨rfl,rfl⟩),λ x hx=>by rw [mS hx]; exact b2.blw (le_refl _)⟩)
 have n3:=Af ((s.add "not" [rb.rests]).add "all" [ro.rests,s.nx]) "not" [s.nx + 1]
 rw [Az,Az,show s.nx + 1 + 1 = s.nx + 2 by omega] at b3
 have q13:=(q1.trans q2).trans q3
 have o3:=o.ex (by omega) q13.ex
 have ob3:=ob.ex (by omega) q13.ex
 have m1:(l + 1) * Ak≤lb * Ak:=mul_le_mul_right _ (by omega)
 rw [add_mul] at m1
 have q4:=q3.rk.filX lb (w:= "all") (ns:=[(l:Int),s.nx + 2]) (.inl rfl) λ x hx=>by
  rw [ob3.runs]
  rcases mem_cons.mp hx with e | e
  ·rw [e]; exact Gq o3 hn (by omega) (by unfold Ak at *; omega)
  ·rw [mS e]; exact b3.blw (by unfold Ak at *; omega)
 rw [← e1] at q4
 have n4:=A8 (((s.add "not" [rb.rests]).add "all" [ro.rests,s.nx]).add "not" [s.nx + 1]) rb.runs "all" [(l:Int),s.nx + 2]
 have big:∀ c:Nat,c≤Ak * Ak + c * Ak:=λ c=>by unfold Ak; omega
 have b2':=b2.more q3.le q3.ex
 rw [← n4] at b2'
 obtain ⟨τ5,q5,c5⟩:=q4.addB (by omega) (w:= "all") (ns:=[(l:Int),s.nx + 1]) (.inl rfl) λ x hx=>by
  rcases mem_cons.mp hx with e | e
  ·rw [e]; exact (J9 o3 hn (by omega)).blw
  ·rw [mS e]; exact b2'.blw (big _)
 have n5:=Af ((((s.add "not" [rb.rests]).add "all" [ro.rests,s.nx]).add "not" [s.nx + 1]).fil rb.runs "all" [(l:Int),s.nx + 2]) "all" [(l:Int),s.nx + 1]
 rw [Fa,Az,Az,Az,show s.nx + 1 + 1 + 1 = s.nx + 3 by omega] at c5
 have ex5:∀ j,j < s.gs.length→τ5 j = τ j:=λ j hj=>(q5.ex j (by omega)).trans (q13.ex j hj)
 obtain ⟨τ6,q6,c6⟩:=Jb (s:=bsS (l:Int) s (rb,ro)) q5.rk (by rw [G8]; omega) (ps:=rb.codes ++ [(0,s.nx + 3)]) λ p hp=>by
  rcases mem_append.mp hp with z | z
  ·exact (cb p z).more (by rw [G8]; omega) ex5
  ·rw [mS z]; exact c5
 have le6:=q6.le
 rw [G8] at le6
 exact ⟨τ6,⟨by omega,λ j hj=>(q6.ex j (by rw [G8]; omega)).trans (ex5 j hj),q6.rk⟩,c6⟩
theorem Aa8 {n m:Nat} {op:Nat→Prop} {τ:Nat→Nat} {s:Ws} {l l1 l2:Nat} {rr:Int} {r1 r2:Wr} (h:Rk n n m op τ s) (o:Op3 τ l) (o1:Op3 τ l1) (o2:Op3 τ l2) (hn:n≤l) (d1:l + 3≤l1) (d2:l1 + 3≤l2) (d3:l2 + 3≤s.gs.length) (hb:s.gs.length + 100≤1000000) (e1:r1.runs = l1) (e2:r2.runs = l2) (a1:AB n τ s.gs.length r1.rests) (a2:AB n τ s.gs.length r2.rests) (k1:KO r1.codes) (c1:∀ p∈r1.codes,CB n τ s.gs.length p.2) (c2:∀ p∈r2.codes,CB n τ s.gs.length p.2) :
  ∃ τ',RkE n n m (opx (opx op l1) l2) τ s τ' (wBes (l:Int) ((l:Int) + 1) ((l:Int) + 2) rr r1 r2 s).2∧∀ p∈(wBes (l:Int) ((l:Int) + 1) ((l:Int) + 2) rr r1 r2 s).1.codes,CB n τ' (wBes (l:Int) ((l:Int) + 1) ((l:Int) + 2) rr r1 r2 s).2.gs.length p.2:=by
 obtain ⟨τ1,q1,w1⟩:=Aao (ro:=r2) h o o1 hn d1 (by omega) (by omega) e1 a1 a2 c1
 have hz:∀ g:Int,KO [((0:Int),g)]:=λ g p hp=>by rw [mS hp]; exact rg0
 have l5:=(Gr.jnd (bsS (l:Int) s (r1,r2)) (k1.app (hz (s.nx + 3)))).hi
 rw [G8] at l5
 have le1:=q1.le
 obtain ⟨τ2,q2,w2⟩:=Aao (ro:=r1) q1.rk (o.ex (by omega) q1.ex) (o2.ex (by omega) q1.ex) hn (by omega) (by omega) (by omega) e2 (a2.more q1.le q1.ex) (a1.more q1.le q1.ex) λ p hp=>(c2 p hp).more q1.le q1.ex
 have le2:=q2.le
 obtain ⟨τ3,q3,w3⟩:=Ab4 q2.rk (by omega) (λ p hp=>(w1 p hp).more q2.le q2.ex) w2
 have ex2:∀ j,j < s.gs.length→τ2 j = τ j:=λ j hj=>(q2.ex j (by omega)).trans (q1.ex j hj)
 exact ⟨τ3,⟨le_trans (le_trans le1 le2) q3.le,λ j hj=>(q3.ex j (by omega)).trans (ex2 j hj),q3.rk⟩,w3⟩
theorem RkE.tr {n lo m:Nat} {op op':Nat→Prop} {τ τ1 τ2:Nat→Nat} {s s1 s2:Ws} (a:RkE n lo m op τ s τ1 s1) (b:RkE n lo m op' τ1 s1 τ2 s2):RkE n lo m op' τ s τ2 s2 :=
 ⟨le_trans a.le b.le,λ j hj=>(b.ex j (lt_of_lt_of_le hj a.le)).trans (a.ex j hj),b.rk⟩
theorem M4 (l:Nat):(l:Int) + 1 = ((l + 1:Nat):Int):=by omega
theorem Om (l:Nat):(l:Int) + 2 = ((l + 2:Nat):Int):=by omega
theorem G9 {n:Nat} {τ:Nat→Nat} {l c v:Nat} (o:Op3 τ l) (hn:n≤l) (hc:l + 1 < c) (hv:2 * (Ak * Ak) + (l + 1) < v):Blw n n τ c v ((l:Int) + 1):=by
 rw [M4]
 exact Blw.at (by omega) hc (by rw [o.kept]; exact hv)
theorem Ix {n:Nat} {τ:Nat→Nat} {l c v:Nat} (o:Op3 τ l) (hn:n≤l) (hc:l + 2 < c) (hv:4 * (Ak * Ak) + (l + 2) < v):Blw n n τ c v ((l:Int) + 2):=by
 rw [Om]
 exact Blw.at (by omega) hc (by rw [o.stays]; exact hv)
theorem CB.low {n:Nat} {τ:Nat→Nat} {c v:Nat} {x:Int} (h:CB n τ c x) (hc:c≤Ak) (hv:2 * (Ak * Ak)≤v):Blw n n τ c v x:=h.lt (le_refl _) (by have:=mul_le_mul_right Ak hc; omega)
theorem Aaa {n m:Nat} {op:Nat→Prop} {τ:Nat→Nat} {s:Ws} {l l1:Nat} {r:Wr} {kept:List Int} (h:Rk n n m op τ s) (o:Op3 τ l) (o1:Op3 τ l1) (hn:n≤l) (d1:l + 3≤l1) (d2:l1 + 3≤s.gs.length) (ek:r.kept = (l1:Int) + 1) (es:r.stays = (l1:Int) + 2) (hk:∀ x∈kept,Blw n n τ s.gs.length (2 * (Ak * Ak) + (l1 + 1)) x):Rk n n m (opx (opx op (l1 + 1)) (l1 + 2)) τ (pfS kept ((l:Int) + 2) s r):=by
 have q1:=h.filX (l1 + 1) (w:= "all") (ns:=kept) (.inl rfl) λ x hx=>by rw [o1.kept]; exact hk x hx
 have n1:=A8 s ((l1 + 1:Nat):Int) "all" kept
 have q2:=q1.filX (l1 + 2) (w:= "some") (ns:=[(l:Int) + 2]) (.inr rfl) λ x hx=>by
  rw [mS hx,o1.stays]
  exact Ix o hn (by omega) (by omega)
 unfold pfS
 rw [ek,es,M4,Om l1]
 exact q2
def op6 (op:Nat→Prop) (l1 l2:Nat):Nat→Prop:=λ j=>op j∧¬ (l1≤j∧j < l1 + 3)∧¬ (l2≤j∧j < l2 + 3)
theorem AcE {op:Nat→Prop} {l1 l2:Nat} (j:Nat) (h:opx (opx (opx (opx (opx (opx op l1) l2) (l1 + 1)) (l1 + 2)) (l2 + 1)) (l2 + 2) j):op6 op l1 l2 j:=by
 obtain ⟨⟨⟨⟨⟨⟨h0,h1⟩,h2⟩,h3⟩,h4⟩,h5⟩,h6⟩:=h
 exact ⟨h0,by omega,by omega⟩
theorem Ab8 {n m:Nat} {op:Nat→Prop} {τ τ1:Nat→Nat} {s0 s:Ws} {l l1 l2:Nat} {r1 r2:Wr} {kept:List Int} (q:RkE n n m (opx (opx op l1) l2) τ s0 τ1 s) (o:Op3 τ1 l) (o1:Op3 τ1 l1) (o2:Op3 τ1 l2) (hn:n≤l) (d1:l + 3≤l1) (d2:l1 + 3≤l2) (d3:l2 + 3≤s.gs.length) (k1:r1.kept = (l1:Int) + 1) (k2:r2.kept = (l2:Int) + 1) (t1:r1.stays = (l1:Int) + 2) (t2:r2.stays = (l2:Int) + 2) (hk:∀ x∈kept,Blw n n τ1 s.gs.length (2 * (Ak * Ak) + (l1 + 1)) x):RkE n n m (op6 op l1 l2) τ s0 τ1 ([r1,r2].foldl (pfS kept ((l:Int) + 2)) s):=by
 have p1:=Aaa q.rk o o1 hn d1 (by omega) k1 t1 hk
 have n1:(pfS kept ((l:Int) + 2) s r1).gs.length = s.gs.length:=by unfold pfS; rw [A8,A8]
 have p2:=Aaa p1 o o2 hn (by omega) (by omega) k2 t2 λ x hx=>(hk x hx).more (by omega) (by omega) λ _ _=>rfl
 have n2:=Lu kept ((l:Int) + 2) [r1,r2] s
 exact ⟨by rw [n2]; exact q.le,q.ex,p2.weak AcE⟩
theorem Zp {n m:Nat} {op:Nat→Prop} {τ:Nat→Nat} {s:Ws} {l l1 l2:Nat} {p:Pt} {r1 r2:Wr} (h:Rk n n m op τ s) (o:Op3 τ l) (o1:Op3 τ l1) (o2:Op3 τ l2) (hn:n≤l) (d1:l + 3≤l1) (d2:l1 + 3≤l2) (d3:l2 + 3≤s.gs.length) (hb:s.gs.length + 200≤1000000) (e1:r1.runs = l1) (e2:r2.runs = l2) (k1:r1.kept = (l1:Int) + 1) (k2:r2.kept = (l2:Int) + 1) (t1:r1.stays = (l1:Int) + 2) (t2:r2.stays = (l2:Int) + 2) (a1:AB n τ s.gs.length r1.rests) (a2:AB n τ s.gs.length r2.rests) (q1:KO r1.codes) (q2:KO r2.codes) (c1:∀ p∈r1.codes,CB n τ l2 p.2) (c2:∀ p∈r2.codes,CB n τ s.gs.length p.2) (hs:Ko n p) :
  ∃ τ',PO n m (op6 op l1 l2) l τ s τ' (Eb p (l:Int) ((l:Int) + 1) ((l:Int) + 2) r1 r2 s):=by
 obtain ⟨τ1,p1,b1⟩:=h.addA (by omega) (w:= "some") (ns:=[r1.rests,r2.rests]) (.inl ⟨.inr (.inl rfl),λ x hx=>by
  rcases mem_cons.mp hx with e | e
  ·rw [e]; exact a1.blw (le_refl _)
  ·rw [mS e]; exact a2.blw (le_refl _)⟩)
 have n1:=Af s "some" [r1.rests,r2.rests]
 have o_1:=o.ex (by omega) p1.ex
 have o1_1:=o1.ex (by omega) p1.ex
 have o2_1:=o2.ex (by omega) p1.ex
 have a1_1:=a1.more p1.le p1.ex
 have a2_1:=a2.more p1.le p1.ex
 have c1_1:∀ p∈r1.codes,CB n τ1 l2 p.2:=λ p hp=>(c1 p hp).more (le_refl _) λ j hj=>p1.ex j (by omega)
 have c1_2:∀ p∈r1.codes,CB n τ1 (s.add "some" [r1.rests,r2.rests]).gs.length p.2:=λ p hp=>(c1_1 p hp).more (by omega) λ _ _=>rfl
 have c2_1:∀ p∈r2.codes,CB n τ1 (s.add "some" [r1.rests,r2.rests]).gs.length p.2:=λ p hp=>(c2 p hp).more p1.le p1.ex
 have key:∀ (b:Wr× Ws× List Int) (τ2:Nat→Nat),RkE n n m (opx (opx op l1) l2) τ1 (s.add "some" [r1.rests,r2.rests]) τ2 b.2.1→b.1.rests = s.nx→(∀ p∈b.1.codes,CB n τ2 b.2.1.gs.length p.2)→(∀ x∈b.2.2,Blw n n τ2 b.2.1.gs.length (2 * (Ak * Ak) + (l1 + 1)) x)→PO n m (op6 op l1 l2) l τ s τ2 (b.1,[r1,r2].foldl (pfS b.2.2 ((l:Int) + 2)) b.2.1):=λ b τ2 q er cc hk=>by
  have lb:=q.le
  have n2:=Lu b.2.2 ((l:Int) + 2) [r1,r2] b.2.1
  have f:=Ab8 q (o_1.ex (by omega) q.ex) (o1_1.ex (by omega) q.ex) (o2_1.ex (by omega) q.ex) hn d1 d2 (by omega) k1 k2 t1 t2 hk
  refine ⟨p1.tr f,o_1.ex (by omega) q.ex,?_,λ p hp=>?_⟩
  ·show AB n τ2 ([r1,r2].foldl (pfS b.2.2 ((l:Int) + 2)) b.2.1).gs.length b.1.rests
   rw [n2,er]
   exact b1.more q.le q.ex
  ·show CB n τ2 ([r1,r2].foldl (pfS b.2.2 ((l:Int) + 2)) b.2.1).gs.length p.2
   rw [n2]
   exact cc p hp
 have one:∀ (τ2:Nat→Nat) (c:Nat),Op3 τ2 l→l + 2 < c→∀ x∈[(l:Int) + 1],Blw n n τ2 c (2 * (Ak * Ak) + (l1 + 1)) x:=λ τ2 c o c3 x hx=>by
  rw [mS hx]
  exact G9 o hn (by omega) (by omega)
 have bes:∃ τ',PO n m (op6 op l1 l2) l τ s τ' ((wBes (l:Int) ((l:Int) + 1) ((l:Int) + 2) s.nx r1 r2 (s.add "some" [r1.rests,r2.rests])).1,[r1,r2].foldl (pfS [(l:Int) + 1,(cgt (wBes (l:Int) ((l:Int) + 1) ((l:Int) + 2) s.nx r1 r2 (s.add "some" [r1.rests,r2.rests])).1.codes 1 (wBes (l:Int) ((l:Int) + 1) ((l:Int) + 2) s.nx r1 r2 (s.add "some" [r1.rests,r2.rests])).2).1] ((l:Int) + 2)) (cgt (wBes (l:Int) ((l:Int) + 1) ((l:Int) + 2) s.nx r1 r2 (s.add "some" [r1.rests,r2.rests])).1.codes 1 (wBes (l:Int) ((l:Int) + 1) ((l:Int) + 2) s.nx r1 r2 (s.add "some" [r1.rests,r2.rests])).2).2):=by
  obtain ⟨τ2,p2,w2⟩:=Aa8 (rr:=s.nx) p1.rk o_1 o1_1 o2_1 hn d1 d2 (by omega) (by omega) e1 e2 a1_1 a2_1 q1 c1_2 c2_1
  have hi:=(Ud (l:Int) ((l:Int) + 1) ((l:Int) + 2) s.nx (s.add "some" [r1.rests,r2.rests]) q1 q2).gr.hi
  have l2':=p2.le
  obtain ⟨τ3,p3,w3⟩:=X2 p2.rk (by omega) 1 w2
  have h3:=(De (wBes (l:Int) ((l:Int) + 1) ((l:Int) + 2) s.nx r1 r2 (s.add "some" [r1.rests,r2.rests])).1.codes 1 (wBes (l:Int) ((l:Int) + 1) ((l:Int) + 2) s.nx r1 r2 (s.add "some" [r1.rests,r2.rests])).2)
  have p23:=p2.trans p3
  have lt3:=lt_of_lt_of_le (by omega:l + 1 < (wBes (l:Int) ((l:Int) + 1) ((l:Int) + 2) s.nx r1 r2 (s.add "some" [r1.rests,r2.rests])).2.gs.length) p3.le
  have lM:(cgt (wBes (l:Int) ((l:Int) + 1) ((l:Int) + 2) s.nx r1 r2 (s.add "some" [r1.rests,r2.rests])).1.codes 1 (wBes (l:Int) ((l:Int) + 1) ((l:Int) + 2) s.nx r1 r2 (s.add "some" [r1.rests,r2.rests])).2).2.gs.length≤Ak:=by unfold Ak; omega
  refine ⟨τ3,key (_,_,_) τ3 p23 rfl (λ p hp=>(w2 p hp).more p3.le p3.ex) λ x hx=>?_⟩
  rcases mem_cons.mp hx with e | e
  ·rw [e]; exact G9 (o_1.ex (by omega) p23.ex) hn lt3 (by omega)
  ·rw [mS e]; exact w3.low lM (by omega)
 cases p with
 | thn p q =>
  obtain ⟨τ2,p2,w2⟩:=Yy (rr:=s.nx) p1.rk o_1 o1_1 o2_1 hn d1 d2 (by omega) (by omega) e1 e2 a2_1 c1_1 c2_1
  have:=p2.le
  exact ⟨τ2,key (_,_,_) τ2 p2 rfl w2 (one _ _ (o_1.ex (by omega) p2.ex) (by dsimp only; omega))⟩
 | iff i p q =>
  obtain ⟨τ2,p2,w2⟩:=Acc (rr:=s.nx) (sg:=i) p1.rk o_1 o1_1 o2_1 hn d1 d2 (by omega) (by omega) e1 e2 b1 hs a1_1 a2_1 c1_2 c2_1
  have:=p2.le
  exact ⟨τ2,key (_,_,_) τ2 p2 rfl w2 (one _ _ (o_1.ex (by omega) p2.ex) (by dsimp only; omega))⟩
 | _=>exact bes
def op4 (op:Nat→Prop) (l1:Nat):Nat→Prop:=λ j=>op j∧¬ (l1≤j∧j < l1 + 3)
theorem Ua {n m:Nat} {op:Nat→Prop} {τ:Nat→Nat} {s:Ws} {l l1:Nat} {ri:Wr} (h:Rk n n m op τ s) (o:Op3 τ l) (o1:Op3 τ l1) (hn:n≤l) (d1:l + 3≤l1) (d2:l1 + 3≤s.gs.length) (e1:ri.runs = l1) (k1:ri.kept = (l1:Int) + 1) (t1:ri.stays = (l1:Int) + 2):Rk n n m (op4 op l1) τ (Cs (l:Int) ((l:Int) + 1) ((l:Int) + 2) ri s):=by
 have m1:(l + 1) * Ak≤l1 * Ak:=mul_le_mul_right _ (by omega)
 rw [add_mul] at m1
 have q1:=h.filX (l1 + 1) (w:= "some") (ns:=[(l:Int) + 1]) (.inr rfl) λ x hx=>by
  rw [mS hx,o1.kept]
  exact G9 o hn (by omega) (by omega)
 have n1:=A8 s ((l1 + 1:Nat):Int) "some" [(l:Int) + 1]
 have q2:=q1.filX l1 (w:= "some") (ns:=[(l:Int)]) (.inr rfl) λ x hx=>by
  rw [mS hx,o1.runs]
  exact Gq o hn (by omega) (by unfold Ak at *; omega)
 have n2:=A8 (s.fil ((l1 + 1:Nat):Int) "some" [(l:Int) + 1]) (l1:Int) "some" [(l:Int)]
 have q3:=q2.filX (l1 + 2) (w:= "some") (ns:=[(l:Int) + 2]) (.inr rfl) λ x hx=>by
  rw [mS hx,o1.stays]
  exact Ix o hn (by omega) (by omega)
 unfold Cs
 rw [e1,k1,t1,M4,Om l1,← M4]
 refine q3.weak λ j z=>?_
 obtain ⟨⟨⟨z0,z1⟩,z2⟩,z3⟩:=z
 exact ⟨z0,by omega⟩
theorem M6 (x y z:Int) (ri:Wr) (s:Ws):(Cs x y z ri s).gs.length = s.gs.length:=by unfold Cs; rw [A8,A8,A8]
theorem AaC {n m:Nat} {op:Nat→Prop} {τ:Nat→Nat} {s:Ws} {l l1:Nat} {ri:Wr} (h:Rk n n m op τ s) (o:Op3 τ l) (o1:Op3 τ l1) (hn:n≤l) (d1:l + 3≤l1) (d2:l1 + 3≤s.gs.length) (e1:ri.runs = l1) (k1:ri.kept = (l1:Int) + 1) (t1:ri.stays = (l1:Int) + 2) (a1:AB n τ s.gs.length ri.rests) (c1:∀ p∈ri.codes,CB n τ s.gs.length p.2):∃ τ',PO n m (op4 op l1) l τ s τ' (Aar (l:Int) ((l:Int) + 1) ((l:Int) + 2) ri s):=by
 have q1:=Ua h o o1 hn d1 d2 e1 k1 t1
 have n1:=M6 (l:Int) ((l:Int) + 1) ((l:Int) + 2) ri s
 obtain ⟨τ2,q2,w2⟩:=Jb q1 (by omega) (ps:=ri.codes.map λ p=>(F7 p.1,p.2)) λ p hp=>by
  obtain ⟨q,hq,rfl⟩:=mem_map.mp hp
  rw [n1]
  exact c1 q hq
 have le2:=q2.le
 exact ⟨τ2,⟨by show s.gs.length≤_; exact le_trans (by omega) le2,λ j hj=>q2.ex j (by omega),q2.rk⟩,o.ex (by omega) (c:=s.gs.length) λ j hj=>q2.ex j (by omega),a1.more (by exact le_trans (by omega) le2) λ j hj=>q2.ex j (by omega),w2⟩
theorem Xb {n m:Nat} {op:Nat→Prop} {τ:Nat→Nat} {s:Ws} {l l1:Nat} {k:Int} {ri:Wr} (h:Rk n n m op τ s) (o:Op3 τ l) (o1:Op3 τ l1) (hn:n≤l) (d1:l + 3≤l1) (d2:l1 + 3≤s.gs.length) (hb:s.gs.length + 200≤1000000) (e1:ri.runs = l1) (k1:ri.kept = (l1:Int) + 1) (t1:ri.stays = (l1:Int) + 2) (a1:AB n τ s.gs.length ri.rests) (ko:KO ri.codes) (c1:∀ p∈ri.codes,CB n τ s.gs.length p.2) (hk:0≤k∧k < m):∃ τ',PO n m (op4 op l1) l τ s τ' (Lz k (l:Int) ((l:Int) + 1) ((l:Int) + 2) ri (Cs (l:Int) ((l:Int) + 1) ((l:Int) + 2) ri s)):=by
 have q0:=Ua h o o1 hn d1 d2 e1 k1 t1
 have n0:=M6 (l:Int) ((l:Int) + 1) ((l:Int) + 2) ri s
 generalize Cs (l:Int) ((l:Int) + 1) ((l:Int) + 2) ri s = s0 at *
 rw [← n0] at a1 c1
 obtain ⟨τ1,p1,b1⟩:=q0.addA (by omega) (w:= "memory") (ns:=[k]) (.inr ⟨rfl,k,rfl,hk⟩)
 have l_1:=Af s0 "memory" [k]
 have a1_1:=a1.more p1.le p1.ex
 obtain ⟨τ2,p2,b2⟩:=p1.rk.addA (by omega) (w:= "some") (ns:=[s0.nx,ri.rests]) (.inl ⟨.inr (.inl rfl),λ x hx=>by
  rcases mem_cons.mp hx with e | e
  ·rw [e]; exact b1.blw (le_refl _)
  ·rw [mS e]; exact a1_1.blw (le_refl _)⟩)
 have l_2:=Af (s0.add "memory" [k]) "some" [s0.nx,ri.rests]
 have p12:=p1.trans p2
 have b1':=b1.more p2.le p2.ex
 rw [Az] at b2
 have c2:∀ p∈ri.codes,CB n τ2 ((s0.add "memory" [k]).add "some" [s0.nx,ri.rests]).gs.length p.2:=λ p hp=>(c1 p hp).more p12.le p12.ex
 have hko:KO (ri.codes.map λ p=>(agC p.1,p.2)):=λ q hq=>by
  obtain ⟨c,hc,rfl⟩:=mem_map.mp hq
  have:=ko c hc
  show 0≤agC c.1∧agC c.1 < 6
  unfold agC
  split <;> omega
 obtain ⟨τ3,p3,w3⟩:=Jb p12.rk (by omega) (ps:=ri.codes.map λ p=>(agC p.1,p.2)) λ p hp=>by
  obtain ⟨q,hq,rfl⟩:=mem_map.mp hp
  exact c2 q hq
 have h3:=(Gr.jnd ((s0.add "memory" [k]).add "some" [s0.nx,ri.rests]) hko).hi
 have le3:=p3.le
 have p13:=p12.trans p3
 generalize ej:((s0.add "memory" [k]).add "some" [s0.nx,ri.rests]).jnd (ri.codes.map λ p=>(agC p.1,p.2)) = J at *
 obtain ⟨τ4,p4,w4⟩:=X2 p13.rk (by omega) (cs:=ri.codes) 0 λ p hp=>(c2 p hp).more p3.le p3.ex
 have h4:=De ri.codes 0 J.2
 have p14:=p13.trans p4
 have ex4:∀ j,j < s.gs.length→τ4 j = τ j:=λ j hj=>p14.ex j (by omega)
 have o4:=o.ex (by omega) ex4
 have b14:=(b1'.more p3.le p3.ex).more p4.le p4.ex
 obtain ⟨τ5,p5⟩:=Ye p4.rk (by omega) (k:=k) (y:=(l:Int) + 1) (z:=(l:Int) + 2) (mem:=s0.nx) (comes:=(cgt ri.codes 0 J.2).1) (w4.low (by unfold Ak; omega) (by omega)) (G9 o4 hn (by omega) (by unfold Ak; omega)) (b14.blw (by unfold Ak; omega)) (Ix o4 hn (by omega) (by unfold Ak; omega))
 have p15:=p14.trans p5
 have ex5:∀ j,j < s.gs.length→τ5 j = τ j:=λ j hj=>p15.ex j (by omega)
 have le5:=p15.le
 have E:Lz k (l:Int) ((l:Int) + 1) ((l:Int) + 2) ri s0 = (⟨(l:Int),(l:Int) + 1,(l:Int) + 2,s0.nx + 1,J.1⟩,(cgt ri.codes 0 J.2).2.lvg k ((l:Int) + 1) ((l:Int) + 2) s0.nx (cgt ri.codes 0 J.2).1):=by rw [← ej]; rfl
 rw [E]
 exact ⟨τ5,⟨by show s.gs.length≤_; exact le_trans (by omega) le5,ex5,p15.rk⟩,o.ex (by omega) ex5,((b2.more p3.le p3.ex).more p4.le p4.ex).more p5.le p5.ex,λ p hp=>((w3 p hp).more p4.le p4.ex).more p5.le p5.ex⟩
theorem X8 {n m:Nat} {op:Nat→Prop} {τ:Nat→Nat} {s:Ws} {l l1:Nat} {i:Int} {ri:Wr} (h:Rk n n m op τ s) (o:Op3 τ l) (o1:Op3 τ l1) (hn:n≤l) (d1:l + 3≤l1) (d2:l1 + 3≤s.gs.length) (hb:s.gs.length + 200≤1000000) (e1:ri.runs = l1) (a1:AB n τ s.gs.length ri.rests) (hi:0≤i∧i < n):∃ τ',RkE n n m (opx op l1) τ s τ' (Da i (l:Int) ri s)∧CB n τ' (Da i (l:Int) ri s).gs.length s.nx:=by
 have big:∀ c:Nat,c≤Ak * Ak + c * Ak:=λ c=>by unfold Ak; omega
 obtain ⟨τ1,p1,b1⟩:=h.addB (by omega) (w:= "all") (ns:=[(l:Int),ri.rests,i]) (.inl rfl) λ x hx=>by
  rcases mem_cons.mp hx with e | e
  ·rw [e]; exact (J9 o hn (by omega)).blw
  ·rcases mem_cons.mp e with e | e
   ·rw [e]; exact a1.blw (big _)
   ·rw [mS e]; exact ⟨hi.1,.inl hi.2⟩
 have n1:=Af s "all" [(l:Int),ri.rests,i]
 have a1_1:=a1.more p1.le p1.ex
 obtain ⟨τ2,p2,b2⟩:=p1.rk.addA (by omega) (w:= "not") (ns:=[ri.rests]) (.inl ⟨.inr (.inr ⟨rfl,rfl⟩),λ x hx=>by rw [mS hx]; exact a1_1.blw (le_refl _)⟩)
 have n2:=Af (s.add "all" [(l:Int),ri.rests,i]) "not" [ri.rests]
 obtain ⟨τ3,p3,b3⟩:=p2.rk.addA (by omega) (w:= "not") (ns:=[i]) (.inl ⟨.inr (.inr ⟨rfl,rfl⟩),λ x hx=>by rw [mS hx]; exact ⟨hi.1,.inl hi.2⟩⟩)
 have n3:=Af ((s.add "all" [(l:Int),ri.rests,i]).add "not" [ri.rests]) "not" [i]
 have b2':=b2.more p3.le p3.ex
 rw [Az] at b2'
 rw [Az,Az,show s.nx + 1 + 1 = s.nx + 2 by omega] at b3
 obtain ⟨τ4,p4,b4⟩:=p3.rk.addA (by omega) (w:= "some") (ns:=[s.nx + 1,s.nx + 2]) (.inl ⟨.inr (.inl rfl),λ x hx=>by
  rcases mem_cons.mp hx with e | e
  ·rw [e]; exact b2'.blw (le_refl _)
  ·rw [mS e]; exact b3.blw (le_refl _)⟩)
 have n4:=Af (((s.add "all" [(l:Int),ri.rests,i]).add "not" [ri.rests]).add "not" [i]) "some" [s.nx + 1,s.nx + 2]
 rw [Az,Az,Az,show s.nx + 1 + 1 + 1 = s.nx + 3 by omega] at b4
 have p14:=((p1.trans p2).trans p3).trans p4
 have o4:=o.ex (by omega) p14.ex
 have o14:=o1.ex (by omega) p14.ex
 have m1:(l + 1) * Ak≤l1 * Ak:=mul_le_mul_right _ (by omega)
 rw [add_mul] at m1
 have q5:=p14.rk.filX l1 (w:= "all") (ns:=[(l:Int),s.nx + 3]) (.inl rfl) λ x hx=>by
  rw [o14.runs]
  rcases mem_cons.mp hx with e | e
  ·rw [e]; exact Gq o4 hn (by omega) (by unfold Ak at *; omega)
  ·rw [mS e]; exact b4.blw (by unfold Ak at *; omega)
 have n5:=G6 i (l:Int) ri s
 rw [← e1] at q5
 refine ⟨τ4,⟨by omega,p14.ex,q5⟩,?_⟩
 have c:=((b1.more p2.le p2.ex).more p3.le p3.ex).more p4.le p4.ex
 rw [n5]
 rw [n4,n3,n2,n1] at c
 exact c
theorem Zq {n m:Nat} {op:Nat→Prop} {τ:Nat→Nat} {s:Ws} {l l1:Nat} {i:Int} {ri:Wr} (h:Rk n n m op τ s) (o:Op3 τ l) (o1:Op3 τ l1) (hn:n≤l) (d1:l + 3≤l1) (d2:l1 + 3≤s.gs.length) (hb:s.gs.length + 200≤1000000) (e1:ri.runs = l1) (k1:ri.kept = (l1:Int) + 1) (t1:ri.stays = (l1:Int) + 2) (a1:AB n τ s.gs.length ri.rests) (c1:∀ p∈ri.codes,CB n τ s.gs.length p.2) (hi:0≤i∧i < n):∃ τ',PO n m (op4 op l1) l τ s τ' (Vb i (l:Int) ((l:Int) + 1) ((l:Int) + 2) ri.rests ri (s.fil ri.kept "some" [(l:Int) + 1])):=by
 have q0:=h.filX (l1 + 1) (w:= "some") (ns:=[(l:Int) + 1]) (.inr rfl) λ x hx=>by
  rw [mS hx,o1.kept]
  exact G9 o hn (by omega) (by omega)
 rw [← M4,← k1] at q0
 have n0:=A8 s ri.kept "some" [(l:Int) + 1]
 generalize s.fil ri.kept "some" [(l:Int) + 1] = s0 at *
 rw [← n0] at a1 c1
 obtain ⟨τ1,p1,b1⟩:=X8 q0 o o1 hn d1 (by omega) (by omega) e1 a1 hi
 have n1:=G6 i (l:Int) ri s0
 have o_1:=o.ex (by omega) p1.ex
 have o1_1:=o1.ex (by omega) p1.ex
 have q2:=p1.rk.addG (w:= "all") (ns:=[s0.nx,(l:Int) + 1]) (3 * (Ak * Ak) + (Da i (l:Int) ri s0).gs.length) (.inr (.inl ⟨.inl rfl,λ x hx=>by
  rcases mem_cons.mp hx with e | e
  ·rw [e]; exact b1.low (by unfold Ak; omega) (by omega)
  ·rw [mS e]; exact G9 o_1 hn (by omega) (by unfold Ak; omega)⟩))
 have n2:=Af (Da i (l:Int) ri s0) "all" [s0.nx,(l:Int) + 1]
 have x2:∀ j,j < (Da i (l:Int) ri s0).gs.length→F9 τ1 (Da i (l:Int) ri s0).gs.length (3 * (Ak * Ak) + (Da i (l:Int) ri s0).gs.length) j = τ1 j:=λ j hj=>B8 hj
 have o_2:=o_1.ex (by omega) x2
 have o1_2:=o1_1.ex (by omega) x2
 have v2:F9 τ1 (Da i (l:Int) ri s0).gs.length (3 * (Ak * Ak) + (Da i (l:Int) ri s0).gs.length) (Da i (l:Int) ri s0).gs.length = 3 * (Ak * Ak) + (Da i (l:Int) ri s0).gs.length:=Ef
 generalize F9 τ1 (Da i (l:Int) ri s0).gs.length (3 * (Ak * Ak) + (Da i (l:Int) ri s0).gs.length) = τ2 at *
 have q3:=q2.filX (l1 + 2) (w:= "some") (ns:=[(l:Int) + 2,s0.nx + 4]) (.inr rfl) λ x hx=>by
  rw [o1_2.stays]
  rcases mem_cons.mp hx with e | e
  ·rw [e]; exact Ix o_2 hn (by omega) (by omega)
  ·rw [mS e,show s0.nx + 4 = (((Da i (l:Int) ri s0).gs.length:Nat):Int) by unfold Ws.nx; omega]
   exact Blw.at (by omega) (by omega) (by rw [v2]; unfold Ak; omega)
 rw [← Om l1,← t1] at q3
 have n3:=A8 ((Da i (l:Int) ri s0).add "all" [s0.nx,(l:Int) + 1]) ri.stays "some" [(l:Int) + 2,s0.nx + 4]
 have ex2:∀ j,j < s0.gs.length→τ2 j = τ j:=λ j hj=>(x2 j (by omega)).trans (p1.ex j hj)
 obtain ⟨τ4,p4,w4⟩:=Jb q3 (by omega) (ps:=ri.codes ++ [(1,s0.nx)]) λ p hp=>by
  rcases mem_append.mp hp with z | z
  ·exact (c1 p z).more (by omega) ex2
  ·rw [mS z]
   exact b1.more (by omega) x2
 have le4:=p4.le
 have ex4:∀ j,j < s0.gs.length→τ4 j = τ j:=λ j hj=>(p4.ex j (by omega)).trans (ex2 j hj)
 refine ⟨τ4,⟨⟨by show s.gs.length≤_; exact le_trans (by omega) le4,λ j hj=>ex4 j (by omega),?_⟩,o.ex (c:=s0.gs.length) (by omega) ex4,a1.more (by exact le_trans (by omega) le4) ex4,w4⟩⟩
 refine p4.rk.weak λ j z=>?_
 obtain ⟨⟨⟨z0,z1⟩,z2⟩,z3⟩:=z
 exact ⟨z0,by omega⟩
theorem Yj {n m:Nat} {op:Nat→Prop} {τ:Nat→Nat} {s:Ws} {l l1:Nat} {i:Int} {ri:Wr} (h:Rk n n m op τ s) (o:Op3 τ l) (o1:Op3 τ l1) (hn:n≤l) (d1:l + 3≤l1) (d2:l1 + 3≤s.gs.length) (hb:s.gs.length + 200≤1000000) (e1:ri.runs = l1) (k1:ri.kept = (l1:Int) + 1) (t1:ri.stays = (l1:Int) + 2) (a1:AB n τ s.gs.length ri.rests) (c1:∀ p∈ri.codes,CB n τ s.gs.length p.2) (hi:0≤i∧i < n):∃ τ',PO n m (op4 op l1) l τ s τ' (Sd i (l:Int) ((l:Int) + 1) ((l:Int) + 2) ri.rests ri (s.fil ri.kept "some" [(l:Int) + 1])):=by
 have q0:=h.filX (l1 + 1) (w:= "some") (ns:=[(l:Int) + 1]) (.inr rfl) λ x hx=>by
  rw [mS hx,o1.kept]
  exact G9 o hn (by omega) (by omega)
 rw [← M4,← k1] at q0
 have n0:=A8 s ri.kept "some" [(l:Int) + 1]
 generalize s.fil ri.kept "some" [(l:Int) + 1] = s0 at *
 rw [← n0] at a1 c1
 obtain ⟨τ1,p1,b1⟩:=X8 q0 o o1 hn d1 (by omega) (by omega) e1 a1 hi
 have n1:=G6 i (l:Int) ri s0
 have o_1:=o.ex (by omega) p1.ex
 have o1_1:=o1.ex (by omega) p1.ex
 have q3:=p1.rk.filX (l1 + 2) (w:= "some") (ns:=[(l:Int) + 2]) (.inr rfl) λ x hx=>by
  rw [mS hx,o1_1.stays]
  exact Ix o_1 hn (by omega) (by omega)
 rw [← Om l1,← t1] at q3
 have n3:=A8 (Da i (l:Int) ri s0) ri.stays "some" [(l:Int) + 2]
 obtain ⟨τ4,p4,w4⟩:=Jb q3 (by omega) (ps:=ri.codes ++ [(0,s0.nx)]) λ p hp=>by
  rcases mem_append.mp hp with z | z
  ·exact (c1 p z).more (by omega) p1.ex
  ·rw [mS z,n3]
   exact b1
 have le4:=p4.le
 have ex4:∀ j,j < s0.gs.length→τ4 j = τ j:=λ j hj=>(p4.ex j (by omega)).trans (p1.ex j hj)
 refine ⟨τ4,⟨⟨by show s.gs.length≤_; exact le_trans (by omega) le4,λ j hj=>ex4 j (by omega),?_⟩,o.ex (c:=s0.gs.length) (by omega) ex4,a1.more (by exact le_trans (by omega) le4) ex4,w4⟩⟩
 refine p4.rk.weak λ j z=>?_
 obtain ⟨⟨⟨z0,z1⟩,z2⟩,z3⟩:=z
 exact ⟨z0,by omega⟩
theorem RkE.weak {n lo m:Nat} {op op':Nat→Prop} {τ τ1:Nat→Nat} {s s1:Ws} (h:RkE n lo m op τ s τ1 s1) (ho:∀ j,op j→op' j):RkE n lo m op' τ s τ1 s1:=⟨h.le,h.ex,h.rk.weak ho⟩
theorem Ac1 {op:Nat→Prop} {l l1 l2:Nat} (j:Nat) (h:op6 (op3 (op3 (op3 op l) l1) l2) l1 l2 j):op3 op l j:=by
 obtain ⟨h0,h1,h2⟩:=h
 rcases h0 with (h0 | h0) | h0
 ·exact h0
 ·omega
 ·omega
theorem Acx {op:Nat→Prop} {l l1:Nat} (j:Nat) (h:op4 (op3 (op3 op l) l1) l1 j):op3 op l j:=by
 obtain ⟨h0,h1⟩:=h
 rcases h0 with h0 | h0
 ·exact h0
 ·omega
def Kr (n m:Nat) (p:Pt):Prop:=∀ (s:Ws) (τ:Nat→Nat) (op:Nat→Prop),(∀ k∈rsP p,0≤k∧k < m)→Rk n n m op τ s→n≤s.gs.length→s.gs.length + 50 * p.sz + 300≤1000000→∃ τ',PO n m (op3 op s.gs.length) s.gs.length τ s τ' (wireP p s)
theorem AcF (p:Pt):1≤p.sz:=by cases p <;> simp [Pt.sz]
theorem La {n m:Nat} {p p1 p2:Pt} (ok1:okN n p1) (ok2:okN n p2) (hs:Ko n p) (esz:p.sz = p1.sz + p2.sz + 1) (er:rsP p = rsP p2 ++ rsP p1) (ew:∀ s,wireP p s = Eb p s.nx (s.nx + 1) (s.nx + 2) (wireP p1 s.add3).1 (wireP p2 (wireP p1 s.add3).2).1 (wireP p2 (wireP p1 s.add3).2).2) (h1:Kr n m p1) (h2:Kr n m p2):Kr n m p:=by
 intro s τ op hr h hn hb
 rw [er] at hr
 obtain ⟨τ0,r0,o0⟩:=Ow h
 have l3:=G3 s
 obtain ⟨τ1,P1⟩:=h1 s.add3 τ0 _ (λ k hk=>hr k (mem_append_right _ hk)) r0.rk (by omega) (by omega)
 have w1:=B9 p1 s.add3 ok1
 have lo1:=Jd p1 s.add3 ok1
 have hi1:=w1.gr.hi
 obtain ⟨τ2,P2⟩:=h2 (wireP p1 s.add3).2 τ1 _ (λ k hk=>hr k (mem_append_left _ hk)) P1.e.rk (by omega) (by omega)
 have w2:=B9 p2 (wireP p1 s.add3).2 ok2
 have lo2:=Jd p2 (wireP p1 s.add3).2 ok2
 have hi2:=w2.gr.hi
 have P12:=P1.e.tr P2.e
 obtain ⟨τ3,P3⟩:=Zp (p:=p) P2.e.rk (o0.ex (by omega) P12.ex) (P1.o.ex (by omega) P2.e.ex) P2.o hn (by omega) lo1 lo2 (by omega) w1.runs w2.runs w1.kept w2.kept w1.stays w2.stays (P1.rests.more P2.e.le P2.e.ex) P2.rests w1.ko w2.ko (λ q hq=>(P1.codes q hq).more (le_refl _) P2.e.ex) P2.codes hs
 rw [ew]
 exact ⟨τ3,((r0.tr P12).tr P3.e).weak Ac1,P3.o,P3.rests,P3.codes⟩
theorem Il {n m:Nat} {p p1:Pt} (ok1:okN n p1) (hs:Ko n p) (rd:Ev p = true) (esz:p.sz = p1.sz + 1) (er:∀ k∈rsP p1,k∈rsP p) (ea:∀ k q,p = .again k q→k∈rsP p) (ew:∀ s,wireP p s = Cp s.nx (s.nx + 1) (s.nx + 2) (wireP p1 s.add3).1 (wireP p1 s.add3).2 p) (h1:Kr n m p1):Kr n m p:=by
 intro s τ op hr h hn hb
 obtain ⟨τ0,r0,o0⟩:=Ow h
 have l3:=G3 s
 obtain ⟨τ1,P1⟩:=h1 s.add3 τ0 _ (λ k hk=>hr k (er k hk)) r0.rk (by omega) (by omega)
 have w1:=B9 p1 s.add3 ok1
 have lo1:=Jd p1 s.add3 ok1
 have hi1:=w1.gr.hi
 have o1:=o0.ex (by omega) P1.e.ex
 rw [ew]
 have fin:∀ {w:Wr× Ws},(∃ τ',PO n m (op4 (op3 (op3 op s.gs.length) s.add3.gs.length) s.add3.gs.length) s.gs.length τ1 (wireP p1 s.add3).2 τ' w)→∃ τ',PO n m (op3 op s.gs.length) s.gs.length τ s τ' w:=λ ⟨τ3,P3⟩=>⟨τ3,((r0.tr P1.e).tr P3.e).weak Acx,P3.o,P3.rests,P3.codes⟩
 cases p with
 | trap q=>exact fin (AaC P1.e.rk o1 P1.o hn (by omega) lo1 w1.runs w1.kept w1.stays P1.rests P1.codes)
 | again k q=>exact fin (Xb P1.e.rk o1 P1.o hn (by omega) lo1 (by omega) w1.runs w1.kept w1.stays P1.rests w1.ko P1.codes (hr k (ea k q rfl)))
 | hold i q=>exact fin (Zq P1.e.rk o1 P1.o hn (by omega) lo1 (by omega) w1.runs w1.kept w1.stays P1.rests P1.codes hs)
 | watch i q=>exact fin (Yj P1.e.rk o1 P1.o hn (by omega) lo1 (by omega) w1.runs w1.kept w1.stays P1.rests P1.codes hs)
 | _=>cases rd
theorem Hw {n m:Nat} {p:Pt} (lf:K8 p = true) (ew:∀ s,wireP p s = Jq s.nx (s.nx + 1) (s.nx + 2) s.add3 p):Kr n m p:=by
 intro s τ op hr h hn hb
 obtain ⟨τ0,r0,o0⟩:=Ow h
 have l3:=G3 s
 have:=AcF p
 rw [ew]
 have fin:∀ {w:Wr× Ws} {s1:Ws},s1.gs = s.add3.gs→(∃ τ',PO n m (op3 op s.gs.length) s.gs.length τ0 s1 τ' w)→∃ τ',PO n m (op3 op s.gs.length) s.gs.length τ s τ' w:=λ e ⟨τ3,P3⟩=>⟨τ3,⟨by have:=r0.le; have:=P3.e.le; rw [e] at this; omega,λ j hj=>(P3.e.ex j (by rw [e]; omega)).trans (r0.ex j hj),P3.e.rk⟩,P3.o,P3.rests,P3.codes⟩
 have lfc:∀ (c:Int) (s1:Ws),s1.gs = s.add3.gs→∃ τ',PO n m (op3 op s.gs.length) s.gs.length τ s τ' (wLf c (s.gs.length:Int) ((s.gs.length:Int) + 1) ((s.gs.length:Int) + 2) s1):=λ c s1 e=>fin e (AcC c (r0.rk.gsq e) o0 hn (by rw [e]; omega))
 cases p with
 | rest k=>exact fin rfl (AaK r0.rk o0 hn (by omega) (by omega) (hr k mem_cons_self))
 | send i=>exact lfc _ _ rfl
 | exit d=>exact lfc _ _ rfl
 | nothing=>exact lfc _ _ rfl
 | stay ks=>exact lfc _ _ rfl
 | _=>cases lf
theorem Eg {n m:Nat}:∀ (p:Pt),okN n p→Kr n m p
 | .iff i p q,ok=>La ok.2.1 ok.2.2 ok.1 rfl rfl (λ _=>rfl) (Eg p ok.2.1) (Eg q ok.2.2)
 | .thn p q,ok=>La ok.1 ok.2 trivial rfl rfl (λ _=>rfl) (Eg p ok.1) (Eg q ok.2)
 | .bes p q,ok=>La ok.1 ok.2 trivial rfl rfl (λ _=>rfl) (Eg p ok.1) (Eg q ok.2)
 | .again k p,ok=>Il (p1:=p) ok trivial rfl rfl (λ k hk=>mem_cons_of_mem _ hk) (λ k q e=>by cases e; exact mem_cons_self) (λ _=>rfl) (Eg p ok)
 | .hold i p,ok=>Il (p1:=p) ok.2 ok.1 rfl rfl (λ k hk=>hk) (λ k q e=>nomatch e) (λ _=>rfl) (Eg p ok.2)
 | .watch i p,ok=>Il (p1:=p) ok.2 ok.1 rfl rfl (λ k hk=>hk) (λ k q e=>nomatch e) (λ _=>rfl) (Eg p ok.2)
 | .trap p,ok=>Il (p1:=p) ok trivial rfl rfl (λ k hk=>hk) (λ k q e=>nomatch e) (λ _=>rfl) (Eg p ok)
 | .nothing,_=>Hw rfl λ _=>rfl
 | .rest _,_=>Hw rfl λ _=>rfl
 | .send _,_=>Hw rfl λ _=>rfl
 | .exit _,_=>Hw rfl λ _=>rfl
 | .stay _,_=>Hw rfl λ _=>rfl
structure SL (s:Ws):Prop where
 sn:∀ r∈s.sn,∀ x∈r,0≤x∧x < s.nx
 lv:∀ p∈s.lv,0≤p.2∧p.2 < s.nx
theorem SL.more {s s':Ws} (h:SL s) (l:s.gs.length≤s'.gs.length) (e1:s'.sn = s.sn) (e2:s'.lv = s.lv):SL s':=by
 refine ⟨λ r hr x hx=>?_,λ p hp=>?_⟩
 ·rw [e1] at hr
  have:=h.sn r hr x hx
  unfold Ws.nx at *
  omega
 ·rw [e2] at hp
  have:=h.lv p hp
  unfold Ws.nx at *
  omega
theorem AaO {l:Cd} {k v:Int} {p:Int× Int} (h:p∈Hy l k v):p∈l∨p.2 = v:=by
 unfold Hy at h
 split at h
 ·obtain ⟨q,hq,e⟩:=mem_map.mp h
  split at e
  ·exact .inr (by rw [← e])
  ·exact .inl (by rw [← e]; exact hq)
 ·rcases mem_append.mp h with z | z
  ·exact .inl z
  ·exact .inr (by rw [mS z])
theorem SL.lvg {s:Ws} (h:SL s) (k y z m c:Int):SL (s.lvg k y z m c):=by
 have e:(s.lvg k y z m c).gs.length = s.gs.length + 3:=by
  show (((s.add "all" [c,y]).add "all" [m,z]).add "some" [s.nx,s.nx + 1]).gs.length = _
  rw [Af,Af,Af]
 refine ⟨λ r hr x hx=>?_,λ p hp=>?_⟩
 ·have:=h.sn r hr x hx
  unfold Ws.nx at *
  omega
 ·rcases AaO hp with z | z
  ·have:=h.lv p z
   unfold Ws.nx at *
   omega
  ·rw [z]
   unfold Ws.nx
   omega
theorem Z6 (x y z rr:Int) (r1 r2:Wr) (s:Ws):(wThen x y z rr r1 r2 s).2.sn = s.sn:=by
 unfold wThen
 dsimp only
 rw [Ht]
 exact (Kd _ _ _).1
theorem AcS (x y z rr sg:Int) (r1 r2:Wr) (s:Ws):(wIf x y z rr sg r1 r2 s).2.sn = s.sn:=by
 unfold wIf
 dsimp only
 rw [Ht]
 rfl
theorem Abo (x y z rr:Int) (r1 r2:Wr) (s:Ws):(wBes x y z rr r1 r2 s).2.sn = s.sn:=by
 unfold wBes
 dsimp only
 rw [(Oc _ _ _).1]
 have st:∀ (a:List Cd× Ws) (it:Wr× Wr),(Ey x a it).2.sn = a.2.sn:=λ a it=>(Ht _ _)
 show (Ey x (Ey x ([],s) (r1,r2)) (r2,r1)).2.sn = s.sn
 rw [st,st]
theorem Zo (p:Pt) (x y z:Int) (r1 r2:Wr) (s:Ws):(Eb p x y z r1 r2 s).2.sn = s.sn:=by
 have key:∀ (b:Wr× Ws× List Int),([r1,r2].foldl (pfS b.2.2 z) b.2.1).sn = b.2.1.sn:=λ b=>rfl
 show ([r1,r2].foldl (pfS (Hs p x y z r1 r2 s).2.2 z) (Hs p x y z r1 r2 s).2.1).sn = s.sn
 rw [key]
 have bes:(cgt (wBes x y z s.nx r1 r2 (s.add "some" [r1.rests,r2.rests])).1.codes 1 (wBes x y z s.nx r1 r2 (s.add "some" [r1.rests,r2.rests])).2).2.sn = s.sn:=(Kd _ _ _).1.trans (Abo _ _ _ _ _ _ _)
 cases p with
 | thn p q=>exact Z6 x y z s.nx r1 r2 (s.add "some" [r1.rests,r2.rests])
 | iff i p q=>exact AcS x y z s.nx i r1 r2 (s.add "some" [r1.rests,r2.rests])
 | _=>exact bes
theorem V5 {x y z:Int} {ri:Wr} {s:Ws} {p:Pt} (rd:Ev p = true) (ko:KO ri.codes) (h:SL s):SL (Cp x y z ri s p).2:=by
 have lo:=(Lv (p:=p) x y z s rd ko).gr.lo
 cases p with
 | trap q=>exact h.more lo (Ht _ _) (Ee _ _)
 | hold i q=>exact h.more lo (Ht _ _) (Ee _ _)
 | watch i q=>exact h.more lo (Ht _ _) (Ee _ _)
 | again k q =>
  have e:(Cp x y z ri s (.again k q)).2 = (cgt ri.codes 0 (((((Cs x y z ri s).add "memory" [k]).add "some" [(Cs x y z ri s).nx,ri.rests]).jnd (ri.codes.map λ p=>(agC p.1,p.2))).2)).2.lvg k y z (Cs x y z ri s).nx (cgt ri.codes 0 (((((Cs x y z ri s).add "memory" [k]).add "some" [(Cs x y z ri s).nx,ri.rests]).jnd (ri.codes.map λ p=>(agC p.1,p.2))).2)).1:=rfl
  rw [e]
  apply SL.lvg
  refine h.more ?_ ((Kd _ _ _).1.trans (Ht _ _)) ((Kd _ _ _).2.trans (Ee _ _))
  have h1:=(De ri.codes 0 ((((Cs x y z ri s).add "memory" [k]).add "some" [(Cs x y z ri s).nx,ri.rests]).jnd (ri.codes.map λ p=>(agC p.1,p.2))).2).1
  have h2:=K9 (((Cs x y z ri s).add "memory" [k]).add "some" [(Cs x y z ri s).nx,ri.rests]) (ri.codes.map λ p=>(agC p.1,p.2))
  rw [Af,Af,M6] at h2
  omega
 | _=>cases rd
theorem Abd {n:Nat}:∀ (p:Pt) (s:Ws),okN n p→SL s→SL (wireP p s).2:=by
 have a3:∀ (s:Ws),SL s→SL s.add3:=λ s h=>h.more (by rw [G3]; omega) rfl rfl
 have pair:∀ (p p1 p2:Pt) (s:Ws),okN n p1→okN n p2→(∀ s,SL s→SL (wireP p1 s).2)→(∀ s,SL s→SL (wireP p2 s).2)→SL s→SL (Eb p s.nx (s.nx + 1) (s.nx + 2) (wireP p1 s.add3).1 (wireP p2 (wireP p1 s.add3).2).1 (wireP p2 (wireP p1 s.add3).2).2).2:=λ p p1 p2 s o1 o2 h1 h2 h=>by
  have w1:=B9 p1 s.add3 o1
  have w2:=B9 p2 (wireP p1 s.add3).2 o2
  exact (h2 _ (h1 _ (a3 s h))).more (Mq (p:=p) s.nx (s.nx + 1) (s.nx + 2) (wireP p2 (wireP p1 s.add3).2).2 w1.ko w2.ko).gr.lo (Zo _ _ _ _ _ _ _) (Q2 _ _ _ _ _ _ _)
 have round:∀ (p p1:Pt) (s:Ws),Ev p = true→okN n p1→(∀ s,SL s→SL (wireP p1 s).2)→SL s→SL (Cp s.nx (s.nx + 1) (s.nx + 2) (wireP p1 s.add3).1 (wireP p1 s.add3).2 p).2:=λ p p1 s rd o1 h1 h=>V5 rd (B9 p1 s.add3 o1).ko (h1 _ (a3 s h))
 have lf:∀ (c x y z:Int) (s:Ws),SL s→SL (wLf c x y z s).2:=λ c x y z s h=>h.more (by show s.gs.length≤(s.add "some" []).gs.length; rw [Af]; omega) rfl rfl
 intro p
 induction p with
 | iff i p q ihp ihq=>exact λ s ok h=>pair _ p q s ok.2.1 ok.2.2 (λ s=>ihp s ok.2.1) (λ s=>ihq s ok.2.2) h
 | thn p q ihp ihq=>exact λ s ok h=>pair _ p q s ok.1 ok.2 (λ s=>ihp s ok.1) (λ s=>ihq s ok.2) h
 | bes p q ihp ihq=>exact λ s ok h=>pair _ p q s ok.1 ok.2 (λ s=>ihp s ok.1) (λ s=>ihq s ok.2) h
 | again j p ih=>exact λ s ok h=>round _ p s rfl ok (λ s=>ih s ok) h
 | hold i p ih=>exact λ s ok h=>round _ p s rfl ok.2 (λ s=>ih s ok.2) h
 | watch i p ih=>exact λ s ok h=>round _ p s rfl ok.2 (λ s=>ih s ok.2) h
 | trap p ih=>exact λ s ok h=>round _ p s rfl ok (λ s=>ih s ok) h
 | rest j =>
  intro s ok h
  have e:(wireP (.rest j) s).2 = ((((s.add3.add "memory" [j]).add "not" [s.add3.nx]).add "all" [s.nx,s.add3.nx + 1]).add "all" [s.nx,s.add3.nx]).lvg j (s.nx + 1) (s.nx + 2) s.add3.nx (s.add3.nx + 2):=rfl
  rw [e]
  apply SL.lvg
  refine (a3 s h).more ?_ rfl rfl
  rw [Af,Af,Af,Af]
  omega
 | nothing=>exact λ s ok h=>lf _ _ _ _ _ (a3 s h)
 | exit d=>exact λ s ok h=>lf _ _ _ _ _ (a3 s h)
 | stay ks=>exact λ s ok h=>lf _ _ _ _ _ (a3 s h)
 | send i =>
  intro s ok h
  have h3:=a3 s h
  have l3:=G3 s
  refine lf 0 _ _ _ (s.add3.sen i s.nx) ⟨λ r hr x hx=>?_,h3.lv⟩
  have nx3:(s.add3.sen i s.nx).nx = (s.add3.gs.length:Int):=rfl
  rw [nx3]
  have old:∀ r∈s.add3.sn,∀ x∈r,0≤x∧x < (s.add3.gs.length:Int):=h3.sn
  rcases List.mem_or_eq_of_mem_set hr with z | z
  ·exact old r z x hx
  ·rw [z] at hx
   rcases mem_append.mp hx with y | y
   ·rw [getD_eq_getElem?_getD] at y
    cases e:s.add3.sn[i.toNat]? with
    | none=>rw [e] at y; exact absurd y (by simp)
    | some r'=>rw [e] at y; exact old r' (mem_of_getElem? e) x y
   ·rw [mS y]
    unfold Ws.nx
    omega
def FmG (n m c:Nat) (g:Gw):Prop:=(g.1 = "start" ∧ g.2 = [])∨(g.1 = "memory" ∧ ∃ k:Int,g.2 = [k]∧0≤k∧k < m)∨(g.1 = "given" ∧ ∃ k:Int,g.2 = [k]∧0≤k∧k < n)∨((g.1 = "all" ∨ g.1 = "some" ∨ (g.1 = "not" ∧ g.2.length = 1))∧∀ x∈g.2,0≤x∧x < c)
theorem FmG.more {n m c c':Nat} {g:Gw} (h:FmG n m c g) (hc:c≤c'):FmG n m c' g:=by
 rcases h with h | h | h | ⟨h1,h2⟩
 ·exact .inl h
 ·exact .inr (.inl h)
 ·exact .inr (.inr (.inl h))
 ·exact .inr (.inr (.inr ⟨h1,λ x hx=>by have:=h2 x hx; omega⟩))
def Vk (w:Str):Prop:=w = "not" ∨ w = "all" ∨ w = "some"
structure NR (n m:Nat) (τ:Nat→Nat) (i:Nat) (s:Ws):Prop where
 gt:∀ (j:Nat) (g:Gw),s.gs[j]? = some g→(j < n∧i≤j)∨(FmG n m s.gs.length g∧(n≤j→Vk g.1→∀ x∈g.2,x < n∨τ x.toNat < τ j))
theorem NR.addN {n m:Nat} {τ:Nat→Nat} {i:Nat} {s:Ws} (h:NR n m τ i s) {w:Str} {ns:List Int} (hf:FmG n m s.gs.length (w,ns)) (hw:Vk w→ns = []):NR n m τ i (s.add w ns):=by
 refine ⟨λ j g e=>?_⟩
 rw [Af]
 have e:(s.gs ++ [(w,ns)])[j]? = some g:=e
 rcases lt_or_ge j s.gs.length with hl | hl
 ·rw [getElem?_append_left hl] at e
  rcases h.gt j g e with a | ⟨a,b⟩
  ·exact .inl a
  ·exact .inr ⟨a.more (le_succ _),b⟩
 ·have hje:j = s.gs.length:=by
   have:=(List.getElem?_eq_some_iff.mp e).1
   rw [length_append,length_singleton] at this
   omega
  subst hje
  rw [getElem?_append_right (le_refl _),sub_self] at e
  cases e
  refine .inr ⟨hf.more (le_succ _),λ _ o x hx=>?_⟩
  rw [hw o] at hx
  cases hx
theorem NR.filS {n m:Nat} {τ:Nat→Nat} {i:Nat} {s:Ws} (h:NR n m τ i s) (hi:i < n) {ns:List Int} (hx:∀ x∈ns,0≤x∧x < s.nx):NR n m τ (i + 1) (s.fil (i:Int) "some" ns):=by
 refine ⟨λ j g e=>?_⟩
 rw [A8]
 have e:(s.gs.set (i:Int).toNat ("some", ns))[j]? = some g:=e
 rw [Int.toNat_natCast,getElem?_set] at e
 by_cases hij:i = j
 ·subst hij
  rw [if_pos rfl] at e
  split at e
  ·cases e
   exact .inr ⟨.inr (.inr (.inr ⟨.inr (.inl rfl),hx⟩)),λ hn=>absurd hn (by omega)⟩
  ·cases e
 ·rw [if_neg hij] at e
  rcases h.gt j g e with ⟨a,b⟩ | a
  ·exact .inl ⟨a,by omega⟩
  ·exact .inr a
theorem NR.sg {n m:Nat} {τ:Nat→Nat} {i:Nat} {s:Ws} (h:NR n m τ i s) (hi:i < n) (hs:SL s):NR n m τ (i + 1) (C7 s i):=by
 have a:=h.addN (w:= "given") (ns:=[(i:Int)]) (.inr (.inr (.inl ⟨Z,(i:Int),Z,by omega,by omega⟩))) λ o=>by rcases o with o | o | o <;> exact absurd o (by decide +kernel)
 refine a.filS hi λ x hx=>?_
 have nx1:=Az s "given" [(i:Int)]
 rw [nx1]
 rcases mem_cons.mp hx with z | z
 ·rw [z]; unfold Ws.nx; omega
 ·rw [getD_eq_getElem?_getD] at z
  cases e:s.sn[i]? with
  | none=>rw [e] at z; exact absurd z (by simp)
  | some r =>
   rw [e] at z
   have:=hs.sn r (mem_of_getElem? e) x z
   omega
theorem SL.sg {s:Ws} (h:SL s) (i:Nat):SL (C7 s i):=h.more (Gr.sg s i).lo rfl rfl
theorem NR.sgs {n m:Nat} {τ:Nat→Nat} {s:Ws} (h:NR n m τ 0 s) (hs:SL s):∀ i,i≤n→NR n m τ i ((List.range i).foldl C7 s)∧SL ((List.range i).foldl C7 s)
 | 0,_=>⟨h,hs⟩
 | i + 1,hi=>by
  obtain ⟨a,b⟩:=NR.sgs h hs i (by omega)
  rw [range_succ,foldl_append]
  exact ⟨a.sg (by omega) b,b.sg i⟩
theorem NR.cg {n m:Nat} {τ:Nat→Nat} {i:Nat} {s:Ws} (h:NR n m τ i s) (cs:Cd) (c:Int) (hc:∀ p∈cs,0≤p.2∧p.2 < s.nx):NR n m τ i (cgt cs c s).2∧0≤(cgt cs c s).1∧(cgt cs c s).1 < (cgt cs c s).2.nx:=by
 unfold cgt
 split
 ·rename_i g e
  obtain ⟨p,hp,ep⟩:=F4 e
  rw [← ep]
  exact ⟨h,hc p hp⟩
 ·have e:s.som [] = (s.nx,s.add "some" []):=rfl
  rw [e]
  refine ⟨h.addN (.inr (.inr (.inr ⟨.inr (.inl rfl),λ x hx=>nomatch hx⟩))) λ _=>rfl,?_⟩
  show 0≤s.nx∧s.nx < (s.add "some" []).nx
  rw [Az]
  unfold Ws.nx
  omega
structure AdQ (n m:Nat) (p:Pt) (τ:Nat→Nat):Prop where
 nr:NR n m τ n (Ej n p).2
 e0:0≤(Dx n p).1∧(Dx n p).1 < (Ej n p).2.nx
 e1:0≤(Ej n p).1∧(Ej n p).1 < (Ej n p).2.nx
 lv:∀ k∈rsP p,∃ g,(wireP p (ws0 n)).2.lv.lookup k = some g∧0≤g∧g < (Ej n p).2.nx
 hi:(Ej n p).2.gs.length≤100 * (p.sz + n + 1)
 lo:n≤(Ej n p).2.gs.length
theorem Abt {n m:Nat} {p:Pt} (ok:okN n p) (hr:∀ k∈rsP p,0≤k∧k < m) (hb:n + 50 * p.sz + 1000≤1000000):∃ τ,AdQ n m p τ:=by
 have l0:(ws0 n).gs.length = n:=length_replicate
 have R0:Rk n n m (λ _=>False) (λ _=>0) (ws0 n):=⟨λ j g hj _ e=>by
  have:=(List.getElem?_eq_some_iff.mp e).1
  omega⟩
 obtain ⟨τ1,P1⟩:=Eg p ok (ws0 n) (λ _=>0) (λ _=>False) hr R0 (by omega) (by omega)
 rw [l0] at P1
 have wk:=B9 p (ws0 n) ok
 have lo1:=Jd p (ws0 n) ok
 have hi1:=wk.gr.hi
 rw [l0] at lo1 hi1
 have nx0:(ws0 n).nx = (n:Int):=by unfold Ws.nx; rw [l0]
 have er:=wk.runs
 have ek:=wk.kept
 have es:=wk.stays
 rw [nx0] at er ek es
 have S1:=Abd p (ws0 n) ok ⟨λ r hr x hx=>(by rw [eq_of_mem_replicate hr] at hx; cases hx),λ p hp=>nomatch hp⟩
 have hco:∀ q∈(wireP p (ws0 n)).1.codes,0≤q.2∧q.2 < (wireP p (ws0 n)).2.nx:=λ q hq=>by
  have:=P1.codes q hq
  unfold CB at this
  unfold Ws.nx
  omega
 have rlv:∀ k∈rsP p,∃ g,(wireP p (ws0 n)).2.lv.lookup k = some g∧0≤g∧g < (wireP p (ws0 n)).2.nx:=λ k hk=>by
  obtain ⟨g,hg⟩:=(Yq p (ws0 n) ok k).mpr (.inr hk)
  obtain ⟨q,hq,eq⟩:=F4 hg
  refine ⟨g,hg,?_⟩
  rw [← eq]
  exact S1.lv q hq
 have W:=P1.e.rk.weak (op':=λ j=>op3 (λ _=>False) n j∨j = (wireP p (ws0 n)).2.gs.length) λ j z=>.inl z
 have a1:=W.addG (w:= "start") (ns:=[]) 0 (.inl (.inr rfl))
 have n1:=Af (wireP p (ws0 n)).2 "start" []
 have x1:∀ j,j < (wireP p (ws0 n)).2.gs.length→F9 τ1 (wireP p (ws0 n)).2.gs.length 0 j = τ1 j:=λ j hj=>B8 hj
 have v1:F9 τ1 (wireP p (ws0 n)).2.gs.length 0 (wireP p (ws0 n)).2.gs.length = 0:=Ef
 have o1:=P1.o.ex (by omega) x1
 have ar:=P1.rests.more (by omega:_≤((wireP p (ws0 n)).2.add "start" []).gs.length) x1
 generalize F9 τ1 (wireP p (ws0 n)).2.gs.length 0 = τ2 at *
 have b1:=a1.filX n (w:= "some") (ns:=[(wireP p (ws0 n)).2.nx,(wireP p (ws0 n)).1.rests]) (.inr rfl) λ x hx=>by
  rw [o1.runs]
  rcases mem_cons.mp hx with e | e
  ·rw [e]; exact Blw.at (by omega) (by omega) (by rw [v1]; unfold Ak; omega)
  ·rw [mS e]; exact ar.blw (by unfold Ak; omega)
 rw [← er] at b1
 have n2:=A8 ((wireP p (ws0 n)).2.add "start" []) (wireP p (ws0 n)).1.runs "some" [(wireP p (ws0 n)).2.nx,(wireP p (ws0 n)).1.rests]
 have b2:=b1.filX (n + 1) (w:= "all") (ns:=[]) (.inl rfl) λ x hx=>nomatch hx
 rw [← M4,← ek] at b2
 have b3:=b2.filX (n + 2) (w:= "some") (ns:=[]) (.inr rfl) λ x hx=>nomatch hx
 rw [← Om,← es] at b3
 have b4:Rk n n m (λ j=>j = (wireP p (ws0 n)).2.gs.length) τ2 (net3 n p):=b3.weak λ j z=>by
  obtain ⟨⟨⟨z0,z1⟩,z2⟩,z3⟩:=z
  rcases z0 with z0 | z0
  ·rcases z0 with z0 | z0
   ·exact absurd z0 id
   ·omega
  ·exact z0
 have n3:(net3 n p).gs.length = (wireP p (ws0 n)).2.gs.length + 1:=by unfold net3; rw [A8,A8,A8,Af]
 have st:∀ g,(net3 n p).gs[(wireP p (ws0 n)).2.gs.length]? = some g→g = (("start" : Str),([]:List Int)):=λ g e=>by
  have e:(((((wireP p (ws0 n)).2.gs ++ [(("start" : Str),([]:List Int))]).set (wireP p (ws0 n)).1.runs.toNat _).set (wireP p (ws0 n)).1.kept.toNat _).set (wireP p (ws0 n)).1.stays.toNat _)[(wireP p (ws0 n)).2.gs.length]? = some g:=e
  rw [getElem?_set_ne (by rw [es]; omega),getElem?_set_ne (by rw [ek]; omega),getElem?_set_ne (by rw [er]; omega),getElem?_append_right (le_refl _),sub_self] at e
  cases e
  rfl
 have N3:NR n m τ2 0 (net3 n p):=⟨λ j g e=>by
  rcases lt_or_ge j n with hj | hj
  ·exact .inl ⟨hj,zero_le _⟩
  by_cases hs:j = (wireP p (ws0 n)).2.gs.length
  ·rw [hs] at e
   rw [st g e]
   exact .inr ⟨.inl ⟨rfl,rfl⟩,λ _ _ x hx=>nomatch hx⟩
  ·rcases b4.rk j g hj hs e with ⟨w1,w2⟩ | w
   ·refine .inr ⟨.inr (.inr (.inr ⟨w1,λ x hx=>?_⟩)),λ _ _ x hx=>?_⟩
    ·obtain ⟨h0,h1 | h1⟩:=w2 x hx
     ·omega
     ·omega
    ·obtain ⟨h0,h1 | h1⟩:=w2 x hx
     ·exact .inl h1
     ·exact .inr h1.2.2
   ·refine .inr ⟨.inr (.inl w),λ _ o=>?_⟩
    rw [w.1] at o
    rcases o with o | o | o <;> exact absurd o (by decide +kernel)⟩
 have S3:SL (net3 n p):=S1.more (by omega) rfl rfl
 obtain ⟨N4,S4⟩:=N3.sgs S3 n (le_refl _)
 have N4:NR n m τ2 n (E6 n p):=N4
 have sl:=Qq (net3 n p) (List.range n)
 rw [length_range] at sl
 have n4:(E6 n p).gs.length = (net3 n p).gs.length + n:=sl.2.2
 have hc4:∀ q∈(wireP p (ws0 n)).1.codes,0≤q.2∧q.2 < (E6 n p).nx:=λ q hq=>by
  have:=hco q hq
  unfold Ws.nx at *
  omega
 obtain ⟨N5,f5⟩:=N4.cg (wireP p (ws0 n)).1.codes 0 hc4
 have n5:=De (wireP p (ws0 n)).1.codes 0 (E6 n p)
 obtain ⟨N6,f6⟩:=NR.cg (s:=(Dx n p).2) N5 (wireP p (ws0 n)).1.codes 1 λ q hq=>by
  have:=hc4 q hq
  unfold Ws.nx at *
  have:(Dx n p).2.gs.length = (cgt (wireP p (ws0 n)).1.codes 0 (E6 n p)).2.gs.length:=rfl
  omega
 have n6:=De (wireP p (ws0 n)).1.codes 1 (Dx n p).2
 have q5:(Dx n p).2.gs.length = (cgt (wireP p (ws0 n)).1.codes 0 (E6 n p)).2.gs.length:=rfl
 have q6:(Ej n p).2.gs.length = (cgt (wireP p (ws0 n)).1.codes 1 (Dx n p).2).2.gs.length:=rfl
 refine ⟨τ2,N6,⟨f5.1,?_⟩,f6,λ k hk=>?_,?_,?_⟩
 ·have:(Dx n p).1 < (Dx n p).2.nx:=f5.2
  unfold Ws.nx at *
  omega
 ·obtain ⟨g,hg,h0,h1⟩:=rlv k hk
  refine ⟨g,hg,h0,?_⟩
  unfold Ws.nx at *
  omega
 ·omega
 ·omega
abbrev Ed:=List (Nat× Nat)
def cameE (E:Ed) (x:Nat):List Nat:=(E.filter λ e=>decide (e.1 = x)).map (·.2)
def leftE (E:Ed) (j:Nat):Nat:=(E.filter λ e=>decide (e.2 = j)).length
def Ks (E:Ed) (P:List Nat):Ed:=E.filter λ e=>decide (e.1∉P)
theorem Nz (e:Nat× Nat) (E:Ed) (y:Nat):cameE (e :: E) y = (if e.1 = y then [e.2] else []) ++ cameE E y:=by
 unfold cameE
 rw [filter_cons]
 by_cases h:e.1 = y <;> simp [h]
theorem Ym (E F:Ed) (y:Nat):cameE (E ++ F) y = cameE E y ++ cameE F y:=by unfold cameE; rw [filter_append,map_append]
theorem U8 (E:Ed) (x j y:Nat):cameE (E ++ [(x,j)]) y = if x = y then cameE E y ++ [j] else cameE E y:=by
 rw [Ym,Nz]
 show _ ++ ((if x = y then [j] else []) ++ []) = _
 by_cases h:x = y <;> simp [h]
theorem Nb (e:Nat× Nat) (E:Ed) (j:Nat):leftE (e :: E) j = (if e.2 = j then 1 else 0) + leftE E j:=by
 unfold leftE
 rw [filter_cons]
 by_cases h:e.2 = j
 ·simp [h]; omega
 ·simp [h]
theorem Lk (E F:Ed) (j:Nat):leftE (E ++ F) j = leftE E j + leftE F j:=by unfold leftE; rw [filter_append,length_append]
theorem Vy (E:Ed) (x j i:Nat):leftE (E ++ [(x,j)]) i = if j = i then leftE E i + 1 else leftE E i:=by
 rw [Lk,Nb]
 show _ + ((if j = i then 1 else 0) + 0) = _
 by_cases h:j = i <;> simp [h]
theorem L1 (e:Nat× Nat) (E:Ed) (P:List Nat):Ks (e :: E) P = (if e.1∈P then [] else [e]) ++ Ks E P:=by
 unfold Ks
 rw [filter_cons]
 by_cases h:e.1∈P <;> simp [h]
theorem AaV (E:Ed):Ks E [] = E:=by
 induction E with
 | nil=>rfl
 | cons e E ih=>rw [L1,ih,if_neg (λ z=>nomatch z)]; rfl
theorem Zc (E:Ed) {P:List Nat} {u:Nat} (hu:u∉P) (j:Nat):leftE (Ks E P) j = leftE (Ks E (P ++ [u])) j + (cameE E u).count j:=by
 induction E with
 | nil=>rfl
 | cons e E ih =>
  rw [L1,L1,Lk,Lk,ih,Nz,List.count_append]
  by_cases h1:e.1∈P
  ·have h2:¬ e.1 = u:=λ z=>hu (z ▸ h1)
   rw [if_pos h1,if_pos (mem_append_left _ h1),if_neg h2]
   show 0 + _ = 0 + _ + (0 + _)
   omega
  ·by_cases h2:e.1 = u
   ·rw [if_neg h1,if_pos (mem_append_right _ (by rw [h2]; exact mem_cons_self)),if_pos h2,Nb,List.count_singleton]
    show _ = 0 + _ + _
    by_cases h3:e.2 = j
    ·simp [h3,leftE]; omega
    ·have:¬ (e.2 == j) = true:=by simpa using h3
     rw [if_neg h3,if_neg this]
     simp [leftE]
   ·rw [if_neg h1,if_neg (λ z=>(mem_append.mp z).elim h1 λ z=>h2 (mS z)),if_neg h2]
    show _ = _ + (0 + _)
    omega
structure KI (E:Ed) (c:Nat) (P cs row:List Nat) (f:Nat→Nat):Prop where
 nd:row.Nodup
 lt:∀ j∈row,j < c
 z:∀ j,j < c→(j∈row↔f j = 0)
 lf:∀ j,f j = leftE (Ks E P) j + cs.count j
 pre:∃ r,row = P ++ r
def Gy (f:Nat→Nat) (o v:Nat):Nat→Nat:=λ j=>if j = o then v else f j
theorem Me (f:Nat→Nat) (o v:Nat):Gy f o v o = v:=if_pos rfl
theorem O2 (f:Nat→Nat) {o v j:Nat} (h:¬ j = o):Gy f o v j = f j:=if_neg h
theorem KI.pos {E:Ed} {c o:Nat} {P cs row:List Nat} {f:Nat→Nat} (k:KI E c P (o :: cs) row f):1≤f o:=by
 rw [k.lf,List.count_cons_self]
 omega
theorem KI.step {E:Ed} {c o:Nat} {P cs row:List Nat} {f:Nat→Nat} (k:KI E c P (o :: cs) row f) (ho:o < c):KI E c P cs (if f o - 1 = 0 then row ++ [o] else row) (Gy f o (f o - 1)):=by
 have hp:=k.pos
 have no:o∉row:=λ h=>by have:=(k.z o ho).mp h; omega
 have hl:∀ j,Gy f o (f o - 1) j = leftE (Ks E P) j + cs.count j:=λ j=>by
  by_cases h:j = o
  ·rw [h,Me,k.lf,List.count_cons_self]; omega
  ·rw [O2 f h,k.lf,List.count_cons_of_ne (λ z=>h z.symm)]
 obtain ⟨r,hr⟩:=k.pre
 split
 ·rename_i e
  refine ⟨nodup_append.mpr ⟨k.nd,nodup_cons.mpr ⟨λ z=>(nomatch z),nodup_nil⟩,λ a ha b hb e=>?_⟩,λ j hj=>?_,λ j hj=>?_,hl,r ++ [o],by rw [hr,append_assoc]⟩
  ·rw [mS hb] at e; rw [e] at ha; exact no ha
  ·rcases mem_append.mp hj with h | h
   ·exact k.lt j h
   ·rw [mS h]; exact ho
  ·by_cases h:j = o
   ·rw [h,Me]
    exact ⟨λ _=>e,λ _=>mem_append_right _ mem_cons_self⟩
   ·rw [O2 f h,← k.z j hj]
    exact ⟨λ z=>(mem_append.mp z).elim id λ z=>absurd (mS z) h,λ z=>mem_append_left _ z⟩
 ·rename_i e
  refine ⟨k.nd,k.lt,λ j hj=>?_,hl,r,hr⟩
  by_cases h:j = o
  ·rw [h,Me]
   exact ⟨λ z=>absurd z no,λ z=>absurd z e⟩
  ·rw [O2 f h]; exact k.z j hj
theorem KI.next {E:Ed} {c u:Nat} {P row r:List Nat} {f:Nat→Nat} (k:KI E c P [] row f) (e:row = P ++ u :: r):KI E c (P ++ [u]) (cameE E u) row f:=by
 refine ⟨k.nd,k.lt,k.z,λ j=>?_,r,by rw [e,append_assoc]; rfl⟩
 have hu:u∉P:=λ z=>by
  have:=k.nd
  rw [e,nodup_append] at this
  exact this.2.2 u z u mem_cons_self rfl
 rw [k.lf,← Zc E hu]
 rfl
theorem L3:∀ {l U:List Nat},l.Nodup→(∀ x∈l,x∈U)→l.length≤U.length
 | [],U,_,_=>zero_le _
 | a :: l,U,hn,hs=>by
  have ha:=hs a mem_cons_self
  obtain ⟨h1,h2⟩:=nodup_cons.mp hn
  have h3:=L3 (l:=l) (U:=U.erase a) h2 (λ x hx=>(List.mem_erase_of_ne (λ (z:x = a)=>h1 (z ▸ hx))).mpr (hs x (mem_cons_of_mem _ hx)))
  rw [List.length_erase_of_mem ha] at h3
  have:=List.length_pos_of_mem ha
  rw [length_cons]
  omega
theorem KI.full {E:Ed} {c:Nat} {row:List Nat} {f τ:Nat→Nat} (k:KI E c row [] row f) (he:∀ e∈E,e.1 < c∧τ e.1 < τ e.2):c≤row.length:=by
 have all:∀ v j,j < c→τ j < v→j∈row:=by
  intro v
  induction v with
  | zero=>intro j _ h; omega
  | succ v ih =>
   intro j hj hv
   rw [k.z j hj,k.lf]
   show leftE (Ks E row) j + 0 = 0
   unfold leftE
   rw [Nat.add_zero,length_eq_zero_iff,List.filter_eq_nil_iff]
   intro e hm hd
   have ej:e.2 = j:=of_decide_eq_true hd
   obtain ⟨hE,hn⟩:=mem_filter.mp hm
   have hn:e.1∉row:=of_decide_eq_true hn
   obtain ⟨h1,h2⟩:=he e hE
   exact hn (ih e.1 h1 (by rw [ej] at h2; omega))
 have:=L3 (List.nodup_range (n:=c)) (λ x hx=>all (τ x + 1) x (mem_range.mp hx) (lt_succ_self _))
 rwa [length_range] at this
theorem KI.init (E:Ed) (c:Nat):KI E c [] [] ((List.range c).filter λ j=>decide (leftE E j = 0)) (leftE E) where
 nd:=List.nodup_range.filter _
 lt:=λ j hj=>mem_range.mp (mem_filter.mp hj).1
 z:=λ j hj=>by rw [mem_filter]; exact ⟨λ h=>of_decide_eq_true h.2,λ h=>⟨mem_range.mpr hj,decide_eq_true h⟩⟩
 lf:=λ j=>by rw [AaV]; rfl
 pre:=⟨_,Z⟩
def Jt (w:Str):Bool:=decide (w = "not") || (decide (w = "all") || decide (w = "some"))
theorem Hq {w:Str}:Jt w = true↔Vk w:=by unfold Jt Vk; rw [Bool.or_eq_true,Bool.or_eq_true,decide_eq_true_iff,decide_eq_true_iff,decide_eq_true_iff]
def El (n:Nat) (l:List Int):List Nat:=(l.filter λ x=>decide ((n:Int)≤x)).map Int.toNat
def Lg (n j:Nat) (g:Gw):Ed:=if n≤j∧Jt g.1 = true then (El n g.2).map λ x=>(x,j) else []
def edges (n:Nat) (gs:List Gw) (i:Nat):Ed:=(List.range i).flatMap λ j=>(gs[j]?).elim [] (Lg n j)
theorem Ku {n:Nat} {gs:List Gw} {i:Nat} {g:Gw} (h:gs[i]? = some g):edges n gs (i + 1) = edges n gs i ++ Lg n i g:=by
 unfold edges
 rw [range_succ,List.flatMap_append]
 simp [h]
theorem Zs {n m:Nat} {τ:Nat→Nat} {s:Ws} (h:NR n m τ n s) {i:Nat} {e:Nat× Nat} (he:e∈edges n s.gs i):(e.1 < s.gs.length∧τ e.1 < τ e.2)∧e.2 < i:=by
 unfold edges at he
 obtain ⟨j,hj,hm⟩:=List.mem_flatMap.mp he
 cases eg:s.gs[j]? with
 | none=>rw [eg] at hm; cases hm
 | some g =>
  rw [eg] at hm
  have hm:e∈Lg n j g:=hm
  unfold Lg at hm
  split at hm
  ·rename_i c
   obtain ⟨x,hx,rfl⟩:=mem_map.mp hm
   unfold El at hx
   obtain ⟨y,hy,rfl⟩:=mem_map.mp hx
   obtain ⟨hy1,hy2⟩:=mem_filter.mp hy
   have hy2:(n:Int)≤y:=of_decide_eq_true hy2
   rcases h.gt j g eg with z | ⟨z1,z2⟩
   ·omega
   ·refine ⟨⟨?_,?_⟩,mem_range.mp hj⟩
    ·rcases z1 with ⟨z,z'⟩ | ⟨z,k,z',_⟩ | ⟨z,k,z',_⟩ | ⟨_,z⟩
     ·rw [z'] at hy1; cases hy1
     ·have o:=Hq.mp c.2
      rw [z] at o
      rcases o with o | o | o <;> exact absurd o (by decide +kernel)
     ·have o:=Hq.mp c.2
      rw [z] at o
      rcases o with o | o | o <;> exact absurd o (by decide +kernel)
     ·have:=z y hy1
      show y.toNat < _
      omega
    ·rcases z2 c.1 (Hq.mp c.2) y hy1 with z | z
     ·omega
     ·exact z
  ·cases hm
theorem Xj {c i:Nat} (F:Nat→V) (v:V) (hi:i < c):((List.range c).map F).set i v = (List.range c).map λ j=>if j = i then v else F j:=by
 apply List.ext_getElem?
 intro k
 rw [getElem?_set,length_map,length_range,getElem?_map,getElem?_map]
 by_cases h:i = k
 ·subst h
  rw [if_pos rfl,if_pos hi,getElem?_range hi]
  simp
 ·rw [if_neg h]
  rcases lt_or_ge k c with hk | hk
  ·rw [getElem?_range hk]
   show _ = some (if k = i then v else F k)
   rw [if_neg (λ z=>h z.symm)]; rfl
  ·rw [getElem?_eq_none (by rw [length_range]; exact hk)]; rfl
end My
end
section
set_option Elab.async false
set_option linter.all false
set_option maxRecDepth 100000
set_option maxHeartbeats 64000000
namespace L2
open PySem PySem.Spec PyProof.Rows
section
variable {prog:Program} {w:World} {A:Around} {s:Shared}
end
section
variable {prog:Program} {w:World} {A:Around} {E:Value→Shared→Prop} {s:Shared}
end
section
variable {X:Cx}
end
section
variable {prog:Program} {w:World} {A:Around} {R:Result→Shared→Prop} {it S:Addr} {fp wr:List Addr} {n:Nat} {P:Nat→Value→Prop} {St:Nat→Heap→Prop} {kw:List (Str× Value)}
theorem O9 (W:Walks prog w A.in1 it fp wr n P St) (bt:Nat→Nat→Bool) (cm:CmpOf prog w A.in1 .Gt P bt) (nS:S∉fp):∀ (k j:Nat) (s:Shared) (vb:Value) (c:Nat),n - (j + 1) = k→j + 1≤n→St (j + 1) s.heap→P (argBest bt j) vb →
  s.heap.get? S = some { cls:=.type "list", dict:=none,data:=.seq #[vb,vb] c,slots:=#[] } →
  (∀ v h' tk,P (argBest bt (n - 1)) v→(∀ b o,b∉S :: wr→s.heap.get? b = some o→h'.get? b = some o)→R (.ok (.ret v)) { s with heap:=h',toks:=tk })→codeAny (model prog w) A (.builtin "max.loop" ⟨[.ref it,.none,.ref S],kw⟩) R s
 | 0,j,s,vb,c,hk,hj,st,hp,hS,hR=>by
  have nw:S∉wr:=λ z=>nS (W.sub _ z)
  have ej:j + 1 = n:=by omega
  refine codeAny_builtin F.entry_max_loop ?_
  rw [Around.under_plainId F.plain_max_loop _]
  show wpAny _ A.in1 (seqItems? (.ref S) >>= _) _ _ _
  refine wpAny_bind (wpAny_seqItems hS rfl ?_)
  show wpAny _ A.in1 (tryCatch (pyNext (.ref it)) _ >>= _) _ _ _
  refine wpAny_bind (wpAny_tryCatch (W.done s _ _ (ej ▸ st) λ h' tk m=>?_))
  have hS2:=m S _ nw hS
  show wpAny _ A.in1 (updateSeq S (λ _=>#[]) >>= _) _ _ _
  refine wpAny_bind (wpAny_updateSeq hS2 rfl (wpAny_bind (wpAny_letGo (wpAny_pure ?_))))
  exact hR vb _ tk (by rw [← ej]; exact hp) λ b o hb e=>(Heap.get?_update_other _ _ (λ z:S = b=>hb (z ▸ mem_cons_self))).trans (m b o (λ z=>hb (mem_cons_of_mem _ z)) e)
 | k + 1,j,s,vb,c,hk,hj,st,hp,hS,hR=>by
  have nw:S∉wr:=λ z=>nS (W.sub _ z)
  have lt:j + 1 < n:=by omega
  refine codeAny_builtin F.entry_max_loop ?_
  rw [Around.under_plainId F.plain_max_loop _]
  show wpAny _ A.in1 (seqItems? (.ref S) >>= _) _ _ _
  refine wpAny_bind (wpAny_seqItems hS rfl ?_)
  show wpAny _ A.in1 (tryCatch (pyNext (.ref it)) _ >>= _) _ _ _
  refine wpAny_bind (wpAny_tryCatch (W.item (j + 1) s _ _ lt st λ v h' tk pv st' m=>?_))
  have hS2:=m S _ nw hS
  show wpAny _ A.in1 (tryCatch (holding [v,v] (richCompare .Gt v vb >>= _)) _ >>= _) _ _ _
  refine wpAny_bind (wpAny_tryCatch (wpAny_holding (wpAny_bind (cm (j + 1) (argBest bt j) v vb _ _ _ pv hp (wpAny_bind (wpAny_holding (wpAny_truthy_bool (wpAny_bind (wpAny_letGo (wpAny_pure ?_))))))))))
  have nm:(toString "max" ++ toString ".loop" : String) = "max.loop" := by decide
  cases hb:bt (j + 1) (argBest bt j) with
  | true =>
   simp only [if_true]
   refine wpAny_bind (wpAny_updateSeq hS2 rfl (wpAny_bind (wpAny_letGo ?_)))
   rw [nm]
   refine wpAny_pure ⟨plainId_quiet F.plain_max_loop _,O9 W bt cm nS k (j + 1) _ v _ (by omega) lt (W.frame _ _ _ st' λ b hbf o e=>?_) (by simp only [argBest,hb,if_true]; exact pv) (Heap.get?_update_self _ hS2 rfl) λ v' h'' tk' p' m''=>?_⟩
   ·exact (Heap.get?_update_other _ _ (λ z:S = b=>nS (z ▸ hbf))).trans e
   ·exact hR v' h'' tk' p' λ b o hb e=>m'' b o hb ((Heap.get?_update_other _ _ (λ z:S = b=>hb (z ▸ mem_cons_self))).trans (m b o (λ z=>hb (mem_cons_of_mem _ z)) e))
  | false =>
   simp only [Bool.false_eq_true,if_false]
   refine wpAny_bind (wpAny_letGo ?_)
   rw [nm]
   refine wpAny_pure ⟨plainId_quiet F.plain_max_loop _,O9 W bt cm nS k (j + 1) _ vb c (by omega) lt st' (by simp only [argBest,hb,Bool.false_eq_true,if_false]; exact hp) hS2 λ v' h'' tk' p' m''=>?_⟩
   exact hR v' h'' tk' p' λ b o hb e=>m'' b o hb (m b o (λ z=>hb (mem_cons_of_mem _ z)) e)
theorem Y0 (W:Walks prog w A.in1 it fp wr n P St) (bt:Nat→Nat→Bool) (cm:CmpOf prog w A.in1 .Gt P bt) (nS:S∉fp) {d:Value} {x:Str} {s:Shared} {c:Nat} (st:St 0 s.heap)
  (hS:s.heap.get? S = some { cls:=.type "list", dict:=none,data:=.seq #[] c,slots:=#[] })
  (hR:∀ v h' tk,(n = 0∧v = d∨0 < n∧P (argBest bt (n - 1)) v)→(∀ b o,b∉S :: wr→s.heap.get? b = some o→h'.get? b = some o)→R (.ok (.ret v)) { s with heap:=h',toks:=tk }):codeAny (model prog w) A (.builtin "max.loop" ⟨[.ref it,.none,.ref S],[(x,d)]⟩) R s:=by
 have nw:S∉wr:=λ z=>nS (W.sub _ z)
 have nm:(toString "max" ++ toString ".loop" : String) = "max.loop" := by decide
 refine codeAny_builtin F.entry_max_loop ?_
 rw [Around.under_plainId F.plain_max_loop _]
 show wpAny _ A.in1 (seqItems? (.ref S) >>= _) _ _ _
 refine wpAny_bind (wpAny_seqItems hS rfl ?_)
 show wpAny _ A.in1 (tryCatch (pyNext (.ref it)) _ >>= _) _ _ _
 by_cases n0:n = 0
 ·refine wpAny_bind (wpAny_tryCatch (W.done s _ _ (n0 ▸ st) λ h' tk m=>?_))
  refine wpAny_bind (wpAny_rule (wpAny_pure ?_))
  exact hR d h' tk (.inl ⟨n0,Z⟩) λ b o hb e=>m b o (λ z=>hb (mem_cons_of_mem _ z)) e
 ·have lt:0 < n:=Nat.pos_of_ne_zero n0
  refine wpAny_bind (wpAny_tryCatch (W.item 0 s _ _ lt st λ v h' tk pv st' m=>?_))
  have hS2:=m S _ nw hS
  show wpAny _ A.in1 (updateSeq S (λ _=>#[v,v]) >>= _) _ _ _
  refine wpAny_bind (wpAny_updateSeq hS2 rfl ?_)
  rw [nm]
  refine wpAny_pure ⟨plainId_quiet F.plain_max_loop _,O9 W bt cm nS _ 0 _ v _ rfl lt (W.frame _ _ _ st' λ b hbf o e=>?_) pv (Heap.get?_update_self _ hS2 rfl) λ v' h'' tk' p' m''=>?_⟩
  ·exact (Heap.get?_update_other _ _ (λ z:S = b=>nS (z ▸ hbf))).trans e
  ·exact hR v' h'' tk' (.inr ⟨lt,p'⟩) λ b o hb e=>m'' b o hb ((Heap.get?_update_other _ _ (λ z:S = b=>hb (z ▸ mem_cons_self))).trans (m b o (λ z=>hb (mem_cons_of_mem _ z)) e))
end
theorem Wc (a d:Value):argsOk "max" ⟨[a],[("default", d)]⟩:=by unfold argsOk; kernel_rfl
section
variable {prog:Program} {w:World} {A:Around} {E:Value→Shared→Prop} {s:Shared}
theorem Xy {l:Addr} {xs:Array (Int× Tok)} {d:Value} {Q:Value→Shared→Prop} (hh:A.handled = none) (hl:s.heap.IsList l (intItems xs))
  (h:∀ v h' tk,(xs.size = 0∧v = d∨0 < xs.size∧∃ t,v = .int (numAt xs (argBest (λ i j=>decide (numAt xs i > numAt xs j)) (xs.size - 1))) t)→(∀ b o,s.heap.get? b = some o→h'.get? b = some o)→Q v { s with heap:=h',toks:=tk }) :
  wpAny (model prog w) A (call (.builtin "max") [.ref l] [("default", d)]) Q E s:=by
 have nm:(toString "max" ++ toString ".loop" : String) = "max.loop" := by decide
 have sz:(intItems xs).size = xs.size:=by simp [intItems]
 refine wpAny_call (codeAny_call_builtin F.plain_max F.entry_max ?_)
 have hk:builtinKind "max" = none:=F.kind_max
 have ha:=Wc (.ref l) d
 simp only [checkBuiltinCall,hk]
 have go:wpAny (model prog w) A.in1 (Builtin.«max» ⟨[.ref l],[("default", d)]⟩) (λ fin s'=>match fin with
   | .done f=>(match (Except.ok f:Result) with | .ok (.ret v)=>Q v s' | .ok _=>False | .error e=>E e s')
   | .again c'=>c'.quiet = true∧codeAny (model prog w) A c' (λ r s'=>match r with | .ok (.ret v)=>Q v s' | .ok _=>False | .error e=>E e s') s') E s:=by
  show wpAny _ A.in1 (Builtin.Builtins.bindParams "max" ["key", "default"] 0 ⟨[],[("default", d)]⟩ >>= _) _ _ s
  refine wpAny_bind (wpAny_of_eq (show Builtin.Builtins.bindParams "max" ["key", "default"] 0 ⟨[],[("default", d)]⟩ = pure [none,some d] from rfl) ?_)
  refine wpAny_bind (wpAny_pure (wpAny_bind (wpAny_pyIter_list hl ?_)))
  refine wpAny_bind (wpAny_newObj_type ?_)
  rw [nm]
  have b1:l < s.heap.objs.size:=by obtain ⟨_,e,_⟩:=hl; exact Heap.lt_size e
  have hz:(s.heap.push { cls:=.type "list_iterator", data:=.fields #[.ref l,.int 0 0] }).objs.size = s.heap.objs.size + 1:=Heap.size_push ..
  have W:=Walks.list (prog:=prog) (w:=w) (A:=A.in1) hh s.heap.objs.size l (ne_of_lt b1) (intItems xs)
  refine wpAny_pure ⟨plainId_quiet F.plain_max_loop _,Y0 W _ (CmpOf.ints_gt (numAt xs) (λ _ _=>intItems_at)) (λ z=>?_) ⟨⟨_,Heap.get?_push_of_some _ (Heap.get?_push_size _ rfl),Z,Z⟩,(hl.push _).push _⟩ (Heap.get?_push_size _ rfl) λ v h' tk pv m=>?_⟩
  ·simp only [mem_cons,not_mem_nil,or_false] at z
   rcases z with z | z
   ·exact Nat.succ_ne_self _ (hz.symm.trans z)
   ·exact ne_of_gt (lt_succ_of_lt b1) (hz.symm.trans z)
  ·refine h v h' tk ?_ λ b o e=>m b o (λ z=>?_) (Heap.get?_push_of_some _ (Heap.get?_push_of_some _ e))
   ·rw [sz] at pv
    rcases pv with pv | ⟨q,pv⟩
    ·exact .inl pv
    ·exact .inr ⟨q,intItems_at pv⟩
   ·have:=Heap.lt_size e
    simp only [mem_cons,not_mem_nil,or_false] at z
    rcases z with z | z
    ·rw [z,hz] at this; exact lt_irrefl _ (Nat.lt_of_succ_lt this)
    ·rw [z] at this; exact lt_irrefl _ this
 cases hsig:Manifest.signature? "max" with
 | none=>exact wpAny_pure go
 | some sig =>
  simp only [argsOk,hsig] at ha
  have h2:Bind.checkArgs "max" sig ⟨[.ref l],[("default", d)]⟩ = pure ():=ha
  show wpAny _ A.in1 (Bind.checkArgs "max" sig ⟨[.ref l],[("default", d)]⟩) _ _ s
  rw [h2]; exact wpAny_pure go
end
def Vo (d:Int):List Int→Int
 | []=>d
 | x :: r=>r.foldl max x
theorem Abl {d M:Int} {ns:List Int} (ne:¬ ns = []) (m:M∈ns) (h:∀ a∈ns,a≤M):Vo d ns = M:=by
 cases ns with
 | nil=>exact absurd rfl ne
 | cons x r =>
  show r.foldl max x = M
  have key:∀ (r:List Int) (x:Int),(x≤M)→(∀ a∈r,a≤M)→(x = M∨M∈r)→r.foldl max x = M:=by
   intro r
   induction r with
   | nil=>intro x _ _ hx; exact hx.resolve_right (by simp)
   | cons y r ih =>
    intro x hx hr hm
    rw [foldl_cons]
    have hy:=hr y mem_cons_self
    refine ih (max x y) (by omega) (λ a ha=>hr a (mem_cons_of_mem _ ha)) ?_
    rcases hm with rfl | hm
    ·exact .inl (by omega)
    ·rcases mem_cons.mp hm with rfl | hm
     ·exact .inl (by omega)
     ·exact .inr hm
  exact key r x (h x mem_cons_self) (λ a ha=>h a (mem_cons_of_mem _ ha)) (by rcases mem_cons.mp m with rfl | m; exact .inl rfl; exact .inr m)
section
variable {X:Cx} {p pos kp:Pos} {e1 e2:Expr} {t tk:TA}
def Act (K:PySem.W.Frag) (t tk:TA):TE:=λ σ H Q=>t σ H λ vs H1=>tk σ H1 λ zs H2=>∃ a ns d,vs = [.ref a]∧zs = [.int d]∧SqL K H2 a ((ns:List Int).map V.int)∧Q (.int (Vo d ns)) H2
theorem Aa7 (hc:X.calm = true) (hg:Gl X "max") (hm:X.mg "max" = none) (ha:PA X [e1] t) (hkw:PK X [⟨some "default", e2,kp⟩] tk) (hs:starEach [e1] X.env = (false,eval e1 X.env) :: starEach [] X.env:=by rfl)
  (hpl:((backTo pos (starEach [e1] X.env)).any (·.1) || (backToKw pos (keywordEach [⟨some "default", e2,kp⟩] X.env)).any (·.1.isNone)) = false:=by rfl) :
  PE X (.Call (.Name "max" p) [e1] [⟨some "default", e2,kp⟩] pos) (Act X.K t tk):=by
 intro pins s σ H Q I h
 refine wpAny_Call_Name_kw (Gh (u:=.builtin "max") I hg hm (by decide +kernel) ?_ (by decide) (by decide))
 refine PySem.W.callWith_of (P:=λ _=>True) hpl (λ h _=>⟨.machine,.inr (.inl rfl),Looks.of_pure rfl⟩) (PyProof.Rows.evalArgs_kw2 (by rfl) (thn (ha pos pins s σ H _ I h) λ us s1 ⟨vs,H1,I1,r1,q1⟩=>?_) hs)
 refine thn (hkw pos pins s1 σ H1 _ I1 q1) λ ws s2 ⟨zs,H2,I2,rz,q2⟩=>⟨trivial,?_⟩
 obtain ⟨a,ns,d,rfl,rfl,hS,q⟩:=q2
 obtain ⟨u,rfl,ru⟩:=r1.one
 obtain ⟨u2,rfl,t,rfl⟩:=rz.one
 cases ru
 show wpAny _ _ (call (.builtin "max") [.ref a] [("default", .int d t)]) _ _ _
 obtain ⟨its,rv,pl,hz⟩:=I2.list hS
 have hi:=Kq rv
 obtain ⟨ys,hx⟩:=hi.allInts.items
 have hl':s2.heap.IsList a (intItems ys):=hx ▸ pl.isList
 refine Xy (I2.ok.hd hc) hl' λ v h' tk hv k=>?_
 have e1:ns = ys.toList.map (·.1):=by
  rw [← nums_intItems,← hx]
  exact (show numsOf its.toArray.toList = ns from hi.numsOf).symm
 have I3:Inv X pins σ H2 { s2 with heap:=h',toks:=tk }:=I2.kept k
 rcases hv with ⟨h0,rfl⟩ | ⟨h0,t',rfl⟩
 ·have:ns = []:=by rw [e1]; exact length_eq_zero_iff.mp (by simpa using h0)
  subst this
  exact ⟨.int d,H2,I3,⟨_,Z⟩,q⟩
 ·have hnum:∀ i,i < ys.size→numAt ys i∈ns∧∃ h:i < ns.length,ns[i] = numAt ys i:=λ i hi=>by
   have hl:i < ns.length:=by rw [e1]; simpa using hi
   have:ns[i] = numAt ys i:=by simp [e1,numAt,hi]
   exact ⟨this ▸ getElem_mem hl,hl,this⟩
  obtain ⟨b1,b2⟩:=argBest_gt (numAt ys) (ys.size - 1)
  have lns:ns.length = ys.size:=by rw [e1]; simp
  have em:Vo d ns = numAt ys (argBest (λ i j=>decide (numAt ys i > numAt ys j)) (ys.size - 1)):=by
   refine Abl (λ z=>by rw [z] at lns; simp at lns; omega) (hnum _ (by omega)).1 λ x hx=>?_
   obtain ⟨i,hi,rfl⟩:=List.getElem_of_mem hx
   rw [(hnum i (by omega)).2.2]
   exact b2 i (by omega)
  rw [← em]
  exact ⟨.int (Vo d ns),H2,I3,⟨_,Z⟩,q⟩
end
section
variable {X:Cx} {CX:CXT} {k:Nat} {f D:Addr} {fd:FuncData} {ps:List Str} {sp:Sp} {E:XK} {m:Str} {pos apos:Pos} {e o:Expr} {es:List Expr} {ta:TE} {t:TA}
end
end L2
end
section
set_option Elab.async false
set_option linter.all false
set_option maxRecDepth 100000
set_option maxHeartbeats 64000000
namespace My
open PySem L2
inductive Rp where
 | nothing
 | rest
 | send (s:Int)
 | exit (d:Int)
 | iff (s:Int) (p q:Rp)
 | again (p:Rp)
 | hold (s:Int) (p:Rp)
 | watch (s:Int) (p:Rp)
 | trap (p:Rp)
 | thn (p q:Rp)
 | bes (p q:Rp)
def Rp.nd:Rp→Nd
 | .nothing=>.t [.s "nothing"]
 | .rest=>.t [.s "rest"]
 | .send s=>.t [.s "send", .i s]
 | .exit d=>.t [.s "exit", .i d]
 | .iff s p q=>.t [.s "if", .i s,p.nd,q.nd]
 | .again p=>.t [.s "again", p.nd]
 | .hold s p=>.t [.s "hold", .i s,p.nd]
 | .watch s p=>.t [.s "watch", .i s,p.nd]
 | .trap p=>.t [.s "trap", p.nd]
 | .thn p q=>.t [.s "then", p.nd,q.nd]
 | .bes p q=>.t [.s "beside", p.nd,q.nd]
def Rp.hg:Rp→Nat
 | .iff _ p q=>max p.hg q.hg + 1
 | .thn p q=>max p.hg q.hg + 1
 | .bes p q=>max p.hg q.hg + 1
 | .again p=>p.hg + 1
 | .hold _ p=>p.hg + 1
 | .watch _ p=>p.hg + 1
 | .trap p=>p.hg + 1
 | _=>1
def Rp.wt:Rp→Nat
 | .rest=>1
 | .send _=>1
 | .iff _ p q=>p.wt + q.wt
 | .thn p q=>p.wt + q.wt
 | .bes p q=>p.wt + q.wt
 | .again p=>p.wt + 1
 | .hold _ p=>p.wt
 | .watch _ p=>p.wt
 | .trap p=>p.wt
 | _=>0
def Rp.ok (sg:Int):Rp→Prop
 | .send s=>0≤s∧s < sg
 | .exit d=>0≤d∧d < 4
 | .iff s p q=>(0≤s∧s < sg)∧p.ok sg∧q.ok sg
 | .thn p q=>p.ok sg∧q.ok sg
 | .bes p q=>p.ok sg∧q.ok sg
 | .again p=>p.ok sg
 | .hold s p=>(0≤s∧s < sg)∧p.ok sg
 | .watch s p=>(0≤s∧s < sg)∧p.ok sg
 | .trap p=>p.ok sg
 | _=>True
theorem Rp.hg_pos (p:Rp):1≤p.hg:=by cases p <;> exact Nat.le_add_left 1 _
def num:Rp→Int→Pt× Int
 | .nothing,k=>(.nothing,k)
 | .rest,k=>(.rest k,k + 1)
 | .send s,k=>(.send s,k)
 | .exit d,k=>(.exit d,k)
 | .iff s p q,k=>(.iff s (num p k).1 (num q (num p k).2).1,(num q (num p k).2).2)
 | .again p,k=>(.again (num p k).2 (num p k).1,(num p k).2 + 1)
 | .hold s p,k=>(.hold s (num p k).1,(num p k).2)
 | .watch s p,k=>(.watch s (num p k).1,(num p k).2)
 | .trap p,k=>(.trap (num p k).1,(num p k).2)
 | .thn p q,k=>(.thn (num p k).1 (num q (num p k).2).1,(num q (num p k).2).2)
 | .bes p q,k=>(.bes (num p k).1 (num q (num p k).2).1,(num q (num p k).2).2)
def Rp.sz:Rp→Nat
 | .iff _ p q=>p.sz + q.sz + 1
 | .thn p q=>p.sz + q.sz + 1
 | .bes p q=>p.sz + q.sz + 1
 | .again p=>p.sz + 1
 | .hold _ p=>p.sz + 1
 | .watch _ p=>p.sz + 1
 | .trap p=>p.sz + 1
 | _=>1
structure U5 (n:Nat) (r:Rp) (k:Int) (q:Pt× Int):Prop where
 hg:q.1.hg = r.hg
 sz:q.1.sz = r.sz
 wt:(rsP q.1).length≤r.wt
 ok:r.ok n→okN n q.1
 rs:∀ x∈rsP q.1,k≤x∧x < q.2
 ln:q.2 = k + (rsP q.1).length
theorem Xh (n:Nat) (r:Rp):∀ k,U5 n r k (num r k):=by
 have two:∀ {p q:Rp} {k:Int} {a:Pt},U5 n p k (num p k)→U5 n q (num p k).2 (num q (num p k).2)→rsP a = rsP (num q (num p k).2).1 ++ rsP (num p k).1→(∀ x∈rsP a,k≤x∧x < (num q (num p k).2).2)∧(num q (num p k).2).2 = k + (rsP a).length∧(rsP a).length≤p.wt + q.wt:=λ {p q k a} h1 h2 e=>by
  have l1:=h1.ln
  have l2:=h2.ln
  rw [e]
  refine ⟨λ x hx=>?_,?_,?_⟩
  ·rcases mem_append.mp hx with z | z
   ·have:=h2.rs x z; omega
   ·have:=h1.rs x z; omega
  ·rw [length_append]; omega
  ·rw [length_append]; have:=h1.wt; have:=h2.wt; omega
 induction r with
 | nothing=>intro k; exact ⟨rfl,rfl,le_refl _,λ _=>trivial,λ x hx=>(nomatch hx),(Int.add_zero _).symm⟩
 | rest=>intro k; exact ⟨rfl,rfl,le_refl _,λ _=>trivial,λ x hx=>(by rw [mS hx]; show k≤k∧k < k + 1; omega),rfl⟩
 | send s=>intro k; exact ⟨rfl,rfl,zero_le _,λ h=>h,λ x hx=>(nomatch hx),(Int.add_zero _).symm⟩
 | exit d=>intro k; exact ⟨rfl,rfl,le_refl _,λ h=>h,λ x hx=>(nomatch hx),(Int.add_zero _).symm⟩
 | iff s p q ih1 ih2 =>
  intro k
  have a:=ih1 k
  have b:=ih2 (num p k).2
  obtain ⟨t1,t2,t3⟩:=two (a:=(num (.iff s p q) k).1) a b rfl
  exact ⟨by simp only [num,Pt.hg,Rp.hg,a.hg,b.hg],by simp only [num,Pt.sz,Rp.sz,a.sz,b.sz],t3,λ h=>⟨h.1,a.ok h.2.1,b.ok h.2.2⟩,t1,t2⟩
 | thn p q ih1 ih2 =>
  intro k
  have a:=ih1 k
  have b:=ih2 (num p k).2
  obtain ⟨t1,t2,t3⟩:=two (a:=(num (.thn p q) k).1) a b rfl
  exact ⟨by simp only [num,Pt.hg,Rp.hg,a.hg,b.hg],by simp only [num,Pt.sz,Rp.sz,a.sz,b.sz],t3,λ h=>⟨a.ok h.1,b.ok h.2⟩,t1,t2⟩
 | bes p q ih1 ih2 =>
  intro k
  have a:=ih1 k
  have b:=ih2 (num p k).2
  obtain ⟨t1,t2,t3⟩:=two (a:=(num (.bes p q) k).1) a b rfl
  exact ⟨by simp only [num,Pt.hg,Rp.hg,a.hg,b.hg],by simp only [num,Pt.sz,Rp.sz,a.sz,b.sz],t3,λ h=>⟨a.ok h.1,b.ok h.2⟩,t1,t2⟩
 | again p ih =>
  intro k
  have a:=ih k
  have l1:=a.ln
  refine ⟨by simp only [num,Pt.hg,Rp.hg,a.hg],by simp only [num,Pt.sz,Rp.sz,a.sz],Nat.succ_le_succ a.wt,λ h=>a.ok h,λ x hx=>?_,?_⟩
  ·show k≤x∧x < (num p k).2 + 1
   rcases mem_cons.mp hx with z | z
   ·rw [z]; omega
   ·have:=a.rs x z; omega
  ·show (num p k).2 + 1 = k + (((num p k).2 :: rsP (num p k).1).length:Nat)
   rw [length_cons]; omega
 | hold s p ih =>
  intro k
  have a:=ih k
  exact ⟨by simp only [num,Pt.hg,Rp.hg,a.hg],by simp only [num,Pt.sz,Rp.sz,a.sz],a.wt,λ h=>⟨h.1,a.ok h.2⟩,a.rs,a.ln⟩
 | watch s p ih =>
  intro k
  have a:=ih k
  exact ⟨by simp only [num,Pt.hg,Rp.hg,a.hg],by simp only [num,Pt.sz,Rp.sz,a.sz],a.wt,λ h=>⟨h.1,a.ok h.2⟩,a.rs,a.ln⟩
 | trap p ih =>
  intro k
  have a:=ih k
  exact ⟨by simp only [num,Pt.hg,Rp.hg,a.hg],by simp only [num,Pt.sz,Rp.sz,a.sz],a.wt,λ h=>a.ok h,a.rs,a.ln⟩
structure Its (r:Rp) (x:Str) (xs:List Nd):Prop where
 e:r.nd = .t (.s x :: xs)
 l:xs.length≤3
 c:∀ n∈xs,(∃ k,n = .i k)∨∃ r':Rp,n = r'.nd∧r'.hg + 1≤r.hg
theorem AcT (r:Rp):∃ x xs,Its r x xs:=by
 have i1:∀ (k:Int),∀ n∈[Nd.i k],(∃ k,n = .i k)∨∃ r':Rp,n = r'.nd∧r'.hg + 1≤r.hg:=λ k n hn=>.inl ⟨k,mS hn⟩
 cases r with
 | nothing=>exact ⟨_,[],rfl,by decide,λ n hn=>by cases hn⟩
 | rest=>exact ⟨_,[],rfl,by decide,λ n hn=>by cases hn⟩
 | send s=>exact ⟨_,[.i s],rfl,by simp,i1 s⟩
 | exit d=>exact ⟨_,[.i d],rfl,by simp,i1 d⟩
 | iff s p q =>
  refine ⟨_,[.i s,p.nd,q.nd],Z,by simp,λ n hn=>?_⟩
  simp only [mem_cons,not_mem_nil,or_false] at hn
  rcases hn with rfl | rfl | rfl
  ·exact .inl ⟨s,Z⟩
  ·exact .inr ⟨p,Z,by simp only [Rp.hg]; omega⟩
  ·exact .inr ⟨q,Z,by simp only [Rp.hg]; omega⟩
 | thn p q =>
  refine ⟨_,[p.nd,q.nd],Z,by simp,λ n hn=>?_⟩
  simp only [mem_cons,not_mem_nil,or_false] at hn
  rcases hn with rfl | rfl
  ·exact .inr ⟨p,Z,by simp only [Rp.hg]; omega⟩
  ·exact .inr ⟨q,Z,by simp only [Rp.hg]; omega⟩
 | bes p q =>
  refine ⟨_,[p.nd,q.nd],Z,by simp,λ n hn=>?_⟩
  simp only [mem_cons,not_mem_nil,or_false] at hn
  rcases hn with rfl | rfl
  ·exact .inr ⟨p,Z,by simp only [Rp.hg]; omega⟩
  ·exact .inr ⟨q,Z,by simp only [Rp.hg]; omega⟩
 | again p =>
  refine ⟨_,[p.nd],Z,by simp,λ n hn=>?_⟩
  rw [mS hn]
  exact .inr ⟨p,Z,by simp only [Rp.hg]; omega⟩
 | trap p =>
  refine ⟨_,[p.nd],Z,by simp,λ n hn=>?_⟩
  rw [mS hn]
  exact .inr ⟨p,Z,by simp only [Rp.hg]; omega⟩
 | hold s p =>
  refine ⟨_,[.i s,p.nd],Z,by simp,λ n hn=>?_⟩
  simp only [mem_cons,not_mem_nil,or_false] at hn
  rcases hn with rfl | rfl
  ·exact .inl ⟨s,Z⟩
  ·exact .inr ⟨p,Z,by simp only [Rp.hg]; omega⟩
 | watch s p =>
  refine ⟨_,[.i s,p.nd],Z,by simp,λ n hn=>?_⟩
  simp only [mem_cons,not_mem_nil,or_false] at hn
  rcases hn with rfl | rfl
  ·exact .inl ⟨s,Z⟩
  ·exact .inr ⟨p,Z,by simp only [Rp.hg]; omega⟩
theorem Iz {tc:TT} {A B:TS} {D:Jh} {σ:St} {H:Hp} (Φ:Bool→Hp→Prop) (ht:∀ Q:Bool→Hp→Prop,(∀ b H',Φ b H'→Q b H')→tc σ H Q) (hA:∀ H',Φ true H'→A D σ H') (hB:∀ H',Φ false H'→B D σ H'):Abv tc A B D σ H :=
 ht _ λ b H' h=>by
  cases b with
  | true=>exact Dy (hA H' h)
  | false=>exact Dq (hB H' h)
def AaG (c:Int):Int:=(c % 2147483647 + 11) * 48271 * 69621 % 2147483629
theorem Mv (c:Int):0≤AaG c:=Int.emod_nonneg _ (by decide)
inductive Py  (vs:List V) (H:Hp) (Q:VK):Prop
 | mk (c:Int) (_:vs = [.int c]) (_:Q (.int (AaG c)) H):Py  vs H Q
def Oq:Sp:=λ vs H Q _=>Py  vs H Q
inductive X5 (K:PySem.W.Frag) (vs:List V) (H:Hp) (Q:VK):Prop
 | mk (a:Addr) (ns:List Int) (k:Int) (_:vs = [.ref a,.int k]) (_:SqL K H a (ns.map V.int)) (_:0≤k) (_:∀ m:Int,0≤m→Q (.int m) H):X5 K vs H Q
def AcK (K:PySem.W.Frag):Sp:=λ vs H Q _=>X5 K vs H Q
inductive Yk (K:PySem.W.Frag) (vs:List V) (H:Hp) (Q:VK):Prop
 | mk (seed sg:Int) (_:vs = [.int seed,.int sg]) (_:0 < sg) (_:∀ v r H',Same H H'→PAt K H' (Rp.nd r) v→r.hg≤2→r.wt≤1→r.sz≤3→r.ok sg→Q v H'):Yk K vs H Q
def Acl (K:PySem.W.Frag):Sp:=λ vs H Q _=>Yk K vs H Q
inductive Si (K:PySem.W.Frag) (n:Nat) (vs:List V) (H:Hp) (Q:VK):Prop
 | mk (v:V) (r:Rp) (_:vs = [v]) (_:PAt K H (Rp.nd r) v) (_:r.hg≤n) (_:∀ (m:Int) H',Same H H'→Q (.int m) H'):Si K n vs H Q
def J3 (K:PySem.W.Frag) (n:Nat):Sp:=λ vs H Q _=>Si K n vs H Q
abbrev PrR (K:PySem.W.Frag) (H:Hp) (l:List Rp) (vs:List V):Prop:=PySem.Paired (λ p v=>PAt K H (Rp.nd p) v) l vs
theorem Dw {K:PySem.W.Frag} {H H':Hp} (T:Tp H H') {l:List Rp} {vs:List V} (h:PrR K H l vs):PrR K H' l vs:=Paired.mapP h λ _ _ a=>a.mono T
def wH (l:List Rp):Nat:=(l.map Rp.hg).sum
def wR (l:List Rp):Nat:=(l.map Rp.wt).sum
def wS (l:List Rp):Nat:=(l.map Rp.sz).sum
theorem Gv (l:List Rp) (p:Rp):wS (l ++ [p]) = wS l + p.sz:=by simp [wS]
theorem F5 (l:List Rp) (p:Rp):wH (l ++ [p]) = wH l + p.hg:=by simp [wH]
theorem G2 (l:List Rp) (p:Rp):wR (l ++ [p]) = wR l + p.wt:=by simp [wR]
theorem Gx {F:Rp→V→Prop}:∀ {l:List Rp} {vs:List V},PySem.Paired F l vs→¬ l = []→∃ l0 p ws v,l = l0 ++ [p]∧vs = ws ++ [v]∧PySem.Paired F l0 ws∧F p v
 | _,_,.nil,h=>absurd rfl h
 | _,_,.cons (a:=a) (b:=b) (l₁:=l1) (l₂:=l2) f t,_=>by
  cases t with
  | nil=>exact ⟨[],a,[],b,rfl,rfl,.nil,f⟩
  | cons f' t' =>
   obtain ⟨l0,p,ws,v,e1,e2,t0,fp⟩:=Gx (.cons f' t') (by simp)
   exact ⟨a :: l0,p,b :: ws,v,by rw [e1]; rfl,by rw [e2]; rfl,.cons f t0,fp⟩
inductive Ub (K:PySem.W.Frag) (vs:List V) (H:Hp) (Q:VK):Prop
 | mk (seed sg:Int) (r:Addr) (l:List Rp) (xs:List V) (_:vs = [.ref r,.int seed,.int sg]) (_:0 < sg) (_:H r = some (.lst xs)) (_:PrR K H l xs) (_:¬ l = []) (_:(∀ p∈l,p.ok sg)) (_:wH l≤60) (_:∀ (v:V) (p:Rp) (l':List Rp) (xs':List V) (H':Hp),Kp r H H'→H' r = some (.lst xs')→PrR K H' l' xs'→PAt K H' (Rp.nd p) v→p.ok sg→(∀ q∈l',q.ok sg)→wH l' + p.hg≤wH l + 1→wR l' + p.wt≤wR l + 1→l'.length + 1≤l.length→wS l' + p.sz + l'.length≤wS l + l.length + 1→Q v H'):Ub K vs H Q
def Aai (K:PySem.W.Frag):Sp:=λ vs H Q _=>Ub K vs H Q
inductive Se (K:PySem.W.Frag) (vs:List V) (H:Hp) (Q:VK):Prop
 | mk (c:Addr) (cs:List Int) (sg:Int) (_:vs = [.ref c,.int sg]) (_:SqL K H c (cs.map V.int)) (_:cs.length≤30) (_:0 < sg) (_:∀ (v:V) (p:Rp) (H':Hp),Same H H'→PAt K H' (Rp.nd p) v→p.ok sg→p.hg≤63→p.wt≤31→p.sz≤130→Q v H'):Se K vs H Q
def Yo (K:PySem.W.Frag):Sp:=λ vs H Q _=>Se K vs H Q
inductive T7 (K:PySem.W.Frag) (n:Nat) (vs:List V) (H:Hp) (Q:VK):Prop
 | mk (v:V) (r:Rp) (k:Int) (_:vs = [v,.int k]) (_:PAt K H (Rp.nd r) v) (_:r.hg≤n) (_:∀ (t:Addr) (v':V) H',Same H H'→H' t = some (.tup [v',.int (num r k).2])→PAt K H' (Pt.nd (num r k).1) v'→Q (.ref t) H'):T7 K n vs H Q
def Ni (K:PySem.W.Frag) (n:Nat):Sp:=λ vs H Q _=>T7 K n vs H Q
inductive Rq (K:PySem.W.Frag) (vs:List V) (H:Hp) (Q:VK):Prop
 | mk (a:Addr) (ns:List Int) (j:Nat) (_:vs = [.ref a,.int j]) (_:SqL K H a (ns.map V.int)) (_:j≤30) (_:∀ (t pr:Addr) (c n:Nat) (x1 v:V) (r:Rp) (H':Hp),Same H H'→H' t = some (.tup [.ref pr,.int (num r 0).2])→H' pr = some (.tup [.int c,x1,.int n,v])→c≤n→1≤n→n≤10→PAt K H' (num r 0).1.nd v→r.ok n→r.hg≤63→r.wt≤31→r.sz≤130→Q (.ref t) H'):Rq K vs H Q
def Yl (K:PySem.W.Frag):Sp:=λ vs H Q _=>Rq K vs H Q
section
variable {P:Program} {w:World} {K:PySem.W.Frag} {mg:Str→Option Value} {base:Heap}
theorem AaS (F:Ba K mg "_law_mixed" ["_law_cell"] Gp):Am P w K mg base 1 "_law_mixed" ["_law_cell"] Oq:=by
 refine F.ok Qe (λ vs H Q E h=>?_) (λ f cdv A outer s H vs Q E hr h=>?_)
 ·obtain ⟨c,rfl,_⟩:=h; rfl
 obtain ⟨c,rfl,q⟩:=h
 refine ⟨_,(Ai (Aw (Bj C6 (Bj Sb (Bj Sb (Bj Ds (Bj C6 (pv 0) Ag) Ag) Ag) Ag) Ag))),?_⟩
 refine ⟨_,Z,_,_,Z,Z,(by show (0:Int) < 2147483647; decide),_,_,Z,Z,_,_,Z,Z,.inr ⟨by decide,by decide⟩,_,_,Z,Z,.inr ⟨by decide,by decide⟩,_,_,Z,Z,(by show (0:Int) < 2147483629; decide),?_⟩
 exact q
theorem Acw (F:Ba K mg "_law_at" ["_law_script", "_law_k"] Ju) (T:Txt mg) (aQ:Am P w K mg base 1 "_law_mixed" ["_law_cell"] Oq):Am P w K mg base 2 "_law_at" ["_law_script", "_law_k"] (AcK K):=by
 refine F.ok Vg (λ vs H Q E h=>?_) (λ f cdv A outer s H vs Q E hr h=>?_)
 ·obtain ⟨a,ns,k,rfl,_⟩:=h; rfl
 obtain ⟨a,ns,k,rfl,hS,h0,q⟩:=h
 refine ⟨_,(Ae (Bn (As Hd (pv 1) (A4 Br rfl T.n_len PySem.boot_len (Aa (pv 0) Ac)) (Ax _))
   (Ai (Aw (Av aQ hr rfl Al (Aa (Ao Bz (pv 0) (pv 1) (λ _ _=>rfl)) Ac))))
   Bc)
  (Ai (Aw (Av aQ hr rfl Al (Aa Ag Ac))))),?_⟩
 refine ⟨_,Z,_,Z,a,_,Z,.inl hS,_,_,Z,Z,_,Z,?_⟩
 refine Ay (λ c=>?_) (λ c=>?_)
 ·have c':k < (((ns.map V.int).length:Nat):Int):=of_decide_eq_true c
  rw [length_map] at c'
  have hk:k.toNat < ns.length:=by omega
  have e:atI (ns.map V.int) ((k.toNat:Nat):Int) = some (.int ns[k.toNat]):=Ah (by rw [getElem?_map,getElem?_eq_getElem hk] <;> rfl)
  rw [show ((k.toNat:Nat):Int) = k by omega] at e
  exact ⟨_,Z,_,Z,a,_,_,_,Z,Z,hS,e,_,Z,q _ (Mv _)⟩
 ·exact ⟨_,Z,q _ (Mv _)⟩
theorem Acz (F:Ba K mg "_law_leaf" ["_law_seed", "_law_signs"] Hm):Am P w K mg base 1 "_law_leaf" ["_law_seed", "_law_signs"] (Acl K):=by
 refine F.ok Li (λ vs H Q E h=>?_) (λ f cdv A outer s H vs Q E hr h=>?_)
 ·obtain ⟨n,sg,rfl,_⟩:=h; rfl
 obtain ⟨n,sg,rfl,hsg,q⟩:=h
 refine ⟨_,(Ae (Bh (i:=2) Li.nd rfl (Or.inl rfl) (Bj C6 (pv 0) Ag))
  (Ae (Bn (As Hd (pv 2) Ag (Ax _))
   (Ai (Aw (Be (Aa An Ac))))
   Bc)
  (Ae (Bn (As Hd (pv 2) Ag (Ax _))
   (Ai (Aw (Be (Aa An (Aa (Bj C6 (Bj Er (pv 0) Ag) (pv 1)) Ac)))))
   Bc)
  (Ae (Bn (As Bm (pv 2) Ag (Ax _))
   (Ai (Aw (Be (Aa An (Aa (Bj C6 (Bj Er (pv 0) Ag) Ag) Ac)))))
   Bc)
  (Ae (Bn (As Bm (Bj C6 (Bj Er (pv 0) Ag) Ag) Ag (Ax _))
   (Ai (Aw (Be (Aa An Ac))))
   Bc)
  (Ai (Aw (Be (Aa An (Aa (Bj C6 (Bj Er (pv 0) Ag) (pv 1)) (Aa (Be (Aa An (Aa (Bj C6 (Bj Er (pv 0) Ag) (pv 1)) Ac))) (Aa (Be (Aa An Ac)) Ac)))))))))))),?_⟩
 have md:∀ z:Int,0≤z % sg∧z % sg < sg:=λ z=>⟨Int.emod_nonneg _ (by omega),Int.emod_lt_of_pos _ hsg⟩
 refine ⟨_,Z,_,_,Z,Z,(by show (0:Int) < 7; decide),_,Z,_,_,Z,Z,_,Z,Ay (λ c=>?_) λ c=>⟨_,Z,_,_,Z,Z,_,Z,Ay (λ c=>?_) λ c=>⟨_,Z,Z,_,Z,Ay (λ c=>?_) λ c=>⟨_,Z,_,_,Z,Z,⟨by decide,by decide⟩,_,_,Z,Z,(by show (0:Int) < 2; decide),Z,_,Z,Ay (λ c=>?_) λ c=>?_⟩⟩⟩⟩
 ·exact ⟨zN1,λ t ht=>q _ .rest _ (Ad ht _) (.t (.inl Ab) (.cons .s .nil)) (by simp [Rp.hg]) (by simp [Rp.wt]) (by simp [Rp.sz]) trivial⟩
 ·exact ⟨_,Z,_,_,Z,Z,⟨by decide,by decide⟩,_,Z,_,_,Z,Z,hsg,zN2,λ t ht=>q _ (.send (n / 7 % sg)) _ (Ad ht _) (.t (.inl Ab) (.cons .s (.cons .i .nil))) (by simp [Rp.hg]) (by simp [Rp.wt]) (by simp [Rp.sz]) (md _)⟩
 ·exact ⟨_,Z,_,_,Z,Z,⟨by decide,by decide⟩,_,_,Z,Z,(by show (0:Int) < 2; decide),zN2,λ t ht=>q _ (.exit (n / 7 % 2)) _ (Ad ht _) (.t (.inl Ab) (.cons .s (.cons .i .nil))) (by simp [Rp.hg]) (by simp [Rp.wt]) (by simp [Rp.sz]) ⟨Int.emod_nonneg _ (by decide),Int.lt_trans (Int.emod_lt_of_pos _ (by decide)) (by decide)⟩⟩
 ·exact ⟨zN1,λ t ht=>q _ .nothing _ (Ad ht _) (.t (.inl Ab) (.cons .s .nil)) (by simp [Rp.hg]) (by simp [Rp.wt]) (by simp [Rp.sz]) trivial⟩
 ·refine ⟨_,Z,_,_,Z,Z,⟨by decide,by decide⟩,_,Z,_,_,Z,Z,hsg,_,Z,_,_,Z,Z,⟨by decide,by decide⟩,_,Z,_,_,Z,Z,hsg,zN2,λ t1 ht1=>⟨zN1,λ t2 ht2=>⟨zN4,λ t ht=>?_⟩⟩⟩
  obtain ⟨g,n1,n2,n3⟩:=Adm (a:=.tup [V.str "send", .int (n / 1400 % sg)]) (b:=.tup [V.str "nothing"]) (c:=.tup [V.str "if", .int (n / 7 % sg),.ref t1,.ref t2]) ht1 ht2 ht
  exact q _ (.iff (n / 7 % sg) (.send (n / 1400 % sg)) .nothing) _ g (.t (.inl n3) (.cons .s (.cons .i (.cons (.t (.inl n1) (.cons .s (.cons .i .nil))) (.cons (.t (.inl n2) (.cons .s .nil)) .nil))))) (by simp [Rp.hg]) (by simp [Rp.wt]) (by simp [Rp.sz]) ⟨md _,md _,trivial⟩
theorem Abe {n k:Nat} (F:Ba K mg "_law_deep" ["_law_part"] Eu) (T:Txt mg) (bB:Am P w K mg base k "_law_deep" ["_law_part"] (J3 K n)):Am P w K mg base (k + 1) "_law_deep" ["_law_part"] (J3 K (n + 1)):=by
 refine F.ok Le (λ vs H Q E h=>?_) (λ f cdv A outer s H vs Q E hr h=>?_)
 ·obtain ⟨v,r,rfl,_⟩:=h; rfl
 obtain ⟨v,r,rfl,av,hh,q⟩:=h
 refine ⟨_,(Ae (Ff (j:=1) (g:=(B1 0)) (tc:=(tB (tCB (Ig K) (B4 (Bt 0) (B4 (tC (.ty "tuple")) Dp))))) (te:=(Mi (J3 K n) [] E0 (B4 (Bt 0) Dp))) ["_law_one"] [] Le.nd rfl (Or.inl rfl) rfl (Ci (Aj Eu) ["_law_part", "_law_inner"] (by decide +kernel)) (Gf (pv 0)) (λ s2 H2 fp cl C=>A3 (i:=0) (show Nodup [("_law_one" : Str)] from by decide +kernel) rfl (Or.inl rfl)) (Bo (by decide)) (λ s2 H2 fp cl C=>F3 (Dk (A4 Bs rfl T.n_isinstance PyProof.Rows.boot_isinstance (Aa (pv 0) (Aa (Cq rfl T.n_tuple (by decide +kernel) (v:=.ty "tuple") rfl) Ac))))) (λ s2 H2 fp cl C=>(Av bB hr rfl Al (Aa (pv 0) Ac))))
  (Ai (Aw (Bj Ds (F6 V3 rfl T.n_int (by decide +kernel) (Aa (Fe Bm (Ao Ap (pv 0) Ag (λ _ _=>rfl)) An (Ax _)) Ac)) (Aa7 rfl rfl T.n_max (Aa (pv 1) Ac) (AbZ Ag Ab0)))))),?_⟩
 obtain ⟨x,xs,er,l3,hc⟩:=AcT r
 rw [er] at av
 obtain ⟨a,vs,rfl,ha,hx⟩:=av.get
 have hlen:=hx.len
 rw [length_cons] at hlen
 have hx0:∃ r0,vs = .str x :: r0:=by
  unfold Bk at hx
  obtain ⟨v0,r0,e,hs,_⟩:=hx
  exact ⟨r0,by rw [e,hs.str]⟩
 refine ⟨_,Z,a,Z,⟨_,ha.sq⟩,Ky (K:=K) (a:=a) (xs:=vs) (λ i ys H'=>Same H H'∧∃ ns:List Int,ys = ns.map V.int) ⟨Same.refl _,[],Z⟩ (He (by omega)) (λ i ys H' h=>(ha.mono h.1.tp).sq) ?_ ?_⟩
 ·rintro i y ys H2 M hi ⟨g2,ns,rfl⟩ hN' hyl
  obtain ⟨nd,hn,hax⟩:=hx.at hi
  have hax:=hax.mono g2.tp
  obtain ⟨ty,hty,ek⟩:=Xi hax
  refine ⟨_,Z,_, "tuple", ty,_,Z,hty,ek,_,Z,?_⟩
  refine Ay (λ c=>?_) (λ c=>?_)
  ·rcases mem_cons.mp (mem_of_getElem? hn) with e | nm
   ·rw [e] at c; cases c
   rcases hc nd nm with ⟨k',e⟩ | ⟨r',e,hg'⟩
   ·rw [e] at c; cases c
   subst e
   refine ⟨_,Z,y,r',Z,hax,by omega,λ m H3 g3=>?_⟩
   exact hN' _ _ (by rw [length_append,length_singleton]; exact Nat.succ_le_succ hyl) ⟨g2.trans g3,ns ++ [m],by simp⟩
  ·exact hN' _ _ (Nat.le_succ_of_le hyl) ⟨g2,ns,Z⟩
 ·rintro ys H2 hyl ⟨g2,ns,rfl⟩ D hD
  have kD:=Ad hD (.lst (ns.map V.int))
  obtain ⟨r0,rfl⟩:=hx0
  refine ⟨_,Z,a,_,_,_,Z,Z,(ha.mono (g2.trans kD).tp).sq,Ah (j:=0) rfl,Z,.inr ⟨_,Z,_,Z,D,ns,0,Z,Z,SqL.of Ab,_,_,Z,Z,q _ _ (g2.trans kD)⟩⟩
theorem Rt (F:Ba K mg "_law_deep" ["_law_part"] Eu) (T:Txt mg):∀ n:Nat,Am P w K mg base n "_law_deep" ["_law_part"] (J3 K n)
 | 0=>F.zero (sp:=J3 K 0) λ vs H Q E ⟨v,r,_,_,hh,_⟩=>absurd hh (not_le_of_gt r.hg_pos)
 | n + 1=>Abe F T (Rt F T n)
theorem AdL {l:List Rp} {xs:List V} {F:Rp→V→Prop} (h:PySem.Paired F l xs) (c:¬ (xs.length:Int) = 0):¬ l = []:=by
 rintro rfl
 cases h
 exact c rfl
theorem Aag {x y:Str} (m:Int):∃ z,(z = x∨z = y)∧atI [V.str x,V.str y] (m % 2) = some (.str z):=by
 have h1:=Int.emod_nonneg m (show (2:Int)≠0 by decide)
 have h2:=Int.emod_lt_of_pos m (show (0:Int) < 2 by decide)
 have:m % 2 = 0∨m % 2 = 1:=by omega
 rcases this with e | e
 ·exact ⟨x,.inl rfl,by rw [e]; exact Ah (j:=0) rfl⟩
 ·exact ⟨y,.inr rfl,by rw [e]; exact Ah (j:=1) rfl⟩
theorem AcU (F:Ba K mg "_law_grown" ["_law_stack", "_law_seed", "_law_signs"] Gm) (T:Txt mg) (bB:Am P w K mg base 60 "_law_deep" ["_law_part"] (J3 K 60)):Am P w K mg base 61 "_law_grown" ["_law_stack", "_law_seed", "_law_signs"] (Aai K):=by
 refine F.ok En (λ vs H Q E h=>?_) (λ f cdv A outer s H vs Q E hr h=>?_)
 ·obtain ⟨seed,sg,r,l,xs,rfl,_⟩:=h; rfl
 obtain ⟨seed,sg,r,l,xs,rfl,hsg,hv,pv1,hne,okl,h30,q⟩:=h
 refine ⟨_,(Ae (Bh (i:=3) En.nd rfl (Or.inl rfl) (Bj C6 (pv 1) Ag))
  (Ae (Bh (i:=4) En.nd rfl (Or.inl rfl) (Bj C6 (Bj Er (pv 1) Ag) (pv 2)))
  (Ae (Bh (i:=5) En.nd rfl (Or.inl rfl) (Lx PySem.F.plainAttrs_list PySem.F.slot_list_pop PySem.F.type_list_pop Lj (pv 0)))
  (Ae (Bn (As Bm (pv 3) Ag (Ax _))
   (Ai (Aw (Be (Aa An (Aa (pv 5) Ac)))))
   Bc)
  (Ae (Bn (As Bm (pv 3) Ag (Ax _))
   (Ai (Aw (Be (Aa (Ao Bz (A5 (Aa An (Aa An Ac))) (Bj C6 (Bj Er (pv 1) Ag) Ag) (λ _ _=>rfl)) (Aa (pv 4) (Aa (pv 5) Ac))))))
   Bc)
  (Ae (Bn (PW.pt (R4 (As Bm (pv 3) Ag (Ax _)) (Oo (As Hd (Av bB hr rfl Al (Aa (pv 5) Ac)) Ag (Ax _)))))
   (Ai (Aw (Be (Aa An (Aa (pv 5) Ac)))))
   Bc)
  (Ae (Bn (PW.pt (D8 (As Bm (A4 Br rfl T.n_len PySem.boot_len (Aa (pv 0) Ac)) Ag (Ax _)) (E8 (As Bm (pv 3) Ag (Ax _)))))
   (Ai (Aw (Be (Aa An (Aa (pv 4) (Aa (pv 5) (Aa (Be (Aa An Ac)) Ac)))))))
   Bc)
  (Ae (Bh (i:=6) En.nd rfl (Or.inl rfl) (Lx PySem.F.plainAttrs_list PySem.F.slot_list_pop PySem.F.type_list_pop Lj (pv 0)))
  (Ae (Bn (As Bm (pv 3) Ag (Ax _))
   (Ai (Aw (Be (Aa An (Aa (pv 4) (Aa (pv 6) (Aa (pv 5) Ac)))))))
   Bc)
  (Ae (Bn (As Bm (pv 3) Ag (Ax _))
   (Ai (Aw (Be (Aa An (Aa (pv 6) (Aa (pv 5) Ac))))))
   Bc)
  (Ai (Aw (Be (Aa An (Aa (pv 6) (Aa (pv 5) Ac)))))))))))))))),?_⟩
 obtain ⟨l0,p,ws,v,rfl,rfl,pv0,ap⟩:=Gx pv1 hne
 have op:p.ok sg:=okl p (by simp)
 have hm:0≤seed / 16 % sg∧seed / 16 % sg < sg:=⟨Int.emod_nonneg _ (by omega),Int.emod_lt_of_pos _ hsg⟩
 have ok0:∀ q∈l0,q.ok sg:=λ q hq=>okl q (mem_append_left _ hq)
 have pp:=Rp.hg_pos p
 rw [F5] at h30
 rw [F5,G2,Gv] at q
 refine ⟨_,Z,_,_,Z,Z,(by show (0:Int) < 16; decide),_,Z,_,_,Z,Z,⟨by decide,by decide⟩,_,Z,_,_,Z,Z,hsg,?_⟩
 refine ⟨_,Z,.inl ⟨Z,_,SqL.of hv⟩,r,_,v,Z,Z,hv,by simp,?_⟩
 have e0:(ws ++ [v]).dropLast = ws:=by simp
 have T0:Tp H (upd H r (.lst (ws ++ [v]).dropLast)):=Tp.lst hv
 have k0:Kp r H (upd H r (.lst (ws ++ [v]).dropLast)):=Kp.upd
 have hv0:(upd H r (.lst (ws ++ [v]).dropLast)) r = some (.lst ws):=by rw [Ab,e0]
 have pv2:=Dw T0 pv0
 have ap2:=ap.mono T0
 generalize (upd H r (.lst (ws ++ [v]).dropLast)) = H1 at hv0 pv2 ap2 k0
 have one:∀ (H2:Hp) (t:Addr) (o:List V) (p':Rp),Same H1 H2→H2 t = none→PAt K (upd H2 t (.tup o)) (Rp.nd p') (.ref t)→p'.ok sg→p'.hg≤p.hg + 1→p'.wt≤p.wt + 1→p'.sz≤p.sz + 2→Q (.ref t) (upd H2 t (.tup o)):=by
  intro H2 t o p' g2 ht a o' h1 h2 h3
  have g:=g2.trans (Ad ht (.tup o))
  exact q _ p' l0 ws _ (k0.trans (Same.kp g)) (g _ _ hv0) (Dw g.tp pv2) a o' ok0 (by omega) (by omega) (by simp) (by rw [length_append,length_singleton]; omega)
 refine ⟨_,Z,Z,_,Z,Ay (λ c=>?_) λ c=>?_⟩
 ·exact ⟨_,Z,zN2,λ t ht=>one H1 t _ (.again p) (Same.refl _) ht (.t (.inl Ab) (.cons .s (.cons (ap2.mono (Ad ht _).tp) .nil))) op (by simp only [Rp.hg]; omega) (by simp only [Rp.wt]; omega) (by simp only [Rp.sz]; omega)⟩
 refine ⟨_,Z,Z,_,Z,Ay (λ c=>?_) λ c=>?_⟩
 ·obtain ⟨z,hz,ez⟩:=Aag (x:= "hold") (y:= "watch") (seed / 500)
  refine ⟨zN2,λ l5 hl5=>?_⟩
  have k5:=Ad hl5 (.lst [V.str "hold", .str "watch"])
  refine ⟨_,Z,_,_,Z,Z,⟨by decide,by decide⟩,_,_,Z,Z,(by show (0:Int) < 2; decide),l5,_,_,.str z,Z,Z,SqL.of Ab,ez,_,Z,_,Z,zN3,λ t ht=>?_⟩
  have ax:=ap2.mono (k5.trans (Ad ht (.tup [V.str z,.int (seed / 16 % sg),v]))).tp
  rcases hz with rfl | rfl
  ·exact one _ t _ (.hold (seed / 16 % sg) p) k5 ht (.t (.inl Ab) (.cons .s (.cons .i (.cons ax .nil)))) ⟨hm,op⟩ (by simp only [Rp.hg]; omega) (by simp only [Rp.wt]; omega) (by simp only [Rp.sz]; omega)
  ·exact one _ t _ (.watch (seed / 16 % sg) p) k5 ht (.t (.inl Ab) (.cons .s (.cons .i (.cons ax .nil)))) ⟨hm,op⟩ (by simp only [Rp.hg]; omega) (by simp only [Rp.wt]; omega) (by simp only [Rp.sz]; omega)
 dsimp only [B1,O1,O7,tC,Nc]
 refine Iz (λ b H'=>Same H1 H') (λ Q' k=>?_) ?_ ?_
 ·refine ⟨_,Z,Z,_,Z,Ay (λ c=>?_) λ c=>k _ _ (Same.refl _)⟩
  exact ⟨_,Z,v,p,Z,ap2,by omega,λ m H2 g2=>⟨_,_,Z,Z,_,Z,k _ _ g2⟩⟩
 ·intro H2 g2
  exact ⟨_,Z,zN2,λ t ht=>one H2 t _ (.trap p) g2 ht (.t (.inl Ab) (.cons .s (.cons (ap2.mono (g2.trans (Ad ht _)).tp) .nil))) op (by simp only [Rp.hg]; omega) (by simp only [Rp.wt]; omega) (by simp only [Rp.sz]; omega)⟩
 intro H2 g2
 have hv2:=g2 _ _ hv0
 have pv3:=Dw g2.tp pv2
 have ap3:=ap2.mono g2.tp
 have k1:=k0.trans (Same.kp g2)
 have hxl:=PySem.Paired.length pv3
 dsimp only [B1,O1,O7,tC,Nc]
 refine Iz (λ b H'=>H' = H2∧(b = false→¬ l0 = [])) (λ Q' k=>?_) ?_ ?_
 ·refine ⟨_,Z,r,_,Z,.inl (SqL.of hv2),Z,_,Z,Ay (λ c=>k _ _ ⟨Z,λ z=>nomatch z⟩) λ c=>?_⟩
  have hne2:¬ l0 = []:=AdL pv3 (λ z=>c (decide_eq_true (by rw [z])))
  exact ⟨_,Z,Z,_,Z,k _ _ ⟨Z,λ _=>hne2⟩⟩
 ·rintro H3 ⟨rfl,_⟩
  refine ⟨_,Z,_,Z,zN1,λ t1 ht1=>⟨zN4,λ t ht=>?_⟩⟩
  obtain ⟨g,n1,n2⟩:=Kw (a:=.tup [V.str "nothing"]) (b:=.tup [V.str "if", .int (seed / 16 % sg),v,.ref t1]) ht1 ht
  exact q _ (.iff (seed / 16 % sg) p .nothing) l0 ws _ (k1.trans (Same.kp g)) (g _ _ hv2) (Dw g.tp pv3) (.t (.inl n2) (.cons .s (.cons .i (.cons (ap3.mono g.tp) (.cons (.t (.inl n1) (.cons .s .nil)) .nil))))) ⟨hm,op,trivial⟩ ok0 (by simp only [Rp.hg]; omega) (by simp only [Rp.wt]; omega) (by simp) (by simp only [Rp.sz,length_append,length_singleton]; omega)
 rintro H3 ⟨rfl,hne2⟩
 obtain ⟨l1,p2,ws1,v2,rfl,rfl,pv4,ap4⟩:=Gx pv3 (hne2 rfl)
 have op2:p2.ok sg:=ok0 p2 (by simp)
 have ok1:∀ q∈l1,q.ok sg:=λ q hq=>ok0 q (mem_append_left _ hq)
 have pp2:=Rp.hg_pos p2
 rw [F5,G2,Gv] at q
 refine ⟨_,Z,.inl ⟨Z,_,SqL.of hv2⟩,r,_,v2,Z,Z,hv2,by simp,?_⟩
 have T2:Tp H3 (upd H3 r (.lst (ws1 ++ [v2]).dropLast)):=Tp.lst hv2
 have k2:Kp r H3 (upd H3 r (.lst (ws1 ++ [v2]).dropLast)):=Kp.upd
 have hv5:(upd H3 r (.lst (ws1 ++ [v2]).dropLast)) r = some (.lst ws1):=by rw [Ab]; simp
 have pv5:=Dw T2 pv4
 have ap5:=ap3.mono T2
 have aq5:=ap4.mono T2
 have k3:=k1.trans k2
 generalize (upd H3 r (.lst (ws1 ++ [v2]).dropLast)) = H4 at hv5 pv5 ap5 aq5 k3
 have two:∀ (t:Addr) (o:List V) (p':Rp) (ht:H4 t = none),PAt K (upd H4 t (.tup o)) (Rp.nd p') (.ref t)→p'.ok sg→p'.hg≤p.hg + p2.hg→p'.wt≤p.wt + p2.wt→p'.sz≤p.sz + p2.sz + 1→Q (.ref t) (upd H4 t (.tup o)):=by
  intro t o p' ht a o' h1 h2 h3
  have g:=Ad ht (.tup o)
  exact q _ p' l1 ws1 _ (k3.trans (Same.kp g)) (g _ _ hv5) (Dw g.tp pv5) a o' ok1 (by omega) (by omega) (by simp) (by rw [length_append,length_append,length_singleton,length_singleton]; omega)
 refine ⟨_,Z,Z,_,Z,Ay (λ c=>?_) λ c=>⟨_,Z,Z,_,Z,Ay (λ c=>?_) λ c=>?_⟩⟩
 ·exact ⟨_,Z,_,Z,_,Z,zN4,λ t ht=>two t _ (.iff (seed / 16 % sg) p2 p) ht (.t (.inl Ab) (.cons .s (.cons .i (.cons (aq5.mono (Ad ht _).tp) (.cons (ap5.mono (Ad ht _).tp) .nil))))) ⟨hm,op2,op⟩ (by simp only [Rp.hg]; omega) (by simp only [Rp.wt]; omega) (by simp only [Rp.sz]; omega)⟩
 ·exact ⟨_,Z,_,Z,zN3,λ t ht=>two t _ (.thn p2 p) ht (.t (.inl Ab) (.cons .s (.cons (aq5.mono (Ad ht _).tp) (.cons (ap5.mono (Ad ht _).tp) .nil)))) ⟨op2,op⟩ (by simp only [Rp.hg]; omega) (by simp only [Rp.wt]; omega) (by simp only [Rp.sz]; omega)⟩
 ·exact ⟨_,Z,_,Z,zN3,λ t ht=>two t _ (.bes p2 p) ht (.t (.inl Ab) (.cons .s (.cons (aq5.mono (Ad ht _).tp) (.cons (ap5.mono (Ad ht _).tp) .nil)))) ⟨op2,op⟩ (by simp only [Rp.hg]; omega) (by simp only [Rp.wt]; omega) (by simp only [Rp.sz]; omega)⟩
theorem Aa2 (F:Ba K mg "_law_body" ["_law_cells", "_law_signs"] Hi) (T:Txt mg) (aQ:Am P w K mg base 1 "_law_mixed" ["_law_cell"] Oq) (cV:Am P w K mg base 1 "_law_leaf" ["_law_seed", "_law_signs"] (Acl K)) (cI:Am P w K mg base 61 "_law_grown" ["_law_stack", "_law_seed", "_law_signs"] (Aai K)):Am P w K mg base 62 "_law_body" ["_law_cells", "_law_signs"] (Yo K):=by
 refine F.ok Ec (λ vs H Q E h=>?_) (λ f cdv A outer s H vs Q E hr h=>?_)
 ·obtain ⟨c,cs,sg,rfl,_⟩:=h; rfl
 obtain ⟨c,cs,sg,rfl,hS,hn,hsg,q⟩:=h
 refine ⟨_,(Ae (Bh (i:=2) Ec.nd rfl (Or.inl rfl) (A5 (Aa (Be (Aa An Ac)) Ac)))
  (Ae (Dr PassesOwn.never rfl (Cz (pv 0)) (A3 (i:=3) Ec.nd rfl (Or.inl rfl))
   (Ae (Bh (i:=4) Ec.nd rfl (Or.inl rfl) (Av aQ hr rfl Al (Aa (pv 3) Ac)))
  (Ai (Bn (PW.pt (D8 (As Hd (Bj C6 (pv 4) Ag) Ag (Ax _)) (E8 (As Bm (A4 Br rfl T.n_len PySem.boot_len (Aa (pv 2) Ac)) Ag (Ax _)))))
   (Ai (Bg (E1 PySem.F.plainAttrs_list PySem.F.slot_list_append PySem.F.type_list_append Ck (pv 2) (Aa (Av cV hr rfl Al (Aa (Bj Er (pv 4) Ag) (Aa (pv 1) Ac))) Ac))))
   (Ai (Bg (E1 PySem.F.plainAttrs_list PySem.F.slot_list_append PySem.F.type_list_append Ck (pv 2) (Aa (Av cI hr rfl Al (Aa (pv 2) (Aa (pv 4) (Aa (pv 1) Ac)))) Ac))))))))
  (Ae (Rx PassesOwn.never (As V1 (A4 Br rfl T.n_len PySem.boot_len (Aa (pv 2) Ac)) Ag (Ax _))
   (Ae (Bh (i:=5) Ec.nd rfl (Or.inl rfl) (Lx PySem.F.plainAttrs_list PySem.F.slot_list_pop PySem.F.type_list_pop Lj (pv 2)))
  (Ae (Bh (i:=6) Ec.nd rfl (Or.inl rfl) (Lx PySem.F.plainAttrs_list PySem.F.slot_list_pop PySem.F.type_list_pop Lj (pv 2)))
  (Ai (Bg (E1 PySem.F.plainAttrs_list PySem.F.slot_list_append PySem.F.type_list_append Ck (pv 2) (Aa (Be (Aa (Ao Bz (A5 (Aa An (Aa An Ac))) (Bj C6 (A4 Br rfl T.n_len PySem.boot_len (Aa (pv 2) Ac)) Ag) (λ _ _=>rfl)) (Aa (pv 6) (Aa (pv 5) Ac)))) Ac)))))))
  (Ai (Aw (Be (Aa An (Aa (Be (Aa An (Aa (Ao Bz (pv 2) Ag (λ _ _=>rfl)) Ac))) Ac)))))))),?_⟩
 refine ⟨zN1,λ t0 ht0=>⟨zN1,λ r hr0=>?_⟩⟩
 obtain ⟨g0,n0,nr⟩:=Kw (a:=.tup [V.str "rest"]) (b:=.lst [.ref t0]) ht0 hr0
 have hr1:H r = none:=(Ad ht0 _).free hr0
 refine ⟨_,rfl,c,rfl,⟨_,g0.seq hS⟩,F0 (K:=K) (a:=c) (xs:=cs.map V.int)
  (λ i σ H1=>∃ (l:List Rp) (xs:List V) (x3 x4:Option V),σ = [some (.ref c),some (.int sg),some (.ref r),x3,x4,none,none]∧Same H H1∧H1 r = some (.lst xs)∧PrR K H1 l xs∧¬ l = []∧(∀ p∈l,p.ok sg)∧wH l≤2 * i + 1∧wR l≤i + 1∧l.length≤i + 1∧wS l + l.length≤4 * i + 2)
  ⟨[.rest],[.ref t0],none,none,Z,g0,nr,.cons (.t (.inl n0) (.cons .s .nil)) .nil,by simp,λ p hp=>by rw [mS hp]; trivial,by simp [wH,Rp.hg],by simp [wR,Rp.wt],by simp,by simp [wS,Rp.sz]⟩ (λ i σ H1 _ ⟨_,_,_,_,_,g,_⟩=>g.seq hS) ?_ ?_⟩
 ·rintro i y σ H1 hi ⟨l,xs,x3,x4,rfl,g1,hv,pv1,hne,okl,h1,h2,h3,h4⟩
  have hil:i < (cs.map V.int).length:=(List.getElem?_eq_some_iff.mp hi).1
  rw [length_map] at hil
  obtain ⟨z,rfl⟩:∃ z,y = V.int z:=by
   rw [getElem?_map] at hi
   cases e:cs[i]? with
   | none=>rw [e] at hi; cases hi
   | some z=>rw [e] at hi; exact ⟨z,(Option.some.inj hi).symm⟩
  refine ⟨_,Z,z,Z,?_⟩
  have hm:=Mv z
  generalize AaG z = m at hm
  dsimp only [B1]
  have hxl:=PySem.Paired.length pv1
  refine Iz (λ b H'=>H' = H1) (λ Q' k=>?_) ?_ ?_
  ·exact ⟨_,Z,_,_,Z,Z,(by show (0:Int) < 16; decide),_,_,Z,Z,_,Z,Ay (λ c=>k _ _ rfl) λ c=>⟨_,Z,r,_,Z,.inl (SqL.of hv),Z,_,Z,k _ _ rfl⟩⟩
  ·rintro H2 rfl
   refine ⟨_,Z,.inl ⟨Z,_,SqL.of hv⟩,_,Z,_,_,Z,Z,⟨by decide,by decide⟩,_,Z,m / 16,sg,Z,hsg,λ v p H3 g3 P3 e1 e2 e4 e3=>?_⟩
   have hv3:=g3 _ _ hv
   refine ⟨r,_,_,Z,Z,hv3,F2 (by omega),?_⟩
   have T3:Tp H3 (upd H3 r (.lst (xs ++ [v]))):=Tp.lst hv3
   refine ⟨l ++ [p],xs ++ [v],_,_,Z,(g1.trans g3).young hr1 _,Ab,(Dw T3 (Dw g3.tp pv1)).snoc (P3.mono T3),by simp,λ q hq=>?_,by rw [F5]; omega,by rw [G2]; omega,by simp; omega,by rw [Gv,length_append,length_singleton]; omega⟩
   rcases mem_append.mp hq with z | z
   ·exact okl q z
   ·rw [mS z]; exact e3
  ·rintro H2 rfl
   refine ⟨_,Z,.inl ⟨rfl,_,SqL.of hv⟩,_,Z,_,Z,_,Z,m,sg,r,l,xs,Z,hsg,hv,pv1,hne,okl,by omega,λ v p l' xs' H3 k3 hv3 pv3 P3 op ok3 e1 e2 e3 e4=>?_⟩
   have hxl':=PySem.Paired.length pv3
   refine ⟨r,_,_,Z,Z,hv3,F2 (by omega),?_⟩
   have T3:Tp H3 (upd H3 r (.lst (xs' ++ [v]))):=Tp.lst hv3
   refine ⟨l' ++ [p],xs' ++ [v],_,_,Z,(g1.byKp hr1 k3).young hr1 _,Ab,(Dw T3 pv3).snoc (P3.mono T3),by simp,λ q hq=>?_,by rw [F5]; omega,by rw [G2]; omega,by simp; omega,by rw [Gv,length_append,length_singleton]; omega⟩
   rcases mem_append.mp hq with z | z
   ·exact ok3 q z
   ·rw [mS z]; exact op
 ·rintro σ H1 ⟨l,xs,x3,x4,rfl,g1,hv,pv1,hne,okl,h1,h2,h3,h4⟩
  rw [length_map] at h1 h2 h3 h4
  refine Qu (λ σ H1=>∃ (l:List Rp) (xs:List V) (x5 x6:Option V),σ = [some (.ref c),some (.int sg),some (.ref r),x3,x4,x5,x6]∧Same H H1∧H1 r = some (.lst xs)∧PrR K H1 l xs∧¬ l = []∧(∀ p∈l,p.ok sg)∧wH l≤2 * cs.length + 1∧wR l≤cs.length + 1∧l.length≤cs.length + 1∧wS l + l.length≤4 * cs.length + 2)
    (λ σ H1=>match H1 r with | some (.lst us)=>us.length | _=>0) ⟨l,xs,none,none,Z,g1,hv,pv1,hne,okl,h1,h2,h3,h4⟩ ?_ ?_
  ·rintro σ H1 ⟨l,xs,x5,x6,rfl,g1,hv,pv1,hne,okl,h1,h2,h3,h4⟩
   have hxl:=PySem.Paired.length pv1
   refine ⟨_,Z,r,_,Z,.inl (SqL.of hv),_,_,Z,Z,_,Z,Ay (λ c=>?_) λ c=>?_⟩
   ·have hl2:2≤xs.length:=by have:=of_decide_eq_true c; omega
    obtain ⟨l0,p,ws,v,rfl,rfl,pv0,ap⟩:=Gx pv1 hne
    have hne2:¬ l0 = []:=by
     rintro rfl
     cases pv0
     simp at hl2
    obtain ⟨l1,p2,ws1,v2,rfl,rfl,pv4,ap4⟩:=Gx pv0 hne2
    rw [F5,F5] at h1
    rw [G2,G2] at h2
    rw [Gv,Gv,length_append,length_append,length_singleton,length_singleton] at h4
    have h3':l1.length + 1 + 1≤cs.length + 1:=by simpa using h3
    have hxl':=PySem.Paired.length pv4
    have pp:=Rp.hg_pos p
    have pp2:=Rp.hg_pos p2
    refine ⟨_,Z,.inl ⟨Z,_,SqL.of hv⟩,r,_,v,Z,Z,hv,by simp,?_⟩
    have T0:Tp H1 (upd H1 r (.lst (ws1 ++ [v2] ++ [v]).dropLast)):=Tp.lst hv
    have hv0:(upd H1 r (.lst (ws1 ++ [v2] ++ [v]).dropLast)) r = some (.lst (ws1 ++ [v2])):=by rw [Ab]; simp
    have gz:Same H (upd H1 r (.lst (ws1 ++ [v2] ++ [v]).dropLast)):=g1.young hr1 _
    refine ⟨_,Z,.inl ⟨Z,_,SqL.of hv0⟩,r,_,v2,Z,Z,hv0,by simp,?_⟩
    have T1:=T0.trans (Tp.lst (o:=.lst (ws1 ++ [v2]).dropLast) hv0)
    have hv1:(upd (upd H1 r (.lst (ws1 ++ [v2] ++ [v]).dropLast)) r (.lst (ws1 ++ [v2]).dropLast)) r = some (.lst ws1):=by rw [Ab]; simp
    have gz2:Same H (upd (upd H1 r (.lst (ws1 ++ [v2] ++ [v]).dropLast)) r (.lst (ws1 ++ [v2]).dropLast)):=gz.young hr1 _
    generalize (upd (upd H1 r (.lst (ws1 ++ [v2] ++ [v]).dropLast)) r (.lst (ws1 ++ [v2]).dropLast)) = H2 at hv1 gz2 T1
    obtain ⟨z,hz,ez⟩:=Aag (x:= "then") (y:= "beside") (ws1.length:Int)
    refine ⟨_,Z,.inl ⟨rfl,_,SqL.of hv1⟩,zN2,λ l5 hl5=>?_⟩
    have k5:=Ad hl5 (.lst [V.str "then", .str "beside"])
    have hv2:=k5 _ _ hv1
    refine ⟨_,Z,r,_,Z,.inl (SqL.of hv2),_,_,Z,Z,(by show (0:Int) < 2; decide),l5,_,_,.str z,Z,Z,SqL.of Ab,ez,_,Z,_,Z,zN3,λ t ht=>?_⟩
    have g3:=k5.trans (Ad ht (.tup [V.str z,v2,v]))
    have hv3:=g3 _ _ hv1
    refine ⟨r,_,_,Z,Z,hv3,F2 (by omega),?_⟩
    have T3:=Tp.lst (o:=.lst (ws1 ++ [.ref t])) hv3
    have T4:=T1.trans (g3.tp.trans T3)
    obtain ⟨pz,az,oz,hz1,hz2,hz3⟩:∃ pz:Rp,PAt K (upd (upd (upd H2 l5 (.lst [V.str "then", .str "beside"])) t (.tup [V.str z,v2,v])) r (.lst (ws1 ++ [.ref t]))) (Rp.nd pz) (.ref t)∧pz.ok sg∧pz.hg≤p2.hg + p.hg∧pz.wt≤p2.wt + p.wt∧pz.sz≤p2.sz + p.sz + 1:=by
     rcases hz with rfl | rfl
     ·exact ⟨.thn p2 p,.t (.inl (T3 _ _ Ab)) (.cons .s (.cons (ap4.mono T4) (.cons (ap.mono T4) .nil))),⟨okl p2 (by simp),okl p (by simp)⟩,by simp only [Rp.hg]; omega,by simp only [Rp.wt]; omega,by simp only [Rp.sz]; omega⟩
     ·exact ⟨.bes p2 p,.t (.inl (T3 _ _ Ab)) (.cons .s (.cons (ap4.mono T4) (.cons (ap.mono T4) .nil))),⟨okl p2 (by simp),okl p (by simp)⟩,by simp only [Rp.hg]; omega,by simp only [Rp.wt]; omega,by simp only [Rp.sz]; omega⟩
    refine ⟨⟨l1 ++ [pz],ws1 ++ [.ref t],_,_,Z,(gz2.trans g3).young hr1 _,Ab,PySem.Paired.snoc (a:=pz) (Dw T4 pv4) az,by simp,λ q hq=>?_,?_,?_,by simp; omega,?_⟩,?_⟩
    ·rcases mem_append.mp hq with z | z
     ·exact okl q (by simp [z])
     ·rw [mS z]; exact oz
    ·rw [F5]; omega
    ·rw [G2]; omega
    ·rw [Gv,length_append,length_singleton]; omega
    ·show (match (upd (upd (upd H2 l5 (.lst [V.str "then", .str "beside"])) t (.tup [V.str z,v2,v])) r (.lst (ws1 ++ [.ref t]))) r with | some (.lst us)=>us.length | _=>0) < (match H1 r with | some (.lst us)=>us.length | _=>0)
     rw [Ab,hv]
     simp
   ·have hl1:¬ 1 < xs.length:=λ z=>c (decide_eq_true (by omega))
    obtain ⟨l0,p,ws,v,rfl,rfl,pv0,ap⟩:=Gx pv1 hne
    have e0:ws = []:=by
     cases ws with
     | nil=>rfl
     | cons _ _=>simp at hl1
    subst e0
    cases pv0
    refine ⟨_,Z,r,_,_,v,Z,Z,SqL.of hv,Ah (j:=0) rfl,zN2,λ t1 ht1=>⟨zN2,λ t2 ht2=>?_⟩⟩
    obtain ⟨g3,n1,n2⟩:=Kw (a:=.tup [V.str "trap", v]) (b:=.tup [V.str "trap", .ref t1]) ht1 ht2
    have eH:wH ([] ++ [p]) = p.hg:=by simp [wH]
    have eR:wR ([] ++ [p]) = p.wt:=by simp [wR]
    rw [eH] at h1
    rw [eR] at h2
    have eS:wS ([] ++ [p]) = p.sz:=by simp [wS]
    rw [eS] at h4
    exact q _ (.trap (.trap p)) _ (g1.trans g3) (.t (.inl n2) (.cons .s (.cons (.t (.inl n1) (.cons .s (.cons (ap.mono g3.tp) .nil))) .nil))) (okl p (by simp)) (by simp only [Rp.hg]; omega) (by simp only [Rp.wt]; omega) (by simp only [Rp.sz]; omega)
  ·rintro σ H Q Q' h ⟨v,e,p,xs,e2,s,i,j,e3,e4,k,e5,q⟩
   exact ⟨v,e,p,xs,e2,s,i,j,e3,e4,k,e5,h _ _ q⟩
theorem Hv {x:Str} {pos:Pos} {rest:List Expr} {env:Env}:starEach (.Name x pos :: rest) env = (false,eval (.Name x pos) env) :: starEach rest env:=rfl
structure QE (X:Cx) (e:Expr) (t:TE):Prop where
 of:PE X e t
structure QA (X:Cx) (es:List Expr) (t:TA):Prop where
 of:PA X es t
theorem qe {X:Cx} {e:Expr} {t:TE} (h:PE X e t):QE X e t:=⟨h⟩
theorem Wf {X:Cx}:QA X [] Dp:=⟨Ac⟩
theorem Ir {X:Cx} {e:Expr} {es:List Expr} {te:TE} {t:TA} (h:QE X e te) (hr:QA X es t) (hs:starEach (e :: es) X.env = (false,eval e X.env) :: starEach es X.env):QA X (e :: es) (B4 te t):=⟨Aa h.of hr.of hs⟩
theorem Acj {X:Cx} {es:List Expr} {x1:Nat} {pos:Pos} {t:TA} (h:QA X es t):QE X (.Tuple es x1 pos) (Q3 t):=⟨Be h.of⟩
theorem AbF {X:Cx} {es:List Expr} {x1:Nat} {pos:Pos} {t:TA} (h:QA X es t):PE X (.Tuple es x1 pos) (Q3 t):=Be h.of
theorem R5 {es:List Expr} {k:Nat} {pos:Pos} {rest:List Expr} {env:Env}:starEach (.Tuple es k pos :: rest) env = (false,eval (.Tuple es k pos) env) :: starEach rest env:=rfl
theorem Bv {K:PySem.W.Frag} {H:Hp} {x:Nd} {xs:List Nd} {vs:List V} (h:Bk K H (x :: xs) vs):∃ v r,vs = v :: r∧PAt K H x v∧Bk K H xs r:=by unfold Bk at h; exact h
theorem Di {K:PySem.W.Frag} {H:Hp} {vs:List V} (h:Bk K H [] vs):vs = []:=by unfold Bk at h; exact h
theorem AcJ {n:Nat} (F:Ba K mg "_law_numbered" ["_law_part", "_law_k"] Dv) (T:Txt mg) (aG:Am P w K mg base n "_law_numbered" ["_law_part", "_law_k"] (Ni K n)):Am P w K mg base (n + 1) "_law_numbered" ["_law_part", "_law_k"] (Ni K (n + 1)):=by
 refine F.ok Bp (λ vs H Q E h=>?_) (λ f cdv A outer s H vs Q E hr h=>?_)
 ·obtain ⟨v,r,k,rfl,_⟩:=h; rfl
 obtain ⟨v,r,k,rfl,av,hh,q⟩:=h
 refine ⟨_,(Ae (Bh (i:=2) Bp.nd rfl (Or.inl rfl) (Ao Ap (pv 0) Ag (λ _ _=>rfl)))
  (Ae (Bn (As Bm (pv 2) An (Ax _))
   (Ai (Aw (Be (Aa (Be (Aa An (Aa (pv 1) Ac))) (Aa (Bj Ds (pv 1) Ag) Ac)))))
   Bc)
  (Ae (Bn (PW.pt (D8 (As Bm (pv 2) An (Ax _)) (D8 (As Bm (pv 2) An (Ax _)) (E8 (As Bm (pv 2) An (Ax _))))))
   (Ai (Aw (Be (Aa (pv 0) (Aa (pv 1) Ac)))))
   Bc)
  (Ae (Bn (As Bm (pv 2) An (Ax _))
   (Ae (Fq (Av aG hr rfl Al (Aa (Ao Ap (pv 0) Ag (λ _ _=>rfl)) (Aa (pv 1) Ac))) (Fs rfl (B0 (A3 (i:=3) Bp.nd rfl (Or.inl rfl)) (B0 (A3 (i:=1) Bp.nd rfl (Or.inl rfl)) Ep))))
  (Ai (Aw (Be (Aa (Be (Aa An (Aa (pv 1) (Aa (pv 3) Ac)))) (Aa (Bj Ds (pv 1) Ag) Ac))))))
   Bc)
  (Ae (Bn (As Bm (pv 2) An (Ax _))
   (Ae (Fq (Av aG hr rfl Al (Aa (Ao Ap (pv 0) Ag (λ _ _=>rfl)) (Aa (pv 1) Ac))) (Fs rfl (B0 (A3 (i:=3) Bp.nd rfl (Or.inl rfl)) (B0 (A3 (i:=1) Bp.nd rfl (Or.inl rfl)) Ep))))
  (Ai (Aw (Be (Aa (Be (Aa An (Aa (pv 3) Ac))) (Aa (pv 1) Ac))))))
   Bc)
  (Ae (Bn (PW.pt (D8 (As Bm (pv 2) An (Ax _)) (E8 (As Bm (pv 2) An (Ax _)))))
   (Ae (Fq (Av aG hr rfl Al (Aa (Ao Ap (pv 0) Ag (λ _ _=>rfl)) (Aa (pv 1) Ac))) (Fs rfl (B0 (A3 (i:=3) Bp.nd rfl (Or.inl rfl)) (B0 (A3 (i:=1) Bp.nd rfl (Or.inl rfl)) Ep))))
  (Ai (Aw (Be (Aa (Be (Aa (pv 2) (Aa (Ao Ap (pv 0) Ag (λ _ _=>rfl)) (Aa (pv 3) Ac)))) (Aa (pv 1) Ac))))))
   Bc)
  (Ae (Fq (Av aG hr rfl Al (Aa (Ao Ap (pv 0) (Mj Kc Ag) (λ _ _=>rfl)) (Aa (pv 1) Ac))) (Fs rfl (B0 (A3 (i:=3) Bp.nd rfl (Or.inl rfl)) (B0 (A3 (i:=1) Bp.nd rfl (Or.inl rfl)) Ep))))
  (Ae (Fq (Av aG hr rfl Al (Aa (Ao Ap (pv 0) (Mj Kc Ag) (λ _ _=>rfl)) (Aa (pv 1) Ac))) (Fs rfl (B0 (A3 (i:=4) Bp.nd rfl (Or.inl rfl)) (B0 (A3 (i:=1) Bp.nd rfl (Or.inl rfl)) Ep))))
  (Ai (Aw (Be (Aa (Bj Aax (Ra AcG (pv 0) Abm (Op (Mj Kc Ag))) (Be (Aa (pv 3) (Aa (pv 4) Ac)))) (Aa (pv 1) Ac))))))))))))),?_⟩
 cases r with
 | nothing =>
  obtain ⟨a,vs,rfl,ha,hx⟩:=av.get
  obtain ⟨v0,r0,rfl,h0,hx0⟩:=Bv hx
  cases h0.str
  cases Di hx0
  refine ⟨_,Z,a,_,_,_,Z,Z,ha.sq,Ah (j:=0) rfl,?_⟩
  refine ⟨_,Z,Z,_,Z,Ay (λ c=>absurd c (by decide +kernel)) λ _=>⟨_,Z,Z,_,Z,Ay (λ _=>Dy ⟨_,Z,_,Z,zN2,λ t ht=>?_⟩) λ c=>absurd (by decide +kernel) c⟩⟩
  exact q t _ _ (Ad ht _) Ab (.t (ha.mono (Ad ht _).tp) (.cons .s .nil))
 | rest =>
  obtain ⟨a,vs,rfl,ha,hx⟩:=av.get
  obtain ⟨v0,r0,rfl,h0,hx0⟩:=Bv hx
  cases h0.str
  cases Di hx0
  refine ⟨_,Z,a,_,_,_,Z,Z,ha.sq,Ah (j:=0) rfl,?_⟩
  refine ⟨_,Z,Z,_,Z,Ay (λ _=>⟨_,Z,zN2,λ t1 ht1=>⟨_,Z,_,_,Z,Z,zN2,λ t ht=>?_⟩⟩) λ c=>absurd (by decide +kernel) c⟩
  obtain ⟨g,n1,n2⟩:=Kw (a:=.tup [V.str "rest", .int k]) (b:=.tup [.ref t1,.int (k + 1)]) ht1 ht
  exact q t _ _ g n2 (.t (.inl n1) (.cons .s (.cons .i .nil)))
 | send s =>
  obtain ⟨a,vs,rfl,ha,hx⟩:=av.get
  obtain ⟨v0,r0,rfl,h0,hx0⟩:=Bv hx
  cases h0.str
  obtain ⟨w1,r1,rfl,h1,hx1⟩:=Bv hx0
  cases h1.int
  cases Di hx1
  refine ⟨_,Z,a,_,_,_,Z,Z,ha.sq,Ah (j:=0) rfl,?_⟩
  refine ⟨_,Z,Z,_,Z,Ay (λ c=>absurd c (by decide +kernel)) λ _=>⟨_,Z,Z,_,Z,Ay (λ c=>absurd c (by decide +kernel)) λ _=>⟨_,Z,Z,_,Z,Ay (λ _=>Dy ⟨_,Z,_,Z,zN2,λ t ht=>?_⟩) λ c=>absurd (by decide +kernel) c⟩⟩⟩
  exact q t _ _ (Ad ht _) Ab (.t (ha.mono (Ad ht _).tp) (.cons .s (.cons .i .nil)))
 | exit d =>
  obtain ⟨a,vs,rfl,ha,hx⟩:=av.get
  obtain ⟨v0,r0,rfl,h0,hx0⟩:=Bv hx
  cases h0.str
  obtain ⟨w1,r1,rfl,h1,hx1⟩:=Bv hx0
  cases h1.int
  cases Di hx1
  refine ⟨_,Z,a,_,_,_,Z,Z,ha.sq,Ah (j:=0) rfl,?_⟩
  refine ⟨_,Z,Z,_,Z,Ay (λ c=>absurd c (by decide +kernel)) λ _=>⟨_,Z,Z,_,Z,Ay (λ c=>absurd c (by decide +kernel)) λ _=>⟨_,Z,Z,_,Z,Ay (λ c=>absurd c (by decide +kernel)) λ _=>⟨_,Z,Z,_,Z,Ay (λ _=>⟨_,Z,_,Z,zN2,λ t ht=>?_⟩) λ c=>absurd (by decide +kernel) c⟩⟩⟩⟩
  exact q t _ _ (Ad ht _) Ab (.t (ha.mono (Ad ht _).tp) (.cons .s (.cons .i .nil)))
 | again p =>
  obtain ⟨a,vs,rfl,ha,hx⟩:=av.get
  obtain ⟨v0,r0,rfl,h0,hx0⟩:=Bv hx
  cases h0.str
  obtain ⟨w1,r1,rfl,h1,hx1⟩:=Bv hx0
  cases Di hx1
  refine ⟨_,Z,a,_,_,_,Z,Z,ha.sq,Ah (j:=0) rfl,?_⟩
  refine ⟨_,Z,Z,_,Z,Ay (λ c=>absurd c (by decide +kernel)) λ _=>⟨_,Z,Z,_,Z,Ay (λ c=>absurd c (by decide +kernel)) λ _=>⟨_,Z,Z,_,Z,Ay (λ c=>absurd c (by decide +kernel)) λ _=>⟨_,Z,Z,_,Z,Ay (λ c=>absurd c (by decide +kernel)) λ _=>⟨_,Z,Z,_,Z,Ay (λ _=>⟨_,Z,a,_,_,_,Z,Z,ha.sq,Ah (j:=1) rfl,_,Z,_,p,k,Z,h1,(by simp only [Rp.hg] at hh; omega),λ t1 u1 H1 g1 e1 P1=>?_⟩) λ c=>absurd (by decide +kernel) c⟩⟩⟩⟩⟩
  refine ⟨t1,_,Z,SqT.of e1,Z,_,_,Z,_,_,Z,Z,?_⟩
  refine ⟨_,Z,_,Z,zN3,λ t2 ht2=>⟨_,Z,_,_,Z,Z,zN2,λ t ht=>?_⟩⟩
  obtain ⟨g,n1,n2⟩:=Kw (a:=.tup [V.str "again", .int (num p k).2,u1]) (b:=.tup [.ref t2,.int ((num p k).2 + 1)]) ht2 ht
  exact q t _ _ (g1.trans g) n2 (.t (.inl n1) (.cons .s (.cons .i (.cons (P1.mono g.tp) .nil))))
 | trap p =>
  obtain ⟨a,vs,rfl,ha,hx⟩:=av.get
  obtain ⟨v0,r0,rfl,h0,hx0⟩:=Bv hx
  cases h0.str
  obtain ⟨w1,r1,rfl,h1,hx1⟩:=Bv hx0
  cases Di hx1
  refine ⟨_,Z,a,_,_,_,Z,Z,ha.sq,Ah (j:=0) rfl,?_⟩
  refine ⟨_,Z,Z,_,Z,Ay (λ c=>absurd c (by decide +kernel)) λ _=>⟨_,Z,Z,_,Z,Ay (λ c=>absurd c (by decide +kernel)) λ _=>⟨_,Z,Z,_,Z,Ay (λ c=>absurd c (by decide +kernel)) λ _=>⟨_,Z,Z,_,Z,Ay (λ c=>absurd c (by decide +kernel)) λ _=>⟨_,Z,Z,_,Z,Ay (λ c=>absurd c (by decide +kernel)) λ _=>⟨_,Z,Z,_,Z,Ay (λ _=>⟨_,Z,a,_,_,_,Z,Z,ha.sq,Ah (j:=1) rfl,_,Z,_,p,k,Z,h1,(by simp only [Rp.hg] at hh; omega),λ t1 u1 H1 g1 e1 P1=>?_⟩) λ c=>absurd (by decide +kernel) c⟩⟩⟩⟩⟩⟩
  refine ⟨t1,_,Z,SqT.of e1,Z,_,_,Z,_,_,Z,Z,?_⟩
  refine ⟨_,Z,zN2,λ t2 ht2=>⟨_,Z,zN2,λ t ht=>?_⟩⟩
  obtain ⟨g,n1,n2⟩:=Kw (a:=.tup [V.str "trap", u1]) (b:=.tup [.ref t2,.int (num p k).2]) ht2 ht
  exact q t _ _ (g1.trans g) n2 (.t (.inl n1) (.cons .s (.cons (P1.mono g.tp) .nil)))
 | hold s p =>
  obtain ⟨a,vs,rfl,ha,hx⟩:=av.get
  obtain ⟨v0,r0,rfl,h0,hx0⟩:=Bv hx
  cases h0.str
  obtain ⟨w1,r1,rfl,h1,hx1⟩:=Bv hx0
  cases h1.int
  obtain ⟨w2,r2,rfl,h2,hx2⟩:=Bv hx1
  cases Di hx2
  refine ⟨_,Z,a,_,_,_,Z,Z,ha.sq,Ah (j:=0) rfl,?_⟩
  refine ⟨_,Z,Z,_,Z,Ay (λ c=>absurd c (by decide +kernel)) λ _=>⟨_,Z,Z,_,Z,Ay (λ c=>absurd c (by decide +kernel)) λ _=>⟨_,Z,Z,_,Z,Ay (λ c=>absurd c (by decide +kernel)) λ _=>⟨_,Z,Z,_,Z,Ay (λ c=>absurd c (by decide +kernel)) λ _=>⟨_,Z,Z,_,Z,Ay (λ c=>absurd c (by decide +kernel)) λ _=>⟨_,Z,Z,_,Z,Ay (λ c=>absurd c (by decide +kernel)) λ _=>⟨_,Z,Z,_,Z,Ay (λ _=>Dy ⟨_,Z,a,_,_,_,Z,Z,ha.sq,Ah (j:=2) rfl,_,Z,_,p,k,Z,h2,(by simp only [Rp.hg] at hh; omega),λ t1 u1 H1 g1 e1 P1=>?_⟩) λ c=>absurd (by decide +kernel) c⟩⟩⟩⟩⟩⟩⟩
  have ha1:=ha.mono g1.tp
  refine ⟨t1,_,Z,SqT.of e1,Z,_,_,Z,_,_,Z,Z,?_⟩
  refine ⟨_,Z,_,Z,a,_,_,_,Z,Z,ha1.sq,Ah (j:=1) rfl,_,Z,zN3,λ t2 ht2=>⟨_,Z,zN2,λ t ht=>?_⟩⟩
  obtain ⟨g,n1,n2⟩:=Kw (a:=.tup [V.str "hold", .int s,u1]) (b:=.tup [.ref t2,.int (num p k).2]) ht2 ht
  exact q t _ _ (g1.trans g) n2 (.t (.inl n1) (.cons .s (.cons .i (.cons (P1.mono g.tp) .nil))))
 | watch s p =>
  obtain ⟨a,vs,rfl,ha,hx⟩:=av.get
  obtain ⟨v0,r0,rfl,h0,hx0⟩:=Bv hx
  cases h0.str
  obtain ⟨w1,r1,rfl,h1,hx1⟩:=Bv hx0
  cases h1.int
  obtain ⟨w2,r2,rfl,h2,hx2⟩:=Bv hx1
  cases Di hx2
  refine ⟨_,Z,a,_,_,_,Z,Z,ha.sq,Ah (j:=0) rfl,?_⟩
  refine ⟨_,Z,Z,_,Z,Ay (λ c=>absurd c (by decide +kernel)) λ _=>⟨_,Z,Z,_,Z,Ay (λ c=>absurd c (by decide +kernel)) λ _=>⟨_,Z,Z,_,Z,Ay (λ c=>absurd c (by decide +kernel)) λ _=>⟨_,Z,Z,_,Z,Ay (λ c=>absurd c (by decide +kernel)) λ _=>⟨_,Z,Z,_,Z,Ay (λ c=>absurd c (by decide +kernel)) λ _=>⟨_,Z,Z,_,Z,Ay (λ c=>absurd c (by decide +kernel)) λ _=>⟨_,Z,Z,_,Z,Ay (λ c=>absurd c (by decide +kernel)) λ _=>⟨_,Z,Z,_,Z,Ay (λ _=>⟨_,Z,a,_,_,_,Z,Z,ha.sq,Ah (j:=2) rfl,_,Z,_,p,k,Z,h2,(by simp only [Rp.hg] at hh; omega),λ t1 u1 H1 g1 e1 P1=>?_⟩) λ c=>absurd (by decide +kernel) c⟩⟩⟩⟩⟩⟩⟩⟩
  have ha1:=ha.mono g1.tp
  refine ⟨t1,_,Z,SqT.of e1,Z,_,_,Z,_,_,Z,Z,?_⟩
  refine ⟨_,Z,_,Z,a,_,_,_,Z,Z,ha1.sq,Ah (j:=1) rfl,_,Z,zN3,λ t2 ht2=>⟨_,Z,zN2,λ t ht=>?_⟩⟩
  obtain ⟨g,n1,n2⟩:=Kw (a:=.tup [V.str "watch", .int s,u1]) (b:=.tup [.ref t2,.int (num p k).2]) ht2 ht
  exact q t _ _ (g1.trans g) n2 (.t (.inl n1) (.cons .s (.cons .i (.cons (P1.mono g.tp) .nil))))
 | iff s p p2 =>
  obtain ⟨a,vs,rfl,ha,hx⟩:=av.get
  obtain ⟨v0,r0,rfl,h0,hx0⟩:=Bv hx
  cases h0.str
  obtain ⟨w1,r1,rfl,h1,hx1⟩:=Bv hx0
  cases h1.int
  obtain ⟨w2,r2,rfl,h2,hx2⟩:=Bv hx1
  obtain ⟨w3,r3,rfl,h3,hx3⟩:=Bv hx2
  cases Di hx3
  refine ⟨_,Z,a,_,_,_,Z,Z,ha.sq,Ah (j:=0) rfl,?_⟩
  refine ⟨_,Z,Z,_,Z,Ay (λ c=>absurd c (by decide +kernel)) λ _=>⟨_,Z,Z,_,Z,Ay (λ c=>absurd c (by decide +kernel)) λ _=>⟨_,Z,Z,_,Z,Ay (λ c=>absurd c (by decide +kernel)) λ _=>⟨_,Z,Z,_,Z,Ay (λ c=>absurd c (by decide +kernel)) λ _=>⟨_,Z,Z,_,Z,Ay (λ c=>absurd c (by decide +kernel)) λ _=>⟨_,Z,Z,_,Z,Ay (λ c=>absurd c (by decide +kernel)) λ _=>⟨_,Z,Z,_,Z,Ay (λ c=>absurd c (by decide +kernel)) λ _=>⟨_,Z,Z,_,Z,Ay (λ c=>absurd c (by decide +kernel)) λ _=>⟨_,Z,_,Z,a,_,_,_,Z,Z,ha.sq,G4 (v:=w2) (by show 2≤4; decide) rfl,_,Z,_,p,k,Z,h2,(by simp only [Rp.hg] at hh; omega),λ t1 u1 H1 g1 e1 P1=>?_⟩⟩⟩⟩⟩⟩⟩⟩⟩
  have ha1:=ha.mono g1.tp
  refine ⟨t1,_,Z,SqT.of e1,Z,_,_,Z,_,_,Z,Z,?_⟩
  refine ⟨_,Z,_,Z,a,_,_,_,Z,Z,ha1.sq,Dz (v:=w3) rfl,_,Z,_,p2,(num p k).2,Z,h3.mono g1.tp,(by simp only [Rp.hg] at hh; omega),λ t2 u2 H2 g2 e2 P2=>?_⟩
  have ha2:=ha1.mono g2.tp
  refine ⟨t2,_,Z,SqT.of e2,Z,_,_,Z,_,_,Z,Z,?_⟩
  refine ⟨_,Z,_,Z,_,Z,a,_,Z,ha2.sq,(λ z=>absurd (show HT.sIx 4 4 (some (-2)) = 4 from z.2) (by decide)),λ p1 hp1=>⟨_,Z,_,Z,zN2,λ q1 hq1=>?_⟩⟩
  have k1:=Ad hp1 (.tup (Ie [V.str "if", .int s,w2,w3] none (some (-2))))
  have k2:=Ad hq1 (.tup [u1,u2])
  refine ⟨p1,q1,[V.str "if", .int s],[u1,u2],Z,Z,SqT.of (k2 _ _ Ab),SqT.of Ab,(λ z=>nomatch z),zN4,(λ z=>nomatch z),λ _ q2 hq2=>⟨_,Z,zN2,λ t ht=>?_⟩⟩
  have k3:=Ad hq2 (.tup ([V.str "if", .int s] ++ [u1,u2]))
  have k4:=Ad ht (.tup [.ref q2,.int (num p2 (num p k).2).2])
  have gg:=((k1.trans k2).trans k3).trans k4
  exact q t _ _ ((g1.trans g2).trans gg) Ab (.t (.inl (k4 _ _ Ab)) (.cons .s (.cons .i (.cons ((P1.mono g2.tp).mono gg.tp) (.cons (P2.mono gg.tp) .nil)))))
 | thn p p2 =>
  obtain ⟨a,vs,rfl,ha,hx⟩:=av.get
  obtain ⟨v0,r0,rfl,h0,hx0⟩:=Bv hx
  cases h0.str
  obtain ⟨w1,r1,rfl,h1,hx1⟩:=Bv hx0
  obtain ⟨w2,r2,rfl,h2,hx2⟩:=Bv hx1
  cases Di hx2
  refine ⟨_,Z,a,_,_,_,Z,Z,ha.sq,Ah (j:=0) rfl,?_⟩
  refine ⟨_,Z,Z,_,Z,Ay (λ c=>absurd c (by decide +kernel)) λ _=>⟨_,Z,Z,_,Z,Ay (λ c=>absurd c (by decide +kernel)) λ _=>⟨_,Z,Z,_,Z,Ay (λ c=>absurd c (by decide +kernel)) λ _=>⟨_,Z,Z,_,Z,Ay (λ c=>absurd c (by decide +kernel)) λ _=>⟨_,Z,Z,_,Z,Ay (λ c=>absurd c (by decide +kernel)) λ _=>⟨_,Z,Z,_,Z,Ay (λ c=>absurd c (by decide +kernel)) λ _=>⟨_,Z,Z,_,Z,Ay (λ c=>absurd c (by decide +kernel)) λ _=>⟨_,Z,Z,_,Z,Ay (λ c=>absurd c (by decide +kernel)) λ _=>⟨_,Z,_,Z,a,_,_,_,Z,Z,ha.sq,G4 (v:=w1) (by show 2≤3; decide) rfl,_,Z,_,p,k,Z,h1,(by simp only [Rp.hg] at hh; omega),λ t1 u1 H1 g1 e1 P1=>?_⟩⟩⟩⟩⟩⟩⟩⟩⟩
  have ha1:=ha.mono g1.tp
  refine ⟨t1,_,Z,SqT.of e1,Z,_,_,Z,_,_,Z,Z,?_⟩
  refine ⟨_,Z,_,Z,a,_,_,_,Z,Z,ha1.sq,Dz (v:=w2) rfl,_,Z,_,p2,(num p k).2,Z,h2.mono g1.tp,(by simp only [Rp.hg] at hh; omega),λ t2 u2 H2 g2 e2 P2=>?_⟩
  have ha2:=ha1.mono g2.tp
  refine ⟨t2,_,Z,SqT.of e2,Z,_,_,Z,_,_,Z,Z,?_⟩
  refine ⟨_,Z,_,Z,_,Z,a,_,Z,ha2.sq,(λ z=>absurd (show HT.sIx 3 3 (some (-2)) = 3 from z.2) (by decide)),λ p1 hp1=>⟨_,Z,_,Z,zN2,λ q1 hq1=>?_⟩⟩
  have k1:=Ad hp1 (.tup (Ie [V.str "then", w1,w2] none (some (-2))))
  have k2:=Ad hq1 (.tup [u1,u2])
  refine ⟨p1,q1,[V.str "then"],[u1,u2],Z,Z,SqT.of (k2 _ _ Ab),SqT.of Ab,(λ z=>nomatch z),zN3,(λ z=>nomatch z),λ _ q2 hq2=>⟨_,Z,zN2,λ t ht=>?_⟩⟩
  have k3:=Ad hq2 (.tup ([V.str "then"] ++ [u1,u2]))
  have k4:=Ad ht (.tup [.ref q2,.int (num p2 (num p k).2).2])
  have gg:=((k1.trans k2).trans k3).trans k4
  exact q t _ _ ((g1.trans g2).trans gg) Ab (.t (.inl (k4 _ _ Ab)) (.cons .s (.cons ((P1.mono g2.tp).mono gg.tp) (.cons (P2.mono gg.tp) .nil))))
 | bes p p2 =>
  obtain ⟨a,vs,rfl,ha,hx⟩:=av.get
  obtain ⟨v0,r0,rfl,h0,hx0⟩:=Bv hx
  cases h0.str
  obtain ⟨w1,r1,rfl,h1,hx1⟩:=Bv hx0
  obtain ⟨w2,r2,rfl,h2,hx2⟩:=Bv hx1
  cases Di hx2
  refine ⟨_,Z,a,_,_,_,Z,Z,ha.sq,Ah (j:=0) rfl,?_⟩
  refine ⟨_,Z,Z,_,Z,Ay (λ c=>absurd c (by decide +kernel)) λ _=>⟨_,Z,Z,_,Z,Ay (λ c=>absurd c (by decide +kernel)) λ _=>⟨_,Z,Z,_,Z,Ay (λ c=>absurd c (by decide +kernel)) λ _=>⟨_,Z,Z,_,Z,Ay (λ c=>absurd c (by decide +kernel)) λ _=>⟨_,Z,Z,_,Z,Ay (λ c=>absurd c (by decide +kernel)) λ _=>⟨_,Z,Z,_,Z,Ay (λ c=>absurd c (by decide +kernel)) λ _=>⟨_,Z,Z,_,Z,Ay (λ c=>absurd c (by decide +kernel)) λ _=>⟨_,Z,Z,_,Z,Ay (λ c=>absurd c (by decide +kernel)) λ _=>⟨_,Z,_,Z,a,_,_,_,Z,Z,ha.sq,G4 (v:=w1) (by show 2≤3; decide) rfl,_,Z,_,p,k,Z,h1,(by simp only [Rp.hg] at hh; omega),λ t1 u1 H1 g1 e1 P1=>?_⟩⟩⟩⟩⟩⟩⟩⟩⟩
  have ha1:=ha.mono g1.tp
  refine ⟨t1,_,Z,SqT.of e1,Z,_,_,Z,_,_,Z,Z,?_⟩
  refine ⟨_,Z,_,Z,a,_,_,_,Z,Z,ha1.sq,Dz (v:=w2) rfl,_,Z,_,p2,(num p k).2,Z,h2.mono g1.tp,(by simp only [Rp.hg] at hh; omega),λ t2 u2 H2 g2 e2 P2=>?_⟩
  have ha2:=ha1.mono g2.tp
  refine ⟨t2,_,Z,SqT.of e2,Z,_,_,Z,_,_,Z,Z,?_⟩
  refine ⟨_,Z,_,Z,_,Z,a,_,Z,ha2.sq,(λ z=>absurd (show HT.sIx 3 3 (some (-2)) = 3 from z.2) (by decide)),λ p1 hp1=>⟨_,Z,_,Z,zN2,λ q1 hq1=>?_⟩⟩
  have k1:=Ad hp1 (.tup (Ie [V.str "beside", w1,w2] none (some (-2))))
  have k2:=Ad hq1 (.tup [u1,u2])
  refine ⟨p1,q1,[V.str "beside"],[u1,u2],Z,Z,SqT.of (k2 _ _ Ab),SqT.of Ab,(λ z=>nomatch z),zN3,(λ z=>nomatch z),λ _ q2 hq2=>⟨_,Z,zN2,λ t ht=>?_⟩⟩
  have k3:=Ad hq2 (.tup ([V.str "beside"] ++ [u1,u2]))
  have k4:=Ad ht (.tup [.ref q2,.int (num p2 (num p k).2).2])
  have gg:=((k1.trans k2).trans k3).trans k4
  exact q t _ _ ((g1.trans g2).trans gg) Ab (.t (.inl (k4 _ _ Ab)) (.cons .s (.cons ((P1.mono g2.tp).mono gg.tp) (.cons (P2.mono gg.tp) .nil))))
theorem Um (F:Ba K mg "_law_numbered" ["_law_part", "_law_k"] Dv) (T:Txt mg):∀ n:Nat,Am P w K mg base n "_law_numbered" ["_law_part", "_law_k"] (Ni K n)
 | 0=>F.zero (sp:=Ni K 0) λ vs H Q E ⟨v,r,k,_,_,hh,_⟩=>absurd hh (not_le_of_gt r.hg_pos)
 | n + 1=>AcJ F T (Um F T n)
theorem V2 (xs:List V) (j:Nat):(Ie xs (some 1) (some (1 + (j:Int)))) = (xs.drop 1).take j:=by
 unfold Ie
 rw [show (some (1:Int)) = some ((1:Nat):Int) from rfl,show (some (1 + (j:Int))) = some ((1 + j:Nat):Int) by simp,HT.Adq,HT.Adq]
 rcases Nat.le_total xs.length 1 with h | h
 ·have e:xs.drop 1 = []:=List.drop_eq_nil_of_le h
  rw [Nat.min_eq_right h,List.drop_eq_nil_of_le (le_refl _),e]
  simp
 ·rw [Nat.min_eq_left h]
  rcases Nat.le_total (1 + j) xs.length with h2 | h2
  ·rw [Nat.min_eq_left h2,Nat.add_sub_cancel_left]
  ·rw [Nat.min_eq_right h2,take_of_length_le (by simp),take_of_length_le (by simp; omega)]
theorem Abb (F:Ba K mg "_law_program" ["_law_script", "_law_most"] Fm) (T:Txt mg) (eK:Am P w K mg base 2 "_law_at" ["_law_script", "_law_k"] (AcK K)) (cW:Am P w K mg base 62 "_law_body" ["_law_cells", "_law_signs"] (Yo K)) (aG:Am P w K mg base 63 "_law_numbered" ["_law_part", "_law_k"] (Ni K 63)):Am P w K mg base 64 "_law_program" ["_law_script", "_law_most"] (Yl K):=by
 refine F.ok Cn (λ vs H Q E h=>?_) (λ f cdv A outer s H vs Q E hr h=>?_)
 ·obtain ⟨a,ns,j,rfl,_⟩:=h; rfl
 obtain ⟨a,ns,j,rfl,hS,hj,q⟩:=h
 refine ⟨_,(Ae (Bh (i:=2) Cn.nd rfl (Or.inl rfl) (Av eK hr rfl Al (Aa (pv 0) (Aa Ag Ac))))
  (Ae (Bh (i:=3) Cn.nd rfl (Or.inl rfl) (Bj C6 (pv 2) Ag))
  (Ae (Bh (i:=4) Cn.nd rfl (Or.inl rfl) (Bj C6 (Bj Er (pv 2) Ag) Ag))
  (Ae (Bh (i:=5) Cn.nd rfl (Or.inl rfl) (A4 (Yr rfl) rfl T.n_max (by decide +kernel) (Aa Ag (Aa (Bj Ds (Bj Ds (pv 3) (pv 4)) (Bj C6 (Bj Er (pv 2) Ag) Ag)) Ac))))
  (Ae (Fq (Av aG hr rfl Al (Aa (Av cW hr rfl Al (Aa (Ra Aay (pv 0) (Op Ag) (Op (Bj Ds Ag (pv 1)))) (Aa (pv 5) Ac))) (Aa Ag Ac))) (Fs rfl (B0 (A3 (i:=6) Cn.nd rfl (Or.inl rfl)) (B0 (A3 (i:=7) Cn.nd rfl (Or.inl rfl)) Ep))))
  (Ai (Aw (AbF (Ir (Acj (Ir (qe (pv 3)) (Ir (qe (pv 4)) (Ir (qe (pv 5)) (Ir (qe (pv 6)) Wf Hv) Hv) Hv) Hv)) (Ir (qe (pv 7)) Wf Hv) R5))))))))),?_⟩
 refine ⟨_,Z,a,ns,0,Z,hS,Int.le_refl _,λ m hm=>?_⟩
 refine ⟨_,Z,_,_,Z,Z,(by show (0:Int) < 4; decide),?_⟩
 refine ⟨_,Z,_,_,Z,Z,⟨by decide,by decide⟩,_,_,Z,Z,(by show (0:Int) < 3; decide),?_⟩
 refine ⟨_,Z,_,Z,_,_,Z,Z,_,Z,_,_,Z,Z,⟨by decide,by decide⟩,_,_,Z,Z,(by show (0:Int) < 3; decide),_,_,Z,Z,_,_,Z,?_⟩
 obtain ⟨c,ec⟩:=Int.eq_ofNat_of_zero_le (Int.emod_nonneg m (show (4:Int)≠0 by decide))
 have b1:=Int.emod_lt_of_pos m (show (0:Int) < 4 by decide)
 have b2:=Int.emod_nonneg (m / 4) (show (3:Int)≠0 by decide)
 have b3:=Int.emod_lt_of_pos (m / 4) (show (0:Int) < 3 by decide)
 have b4:=Int.emod_nonneg (m / 12) (show (3:Int)≠0 by decide)
 have b5:=Int.emod_lt_of_pos (m / 12) (show (0:Int) < 3 by decide)
 obtain ⟨n,en,n1,n2,n3⟩:∃ n:Nat,(if m % 4 + m / 4 % 3 + m / 12 % 3 > 1 then m % 4 + m / 4 % 3 + m / 12 % 3 else 1) = (n:Int)∧1≤n∧n≤10∧c≤n:=by
  split
  ·exact ⟨(m % 4 + m / 4 % 3 + m / 12 % 3).toNat,by omega,by omega,by omega,by omega⟩
  ·exact ⟨1,Z,by omega,by omega,by omega⟩
 rw [en]
 dsimp only [B1]
 rw [ec]
 refine ⟨_,Z,_,Z,_,Z,_,_,Z,Z,_,Z,a,_,Z,hS,λ c1 hc1=>?_⟩
 rw [show Ie (ns.map V.int) (some 1) (some (1 + (j:Int))) = ((ns.map V.int).drop 1).take j from V2 _ j,← List.map_drop,← List.map_take]
 have k1:=Ad hc1 (.lst (((ns.drop 1).take j).map V.int))
 refine ⟨_,Z,c1,_,(n:Int),Z,SqL.of Ab,by rw [length_take]; omega,by omega,λ v r H1 g1 P1 ok1 h1 w1 z1=>?_⟩
 refine ⟨v,r,0,Z,P1,by omega,λ t1 u1 H2 g2 e2 P2=>?_⟩
 refine ⟨t1,_,Z,SqT.of e2,Z,_,_,Z,_,_,Z,Z,?_⟩
 refine ⟨_,Z,_,Z,_,Z,_,Z,zN4,λ pr hpr=>⟨_,Z,zN2,λ t ht=>?_⟩⟩
 obtain ⟨g,a1,a2⟩:=Kw (a:=.tup [.int (c:Int),.int (m / 4 % 3),.int (n:Int),u1]) (b:=.tup [.ref pr,.int (num r 0).2]) hpr ht
 have gg:=k1.trans (g1.trans (g2.trans g))
 exact q t pr c n _ u1 r _ gg a2 a1 n3 n1 n2 (P2.mono g.tp) ok1 h1 w1 z1
end
def GL (s:Ws):Prop:=∀ g∈s.gs,g.2.length≤64
theorem GL.add {s:Ws} (h:GL s) {w:Str} {ns:List Int} (hl:ns.length≤64):GL (s.add w ns):=λ g hg=>by
 have hg:g∈s.gs ++ [(w,ns)]:=hg
 rcases mem_append.mp hg with z | z
 ·exact h g z
 ·rw [mS z]; exact hl
theorem GL.fil {s:Ws} (h:GL s) {k:Int} {w:Str} {ns:List Int} (hl:ns.length≤64):GL (s.fil k w ns):=λ g hg=>by
 have hg:g∈s.gs.set k.toNat (w,ns):=hg
 rcases List.mem_or_eq_of_mem_set hg with z | z
 ·exact h g z
 ·rw [z]; exact hl
theorem GL.gsq {s s':Ws} (h:GL s) (e:s'.gs = s.gs):GL s':=λ g hg=>h g (by rw [e] at hg; exact hg)
theorem GL.som {s:Ws} (h:GL s) {ns:List Int} (hl:ns.length≤64):GL (s.som ns).2:=by
 unfold Ws.som
 split
 ·exact h
 ·exact h.add hl
theorem Ze (ps:Cd) (c:Int):(Fj ps c).length≤ps.length:=by unfold Fj; rw [length_map]; exact length_filter_le _ _
theorem GL.jnd {s:Ws} (h:GL s) {ps:Cd} (hl:ps.length≤64):GL (s.jnd ps).2:=by
 have k:∀ (cs:List Int) (a:Cd× Ws),GL a.2→GL (cs.foldl (jstep ps) a).2:=by
  intro cs
  induction cs with
  | nil=>intro a h; exact h
  | cons c cs ih=>intro a h; rw [foldl_cons]; exact ih _ (GL.som h (le_trans (Ze ps c) hl))
 exact k _ ([],s) h
theorem GL.cg {s:Ws} (h:GL s) (cs:Cd) (c:Int):GL (cgt cs c s).2:=by
 unfold cgt
 split
 ·exact h
 ·exact h.som (zero_le _)
theorem AcZ (d:Cd) (c:Int):(leC d c).length≤d.length:=by
 unfold leC
 rw [length_map]
 exact le_trans (length_filter_le _ _) (by rw [length_map]; exact le_refl _)
theorem GL.grc {s:Ws} (h:GL s) {c0 c1:Cd} (h0:c0.length≤64) (h1:c1.length≤64):GL (s.grc c0 c1).2:=by
 have hc:∀ d∈[c0,c1],d.length≤64:=λ d hd=>by
  rcases mem_cons.mp hd with z | z
  ·rw [z]; exact h0
  ·rw [mS z]; exact h1
 have nf:∀ (c:Int) (l:List Cd) (a:List Int× Ws),(∀ d∈l,d.length≤64)→GL a.2→GL (l.foldl (nstep c) a).2∧(l.foldl (nstep c) a).1.length = a.1.length + l.length:=by
  intro c l
  induction l with
  | nil=>intro a _ h; exact ⟨h,rfl⟩
  | cons d l ih =>
   intro a hd h
   rw [foldl_cons]
   have i:=ih (nstep c a d) (λ e he=>hd e (mem_cons_of_mem _ he)) (GL.som h (le_trans (AcZ d c) (hd d mem_cons_self)))
   refine ⟨i.1,?_⟩
   rw [i.2]
   unfold nstep
   rw [length_append,length_singleton,length_cons]
   omega
 have k:∀ (ks:List Int) (a:Cd× Ws),GL a.2→GL (ks.foldl (gstep [c0,c1]) a).2:=by
  intro ks
  induction ks with
  | nil=>intro a h; exact h
  | cons c ks ih =>
   intro a h
   rw [foldl_cons]
   have hh:(Bu [c0,c1] c).length≤64:=by
    unfold Bu
    exact le_trans (List.length_filterMap_le _ _) (by show 2≤64; decide)
   obtain ⟨n1,n2⟩:=nf c [c0,c1] ([(a.2.som (Bu [c0,c1] c)).1],(a.2.som (Bu [c0,c1] c)).2) hc (GL.som h hh)
   exact ih (gstep [c0,c1] a c) (GL.add n1 (le_trans (le_of_eq n2) (by show 1 + 2≤64; decide)))
 exact k _ ([],s) h
theorem GL.lvg {s:Ws} (h:GL s) (k y z m c:Int):GL (s.lvg k y z m c):=GL.gsq (((h.add (by show 2≤64; decide)).add (by show 2≤64; decide)).add (by show 2≤64; decide)) rfl
theorem GL.add3 {s:Ws} (h:GL s):GL s.add3:=((h.add (zero_le _)).add (zero_le _)).add (zero_le _)
theorem Zg {x y z rr:Int} {r1 r2:Wr} {s:Ws} (h:GL s) (h1:r1.codes.length≤6) (h2:r2.codes.length≤6):GL (wThen x y z rr r1 r2 s).2:=by
 unfold wThen
 dsimp only
 refine GL.jnd (GL.fil (GL.cg (GL.fil ((h.add (by show 2≤64; decide)).add (by show 1≤64; decide)) (by show 2≤64; decide)) _ _) (by show 2≤64; decide)) ?_
 rw [length_append]
 have:=length_filter_le (λ p:Int× Int=>!decide (p.1 = 0)) r1.codes
 omega
theorem AcA {x y z rr sg:Int} {r1 r2:Wr} {s:Ws} (h:GL s) (h1:r1.codes.length≤6) (h2:r2.codes.length≤6):GL (wIf x y z rr sg r1 r2 s).2:=by
 have st:∀ (bg:Int) (s:Ws) (it:Wr× Int),GL s→GL (Cg x bg s it):=λ bg s it h=>GL.fil ((h.add (by show 2≤64; decide)).add (by show 2≤64; decide)) (by show 2≤64; decide)
 unfold wIf
 dsimp only
 refine GL.jnd ?_ (by rw [length_append]; omega)
 exact st _ _ _ (st _ _ _ (((h.add (by show 1≤64; decide)).add (by show 2≤64; decide)).add (by show 1≤64; decide)))
theorem AbS {x y z rr:Int} {r1 r2:Wr} {s:Ws} (h:GL s) (h1:r1.codes.length≤6) (h2:r2.codes.length≤6) (k1:KO r1.codes) (k2:KO r2.codes):GL (wBes x y z rr r1 r2 s).2:=by
 have hz:∀ g:Int,KO [((0:Int),g)]:=λ g p hp=>by rw [mS hp]; exact rg0
 have st:∀ (s:Ws) (it:Wr× Wr) (g:Int),GL s→it.1.codes.length≤6→GL ((bsS x s it).jnd (it.1.codes ++ [(0,g)])).2:=λ s it g h hl=>by
  refine GL.jnd ?_ (by rw [length_append,length_singleton]; omega)
  unfold bsS
  exact (GL.fil (((h.add (by show 1≤64; decide)).add (by show 2≤64; decide)).add (by show 1≤64; decide)) (by show 2≤64; decide)).add (by show 2≤64; decide)
 have g1:=st s (r1,r2) (s.nx + 3) h h1
 have g2:=st ((bsS x s (r1,r2)).jnd (r1.codes ++ [(0,s.nx + 3)])).2 (r2,r1) (((bsS x s (r1,r2)).jnd (r1.codes ++ [(0,s.nx + 3)])).2.nx + 3) g1 h2
 have q1:=(C4 (bsS x s (r1,r2)) (k1.app (hz (s.nx + 3)))).2
 have q2:=(C4 (bsS x ((bsS x s (r1,r2)).jnd (r1.codes ++ [(0,s.nx + 3)])).2 (r2,r1)) (k2.app (hz (((bsS x s (r1,r2)).jnd (r1.codes ++ [(0,s.nx + 3)])).2.nx + 3)))).2
 exact GL.grc g2 (le_trans q1 (by decide)) (le_trans q2 (by decide))
theorem Yt {p:Pt} {x y z:Int} {r1 r2:Wr} {s:Ws} (h:GL s) (h1:r1.codes.length≤6) (h2:r2.codes.length≤6) (k1:KO r1.codes) (k2:KO r2.codes):GL (Eb p x y z r1 r2 s).2:=by
 have pf:∀ (kept:List Int) (s:Ws) (r:Wr),kept.length≤64→GL s→GL (pfS kept z s r):=λ kept s r hk h=>GL.fil (GL.fil h hk) (by show 1≤64; decide)
 have key:∀ (b:Wr× Ws× List Int),b.2.2.length≤64→GL b.2.1→GL ([r1,r2].foldl (pfS b.2.2 z) b.2.1):=λ b hk h=>pf _ _ _ hk (pf _ _ _ hk h)
 have a:GL (s.add "some" [r1.rests,r2.rests]):=h.add (by show 2≤64; decide)
 have bes:GL ([r1,r2].foldl (pfS [y,(cgt (wBes x y z s.nx r1 r2 (s.add "some" [r1.rests,r2.rests])).1.codes 1 (wBes x y z s.nx r1 r2 (s.add "some" [r1.rests,r2.rests])).2).1] z) (cgt (wBes x y z s.nx r1 r2 (s.add "some" [r1.rests,r2.rests])).1.codes 1 (wBes x y z s.nx r1 r2 (s.add "some" [r1.rests,r2.rests])).2).2):=key (⟨x,y,z,0,[]⟩,_,_) (by show 2≤64; decide) (GL.cg (AbS a h1 h2 k1 k2) _ _)
 cases p with
 | thn p q=>exact key (⟨x,y,z,0,[]⟩,_,[y]) (by show 1≤64; decide) (Zg (x:=x) (y:=y) (z:=z) (rr:=s.nx) a h1 h2)
 | iff i p q=>exact key (⟨x,y,z,0,[]⟩,_,[y]) (by show 1≤64; decide) (AcA (x:=x) (y:=y) (z:=z) (rr:=s.nx) (sg:=i) a h1 h2)
 | _=>exact bes
theorem Xn {p:Pt} {x y z:Int} {ri:Wr} {s:Ws} (rd:Ev p = true) (h:GL s) (h1:ri.codes.length≤6):GL (Cp x y z ri s p).2:=by
 have g3:GL (Cs x y z ri s):=((h.fil (by show 1≤64; decide)).fil (by show 1≤64; decide)).fil (by show 1≤64; decide)
 have g5:∀ (i:Int) (s:Ws),GL s→GL (Da i x ri s):=λ i s h=>GL.fil ((((h.add (by show 3≤64; decide)).add (by show 1≤64; decide)).add (by show 1≤64; decide)).add (by show 2≤64; decide)) (by show 2≤64; decide)
 have k1:GL (s.fil ri.kept "some" [y]):=h.fil (by show 1≤64; decide)
 cases p with
 | trap p=>exact GL.jnd g3 (by rw [length_map]; omega)
 | again k p=>exact GL.lvg (GL.cg (GL.jnd ((g3.add (by show 1≤64; decide)).add (by show 2≤64; decide)) (by rw [length_map]; omega)) _ _) _ _ _ _ _
 | hold i p=>exact GL.jnd (GL.fil ((g5 i _ k1).add (by show 2≤64; decide)) (by show 2≤64; decide)) (by rw [length_append,length_singleton]; omega)
 | watch i p=>exact GL.jnd (GL.fil (g5 i _ k1) (by show 1≤64; decide)) (by rw [length_append,length_singleton]; omega)
 | _=>cases rd
theorem AbW {n:Nat}:∀ (p:Pt) (s:Ws),okN n p→GL s→GL (wireP p s).2:=by
 have pair:∀ (p p1 p2:Pt) (s:Ws),okN n p1→okN n p2→(∀ s,GL s→GL (wireP p1 s).2)→(∀ s,GL s→GL (wireP p2 s).2)→GL s→GL (Eb p s.nx (s.nx + 1) (s.nx + 2) (wireP p1 s.add3).1 (wireP p2 (wireP p1 s.add3).2).1 (wireP p2 (wireP p1 s.add3).2).2).2:=λ p p1 p2 s o1 o2 h1 h2 h=>by
  have w1:=B9 p1 s.add3 o1
  have w2:=B9 p2 (wireP p1 s.add3).2 o2
  exact Yt (h2 _ (h1 _ h.add3)) w1.sh w2.sh w1.ko w2.ko
 have round:∀ (p p1:Pt) (s:Ws),Ev p = true→okN n p1→(∀ s,GL s→GL (wireP p1 s).2)→GL s→GL (Cp s.nx (s.nx + 1) (s.nx + 2) (wireP p1 s.add3).1 (wireP p1 s.add3).2 p).2:=λ p p1 s rd o1 h1 h=>Xn rd (h1 _ h.add3) (B9 p1 s.add3 o1).sh
 have lf:∀ (c x y z:Int) (s s':Ws),GL s→s'.gs = s.gs→GL (wLf c x y z s').2:=λ c x y z s s' h e=>(h.gsq e).add (zero_le _)
 intro p
 induction p with
 | iff i p q ihp ihq=>exact λ s ok h=>pair _ p q s ok.2.1 ok.2.2 (λ s=>ihp s ok.2.1) (λ s=>ihq s ok.2.2) h
 | thn p q ihp ihq=>exact λ s ok h=>pair _ p q s ok.1 ok.2 (λ s=>ihp s ok.1) (λ s=>ihq s ok.2) h
 | bes p q ihp ihq=>exact λ s ok h=>pair _ p q s ok.1 ok.2 (λ s=>ihp s ok.1) (λ s=>ihq s ok.2) h
 | again j p ih=>exact λ s ok h=>round _ p s rfl ok (λ s=>ih s ok) h
 | hold i p ih=>exact λ s ok h=>round _ p s rfl ok.2 (λ s=>ih s ok.2) h
 | watch i p ih=>exact λ s ok h=>round _ p s rfl ok.2 (λ s=>ih s ok.2) h
 | trap p ih=>exact λ s ok h=>round _ p s rfl ok (λ s=>ih s ok) h
 | rest j=>exact λ s ok h=>GL.lvg ((((h.add3.add (by show 1≤64; decide)).add (by show 1≤64; decide)).add (by show 2≤64; decide)).add (by show 2≤64; decide)) _ _ _ _ _
 | nothing=>exact λ s ok h=>lf _ _ _ _ _ _ h.add3 rfl
 | exit d=>exact λ s ok h=>lf _ _ _ _ _ _ h.add3 rfl
 | stay ks=>exact λ s ok h=>lf _ _ _ _ _ _ h.add3 rfl
 | send i=>exact λ s ok h=>lf 0 _ _ _ _ (s.add3.sen i s.nx) h.add3 rfl
def GLk (k:Nat) (s:Ws):Prop:=∀ g∈s.gs,g.2.length≤k
theorem GLk.add {k:Nat} {s:Ws} (h:GLk k s) {w:Str} {ns:List Int} (hl:ns.length≤k):GLk k (s.add w ns):=λ g hg=>by
 have hg:g∈s.gs ++ [(w,ns)]:=hg
 rcases mem_append.mp hg with z | z
 ·exact h g z
 ·rw [mS z]; exact hl
theorem GLk.fil {k:Nat} {s:Ws} (h:GLk k s) {i:Int} {w:Str} {ns:List Int} (hl:ns.length≤k):GLk k (s.fil i w ns):=λ g hg=>by
 have hg:g∈s.gs.set i.toNat (w,ns):=hg
 rcases List.mem_or_eq_of_mem_set hg with z | z
 ·exact h g z
 ·rw [z]; exact hl
theorem GLk.cg {k:Nat} {s:Ws} (h:GLk k s) (cs:Cd) (c:Int):GLk k (cgt cs c s).2:=by
 unfold cgt
 split
 ·exact h
 ·exact h.add (zero_le _)
theorem AcH {n:Nat} {p:Pt} (ok:okN n p) (hz:p.sz≤900):GLk 1000 (Ej n p).2:=by
 have g1:=AbW p (ws0 n) ok λ g hg=>by rw [eq_of_mem_replicate hg]; exact zero_le _
 have wk:=B9 p (ws0 n) ok
 have g1':GLk 1000 (wireP p (ws0 n)).2:=λ g hg=>le_trans (g1 g hg) (by decide)
 have g3:GLk 1000 (net3 n p):=(((g1'.add (w:= "start") (zero_le _)).fil (by show 2≤1000; decide)).fil (zero_le _)).fil (zero_le _)
 have hrw:∀ r∈(net3 n p).sn,r.length≤900:=λ r hr=>by
  have:=wk.gr.rows 0 (λ r hr=>by rw [eq_of_mem_replicate hr]; exact le_refl _) r hr
  omega
 have st:∀ (i:Nat) (s:Ws),GLk 1000 s→s.sn = (net3 n p).sn→GLk 1000 (C7 s i):=λ i s h e=>by
  refine GLk.fil (h.add (by show 1≤1000; decide)) ?_
  rw [length_cons,e,getD_eq_getElem?_getD]
  cases eg:(net3 n p).sn[i]? with
  | none=>simp
  | some r =>
   have:=hrw r (mem_of_getElem? eg)
   show r.length + 1≤1000
   omega
 have all:∀ i,GLk 1000 ((List.range i).foldl C7 (net3 n p)):=λ i=>by
  induction i with
  | zero=>exact g3
  | succ i ih =>
   rw [range_succ,foldl_append]
   exact st i _ ih (Qq _ _).2.1
 exact GLk.cg (GLk.cg (all n) _ _) _ _
inductive P4 (K:PySem.W.Frag) (m:Nat) (vs:List V) (H:Hp) (Q:VK):Prop
 | mk (v:V) (p:Pt) (n:Nat) (_:vs = [v]) (_:PAt K H p.nd v) (_:okN n p) (_:p.hg≤m) (_:∀ H',Same H H'→Q (.int (p.sz:Int)) H'):P4 K m vs H Q
def Kf (K:PySem.W.Frag) (m:Nat):Sp:=λ vs H Q _=>P4 K m vs H Q
inductive Qa  (vs:List V) (H:Hp) (Q:VK):Prop
 | mk (v:V) (g:Gw) (c n m:Nat) (_:vs = [v,.int c,.int n,.int m]) (_:GwAt H g v) (_:FmG n m c g) (_:g.2.length≤1000) (_:∀ H',Same H H'→Q (.bl true) H'):Qa  vs H Q
def O0:Sp:=λ vs H Q _=>Qa  vs H Q
inductive Sq  (vs:List V) (H:Hp) (Q:VK):Prop
 | mk (a:Addr) (xs:List Int) (m c:Nat) (_:vs = [.ref a,.int m,.int c]) (_:(H a = some (.lst (xs.map V.int))∨H a = some (.tup (xs.map V.int)))) (_:xs.length = m) (_:m≤1000) (_:(∀ x∈xs,0≤x∧x < c)) (_:∀ H',Same H H'→Q (.bl true) H'):Sq  vs H Q
def Yi:Sp:=λ vs H Q _=>Sq  vs H Q
theorem Ke (k:Nat):(List.replicate k true).all id = true:=by rw [all_eq_true]; intro x hx; rw [eq_of_mem_replicate hx]; rfl
def lfB:Pt→Bool
 | .nothing=>true
 | .rest _=>true
 | .send _=>true
 | .exit _=>true
 | _=>false
theorem Vr {p:Pt} {A B:Prop} (h1:lfB p = true→A) (h2:lfB p = false→B):if (if false = true then !inV (V.str (wdP p)) [V.str "nothing", V.str "rest", V.str "send", V.str "exit"] else inV (V.str (wdP p)) [V.str "nothing", V.str "rest", V.str "send", V.str "exit"]) = true then A else B:=by
 rw [show (if false = true then !inV (V.str (wdP p)) [V.str "nothing", V.str "rest", V.str "send", V.str "exit"] else inV (V.str (wdP p)) [V.str "nothing", V.str "rest", V.str "send", V.str "exit"]) = lfB p from by cases p <;> (dsimp only [wdP,lfB]; decide +kernel)]
 exact AcB h1 h2
inductive PsV (K:PySem.W.Frag) (H:Hp) (p:Pt) (v:V) (n m:Nat):Prop
 | lf (a:Addr) (vs:List V) (e:v = .ref a) (hs:Fi K H a (.str (wdP p) :: vs)) (h:lfB p = true) (sz:p.sz = 1):PsV K H p v n m
 | rd (a:Addr) (vs:List V) (x1:V) (p1:Pt) (e:v = .ref a) (hs:Fi K H a (.str (wdP p) :: vs)) (i1:atI (.str (wdP p) :: vs) (-1) = some x1) (h1:PAt K H p1.nd x1) (o1:okN n p1) (g1:p1.hg≤m) (h:lfB p = false) (h':Ev p = true) (sz:p.sz = p1.sz + 1):PsV K H p v n m
 | pr (a:Addr) (vs:List V) (x1 x2:V) (p1 p2:Pt) (e:v = .ref a) (hs:Fi K H a (.str (wdP p) :: vs)) (i1:atI (.str (wdP p) :: vs) (-2) = some x1) (i2:atI (.str (wdP p) :: vs) (-1) = some x2) (h1:PAt K H p1.nd x1) (h2:PAt K H p2.nd x2) (o1:okN n p1) (o2:okN n p2) (g1:p1.hg≤m) (g2:p2.hg≤m) (h:lfB p = false) (h':Ev p = false) (sz:p.sz = p1.sz + p2.sz + 1):PsV K H p v n m
theorem Acb {K:PySem.W.Frag} {H:Hp} {p:Pt} {v:V} {n m:Nat} (h:PAt K H p.nd v) (ok:okN n p) (hh:p.hg≤m + 1):PsV K H p v n m:=by
 have leaf:lfB p = true→p.sz = 1→PsV K H p v n m:=λ l z=>by
  obtain ⟨a,vs,e,hs⟩:=Oa h
  exact .lf a vs e hs l z
 cases p with
 | nothing=>exact leaf rfl rfl
 | rest k=>exact leaf rfl rfl
 | send k=>exact leaf rfl rfl
 | exit k=>exact leaf rfl rfl
 | stay ks=>exact absurd ok id
 | again k p1 =>
  obtain ⟨a,vs,rfl,hs,hx⟩:=PAt.get h
  obtain ⟨x0,x1,x2,rfl,h0,h1,h2⟩:=hx.three
  cases h0.str
  exact .rd a _ x2 p1 rfl hs (Dz rfl) h2 ok (le_of_succ_le_succ hh) rfl rfl rfl
 | hold k p1 =>
  obtain ⟨a,vs,rfl,hs,hx⟩:=PAt.get h
  obtain ⟨x0,x1,x2,rfl,h0,h1,h2⟩:=hx.three
  cases h0.str
  exact .rd a _ x2 p1 rfl hs (Dz rfl) h2 ok.2 (le_of_succ_le_succ hh) rfl rfl rfl
 | watch k p1 =>
  obtain ⟨a,vs,rfl,hs,hx⟩:=PAt.get h
  obtain ⟨x0,x1,x2,rfl,h0,h1,h2⟩:=hx.three
  cases h0.str
  exact .rd a _ x2 p1 rfl hs (Dz rfl) h2 ok.2 (le_of_succ_le_succ hh) rfl rfl rfl
 | trap p1 =>
  obtain ⟨a,vs,rfl,hs,hx⟩:=PAt.get h
  obtain ⟨x0,x1,rfl,h0,h1⟩:=hx.two
  cases h0.str
  exact .rd a _ x1 p1 rfl hs (Dz rfl) h1 ok (le_of_succ_le_succ hh) rfl rfl rfl
 | thn p1 p2 =>
  obtain ⟨a,vs,rfl,hs,hx⟩:=PAt.get h
  obtain ⟨x0,x1,x2,rfl,h0,h1,h2⟩:=hx.three
  cases h0.str
  exact .pr a _ x1 x2 p1 p2 rfl hs (G4 (by simp) rfl) (Dz rfl) h1 h2 ok.1 ok.2 (hgl hh) (hgr hh) rfl rfl rfl
 | bes p1 p2 =>
  obtain ⟨a,vs,rfl,hs,hx⟩:=PAt.get h
  obtain ⟨x0,x1,x2,rfl,h0,h1,h2⟩:=hx.three
  cases h0.str
  exact .pr a _ x1 x2 p1 p2 rfl hs (G4 (by simp) rfl) (Dz rfl) h1 h2 ok.1 ok.2 (hgl hh) (hgr hh) rfl rfl rfl
 | iff sn p1 p2 =>
  obtain ⟨a,vs,rfl,hs,hx⟩:=PAt.get h
  obtain ⟨x0,x1,x2,x3,rfl,h0,h1,h2,h3⟩:=hx.four
  cases h0.str
  exact .pr a _ x2 x3 p1 p2 rfl hs (G4 (by simp) rfl) (Dz rfl) h2 h3 ok.2.1 ok.2.2 (hgl hh) (hgr hh) rfl rfl rfl
section
variable {P:Program} {w:World} {K:PySem.W.Frag} {mg:Str→Option Value} {base:Heap}
seal PSs PS PE PA PT
theorem Xe {m:Nat} (F:Ba K mg "_law_parts" ["_law_part"] Fd) (T:Txt mg) (aN:Am P w K mg base m "_law_parts" ["_law_part"] (Kf K m)):Am P w K mg base (m + 1) "_law_parts" ["_law_part"] (Kf K (m + 1)):=by
 refine F.ok Qg (λ vs H Q E h=>?_) (λ fn cdv A outer s0 H vs Q E hr h=>?_)
 ·obtain ⟨v,p,n,rfl,_⟩:=h; rfl
 obtain ⟨v,p,n,rfl,hp,ok,hh,q⟩:=h
 refine ⟨_,(Ae (Bn (As Jo (Ao Ap (pv 0) Ag (λ _ _=>rfl)) (A5 (Aa An (Aa An (Aa An (Aa An Ac))))) (by rfl))
   (Ai (Aw Ag))
   Bc)
  (Ae (Bn (As Jo (Ao Ap (pv 0) Ag (λ _ _=>rfl)) (A5 (Aa An (Aa An (Aa An (Aa An Ac))))) (by rfl))
   (Ai (Aw (Bj Ds Ag (Av aN hr rfl Al (Aa (Ao Ap (pv 0) (Mj Kc Ag) (λ _ _=>rfl)) Ac)))))
   Bc)
  (Ai (Aw (Bj Ds (Bj Ds Ag (Av aN hr rfl Al (Aa (Ao Ap (pv 0) (Mj Kc Ag) (λ _ _=>rfl)) Ac))) (Av aN hr rfl Al (Aa (Ao Ap (pv 0) (Mj Kc Ag) (λ _ _=>rfl)) Ac))))))),?_⟩
 cases Acb hp ok hh with
 | lf a vs e hs hl sz =>
  subst e
  refine ⟨_,Z,a,_,_,.str (wdP p),Z,Z,hs.sq,Ah (j:=0) rfl,zN4,λ l1 h1=>⟨l1,_,Z,.inl (SqL.of Ab),Z,Z,_,Z,Vr (λ _=>?_) λ z=>?_⟩⟩
  ·have:=q _ (Ad h1 (.lst [V.str "nothing", .str "rest", .str "send", .str "exit"]))
   rw [sz] at this
   exact this
  ·rw [hl] at z; cases z
 | rd a vs x1 p1 e hs i1 hp1 o1 g1 hl hr' sz =>
  subst e
  refine ⟨_,Z,a,_,_,.str (wdP p),Z,Z,hs.sq,Ah (j:=0) rfl,zN4,λ l1 h1=>⟨l1,_,Z,.inl (SqL.of Ab),Z,Z,_,Z,Vr (λ z=>?_) λ _=>?_⟩⟩
  ·rw [hl] at z; cases z
  have k1:=Ad h1 (.lst [V.str "nothing", .str "rest", .str "send", .str "exit"])
  generalize upd H l1 (.lst [V.str "nothing", .str "rest", .str "send", .str "exit"]) = H1 at *
  have hs1:=hs.mono k1.tp
  refine ⟨_,Z,a,_,_,.str (wdP p),Z,Z,hs1.sq,Ah (j:=0) rfl,zN4,λ l2 h2=>⟨l2,_,Z,.inl (SqL.of Ab),Z,Z,_,Z,Aac (λ _=>?_) λ z=>?_⟩⟩
  ·have k2:=k1.trans (Ad h2 (.lst [V.str "again", .str "hold", .str "watch", .str "trap"]))
   refine ⟨_,Z,_,Z,a,_,_,x1,Z,Z,(hs.mono k2.tp).sq,i1,x1,p1,n,Z,hp1.mono k2.tp,o1,g1,λ H3 k3=>?_⟩
   have:=q _ (k2.trans k3)
   rw [sz,show ((p1.sz + 1:Nat):Int) = 1 + (p1.sz:Int) by omega] at this
   exact ⟨_,_,Z,Z,this⟩
  ·rw [hr'] at z; cases z
 | pr a vs x1 x2 p1 p2 e hs i1 i2 hp1 hp2 o1 o2 g1 g2 hl hr' sz =>
  subst e
  refine ⟨_,Z,a,_,_,.str (wdP p),Z,Z,hs.sq,Ah (j:=0) rfl,zN4,λ l1 h1=>⟨l1,_,Z,.inl (SqL.of Ab),Z,Z,_,Z,Vr (λ z=>?_) λ _=>?_⟩⟩
  ·rw [hl] at z; cases z
  have k1:=Ad h1 (.lst [V.str "nothing", .str "rest", .str "send", .str "exit"])
  generalize upd H l1 (.lst [V.str "nothing", .str "rest", .str "send", .str "exit"]) = H1 at *
  have hs1:=hs.mono k1.tp
  refine ⟨_,Z,a,_,_,.str (wdP p),Z,Z,hs1.sq,Ah (j:=0) rfl,zN4,λ l2 h2=>⟨l2,_,Z,.inl (SqL.of Ab),Z,Z,_,Z,Aac (λ z=>?_) λ _=>?_⟩⟩
  ·rw [hr'] at z; cases z
  have k2:=k1.trans (Ad h2 (.lst [V.str "again", .str "hold", .str "watch", .str "trap"]))
  refine ⟨_,Z,_,Z,a,_,_,x1,Z,Z,(hs.mono k2.tp).sq,i1,x1,p1,n,Z,hp1.mono k2.tp,o1,g1,λ H3 k3=>⟨_,_,Z,Z,?_⟩⟩
  have k23:=k2.trans k3
  refine ⟨_,Z,_,Z,a,_,_,x2,Z,Z,(hs.mono k23.tp).sq,i2,x2,p2,n,Z,hp2.mono k23.tp,o2,g2,λ H4 k4=>⟨_,_,Z,Z,?_⟩⟩
  have:=q _ (k23.trans k4)
  rw [sz,show ((p1.sz + p2.sz + 1:Nat):Int) = 1 + (p1.sz:Int) + (p2.sz:Int) by omega] at this
  exact this
theorem Nv (F:Ba K mg "_law_parts" ["_law_part"] Fd) (T:Txt mg):∀ m:Nat,Am P w K mg base m "_law_parts" ["_law_part"] (Kf K m)
 | 0=>F.zero (sp:=Kf K 0) λ vs H Q E ⟨v,p,_,_,_,_,hh,_⟩=>absurd hh (not_le_of_gt (Pt.hg_pos p))
 | m + 1=>Xe F T (Nv F T m)
theorem Z5 (F:Ba K mg "_law_gate" ["_law_gate_here", "_law_count", "_law_signs", "_law_rests"] Et) (T:Txt mg):Am P w K mg base 1 "_law_gate" ["_law_gate_here", "_law_count", "_law_signs", "_law_rests"] O0:=by
 refine F.ok Q5 (λ vs H Q E h=>?_) (λ fn cdv A outer s0 H vs Q E hr h=>?_)
 ·obtain ⟨v,g,c,n,m,rfl,_⟩:=h; rfl
 obtain ⟨v,⟨wd,ns⟩,c,n,m,rfl,hg,fm,hl,q⟩:=h
 obtain ⟨t,u,rfl,ht,hu⟩:=hg
 dsimp only at ht hu hl
 have nn:∀ x∈ns,0≤x:=λ x hx=>by
  rcases fm with ⟨_,e⟩ | ⟨_,k,e,h0,_⟩ | ⟨_,k,e,h0,_⟩ | ⟨_,e⟩
  ·have e:ns = []:=e
   rw [e] at hx; cases hx
  ·have e:ns = [k]:=e
   rw [e] at hx; rw [mS hx]; exact h0
  ·have e:ns = [k]:=e
   rw [e] at hx; rw [mS hx]; exact h0
  ·exact (e x hx).1
 refine ⟨_,(Ae (Bn (PW.pt (D8 (Ei (Dk (A4 Bs rfl T.n_isinstance PyProof.Rows.boot_isinstance (Aa (pv 0) (Aa (Cq rfl T.n_tuple (by decide +kernel) (v:=.ty "tuple") rfl) Ac))))) (D8 (As Mc (A4 Br rfl T.n_len PySem.boot_len (Aa (pv 0) Ac)) Ag (Ax _)) (D8 (Ei (Dk (A4 Bs rfl T.n_isinstance PyProof.Rows.boot_isinstance (Aa (Ao Ap (pv 0) Ag (λ _ _=>rfl)) (Aa (Cq rfl T.n_str (by decide +kernel) (v:=.ty "str") rfl) Ac))))) (E8 (Ei (Dk (A4 Bs rfl T.n_isinstance PyProof.Rows.boot_isinstance (Aa (Ao Ap (pv 0) Ag (λ _ _=>rfl)) (Aa (Cq rfl T.n_tuple (by decide +kernel) (v:=.ty "tuple") rfl) Ac))))))))))
   (Ai (Aw Ex))
   Bc)
  (Ae (Bn (Ei (Dk (A4 (Jf rfl) rfl T.n_all (by decide +kernel) (Aa (Cu (g:=(B1 0)) (tc:=C1) (te:=(Kl (tCB (Ig K) (B4 (Bt 0) (B4 (tC (.ty "int")) Dp))) (Kl (Qr (tCB (Ig K) (B4 (Bt 0) (B4 (tC (.ty "bool")) Dp)))) (tOp (rI0 λ i j=>.bl (decide (j≤i))) (Bt 0) (tC (.int 0)))))) ["_law_one"] [] rfl (Ci (Aj Et) ["_law_gate_here", "_law_count", "_law_signs", "_law_rests"] (by decide +kernel)) (Gf (Ao Ap (pv 0) Ag (λ _ _=>rfl))) (λ s2 H2 fp cl C=>A3 (i:=0) (show Nodup [("_law_one" : Str)] from by decide +kernel) rfl (Or.inl rfl)) (Bo (by decide)) (λ s2 H2 fp cl C=>Df) (λ s2 H2 fp cl C=>(Gg (A4 Bs rfl T.n_isinstance PyProof.Rows.boot_isinstance (Aa (pv 0) (Aa (Cq rfl T.n_int (by decide +kernel) (v:=.ty "int") rfl) Ac))) (Gg (Qy (A4 Bs rfl T.n_isinstance PyProof.Rows.boot_isinstance (Aa (pv 0) (Aa (Cq rfl T.n_bool (by decide +kernel) (v:=.ty "bool") rfl) Ac)))) (J1 (Fe Aaq (pv 0) Ag (Ax _))))))) Ac))))
   (Ai (Aw Ex))
   Bc)
  (Ae (Bn (As Bm (Ao Ap (pv 0) Ag (λ _ _=>rfl)) An (Ax _))
   (Ai (Aw (Fe Bm (A4 Br rfl T.n_len PySem.boot_len (Aa (Ao Ap (pv 0) Ag (λ _ _=>rfl)) Ac)) Ag (Ax _))))
   Bc)
  (Ae (Bn (As Bm (Ao Ap (pv 0) Ag (λ _ _=>rfl)) An (Ax _))
   (Ai (Aw (Gg (Fe Bm (A4 Br rfl T.n_len PySem.boot_len (Aa (Ao Ap (pv 0) Ag (λ _ _=>rfl)) Ac)) Ag (Ax _)) (J1 (Fe Hd (Ao Ap (Ao Ap (pv 0) Ag (λ _ _=>rfl)) Ag (λ _ _=>rfl)) (pv 3) (Ax _))))))
   Bc)
  (Ae (Bn (As Bm (Ao Ap (pv 0) Ag (λ _ _=>rfl)) An (Ax _))
   (Ai (Aw (Gg (Fe Bm (A4 Br rfl T.n_len PySem.boot_len (Aa (Ao Ap (pv 0) Ag (λ _ _=>rfl)) Ac)) Ag (Ax _)) (J1 (Fe Hd (Ao Ap (Ao Ap (pv 0) Ag (λ _ _=>rfl)) Ag (λ _ _=>rfl)) (pv 2) (Ax _))))))
   Bc)
  (Ae (Bn (PW.pt (R4 (As Bm (Ao Ap (pv 0) Ag (λ _ _=>rfl)) An (Ax _)) (Oo (As Mc (A4 Br rfl T.n_len PySem.boot_len (Aa (Ao Ap (pv 0) Ag (λ _ _=>rfl)) Ac)) Ag (Ax _)))))
   (Ai (Aw Ex))
   Bc)
  (Ai (Aw (Gg (Fe Jo (Ao Ap (pv 0) Ag (λ _ _=>rfl)) (A5 (Aa An (Aa An (Aa An Ac)))) (by rfl)) (J1 (A4 (Jf rfl) rfl T.n_all (by decide +kernel) (Aa (Cu (g:=(B1 0)) (tc:=C1) (te:=(tOp (rI0 λ i j=>.bl (decide (i < j))) (Bt 0) (Bt 1))) ["_law_one"] [("_law_count", 1)] rfl (Ci (Aj Et) ["_law_gate_here", "_law_count", "_law_signs", "_law_rests"] (by decide +kernel)) (Gf (Ao Ap (pv 0) Ag (λ _ _=>rfl))) (λ s2 H2 fp cl C=>A3 (i:=0) (show Nodup [("_law_one" : Str),("_law_count" : Str)] from by decide +kernel) rfl (Or.inl rfl)) (Bo (by decide)) (λ s2 H2 fp cl C=>Df) (λ s2 H2 fp cl C=>(Fe Hd (pv 0) (pv 1) (Ax _)))) Ac)))))))))))),?_⟩
 refine ⟨_,Z,_, "tuple", _,true,Z,.inl (.tup ht),Z,_,Z,Dq ⟨_,Z,t,_,Z,.inr (SqT.of ht),Z,_,Z,Dq ⟨_,Z,t,_,_,_,Z,Z,SqT.of ht,Ah (j:=0) rfl,_, "str", _,true,Z,.inl (.str _),Z,_,Z,Dq ⟨_,Z,t,_,_,_,Z,Z,SqT.of ht,Ah (j:=1) rfl,_, "tuple", _,true,Z,.inl (.tup hu),Z,_,Z,Dq ?_⟩⟩⟩⟩
 refine ⟨_,Z,t,_,_,_,Z,Z,SqT.of ht,Ah (j:=1) rfl,u,Z,⟨_,SqT.of hu⟩,Ky (K:=K) (xs:=ns.map V.int) (λ i ys H'=>H' = H∧ys = (List.replicate i true).map V.bl) ⟨Z,Z⟩ (by rw [length_map]; exact He hl) (λ i ys H' hh=>by rw [hh.1]; exact SqT.of hu) ?_ ?_⟩
 ·rintro i x ys H' N hi ⟨rfl,rfl⟩ hN hyl
  have hil:i < ns.length:=by have:=(List.getElem?_eq_some_iff.mp hi).1; rwa [length_map] at this
  rw [getElem?_map,getElem?_eq_getElem hil] at hi
  cases hi
  refine ⟨_,Z,_, "int", _,true,Z,.inl (.int _),Z,_,Z,Dy ⟨_,Z,_, "bool", _,false,Z,.inl (.int _),Z,_,Z,_,Z,Dy ⟨_,Z,_,_,Z,Z,hN _ _ (by rw [length_append,length_singleton]; omega) ⟨Z,?_⟩⟩⟩⟩
  show _ ++ [V.bl (decide ((0:Int)≤ns[i]))] = _
  rw [show decide ((0:Int)≤ns[i]) = true from decide_eq_true (nn _ (getElem_mem hil)),replicate_succ',map_append]
  rfl
 rintro ys H1 hyl ⟨rfl,rfl⟩ D hD
 rw [length_map]
 have k1:=Ad hD (.lst ((List.replicate ns.length true).map V.bl))
 refine ⟨D,_,Z,SqL.of Ab,_,Z,?_⟩
 rw [Ke]
 refine Dq ?_
 generalize upd H1 D (.lst ((List.replicate ns.length true).map V.bl)) = H2 at *
 have ht2:=k1 _ _ ht
 have hu2:=k1 _ _ hu
 have fm:FmG n m c (wd,ns):=fm
 rcases fm with ⟨e1,e2⟩ | ⟨e1,k,e2,e3,e4⟩ | ⟨e1,k,e2,e3,e4⟩ | ⟨e1,e2⟩
 ·have e1:wd = "start" := e1
  have e2:ns = []:=e2
  subst e1 e2
  refine ⟨_,Z,t,_,_,_,Z,Z,SqT.of ht2,Ah (j:=0) rfl,Z,_,Z,Ay (λ _=>?_) λ z=>absurd (by decide +kernel) z⟩
  refine ⟨_,Z,t,_,_,_,Z,Z,SqT.of ht2,Ah (j:=1) rfl,u,_,Z,.inr (SqT.of hu2),Z,q _ k1⟩
 ·have e1:wd = "memory" := e1
  have e2:ns = [k]:=e2
  subst e1 e2
  refine ⟨_,Z,t,_,_,_,Z,Z,SqT.of ht2,Ah (j:=0) rfl,Z,_,Z,Ay (λ z=>absurd z (by decide +kernel)) λ _=>⟨_,Z,t,_,_,_,Z,Z,SqT.of ht2,Ah (j:=0) rfl,Z,_,Z,Ay (λ _=>?_) λ z=>absurd (by decide +kernel) z⟩⟩
  refine ⟨_,Z,t,_,_,_,Z,Z,SqT.of ht2,Ah (j:=1) rfl,u,_,Z,.inr (SqT.of hu2),Z,_,Z,Dy ⟨_,Z,t,_,_,_,Z,Z,SqT.of ht2,Ah (j:=1) rfl,u,_,_,_,Z,Z,SqT.of hu2,Ah (j:=0) rfl,_,Z,_,_,Z,Z,?_⟩⟩
  exact (show Q (.bl (decide (k < (m:Int)))) _ from by rw [decide_eq_true e4]; exact q _ k1)
 ·have e1:wd = "given" := e1
  have e2:ns = [k]:=e2
  subst e1 e2
  refine ⟨_,Z,t,_,_,_,Z,Z,SqT.of ht2,Ah (j:=0) rfl,Z,_,Z,Ay (λ z=>absurd z (by decide +kernel)) λ _=>⟨_,Z,t,_,_,_,Z,Z,SqT.of ht2,Ah (j:=0) rfl,Z,_,Z,Ay (λ z=>absurd z (by decide +kernel)) λ _=>⟨_,Z,t,_,_,_,Z,Z,SqT.of ht2,Ah (j:=0) rfl,Z,_,Z,Ay (λ _=>?_) λ z=>absurd (by decide +kernel) z⟩⟩⟩
  refine ⟨_,Z,t,_,_,_,Z,Z,SqT.of ht2,Ah (j:=1) rfl,u,_,Z,.inr (SqT.of hu2),Z,_,Z,Dy ⟨_,Z,t,_,_,_,Z,Z,SqT.of ht2,Ah (j:=1) rfl,u,_,_,_,Z,Z,SqT.of hu2,Ah (j:=0) rfl,_,Z,_,_,Z,Z,?_⟩⟩
  exact (show Q (.bl (decide (k < (n:Int)))) _ from by rw [decide_eq_true e4]; exact q _ k1)
 ·have e2:∀ x∈ns,0≤x∧x < (c:Int):=e2
  have hop:wd = "not" ∨ wd = "all" ∨ wd = "some" := e1.elim (λ z=>.inr (.inl z)) λ z=>z.elim (λ z=>.inr (.inr z)) λ z=>.inl z.1
  have hn1:wd = "not" → ns.length = 1:=λ z=>e1.elim (λ y=>absurd (z.symm.trans y) (by decide +kernel)) λ y=>y.elim (λ y=>absurd (z.symm.trans y) (by decide +kernel)) λ y=>y.2
  have ne1:¬ wd = "start" ∧ ¬ wd = "memory" ∧ ¬ wd = "given" := by rcases hop with rfl | rfl | rfl <;> decide +kernel
  have inw:inV (V.str wd) [V.str "not", V.str "all", V.str "some"] = true:=by rcases hop with rfl | rfl | rfl <;> decide +kernel
  have dne:∀ {x:Str},¬ wd = x→¬ decide (V.str wd = V.str x) = true:=λ h z=>h (by have:=of_decide_eq_true z; injection this)
  refine ⟨_,Z,t,_,_,_,Z,Z,SqT.of ht2,Ah (j:=0) rfl,Z,_,Z,Ay (λ z=>absurd z (dne ne1.1)) λ _=>⟨_,Z,t,_,_,_,Z,Z,SqT.of ht2,Ah (j:=0) rfl,Z,_,Z,Ay (λ z=>absurd z (dne ne1.2.1)) λ _=>⟨_,Z,t,_,_,_,Z,Z,SqT.of ht2,Ah (j:=0) rfl,Z,_,Z,Ay (λ z=>absurd z (dne ne1.2.2)) λ _=>?_⟩⟩⟩
  dsimp only [B1,O1,O7,tC,Nc]
  refine Iz (λ b H'=>H' = H2∧b = false) (λ Q' k=>?_) (λ H' h=>nomatch h.2) ?_
  ·refine ⟨_,Z,t,_,_,_,Z,Z,SqT.of ht2,Ah (j:=0) rfl,Z,_,Z,Ay (λ z=>?_) λ _=>k _ _ ⟨Z,Z⟩⟩
   have hw:wd = "not" := by have:=of_decide_eq_true z; injection this
   refine ⟨_,Z,t,_,_,_,Z,Z,SqT.of ht2,Ah (j:=1) rfl,u,_,Z,.inr (SqT.of hu2),Z,_,Z,k _ _ ⟨Z,?_⟩⟩
   rw [length_map,hn1 hw]
   rfl
  rintro H3 ⟨rfl,_⟩
  refine ⟨_,Z,t,_,_,_,Z,Z,SqT.of ht2,Ah (j:=0) rfl,zN3,λ l1 h1=>⟨l1,_,Z,.inl (SqL.of Ab),Z,Z,_,Z,?_⟩⟩
  have k2:=Ad h1 (.lst [V.str "not", .str "all", .str "some"])
  generalize upd H3 l1 (.lst [V.str "not", .str "all", .str "some"]) = H4 at *
  have ht4:=k2 _ _ ht2
  have hu4:=k2 _ _ hu2
  rw [show (if false = true then !inV (V.str wd) [V.str "not", V.str "all", V.str "some"] else inV (V.str wd) [V.str "not", V.str "all", V.str "some"]) = true from inw]
  refine Dy ⟨_,Z,t,_,_,_,Z,Z,SqT.of ht4,Ah (j:=1) rfl,u,Z,⟨_,SqT.of hu4⟩,Ky (K:=K) (xs:=ns.map V.int) (λ i ys H'=>H' = H4∧ys = (List.replicate i true).map V.bl) ⟨Z,Z⟩ (by rw [length_map]; exact He hl) (λ i ys H' hh=>by rw [hh.1]; exact SqT.of hu4) ?_ ?_⟩
  ·rintro i x ys H' N hi ⟨rfl,rfl⟩ hN hyl
   have hil:i < ns.length:=by have:=(List.getElem?_eq_some_iff.mp hi).1; rwa [length_map] at this
   rw [getElem?_map,getElem?_eq_getElem hil] at hi
   cases hi
   refine ⟨_,Z,_,Z,_,_,Z,Z,hN _ _ (by rw [length_append,length_singleton]; omega) ⟨Z,?_⟩⟩
   show _ ++ [V.bl (decide (ns[i] < (c:Int)))] = _
   rw [show decide (ns[i] < (c:Int)) = true from decide_eq_true (e2 _ (getElem_mem hil)).2,replicate_succ',map_append]
   rfl
  rintro ys H5 hyl ⟨rfl,rfl⟩ D2 hD2
  rw [length_map]
  have k3:=Ad hD2 (.lst ((List.replicate ns.length true).map V.bl))
  refine ⟨D2,_,Z,SqL.of Ab,?_⟩
  rw [Ke]
  exact q _ ((k1.trans k2).trans k3)
end
section
variable {P:Program} {w:World} {K:PySem.W.Frag} {mg:Str→Option Value} {base:Heap} {C:Addr}
seal PSs PS PE PA PT
theorem Zv (F:Ba K mg "_law_numbers" ["_law_found", "_law_many", "_law_count"] Dh) (T:Txt mg):Am P w K mg base 1 "_law_numbers" ["_law_found", "_law_many", "_law_count"] Yi:=by
 refine F.ok N9 (λ vs H Q E h=>?_) (λ fn cdv A outer s0 H vs Q E hr h=>?_)
 ·obtain ⟨a,xs,m,c,rfl,_⟩:=h; rfl
 obtain ⟨a,xs,m,c,rfl,ha,hm,hl,hx,q⟩:=h
 rcases ha with ha | ha
 ·refine ⟨_,(Ae (Bn (As Mc (A4 Br rfl T.n_len PySem.boot_len (Aa (pv 0) Ac)) (pv 1) (Ax _))
   (Ai (Aw Ex))
   Bc)
  (Ai (Aw (A4 (Jf rfl) rfl T.n_all (by decide +kernel) (Aa (Cu (g:=(B1 0)) (tc:=C1) (te:=(Kl (tCB (Ig K) (B4 (Bt 0) (B4 (tC (.ty "int")) Dp))) (Kl (Qr (tCB (Ig K) (B4 (Bt 0) (B4 (tC (.ty "bool")) Dp)))) (Qt (rI0 λ i j=>.bl (decide (i≤j))) (rI0 λ i j=>.bl (decide (i < j))) (tC (.int 0)) (Bt 0) (Bt 1))))) ["_law_one"] [("_law_count", 2)] rfl (Ci (Aj Dh) ["_law_found", "_law_many", "_law_count"] (by decide +kernel)) (Cz (pv 0)) (λ s2 H2 fp cl C=>A3 (i:=0) (show Nodup [("_law_one" : Str),("_law_count" : Str)] from by decide +kernel) rfl (Or.inl rfl)) (Bo (by decide)) (λ s2 H2 fp cl C=>Df) (λ s2 H2 fp cl C=>(Gg (A4 Bs rfl T.n_isinstance PyProof.Rows.boot_isinstance (Aa (pv 0) (Aa (Cq rfl T.n_int (by decide +kernel) (v:=.ty "int") rfl) Ac))) (Gg (Qy (A4 Bs rfl T.n_isinstance PyProof.Rows.boot_isinstance (Aa (pv 0) (Aa (Cq rfl T.n_bool (by decide +kernel) (v:=.ty "bool") rfl) Ac)))) (J1 (Q0 Vl Hd Ag (pv 0) (pv 1))))))) Ac))))),?_⟩
  refine ⟨_,Z,a,_,Z,.inl (SqL.of ha),_,Z,Z,_,Z,Ay (λ z=>?_) λ _=>?_⟩
  ·rw [length_map,hm] at z
   simp at z
  refine ⟨_,Z,a,Z,⟨_,SqL.of ha⟩,E4 (K:=K) (xs:=xs.map V.int) (λ i ys H'=>H' = H∧ys = (List.replicate i true).map V.bl) ⟨Z,Z⟩ (by rw [length_map]; exact He (by omega)) (λ i ys H' hh=>by rw [hh.1]; exact SqL.of ha) ?_ ?_⟩
  ·rintro i x ys H' N hi ⟨rfl,rfl⟩ hN hyl
   have hil:i < xs.length:=by have:=(List.getElem?_eq_some_iff.mp hi).1; rwa [length_map] at this
   rw [getElem?_map,getElem?_eq_getElem hil] at hi
   cases hi
   have hb:=hx _ (getElem_mem hil)
   refine ⟨_,Z,_, "int", _,true,Z,.inl (.int _),Z,_,Z,Dy ⟨_,Z,_, "bool", _,false,Z,.inl (.int _),Z,_,Z,_,Z,Dy ⟨_,Z,_,_,Z,Z,_,Z,Ay (λ _=>⟨_,Z,_,_,Z,Z,hN _ _ (by rw [length_append,length_singleton]; omega) ⟨Z,?_⟩⟩) λ z=>absurd (decide_eq_true hb.1) z⟩⟩⟩
   show _ ++ [V.bl (decide (xs[i] < (c:Int)))] = _
   rw [decide_eq_true hb.2,replicate_succ',map_append]
   rfl
  rintro ys H1 hyl ⟨rfl,rfl⟩ D hD
  rw [length_map]
  have k1:=Ad hD (.lst ((List.replicate xs.length true).map V.bl))
  refine ⟨D,_,Z,SqL.of Ab,?_⟩
  rw [Ke]
  exact q _ k1
 ·refine ⟨_,(Ae (Bn (As Mc (A4 Br rfl T.n_len PySem.boot_len (Aa (pv 0) Ac)) (pv 1) (Ax _))
   (Ai (Aw Ex))
   Bc)
  (Ai (Aw (A4 (Jf rfl) rfl T.n_all (by decide +kernel) (Aa (Cu (g:=(B1 0)) (tc:=C1) (te:=(Kl (tCB (Ig K) (B4 (Bt 0) (B4 (tC (.ty "int")) Dp))) (Kl (Qr (tCB (Ig K) (B4 (Bt 0) (B4 (tC (.ty "bool")) Dp)))) (Qt (rI0 λ i j=>.bl (decide (i≤j))) (rI0 λ i j=>.bl (decide (i < j))) (tC (.int 0)) (Bt 0) (Bt 1))))) ["_law_one"] [("_law_count", 2)] rfl (Ci (Aj Dh) ["_law_found", "_law_many", "_law_count"] (by decide +kernel)) (Gf (pv 0)) (λ s2 H2 fp cl C=>A3 (i:=0) (show Nodup [("_law_one" : Str),("_law_count" : Str)] from by decide +kernel) rfl (Or.inl rfl)) (Bo (by decide)) (λ s2 H2 fp cl C=>Df) (λ s2 H2 fp cl C=>(Gg (A4 Bs rfl T.n_isinstance PyProof.Rows.boot_isinstance (Aa (pv 0) (Aa (Cq rfl T.n_int (by decide +kernel) (v:=.ty "int") rfl) Ac))) (Gg (Qy (A4 Bs rfl T.n_isinstance PyProof.Rows.boot_isinstance (Aa (pv 0) (Aa (Cq rfl T.n_bool (by decide +kernel) (v:=.ty "bool") rfl) Ac)))) (J1 (Q0 Vl Hd Ag (pv 0) (pv 1))))))) Ac))))),?_⟩
  refine ⟨_,Z,a,_,Z,.inr (SqT.of ha),_,Z,Z,_,Z,Ay (λ z=>?_) λ _=>?_⟩
  ·rw [length_map,hm] at z
   simp at z
  refine ⟨_,Z,a,Z,⟨_,SqT.of ha⟩,Ky (K:=K) (xs:=xs.map V.int) (λ i ys H'=>H' = H∧ys = (List.replicate i true).map V.bl) ⟨Z,Z⟩ (by rw [length_map]; exact He (by omega)) (λ i ys H' hh=>by rw [hh.1]; exact SqT.of ha) ?_ ?_⟩
  ·rintro i x ys H' N hi ⟨rfl,rfl⟩ hN hyl
   have hil:i < xs.length:=by have:=(List.getElem?_eq_some_iff.mp hi).1; rwa [length_map] at this
   rw [getElem?_map,getElem?_eq_getElem hil] at hi
   cases hi
   have hb:=hx _ (getElem_mem hil)
   refine ⟨_,Z,_, "int", _,true,Z,.inl (.int _),Z,_,Z,Dy ⟨_,Z,_, "bool", _,false,Z,.inl (.int _),Z,_,Z,_,Z,Dy ⟨_,Z,_,_,Z,Z,_,Z,Ay (λ _=>⟨_,Z,_,_,Z,Z,hN _ _ (by rw [length_append,length_singleton]; omega) ⟨Z,?_⟩⟩) λ z=>absurd (decide_eq_true hb.1) z⟩⟩⟩
   show _ ++ [V.bl (decide (xs[i] < (c:Int)))] = _
   rw [decide_eq_true hb.2,replicate_succ',map_append]
   rfl
  rintro ys H1 hyl ⟨rfl,rfl⟩ D hD
  rw [length_map]
  have k1:=Ad hD (.lst ((List.replicate xs.length true).map V.bl))
  refine ⟨D,_,Z,SqL.of Ab,?_⟩
  rw [Ke]
  exact q _ k1
structure O5 (C:Addr) (H:Hp) (t:Addr) (n m:Nat) (τ:Nat→Nat) (L:Lc) (te ln:Addr) (s:Ws) (es xs:List Int):Prop where
 ht:H t = some (.tup [.ref L.gl,.ref L.sl,.ref te,.ref ln])
 W:∃ o,Au C H o L n s
 hte:H te = some (.tup (es.map V.int))
 hln:H ln = some (.lst (xs.map V.int))
 nr:NR n m τ n s
 gl:GLk 1000 s
 el:es.length = 2
 eb:∀ x∈es,0≤x∧x < s.nx
 xl:xs.length = m
 xb:∀ x∈xs,0≤x∧x < s.nx
 n0:n≤s.gs.length
 n1:n≤1000
 m1:m≤1000
 len:s.gs.length≤1000000
theorem O5.same {C:Addr} {H H':Hp} {t:Addr} {n m:Nat} {τ:Nat→Nat} {L:Lc} {te ln:Addr} {s:Ws} {es xs:List Int} (h:O5 C H t n m τ L te ln s es xs) (g:Same H H'):O5 C H' t n m τ L te ln s es xs :=
 { h with ht:=g _ _ h.ht,W:=h.W.elim λ o w=>⟨o,w.same g⟩,hte:=g _ _ h.hte,hln:=g _ _ h.hln }
inductive Rs (C:Addr) (vs:List V) (H:Hp) (Q:VK):Prop
 | mk (t:Addr) (n m:Nat) (τ:Nat→Nat) (L:Lc) (te ln:Addr) (s:Ws) (es xs:List Int) (_:vs = [.ref t,.int n,.int m]) (_:O5 C H t n m τ L te ln s es xs) (_:∀ H',Same H H'→Q (.bl true) H'):Rs C vs H Q
def Wo (C:Addr):Sp:=λ vs H Q _=>Rs C vs H Q
theorem Y5 (F:Ba K mg "_law_form" ["_law_net", "_law_signs", "_law_rests"] Fv) (T:Txt mg) (cX:Am P w K mg base 1 "_law_gate" ["_law_gate_here", "_law_count", "_law_signs", "_law_rests"] O0) (aT:Am P w K mg base 1 "_law_numbers" ["_law_found", "_law_many", "_law_count"] Yi):Am P w K mg base 2 "_law_form" ["_law_net", "_law_signs", "_law_rests"] (Wo C):=by
 refine F.ok Lp (λ vs H Q E h=>?_) (λ fn cdv A outer s0 H vs Q E hr h=>?_)
 ·obtain ⟨t,n,m,τ,L,te,ln,s,es,xs,rfl,_⟩:=h; rfl
 obtain ⟨t,n,m,τ,L,te,ln,s,es,xs,rfl,f,q⟩:=h
 refine ⟨_,(Ae (Bn (PW.pt (D8 (Ei (Dk (A4 Bs rfl T.n_isinstance PyProof.Rows.boot_isinstance (Aa (pv 0) (Aa (Cq rfl T.n_tuple (by decide +kernel) (v:=.ty "tuple") rfl) Ac))))) (D8 (As Mc (A4 Br rfl T.n_len PySem.boot_len (Aa (pv 0) Ac)) Ag (Ax _)) (E8 (Ei (Dk (A4 Bs rfl T.n_isinstance PyProof.Rows.boot_isinstance (Aa (Ao Ap (pv 0) Ag (λ _ _=>rfl)) (Aa (Cq rfl T.n_list (by decide +kernel) (v:=.ty "list") rfl) Ac)))))))))
   (Ai (Aw Ex))
   Bc)
  (Ae (Bn (PW.pt (D8 (Ei (Dk (A4 Bs rfl T.n_isinstance PyProof.Rows.boot_isinstance (Aa (Ao Ap (pv 0) Ag (λ _ _=>rfl)) (Aa (Cq rfl T.n_list (by decide +kernel) (v:=.ty "list") rfl) Ac))))) (D8 (Ei (Dk (A4 Bs rfl T.n_isinstance PyProof.Rows.boot_isinstance (Aa (Ao Ap (pv 0) Ag (λ _ _=>rfl)) (Aa (Cq rfl T.n_tuple (by decide +kernel) (v:=.ty "tuple") rfl) Ac))))) (E8 (Ei (Dk (A4 Bs rfl T.n_isinstance PyProof.Rows.boot_isinstance (Aa (Ao Ap (pv 0) Ag (λ _ _=>rfl)) (Aa (Cq rfl T.n_list (by decide +kernel) (v:=.ty "list") rfl) Ac)))))))))
   (Ai (Aw Ex))
   Bc)
  (Ae (Bh (i:=3) Lp.nd rfl (Or.inr rfl) (A4 Br rfl T.n_len PySem.boot_len (Aa (Ao Ap (pv 0) Ag (λ _ _=>rfl)) Ac)))
  (Ae (Bn (Ei (Dk (A4 (Jf rfl) rfl T.n_all (by decide +kernel) (Aa (Cu (g:=(B1 0)) (tc:=C1) (te:=(Mi O0 [] E0 (B4 (Bt 0) (B4 (Bt 1) (B4 (Bt 2) (B4 (Bt 3) Dp)))))) ["_law_gate_here"] [("_law_count", 3),("_law_signs", 1),("_law_rests", 2)] rfl (Ci (Aj Fv) ["_law_net", "_law_signs", "_law_rests", "_law_count"] (by decide +kernel)) (Cz (Ao Ap (pv 0) Ag (λ _ _=>rfl))) (λ s2 H2 fp cl C=>A3 (i:=0) (show Nodup [("_law_gate_here" : Str),("_law_count" : Str),("_law_signs" : Str),("_law_rests" : Str)] from by decide +kernel) rfl (Or.inl rfl)) (Bo (by decide)) (λ s2 H2 fp cl C=>Df) (λ s2 H2 fp cl C=>(Av cX hr rfl Al (Aa (pv 0) (Aa (pv 1) (Aa (pv 2) (Aa (pv 3) Ac))))))) Ac))))
   (Ai (Aw Ex))
   Bc)
  (Ae (Bn (PW.pt (D8 (Ei (Dk (Av aT hr rfl Al (Aa (Ao Ap (pv 0) Ag (λ _ _=>rfl)) (Aa (pv 1) (Aa (pv 3) Ac)))))) (E8 (Ei (Dk (Av aT hr rfl Al (Aa (Ao Ap (pv 0) Ag (λ _ _=>rfl)) (Aa Ag (Aa (pv 3) Ac)))))))))
   (Ai (Aw Ex))
   Bc)
  (Ai (Aw (Av aT hr rfl Al (Aa (Ao Ap (pv 0) Ag (λ _ _=>rfl)) (Aa (pv 2) (Aa (pv 3) Ac))))))))))),?_⟩
 obtain ⟨o,W⟩:=f.W
 obtain ⟨gvs,ho,hg,hpg,hs,hnn,hrr,hll,nd⟩:=id W
 have ht:=f.ht
 have lg:=PySem.Paired.length hpg
 refine ⟨_,Z,_, "tuple", _,true,Z,.inl (.tup ht),Z,_,Z,Dq ⟨_,Z,t,_,Z,.inr (SqT.of ht),Z,_,Z,Dq ⟨_,Z,t,_,_,_,Z,Z,SqT.of ht,Ah (j:=0) rfl,_, "list", _,true,Z,.inl (.lst hg),Z,_,Z,Dq ?_⟩⟩⟩
 refine ⟨_,Z,t,_,_,_,Z,Z,SqT.of ht,Ah (j:=1) rfl,_, "list", _,true,Z,.inl (.lst hs),Z,_,Z,Dq ⟨_,Z,t,_,_,_,Z,Z,SqT.of ht,Ah (j:=2) rfl,_, "tuple", _,true,Z,.inl (.tup f.hte),Z,_,Z,Dq ⟨_,Z,t,_,_,_,Z,Z,SqT.of ht,Ah (j:=3) rfl,_, "list", _,true,Z,.inl (.lst f.hln),Z,_,Z,Dq ?_⟩⟩⟩
 refine ⟨_,Z,t,_,_,_,Z,Z,SqT.of ht,Ah (j:=0) rfl,L.gl,_,Z,.inl (SqL.of hg),?_⟩
 refine ⟨_,Z,t,_,_,_,Z,Z,SqT.of ht,Ah (j:=0) rfl,L.gl,Z,⟨_,SqL.of hg⟩,E4 (K:=K) (xs:=gvs) (λ i ys H'=>Same H H'∧ys = (List.replicate i true).map V.bl) ⟨Same.refl _,Z⟩ (by rw [← lg]; exact le_of_lt (Us f.len)) (λ i ys H' hh=>SqL.of (hh.1 _ _ hg)) ?_ ?_⟩
 ·rintro i x ys H' N hi ⟨k,rfl⟩ hN hyl
  have hil:i < s.gs.length:=by have:=(List.getElem?_eq_some_iff.mp hi).1; omega
  obtain ⟨y,e1,e2⟩:=Bq hpg (getElem?_eq_getElem hil)
  rw [hi] at e1
  cases e1
  have fg:FmG n m s.gs.length s.gs[i]:=by
   rcases f.nr.gt i _ (getElem?_eq_getElem hil) with z | z
   ·omega
   ·exact z.1
  refine ⟨_,Z,_,Z,_,Z,_,Z,x,s.gs[i],s.gs.length,n,m,by rw [← lg]; rfl,e2.mono k.tp,fg,f.gl _ (getElem_mem hil),λ H2 k2=>hN _ _ (by rw [length_append,length_singleton]; omega) ⟨k.trans k2,?_⟩⟩
  rw [replicate_succ',map_append]
  rfl
 rintro ys H1 hyl ⟨k1,rfl⟩ D hD
 have k2:=k1.trans (Ad hD (.lst ((List.replicate gvs.length true).map V.bl)))
 refine ⟨D,_,Z,SqL.of Ab,_,Z,?_⟩
 rw [Ke]
 refine Dq ?_
 generalize upd H1 D (.lst ((List.replicate gvs.length true).map V.bl)) = H2 at *
 have f2:=f.same k2
 have hn:(n:Int) = (((List.range n).map λ (i:Nat)=>(i:Int)).length:Nat):=by rw [length_map,length_range]
 have ht2:=f2.ht
 refine ⟨_,Z,t,_,_,_,Z,Z,SqT.of ht2,Ah (j:=1) rfl,_,Z,_,Z,L.sl,(List.range n).map (λ (i:Nat)=>(i:Int)),n,s.gs.length,by rw [← lg]; rfl,.inl (by rw [map_map]; exact k2 _ _ hs),by rw [length_map,length_range],f.n1,λ x hx=>?_,λ H3 k3=>⟨_,Z,Dq ?_⟩⟩
 ·obtain ⟨i,hi,rfl⟩:=mem_map.mp hx
  have:=mem_range.mp hi
  have:=f.n0
  omega
 have f3:=f2.same k3
 refine ⟨_,Z,t,_,_,_,Z,Z,SqT.of f3.ht,Ah (j:=2) rfl,_,Z,te,es,2,s.gs.length,by rw [← lg]; rfl,.inr f3.hte,f.el,by decide,f.eb,λ H4 k4=>⟨_,Z,Dq ?_⟩⟩
 have f4:=f3.same k4
 exact ⟨_,Z,t,_,_,_,Z,Z,SqT.of f4.ht,Ah (j:=3) rfl,_,Z,_,Z,ln,xs,m,s.gs.length,by rw [← lg]; rfl,.inl f4.hln,f.xl,f.m1,f.xb,λ H5 k5=>q _ (((k2.trans k3).trans k4).trans k5)⟩
def Ea (n:Nat):List (Key× V):=(List.range n).map λ (i:Nat)=>((Sum.inl (i:Int):Key),V.bl true)
theorem Xq (n:Nat):(Ea n).length = n:=by unfold Ea; rw [length_map,length_range]
theorem Ya (i:Nat):Do (Ea i) (Sum.inl (i:Int)) (V.bl true) = Ea (i + 1):=by
 unfold Do
 rw [if_neg,Ea,Ea,range_succ,map_append]
 ·rfl
 ·intro z
  obtain ⟨p,hp,e⟩:=any_eq_true.mp z
  unfold Ea at hp
  obtain ⟨j,hj,rfl⟩:=mem_map.mp hp
  have e:(Sum.inl (j:Int):Key) = Sum.inl (i:Int):=of_decide_eq_true e
  have:=mem_range.mp hj
  have:=Sum.inl.inj e
  omega
theorem Zk (l r:List (Key× V)) (k:Key) (h:∀ p∈l,¬ p.1 = k):Ek (l ++ r) k = Ek r k:=by
 induction l with
 | nil=>rfl
 | cons p l ih=>rw [cons_append,E5 (h p mem_cons_self)]; exact ih λ q hq=>h q (mem_cons_of_mem _ hq)
theorem P9 (n:Nat) (x:Int) (hx:0≤x):(Ek (Ea n) (Sum.inl x)).isSome = decide (x < n):=by
 induction n with
 | zero=>rw [decide_eq_false (by omega)]; rfl
 | succ n ih =>
  have e:Ea (n + 1) = Ea n ++ [((Sum.inl (n:Int):Key),V.bl true)]:=by unfold Ea; rw [range_succ,map_append]; rfl
  rw [e]
  by_cases h:x < n
  ·rw [decide_eq_true h] at ih
   rw [decide_eq_true (by omega)]
   have:∀ l r:List (Key× V),(Ek l (Sum.inl x)).isSome = true→(Ek (l ++ r) (Sum.inl x)).isSome = true:=λ l r hs=>by
    induction l with
    | nil=>cases hs
    | cons p l ih2 =>
     by_cases hp:p.1 = Sum.inl x
     ·rw [cons_append,Ha hp]; rfl
     ·rw [cons_append,E5 hp]; rw [E5 hp] at hs; exact ih2 hs
   exact this _ _ ih
  ·rw [Zk _ _ _ λ p hp z=>?_]
   ·by_cases h2:x = n
    ·rw [Ha (by rw [h2]),decide_eq_true (by omega)]; rfl
    ·rw [E5 (λ z=>h2 (Sum.inl.inj z).symm),decide_eq_false (by omega)]; rfl
   ·unfold Ea at hp
    obtain ⟨j,hj,rfl⟩:=mem_map.mp hp
    have:=mem_range.mp hj
    have:=Sum.inl.inj z
    omega
def C8 (l:List Nat):List V:=l.map λ (j:Nat)=>V.int (j:Int)
def Ew (c:Nat) (f:Nat→Nat):List V:=(List.range c).map λ (j:Nat)=>V.int (f j:Int)
theorem L8 {c:Nat} (f:Nat→Nat) {j:Nat} (h:j < c):(Ew c f)[j]? = some (.int (f j:Int)):=by unfold Ew; rw [getElem?_map,getElem?_range h]; rfl
theorem Rc (c:Nat) (f:Nat→Nat):(Ew c f).length = c:=by unfold Ew; rw [length_map,length_range]
theorem Sh {c o:Nat} (f:Nat→Nat) (v:Nat) (h:o < c):(Ew c f).set o (.int (v:Int)) = Ew c (Gy f o v):=by
 unfold Ew
 rw [Xj _ _ h]
 congr 1
 funext j
 unfold Gy
 by_cases z:j = o
 ·rw [if_pos z,if_pos z]
 ·rw [if_neg z,if_neg z]
structure SF (H0:Hp) (cl ll d:Addr) (rs:List Addr) (c:Nat):Prop where
 len:rs.length = c
 nd:rs.Nodup
 fr:∀ r∈rs,H0 r = none
 fl:H0 ll = none
 fc:H0 cl = none
 fd:H0 d = none
 lc:ll≠cl
 lr:ll∉rs
 cr:cl∉rs
structure CmA (H0 H:Hp) (cl ll d:Addr) (rs:List Addr) (c n:Nat) (E:Ed) (f:Nat→Nat):Prop where
 sm:Same H0 H
 hc:H cl = some (.lst (rs.map V.ref))
 hr:∀ (x:Nat) (r:Addr),rs[x]? = some r→H r = some (.lst (C8 (cameE E x)))
 hl:H ll = some (.lst (Ew c f))
 hd:H d = some (.dK (Ea n))
theorem CmA.same {H0 H H':Hp} {cl ll d:Addr} {rs:List Addr} {c n:Nat} {E:Ed} {f:Nat→Nat} (h:CmA H0 H cl ll d rs c n E f) (g:Same H H'):CmA H0 H' cl ll d rs c n E f :=
 ⟨h.sm.trans g,g _ _ h.hc,λ x r e=>g _ _ (h.hr x r e),g _ _ h.hl,g _ _ h.hd⟩
theorem CmA.left {H0 H:Hp} {cl ll d:Addr} {rs:List Addr} {c n:Nat} {E:Ed} {f:Nat→Nat} (h:CmA H0 H cl ll d rs c n E f) (s:SF H0 cl ll d rs c) (f':Nat→Nat):CmA H0 (upd H ll (.lst (Ew c f'))) cl ll d rs c n E f' :=
 ⟨h.sm.young s.fl _,by rw [upd_ne (Ne.symm s.lc)]; exact h.hc,λ x r e=>by rw [upd_ne (λ z=>s.lr (by rw [← z]; exact mem_of_getElem? e))]; exact h.hr x r e,Ab,by rw [upd_ne (Bl h.hd h.hl (by intro z; cases z))]; exact h.hd⟩
theorem CmA.came {H0 H:Hp} {cl ll d:Addr} {rs:List Addr} {c n:Nat} {E:Ed} {f:Nat→Nat} (h:CmA H0 H cl ll d rs c n E f) (s:SF H0 cl ll d rs c) {x:Nat} {r:Addr} (e:rs[x]? = some r) (j:Nat):CmA H0 (upd H r (.lst (C8 (cameE E x) ++ [.int (j:Int)]))) cl ll d rs c n (E ++ [(x,j)]) f:=by
 have hm:=mem_of_getElem? e
 refine ⟨h.sm.young (s.fr r hm) _,by rw [upd_ne (λ z=>s.cr (by rw [z]; exact hm))]; exact h.hc,λ y r' e'=>?_,by rw [upd_ne (λ z=>s.lr (by rw [z]; exact hm))]; exact h.hl,by rw [upd_ne (Bl h.hd (h.hr x r e) (by intro z; cases z))]; exact h.hd⟩
 rw [U8]
 by_cases z:x = y
 ·subst z
  rw [e] at e'
  cases e'
  rw [Ab,if_pos rfl]
  unfold C8
  rw [map_append]
  rfl
 ·have:r'≠r:=λ w=>by
   subst w
   have h1:=(List.getElem?_eq_some_iff.mp e)
   have h2:=(List.getElem?_eq_some_iff.mp e')
   exact z ((getElem_inj s.nd).mp (h1.2.trans h2.2.symm))
  rw [upd_ne this,if_neg z]
  exact h.hr y r' e'
theorem Sj (E:Ed) (x j:Nat):leftE (E ++ [(x,j)]) = Gy (leftE E) j (leftE E j + 1):=by
 funext i
 rw [Vy]
 unfold Gy
 by_cases z:j = i
 ·rw [if_pos z,if_pos z.symm,z]
 ·rw [if_neg z,if_neg (λ w=>z w.symm)]
theorem Pj {n:Nat} {s:Ws} (h:GLk 1000 s):∀ i,(edges n s.gs i).length≤i * 1000
 | 0=>le_refl _
 | i + 1=>by
  have ih:=Pj (n:=n) h i
  cases e:s.gs[i]? with
  | none =>
   have:edges n s.gs (i + 1) = edges n s.gs i:=by unfold edges; rw [range_succ,List.flatMap_append]; simp [e]
   rw [this]; omega
  | some g =>
   rw [Ku e,length_append]
   have hg:=h g (mem_of_getElem? e)
   have:(Lg n i g).length≤g.2.length:=by
    unfold Lg
    split
    ·rw [length_map]; unfold El; rw [length_map]; exact length_filter_le _ _
    ·exact zero_le _
   omega
theorem AaD (E:Ed) (x:Nat):(cameE E x).length≤E.length:=by unfold cameE; rw [length_map]; exact length_filter_le _ _
inductive R7 (C:Addr) (vs:List V) (H:Hp) (Q:VK):Prop
 | mk (t:Addr) (n m:Nat) (τ:Nat→Nat) (L:Lc) (te ln:Addr) (s:Ws) (es xs:List Int) (_:vs = [.ref t]) (_:O5 C H t n m τ L te ln s es xs) (_:s.gs.length≤16000) (_:∀ H',Same H H'→Q (.bl true) H'):R7 C vs H Q
def X6 (C:Addr):Sp:=λ vs H Q _=>R7 C vs H Q
theorem Td {n j:Nat} (h:j < n):ixN n (j:Int) = some j:=by unfold ixN; rw [if_pos (by omega),if_pos (by omega),Int.toNat_natCast]
theorem AcQ (w:Str):inV (V.str w) [V.str "not", V.str "all", V.str "some"] = Jt w:=by
 have b:∀ x:Str,eqV (V.str x) (V.str w) = decide (w = x):=λ x=>by
  show (x == w) = _
  rw [Bool.eq_iff_iff,beq_iff_eq,decide_eq_true_iff]
  exact eq_comm
 show (eqV (V.str "not") (V.str w) || (eqV (V.str "all") (V.str w) || (eqV (V.str "some") (V.str w) || false))) = _
 rw [b,b,b,Bool.or_false]
 rfl
theorem Vw (n:Nat) (l:List Int) {k:Nat} {x:Int} (h:l[k]? = some x):El n (l.take (k + 1)) = El n (l.take k) ++ (if (n:Int)≤x then [x.toNat] else []):=by
 unfold El
 rw [take_succ,h,filter_append,map_append]
 congr 1
 show ([x].filter λ x=>decide ((n:Int)≤x)).map Int.toNat = _
 by_cases z:(n:Int)≤x
 ·simp [z]
 ·simp [z]
theorem AbJ (F:Ba K mg "_law_no_ring" ["_law_net"] Cy) (T:Txt mg):Am P w K mg base 1 "_law_no_ring" ["_law_net"] (X6 C):=by
 refine F.ok Bx (λ vs H Q E h=>?_) (λ fn cdv A outer s0 H vs Q E hr h=>?_)
 ·obtain ⟨t,n,m,τ,L,te,ln,s,es,xs,rfl,_⟩:=h; rfl
 obtain ⟨t,n,m,τ,L,te,ln,s,es,xs,rfl,f,hb,q⟩:=h
 have hu:=lt_of_le_of_lt (add_le_add_left (show 1≤64 by decide) _) hr.units
 refine ⟨_,(Ae (Bh (i:=1) Bx.nd rfl (Or.inl rfl) Je)
  (Ae (Dr PassesOwn.never rfl (Cz (Ao Ap (pv 0) Ag (λ _ _=>rfl))) (A3 (i:=2) Bx.nd rfl (Or.inl rfl))
   (Ai (L6 hu (pv 1) (pv 2) Ex rfl)))
  (Ae (Bh (i:=3) Bx.nd rfl (Or.inl rfl) (A4 Br rfl T.n_len PySem.boot_len (Aa (Ao Ap (pv 0) Ag (λ _ _=>rfl)) Ac)))
  (Ae (Ff (j:=4) (g:=(B1 0)) (tc:=C1) (te:=(AaJ Dp)) ["_law_number"] [] Bx.nd rfl (Or.inl rfl) rfl (Ci (Aj Cy) ["_law_net", "_law_free", "_law_number", "_law_count", "_law_came", "_law_left", "_law_one", "_law_row"] (by decide +kernel)) (E7 rfl T.n_range (Aa (pv 3) Ac)) (λ s2 H2 fp cl C=>A3 (i:=0) (show Nodup [("_law_number" : Str)] from by decide +kernel) rfl (Or.inl rfl)) (Bo (by decide)) (λ s2 H2 fp cl C=>Df) (λ s2 H2 fp cl C=>(A5 Ac)))
  (Ae (Bh (i:=5) Bx.nd rfl (Or.inr rfl) (Cu (g:=(B1 0)) (tc:=C1) (te:=(tC (.int 0))) ["_law_number"] [] rfl (Ci (Aj Cy) ["_law_net", "_law_free", "_law_number", "_law_count", "_law_came", "_law_left", "_law_one", "_law_row"] (by decide +kernel)) (E7 rfl T.n_range (Aa (pv 3) Ac)) (λ s2 H2 fp cl C=>A3 (i:=0) (show Nodup [("_law_number" : Str)] from by decide +kernel) rfl (Or.inl rfl)) (Bo (by decide)) (λ s2 H2 fp cl C=>Df) (λ s2 H2 fp cl C=>Ag)))
  (Ae (Dr PassesOwn.never rfl (E7 rfl T.n_range (Aa (pv 3) Ac)) (A3 (i:=2) Bx.nd rfl (Or.inl rfl))
   (Ai (Bn (PW.pt (R4 (Nj (Pb hu (pv 2) (pv 1)) (by rfl)) (Oo (As Jo (Ao Ap (Ao Bz (Ao Ap (pv 0) Ag (λ _ _=>rfl)) (pv 2) (λ _ _=>rfl)) Ag (λ _ _=>rfl)) (A5 (Aa An (Aa An (Aa An Ac)))) (by rfl)))))
   (Ai (Dr PassesOwn.never rfl (Gf (Ao Ap (Ao Bz (Ao Ap (pv 0) Ag (λ _ _=>rfl)) (pv 2) (λ _ _=>rfl)) Ag (λ _ _=>rfl))) (A3 (i:=6) Bx.nd rfl (Or.inl rfl))
   (Ai (Bn (Nj (Pb hu (pv 6) (pv 1)) (by rfl))
   (Ae (Bg (E1 PySem.F.plainAttrs_list PySem.F.slot_list_append PySem.F.type_list_append Ck (Ao Bz (pv 4) (pv 6) (λ _ _=>rfl)) (Aa (pv 2) Ac)))
  (Ai (Fq (Bj Ds (Ao Bz (pv 5) (pv 2) (λ _ _=>rfl)) Ag) (Rf (pv 5) (pv 2) Na))))
   Bc))))
   Bc)))
  (Ae (Ff (j:=7) (g:=(B1 0)) (tc:=(Kn (tOp rEq (tOp (AcP K) (Bt 1) (Bt 0)) (tC (.int 0))))) (te:=(Bt 0)) ["_law_number"] [("_law_left", 5)] Bx.nd rfl (Or.inl rfl) rfl (Ci (Aj Cy) ["_law_net", "_law_free", "_law_number", "_law_count", "_law_came", "_law_left", "_law_one", "_law_row"] (by decide +kernel)) (E7 rfl T.n_range (Aa (pv 3) Ac)) (λ s2 H2 fp cl C=>A3 (i:=0) (show Nodup [("_law_number" : Str),("_law_left" : Str)] from by decide +kernel) rfl (Or.inl rfl)) (Bo (by decide)) (λ s2 H2 fp cl C=>F3 (As Bm (Ao Bz (pv 1) (pv 0) (λ _ _=>rfl)) Ag (Ax _))) (λ s2 H2 fp cl C=>(pv 0)))
  (Ae (Dr PassesOwn.never rfl (E7 rfl T.n_range (Aa (pv 3) Ac)) (A3 (i:=2) Bx.nd rfl (Or.inl rfl))
   (Ae (Bn (As Aaq (pv 2) (A4 Br rfl T.n_len PySem.boot_len (Aa (pv 7) Ac)) (Ax _))
   (Ai (Aw Ex))
   Bc)
  (Ai (Dr PassesOwn.never rfl (Cz (Ao Bz (pv 4) (Ao Bz (pv 7) (pv 2) (λ _ _=>rfl)) (λ _ _=>rfl))) (A3 (i:=6) Bx.nd rfl (Or.inl rfl))
   (Ae (Fq (Bj Nf (Ao Bz (pv 5) (pv 6) (λ _ _=>rfl)) Ag) (Rf (pv 5) (pv 6) Na))
  (Ai (Bn (As Bm (Ao Bz (pv 5) (pv 6) (λ _ _=>rfl)) Ag (Ax _))
   (Ai (Bg (E1 PySem.F.plainAttrs_list PySem.F.slot_list_append PySem.F.type_list_append Ck (pv 7) (Aa (pv 6) Ac))))
   Bc)))))))
  (Ai (Aw Ex)))))))))),?_⟩
 obtain ⟨o,W⟩:=f.W
 obtain ⟨gvs,ho,hg,hpg,hs,hnn,hrr,hll,nd⟩:=id W
 have ht:=f.ht
 have lg:=PySem.Paired.length hpg
 have n1:=f.n1
 refine λ d hd=>?_
 have g1:=Ad hd (.dK [])
 have ed1:=Ab (H:=H) (a:=d) (o:=.dK [])
 refine ⟨_,Z,t,_,_,_,Z,Z,SqT.of (g1 _ _ ht),Ah (j:=1) rfl,L.sl,Z,⟨_,SqL.of (g1 _ _ hs)⟩,F0 (K:=K) (xs:=(List.range n).map λ (i:Nat)=>V.int (i:Int)) (λ i σ H'=>∃ x2,σ = [some (.ref t),some (.ref d),x2,none,none,none,none,none]∧Same H H'∧H' d = some (.dK (Ea i))) ⟨none,Z,g1,ed1⟩ (λ i σ H' _ ⟨_,_,g,_⟩=>SqL.of (g _ _ hs)) ?_ ?_⟩
 ·rintro i x σ H2 hi ⟨x2,rfl,g2,ed2⟩
  have hil:i < n:=by have:=(List.getElem?_eq_some_iff.mp hi).1; rwa [length_map,length_range] at this
  rw [getElem?_map,getElem?_range hil] at hi
  cases hi
  refine ⟨_,Z,_,Z,d,_,Z,R1.k (k:=Sum.inl (i:Int)) ed2 (by rw [Xq]; exact F2 (by omega)),_,Z,g2.young hd _,?_⟩
  rw [Ab,Ya]
 rintro σ H2 ⟨x2,rfl,g2,ed2⟩
 rw [length_map,length_range] at ed2
 have ht2:=g2 _ _ ht
 have hg2:=g2 _ _ hg
 refine ⟨_,Z,t,_,_,_,Z,Z,SqT.of ht2,Ah (j:=0) rfl,L.gl,_,Z,.inl (SqL.of hg2),?_⟩
 dsimp only [B1]
 rw [← lg]
 refine ⟨_,Z,s.gs.length,Z,by omega,Int.lt_of_le_of_lt (Int.ofNat_le.mpr hb) (by decide),?_⟩
 rw [Int.toNat_natCast]
 have hsz:s.gs.length≤sizeLine:=le_trans hb (by decide)
 refine F8 (lo:=0) (n:=s.gs.length) (λ i ys H'=>Same H2 H'∧∃ rs:List Addr,ys = rs.map V.ref∧rs.length = i∧rs.Nodup∧∀ r∈rs,H2 r = none∧H' r = some (.lst [])) ⟨Same.refl _,[],Z,Z,nodup_nil,λ r hr=>nomatch hr⟩ hsz ?_ ?_
 ·rintro i ys H4 N hi ⟨k4,rs,rfl,lr,nd,hr4⟩ hN hyl
  refine ⟨zN0,λ r hr=>?_⟩
  have g:=Ad hr (.lst [])
  refine hN _ _ (by rw [length_append,length_singleton]; omega) ⟨k4.trans g,rs ++ [r],by rw [map_append]; rfl,by rw [length_append,length_singleton,lr],?_,?_⟩
  ·refine nodup_append.mpr ⟨nd,nodup_cons.mpr ⟨λ z=>(nomatch z),nodup_nil⟩,λ a ha b hb e=>?_⟩
   rw [mS hb] at e
   rw [e] at ha
   rw [(hr4 r ha).2] at hr
   cases hr
  ·intro b hb
   rcases mem_append.mp hb with z | z
   ·exact ⟨(hr4 b z).1,g _ _ (hr4 b z).2⟩
   ·rw [mS z]
    exact ⟨k4.free hr,Ab⟩
 rintro ys H4 hyl ⟨k4,rs,rfl,lr,ndr,hr4⟩ cl hcl
 have g5:=Ad hcl (.lst (rs.map V.ref))
 have ec5:=Ab (H:=H4) (a:=cl) (o:=.lst (rs.map V.ref))
 have clr:cl∉rs:=λ z=>by rw [(hr4 cl z).2] at hcl; cases hcl
 have k5:=k4.trans g5
 have hr5:∀ r∈rs,H r = none∧(upd H4 cl (.lst (rs.map V.ref))) r = some (.lst []):=λ r hr=>⟨g2.free (hr4 r hr).1,g5 _ _ (hr4 r hr).2⟩
 have fcl:=(g2.trans k4).free hcl
 generalize upd H4 cl (.lst (rs.map V.ref)) = H5 at *
 refine ⟨_,Z,s.gs.length,Z,by omega,Int.lt_of_le_of_lt (Int.ofNat_le.mpr hb) (by decide),?_⟩
 rw [Int.toNat_natCast]
 refine F8 (lo:=0) (n:=s.gs.length) (λ i ys H'=>H' = H5∧ys = Ew i (leftE [])) ⟨Z,Z⟩ hsz ?_ ?_
 ·rintro i ys H' N hi ⟨rfl,rfl⟩ hN hyl
  refine hN _ _ (by rw [length_append,length_singleton]; omega) ⟨Z,?_⟩
  unfold Ew
  rw [range_succ,map_append]
  rfl
 rintro ys H6 hyl ⟨hH6,rfl⟩ ll hll
 subst hH6
 have g6:=Ad hll (.lst (Ew s.gs.length (leftE [])))
 have S:SF H cl ll d rs s.gs.length:=⟨lr,ndr,λ r hr=>(hr5 r hr).1,(g2.trans k5).free hll,fcl,hd,λ z=>(by rw [z,ec5] at hll; cases hll),λ z=>(by rw [(hr5 ll z).2] at hll; cases hll),clr⟩
 have A0:CmA H (upd H6 ll (.lst (Ew s.gs.length (leftE [])))) cl ll d rs s.gs.length n [] (leftE []):=⟨(g2.trans k5).trans g6,g6 _ _ ec5,λ x r e=>g6 _ _ (hr5 r (mem_of_getElem? e)).2,Ab,g6 _ _ (k5 _ _ ed2)⟩
 generalize upd H6 ll (.lst (Ew s.gs.length (leftE []))) = H7 at *
 refine ⟨_,Z,s.gs.length,Z,by omega,Int.lt_of_le_of_lt (Int.ofNat_le.mpr hb) (by decide),?_⟩
 rw [Int.toNat_natCast]
 refine Pp (lo:=0) (n:=s.gs.length) (λ i σ H'=>∃ x2 x6,σ = [some (.ref t),some (.ref d),x2,some (.int (s.gs.length:Int)),some (.ref cl),some (.ref ll),x6,none]∧CmA H H' cl ll d rs s.gs.length n (edges n s.gs i) (leftE (edges n s.gs i))) ⟨_,_,Z,A0⟩ ?_ ?_
 ·rintro i σ HA hi ⟨x2,x6,rfl,A⟩
  rw [Int.zero_add]
  obtain ⟨g,eg⟩:∃ g,s.gs[i]? = some g:=⟨_,getElem?_eq_getElem hi⟩
  obtain ⟨y,egv,ta,ua,rfl,hta0,hua0⟩:=Bq hpg eg
  have hta:=A.sm _ _ hta0
  have hua:=A.sm _ _ hua0
  have skip:¬ (n≤i∧Jt g.1 = true)→edges n s.gs (i + 1) = edges n s.gs i:=λ h=>by
   rw [Ku eg]
   unfold Lg
   rw [if_neg h,append_nil]
  have hdi:(Ek (Ea n) (Sum.inl (i:Int))).isSome = decide ((i:Int) < n):=P9 n i (by omega)
  have gli:=f.gl g (mem_of_getElem? eg)
  have gb:∀ x∈g.2,Jt g.1 = true→0≤x∧x < s.gs.length:=λ x hx ho=>by
   rcases f.nr.gt i g eg with z | ⟨z,_⟩
   ·omega
   ·rcases z with ⟨z,z'⟩ | ⟨z,k,z',_⟩ | ⟨z,k,z',_⟩ | ⟨_,z⟩
    ·rw [z'] at hx; cases hx
    ·have o:=Hq.mp ho
     rw [z] at o
     rcases o with o | o | o <;> exact absurd o (by decide +kernel)
    ·have o:=Hq.mp ho
     rw [z] at o
     rcases o with o | o | o <;> exact absurd o (by decide +kernel)
    ·exact z x hx
  dsimp only [B1,O1,O7,tC,Nc]
  refine Iz (λ b H'=>Same HA H'∧b = (decide (n≤i) && Jt g.1)) (λ Q' k=>?_) ?_ ?_
  ·refine ⟨_,Z,_,Z,d,_,Z,Gi.k (k:=Sum.inl (i:Int)) A.hd,_,Z,?_⟩
   rw [hdi]
   by_cases hin:(i:Int) < n
   ·rw [decide_eq_true hin]
    refine Dq (k _ _ ⟨Same.refl _,?_⟩)
    rw [decide_eq_false (by omega)]
    rfl
   ·rw [decide_eq_false hin]
    refine Dy ⟨_,Z,t,_,_,_,Z,Z,SqT.of (A.sm _ _ ht),Ah (j:=0) rfl,_,Z,L.gl,_,_,.ref ta,Z,Z,SqL.of (A.sm _ _ hg),Ah egv,ta,_,_,_,Z,Z,SqT.of hta,Ah (j:=0) rfl,zN3,λ l1 h1=>⟨l1,_,Z,.inl (SqL.of Ab),Z,Z,_,Z,k _ _ ⟨Ad h1 _,?_⟩⟩⟩
    rw [decide_eq_true (by omega:n≤i),Bool.true_and]
    exact AcQ g.1
  ·rintro HB ⟨kB,eb⟩
   have hbi:=Bool.and_eq_true_iff.mp eb.symm
   have hni:n≤i:=of_decide_eq_true hbi.1
   have AB:=A.same kB
   have eE:∀ E:Ed,E = edges n s.gs i ++ (El n g.2).map (λ x=>(x,i))→E = edges n s.gs (i + 1):=λ E e=>by
    rw [e,Ku eg]
    unfold Lg
    rw [if_pos ⟨hni,hbi.2⟩]
   refine ⟨_,Z,t,_,_,_,Z,Z,SqT.of (AB.sm _ _ ht),Ah (j:=0) rfl,_,Z,L.gl,_,_,.ref ta,Z,Z,SqL.of (AB.sm _ _ hg),Ah egv,ta,_,_,_,Z,Z,SqT.of (kB _ _ hta),Ah (j:=1) rfl,ua,Z,⟨_,SqT.of (kB _ _ hua)⟩,Iv (K:=K) (xs:=g.2.map V.int) (λ k σ H'=>∃ x6,σ = [some (.ref t),some (.ref d),some (.int (i:Int)),some (.int (s.gs.length:Int)),some (.ref cl),some (.ref ll),x6,none]∧Same H H'∧CmA H H' cl ll d rs s.gs.length n (edges n s.gs i ++ (El n (g.2.take k)).map λ x=>(x,i)) (leftE (edges n s.gs i ++ (El n (g.2.take k)).map λ x=>(x,i)))) ⟨_,Z,AB.sm,?_⟩ (λ k σ H' _ ⟨_,_,sm,_⟩=>?_) ?_ ?_⟩
   ·rw [List.take_zero]
    show CmA H HB cl ll d rs s.gs.length n (edges n s.gs i ++ []) (leftE (edges n s.gs i ++ []))
    rw [append_nil]
    exact AB
   ·exact SqT.of (sm _ _ hua0)
   ·rintro k x σ HC hk ⟨x6',rfl,smC,AC⟩
    have hkl:k < g.2.length:=by have:=(List.getElem?_eq_some_iff.mp hk).1; rwa [length_map] at this
    rw [getElem?_map,getElem?_eq_getElem hkl] at hk
    cases hk
    have kS:=Vw n g.2 (getElem?_eq_getElem hkl)
    have hx:=gb _ (getElem_mem hkl) hbi.2
    have hdx:(Ek (Ea n) (Sum.inl g.2[k])).isSome = decide (g.2[k] < n):=P9 n _ hx.1
    have lE:(edges n s.gs i ++ (El n (g.2.take k)).map λ x=>(x,i)).length≤16000000:=by
     rw [length_append,length_map]
     have h1:=Pj (n:=n) f.gl i
     have h2:(El n (g.2.take k)).length≤g.2.length:=by
      unfold El
      rw [length_map]
      exact le_trans (length_filter_le _ _) (by rw [length_take]; omega)
     omega
    have kE:(edges n s.gs i ++ (El n (g.2.take (k + 1))).map λ x=>(x,i)) = (edges n s.gs i ++ (El n (g.2.take k)).map λ x=>(x,i)) ++ (if (n:Int)≤g.2[k] then [(g.2[k].toNat,i)] else []):=by
     rw [kS,map_append,append_assoc]
     congr 2
     split <;> rfl
    rw [kE]
    generalize (edges n s.gs i ++ (El n (g.2.take k)).map λ x=>(x,i)) = EK at *
    refine ⟨_,Z,_,Z,d,_,Z,Gi.k (k:=Sum.inl g.2[k]) AC.hd,_,Z,?_⟩
    rw [hdx]
    by_cases hxn:g.2[k] < n
    ·rw [decide_eq_true hxn,if_neg (show ¬ (n:Int)≤g.2[k] by omega),append_nil]
     exact Dq ⟨_,Z,smC,AC⟩
    rw [decide_eq_false hxn,if_pos (show (n:Int)≤g.2[k] by omega)]
    obtain ⟨xn,exn⟩:=Int.eq_ofNat_of_zero_le hx.1
    have hxc:xn < s.gs.length:=by omega
    rw [show g.2[k].toNat = xn by omega]
    have hxr:xn < rs.length:=by rw [S.len]; exact hxc
    have er:=getElem?_eq_getElem hxr
    have hr1:=AC.hr xn _ er
    have A1:=AC.came S er i
    have ex:atI (rs.map V.ref) g.2[k] = some (.ref rs[xn]):=by
     rw [exn]
     exact Ah (by rw [getElem?_map,er]; rfl)
    refine Dy ⟨_,Z,_,Z,cl,_,_,.ref rs[xn],Z,Z,SqL.of AC.hc,ex,.inl ⟨Z,_,SqL.of hr1⟩,_,Z,rs[xn],_,_,Z,Z,hr1,?_,?_⟩
    ·unfold C8
     rw [length_map]
     exact lt_of_le_of_lt (le_trans (AaD EK xn) lE) (by decide)
    have A2:=A1.left S (leftE (EK ++ [(xn,i)]))
    rw [Sj,← Sh _ _ hi] at A2
    refine ⟨_,Z,_,Z,ll,_,_,_,Z,Z,SqL.of A1.hl,Ah (L8 _ hi),_,_,Z,Z,_,Z,_,Z,ll,_,_,i,Z,Z,A1.hl,by rw [Rc]; exact Td hi,_,Z,?_,?_⟩
    ·exact A2.sm
    ·rw [Sj]
     exact A2
   ·rintro σ HC ⟨x6',rfl,_,AC⟩
    rw [length_map,take_length] at AC
    have e:=eE _ rfl
    rw [e] at AC
    exact ⟨_,_,Z,AC⟩
  ·rintro HB ⟨kB,eb⟩
   have h:¬ (n≤i∧Jt g.1 = true):=λ z=>by rw [decide_eq_true z.1,z.2] at eb; cases eb
   have:=skip h
   exact ⟨_,_,Z,by rw [this]; exact A.same kB⟩
 rintro σ HA ⟨x2,x6,rfl,A⟩
 have eIn:∀ e∈edges n s.gs s.gs.length,(e.1 < s.gs.length∧τ e.1 < τ e.2)∧e.2 < s.gs.length:=λ e he=>Zs f.nr he
 generalize edges n s.gs s.gs.length = EE at *
 refine ⟨_,Z,s.gs.length,Z,by omega,Int.lt_of_le_of_lt (Int.ofNat_le.mpr hb) (by decide),?_⟩
 rw [Int.toNat_natCast]
 refine F8 (lo:=0) (n:=s.gs.length) (λ i ys H'=>H' = HA∧ys = C8 ((List.range i).filter λ j=>decide (leftE EE j = 0))) ⟨Z,Z⟩ hsz ?_ ?_
 ·rintro i ys H' N hi ⟨rfl,rfl⟩ hN hyl
  rw [Int.zero_add]
  have fl:C8 ((List.range (i + 1)).filter λ j=>decide (leftE EE j = 0)) = C8 ((List.range i).filter λ j=>decide (leftE EE j = 0)) ++ (if decide (leftE EE i = 0) = true then [V.int (i:Int)] else []):=by
   unfold C8
   rw [range_succ,filter_append,map_append]
   congr 1
   by_cases z:leftE EE i = 0
   ·simp [z]
   ·simp [z]
  refine ⟨_,Z,_,Z,ll,_,_,_,Z,Z,SqL.of A.hl,Ah (L8 _ hi),Z,_,Z,?_⟩
  have ed:decide (V.int ((leftE EE i:Nat):Int) = V.int 0) = decide (leftE EE i = 0):=by
   by_cases z:leftE EE i = 0
   ·rw [z]; rfl
   ·rw [decide_eq_false z,decide_eq_false]
    intro y
    injection y with y
    omega
  rw [ed]
  refine Ay (λ c=>?_) (λ c=>?_)
  ·refine ⟨_,Z,hN _ _ (by rw [length_append,length_singleton]; omega) ⟨Z,?_⟩⟩
   rw [fl,if_pos c]
  ·refine hN _ _ (by omega) ⟨Z,?_⟩
   rw [fl,if_neg c,append_nil]
 rintro ys HB hyl ⟨hHB,rfl⟩ rl hrl
 subst hHB
 have gB:=Ad hrl (.lst (C8 ((List.range s.gs.length).filter λ j=>decide (leftE EE j = 0))))
 have erl:=Ab (H:=HB) (a:=rl) (o:=.lst (C8 ((List.range s.gs.length).filter λ j=>decide (leftE EE j = 0))))
 have AB:=A.same gB
 have frl:=A.sm.free hrl
 have rll:rl≠ll:=λ z=>by rw [z,A.hl] at hrl; cases hrl
 have rcl:rl≠cl:=λ z=>by rw [z,A.hc] at hrl; cases hrl
 have rrs:rl∉rs:=λ z=>by
  obtain ⟨j,hj⟩:=getElem?_of_mem z
  rw [A.hr j rl hj] at hrl; cases hrl
 have rd:rl≠d:=λ z=>by rw [z,A.hd] at hrl; cases hrl
 have k0:=KI.init EE s.gs.length
 generalize upd HB rl (.lst (C8 ((List.range s.gs.length).filter λ j=>decide (leftE EE j = 0)))) = HC at *
 have rowA:∀ {H':Hp} {f':Nat→Nat} (l:List V),CmA H H' cl ll d rs s.gs.length n EE f'→CmA H (upd H' rl (.lst l)) cl ll d rs s.gs.length n EE f':=λ l a =>
  ⟨a.sm.young frl _,by rw [upd_ne (Ne.symm rcl)]; exact a.hc,λ x r e=>by rw [upd_ne (λ z=>rrs (by rw [← z]; exact mem_of_getElem? e))]; exact a.hr x r e,by rw [upd_ne (Ne.symm rll)]; exact a.hl,by rw [upd_ne (Ne.symm rd)]; exact a.hd⟩
 refine ⟨_,Z,s.gs.length,Z,by omega,Int.lt_of_le_of_lt (Int.ofNat_le.mpr hb) (by decide),?_⟩
 rw [Int.toNat_natCast]
 refine Pp (lo:=0) (n:=s.gs.length) (λ i σ H'=>∃ (x2 x6:Option V) (f':Nat→Nat) (P row:List Nat),σ = [some (.ref t),some (.ref d),x2,some (.int (s.gs.length:Int)),some (.ref cl),some (.ref ll),x6,some (.ref rl)]∧CmA H H' cl ll d rs s.gs.length n EE f'∧H' rl = some (.lst (C8 row))∧KI EE s.gs.length P [] row f'∧P.length = i) ⟨_,_,_,[],_,Z,AB,erl,k0,Z⟩ ?_ ?_
 ·rintro i σ HD hi ⟨x2',x6',f',P',row,rfl,AD,hrow,kI,lP⟩
  rw [Int.zero_add]
  obtain ⟨r,er⟩:=id kI.pre
  cases r with
  | nil =>
   rw [append_nil] at er
   subst er
   have:=kI.full (τ:=τ) λ e he=>(eIn e he).1
   omega
  | cons u r =>
  have lrow:P'.length < row.length:=by rw [er,length_append,length_cons]; omega
  refine ⟨_,Z,_,Z,rl,_,Z,.inl (SqL.of hrow),_,_,Z,Z,_,Z,Ay (λ z=>?_) λ _=>?_⟩
  ·have z:=of_decide_eq_true z
   unfold C8 at z
   rw [length_map] at z
   omega
  have uin:u∈row:=by rw [er]; exact mem_append_right _ mem_cons_self
  have hu':=kI.lt u uin
  have hur:u < rs.length:=by rw [S.len]; exact hu'
  have eru:=getElem?_eq_getElem hur
  have k1:=kI.next er
  have ati:(C8 row)[i]? = some (.int (u:Int)):=by
   unfold C8
   rw [getElem?_map,er,← lP,getElem?_append_right (le_refl _),sub_self]
   rfl
  refine ⟨_,Z,_,Z,_,Z,rl,_,_,_,Z,Z,SqL.of hrow,Ah ati,cl,_,_,.ref rs[u],Z,Z,SqL.of AD.hc,Ah (by rw [getElem?_map,eru]; rfl),rs[u],Z,⟨_,SqL.of (AD.hr u _ eru)⟩,F0 (K:=K) (xs:=C8 (cameE EE u)) (λ k σ H'=>∃ (x6:Option V) (f':Nat→Nat) (row:List Nat),σ = [some (.ref t),some (.ref d),some (.int (i:Int)),some (.int (s.gs.length:Int)),some (.ref cl),some (.ref ll),x6,some (.ref rl)]∧CmA H H' cl ll d rs s.gs.length n EE f'∧H' rl = some (.lst (C8 row))∧KI EE s.gs.length (P' ++ [u]) ((cameE EE u).drop k) row f') ⟨_,f',row,Z,AD,hrow,by rw [List.drop_zero]; exact k1⟩ (λ k σ H' _ ⟨_,_,_,_,a,_⟩=>SqL.of (a.hr u _ eru)) ?_ ?_⟩
  ·rintro k x σ HE hk ⟨x6'',f2,row2,rfl,AE,hrow2,kI2⟩
   have hkl:k < (cameE EE u).length:=by have:=(List.getElem?_eq_some_iff.mp hk).1; unfold C8 at this; rwa [length_map] at this
   unfold C8 at hk
   rw [getElem?_map,getElem?_eq_getElem hkl] at hk
   cases hk
   rw [List.drop_eq_getElem_cons hkl] at kI2
   have ho:(cameE EE u)[k] < s.gs.length:=by
    have hm:=getElem_mem hkl
    have:∀ y∈cameE EE u,y < s.gs.length:=λ y hy=>by
     unfold cameE at hy
     obtain ⟨e,he,rfl⟩:=mem_map.mp hy
     exact (eIn e (mem_filter.mp he).1).2
    exact this _ hm
   have kp:=kI2.pos
   have ks:=kI2.step ho
   generalize (cameE EE u)[k] = oo at *
   have AF:=AE.left S (Gy f2 oo (f2 oo - 1))
   have eset:(Ew s.gs.length f2).set oo (.int ((f2 oo:Int) - 1)) = Ew s.gs.length (Gy f2 oo (f2 oo - 1)):=by
    rw [show ((f2 oo:Int) - 1) = ((f2 oo - 1:Nat):Int) by omega,Sh _ _ ho]
   refine ⟨_,Z,_,Z,ll,_,_,_,Z,Z,SqL.of AE.hl,Ah (L8 _ ho),_,_,Z,Z,_,Z,_,Z,ll,_,_,oo,Z,Z,AE.hl,by rw [Rc]; exact Td ho,?_⟩
   dsimp only
   rw [eset]
   have hrow3:(upd HE ll (.lst (Ew s.gs.length (Gy f2 oo (f2 oo - 1))))) rl = some (.lst (C8 row2)):=by rw [upd_ne rll]; exact hrow2
   generalize upd HE ll (.lst (Ew s.gs.length (Gy f2 oo (f2 oo - 1)))) = HF at *
   refine ⟨_,Z,_,Z,ll,_,_,_,Z,Z,SqL.of AF.hl,Ah (L8 _ ho),Z,_,Z,?_⟩
   have ed:decide (V.int ((Gy f2 oo (f2 oo - 1) oo:Nat):Int) = V.int 0) = decide (f2 oo - 1 = 0):=by
    rw [Me]
    by_cases z:f2 oo - 1 = 0
    ·rw [z]; rfl
    ·rw [decide_eq_false z,decide_eq_false]
     intro y
     injection y with y
     omega
   rw [ed]
   refine Ay (λ c=>?_) (λ c=>?_)
   ·have c:=of_decide_eq_true c
    rw [if_pos c] at ks
    have lr2:row2.length≤s.gs.length:=by
     have:=L3 kI2.nd (U:=List.range s.gs.length) λ x hx=>mem_range.mpr (kI2.lt x hx)
     rwa [length_range] at this
    refine ⟨_,Z,.inl ⟨Z,_,SqL.of hrow3⟩,_,Z,rl,_,_,Z,Z,hrow3,?_,?_⟩
    ·unfold C8
     rw [length_map]
     exact lt_of_le_of_lt (le_trans lr2 hb) (by decide)
    refine ⟨_,_,row2 ++ [oo],Z,rowA _ AF,?_,ks⟩
    rw [Ab]
    unfold C8
    rw [map_append]
    rfl
   ·have c:¬ f2 oo - 1 = 0:=λ z=>c (decide_eq_true z)
    rw [if_neg c] at ks
    exact ⟨_,_,row2,Z,AF,hrow3,ks⟩
  ·rintro σ HE ⟨x6'',f2,row2,rfl,AE,hrow2,kI2⟩
   refine ⟨_,_,f2,P' ++ [u],row2,Z,AE,hrow2,?_,by rw [length_append,length_singleton,lP]⟩
   have:(cameE EE u).drop (C8 (cameE EE u)).length = []:=by
    unfold C8
    rw [length_map,List.drop_length]
   rw [this] at kI2
   exact kI2
 rintro σ HD ⟨x2',x6',f',P',row,rfl,AD,_⟩
 exact q _ AD.sm
end
inductive Tq (K:PySem.W.Frag) (vs:List V) (H:Hp) (Q:VK):Prop
 | mk (a:Addr) (ns:List Int) (_:vs = [.ref a]) (_:SqL K H a (ns.map V.int)) (_:ns.length≤63) (_:∀ H',Q (.bl true) H'):Tq K vs H Q
def Qm (K:PySem.W.Frag):Sp:=λ vs H Q _=>Tq K vs H Q
theorem AbV {C:Addr} {H:Hp} {t:Addr} {n:Nat} {r:Rp} {ms:List Int} (h:Aam C H (.ref t) n (num r 0).1 ms) (pm:ms.Perm (rsP (num r 0).1)) (ok:r.ok n) (hn:n≤10) (hz:r.sz≤130) (hw:r.wt≤31):∃ (m:Nat) (τ:Nat→Nat) (L:Lc) (te ln:Addr) (es xs:List Int),(num r 0).2 = (m:Int)∧O5 C H t n m τ L te ln (Ej n (num r 0).1).2 es xs∧(Ej n (num r 0).1).2.gs.length≤100 * ((num r 0).1.sz + n + 1)∧(Ej n (num r 0).1).2.gs.length≤16000:=by
 have N:=Xh n r 0
 have okp:=N.ok ok
 have szp:=N.sz
 have ml:=N.ln
 rw [Int.zero_add] at ml
 have wt:=N.wt
 obtain ⟨τ,R⟩:=Abt (m:=(rsP (num r 0).1).length) okp (λ k hk=>by have:=N.rs k hk; rw [ml] at this; exact this) (by omega)
 have gl:=AcH okp (by omega)
 obtain ⟨o,L,t',te,ln,e,ht,W,hte,hln⟩:=h.h
 cases e
 have hi:=R.hi
 refine ⟨(rsP (num r 0).1).length,τ,L,te,ln,[(Dx n (num r 0).1).1,(Ej n (num r 0).1).1],Jg n (num r 0).1 ms,ml,⟨ht,⟨o,W⟩,hte,hln,R.nr,gl,Z,λ x hx=>?_,?_,λ x hx=>?_,R.lo,by omega,by omega,by omega⟩,hi,by omega⟩
 ·rcases mem_cons.mp hx with z | z
  ·rw [z]; exact R.e0
  ·rw [mS z]; exact R.e1
 ·unfold Jg
  rw [length_map,pm.length_eq]
 ·unfold Jg at hx
  obtain ⟨k,hk,rfl⟩:=mem_map.mp hx
  obtain ⟨g,hg,h0,h1⟩:=R.lv k (pm.mem_iff.mp hk)
  rw [hg]
  exact ⟨h0,h1⟩
section
variable {P:Program} {w:World} {K:PySem.W.Frag} {mg:Str→Option Value} {base:Heap} {C CP:Addr}
seal PSs PS PE PA PT
theorem Abs {f:Addr} {fd:FuncData} (F:Fun K "law" "law" K4 f fd) (T:B3 K mg C CP) (bT:Am P w K mg base 64 "_law_program" ["_law_script", "_law_most"] (Yl K)) (eT:Am P w K mg base 70 "net_of" ["program"] (Aan K C 63)) (cY:Am P w K mg base 2 "_law_form" ["_law_net", "_law_signs", "_law_rests"] (Wo C)) (aN:Am P w K mg base 63 "_law_parts" ["_law_part"] (Kf K 63)) (bU:Am P w K mg base 1 "_law_no_ring" ["_law_net"] (X6 C)):Cj P w K mg base CX0 71 f fd ["_law_script"] (Qm K):=by
 refine F.ok Nr (λ vs H Q E h=>?_) (λ cdv A outer s0 H vs Q E hr h=>?_)
 ·obtain ⟨a,ns,rfl,_⟩:=h; rfl
 obtain ⟨a,ns,rfl,hS,h63,q⟩:=h
 refine ⟨_,(Ae (Fq (Av bT hr rfl Al (Aa (pv 0) (Aa Ag Ac))) (Fs rfl (B0 (A3 (i:=1) Nr.nd rfl (Or.inl rfl)) (B0 (A3 (i:=2) Nr.nd rfl (Or.inl rfl)) Ep))))
  (Ae (Bh (i:=3) Nr.nd rfl (Or.inl rfl) (Av eT hr rfl Al (Aa (pv 1) Ac)))
  (Ae (Bn (Ei (Dk (Av cY hr rfl Al (Aa (pv 3) (Aa (Ao Ap (pv 1) Ag (λ _ _=>rfl)) (Aa (pv 2) Ac))))))
   (Ai (Aw Ex))
   Bc)
  (Ae (Bn (As V1 (A4 Br rfl T.n_len PySem.boot_len (Aa (Ao Ap (pv 3) Ag (λ _ _=>rfl)) Ac)) (Bj Sb Ag (Bj Ds (Bj Ds (Av aN hr rfl Al (Aa (Ao Ap (pv 1) Ag (λ _ _=>rfl)) Ac)) (Ao Ap (pv 1) Ag (λ _ _=>rfl))) Ag)) (Ax _))
   (Ai (Aw Ex))
   Bc)
  (Ai (Aw (Av bU hr rfl Al (Aa (pv 3) Ac)))))))),?_⟩
 refine ⟨_,Z,a,ns,30,Z,hS,by decide,λ t pr c n x1 v r H1 g1 e1 e2 hc hn1 hn10 hp ok hh hw hz=>?_⟩
 refine ⟨t,_,Z,SqT.of e1,Z,_,_,Z,_,_,Z,Z,?_⟩
 have N:=Xh n r 0
 have okp:=N.ok ok
 have szp:=N.sz
 have hgp:=N.hg
 have wt:=N.wt
 refine ⟨_,Z,pr,_,_,v,n,(num r 0).1,Z,e2,hp,by omega,okp,by omega,by omega,by omega,λ k hk=>(Yq (num r 0).1 (ws0 n) okp k).mpr (.inr hk),λ v' ms H2 g2 pm _ N2=>?_⟩
 have e22:=g2 _ _ e2
 have hp2:=hp.mono g2.tp
 obtain ⟨o,L0,t2,_,_,e,_⟩:=N2.h
 subst e
 obtain ⟨m,τ,L,te,ln,es,xs,em,f,l1,l2⟩:=AbV N2 pm ok hn10 hz hw
 refine ⟨_,Z,_,Z,pr,_,_,_,Z,Z,SqT.of e22,Ah (j:=2) rfl,_,Z,t2,n,m,τ,L,te,ln,_,es,xs,by rw [em]; rfl,f,λ H3 g3=>⟨_,Z,Dq ?_⟩⟩
 have f3:=f.same g3
 obtain ⟨o3,W3⟩:=f3.W
 obtain ⟨gvs,ho,hg,hpg,_⟩:=id W3
 have lg:=PySem.Paired.length hpg
 have e23:=g3 _ _ e22
 refine ⟨_,Z,t2,_,_,_,Z,Z,SqT.of f3.ht,Ah (j:=0) rfl,L.gl,_,Z,.inl (SqL.of hg),_,Z,pr,_,_,_,Z,Z,SqT.of e23,Ah (j:=3) rfl,v,(num r 0).1,n,Z,hp2.mono g3.tp,okp,by omega,λ H4 g4=>?_⟩
 have e24:=g4 _ _ e23
 refine ⟨_,Z,pr,_,_,_,Z,Z,SqT.of e24,Ah (j:=2) rfl,_,_,Z,Z,_,_,Z,Z,_,_,Z,Z,?_,_,_,Z,Z,_,Z,Ay (λ z=>?_) λ _=>?_⟩
 ·exact .inl ⟨by decide,by decide⟩
 ·have z:=of_decide_eq_true z
  rw [← lg] at z
  omega
 ·exact ⟨_,Z,t2,n,m,τ,L,te,ln,_,es,xs,Z,f3.same g4,l2,λ H5 _=>q _⟩
end
abbrev NsR (K:PySem.W.Frag) (x:Str) (a:Addr):Prop:=nsIn K mainGlobals x = some (some (.ref a))
abbrev NsN (K:PySem.W.Frag) (x:Str):Prop:=nsIn K mainGlobals x = some none
abbrev KpR (K:PySem.W.Frag) (a:Addr):Prop:=keepIn K (.ref a) = true
abbrev IfR (K:PySem.W.Frag) (a:Addr):Prop:=isFn K (.ref a) = true
abbrev CdR (K:PySem.W.Frag) (c:Value) (x:Str):Prop:=codeIn K c x = true
abbrev FnR (K:PySem.W.Frag) (f:Addr) (x y:Str) (st:Stmt) (oc:Value) (od:Option Addr) (kV dc pm:Value) (an:Option Addr) (cd ct:Value) (sl:Array (Option Value)):Prop:=K.lookup f = some ⟨oc,od,.func (fnOf x y (Cr st) (Cf st) (Aj st) .none kV dc pm an cd ct),sl⟩
theorem bM1 {K:PySem.W.Frag} {x y p0:Str} {st:Stmt} {f:Addr} {fd:FuncData} (F:Fun K x y st f fd) (h:∀ (kV doc pm:Value) (an:Option Addr) (cdv ct x0:Value),bindArgs (fnOf x y (Cr st) (Cf st) (Aj st) .none kV doc pm an cdv ct) ⟨[x0],[]⟩ = pure ([p0].zip [x0])):B7 K fd [p0] []:=F.binds λ _ _ _ _ _ _ us hl=>match us,hl with | [_],_=>h _ _ _ _ _ _ _
theorem fM1 {K:PySem.W.Frag} {mg:Str→Option Value} {x p0:Str} {st:Stmt} {f:Addr} {oc kV dc pm cd ct:Value} {od an:Option Addr} {sl:Array (Option Value)} (a:mg x = some (.ref f)) (l:FnR K f x x st oc od kV dc pm an cd ct sl) (c:CdR K cd x) (k:KpR K f) (h:∀ (kV doc pm:Value) (an:Option Addr) (cdv ct x0:Value),bindArgs (fnOf x x (Cr st) (Cf st) (Aj st) .none kV doc pm an cdv ct) ⟨[x0],[]⟩ = pure ([p0].zip [x0])):Ba K mg x [p0] st:=⟨_,_,Ch l c k,a,bM1 (Ch l c k) h⟩
theorem bM2 {K:PySem.W.Frag} {x y p0 p1:Str} {st:Stmt} {f:Addr} {fd:FuncData} (F:Fun K x y st f fd) (h:∀ (kV doc pm:Value) (an:Option Addr) (cdv ct x0 x1:Value),bindArgs (fnOf x y (Cr st) (Cf st) (Aj st) .none kV doc pm an cdv ct) ⟨[x0,x1],[]⟩ = pure ([p0,p1].zip [x0,x1])):B7 K fd [p0,p1] []:=F.binds λ _ _ _ _ _ _ us hl=>match us,hl with | [_,_],_=>h _ _ _ _ _ _ _ _
theorem fM2 {K:PySem.W.Frag} {mg:Str→Option Value} {x p0 p1:Str} {st:Stmt} {f:Addr} {oc kV dc pm cd ct:Value} {od an:Option Addr} {sl:Array (Option Value)} (a:mg x = some (.ref f)) (l:FnR K f x x st oc od kV dc pm an cd ct sl) (c:CdR K cd x) (k:KpR K f) (h:∀ (kV doc pm:Value) (an:Option Addr) (cdv ct x0 x1:Value),bindArgs (fnOf x x (Cr st) (Cf st) (Aj st) .none kV doc pm an cdv ct) ⟨[x0,x1],[]⟩ = pure ([p0,p1].zip [x0,x1])):Ba K mg x [p0,p1] st:=⟨_,_,Ch l c k,a,bM2 (Ch l c k) h⟩
theorem bM3 {K:PySem.W.Frag} {x y p0 p1 p2:Str} {st:Stmt} {f:Addr} {fd:FuncData} (F:Fun K x y st f fd) (h:∀ (kV doc pm:Value) (an:Option Addr) (cdv ct x0 x1 x2:Value),bindArgs (fnOf x y (Cr st) (Cf st) (Aj st) .none kV doc pm an cdv ct) ⟨[x0,x1,x2],[]⟩ = pure ([p0,p1,p2].zip [x0,x1,x2])):B7 K fd [p0,p1,p2] []:=F.binds λ _ _ _ _ _ _ us hl=>match us,hl with | [_,_,_],_=>h _ _ _ _ _ _ _ _ _
theorem fM3 {K:PySem.W.Frag} {mg:Str→Option Value} {x p0 p1 p2:Str} {st:Stmt} {f:Addr} {oc kV dc pm cd ct:Value} {od an:Option Addr} {sl:Array (Option Value)} (a:mg x = some (.ref f)) (l:FnR K f x x st oc od kV dc pm an cd ct sl) (c:CdR K cd x) (k:KpR K f) (h:∀ (kV doc pm:Value) (an:Option Addr) (cdv ct x0 x1 x2:Value),bindArgs (fnOf x x (Cr st) (Cf st) (Aj st) .none kV doc pm an cdv ct) ⟨[x0,x1,x2],[]⟩ = pure ([p0,p1,p2].zip [x0,x1,x2])):Ba K mg x [p0,p1,p2] st:=⟨_,_,Ch l c k,a,bM3 (Ch l c k) h⟩
theorem bM4 {K:PySem.W.Frag} {x y p0 p1 p2 p3:Str} {st:Stmt} {f:Addr} {fd:FuncData} (F:Fun K x y st f fd) (h:∀ (kV doc pm:Value) (an:Option Addr) (cdv ct x0 x1 x2 x3:Value),bindArgs (fnOf x y (Cr st) (Cf st) (Aj st) .none kV doc pm an cdv ct) ⟨[x0,x1,x2,x3],[]⟩ = pure ([p0,p1,p2,p3].zip [x0,x1,x2,x3])):B7 K fd [p0,p1,p2,p3] []:=F.binds λ _ _ _ _ _ _ us hl=>match us,hl with | [_,_,_,_],_=>h _ _ _ _ _ _ _ _ _ _
theorem fM4 {K:PySem.W.Frag} {mg:Str→Option Value} {x p0 p1 p2 p3:Str} {st:Stmt} {f:Addr} {oc kV dc pm cd ct:Value} {od an:Option Addr} {sl:Array (Option Value)} (a:mg x = some (.ref f)) (l:FnR K f x x st oc od kV dc pm an cd ct sl) (c:CdR K cd x) (k:KpR K f) (h:∀ (kV doc pm:Value) (an:Option Addr) (cdv ct x0 x1 x2 x3:Value),bindArgs (fnOf x x (Cr st) (Cf st) (Aj st) .none kV doc pm an cdv ct) ⟨[x0,x1,x2,x3],[]⟩ = pure ([p0,p1,p2,p3].zip [x0,x1,x2,x3])):Ba K mg x [p0,p1,p2,p3] st:=⟨_,_,Ch l c k,a,bM4 (Ch l c k) h⟩
theorem bM5 {K:PySem.W.Frag} {x y p0 p1 p2 p3 p4:Str} {st:Stmt} {f:Addr} {fd:FuncData} (F:Fun K x y st f fd) (h:∀ (kV doc pm:Value) (an:Option Addr) (cdv ct x0 x1 x2 x3 x4:Value),bindArgs (fnOf x y (Cr st) (Cf st) (Aj st) .none kV doc pm an cdv ct) ⟨[x0,x1,x2,x3,x4],[]⟩ = pure ([p0,p1,p2,p3,p4].zip [x0,x1,x2,x3,x4])):B7 K fd [p0,p1,p2,p3,p4] []:=F.binds λ _ _ _ _ _ _ us hl=>match us,hl with | [_,_,_,_,_],_=>h _ _ _ _ _ _ _ _ _ _ _
theorem fM5 {K:PySem.W.Frag} {mg:Str→Option Value} {x p0 p1 p2 p3 p4:Str} {st:Stmt} {f:Addr} {oc kV dc pm cd ct:Value} {od an:Option Addr} {sl:Array (Option Value)} (a:mg x = some (.ref f)) (l:FnR K f x x st oc od kV dc pm an cd ct sl) (c:CdR K cd x) (k:KpR K f) (h:∀ (kV doc pm:Value) (an:Option Addr) (cdv ct x0 x1 x2 x3 x4:Value),bindArgs (fnOf x x (Cr st) (Cf st) (Aj st) .none kV doc pm an cdv ct) ⟨[x0,x1,x2,x3,x4],[]⟩ = pure ([p0,p1,p2,p3,p4].zip [x0,x1,x2,x3,x4])):Ba K mg x [p0,p1,p2,p3,p4] st:=⟨_,_,Ch l c k,a,bM5 (Ch l c k) h⟩
theorem all_mk {l:PySem.W.OpenLaw} {w:World} {K:PySem.W.Frag} {h:Heap} {mg:Str→Option Value} {fa f0 f1 f2 f3 f4 f5 f6 f7 f8 f9 f10 f11 f12 f13 f14 f15 f16 f17 f18 f19 f20 f21 f22 f23 f24 f25 f26 f27 f28 f29 f30 f31 f32 f33 C h0 h1 h2 h3 h4 h5 h6 h7 h8 CP hP : Addr} {od0 an0 od1 an1 od2 an2 od3 an3 od4 an4 od5 an5 od6 an6 od7 an7 od8 an8 od9 an9 od10 an10 od11 an11 od12 an12 od13 an13 od14 an14 od15 an15 od16 an16 od17 an17 od18 an18 od19 an19 od20 an20 od21 an21 od22 an22 od23 an23 od24 an24 od25 an25 od26 an26 od27 an27 od28 an28 od29 an29 od30 an30 od31 an31 od32 an32 od33 an33 mod0 man0 mod1 man1 mod2 man2 mod3 man3 mod4 man4 mod5 man5 mod6 man6 mod7 man7 mod8 man8 pod pan:Option Addr} {sl0 sl1 sl2 sl3 sl4 sl5 sl6 sl7 sl8 sl9 sl10 sl11 sl12 sl13 sl14 sl15 sl16 sl17 sl18 sl19 sl20 sl21 sl22 sl23 sl24 sl25 sl26 sl27 sl28 sl29 sl30 sl31 sl32 sl33 msl0 msl1 msl2 msl3 msl4 msl5 msl6 msl7 msl8 psl:Array (Option Value)} {oc0 kV0 dc0 pm0 cd0 ct0 oc1 kV1 dc1 pm1 cd1 ct1 oc2 kV2 dc2 pm2 cd2 ct2 oc3 kV3 dc3 pm3 cd3 ct3 oc4 kV4 dc4 pm4 cd4 ct4 oc5 kV5 dc5 pm5 cd5 ct5 oc6 kV6 dc6 pm6 cd6 ct6 oc7 kV7 dc7 pm7 cd7 ct7 oc8 kV8 dc8 pm8 cd8 ct8 oc9 kV9 dc9 pm9 cd9 ct9 oc10 kV10 dc10 pm10 cd10 ct10 oc11 kV11 dc11 pm11 cd11 ct11 oc12 kV12 dc12 pm12 cd12 ct12 oc13 kV13 dc13 pm13 cd13 ct13 oc14 kV14 dc14 pm14 cd14 ct14 oc15 kV15 dc15 pm15 cd15 ct15 oc16 kV16 dc16 pm16 cd16 ct16 oc17 kV17 dc17 pm17 cd17 ct17 oc18 kV18 dc18 pm18 cd18 ct18 oc19 kV19 dc19 pm19 cd19 ct19 oc20 kV20 dc20 pm20 cd20 ct20 oc21 kV21 dc21 pm21 cd21 ct21 oc22 kV22 dc22 pm22 cd22 ct22 oc23 kV23 dc23 pm23 cd23 ct23 oc24 kV24 dc24 pm24 cd24 ct24 oc25 kV25 dc25 pm25 cd25 ct25 oc26 kV26 dc26 pm26 cd26 ct26 oc27 kV27 dc27 pm27 cd27 ct27 oc28 kV28 dc28 pm28 cd28 ct28 oc29 kV29 dc29 pm29 cd29 ct29 oc30 kV30 dc30 pm30 cd30 ct30 oc31 kV31 dc31 pm31 cd31 ct31 oc32 kV32 dc32 pm32 cd32 ct32 oc33 kV33 dc33 pm33 cd33 ct33 moc0 mkV0 mdc0 mpm0 mcd0 mct0 moc1 mkV1 mdc1 mpm1 mcd1 mct1 moc2 mkV2 mdc2 mpm2 mcd2 mct2 moc3 mkV3 mdc3 mpm3 mcd3 mct3 moc4 mkV4 mdc4 mpm4 mcd4 mct4 moc5 mkV5 mdc5 mpm5 mcd5 mct5 moc6 mkV6 mdc6 mpm6 mcd6 mct6 moc7 mkV7 mdc7 mpm7 mcd7 mct7 moc8 mkV8 mdc8 mpm8 mcd8 mct8 poc pkV pdc ppm pcd pct:Value} {tk_ENDED tk_RESTS tk_LEAVES:Tok} (X:K.In h) (G:h.Ns mainGlobals mg) (hfa:mg "law" = some (.ref fa)) (a0:NsR K "net_of" f0) (l0:FnR K f0 "net_of" "net_of" Jm oc0 od0 kV0 dc0 pm0 an0 cd0 ct0 sl0) (c0:CdR K cd0 "net_of") (k0:KpR K f0) (a1:NsR K "wire_part" f1) (l1:FnR K f1 "wire_part" "wire_part" Fu oc1 od1 kV1 dc1 pm1 an1 cd1 ct1 sl1) (c1:CdR K cd1 "wire_part") (k1:KpR K f1) (a2:NsR K "wire_leaf" f2) (l2:FnR K f2 "wire_leaf" "wire_leaf" Hg oc2 od2 kV2 dc2 pm2 an2 cd2 ct2 sl2) (c2:CdR K cd2 "wire_leaf") (k2:KpR K f2) (a3:NsR K "wire_rest" f3) (l3:FnR K f3 "wire_rest" "wire_rest" Hk oc3 od3 kV3 dc3 pm3 an3 cd3 ct3 sl3) (c3:CdR K cd3 "wire_rest") (k3:KpR K f3) (a4:NsR K "wire_leaving" f4) (l4:FnR K f4 "wire_leaving" "wire_leaving" Fl oc4 od4 kV4 dc4 pm4 an4 cd4 ct4 sl4) (c4:CdR K cd4 "wire_leaving") (k4:KpR K f4) (a5:NsR K "wire_pair" f5) (l5:FnR K f5 "wire_pair" "wire_pair" Hf oc5 od5 kV5 dc5 pm5 an5 cd5 ct5 sl5) (c5:CdR K cd5 "wire_pair") (k5:KpR K f5) (a6:NsR K "wire_then" f6) (l6:FnR K f6 "wire_then" "wire_then" Fw oc6 od6 kV6 dc6 pm6 an6 cd6 ct6 sl6) (c6:CdR K cd6 "wire_then") (k6:KpR K f6) (a7:NsR K "wire_if" f7) (l7:FnR K f7 "wire_if" "wire_if" Jw oc7 od7 kV7 dc7 pm7 an7 cd7 ct7 sl7) (c7:CdR K cd7 "wire_if") (k7:KpR K f7) (a8:NsR K "wire_beside" f8) (l8:FnR K f8 "wire_beside" "wire_beside" Fz oc8 od8 kV8 dc8 pm8 an8 cd8 ct8 sl8) (c8:CdR K cd8 "wire_beside") (k8:KpR K f8) (a9:NsR K "greater_codes" f9) (l9:FnR K f9 "greater_codes" "greater_codes" C2 oc9 od9 kV9 dc9 pm9 an9 cd9 ct9 sl9) (c9:CdR K cd9 "greater_codes") (k9:KpR K f9) (a10:NsR K "wire_round" f10) (l10:FnR K f10 "wire_round" "wire_round" Fc oc10 od10 kV10 dc10 pm10 an10 cd10 ct10 sl10) (c10:CdR K cd10 "wire_round") (k10:KpR K f10) (a11:NsR K "wire_again" f11) (l11:FnR K f11 "wire_again" "wire_again" Fb oc11 od11 kV11 dc11 pm11 an11 cd11 ct11 sl11) (c11:CdR K cd11 "wire_again") (k11:KpR K f11) (a12:NsR K "wire_skipping" f12) (l12:FnR K f12 "wire_skipping" "wire_skipping" E2 oc12 od12 kV12 dc12 pm12 an12 cd12 ct12 sl12) (c12:CdR K cd12 "wire_skipping") (k12:KpR K f12) (a13:NsR K "code_gate" f13) (l13:FnR K f13 "code_gate" "code_gate" Hl oc13 od13 kV13 dc13 pm13 an13 cd13 ct13 sl13) (c13:CdR K cd13 "code_gate") (k13:KpR K f13) (a14:NsR K "leaf_code" f14) (l14:FnR K f14 "leaf_code" "leaf_code" Hj oc14 od14 kV14 dc14 pm14 an14 cd14 ct14 sl14) (c14:CdR K cd14 "leaf_code") (k14:KpR K f14) (a15:NsR K "code_of_again" f15) (l15:FnR K f15 "code_of_again" "code_of_again" E3 oc15 od15 kV15 dc15 pm15 an15 cd15 ct15 sl15) (c15:CdR K cd15 "code_of_again") (k15:KpR K f15) (a16:NsR K "code_of_trap" f16) (l16:FnR K f16 "code_of_trap" "code_of_trap" Fn oc16 od16 kV16 dc16 pm16 an16 cd16 ct16 sl16) (c16:CdR K cd16 "code_of_trap") (k16:KpR K f16) (a17:NsR K "inner_parts" f17) (l17:FnR K f17 "inner_parts" "inner_parts" Eo oc17 od17 kV17 dc17 pm17 an17 cd17 ct17 sl17) (c17:CdR K cd17 "inner_parts") (k17:KpR K f17) (a18:NsR K "every_part" f18) (l18:FnR K f18 "every_part" "every_part" Go oc18 od18 kV18 dc18 pm18 an18 cd18 ct18 sl18) (c18:CdR K cd18 "every_part") (k18:KpR K f18) (a19:NsR K "rests_of" f19) (l19:FnR K f19 "rests_of" "rests_of" Gn oc19 od19 kV19 dc19 pm19 an19 cd19 ct19 sl19) (c19:CdR K cd19 "rests_of") (k19:KpR K f19) (a20:NsR K "_law_mixed" f20) (l20:FnR K f20 "_law_mixed" "_law_mixed" Gp oc20 od20 kV20 dc20 pm20 an20 cd20 ct20 sl20) (c20:CdR K cd20 "_law_mixed") (k20:KpR K f20) (a21:NsR K "_law_at" f21) (l21:FnR K f21 "_law_at" "_law_at" Ju oc21 od21 kV21 dc21 pm21 an21 cd21 ct21 sl21) (c21:CdR K cd21 "_law_at") (k21:KpR K f21) (a22:NsR K "_law_leaf" f22) (l22:FnR K f22 "_law_leaf" "_law_leaf" Hm oc22 od22 kV22 dc22 pm22 an22 cd22 ct22 sl22) (c22:CdR K cd22 "_law_leaf") (k22:KpR K f22) (a23:NsR K "_law_deep" f23) (l23:FnR K f23 "_law_deep" "_law_deep" Eu oc23 od23 kV23 dc23 pm23 an23 cd23 ct23 sl23) (c23:CdR K cd23 "_law_deep") (k23:KpR K f23) (a24:NsR K "_law_grown" f24) (l24:FnR K f24 "_law_grown" "_law_grown" Gm oc24 od24 kV24 dc24 pm24 an24 cd24 ct24 sl24) (c24:CdR K cd24 "_law_grown") (k24:KpR K f24) (a25:NsR K "_law_body" f25) (l25:FnR K f25 "_law_body" "_law_body" Hi oc25 od25 kV25 dc25 pm25 an25 cd25 ct25 sl25) (c25:CdR K cd25 "_law_body") (k25:KpR K f25) (a26:NsR K "_law_numbered" f26) (l26:FnR K f26 "_law_numbered" "_law_numbered" Dv oc26 od26 kV26 dc26 pm26 an26 cd26 ct26 sl26) (c26:CdR K cd26 "_law_numbered") (k26:KpR K f26) (a27:NsR K "_law_program" f27) (l27:FnR K f27 "_law_program" "_law_program" Fm oc27 od27 kV27 dc27 pm27 an27 cd27 ct27 sl27) (c27:CdR K cd27 "_law_program") (k27:KpR K f27) (a28:NsR K "_law_gate" f28) (l28:FnR K f28 "_law_gate" "_law_gate" Et oc28 od28 kV28 dc28 pm28 an28 cd28 ct28 sl28) (c28:CdR K cd28 "_law_gate") (k28:KpR K f28) (a29:NsR K "_law_numbers" f29) (l29:FnR K f29 "_law_numbers" "_law_numbers" Dh oc29 od29 kV29 dc29 pm29 an29 cd29 ct29 sl29) (c29:CdR K cd29 "_law_numbers") (k29:KpR K f29) (a30:NsR K "_law_form" f30) (l30:FnR K f30 "_law_form" "_law_form" Fv oc30 od30 kV30 dc30 pm30 an30 cd30 ct30 sl30) (c30:CdR K cd30 "_law_form") (k30:KpR K f30) (a31:NsR K "_law_parts" f31) (l31:FnR K f31 "_law_parts" "_law_parts" Fd oc31 od31 kV31 dc31 pm31 an31 cd31 ct31 sl31) (c31:CdR K cd31 "_law_parts") (k31:KpR K f31) (a32:NsR K "_law_no_ring" f32) (l32:FnR K f32 "_law_no_ring" "_law_no_ring" Cy oc32 od32 kV32 dc32 pm32 an32 cd32 ct32 sl32) (c32:CdR K cd32 "_law_no_ring") (k32:KpR K f32) (a33:NsR K "law" f33) (l33:FnR K f33 "law" "law" K4 oc33 od33 kV33 dc33 pm33 an33 cd33 ct33 sl33) (c33:CdR K cd33 "law") (k33:KpR K f33) (aC:NsR K "Wiring" C) (ma0:findIn K (.ref C) "__init__" = some (some (.ref h0))) (mi0:IfR K h0) (ml0:FnR K h0 "__init__" "Wiring.__init__" Iw moc0 mod0 mkV0 mdc0 mpm0 man0 mcd0 mct0 msl0) (mc0:CdR K mcd0 "Wiring.__init__") (mk0:KpR K h0) (ma1:findIn K (.ref C) "gate" = some (some (.ref h1))) (mi1:IfR K h1) (ml1:FnR K h1 "gate" "Wiring.gate" L5 moc1 mod1 mkV1 mdc1 mpm1 man1 mcd1 mct1 msl1) (mc1:CdR K mcd1 "Wiring.gate") (mk1:KpR K h1) (ma2:findIn K (.ref C) "later" = some (some (.ref h2))) (mi2:IfR K h2) (ml2:FnR K h2 "later" "Wiring.later" Kh moc2 mod2 mkV2 mdc2 mpm2 man2 mcd2 mct2 msl2) (mc2:CdR K mcd2 "Wiring.later") (mk2:KpR K h2) (ma3:findIn K (.ref C) "fill" = some (some (.ref h3))) (mi3:IfR K h3) (ml3:FnR K h3 "fill" "Wiring.fill" Ol moc3 mod3 mkV3 mdc3 mpm3 man3 mcd3 mct3 msl3) (mc3:CdR K mcd3 "Wiring.fill") (mk3:KpR K h3) (ma4:findIn K (.ref C) "opposite" = some (some (.ref h4))) (mi4:IfR K h4) (ml4:FnR K h4 "opposite" "Wiring.opposite" Iq moc4 mod4 mkV4 mdc4 mpm4 man4 mcd4 mct4 msl4) (mc4:CdR K mcd4 "Wiring.opposite") (mk4:KpR K h4) (ma5:findIn K (.ref C) "every_of" = some (some (.ref h5))) (mi5:IfR K h5) (ml5:FnR K h5 "every_of" "Wiring.every_of" Io moc5 mod5 mkV5 mdc5 mpm5 man5 mcd5 mct5 msl5) (mc5:CdR K mcd5 "Wiring.every_of") (mk5:KpR K h5) (ma6:findIn K (.ref C) "some_of" = some (some (.ref h6))) (mi6:IfR K h6) (ml6:FnR K h6 "some_of" "Wiring.some_of" Jv moc6 mod6 mkV6 mdc6 mpm6 man6 mcd6 mct6 msl6) (mc6:CdR K mcd6 "Wiring.some_of") (mk6:KpR K h6) (ma7:findIn K (.ref C) "joined" = some (some (.ref h7))) (mi7:IfR K h7) (ml7:FnR K h7 "joined" "Wiring.joined" Hc moc7 mod7 mkV7 mdc7 mpm7 man7 mcd7 mct7 msl7) (mc7:CdR K mcd7 "Wiring.joined") (mk7:KpR K h7) (ma8:findIn K (.ref C) "new_part" = some (some (.ref h8))) (mi8:IfR K h8) (ml8:FnR K h8 "new_part" "Wiring.new_part" Ip moc8 mod8 mkV8 mdc8 mpm8 man8 mcd8 mct8 msl8) (mc8:CdR K mcd8 "Wiring.new_part") (mk8:KpR K h8) (pg:plainGet K C Str.empty = true) (hd:hasDictIn K C = true) (po:plainOver K C = true) (sa:findIn K (.ref C) "__setattr__" = some (some (.builtin "object.__setattr__"))) (mk:makesIn K C = true) (kc:KpR K C) (nA_gates:findIn K (.ref C) "gates" = some none) (nA_signs:findIn K (.ref C) "signs" = some none) (nA_senders:findIn K (.ref C) "senders" = some none) (nA_leavers:findIn K (.ref C) "leavers" = some none) (cn_ENDED:nsIn K mainGlobals "ENDED" = some (some (.int 0 tk_ENDED))) (cn_RESTS:nsIn K mainGlobals "RESTS" = some (some (.int 1 tk_RESTS))) (cn_LEAVES:nsIn K mainGlobals "LEAVES" = some (some (.int 2 tk_LEAVES))) (paC:NsR K "Wired" CP) (pma:findIn K (.ref CP) "__init__" = some (some (.ref hP))) (pmi:IfR K hP) (pml:FnR K hP "__init__" "Wired.__init__" Mm poc pod pkV pdc ppm pan pcd pct psl) (pmc:CdR K pcd "Wired.__init__") (pmk:KpR K hP) (ppg:plainGet K CP Str.empty = true) (phd:hasDictIn K CP = true) (ppo:plainOver K CP = true) (psa:findIn K (.ref CP) "__setattr__" = some (some (.builtin "object.__setattr__"))) (pmm:makesIn K CP = true) (pkc:KpR K CP) (pn_runs:findIn K (.ref CP) "runs" = some none) (pn_kept:findIn K (.ref CP) "kept" = some none) (pn_stays:findIn K (.ref CP) "stays" = some none) (pn_rests:findIn K (.ref CP) "rests" = some none) (pn_codes:findIn K (.ref CP) "codes" = some none) (z_all:NsN K "all") (z_bool:NsN K "bool") (z_enumerate:NsN K "enumerate") (z_int:NsN K "int") (z_isinstance:NsN K "isinstance") (z_len:NsN K "len") (z_list:NsN K "list") (z_max:NsN K "max") (z_range:NsN K "range") (z_set:NsN K "set") (z_sorted:NsN K "sorted") (z_str:NsN K "str") (z_tuple:NsN K "tuple") : ∃ fd:FuncData,(∀ (s:Shared) (v:Value),BindsTo s fd ⟨[v],[]⟩ [("_law_script", v)])∧∀ base:Heap,K.In base→base.Ns mainGlobals mg→Cj l.prog w K mg base CX0 71 fa fd ["_law_script"] (Qm K):=by
 have e:=hfa.symm.trans (mg_of X G a33)
 cases e
 have T:Txt mg:=⟨mg_none_of X G z_all,mg_none_of X G z_bool,mg_none_of X G z_enumerate,mg_none_of X G z_int,mg_none_of X G z_isinstance,mg_none_of X G z_len,mg_none_of X G z_list,mg_none_of X G z_max,mg_none_of X G z_range,mg_none_of X G z_set,mg_none_of X G z_sorted,mg_none_of X G z_str,mg_none_of X G z_tuple⟩
 have Cl:Cls K C:=⟨pg,hd,po,sa⟩
 have mC:=mg_of X G aC
 have nm_ENDED:=mg_of X G cn_ENDED
 have nm_RESTS:=mg_of X G cn_RESTS
 have nm_LEAVES:=mg_of X G cn_LEAVES
 have dX:=Ch (st:=Iw) ml0 mc0 mk0
 have eV:B7 K _ ["self", "signs"] []:=bM2 dX λ _ _ _ _ _ _ _ _=>rfl
 have MkC:Mk K C h0:=⟨mk,ma0,mi0,kc⟩
 have bV:=Ch (st:=L5) ml1 mc1 mk1
 have dY:B7 K _ ["self", "word", "numbers"] []:=bM3 bV λ _ _ _ _ _ _ _ _ _=>rfl
 have dZ:Hz K C "gate" h1:=⟨ma1,mi1,mk1⟩
 have bF:=Ch (st:=Kh) ml2 mc2 mk2
 have cJ:B7 K _ ["self"] []:=bM1 bF λ _ _ _ _ _ _ _=>rfl
 have cK:Hz K C "later" h2:=⟨ma2,mi2,mk2⟩
 have eB:=Ch (st:=Ol) ml3 mc3 mk3
 have eW:B7 K _ ["self", "number", "word", "numbers"] []:=bM4 eB λ _ _ _ _ _ _ _ _ _ _=>rfl
 have eX:Hz K C "fill" h3:=⟨ma3,mi3,mk3⟩
 have bC:=Ch (st:=Iq) ml4 mc4 mk4
 have cZ:B7 K _ ["self", "number"] []:=bM2 bC λ _ _ _ _ _ _ _ _=>rfl
 have dB:Hz K C "opposite" h4:=⟨ma4,mi4,mk4⟩
 have bD:=Ch (st:=Io) ml5 mc5 mk5
 have dC:B7 K _ ["self", "numbers"] []:=bM2 bD λ _ _ _ _ _ _ _ _=>rfl
 have dD:Hz K C "every_of" h5:=⟨ma5,mi5,mk5⟩
 have bK:=Ch (st:=Jv) ml6 mc6 mk6
 have eD:B7 K _ ["self", "numbers"] []:=bM2 bK λ _ _ _ _ _ _ _ _=>rfl
 have eG:Hz K C "some_of" h6:=⟨ma6,mi6,mk6⟩
 have cC:=Ch (st:=Hc) ml7 mc7 mk7
 have eM:B7 K _ ["self", "pairs"] []:=bM2 cC λ _ _ _ _ _ _ _ _=>rfl
 have eN:Hz K C "joined" h7:=⟨ma7,mi7,mk7⟩
 have bE:=Ch (st:=Ip) ml8 mc8 mk8
 have dE:B7 K _ ["self"] []:=bM1 bE λ _ _ _ _ _ _ _=>rfl
 have dG:Hz K C "new_part" h8:=⟨ma8,mi8,mk8⟩
 have eU:Ba K mg "net_of" ["program"] Jm:=fM1 (mg_of X G a0) l0 c0 k0 λ _ _ _ _ _ _ _=>rfl
 have dH:Ba K mg "wire_part" ["wiring", "part"] Fu:=fM2 (mg_of X G a1) l1 c1 k1 λ _ _ _ _ _ _ _ _=>rfl
 have dI:Ba K mg "wire_leaf" ["wiring", "part", "whole"] Hg:=fM3 (mg_of X G a2) l2 c2 k2 λ _ _ _ _ _ _ _ _ _=>rfl
 have dJ:Ba K mg "wire_rest" ["wiring", "rest", "whole"] Hk:=fM3 (mg_of X G a3) l3 c3 k3 λ _ _ _ _ _ _ _ _ _=>rfl
 have bX:Ba K mg "wire_leaving" ["wiring", "rest", "whole", "memory", "comes"] Fl:=fM5 (mg_of X G a4) l4 c4 k4 λ _ _ _ _ _ _ _ _ _ _ _=>rfl
 have dL:Ba K mg "wire_pair" ["wiring", "part", "whole", "first", "second"] Hf:=fM5 (mg_of X G a5) l5 c5 k5 λ _ _ _ _ _ _ _ _ _ _ _=>rfl
 have dM:Ba K mg "wire_then" ["wiring", "whole", "first", "second"] Fw:=fM4 (mg_of X G a6) l6 c6 k6 λ _ _ _ _ _ _ _ _ _ _=>rfl
 have eO:Ba K mg "wire_if" ["wiring", "sign", "whole", "first", "second"] Jw:=fM5 (mg_of X G a7) l7 c7 k7 λ _ _ _ _ _ _ _ _ _ _ _=>rfl
 have cE:Ba K mg "wire_beside" ["wiring", "whole", "first", "second"] Fz:=fM4 (mg_of X G a8) l8 c8 k8 λ _ _ _ _ _ _ _ _ _ _=>rfl
 have bL:Ba K mg "greater_codes" ["wiring", "sides"] C2:=fM2 (mg_of X G a9) l9 c9 k9 λ _ _ _ _ _ _ _ _=>rfl
 have cL:Ba K mg "wire_round" ["wiring", "part", "whole", "inner"] Fc:=fM4 (mg_of X G a10) l10 c10 k10 λ _ _ _ _ _ _ _ _ _ _=>rfl
 have cN:Ba K mg "wire_again" ["wiring", "rest", "whole", "inner"] Fb:=fM4 (mg_of X G a11) l11 c11 k11 λ _ _ _ _ _ _ _ _ _ _=>rfl
 have bM:Ba K mg "wire_skipping" ["wiring", "part", "whole", "inner"] E2:=fM4 (mg_of X G a12) l12 c12 k12 λ _ _ _ _ _ _ _ _ _ _=>rfl
 have dN:Ba K mg "code_gate" ["wiring", "whole", "code"] Hl:=fM3 (mg_of X G a13) l13 c13 k13 λ _ _ _ _ _ _ _ _ _=>rfl
 have dO:Ba K mg "leaf_code" ["part"] Hj:=fM1 (mg_of X G a14) l14 c14 k14 λ _ _ _ _ _ _ _=>rfl
 have bN:Ba K mg "code_of_again" ["code"] E3:=fM1 (mg_of X G a15) l15 c15 k15 λ _ _ _ _ _ _ _=>rfl
 have bY:Ba K mg "code_of_trap" ["code"] Fn:=fM1 (mg_of X G a16) l16 c16 k16 λ _ _ _ _ _ _ _=>rfl
 have cF:Ba K mg "inner_parts" ["part"] Eo:=fM1 (mg_of X G a17) l17 c17 k17 λ _ _ _ _ _ _ _=>rfl
 have cO:Ba K mg "every_part" ["part"] Go:=fM1 (mg_of X G a18) l18 c18 k18 λ _ _ _ _ _ _ _=>rfl
 have eI:Ba K mg "rests_of" ["part"] Gn:=fM1 (mg_of X G a19) l19 c19 k19 λ _ _ _ _ _ _ _=>rfl
 have cP:Ba K mg "_law_mixed" ["_law_cell"] Gp:=fM1 (mg_of X G a20) l20 c20 k20 λ _ _ _ _ _ _ _=>rfl
 have eP:Ba K mg "_law_at" ["_law_script", "_law_k"] Ju:=fM2 (mg_of X G a21) l21 c21 k21 λ _ _ _ _ _ _ _ _=>rfl
 have dP:Ba K mg "_law_leaf" ["_law_seed", "_law_signs"] Hm:=fM2 (mg_of X G a22) l22 c22 k22 λ _ _ _ _ _ _ _ _=>rfl
 have dQ:Ba K mg "_law_deep" ["_law_part"] Eu:=fM1 (mg_of X G a23) l23 c23 k23 λ _ _ _ _ _ _ _=>rfl
 have cQ:Ba K mg "_law_grown" ["_law_stack", "_law_seed", "_law_signs"] Gm:=fM3 (mg_of X G a24) l24 c24 k24 λ _ _ _ _ _ _ _ _ _=>rfl
 have dR:Ba K mg "_law_body" ["_law_cells", "_law_signs"] Hi:=fM2 (mg_of X G a25) l25 c25 k25 λ _ _ _ _ _ _ _ _=>rfl
 have bO:Ba K mg "_law_numbered" ["_law_part", "_law_k"] Dv:=fM2 (mg_of X G a26) l26 c26 k26 λ _ _ _ _ _ _ _ _=>rfl
 have bZ:Ba K mg "_law_program" ["_law_script", "_law_most"] Fm:=fM2 (mg_of X G a27) l27 c27 k27 λ _ _ _ _ _ _ _ _=>rfl
 have dU:Ba K mg "_law_gate" ["_law_gate_here", "_law_count", "_law_signs", "_law_rests"] Et:=fM4 (mg_of X G a28) l28 c28 k28 λ _ _ _ _ _ _ _ _ _ _=>rfl
 have cA:Ba K mg "_law_numbers" ["_law_found", "_law_many", "_law_count"] Dh:=fM3 (mg_of X G a29) l29 c29 k29 λ _ _ _ _ _ _ _ _ _=>rfl
 have dW:Ba K mg "_law_form" ["_law_net", "_law_signs", "_law_rests"] Fv:=fM3 (mg_of X G a30) l30 c30 k30 λ _ _ _ _ _ _ _ _ _=>rfl
 have cR:Ba K mg "_law_parts" ["_law_part"] Fd:=fM1 (mg_of X G a31) l31 c31 k31 λ _ _ _ _ _ _ _=>rfl
 have cB:Ba K mg "_law_no_ring" ["_law_net"] Cy:=fM1 (mg_of X G a32) l32 c32 k32 λ _ _ _ _ _ _ _=>rfl
 have eY:=Ch (st:=K4) l33 c33 k33
 refine ⟨fnOf "law" "law" (Cr K4) (Cf K4) (Aj K4) .none kV33 dc33 pm33 an33 cd33 ct33,λ s v=>.of_eq rfl,λ base _ _=>?_⟩
 have ClP:Cls K CP:=⟨ppg,phd,ppo,psa⟩
 have TW:B3 K mg C CP:={ toTxt:=T,cl:=Cl,nG:=nA_gates,nS:=nA_signs,nN:=nA_senders,nL:=nA_leavers,clP:=ClP,nR:=pn_runs,nK:=pn_kept,nT:=pn_stays,nE:=pn_rests,nC:=pn_codes,m_Wired:=mg_of X G paC,m_Wiring:=mC,m_EN:=⟨_,nm_ENDED⟩,m_RE:=⟨_,nm_RESTS⟩,m_LE:=⟨_,nm_LEAVES⟩ }
 have FP:=Ch (st:=Mm) pml pmc pmk
 have bP:B7 K _ ["self", "runs", "kept", "stays"] []:=bM4 FP λ _ _ _ _ _ _ _ _ _ _=>rfl
 have MkP:Mk K CP hP:=⟨pmm,pma,pmi,pkc⟩
 have GP:=Yz (P:=l.prog) (w:=w) (base:=base) FP TW
 have MGate:Bf l.prog w K mg base 1 C "gate" ["self", "word", "numbers"] (Gb C):=⟨_,_,Aa9 bV TW,dY,dZ,Cl⟩
 have MLater:Bf l.prog w K mg base 2 C "later" ["self"] (Ot C):=⟨_,_,AaW bF TW MGate,cJ,cK,Cl⟩
 have MFill:Bf l.prog w K mg base 1 C "fill" ["self", "number", "word", "numbers"] (Gk C):=⟨_,_,Abc eB TW,eW,eX,Cl⟩
 have MOpp:Bf l.prog w K mg base 2 C "opposite" ["self", "number"] (Kx C):=⟨_,_,Su bC TW MGate,cZ,dB,Cl⟩
 have MEvery:Bf l.prog w K mg base 2 C "every_of" ["self", "numbers"] (Fh C):=⟨_,_,Vh bD TW MGate,dC,dD,Cl⟩
 have MSome:Bf l.prog w K mg base 2 C "some_of" ["self", "numbers"] (Ft C):=⟨_,_,Xr bK TW MGate,eD,eG,Cl⟩
 have MJoin:Bf l.prog w K mg base 3 C "joined" ["self", "pairs"] (Hn C):=⟨_,_,Wl cC TW MSome,eM,eN,Cl⟩
 have MNew:Bf l.prog w K mg base 3 C "new_part" ["self"] (Qk C CP):=⟨_,_,U9 bE TW MkP GP bP MLater,dE,dG,Cl⟩
 have MGate0:Bf l.prog w K mg base 1 C "gate" ["self", "word", "numbers"] (O3 C):=⟨_,_,Z9 bV TW,dY,dZ,Cl⟩
 have MLater0:Bf l.prog w K mg base 2 C "later" ["self"] (Kk C):=⟨_,_,Wz bF TW MGate0,cJ,cK,Cl⟩
 have GW:=Zt dX TW MLater0
 have CLv:=Uy bX TW MEvery MSome
 have CCg:=Sy dN TW MSome
 have CLeaf:=Yu dI TW MSome (S6 dO TW) (Zu dJ TW MGate MOpp MEvery CLv)
 have CPair:=Zi dL TW MFill MSome CCg (Z4 dM TW MFill MOpp MEvery MJoin CCg) (Abz eO TW MFill MOpp MEvery MJoin) (AbO cE TW MFill MOpp MEvery MJoin (U4 bL TW MEvery MSome))
 have CRound:=Xo cL TW MFill MJoin (Ab6 bY TW) (AaM bM TW MFill MOpp MEvery MSome MJoin) (V9 cN TW MGate MSome MJoin (Ab5 bN TW) CCg CLv)
 have CIn:=Y2 (P:=l.prog) (w:=w) (base:=base) cF T
 have CWP:=Pn dH TW MNew CIn CPair CRound CLeaf 63
 have CNet:=Zw eU TW MkC GW eV MGate MFill CCg (AaA eI T (Zf cO CIn)) CWP
 have CMix:=AaS (P:=l.prog) (w:=w) (base:=base) cP
 have CProg:=Abb bZ T (Acw eP T CMix) (Aa2 dR T CMix (Acz dP) (AcU cQ T (Rt dQ T 60))) (Um bO T 63)
 exact Abs eY TW CProg CNet (Y5 dW T (Z5 dU T) (Zv cA T)) (Nv cR T 63) (AbJ cB T)
theorem walk {l:PySem.W.OpenLaw} {q:Program} {loose:List Str} {XP:(Str→Option Value)→Heap→Prop} {YP:World→Heap→Prop} {d:DefRec} {K:Params→PySem.W.Frag} (hn:l.most = some 63) (hdf:d.params.defaults = [])
  (hY:∀ (w:World) (h:Heap),YP w h→(K w.params).In h)
  (F:∀ (w:World) (mg:Str→Option Value) (fa:Addr) (h:Heap),(K w.params).In h→h.Ns mainGlobals mg→mg d.name = some (.ref fa) →
   ∃ fd:FuncData,(∀ (s:Shared) (u:Value),BindsTo s fd ⟨[u],[]⟩ [("_law_script", u)])∧∀ base:Heap,(K w.params).In base→base.Ns mainGlobals mg→Cj l.prog w (K w.params) mg base CX0 71 fa fd ["_law_script"] (Qm (K w.params))) :
  PySem.W.WalkO q loose XP YP l.row.toRowW d [] (λ f vs=>PySem.call f vs) :=
 L2.Adp (n:=63) (k:=71) (x:= "_law_script") (CX:=λ _=>CX0) (sp:=λ w=>Qm (K w.params)) hn (by decide) hdf ⟨Z,by decide,by decide⟩ hY F (λ _ _ a ns hl _ hS=>⟨a,ns,Z,hS,hl,λ _=>rfl⟩) λ _ _ _ _ _ z=>z
end My
end
set_option Elab.async false
open PySem PySem.W PyProof.Rows L2
def PySem.W.Fast.tw4952559343553112950:PySem.Program:=PySem.Challenge.pw_signalwise_k44_net_form
theorem PySem.W.Fast.te4952559343553112950:PySem.Challenge.pw_signalwise_k44_net_form = PySem.W.Fast.tw4952559343553112950:=rfl
namespace PySem.W.Fast
def tw13465990229290257773:=()
def tw16725023816324266411:=()
def tw14915810763652632296:=()
def tw5025883932697832176:=()
def tw9425400384746181828:=()
def tw17653268706386064658:=()
def tw8512903531028762282:=()
def tw10986891991403675023:=()
def tw17995566782535639594:=()
def tw11994422923980071000:=()
def tw18243178677907400104:=()
def tw11564993402519669595:=()
def tw11181696485461026167:=()
def tw9166554506814661420:=()
def tw6897947464445824366:=()
def tw7634757597295635115:=()
def tw9325503241469402445:=()
def tw5940983541692385289:=()
def tw2981812274196453012:=()
def tw10668514798131228508:=()
def tw880580387265817068:=()
def tw6501406446876604083:=()
def tw6900774967299661002:=()
def tw17936041950237370899:=()
def tw3432868418752795967:=()
def tw8788792914584236684:=()
def tw13740536548704807922:=()
def tw2414700529608979436:=()
def tw2580989774355949548:=()
def tw8376740112054576952:=()
def tw15640596351436635017:=()
def tw4175322902412965746:=()
def tw6422137301515248651:=()
def tw2136289260837471487:=()
def tw16599494401019157986:=()
def tw6212047512674564824:=()
def tw5161196364868732849:=()
def tw7605827370809241419:=()
def tw13083130081665213016:=()
def tw8794873793596809809:=()
def tw8202315051678550636:=()
def tw17698430350846652878:=()
def tw4786784761783216371:=()
def tw2841036976610543635:=()
def tw16123608635555248979:=()
def tw10848638226906179499:=()
def tw16439453692126812620:=()
def tw2516572330450704218:=()
def tw480001978230462326:=()
def tw10376739134619790174:=()
def tw7141041515938067124:=()
def tw4116775887719433181:=()
def tw12989171403023554798:=()
def tw16348015252174566347:=()
def tw12714212701995328457:=()
def tw17641047288472881798:=()
def tw10946903722325984426:=()
def tw9040849055818729099:=()
def tw1417228378549793603:=()
end PySem.W.Fast
set_option maxRecDepth 100000 in
set_option maxHeartbeats 0 in
theorem PySem.Challenge.cw_signalwise_k44_net_form_holds : PySem.Challenge.rw_signalwise_k44_net_form.Holds := by
 w_on; o_law; k_head; (case hw=>w_witness2)
 k_fill
 refine My.walk (l:=PySem.Challenge.rw_signalwise_k44_net_form) rfl rfl (λ w h Y=>kIn_of Y) ?F
 case F =>
  intro w mg fa h KX G hmg
  refine' My.all_mk KX G hmg ?a0 ?l0 ?c0 ?k0 ?a1 ?l1 ?c1 ?k1 ?a2 ?l2 ?c2 ?k2 ?a3 ?l3 ?c3 ?k3 ?a4 ?l4 ?c4 ?k4 ?a5 ?l5 ?c5 ?k5 ?a6 ?l6 ?c6 ?k6 ?a7 ?l7 ?c7 ?k7 ?a8 ?l8 ?c8 ?k8 ?a9 ?l9 ?c9 ?k9 ?a10 ?l10 ?c10 ?k10 ?a11 ?l11 ?c11 ?k11 ?a12 ?l12 ?c12 ?k12 ?a13 ?l13 ?c13 ?k13 ?a14 ?l14 ?c14 ?k14 ?a15 ?l15 ?c15 ?k15 ?a16 ?l16 ?c16 ?k16 ?a17 ?l17 ?c17 ?k17 ?a18 ?l18 ?c18 ?k18 ?a19 ?l19 ?c19 ?k19 ?a20 ?l20 ?c20 ?k20 ?a21 ?l21 ?c21 ?k21 ?a22 ?l22 ?c22 ?k22 ?a23 ?l23 ?c23 ?k23 ?a24 ?l24 ?c24 ?k24 ?a25 ?l25 ?c25 ?k25 ?a26 ?l26 ?c26 ?k26 ?a27 ?l27 ?c27 ?k27 ?a28 ?l28 ?c28 ?k28 ?a29 ?l29 ?c29 ?k29 ?a30 ?l30 ?c30 ?k30 ?a31 ?l31 ?c31 ?k31 ?a32 ?l32 ?c32 ?k32 ?a33 ?l33 ?c33 ?k33 ?aC ?ma0 ?mi0 ?ml0 ?mc0 ?mk0 ?ma1 ?mi1 ?ml1 ?mc1 ?mk1 ?ma2 ?mi2 ?ml2 ?mc2 ?mk2 ?ma3 ?mi3 ?ml3 ?mc3 ?mk3 ?ma4 ?mi4 ?ml4 ?mc4 ?mk4 ?ma5 ?mi5 ?ml5 ?mc5 ?mk5 ?ma6 ?mi6 ?ml6 ?mc6 ?mk6 ?ma7 ?mi7 ?ml7 ?mc7 ?mk7 ?ma8 ?mi8 ?ml8 ?mc8 ?mk8 ?pg ?hd ?po ?sa ?mk ?kc ?nA_gates ?nA_signs ?nA_senders ?nA_leavers ?cn_ENDED ?cn_RESTS ?cn_LEAVES ?paC ?pma ?pmi ?pml ?pmc ?pmk ?ppg ?phd ?ppo ?psa ?pmm ?pkc ?pn_runs ?pn_kept ?pn_stays ?pn_rests ?pn_codes ?z_all ?z_bool ?z_enumerate ?z_int ?z_isinstance ?z_len ?z_list ?z_max ?z_range ?z_set ?z_sorted ?z_str ?z_tuple
  (case a0|l0|c0|k0|a1|l1|c1|k1|a2|l2|c2|k2|a3|l3|c3|k3|a4|l4|c4|k4|a5|l5|c5|k5|a6|l6|c6|k6|a7|l7|c7|k7|a8|l8|c8|k8|a9|l9|c9|k9|a10|l10|c10|k10|a11|l11|c11|k11|a12|l12|c12|k12|a13|l13|c13|k13|a14|l14|c14|k14|a15|l15|c15|k15|a16|l16|c16|k16|a17|l17|c17|k17|a18|l18|c18|k18|a19|l19|c19|k19|a20|l20|c20|k20|a21|l21|c21|k21|a22|l22|c22|k22|a23|l23|c23|k23|a24|l24|c24|k24|a25|l25|c25|k25|a26|l26|c26|k26|a27|l27|c27|k27|a28|l28|c28|k28|a29|l29|c29|k29|a30|l30|c30|k30|a31|l31|c31|k31|a32|l32|c32|k32|a33|l33|c33|k33|aC|ma0|mi0|ml0|mc0|mk0|ma1|mi1|ml1|mc1|mk1|ma2|mi2|ml2|mc2|mk2|ma3|mi3|ml3|mc3|mk3|ma4|mi4|ml4|mc4|mk4|ma5|mi5|ml5|mc5|mk5|ma6|mi6|ml6|mc6|mk6|ma7|mi7|ml7|mc7|mk7|ma8|mi8|ml8|mc8|mk8|pg|hd|po|sa|mk|kc|nA_gates|nA_signs|nA_senders|nA_leavers|cn_ENDED|cn_RESTS|cn_LEAVES|paC|pma|pmi|pml|pmc|pmk|ppg|phd|ppo|psa|pmm|pkc|pn_runs|pn_kept|pn_stays|pn_rests|pn_codes|z_all|z_bool|z_enumerate|z_int|z_isinstance|z_len|z_list|z_max|z_range|z_set|z_sorted|z_str|z_tuple=>show _ = _;k_is)
#print axioms PySem.Challenge.cw_signalwise_k44_net_form_holds
