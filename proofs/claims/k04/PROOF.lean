import PyProof.Rows.All
import Wide.All
import OpenK.AllK
import Wide.FinOn
import Lean
import PyProof.EqAt
import PyProof.EqKinds
import PyProof.TupleCall
import PyProof.StrLawsRepr
import KE.LcSums
import PyProof.RulesAs
import KE.KIsAll
import PyProof.ExcArgs
import KE.RegKTryMore
import KE.RegKIsAll
import PySem.Challenge.RW_signalwise_k04_refused_texts
set_option Elab.async false
set_option linter.all false
set_option maxRecDepth 100000
namespace L2
open PySem PySem.Spec PyProof.Rows
abbrev Key:=Sum Int Str
def keyIs:Key→Value→Bool
 | .inl k,v=>Value.isInt k v
 | .inr x,v=>Value.isStrOf x v
def keyH (w:World):Key→Int
 | .inl k=>hashInt k
 | .inr x=>hashStr w x
theorem keyIs_shape:∀ {k:Key} {v:Value},keyIs k v = true→(∃ i t,k = Sum.inl i∧v = Value.int i t)∨(∃ x t,k = Sum.inr x∧v = Value.str x t)
 | .inl i,v,h=>by
  obtain ⟨t,e⟩:=Value.isInt_shape (k:=i) (v:=v) h
  exact .inl ⟨i,t,rfl,e⟩
 | .inr x,v,h=>by
  obtain ⟨t,e⟩:=Value.isStrOf_shape (x:=x) (v:=v) h
  exact .inr ⟨x,t,rfl,e⟩
theorem key_ll (a b:Int):decide ((Sum.inl a:Key) = Sum.inl b) = (a == b):=by
 by_cases e:a = b
 ·subst e; simp
 ·have h:¬ (Sum.inl a:Key) = Sum.inl b:=fun q=>e (Sum.inl.inj q)
  rw [decide_eq_false h]
  exact (beq_eq_false_iff_ne.mpr e).symm
theorem key_rr (a b:Str):decide ((Sum.inr a:Key) = Sum.inr b) = decide (a = b):=by
 by_cases e:a = b
 ·subst e; simp
 ·have h:¬ (Sum.inr a:Key) = Sum.inr b:=fun q=>e (Sum.inr.inj q)
  rw [decide_eq_false h,decide_eq_false e]
theorem key_lr (a:Int) (b:Str):decide ((Sum.inl a:Key) = Sum.inr b) = false:=decide_eq_false (fun q=>nomatch q)
theorem key_rl (a:Str) (b:Int):decide ((Sum.inr a:Key) = Sum.inl b) = false:=decide_eq_false (fun q=>nomatch q)
def mixKind (prog:Program) (w:World):PySem.KeyKind prog w Key where
 is:=keyIs
 hash:=keyH w
 inj:=fun v a b ha hb=>by
  rcases keyIs_shape ha with ⟨i,t,rfl,rfl⟩ | ⟨x,t,rfl,rfl⟩
  ·rcases keyIs_shape hb with ⟨j,u,rfl,e⟩ | ⟨y,u,rfl,e⟩
   ·injection e with e1 _; rw [e1]
   ·exact nomatch e
  ·rcases keyIs_shape hb with ⟨j,u,rfl,e⟩ | ⟨y,u,rfl,e⟩
   ·exact nomatch e
   ·injection e with e1 _; rw [e1]
 byValue:=fun k v h=>by
  rcases keyIs_shape h with ⟨i,t,rfl,rfl⟩ | ⟨x,t,rfl,rfl⟩ <;> rfl
 pyHash:=fun hv h=>by
  rcases keyIs_shape hv with ⟨i,t,rfl,rfl⟩ | ⟨x,t,rfl,rfl⟩
  ·exact wpAny_pyHash_int h
  ·exact wpAny_pyHash_str h
 eqBool:=fun hu hv h=>by
  rcases keyIs_shape hu with ⟨i,t,rfl,rfl⟩ | ⟨x,t,rfl,rfl⟩
  ·rcases keyIs_shape hv with ⟨j,u,rfl,rfl⟩ | ⟨y,u,rfl,rfl⟩
   ·rw [key_ll] at h; exact wpAny_eqBool_int h
   ·rw [key_lr] at h; exact SeqAt.EqAt.int_str i t y u _ _ _ _ h
  ·rcases keyIs_shape hv with ⟨j,u,rfl,rfl⟩ | ⟨y,u,rfl,rfl⟩
   ·rw [key_rl] at h; exact SeqAt.EqAt.str_int x t j u _ _ _ _ h
   ·rw [key_rr] at h; exact wpAny_eqBool_str h
 «strs»:=fun k x t v h=>by
  rcases keyIs_shape h with ⟨i,u,rfl,e⟩ | ⟨y,u,rfl,e⟩
  ·exact nomatch e
  ·injection e with e1 _
   subst e1
   cases v <;> rfl
end L2
namespace L2
open PySem PySem.Spec PyProof.Rows
inductive V where
 | non | bl (b:Bool) | int (i:Int) | str (x:Str) | byt (b:Array UInt8) | flt (b:UInt64) | ref (a:Addr) | ty (n:String)
 deriving DecidableEq
def RelV:V→Value→Prop
 | .non,u=>u = Value.none
 | .bl b,u=>u = Value.bool b
 | .int i,u=>∃ t,u = Value.int i t
 | .str x,u=>∃ t,u = Value.str x t
 | .byt b,u=>∃ t,u = Value.bytes b t
 | .flt b,u=>∃ t,u = Value.float b t
 | .ref a,u=>u = Value.ref a
 | .ty n,u=>u = Value.type n
abbrev Vals:List V→List Value→Prop:=Paired RelV
theorem Vals.length {xs:List V} {us:List Value} (r:Vals xs us):xs.length = us.length:=Paired.length r
theorem Vals.get:∀ {xs:List V} {us:List Value} {i:Nat} {x:V},Vals xs us→xs[i]? = some x→∃ u,us[i]? = some u∧RelV x u
 | _,_,_,_,.nil,e=>by simp at e
 | _,_,0,_,.cons r _,e=>by simp at e; subst e; exact ⟨_,rfl,r⟩
 | _,_,i + 1,x,.cons _ t,e=>by
  obtain ⟨u,h1,h2⟩:=Vals.get (i:=i) (x:=x) t (by simpa using e)
  exact ⟨u,by simpa using h1,h2⟩
theorem Vals.append:∀ {xs ys:List V} {us ws:List Value},Vals xs us→Vals ys ws→Vals (xs ++ ys) (us ++ ws)
 | _,_,_,_,.nil,s=>s
 | _,_,_,_,.cons r t,s=>.cons r (Vals.append t s)
theorem Vals.take:∀ {xs:List V} {us:List Value} (n:Nat),Vals xs us→Vals (xs.take n) (us.take n)
 | _,_,0,_=>.nil
 | _,_,_ + 1,.nil=>.nil
 | _,_,n + 1,.cons r t=>.cons r (Vals.take n t)
theorem Vals.drop:∀ {xs:List V} {us:List Value} (n:Nat),Vals xs us→Vals (xs.drop n) (us.drop n)
 | _,_,0,r=>r
 | _,_,_ + 1,.nil=>.nil
 | _,_,n + 1,.cons _ t=>Vals.drop n t
def RelO:Option V→Option Value→Prop
 | some v,some u=>RelV v u
 | none,none=>True
 | _,_=>False
def KV {κ:Type}:List (κ× V)→List (κ× Value)→Prop:=Paired fun (p:κ× V) (q:κ× Value)=>p.1 = q.1∧RelV p.2 q.2
def kV:Key→V
 | .inl i=>.int i
 | .inr x=>.str x
inductive HO where
 | lst (xs:List V)
 | tup (xs:List V)
 | dK (kvs:List (Key× V)) | dT (kvs:List (List Key× V))
 | set (S:Int→Bool) (n:Nat)
 | ins (C dx:Addr) (fs:List (Str× V))
 | own (x:Addr)
 | xd (fs:List (Str× V))
 | met (f x:Addr)
 | rng (lo hi:Int)
 | frz (o:Obj) (u:HO)
 | tbl (ps:Array Value)
 | ext (φ:Heap→Prop)
abbrev Hp:=Addr→Option HO
def upd (H:Hp) (a:Addr) (o:HO):Hp:=fun b=>if b = a then some o else H b
theorem upd_same {H:Hp} {a:Addr} {o:HO}:upd H a o a = some o:=by unfold upd; rw [if_pos rfl]
theorem upd_ne {H:Hp} {a b:Addr} {o:HO} (h:b≠a):upd H a o b = H b:=by unfold upd; rw [if_neg h]
theorem ne_of {H:Hp} {a b:Addr} {o u:HO} (h:H a = some o) (h':H b = some u) (d:o≠u):a≠b:=by
 intro e; subst e; rw [h] at h'; exact d (Option.some.inj h')
theorem ne_of_none {H:Hp} {a b:Addr} {o:HO} (h:H a = some o) (h':H b = none):a≠b:=by
 intro e; subst e; rw [h] at h'; cases h'
section
variable (P:Program) (w:World)
def ObjOk (H:Hp) (h:Heap) (a:Addr):HO→Prop
 | .lst xs=>xs.length≤sizeLine∧∃ (its:List Value) (n:Nat),Vals xs its∧h.get? a = some { cls:=.type "list", data:=.seq its.toArray n }
 | .tup xs=>xs.length≤sizeLine∧∃ its:List Value,Vals xs its∧IsTup h a its.toArray
 | .dK kvs=>kvs.length≤sizeLine∧(a == sysModules) = false∧∃ vs,KV kvs vs∧h.DictOf (mixKind P w) a vs
 | .dT kvs=>kvs.length≤sizeLine∧(a == sysModules) = false∧∃ xs:List (List Key× Addr× Value),
   Paired (fun (p:List Key× V) (q:List Key× Addr× Value)=>p.1 = q.1∧H q.2.1 = some (.tup (p.1.map kV))∧RelV p.2 q.2.2) kvs xs ∧
   ∃ o es ep,h.get? a = some o∧o.ExactDict∧o.data = .dict es ep∧es.toList = xs.map (entryOfKey (tupleKind (mixKind P w)))∧(xs.map (·.1)).Nodup
 | .set S n=>h.SetOf (intKind P w) a S n
 | .ins C dx fs=>H dx = some (.own a)∧fs.length≤1000∧dx≠a∧h.get? a = some (PySem.W.instObj C dx) ∧
   ∃ mA,h.Ns1 dx mA∧(∀ f,RelO (fs.lookup f) (mA f))∧PySem.Within mA (fs.map (·.1))
 | .own _=>∃ o,h.get? a = some o
 | .xd fs=>∃ mA,h.Ns1 a mA∧∀ f,RelO (fs.lookup f) (mA f)
 | .rng lo hi=>∃ t u v,h.get? a = some { cls:=.type "range", data:=.fields #[.int lo t,.int hi u,.int 1 v] }
 | .frz o u=>h.get? a = some o∧ObjOk H h a u
 | .tbl ps=>h.get? a = some { cls:=.none,data:=.fields ps }
 | .met f x=>h.get? a = some (PySem.W.methodObj (.ref f) (.ref x))
 | .ext φ=>φ h∧(∃ o,h.get? a = some o)∧∀ h1 h2:Heap,φ h1→(∀ o,h1.get? a = some o→h2.get? a = some o)→φ h2
def HOk (H:Hp) (h:Heap):Prop:=∀ a o,H a = some o→ObjOk P w H h a o
end
section
variable {P:Program} {w:World} {H H':Hp} {h h':Heap} {a:Addr} {o:HO}
theorem ObjOk.lt (x:ObjOk P w H h a o):a < h.objs.size:=by
 cases o with
 | lst xs=>obtain ⟨_,_,_,_,e⟩:=x; exact Heap.lt_size e
 | tup xs=>obtain ⟨_,_,_,p⟩:=x; exact p.lt
 | dK kvs=>obtain ⟨_,_,_,_,o,_,_,e,_⟩:=x; exact Heap.lt_size e
 | dT kvs=>obtain ⟨_,_,_,_,o,_,_,e,_⟩:=x; exact Heap.lt_size e
 | set S n=>obtain ⟨o,_,_,_,e,_⟩:=x; exact Heap.lt_size e
 | ins C dx fs=>obtain ⟨_,_,_,e,_⟩:=x; exact Heap.lt_size e
 | own y=>obtain ⟨_,e⟩:=x; exact Heap.lt_size e
 | xd fs=>obtain ⟨_,⟨_,_,_,e,_⟩,_⟩:=x; exact Heap.lt_size e
 | rng lo hi=>obtain ⟨_,_,_,e⟩:=x; exact Heap.lt_size e
 | frz ob u=>obtain ⟨e,_⟩:=x; exact Heap.lt_size e
 | tbl ps=>exact Heap.lt_size (show h.get? a = some _ from x)
 | met f y=>exact Heap.lt_size (show h.get? a = some _ from x)
 | ext φ=>obtain ⟨_,⟨_,e⟩,_⟩:=x; exact Heap.lt_size e
theorem Paired.mapP {α β:Type} {F G:α→β→Prop}:∀ {l₁:List α} {l₂:List β},Paired F l₁ l₂→(∀ a b,F a b→G a b)→Paired G l₁ l₂
 | _,_,.nil,_=>.nil
 | _,_,.cons r t,f=>.cons (f _ _ r) (Paired.mapP t f)
theorem ObjOk.stay (x:ObjOk P w H h a o) (k:∀ b u,(b = a∨H b = some (.own a))→h.get? b = some u→h'.get? b = some u)
  (ho:∀ b,H b = some (.own a)→H' b = some (.own a)) (ht:∀ b xs,H b = some (.tup xs)→H' b = some (.tup xs)):ObjOk P w H' h' a o:=by
 induction o with
 | lst xs=>obtain ⟨z,its,n,r,e⟩:=x; exact ⟨z,its,n,r,k _ _ (.inl rfl) e⟩
 | tup xs=>obtain ⟨z,its,r,ob,e,c⟩:=x; exact ⟨z,its,r,ob,k _ _ (.inl rfl) e,c⟩
 | dK kvs=>obtain ⟨z,y,vs,r,ob,es,ep,e,c⟩:=x; exact ⟨z,y,vs,r,ob,es,ep,k _ _ (.inl rfl) e,c⟩
 | dT kvs =>
  obtain ⟨z,y,xs,r,ob,es,ep,e,c⟩:=x
  exact ⟨z,y,xs,Paired.mapP r fun p q z=>⟨z.1,ht _ _ z.2.1,z.2.2⟩,ob,es,ep,k _ _ (.inl rfl) e,c⟩
 | set S n=>obtain ⟨ob,es,ep,t,e,c⟩:=x; exact ⟨ob,es,ep,t,k _ _ (.inl rfl) e,c⟩
 | ins C dx fs =>
  obtain ⟨d,z,ne,e,mA,⟨od,es,ep,e2,c⟩,r⟩:=x
  exact ⟨ho _ d,z,ne,k _ _ (.inl rfl) e,mA,⟨od,es,ep,k _ _ (.inr d) e2,c⟩,r⟩
 | own y=>obtain ⟨ob,e⟩:=x; exact ⟨ob,k _ _ (.inl rfl) e⟩
 | xd fs=>obtain ⟨mA,⟨od,es,ep,e,c⟩,r⟩:=x; exact ⟨mA,⟨od,es,ep,k _ _ (.inl rfl) e,c⟩,r⟩
 | rng lo hi=>obtain ⟨t,u,v,e⟩:=x; exact ⟨t,u,v,k _ _ (.inl rfl) e⟩
 | frz ob u ih=>obtain ⟨e,q⟩:=x; exact ⟨k _ _ (.inl rfl) e,ih q⟩
 | tbl ps =>
  have e:h.get? a = some { cls:=.none,data:=.fields ps }:=x
  show h'.get? a = some { cls:=.none,data:=.fields ps }
  exact k a _ (.inl rfl) e
 | met f y =>
  have e:h.get? a = some (PySem.W.methodObj (.ref f) (.ref y)):=x
  show h'.get? a = some (PySem.W.methodObj (.ref f) (.ref y))
  exact k a _ (.inl rfl) e
 | ext φ=>obtain ⟨p,⟨o,e⟩,st⟩:=x; exact ⟨st _ _ p fun o q=>k _ _ (.inl rfl) q,⟨o,k _ _ (.inl rfl) e⟩,st⟩
theorem HOk.lt (x:HOk P w H h) (e:H a = some o):a < h.objs.size:=(x a o e).lt
theorem HOk.fresh (x:HOk P w H h) (e:h.objs.size≤a):H a = none:=by
 cases q:H a with
 | none=>rfl
 | some u=>exact absurd (Nat.lt_of_lt_of_le (x.lt q) e) (Nat.lt_irrefl _)
theorem HOk.kept (x:HOk P w H h) (k:∀ b u,h.get? b = some u→h'.get? b = some u):HOk P w H h':=fun a o e =>
 (x a o e).stay (fun b u _ q=>k b u q) (fun _ q=>q) fun _ _ q=>q
theorem HOk.laid (x:HOk P w H h) (k:∀ b u,h.get? b = some u→h'.get? b = some u) (hp:h.objs.size≤a) (new:ObjOk P w (upd H a o) h' a o):HOk P w (upd H a o) h':=fun b u e=>by
 have hn:=x.fresh hp
 by_cases hb:b = a
 ·subst hb; rw [upd_same] at e; cases e; exact new
 ·rw [upd_ne hb] at e
  exact (x b u e).stay (fun c v _ q=>k c v q) (fun c q=>by rw [upd_ne (ne_of_none q hn)]; exact q) fun c xs q=>by rw [upd_ne (ne_of_none q hn)]; exact q
end
def Rd (H:Hp) (a:Addr) (u:HO):Prop:=H a = some u∨∃ o,H a = some (.frz o u)
theorem Rd.ok {P:Program} {w:World} {H:Hp} {h:Heap} {a:Addr} {u:HO} (r:Rd H a u) (x:HOk P w H h):ObjOk P w H h a u:=by
 rcases r with r | ⟨o,r⟩
 ·exact x a u r
 ·obtain ⟨_,q⟩:=x a _ r
  exact q
def Mut:Option HO→Prop
 | some (.lst _)=>True
 | some (.dK _)=>True
 | some (.dT _)=>True
 | some (.set _ _)=>True
 | some (.ins _ _ _)=>True
 | some (.ext _)=>True
 | _=>False
section
variable {P:Program} {w:World} {H:Hp} {h h':Heap} {x e:Addr} {o':HO}
theorem HOk.write (ok:HOk P w H h) (mu:Mut (H x)) (he:e = x∨H e = some (.own x)) (k:∀ b u,b≠e→h.get? b = some u→h'.get? b = some u) (heo:∃ u,h'.get? e = some u)
  (new:ObjOk P w (upd H x o') h' x o'):HOk P w (upd H x o') h':=fun b u q=>by
 have nown:∀ c y,H c = some (.own y)→c≠x:=fun c y r z=>by subst z; rw [r] at mu; exact mu
 have ntup:∀ c xs,H c = some (.tup xs)→c≠x:=fun c xs r z=>by subst z; rw [r] at mu; exact mu
 by_cases hb:b = x
 ·subst hb; rw [upd_same] at q; cases q; exact new
 ·rw [upd_ne hb] at q
  by_cases hbe:b = e
  ·have q':H b = some (.own x):=by
    rcases he with z | z
    ·exact absurd (hbe.trans z) hb
    ·rw [hbe]; exact z
   rw [q] at q'; cases q'
   obtain ⟨v,hv⟩:=heo
   exact ⟨v,by rw [hbe]; exact hv⟩
  ·refine (ok b u q).stay (fun c v hc r=>k c v ?_ r) (fun c r=>by rw [upd_ne (nown c b r)]; exact r) fun c xs r=>by rw [upd_ne (ntup c xs r)]; exact r
   rcases hc with rfl | hc
   ·exact hbe
   ·rintro rfl
    rcases he with z | z
    ·exact nown c b hc z
    ·rw [hc] at z; cases z; exact hb rfl
end
structure Un (fs ex:List Addr) (H H':Hp) (h h':Heap):Prop where
 keep:∀ b o,h.get? b = some o→H b = none→b∉fs→b∉ex→h'.get? b = some o
 slot:∀ b o,h.get? b = some o→H b = none→b∈fs→b∉ex→∃ sl,h'.get? b = some { o with slots:=sl }
 free:∀ b o,h.get? b = some o→H b = none→b∉ex→H' b = none
 there:∀ b o,h.get? b = some o→b∉ex→∃ o',h'.get? b = some o'
 tups:∀ b xs,H b = some (.tup xs)→H' b = some (.tup xs)
 frzs:∀ b o u,H b = some (.frz o u)→H' b = some (.frz o u)
 tbls:∀ b ps,H b = some (.tbl ps)→∃ more,H' b = some (.tbl (ps ++ more))
section
variable {fs fs' ex ex':List Addr} {H H1 H2:Hp} {h h1 h2 h':Heap} {a x e:Addr} {o:HO}
theorem Un.any (u:Un fs ex H H1 h h1) {b:Addr} {ob:Obj} (q:h.get? b = some ob) (n:H b = none) (hx:b∉ex):∃ sl,h1.get? b = some { ob with slots:=sl }:=by
 by_cases hb:b∈fs
 ·exact u.slot b ob q n hb hx
 ·exact ⟨ob.slots,u.keep b ob q n hb hx⟩
theorem Un.kept (k:∀ b u,h.get? b = some u→h'.get? b = some u):Un fs ex H H h h' :=
 ⟨fun b ob q _ _ _=>k b ob q,fun b ob q _ _ _=>⟨ob.slots,k b ob q⟩,fun _ _ _ n _=>n,fun b ob q _=>⟨ob,k b ob q⟩,fun _ _ q=>q,fun _ _ _ q=>q,fun _ ps q=>⟨#[],by rw [q]; simp⟩⟩
theorem Un.refl:Un fs ex H H h h:=Un.kept fun _ _ q=>q
theorem Un.laid (k:∀ b u,h.get? b = some u→h'.get? b = some u) (hp:h.objs.size≤a) (hn:H a = none):Un fs ex H (upd H a o) h h' where
 keep:=fun b u q _ _ _=>k b u q
 slot:=fun b u q _ _ _=>⟨u.slots,k b u q⟩
 free:=fun b u q n _=>by rw [upd_ne (Nat.ne_of_lt (Nat.lt_of_lt_of_le (Heap.lt_size q) hp))]; exact n
 there:=fun b u q _=>⟨u,k b u q⟩
 tups:=fun b xs q=>by rw [upd_ne (ne_of_none q hn)]; exact q
 frzs:=fun b u xs q=>by rw [upd_ne (ne_of_none q hn)]; exact q
 tbls:=fun b ps q=>⟨#[],by rw [upd_ne (ne_of_none q hn),q]; simp⟩
theorem Un.write (mu:Mut (H x)) (he:e = x∨H e = some (.own x)) (k:∀ b u,b≠e→h.get? b = some u→h'.get? b = some u) (heo:∃ u,h'.get? e = some u):Un fs ex H (upd H x o) h h':=by
 have hx:∀ b,H b = none→b≠x:=fun b n z=>by subst z; rw [n] at mu; exact mu
 have hb:∀ b,H b = none→b≠e:=fun b n z=>by
  subst z
  rcases he with r | r
  ·exact hx b n r
  ·rw [n] at r; cases r
 have hm:∀ b u,H b = some u→¬ Mut (some u)→b≠x:=fun b u q nm z=>by subst z; rw [q] at mu; exact nm mu
 refine ⟨fun b u q n _ _=>k b u (hb b n) q,fun b u q n _ _=>⟨u.slots,k b u (hb b n) q⟩,fun b u q n _=>by rw [upd_ne (hx b n)]; exact n,fun b u q _=>?_,
  fun b xs q=>by rw [upd_ne (hm b _ q fun z=>z)]; exact q,fun b u xs q=>by rw [upd_ne (hm b _ q fun z=>z)]; exact q,fun b ps q=>⟨#[],by rw [upd_ne (hm b _ q fun z=>z),q]; simp⟩⟩
 by_cases hbe:b = e
 ·subst hbe; exact heo
 ·exact ⟨u,k b u hbe q⟩
end
def trk (h:Heap) (H:Hp):List Addr:=(List.range h.objs.size).filter fun a=>(H a).isSome
def hidT (h:Heap) (H:Hp):Heap:=PySem.W.hideAll h (trk h H)
theorem hidT_size (h:Heap) (H:Hp):(hidT h H).objs.size = h.objs.size:=PySem.W.hideAll_size _ _
theorem hidT_get {h:Heap} {H:Hp} {b:Addr} {o:Obj} (e:h.get? b = some o) (n:H b = none):(hidT h H).get? b = some o :=
 PySem.W.hideAll_get _ e fun hm=>by
  have q:(H b).isSome = true:=(List.mem_filter.mp hm).2
  rw [n] at q; simp at q
theorem of_hidT {h:Heap} {H:Hp} {b:Addr} {o:Obj} (e:(hidT h H).get? b = some o):h.get? b = some o∧H b = none:=by
 have e':h.get? b = some o:=PySem.W.of_hideAll (trk h H) e
 refine ⟨e',?_⟩
 cases q:H b with
 | none=>rfl
 | some x =>
  have hm:b∈trk h H:=List.mem_filter.mpr ⟨List.mem_range.mpr (Heap.lt_size e'),by simp [q]⟩
  have z:(hidT h H).get? b = none:=PySem.W.hideAll_none (trk h H) hm
  rw [z] at e; cases e
def allNews (g h:Heap) (L:Addr):List (Addr× Obj):=(List.range h.objs.size).filterMap fun a=>if a = L∨(g.get? a).isSome = true then none else (h.get? a).map fun o=>(a,o)
def rest (g h:Heap) (L d:Addr):List (Addr× Obj):=(allNews g h L).filter fun p=>decide (p.1≠d)
end L2
namespace L2
open PySem PySem.Spec PyProof.Rows
structure Mod (K:PySem.W.Frag) (mg:Str→Option Value) (base:Heap):Prop where
 kin:K.In base
 glob:base.Ns mainGlobals mg
 blt:∃ mb,base.Ns builtinsNs mb∧∀ x:Str,x≠ "__name__" → mb x = bootBuiltins x
 nolimit:base.NoLimit
structure Cx where
 prog:Program
 w:World
 K:PySem.W.Frag
 mg:Str→Option Value
 base:Heap
 A:Around
 N:List Str
 s₀:Shared
 H₀:Hp
 env:Env
 outer:List Env
 stack:List Env
 ex:List Addr
 fn:Str→Bool
 calm:Bool
 pn:List (Addr× Obj)
 xe:Value→Shared→Prop
def frs (l:List Env):List Addr:=l.filterMap (·.frame)
abbrev Cx.fs (X:Cx):List Addr:=frs X.outer
def Vis (sc:Scope) (x:Str):Prop:=sc.names.lookup x = some .local∨sc.names.lookup x = some .cell∨sc.names.lookup x = some .free
def Loc (sc:Scope) (x:Str):Prop:=sc.names.lookup x = some .local∨sc.names.lookup x = some .cell
def Look (env:Env) (h:Heap) (m:Str→Option Value) (x:Str) (u:Value):Prop :=
 (env.kindOf x = some .local∧m x = some u)∨((env.kindOf x = some .cell∨env.kindOf x = some .free)∧∃ c,env.cells.lookup x = some c∧h.IsCell c (some u))
structure Cx.Ok (X:Cx):Prop where
 mod:Mod X.K X.mg X.base
 kind:X.env.scope.kind = .function
 glob:X.env.globals = mainGlobals
 blt:X.env.builtins = builtinsNs
 above:X.s₀.heap.objs.size≤X.env.locals
 inj:∀ x y c,X.env.cells.lookup x = some c→X.env.cells.lookup y = some c→x = y
 has:∀ x,(X.env.kindOf x = some .cell∨X.env.kindOf x = some .free)→∃ c,X.env.cells.lookup x = some c
 cab:∀ x c,X.fn x = true→X.env.cells.lookup x = some c→X.s₀.heap.objs.size≤c
 hd:X.calm = true→X.A.handled = none
 frames:X.A.frames = some X.stack
 stk:X.stack = X.outer∨(X.stack = X.env :: X.outer∧X.env.frame = some X.env.locals)
 exf:∀ b∈X.ex,b≠X.env.locals∧∀ x c,X.env.cells.lookup x = some c→c≠b
 bs:∀ b o,X.base.get? b = some o→X.s₀.heap.get? b = some o∧X.H₀ b = none
 bsz:X.base.objs.size≤X.s₀.heap.objs.size
 noex:∀ b o,X.base.get? b = some o→b∉X.ex
 exfs:∀ b∈X.ex,b∉X.fs
 funs:X.s₀.heap.FunFrames X.base X.outer
 frf:∀ b∈X.fs,X.H₀ b = none
structure Inv (X:Cx) (pins:List (Addr× Obj)) (σ:List (Option V)) (H:Hp) (s:Shared):Prop where
 ok:X.Ok
 os:s.os = X.s₀.os
 bare:AllBare s.gens
 base:Un X.fs X.ex X.H₀ H X.s₀.heap s.heap
 loc:∃ m,s.heap.Ns X.env.locals m∧∀ (i:Nat) (x:Str) (v:V),X.N[i]? = some x→σ[i]? = some (some v)→Vis X.env.scope x→∃ u,RelV v u∧Look X.env s.heap m x u
 cell:∀ x c,X.env.cells.lookup x = some c→∃ v,s.heap.IsCell c v
 free:H X.env.locals = none
 freeC:∀ x c,X.env.cells.lookup x = some c→H c = none
 pin:∀ p∈X.pn ++ pins,s.heap.get? p.1 = some p.2∧H p.1 = none∧p.1≠X.env.locals∧p.1∉X.fs∧∀ v,p.2.data≠.cell v
 hok:HOk X.prog X.w H s.heap
 len:σ.length = X.N.length
section
variable {X:Cx} {pins:List (Addr× Obj)} {σ:List (Option V)} {H H':Hp} {s:Shared} {h':Heap}
theorem Cx.Ok.nofr (ok:X.Ok) {b:Addr} {o:Obj} (e:X.base.get? b = some o):b∉X.fs:=fun hb=>by
 have:=(ok.funs.mem hb).1
 rw [e] at this; cases this
theorem Inv.bs (I:Inv X pins σ H s):∀ b o,X.base.get? b = some o→s.heap.get? b = some o∧H b = none:=fun b o e =>
 ⟨I.base.keep b o (I.ok.bs b o e).1 (I.ok.bs b o e).2 (I.ok.nofr e) (I.ok.noex b o e),I.base.free b o (I.ok.bs b o e).1 (I.ok.bs b o e).2 (I.ok.noex b o e)⟩
theorem Inv.bk (I:Inv X pins σ H s):∀ b o,X.base.get? b = some o→s.heap.get? b = some o:=fun b o e=>(I.bs b o e).1
theorem Inv.mod (I:Inv X pins σ H s):Mod X.K X.mg X.base:=I.ok.mod
theorem Inv.kIn (I:Inv X pins σ H s):X.K.In s.heap:=I.ok.mod.kin.keeps I.bk
theorem Inv.lt (I:Inv X pins σ H s):X.env.locals < s.heap.objs.size:=let ⟨_,hn,_⟩:=I.loc; hn.lt
theorem Inv.sz (I:Inv X pins σ H s):X.s₀.heap.objs.size≤s.heap.objs.size:=Nat.le_trans I.ok.above (Nat.le_of_lt I.lt)
theorem Inv.nofs (I:Inv X pins σ H s) {a:Addr} (h:s.heap.objs.size≤a):a∉X.fs:=fun hb=>by
 obtain ⟨_,o,ho,_⟩:=I.ok.funs.mem hb
 exact absurd (Nat.lt_of_lt_of_le (Heap.lt_size ho) (Nat.le_trans I.sz h)) (Nat.lt_irrefl _)
theorem Inv.cne (I:Inv X pins σ H s):∀ x c,X.env.cells.lookup x = some c→c≠X.env.locals:=fun x c e z=>by
 obtain ⟨v,o,ho,hd⟩:=I.cell x c e
 obtain ⟨m,⟨o',es,ep,ho',hd',_⟩,_⟩:=I.loc
 rw [z,ho'] at ho; cases ho; rw [hd'] at hd; cases hd
theorem Inv.funs (I:Inv X pins σ H s):s.heap.FunFrames X.base X.outer:=by
 have all:∀ (l:List Env),(∀ b∈frs l,b∈X.fs)→X.s₀.heap.FunFrames X.base l→s.heap.FunFrames X.base l:=by
  intro l
  induction l with
  | nil=>intro _ _; trivial
  | cons env r ih =>
   intro hs hl
   obtain ⟨hk,⟨L,o,hf,hn,ho,hd⟩,hr⟩:=hl
   have hL:L∈X.fs:=hs L (by unfold frs; rw [List.filterMap_cons,hf]; exact List.mem_cons_self)
   obtain ⟨sl,e⟩:=I.base.slot L o ho (I.ok.frf L hL) hL fun z=>I.ok.exfs L z hL
   exact ⟨hk,⟨L,_,hf,hn,e,hd⟩,ih (fun b hb=>hs b (by unfold frs; rw [List.filterMap_cons,hf]; exact List.mem_cons_of_mem _ hb)) hr⟩
 exact all X.outer (fun _ hb=>hb) I.ok.funs
theorem Inv.stack (I:Inv X pins σ H s):s.heap.FunFrames X.base X.stack:=by
 rcases I.ok.stk with e | ⟨e,hf⟩
 ·rw [e]; exact I.funs
 ·rw [e]
  obtain ⟨m,hn,_⟩:=I.loc
  refine .cons (by rw [I.ok.kind]; decide) hf hn ?_ I.funs
  exact Heap.get?_none_of_le (Nat.le_trans I.ok.bsz I.ok.above)
theorem Inv.stkSub (I:Inv X pins σ H s):∀ b∈frs X.stack,b∈X.env.locals :: X.fs:=fun b hb=>by
 rcases I.ok.stk with e | ⟨e,hf⟩
 ·rw [e] at hb; exact List.mem_cons_of_mem _ hb
 ·rw [e] at hb
  unfold frs at hb
  rw [List.filterMap_cons,hf] at hb
  exact hb
theorem Inv.stkFree (I:Inv X pins σ H s):∀ b∈frs X.stack,H b = none:=fun b hb=>by
 rcases List.mem_cons.mp (I.stkSub b hb) with e | hb
 ·rw [e]; exact I.free
 ·obtain ⟨_,o,ho,_⟩:=I.ok.funs.mem hb
  exact I.base.free b o ho (I.ok.frf b hb) fun z=>I.ok.exfs b z hb
theorem Inv.step {g':Array GenState} {t':Nat} {d':Drawn} {ch:List Addr} (I:Inv X pins σ H s)
  (hch:∀ b∈ch,(b∈X.ex∨X.s₀.heap.objs.size≤b)∧b≠X.env.locals∧(∀ x c,X.env.cells.lookup x = some c→c≠b)∧∀ p∈X.pn ++ pins,p.1≠b)
  (keep:∀ b o,b≠X.env.locals→b∉X.fs→b∉ch→s.heap.get? b = some o→H b = none→h'.get? b = some o)
  (slot:∀ b o,b≠X.env.locals→b∈X.fs→b∉ch→s.heap.get? b = some o→H b = none→∃ sl,h'.get? b = some { o with slots:=sl }) (free:∀ b o,b∉ch→s.heap.get? b = some o→H b = none→H' b = none)
  (there:∀ b o,b∉ch→s.heap.get? b = some o→∃ o',h'.get? b = some o')
  (tups:∀ b xs,H b = some (.tup xs)→H' b = some (.tup xs)) (frzs:∀ b o u,H b = some (.frz o u)→H' b = some (.frz o u)) (tbls:∀ b ps,H b = some (.tbl ps)→∃ more,H' b = some (.tbl (ps ++ more)))
  (ns:∀ m,s.heap.Ns X.env.locals m→h'.Ns X.env.locals m) (hok:HOk X.prog X.w H' h') (hg:AllBare g') :
  Inv X pins σ H' { s with heap:=h',gens:=g',drawn:=d',toks:=t' }:=by
 have neL:∀ b o,X.s₀.heap.get? b = some o→b≠X.env.locals:=fun b o e=>Nat.ne_of_lt (Nat.lt_of_lt_of_le (Heap.lt_size e) I.ok.above)
 have neC:∀ b o,X.s₀.heap.get? b = some o→b∉X.ex→b∉ch:=fun b o e hx hb=>by
  rcases (hch b hb).1 with z | z
  ·exact hx z
  ·exact absurd (Nat.lt_of_lt_of_le (Heap.lt_size e) z) (Nat.lt_irrefl _)
 have cellK:∀ x c,X.env.cells.lookup x = some c→∀ v,s.heap.IsCell c v→h'.IsCell c v:=fun x c e v ⟨o,ho,hd⟩=>by
  have nch:c∉ch:=fun z=>(hch c z).2.2.1 x c e rfl
  by_cases hc:c∈X.fs
  ·obtain ⟨sl,q⟩:=slot c o (I.cne x c e) hc nch ho (I.freeC x c e)
   exact ⟨_,q,hd⟩
  ·exact ⟨o,keep c o (I.cne x c e) hc nch ho (I.freeC x c e),hd⟩
 refine ⟨I.ok,I.os,hg,⟨fun b o e n hb hx=>?_,fun b o e n hb hx=>?_,fun b o e n hx=>?_,fun b o e hx=>?_,fun b xs e=>tups b xs (I.base.tups b xs e),fun b o xs e=>frzs b o xs (I.base.frzs b o xs e),fun b ps e=>?_⟩,?_,fun x c e=>?_,?_,fun x c e=>?_,fun p hp=>?_,hok,I.len⟩
 ·exact keep b o (neL b o e) hb (neC b o e hx) (I.base.keep b o e n hb hx) (I.base.free b o e n hx)
 ·obtain ⟨sl,e1⟩:=I.base.slot b o e n hb hx
  obtain ⟨sl',e2⟩:=slot b _ (neL b o e) hb (neC b o e hx) e1 (I.base.free b o e n hx)
  exact ⟨sl',e2⟩
 ·obtain ⟨o',e1⟩:=I.base.there b o e hx
  exact free b o' (neC b o e hx) e1 (I.base.free b o e n hx)
 ·obtain ⟨o',e1⟩:=I.base.there b o e hx
  exact there b o' (neC b o e hx) e1
 ·obtain ⟨m1,e1⟩:=I.base.tbls b ps e
  obtain ⟨m2,e2⟩:=tbls b _ e1
  exact ⟨m1 ++ m2,by rw [e2,Array.append_assoc]⟩
 ·obtain ⟨m,hn,hl⟩:=I.loc
  refine ⟨m,ns m hn,fun i x v e1 e2 e3=>?_⟩
  obtain ⟨u,r,l⟩:=hl i x v e1 e2 e3
  refine ⟨u,r,?_⟩
  rcases l with l | ⟨k,c,e,z⟩
  ·exact .inl l
  ·exact .inr ⟨k,c,e,cellK x c e _ z⟩
 ·obtain ⟨v,z⟩:=I.cell x c e
  exact ⟨v,cellK x c e v z⟩
 ·obtain ⟨m,⟨o,_,_,ho,_⟩,_⟩:=I.loc
  exact free _ o (fun z=>(hch _ z).2.1 rfl) ho I.free
 ·obtain ⟨v,o,ho,hd⟩:=I.cell x c e
  exact free c o (fun z=>(hch c z).2.2.1 x c e rfl) ho (I.freeC x c e)
 ·obtain ⟨e,n,ne,nf,d⟩:=I.pin p hp
  have nch:p.1∉ch:=fun z=>(hch p.1 z).2.2.2 p hp rfl
  exact ⟨keep p.1 p.2 ne nf nch e n,free p.1 p.2 nch e n,ne,nf,d⟩
theorem Inv.un {t':Nat} (I:Inv X pins σ H s) (u:Un X.fs [] H H' s.heap h') (hok:HOk X.prog X.w H' h'):Inv X pins σ H' { s with heap:=h',toks:=t' }:=by
 obtain ⟨m,⟨o,es,ep,ho,r⟩,_⟩:=id I.loc
 obtain ⟨sl,hL⟩:=u.any ho I.free (by simp)
 exact I.step (g':=s.gens) (d':=s.drawn) (ch:=[]) (fun _ z=>nomatch z) (fun b o _ hb _ e n=>u.keep b o e n hb (by simp)) (fun b o _ hb _ e n=>u.slot b o e n hb (by simp)) (fun b o _ e n=>u.free b o e n (by simp)) (fun b o _ e=>u.there b o e (by simp)) u.tups u.frzs u.tbls (fun m' hm=>by
  obtain ⟨o',es',ep',ho',r'⟩:=hm
  rw [ho] at ho'; cases ho'
  exact ⟨_,es',ep',hL,r'⟩) hok I.bare
theorem Inv.call {g':Array GenState} {t':Nat} {d':Drawn} {ch:List Addr} (I:Inv X pins σ H s) (u:Un (frs X.stack) ch H H' s.heap h') (hok:HOk X.prog X.w H' h') (hg:AllBare g')
  (hch:∀ b∈ch,(b∈X.ex∨X.s₀.heap.objs.size≤b)∧b≠X.env.locals∧(∀ x c,X.env.cells.lookup x = some c→c≠b)∧∀ p∈X.pn ++ pins,p.1≠b) :
  Inv X pins σ H' { s with heap:=h',gens:=g',drawn:=d',toks:=t' }:=by
 obtain ⟨m,⟨o,es,ep,ho,r⟩,_⟩:=id I.loc
 obtain ⟨sl,hL⟩:=u.any ho I.free fun z=>(hch _ z).2.1 rfl
 exact I.step (ch:=ch) hch (fun b o hL hb hc e n=>u.keep b o e n (fun z=>(List.mem_cons.mp (I.stkSub b z)).elim hL hb) hc) (fun b o _ _ hc e n=>u.any e n hc) (fun b o hc e n=>u.free b o e n hc) (fun b o hc e=>u.there b o e hc) u.tups u.frzs u.tbls (fun m' hm=>by
  obtain ⟨o',es',ep',ho',r'⟩:=hm
  rw [ho] at ho'; cases ho'
  exact ⟨_,es',ep',hL,r'⟩) hok hg
theorem Inv.turned {t':Nat} {it:Addr} (I:Inv X pins σ H s) (k:∀ b o,b≠it→s.heap.get? b = some o→h'.get? b = some o) (hn:H it = none) (hL:it≠X.env.locals)
  (h1:it∈X.ex∨X.s₀.heap.objs.size≤it) (h2:∀ x c,X.env.cells.lookup x = some c→c≠it) (h3:∀ p∈X.pn ++ pins,p.1≠it):Inv X pins σ H { s with heap:=h',toks:=t' }:=by
 have nit:∀ b u,H b = some u→b≠it:=fun b u e z=>by rw [z,hn] at e; cases e
 refine I.step (g':=s.gens) (d':=s.drawn) (ch:=[it]) (fun b hb=>?_) (fun b o _ _ hc e _=>k b o (fun z=>hc (by simp [z])) e) (fun b o _ _ hc e _=>⟨o.slots,k b o (fun z=>hc (by simp [z])) e⟩) (fun _ _ _ _ n=>n)
  (fun b o hc e=>⟨o,k b o (fun z=>hc (by simp [z])) e⟩) (fun _ _ e=>e) (fun _ _ _ e=>e) (fun b ps e=>⟨#[],by rw [e]; simp⟩) (fun m hm=>?_) (fun b u e=>?_) I.bare
 ·have e:b = it:=by simpa using hb
  subst e
  exact ⟨h1,hL,h2,h3⟩
 ·obtain ⟨o,es,ep,ho,r⟩:=hm
  exact ⟨o,es,ep,k _ o (Ne.symm hL) ho,r⟩
 ·refine (I.hok b u e).stay (fun c v hc q=>k c v ?_ q) (fun _ q=>q) fun _ _ q=>q
  rcases hc with z | z
  ·rw [z]; exact nit b u e
  ·exact nit c _ z
theorem Inv.tok (I:Inv X pins σ H s) (t:Nat):Inv X pins σ H { s with toks:=t }:=I.un (h':=s.heap) (t':=t) Un.refl I.hok
theorem Inv.kept {t':Nat} (I:Inv X pins σ H s) (k:∀ b u,s.heap.get? b = some u→h'.get? b = some u):Inv X pins σ H { s with heap:=h',toks:=t' }:=I.un (Un.kept k) (I.hok.kept k)
theorem Inv.laid {a:Addr} {o:HO} {t':Nat} (I:Inv X pins σ H s) (k:∀ b u,s.heap.get? b = some u→h'.get? b = some u) (hp:s.heap.objs.size≤a) (new:ObjOk X.prog X.w (upd H a o) h' a o) :
  Inv X pins σ (upd H a o) { s with heap:=h',toks:=t' }:=I.un (Un.laid k hp (I.hok.fresh hp)) (I.hok.laid k hp new)
theorem Inv.write {x e:Addr} {o:HO} {t':Nat} (I:Inv X pins σ H s) (mu:Mut (H x)) (he:e = x∨H e = some (.own x)) (k:∀ b u,b≠e→s.heap.get? b = some u→h'.get? b = some u) (heo:∃ u,h'.get? e = some u)
  (new:ObjOk X.prog X.w (upd H x o) h' x o):Inv X pins σ (upd H x o) { s with heap:=h',toks:=t' }:=I.un (Un.write mu he k heo) (I.hok.write mu he k heo new)
theorem Inv.weak {σ':List (Option V)} (I:Inv X pins σ H s) (hl:σ'.length = σ.length) (w:∀ (i:Nat) v,σ'[i]? = some (some v)→σ[i]? = some (some v)):Inv X pins σ' H s :=
 ⟨I.ok,I.os,I.bare,I.base,let ⟨m,hn,hl'⟩:=I.loc; ⟨m,hn,fun i x v e1 e2 e3=>hl' i x v e1 (w i v e2) e3⟩,I.cell,I.free,I.freeC,I.pin,I.hok,hl.trans I.len⟩
theorem Inv.pins_of {pins':List (Addr× Obj)} (I:Inv X pins σ H s) (h:∀ p∈pins',s.heap.get? p.1 = some p.2∧H p.1 = none∧p.1≠X.env.locals∧p.1∉X.fs∧∀ v,p.2.data≠.cell v):Inv X pins' σ H s :=
 ⟨I.ok,I.os,I.bare,I.base,I.loc,I.cell,I.free,I.freeC,fun p hp=>(List.mem_append.mp hp).elim (fun z=>I.pin p (List.mem_append_left _ z)) (h p),I.hok,I.len⟩
theorem nodup_ix {N:List Str} (hN:N.Nodup) {i j:Nat} {x:Str} (a:N[i]? = some x) (b:N[j]? = some x):i = j:=by
 obtain ⟨h1,e1⟩:=List.getElem?_eq_some_iff.mp a
 obtain ⟨h2,e2⟩:=List.getElem?_eq_some_iff.mp b
 exact (List.getElem_inj hN).mp (e1.trans e2.symm)
theorem store_ok2 {M:Model} {A:Around} {E:Value→Shared→Prop} {i:Nat} {x:Str} {v:V} {u:Value} {Q:Unit→Shared→Prop} (I:Inv X pins σ H s) (hN:X.N.Nodup) (hi:X.N[i]? = some x) (hx:Loc X.env.scope x) (r:RelV v u)
  (h:∀ s',Inv X pins (σ.set i (some v)) H s'→(∃ a,Heap.SameBut a s.heap s'.heap∧(a = X.env.locals∨X.env.cells.lookup x = some a))→Q () s') (hf:X.fn x = true∨X.env.scope.names.lookup x = some .local:=by first | exact .inl rfl | exact .inr rfl | assumption):wpAny M A (storeName X.env x u) Q E s:=by
 obtain ⟨m,hn,hl⟩:=id I.loc
 have hcls:(X.env.scope.kind == .class || (X.env.scope.kind == .module && X.env.locals != X.env.globals)) = false:=by rw [I.ok.kind]; rfl
 have hiσ:i < σ.length:=by rw [I.len]; exact (List.getElem?_eq_some_iff.mp hi).1
 have cne:=I.cne
 have tracked:∀ {a:Addr} {h':Heap},(∃ o,s.heap.get? a = some o∧H a = none)→Heap.SameBut a s.heap h'→HOk X.prog X.w H h':=fun {a h'} ha hs b ob e=>by
  obtain ⟨_,_,hfree⟩:=ha
  refine (I.hok b ob e).stay (fun c w' hc q=>(hs.2 c ?_).trans q) (fun _ q=>q) fun _ _ q=>q
  rintro rfl
  rcases hc with rfl | hc
  ·rw [hfree] at e; cases e
  ·rw [hfree] at hc; cases hc
 rcases hx with hk | hk
 ·refine wpAny_storeName_local hk hn (fun h' hn' hs=>?_) hcls
  obtain ⟨oL,_,_,hoL,_⟩:=id hn
  refine h _ ⟨I.ok,I.os,I.bare,⟨fun b o e n hb hx=>?_,fun b o e n hb hx=>?_,I.base.free,fun b o e hx=>?_,I.base.tups,I.base.frzs,I.base.tbls⟩,⟨_,hn',fun j y v' e1 e2 e3=>?_⟩,fun y c e=>?_,I.free,I.freeC,fun p hp=>?_,tracked ⟨oL,hoL,I.free⟩ hs,by simpa using I.len⟩ ⟨_,hs,.inl rfl⟩
  ·exact (hs.2 b (Nat.ne_of_lt (Nat.lt_of_lt_of_le (Heap.lt_size e) I.ok.above))).trans (I.base.keep b o e n hb hx)
  ·obtain ⟨sl,e1⟩:=I.base.slot b o e n hb hx
   exact ⟨sl,(hs.2 b (Nat.ne_of_lt (Nat.lt_of_lt_of_le (Heap.lt_size e) I.ok.above))).trans e1⟩
  ·obtain ⟨o',e1⟩:=I.base.there b o e hx
   exact ⟨o',(hs.2 b (Nat.ne_of_lt (Nat.lt_of_lt_of_le (Heap.lt_size e) I.ok.above))).trans e1⟩
  ·by_cases hj:j = i
   ·subst hj
    rw [hi] at e1; cases e1
    rw [List.getElem?_set_self hiσ] at e2
    cases e2
    exact ⟨u,r,.inl ⟨hk,by simp⟩⟩
   ·rw [List.getElem?_set_ne (Ne.symm hj)] at e2
    obtain ⟨u',r',q⟩:=hl j y v' e1 e2 e3
    refine ⟨u',r',?_⟩
    rcases q with ⟨k,e⟩ | ⟨k,c,e,z⟩
    ·refine .inl ⟨k,?_⟩
     have:y≠x:=fun e=>hj (nodup_ix hN e1 (e ▸ hi))
     simp [this,e]
    ·exact .inr ⟨k,c,e,z.sameBut hs (cne y c e)⟩
  ·obtain ⟨w',z⟩:=I.cell y c e
   exact ⟨w',z.sameBut hs (cne y c e)⟩
  ·obtain ⟨e,n,ne,nf,d⟩:=I.pin p hp
   exact ⟨(hs.2 p.1 ne).trans e,n,ne,nf,d⟩
 ·have hfn:X.fn x = true:=by
   rcases hf with z | z
   ·exact z
   ·rw [z] at hk; cases hk
  obtain ⟨c,hc⟩:=I.ok.has x (.inl hk)
  obtain ⟨w',z⟩:=I.cell x c hc
  refine wpAny_storeName_cell I.ok.kind hk hc z (fun h' hc' hs=>?_)
  obtain ⟨oc,hoc,hocd⟩:=id z
  refine h { s with heap:=h' } ⟨I.ok,I.os,I.bare,⟨fun b o e n hb hx=>?_,fun b o e n hb hx=>?_,I.base.free,fun b o e hx=>?_,I.base.tups,I.base.frzs,I.base.tbls⟩,⟨m,hn.sameBut hs (Ne.symm (cne x c hc)),fun j y v' e1 e2 e3=>?_⟩,fun y c' e=>?_,I.free,I.freeC,fun p hp=>?_,tracked ⟨oc,hoc,I.freeC x c hc⟩ hs,by simpa using I.len⟩ ⟨c,hs,.inr hc⟩
  ·exact (hs.2 b (Nat.ne_of_lt (Nat.lt_of_lt_of_le (Heap.lt_size e) (I.ok.cab x c hfn hc)))).trans (I.base.keep b o e n hb hx)
  ·obtain ⟨sl,e1⟩:=I.base.slot b o e n hb hx
   exact ⟨sl,(hs.2 b (Nat.ne_of_lt (Nat.lt_of_lt_of_le (Heap.lt_size e) (I.ok.cab x c hfn hc)))).trans e1⟩
  ·obtain ⟨o',e1⟩:=I.base.there b o e hx
   exact ⟨o',(hs.2 b (Nat.ne_of_lt (Nat.lt_of_lt_of_le (Heap.lt_size e) (I.ok.cab x c hfn hc)))).trans e1⟩
  ·by_cases hj:j = i
   ·subst hj
    rw [hi] at e1; cases e1
    rw [List.getElem?_set_self hiσ] at e2
    cases e2
    exact ⟨u,r,.inr ⟨.inl hk,c,hc,hc'⟩⟩
   ·rw [List.getElem?_set_ne (Ne.symm hj)] at e2
    obtain ⟨u',r',q⟩:=hl j y v' e1 e2 e3
    refine ⟨u',r',?_⟩
    rcases q with q | ⟨k,c',e,z'⟩
    ·exact .inl q
    ·refine .inr ⟨k,c',e,z'.sameBut hs ?_⟩
     rintro rfl
     exact hj (nodup_ix hN e1 (I.ok.inj _ _ _ e hc ▸ hi))
  ·by_cases hcc:c' = c
   ·subst hcc; exact ⟨_,hc'⟩
   ·obtain ⟨w2,z2⟩:=I.cell y c' e
    exact ⟨w2,z2.sameBut hs hcc⟩
  ·obtain ⟨e,n,ne,nf,d⟩:=I.pin p hp
   refine ⟨(hs.2 p.1 ?_).trans e,n,ne,nf,d⟩
   intro q
   rw [q,hoc] at e
   have q':oc = p.2:=Option.some.inj e
   exact d w' (by rw [← q']; exact hocd)
theorem store_ok {M:Model} {A:Around} {E:Value→Shared→Prop} {i:Nat} {x:Str} {v:V} {u:Value} {Q:Unit→Shared→Prop} (I:Inv X pins σ H s) (hN:X.N.Nodup) (hi:X.N[i]? = some x) (hx:Loc X.env.scope x) (r:RelV v u)
  (h:∀ s',Inv X pins (σ.set i (some v)) H s'→Q () s') (hf:X.fn x = true∨X.env.scope.names.lookup x = some .local:=by first | exact .inl rfl | exact .inr rfl | assumption):wpAny M A (storeName X.env x u) Q E s :=
 store_ok2 I hN hi hx r (fun s' I' _=>h s' I') hf
theorem Inv.call' {s':Shared} {ch:List Addr} (I:Inv X pins σ H s) (ho:s'.os = s.os) (u:Un (frs X.stack) ch H H' s.heap s'.heap) (hok:HOk X.prog X.w H' s'.heap) (hg:AllBare s'.gens)
  (hch:∀ b∈ch,(b∈X.ex∨X.s₀.heap.objs.size≤b)∧b≠X.env.locals∧(∀ x c,X.env.cells.lookup x = some c→c≠b)∧∀ p∈X.pn ++ pins,p.1≠b):Inv X pins σ H' s':=by
 obtain ⟨h',g',d',t',o'⟩:=s'
 have e:o' = s.os:=ho
 subst e
 exact I.call (g':=g') (t':=t') (d':=d') u hok hg hch
end
abbrev XK:=Value→Option Addr→Hp→Prop
abbrev St:=List (Option V)
abbrev VK:=V→Hp→Prop
abbrev TE:=St→Hp→VK→Prop
abbrev TT:=St→Hp→(Bool→Hp→Prop)→Prop
abbrev TA:=St→Hp→(List V→Hp→Prop)→Prop
structure Ends where
 nx:St→Hp→Prop
 rt:VK
 bk:St→Hp→Prop:=fun _ _=>False
 ct:St→Hp→Prop:=fun _ _=>False
abbrev TS:=Ends→St→Hp→Prop
def EP (X:Cx) (pins:List (Addr× Obj)) (σ:St) (Q:VK) (u:Value) (s':Shared):Prop:=∃ v H',Inv X pins σ H' s'∧RelV v u∧Q v H'
def TP (X:Cx) (pins:List (Addr× Obj)) (σ:St) (Q:Bool→Hp→Prop) (b:Bool) (s':Shared):Prop:=∃ H',Inv X pins σ H' s'∧Q b H'
def AP (X:Cx) (pins:List (Addr× Obj)) (σ:St) (Q:List V→Hp→Prop) (us:List Value) (s':Shared):Prop:=∃ vs H',Inv X pins σ H' s'∧Vals vs us∧Q vs H'
def SP (X:Cx) (pins:List (Addr× Obj)) (D:Ends) (f:Flow) (s':Shared):Prop :=
 match f with
 | .next=>∃ σ' H',Inv X pins σ' H' s'∧D.nx σ' H'
 | .brk=>∃ σ' H',Inv X pins σ' H' s'∧D.bk σ' H'
 | .cont=>∃ σ' H',Inv X pins σ' H' s'∧D.ct σ' H'
 | .ret u=>∃ v σ' H',Inv X pins σ' H' s'∧RelV v u∧D.rt v H'
def PE (X:Cx) (e:Expr) (t:TE):Prop :=
 ∀ (pins:List (Addr× Obj)) (s:Shared) (σ:St) (H:Hp) (Q:VK),Inv X pins σ H s→t σ H Q→wpAny (model X.prog X.w) X.A (eval e X.env) (EP X pins σ Q) X.xe s
def PT (X:Cx) (e:Expr) (t:TT):Prop :=
 ∀ (pins:List (Addr× Obj)) (s:Shared) (σ:St) (H:Hp) (Q:Bool→Hp→Prop),Inv X pins σ H s→t σ H Q→wpAny (model X.prog X.w) X.A (isTrue e X.env (eval e X.env)) (TP X pins σ Q) X.xe s
def PW (X:Cx) (e:Expr) (t:TT):Prop :=
 ∀ (whole:Sem Value) (pins:List (Addr× Obj)) (s:Shared) (σ:St) (H:Hp) (Q:Bool→Hp→Prop),Inv X pins σ H s→t σ H Q→wpAny (model X.prog X.w) X.A (isTrue e X.env whole) (TP X pins σ Q) X.xe s
theorem PW.pt {X:Cx} {e:Expr} {t:TT} (h:PW X e t):PT X e t:=h _
def PA (X:Cx) (es:List Expr) (t:TA):Prop :=
 ∀ (pos:Pos) (pins:List (Addr× Obj)) (s:Shared) (σ:St) (H:Hp) (Q:List V→Hp→Prop),Inv X pins σ H s→t σ H Q→wpAny (model X.prog X.w) X.A (spliced (backTo pos (starEach es X.env))) (AP X pins σ Q) X.xe s
def PS (X:Cx) (st:Stmt) (t:TS):Prop :=
 ∀ (pins:List (Addr× Obj)) (s:Shared) (σ:St) (H:Hp) (D:Ends),Inv X pins σ H s→t D σ H→wpAny (model X.prog X.w) X.A (exec st X.env) (SP X pins D) X.xe s
def PSs (X:Cx) (st:List Stmt) (t:TS):Prop :=
 ∀ (pins:List (Addr× Obj)) (s:Shared) (σ:St) (H:Hp) (D:Ends),Inv X pins σ H s→t D σ H→wpAny (model X.prog X.w) X.A (execs st X.env) (SP X pins D) X.xe s
theorem thn {α:Type} {t:Sem α} {Q Q':α→Shared→Prop} {M:Model} {A:Around} {E:Value→Shared→Prop} {s:Shared} (h:wpAny M A t Q E s) (hQ:∀ a s,Q a s→Q' a s):wpAny M A t Q' E s:=wpAny_mono h hQ fun _ _ x=>x
end L2
namespace L2
open PySem PySem.Spec PyProof.Rows
section
variable {X:Cx}
def tVar (i:Nat):TE:=fun σ H Q=>∃ v,σ[i]? = some (some v)∧Q v H
def tC (v:V):TE:=fun _ H Q=>Q v H
theorem pe_var {i:Nat} {x:Str} {pos:Pos} (hN:X.N[i]? = some x) (hv:Vis X.env.scope x) (hd:(x == ("__debug__" : Str)) = false:=by decide) (hcd:(x == ("__classdict__" : Str)) = false:=by decide):PE X (.Name x pos) (tVar i):=by
 intro pins s σ H Q I h
 obtain ⟨v,e,h⟩:=h
 obtain ⟨m,hn,hl⟩:=I.loc
 obtain ⟨u,r,l⟩:=hl i x v hN e hv
 have fin:EP X pins σ Q u s:=⟨v,H,I,r,h⟩
 rcases l with ⟨hk,hm⟩ | ⟨hk,c,hc,hcell⟩
 ·exact wpAny_Name (wpAny_loadName_local I.ok.kind hk hn hm fin) hd
 ·rcases hk with hk | hk
  ·exact wpAny_Name (wpAny_loadName_cell I.ok.kind hk hc hcell fin) hd
  ·exact wpAny_Name (wpAny_loadName_free I.ok.kind hk hc hcell fin hcd) hd
theorem pe_int {i j pos}:PE X (.Constant (.int i) j pos) (tC (.int i)):=fun _ _ _ H _ I h=>wpAny_Constant_int ⟨.int i,H,I.tok _,⟨_,rfl⟩,h⟩
theorem pe_bl {b j pos}:PE X (.Constant (.bool b) j pos) (tC (.bl b)):=fun _ _ _ H _ I h=>Constant_bool ⟨.bl b,H,I,rfl,h⟩
theorem pe_non {j pos}:PE X (.Constant .none j pos) (tC .non):=fun _ _ _ H _ I h=>Constant_none ⟨.non,H,I,rfl,h⟩
theorem pe_str {x j pos}:PE X (.Constant (.str x) j pos) (tC (.str x)):=fun _ _ _ H _ I h=>Calls.Constant_str ⟨.str x,H,I.tok _,⟨_,rfl⟩,h⟩
def Gl (X:Cx) (x:Str):Prop:=X.env.kindOf x = some .globalImplicit
theorem ld_glob {E:Value→Shared→Prop} {pins:List (Addr× Obj)} {s:Shared} {σ:St} {H:Hp} {x:Str} {u:Value} {pos:Pos} {Q:Value→Shared→Prop} (I:Inv X pins σ H s) (hg:Gl X x) (hm:X.mg x = some u) (h:Q u s)
  (hd:(x == ("__debug__" : Str)) = false:=by decide):wpAny (model X.prog X.w) X.A (eval (.Name x pos) X.env) Q E s :=
 Calls.Name_function_global I.ok.kind hg (Calls.loadGlobal_global (by rw [I.ok.glob]; exact I.mod.glob.keeps I.bk) hm h) hd
theorem ld_blt {E:Value→Shared→Prop} {pins:List (Addr× Obj)} {s:Shared} {σ:St} {H:Hp} {x:Str} {u:Value} {pos:Pos} {Q:Value→Shared→Prop} (I:Inv X pins σ H s) (hg:Gl X x) (hm:X.mg x = none) (hv:bootBuiltins x = some u) (h:Q u s)
  (hn:x≠ "__name__" := by decide) (hd:(x == ("__debug__" : Str)) = false:=by decide):wpAny (model X.prog X.w) X.A (eval (.Name x pos) X.env) Q E s:=by
 obtain ⟨mb,h1,h2⟩:=I.mod.blt
 exact Calls.Name_function_global I.ok.kind hg (Calls.loadGlobal_builtin (by rw [I.ok.glob]; exact I.mod.glob.keeps I.bk) hm (by rw [I.ok.blt]; exact h1.keeps I.bk) ((h2 x hn).trans hv) h) hd
theorem pe_glob {x:Str} {v:V} {u:Value} {pos:Pos} (hg:Gl X x) (hm:X.mg x = some u) (r:RelV v u) (hd:(x == ("__debug__" : Str)) = false:=by decide):PE X (.Name x pos) (tC v) :=
 fun _ _ _ H _ I h=>ld_glob I hg hm ⟨v,H,I,r,h⟩ hd
theorem pe_bltn {x:Str} {v:V} {u:Value} {pos:Pos} (hg:Gl X x) (hm:X.mg x = none) (hv:bootBuiltins x = some u) (r:RelV v u) (hn:x≠ "__name__" := by decide) (hd:(x == ("__debug__" : Str)) = false:=by decide):PE X (.Name x pos) (tC v) :=
 fun _ _ _ H _ I h=>ld_blt I hg hm hv ⟨v,H,I,r,h⟩ hn hd
variable {a b:Expr} {ta tb:TE} {pos:Pos}
def tB (t:TE):TT:=fun σ H Q=>t σ H fun x H1=>∃ c,x = .bl c∧Q c H1
theorem pt_val {e:Expr} {t:TE} (h:PE X e t) (he:∀ whole,isTrue e X.env whole = (do let v ← whole; standAt e.pos; holding [v] (truthy v)):=by intro _; rfl):PT X e (tB t):=by
 intro pins s σ H Q I hw
 refine isTrue_plain (thn (h pins s σ H _ I hw) fun v s1 ⟨x,H1,I1,r1,q1⟩=>?_) (he _)
 obtain ⟨d,rfl,q⟩:=q1
 cases r1
 exact wpAny_truthy_bool ⟨H1,I1,q⟩
variable {tA tB':TT} {rest:List Expr}
def tAnd (t u:TT):TT:=fun σ H Q=>t σ H fun c H1=>if c = true then u σ H1 Q else Q false H1
def tOr (t u:TT):TT:=fun σ H Q=>t σ H fun c H1=>if c = true then Q true H1 else u σ H1 Q
def tNot (t:TT):TT:=fun σ H Q=>t σ H fun c H1=>Q (!c) H1
theorem pw_and1 (ha:PT X a tA):PW X (.BoolOp .And [a] pos) tA:=by
 intro wh pins s σ H Q I h
 refine isTrue_and (thn (ha pins s σ H Q I h) fun c s1 e=>?_)
 cases c with
 | true=>exact isTrue_and_nil e
 | false=>exact e
theorem pw_or1 (ha:PT X a tA):PW X (.BoolOp .Or [a] pos) tA:=by
 intro wh pins s σ H Q I h
 refine isTrue_or (thn (ha pins s σ H Q I h) fun c s1 e=>?_)
 cases c with
 | false=>exact isTrue_or_nil e
 | true=>exact e
theorem pw_and (ha:PT X a tA) (hb:PW X (.BoolOp .And (b :: rest) pos) tB'):PW X (.BoolOp .And (a :: b :: rest) pos) (tAnd tA tB'):=by
 intro wh pins s σ H Q I h
 refine isTrue_and (thn (ha pins s σ H _ I h) fun c s1 ⟨H1,I1,q1⟩=>?_)
 cases c with
 | true=>exact hb wh pins s1 σ H1 Q I1 q1
 | false=>exact ⟨H1,I1,q1⟩
theorem pw_or (ha:PT X a tA) (hb:PW X (.BoolOp .Or (b :: rest) pos) tB'):PW X (.BoolOp .Or (a :: b :: rest) pos) (tOr tA tB'):=by
 intro wh pins s σ H Q I h
 refine isTrue_or (thn (ha pins s σ H _ I h) fun c s1 ⟨H1,I1,q1⟩=>?_)
 cases c with
 | true=>exact ⟨H1,I1,q1⟩
 | false=>exact hb wh pins s1 σ H1 Q I1 q1
theorem pt_not (ha:PT X a tA):PT X (.UnaryOp .Not a pos) (tNot tA):=by
 intro pins s σ H Q I h
 exact isTrue_not (ha pins s σ H (fun c H1=>Q (!c) H1) I h)
def tAndV (ta tb:TE):TE:=fun σ H Q=>ta σ H fun x H1=>∃ c,x = .bl c∧if c = true then tb σ H1 Q else Q (.bl false) H1
def tNotV (ta:TE):TE:=fun σ H Q=>ta σ H fun x H1=>∃ c,x = .bl c∧Q (.bl (!c)) H1
theorem pe_one {op} {t:TE} (h:PE X a t):PE X (.BoolOp op [a] pos) t:=fun pins s σ H Q I hw=>BoolOp_one (h pins s σ H Q I hw)
theorem pe_and (ha:PE X a ta) (hb:PE X (.BoolOp .And (b :: rest) pos) tb):PE X (.BoolOp .And (a :: b :: rest) pos) (tAndV ta tb):=by
 intro pins s σ H Q I h
 refine BoolOp_and (thn (ha pins s σ H _ I h) fun v s1 ⟨x,H1,I1,r1,q1⟩=>?_)
 obtain ⟨c,rfl,q1⟩:=q1
 cases r1
 refine wpAny_truthy_bool ?_
 cases c with
 | true=>exact hb pins s1 σ H1 Q I1 q1
 | false=>exact ⟨.bl false,H1,I1,rfl,q1⟩
theorem pe_not (ha:PE X a ta):PE X (.UnaryOp .Not a pos) (tNotV ta):=by
 intro pins s σ H Q I h
 refine UnaryOp_ (thn (ha pins s σ H _ I h) fun v s1 ⟨x,H1,I1,r1,q1⟩=>?_)
 obtain ⟨c,rfl,q1⟩:=q1
 cases r1
 exact not_of (wpAny_truthy_bool ⟨.bl (!c),H1,I1,rfl,q1⟩)
def tIf (t:TT) (ta tb:TE):TE:=fun σ H Q=>t σ H fun c H1=>if c = true then ta σ H1 Q else tb σ H1 Q
theorem pe_ifExp {c:Expr} (hc:PT X c tA) (ha:PE X a ta) (hb:PE X b tb):PE X (.IfExp c a b pos) (tIf tA ta tb):=by
 intro pins s σ H Q I h
 refine wpAny_IfExp (thn (hc pins s σ H _ I h) fun d s1 ⟨H1,I1,q1⟩=>?_)
 cases d with
 | true=>exact ha pins s1 σ H1 Q I1 q1
 | false=>exact hb pins s1 σ H1 Q I1 q1
end
end L2
namespace L2
open PySem PySem.Spec PyProof.Rows
def SqL (K:PySem.W.Frag) (H:Hp) (a:Addr) (xs:List V):Prop :=
 Rd H a (.lst xs) ∨
  ∃ (o:Obj) (its:Array Value) (n:Nat),K.lookup a = some o∧o.cls = .type "list" ∧ o.dict = none∧o.data = .seq its n∧its.size≤sizeLine∧Vals xs its.toList
def SqT (K:PySem.W.Frag) (H:Hp) (a:Addr) (xs:List V):Prop :=
 Rd H a (.tup xs) ∨
  ∃ (o:Obj) (its:Array Value) (n:Nat),K.lookup a = some o∧o.cls = .type "tuple" ∧ o.data = .seq its n∧its.size≤sizeLine∧Vals xs its.toList
def absV:Value→Option V
 | .none=>some .non
 | .bool b=>some (.bl b)
 | .int i _=>some (.int i)
 | .str x _=>some (.str x)
 | .bytes b _=>some (.byt b)
 | .float b _=>some (.flt b)
 | .ref a=>some (.ref a)
 | .type n=>some (.ty n)
 | _=>none
theorem RelV.abs {x:V} {u:Value} (r:RelV x u):absV u = some x:=by
 cases x with
 | non=>cases r; rfl
 | bl _=>cases r; rfl
 | int _=>obtain ⟨t,rfl⟩:=r; rfl
 | str _=>obtain ⟨t,rfl⟩:=r; rfl
 | byt _=>obtain ⟨t,rfl⟩:=r; rfl
 | flt _=>obtain ⟨t,rfl⟩:=r; rfl
 | ref _=>cases r; rfl
 | ty _=>cases r; rfl
theorem RelV.inj {x y:V} {u:Value} (r:RelV x u) (q:RelV y u):x = y:=Option.some.inj (r.abs.symm.trans q.abs)
theorem Vals.inj:∀ {xs ys:List V} {us:List Value},Vals xs us→Vals ys us→xs = ys
 | _,_,_,.nil,.nil=>rfl
 | _,_,_,.cons r t,.cons r' t'=>by rw [r.inj r',Vals.inj t t']
section
variable {X:Cx} {pins:List (Addr× Obj)} {σ:St} {H:Hp} {s:Shared} {a:Addr} {xs ys:List V}
theorem SqL.of {K:PySem.W.Frag} (h:H a = some (.lst xs)):SqL K H a xs:=.inl (.inl h)
theorem SqT.of {K:PySem.W.Frag} (h:H a = some (.tup xs)):SqT K H a xs:=.inl (.inl h)
theorem Inv.list (I:Inv X pins σ H s) (h:SqL X.K H a xs):∃ its:List Value,Vals xs its∧PlainL s.heap a its.toArray∧xs.length≤sizeLine:=by
 rcases h with h | ⟨o,its,n,hk,hc,hd,hs,hz,r⟩
 ·obtain ⟨z,its,n,r,e⟩:=h.ok I.hok
  exact ⟨its,r,⟨_,n,e,rfl,rfl,rfl⟩,z⟩
 ·refine ⟨its.toList,r,⟨o,n,I.kIn a o hk,hc,hd,by simpa using hs⟩,?_⟩
  have e:=r.length
  simp only [Array.length_toList] at e
  omega
theorem Inv.tuple (I:Inv X pins σ H s) (h:SqT X.K H a xs):∃ its:List Value,Vals xs its∧IsTup s.heap a its.toArray∧xs.length≤sizeLine:=by
 rcases h with h | ⟨o,its,n,hk,hc,hs,hz,r⟩
 ·obtain ⟨z,its,r,p⟩:=h.ok I.hok
  exact ⟨its,r,p,z⟩
 ·refine ⟨its.toList,r,⟨o,I.kIn a o hk,hc,n,by simpa using hs⟩,?_⟩
  have e:=r.length
  simp only [Array.length_toList] at e
  omega
theorem Inv.list_inj (I:Inv X pins σ H s) (h:SqL X.K H a xs) (h':SqL X.K H a ys):xs = ys:=by
 obtain ⟨its,r,⟨o,n,e,_,_,d⟩,_⟩:=I.list h
 obtain ⟨its',r',⟨o',n',e',_,_,d'⟩,_⟩:=I.list h'
 rw [e] at e'; cases e'
 rw [d] at d'
 injection d' with d1 _
 have:its = its':=by simpa using congrArg Array.toList d1
 subst this
 exact r.inj r'
theorem Inv.tuple_inj (I:Inv X pins σ H s) (h:SqT X.K H a xs) (h':SqT X.K H a ys):xs = ys:=by
 obtain ⟨its,r,⟨o,e,_,n,d⟩,_⟩:=I.tuple h
 obtain ⟨its',r',⟨o',e',_,n',d'⟩,_⟩:=I.tuple h'
 rw [e] at e'; cases e'
 rw [d] at d'
 injection d' with d1 _
 have:its = its':=by simpa using congrArg Array.toList d1
 subst this
 exact r.inj r'
end
abbrev Cx.wish (X:Cx) (E:Value→Shared→Prop):Cx:={ X with xe:=E }
abbrev Cx.nox (X:Cx):Cx:=X.wish fun _ _=>False
theorem Cx.Ok.wish {X:Cx} (ok:X.Ok) (E:Value→Shared→Prop):(X.wish E).Ok :=
 ⟨ok.mod,ok.kind,ok.glob,ok.blt,ok.above,ok.inj,ok.has,ok.cab,ok.hd,ok.frames,ok.stk,ok.exf,ok.bs,ok.bsz,ok.noex,ok.exfs,ok.funs,ok.frf⟩
theorem Cx.Ok.unwish {X:Cx} {E:Value→Shared→Prop} (ok:(X.wish E).Ok):X.Ok :=
 ⟨ok.mod,ok.kind,ok.glob,ok.blt,ok.above,ok.inj,ok.has,ok.cab,ok.hd,ok.frames,ok.stk,ok.exf,ok.bs,ok.bsz,ok.noex,ok.exfs,ok.funs,ok.frf⟩
section
variable {X:Cx} {pins:List (Addr× Obj)} {σ:St} {H:Hp} {s:Shared} {E:Value→Shared→Prop}
theorem Inv.wish (I:Inv X pins σ H s) (E:Value→Shared→Prop):Inv (X.wish E) pins σ H s:=⟨I.ok.wish E,I.os,I.bare,I.base,I.loc,I.cell,I.free,I.freeC,I.pin,I.hok,I.len⟩
theorem Inv.unwish (I:Inv (X.wish E) pins σ H s):Inv X pins σ H s:=⟨I.ok.unwish,I.os,I.bare,I.base,I.loc,I.cell,I.free,I.freeC,I.pin,I.hok,I.len⟩
theorem SP.unwish {D:Ends} {f:Flow} {s':Shared} (h:SP (X.wish E) pins D f s'):SP X pins D f s':=by
 cases f with
 | next=>obtain ⟨σ',H',I,q⟩:=h; exact ⟨σ',H',I.unwish,q⟩
 | brk=>obtain ⟨σ',H',I,q⟩:=h; exact ⟨σ',H',I.unwish,q⟩
 | cont=>obtain ⟨σ',H',I,q⟩:=h; exact ⟨σ',H',I.unwish,q⟩
 | ret u=>obtain ⟨v,σ',H',I,r,q⟩:=h; exact ⟨v,σ',H',I.unwish,r,q⟩
theorem PSs.nox {st:List Stmt} {t:TS} (h:PSs X.nox st t):PSs X st t:=fun pins s σ H D I hw =>
 wpAny_mono (h pins s σ H D (I.wish _) hw) (fun _ _ q=>q.unwish) fun _ _ z=>False.elim z
end
section
variable {X:Cx} {st:Stmt} {rest:List Stmt} {t u:TS} {e:Expr} {te:TE} {pos:Pos}
def tNext:TS:=fun D σ H=>D.nx σ H
def tSeq (t u:TS):TS:=fun D σ H=>t { D with nx:=u D } σ H
theorem pss_nil:PSs X [] tNext:=fun _ _ σ H _ I h=>wpAny_execs_nil ⟨σ,H,I,h⟩
theorem pss_cons (h1:PS X st t) (h2:PSs X rest u):PSs X (st :: rest) (tSeq t u):=by
 intro pins s σ H D I h
 refine wpAny_execs_cons (thn (h1 pins s σ H { D with nx:=u D } I h) fun f s1 q=>?_)
 cases f with
 | next =>
  obtain ⟨σ',H',I',q⟩:=q
  exact h2 pins s1 σ' H' D I' q
 | ret v=>exact q
 | brk=>exact q
 | cont=>exact q
theorem pss_one (h1:PS X st t):PSs X [st] t:=by
 intro pins s σ H D I h
 refine wpAny_execs_cons (thn (h1 pins s σ H D I h) fun f s1 q=>?_)
 cases f with
 | next=>exact wpAny_execs_nil q
 | ret v=>exact q
 | brk=>exact q
 | cont=>exact q
theorem Inv.quiet {pins:List (Addr× Obj)} {σ:St} {H:Hp} {s:Shared} (I:Inv X pins σ H s):interactive X.env = false:=by simp [interactive,I.ok.kind]
def tDrop (te:TE):TS:=fun D σ H=>te σ H fun _ H1=>D.nx σ H1
theorem ps_expr (he:PE X e te) (hs:swapsWith e none pos.line X.env = pure false:=by rfl):PS X (.Expr e pos) (tDrop te):=by
 intro pins s σ H D I h
 exact wpAny_Expr_any (thn (he pins s σ H _ I h) fun v s1 ⟨x,H1,I1,r1,q1⟩=>⟨σ,H1,I1,q1⟩) I.quiet hs
def tRet (te:TE):TS:=fun D σ H=>te σ H D.rt
theorem ps_ret (he:PE X e te):PS X (.Return (some e) pos) (tRet te):=by
 intro pins s σ H D I h
 exact wpAny_Return_some (thn (he pins s σ H _ I h) fun v s1 ⟨x,H1,I1,r1,q1⟩=>⟨x,σ,H1,I1,r1,q1⟩)
def tIfS (c:TT) (t u:TS):TS:=fun D σ H=>c σ H fun b H1=>if b = true then t D σ H1 else u D σ H1
theorem ps_if {c:Expr} {a b:List Stmt} {tc:TT} (hc:PT X c tc) (ha:PSs X a t) (hb:PSs X b u):PS X (.If c a b pos) (tIfS tc t u):=by
 intro pins s σ H D I h
 refine wpAny_If (thn (hc pins s σ H _ I h) fun d s1 ⟨H1,I1,q1⟩=>?_)
 cases d with
 | true=>exact ha pins s1 σ H1 D I1 q1
 | false=>exact hb pins s1 σ H1 D I1 q1
def tNever:TS:=fun _ _ _=>False
theorem ps_never:PS X st tNever:=fun _ _ _ _ _ _ h=>h.elim
theorem pss_never {sts:List Stmt}:PSs X sts tNever:=fun _ _ _ _ _ _ h=>h.elim
end
abbrev TG:=V→St→Hp→(St→Hp→Prop)→Prop
abbrev TGs:=List V→St→Hp→(St→Hp→Prop)→Prop
def PG (X:Cx) (target:Expr) (t:TG):Prop :=
 ∀ (pins:List (Addr× Obj)) (s:Shared) (σ:St) (H:Hp) (v:V) (u:Value) (Q:St→Hp→Prop),Inv X pins σ H s→RelV v u→t v σ H Q →
  wpAny (model X.prog X.w) X.A (assign target X.env u) (fun _ s'=>∃ σ' H',Inv X pins σ' H' s'∧Q σ' H') X.xe s
def PGs (X:Cx) (ts:List Expr) (t:TGs):Prop :=
 ∀ (pins:List (Addr× Obj)) (s:Shared) (σ:St) (H:Hp) (vs:List V) (us:List Value) (Q:St→Hp→Prop),Inv X pins σ H s→Vals vs us→t vs σ H Q →
  wpAny (model X.prog X.w) X.A (assignInOrder ((assignEach ts X.env).map (·.2)) us) (fun _ s'=>∃ σ' H',Inv X pins σ' H' s'∧Q σ' H') X.xe s
section
variable {X:Cx} {pos:Pos}
def gName (i:Nat):TG:=fun v σ H Q=>Q (σ.set i (some v)) H
theorem pg_name {i:Nat} {x:Str} (hN:X.N.Nodup) (hi:X.N[i]? = some x) (hx:Loc X.env.scope x) (hf:X.fn x = true∨X.env.scope.names.lookup x = some .local:=by first | exact .inl rfl | exact .inr rfl | assumption):PG X (.Name x pos) (gName i):=by
 intro pins s σ H v u Q I r h
 exact wpAny_assign_Name (store_ok I hN hi hx r (fun s' I'=>⟨_,H,I',h⟩) hf)
def gNil:TGs:=fun vs σ H Q=>vs = []∧Q σ H
def gCons (t:TG) (u:TGs):TGs:=fun vs σ H Q=>∃ v r,vs = v :: r∧t v σ H fun σ' H'=>u r σ' H' Q
theorem pgs_nil:PGs X [] gNil:=by
 intro pins s σ H vs us Q I r h
 obtain ⟨e,h⟩:=h
 subst e
 cases r
 exact assignInOrder_nil ⟨σ,H,I,h⟩
theorem pgs_cons {e:Expr} {es:List Expr} {t:TG} {u:TGs} (h1:PG X e t) (h2:PGs X es u)
  (hs:(assignEach (e :: es) X.env).map (·.2) = assign e X.env :: (assignEach es X.env).map (·.2):=by rfl):PGs X (e :: es) (gCons t u):=by
 intro pins s σ H vs us Q I r h
 obtain ⟨v,vr,e1,h⟩:=h
 subst e1
 cases r with
 | cons r rr =>
  rw [hs]
  refine assignInOrder_cons (thn (h1 pins s σ H _ _ _ I r h) fun _ s1 ⟨σ1,H1,I1,q1⟩=>?_)
  exact h2 pins s1 σ1 H1 _ _ Q I1 rr q1
def gTup (K:PySem.W.Frag) (n:Nat) (t:TGs):TG:=fun v σ H Q=>∃ a xs,v = .ref a∧SqT K H a xs∧xs.length = n∧t xs σ H Q
theorem pg_tup {es:List Expr} {k:Nat} {t:TGs} {n:Nat} (hc:X.calm = true) (h:PGs X es t)
  (hn:(assignEach es X.env).length = n:=by rfl) (hst:(assignEach es X.env).findIdx? (·.1) = none:=by rfl):PG X (.Tuple es k pos) (gTup X.K n t):=by
 intro pins s σ H v u Q I r hw
 obtain ⟨a,xs,e1,hq,hl,hw⟩:=hw
 subst e1
 cases r
 obtain ⟨its,rv,ht,hz⟩:=I.tuple hq
 refine assign_Tuple_tuple (I.ok.hd hc) ht (by simp [hn,← hl,rv.length]) hst fun h' hx=>?_
 have I1:Inv X pins σ H { s with heap:=h' }:=I.kept (t':=s.toks) fun b o e=>hx b o (Nat.ne_of_lt (Heap.lt_size e)) e
 exact h pins _ σ H xs _ Q I1 (by simpa using rv) hw
def tAsg (te:TE) (g:TG):TS:=fun D σ H=>te σ H fun x H1=>g x σ H1 D.nx
theorem ps_asg {tg e:Expr} {te:TE} {g:TG} (he:PE X e te) (hg:PG X tg g) (hs:swapsWithSole [tg] e pos.line X.env = pure false:=by rfl) (hw:swappedStores [tg] e X.env = pure none:=by rfl)
  (h1:(assignEach [tg] X.env).map (·.2) = [assign tg X.env]:=by rfl):PS X (.Assign [tg] e pos) (tAsg te g):=by
 intro pins s σ H D I h
 refine wpAny_Assign_stores (thn (he pins s σ H _ I h) fun v s1 ⟨x,H1,I1,r1,q1⟩=>?_) hs hw
 rw [h1]
 exact thn (hg pins s1 σ H1 x v _ I1 r1 q1) fun _ s2 q=>q
theorem ps_set {i:Nat} {x:Str} {e:Expr} {te:TE} {pos':Pos} (hN:X.N.Nodup) (hi:X.N[i]? = some x) (hx:Loc X.env.scope x) (he:PE X e te) (hs:swapsWith e (some (.Name x pos')) pos.line X.env = pure false:=by rfl) (hf:X.fn x = true∨X.env.scope.names.lookup x = some .local:=by first | exact .inl rfl | exact .inr rfl | assumption) :
  PS X (.Assign [.Name x pos'] e pos) (tAsg te (gName i)):=by
 intro pins s σ H D I h
 refine wpAny_Assign_Name (thn (he pins s σ H _ I h) fun v s1 ⟨y,H1,I1,r1,q1⟩=>?_) hs
 exact store_ok I1 hN hi hx r1 (fun s2 I2=>⟨_,H1,I2,q1⟩) hf
end
section
variable {X:Cx} {pos:Pos}
def tWhile (c:TT) (tb:TS):TS:=fun D σ H=>∃ W:Nat→St→Hp→Prop,(∃ m,W m σ H)∧∀ m σ H,W m σ H →
 c σ H fun b H1=>if b = true then ∃ N:St→Hp→Prop,(∀ σ' H',N σ' H'→∃ m',m' < m∧W m' σ' H')∧tb { D with nx:=N,ct:=N,bk:=D.nx } σ H1 else D.nx σ H1
theorem ps_while {c:Expr} {body:List Stmt} {tc:TT} {tb:TS} (hp:PassesOwn (model X.prog X.w) X.A X.env X.xe) (hc:PT X c tc) (hb:PSs X body tb):PS X (.While c body [] pos) (tWhile tc tb):=by
 intro pins s σ H D I h
 obtain ⟨W,⟨m0,w0⟩,turn⟩:=h
 refine wpAny_While (codeAny_whileLoop (fun n s'=>∃ σ' H',Inv X pins σ' H' s'∧W n σ' H') ?_ m0 ⟨σ,H,I,w0⟩)
 rintro n s1 ⟨σ1,H1,I1,w1⟩
 refine wpAny_passesOwn hp (thn (hc pins s1 σ1 H1 _ I1 (turn n σ1 H1 w1)) fun b s2 ⟨H2,I2,q2⟩=>?_)
 cases b with
 | true =>
  obtain ⟨N,hN,q2⟩:=q2
  rw [if_pos rfl]
  refine wpAny_passesOwn hp (thn (hb pins s2 σ1 H2 _ I2 q2) fun f s3 q3=>?_)
  cases f with
  | next =>
   obtain ⟨σ3,H3,I3,n3⟩:=q3
   obtain ⟨m',hm,w3⟩:=hN σ3 H3 n3
   exact ⟨m',hm,σ3,H3,I3,w3⟩
  | cont =>
   obtain ⟨σ3,H3,I3,n3⟩:=q3
   obtain ⟨m',hm,w3⟩:=hN σ3 H3 n3
   exact ⟨m',hm,σ3,H3,I3,w3⟩
  | brk=>exact q3
  | ret v=>exact q3
 | false =>
  rw [if_neg Bool.false_ne_true]
  exact wpAny_execs_nil ⟨σ1,H2,I2,q2⟩
end
structure It where
 go:Nat→Hp→Prop
 yld:Nat→Hp→V→Hp→Prop
 stop:Nat→Hp→Prop
def FpOk (X:Cx) (pins:List (Addr× Obj)) (H:Hp) (b:Addr):Prop :=
 H b = none∧b≠X.env.locals∧b∉X.fs∧(b∈X.ex∨X.s₀.heap.objs.size≤b)∧(∀ x c,X.env.cells.lookup x = some c→c≠b)∧∀ p∈X.pn ++ pins,p.1≠b
theorem Inv.fpOk {X:Cx} {pins:List (Addr× Obj)} {σ:St} {H H':Hp} {s:Shared} {b:Addr} (I:Inv X pins σ H s) (hb:s.heap.objs.size≤b) (hn:H' b = none):FpOk X pins H' b:=by
 refine ⟨hn,Nat.ne_of_gt (Nat.lt_of_lt_of_le I.lt hb),I.nofs hb,.inr (Nat.le_trans I.sz hb),fun x c e z=>?_,fun p hp z=>?_⟩
 ·obtain ⟨v,q⟩:=I.cell x c e
  exact absurd (Nat.lt_of_lt_of_le q.lt (by rw [z]; exact hb)) (Nat.lt_irrefl _)
 ·exact absurd (Nat.lt_of_lt_of_le (Heap.lt_size (I.pin p hp).1) (by rw [z]; exact hb)) (Nat.lt_irrefl _)
structure Turn (P:Program) (w:World) (K:PySem.W.Frag) (tg:Expr) (J:It) (fp:List Addr) (it:Addr) (tn:Nat→Heap→Prop):Prop where
 mem:it∈fp
 obj:∀ i h,tn i h→∀ b∈fp,∃ o,h.get? b = some o∧∀ v,o.data≠.cell v
 keep:∀ i h h',tn i h→(∀ b∈fp,∀ o,h.get? b = some o→h'.get? b = some o)→tn i h'
 item:∀ (X:Cx),X.prog = P→X.w = w→X.K = K→X.calm = true→∀ (i:Nat) (pins:List (Addr× Obj)) (s:Shared) (σ:St) (H:Hp) (E:Value→Shared→Prop),Inv X pins σ H s→(∀ b∈fp,FpOk X pins H b)→tn i s.heap→J.go i H →
  wpAny (model P w) X.A (pyNext (.ref it)) (fun r s1=>∃ u,r = some u ∧
   wpAny (model P w) X.A (letOwnedTupleGo tg (.ref it) u) (fun _ s2=>∃ x H',Inv X pins σ H' s2∧RelV x u∧J.yld i H x H'∧tn (i + 1) s2.heap∧∀ b∈fp,H' b = none) E s1) E s
 done:∀ (X:Cx),X.prog = P→X.w = w→X.K = K→X.calm = true→∀ (i:Nat) (pins:List (Addr× Obj)) (s:Shared) (σ:St) (H:Hp) (E:Value→Shared→Prop),Inv X pins σ H s→(∀ b∈fp,FpOk X pins H b)→tn i s.heap→J.stop i H →
  wpAny (model P w) X.A (pyNext (.ref it)) (fun r s1=>r = none∧Inv X pins σ H s1) E s
 self:∀ (A:Around) (i:Nat) (s:Shared) (Q:Value→Shared→Prop) (E:Value→Shared→Prop),tn i s.heap→Q (.ref it) s→wpAny (model P w) A (pyIter (.ref it)) Q E s
abbrev TI:=St→Hp→(It→Hp→Prop)→Prop
def PIE (X:Cx) (pins:List (Addr× Obj)) (σ:St) (tg:Expr) (R:It→Hp→Prop) (itv:Value) (s2:Shared):Prop :=
 ∃ (it:Addr) (fp:List Addr) (tn:Nat→Heap→Prop) (J:It) (H':Hp),itv = .ref it∧Inv X pins σ H' s2∧Turn X.prog X.w X.K tg J fp it tn∧tn 0 s2.heap∧(∀ b∈fp,FpOk X pins H' b)∧R J H'
def PI (X:Cx) (tg iter:Expr) (wi:TI):Prop :=
 ∀ (pins:List (Addr× Obj)) (s:Shared) (σ:St) (H:Hp) (R:It→Hp→Prop),Inv X pins σ H s→wi σ H R →
  wpAny (model X.prog X.w) X.A (eval iter X.env) (fun v s1=>wpAny (model X.prog X.w) X.A (pyIter v) (PIE X pins σ tg R) X.xe s1) X.xe s
theorem go_of {M:Model} {A:Around} {E:Value→Shared→Prop} {s:Shared} {tg:Expr} {it:Addr} {u:Value} {o:Obj} {n:String} {vs:Array Value} {Q:Unit→Shared→Prop} (ho:s.heap.get? it = some o) (hc:o.cls = .type n) (hd:o.data = .fields vs)
  (hn:["enumerate", "zip", "dict_itemiterator", "dict_reverseitemiterator", "odict_iterator", "itertools.zip_longest", "itertools.pairwise"].contains n = false) (hQ:Q () s):wpAny M A (letOwnedTupleGo tg (.ref it) u) Q E s:=by
 unfold letOwnedTupleGo
 cases tg <;> first
  | exact wpAny_pure hQ
  | (cases u <;> first
    | exact wpAny_pure hQ
    | (refine wpAny_bind (wpAny_load ho ?_)
       rw [hc,hd]
       show wpAny M A (if (["enumerate", "zip", "dict_itemiterator", "dict_reverseitemiterator", "odict_iterator", "itertools.zip_longest", "itertools.pairwise"].contains n && vs[0]? == some (rawInt _)) = true then _ else _) Q E s
       rw [if_neg (by intro h; rw [hn,Bool.false_and] at h; cases h)]
       exact wpAny_pure hQ))
def Itl (K:PySem.W.Frag) (a:Addr):It :=
 ⟨fun i H=>∃ xs x,SqL K H a xs∧xs[i]? = some x,fun i H x H'=>H' = H∧∀ xs,SqL K H a xs→xs[i]? = some x,fun i H=>∃ xs,SqL K H a xs∧xs.length≤i⟩
def Itt (K:PySem.W.Frag) (a:Addr):It :=
 ⟨fun i H=>∃ xs x,SqT K H a xs∧xs[i]? = some x,fun i H x H'=>H' = H∧∀ xs,SqT K H a xs→xs[i]? = some x,fun i H=>∃ xs,SqT K H a xs∧xs.length≤i⟩
def Itr (lo:Int) (n:Nat):It:=⟨fun i _=>i < n,fun i H x H'=>H' = H∧x = .int (lo + i),fun i _=>n≤i⟩
theorem turn_list {P:Program} {w:World} {K:PySem.W.Frag} {tg:Expr} (a it:Addr):Turn P w K tg (Itl K a) [it] it (fun i h=>h.IsListIter it a i) where
 mem:=by simp
 obj:=fun i h st b hb=>by
  have e:b = it:=by simpa using hb
  subst e
  obtain ⟨o,e,c,d⟩:=st
  exact ⟨o,e,fun v z=>by rw [d] at z; cases z⟩
 keep:=fun i h h' st k=>st.at fun o e=>k it (by simp) o e
 item:=by
  intro X hP hw hK hc i pins s σ H E I hf st hg
  subst hP hw hK
  obtain ⟨xs,x,hq,hx⟩:=hg
  obtain ⟨its,rv,p,hz⟩:=I.list hq
  obtain ⟨u,hu,ru⟩:=rv.get hx
  obtain ⟨f0,f1,f2,f3,f4,f5⟩:=hf it (by simp)
  refine wpAny_pyNext_list_item st p.isList (x:=u) (by simpa using hu) fun h' st' sb=>?_
  have I1:Inv X pins σ H { s with heap:=h' }:=I.turned (t':=s.toks) (fun b o hb e=>(sb.2 b hb).trans e) f0 f1 f3 f4 f5
  obtain ⟨o,e,c,d⟩:=id st'
  exact ⟨u,rfl,go_of (s:={ s with heap:=h' }) e c d (by decide) ⟨x,H,I1,ru,⟨rfl,fun ys hy=>by rw [I.list_inj hy hq]; exact hx⟩,st',fun b hb=>(hf b hb).1⟩⟩
 done:=by
  intro X hP hw hK hc i pins s σ H E I hf st hg
  subst hP hw hK
  obtain ⟨xs,hq,hx⟩:=hg
  obtain ⟨its,rv,p,hz⟩:=I.list hq
  obtain ⟨f0,f1,f2,f3,f4,f5⟩:=hf it (by simp)
  have hl:=rv.length
  exact wpAny_pyNext_list_end (I.ok.hd hc) st p.isList (by simp; omega) fun h' eb=>⟨rfl,I.turned (t':=s.toks) (fun b o hb e=>eb b o hb e) f0 f1 f3 f4 f5⟩
 self:=fun _ _ _ _ _ st h=>wpAny_pyIter_listiter st h
theorem turn_tuple {P:Program} {w:World} {K:PySem.W.Frag} {tg:Expr} (a it:Addr):Turn P w K tg (Itt K a) [it] it (fun i h=>h.IsTupleIter it a i) where
 mem:=by simp
 obj:=fun i h st b hb=>by
  have e:b = it:=by simpa using hb
  subst e
  obtain ⟨o,e,c,d⟩:=st
  exact ⟨o,e,fun v z=>by rw [d] at z; cases z⟩
 keep:=fun i h h' st k=>st.at fun o e=>k it (by simp) o e
 item:=by
  intro X hP hw hK hc i pins s σ H E I hf st hg
  subst hP hw hK
  obtain ⟨xs,x,hq,hx⟩:=hg
  obtain ⟨its,rv,p,hz⟩:=I.tuple hq
  obtain ⟨u,hu,ru⟩:=rv.get hx
  obtain ⟨f0,f1,f2,f3,f4,f5⟩:=hf it (by simp)
  refine wpAny_pyNext_tuple_item st (show s.heap.IsTuple a its.toArray from p) (x:=u) (by simpa using hu) fun h' st' sb=>?_
  have I1:Inv X pins σ H { s with heap:=h' }:=I.turned (t':=s.toks) (fun b o hb e=>(sb.2 b hb).trans e) f0 f1 f3 f4 f5
  obtain ⟨o,e,c,d⟩:=id st'
  exact ⟨u,rfl,go_of (s:={ s with heap:=h' }) e c d (by decide) ⟨x,H,I1,ru,⟨rfl,fun ys hy=>by rw [I.tuple_inj hy hq]; exact hx⟩,st',fun b hb=>(hf b hb).1⟩⟩
 done:=by
  intro X hP hw hK hc i pins s σ H E I hf st hg
  subst hP hw hK
  obtain ⟨xs,hq,hx⟩:=hg
  obtain ⟨its,rv,p,hz⟩:=I.tuple hq
  obtain ⟨f0,f1,f2,f3,f4,f5⟩:=hf it (by simp)
  have hl:=rv.length
  exact wpAny_pyNext_tuple_end (I.ok.hd hc) st (show s.heap.IsTuple a its.toArray from p) (by simp; omega) fun h' eb=>⟨rfl,I.turned (t':=s.toks) (fun b o hb e=>eb b o hb e) f0 f1 f3 f4 f5⟩
 self:=fun _ _ _ _ _ st h=>wpAny_pyIter_tupleiter st h
theorem turn_range {P:Program} {w:World} {K:PySem.W.Frag} {tg:Expr} (it:Addr) (lo:Int) (n:Nat):Turn P w K tg (Itr lo n) [it] it (fun i h=>IsRangeIter h it (lo + (i:Nat) * 1) ((n:Int) - (i:Nat)) 1) where
 mem:=by simp
 obj:=fun i h st b hb=>by
  have e:b = it:=by simpa using hb
  subst e
  exact ⟨_,st,fun v z=>by
   have z':Data.fields _ = Data.cell v:=z
   cases z'⟩
 keep:=fun i h h' st k=>k it (by simp) _ st
 item:=by
  intro X hP hw hK hc i pins s σ H E I hf st hg
  subst hP hw hK
  obtain ⟨f0,f1,f2,f3,f4,f5⟩:=hf it (by simp)
  have W:=Walks.range (prog:=X.prog) (w:=X.w) (I.ok.hd hc) it lo 1 n
  refine W.item i s _ _ hg st fun v h' tk hv st' kk=>?_
  obtain ⟨t,rfl⟩:=hv
  have I1:Inv X pins σ H { s with heap:=h',toks:=tk }:=I.turned (fun b o hb e=>kk b o (by simpa using hb) e) f0 f1 f3 f4 f5
  refine ⟨_,rfl,go_of (s:={ s with heap:=h',toks:=tk }) (n:= "range_iterator") st' rfl rfl (by decide) ⟨.int (lo + i),H,I1,⟨t,?_⟩,⟨rfl,rfl⟩,st',fun b hb=>(hf b hb).1⟩⟩
  rw [Int.mul_one]
 done:=by
  intro X hP hw hK hc i pins s σ H E I hf st hg
  subst hP hw hK
  obtain ⟨f0,f1,f2,f3,f4,f5⟩:=hf it (by simp)
  exact wpAny_pyNext_range_end (I.ok.hd hc) st (by have:n≤i:=hg; omega) fun h' eb=>⟨rfl,I.turned (t':=s.toks) (fun b o hb e=>eb b o hb e) f0 f1 f3 f4 f5⟩
 self:=fun _ _ _ _ _ st h=>wpAny_pyIter_rangeiter st h
end L2
namespace L2
open PySem PySem.Spec PyProof.Rows
section
variable {X:Cx} {tg:Expr}
def iList (K:PySem.W.Frag) (tl:TE):TI:=fun σ H R=>tl σ H fun x H1=>∃ a,x = .ref a∧(∃ xs,SqL K H1 a xs)∧R (Itl K a) H1
def iTup (K:PySem.W.Frag) (tl:TE):TI:=fun σ H R=>tl σ H fun x H1=>∃ a,x = .ref a∧(∃ xs,SqT K H1 a xs)∧R (Itt K a) H1
theorem pi_list {l:Expr} {tl:TE} (hl:PE X l tl):PI X tg l (iList X.K tl):=by
 intro pins s σ H R I h
 refine thn (hl pins s σ H _ I h) fun v s1 ⟨x,H1,I1,r1,q1⟩=>?_
 obtain ⟨a,e,⟨xs,hq⟩,q⟩:=q1
 subst e
 cases r1
 obtain ⟨its,rv,p,hz⟩:=I1.list hq
 refine wpAny_pyIter_list p.isList ?_
 refine ⟨s1.heap.objs.size,[s1.heap.objs.size],_,_,H1,rfl,I1.kept (t':=s1.toks) fun b o e=>Heap.get?_push_of_some _ e,turn_list a _,⟨_,Heap.get?_push_size _ rfl,rfl,rfl⟩,fun b hb=>?_,q⟩
 have e:b = s1.heap.objs.size:=by simpa using hb
 subst e
 exact I1.fpOk (Nat.le_refl _) (I1.hok.fresh (Nat.le_refl _))
theorem pi_tup {l:Expr} {tl:TE} (hl:PE X l tl):PI X tg l (iTup X.K tl):=by
 intro pins s σ H R I h
 refine thn (hl pins s σ H _ I h) fun v s1 ⟨x,H1,I1,r1,q1⟩=>?_
 obtain ⟨a,e,⟨xs,hq⟩,q⟩:=q1
 subst e
 cases r1
 obtain ⟨its,rv,p,hz⟩:=I1.tuple hq
 refine wpAny_pyIter_tuple (show s1.heap.IsTuple a its.toArray from p) ?_
 refine ⟨s1.heap.objs.size,[s1.heap.objs.size],_,_,H1,rfl,I1.kept (t':=s1.toks) fun b o e=>Heap.get?_push_of_some _ e,turn_tuple a _,⟨_,Heap.get?_push_size _ rfl,rfl,rfl⟩,fun b hb=>?_,q⟩
 have e:b = s1.heap.objs.size:=by simpa using hb
 subst e
 exact I1.fpOk (Nat.le_refl _) (I1.hok.fresh (Nat.le_refl _))
theorem range_it {pins:List (Addr× Obj)} {σ:St} {H:Hp} {s:Shared} {R:It→Hp→Prop} {E:Value→Shared→Prop} {lo hi:Int} {t u v:Tok} {tk:Nat} (I:Inv X pins σ H s) (h1:-(2 ^ 62)≤lo) (h2:lo < 2 ^ 62) (h3:-(2 ^ 62)≤hi) (h4:hi < 2 ^ 62)
  (q:R (Itr lo (hi - lo).toNat) H):wpAny (model X.prog X.w) X.A (pyIter (.ref s.heap.objs.size)) (PIE X pins σ tg R) E { s with heap:=s.heap.push { cls:=.type "range", data:=.fields #[.int lo t,.int hi u,.int 1 v] },toks:=tk }:=by
 refine wpAny_pyIter_range (IsRange.new ..) (small_one h1 h2 h3 h4) ?_
 have I1:Inv X pins σ H { s with heap:=s.heap.push { cls:=.type "range", data:=.fields #[.int lo t,.int hi u,.int 1 v] },toks:=tk }:=I.kept fun b o e=>Heap.get?_push_of_some _ e
 refine ⟨(s.heap.push { cls:=.type "range", data:=.fields #[.int lo t,.int hi u,.int 1 v] }).objs.size,[(s.heap.push { cls:=.type "range", data:=.fields #[.int lo t,.int hi u,.int 1 v] }).objs.size],_,_,H,rfl,
  I1.kept (t':=tk) fun b o e=>Heap.get?_push_of_some _ e,turn_range _ lo (hi - lo).toNat,?_,fun b hb=>?_,q⟩
 ·have e1:lo + ((0:Nat):Int) * 1 = lo:=by simp
  have e2:(((hi - lo).toNat:Nat):Int) - ((0:Nat):Int) = Builtin.Range.rangeSize lo hi 1:=by rw [rangeSize_one]; split <;> omega
  show IsRangeIter _ _ (lo + ((0:Nat):Int) * 1) ((((hi - lo).toNat:Nat):Int) - ((0:Nat):Int)) 1
  rw [e1,e2]
  exact Heap.get?_push_size _ rfl
 ·have e:b = (s.heap.push { cls:=.type "range", data:=.fields #[.int lo t,.int hi u,.int 1 v] }).objs.size:=by simpa using hb
  subst e
  exact I1.fpOk (Nat.le_refl _) (I1.hok.fresh (Nat.le_refl _))
def iRng1 (ta:TA):TI:=fun σ H R=>ta σ H fun vs H1=>∃ j:Int,vs = [.int j]∧-(2 ^ 62)≤j∧j < 2 ^ 62∧R (Itr 0 j.toNat) H1
theorem pi_range1 {a:Expr} {ta:TA} {p pos:Pos} (hg:Gl X "range") (hm:X.mg "range" = none) (ha:PA X [a] ta) (hs:starEach [a] X.env = [(false,eval a X.env)]:=by rfl):PI X tg (.Call (.Name "range" p) [a] [] pos) (iRng1 ta):=by
 intro pins s σ H R I h
 refine Call_ (ld_blt I hg hm boot_range (PyProof.Rows.callWith_type1 (thn (ha pos pins s σ H _ I h) fun us s1 ⟨vs,H1,I1,r1,q1⟩=>?_) hs rfl))
 obtain ⟨j,e,q1,q2,q⟩:=q1
 subst e
 cases r1 with
 | cons r rr =>
  cases rr
  obtain ⟨t,rfl⟩:=r
  exact call_range_1 (range_it I1 (by omega) (by omega) q1 q2 (by simpa using q))
def tFor (wi:TI) (g:TG) (tb:TS):TS:=fun D σ H=>wi σ H fun J H1=>∃ W:Nat→Nat→St→Hp→Prop,(∃ m,W 0 m σ H1)∧∀ i m σ H,W i m σ H →
 (J.stop i H∧D.nx σ H)∨(J.go i H∧∃ N:St→Hp→Prop,(∀ σ' H',N σ' H'→∃ m',m' < m∧W (i + 1) m' σ' H')∧∀ x H',J.yld i H x H'→g x σ H' fun σ2 H2=>tb { D with nx:=N,ct:=N,bk:=D.nx } σ2 H2)
def pinsAt (fp:List Addr) (h:Heap):List (Addr× Obj):=fp.filterMap fun b=>(h.get? b).map fun o=>(b,o)
theorem mem_pinsAt {fp:List Addr} {h:Heap} {b:Addr} {o:Obj} (hb:b∈fp) (e:h.get? b = some o):(b,o)∈pinsAt fp h:=List.mem_filterMap.mpr ⟨b,hb,by rw [e]; rfl⟩
theorem of_pinsAt {fp:List Addr} {h:Heap} {p:Addr× Obj} (hp:p∈pinsAt fp h):p.1∈fp∧h.get? p.1 = some p.2:=by
 obtain ⟨b,hb,e⟩:=List.mem_filterMap.mp hp
 cases q:h.get? b with
 | none=>rw [q] at e; cases e
 | some o =>
  rw [q] at e
  have e':(b,o) = p:=Option.some.inj e
  subst e'
  exact ⟨hb,q⟩
theorem Inv.pinned {pins:List (Addr× Obj)} {σ:St} {H:Hp} {s:Shared} {fp:List Addr} (I:Inv X pins σ H s) (hf:∀ b∈fp,FpOk X pins H b) (ho:∀ b∈fp,∃ o,s.heap.get? b = some o∧∀ v,o.data≠.cell v):Inv X (pins ++ pinsAt fp s.heap) σ H s :=
 I.pins_of fun p hp=>(List.mem_append.mp hp).elim (fun z=>I.pin p (List.mem_append_right _ z)) fun z=>by
  obtain ⟨hb,e⟩:=of_pinsAt z
  obtain ⟨f0,f1,f2,_⟩:=hf p.1 hb
  obtain ⟨o,e',d⟩:=ho p.1 hb
  rw [e] at e'; cases e'
  exact ⟨e,f0,f1,f2,d⟩
theorem Inv.unpinned {pins pl:List (Addr× Obj)} {σ:St} {H:Hp} {s:Shared} (I:Inv X (pins ++ pl) σ H s):Inv X pins σ H s:=I.pins_of fun p hp=>I.pin p (List.mem_append_right _ (List.mem_append_left _ hp))
theorem ps_for {iter:Expr} {body:List Stmt} {wi:TI} {g:TG} {tb:TS} {pos:Pos} (hp:PassesOwn (model X.prog X.w) X.A X.env X.xe) (hc:X.calm = true) (hi:PI X tg iter wi) (hg:PG X tg g) (hb:PSs X body tb)
  (hs:∀ x,foldedSetIterable iter X.env x = pure x:=by intro _; rfl):PS X (.For tg iter body [] pos) (tFor wi g tb):=by
 intro pins s σ H D I h
 refine wpAny_For (thn (hi pins s σ H _ I h) fun v s1 h1=>thn h1 fun itv s2 h2=>?_) hs
 obtain ⟨it,fp,tn,J,H2,e,I2,T,st2,f2,W,⟨m0,w0⟩,turn⟩:=h2
 subst e
 have stat:∀ {H':Hp},(∀ b∈fp,H' b = none)→∀ b∈fp,FpOk X pins H' b:=fun hn b hb=>⟨hn b hb,(f2 b hb).2⟩
 refine codeAny_forLoop_any (fun n s'=>∃ i σ' H',Inv X pins σ' H' s'∧tn i s'.heap∧(∀ b∈fp,H' b = none)∧W i n σ' H') ?_ m0 ⟨0,σ,H2,I2,st2,fun b hb=>(f2 b hb).1,w0⟩
 rintro n s3 ⟨i,σ3,H3,I3,st3,fr3,w3⟩
 rcases turn i n σ3 H3 w3 with ⟨stop,qn⟩ | ⟨go,N,hN,step⟩
 ·refine wpAny_passesOwn hp (thn (T.done X rfl rfl rfl hc i pins s3 σ3 H3 X.xe I3 (stat fr3) st3 stop) fun r s4 ⟨hr,I4⟩=>?_)
  subst hr
  exact wpAny_execs_nil ⟨σ3,H3,I4,qn⟩
 ·refine wpAny_passesOwn hp (thn (T.item X rfl rfl rfl hc i pins s3 σ3 H3 X.xe I3 (stat fr3) st3 go) fun r s4 ⟨u,hr,h4⟩=>?_)
  subst hr
  refine wpAny_passesOwn hp (thn h4 fun _ s5 ⟨x,H5,I5,r5,y5,st5,fr5⟩=>?_)
  have I5':=I5.pinned (stat fr5) (T.obj _ _ st5)
  refine wpAny_passesOwn hp (thn (hg _ s5 σ3 H5 x u _ I5' r5 (step x H5 y5)) fun _ s6 ⟨σ6,H6,I6,q6⟩=>?_)
  refine wpAny_passesOwn hp (thn (hb _ s6 σ6 H6 _ I6 q6) fun f s7 q7=>?_)
  have again:∀ {σ7:St} {H7:Hp},Inv X (pins ++ pinsAt fp s5.heap) σ7 H7 s7→N σ7 H7→∃ m,m < n∧∃ i σ' H',Inv X pins σ' H' s7∧tn i s7.heap∧(∀ b∈fp,H' b = none)∧W i m σ' H':=fun {σ7 H7} I7 n7=>by
   obtain ⟨m',hm,w7⟩:=hN σ7 H7 n7
   refine ⟨m',hm,i + 1,σ7,H7,I7.unpinned,T.keep _ _ _ st5 fun b hb o e=>(I7.pin (b,o) (List.mem_append_right _ (List.mem_append_right _ (mem_pinsAt hb e)))).1,fun b hb=>?_,w7⟩
   obtain ⟨o,e,d⟩:=T.obj _ _ st5 b hb
   exact (I7.pin (b,o) (List.mem_append_right _ (List.mem_append_right _ (mem_pinsAt hb e)))).2.1
  cases f with
  | next=>obtain ⟨σ7,H7,I7,n7⟩:=q7; exact again I7 n7
  | cont=>obtain ⟨σ7,H7,I7,n7⟩:=q7; exact again I7 n7
  | brk=>obtain ⟨σ7,H7,I7,q7⟩:=q7; exact ⟨σ7,H7,I7.unpinned,q7⟩
  | ret v=>obtain ⟨x7,σ7,H7,I7,r7,q7⟩:=q7; exact ⟨x7,σ7,H7,I7.unpinned,r7,q7⟩
end
theorem for_list {K:PySem.W.Frag} {a:Addr} {xs:List V} {g:TG} {tb:TS} {D:Ends} {σ:St} {H:Hp} (Pv:Nat→St→Hp→Prop) (h0:Pv 0 σ H) (hl:∀ i σ H,i≤xs.length→Pv i σ H→SqL K H a xs)
  (hs:∀ i x σ H,xs[i]? = some x→Pv i σ H→g x σ H fun σ2 H2=>tb { D with nx:=Pv (i + 1),ct:=Pv (i + 1),bk:=D.nx } σ2 H2) (hd:∀ σ H,Pv xs.length σ H→D.nx σ H) :
  ∃ W:Nat→Nat→St→Hp→Prop,(∃ m,W 0 m σ H)∧∀ i m σ H,W i m σ H →
   ((Itl K a).stop i H∧D.nx σ H)∨((Itl K a).go i H∧∃ N:St→Hp→Prop,(∀ σ' H',N σ' H'→∃ m',m' < m∧W (i + 1) m' σ' H')∧∀ x H',(Itl K a).yld i H x H'→g x σ H' fun σ2 H2=>tb { D with nx:=N,ct:=N,bk:=D.nx } σ2 H2):=by
 refine ⟨fun i m σ H=>m = xs.length - i∧i≤xs.length∧Pv i σ H,⟨xs.length,by simp,Nat.zero_le _,h0⟩,?_⟩
 rintro i m σ H ⟨rfl,hi,p⟩
 have q:=hl i σ H hi p
 by_cases hlt:i < xs.length
 ·refine .inr ⟨⟨xs,xs[i],q,by simp [hlt]⟩,Pv (i + 1),fun σ' H' p'=>⟨xs.length - (i + 1),by omega,rfl,hlt,p'⟩,fun x H' y=>?_⟩
  obtain ⟨e,y⟩:=y
  subst e
  exact hs i x σ _ (y xs q) p
 ·have e:i = xs.length:=by omega
  subst e
  exact .inl ⟨⟨xs,q,Nat.le_refl _⟩,hd σ H p⟩
theorem while_by {c:TT} {tb:TS} {D:Ends} {σ:St} {H:Hp} (Pv:St→Hp→Prop) (μ:St→Hp→Nat) (h0:Pv σ H)
  (hs:∀ σ H,Pv σ H→c σ H fun b H1=>if b = true then tb { D with nx:=fun σ' H'=>Pv σ' H'∧μ σ' H' < μ σ H,ct:=fun σ' H'=>Pv σ' H'∧μ σ' H' < μ σ H,bk:=D.nx } σ H1 else D.nx σ H1)
  (mono:∀ σ H Q Q',(∀ b H1,Q b H1→Q' b H1)→c σ H Q→c σ H Q'):tWhile c tb D σ H:=by
 refine ⟨fun m σ H=>m = μ σ H∧Pv σ H,⟨_,rfl,h0⟩,?_⟩
 rintro m σ H ⟨rfl,p⟩
 refine mono σ H _ _ (fun b H1 q=>?_) (hs σ H p)
 cases b with
 | true=>exact ⟨_,fun σ' H' ⟨p',l⟩=>⟨_,l,rfl,p'⟩,q⟩
 | false=>exact q
end L2
namespace L2
open PySem PySem.Spec PyProof.Rows
abbrev R2:=V→V→Hp→VK→Prop
def OpR (X:Cx) (f:Value→Value→Sem Value) (r:R2):Prop :=
 ∀ (pins:List (Addr× Obj)) (s:Shared) (σ:St) (H:Hp) (x y:V) (v u:Value) (Q:VK),Inv X pins σ H s→RelV x v→RelV y u→r x y H Q →
  wpAny (model X.prog X.w) X.A (f v u) (EP X pins σ Q) X.xe s
def CallR (X:Cx) (f:Value) (r:List V→Hp→VK→Prop):Prop :=
 ∀ (pins:List (Addr× Obj)) (s:Shared) (σ:St) (H:Hp) (xs:List V) (us:List Value) (Q:VK),Inv X pins σ H s→Vals xs us→r xs H Q →
  wpAny (model X.prog X.w) X.A (call f us) (EP X pins σ Q) X.xe s
def TruR (X:Cx) (r:V→Hp→(Bool→Hp→Prop)→Prop):Prop :=
 ∀ (pins:List (Addr× Obj)) (s:Shared) (σ:St) (H:Hp) (x:V) (v:Value) (Q:Bool→Hp→Prop),Inv X pins σ H s→RelV x v→r x H Q →
  wpAny (model X.prog X.w) X.A (truthy v) (TP X pins σ Q) X.xe s
def tOp (r:R2) (ta tb:TE):TE:=fun σ H Q=>ta σ H fun x H1=>tb σ H1 fun y H2=>r x y H2 Q
def rI (C:Int→Int→Prop) (g:Int→Int→V):R2:=fun x y H Q=>∃ i j,x = .int i∧y = .int j∧C i j∧Q (g i j) H
def rI0 (g:Int→Int→V):R2:=fun x y H Q=>∃ i j,x = .int i∧y = .int j∧Q (g i j) H
section
variable {X:Cx} {a b c:Expr} {ta tb tc:TE} {pos:Pos}
theorem binT (ha:PE X a ta) (hb:PE X b tb) {pins:List (Addr× Obj)} {s:Shared} {σ:St} {H:Hp} {R:V→V→Hp→Prop} (I:Inv X pins σ H s)
  (h:ta σ H fun x H1=>tb σ H1 fun y H2=>R x y H2) {Q:Value→Shared→Prop} {f:Value→Value→Sem Value}
  (hf:∀ v u s2 x y H2,Inv X pins σ H2 s2→RelV x v→RelV y u→R x y H2→wpAny (model X.prog X.w) X.A (f v u) Q X.xe s2) :
  wpAny (model X.prog X.w) X.A (eval a X.env) (fun v s₁=>wpAny (model X.prog X.w) X.A (eval b X.env) (fun u s₂=>wpAny (model X.prog X.w) X.A (f v u) Q X.xe s₂) X.xe s₁) X.xe s:=by
 refine thn (ha pins s σ H _ I h) fun v s1 ⟨x,H1,I1,r1,q1⟩=>?_
 refine thn (hb pins s1 σ H1 _ I1 q1) fun u s2 ⟨y,H2,I2,r2,q2⟩=>?_
 exact hf v u s2 x y H2 I2 r1 r2 q2
theorem pe_op {op:Operator} {r:R2} (ho:OpR X (binaryOp op) r) (ha:PE X a ta) (hb:PE X b tb):PE X (.BinOp a op b pos) (tOp r ta tb):=by
 intro pins s σ H Q I h
 exact wpAny_BinOp (binT ha hb I h fun v u s2 x y H2 I2 rx ry q=>ho pins s2 σ H2 x y v u Q I2 rx ry q)
theorem opI {f:Value→Value→Sem Value} {C:Int→Int→Prop} {g:Int→Int→Int}
  (rule:∀ (i j:Int) (t u:Tok) (s:Shared) (Q:Value→Shared→Prop) (E:Value→Shared→Prop),C i j→Q (.int (g i j) s.toks) { s with toks:=s.toks + 1 }→wpAny (model X.prog X.w) X.A (f (.int i t) (.int j u)) Q E s) :
  OpR X f (rI C fun i j=>.int (g i j)):=by
 intro pins s σ H x y v u Q I rx ry h
 obtain ⟨i,j,rfl,rfl,hc,q⟩:=h
 obtain ⟨t,rfl⟩:=rx
 obtain ⟨t',rfl⟩:=ry
 exact rule i j t t' s _ _ hc ⟨.int (g i j),H,I.tok _,⟨_,rfl⟩,q⟩
theorem opI0 {f:Value→Value→Sem Value} {g:Int→Int→Int}
  (rule:∀ (i j:Int) (t u:Tok) (s:Shared) (Q:Value→Shared→Prop) (E:Value→Shared→Prop),Q (.int (g i j) s.toks) { s with toks:=s.toks + 1 }→wpAny (model X.prog X.w) X.A (f (.int i t) (.int j u)) Q E s) :
  OpR X f (rI0 fun i j=>.int (g i j)):=by
 intro pins s σ H x y v u Q I rx ry h
 obtain ⟨i,j,rfl,rfl,q⟩:=h
 obtain ⟨t,rfl⟩:=rx
 obtain ⟨t',rfl⟩:=ry
 exact rule i j t t' s _ _ ⟨.int (g i j),H,I.tok _,⟨_,rfl⟩,q⟩
theorem opB0 {f:Value→Value→Sem Value} {g:Int→Int→Bool}
  (rule:∀ (i j:Int) (t u:Tok) (s:Shared) (Q:Value→Shared→Prop) (E:Value→Shared→Prop),Q (.bool (g i j)) s→wpAny (model X.prog X.w) X.A (f (.int i t) (.int j u)) Q E s) :
  OpR X f (rI0 fun i j=>.bl (g i j)):=by
 intro pins s σ H x y v u Q I rx ry h
 obtain ⟨i,j,rfl,rfl,q⟩:=h
 obtain ⟨t,rfl⟩:=rx
 obtain ⟨t',rfl⟩:=ry
 exact rule i j t t' s _ _ ⟨.bl (g i j),H,I,rfl,q⟩
def CDiv (i j:Int):Prop:=0 < j∧j < 1073741824
def CMul (i j:Int):Prop:=(-(2 ^ 64) < i∧i < 2 ^ 64)∨(-(2 ^ 64) < j∧j < 2 ^ 64)
theorem CMul.ok {i j:Int} (h:CMul i j):IntMulOk i j:=by
 rcases h with ⟨h1,h2⟩ | ⟨h1,h2⟩
 ·exact .of_left (intBits_le_64 h1 h2)
 ·exact .of_right (intBits_le_64 h1 h2)
theorem op_add:OpR X (binaryOp .Add) (rI0 fun i j=>.int (i + j)):=opI0 fun _ _ _ _ _ _ _ q=>add_int q
theorem op_sub:OpR X (binaryOp .Sub) (rI0 fun i j=>.int (i - j)):=opI0 fun _ _ _ _ _ _ _ q=>sub_int q
theorem op_mul:OpR X (binaryOp .Mult) (rI CMul fun i j=>.int (i * j)):=opI fun _ _ _ _ _ _ _ hc q=>mul_int q hc.ok
theorem op_fdiv:OpR X (binaryOp .FloorDiv) (rI CDiv fun i j=>.int (i / j)):=opI fun i j _ _ _ _ _ hc q=>by
 have h1:(0:Int) < j:=hc.1
 have h2:j < 1073741824:=hc.2
 exact floordiv_int (by omega) (by rw [Int.fdiv_eq_ediv_of_nonneg i (by omega)]; exact q) (.inl (PyProof.noPylong_small (by omega)))
theorem op_mod:OpR X (binaryOp .Mod) (rI (fun _ j=>0 < j) fun i j=>.int (i % j)):=opI fun i j _ _ _ _ _ hc q=>by
 have h1:(0:Int) < j:=hc
 exact mod_int' (by omega) (by rw [Int.fmod_eq_emod_of_nonneg i (by omega)]; exact q)
end
def scal:V→V→Bool
 | .non,.non=>true | .non,.int _=>true | .int _,.non=>true | .non,.bl _=>true | .bl _,.non=>true | .non,.str _=>true | .str _,.non=>true
 | .int _,.int _=>true | .bl _,.bl _=>true | .str _,.str _=>true | .byt _,.byt _=>true
 | .int _,.str _=>true | .str _,.int _=>true | .bl _,.str _=>true | .str _,.bl _=>true
 | _,_=>false
def rEq:R2:=fun x y H Q=>scal x y = true∧Q (.bl (decide (x = y))) H
def rNe:R2:=fun x y H Q=>scal x y = true∧Q (.bl (!decide (x = y))) H
theorem dec_int {i j:Int}:decide (V.int i = V.int j) = (i == j):=by
 rw [Bool.eq_iff_iff]
 simp
theorem dec_bl {i j:Bool}:decide (V.bl i = V.bl j) = (i == j):=by
 rw [Bool.eq_iff_iff]
 simp
theorem dec_str {i j:Str}:decide (V.str i = V.str j) = (i == j):=by
 rw [Bool.eq_iff_iff]
 simp
theorem dec_byt {i j:Array UInt8}:decide (V.byt i = V.byt j) = (i.toList == j.toList):=by
 rw [Bool.eq_iff_iff]
 cases i
 cases j
 simp
section
variable {X:Cx} {a b c:Expr} {ta tb tc:TE} {pos:Pos}
theorem fin_bl {pins:List (Addr× Obj)} {σ:St} {H:Hp} {s:Shared} {Q:VK} {k k':Bool} (I:Inv X pins σ H s) (q:Q (.bl k) H) (e:k = k'):EP X pins σ Q (.bool k') s:=by
 subst e
 exact ⟨.bl k,H,I,rfl,q⟩
theorem op_eq:OpR X (compareOp .Eq) rEq:=by
 intro pins s σ H x y v u Q I rx ry h
 obtain ⟨hs,q⟩:=h
 cases x with
 | non =>
  cases rx
  cases y with
  | non=>cases ry; exact PySem.EqNone.eq_none_none (fin_bl I q (by simp))
  | bl j=>cases ry; exact PySem.EqNone.eq_none_bool (fin_bl I q (by simp))
  | int j=>obtain ⟨t',rfl⟩:=ry; exact PySem.EqNone.eq_none_int (fin_bl I q (by simp))
  | str j=>obtain ⟨t',rfl⟩:=ry; exact PySem.EqNone.eq_none_str (fin_bl I q (by simp))
  | _=>exact absurd (show false = true from hs) Bool.false_ne_true
 | bl i =>
  cases rx
  cases y with
  | non=>cases ry; exact PySem.EqNone.eq_bool_none (fin_bl I q (by simp))
  | bl j=>cases ry; exact eq_bool (fin_bl I q dec_bl)
  | str j=>obtain ⟨t',rfl⟩:=ry; exact PySem.EqMixed.eq_bool_str (fin_bl I q (by simp))
  | _=>exact absurd (show false = true from hs) Bool.false_ne_true
 | int i =>
  obtain ⟨t,rfl⟩:=rx
  cases y with
  | non=>cases ry; exact PySem.EqNone.eq_int_none (fin_bl I q (by simp))
  | int j=>obtain ⟨t',rfl⟩:=ry; exact eq_int (fin_bl I q dec_int)
  | str j=>obtain ⟨t',rfl⟩:=ry; exact PySem.EqMixed.eq_int_str (fin_bl I q (by simp))
  | _=>exact absurd (show false = true from hs) Bool.false_ne_true
 | str i =>
  obtain ⟨t,rfl⟩:=rx
  cases y with
  | non=>cases ry; exact PySem.EqNone.eq_str_none (fin_bl I q (by simp))
  | bl j=>cases ry; exact PySem.EqMixed.eq_str_bool (fin_bl I q (by simp))
  | int j=>obtain ⟨t',rfl⟩:=ry; exact PySem.EqMixed.eq_str_int (fin_bl I q (by simp))
  | str j=>obtain ⟨t',rfl⟩:=ry; exact eq_str (fin_bl I q dec_str)
  | _=>exact absurd (show false = true from hs) Bool.false_ne_true
 | byt i =>
  obtain ⟨t,rfl⟩:=rx
  cases y with
  | byt j=>obtain ⟨t',rfl⟩:=ry; exact PySem.W.eq_bytes (fin_bl I q dec_byt)
  | _=>exact absurd (show false = true from hs) Bool.false_ne_true
 | _=>cases y <;> exact absurd (show false = true from hs) Bool.false_ne_true
theorem op_ne:OpR X (compareOp .NotEq) rNe:=by
 intro pins s σ H x y v u Q I rx ry h
 obtain ⟨hs,q⟩:=h
 cases x with
 | non =>
  cases rx
  cases y with
  | non=>cases ry; exact PySem.EqNone.ne_none_none (fin_bl I q (by simp))
  | bl j=>cases ry; exact PySem.EqNone.ne_none_bool (fin_bl I q (by simp))
  | int j=>obtain ⟨t',rfl⟩:=ry; exact PySem.EqNone.ne_none_int (fin_bl I q (by simp))
  | str j=>obtain ⟨t',rfl⟩:=ry; exact PySem.EqNone.ne_none_str (fin_bl I q (by simp))
  | _=>exact absurd (show false = true from hs) Bool.false_ne_true
 | bl i =>
  cases rx
  cases y with
  | non=>cases ry; exact PySem.EqNone.ne_bool_none (fin_bl I q (by simp))
  | bl j=>cases ry; exact ne_bool (fin_bl I q (congrArg not dec_bl))
  | str j=>obtain ⟨t',rfl⟩:=ry; exact PySem.EqMixed.ne_bool_str (fin_bl I q (by simp))
  | _=>exact absurd (show false = true from hs) Bool.false_ne_true
 | int i =>
  obtain ⟨t,rfl⟩:=rx
  cases y with
  | non=>cases ry; exact PySem.EqNone.ne_int_none (fin_bl I q (by simp))
  | int j=>obtain ⟨t',rfl⟩:=ry; exact ne_int (fin_bl I q (congrArg not dec_int))
  | str j=>obtain ⟨t',rfl⟩:=ry; exact PySem.EqMixed.ne_int_str (fin_bl I q (by simp))
  | _=>exact absurd (show false = true from hs) Bool.false_ne_true
 | str i =>
  obtain ⟨t,rfl⟩:=rx
  cases y with
  | non=>cases ry; exact PySem.EqNone.ne_str_none (fin_bl I q (by simp))
  | bl j=>cases ry; exact PySem.EqMixed.ne_str_bool (fin_bl I q (by simp))
  | int j=>obtain ⟨t',rfl⟩:=ry; exact PySem.EqMixed.ne_str_int (fin_bl I q (by simp))
  | str j=>obtain ⟨t',rfl⟩:=ry; exact ne_str (fin_bl I q (congrArg not dec_str))
  | _=>exact absurd (show false = true from hs) Bool.false_ne_true
 | byt i =>
  obtain ⟨t,rfl⟩:=rx
  cases y with
  | byt j=>obtain ⟨t',rfl⟩:=ry; exact PySem.W.ne_bytes (fin_bl I q (congrArg not dec_byt))
  | _=>exact absurd (show false = true from hs) Bool.false_ne_true
 | _=>cases y <;> exact absurd (show false = true from hs) Bool.false_ne_true
theorem op_lt:OpR X (compareOp .Lt) (rI0 fun i j=>.bl (decide (i < j))):=opB0 fun _ _ _ _ _ _ _ q=>lt_int q
theorem op_le:OpR X (compareOp .LtE) (rI0 fun i j=>.bl (decide (i≤j))):=opB0 fun _ _ _ _ _ _ _ q=>le_int q
theorem op_gt:OpR X (compareOp .Gt) (rI0 fun i j=>.bl (decide (j < i))):=opB0 fun _ _ _ _ _ _ _ q=>gt_int q
theorem nomark (b:Expr) {op:CmpOp} (h:op≠.In:=by decide) (h2:op≠.NotIn:=by decide):behindInMarks op b = false:=by
 have e1:(op == CmpOp.In) = false:=by cases op <;> first | rfl | exact absurd rfl h
 have e2:(op == CmpOp.NotIn) = false:=by cases op <;> first | rfl | exact absurd rfl h2
 cases b <;> simp [behindInMarks,e1,e2]
theorem pe_cmpR {op:CmpOp} {r:R2} (ho:OpR X (compareOp op) r) (ha:PE X a ta) (hb:PE X b tb) (hm:behindInMarks op b = false):PE X (.Compare a [op] [b] pos) (tOp r ta tb):=by
 intro pins s σ H Q I h
 exact wpAny_Compare1 (binT ha hb I h fun v u s2 x y H2 I2 rx ry q=>ho pins s2 σ H2 x y v u Q I2 rx ry q) hm
def tTest (t:TE):TT:=fun σ H Q=>t σ H fun x H'=>∃ k,x = .bl k∧Q k H'
theorem pt_cmpR {op:CmpOp} {r:R2} (ho:OpR X (compareOp op) r) (ha:PE X a ta) (hb:PE X b tb) (hm:behindInMarks op b = false):PT X (.Compare a [op] [b] pos) (tTest (tOp r ta tb)):=by
 intro pins s σ H Q I h
 refine wpAny_isTrue_Compare1 (thn (ha pins s σ H _ I h) fun v s1 ⟨x,H1,I1,r1,q1⟩=>thn (hb pins s1 σ H1 _ I1 q1) fun u s2 ⟨y,H2,I2,r2,q2⟩ =>
  thn (ho pins s2 σ H2 x y v u _ I2 r1 r2 q2) fun c s3 ⟨z,H3,I3,r3,k,e,q3⟩=>?_) hm
 subst e
 cases r3
 exact wpAny_truthy_bool ⟨H3,I3,q3⟩
def TruV (K:PySem.W.Frag) (x:V) (H:Hp) (k:Bool):Prop :=
 match x with
 | .non=>k = false
 | .bl b=>k = b
 | .int i=>k = (i != 0)
 | .str y=>y.length≤sizeLine∧k = ((y.length:Int) != 0)
 | .byt y=>y.size≤sizeLine∧k = ((y.size:Int) != 0)
 | .ref p=>(∃ xs,SqL K H p xs∧k = !xs.isEmpty)∨(∃ xs,SqT K H p xs∧k = !xs.isEmpty)∨∃ kvs,H p = some (.dK kvs)∧k = !kvs.isEmpty
 | _=>False
theorem isEmpty_kv {κ:Type} {kvs:List (κ× V)} {vs:List (κ× Value)} (r:KV kvs vs):(!vs.isEmpty) = !kvs.isEmpty:=by
 cases r <;> rfl
theorem isEmpty_of {xs:List V} {its:List Value} (r:Vals xs its):(!its.toArray.isEmpty) = !xs.isEmpty:=by
 cases r <;> simp
theorem line63:(sizeLine:Nat) < 2 ^ 63:=by rw [sizeLine_eq]; decide
theorem tru_ok:TruR X (fun x H Q=>∃ k,TruV X.K x H k∧Q k H):=by
 intro pins s σ H x v Q I rx h
 obtain ⟨k,e,q⟩:=h
 have hl:=line63
 have hs:sizeLine = 16777216:=sizeLine_eq
 cases x with
 | non =>
  cases rx
  have e':k = false:=e
  subst e'
  exact truthy_none ⟨H,I,q⟩
 | bl b =>
  cases rx
  have e':k = b:=e
  subst e'
  exact wpAny_truthy_bool ⟨H,I,q⟩
 | int i =>
  obtain ⟨t,rfl⟩:=rx
  have e':k = (i != 0):=e
  subst e'
  exact PySem.P.truthy_int ⟨H,I,q⟩
 | str y =>
  obtain ⟨t,rfl⟩:=rx
  obtain ⟨hy,e'⟩:y.length≤sizeLine∧k = ((y.length:Int) != 0):=e
  subst e'
  exact PySem.P.truthy_str (by omega) ⟨H,I.tok _,q⟩
 | byt y =>
  obtain ⟨t,rfl⟩:=rx
  obtain ⟨hy,e'⟩:y.size≤sizeLine∧k = ((y.size:Int) != 0):=e
  subst e'
  exact PySem.W.truthy_bytes (by omega) ⟨H,I.tok _,q⟩
 | ref p =>
  cases rx
  have e':(∃ xs,SqL X.K H p xs∧k = !xs.isEmpty)∨(∃ xs,SqT X.K H p xs∧k = !xs.isEmpty)∨∃ kvs,H p = some (.dK kvs)∧k = !kvs.isEmpty:=e
  rcases e' with ⟨xs,hx,e'⟩ | ⟨xs,hx,e'⟩ | ⟨kvs,hx,e'⟩
  ·subst e'
   obtain ⟨its,r,pl,hz⟩:=I.list hx
   have hlen:=r.length
   exact wpAny_truthy_list pl.isList (by simp only [List.size_toArray]; omega) ⟨H,I.tok _,by rw [isEmpty_of r]; exact q⟩
  ·subst e'
   obtain ⟨its,r,pl,hz⟩:=I.tuple hx
   have hlen:=r.length
   exact truthy_tuple pl (by simp only [List.size_toArray]; omega) ⟨H,I.tok _,by rw [isEmpty_of r]; exact q⟩
  ·subst e'
   obtain ⟨hz,hS,vs,r,m⟩:kvs.length≤sizeLine∧(p == sysModules) = false∧∃ vs,KV kvs vs∧s.heap.DictOf (mixKind X.prog X.w) p vs:=I.hok p _ hx
   have hlen:kvs.length = vs.length:=Paired.length r
   exact wpAny_truthy_dict hS m (by omega) ⟨H,I.tok _,by rw [isEmpty_kv r]; exact q⟩
 | _=>exact (show False from e).elim
theorem pt_truth (ha:PE X a ta) (he:∀ whole,isTrue a X.env whole = (do let v ← whole; standAt a.pos; holding [v] (truthy v))) :
  PT X a (fun σ H Q=>ta σ H fun x H'=>∃ k,TruV X.K x H' k∧Q k H'):=by
 intro pins s σ H Q I h
 exact isTrue_plain (thn (ha pins s σ H _ I h) fun v s1 ⟨x,H1,I1,r1,q1⟩=>tru_ok pins s1 σ H1 x v Q I1 r1 q1) (he _)
theorem op_add_str:OpR X (binaryOp .Add) (fun x y H Q=>∃ i j,x = .str i∧y = .str j∧i.length + j.length≤sizeLine∧Q (.str (i ++ j)) H):=by
 intro pins s σ H x y v u Q I rx ry h
 obtain ⟨i,j,rfl,rfl,hz,q⟩:=h
 obtain ⟨t,rfl⟩:=rx
 obtain ⟨t',rfl⟩:=ry
 exact add_str (fun t' tk=>⟨.str (i ++ j),H,I.tok _,⟨_,rfl⟩,q⟩) hz
theorem vals1 {x:V} {us:List Value} (r:Vals [x] us):∃ u,us = [u]∧RelV x u:=by
 cases r with
 | cons r1 r2=>cases r2; exact ⟨_,rfl,r1⟩
theorem vals2 {x y:V} {us:List Value} (r:Vals [x,y] us):∃ u w',us = [u,w']∧RelV x u∧RelV y w':=by
 cases r with
 | cons r1 r2 =>
  cases r2 with
  | cons r3 r4=>cases r4; exact ⟨_,_,rfl,r1,r3⟩
theorem call_max2 (hc:X.calm = true):CallR X (.builtin "max") (fun xs H Q=>∃ i j,xs = [.int i,.int j]∧Q (.int (if j > i then j else i)) H):=by
 intro pins s σ H xs us Q I r h
 obtain ⟨i,j,rfl,q⟩:=h
 obtain ⟨u,w',rfl,⟨t,rfl⟩,⟨t',rfl⟩⟩:=vals2 r
 refine max_two_ints (I.ok.hd hc) fun h' tk k=>⟨_,H,I.kept k,?_,q⟩
 by_cases hj:j > i
 ·rw [if_pos hj,if_pos hj]; exact ⟨_,rfl⟩
 ·rw [if_neg hj,if_neg hj]; exact ⟨_,rfl⟩
theorem call_int1:CallR X (.type "int") (fun xs H Q=>(∃ i,xs = [.int i]∧Q (.int i) H)∨∃ k,xs = [.bl k]∧Q (.int (if k then 1 else 0)) H):=by
 intro pins s σ H xs us Q I r h
 rcases h with ⟨i,rfl,q⟩ | ⟨k,rfl,q⟩
 ·obtain ⟨u,rfl,t,rfl⟩:=vals1 r
  exact call_int_int ⟨.int i,H,I,⟨_,rfl⟩,q⟩
 ·obtain ⟨u,rfl,r1⟩:=vals1 r
  cases r1
  exact call_int_bool ⟨.int (if k then 1 else 0),H,I.tok _,⟨_,rfl⟩,q⟩
end
end L2
namespace L2
open PySem PySem.Spec PyProof.Rows
structure ObjM (h:Heap) (x dx C:Addr) (mA:Str→Option Value):Prop where
 obj:h.get? x = some (PySem.W.instObj C dx)
 ns:h.Ns1 dx mA
 ne:dx≠x
theorem lookIn_ns {h:Heap} {dx:Addr} {mA:Str→Option Value} (n:h.Ns1 dx mA):∃ od,h.get? dx = some od∧∀ name,PySem.W.lookIn name od = some (mA name):=by
 obtain ⟨o,es,ep,ho,hd,hk,_,hm⟩:=n
 refine ⟨o,ho,fun name=>?_⟩
 have e:=hm name
 unfold nsFind findBy at e
 rw [← Array.find?_toList] at e
 unfold PySem.W.lookIn
 rw [hd]
 dsimp only
 split
 ·rename_i y q
  rw [q] at e
  exact congrArg some e
 ·rename_i q
  rw [q] at e
  have a:es.toList.any (·.refKey) = false:=by
   rw [List.any_eq_false]
   intro y hy
   obtain ⟨z,t,hkey⟩:=hk y (Array.mem_toList_iff.mp hy)
   simp [DictEntry.refKey,hkey]
  have a':¬ es.toList.any (·.refKey) = true:=by rw [a]; exact Bool.false_ne_true
  rw [if_neg a']
  exact congrArg some e
theorem ObjM.look {h:Heap} {x dx C:Addr} {mA:Str→Option Value} (I:ObjM h x dx C mA):∃ od,PySem.W.InstAt h x (PySem.W.instObj C dx) C (some od)∧∀ name,PySem.W.lookIn name od = some (mA name) :=
 let ⟨od,ho,hl⟩:=lookIn_ns I.ns
 ⟨od,⟨I.obj,rfl,rfl,ho⟩,hl⟩
section
variable {prog:Program} {w:World} {A:Around} {E:Value→Shared→Prop} {s:Shared} {K:PySem.W.Frag} {x dx C f:Addr} {mA:Str→Option Value} {name:Str} {v:Value}
theorem get_map {expr:Bool} {Q:Value→Shared→Prop} (X:K.In s.heap) (I:ObjM s.heap x dx C mA) (hg:PySem.W.plainGet K C name = true) (hh:PySem.W.hasDictIn K C = true)
  (ha:PySem.W.findIn K (.ref C) name = some none) (hv:mA name = some v) (hv':PySem.W.handedIn v = true) (h:Q v { s with toks:=s.toks + 1 }) :
  wpAny (model prog w) A (getAttr (.ref x) name expr) Q E s:=by
 obtain ⟨od,J,hl⟩:=I.look
 exact PySem.W.get_value X J (PySem.W.plainGet_of hg).1 (PySem.W.findObj_own hh ha rfl (by rw [hl,hv])) hv' h
theorem get_meth {pl:Sem Bool} {Q:Value× List Value→Shared→Prop} (X:K.In s.heap) (I:ObjM s.heap x dx C mA) (hg:PySem.W.plainGet K C name = true)
  (hf:PySem.W.findIn K (.ref C) name = some (some (.ref f))) (ht:PySem.W.isFn K (.ref f) = true) (hv:mA name = none) (h:Q (.ref f,[.ref x]) s) :
  wpAny (model prog w) A (getMethod (.ref x) name pl) Q E s:=by
 obtain ⟨od,J,hl⟩:=I.look
 exact PySem.W.method_fn X J (PySem.W.plainGet_of hg).1 (PySem.W.plainGet_of hg).2 hf (beq_iff_eq.mp ht) (by show (PySem.W.lookIn name od).map (·.isSome) = some false; rw [hl,hv]; rfl) h
theorem set_map {ns:List Str} {Q:Unit→Shared→Prop} (X:K.In s.heap) (I:ObjM s.heap x dx C mA)
  (hs:PySem.W.findIn K (.ref C) "__setattr__" = some (some (.builtin "object.__setattr__"))) (hp:PySem.W.plainOver K C = true) (ht:PySem.W.takerIn K C name = some none) (hh:PySem.W.hasDictIn K C = true)
  (hw:PySem.Within mA ns) (hsz:ns.length≤sizeLine)
  (h:∀ h',ObjM h' x dx C (fun y=>if y = name then some v else mA y)→Heap.SameBut dx s.heap h'→Q () { s with heap:=h',toks:=s.toks + 2 }) :
  wpAny (model prog w) A (setAttr (.ref x) name v) Q E s:=by
 obtain ⟨od,J,hl⟩:=I.look
 refine PySem.W.set_plain X J hs (PySem.W.osa_open (s:={ s with toks:=s.toks + 1 }) (r:=none) X J hp ht fun b=>?_)
 obtain ⟨cd,hc,hd'⟩:=PySem.W.any_some hh
 have hx:s.heap.get? x = some ⟨.ref C,some dx,.plain,#[]⟩:=I.obj
 refine wpAny_bind (wpAny_pure (wpAny_bind (wpAny_bind (wpAny_loadPart hx (wpAny_bind (PySem.W.Looks.here (s:={ s with toks:=s.toks + 1 }) (PySem.W.looks_clsIn X hc) ?_))))))
 rw [hd']
 refine wpAny_pure (a:=some dx) (wpAny_bind (wpAny_pure (wpAny_bind ?_)))
 refine wpAny_nsSet1 (s:={ s with toks:=s.toks + 1 }) I.ns fun h' hn2 hs2=>?_
 obtain ⟨oD,esD,epD,hoD,hdD,hcD⟩:=hn2.count (PySem.Within.cons name v hw)
 refine wpAny_bind (wpAny_lookBehind hoD (by rw [hdD]; exact pastItsLine_dict (Nat.le_trans hcD (by rw [List.length_cons]; omega))) ?_)
 exact wpAny_pure (h _ ⟨(hs2.2 _ (Ne.symm I.ne)).trans I.obj,hn2,I.ne⟩ hs2)
theorem make_map {R:Result→Shared→Prop} {vs:List Value} {kw:List (Str× Value)} (X:K.In s.heap) (hm:PySem.W.makesIn K C = true)
  (hi:PySem.W.findIn K (.ref C) "__init__" = some (some (.ref f))) (hf:PySem.W.typeIn K (.ref f) = some (.type "function"))
  (h:codeAny (model prog w) (A.under (.builtin "type.__call__" ⟨.ref C :: vs,kw⟩)) (.call (.ref f) ⟨.ref (s.heap.objs.size + 1) :: vs,kw⟩) (PySem.W.InitBack (s.heap.objs.size + 1) R)
   { s with heap:=(s.heap.push PySem.W.emptyDict).push (PySem.W.instObj C s.heap.objs.size) }) :
  codeAny (model prog w) A (.call (.ref C) ⟨vs,kw⟩) R s:=by
 obtain ⟨hh,g,d,t,os⟩:=s
 exact PySem.W.make_core (PySem.W.makes_of X hm) (PySem.W.looks_findIn X hi) (fun self=>PySem.W.bind_fn X self hf) (.inl rfl) h
end
def putF (f:Str) (v:V):List (Str× V)→List (Str× V)
 | []=>[(f,v)]
 | (g,x) :: r=>if g = f then (g,v) :: r else (g,x) :: putF f v r
theorem lookup_putF (f g:Str) (v:V):∀ fs:List (Str× V),(putF f v fs).lookup g = if g = f then some v else fs.lookup g
 | []=>by
  show List.lookup g [(f,v)] = _
  by_cases h:g = f
  ·have hb:(g == f) = true:=beq_iff_eq.mpr h
   simp only [List.lookup,hb,if_pos h]
  ·have hb:(g == f) = false:=beq_eq_false_iff_ne.mpr h
   simp only [List.lookup,hb,if_neg h]
 | (k,x) :: r=>by
  have ih:=lookup_putF f g v r
  rw [show putF f v ((k,x) :: r) = (if k = f then (k,v) :: r else (k,x) :: putF f v r) from rfl]
  by_cases hk:k = f
  ·rw [if_pos hk]
   by_cases h:g = k
   ·have hb:(g == k) = true:=beq_iff_eq.mpr h
    simp only [List.lookup,hb,if_pos (h.trans hk)]
   ·have hb:(g == k) = false:=beq_eq_false_iff_ne.mpr h
    simp only [List.lookup,hb,if_neg (fun e:g = f=>h (e.trans hk.symm))]
  ·rw [if_neg hk]
   by_cases h:g = k
   ·have hb:(g == k) = true:=beq_iff_eq.mpr h
    simp only [List.lookup,hb,if_neg (fun e:g = f=>hk (h.symm.trans e))]
   ·have hb:(g == k) = false:=beq_eq_false_iff_ne.mpr h
    simp only [List.lookup,hb]
    exact ih
theorem keys_putF (f:Str) (v:V):∀ fs:List (Str× V),f∈(putF f v fs).map (·.1)∧∀ g,g∈fs.map (·.1)→g∈(putF f v fs).map (·.1)
 | []=>⟨by simp [putF],fun g h=>by simp at h⟩
 | (k,x) :: r=>by
  obtain ⟨i1,i2⟩:=keys_putF f v r
  rw [show putF f v ((k,x) :: r) = (if k = f then (k,v) :: r else (k,x) :: putF f v r) from rfl]
  by_cases hk:k = f
  ·rw [if_pos hk]
   subst hk
   exact ⟨by simp,fun g h=>by simpa using h⟩
  ·rw [if_neg hk]
   refine ⟨?_,fun g h=>?_⟩
   ·rw [List.map_cons]
    exact List.mem_cons_of_mem _ i1
   ·rw [List.map_cons] at h ⊢
    rcases List.mem_cons.mp h with e | e
    ·exact List.mem_cons.mpr (.inl e)
    ·exact List.mem_cons_of_mem _ (i2 g e)
theorem length_putF (f:Str) (v:V):∀ fs:List (Str× V),(putF f v fs).length≤fs.length + 1
 | []=>by simp [putF]
 | (k,x) :: r=>by
  have ih:=length_putF f v r
  rw [show putF f v ((k,x) :: r) = (if k = f then (k,v) :: r else (k,x) :: putF f v r) from rfl]
  by_cases hk:k = f
  ·rw [if_pos hk,List.length_cons,List.length_cons]; omega
  ·rw [if_neg hk,List.length_cons,List.length_cons]; omega
theorem RelO.some_of {v:V} {o:Option Value} (r:RelO (some v) o):∃ u,o = some u∧RelV v u:=by
 cases o with
 | none=>exact (show False from r).elim
 | some u=>exact ⟨u,rfl,r⟩
theorem RelO.none_of {o:Option Value} (r:RelO none o):o = none:=by
 cases o with
 | none=>rfl
 | some u=>exact (show False from r).elim
theorem handed_of {v:V} {u:Value} (r:RelV v u):PySem.W.handedIn u = true:=by
 cases v with
 | non=>cases (show u = Value.none from r); rfl
 | bl b=>cases (show u = Value.bool b from r); rfl
 | int i=>obtain ⟨t,e⟩:=(show ∃ t,u = Value.int i t from r); cases e; rfl
 | str x=>obtain ⟨t,e⟩:=(show ∃ t,u = Value.str x t from r); cases e; rfl
 | byt b=>obtain ⟨t,e⟩:=(show ∃ t,u = Value.bytes b t from r); cases e; rfl
 | flt b=>obtain ⟨t,e⟩:=(show ∃ t,u = Value.float b t from r); cases e; rfl
 | ref a=>cases (show u = Value.ref a from r); rfl
 | ty n=>cases (show u = Value.type n from r); rfl
section
variable {P:Program} {w:World} {H H':Hp} {h h':Heap} {a C dx:Addr} {fs fs':List (Str× V)}
theorem ins_get (hok:HOk P w H h) (e:H a = some (.ins C dx fs)):∃ mA,ObjM h a dx C mA∧(∀ f,RelO (fs.lookup f) (mA f))∧PySem.Within mA (fs.map (·.1))∧fs.length≤1000∧H dx = some (.own a):=by
 obtain ⟨d,z,ne,ob,mA,n,r,q⟩:=(show ObjOk P w H h a (.ins C dx fs) from hok a _ e)
 exact ⟨mA,⟨ob,n,ne⟩,r,q,z,d⟩
end
structure Cls (K:PySem.W.Frag) (C:Addr):Prop where
 pg:PySem.W.plainGet K C Str.empty = true
 hd:PySem.W.hasDictIn K C = true
 po:PySem.W.plainOver K C = true
 sa:PySem.W.findIn K (.ref C) "__setattr__" = some (some (.builtin "object.__setattr__"))
theorem Cls.get {K:PySem.W.Frag} {C:Addr} (c:Cls K C) (f:Str):PySem.W.plainGet K C f = true:=c.pg
def NoAttr (K:PySem.W.Frag) (C:Addr) (f:Str):Prop:=PySem.W.findIn K (.ref C) f = some none
theorem NoAttr.taker {K:PySem.W.Frag} {C:Addr} {f:Str} (n:NoAttr K C f):PySem.W.takerIn K C f = some none:=by
 unfold PySem.W.takerIn
 rw [show PySem.W.findIn K (.ref C) f = some none from n]
 rfl
structure Meth (K:PySem.W.Frag) (C:Addr) (m:Str) (f:Addr):Prop where
 at_:PySem.W.findIn K (.ref C) m = some (some (.ref f))
 fn:PySem.W.isFn K (.ref f) = true
 kp:PySem.W.keepIn K (.ref f) = true
section
variable {X:Cx} {pins:List (Addr× Obj)} {σ:St} {H:Hp} {s:Shared} {a C dx:Addr} {fs:List (Str× V)} {f:Str} {v:V} {A:Around} {E:Value→Shared→Prop}
theorem getattr_ok {b:Bool} {Q:Value→Shared→Prop} (I:Inv X pins σ H s) (e:H a = some (.ins C dx fs)) (c:Cls X.K C) (n:NoAttr X.K C f) (l:fs.lookup f = some v)
  (h:∀ u s',Inv X pins σ H s'→RelV v u→Q u s'):wpAny (model X.prog X.w) A (getAttr (.ref a) f b) Q E s:=by
 obtain ⟨mA,O,r,_,_,_⟩:=ins_get I.hok e
 obtain ⟨u,hu,ru⟩:=RelO.some_of (v:=v) (o:=mA f) (by rw [← l]; exact r f)
 exact get_map I.kIn O (c.get f) c.hd n hu (handed_of ru) (h u _ (I.tok _) ru)
theorem getmeth_ok {m:Str} {g:Addr} {pl:Sem Bool} {Q:Value× List Value→Shared→Prop} (I:Inv X pins σ H s) (e:H a = some (.ins C dx fs)) (c:Cls X.K C) (k:Meth X.K C m g) (l:fs.lookup m = none)
  (h:Q (.ref g,[.ref a]) s):wpAny (model X.prog X.w) A (getMethod (.ref a) m pl) Q E s:=by
 obtain ⟨mA,O,r,_,_,_⟩:=ins_get I.hok e
 have hn:mA m = none:=RelO.none_of (by rw [← l]; exact r m)
 exact get_meth I.kIn O (c.get m) k.at_ k.fn hn h
theorem setattr_ok {y:V} {u:Value} {Q:Unit→Shared→Prop} (I:Inv X pins σ H s) (e:H a = some (.ins C dx fs)) (c:Cls X.K C) (n:NoAttr X.K C f) (hl:fs.length < 1000) (ry:RelV y u)
  (h:∀ s',Inv X pins σ (upd H a (.ins C dx (putF f y fs))) s'→Q () s'):wpAny (model X.prog X.w) A (setAttr (.ref a) f u) Q E s:=by
 obtain ⟨mA,O,r,wi,_,ho⟩:=ins_get I.hok e
 have hz:(fs.map (·.1)).length≤sizeLine:=by rw [List.length_map,sizeLine_eq]; omega
 refine set_map I.kIn O c.sa c.po n.taker c.hd wi hz fun h' O' sb=>h _ ?_
 have hd:∃ o,h'.get? dx = some o:=let ⟨o,_,_,e',_⟩:=O'.ns; ⟨o,e'⟩
 refine I.write (x:=a) (e:=dx) (by rw [e]; exact True.intro) (.inr ho) (fun b q hb z=>(sb.2 b hb).trans z) hd ?_
 refine ⟨by rw [upd_ne O.ne]; exact ho,?_,O.ne,O'.obj,_,O'.ns,fun g=>?_,fun g hg=>?_⟩
 ·have:=length_putF f y fs; omega
 ·show RelO ((putF f y fs).lookup g) (if g = f then some u else mA g)
  rw [lookup_putF]
  by_cases q:g = f
  ·rw [if_pos q,if_pos q]; exact ry
  ·rw [if_neg q,if_neg q]; exact r g
 ·by_cases q:g = f
  ·rw [q]; exact (keys_putF f y fs).1
  ·refine (keys_putF f y fs).2 g (wi g fun z=>hg ?_)
   show (if g = f then some u else mA g) = none
   rw [if_neg q]; exact z
theorem Inv.made (I:Inv X pins σ H s):Inv X pins σ (upd (upd H s.heap.objs.size (.own (s.heap.objs.size + 1))) (s.heap.objs.size + 1) (.ins C s.heap.objs.size []))
  { s with heap:=(s.heap.push PySem.W.emptyDict).push (PySem.W.instObj C s.heap.objs.size) }:=by
 have e1:(s.heap.push PySem.W.emptyDict).get? s.heap.objs.size = some PySem.W.emptyDict:=Heap.get?_push_size s.heap rfl
 have e2:((s.heap.push PySem.W.emptyDict).push (PySem.W.instObj C s.heap.objs.size)).get? (s.heap.objs.size + 1) = some (PySem.W.instObj C s.heap.objs.size):=by
  have:=Heap.get?_push_size (s.heap.push PySem.W.emptyDict) (o:=PySem.W.instObj C s.heap.objs.size) rfl
  rwa [Heap.size_push] at this
 have e3:(s.heap.push PySem.W.emptyDict).Ns s.heap.objs.size (fun _=>none):=⟨PySem.W.emptyDict,#[],_,e1,rfl,(fun e he=>absurd he (by simp)),fun _=>rfl⟩
 have I1:=I.laid (a:=s.heap.objs.size) (o:=.own (s.heap.objs.size + 1)) (h':=s.heap.push PySem.W.emptyDict) (t':=s.toks) (fun b u q=>Heap.get?_push_of_some _ q) (Nat.le_refl _) ⟨_,e1⟩
 refine I1.laid (a:=s.heap.objs.size + 1) (o:=.ins C s.heap.objs.size []) (t':=s.toks) (fun b u q=>Heap.get?_push_of_some _ q) (Nat.le_of_eq (Heap.size_push _ _)) ?_
 have ne:s.heap.objs.size≠s.heap.objs.size + 1:=Nat.ne_of_lt (Nat.lt_succ_self _)
 refine ⟨by rw [upd_ne ne,upd_same],Nat.zero_le _,ne,e2,fun _=>none,(Heap.Ns1.of_empty e3).at fun o q=>Heap.get?_push_of_some _ q,fun _=>True.intro,fun y hy=>absurd rfl hy⟩
theorem attr_of {prog:Program} {w:World} {env:Env} {e:Expr} {f:Str} {pos:Pos} {s:Shared} {Q:Value→Shared→Prop} (hb:attributeBase e f env (eval e env) = eval e env)
  (h:wpAny (model prog w) A (eval e env) (fun o s₁=>wpAny (model prog w) A (getAttr o f true) Q E s₁) E s):wpAny (model prog w) A (eval (.Attribute e f pos) env) Q E s :=
 Attribute_any_ h (by rw [arm_eval_Attribute,hb])
end
def tFld (K:PySem.W.Frag) (ta:TE) (f:Str):TE:=fun σ H Q=>ta σ H fun x H1=>∃ a C dx fs v,x = .ref a∧H1 a = some (.ins C dx fs)∧Cls K C∧NoAttr K C f∧fs.lookup f = some v∧Q v H1
def sFld (K:PySem.W.Frag) (ta tv:TE) (f:Str):TS:=fun D σ H=>tv σ H fun y H1=>ta σ H1 fun x H2=>∃ a C dx fs,x = .ref a∧H2 a = some (.ins C dx fs)∧Cls K C∧NoAttr K C f∧fs.length < 1000 ∧
 D.nx σ (upd H2 a (.ins C dx (putF f y fs)))
section
variable {X:Cx} {o e value:Expr} {f:Str} {pos pos' tpos:Pos} {ta tv:TE}
theorem pe_fld (he:PE X e ta) (hb:attributeBase e f X.env (eval e X.env) = eval e X.env):PE X (.Attribute e f pos) (tFld X.K ta f):=by
 intro pins s σ H Q I h
 refine attr_of hb (thn (he pins s σ H _ I h) fun u s1 ⟨x,H1,I1,rx,a,C,dx,fs,v,ex,ea,c,n,l,q⟩=>?_)
 subst ex
 obtain rfl:u = Value.ref a:=rx
 exact getattr_ok I1 ea c n l fun u' s2 I2 ru=>⟨v,H1,I2,ru,q⟩
theorem ps_fld (ha:PE X o ta) (hv:PE X value tv) (hs:swapsWith value (some (.Attribute o f pos')) pos.line X.env = pure false):PS X (.Assign [.Attribute o f pos'] value pos) (sFld X.K ta tv f):=by
 intro pins s σ H D I h
 refine plainObj_wpAny_Assign_Attribute (thn (hv pins s σ H _ I h) fun u s1 ⟨y,H1,I1,ry,q⟩=>thn (ha pins s1 σ H1 _ I1 q) fun ov s2 ⟨x,H2,I2,rx,a,C,dx,fs,ex,ea,c,n,l,q2⟩=>?_) hs
 subst ex
 obtain rfl:ov = Value.ref a:=rx
 exact setattr_ok I2 ea c n l ry fun s3 I3=>⟨σ,_,I3,q2⟩
end
section
variable {X:Cx} {pins:List (Addr× Obj)} {σ:St} {H:Hp} {s:Shared} {A:Around} {E:Value→Shared→Prop} {Q:Value→Shared→Prop} {c:Value} {b:Bool}
inductive TyOf (K:PySem.W.Frag) (H:Hp):V→Value→Prop where
 | non:TyOf K H .non (.type "NoneType")
 | bl (x:Bool):TyOf K H (.bl x) (.type "bool")
 | int (i:Int):TyOf K H (.int i) (.type "int")
 | str (x:Str):TyOf K H (.str x) (.type "str")
 | flt (x:UInt64):TyOf K H (.flt x) (.type "float")
 | lst {a:Addr} {xs:List V} (e:H a = some (.lst xs)):TyOf K H (.ref a) (.type "list")
 | frz {a:Addr} {o:Obj} {xs:List V} (e:H a = some (.frz o (.lst xs))):TyOf K H (.ref a) (.type "list")
 | tup {a:Addr} {xs:List V} (e:H a = some (.tup xs)):TyOf K H (.ref a) (.type "tuple")
 | dK {a:Addr} {kvs:List (Key× V)} (e:H a = some (.dK kvs)):TyOf K H (.ref a) (.type "dict")
 | dT {a:Addr} {kvs:List (List Key× V)} (e:H a = some (.dT kvs)):TyOf K H (.ref a) (.type "dict")
 | ins {a C dx:Addr} {fs:List (Str× V)} (e:H a = some (.ins C dx fs)) (cl:Cls K C) (ha:PySem.W.findIn K (.ref C) "__class__" = some (some (.builtin "object.__class__")))
   (hn:PySem.W.specialIn K (.builtin "object.__class__") "__get__" = some (some (.builtin "getset_descriptor.__get__"))) (htk:PySem.W.takesIn K (.builtin "object.__class__") = some true)
   (hm:PySem.W.mroIn K C (.type "object") = some true):TyOf K H (.ref a) (.ref C)
theorem isinst_ok {x:V} {u t:Value} (I:Inv X pins σ H s) (rx:RelV x u) (ty:TyOf X.K H x t) (e:PySem.W.kitOne X.K t c = some b) (h:∀ tk,Q (.bool b) { s with toks:=tk }) :
  wpAny (model X.prog X.w) A (call (.builtin "isinstance") [u,c]) Q E s:=by
 cases ty with
 | non=>cases (show u = Value.none from rx); exact PySem.W.kia_one PySem.W.kitx_none I.kIn True.intro e (fun z=>nomatch z) h
 | bl y=>cases (show u = Value.bool y from rx); exact PySem.W.kia_one PySem.W.kitx_bool I.kIn True.intro e (fun z=>nomatch z) h
 | int i=>obtain ⟨t,q⟩:=(show ∃ t,u = Value.int i t from rx); cases q; exact PySem.W.kia_one PySem.W.kitx_int I.kIn True.intro e (fun z=>nomatch z) h
 | str y=>obtain ⟨t,q⟩:=(show ∃ t,u = Value.str y t from rx); cases q; exact PySem.W.kia_one PySem.W.kitx_str I.kIn True.intro e (fun z=>nomatch z) h
 | flt y=>obtain ⟨t,q⟩:=(show ∃ t,u = Value.float y t from rx); cases q; exact PySem.W.kia_one PySem.W.kitx_float I.kIn True.intro e (fun z=>nomatch z) h
 | @lst a xs ea =>
  cases (show u = Value.ref a from rx)
  obtain ⟨_,_,n,_,h1⟩:=(show ObjOk X.prog X.w H s.heap a (.lst xs) from I.hok a _ ea)
  exact PySem.W.kia_one PySem.W.kitx_list I.kIn ⟨_,h1,rfl⟩ e (fun z=>nomatch z) h
 | @frz a ob xs ea =>
  cases (show u = Value.ref a from rx)
  obtain ⟨_,_,_,n,_,h1⟩:=(show ObjOk X.prog X.w H s.heap a (.frz ob (.lst xs)) from I.hok a _ ea)
  exact PySem.W.kia_one PySem.W.kitx_list I.kIn ⟨_,h1,rfl⟩ e (fun z=>nomatch z) h
 | @tup a xs ea =>
  cases (show u = Value.ref a from rx)
  obtain ⟨_,_,_,p⟩:=(show ObjOk X.prog X.w H s.heap a (.tup xs) from I.hok a _ ea)
  obtain ⟨o,h1,h2,_⟩:=p
  exact PySem.W.kia_one PySem.W.kitx_tuple I.kIn ⟨o,h1,h2⟩ e (fun z=>nomatch z) h
 | @dK a kvs ea =>
  cases (show u = Value.ref a from rx)
  obtain ⟨_,_,vs,_,p⟩:=(show ObjOk X.prog X.w H s.heap a (.dK kvs) from I.hok a _ ea)
  obtain ⟨o,es,ep,h1,h2,_⟩:=p
  exact PySem.W.kia_one PySem.W.kitx_dict I.kIn ⟨o,h1,h2.1⟩ e (fun z=>nomatch z) h
 | @dT a kvs ea =>
  cases (show u = Value.ref a from rx)
  obtain ⟨_,_,xs,_,o,es,ep,h1,h2,_⟩:=(show ObjOk X.prog X.w H s.heap a (.dT kvs) from I.hok a _ ea)
  exact PySem.W.kia_one PySem.W.kitx_dict I.kIn ⟨o,h1,h2.1⟩ e (fun z=>nomatch z) h
 | @ins a C dx fs ea cl ha hn htk hm =>
  cases (show u = Value.ref a from rx)
  obtain ⟨mA,O,_⟩:=ins_get I.hok ea
  obtain ⟨od,J,_⟩:=O.look
  exact PySem.W.kia_one (PySem.W.kitx_own (cl.get _) cl.hd ha hn htk hm) I.kIn J e (fun z=>nomatch z) h
end
end L2
namespace L2
open PySem PySem.Spec PyProof.Rows
structure Room (k:Nat) (A:Around):Prop where
 hd:A.handled = none
 dp:A.depth + 3 * k + 5 < recursionLimit
 un:A.units + 16 * k + 200 < cLine
theorem Room.mono {j k:Nat} {A:Around} (r:Room k A) (h:j≤k):Room j A:=⟨r.hd,by have:=r.dp; omega,by have:=r.un; omega⟩
theorem Room.deeper {k:Nat} {A:Around} (r:Room (k + 1) A) (env:Env):Room k (A.deeper env) :=
 ⟨r.hd,by have:=r.dp; show A.depth + 1 + 3 * k + 5 < _; omega,by have:=r.un; show A.units + 3 + 16 * k + 200 < _; omega⟩
theorem make_depth {A:Around} {C:Addr} {us:List Value} {kw:List (Str× Value)}:(A.under (.builtin "type.__call__" ⟨.ref C :: us,kw⟩)).depth = A.depth + 1:=by
 first | rfl | simp [Around.under,Code.weight,Code.isCreation,Code.isGuard,Code.isCaller,Code.frames,Code.isFrame,guardIds]
theorem make_units {A:Around} {C:Addr} {us:List Value} {kw:List (Str× Value)}:(A.under (.builtin "type.__call__" ⟨.ref C :: us,kw⟩)).units = A.units + 1:=by
 first | rfl | simp [Around.under,Code.cUnits,Code.frames,Code.isFrame]
theorem Room.make {k:Nat} {A:Around} (r:Room (k + 1) A) (C:Addr) (us:List Value) (kw:List (Str× Value)):Room k (A.under (.builtin "type.__call__" ⟨.ref C :: us,kw⟩)) :=
 ⟨r.hd,by have:=r.dp; rw [make_depth]; omega,by have:=r.un; rw [make_units]; omega⟩
theorem Room.depth {k:Nat} {A:Around} (r:Room k A):A.depth < recursionLimit:=by have:=r.dp; omega
theorem Room.units {k:Nat} {A:Around} (r:Room k A):A.units + 64 < cLine:=by have:=r.un; omega
def tNil:TA:=fun _ H Q=>Q [] H
def tCons (ta:TE) (tr:TA):TA:=fun σ H Q=>ta σ H fun x H1=>tr σ H1 fun xs H2=>Q (x :: xs) H2
section
variable {X:Cx} {e:Expr} {es:List Expr} {te:TE} {t:TA} {pos:Pos}
theorem pa_nil:PA X [] tNil:=fun _ _ _ _ H Q I h=>Calls.spliced_nil ⟨[],H,I,.nil,h⟩
theorem pa_cons (ha:PE X e te) (hr:PA X es t) (hs:starEach (e :: es) X.env = (false,eval e X.env) :: starEach es X.env:=by rfl):PA X (e :: es) (tCons te t):=by
 intro pos pins s σ H Q I h
 rw [hs]
 show wpAny _ _ (spliced ((false,eval e X.env) :: backTo pos (starEach es X.env))) _ _ s
 refine Calls.spliced_cons (thn (ha pins s σ H _ I h) fun u s1 ⟨x,H1,I1,r1,q1⟩=>?_)
 exact thn (hr pos pins s1 σ H1 _ I1 q1) fun us s2 ⟨xs,H2,I2,r2,q2⟩=>⟨x :: xs,H2,I2,.cons r1 r2,q2⟩
def tTup (t:TA):TE:=fun σ H Q=>t σ H fun xs H1=>xs.length≤sizeLine∧∀ p,H1 p = none→Q (.ref p) (upd H1 p (.tup xs))
def tLst (t:TA):TE:=fun σ H Q=>t σ H fun xs H1=>xs.length≤sizeLine∧∀ p,H1 p = none→Q (.ref p) (upd H1 p (.lst xs))
theorem pe_tup {x1} (h:PA X es t):PE X (.Tuple es x1 pos) (tTup t):=by
 intro pins s σ H Q I hq
 refine wpAny_Tuple_spliced (thn (h pos pins s σ H _ I hq) fun us s1 ⟨xs,H1,I1,r,z,q⟩=>⟨by rw [← r.length]; exact z,?_⟩)
 have hf:H1 s1.heap.objs.size = none:=I1.hok.fresh (Nat.le_refl _)
 refine ⟨.ref s1.heap.objs.size,upd H1 s1.heap.objs.size (.tup xs),I1.laid (t':=s1.toks) (fun b u e=>Heap.get?_push_of_some _ e) (Nat.le_refl _) ?_,rfl,q _ hf⟩
 exact ⟨z,us,r,⟨_,Heap.get?_push_size _ rfl,rfl,_,rfl⟩⟩
theorem pe_lst (h:PA X es t):PE X (.List es pos) (tLst t):=by
 intro pins s σ H Q I hq
 refine wpAny_List_spliced (thn (h pos pins s σ H _ I hq) fun us s1 ⟨xs,H1,I1,r,z,q⟩=>⟨by rw [← r.length]; exact z,?_⟩)
 have hf:H1 s1.heap.objs.size = none:=I1.hok.fresh (Nat.le_refl _)
 refine ⟨.ref s1.heap.objs.size,upd H1 s1.heap.objs.size (.lst xs),I1.laid (t':=s1.toks) (fun b u e=>Heap.get?_push_of_some _ e) (Nat.le_refl _) ?_,rfl,q _ hf⟩
 exact ⟨z,us,0,r,Heap.get?_push_size _ rfl⟩
end
abbrev Sp:=List V→Hp→VK→XK→Prop
abbrev CXT:=List Env→Hp→Shared→XK→Value→Shared→Prop
structure Env0 (P:Program) (w:World) (K:PySem.W.Frag) (mg:Str→Option Value) (base:Heap) (A:Around) (outer:List Env) (s:Shared) (H:Hp):Prop where
 frames:A.frames = some outer
 mod:Mod K mg base
 bs:∀ b o,base.get? b = some o→s.heap.get? b = some o∧H b = none
 bsz:base.objs.size≤s.heap.objs.size
 funs:s.heap.FunFrames base outer
 frf:∀ b∈frs outer,H b = none
 hok:HOk P w H s.heap
 bare:AllBare s.gens
def CE (outer:List Env) (P:Program) (w:World) (H:Hp) (s:Shared) (Q:VK) (u:Value) (s':Shared):Prop :=
 ∃ v H',s'.os = s.os∧AllBare s'.gens∧Un (frs outer) [] H H' s.heap s'.heap∧HOk P w H' s'.heap∧RelV v u∧Q v H'
def CR (CX:CXT) (outer:List Env) (P:Program) (w:World) (H:Hp) (s:Shared) (Q:VK) (E:XK) (r:Result) (s':Shared):Prop :=
 match r with
 | .ok (.ret u)=>CE outer P w H s Q u s'
 | .ok _=>False
 | .error e=>CX outer H s E e s'
structure FnOk (P:Program) (w:World) (K:PySem.W.Frag) (mg:Str→Option Value) (base:Heap) (CX:CXT) (k:Nat) (f:Addr) (fd:FuncData) (ps:List Str) (sp:Sp):Prop where
 len:∀ vs H Q E,sp vs H Q E→vs.length = ps.length
 run:∀ (A:Around) (outer:List Env) (s:Shared) (H:Hp) (args:Args) (us:List Value) (vs:List V) (Q:VK) (E:XK),Room k A→Env0 P w K mg base A outer s H→BindsTo s fd args (ps.zip us)→Vals vs us→sp vs H Q E →
  codeAny (model P w) A (.call (.ref f) args) (CR CX outer P w H s Q E) s
theorem FnOk.mono {P:Program} {w:World} {K:PySem.W.Frag} {mg:Str→Option Value} {base:Heap} {CX:CXT} {j k:Nat} {f:Addr} {fd:FuncData} {ps:List Str} {sp:Sp} (F:FnOk P w K mg base CX j f fd ps sp) (h:j≤k) :
  FnOk P w K mg base CX k f fd ps sp:=⟨F.len,fun A outer s H args us vs Q E hr=>F.run A outer s H args us vs Q E (hr.mono h)⟩
theorem FnOk.imp {P:Program} {w:World} {K:PySem.W.Frag} {mg:Str→Option Value} {base:Heap} {CX:CXT} {k:Nat} {f:Addr} {fd:FuncData} {ps:List Str} {sp sp':Sp} (F:FnOk P w K mg base CX k f fd ps sp)
  (h:∀ vs H Q E,sp' vs H Q E→sp vs H Q E):FnOk P w K mg base CX k f fd ps sp' :=
 ⟨fun vs H Q E q=>F.len vs H Q E (h _ _ _ _ q),fun A outer s H args us vs Q E hr he hb hv hs=>F.run A outer s H args us vs Q E hr he hb hv (h _ _ _ _ hs)⟩
theorem Env0.make {P:Program} {w:World} {K:PySem.W.Frag} {mg:Str→Option Value} {base:Heap} {A:Around} {outer:List Env} {s:Shared} {H:Hp} (e:Env0 P w K mg base A outer s H) (C:Addr) (us:List Value) (kw:List (Str× Value)) :
  Env0 P w K mg base (A.under (.builtin "type.__call__" ⟨.ref C :: us,kw⟩)) outer s H:=⟨by first | exact e.frames | (simpa [Around.under,Code.envs,Code.isFrame,pushEnvs] using e.frames),e.mod,e.bs,e.bsz,e.funs,e.frf,e.hok,e.bare⟩
section
variable {X:Cx} {pins:List (Addr× Obj)} {σ:St} {H:Hp} {s s':Shared}
theorem Inv.env0 (I:Inv X pins σ H s):Env0 X.prog X.w X.K X.mg X.base X.A X.stack s H :=
 ⟨I.ok.frames,I.ok.mod,I.bs,Nat.le_trans I.ok.bsz I.sz,I.stack,I.stkFree,I.hok,I.bare⟩
theorem Inv.after {Q:VK} {u:Value} (I:Inv X pins σ H s) (h:CE X.stack X.prog X.w H s Q u s'):EP X pins σ Q u s':=by
 obtain ⟨v,H',os,bare,un,hok,r,q⟩:=h
 obtain ⟨hh,g,d,t,os'⟩:=s'
 obtain rfl:os' = s.os:=os
 exact ⟨v,H',I.call (h':=hh) (g':=g) (d':=d) (t':=t) (ch:=[]) un hok bare (fun b z=>absurd z (by simp)),r,q⟩
end
def tCall (sp:Sp) (dvs:List V) (E:XK) (t:TA):TE:=fun σ H Q=>t σ H fun vs H1=>sp (vs ++ dvs) H1 Q E
def tMeth (C:Addr) (m:Str) (sp:Sp) (dvs:List V) (E:XK) (ta:TE) (t:TA):TE:=fun σ H Q=>ta σ H fun x H1=>∃ a dx fs,x = .ref a∧H1 a = some (.ins C dx fs)∧fs.lookup m = none ∧
 t σ H1 fun vs H2=>sp (x :: (vs ++ dvs)) H2 Q E
def tMake (C:Addr) (sp:Sp) (dvs:List V) (E:XK) (t:TA):TE:=fun σ H Q=>t σ H fun vs H1=>∀ x dx,H1 x = none→H1 dx = none→dx≠x →
 sp (.ref x :: (vs ++ dvs)) (upd (upd H1 dx (.own x)) x (.ins C dx [])) (fun v H2=>v = .non∧Q (.ref x) H2) E
def Binds (K:PySem.W.Frag) (fd:FuncData) (ps:List Str) (ds:List Value):Prop :=
 ∀ (s:Shared) (us:List Value),K.In s.heap→(us ++ ds).length = ps.length→BindsTo s fd ⟨us,[]⟩ (ps.zip (us ++ ds))
theorem Binds.all {K:PySem.W.Frag} {fd:FuncData} {ps:List Str} (h:∀ us:List Value,us.length = ps.length→bindArgs fd ⟨us,[]⟩ = pure (ps.zip us)):Binds K fd ps []:=fun s us _ hl=>by
 rw [List.append_nil] at hl ⊢
 exact .of_eq (h us hl)
def Passes (CX:CXT) (X:Cx) (E:XK):Prop:=∀ (pins:List (Addr× Obj)) (σ:St) (H:Hp) (s:Shared) (e:Value) (s':Shared),Inv X pins σ H s→CX X.stack H s E e s'→X.xe e s'
section
variable {X:Cx} {CX:CXT} {k:Nat} {f C:Addr} {fd:FuncData} {ps:List Str} {sp:Sp} {dvs:List V} {ds:List Value} {E:XK} {x m:Str} {p pos apos:Pos} {e o:Expr} {es:List Expr} {ta:TE} {t:TA}
theorem run_fn {pins:List (Addr× Obj)} {σ:St} {H:Hp} {s:Shared} {Q:VK} {us:List Value} {vs:List V} (F:FnOk X.prog X.w X.K X.mg X.base CX k f fd ps sp) (hr:Room k X.A) (hb:Binds X.K fd ps ds) (hd:Vals dvs ds) (hx:Passes CX X E)
  (I:Inv X pins σ H s) (r:Vals vs us) (h:sp (vs ++ dvs) H Q E):wpAny (model X.prog X.w) X.A (call (.ref f) us) (EP X pins σ Q) X.xe s:=by
 have r2:Vals (vs ++ dvs) (us ++ ds):=r.append hd
 have hl:(us ++ ds).length = ps.length:=by rw [← r2.length]; exact F.len _ _ _ _ h
 refine wpAny_call (codeAny_mono (F.run X.A X.stack s H ⟨us,[]⟩ (us ++ ds) (vs ++ dvs) Q E hr I.env0 (hb s us I.kIn hl) r2 h) fun r s' hq=>?_)
 cases r with
 | error e=>exact hx pins σ H s e s' I hq
 | ok fl =>
  cases fl with
  | ret u=>exact I.after hq
  | next=>exact False.elim hq
  | brk=>exact False.elim hq
  | cont=>exact False.elim hq
theorem pe_call (F:FnOk X.prog X.w X.K X.mg X.base CX k f fd ps sp) (hr:Room k X.A) (hg:Gl X x) (hm:X.mg x = some (.ref f)) (hk:PySem.W.keepIn X.K (.ref f) = true) (hb:Binds X.K fd ps ds) (hd:Vals dvs ds) (hx:Passes CX X E)
  (ha:PA X (e :: es) t) (hdb:(x == ("__debug__" : Str)) = false:=by decide) (he:starEach (e :: es) X.env = (false,eval e X.env) :: starEach es X.env:=by rfl) (hpl:(backTo pos (starEach es X.env)).any (·.1) = false:=by rfl) :
  PE X (.Call (.Name x p) (e :: es) [] pos) (tCall sp dvs E t):=by
 intro pins s σ H Q I h
 refine wpAny_Call_Name_kw (ld_glob I hg hm ?_ hdb)
 refine PySem.W.callWith_K (h₀:=X.base) I.ok.mod.kin hk (thn (ha pos pins s σ H _ I h) fun us s1 ⟨vs,H1,I1,r,q⟩=>⟨I1.kIn,?_⟩) he hpl
 exact run_fn F hr hb hd hx I1 r q
theorem pe_meth {pl:Sem Bool} (he:PE X o ta) (c:Cls X.K C) (hm:Meth X.K C m f) (F:FnOk X.prog X.w X.K X.mg X.base CX k f fd ps sp) (hr:Room k X.A) (hb:Binds X.K fd ps ds) (hd:Vals dvs ds) (hx:Passes CX X E) (ha:PA X (e :: es) t)
  (hst:starEach (e :: es) X.env = (false,eval e X.env) :: starEach es X.env:=by rfl) (hpl:(backTo pos (starEach es X.env)).any (·.1) = false:=by rfl)
  (ht:eval (.Call (.Attribute o m apos) (e :: es) [] pos) X.env = (do
   let ov ← eval o X.env
   standAt apos.atName
   let (f,first) ← holding [ov] (getMethod ov m pl)
   callWith pos f first (backTo pos (starEach (e :: es) X.env)) (backToKw pos (keywordEach [] X.env))):=by rfl) :
  PE X (.Call (.Attribute o m apos) (e :: es) [] pos) (tMeth C m sp dvs E ta t):=by
 intro pins s σ H Q I h
 refine PySem.W.methodCall_KW (pl:=pl) (thn (he pins s σ H _ I h) fun u s1 ⟨x,H1,I1,rx,a,dx,fs,ex,ea,l,q⟩=>?_) ht
 subst ex
 obtain rfl:u = Value.ref a:=rx
 refine getmeth_ok I1 ea c hm l ?_
 refine PySem.W.callWith_K (first:=[.ref a]) (h₀:=X.base) I.ok.mod.kin hm.kp (thn (ha pos pins s1 σ H1 _ I1 q) fun us s2 ⟨vs,H2,I2,r,q2⟩=>⟨I2.kIn,?_⟩) hst hpl
 exact run_fn (us:=.ref a :: us) (vs:=.ref a :: vs) F hr hb hd hx I2 (.cons rfl r) q2
theorem pe_meth0 {pl:Sem Bool} (he:PE X o ta) (c:Cls X.K C) (hm:Meth X.K C m f) (F:FnOk X.prog X.w X.K X.mg X.base CX k f fd ps sp) (hr:Room k X.A) (hb:Binds X.K fd ps ds) (hd:Vals dvs ds) (hx:Passes CX X E)
  (ht:eval (.Call (.Attribute o m apos) [] [] pos) X.env = (do
   let ov ← eval o X.env
   standAt apos.atName
   let (f,first) ← holding [ov] (getMethod ov m pl)
   callWith pos f first (backTo pos (starEach [] X.env)) (backToKw pos (keywordEach [] X.env))):=by rfl) :
  PE X (.Call (.Attribute o m apos) [] [] pos) (tMeth C m sp dvs E ta tNil):=by
 intro pins s σ H Q I h
 refine PySem.W.methodCall_KW (pl:=pl) (thn (he pins s σ H _ I h) fun u s1 ⟨x,H1,I1,rx,a,dx,fs,ex,ea,l,q⟩=>?_) ht
 subst ex
 obtain rfl:u = Value.ref a:=rx
 refine getmeth_ok I1 ea c hm l ?_
 exact PySem.W.callWith_K0 (first:=[.ref a]) I1.kIn hm.kp (run_fn (us:=[.ref a]) (vs:=[.ref a]) F hr hb hd hx I1 (.cons rfl .nil) q)
structure Mk (K:PySem.W.Frag) (C f:Addr):Prop where
 makes:PySem.W.makesIn K C = true
 init:PySem.W.findIn K (.ref C) "__init__" = some (some (.ref f))
 fn:PySem.W.isFn K (.ref f) = true
 kp:PySem.W.keepIn K (.ref C) = true
theorem run_make {pins:List (Addr× Obj)} {σ:St} {H:Hp} {s:Shared} {Q:VK} {us:List Value} {vs:List V} (M:Mk X.K C f) (F:FnOk X.prog X.w X.K X.mg X.base CX k f fd ps sp) (hr:Room (k + 1) X.A) (hb:Binds X.K fd ps ds) (hd:Vals dvs ds)
  (hx:Passes CX X E) (I:Inv X pins σ H s) (r:Vals vs us)
  (h:∀ x dx,H x = none→H dx = none→dx≠x→sp (.ref x :: (vs ++ dvs)) (upd (upd H dx (.own x)) x (.ins C dx [])) (fun v H2=>v = .non∧Q (.ref x) H2) E) :
  wpAny (model X.prog X.w) X.A (call (.ref C) us) (EP X pins σ Q) X.xe s:=by
 have hq:=h (s.heap.objs.size + 1) s.heap.objs.size (I.hok.fresh (Nat.le_succ _)) (I.hok.fresh (Nat.le_refl _)) (Nat.ne_of_lt (Nat.lt_succ_self _))
 have I2:=Inv.made (C:=C) I
 have r2:Vals (V.ref (s.heap.objs.size + 1) :: (vs ++ dvs)) (Value.ref (s.heap.objs.size + 1) :: (us ++ ds)):=.cons rfl (r.append hd)
 have hl:(Value.ref (s.heap.objs.size + 1) :: us ++ ds).length = ps.length:=by
  have e:=r2.length
  rw [F.len _ _ _ _ hq] at e
  exact e.symm
 refine wpAny_call (make_map (f:=f) I.kIn M.makes M.init (beq_iff_eq.mp M.fn) (codeAny_mono (F.run _ X.stack _ _ ⟨Value.ref (s.heap.objs.size + 1) :: us,[]⟩ (Value.ref (s.heap.objs.size + 1) :: (us ++ ds)) _ _ E (hr.make C us [])
  (I2.env0.make C us []) (hb _ (Value.ref (s.heap.objs.size + 1) :: us) I2.kIn hl) r2 hq) fun r s' hq'=>?_))
 cases r with
 | error e=>exact hx pins σ _ _ e s' I2 hq'
 | ok fl =>
  cases fl with
  | ret u =>
   obtain ⟨v,H',I3,rv,ev,q3⟩:=I2.after hq'
   subst ev
   exact ⟨rv,⟨V.ref (s.heap.objs.size + 1),H',I3,rfl,q3⟩⟩
  | next=>exact False.elim hq'
  | brk=>exact False.elim hq'
  | cont=>exact False.elim hq'
theorem pe_make (M:Mk X.K C f) (F:FnOk X.prog X.w X.K X.mg X.base CX k f fd ps sp) (hr:Room (k + 1) X.A) (hg:Gl X x) (hm:X.mg x = some (.ref C)) (hb:Binds X.K fd ps ds) (hd:Vals dvs ds) (hx:Passes CX X E)
  (ha:PA X (e :: es) t) (hdb:(x == ("__debug__" : Str)) = false:=by decide) (he:starEach (e :: es) X.env = (false,eval e X.env) :: starEach es X.env:=by rfl) (hpl:(backTo pos (starEach es X.env)).any (·.1) = false:=by rfl) :
  PE X (.Call (.Name x p) (e :: es) [] pos) (tMake C sp dvs E t):=by
 intro pins s σ H Q I h
 refine wpAny_Call_Name_kw (ld_glob I hg hm ?_ hdb)
 refine PySem.W.callWith_K (h₀:=X.base) I.ok.mod.kin M.kp (thn (ha pos pins s σ H _ I h) fun us s1 ⟨vs,H1,I1,r,q⟩=>⟨I1.kIn,?_⟩) he hpl
 exact run_make M F hr hb hd hx I1 r q
end
section
variable {X:Cx} {CX:CXT} {k:Nat} {f C:Addr} {fd:FuncData} {ps ks:List Str} {sp:Sp} {E:XK} {x m:Str} {p pos apos kpos:Pos} {e o:Expr} {es:List Expr} {kws:List Keyword} {te ta:TE} {t tk:TA} {nm:Option Str}
variable {g:List Value→List Value→List Value} {gV:List V→List V→List V}
end
structure FnScope (N P:List Str) (sc:Scope):Prop where
 kind:sc.kind = .function
 co:sc.isCoroutine = false
 gen:sc.isGenerator = false
 nd:N.Nodup
 pre:N.take P.length = P
 par:∀ x∈P,sc.names.lookup x = some .local∨sc.names.lookup x = some .cell
 nofree:∀ y∈sc.names,y.2≠.free
theorem bindL_out {kindOf:Str→Option NameKind} {x:Str}:∀ {binds:List (Str× Value)} {m:Str→Option Value},(∀ v,(x,v)∉binds)→bindL kindOf binds m x = m x
 | [],_,_=>rfl
 | (n,v) :: r,m,h=>by
  unfold bindL
  rw [bindL_out fun w hw=>h w (List.mem_cons_of_mem _ hw)]
  split
  ·have:x≠n:=by rintro rfl; exact h v List.mem_cons_self
   simp [this]
  ·rfl
theorem bindC_out {kindOf:Str→Option NameKind} {x:Str}:∀ {binds:List (Str× Value)} {m:Str→Option Value},(∀ v,(x,v)∉binds)→bindC kindOf binds m x = m x
 | [],_,_=>rfl
 | (n,v) :: r,m,h=>by
  unfold bindC
  rw [bindC_out fun w hw=>h w (List.mem_cons_of_mem _ hw)]
  split
  ·rfl
  ·have:x≠n:=by rintro rfl; exact h v List.mem_cons_self
   simp [this]
theorem bindL_get {kindOf:Str→Option NameKind} {x:Str} {v:Value}:∀ {P:List Str} {vs:List Value} {i:Nat} {m:Str→Option Value},P.Nodup→P[i]? = some x→vs[i]? = some v→kindOf x = some .local →
  bindL kindOf (P.zip vs) m x = some v
 | [],_,_,_,_,h,_,_=>by simp at h
 | _ :: _,[],_,_,_,_,h,_=>by simp at h
 | p :: P,w :: vs,0,m,nd,h1,h2,hk=>by
  simp at h1 h2; subst h1; subst h2
  show bindL kindOf ((p,w) :: P.zip vs) m p = _
  unfold bindL
  rw [bindL_out fun v hv=>(List.nodup_cons.mp nd).1 (List.of_mem_zip hv).1,if_pos hk]
  simp
 | p :: P,w :: vs,i + 1,m,nd,h1,h2,hk=>by
  show bindL kindOf ((p,w) :: P.zip vs) m x = _
  unfold bindL
  exact bindL_get (i:=i) (List.nodup_cons.mp nd).2 (by simpa using h1) (by simpa using h2) hk
theorem bindC_get {kindOf:Str→Option NameKind} {x:Str} {v:Value}:∀ {P:List Str} {vs:List Value} {i:Nat} {m:Str→Option Value},P.Nodup→P[i]? = some x→vs[i]? = some v→kindOf x≠some .local →
  bindC kindOf (P.zip vs) m x = some v
 | [],_,_,_,_,h,_,_=>by simp at h
 | _ :: _,[],_,_,_,_,h,_=>by simp at h
 | p :: P,w :: vs,0,m,nd,h1,h2,hk=>by
  simp at h1 h2; subst h1; subst h2
  show bindC kindOf ((p,w) :: P.zip vs) m p = _
  unfold bindC
  rw [bindC_out fun v hv=>(List.nodup_cons.mp nd).1 (List.of_mem_zip hv).1,if_neg hk]
  simp
 | p :: P,w :: vs,i + 1,m,nd,h1,h2,hk=>by
  show bindC kindOf ((p,w) :: P.zip vs) m x = _
  unfold bindC
  exact bindC_get (i:=i) (List.nodup_cons.mp nd).2 (by simpa using h1) (by simpa using h2) hk
def start (N:List Str) (vs:List V):St:=vs.map some ++ List.replicate (N.length - vs.length) none
def cxOf (CX:CXT) (P:Program) (w:World) (K:PySem.W.Frag) (mg:Str→Option Value) (base:Heap) (N:List Str) (qual:Str) (scope:Scope) (f:Addr) (cd:Value) (A:Around) (outer:List Env) (s:Shared) (H:Hp) (E:XK):Cx where
 prog:=P
 w:=w
 K:=K
 mg:=mg
 base:=base
 A:=A.deeper (envOfC qual scope s.heap.objs.size f cd)
 N:=N
 s₀:=s
 H₀:=H
 env:=envOfC qual scope s.heap.objs.size f cd
 outer:=outer
 stack:=envOfC qual scope s.heap.objs.size f cd :: outer
 ex:=[]
 calm:=true
 fn:=fun _=>true
 pn:=[]
 xe:=fun e s'=>wpAny (model P w) (A.deeper (envOfC qual scope s.heap.objs.size f cd)) (leaving (envOfC qual scope s.heap.objs.size f cd) e) (fun _ s''=>CX outer H s E e s'') (fun e' s''=>CX outer H s E e' s'') s'
theorem cell_has {sc:Scope} {n:Nat} {x:Str} (h:sc.names.lookup x = some .cell):∃ c,(cellsFrom n sc.names []).lookup x = some c:=by
 have q:=PySem.W.cellsFrom_some sc.names n [] (.inl h)
 exact Option.isSome_iff_exists.mp q
theorem inv_start {CX:CXT} {P:Program} {w:World} {K:PySem.W.Frag} {mg:Str→Option Value} {base:Heap} {N ps:List Str} {qual:Str} {scope:Scope} {f:Addr} {cd:Value} {A:Around} {outer:List Env} {s s1:Shared} {H:Hp} {E:XK} {us:List Value} {vs:List V}
  (S:FnScope N ps scope) (hd:A.handled = none) (e0:Env0 P w K mg base A outer s H) (hl:vs.length = ps.length) (r:Vals vs us)
  (x:InCallC s s.heap.objs.size (bindL (envOfC qual scope s.heap.objs.size f cd).kindOf (ps.zip us) fun _=>none) (cellsFrom (s.heap.objs.size + 1) scope.names []) (bindC (envOfC qual scope s.heap.objs.size f cd).kindOf (ps.zip us) fun _=>none) s1) :
  Inv (cxOf CX P w K mg base N qual scope f cd A outer s H E) [] (start N vs) H s1:=by
 have hpl:ps.length≤N.length:=by have:=congrArg List.length S.pre; rw [List.length_take] at this; omega
 obtain ⟨h1,tk,rfl,hk⟩:=x.done
 have noA:∀ b:Addr,b∉(cxOf CX P w K mg base N qual scope f cd A outer s H E).ex:=fun b z=>absurd (show b∈([]:List Addr) from z) (by simp)
 refine ⟨⟨e0.mod,S.kind,rfl,rfl,Nat.le_refl _,fun y z c h1 h2=>?_,fun y hy=>?_,fun y c _ h=>?_,fun _=>hd,Around.frames_deeper e0.frames,.inr ⟨rfl,rfl⟩,fun b z=>absurd z (noA b),e0.bs,e0.bsz,fun b _ _=>noA b,fun b z=>absurd z (noA b),e0.funs,e0.frf⟩,
  rfl,e0.bare,Un.kept hk,⟨_,x.toInCall.ns,fun i y v h1 h2 h3=>?_⟩,fun y c h=>⟨_,x.cell y c h⟩,e0.hok.fresh (Nat.le_refl _),fun y c h=>?_,fun p hp=>absurd (show p∈([]:List (Addr× Obj)) from hp) (by simp),e0.hok.kept hk,?_⟩
 ·exact name_of_addr x.apart (PySem.mem_of_lookup h1) (PySem.mem_of_lookup h2)
 ·have hy:scope.names.lookup y = some .cell∨scope.names.lookup y = some .free:=hy
  rcases hy with hy | hy
  ·exact cell_has hy
  ·exact absurd rfl (S.nofree _ (PySem.mem_of_lookup hy))
 ·exact Nat.le_of_lt (x.above y c (PySem.mem_of_lookup h))
 ·have hi:i < vs.length:=by
   unfold start at h2
   by_cases hi:i < vs.length
   ·exact hi
   ·rw [List.getElem?_append_right (by simpa using hi)] at h2
    rw [List.getElem?_replicate] at h2
    split at h2 <;> cases h2
  have ha:vs[i]? = some v:=by
   unfold start at h2
   rw [List.getElem?_append_left (by simpa using hi),List.getElem?_map] at h2
   cases e:vs[i]? with
   | none=>rw [e] at h2; cases h2
   | some a=>rw [e] at h2; cases h2; rfl
  obtain ⟨u,hu,rv⟩:=r.get ha
  have hp:ps[i]? = some y:=by
   rw [← S.pre,List.getElem?_take_of_lt (by omega)]; exact h1
  have ndP:ps.Nodup:=by rw [← S.pre]; exact S.nd.sublist (List.take_sublist _ _)
  refine ⟨u,rv,?_⟩
  rcases S.par y (List.mem_of_getElem? hp) with k | k
  ·exact .inl ⟨k,bindL_get ndP hp hu k⟩
  ·obtain ⟨c,e⟩:=cell_has (n:=s.heap.objs.size + 1) k
   refine .inr ⟨.inl k,c,e,?_⟩
   have q:=x.cell y c e
   rw [bindC_get ndP hp hu (by show scope.names.lookup y≠_; rw [k]; decide)] at q
   exact q
 ·exact e0.hok.fresh (Nat.le_of_lt (x.above y c (PySem.mem_of_lookup h)))
 ·unfold start
  show _ = N.length
  rw [List.length_append,List.length_map,List.length_replicate]
  omega
theorem fn_of {CX:CXT} {P:Program} {w:World} {K:PySem.W.Frag} {mg:Str→Option Value} {base:Heap} {k:Nat} {f:Addr} {name qual:Str} {params:Arguments} {body:List Stmt} {scope:Scope} {dV kV doc pm cdv ct oc:Value} {an od:Option Addr}
  {osl:Array (Option Value)} {N ps:List Str} {sp:Sp} (lk:K.lookup f = some ⟨oc,od,.func (PySem.W.fnOf name qual params body scope dV kV doc pm an cdv ct),osl⟩) (hcd:PySem.W.codeIn K cdv qual = true) (S:FnScope N ps scope)
  (len:∀ vs H Q E,sp vs H Q E→vs.length = ps.length)
  (hbody:∀ (A:Around) (outer:List Env) (s:Shared) (H:Hp) (vs:List V) (Q:VK) (E:XK),Room k (A.deeper (envOfC qual scope s.heap.objs.size f cdv))→sp vs H Q E →
   ∃ t,PSs (cxOf CX P w K mg base N qual scope f cdv A outer s H E) body t∧t { nx:=fun _ H'=>Q .non H',rt:=Q } (start N vs) H) :
  FnOk P w K mg base CX (k + 1) f (PySem.W.fnOf name qual params body scope dV kV doc pm an cdv ct) ps sp:=by
 refine ⟨len,fun A outer s H args us vs Q E hr e0 hb r hsp=>?_⟩
 have hl:=len _ _ _ _ hsp
 have KX:K.In s.heap:=e0.mod.kin.keeps fun b o e=>(e0.bs b o e).1
 have lim:s.heap.NoLimit:=e0.mod.nolimit.keeps fun b o e=>(e0.bs b o e).1
 have hkind:∀ y∈ps.zip us,scope.names.lookup y.1 = some .local∨(scope.names.lookup y.1 = some .cell∧((cellsFrom (s.heap.objs.size + 1) scope.names []).lookup y.1).isSome = true):=fun ⟨n,v⟩ hy=>by
  rcases S.par n (List.of_mem_zip hy).1 with q | q
  ·exact .inl q
  ·exact .inr ⟨q,PySem.W.cellsFrom_some _ _ _ (.inl q)⟩
 refine codeAny_call_function hr.depth (KX _ _ lk) rfl S.co S.gen rfl (PySem.W.codeRec_of KX hcd) (hb _ _ _ _ ?_)
 refine wpAny_newFunctionEnv_cells S.kind hkind fun env he s1 x=>?_
 subst he
 refine ⟨lim.keeps x.toInCall.keep,codeAny_func ?_⟩
 obtain ⟨t,ht,hq⟩:=hbody A outer s H vs Q E (hr.deeper _) hsp
 have I:Inv (cxOf CX P w K mg base N qual scope f cdv A outer s H E) [] (start N vs) H s1:=inv_start S hr.hd e0 hl r x
 refine wpAny_mono (ht [] s1 (start N vs) H _ I hq) (fun fl s' hs=>?_) fun e s' hs=>hs
 have fin:∀ {σ':St} {H':Hp} {v:V} {u:Value},Inv (cxOf CX P w K mg base N qual scope f cdv A outer s H E) [] σ' H' s'→RelV v u→Q v H'→CE outer P w H s Q u s' :=
  fun {σ' H' v u} J rv q=>⟨v,H',J.os,J.bare,J.base,J.hok,rv,q⟩
 cases fl with
 | ret u =>
  obtain ⟨v,σ',H',J,rv,q⟩:=hs
  exact fin J rv q
 | next =>
  obtain ⟨σ',H',J,q⟩:=hs
  exact fin (v:=V.non) (u:=Value.none) J rfl q
 | brk =>
  obtain ⟨_,_,_,q⟩:=hs
  exact False.elim q
 | cont =>
  obtain ⟨_,_,_,q⟩:=hs
  exact False.elim q
end L2
namespace L2
open PySem PySem.Spec PyProof.Rows
section
variable {X:Cx} {x:Str} {p pos:Pos} {e:Expr} {es:List Expr} {t:TA} {id T:String} {r:List V→Hp→VK→Prop}
def tCB (r:List V→Hp→VK→Prop) (t:TA):TE:=fun σ H Q=>t σ H fun vs H1=>r vs H1 Q
theorem pe_callB (hc:CallR X (.builtin id) r) (hg:Gl X x) (hm:X.mg x = none) (hv:bootBuiltins x = some (.builtin id)) (ha:PA X (e :: es) t) (hn:x≠ "__name__" := by decide) (hdb:(x == ("__debug__" : Str)) = false:=by decide)
  (he:starEach (e :: es) X.env = (false,eval e X.env) :: starEach es X.env:=by rfl) (hpl:(backTo pos (starEach es X.env)).any (·.1) = false:=by rfl):PE X (.Call (.Name x p) (e :: es) [] pos) (tCB r t):=by
 intro pins s σ H Q I h
 refine wpAny_Call_Name_kw (ld_blt I hg hm hv ?_ hn hdb)
 exact PyProof.Rows.callWith_builtin1 (thn (ha pos pins s σ H _ I h) fun us s1 ⟨vs,H1,I1,r1,q1⟩=>hc pins s1 σ H1 vs us Q I1 r1 q1) he hpl
theorem pe_callTy (hc:CallR X (.type T) r) (hg:Gl X x) (hm:X.mg x = none) (hv:bootBuiltins x = some (.type T)) (ha:PA X (e :: es) t) (hn:x≠ "__name__" := by decide) (hdb:(x == ("__debug__" : Str)) = false:=by decide)
  (he:starEach (e :: es) X.env = (false,eval e X.env) :: starEach es X.env:=by rfl) (hpl:(backTo pos (starEach es X.env)).any (·.1) = false:=by rfl):PE X (.Call (.Name x p) (e :: es) [] pos) (tCB r t):=by
 intro pins s σ H Q I h
 refine wpAny_Call_Name_kw (ld_blt I hg hm hv ?_ hn hdb)
 exact PyProof.Rows.callWith_type1 (thn (ha pos pins s σ H _ I h) fun us s1 ⟨vs,H1,I1,r1,q1⟩=>hc pins s1 σ H1 vs us Q I1 r1 q1) he hpl
end
end L2
namespace HT
open PySem PyProof.Rows
section
open PySem.SeqAt
open PySem.AutoSeq1 (wpAny_loadPart')
open PySem.MeetsSeq PySem.MeetsSeq2 PySem.MeetsSeq3
end
section
variable {prog:Program} {w:World} {A:Around} {E:Value→Shared→Prop} {s:Shared}
def sIx (n d:Nat):Option Int→Nat
 | none=>d
 | some v=>if v < 0 then (v + (n:Int)).toNat else min v.toNat n
theorem sIx_none (n d:Nat):sIx n d none = d:=rfl
theorem sIx_nat (n d k:Nat):sIx n d (some (k:Int)) = min k n:=by
 show (if (k:Int) < 0 then ((k:Int) + (n:Int)).toNat else min (k:Int).toNat n) = min k n
 rw [if_neg (by omega),Int.toNat_natCast]
end
end HT
namespace L2
open PySem PySem.Spec PyProof.Rows
abbrev TO:=St→Hp→(Option Int→Hp→Prop)→Prop
def PO (X:Cx) (e:Option Expr) (t:TO):Prop :=
 ∀ (pins:List (Addr× Obj)) (s:Shared) (σ:St) (H:Hp) (Q:Option Int→Hp→Prop),Inv X pins σ H s→t σ H Q →
  wpAny (model X.prog X.w) X.A (evalPart e X.env) (fun u s'=>∃ o H',Inv X pins σ H' s'∧IsPart u o∧Q o H') X.xe s
def tNoPart:TO:=fun _ H Q=>Q none H
def tPart (t:TE):TO:=fun σ H Q=>t σ H fun x H1=>∃ i,x = .int i∧Q (some i) H1
section
variable {X:Cx} {e:Expr} {te:TE} {lo hi:Option Expr} {tl th:TO} {pos p2:Pos}
theorem po_none:PO X none tNoPart:=by
 intro pins s σ H Q I h
 rw [evalPart_none]
 exact wpAny_pure ⟨none,H,I,.none,h⟩
theorem po_some (h:PE X e te):PO X (some e) (tPart te):=by
 intro pins s σ H Q I hw
 rw [evalPart_some]
 refine thn (h pins s σ H _ I hw) fun u s1 ⟨x,H1,I1,r1,q1⟩=>?_
 obtain ⟨i,rfl,q⟩:=q1
 obtain ⟨t,rfl⟩:=r1
 exact ⟨some i,H1,I1,.int i t,q⟩
def SlR (X:Cx) (r:V→Option Int→Option Int→Hp→VK→Prop):Prop :=
 ∀ (pins:List (Addr× Obj)) (s:Shared) (σ:St) (H:Hp) (x:V) (v vl vu:Value) (lo hi:Option Int) (sl:Addr) (Q:VK),Inv X pins σ H s→RelV x v→s.heap.IsSliceOf sl vl vu .none→IsPart vl lo→IsPart vu hi→r x lo hi H Q →
  ∃ T id,typeLookup (.type T) "__getitem__" = pure (some (.builtin id))∧s.TypeIs v T∧wpAny (model X.prog X.w) X.A (getItem v (.ref sl)) (EP X pins σ Q) X.xe s
def tSl (r:V→Option Int→Option Int→Hp→VK→Prop) (te:TE) (tl th:TO):TE:=fun σ H Q=>te σ H fun x H1=>tl σ H1 fun l H2=>th σ H2 fun u H3=>r x l u H3 Q
theorem pe_slice {r:V→Option Int→Option Int→Hp→VK→Prop} (hr:SlR X r) (he:PE X e te) (hl:PO X lo tl) (hu:PO X hi th):PE X (.Subscript e (.Slice lo hi none p2) pos) (tSl r te tl th):=by
 intro pins s σ H Q I h
 refine Subscript_ (thn (he pins s σ H _ I h) fun v s1 ⟨x,H1,I1,r1,q1⟩=>?_)
 refine wpAny_Slice (thn (hl pins s1 σ H1 _ I1 q1) fun vl s2 ⟨l,H2,I2,pl,q2⟩=>thn (hu pins s2 σ H2 _ I2 q2) fun vu s3 ⟨u,H3,I3,pu,q3⟩=>?_)
 rw [evalPart_none]
 refine wpAny_pure ?_
 have I4:Inv X pins σ H3 { s3 with heap:=s3.heap.push { cls:=.type "slice", data:=.fields #[vl,vu,.none] } }:=I3.kept (t':=s3.toks) fun b ob q=>Heap.get?_push_of_some _ q
 obtain ⟨T,id,hT,ht,hg⟩:=hr pins { s3 with heap:=s3.heap.push { cls:=.type "slice", data:=.fields #[vl,vu,.none] } } σ H3 x v vl vu l u s3.heap.objs.size Q I4 r1 (Heap.IsSliceOf.new ..) pl pu q3
 show wpAny (model X.prog X.w) X.A (subscriptTail e (.Slice lo hi none p2) v (.ref s3.heap.objs.size)) (EP X pins σ Q) X.xe { s3 with heap:=s3.heap.push { cls:=.type "slice", data:=.fields #[vl,vu,.none] } }
 exact tail_any (ops:=[.ref s3.heap.objs.size,v]) ht hT hg (by with_unfolding_all rfl)
def cutV (xs:List V) (lo hi:Option Int):List V:=(xs.drop (HT.sIx xs.length 0 lo)).take (HT.sIx xs.length xs.length hi - HT.sIx xs.length 0 lo)
theorem cutV_length (xs:List V) (lo hi:Option Int):(cutV xs lo hi).length≤xs.length:=by
 unfold cutV
 rw [List.length_take,List.length_drop]
 omega
end
end L2
namespace L2
open PySem PySem.Spec PyProof.Rows
def ixN (n:Nat) (i:Int):Option Nat:=if 0≤i then (if i < n then some i.toNat else none) else if -(n:Int)≤i then some (i + n).toNat else none
def atI {α:Type} (xs:List α) (i:Int):Option α:=(ixN xs.length i).bind fun j=>xs[j]?
theorem ixN_seq {n:Nat} {i:Int} {j:Nat} (h:ixN n i = some j):seqIndex? i n = some j∧j < n∧-(n:Int)≤i∧i < n:=by
 unfold ixN at h
 by_cases h0:0≤i
 ·rw [if_pos h0] at h
  by_cases h1:i < n
  ·rw [if_pos h1] at h
   have e:i.toNat = j:=Option.some.inj h
   exact ⟨by rw [seqIndex_of h0 h1,e],by omega,by omega,h1⟩
  ·rw [if_neg h1] at h; cases h
 ·rw [if_neg h0] at h
  by_cases h1:-(n:Int)≤i
  ·rw [if_pos h1] at h
   have e:(i + n).toNat = j:=Option.some.inj h
   exact ⟨by rw [seqIndex_neg (by omega) h1,e],by omega,h1,by omega⟩
  ·rw [if_neg h1] at h; cases h
theorem atI_get {α:Type} {xs:List α} {i:Int} {v:α} (h:atI xs i = some v):∃ j,seqIndex? i xs.length = some j∧xs[j]? = some v∧j < xs.length∧-(xs.length:Int)≤i∧i < xs.length:=by
 unfold atI at h
 cases e:ixN xs.length i with
 | none=>rw [e] at h; cases h
 | some j =>
  rw [e] at h
  obtain ⟨h1,h2,h3,h4⟩:=ixN_seq e
  exact ⟨j,h1,h,h2,h3,h4⟩
theorem atI_nat {α:Type} {xs:List α} {j:Nat} {v:α} (h:xs[j]? = some v):atI xs (j:Int) = some v:=by
 have hj:j < xs.length:=(List.getElem?_eq_some_iff.mp h).1
 have e:ixN xs.length (j:Int) = some j:=by
  unfold ixN
  rw [if_pos (by omega),if_pos (by omega)]; simp
 unfold atI; rw [e]; exact h
def PlainIx (b:Expr):Prop:=∀ o i,subscripted b false o i = operate [o,i] (getItem o i)
def IxR (X:Cx) (r:R2):Prop :=
 ∀ (value slice:Expr) (pins:List (Addr× Obj)) (s:Shared) (σ:St) (H:Hp) (x y:V) (v u:Value) (Q:VK),Inv X pins σ H s→RelV x v→RelV y u→r x y H Q →
  subscripted slice false v u = operate [v,u] (getItem v u)→wpAny (model X.prog X.w) X.A (subscriptTail value slice v u) (EP X pins σ Q) X.xe s
def MtR (X:Cx) (id:String) (r:V→List V→Hp→VK→Prop):Prop :=
 ∀ (pins:List (Addr× Obj)) (s:Shared) (σ:St) (H:Hp) (x:V) (xs:List V) (v:Value) (us:List Value) (Q:VK),Inv X pins σ H s→RelV x v→Vals xs us→r x xs H Q →
  wpAny (model X.prog X.w) X.A (call (.builtin id) (v :: us)) (EP X pins σ Q) X.xe s
section
variable {X:Cx} {a b:Expr} {ta tb:TE} {pos:Pos}
theorem pe_ix {r:R2} (hr:IxR X r) (ha:PE X a ta) (hb:PE X b tb) (hs:PlainIx b):PE X (.Subscript a b pos) (tOp r ta tb):=by
 intro pins s σ H Q I h
 exact Subscript_ (binT ha hb I h fun v u s2 x y H2 I2 rx ry q=>hr a b pins s2 σ H2 x y v u Q I2 rx ry q (hs _ _))
def rIxL (K:PySem.W.Frag):R2:=fun x y H Q=>∃ p xs i v,x = .ref p∧y = .int i∧SqL K H p xs∧atI xs i = some v∧Q v H
def rIxT (K:PySem.W.Frag):R2:=fun x y H Q=>∃ p xs i v,x = .ref p∧y = .int i∧SqT K H p xs∧atI xs i = some v∧Q v H
def rIxS:R2:=fun x y H Q=>∃ z i c,x = .str z∧y = .int i∧z.length≤sizeLine∧atI z.cps.toList i = some c∧Q (.str ⟨#[c]⟩) H
theorem ix_list:IxR X (rIxL X.K):=by
 intro value slice pins s σ H x y v u Q I rx ry h hs
 obtain ⟨p,xs,i,z,rfl,rfl,hq,he,q⟩:=h
 cases rx
 obtain ⟨t,rfl⟩:=ry
 obtain ⟨its,r,pl,hz⟩:=I.list hq
 obtain ⟨j,h1,h2,h3,h4,h5⟩:=atI_get he
 obtain ⟨w,ew,rw'⟩:=r.get h2
 have hl:=r.length
 have hn:=line63
 have fin:EP X pins σ Q w s:=⟨z,H,I,rw',q⟩
 by_cases h0:0≤i
 ·have hj:i.toNat = j:=by
   rw [seqIndex_of h0 h5] at h1
   exact Option.some.inj h1
  exact item_listR pl.isList h0 (by omega) (by rw [hj]; simpa using ew) fin hs
 ·have hj:(i + (its.toArray.size:Int)).toNat = j:=by
   rw [seqIndex_neg (by omega) h4] at h1
   rw [List.size_toArray,← hl]
   exact Option.some.inj h1
  exact subscriptTail_builtinR (x:=w) pl.isList.typeIs slot_list_getitem.lookup
   (wpAny_getItem_list_neg (Q:=fun r s'=>r = w∧EP X pins σ Q r s') pl.isList (by omega) (by rw [List.size_toArray] <;> omega) (by omega) (by rw [hj]; simpa using ew) ⟨rfl,fin⟩) hs
theorem ix_tup:IxR X (rIxT X.K):=by
 intro value slice pins s σ H x y v u Q I rx ry h hs
 obtain ⟨p,xs,i,z,rfl,rfl,hq,he,q⟩:=h
 cases rx
 obtain ⟨t,rfl⟩:=ry
 obtain ⟨its,r,pl,hz⟩:=I.tuple hq
 obtain ⟨j,h1,h2,h3,h4,h5⟩:=atI_get he
 obtain ⟨w,ew,rw'⟩:=r.get h2
 have hl:=r.length
 have hn:=line63
 have fin:EP X pins σ Q w s:=⟨z,H,I,rw',q⟩
 exact subscriptTail_builtinR (x:=w) pl.typeIs slot_tuple_getitem.lookup
  (getItem_tuple (j:=j) (Q:=fun r s'=>r = w∧EP X pins σ Q r s') pl (by omega) (by omega) (by rw [List.size_toArray,← hl]; exact h1) (by simpa using ew) ⟨rfl,fin⟩) hs
theorem ix_str:IxR X rIxS:=by
 intro value slice pins s σ H x y v u Q I rx ry h hs
 obtain ⟨z,i,c,rfl,rfl,hz,he,q⟩:=h
 obtain ⟨t,rfl⟩:=rx
 obtain ⟨t',rfl⟩:=ry
 obtain ⟨j,h1,h2,h3,h4,h5⟩:=atI_get he
 have hl:z.cps.toList.length = z.length:=by simp [Str.length]
 rw [hl] at h1 h4 h5
 have hn:=line63
 exact tail_any (typeIs_str s z t) slot_str_getitem.lookup (getItem_str (c:=c) (by
  have e1:decide (i < -(2 ^ 63:Int)) = false:=decide_eq_false (by omega)
  have e2:decide (i ≥ 2 ^ 63) = false:=decide_eq_false (by omega)
  rw [e1,e2,Bool.or_false]) (by rw [h1]; simpa using h2) ⟨.str ⟨#[c]⟩,H,I.tok _,⟨_,rfl⟩,q⟩) hs
theorem slice_bounds (lo hi:Option Int) (n:Nat):(sliceBounds lo hi none n).1 = ((HT.sIx n 0 lo:Nat):Int)∧(sliceBounds lo hi none n).2.1 = ((HT.sIx n n hi:Nat):Int)∧(sliceBounds lo hi none n).2.2 = 1:=by
 refine ⟨?_,?_,rfl⟩
 ·cases lo with
  | none=>simp [sliceBounds,HT.sIx]
  | some i =>
   simp only [sliceBounds,HT.sIx,Option.getD_none,show (1:Int) > 0 by decide,if_true]
   by_cases h:i < 0
   ·simp only [h,if_true] <;> omega
   ·simp only [h,if_false] <;> omega
 ·cases hi with
  | none=>simp [sliceBounds,HT.sIx]
  | some i =>
   simp only [sliceBounds,HT.sIx,Option.getD_none,show (1:Int) > 0 by decide,if_true]
   by_cases h:i < 0
   ·simp only [h,if_true] <;> omega
   ·simp only [h,if_false] <;> omega
theorem slicePick_cut (its:List Value) (lo hi:Option Int):slicePick its.toArray lo hi none = ((its.drop (HT.sIx its.length 0 lo)).take (HT.sIx its.length its.length hi - HT.sIx its.length 0 lo)).toArray:=by
 obtain ⟨h1,h2,h3⟩:=slice_bounds lo hi its.toArray.size
 unfold slicePick
 rw [h1,h2,h3]
 simp only [sliceRange_one,pick_run,List.size_toArray] <;> rfl
def rSlL (K:PySem.W.Frag):V→Option Int→Option Int→Hp→VK→Prop:=fun x lo hi H Q=>∃ a xs,x = .ref a∧SqL K H a xs∧∀ p,H p = none→Q (.ref p) (upd H p (.lst (cutV xs lo hi)))
theorem sl_list:SlR X (rSlL X.K):=by
 intro pins s σ H x v vl vu lo hi sl Q I rx hs pl pu h
 obtain ⟨a,xs,rfl,hx,q⟩:=h
 cases rx
 obtain ⟨its,r,ht,hz⟩:=I.list hx
 have hlen:=r.length
 refine ⟨"list", _,slot_list_getitem.lookup,ht.isList.typeIs,?_⟩
 refine wpAny_getItem_list_slice ht.isList hs pl pu .none (by simp) ?_ (by rw [List.size_toArray] <;> omega)
 rw [slicePick_cut,← hlen]
 refine ⟨.ref s.heap.objs.size,_,I.laid (t':=s.toks) (o:=.lst (cutV xs lo hi)) (fun b ob q=>Heap.get?_push_of_some _ q) (Nat.le_refl _) ?_,rfl,q _ (I.hok.fresh (Nat.le_refl _))⟩
 exact ⟨Nat.le_trans (cutV_length xs lo hi) hz,_,0,(r.drop (HT.sIx xs.length 0 lo)).take (HT.sIx xs.length xs.length hi - HT.sIx xs.length 0 lo),Heap.get?_push_size _ rfl⟩
def flatV:V→Bool
 | .non=>true
 | .bl _=>true
 | .int _=>true
 | .str _=>true
 | _=>false
def eqV:V→V→Bool
 | .non,.non=>true
 | .bl a,.bl b=>a == b
 | .bl a,.int b=>(if a then 1 else 0) == b
 | .int a,.bl b=>a == (if b then 1 else 0)
 | .int a,.int b=>a == b
 | .str a,.str b=>a == b
 | _,_=>false
theorem eqAt_V {A:Around} {s:Shared} {y x:V} {u v:Value} (ry:RelV y u) (rx:RelV x v) (fy:flatV y = true) (fx:flatV x = true):SeqAt.EqAt A s u v (eqV y x):=by
 cases y with
 | non =>
  cases ry
  cases x with
  | non=>cases rx; exact SeqAt.EqAt.same _
  | bl b=>cases rx; exact SeqAt.EqAt.none_bool b
  | int b=>obtain ⟨t,rfl⟩:=rx; exact SeqAt.EqAt.none_int b t
  | str b=>obtain ⟨t,rfl⟩:=rx; exact SeqAt.EqAt.none_str b t
  | _=>exact absurd (show false = true from fx) Bool.false_ne_true
 | bl a =>
  cases ry
  cases x with
  | non=>cases rx; exact SeqAt.EqAt.bool_none a
  | bl b=>cases rx; exact SeqAt.EqAt.bool_bool a b
  | int b=>obtain ⟨t,rfl⟩:=rx; exact SeqAt.EqAt.bool_int a b t
  | str b=>obtain ⟨t,rfl⟩:=rx; exact SeqAt.EqAt.bool_str a b t
  | _=>exact absurd (show false = true from fx) Bool.false_ne_true
 | int a =>
  obtain ⟨t',rfl⟩:=ry
  cases x with
  | non=>cases rx; exact SeqAt.EqAt.int_none a t'
  | bl b=>cases rx; exact SeqAt.EqAt.int_bool a t' b
  | int b=>obtain ⟨t,rfl⟩:=rx; exact SeqAt.EqAt.int_int a t' b t
  | str b=>obtain ⟨t,rfl⟩:=rx; exact SeqAt.EqAt.int_str a t' b t
  | _=>exact absurd (show false = true from fx) Bool.false_ne_true
 | str a =>
  obtain ⟨t',rfl⟩:=ry
  cases x with
  | non=>cases rx; exact SeqAt.EqAt.str_none a t'
  | bl b=>cases rx; exact SeqAt.EqAt.str_bool a t' b
  | int b=>obtain ⟨t,rfl⟩:=rx; exact SeqAt.EqAt.str_int a t' b t
  | str b=>obtain ⟨t,rfl⟩:=rx; exact SeqAt.EqAt.str_str a t' b t
  | _=>exact absurd (show false = true from fx) Bool.false_ne_true
 | _=>exact absurd (show false = true from fy) Bool.false_ne_true
def eqU (x:V) (u:Value):Bool:=match u with
 | .none=>eqV .non x
 | .bool b=>eqV (.bl b) x
 | .int i _=>eqV (.int i) x
 | .str z _=>eqV (.str z) x
 | _=>false
theorem eqU_of {x y:V} {u:Value} (r:RelV y u) (f:flatV y = true):eqU x u = eqV y x:=by
 cases y with
 | non=>cases r; rfl
 | bl b=>cases r; rfl
 | int i=>obtain ⟨t,rfl⟩:=r; rfl
 | str z=>obtain ⟨t,rfl⟩:=r; rfl
 | _=>exact absurd (show false = true from f) Bool.false_ne_true
theorem any_eqU {x:V}:∀ {xs:List V} {us:List Value},Vals xs us→xs.all flatV = true→us.any (eqU x) = xs.any fun y=>eqV y x
 | _,_,.nil,_=>rfl
 | y :: xs,u :: us,.cons r t,f=>by
  rw [List.all_cons,Bool.and_eq_true] at f
  rw [List.any_cons,List.any_cons,eqU_of r f.1,any_eqU t f.2]
theorem mem_eqAt {A:Around} {s:Shared} {x:V} {v:Value} (rx:RelV x v) (fx:flatV x = true):∀ {xs:List V} {us:List Value},Vals xs us→xs.all flatV = true→∀ u∈us,SeqAt.EqAt A s u v (eqU x u)
 | _,_,.nil,_=>fun u hu=>by cases hu
 | y :: xs,u :: us,.cons r t,f=>fun u' hu=>by
  rw [List.all_cons,Bool.and_eq_true] at f
  rcases List.mem_cons.mp hu with rfl | hu
  ·rw [eqU_of r f.1]; exact eqAt_V r rx f.1 fx
  ·exact mem_eqAt rx fx t f.2 u' hu
def inV (x:V) (xs:List V):Bool:=xs.any fun y=>eqV y x
def rIn (K:PySem.W.Frag) (neg:Bool):R2:=fun x y H Q=>∃ p xs,y = .ref p∧(SqL K H p xs∨SqT K H p xs)∧flatV x = true∧xs.all flatV = true∧Q (.bl (if neg then !inV x xs else inV x xs)) H
theorem op_in_seq:OpR X (compareOp .In) (rIn X.K false):=by
 intro pins s σ H x y v u Q I rx ry h
 obtain ⟨p,xs,rfl,hq,fx,fs,q⟩:=h
 cases ry
 rcases hq with hq | hq
 ·obtain ⟨its,r,pl,hz⟩:=I.list hq
  refine SeqAt.in_listAt (eqU x) pl.isList (fun w hw=>mem_eqAt rx fx r fs w (by simpa using hw)) ⟨.bl _,H,I,rfl,?_⟩
  rw [show its.toArray.any (eqU x) = its.any (eqU x) by simp,any_eqU r fs]
  exact q
 ·obtain ⟨its,r,pl,hz⟩:=I.tuple hq
  refine SeqAt.in_tupleAt (eqU x) pl (fun w hw=>mem_eqAt rx fx r fs w (by simpa using hw)) ⟨.bl _,H,I,rfl,?_⟩
  rw [show its.toArray.any (eqU x) = its.any (eqU x) by simp,any_eqU r fs]
  exact q
theorem op_notIn_seq:OpR X (compareOp .NotIn) (rIn X.K true):=by
 intro pins s σ H x y v u Q I rx ry h
 obtain ⟨p,xs,rfl,hq,fx,fs,q⟩:=h
 cases ry
 rcases hq with hq | hq
 ·obtain ⟨its,r,pl,hz⟩:=I.list hq
  refine SeqAt.notIn_listAt (eqU x) pl.isList (fun w hw=>mem_eqAt rx fx r fs w (by simpa using hw)) ⟨.bl _,H,I,rfl,?_⟩
  rw [show its.toArray.any (eqU x) = its.any (eqU x) by simp,any_eqU r fs]
  exact q
 ·obtain ⟨its,r,pl,hz⟩:=I.tuple hq
  refine SeqAt.notIn_tupleAt (eqU x) pl (fun w hw=>mem_eqAt rx fx r fs w (by simpa using hw)) ⟨.bl _,H,I,rfl,?_⟩
  rw [show its.toArray.any (eqU x) = its.any (eqU x) by simp,any_eqU r fs]
  exact q
theorem op_notIn_str:OpR X (compareOp .NotIn) (fun x y H Q=>∃ i j,x = .str i∧y = .str j∧Q (.bl (!(!(Builtin.Str.occurrences j i 0 j.length 1).isEmpty))) H):=by
 intro pins s σ H x y v u Q I rx ry h
 obtain ⟨i,j,rfl,rfl,q⟩:=h
 obtain ⟨t,rfl⟩:=rx
 obtain ⟨t',rfl⟩:=ry
 exact notIn_str ⟨.bl _,H,I,rfl,q⟩
theorem call_len_seq:CallR X (.builtin "len") (fun xs H Q=>∃ p ys,xs = [.ref p]∧(SqL X.K H p ys∨SqT X.K H p ys)∧Q (.int ys.length) H):=by
 intro pins s σ H xs us Q I r h
 obtain ⟨p,ys,rfl,hq,q⟩:=h
 obtain ⟨u,rfl,rx⟩:=vals1 r
 cases rx
 have hn:=line63
 rcases hq with hq | hq
 ·obtain ⟨its,r',pl,hz⟩:=I.list hq
  have hlen:=r'.length
  exact Calls.call_len_list pl.isList (by simp only [List.size_toArray] <;> omega) ⟨.int ys.length,H,I.tok _,⟨s.toks + 1,by rw [List.size_toArray,hlen]⟩,q⟩
 ·obtain ⟨its,r',pl,hz⟩:=I.tuple hq
  have hlen:=r'.length
  exact len_tuple pl (by simp only [List.size_toArray] <;> omega) ⟨.int ys.length,H,I.tok _,⟨s.toks + 1,by rw [List.size_toArray,hlen]⟩,q⟩
theorem call_len_str:CallR X (.builtin "len") (fun xs H Q=>∃ z,xs = [.str z]∧z.length≤sizeLine∧Q (.int z.length) H):=by
 intro pins s σ H xs us Q I r h
 obtain ⟨z,rfl,hz,q⟩:=h
 obtain ⟨u,rfl,t,rfl⟩:=vals1 r
 have hn:=line63
 exact len_str (by omega) ⟨.int z.length,H,I.tok _,⟨_,rfl⟩,q⟩
def tyV (K:PySem.W.Frag) (T:String) (x:V) (H:Hp):Prop:=match x with
 | .str _=>T = "str"
 | .int _=>T = "int"
 | .ref p=>(T = "list" ∧ ∃ xs,SqL K H p xs)∨(T = "tuple" ∧ ∃ o,K.lookup p = some o∧o.cls = .type "tuple" ∧ o.dict = none) ∨
   (T = "dict" ∧ ((∃ kvs,H p = some (.dK kvs))∨∃ kvs,H p = some (.dT kvs)))∨(T = "set" ∧ ∃ S n,H p = some (.set S n))
 | _=>False
theorem tyV_is {pins:List (Addr× Obj)} {σ:St} {H:Hp} {s:Shared} {T:String} {x:V} {v:Value} (I:Inv X pins σ H s) (r:RelV x v) (ty:tyV X.K T x H) :
  s.TypeIs v T∧∀ a,v = .ref a→∃ ob,s.heap.get? a = some ob∧ob.dict = none:=by
 cases x with
 | str z =>
  obtain ⟨t,rfl⟩:=r
  cases (show T = "str" from ty)
  exact ⟨typeIs_str s z t,fun _ e=>nomatch e⟩
 | int i =>
  obtain ⟨t,rfl⟩:=r
  cases (show T = "int" from ty)
  exact ⟨typeIs_int s i t,fun _ e=>nomatch e⟩
 | ref p =>
  cases r
  rcases ty with ⟨rfl,xs,hq⟩ | ⟨rfl,o,hk,hc,hd⟩ | ⟨rfl,hk⟩ | ⟨rfl,S,n,hk⟩
  ·obtain ⟨its,_,pl,_⟩:=I.list hq
   refine ⟨pl.isList.typeIs,fun a e=>?_⟩
   cases e
   obtain ⟨o,n,e,c,hd,_⟩:=pl
   exact ⟨o,e,hd⟩
  ·refine ⟨⟨o,I.kIn p o hk,hc⟩,fun a e=>?_⟩
   cases e
   exact ⟨o,I.kIn _ o hk,hd⟩
  ·have z:∃ o,s.heap.get? p = some o∧o.ExactDict:=by
    rcases hk with ⟨kvs,hk⟩ | ⟨kvs,hk⟩
    ·obtain ⟨_,_,_,_,o,_,_,e,ex,_⟩:=I.hok p _ hk
     exact ⟨o,e,ex⟩
    ·obtain ⟨_,_,_,_,o,_,_,e,ex,_⟩:=I.hok p _ hk
     exact ⟨o,e,ex⟩
   obtain ⟨o,e,ex⟩:=z
   refine ⟨⟨o,e,ex.1⟩,fun a e2=>?_⟩
   cases e2
   exact ⟨o,e,ex.2.1⟩
  ·obtain ⟨o,_,_,_,e,ex,_⟩:=I.hok p _ hk
   refine ⟨⟨o,e,ex.1⟩,fun a e2=>?_⟩
   cases e2
   exact ⟨o,e,ex.2.1⟩
 | _=>exact False.elim ty
def tBM0 (K:PySem.W.Frag) (T:String) (r:V→List V→Hp→VK→Prop) (to:TE):TE:=fun σ H Q=>to σ H fun x H1=>tyV K T x H1∧r x [] H1 Q
def tBM (K:PySem.W.Frag) (T:String) (r:V→List V→Hp→VK→Prop) (to:TE) (t:TA):TE:=fun σ H Q=>to σ H fun x H1=>tyV K T x H1∧t σ H1 fun xs H2=>r x xs H2 Q
variable {o e:Expr} {es:List Expr} {to:TE} {t:TA} {name:Str} {apos cpos:Pos} {T id:String} {r:V→List V→Hp→VK→Prop}
theorem pe_bm0 (pa:PlainAttrs T) (slot:Slot T name id) (hty:typeOf (.builtin id) = pure (.type "method_descriptor")) (hm:MtR X id r) (ho:PE X o to)
  (hbase:attributeBase o name X.env (eval o X.env) = eval o X.env:=by rfl) (hline:(apos.endLine == cpos.line) = true:=by rfl):PE X (.Call (.Attribute o name apos) [] [] cpos) (tBM0 X.K T r to):=by
 intro pins s σ H Q I h
 refine wpAny_Call_method0_late hbase hline (thn (ho pins s σ H _ I h) fun v s1 ⟨x,H1,I1,r1,ty,q1⟩=>?_)
 obtain ⟨h1,h2⟩:=tyV_is I1 r1 ty
 exact ⟨T,id,pa,slot,hty,h1,h2,Calls.callWith_builtin rfl (PySem.evalArgs_none (hm pins s1 σ H1 x [] v [] Q I1 r1 .nil q1))⟩
theorem pe_bm (pa:PlainAttrs T) (slot:Slot T name id) (hty:typeOf (.builtin id) = pure (.type "method_descriptor")) (hm:MtR X id r) (ho:PE X o to) (ha:PA X (e :: es) t)
  (hbase:attributeBase o name X.env (eval o X.env) = eval o X.env:=by rfl)
  (hfew:((backTo cpos (starEach (e :: es) X.env)).all (fun x=>!x.1) && (backToKw cpos (keywordEach [] X.env)).all (fun x=>x.1.isSome)
   && decide ((e :: es).length + ([]:List Keyword).length + (if ([]:List Keyword).isEmpty then 0 else 1) < 30)) = true:=by rfl)
  (hline:(apos.endLine == cpos.line) = true:=by rfl) (hs:starEach (e :: es) X.env = (false,eval e X.env) :: starEach es X.env:=by rfl) (hplain:(backTo cpos (starEach es X.env)).any (·.1) = false:=by rfl) :
  PE X (.Call (.Attribute o name apos) (e :: es) [] cpos) (tBM X.K T r to t):=by
 intro pins s σ H Q I h
 refine wpAny_Call_method_late hbase hfew hline rfl (thn (ho pins s σ H _ I h) fun v s1 ⟨x,H1,I1,r1,ty,q1⟩=>?_)
 obtain ⟨h1,h2⟩:=tyV_is I1 r1 ty
 refine ⟨T,id,pa,slot,hty,h1,h2,?_⟩
 have hA:=ha cpos pins s1 σ H1 _ I1 q1
 rw [hs] at hA ⊢
 refine Calls.callWith_builtin (by show (false || (backTo cpos (starEach es X.env)).any (·.1)) = false; rw [hplain] <;> rfl) (Calls.evalArgs_plain ?_)
 exact thn hA fun us s2 ⟨vs,H2,I2,r2,q2⟩=>hm pins s2 σ H2 x vs v us Q I2 r1 r2 q2
end
end L2
namespace L2
open PySem PySem.Spec PyProof.Rows
def MtM (X:Cx) (id:String) (r:V→List V→Hp→VK→Prop):Prop :=
 ∀ (pins:List (Addr× Obj)) (s:Shared) (σ:St) (H:Hp) (x:V) (xs:List V) (v:Value) (us:List Value) (Q:VK),Inv X pins σ H s→RelV x v→Vals xs us→r x xs H Q →
  wpAny (model X.prog X.w) X.A (call (.builtin id) (v :: us)) (EP X pins σ Q) X.xe s
theorem Vals.one:∀ {x:V} {us:List Value},Vals [x] us→∃ u,us = [u]∧RelV x u
 | _,_,.cons r .nil=>⟨_,rfl,r⟩
theorem Vals.two:∀ {x y:V} {us:List Value},Vals [x,y] us→∃ u v,us = [u,v]∧RelV x u∧RelV y v
 | _,_,_,.cons r (.cons q .nil)=>⟨_,_,rfl,r,q⟩
theorem Vals.zero:∀ {us:List Value},Vals [] us→us = []
 | _,.nil=>rfl
theorem Vals.dropLast {xs:List V} {us:List Value} (h:Vals xs us):Vals xs.dropLast us.dropLast:=by
 induction h with
 | nil=>exact .nil
 | cons r t ih =>
  cases t with
  | nil=>exact .nil
  | cons q t'=>exact .cons r ih
theorem Vals.rep {xs:List V} {us:List Value} (h:Vals xs us):∀ k:Nat,Vals (List.replicate k xs).flatten (List.replicate k us).flatten
 | 0=>.nil
 | k + 1=>by
  rw [List.replicate_succ,List.replicate_succ,List.flatten_cons,List.flatten_cons]
  exact Vals.append h (Vals.rep h k)
theorem erase_last {α:Type} (l:List α):l.eraseIdx (l.length - 1) = l.dropLast:=by
 induction l with
 | nil=>rfl
 | cons a r ih =>
  cases r with
  | nil=>rfl
  | cons b r =>
   have e:(a :: b :: r).length - 1 = ((b :: r).length - 1) + 1:=by
    have h1:(a :: b :: r).length = r.length + 2:=rfl
    have h2:(b :: r).length = r.length + 1:=rfl
    omega
   rw [e,List.eraseIdx_cons_succ,ih]
   all_goals rfl
theorem foldl_rep (its:List Value):∀ (k:Nat) (acc:List Value),
  List.foldl (fun x1 x2=>x1 ++ x2) acc.toArray (List.replicate k its.toArray) = (acc ++ (List.replicate k its).flatten).toArray
 | 0,acc=>by simp
 | k + 1,acc=>by
  have e:acc.toArray ++ its.toArray = (acc ++ its).toArray:=by simp
  have e2:(acc ++ its) ++ (List.replicate k its).flatten = acc ++ (List.replicate (k + 1) its).flatten:=by
   rw [List.replicate_succ,List.flatten_cons,List.append_assoc]
  rw [← e2,← foldl_rep its k (acc ++ its),← e,List.replicate_succ,List.foldl_cons]
section
variable {X:Cx} {pins:List (Addr× Obj)} {σ:St} {H:Hp} {s:Shared} {l b:Addr} {xs ys zs:List V}
theorem Inv.lset {its its':List Value} {n:Nat} {f:Array Value→Array Value} {t':Nat} (I:Inv X pins σ H s) (hH:H l = some (.lst xs))
  (e:s.heap.get? l = some { cls:=.type "list", data:=.seq its.toArray n }) (hf:f its.toArray = its'.toArray) (hv:Vals ys its') (hz:ys.length≤sizeLine) :
  Inv X pins σ (upd H l (.lst ys)) { s with heap:=s.heap.update l (Obj.mapSeq f),toks:=t' }:=by
 have q:=PySem.IsL.update e f
 rw [hf] at q
 refine I.write (x:=l) (e:=l) (by rw [hH]; exact trivial) (.inl rfl) (fun b' u hb hu=>(Heap.get?_update_other s.heap (Obj.mapSeq f) (Ne.symm hb)).trans hu) ⟨_,q⟩ ?_
 exact ⟨hz,its',_,hv,q⟩
theorem Inv.lnew {its:List Value} {t':Nat} (I:Inv X pins σ H s) (hv:Vals ys its) (hz:ys.length≤sizeLine) :
  Inv X pins σ (upd H s.heap.objs.size (.lst ys)) { s with heap:=s.heap.push { cls:=.type "list", data:=.seq its.toArray },toks:=t' } :=
 I.laid (fun _ _ q=>Heap.get?_push_of_some _ q) (Nat.le_refl _) ⟨hz,its,0,hv,Heap.get?_push_size _ rfl⟩
theorem Inv.fresh (I:Inv X pins σ H s):H s.heap.objs.size = none:=I.hok.fresh (Nat.le_refl _)
theorem Inv.lstM (I:Inv X pins σ H s) (hH:H l = some (.lst xs)):xs.length≤sizeLine∧∃ (its:List Value) (n:Nat),Vals xs its∧xs.length = its.length∧s.heap.get? l = some { cls:=.type "list", data:=.seq its.toArray n }:=by
 obtain ⟨z,its,n,r,e⟩:=I.hok l _ hH
 exact ⟨z,its,n,r,r.length,e⟩
theorem notLongL {n:Nat} (h:n≤sizeLine):Builtin.List.listTooLong n = false:=by
 unfold Builtin.List.listTooLong
 exact decide_eq_false (by omega)
end
section
variable {X:Cx}
def rAppend:V→List V→Hp→VK→Prop:=fun x vs H Q=>∃ l xs y,x = .ref l∧vs = [y]∧H l = some (.lst xs)∧xs.length < sizeLine∧Q .non (upd H l (.lst (xs ++ [y])))
theorem mt_append:MtM X "list.append" rAppend:=by
 intro pins s σ H x vs v us Q I rx rv h
 obtain ⟨l,xs,y,rfl,rfl,hH,hz,q⟩:=h
 cases rx
 obtain ⟨u,rfl,ru⟩:=rv.one
 obtain ⟨z,its,n,r,hl,e⟩:=I.lstM hH
 refine call_meets F.slot_list_append ⟨_,e,rfl⟩ F.entry_list_append (F.args_list_append_2 _ _) (PySem.list_append l its.toArray n u (by rw [List.size_toArray]; omega)) ⟨e,?_⟩
 refine ⟨.non,_,I.lset (its':=its ++ [u]) hH e (by simp) (r.append (.cons ru .nil)) ?_,rfl,q⟩
 rw [List.length_append,List.length_singleton]
 omega
def rExtend:V→List V→Hp→VK→Prop:=fun x vs H Q=>∃ l b xs zs,x = .ref l∧vs = [.ref b]∧H l = some (.lst xs)∧H b = some (.lst zs)∧xs.length + zs.length≤sizeLine∧Q .non (upd H l (.lst (xs ++ zs)))
theorem mt_extend:MtM X "list.extend" rExtend:=by
 intro pins s σ H x vs v us Q I rx rv h
 obtain ⟨l,b,xs,zs,rfl,rfl,hH,hB,hz,q⟩:=h
 cases rx
 obtain ⟨u,rfl,ru⟩:=rv.one
 cases ru
 obtain ⟨z,its,n,r,hl,e⟩:=I.lstM hH
 obtain ⟨z2,its2,n2,r2,hl2,e2⟩:=I.lstM hB
 have hsz:its.toArray.size + its2.toArray.size≤sizeLine:=by rw [List.size_toArray,List.size_toArray]; omega
 have hlong:¬ (!its.toArray.isEmpty && Builtin.List.listTooLong (its.toArray.size + its2.toArray.size)) = true:=by
  rw [notLongL hsz,Bool.and_false]
  exact Bool.false_ne_true
 refine call_meets F.slot_list_extend ⟨_,e,rfl⟩ F.entry_list_extend (F.args_list_extend_2 _ _)
  (AutoSeq1.list_extend_list_list_0 l its.toArray n b its2.toArray n2 hlong (by rw [List.size_toArray]; omega) (by omega)) ⟨e,e2,?_⟩
 refine ⟨.non,_,I.lset (its':=its ++ its2) hH e (by simp) (r.append r2) ?_,rfl,q⟩
 rw [List.length_append]
 omega
def rPop:V→List V→Hp→VK→Prop:=fun x vs H Q=>∃ l xs y,x = .ref l∧vs = []∧H l = some (.lst xs)∧xs[xs.length - 1]? = some y∧Q y (upd H l (.lst xs.dropLast))
theorem mt_pop:MtM X "list.pop" rPop:=by
 intro pins s σ H x vs v us Q I rx rv h
 obtain ⟨l,xs,y,rfl,rfl,hH,hy,q⟩:=h
 cases rx
 have hus:=rv.zero
 subst hus
 obtain ⟨z,its,n,r,hl,e⟩:=I.lstM hH
 obtain ⟨u,hu,ru⟩:=r.get hy
 have hy':its.toArray[its.toArray.size - 1]? = some u:=by
  show its.toArray[its.length - 1]? = some u
  rw [← Array.getElem?_toList,← hl]
  exact hu
 refine call_meets F.slot_list_pop ⟨_,e,rfl⟩ F.entry_list_pop (F.args_list_pop_1 _) (MeetsSeq.list_pop_last l its.toArray n u hy' (by rw [List.size_toArray]; omega)) ⟨e,?_⟩
 refine ⟨y,_,I.lset (its':=its.dropLast) hH e ?_ r.dropLast ?_,ru,q⟩
 ·show its.toArray.eraseIdxIfInBounds (its.toArray.size - 1) = its.dropLast.toArray
  rw [List.size_toArray,List.eraseIdxIfInBounds_toArray,erase_last]
 ·rw [List.length_dropLast]
  omega
def rCat:R2:=fun x y H Q=>∃ l b xs zs,x = .ref l∧y = .ref b∧H l = some (.lst xs)∧H b = some (.lst zs)∧xs.length + zs.length≤sizeLine∧∀ p,H p = none→Q (.ref p) (upd H p (.lst (xs ++ zs)))
theorem op_cat:OpR X (binaryOp .Add) rCat:=by
 intro pins s σ H x y v u Q I rx ry h
 obtain ⟨l,b,xs,zs,rfl,rfl,hH,hB,hz,q⟩:=h
 cases rx
 cases ry
 obtain ⟨z,its,n,r,hl,e⟩:=I.lstM hH
 obtain ⟨z2,its2,n2,r2,hl2,e2⟩:=I.lstM hB
 refine PySem.P.add_list e e2 ?_ (by rw [List.size_toArray,List.size_toArray]; omega)
 have ea:its.toArray ++ its2.toArray = (its ++ its2).toArray:=by simp
 rw [ea]
 exact ⟨.ref _,_,I.lnew (t':=s.toks) (r.append r2) (by rw [List.length_append]; omega),rfl,q _ I.fresh⟩
def rRep:R2:=fun x y H Q=>∃ l k xs,x = .ref l∧y = .int k∧H l = some (.lst xs)∧-(2 ^ 63)≤k∧k < 2 ^ 63∧xs.length * k.toNat≤sizeLine ∧
 ∀ p,H p = none→Q (.ref p) (upd H p (.lst (List.replicate k.toNat xs).flatten))
theorem len_rep {α:Type} (xs:List α) (k:Nat):(List.replicate k xs).flatten.length = k * xs.length:=by
 induction k with
 | zero=>simp
 | succ k ih=>rw [List.replicate_succ,List.flatten_cons,List.length_append,ih,Nat.succ_mul,Nat.add_comm]
theorem op_rep:OpR X (binaryOp .Mult) rRep:=by
 intro pins s σ H x y v u Q I rx ry h
 obtain ⟨l,k,xs,rfl,rfl,hH,h1,h2,hz,q⟩:=h
 cases rx
 obtain ⟨t,rfl⟩:=ry
 obtain ⟨z,its,n,r,hl,e⟩:=I.lstM hH
 have hlen:its.toArray.size * k.toNat≤sizeLine:=by rw [List.size_toArray,← hl]; exact hz
 have hcap:¬ its.toArray.size * k.toNat > (2 ^ 63 - 1) / 8:=by
  have:(sizeLine:Nat)≤(2 ^ 63 - 1) / 8:=by decide
  omega
 have hfit:¬ (!Builtin.List.listFitsIndex k) = true:=by
  rw [fitsIndex_both h1 h2]
  exact Bool.false_ne_true
 have hlong:¬ Builtin.List.listTooLong (its.toArray.size * k.toNat) = true:=by
  rw [notLongL hlen]
  exact Bool.false_ne_true
 have hnew:List.foldl (fun x1 x2=>x1 ++ x2) #[] (List.replicate (if its.toArray.isEmpty = true then 0 else k.toNat) its.toArray) = (List.replicate k.toNat its).flatten.toArray:=by
  have f0:∀ m:Nat,List.foldl (fun x1 x2=>x1 ++ x2) #[] (List.replicate m its.toArray) = (List.replicate m its).flatten.toArray:=fun m=>by
   have:=foldl_rep its m []
   rw [List.nil_append] at this
   exact this
  rw [f0]
  cases its with
  | nil=>simp
  | cons a r'=>rw [if_neg (by simp)]
 refine wpAny_binaryOp_repeat_ref (T:= "list") (U:= "int") (by decide) ⟨_,e,rfl⟩ (fun s'=>typeIs_int s' k t) noFill_list_mul F.fills_int_mul F.slot_int_rmul repeat_list F.slot_int_index.lookup
  (call_meets F.slot_int_rmul (typeIs_int s k t) F.entry_int_rmul (F.args_int_rmul_2 _ _) (int___rmul___int_list k t l its.toArray n)
   ⟨e,rfl,⟨_,e,rfl⟩,call_meets F.slot_list_mul ⟨_,e,rfl⟩ F.entry_list_mul (F.args_list_mul_2 _ _) (AutoListH.list___mul___list_int_3 l its.toArray n k t hfit hcap hlong) ⟨e,?_⟩⟩)
 rw [hnew]
 exact ⟨.ref _,_,I.lnew (t':=s.toks) (r.rep k.toNat) (by rw [len_rep,Nat.mul_comm]; exact hz),rfl,q _ I.fresh⟩
end
section
variable {prog:Program} {w:World} {A:Around} {E:Value→Shared→Prop} {s:Shared}
end
section
variable {X:Cx}
end
end L2
namespace Att
open PySem PySem.W PySem.Calls PyProof.Rows
theorem ints_of_wellAll {P:Params} {h:Heap}:∀ (ns:List Int) (vs:List Value),WellAll P h vs (ns.map WData.int)→IntsAre vs ns:=by
 intro ns
 induction ns with
 | nil =>
  intro vs w
  rw [List.map_nil] at w
  cases w
  exact .nil
 | cons n ns ih =>
  intro vs w
  rw [List.map_cons] at w
  cases w with
  | cons a b =>
   cases a
   exact .cons _ _ (ih _ b)
theorem script_of {l:OpenLaw} {n:Nat} (hn:l.most = some n) {P:Params} {h:Heap} {args:List WData} {vals:List Value}
  (hpre:l.row.toRowW.claim.pre args = true) (hwl:WellAll P h vals args) :
  ∃ a vs ns,vals = [Value.ref a]∧args = [WData.list (ns.map WData.int)]∧h.get? a = some { cls:=.type "list", data:=.seq vs.toArray }∧IntsAre vs ns∧ns.length≤n:=by
 have hsh:WShape.hasAll [] args [.list .int] = true:=(pre_splitW hpre).1
 have hc:l.pre.holds [] { args:=args } = true:=(pre_splitW hpre).2
 obtain ⟨d,r,rfl,h1,h2⟩:=hasAllW_cons hsh
 obtain rfl:=hasAllW_nil h2
 obtain ⟨xs,rfl,h3⟩:=hasW_list h1
 obtain ⟨ns,rfl⟩:=items_int h3
 have hlen:ns.length≤n:=by
  unfold OpenLaw.pre at hc
  have h4:(WTm.not (.lt (.lit (.int (n:Int))) (.len (.arg 0)))).holds [] { args:=[.list (ns.map .int)] } = true:=by
   have h4:=(holds_andW hc).1
   rw [hn] at h4
   exact h4
  have h5:=condW_of h4 (w_not (w_lt w_lit (w_len_list (w_arg rfl))))
  rw [List.length_map] at h5
  refine Nat.le_of_not_lt fun q=>?_
  have q':(n:Int) < ((ns.length:Nat):Int):=by omega
  first
   | (rw [decide_eq_true q'] at h5; exact absurd h5 (by decide))
   | (simp at h5; omega)
 cases hwl with
 | cons w1 w2 =>
  cases w2
  cases w1 with
  | list ho hall=>exact ⟨_,_,ns,rfl,rfl,ho,ints_of_wellAll ns _ hall,hlen⟩
theorem post_true (l:OpenLaw) (args:List WData):l.row.toRowW.claim.post args (.bool true) args = true :=
 postW_of (r:=l.row.toRowW) (X:=(true == true))
  (show WShape.has [] (.bool true) .bool = true by first | rfl | decide | simp [WShape.has,WShape.arms,WShape.armsAll])
  (show (WTm.eq .res (.lit (.bool true))).value [] { args:=args,res:=some (.bool true),after:=args } = some (.bool (true == true)) from w_eq_bool (w_res rfl) w_lit) rfl
theorem attach_call {l:OpenLaw} {n:Nat} {q:Program} {loose:List Str} {XP:(Str→Option Value)→Heap→Prop} {YP:World→Heap→Prop} {d:DefRec}
  (hn:l.most = some n) (hdf:d.params.defaults = [])
  (call:∀ (w:World) (s₀ s₁:Shared) (mg mb:Str→Option Value) (fa:Addr) (o:Obj) (pm cd doc:Value) (a:Addr) (vs:List Value) (ns:List Int),
   Ground q loose [] XP w s₀ mg mb s₁.heap→YP w s₁.heap →
   s₁.heap.get? fa = some o→o.data = .func (docDef d.name d.params d.body d.scope pm cd doc)→s₁.heap.CodeRec cd d.name→mg d.name = some (.ref fa) →
   s₁.heap.get? a = some { cls:=.type "list", data:=.seq vs.toArray }→IntsAre vs ns→ns.length≤n→s₁.gens = #[] →
   codeAny (model l.prog w) callerA (.call (.ref fa) ⟨[.ref a],[]⟩) (fun r s'=>r = .ok (.ret (.bool true))∧OldK s₁.heap s'.heap∧s'.os = s₁.os∧AllBare s'.gens) s₁) :
  WalkO q loose XP YP l.row.toRowW d [] (fun f vs=>PySem.call f vs):=by
 intro w s₀ s₁ mg mb G Y fa o pm cd doc dV kV ho hd hcd hD hmg hg args vals as hpre hlay hrd hwl hlo
 obtain rfl:dV = .none:=Dflts.none hD hdf
 obtain rfl:kV = .none:=Dflts.noKw hD
 obtain ⟨a,vs,ns,rfl,rfl,hobj,hints,hlen⟩:=script_of hn hpre hwl
 refine enter_call (codeAny_mono (call w s₀ s₁ mg mb fa o pm cd doc a vs ns G Y ho (fd_plain hd) hcd hmg hobj hints hlen hg) fun r s' hq=>?_)
 obtain ⟨rfl,h2,h3,h4⟩:=hq
 exact ⟨.inl ⟨.bool true,.bool true,[],rfl,fun _=>rfl,.bool true,post_true l _,fun _=>⟨List.Pairwise.nil,fun _ hm=>(nomatch hm)⟩⟩,h2,h3,h4⟩
section
variable {prog:Program} {w:World} {A:Around} {E:Value→Shared→Prop} {s:Shared} {K:Frag}
def ledger (h:Heap) (L d:Addr):List (Addr× Obj):=(List.range h.objs.size).filterMap fun a=>if a = L∨a = d then none else (h.get? a).map fun o=>(a,o)
end
end Att
namespace L2
open PySem PySem.Spec PyProof.Rows
theorem vals_ints:∀ {vs:List Value} {ns:List Int},IntsAre vs ns→Vals (ns.map V.int) vs
 | _,_,.nil=>.nil
 | _,_,.cons n t h=>.cons ⟨t,rfl⟩ (vals_ints h)
def Only (H:Hp):Prop:=∀ b,H b = none∨∃ o xs,H b = some (.frz o (.lst xs))
theorem law_call {P:Program} {w:World} {K:PySem.W.Frag} {mg mb:Str→Option Value} {CX:CXT} {k:Nat} {fa a:Addr} {fd:FuncData} {x:Str} {sp:Sp} {s₁:Shared} {vs:List Value} {ns:List Int}
  (KX:K.In s₁.heap) (hns:s₁.heap.Ns mainGlobals mg) (hb:s₁.heap.Ns builtinsNs mb) (hbb:∀ x:Str,x≠ "__name__" → mb x = bootBuiltins x) (hlim:s₁.heap.NoLimit) (hg:s₁.gens = #[])
  (ha:s₁.heap.get? a = some { cls:=.type "list", data:=.seq vs.toArray }) (hi:IntsAre vs ns) (hl:ns.length≤sizeLine) (hr:Room k callerA)
  (F:∀ base:Heap,K.In base→base.Ns mainGlobals mg→FnOk P w K mg base CX k fa fd [x] sp) (hbind:∀ (s:Shared) (u:Value),BindsTo s fd ⟨[u],[]⟩ [(x,u)])
  (hsp:∀ H:Hp,Only H→SqL K H a (ns.map V.int)→sp [.ref a] H (fun v _=>v = .bl true) fun _ _ _=>False)
  (hCX:∀ H e s',CX [] H s₁ (fun _ _ _=>False) e s'→False) :
  codeAny (model P w) callerA (.call (.ref fa) ⟨[.ref a],[]⟩) (fun r s'=>r = .ok (.ret (.bool true))∧OldK s₁.heap s'.heap∧s'.os = s₁.os∧AllBare s'.gens) s₁:=by
 have rv:=vals_ints hi
 have lenV:=hi.length
 have core:∀ H:Hp,Only H→SqL K H a (ns.map V.int)→HOk P w H s₁.heap→(∀ b,H b≠none→b = a)→(H a≠none→K.lookup a = none) →
   codeAny (model P w) callerA (.call (.ref fa) ⟨[.ref a],[]⟩) (fun r s'=>r = .ok (.ret (.bool true))∧OldK s₁.heap s'.heap∧s'.os = s₁.os∧AllBare s'.gens) s₁:=by
  intro H hO hS hok hA hK
  have base_of:∀ {b:Addr} {o:Obj},s₁.heap.get? b = some o→H b = none→(hidT s₁.heap H).get? b = some o:=fun e n=>hidT_get e n
  have noA:∀ {b:Addr} {o:Obj} {es:Array DictEntry} {ep:Nat},s₁.heap.get? b = some o→o.data = .dict es ep→H b = none:=fun {b o es ep} e d=>by
   cases q:H b with
   | none=>rfl
   | some u =>
    have e':b = a:=hA b (by rw [q]; simp)
    subst e'
    rw [ha] at e; cases e
    have d':Data.seq vs.toArray _ = Data.dict es ep:=d
    cases d'
  have nsK:∀ {b:Addr} {m:Str→Option Value},s₁.heap.Ns b m→(hidT s₁.heap H).Ns b m:=fun {b m} ⟨o,es,ep,e,d,r⟩=>⟨o,es,ep,base_of e (noA e d),d,r⟩
  have hKb:K.In (hidT s₁.heap H):=fun b o e=>base_of (KX b o e) (by
   cases q:H b with
   | none=>rfl
   | some u =>
    have e':b = a:=hA b (by rw [q]; simp)
    subst e'
    rw [hK (by rw [q]; simp)] at e; cases e)
  have hM:Mod K mg (hidT s₁.heap H):=⟨hKb,nsK hns,⟨mb,nsK hb,hbb⟩,let ⟨mc,h1,h2⟩:=hlim; ⟨mc,nsK h1,h2⟩⟩
  have e0:Env0 P w K mg (hidT s₁.heap H) callerA [] s₁ H:=⟨rfl,hM,fun b o e=>of_hidT e,Nat.le_of_eq (hidT_size _ _),trivial,fun b hb=>absurd (show b∈([]:List Addr) from hb) (by simp),hok,.of_eq hg⟩
  refine codeAny_mono ((F _ hKb (nsK hns)).run callerA [] s₁ H ⟨[.ref a],[]⟩ [.ref a] [.ref a] _ _ hr e0 (hbind s₁ (.ref a)) (.cons rfl .nil) (hsp H hO hS)) fun r s' h=>?_
  cases r with
  | error e=>exact (hCX H e s' h).elim
  | ok fl =>
   cases fl with
   | next=>exact False.elim h
   | brk=>exact False.elim h
   | cont=>exact False.elim h
   | ret u =>
    obtain ⟨v,H',os,bare,un,hok',r',q⟩:=h
    have q':v = .bl true:=q
    subst q'
    obtain rfl:u = Value.bool true:=r'
    refine ⟨rfl,OldK.of_keep fun b o e=>?_,os,bare⟩
    cases q:H b with
    | none=>exact un.keep b o e q (by intro z; exact absurd (show b∈([]:List Addr) from z) (by simp)) (by simp)
    | some u =>
     rcases hO b with z | ⟨ob,xs,z⟩
     ·rw [q] at z; cases z
     ·have z2:=un.frzs b ob _ z
      obtain ⟨e1,_⟩:=hok b _ z
      obtain ⟨e2,_⟩:=hok' b _ z2
      rw [e] at e1; cases e1
      exact e2
 cases hk:K.lookup a with
 | some o =>
  have e:=KX a o hk
  rw [ha] at e
  cases e
  refine core (fun _=>none) (fun _=>.inl rfl) (.inr ⟨_,vs.toArray,_,hk,rfl,rfl,rfl,by rw [List.size_toArray,lenV]; exact hl,by simpa using rv⟩) (fun b u z=>by have z':(none:Option HO) = some u:=z; cases z') (fun b z=>absurd rfl z) fun z=>absurd rfl z
 | none =>
  refine core (fun b=>if b = a then some (.frz { cls:=.type "list", data:=.seq vs.toArray } (.lst (ns.map V.int))) else none) (fun b=>?_) (.inl (.inr ⟨{ cls:=.type "list", data:=.seq vs.toArray },if_pos rfl⟩)) (fun b u z=>?_) (fun b z=>?_) fun _=>hk
  ·by_cases hb:b = a
   ·exact .inr ⟨_,_,if_pos hb⟩
   ·exact .inl (if_neg hb)
  ·by_cases hb:b = a
   ·have z':=(if_pos hb).symm.trans z
    cases z'
    subst hb
    exact ⟨ha,by rw [List.length_map]; exact hl,vs,_,rv,ha⟩
   ·have z':=(if_neg hb).symm.trans z
    cases z'
  ·by_cases hb:b = a
   ·exact hb
   ·exact absurd (if_neg hb) z
end L2
namespace L2
open PySem PySem.Spec PyProof.Rows
abbrev KOf {K:PySem.W.Frag} {h:Heap} (_:K.In h):PySem.W.Frag:=K
theorem walk_of {l:PySem.W.OpenLaw} {n k:Nat} {q:Program} {loose:List Str} {XP:(Str→Option Value)→Heap→Prop} {YP:World→Heap→Prop} {d:DefRec} {K:Params→PySem.W.Frag} {CX:World→CXT} {sp:World→Sp} {x:Str}
  (hn:l.most = some n) (hn2:n≤sizeLine) (hdf:d.params.defaults = []) (hr:Room k callerA)
  (hY:∀ (w:World) (h:Heap),YP w h→(K w.params).In h)
  (F:∀ (w:World) (mg:Str→Option Value) (fa:Addr) (h:Heap),(K w.params).In h→h.Ns mainGlobals mg→mg d.name = some (.ref fa) →
   ∃ fd:FuncData,(∀ (s:Shared) (u:Value),BindsTo s fd ⟨[u],[]⟩ [(x,u)]) ∧
    ∀ base:Heap,(K w.params).In base→base.Ns mainGlobals mg→FnOk l.prog w (K w.params) mg base (CX w) k fa fd [x] (sp w))
  (hsp:∀ (w:World) (H:Hp) (a:Addr) (ns:List Int),ns.length≤n→Only H→SqL (K w.params) H a (ns.map V.int)→sp w [.ref a] H (fun v _=>v = .bl true) fun _ _ _=>False)
  (hCX:∀ (w:World) (H:Hp) (s:Shared) (e:Value) (s':Shared),CX w [] H s (fun _ _ _=>False) e s'→False) :
  PySem.W.WalkO q loose XP YP l.row.toRowW d [] (fun f vs=>PySem.call f vs):=by
 refine Att.attach_call hn hdf fun w s₀ s₁ mg mb fa o pm cd doc a vs ns G Y ho hd hcd hmg hobj hints hlen hg=>?_
 have KX:=hY w _ Y
 obtain ⟨fd,hb,hF⟩:=F w mg fa _ KX G.T.g hmg
 exact law_call KX G.T.g G.T.b G.T.builtins G.T.nolimit hg hobj hints (Nat.le_trans hlen hn2) hr hF hb (fun H hO hS=>hsp w H a ns hlen hO hS) fun H e s'=>hCX w H s₁ e s'
end L2
namespace L2
open PySem PySem.Spec PyProof.Rows
def inClass (s:Stmt) (j:Nat):Stmt:=match s with
 | .ClassDef _ _ _ body _ _ _ _ _ _ _=>body.getD j (.Pass ⟨0,0,0,0⟩)
 | _=>.Pass ⟨0,0,0,0⟩
def defArgs (s:Stmt):Arguments:=match s with
 | .FunctionDef _ a _ _ _ _ _ _ _ _=>a
 | _=>{ posonlyargs:=[],args:=[],vararg:=none,kwonlyargs:=[],kw_defaults:=[],kwarg:=none,defaults:=[] }
def defBody (s:Stmt):List Stmt:=match s with
 | .FunctionDef _ _ b _ _ _ _ _ _ _=>b
 | _=>[]
def defScope (s:Stmt):Scope:=match s with
 | .FunctionDef _ _ _ _ _ _ sc _ _ _=>sc
 | _=>{ kind:=.function,names:=[],isGenerator:=false,isCoroutine:=false }
abbrev CX0:CXT:=fun _ _ _ _ _ _=>False
abbrev E0:XK:=fun _ _ _=>False
theorem pass0 {X:Cx}:Passes CX0 X E0:=fun _ _ _ _ _ _ _ h=>h.elim
structure Fun (K:PySem.W.Frag) (x qual:Str) (st:Stmt) (f:Addr) (fd:FuncData):Prop where
 ex:∃ (oc:Value) (od:Option Addr) (kV doc pm:Value) (an:Option Addr) (cdv ct:Value) (osl:Array (Option Value)),
  fd = PySem.W.fnOf x qual (defArgs st) (defBody st) (defScope st) .none kV doc pm an cdv ct∧K.lookup f = some ⟨oc,od,.func fd,osl⟩∧PySem.W.codeIn K cdv qual = true
 kp:PySem.W.keepIn K (.ref f) = true
section
variable {P:Program} {w:World} {K:PySem.W.Frag} {mg:Str→Option Value} {base:Heap}
theorem Fun.ok {x qual:Str} {st:Stmt} {f:Addr} {fd:FuncData} {N ps:List Str} {k:Nat} {sp:Sp} (F:Fun K x qual st f fd) (S:FnScope N ps (defScope st)) (len:∀ vs H Q E,sp vs H Q E→vs.length = ps.length)
  (hbody:∀ (cdv:Value) (A:Around) (outer:List Env) (s:Shared) (H:Hp) (vs:List V) (Q:VK) (E:XK),Room k (A.deeper (envOfC qual (defScope st) s.heap.objs.size f cdv))→sp vs H Q E →
   ∃ t,PSs (cxOf CX0 P w K mg base N qual (defScope st) f cdv A outer s H E).nox (defBody st) t∧t { nx:=fun _ H'=>Q .non H',rt:=Q } (start N vs) H):FnOk P w K mg base CX0 (k + 1) f fd ps sp:=by
 obtain ⟨oc,od,kV,doc,pm,an,cdv,ct,osl,rfl,lk,hcd⟩:=F.ex
 refine fn_of lk hcd S len fun A outer s H vs Q E hr hsp=>?_
 obtain ⟨t,h,q⟩:=hbody cdv A outer s H vs Q E hr hsp
 exact ⟨t,h.nox,q⟩
theorem Fun.binds {x qual:Str} {st:Stmt} {f:Addr} {fd:FuncData} {ps:List Str} (F:Fun K x qual st f fd)
  (h:∀ (kV doc pm:Value) (an:Option Addr) (cdv ct:Value) (us:List Value),us.length = ps.length→bindArgs (PySem.W.fnOf x qual (defArgs st) (defBody st) (defScope st) .none kV doc pm an cdv ct) ⟨us,[]⟩ = pure (ps.zip us)):Binds K fd ps []:=by
 obtain ⟨oc,od,kV,doc,pm,an,cdv,ct,osl,rfl,lk,hcd⟩:=F.ex
 exact .all (h kV doc pm an cdv ct)
theorem fun_mk {x qual:Str} {st:Stmt} {f:Addr} {oc:Value} {od an:Option Addr} {osl:Array (Option Value)} {kV doc pm cdv ct:Value} (l:K.lookup f = some ⟨oc,od,.func (PySem.W.fnOf x qual (defArgs st) (defBody st) (defScope st) .none kV doc pm an cdv ct),osl⟩)
  (c:PySem.W.codeIn K cdv qual = true) (k:PySem.W.keepIn K (.ref f) = true):Fun K x qual st f (PySem.W.fnOf x qual (defArgs st) (defBody st) (defScope st) .none kV doc pm an cdv ct):=⟨⟨oc,od,kV,doc,pm,an,cdv,ct,osl,rfl,l,c⟩,k⟩
end
theorem small1000 {n:Nat} (h:n≤1000):n < sizeLine:=Nat.lt_of_le_of_lt h (by decide)
section
variable {X:Cx}
theorem pv (i:Nat) {x:Str} {pos:Pos} (hN:X.N[i]? = some x:=by rfl) (hv:Vis X.env.scope x:=by first | exact Or.inl rfl | exact Or.inr (Or.inl rfl) | exact Or.inr (Or.inr rfl)) (hd:(x == ("__debug__" : Str)) = false:=by decide)
  (hcd:(x == ("__classdict__" : Str)) = false:=by decide):PE X (.Name x pos) (tVar i):=pe_var hN hv hd hcd
end
theorem iteF {A B:Prop} (h:B):if false = true then A else B:=by
 rw [if_neg Bool.false_ne_true]
 exact h
theorem iteT {A B:Prop} (h:A):if true = true then A else B:=by
 rw [if_pos rfl]
 exact h
theorem ite2 {c A B:Prop} [Decidable c] (h1:c→A) (h2:¬ c→B):if c then A else B:=by
 by_cases h:c
 ·rw [if_pos h]
  exact h1 h
 ·rw [if_neg h]
  exact h2 h
def Same (H H':Hp):Prop:=∀ b o,H b = some o→H' b = some o
theorem Same.refl (H:Hp):Same H H:=fun _ _ h=>h
theorem Same.trans {H H1 H2:Hp} (a:Same H H1) (b:Same H1 H2):Same H H2:=fun c o h=>b c o (a c o h)
theorem Same.free {H H':Hp} (e:Same H H') {l:Addr} (h:H' l = Option.none):H l = Option.none:=by
 cases q:H l with
 | none=>rfl
 | some o =>
  rw [e l o q] at h
  cases h
theorem Same.seq {K:PySem.W.Frag} {H H':Hp} {a:Addr} {xs:List V} (e:Same H H') (h:SqL K H a xs):SqL K H' a xs:=by
 rcases h with (h | ⟨o,h⟩) | h
 ·exact .inl (.inl (e _ _ h))
 ·exact .inl (.inr ⟨o,e _ _ h⟩)
 ·exact .inr h
end L2
section
set_option Elab.async false
set_option linter.all false
set_option maxRecDepth 100000
set_option maxHeartbeats 4000000
namespace L2
open PySem PySem.Spec PyProof.Rows
theorem compLoopG {prog:Program} {w:World} {A:Around} {R:Result→Shared→Prop} {s:Shared} {elt target iter:Expr} {ifs:List Expr} {scope:Scope} {pos:Pos} {it acc:Value} {env:Env} (I:Nat→Shared→Prop)
  (turn:∀ n s,I n s→wpAny (model prog w) A (pyNext it) (fun r s₁=>match r with
   | none=>R (.ok .next) s₁
   | some v=>wpAny (model prog w) A (letOwnedTupleGo target it v) (fun _ s₀=>wpAny (model prog w) A (assign target env v) (fun _ s₂ =>
     wpAny (model prog w) A (forIn ifs true fun c r=>if r = true then do let ok ← isTrue c env (eval c env); pure (ForInStep.yield ok) else pure (ForInStep.yield r)) (fun ok s₃ =>
      if ok = true then wpAny (model prog w) A (eval elt env) (fun x s₄ =>
       wpAny (model prog w) A (call (.builtin "list.append") [acc,x]) (fun _ s₅=>∃ m,m < n∧I m s₅) (fun _ _=>False) s₄) (fun _ _=>False) s₃
      else ∃ m,m < n∧I m s₃) (fun _ _=>False) s₂) (fun _ _=>False) s₀) (fun _ _=>False) s₁) (fun _ _=>False) s)
  (n:Nat) (h:I n s) :
  codeAny (model prog w) A (.compLoop (.ListComp elt [⟨target,iter,ifs,0⟩] scope pos) 0 it acc env) R s:=by
 refine codeAny_loop rfl I (fun n s hI=>?_) n h
 show wpAny _ A ((compTurn (.ListComp elt [⟨target,iter,ifs,0⟩] scope pos) 0 it acc env).onRaise (fun x=>do noteFrame x env; theTreesLotGoes x)) _ _ s
 refine wpAny_noted ?_
 rw [compTurn_list]
 refine wpAny_bind (wpAny_standAt (wpAny_bind (wpAny_mono (turn n s hI) (fun r s₁ h₁=>?_) fun _ _ h'=>h'.elim)))
 cases r with
 | none=>exact wpAny_pure h₁
 | some v =>
  refine wpAny_bind (wpAny_mono h₁ (fun _ s₀ h₀=>?_) fun _ _ h'=>h'.elim)
  refine wpAny_bind (wpAny_mono h₀ (fun _ s₂ h₂=>wpAny_bind (wpAny_mono h₂ (fun ok s₃ h₃=>?_) fun _ _ h'=>h'.elim)) fun _ _ h'=>h'.elim)
  cases ok with
  | false=>exact wpAny_pure ⟨rfl,h₃⟩
  | true =>
   exact wpAny_bind (wpAny_bind (wpAny_mono h₃ (fun x s₄ h₄=>wpAny_bind (wpAny_mono h₄ (fun _ s₅ h₅=>wpAny_pure (wpAny_pure ⟨rfl,h₅⟩)) fun _ _ h'=>h'.elim)) fun _ _ h'=>h'.elim))
theorem closure_ex {scope:Scope} {env:Env} (hf:∀ y∈scope.names,y.2 = .free→∃ c,env.cells.lookup y.1 = some c) :
  ∃ cl,closureFor scope env = pure cl∧(∀ x c,cl.lookup x = some c→env.cells.lookup x = some c)∧∀ x,(x,NameKind.free)∈scope.names→∃ c,cl.lookup x = some c:=by
 have go:∀ (l:List (Str× NameKind)) (acc:List (Str× Addr)),(∀ y∈l,y.2 = .free→∃ c,env.cells.lookup y.1 = some c)→(∀ x c,acc.lookup x = some c→env.cells.lookup x = some c) →
   ∃ cl:List (Str× Addr),(forIn l acc (fun x (r:List (Str× Addr))=>match x with | (name,kind)=>if (kind == NameKind.free) = true then do let a ← cellOf env name; pure (ForInStep.yield ((name,a) :: r)) else pure (ForInStep.yield r)):Sem (List (Str× Addr))) = pure cl ∧
    (∀ x c,cl.lookup x = some c→env.cells.lookup x = some c)∧(∀ x,(x,NameKind.free)∈l→∃ c,cl.lookup x = some c)∧∀ x c,acc.lookup x = some c→∃ c',cl.lookup x = some c':=by
  intro l
  induction l with
  | nil=>intro acc _ ha; exact ⟨acc,rfl,ha,fun x h=>absurd h (by simp),fun x c h=>⟨c,h⟩⟩
  | cons y r ih =>
   intro acc hl ha
   obtain ⟨name,kind⟩:=y
   by_cases hk:kind = .free
   ·subst hk
    obtain ⟨c,hc⟩:=hl (name,.free) List.mem_cons_self rfl
    have ha':∀ x c',((name,c) :: acc).lookup x = some c'→env.cells.lookup x = some c':=fun x c' h=>by
     rw [List.lookup_cons] at h
     cases e:x == name with
     | true=>rw [e] at h; cases h; rw [eq_of_beq e]; exact hc
     | false=>rw [e] at h; exact ha x c' h
    obtain ⟨cl,e,h1,h2,h3⟩:=ih ((name,c) :: acc) (fun y hy=>hl y (List.mem_cons_of_mem _ hy)) ha'
    refine ⟨cl,?_,h1,fun x hx=>?_,fun x c' h=>?_⟩
    ·rw [List.forIn_cons,← e]
     have ec:cellOf env name = pure c:=by unfold cellOf; rw [hc]
     show (if (NameKind.free == NameKind.free) = true then _ else _) >>= _ = _
     rw [if_pos (by rfl),ec]
     rfl
    ·rcases List.mem_cons.mp hx with z | z
     ·cases z
      exact h3 name c (by rw [List.lookup_cons]; simp)
     ·exact h2 x z
    ·cases e:x == name with
     | true=>exact h3 x c (by rw [List.lookup_cons,e])
     | false=>exact h3 x c' (by rw [List.lookup_cons,e]; exact h)
   ·have hb:(kind == NameKind.free) = false:=by simpa using hk
    obtain ⟨cl,e,h1,h2,h3⟩:=ih acc (fun y hy=>hl y (List.mem_cons_of_mem _ hy)) ha
    refine ⟨cl,?_,h1,fun x hx=>?_,h3⟩
    ·rw [List.forIn_cons,← e]
     show (if (kind == NameKind.free) = true then _ else _) >>= _ = _
     rw [if_neg (by rw [hb]; decide)]
     rfl
    ·rcases List.mem_cons.mp hx with z | z
     ·cases z; exact absurd rfl hk
     ·exact h2 x z
 obtain ⟨cl,e,h1,h2,_⟩:=go scope.names [] hf (fun x c h=>by simp at h)
 refine ⟨cl,?_,h1,h2⟩
 unfold closureFor
 show (forIn scope.names [] _ >>= fun cs=>pure cs) = _
 refine Eq.trans (congrArg (fun t=>t >>= fun cs=>pure cs) e) ?_
 rfl
theorem relabel_lookup {env:Env}:∀ {names:List (Str× NameKind)} {x:Str} {k':NameKind},
  (names.map fun (n,k)=>if (k == NameKind.free && env.scope.kind == .function && env.kindOf n == some .cell) then (n,NameKind.cell) else (n,k)).lookup x = some k' →
  ∃ k,names.lookup x = some k∧(k' = k∨(k = .free∧k' = .cell))
 | [],_,_,h=>by simp at h
 | (n,k) :: r,x,k',h=>by
  have ih:=@relabel_lookup env r x k'
  have h:List.lookup x ((if (k == NameKind.free && env.scope.kind == .function && env.kindOf n == some .cell) = true then (n,NameKind.cell) else (n,k)) :: r.map fun (n,k)=>if (k == NameKind.free && env.scope.kind == .function && env.kindOf n == some .cell) then (n,NameKind.cell) else (n,k)) = some k':=h
  by_cases hc:(k == NameKind.free && env.scope.kind == .function && env.kindOf n == some .cell) = true
  ·rw [if_pos hc,List.lookup_cons] at h
   rw [List.lookup_cons]
   cases e:x == n with
   | true =>
    rw [e] at h
    cases h
    refine ⟨k,rfl,.inr ⟨?_,rfl⟩⟩
    simp only [Bool.and_eq_true,beq_iff_eq] at hc
    exact hc.1.1
   | false=>rw [e] at h; exact ih h
  ·rw [if_neg hc,List.lookup_cons] at h
   rw [List.lookup_cons]
   cases e:x == n with
   | true=>rw [e] at h; cases h; exact ⟨k,rfl,.inl rfl⟩
   | false=>rw [e] at h; exact ih h
def cxComp (X:Cx) (s2:Shared) (H2:Hp) (fp:List Addr) (N:List Str) (scope:Scope) (cl:List (Str× Addr)) (C:Addr):Cx where
 prog:=X.prog
 w:=X.w
 K:=X.K
 mg:=X.mg
 base:=X.base
 A:=X.A
 N:=N
 s₀:=s2
 H₀:=H2
 env:=compEnvC scope cl C X.env
 outer:=X.stack
 stack:=X.stack
 ex:=fp
 fn:=fun _=>false
 calm:=X.calm
 pn:=[]
 xe:=fun _ _=>False
def GKeep (k:Nat) (g:TG):Prop:=∀ x σ H Q,g x σ H Q→g x σ H fun σ2 H2=>(∀ i,k≤i→σ2[i]? = σ[i]?)∧Q σ2 H2
theorem gkeep_name {k i:Nat} (h:i < k):GKeep k (gName i):=fun x σ H Q q=>⟨fun j hj=>by rw [List.getElem?_set_ne (by omega)],q⟩
def PIfs (X:Cx) (ifs:List Expr) (t:TT):Prop :=
 ∀ (pins:List (Addr× Obj)) (s:Shared) (σ:St) (H:Hp) (Q:Bool→Hp→Prop),Inv X pins σ H s→t σ H Q →
  wpAny (model X.prog X.w) X.A (forIn ifs true fun c r=>if r = true then do let ok ← isTrue c X.env (eval c X.env); pure (ForInStep.yield ok) else pure (ForInStep.yield r)) (TP X pins σ Q) X.xe s
theorem pif_one {X:Cx} {c:Expr} {t:TT} (h:PT X c t):PIfs X [c] t:=fun pins s σ H Q I q=>wpAny_tests_one (h pins s σ H Q I q)
def compSt (k:Nat) (js:List Nat) (σ:St):St:=List.replicate k none ++ js.map fun j=>(σ[j]?).join
def tComp (k:Nat) (js:List Nat) (wi:TI) (g:TG) (tc:TT) (te:TE):TE:=fun σ H Q=>wi σ H fun J H1=>∃ W:Nat→Nat→List V→Hp→Prop,(∃ m,W 0 m [] H1)∧∀ i m ys H,W i m ys H →
 (J.stop i H∧∀ D,H D = none→Q (.ref D) (upd H D (.lst ys))) ∨
 (J.go i H∧ys.length < sizeLine∧∀ x H',J.yld i H x H'→g x (compSt k js σ) H' fun σ2 H2=>tc σ2 H2 fun b H3=>if b = true then te σ2 H3 fun y H4=>∃ m',m' < m∧W (i + 1) m' (ys ++ [y]) H4 else ∃ m',m' < m∧W (i + 1) m' ys H3)
theorem Un.later {P:Program} {w:World} {fs ex:List Addr} {H H1 H2:Hp} {h h1 h2:Heap} (u:Un fs ex H H1 h h1) (ok:HOk P w H h) (ag:∀ b,b < h.objs.size→H2 b = H1 b) (k:∀ b o,b < h.objs.size→h1.get? b = some o→h2.get? b = some o):Un fs ex H H2 h h2 where
 keep:=fun b o e n hb hx=>k b o (Heap.lt_size e) (u.keep b o e n hb hx)
 slot:=fun b o e n hb hx=>let ⟨sl,q⟩:=u.slot b o e n hb hx; ⟨sl,k b _ (Heap.lt_size e) q⟩
 free:=fun b o e n hx=>by rw [ag b (Heap.lt_size e)]; exact u.free b o e n hx
 there:=fun b o e hx=>let ⟨o',q⟩:=u.there b o e hx; ⟨o',k b _ (Heap.lt_size e) q⟩
 tups:=fun b xs e=>by rw [ag b (ok.lt e)]; exact u.tups b xs e
 frzs:=fun b o x e=>by rw [ag b (ok.lt e)]; exact u.frzs b o x e
 tbls:=fun b ps e=>by rw [ag b (ok.lt e)]; exact u.tbls b ps e
section
variable {X:Cx} {elt tg iter:Expr} {ifs:List Expr} {scope:Scope} {pos:Pos} {wi:TI} {g:TG} {tc:TT} {te:TE}
structure CompOk (X:Cx) (scope:Scope) (own:List Str) (fr:List (Str× Nat)):Prop where
 kind:scope.kind = .function
 cell:∀ y∈scope.names,y.2≠.cell
 loc:∀ y∈scope.names,y.2 = .local→scope.names.lookup y.1 = some .local
 free:∀ y∈scope.names,y.2 = .free→X.env.kindOf y.1 = some .cell
 fr:∀ p∈fr,scope.names.lookup p.1 = some .free∧X.N[p.2]? = some p.1
def compChk (sc scope:Scope) (N:List Str) (fr:List (Str× Nat)):Bool :=
 (decide (scope.kind = .function) && scope.names.all (fun y=>decide (y.2≠.cell)) && scope.names.all (fun y=>decide (y.2 = .local→scope.names.lookup y.1 = some .local)) &&
  scope.names.all (fun y=>decide (y.2 = .free→sc.names.lookup y.1 = some .cell)) && fr.all fun p=>decide (scope.names.lookup p.1 = some .free) && decide (N[p.2]? = some p.1))
theorem compOk {own:List Str} {fr:List (Str× Nat)} (sc:Scope) (N:List Str) (h:compChk sc scope N fr = true) (hs:X.env.scope = sc:=by rfl) (hN:X.N = N:=by rfl):CompOk X scope own fr:=by
 subst hs hN
 unfold compChk at h
 simp only [Bool.and_eq_true,List.all_eq_true,decide_eq_true_eq] at h
 obtain ⟨⟨⟨⟨h1,h2⟩,h3⟩,h4⟩,h5⟩:=h
 exact ⟨h1,h2,h3,h4,h5⟩
theorem comp_core {own:List Str} {fr:List (Str× Nat)} {pins:List (Addr× Obj)} {s2:Shared} {σ:St} {H2:Hp} {it:Addr} {fp:List Addr} {tn:Nat→Heap→Prop} {J:It} {cl:List (Str× Addr)} {E:Value→Shared→Prop}
  {W:Nat→Nat→List V→Hp→Prop} {m0:Nat} {RR:Value→Addr→Result→Shared→Prop} {Fin:Addr→List V→Hp→Prop}
  (hc:X.calm = true) (S:CompOk X scope own fr) (cl1:∀ x c,cl.lookup x = some c→X.env.cells.lookup x = some c) (cl2:∀ x,(x,NameKind.free)∈scope.names→∃ c,cl.lookup x = some c)
  (hg:∀ s2 H2 fp cl C,PG (cxComp X s2 H2 fp (own ++ fr.map (·.1)) scope cl C) tg g) (hk:GKeep own.length g)
  (hi:∀ s2 H2 fp cl C,PIfs (cxComp X s2 H2 fp (own ++ fr.map (·.1)) scope cl C) ifs tc) (he:∀ s2 H2 fp cl C,PE (cxComp X s2 H2 fp (own ++ fr.map (·.1)) scope cl C) elt te)
  (I2:Inv X pins σ H2 s2) (T:Turn X.prog X.w X.K tg J fp it tn) (st2:tn 0 s2.heap) (f2:∀ b∈fp,FpOk X pins H2 b) (w0:W 0 m0 [] H2)
  (turn:∀ i m ys H,W i m ys H →
   (J.stop i H∧∀ D,H D = none→Fin D ys H) ∨
   (J.go i H∧ys.length < sizeLine∧∀ x H',J.yld i H x H'→g x (compSt own.length (fr.map (·.2)) σ) H' fun σ2 H2=>tc σ2 H2 fun b H3=>if b = true then te σ2 H3 fun y H4=>∃ m',m' < m∧W (i + 1) m' (ys ++ [y]) H4 else ∃ m',m' < m∧W (i + 1) m' ys H3))
  (hRR:∀ D C oC mC s4 H4 ys,Fin D ys H4→Inv X (pins ++ [(C,oC)]) σ (upd H4 D (.lst ys)) s4→s4.heap.Ns C mC→FpOk X pins (upd H4 D (.lst ys)) C→RR (.ref D) C (.ok .next) s4) :
  wpAny (model X.prog X.w) X.A (newList []) (fun acc s₃=>wpAny (model X.prog X.w) X.A (newFunctionEnv scope X.env.globals cl [] X.env.qual none .none (some X.env)) (fun cenv s₄ =>
   codeAny (model X.prog X.w) X.A (.compStart (.ListComp elt [⟨tg,iter,ifs,0⟩] scope pos) 0 (.ref it) acc { cenv with scope:=relabel scope X.env }) (RR acc cenv.locals) s₄) E s₃) E s2:=by
 refine wpAny_newObj_type (wpAny_newFunctionEnv S.cell (by intro y hy; simp at hy) (fun h₁ hns₁ hsb₁=>?_) S.kind)
 dsimp only at hns₁ hsb₁ ⊢
 generalize hH2:s2.heap.push { cls:=.type "list", dict:=none,data:=.seq ([]:List Value).toArray } = Hh at hns₁ hsb₁ ⊢
 have hC:Hh.objs.size = s2.heap.objs.size + 1:=by rw [← hH2,Heap.size_push]
 have hDC:s2.heap.objs.size≠Hh.objs.size:=by rw [hC]; exact Nat.ne_of_lt (Nat.lt_succ_self _)
 have hCle:s2.heap.objs.size≤Hh.objs.size:=by rw [hC]; exact Nat.le_succ _
 have old:∀ b o,s2.heap.get? b = some o→h₁.get? b = some o:=fun b o e=>hsb₁.extBut b o (Nat.ne_of_lt (Nat.lt_of_lt_of_le (Heap.lt_size e) hCle)) (Heap.get?_push_of_some _ (hH2 ▸ Heap.get?_push_of_some _ e))
 have hacc:h₁.get? s2.heap.objs.size = some (LCg.lst []):=hsb₁.extBut _ _ hDC (Heap.get?_push_of_some _ (hH2 ▸ Heap.get?_push_size _ rfl))
 let Y:Cx:=cxComp X s2 H2 fp (own ++ fr.map (·.1)) scope cl Hh.objs.size
 let D:=s2.heap.objs.size
 let σY:St:=compSt own.length (fr.map (·.2)) σ
 have fpl:∀ b∈fp,b < s2.heap.objs.size:=fun b hb=>let ⟨o,e,_⟩:=T.obj 0 _ st2 b hb; Heap.lt_size e
 have nfs:∀ b,s2.heap.objs.size≤b→b∉Y.fs:=fun b hb z=>by
  rcases List.mem_cons.mp (I2.stkSub b z) with e | e
  ·rw [e] at hb; exact absurd I2.lt (Nat.not_lt.mpr hb)
  ·exact I2.nofs hb e
 have hkY:∀ x,(Y.env.kindOf x = some .cell∨Y.env.kindOf x = some .free)→scope.names.lookup x = some .free:=fun x hx=>by
  have q:∃ k',(relabel scope X.env).names.lookup x = some k'∧(k' = .cell∨k' = .free):=by
   rcases hx with z | z
   ·exact ⟨_,z,.inl rfl⟩
   ·exact ⟨_,z,.inr rfl⟩
  obtain ⟨k',e,hk'⟩:=q
  obtain ⟨k,e',h'⟩:=relabel_lookup e
  have nc:k≠.cell:=S.cell (x,k) (PySem.mem_of_lookup e')
  rcases h' with z | ⟨z,_⟩
  ·subst z
   rcases hk' with z | z
   ·exact absurd z nc
   ·rw [z] at e'; exact e'
  ·rw [z] at e'; exact e'
 have okY:Y.Ok:=by
  refine ⟨I2.ok.mod,S.kind,I2.ok.glob,I2.ok.blt,hCle,fun x y c h1 h2=>I2.ok.inj x y c (cl1 x c h1) (cl1 y c h2),fun x hx=>cl2 x (PySem.mem_of_lookup (hkY x hx)),(fun x c z _=>nomatch z),I2.ok.hd,I2.ok.frames,.inl rfl,fun b hb=>⟨?_,fun x c e=>(f2 b hb).2.2.2.2.1 x c (cl1 x c e)⟩,
   fun b o e=>I2.bs b o e,Nat.le_trans I2.ok.bsz I2.sz,fun b o e hb=>?_,fun b hb z=>?_,I2.stack,I2.stkFree⟩
  ·exact Nat.ne_of_lt (Nat.lt_of_lt_of_le (fpl b hb) hCle)
  ·rcases (f2 b hb).2.2.2.1 with z | z
   ·exact I2.ok.noex b o e z
   ·exact absurd (Nat.lt_of_lt_of_le (Heap.lt_size e) (Nat.le_trans I2.ok.bsz z)) (Nat.lt_irrefl _)
  ·rcases List.mem_cons.mp (I2.stkSub b z) with e | e
   ·exact (f2 b hb).2.1 e
   ·exact (f2 b hb).2.2.1 e
 have σYl:σY.length = Y.N.length:=by
  show (compSt own.length (fr.map (·.2)) σ).length = (own ++ fr.map (·.1)).length
  unfold compSt
  rw [List.length_append,List.length_append,List.length_replicate,List.length_map,List.length_map,List.length_map]
 have lookY:∀ (h:Heap) (m:Str→Option Value),(∀ c v,(∃ x,X.env.cells.lookup x = some c)→s2.heap.IsCell c v→h.IsCell c v)→∀ (i:Nat) (x:Str) (v:V),Y.N[i]? = some x→σY[i]? = some (some v)→Vis Y.env.scope x→∃ u,RelV v u∧Look Y.env h m x u:=by
  intro h m hcells i x v hN hσ hv
  have hN:(own ++ fr.map (·.1))[i]? = some x:=hN
  have hσ:(List.replicate own.length none ++ (fr.map (·.2)).map fun j=>(σ[j]?).join)[i]? = some (some v):=hσ
  by_cases hio:i < own.length
  ·rw [List.getElem?_append_left (by simpa using hio),List.getElem?_replicate,if_pos hio] at hσ
   cases hσ
  ·rw [List.getElem?_append_right (by simpa using hio)] at hσ
   rw [List.getElem?_append_right (by simpa using hio)] at hN
   rw [List.length_replicate] at hσ
   rw [List.getElem?_map] at hN
   rw [List.getElem?_map,List.getElem?_map] at hσ
   cases ep:fr[i - own.length]? with
   | none=>rw [ep] at hN; cases hN
   | some p =>
    rw [ep] at hN hσ
    cases hN
    have hσ:(σ[p.2]?).join = some v:=Option.some.inj hσ
    obtain ⟨hfree,hXN⟩:=S.fr p (List.mem_of_getElem? ep)
    have hXk:X.env.kindOf p.1 = some .cell:=S.free (p.1,.free) (PySem.mem_of_lookup hfree) rfl
    obtain ⟨m',hn',hl'⟩:=I2.loc
    have hσ':σ[p.2]? = some (some v):=by
     cases e:σ[p.2]? with
     | none=>rw [e] at hσ; cases hσ
     | some o=>rw [e] at hσ; cases o with
      | none=>cases hσ
      | some v'=>cases hσ; rfl
    obtain ⟨u,r,l⟩:=hl' p.2 p.1 v hXN hσ' (.inr (.inl hXk))
    refine ⟨u,r,?_⟩
    rcases l with ⟨l,_⟩ | ⟨_,c,hcl,hcell⟩
    ·rw [hXk] at l; cases l
    ·obtain ⟨c',hc'⟩:=cl2 p.1 (PySem.mem_of_lookup hfree)
     have e2:=cl1 _ _ hc'
     rw [hcl] at e2
     cases e2
     refine .inr ⟨?_,c,hc',hcells c _ ⟨_,hcl⟩ hcell⟩
     rcases hv with z | z | z
     ·obtain ⟨k,e1,e3⟩:=relabel_lookup z
      rw [hfree] at e1
      cases e1
      rcases e3 with e3 | ⟨_,e3⟩
      ·exact .inr (by cases e3)
      ·exact .inr (by cases e3)
     ·exact .inl z
     ·exact .inr z
 have IY:Inv Y [(D,LCg.lst [])] σY H2 { s2 with heap:=h₁,toks:=s2.toks + ([]:List (Str× Value)).length }:=by
  refine ⟨okY,rfl,I2.bare,Un.kept old,⟨_,hns₁,lookY _ _ fun c v _ ⟨o,e,d⟩=>⟨o,old c o e,d⟩⟩,fun x c e=>?_,I2.hok.fresh hCle,fun x c e=>I2.freeC x c (cl1 x c e),fun p hp=>?_,I2.hok.kept old,σYl⟩
  ·obtain ⟨v,o,e1,d⟩:=I2.cell x c (cl1 x c e)
   exact ⟨v,o,old c o e1,d⟩
  ·have hp:p∈[(D,LCg.lst [])]:=by simpa [Y,cxComp] using hp
   rw [List.mem_singleton.mp hp]
   exact ⟨hacc,I2.hok.fresh (Nat.le_refl _),hDC,nfs _ (Nat.le_refl _),fun v z=>nomatch z⟩
 have stat:∀ {us:List Value} {H':Hp},(∀ b∈fp,H' b = none)→∀ b∈fp,FpOk Y [(D,LCg.lst us)] H' b:=fun {us H'} hn b hb=>by
  refine ⟨hn b hb,Nat.ne_of_lt (Nat.lt_of_lt_of_le (fpl b hb) hCle),fun z=>?_,.inl hb,fun x c e=>(f2 b hb).2.2.2.2.1 x c (cl1 x c e),fun p hp=>?_⟩
  ·exact okY.exfs b hb z
  ·have hp:p∈[(D,LCg.lst us)]:=by simpa [Y,cxComp] using hp
   rw [List.mem_singleton.mp hp]
   exact fun z=>absurd (fpl b hb) (by rw [← z]; exact Nat.lt_irrefl _)
 have loop:∀ s₃:Shared,s₃ = { s2 with heap:=h₁,toks:=s2.toks + ([]:List (Str× Value)).length } →
   codeAny (model X.prog X.w) X.A (.compLoop (.ListComp elt [⟨tg,iter,ifs,0⟩] scope pos) 0 (.ref it) (.ref s2.heap.objs.size) (compEnvC scope cl Hh.objs.size X.env))
    (RR (.ref s2.heap.objs.size) Hh.objs.size) s₃:=by
  rintro s₃ rfl
  refine compLoopG (fun n s'=>∃ i ys us H',Inv Y [(D,LCg.lst us)] σY H' s'∧Vals ys us∧ys.length≤sizeLine∧tn i s'.heap∧(∀ b∈fp,H' b = none)∧W i n ys H') ?_ m0
   ⟨0,[],[],H2,IY,.nil,Nat.zero_le _,T.keep _ _ _ st2 fun b _ o e=>old b o e,fun b hb=>(f2 b hb).1,w0⟩
  rintro n s3 ⟨i,ys,us,H3,I3,rv,hsz,st3,fr3,w3⟩
  rcases turn i n ys H3 w3 with ⟨stop,qn⟩ | ⟨go,hlt,step⟩
  ·refine thn (T.done Y rfl rfl rfl hc i _ s3 σY H3 _ I3 (stat fr3) st3 stop) fun r s4 ⟨hr,I4⟩=>?_
   subst hr
   have pinD:=I4.pin (D,LCg.lst us) (List.mem_append_right _ (List.mem_singleton.mpr rfl))
   obtain ⟨mC,hnC,_⟩:=I4.loc
   obtain ⟨oC,esC,epC,hoC,hdC,hxC⟩:=id hnC
   have hDn:H3 D = none:=pinD.2.1
   have ag:∀ b,b < s2.heap.objs.size→(upd H3 D (.lst ys)) b = H3 b:=fun b hb=>upd_ne (Nat.ne_of_lt hb)
   have hokU:HOk X.prog X.w (upd H3 D (.lst ys)) s4.heap:=fun a o e=>by
    by_cases ha:a = D
    ·subst ha
     rw [upd_same] at e
     cases e
     exact ⟨hsz,us,_,rv,pinD.1⟩
    ·rw [upd_ne ha] at e
     refine (I4.hok a o e).stay (fun _ _ _ q=>q) (fun b q=>?_) (fun b xs q=>?_)
     ·rw [upd_ne (ne_of_none q hDn)]; exact q
     ·rw [upd_ne (ne_of_none q hDn)]; exact q
   have IX:Inv X pins σ (upd H3 D (.lst ys)) s4:=I2.call' (ch:=fp) I4.os (I4.base.later I2.hok ag fun b o _ e=>e) hokU I4.bare fun b hb=>⟨(f2 b hb).2.2.2.1,(f2 b hb).2.1,(f2 b hb).2.2.2.2.1,(f2 b hb).2.2.2.2.2⟩
   have hCn:(upd H3 D (.lst ys)) Hh.objs.size = none:=by rw [upd_ne (Ne.symm hDC)]; exact I4.free
   have fC:FpOk X pins (upd H3 D (.lst ys)) Hh.objs.size:=I2.fpOk hCle hCn
   refine hRR D Hh.objs.size oC mC s4 H3 ys (qn D hDn) (IX.pins_of fun p hp=>?_) hnC fC
   rcases List.mem_append.mp hp with z | z
   ·exact IX.pin p (List.mem_append_right _ z)
   ·rw [List.mem_singleton.mp z]
    exact ⟨hoC,hCn,fC.2.1,fC.2.2.1,fun v z=>by rw [hdC] at z; cases z⟩
  ·refine thn (T.item Y rfl rfl rfl hc i _ s3 σY H3 _ I3 (stat fr3) st3 go) fun r s4 ⟨u,hr,h4⟩=>?_
   subst hr
   refine thn h4 fun _ s5 ⟨x,H5,I5,r5,y5,st5,fr5⟩=>?_
   have I5':=I5.pinned (stat fr5) (T.obj _ _ st5)
   refine thn (hg _ _ _ _ _ _ s5 σY H5 x u _ I5' r5 (hk _ _ _ _ (step x H5 y5))) fun _ s6 ⟨σ6,H6,I6,hext,q6⟩=>?_
   refine thn (hi _ _ _ _ _ _ s6 σ6 H6 _ I6 q6) fun b s7 ⟨H7,I7,q7⟩=>?_
   have back:∀ {s8:Shared} {H8:Hp} {us8:List Value},Inv Y ([(D,LCg.lst us8)] ++ pinsAt fp s5.heap) σ6 H8 s8→Inv Y [(D,LCg.lst us8)] σY H8 s8∧tn (i + 1) s8.heap∧∀ b∈fp,H8 b = none:=fun {s8 H8 us8} I8=>by
    refine ⟨I8.unpinned.weak (σYl.trans I8.len.symm) fun j v hj=>?_,T.keep _ _ _ st5 fun b hb o e=>(I8.pin (b,o) (List.mem_append_right _ (List.mem_append_right _ (mem_pinsAt hb e)))).1,fun b hb=>?_⟩
    ·have hjo:own.length≤j:=by
      rcases Nat.lt_or_ge j own.length with z | z
      ·have hj:(List.replicate own.length none ++ (fr.map (·.2)).map fun j=>(σ[j]?).join)[j]? = some (some v):=hj
       rw [List.getElem?_append_left (by simpa using z),List.getElem?_replicate,if_pos z] at hj
       cases hj
      ·exact z
     rw [hext j hjo]
     exact hj
    ·obtain ⟨o,e,d⟩:=T.obj _ _ st5 b hb
     exact (I8.pin (b,o) (List.mem_append_right _ (List.mem_append_right _ (mem_pinsAt hb e)))).2.1
   cases b with
   | false =>
    rw [if_neg Bool.false_ne_true] at q7 ⊢
    obtain ⟨m',hm,w7⟩:=q7
    obtain ⟨I8,t8,f8⟩:=back I7
    exact ⟨m',hm,i + 1,ys,us,H7,I8,rv,hsz,t8,f8,w7⟩
   | true =>
    rw [if_pos rfl] at q7 ⊢
    refine thn (he _ _ _ _ _ _ s7 σ6 H7 _ I7 q7) fun vy s8 ⟨y,H8,I8,ry,m',hm,w8⟩=>?_
    have pinD:=I8.pin (D,LCg.lst us) (List.mem_append_right _ (List.mem_append_left _ (List.mem_singleton.mpr rfl)))
    refine append_at (hsz:=by rw [List.size_toArray,← rv.length]; exact hsz) pinD.1 fun h₅ hs₅ hD₅=>?_
    have hD₅':h₅.get? D = some (LCg.lst (us ++ [vy])):=hD₅.trans (congrArg some (LCg.lst_snoc us vy))
    have Ia:Inv Y (pinsAt fp s5.heap) σ6 H8 s8:=I8.pins_of fun p hp=>I8.pin p (List.mem_append_right _ (List.mem_append_right _ hp))
    have Ib:Inv Y (pinsAt fp s5.heap) σ6 H8 { s8 with heap:=h₅ }:=Ia.turned (it:=D) (t':=s8.toks) (fun b o hb e=>hs₅.extBut b o hb e) pinD.2.1 hDC (.inr (Nat.le_refl _))
     (fun x c e z=>by
      obtain ⟨v,q⟩:=I2.cell x c (cl1 x c e)
      exact absurd q.lt (by rw [z]; exact Nat.lt_irrefl _))
     (fun p hp=>by
      have hp:p∈pinsAt fp s5.heap:=by simpa [Y,cxComp] using hp
      exact fun z=>absurd (fpl p.1 (of_pinsAt hp).1) (by rw [z]; exact Nat.lt_irrefl _))
    have Ic:Inv Y ([(D,LCg.lst (us ++ [vy]))] ++ pinsAt fp s5.heap) σ6 H8 { s8 with heap:=h₅ }:=Ib.pins_of fun p hp=>by
     rcases List.mem_append.mp hp with z | z
     ·rw [List.mem_singleton.mp z]
      exact ⟨hD₅',pinD.2.1,hDC,nfs _ (Nat.le_refl _),fun v z=>nomatch z⟩
     ·exact Ib.pin p (List.mem_append_right _ z)
    obtain ⟨I9,t9,f9⟩:=back Ic
    exact ⟨m',hm,i + 1,ys ++ [y],us ++ [vy],H8,I9,rv.append (.cons ry .nil),by rw [List.length_append,List.length_singleton]; omega,t9,f9,w8⟩
 exact codeAny_compStart_list (loop _ rfl) (T.self X.A 0 _ _ _ (T.keep _ _ _ st2 fun b _ o e=>old b o e) (loop _ rfl))
theorem comp_cells {own:List Str} {fr:List (Str× Nat)} {pins:List (Addr× Obj)} {s:Shared} {σ:St} {H:Hp} (S:CompOk X scope own fr) (I:Inv X pins σ H s):∀ y∈scope.names,y.2 = .free→∃ c,X.env.cells.lookup y.1 = some c :=
 fun y hy e=>I.ok.has y.1 (.inl (S.free y hy e))
theorem pe_comp (own:List Str) (fr:List (Str× Nat)) (hc:X.calm = true) (S:CompOk X scope own fr) (hit:PI X tg iter wi)
  (hg:∀ s2 H2 fp cl C,PG (cxComp X s2 H2 fp (own ++ fr.map (·.1)) scope cl C) tg g) (hk:GKeep own.length g)
  (hi:∀ s2 H2 fp cl C,PIfs (cxComp X s2 H2 fp (own ++ fr.map (·.1)) scope cl C) ifs tc) (he:∀ s2 H2 fp cl C,PE (cxComp X s2 H2 fp (own ++ fr.map (·.1)) scope cl C) elt te)
  (hs:∀ x,foldedSetIterable iter X.env x = pure x:=by intro _; rfl) :
  PE X (.ListComp elt [⟨tg,iter,ifs,0⟩] scope pos) (tComp own.length (fr.map (·.2)) wi g tc te):=by
 intro pins s σ H Q I h
 obtain ⟨cl,hclos,cl1,cl2⟩:=closure_ex (comp_cells S I)
 rw [eval_ListComp]
 refine wpAny_comprehension_free (use:=none) rfl hs hclos S.kind S.loc (thn (hit pins s σ H _ I h) fun v s1 h1=>thn h1 fun itv s2 h2=>?_)
 obtain ⟨it,fp,tn,J,H2,e,I2,T,st2,f2,W,⟨m0,w0⟩,turn⟩:=h2
 subst e
 refine comp_core (RR:=fun acc C=>compPost (model X.prog X.w) X.A X.xe none (EP X pins σ Q) acc C) (Fin:=fun D ys H=>Q (.ref D) (upd H D (.lst ys))) hc S cl1 cl2 hg hk hi he I2 T st2 f2 w0 turn ?_
 intro D C oC mC s4 H4 ys fin IC hn fC
 refine ⟨mC,hn,fun h' hs'=>⟨.ref D,_,?_,rfl,fin⟩⟩
 exact IC.unpinned.turned (t':=s4.toks) (fun b o hb e=>hs'.extBut b o hb e) fC.1 fC.2.1 fC.2.2.2.1 fC.2.2.2.2.1 fC.2.2.2.2.2
end
theorem comp_by {J:It} {xs:List V} {g:TG} {tc:TT} {te:TE} {σY:St} {H:Hp} {F:Addr→List V→Hp→Prop} (Pv:Nat→List V→Hp→Prop) (h0:Pv 0 [] H) (hz:xs.length≤sizeLine)
  (hgo:∀ i ys H,i < xs.length→Pv i ys H→J.go i H) (hst:∀ ys H,Pv xs.length ys H→J.stop xs.length H)
  (hy:∀ i ys H x H',Pv i ys H→J.yld i H x H'→H' = H∧xs[i]? = some x)
  (hs:∀ i x ys H,xs[i]? = some x→Pv i ys H→g x σY H fun σ2 H2=>tc σ2 H2 fun b H3=>if b = true then te σ2 H3 fun y H4=>Pv (i + 1) (ys ++ [y]) H4 else Pv (i + 1) ys H3)
  (mono:∀ x σ H Q Q',(∀ σ2 H2,Q σ2 H2→Q' σ2 H2)→g x σ H Q→g x σ H Q')
  (monoT:∀ σ H Q Q',(∀ b H1,Q b H1→Q' b H1)→tc σ H Q→tc σ H Q') (monoE:∀ σ H Q Q',(∀ v H1,Q v H1→Q' v H1)→te σ H Q→te σ H Q')
  (hd:∀ ys H,Pv xs.length ys H→∀ D,H D = none→F D ys H) :
  ∃ W:Nat→Nat→List V→Hp→Prop,(∃ m,W 0 m [] H)∧∀ i m ys H,W i m ys H →
   (J.stop i H∧∀ D,H D = none→F D ys H) ∨
   (J.go i H∧ys.length < sizeLine∧∀ x H',J.yld i H x H'→g x σY H' fun σ2 H2=>tc σ2 H2 fun b H3=>if b = true then te σ2 H3 fun y H4=>∃ m',m' < m∧W (i + 1) m' (ys ++ [y]) H4 else ∃ m',m' < m∧W (i + 1) m' ys H3):=by
 refine ⟨fun i m ys H=>m = xs.length - i∧i≤xs.length∧ys.length≤i∧Pv i ys H,⟨xs.length,by simp,Nat.zero_le _,Nat.le_refl _,h0⟩,?_⟩
 rintro i m ys H ⟨rfl,hi,hyl,p⟩
 by_cases hlt:i < xs.length
 ·refine .inr ⟨hgo i ys H hlt p,by omega,fun x H' y=>?_⟩
  obtain ⟨e,hx⟩:=hy i ys H x H' p y
  subst e
  refine mono _ _ _ _ _ (fun σ2 H2 q=>monoT _ _ _ _ (fun b H3 q2=>?_) q) (hs i x ys _ hx p)
  cases b with
  | true =>
   rw [if_pos rfl] at q2 ⊢
   exact monoE _ _ _ _ (fun v H4 q4=>⟨xs.length - (i + 1),by omega,rfl,hlt,by rw [List.length_append,List.length_singleton]; omega,q4⟩) q2
  | false =>
   rw [if_neg Bool.false_ne_true] at q2 ⊢
   exact ⟨xs.length - (i + 1),by omega,rfl,hlt,by omega,q2⟩
 ·have e:i = xs.length:=by omega
  subst e
  exact .inl ⟨hst ys H p,hd ys H p⟩
section
variable {X:Cx} {pins:List (Addr× Obj)} {σ:St} {H H':Hp} {s:Shared} {h':Heap}
theorem Inv.turnedL {its:List Addr} {t':Nat} (I:Inv X pins σ H s) (hf:∀ b∈its,FpOk X pins H b) (k:∀ b o,b∉its→s.heap.get? b = some o→h'.get? b = some o)
  (ag:∀ b,b < s.heap.objs.size→H' b = H b) (hok:HOk X.prog X.w H' h'):Inv X pins σ H' { s with heap:=h',toks:=t' }:=by
 refine I.step (g':=s.gens) (d':=s.drawn) (ch:=its) (fun b hb=>⟨(hf b hb).2.2.2.1,(hf b hb).2.1,(hf b hb).2.2.2.2.1,(hf b hb).2.2.2.2.2⟩) (fun b o _ _ hc e _=>k b o hc e) (fun b o _ _ hc e _=>⟨o.slots,k b o hc e⟩)
  (fun b o _ e n=>by rw [ag b (Heap.lt_size e)]; exact n) (fun b o hc e=>⟨o,k b o hc e⟩) (fun b xs e=>by rw [ag b (I.hok.lt e)]; exact e) (fun b o u e=>by rw [ag b (I.hok.lt e)]; exact e)
  (fun b ps e=>⟨#[],by rw [ag b (I.hok.lt e),e]; simp⟩) (fun m hm=>?_) hok I.bare
 obtain ⟨o,es,ep,ho,r⟩:=hm
 exact ⟨o,es,ep,k _ o (fun z=>(hf _ z).2.1 rfl) ho,r⟩
theorem HOk.turned {its:List Addr} (ok:HOk X.prog X.w H s.heap) (hf:∀ b∈its,H b = none) (k:∀ b o,b∉its→s.heap.get? b = some o→h'.get? b = some o):HOk X.prog X.w H h':=fun b u e=>by
 refine (ok b u e).stay (fun c v hc q=>k c v (fun z=>?_) q) (fun _ q=>q) fun _ _ q=>q
 rcases hc with y | y
 ·rw [← y,hf c z] at e; cases e
 ·rw [hf c z] at y; cases y
theorem HOk.turnedNew {its:List Addr} {T:Addr} {o:HO} (ok:HOk X.prog X.w H s.heap) (hf:∀ b∈its,H b = none) (k:∀ b o,b∉its→s.heap.get? b = some o→h'.get? b = some o) (hT:s.heap.objs.size≤T)
  (new:ObjOk X.prog X.w (upd H T o) h' T o):HOk X.prog X.w (upd H T o) h':=fun b u e=>by
 by_cases hb:b = T
 ·subst hb
  rw [upd_same] at e
  cases e
  exact new
 ·rw [upd_ne hb] at e
  have hn:H T = none:=ok.fresh hT
  refine (HOk.turned (s:=s) ok hf k b u e).stay (fun _ _ _ q=>q) (fun c q=>?_) fun c xs q=>?_
  ·rw [upd_ne (ne_of_none q hn)]; exact q
  ·rw [upd_ne (ne_of_none q hn)]; exact q
end
def Ite (K:PySem.W.Frag) (l:Addr):It :=
 ⟨fun i H=>∃ xs x,SqL K H l xs∧xs[i]? = some x,
  fun i H v H'=>∃ T x,v = .ref T∧H T = none∧H' = upd H T (.tup [.int i,x])∧∀ xs,SqL K H l xs→xs[i]? = some x,
  fun i H=>∃ xs,SqL K H l xs∧xs.length≤i⟩
theorem turn_enum {P:Program} {w:World} {K:PySem.W.Frag} {elts:List Expr} {x1} {tp:Pos} {e it l:Addr} (hei:e≠it) :
  Turn P w K (.Tuple elts x1 tp) (Ite K l) [e,it] e (fun i h=>(∃ old,IsEnum h e it i old)∧h.IsListIter it l i) where
 mem:=by simp
 obj:=fun i h ⟨⟨old,h1⟩,h4⟩ c hc=>by
  simp only [List.mem_cons,List.mem_nil_iff,or_false] at hc
  rcases hc with rfl | rfl
  ·exact ⟨_,h1,fun v z=>nomatch z⟩
  ·obtain ⟨o,e,c,d⟩:=h4
   exact ⟨o,e,fun v z=>by rw [d] at z; cases z⟩
 keep:=fun i h h' ⟨⟨old,h1⟩,h4⟩ k=>⟨⟨old,k _ (by simp) _ h1⟩,h4.at fun o e=>k _ (by simp) o e⟩
 item:=by
  intro X hP hw hK hc i pins s σ H E I hf st hg
  subst hP hw hK
  obtain ⟨⟨old,h1⟩,h4⟩:=st
  obtain ⟨xs,x,q1,e1⟩:=hg
  obtain ⟨its1,rv1,p1,hz1⟩:=I.list q1
  obtain ⟨u,hu,ru⟩:=rv1.get e1
  refine wpAny_pyNext_enum_item h1 h4 p1.isList (x:=u) (by simpa using hu) hei fun h' a1 a3 a5 a6 a7=>?_
  refine ⟨_,rfl,wpAny_letOwnedTupleGo_enum (s:={ s with heap:=h',toks:=s.toks + 1 }) a1 fun h'' b1 b2=>?_⟩
  have b2:Heap.SameBut e h' h'':=b2
  have zl:e < s.heap.objs.size:=Heap.lt_size h1
  have Tz:s.heap.objs.size≠e:=Nat.ne_of_gt zl
  have k:∀ b o,b∉[e,it]→s.heap.get? b = some o→h''.get? b = some o:=fun b o hb q=>by
   simp only [List.mem_cons,List.mem_nil_iff,or_false,not_or] at hb
   exact b2.extBut b o hb.1 (a7 b o hb.1 hb.2 q)
  have pT:h''.get? s.heap.objs.size = some { cls:=.type "tuple", data:=.seq #[.int i s.toks,u] }:=b2.extBut _ _ Tz a5
  have hn:H s.heap.objs.size = none:=I.hok.fresh (Nat.le_refl _)
  have fpl:∀ b∈[e,it],s.heap.objs.size≠b:=fun b hb=>by
   simp only [List.mem_cons,List.mem_nil_iff,or_false] at hb
   rcases hb with rfl | rfl
   ·exact Tz
   ·obtain ⟨o,q,_⟩:=h4; exact Nat.ne_of_gt (Heap.lt_size q)
  have hok:HOk X.prog X.w (upd H s.heap.objs.size (.tup [.int i,x])) h'':=HOk.turnedNew (s:=s) I.hok (fun b hb=>(hf b hb).1) k (Nat.le_refl _) ⟨(by show 2≤sizeLine; decide),[.int i s.toks,u],.cons ⟨_,rfl⟩ (.cons ru .nil),_,pT,rfl,_,rfl⟩
  have I1:Inv X pins σ (upd H s.heap.objs.size (.tup [.int i,x])) { s with heap:=h'',toks:=s.toks + 1 }:=I.turnedL (t':=s.toks + 1) hf k (fun b hb=>upd_ne (Nat.ne_of_lt hb)) hok
  refine ⟨.ref s.heap.objs.size,_,I1,rfl,⟨_,x,rfl,hn,rfl,fun zs hz=>by rw [I.list_inj hz q1]; exact e1⟩,?_,fun b hb=>by rw [upd_ne (Ne.symm (fpl b hb))]; exact (hf b hb).1⟩
  exact ⟨⟨_,b1⟩,a3.extBut b2.extBut hei.symm⟩
 done:=by
  intro X hP hw hK hc i pins s σ H E I hf st hg
  subst hP hw hK
  obtain ⟨⟨old,h1⟩,h4⟩:=st
  obtain ⟨xs,q1,hx⟩:=hg
  obtain ⟨its1,rv1,p1,hz1⟩:=I.list q1
  have l1:=rv1.length
  refine wpAny_pyNext_enum_end (I.ok.hd hc) h1 h4 p1.isList (by simp; omega) fun h' a7=>?_
  have k:∀ b o,b∉[e,it]→s.heap.get? b = some o→h'.get? b = some o:=fun b o hb q=>by
   simp only [List.mem_cons,List.mem_nil_iff,or_false,not_or] at hb
   exact a7 b o hb.2 q
  exact ⟨rfl,I.turnedL (t':=s.toks) hf k (fun _ _=>rfl) (HOk.turned (s:=s) I.hok (fun b hb=>(hf b hb).1) k)⟩
 self:=fun _ _ _ _ _ st h=>by
  obtain ⟨⟨old,h1⟩,_⟩:=st
  refine wpAny_pyIter_slot (T:= "enumerate") ⟨_,h1,rfl⟩ F.slot_enumerate_iter (wpAny_call_entry F.slot_enumerate_iter ⟨_,h1,rfl⟩ F.entry_enumerate_iter ?_ (F.args_enumerate_iter_1 _))
  show wpAny _ _ (ret (.ref _)) _ _ _
  exact wpAny_pure ⟨_,rfl, "enumerate", _,⟨_,h1,rfl⟩,F.slot_enumerate_next.lookup,h⟩
section
variable {X:Cx}
def iEnum (K:PySem.W.Frag) (ta:TA):TI:=fun σ H R=>ta σ H fun vs H1=>∃ l,vs = [.ref l]∧(∃ xs,SqL K H1 l xs)∧R (Ite K l) H1
theorem pi_enum {elts:List Expr} {x1} {tp:Pos} {a:Expr} {ta:TA} {p pos:Pos} (hg:Gl X "enumerate") (hm:X.mg "enumerate" = none) (ha:PA X [a] ta) (hs:starEach [a] X.env = [(false,eval a X.env)]:=by rfl) :
  PI X (.Tuple elts x1 tp) (.Call (.Name "enumerate" p) [a] [] pos) (iEnum X.K ta):=by
 intro pins s σ H R I h
 refine Call_ (ld_blt I hg hm boot_enumerate (PyProof.Rows.callWith_type1 (thn (ha pos pins s σ H _ I h) fun us s1 ⟨vs,H1,I1,r1,q1⟩=>?_) hs rfl))
 obtain ⟨l,e,⟨xs,hx⟩,q⟩:=q1
 subst e
 obtain ⟨u,rfl,ru⟩:=r1.one
 cases ru
 obtain ⟨its1,rv1,p1,hz1⟩:=I1.list hx
 refine call_enumerate_list p1.isList fun h' a1 a4 a6 a7=>?_
 have I2:Inv X pins σ H1 { s1 with heap:=h' }:=I1.kept (t':=s1.toks) a7
 have T:=turn_enum (P:=X.prog) (w:=X.w) (K:=X.K) (elts:=elts) (x1:=x1) (tp:=tp) (e:=s1.heap.objs.size + 1) (it:=s1.heap.objs.size) (l:=l) (Nat.ne_of_gt (Nat.lt_succ_self _))
 refine T.self X.A 0 { s1 with heap:=h' } _ _ ⟨⟨_,a1⟩,a4⟩ ?_
 refine ⟨_,_,_,_,H1,rfl,I2,T,⟨⟨_,a1⟩,a4⟩,fun b hb=>?_,q⟩
 have hb:s1.heap.objs.size≤b:=by
  simp only [List.mem_cons,List.mem_nil_iff,or_false] at hb
  rcases hb with rfl | rfl
  ·exact Nat.le_add_right _ 1
  ·exact Nat.le_refl _
 exact I1.fpOk hb (I1.hok.fresh hb)
def rIsi (K:PySem.W.Frag):List V→Hp→VK→Prop:=fun xs H Q=>∃ x T t b,xs = [x,.ty T]∧TyOf K H x t∧PySem.W.kitOne K t (.type T) = some b∧Q (.bl b) H
theorem call_isinst:CallR X (.builtin "isinstance") (rIsi X.K):=by
 intro pins s σ H xs us Q I r h
 obtain ⟨x,T,t,b,rfl,ty,e,q⟩:=h
 obtain ⟨u,v,rfl,ru,rv⟩:=r.two
 cases rv
 exact isinst_ok I ru ty e fun tk=>⟨.bl b,H,I.tok _,rfl,q⟩
end
theorem for_enum {K:PySem.W.Frag} {l:Addr} {xs:List V} {g:TG} {tb:TS} {D:Ends} {σ:St} {H:Hp} (Pv:Nat→St→Hp→Prop) (h0:Pv 0 σ H) (hl:∀ i σ H,i≤xs.length→Pv i σ H→SqL K H l xs)
  (hs:∀ i x T σ H,xs[i]? = some x→Pv i σ H→H T = none→g (.ref T) σ (upd H T (.tup [.int i,x])) fun σ2 H2=>tb { D with nx:=Pv (i + 1),ct:=Pv (i + 1),bk:=D.nx } σ2 H2) (hd:∀ σ H,Pv xs.length σ H→D.nx σ H) :
  ∃ W:Nat→Nat→St→Hp→Prop,(∃ m,W 0 m σ H)∧∀ i m σ H,W i m σ H →
   ((Ite K l).stop i H∧D.nx σ H)∨((Ite K l).go i H∧∃ N:St→Hp→Prop,(∀ σ' H',N σ' H'→∃ m',m' < m∧W (i + 1) m' σ' H')∧∀ x H',(Ite K l).yld i H x H'→g x σ H' fun σ2 H2=>tb { D with nx:=N,ct:=N,bk:=D.nx } σ2 H2):=by
 refine ⟨fun i m σ H=>m = xs.length - i∧i≤xs.length∧Pv i σ H,⟨xs.length,by simp,Nat.zero_le _,h0⟩,?_⟩
 rintro i m σ H ⟨rfl,hi,p⟩
 have q1:=hl i σ H hi p
 by_cases hlt:i < xs.length
 ·refine .inr ⟨⟨xs,xs[i],q1,by simp [hlt]⟩,Pv (i + 1),fun σ' H' p'=>⟨xs.length - (i + 1),by omega,rfl,hlt,p'⟩,fun x H' y=>?_⟩
  obtain ⟨T,a,rfl,hT,rfl,y1⟩:=y
  exact hs i a T σ H (y1 xs q1) p hT
 ·have e:i = xs.length:=by omega
  subst e
  exact .inl ⟨⟨xs,q1,Nat.le_refl _⟩,hd σ H p⟩
inductive Nd where
 | s (x:Str)
 | i (n:Int)
 | t (xs:List Nd)
mutual
def At (H:Hp):Nd→V→Prop
 | .s x,v=>v = .str x
 | .i n,v=>v = .int n
 | .t xs,v=>∃ a vs,v = .ref a∧H a = some (.tup vs)∧AtL H xs vs
def AtL (H:Hp):List Nd→List V→Prop
 | [],vs=>vs = []
 | x :: xs,vs=>∃ v r,vs = v :: r∧At H x v∧AtL H xs r
end
def Tp (H H':Hp):Prop:=∀ b xs,H b = some (.tup xs)→H' b = some (.tup xs)
theorem Tp.trans {H H1 H2:Hp} (a:Tp H H1) (b:Tp H1 H2):Tp H H2:=fun c xs h=>b c xs (a c xs h)
theorem Same.tp {H H':Hp} (h:Same H H'):Tp H H':=fun b xs e=>h b _ e
theorem Tp.new {H:Hp} {a:Addr} {o:HO} (h:H a = none):Tp H (upd H a o):=fun b xs e=>by rw [upd_ne (ne_of_none e h)]; exact e
theorem Tp.lst {H:Hp} {a:Addr} {o:HO} {ys:List V} (h:H a = some (.lst ys)):Tp H (upd H a o):=fun b xs e=>by rw [upd_ne (ne_of e h (by intro z; cases z))]; exact e
theorem same_new {H:Hp} {p:Addr} (h:H p = none) (o:HO):Same H (upd H p o):=fun b u q=>by rw [upd_ne (ne_of_none q h)]; exact q
theorem Same.young {H H1:Hp} {p:Addr} (g:Same H H1) (h:H p = none) (o:HO):Same H (upd H1 p o):=fun b u q=>by rw [upd_ne (ne_of_none q h)]; exact g b u q
mutual
theorem At.mono {H H':Hp} (T:Tp H H'):∀ {n:Nd} {v:V},At H n v→At H' n v
 | .s x,v,h=>h
 | .i n,v,h=>h
 | .t xs,v,h=>by
  obtain ⟨a,vs,e,q,r⟩:=h
  exact ⟨a,vs,e,T a vs q,AtL.mono T r⟩
theorem AtL.mono {H H':Hp} (T:Tp H H'):∀ {xs:List Nd} {vs:List V},AtL H xs vs→AtL H' xs vs
 | [],vs,h=>h
 | x :: xs,vs,h=>by
  obtain ⟨v,r,e,q,l⟩:=h
  exact ⟨v,r,e,At.mono T q,AtL.mono T l⟩
end
theorem AtL.nil {H:Hp}:AtL H [] []:=by unfold AtL; rfl
theorem AtL.cons {H:Hp} {x:Nd} {xs:List Nd} {v:V} {r:List V} (a:At H x v) (l:AtL H xs r):AtL H (x :: xs) (v :: r):=by unfold AtL; exact ⟨v,r,rfl,a,l⟩
theorem At.s {H:Hp} {x:Str}:At H (.s x) (.str x):=by unfold At; rfl
theorem At.t {H:Hp} {a:Addr} {xs:List Nd} {vs:List V} (h:H a = some (.tup vs)) (l:AtL H xs vs):At H (.t xs) (.ref a):=by unfold At; exact ⟨a,vs,rfl,h,l⟩
theorem At.get {H:Hp} {xs:List Nd} {v:V} (h:At H (.t xs) v):∃ a vs,v = .ref a∧H a = some (.tup vs)∧AtL H xs vs:=by unfold At at h; exact h
theorem At.str {H:Hp} {x:Str} {v:V} (h:At H (.s x) v):v = .str x:=by unfold At at h; exact h
theorem At.int {H:Hp} {x:Int} {v:V} (h:At H (.i x) v):v = .int x:=by unfold At at h; exact h
theorem AtL.len {H:Hp}:∀ {xs:List Nd} {vs:List V},AtL H xs vs→xs.length = vs.length
 | [],vs,h=>by unfold AtL at h; subst h; rfl
 | x :: xs,vs,h=>by
  unfold AtL at h
  obtain ⟨v,r,rfl,q,l⟩:=h
  simp [AtL.len l]
theorem AtL.append {H:Hp}:∀ {xs ys:List Nd} {vs ws:List V},AtL H xs vs→AtL H ys ws→AtL H (xs ++ ys) (vs ++ ws)
 | [],ys,vs,ws,h,l=>by unfold AtL at h; subst h; exact l
 | x :: xs,ys,vs,ws,h,l=>by
  unfold AtL at h
  obtain ⟨v,r,rfl,q,l'⟩:=h
  exact .cons q (AtL.append l' l)
theorem AtL.at {H:Hp}:∀ {xs:List Nd} {vs:List V} {i:Nat} {v:V},AtL H xs vs→vs[i]? = some v→∃ x,xs[i]? = some x∧At H x v
 | [],vs,i,v,h,e=>by unfold AtL at h; subst h; simp at e
 | x :: xs,vs,i,v,h,e=>by
  unfold AtL at h
  obtain ⟨w,r,rfl,q,l⟩:=h
  cases i with
  | zero=>simp at e; subst e; exact ⟨x,rfl,q⟩
  | succ i =>
   obtain ⟨y,e',q'⟩:=AtL.at (i:=i) l (by simpa using e)
   exact ⟨y,by simpa using e',q'⟩
theorem AtL.split {H:Hp}:∀ {xs ys:List Nd} {vs:List V},AtL H (xs ++ ys) vs→∃ us ws,vs = us ++ ws∧AtL H xs us∧AtL H ys ws
 | [],ys,vs,h=>⟨[],vs,rfl,.nil,h⟩
 | x :: xs,ys,vs,h=>by
  have h:AtL H (x :: (xs ++ ys)) vs:=h
  unfold AtL at h
  obtain ⟨v,r,rfl,q,l⟩:=h
  obtain ⟨us,ws,rfl,a,b⟩:=AtL.split l
  exact ⟨v :: us,ws,rfl,.cons q a,b⟩
theorem AtL.one {H:Hp} {x:Nd} {vs:List V} (h:AtL H [x] vs):∃ v,vs = [v]∧At H x v:=by
 unfold AtL at h
 obtain ⟨v,r,rfl,q,l⟩:=h
 unfold AtL at l
 subst l
 exact ⟨v,rfl,q⟩
def isT:Nd→Bool
 | .t _=>true
 | _=>false
mutual
def pre:Nd→List Nd
 | .t xs=>.t xs :: preL xs
 | .s _=>[]
 | .i _=>[]
def preL:List Nd→List Nd
 | []=>[]
 | x :: r=>preL r ++ pre x
end
mutual
def slim:Nd→Bool
 | .t xs=>decide (xs.length≤8) && slimL xs
 | .s _=>true
 | .i _=>true
def slimL:List Nd→Bool
 | []=>true
 | x :: r=>slim x && slimL r
end
def cnt (n:Nd):Nat:=(pre n).length
def cntL (l:List Nd):Nat:=(preL l).length
theorem pre_t (xs:List Nd):pre (.t xs) = .t xs :: preL xs:=by rw [pre]
theorem pre_s (x:Str):pre (.s x) = []:=by rw [pre]
theorem pre_i (x:Int):pre (.i x) = []:=by rw [pre]
theorem preL_nil:preL [] = []:=by rw [preL]
theorem preL_cons (x:Nd) (r:List Nd):preL (x :: r) = preL r ++ pre x:=by rw [preL]
theorem preL_append:∀ (a b:List Nd),preL (a ++ b) = preL b ++ preL a
 | [],b=>by rw [preL_nil]; simp
 | x :: a,b=>by
  show preL (x :: (a ++ b)) = _
  rw [preL_cons,preL_cons,preL_append a b,List.append_assoc]
theorem pre_not {n:Nd} (h:isT n = false):pre n = []:=by
 cases n with
 | s x=>exact pre_s x
 | i x=>exact pre_i x
 | t xs=>cases h
def inner (xs:List Nd):List Nd:=xs.filter isT
theorem preL_inner:∀ xs:List Nd,preL (inner xs) = preL xs
 | []=>rfl
 | x :: r=>by
  unfold inner
  rw [List.filter_cons,preL_cons]
  have ih:=preL_inner r
  unfold inner at ih
  cases e:isT x with
  | true=>rw [if_pos rfl,preL_cons,ih]
  | false=>rw [if_neg Bool.false_ne_true,ih,pre_not e,List.append_nil]
theorem cnt_t (xs:List Nd):cnt (.t xs) = cntL xs + 1:=by unfold cnt cntL; rw [pre_t]; rfl
theorem cnt_s (x:Str):cnt (.s x) = 0:=by unfold cnt; rw [pre_s]; rfl
theorem cntL_cons (x:Nd) (r:List Nd):cntL (x :: r) = cntL r + cnt x:=by unfold cntL cnt; rw [preL_cons,List.length_append]
theorem slim_len {xs:List Nd} (h:slim (.t xs) = true):xs.length≤8:=by
 rw [slim,Bool.and_eq_true] at h
 exact of_decide_eq_true h.1
theorem slim_in {xs:List Nd} (h:slim (.t xs) = true):slimL xs = true:=by
 rw [slim,Bool.and_eq_true] at h
 exact h.2
theorem slimL_nil:slimL [] = true:=by rw [slimL]
theorem slimL_cons {x:Nd} {r:List Nd} (h1:slim x = true) (h2:slimL r = true):slimL (x :: r) = true:=by rw [slimL]; simp [h1,h2]
theorem slimL_append:∀ {a b:List Nd},slimL a = true→slimL b = true→slimL (a ++ b) = true
 | [],b,_,h=>h
 | x :: a,b,h,h'=>by
  rw [slimL,Bool.and_eq_true] at h
  exact slimL_cons h.1 (slimL_append h.2 h')
theorem slimL_left:∀ {a b:List Nd},slimL (a ++ b) = true→slimL a = true∧slimL b = true
 | [],b,h=>⟨slimL_nil,h⟩
 | x :: a,b,h=>by
  have h:slimL (x :: (a ++ b)) = true:=h
  rw [slimL,Bool.and_eq_true] at h
  exact ⟨slimL_cons h.1 (slimL_left h.2).1,(slimL_left h.2).2⟩
theorem slim_one {x:Nd} (h:slimL [x] = true):slim x = true:=by
 rw [slimL,Bool.and_eq_true] at h
 exact h.1
theorem slimL_inner:∀ {xs:List Nd},slimL xs = true→slimL (inner xs) = true
 | [],h=>h
 | x :: r,h=>by
  rw [slimL,Bool.and_eq_true] at h
  unfold inner
  rw [List.filter_cons]
  split
  ·exact slimL_cons h.1 (slimL_inner h.2)
  ·exact slimL_inner h.2
theorem inner_T {xs:List Nd}:∀ x∈inner xs,isT x = true:=fun x h=>(List.mem_filter.mp h).2
theorem ty_of {K:PySem.W.Frag} {H:Hp} {n:Nd} {v:V} (h:At H n v):∃ t,TyOf K H v t∧PySem.W.kitOne K t (.type "tuple") = some (isT n):=by
 cases n with
 | s x=>cases h.str; exact ⟨_,.str x,rfl⟩
 | i x=>cases h.int; exact ⟨_,.int x,rfl⟩
 | t xs =>
  obtain ⟨a,vs,rfl,q,_⟩:=h.get
  exact ⟨_,.tup q,rfl⟩
theorem small {n:Nat} (h:n≤1000):n≤sizeLine:=Nat.le_of_lt (small1000 h)
theorem atI_map {ws:List Str} {i:Int} (h0:0≤i) (h1:i < ws.length):atI (ws.map V.str) i = some (.str (ws.getD i.toNat "")):=by
 have e:i = ((i.toNat:Nat):Int):=by omega
 have hl:i.toNat < ws.length:=by omega
 have z:atI (ws.map V.str) ((i.toNat:Nat):Int) = some (.str (ws.getD i.toNat "")):=by
  refine atI_nat ?_
  rw [List.getElem?_map,List.getD_eq_getElem?_getD,List.getElem?_eq_getElem hl] <;> rfl
 rw [← e] at z
 exact z
theorem getD_mem {ws:List Str} {i:Int} (h0:0≤i) (h1:i < ws.length):ws.getD i.toNat "" ∈ ws:=by
 have hl:i.toNat < ws.length:=by omega
 rw [List.getD_eq_getElem?_getD,List.getElem?_eq_getElem hl]
 exact List.getElem_mem hl
theorem new2 {H:Hp} {p q:Addr} {a b:HO} (h:H p = none) (h2:(upd H p a) q = none):Same H (upd (upd H p a) q b)∧(upd (upd H p a) q b) p = some a∧(upd (upd H p a) q b) q = some b :=
 ⟨(same_new h a).trans (same_new h2 b),same_new h2 b _ _ upd_same,upd_same⟩
def FunM (K:PySem.W.Frag) (mg:Str→Option Value) (x:Str) (ps:List Str) (st:Stmt):Prop:=∃ f fd,Fun K x x st f fd∧mg x = some (.ref f)∧Binds K fd ps []
def Callee (P:Program) (w:World) (K:PySem.W.Frag) (mg:Str→Option Value) (base:Heap) (k:Nat) (x:Str) (ps:List Str) (sp:Sp):Prop :=
 ∃ f fd,FnOk P w K mg base CX0 k f fd ps sp∧Binds K fd ps []∧PySem.W.keepIn K (.ref f) = true∧mg x = some (.ref f)
section
variable {P:Program} {w:World} {K:PySem.W.Frag} {mg:Str→Option Value} {base:Heap}
theorem FunM.ok {x:Str} {st:Stmt} {N ps:List Str} {k:Nat} {sp:Sp} (F:FunM K mg x ps st) (S:FnScope N ps (defScope st)) (len:∀ vs H Q E,sp vs H Q E→vs.length = ps.length)
  (hbody:∀ (f:Addr) (cdv:Value) (A:Around) (outer:List Env) (s:Shared) (H:Hp) (vs:List V) (Q:VK) (E:XK),Room k (A.deeper (envOfC x (defScope st) s.heap.objs.size f cdv))→sp vs H Q E →
   ∃ t,PSs (cxOf CX0 P w K mg base N x (defScope st) f cdv A outer s H E).nox (defBody st) t∧t { nx:=fun _ H'=>Q .non H',rt:=Q } (start N vs) H):Callee P w K mg base (k + 1) x ps sp:=by
 obtain ⟨f,fd,F,m,b⟩:=F
 exact ⟨f,fd,F.ok S len (hbody f),b,F.kp,m⟩
end
section
variable {X:Cx} {x:Str} {p pos:Pos} {e:Expr} {es:List Expr} {t:TA} {k j:Nat} {ps:List Str} {sp:Sp} {E:XK}
theorem pe_callC (C:Callee X.prog X.w X.K X.mg X.base j x ps sp) (hr:Room k X.A) (hg:Gl X x) (hx:Passes CX0 X E) (ha:PA X (e :: es) t) (hj:j≤k:=by first | decide | omega)
  (hdb:(x == ("__debug__" : Str)) = false:=by decide) (he:starEach (e :: es) X.env = (false,eval e X.env) :: starEach es X.env:=by rfl) (hpl:(backTo pos (starEach es X.env)).any (·.1) = false:=by rfl) :
  PE X (.Call (.Name x p) (e :: es) [] pos) (tCall sp [] E t):=by
 obtain ⟨f,fd,F,b,kp,m⟩:=C
 exact pe_call (F.mono hj) hr hg m kp b .nil hx ha hdb he hpl
end
section
variable {X:Cx}
def rLen (K:PySem.W.Frag):List V→Hp→VK→Prop:=fun xs H Q=>∃ p ys,xs = [.ref p]∧(SqL K H p ys∨SqT K H p ys)∧Q (.int ys.length) H
theorem call_lenK:CallR X (.builtin "len") (rLen X.K):=call_len_seq
def rInt1:List V→Hp→VK→Prop:=fun xs H Q=>(∃ i,xs = [.int i]∧Q (.int i) H)∨∃ k,xs = [.bl k]∧Q (.int (if k then 1 else 0)) H
theorem call_intK:CallR X (.type "int") rInt1:=call_int1
def rAddS:R2:=fun x y H Q=>∃ i j,x = .str i∧y = .str j∧i.length + j.length≤sizeLine∧Q (.str (i ++ j)) H
theorem op_addS:OpR X (binaryOp .Add) rAddS:=op_add_str
end
abbrev CompW (J:It) (g:TG) (tc:TT) (te:TE) (σY:St) (F:Addr→List V→Hp→Prop) (H:Hp):Prop :=
 ∃ W:Nat→Nat→List V→Hp→Prop,(∃ m,W 0 m [] H)∧∀ i m ys H,W i m ys H →
   (J.stop i H∧∀ D,H D = none→F D ys H) ∨
   (J.go i H∧ys.length < sizeLine∧∀ x H',J.yld i H x H'→g x σY H' fun σ2 H2=>tc σ2 H2 fun b H3=>if b = true then te σ2 H3 fun y H4=>∃ m',m' < m∧W (i + 1) m' (ys ++ [y]) H4 else ∃ m',m' < m∧W (i + 1) m' ys H3)
theorem comp_gen {J:It} {k:Nat} {g:TG} {tc:TT} {te:TE} {σY:St} {H:Hp} {F:Addr→List V→Hp→Prop} (Pv:Nat→List V→Hp→Prop) (h0:Pv 0 [] H) (hz:k≤sizeLine)
  (hgo:∀ i ys H,i < k→Pv i ys H→J.go i H) (hst:∀ ys H,Pv k ys H→J.stop k H)
  (hs:∀ i x ys H H' (N:List V→Hp→Prop),i < k→Pv i ys H→J.yld i H x H'→ys.length≤i→(∀ ys' H',ys'.length≤i + 1→Pv (i + 1) ys' H'→N ys' H')→g x σY H' fun σ2 H2=>tc σ2 H2 fun b H3=>if b = true then te σ2 H3 fun y H4=>N (ys ++ [y]) H4 else N ys H3)
  (hd:∀ ys H,ys.length≤k→Pv k ys H→∀ D,H D = none→F D ys H):CompW J g tc te σY F H:=by
 refine ⟨fun i m ys H=>m = k - i∧i≤k∧ys.length≤i∧Pv i ys H,⟨k,by simp,Nat.zero_le _,Nat.le_refl _,h0⟩,?_⟩
 rintro i m ys H ⟨rfl,hi,hyl,p⟩
 by_cases hlt:i < k
 ·refine .inr ⟨hgo i ys H hlt p,by omega,fun x H' y=>?_⟩
  exact hs i x ys H H' (fun ys' H4=>∃ m',m' < k - i∧m' = k - (i + 1)∧i + 1≤k∧ys'.length≤i + 1∧Pv (i + 1) ys' H4) hlt p y hyl fun ys' H4 l q=>⟨k - (i + 1),by omega,rfl,hlt,l,q⟩
 ·have e:i = k:=by omega
  subst e
  exact .inl ⟨hst ys H p,hd ys H hyl p⟩
theorem comp_range {lo:Int} {n:Nat} {g:TG} {tc:TT} {te:TE} {σY:St} {H:Hp} {F:Addr→List V→Hp→Prop} (Pv:Nat→List V→Hp→Prop) (h0:Pv 0 [] H) (hz:n≤sizeLine)
  (hs:∀ i ys H (N:List V→Hp→Prop),i < n→Pv i ys H→(∀ ys' H',ys'.length≤i + 1→Pv (i + 1) ys' H'→N ys' H')→ys.length≤i→g (.int (lo + i)) σY H fun σ2 H2=>tc σ2 H2 fun b H3=>if b = true then te σ2 H3 fun y H4=>N (ys ++ [y]) H4 else N ys H3)
  (hd:∀ ys H,ys.length≤n→Pv n ys H→∀ D,H D = none→F D ys H):CompW (Itr lo n) g tc te σY F H :=
 comp_gen Pv h0 hz (fun i ys H hi p=>hi) (fun ys H p=>Nat.le_refl _)
  (fun i x ys H H' N hi p ⟨e,y⟩ hyl k=>by subst e y; exact hs i ys _ N hi p k hyl) hd
end L2
end
section
set_option Elab.async false
set_option linter.all false
set_option maxRecDepth 100000
namespace L2
open PySem PySem.Spec PyProof.Rows
section
variable {κ:Type} [DecidableEq κ]
end
section
variable {P:Program} {w:World} {H:Hp} {h:Heap} {a:Addr}
end
section
variable {X:Cx} {pins:List (Addr× Obj)} {σ:St} {H:Hp} {s:Shared} {a:Addr} {y v:V} {u r:Value} {o:Option V} {A:Around} {E:Value→Shared→Prop}
end
section
variable {X:Cx} {pins:List (Addr× Obj)} {σ:St} {H:Hp} {s:Shared} {a:Addr} {kvs:List (Key× V)} {k:Key} {u:Value} {A:Around} {E:Value→Shared→Prop}
end
section
variable {X:Cx} {o i e value:Expr} {pos pos' tpos:Pos} {td ty tv:TE}
end
section
variable {X:Cx} {pos:Pos}
end
abbrev VV:List (V× V)→List (Value× Value)→Prop:=Paired fun p q=>RelV p.1 q.1∧RelV p.2 q.2
section
variable {X:Cx} {pins:List (Addr× Obj)} {σ:St} {H:Hp} {s:Shared} {a:Addr} {y d:V} {u r:Value} {o:Option V} {A:Around} {E:Value→Shared→Prop}
end
section
variable {X:Cx} {o e f:Expr} {apos cpos:Pos} {td ty tx:TE}
end
section
variable {X:Cx} {pins:List (Addr× Obj)} {σ:St} {H:Hp} {s:Shared} {a:Addr} {kvs:List (Key× V)} {A:Around} {E:Value→Shared→Prop}
end
section
variable {X:Cx} {pins:List (Addr× Obj)} {σ:St} {H:Hp} {s:Shared} {a:Addr} {y:V} {u:Value} {A:Around} {E:Value→Shared→Prop}
end
end L2
namespace L2
open PySem PySem.Spec PyProof.Rows
section
variable {X:Cx}
end
end L2
namespace L2
open PySem PySem.Spec PyProof.Rows
section
variable {κ:Type} [DecidableEq κ]
end
end L2
end
section
set_option Elab.async false
set_option linter.all false
set_option maxRecDepth 100000
set_option maxHeartbeats 4000000
namespace L2
open PySem PySem.Spec PyProof.Rows
def ModT (K:PySem.W.Frag) (a:Addr) (vs:List V):Prop:=∃ (o:Obj) (its:Array Value) (n:Nat),K.lookup a = some o∧o.cls = .type "tuple" ∧ o.data = .seq its n∧its.size≤sizeLine∧Vals vs its.toList
def TupAt (K:PySem.W.Frag) (H:Hp) (a:Addr) (vs:List V):Prop:=H a = some (.tup vs)∨ModT K a vs
theorem TupAt.mono {K:PySem.W.Frag} {H H':Hp} (T:Tp H H') {a:Addr} {vs:List V} (h:TupAt K H a vs):TupAt K H' a vs:=h.elim (fun z=>.inl (T a vs z)) .inr
def TyK (K:PySem.W.Frag) (H:Hp) (x:V) (t:Value):Prop:=TyOf K H x t∨∃ a vs,x = .ref a∧ModT K a vs∧t = .type "tuple"
def rIsiK (K:PySem.W.Frag):List V→Hp→VK→Prop:=fun xs H Q=>∃ x T t b,xs = [x,.ty T]∧TyK K H x t∧PySem.W.kitOne K t (.type T) = some b∧Q (.bl b) H
section
variable {X:Cx}
theorem call_isinstK:CallR X (.builtin "isinstance") (rIsiK X.K):=by
 intro pins s σ H xs us Q I r h
 obtain ⟨x,T,t,b,rfl,ty,e,q⟩:=h
 obtain ⟨u,v,rfl,ru,rv⟩:=r.two
 cases rv
 rcases ty with ty | ⟨a,vs,rfl,⟨o,its,n,lk,hc,hd,hz,rr⟩,rfl⟩
 ·exact isinst_ok I ru ty e fun tk=>⟨.bl b,H,I.tok _,rfl,q⟩
 ·cases ru
  exact PySem.W.kia_one PySem.W.kitx_tuple I.kIn ⟨o,I.kIn _ _ lk,hc⟩ e (fun z=>nomatch z) fun tk=>⟨.bl b,H,I.tok _,rfl,q⟩
end
def MethM (P:Program) (w:World) (K:PySem.W.Frag) (mg:Str→Option Value) (base:Heap) (k:Nat) (C:Addr) (m:Str) (ps:List Str) (sp:Sp):Prop :=
 ∃ f fd,FnOk P w K mg base CX0 k f fd ps sp∧Binds K fd ps []∧Meth K C m f∧Cls K C
section
variable {X:Cx} {o e:Expr} {es:List Expr} {m:Str} {apos pos:Pos} {k j:Nat} {ps:List Str} {sp:Sp} {E:XK} {C:Addr} {ta:TE} {t:TA}
theorem pe_methC0 {pl:Sem Bool} (M:MethM X.prog X.w X.K X.mg X.base j C m ps sp) (hr:Room k X.A) (hx:Passes CX0 X E) (he:PE X o ta) (hj:j≤k:=by first | decide | omega)
  (ht:eval (.Call (.Attribute o m apos) [] [] pos) X.env = (do
   let ov ← eval o X.env
   standAt apos.atName
   let (f,first) ← holding [ov] (getMethod ov m pl)
   callWith pos f first (backTo pos (starEach [] X.env)) (backToKw pos (keywordEach [] X.env))):=by rfl):PE X (.Call (.Attribute o m apos) [] [] pos) (tMeth C m sp [] E ta tNil):=by
 obtain ⟨f,fd,F,b,me,c⟩:=M
 exact pe_meth0 he c me (F.mono hj) hr b .nil hx ht
end
def Kp (r:Addr) (H H':Hp):Prop:=∀ b o,b≠r→H b = some o→H' b = some o
theorem Kp.trans {r:Addr} {H H1 H2:Hp} (a:Kp r H H1) (b:Kp r H1 H2):Kp r H H2:=fun c o h e=>b c o h (a c o h e)
theorem Same.kp {r:Addr} {H H':Hp} (g:Same H H'):Kp r H H':=fun b o _ e=>g b o e
theorem Kp.upd {r:Addr} {H:Hp} {o:HO}:Kp r H (L2.upd H r o):=fun b u h e=>by rw [upd_ne h]; exact e
theorem Kp.tpI {r C dx:Addr} {H H':Hp} {fs:List (Str× V)} (k:Kp r H H') (h:H r = some (.ins C dx fs)):Tp H H':=fun b xs e=>k b _ (ne_of e h (by intro z; cases z)) e
theorem Same.byKp {r:Addr} {H H1 H2:Hp} (g:Same H H1) (h:H r = none) (k:Kp r H1 H2):Same H H2:=fun b o e=>k b o (ne_of_none e h) (g b o e)
theorem iteNe {x y:Str} {A B:Prop} (h:¬ x = y) (hB:B):if decide (V.str x = V.str y) = true then A else B:=by
 rw [decide_eq_false fun z=>h (V.str.inj z),if_neg Bool.false_ne_true]; exact hB
theorem iteEq {x:Str} {A B:Prop} (hA:A):if decide (V.str x = V.str x) = true then A else B:=by
 rw [decide_eq_true rfl,if_pos rfl]; exact hA
section
variable {X:Cx}
end
section
variable {X:Cx}
def rSlS:V→Option Int→Option Int→Hp→VK→Prop:=fun x lo hi H Q=>∃ z,x = .str z∧z.length≤sizeLine∧Q (.str (Txt.slice z lo hi)) H
theorem sl_str:SlR X rSlS:=by
 intro pins s σ H x v vl vu lo hi sl Q I rx hs pl pu h
 obtain ⟨z,rfl,hz,q⟩:=h
 obtain ⟨t,rfl⟩:=rx
 refine ⟨"str", _,F.slot_str_getitem.lookup,typeIs_str _ _ _,?_⟩
 have fin:∀ (l u:Option (Int× Tok)),lo = l.map (·.1)→hi = u.map (·.1)→s.heap.IsSlice sl l u none→wpAny (model X.prog X.w) X.A (getItem (.str z t) (.ref sl)) (EP X pins σ Q) X.xe s:=by
  intro l u el eu hsl
  subst el eu
  refine wpAny_getItem_str_slice (l:=l) (u:=u) (st:=none) hsl rfl ?_
  exact post_val_or_str ⟨Nat.le_trans (Txt.slice_le z _ _) hz,fun t' k=>⟨.str (Txt.slice z (l.map (·.1)) (u.map (·.1))),H,I.tok _,⟨t',rfl⟩,q⟩⟩
 cases pl with
 | none =>
  cases pu with
  | none=>exact fin none none rfl rfl hs
  | int j tj=>exact fin none (some (j,tj)) rfl rfl hs
 | int i ti =>
  cases pu with
  | none=>exact fin (some (i,ti)) none rfl rfl hs
  | int j tj=>exact fin (some (i,ti)) (some (j,tj)) rfl rfl hs
inductive EqD (K:PySem.W.Frag) (H:Hp):Nat→V→V→Prop where
 | flat {d:Nat} {x y:V}:flatV x = true→flatV y = true→eqV x y = true→EqD K H d x y
 | same {d:Nat} {a:Addr}:EqD K H d (.ref a) (.ref a)
 | lst {d:Nat} {a b:Addr} {xs ys:List V}:SqL K H a xs→SqL K H b ys→xs.length = ys.length→(∀ (i:Nat) (x y:V),xs[i]? = some x→ys[i]? = some y→EqD K H d x y)→EqD K H (d + 1) (.ref a) (.ref b)
 | tup {d:Nat} {a b:Addr} {xs ys:List V}:SqT K H a xs→SqT K H b ys→xs.length = ys.length→(∀ (i:Nat) (x y:V),xs[i]? = some x→ys[i]? = some y→EqD K H d x y)→EqD K H (d + 1) (.ref a) (.ref b)
theorem all_true (n:Nat):((List.range n).all fun _=>true) = true:=by simp
theorem items_at {xs ys:List V} {us ws:List Value} {pins:List (Addr× Obj)} {σ:St} {H:Hp} {s:Shared} {A:Around} {K:PySem.W.Frag} {d:Nat} (r1:Vals xs us) (r2:Vals ys ws) (hl:xs.length = ys.length)
  (h:∀ (i:Nat) (x y:V),xs[i]? = some x→ys[i]? = some y→∀ u v,RelV x u→RelV y v→SeqAt.EqAt A s u v true) :
  ∀ j (h1:j < us.toArray.size) (h2:j < ws.toArray.size),SeqAt.EqAt A s us.toArray[j] ws.toArray[j] true:=by
 intro j h1 h2
 have l1:=r1.length
 have l2:=r2.length
 have h1':j < xs.length:=by simpa [l1] using h1
 have h2':j < ys.length:=by simpa [l2] using h2
 obtain ⟨u,eu,ru⟩:=r1.get (i:=j) (x:=xs[j]) (List.getElem?_eq_getElem h1')
 obtain ⟨v,ev,rv⟩:=r2.get (i:=j) (x:=ys[j]) (List.getElem?_eq_getElem h2')
 have e1:us.toArray[j] = u:=by
  have:us[j]? = some us.toArray[j]:=by simp
  rw [eu] at this
  exact (Option.some.inj this).symm
 have e2:ws.toArray[j] = v:=by
  have:ws[j]? = some ws.toArray[j]:=by simp
  rw [ev] at this
  exact (Option.some.inj this).symm
 rw [e1,e2]
 exact h j _ _ (List.getElem?_eq_getElem h1') (List.getElem?_eq_getElem h2') u v ru rv
theorem eqd_at {pins:List (Addr× Obj)} {σ:St} {H:Hp} {s:Shared} (I:Inv X pins σ H s):∀ {d:Nat} {x y:V},EqD X.K H d x y→∀ (A:Around),A.units + d < cLine→∀ u v,RelV x u→RelV y v→SeqAt.EqAt A s u v true:=by
 intro d x y h
 induction h with
 | flat f1 f2 e =>
  intro A hA u v ru rv
  have z:=eqAt_V (A:=A) (s:=s) ru rv f1 f2
  rw [e] at z
  exact z
 | same =>
  intro A hA u v ru rv
  cases ru
  cases rv
  exact SeqAt.EqAt.same _
 | @lst d a b xs ys h1 h2 hl hi ih =>
  intro A hA u v ru rv
  cases ru
  cases rv
  by_cases hab:a = b
  ·subst hab; exact SeqAt.EqAt.same _
  obtain ⟨us,r1,p1,z1⟩:=I.list h1
  obtain ⟨ws,r2,p2,z2⟩:=I.list h2
  have l1:=r1.length
  have l2:=r2.length
  refine SeqAt.EqAt.of_refs hab ?_
  have q:=SeqAt.RcAt.lists (A:=A) (e:=fun _=>true) p1.isList p2.isList (by simp; omega) (by omega) (items_at (pins:=pins) (σ:=σ) (H:=H) (K:=X.K) (d:=d) r1 r2 hl fun i x y hx hy u v ru rv=>ih i x y hx hy A.in1 (by show A.units + 1 + d < cLine; omega) u v ru rv)
  rw [all_true] at q
  exact q
 | @tup d a b xs ys h1 h2 hl hi ih =>
  intro A hA u v ru rv
  cases ru
  cases rv
  by_cases hab:a = b
  ·subst hab; exact SeqAt.EqAt.same _
  obtain ⟨us,r1,p1,z1⟩:=I.tuple h1
  obtain ⟨ws,r2,p2,z2⟩:=I.tuple h2
  have l1:=r1.length
  have l2:=r2.length
  refine SeqAt.EqAt.of_refs hab ?_
  have q:=SeqAt.RcAt.tuples (A:=A) (e:=fun _=>true) (show s.heap.IsTuple a us.toArray from p1) (show s.heap.IsTuple b ws.toArray from p2) (by omega) (items_at (pins:=pins) (σ:=σ) (H:=H) (K:=X.K) (d:=d) r1 r2 hl fun i x y hx hy u v ru rv=>ih i x y hx hy A.in1 (by show A.units + 1 + d < cLine; omega) u v ru rv)
  rw [all_true,show (us.toArray.size == ws.toArray.size) = true by simp; omega] at q
  exact q
end
def CX1 (P:Program) (w:World):CXT:=fun outer H s E e s'=>∃ (ea C:Addr) (a0:Value) (H':Hp) (B:Heap),
 e = .ref ea∧E (.ref C) none H'∧s'.os = s.os∧AllBare s'.gens∧Un (frs outer) [] H H' s.heap s'.heap∧HOk P w H' s'.heap∧Heap.FlyingW B outer ea (.ref C) a0 s'.heap ∧
 (∀ b o,s.heap.get? b = some o→b∉frs outer→∃ o',B.get? b = some o')∧(∀ b u,H' b = some u→∃ o,B.get? b = some o)∧H' ea = none
theorem ObjOk.some' {P:Program} {w:World} {H:Hp} {h:Heap} {a:Addr} {o:HO} (x:ObjOk P w H h a o):∃ ob,h.get? a = some ob:=by
 cases o with
 | lst xs=>obtain ⟨_,_,_,_,e⟩:=x; exact ⟨_,e⟩
 | tup xs=>obtain ⟨_,_,_,ob,e,_⟩:=x; exact ⟨ob,e⟩
 | dK kvs=>obtain ⟨_,_,_,_,ob,_,_,e,_⟩:=x; exact ⟨ob,e⟩
 | dT kvs=>obtain ⟨_,_,_,_,ob,_,_,e,_⟩:=x; exact ⟨ob,e⟩
 | set S n=>obtain ⟨ob,_,_,_,e,_⟩:=x; exact ⟨ob,e⟩
 | ins C dx fs=>obtain ⟨_,_,_,e,_⟩:=x; exact ⟨_,e⟩
 | own y=>exact x
 | xd fs=>obtain ⟨_,⟨ob,_,_,e,_⟩,_⟩:=x; exact ⟨ob,e⟩
 | rng lo hi=>obtain ⟨_,_,_,e⟩:=x; exact ⟨_,e⟩
 | frz ob u=>exact ⟨ob,x.1⟩
 | tbl ps=>exact ⟨_,x⟩
 | met f y=>exact ⟨_,x⟩
 | ext φ=>obtain ⟨_,⟨ob,e⟩,_⟩:=x; exact ⟨ob,e⟩
theorem HOk.fly {P:Program} {w:World} {H:Hp} {h h' B:Heap} (ok:HOk P w H h) (tr:∀ b u,H b = some u→∃ o,B.get? b = some o) (s1:B.StaysIn h) (s2:B.StaysIn h'):HOk P w H h':=fun a o e =>
 (ok a o e).stay (fun b u hb q=>by
  obtain ⟨v,hv⟩:∃ v,H b = some v:=hb.elim (fun z=>⟨o,by rw [z]; exact e⟩) fun z=>⟨_,z⟩
  obtain ⟨o',ho'⟩:=tr b v hv
  have e1:=s1 b o' ho'
  rw [q] at e1
  cases e1
  exact s2 b _ ho') (fun _ q=>q) fun _ _ q=>q
theorem Un.fly {fs:List Addr} {H H':Hp} {h₀ h h' B:Heap} (u:Un fs [] H H' h₀ h) (cov:∀ b o,h₀.get? b = some o→b∉fs→∃ o',B.get? b = some o') (s1:B.StaysIn h) (s2:B.StaysIn h')
  (sl:∀ b∈fs,∀ o,h.get? b = some o→∃ z,h'.get? b = some { o with slots:=z }):Un fs [] H H' h₀ h' where
 keep:=fun b ob q n hb hx=>by
  have e:=u.keep b ob q n hb hx
  obtain ⟨o',ho'⟩:=cov b ob q hb
  have e1:=s1 b o' ho'
  rw [e] at e1
  cases e1
  exact s2 b _ ho'
 slot:=fun b ob q n hb hx=>by
  obtain ⟨z,e⟩:=u.slot b ob q n hb hx
  obtain ⟨z',e'⟩:=sl b hb _ e
  exact ⟨z',e'⟩
 free:=u.free
 there:=fun b ob q hx=>by
  by_cases hb:b∈fs
  ·obtain ⟨o1,e⟩:=u.there b ob q hx
   obtain ⟨z,e'⟩:=sl b hb o1 e
   exact ⟨_,e'⟩
  ·obtain ⟨o',ho'⟩:=cov b ob q hb
   exact ⟨o',s2 b o' ho'⟩
 tups:=u.tups
 frzs:=u.frzs
 tbls:=u.tbls
section
variable {P:Program} {w:World} {K:PySem.W.Frag} {mg:Str→Option Value} {base:Heap} {N:List Str} {qual:Str} {scope:Scope} {f:Addr} {cd:Value} {A:Around} {outer:List Env} {s₀:Shared} {H₀:Hp} {E:XK}
abbrev cxX (P:Program) (w:World) (K:PySem.W.Frag) (mg:Str→Option Value) (base:Heap) (N:List Str) (qual:Str) (scope:Scope) (f:Addr) (cd:Value) (A:Around) (outer:List Env) (s₀:Shared) (H₀:Hp) (E:XK):Cx:=cxOf (CX1 P w) P w K mg base N qual scope f cd A outer s₀ H₀ E
theorem young_fr {pins:List (Addr× Obj)} {σ:St} {H:Hp} {s:Shared} (I:Inv (cxX P w K mg base N qual scope f cd A outer s₀ H₀ E) pins σ H s) {b:Addr} {o:Obj} (e:s₀.heap.get? b = some o) (hb:b∉frs outer) :
  b∉frs (cxX P w K mg base N qual scope f cd A outer s₀ H₀ E).stack:=fun z=>by
 rcases List.mem_cons.mp (I.stkSub b z) with q | q
 ·exact absurd (Heap.lt_size e) (by rw [q]; exact Nat.lt_irrefl _)
 ·exact hb q
theorem passX:Passes (CX1 P w) (cxX P w K mg base N qual scope f cd A outer s₀ H₀ E) E:=by
 intro pins σ H s e s' I h
 obtain ⟨ea,C,a0,H',B,rfl,hE,os,bare,un,hok,fl,cov,trb,hea⟩:=h
 have I0:Inv (cxX P w K mg base N qual scope f cd A outer s₀ H₀ E) [] σ H s:=I.pins_of fun p hp=>absurd hp (by simp)
 have I1:Inv (cxX P w K mg base N qual scope f cd A outer s₀ H₀ E) [] σ H' s':=I0.call' (ch:=[]) os un hok bare fun b hb=>absurd hb (by simp)
 show wpAny _ _ (leaving _ (.ref ea)) _ _ s'
 refine wpAny_leaves_onW (base:=B) (L:=s₀.heap.objs.size) I.ok.frames rfl fl fun h' fl' up=>?_
 have cov':∀ b o,s₀.heap.get? b = some o→b∉frs outer→∃ o',B.get? b = some o':=fun b o q hb=>by
  obtain ⟨o1,e1⟩:=I.base.there b o q (fun z=>absurd z (show b∉([]:List Addr) by simp))
  exact cov b o1 e1 (young_fr I q hb)
 refine ⟨ea,C,a0,H',B,rfl,hE,I1.os,bare,?_,hok.fly trb fl.1 fl'.1,fl',cov',trb,hea⟩
 refine Un.fly (B:=B) I1.base cov' fl.1 fl'.1 fun b hb o q=>?_
 obtain ⟨_,o2,q2,nf⟩:=fl'.2.2.1.mem hb
 have nf':∀ vs,o.data≠.fields vs:=fun vs z=>by
  obtain ⟨_,o3,q3,n3⟩:=I1.funs.mem hb
  rw [q] at q3
  cases q3
  exact n3 vs z
 exact up b o q nf'
theorem raisedX {pins:List (Addr× Obj)} {σ:St} {H:Hp} {s:Shared} {h':Heap} {ea C:Addr} {vs:List Value} (I:Inv (cxX P w K mg base N qual scope f cd A outer s₀ H₀ E) pins σ H s) (hx:Heap.MadeExcOf s.heap h' ea (.ref C) vs) (hE:E (.ref C) none H) :
  (cxX P w K mg base N qual scope f cd A outer s₀ H₀ E).xe (.ref ea) { s with heap:=h' }:=by
 show wpAny _ _ (leaving _ (.ref ea)) _ _ _
 have hin:∀ env∈(cxX P w K mg base N qual scope f cd A outer s₀ H₀ E).stack,∀ a,env.frame = some a→a∈frs (cxX P w K mg base N qual scope f cd A outer s₀ H₀ E).stack:=fun env he a ha=>List.mem_filterMap.mpr ⟨env,he,ha⟩
 refine wpAny_leaves_madeW (base:=PySem.W.hideAll s.heap (frs (cxX P w K mg base N qual scope f cd A outer s₀ H₀ E).stack)) (L:=s₀.heap.objs.size) I.ok.frames rfl (fun b o q=>PySem.W.of_hideAll _ q) (PySem.W.funFrames_hide I.stack hin) hx fun h'' t fl tup tn up=>?_
 have st:(PySem.W.hideAll s.heap (frs (cxX P w K mg base N qual scope f cd A outer s₀ H₀ E).stack)).StaysIn s.heap:=fun b o q=>PySem.W.of_hideAll _ q
 have cov:∀ b o,s₀.heap.get? b = some o→b∉frs outer→∃ o',(PySem.W.hideAll s.heap (frs (cxX P w K mg base N qual scope f cd A outer s₀ H₀ E).stack)).get? b = some o':=fun b o q hb=>by
  obtain ⟨o1,e1⟩:=I.base.there b o q (fun z=>absurd z (show b∉([]:List Addr) by simp))
  exact ⟨o1,PySem.W.hideAll_get _ e1 (young_fr I q hb)⟩
 have trb:∀ b u,H b = some u→∃ o,(PySem.W.hideAll s.heap (frs (cxX P w K mg base N qual scope f cd A outer s₀ H₀ E).stack)).get? b = some o:=fun b u q=>by
  obtain ⟨o,e⟩:=(I.hok b u q).some'
  exact ⟨o,PySem.W.hideAll_get _ e fun z=>by rw [I.stkFree b z] at q; cases q⟩
 have hea:H ea = none:=by
  cases z:H ea with
  | none=>rfl
  | some u =>
   obtain ⟨o,e⟩:=(I.hok ea u z).some'
   rw [hx.new] at e
   cases e
 refine ⟨ea,C,.ref t,H,_,rfl,hE,I.os,I.bare,?_,I.hok.fly trb st fl.1,fl,cov,trb,hea⟩
 refine Un.fly I.base cov st fl.1 fun b hb o q=>?_
 have nf':∀ vs,o.data≠.fields vs:=fun vs z=>by
  obtain ⟨_,o3,q3,n3⟩:=I.funs.mem hb
  rw [q] at q3
  cases q3
  exact n3 vs z
 exact up b o (hx.keeps b o q) nf'
end
abbrev veM:List Value:=[.type "ValueError", .type "Exception", .type "BaseException", .type "object"]
def ExcC (K:PySem.W.Frag) (C:Addr):Prop:=PySem.W.excIn K C veM "ValueError.__new__" = true
theorem ExcC.obj {K:PySem.W.Frag} {C:Addr} (q:ExcC K C) {h:Heap} (X:K.In h):∃ bm N nm qn bs hd sn sub ab col dd k0 k1 k2 k3 k5 mN,h.get? C = some (excClassObj nm qn C N bs bm hd sn sub ab col dd k0 k1 k2 k3 k5 "ValueError.__new__") ∧
  h.Ns N mN∧mN "__init__" = none∧OwnTail h veM bm:=by
 unfold ExcC PySem.W.excIn at q
 split at q
 case h_2=>cases q
 rename_i d1 c1 l1 hl
 split at q
 case h_2=>cases q
 rename_i C2 b2 j0 j1 j2 j3 nn j5 hmr hli
 have q1:=Bool.and_eq_true_iff.mp q
 have q2:=Bool.and_eq_true_iff.mp q1.1
 have q3:=Bool.and_eq_true_iff.mp q2.1
 have q4:=Bool.and_eq_true_iff.mp q3.1
 have q5:=Bool.and_eq_true_iff.mp q4.1
 have ho:=X _ _ hl
 have eC:C2 = C:=eq_of_beq q5.1
 have en:nn = "ValueError.__new__" := eq_of_beq q5.2
 have T:=PySem.W.tail_of_in (h:=h) X q3.2
 have NS:h.Ns c1.ns (h.nsMap c1.ns):=.of_isNs (PySem.W.isNs_of_in X q2.2)
 have hi:=PySem.W.nsMap_none_of_in X q2.2 (eq_of_beq q1.2)
 have ed:c1.hasDel = false:=by
  cases z:c1.hasDel with
  | false=>rfl
  | true=>rw [z] at q4; exact absurd q4.2 (by decide)
 have es:l1 = #[j0,j1,j2,j3,some (.builtin "ValueError.__new__"),j5]:=by rw [← en]; exact Array.toList_inj.mp hli
 rw [es] at ho
 rw [eC] at hmr
 obtain ⟨nm,bs,mr,ns,qn,hdi,sn,sub,ab,col,dl⟩:=c1
 have e1:mr = Value.ref C :: b2:=hmr
 have e2:dl = false:=ed
 rw [e1,e2] at ho
 exact ⟨b2,ns,nm,qn,bs,hdi,sn,sub,ab,col,d1,j0,j1,j2,j3,j5,_,ho,NS,hi,T⟩
def tRaise (C:Addr) (E:XK) (t:TA):TS:=fun _ σ H=>t σ H fun vs H'=>vs.length≤sizeLine∧E (.ref C) none H'
section
variable {P:Program} {w:World} {K:PySem.W.Frag} {mg:Str→Option Value} {base:Heap} {N:List Str} {qual:Str} {scope:Scope} {f:Addr} {cd:Value} {A:Around} {outer:List Env} {s₀:Shared} {H₀:Hp} {E:XK}
theorem ps_raise {x:Str} {C:Addr} {np cpos pos:Pos} {e:Expr} {es:List Expr} {t:TA} (hq:ExcC K C) (hm:mg x = some (.ref C)) (hg:Gl (cxX P w K mg base N qual scope f cd A outer s₀ H₀ E) x)
  (ha:PA (cxX P w K mg base N qual scope f cd A outer s₀ H₀ E) (e :: es) t)
  (hdb:(x == ("__debug__" : Str)) = false:=by decide) (he:starEach (e :: es) (cxX P w K mg base N qual scope f cd A outer s₀ H₀ E).env = (false,eval e (cxX P w K mg base N qual scope f cd A outer s₀ H₀ E).env) :: starEach es (cxX P w K mg base N qual scope f cd A outer s₀ H₀ E).env:=by rfl)
  (hpl:(backTo cpos (starEach es (cxX P w K mg base N qual scope f cd A outer s₀ H₀ E).env)).any (·.1) = false:=by rfl) :
  PS (cxX P w K mg base N qual scope f cd A outer s₀ H₀ E) (.Raise (some (.Call (.Name x np) (e :: es) [] cpos)) none pos) (tRaise C E t):=by
 intro pins s σ H D I h
 obtain ⟨bm,Nn,nm,qn,bs,hd,sn,sub,ab,col,dd,k0,k1,k2,k3,k5,mN,hC,hN,hni,TL⟩:=hq.obj I.ok.mod.kin
 have ha':=ha cpos pins s σ H _ I h
 refine wpAny_Raise_call_subT (C:=C) (N:=Nn) (nm:=nm) (q:=qn) (bs:=bs) (bm:=bm) (hdct:=hd) (sn:=sn) (sub:=sub) (ab:=ab) (col:=col) (dd:=dd) (k0:=k0) (k1:=k1) (k2:=k2) (k3:=k3) (k5:=k5) (mN:=mN) PySem.F.excBase_ValueError (TL.hasType (by decide)) (I.ok.hd rfl) ?_ hni (ld_glob I hg hm ⟨rfl,?_⟩ hdb)
 ·rw [he]
  show (false || (backTo cpos (starEach es (cxX P w K mg base N qual scope f cd A outer s₀ H₀ E).env)).any (·.1)) = false
  rw [hpl]; rfl
 ·rw [he] at ha' ⊢
  refine Calls.evalArgs_plain (thn ha' fun us s1 ⟨vs,H1,I1,r,hl,q⟩=>⟨rfl,?_,I1.bk _ _ hC,hN.keeps I1.bk,TL.keeps I1.bk,fun h' ea hx=>raisedX I1 hx q⟩)
  rw [← r.length]
  exact hl
end
def PX (X:Cx) (e:Expr) (t:XK→TE):Prop:=∀ (pins:List (Addr× Obj)) (s:Shared) (σ:St) (H:Hp) (Q:VK) (E:XK) (xe:Value→Shared→Prop),Inv X pins σ H s→t E σ H Q →
 (∀ H1 s1 e' s',Inv X pins σ H1 s1→CX1 X.prog X.w X.stack H1 s1 E e' s'→xe e' s')→wpAny (model X.prog X.w) X.A (eval e X.env) (EP X pins σ Q) xe s
def PXs (X:Cx) (sts:List Stmt) (t:XK→TS):Prop:=∀ (pins:List (Addr× Obj)) (s:Shared) (σ:St) (H:Hp) (D:Ends) (E:XK) (xe:Value→Shared→Prop),Inv X pins σ H s→t E D σ H →
 (∀ H1 s1 e' s',Inv X pins σ H1 s1→CX1 X.prog X.w X.stack H1 s1 E e' s'→xe e' s')→wpAny (model X.prog X.w) X.A (execs sts X.env) (SP X pins D) xe s
def CalleeX (P:Program) (w:World) (K:PySem.W.Frag) (mg:Str→Option Value) (base:Heap) (k:Nat) (x:Str) (ps:List Str) (sp:Sp):Prop :=
 ∃ f fd,FnOk P w K mg base (CX1 P w) k f fd ps sp∧Binds K fd ps []∧PySem.W.keepIn K (.ref f) = true∧mg x = some (.ref f)
section
variable {X:Cx} {k j:Nat} {f:Addr} {fd:FuncData} {ps:List Str} {sp:Sp} {x:Str} {p pos:Pos} {e:Expr} {es:List Expr} {t:TA}
theorem run_fnX {pins:List (Addr× Obj)} {σ:St} {H:Hp} {s:Shared} {Q:VK} {E:XK} {xe:Value→Shared→Prop} {us:List Value} {vs:List V} (F:FnOk X.prog X.w X.K X.mg X.base (CX1 X.prog X.w) k f fd ps sp) (hr:Room k X.A) (hb:Binds X.K fd ps [])
  (I:Inv X pins σ H s) (r:Vals vs us) (h:sp vs H Q E) (hx:∀ H1 s1 e' s',Inv X pins σ H1 s1→CX1 X.prog X.w X.stack H1 s1 E e' s'→xe e' s'):wpAny (model X.prog X.w) X.A (call (.ref f) us) (EP X pins σ Q) xe s:=by
 have hl:us.length = ps.length:=by rw [← r.length]; exact F.len _ _ _ _ h
 have hb':=hb s us I.kIn (by rw [List.append_nil]; exact hl)
 rw [List.append_nil] at hb'
 refine wpAny_call (codeAny_mono (F.run X.A X.stack s H ⟨us,[]⟩ us vs Q E hr I.env0 hb' r h) fun r s' hq=>?_)
 cases r with
 | error e=>exact hx H s e s' I hq
 | ok fl =>
  cases fl with
  | ret u=>exact I.after hq
  | next=>exact False.elim hq
  | brk=>exact False.elim hq
  | cont=>exact False.elim hq
theorem px_call (C:CalleeX X.prog X.w X.K X.mg X.base j x ps sp) (hr:Room k X.A) (hg:Gl X x) (ha:PA X.nox (e :: es) t) (hj:j≤k:=by first | decide | omega)
  (hdb:(x == ("__debug__" : Str)) = false:=by decide) (he:starEach (e :: es) X.env = (false,eval e X.env) :: starEach es X.env:=by rfl) (hpl:(backTo pos (starEach es X.env)).any (·.1) = false:=by rfl) :
  PX X (.Call (.Name x p) (e :: es) [] pos) (fun E=>tCall sp [] E t):=by
 obtain ⟨f,fd,F,b,kp,m⟩:=C
 intro pins s σ H Q E xe I h hx
 refine wpAny_Call_Name_kw (ld_glob I hg m ?_ hdb)
 have ha':=ha pos pins s σ H _ (I.wish _) h
 refine PySem.W.callWith_K (h₀:=X.base) I.ok.mod.kin kp (wpAny_mono ha' (fun us s1 ⟨vs,H1,I1,r,q⟩=>⟨I1.unwish.kIn,?_⟩) fun _ _ z=>False.elim z) he hpl
 have q2:sp (vs ++ []) H1 Q E:=q
 rw [List.append_nil] at q2
 exact run_fnX (F.mono hj) hr b I1.unwish r q2 hx
theorem pxs_set {i:Nat} {te:XK→TE} {pos':Pos} (he:PX X e te) (hN:X.N.Nodup) (hi:X.N[i]? = some x) (hx:Loc X.env.scope x) (hs:swapsWith e (some (.Name x pos')) pos.line X.env = pure false:=by rfl) (hf:X.fn x = true∨X.env.scope.names.lookup x = some .local:=by first | exact .inl rfl | exact .inr rfl | assumption) :
  PXs X [.Assign [.Name x pos'] e pos] (fun E=>tAsg (te E) (gName i)):=by
 intro pins s σ H D E xe I h hxx
 refine wpAny_execs_cons (wpAny_Assign_Name (thn (he pins s σ H _ E xe I h hxx) fun v s1 ⟨y,H1,I1,r1,q1⟩=>?_) hs)
 exact store_ok I1 hN hi hx r1 (fun s2 I2=>wpAny_execs_nil ⟨_,H1,I2,q1⟩) hf
end
section
variable {P:Program} {w:World} {K:PySem.W.Frag} {mg:Str→Option Value} {base:Heap}
theorem CalleeX.mono {j k:Nat} {x:Str} {ps:List Str} {sp:Sp} (C:CalleeX P w K mg base j x ps sp) (h:j≤k):CalleeX P w K mg base k x ps sp:=by
 obtain ⟨f,fd,F,b,kp,m⟩:=C
 exact ⟨f,fd,F.mono h,b,kp,m⟩
theorem CalleeX.imp {k:Nat} {x:Str} {ps:List Str} {sp sp':Sp} (C:CalleeX P w K mg base k x ps sp) (h:∀ vs H Q E,sp' vs H Q E→sp vs H Q E):CalleeX P w K mg base k x ps sp':=by
 obtain ⟨f,fd,F,b,kp,m⟩:=C
 exact ⟨f,fd,F.imp h,b,kp,m⟩
theorem FunM.okX {x:Str} {st:Stmt} {N ps:List Str} {k:Nat} {sp:Sp} (F:FunM K mg x ps st) (S:FnScope N ps (defScope st)) (len:∀ vs H Q E,sp vs H Q E→vs.length = ps.length)
  (hbody:∀ (f:Addr) (cdv:Value) (A:Around) (outer:List Env) (s:Shared) (H:Hp) (vs:List V) (Q:VK) (E:XK),Room k (A.deeper (envOfC x (defScope st) s.heap.objs.size f cdv))→sp vs H Q E →
   ∃ t,PSs (cxX P w K mg base N x (defScope st) f cdv A outer s H E) (defBody st) t∧t { nx:=fun _ H'=>Q .non H',rt:=Q } (start N vs) H):CalleeX P w K mg base (k + 1) x ps sp:=by
 obtain ⟨f,fd,F,m,b⟩:=F
 have kp:=F.kp
 obtain ⟨oc,od,kV,doc,pm,an,cdv,ct,osl,rfl,lk,hcd⟩:=F.ex
 exact ⟨f,_,fn_of lk hcd S len fun A outer s H vs Q E hr hsp=>hbody f cdv A outer s H vs Q E hr hsp,b,kp,m⟩
theorem FunM.zeroX {x:Str} {st:Stmt} {ps:List Str} {sp:Sp} (F:FunM K mg x ps st) (no:∀ vs H Q E,¬ sp vs H Q E):CalleeX P w K mg base 0 x ps sp:=by
 obtain ⟨f,fd,F,m,b⟩:=F
 exact ⟨f,fd,⟨fun vs H Q E h=>absurd h (no vs H Q E),fun A outer s H args us vs Q E _ _ _ _ h=>absurd h (no vs H Q E)⟩,b,F.kp,m⟩
end
section
variable {P:Program} {w:World} {K:PySem.W.Frag} {mg:Str→Option Value} {base:Heap} {N:List Str} {qual:Str} {scope:Scope} {f:Addr} {cd:Value} {A:Around} {outer:List Env} {s₀:Shared} {H₀:Hp} {E:XK}
theorem pe_callX {x:Str} {p pos:Pos} {e:Expr} {es:List Expr} {t:TA} {k j:Nat} {ps:List Str} {sp:Sp} (C:CalleeX P w K mg base j x ps sp) (hr:Room k (cxX P w K mg base N qual scope f cd A outer s₀ H₀ E).A) (hg:Gl (cxX P w K mg base N qual scope f cd A outer s₀ H₀ E) x)
  (ha:PA (cxX P w K mg base N qual scope f cd A outer s₀ H₀ E) (e :: es) t) (hj:j≤k:=by first | decide | omega)
  (hdb:(x == ("__debug__" : Str)) = false:=by decide) (he:starEach (e :: es) (cxX P w K mg base N qual scope f cd A outer s₀ H₀ E).env = (false,eval e (cxX P w K mg base N qual scope f cd A outer s₀ H₀ E).env) :: starEach es (cxX P w K mg base N qual scope f cd A outer s₀ H₀ E).env:=by rfl)
  (hpl:(backTo pos (starEach es (cxX P w K mg base N qual scope f cd A outer s₀ H₀ E).env)).any (·.1) = false:=by rfl) :
  PE (cxX P w K mg base N qual scope f cd A outer s₀ H₀ E) (.Call (.Name x p) (e :: es) [] pos) (tCall sp [] E t):=by
 obtain ⟨f,fd,F,b,kp,m⟩:=C
 exact pe_call (F.mono hj) hr hg m kp b .nil passX ha hdb he hpl
end
abbrev Cx.hold (X:Cx) (u:Value):Cx:={ X with A:=X.A.mark (some u),calm:=false,xe:=fun _ _=>False }
section
variable {X:Cx} {pins:List (Addr× Obj)} {σ:St} {H:Hp} {s:Shared} {u:Value}
theorem Inv.hold (I:Inv X pins σ H s) (u:Value):Inv (X.hold u) pins σ H s :=
 ⟨⟨I.ok.mod,I.ok.kind,I.ok.glob,I.ok.blt,I.ok.above,I.ok.inj,I.ok.has,I.ok.cab,fun z=>(by cases z),I.ok.frames,I.ok.stk,I.ok.exf,I.ok.bs,I.ok.bsz,I.ok.noex,I.ok.exfs,I.ok.funs,I.ok.frf⟩,
  I.os,I.bare,I.base,I.loc,I.cell,I.free,I.freeC,I.pin,I.hok,I.len⟩
theorem Inv.unhold (ok:X.Ok) (I:Inv (X.hold u) pins σ H s):Inv X pins σ H s:=⟨ok,I.os,I.bare,I.base,I.loc,I.cell,I.free,I.freeC,I.pin,I.hok,I.len⟩
theorem SP.unhold (ok:X.Ok) {D:Ends} {f:Flow} {s':Shared} (h:SP (X.hold u) pins D f s'):SP X pins D f s':=by
 cases f with
 | next=>obtain ⟨σ',H',I,q⟩:=h; exact ⟨σ',H',I.unhold ok,q⟩
 | brk=>obtain ⟨σ',H',I,q⟩:=h; exact ⟨σ',H',I.unhold ok,q⟩
 | cont=>obtain ⟨σ',H',I,q⟩:=h; exact ⟨σ',H',I.unhold ok,q⟩
 | ret v=>obtain ⟨v',σ',H',I,r,q⟩:=h; exact ⟨v',σ',H',I.unhold ok,r,q⟩
end
structure Land (X:Cx) (pins:List (Addr× Obj)) (σ:St) (H:Hp) (B:Heap) (ea C:Addr) (a0:Value) (s:Shared):Prop where
 inv:Inv X pins σ H s
 fly:Heap.FlyingW B X.stack ea (.ref C) a0 s.heap
 go:∀ h',B.StaysIn h'→s.heap.UpToSlots h'→Inv X pins σ H { s with heap:=h' }
section
variable {X:Cx} {pins:List (Addr× Obj)} {σ:St} {H H':Hp} {s s':Shared} {B:Heap} {ea C:Addr} {a0:Value}
theorem land (I:Inv X pins σ H s) (os:s'.os = s.os) (bare:AllBare s'.gens) (un:Un (frs X.stack) [] H H' s.heap s'.heap) (hok:HOk X.prog X.w H' s'.heap) (fl:Heap.FlyingW B X.stack ea (.ref C) a0 s'.heap)
  (cov:∀ b o,s.heap.get? b = some o→b∉frs X.stack→∃ o',B.get? b = some o') (trb:∀ b u,H' b = some u→∃ o,B.get? b = some o) {h':Heap} (st:B.StaysIn h') (up:s'.heap.UpToSlots h'):Inv X pins σ H' { s' with heap:=h' }:=by
 have nf:∀ b∈frs X.stack,∀ o,s'.heap.get? b = some o→∃ z,h'.get? b = some { o with slots:=z }:=fun b hb o q=>by
  refine up b o q fun vs z=>?_
  obtain ⟨_,o3,q3,n3⟩:=fl.2.2.1.mem hb
  rw [q] at q3
  cases q3
  exact n3 vs z
 exact I.call' (ch:=[]) (s':={ s' with heap:=h' }) os (Un.fly un cov fl.1 st nf) (hok.fly trb fl.1 st) bare fun b hb=>absurd hb (by simp)
end
def PH (X:Cx) (hs:List ExceptHandler) (th:Addr→TS):Prop:=∀ (pins:List (Addr× Obj)) (s:Shared) (σ:St) (H:Hp) (D:Ends) (B:Heap) (ea C:Addr) (a0:Value),Land X pins σ H B ea C a0 s→th C D σ H →
 wpAny (model X.prog X.w) X.A (handleBy (.ref ea) X.env hs) (SP X pins D) X.xe s
def tHand (K:PySem.W.Frag) (C0:Addr) (t:TS) (r:Addr→TS):Addr→TS:=fun C D σ H=>(PySem.W.exmOne K (.ref C) (.ref C0) = some true∧t D σ H)∨(PySem.W.exmOne K (.ref C) (.ref C0) = some false∧r C D σ H)
def tLost:Addr→TS:=fun _ _ _ _=>False
section
variable {X:Cx} {x:Str} {np pos:Pos} {b0:Stmt} {suite:List Stmt} {hs:List ExceptHandler} {C0:Addr} {t:TS} {r:Addr→TS}
theorem ph_nil:PH X hs tLost:=fun _ _ _ _ _ _ _ _ _ _ h=>h.elim
theorem ph_cons (hm:X.mg x = some (.ref C0)) (hg:Gl X x) (ht:∀ u,PSs (X.hold u) (b0 :: suite) t) (hr:PH X hs r) (hdb:(x == ("__debug__" : Str)) = false:=by decide) :
  PH X (.ExceptHandler (some (.Name x np)) none (b0 :: suite) pos :: hs) (tHand X.K C0 t r):=by
 intro pins s σ H D B ea C a0 L h
 refine wpAny_handleBy_cons (codeAny_handlers_test (ld_glob (X:=X.hold (.ref ea)) (L.inv.hold _) hg hm ?_ hdb)) (by intro q; cases q)
 have LT:PySem.W.Looks (model X.prog X.w) s.heap (typeOf (.ref ea)) (.ref C):=by
  obtain ⟨ob,hob,hoc⟩:=L.fly.there
  rw [← hoc]
  exact PySem.W.Looks.ld hob |>.andThen .now
 rcases h with ⟨hx,h⟩ | ⟨hx,h⟩
 ·refine (PySem.W.exm_one L.inv.kIn LT hx).here ?_
  refine codeAny_handlers_suite ?_
  refine lands_againW L.fly fun h6 fl6 up6=>?_
  have I6:=(L.go h6 fl6.1 up6).hold (.ref ea)
  exact wpAny_mono (ht (.ref ea) pins _ σ H D I6 h) (fun f s2 q=>q.unhold L.inv.ok) fun _ _ z=>False.elim z
 ·refine (PySem.W.exm_one L.inv.kIn LT hx).here ?_
  exact hr pins s σ H D B ea C a0 L h
def tTry (th:Addr→TS) (tb:XK→TS):TS:=fun D σ H=>tb (fun cv _ H'=>∃ C,cv = .ref C∧th C D σ H') D σ H
theorem ps_try {body:List Stmt} {h0:ExceptHandler} {tb:XK→TS} {th:Addr→TS} (hb:PXs X body tb) (hh:PH X (h0 :: hs) th) (hst:X.stack = X.env :: X.outer) (hf:X.env.frame = some X.env.locals):PS X (.Try body (h0 :: hs) [] [] pos) (tTry th tb):=by
 intro pins s σ H D I h
 refine wpAny_Try_except (wpAny_mono (hb pins s σ H D _ (fun e s₁=>wpAny (model X.prog X.w) X.A (noteFrame e X.env) (fun _ s₂=>wpAny (model X.prog X.w) X.A (setFlight e none) (fun _ s₃=>wpAny (model X.prog X.w) X.A (handleBy e X.env (h0 :: hs)) (SP X pins D) X.xe s₃) X.xe s₂) X.xe s₁) I h ?_) (fun f s1 q=>?_) fun _ _ z=>z)
 ·intro H1 s1 e' s' I1 hc
  obtain ⟨ea,C,a0,H',B,rfl,⟨C',e1,hE⟩,os,bare,un,hok,fl,cov,trb,hea⟩:=hc
  cases e1
  have fl0:=fl
  rw [hst] at fl0
  refine wpAny_looks_onW (I1.ok.frames.trans (by rw [hst])) hf fl0 fun h4 held4 up4=>?_
  refine wpAny_landsW held4 fun h5 fl5 up5=>?_
  have fl5':Heap.FlyingW B X.stack ea (.ref C) a0 h5:=by rw [hst]; exact fl5
  have up:=up4.trans up5
  refine hh pins _ σ H' D B ea C a0 ⟨land I1 os bare un hok fl cov trb fl5.1 up,fl5',fun h' st' up'=>?_⟩ hE
  exact land I1 os bare un hok fl cov trb st' (up.trans up')
 ·cases f with
  | next=>exact wpAny_execs_nil q
  | brk=>exact q
  | cont=>exact q
  | ret v=>exact q
end
end L2
end
section
set_option Elab.async false
set_option linter.all false
set_option maxRecDepth 100000
set_option maxHeartbeats 4000000
namespace L2
open PySem PySem.Spec PyProof.Rows
open PySem.Builtin.Str
section
variable {X:Cx}
def rAlpha:V→List V→Hp→VK→Prop:=fun x vs H Q=>∃ t,x = .str t∧vs = []∧Q (.bl (Txt.isalpha t)) H
theorem mt_isalpha:MtR X "str.isalpha" rAlpha:=by
 intro pins s σ H x vs v us Q I rx rv h
 obtain ⟨t,rfl,rfl,q⟩:=h
 obtain ⟨k,rfl⟩:=rx
 have hus:=rv.zero
 subst hus
 exact SC.isalpha ⟨.bl _,H,I,rfl,q⟩
theorem strs_vals:∀ {ts:List Str} {us:List Value},Vals (ts.map V.str) us→∃ l:List (Str× Tok),us = strValues l∧l.map (·.1) = ts
 | [],us,r=>by
  cases r
  exact ⟨[],rfl,rfl⟩
 | t :: ts,us,r=>by
  cases r with
  | cons a b =>
   obtain ⟨k,rfl⟩:=a
   obtain ⟨l,rfl,e⟩:=strs_vals b
   exact ⟨(t,k) :: l,rfl,by rw [← e]; rfl⟩
theorem vals_strs:∀ (l:List (Str× Tok)),Vals ((l.map (·.1)).map V.str) (strValues l)
 | []=>.nil
 | (t,k) :: l=>.cons ⟨k,rfl⟩ (vals_strs l)
def rJoin (K:PySem.W.Frag):V→List V→Hp→VK→Prop:=fun x vs H Q=>∃ t a ts,x = .str t∧vs = [.ref a]∧SqL K H a (ts.map V.str)∧JoinOk t ts = true∧Q (.str (Txt.join t ts)) H
theorem mt_join:MtR X "str.join" (rJoin X.K):=by
 intro pins s σ H x vs v us Q I rx rv h
 obtain ⟨t,a,ts,rfl,rfl,hq,ho,q⟩:=h
 obtain ⟨k,rfl⟩:=rx
 obtain ⟨u,rfl,ru⟩:=rv.one
 cases ru
 obtain ⟨its,r,p,hz⟩:=I.list hq
 obtain ⟨l,rfl,e⟩:=strs_vals r
 exact SC.join p.isList e ho fun t' k'=>⟨.str _,H,I.tok _,⟨_,rfl⟩,q⟩
def rSplit:V→List V→Hp→VK→Prop:=fun x vs H Q=>∃ t,x = .str t∧vs = []∧t.length≤sizeLine∧(spaceWords t (t.length + 1)).length≤sizeLine∧(Txt.words t).length≤sizeLine∧∀ p,H p = none→Q (.ref p) (upd H p (.lst ((Txt.words t).map V.str)))
theorem mt_split:MtR X "str.split" rSplit:=by
 intro pins s σ H x vs v us Q I rx rv h
 obtain ⟨t,rfl,rfl,hz,hz2,hz3,q⟩:=h
 obtain ⟨k,rfl⟩:=rx
 have hus:=rv.zero
 subst hus
 have fin:∀ (l:List (Str× Tok)) (tk:Nat),l.map (·.1) = Txt.words t→EP X pins σ Q (.ref s.heap.objs.size) { s with heap:=s.heap.push { cls:=.type "list", data:=.seq (strValues l).toArray },toks:=tk }:=fun l tk e=>by
  refine ⟨.ref s.heap.objs.size,_,I.lnew (ys:=(Txt.words t).map V.str) ?_ (by rw [List.length_map]; exact hz3),rfl,q _ I.fresh⟩
  rw [← e]
  exact vals_strs l
 refine call_meets F.slot_str_split (typeIs_str _ _ _) F.entry_str_split (F.args_str_split_1 _) (meets_str_split_space t k hz hz2) ?_
 cases hw:spaceWords t (t.length + 1) == [(0,t.length)] with
 | false =>
  simp only [Bool.false_eq_true,if_false]
  rw [strsFrom_eq]
  refine fin _ _ ((numbered_texts _ _).trans ?_)
  unfold Txt.words
  rw [hw,if_neg (by decide)]
 | true =>
  simp only [if_true]
  have e:[(t,k)].map (·.1) = Txt.words t:=by
   unfold Txt.words
   rw [hw,if_pos rfl]
   rfl
  exact fin [(t,k)] s.toks e
end
def tFs:List TE→Str→St→Hp→(Str→Hp→Prop)→Prop
 | [],acc,_,H,Q=>acc.length≤sizeLine∧Q acc H
 | t :: r,acc,σ,H,Q=>t σ H fun v H1=>∃ y,v = .str y∧(acc ++ y).length≤sizeLine∧tFs r (acc ++ y) σ H1 Q
inductive PEs (X:Cx):List Expr→List TE→Prop
 | nil:PEs X [] []
 | cons {e t es ts}:PE X e t→PEs X es ts→PEs X (e :: es) (t :: ts)
section
variable {X:Cx}
theorem joins_of {pins:List (Addr× Obj)} {σ:St}:∀ {es:List Expr} {ts:List TE},PEs X es ts→∀ (acc:Str) (s:Shared) (H:Hp) (Q:Str→Hp→Prop),Inv X pins σ H s→tFs ts acc σ H Q →
  Joins (model X.prog X.w) X.A X.xe (evalEach es X.env) acc (fun out s1=>out.length≤sizeLine∧∃ H',Inv X pins σ H' s1∧Q out H') s
 | _,_,.nil,acc,s,H,Q,I,h=>⟨h.1,H,I,h.2⟩
 | e :: es,t :: ts,.cons he hes,acc,s,H,Q,I,h=>by
  show wpAny _ _ _ _ _ s
  refine thn (he pins s σ H _ I h) fun v s1 ⟨x,H1,I1,r1,y,ey,hz,q⟩=>?_
  subst ey
  obtain ⟨k,rfl⟩:=r1
  exact ⟨y,k,rfl,hz,joins_of hes _ s1 H1 Q I1 q⟩
theorem pe_fstr {e1 e2:Expr} {es:List Expr} {ts:List TE} {pos:Pos} (h:PEs X (e1 :: e2 :: es) ts):PE X (.JoinedStr (e1 :: e2 :: es) pos) (fun σ H Q=>tFs ts Str.empty σ H fun z H'=>Q (.str z) H'):=by
 intro pins s σ H Q I hw
 refine wpAny_JoinedStr ?_
 have j:=joins_of h Str.empty s H _ I hw
 have mono:∀ (ps:List (Sem Value)) (acc:Str) (Q1 Q2:Str→Shared→Prop) (s:Shared),(∀ z s,Q1 z s→Q2 z s)→Joins (model X.prog X.w) X.A X.xe ps acc Q1 s→Joins (model X.prog X.w) X.A X.xe ps acc Q2 s:=by
  intro ps
  induction ps with
  | nil=>intro acc Q1 Q2 s k j; exact k _ _ j
  | cons p ps ih =>
   intro acc Q1 Q2 s k j
   show wpAny _ _ _ _ _ s
   exact thn j fun v s1 ⟨y,t,e,hz,r⟩=>⟨y,t,e,hz,ih _ _ _ _ k r⟩
 refine mono _ _ _ _ _ (fun z s1 ⟨hz,H',I',q⟩=>⟨hz,.str z,H',I'.tok _,⟨_,rfl⟩,q⟩) j
def tFv (te:TE):TE:=fun σ H Q=>te σ H fun v H1=>∃ y,v = .str y∧y.length≤sizeLine∧Q (.str y) H1
def tFr (te:TE):TE:=fun σ H Q=>te σ H fun v H1=>∃ y,v = .str y∧(reprText y).length≤sizeLine∧Q (.str (reprText y)) H1
theorem pe_fv {e:Expr} {te:TE} {pos:Pos} (he:PE X e te):PE X (.FormattedValue e (-1) none pos) (tFv te):=by
 intro pins s σ H Q I h
 refine wpAny_FormattedValue_plain (thn (he pins s σ H _ I h) fun v s1 ⟨x,H1,I1,r1,y,ey,hz,q⟩=>?_)
 subst ey
 obtain ⟨k,rfl⟩:=r1
 exact wpAny_formatField_str ⟨.str y,H1,I1,⟨_,rfl⟩,q⟩ ⟨.str y,H1,I1.tok _,⟨_,rfl⟩,q⟩ hz
theorem pe_fr {e:Expr} {te:TE} {pos:Pos} (he:PE X e te):PE X (.FormattedValue e 114 none pos) (tFr te):=by
 intro pins s σ H Q I h
 refine wpAny_FormattedValue_repr (thn (he pins s σ H _ I h) fun v s1 ⟨x,H1,I1,r1,y,ey,hz,q⟩=>?_)
 subst ey
 obtain ⟨k,rfl⟩:=r1
 refine wpAny_pyReprObj_gives (typeIs_str _ _ _) F.slot_str_repr F.entry_str_repr (F.args_str_repr_1 _) (gives_str_repr y k) ?_ (hx:=hz)
 exact wpAny_formatField_str ⟨.str _,H1,I1.tok _,⟨_,rfl⟩,q⟩ ⟨.str _,H1,I1.tok _,⟨_,rfl⟩,q⟩ hz
end
def Its (x:Str):It:=⟨fun i _=>i < x.cps.size,fun i H v H'=>H' = H∧∃ c,x.cps[i]? = some c∧v = .str ⟨#[c]⟩,fun i _=>x.cps.size≤i⟩
theorem turn_str {P:Program} {w:World} {K:PySem.W.Frag} {tg:Expr} (x:Str) (t:Tok) (it:Addr) (ty:String) (hty:ty = "str_ascii_iterator" ∨ ty = "str_iterator"):Turn P w K tg (Its x) [it] it (fun i h=>h.IsStrIter it ty x t i) where
 mem:=by simp
 obj:=fun i h st b hb=>by
  have e:b = it:=by simpa using hb
  subst e
  obtain ⟨o,e,c,d⟩:=st
  exact ⟨o,e,fun v z=>by rw [d] at z; cases z⟩
 keep:=fun i h h' st k=>by
  obtain ⟨o,e,c,d⟩:=st
  exact ⟨o,k it (by simp) o e,c,d⟩
 item:=by
  intro X hP hw hK hc i pins s σ H E I hf st hg
  subst hP hw hK
  have hi:i < x.cps.size:=hg
  have hx:x.cps[i]? = some x.cps[i]:=Array.getElem?_eq_getElem hi
  obtain ⟨f0,f1,f2,f3,f4,f5⟩:=hf it (by simp)
  have fin:∀ h',h'.IsStrIter it ty x t (i + 1)→Heap.SameBut it s.heap h'→∃ u,some (Value.str ⟨#[x.cps[i]]⟩ s.toks) = some u ∧
   wpAny (model X.prog X.w) X.A (letOwnedTupleGo tg (.ref it) u) (fun _ s2=>∃ y H',Inv X pins σ H' s2∧RelV y u∧(Its x).yld i H y H'∧s2.heap.IsStrIter it ty x t (i + 1)∧∀ b∈[it],H' b = none) E { s with heap:=h',toks:=s.toks + 1 }:=fun h' st' sb=>by
   have I1:Inv X pins σ H { s with heap:=h',toks:=s.toks + 1 }:=I.turned (t':=s.toks + 1) (fun b o hb e=>(sb.2 b hb).trans e) f0 f1 f3 f4 f5
   obtain ⟨o,e,c,d⟩:=id st'
   exact ⟨_,rfl,go_of (s:={ s with heap:=h',toks:=s.toks + 1 }) e c d (by rcases hty with z | z <;> (subst z; decide)) ⟨.str ⟨#[x.cps[i]]⟩,H,I1,⟨_,rfl⟩,⟨rfl,_,hx,rfl⟩,st',fun b hb=>(hf b hb).1⟩⟩
  rcases hty with z | z
  ·subst z; exact wpAny_pyNext_ascii_item st hx fin
  ·subst z; exact wpAny_pyNext_wide_item st hx fin
 done:=by
  intro X hP hw hK hc i pins s σ H E I hf st hg
  subst hP hw hK
  have hx:x.cps[i]? = none:=Array.getElem?_eq_none hg
  obtain ⟨f0,f1,f2,f3,f4,f5⟩:=hf it (by simp)
  rcases hty with z | z
  ·subst z; exact wpAny_pyNext_ascii_end (I.ok.hd hc) st hx fun h' eb=>⟨rfl,I.turned (t':=s.toks) (fun b o hb e=>eb b o hb e) f0 f1 f3 f4 f5⟩
  ·subst z; exact wpAny_pyNext_wide_end (I.ok.hd hc) st hx fun h' eb=>⟨rfl,I.turned (t':=s.toks) (fun b o hb e=>eb b o hb e) f0 f1 f3 f4 f5⟩
 self:=fun _ _ _ _ _ st h=>by
  rcases hty with z | z
  ·subst z; exact wpAny_pyIter_striter_ascii st h
  ·subst z; exact wpAny_pyIter_striter_wide st h
def iStr (tl:TE):TI:=fun σ H R=>tl σ H fun x H1=>∃ z,x = .str z∧R (Its z) H1
theorem pi_str {X:Cx} {tg l:Expr} {tl:TE} (hl:PE X l tl):PI X tg l (iStr tl):=by
 intro pins s σ H R I h
 refine thn (hl pins s σ H _ I h) fun v s1 ⟨x,H1,I1,r1,q1⟩=>?_
 obtain ⟨z,e,q⟩:=q1
 subst e
 obtain ⟨t,rfl⟩:=r1
 have fin:∀ ty,ty = "str_ascii_iterator" ∨ ty = "str_iterator" → PIE X pins σ tg R (.ref s1.heap.objs.size) { s1 with heap:=s1.heap.push { cls:=.type ty,data:=.fields #[.str z t,.int 0 0] } }:=fun ty hty=>by
  refine ⟨s1.heap.objs.size,[s1.heap.objs.size],_,_,H1,rfl,I1.kept (t':=s1.toks) fun b o e=>Heap.get?_push_of_some _ e,turn_str z t _ ty hty,⟨_,Heap.get?_push_size _ rfl,rfl,rfl⟩,fun b hb=>?_,q⟩
  have e:b = s1.heap.objs.size:=by simpa using hb
  subst e
  exact I1.fpOk (Nat.le_refl _) (I1.hok.fresh (Nat.le_refl _))
 cases ha:z.cps.all (· < 128)
 ·exact wpAny_pyIter_wide ha (fin _ (.inr rfl))
 ·exact wpAny_pyIter_ascii ha (fin _ (.inl rfl))
section
variable {X:Cx} {pins:List (Addr× Obj)} {σ:St} {H:Hp} {s:Shared}
theorem store_loc {M:Model} {A:Around} {E:Value→Shared→Prop} {i:Nat} {x:Str} {v:V} {u:Value} {Q:Unit→Shared→Prop} (I:Inv X pins σ H s) (hN:X.N.Nodup) (hi:X.N[i]? = some x) (hk:X.env.scope.names.lookup x = some .local) (r:RelV v u)
  (h:∀ h' m,Inv X pins (σ.set i (some v)) H { s with heap:=h',toks:=s.toks + 1 }→h'.Ns X.env.locals m→m x = some u→Heap.SameBut X.env.locals s.heap h'→Q () { s with heap:=h',toks:=s.toks + 1 }):wpAny M A (storeName X.env x u) Q E s:=by
 obtain ⟨m,hn,hl⟩:=id I.loc
 have hcls:(X.env.scope.kind == .class || (X.env.scope.kind == .module && X.env.locals != X.env.globals)) = false:=by rw [I.ok.kind]; rfl
 have hiσ:i < σ.length:=by rw [I.len]; exact (List.getElem?_eq_some_iff.mp hi).1
 have cne:=I.cne
 obtain ⟨oL,_,_,hoL,_⟩:=id hn
 refine wpAny_storeName_local hk hn (fun h' hn' hs=>?_) hcls
 have ap:∀ b o,X.s₀.heap.get? b = some o→h'.get? b = s.heap.get? b:=fun b o e=>hs.2 b (Nat.ne_of_lt (Nat.lt_of_lt_of_le (Heap.lt_size e) I.ok.above))
 have hok':HOk X.prog X.w H h':=fun b ob e=>by
  refine (I.hok b ob e).stay (fun c w' hc q=>(hs.2 c ?_).trans q) (fun _ q=>q) fun _ _ q=>q
  intro z
  subst z
  rcases hc with z | hc
  ·subst z; rw [I.free] at e; cases e
  ·rw [I.free] at hc; cases hc
 refine h h' _ ⟨I.ok,I.os,I.bare,⟨fun b o e n hb hx=>(ap b o e).trans (I.base.keep b o e n hb hx),fun b o e n hb hx=>?_,I.base.free,fun b o e hx=>?_,I.base.tups,I.base.frzs,I.base.tbls⟩,⟨_,hn',fun j y v' e1 e2 e3=>?_⟩,fun y c e=>?_,I.free,I.freeC,fun p hp=>?_,hok',?_⟩ hn' (by simp) hs
 ·obtain ⟨sl,e1⟩:=I.base.slot b o e n hb hx
  exact ⟨sl,(ap b o e).trans e1⟩
 ·obtain ⟨o',e1⟩:=I.base.there b o e hx
  exact ⟨o',(ap b o e).trans e1⟩
 ·by_cases hj:j = i
  ·subst hj
   rw [hi] at e1
   cases e1
   rw [List.getElem?_set_self hiσ] at e2
   cases e2
   exact ⟨u,r,.inl ⟨hk,by simp⟩⟩
  ·rw [List.getElem?_set_ne (Ne.symm hj)] at e2
   obtain ⟨u',r',q⟩:=hl j y v' e1 e2 e3
   refine ⟨u',r',?_⟩
   rcases q with ⟨k,e⟩ | ⟨k,c,e,z⟩
   ·refine .inl ⟨k,?_⟩
    have:y≠x:=fun e=>hj (nodup_ix hN e1 (e ▸ hi))
    simp [this,e]
   ·exact .inr ⟨k,c,e,z.sameBut hs (cne y c e)⟩
 ·obtain ⟨w',z⟩:=I.cell y c e
  exact ⟨w',z.sameBut hs (cne y c e)⟩
 ·obtain ⟨e,n,ne,nf,d⟩:=I.pin p hp
  exact ⟨(hs.2 p.1 ne).trans e,n,ne,nf,d⟩
 ·rw [List.length_set]
  exact I.len
theorem Inv.local (I:Inv X pins σ H s) {i:Nat} {x:Str} {v:V} (hi:X.N[i]? = some x) (hk:X.env.scope.names.lookup x = some .local) (e:σ[i]? = some (some v)) {m:Str→Option Value} (hn:s.heap.Ns X.env.locals m):∃ u,RelV v u∧m x = some u:=by
 obtain ⟨m',hn',hl⟩:=I.loc
 obtain ⟨u,r,q⟩:=hl i x v hi e (.inl hk)
 have em:m' = m:=by
  funext y
  exact Heap.Ns.agree hn' hn y
 rcases q with ⟨_,e⟩ | ⟨k,_⟩
 ·exact ⟨u,r,em ▸ e⟩
 ·have k':X.env.scope.names.lookup x = some .cell∨X.env.scope.names.lookup x = some .free:=k
  rw [hk] at k'
  rcases k' with z | z <;> cases z
end
def put1 (a b:Str) (x:Str) (c:Nat):Str:=Txt.replace x ⟨#[c]⟩ (Str.empty ++ a ++ ⟨#[c]⟩ ++ b)
def puts (a b z:Str) (n:Nat) (x:Str):Str:=(z.cps.toList.take n).foldl (put1 a b) x
theorem puts_succ (a b z:Str) (n:Nat) (x:Str) {c:Nat} (h:z.cps[n]? = some c):puts a b z (n + 1) x = put1 a b (puts a b z n x) c:=by
 have h2:z.cps.toList[n]? = some c:=by rw [Array.getElem?_toList]; exact h
 unfold puts
 rw [List.take_succ,h2,List.foldl_append]
 rfl
theorem set4 {σ:St} {j k:Nat} (h:j≠k) (A B C D:Option V):(((σ.set j A).set k B).set k C).set j D = (σ.set j D).set k C:=by
 rw [List.set_set,List.set_comm _ _ (Ne.symm h),List.set_set]
theorem set_own {σ:St} {j k:Nat} (h:j≠k) (hk:k < σ.length) (A:Option V):(σ.set j A).set k σ[k] = σ.set j A:=by
 apply List.ext_getElem?
 intro n
 by_cases e:n = k
 ·subst e
  rw [List.getElem?_set_self (by rw [List.length_set]; exact hk),List.getElem?_set_ne h,List.getElem?_eq_getElem hk]
 ·rw [List.getElem?_set_ne (fun z=>e z.symm)]
def tPuts (i j k:Nat) (z a b:Str) (u:TS):TS:=fun D σ H=>∃ x,σ[i]? = some (some (.str x))∧(∀ c,((⟨#[c]⟩:Str) == Str.empty ++ a ++ ⟨#[c]⟩ ++ b) = false)∧(∀ c,(Str.empty ++ a ++ ⟨#[c]⟩ ++ b).length≤14)∧(∀ n,n≤z.cps.size→(puts a b z n x).length≤1000000) ∧
 ∀ v,u D ((σ.set j (some (.str (puts a b z z.cps.size x)))).set k v) H
section
variable {X:Cx}
theorem pss_puts {tx sp mk MK a b z:Str} {i j k:Nat} {tz:Tok} {p1 p2 p3 p4 p5 p6 p7 p8 p9 p10 p11 p12 p13 p14 p15 p16 p17:Pos} {rest:List Stmt} {u:TS} (hp:PassesOwn (model X.prog X.w) X.A X.env X.xe) (hc:X.calm = true) (hN:X.N.Nodup) (hi:X.N[i]? = some tx) (hj:X.N[j]? = some sp) (hk:X.N[k]? = some mk) (hjk:j≠k)
  (li:X.env.scope.names.lookup tx = some .local) (lj:X.env.scope.names.lookup sp = some .local) (lk:X.env.scope.names.lookup mk = some .local) (hg:Gl X MK) (hm:X.mg MK = some (.str z tz)) (hr:PSs X rest u)
  (hline:(p8.endLine == p15.line) = true) (d1:(tx == ("__debug__" : Str)) = false) (d2:(sp == ("__debug__" : Str)) = false) (d3:(mk == ("__debug__" : Str)) = false) (d4:(MK == ("__debug__" : Str)) = false)
  (hs1:swapsWith (.Name tx p2) (some (.Name sp p1)) p3.line X.env = pure false)
  (hs2:swapsWith (.Call (.Attribute (.Name sp p7) "replace" p8) [.Name mk p9,.JoinedStr [.Constant (.str a) 0 p10,.FormattedValue (.Name mk p11) (-1) none p12,.Constant (.str b) 0 p13] p14] [] p15) (some (.Name sp p6)) p16.line X.env = pure false)
  (hbase:attributeBase (.Name sp p7) "replace" X.env (eval (.Name sp p7) X.env) = eval (.Name sp p7) X.env)
  (hsf:∀ x,foldedSetIterable (.Name MK p5) X.env x = pure x) :
  PSs X (.Assign [.Name sp p1] (.Name tx p2) p3 :: .For (.Name mk p4) (.Name MK p5) [.Assign [.Name sp p6] (.Call (.Attribute (.Name sp p7) "replace" p8) [.Name mk p9,.JoinedStr [.Constant (.str a) 0 p10,.FormattedValue (.Name mk p11) (-1) none p12,.Constant (.str b) 0 p13] p14] [] p15) p16] [] p17 :: rest) (tPuts i j k z a b u):=by
 intro pins s σ H D I h
 obtain ⟨x,hx,hne,h14,hlen,hu⟩:=h
 obtain ⟨m,hn,_⟩:=id I.loc
 obtain ⟨ux,⟨tt,rfl⟩,mx⟩:=I.local hi li hx hn
 have hjN:j < σ.length:=by rw [I.len]; exact (List.getElem?_eq_some_iff.mp hj).1
 have hkN:k < σ.length:=by rw [I.len]; exact (List.getElem?_eq_some_iff.mp hk).1
 refine wpAny_execs_cons (wpAny_Assign_Name (wpAny_Name (wpAny_loadName_local I.ok.kind li hn mx ?_) d1) hs1)
 refine store_loc I hN hj lj (v:=.str x) ⟨tt,rfl⟩ fun h1 m1 I1 hn1 _ _=>?_
 refine wpAny_execs_cons (wpAny_For (ld_glob I1 hg hm ?_ d4) hsf)
 have main:∀ ty,ty = "str_ascii_iterator" ∨ ty = "str_iterator" → codeAny (model X.prog X.w) X.A (.forLoop (.Name mk p4) (.ref h1.objs.size) [.Assign [.Name sp p6] (.Call (.Attribute (.Name sp p7) "replace" p8) [.Name mk p9,.JoinedStr [.Constant (.str a) 0 p10,.FormattedValue (.Name mk p11) (-1) none p12,.Constant (.str b) 0 p13] p14] [] p15) p16] [] X.env)
   (fun r s'=>match r with
    | .ok f=>(match f with
     | .next=>wpAny (model X.prog X.w) X.A (execs rest X.env) (SP X pins D) X.xe s'
     | f=>SP X pins D f s')
    | .error e=>cameBackBy (model X.prog X.w) X.A X.env X.xe e s') { s with heap:=h1.push { cls:=.type ty,data:=.fields #[.str z tz,.int 0 0] },toks:=s.toks + 1 }:=by
  intro ty hty
  have I2:Inv X pins (σ.set j (some (.str x))) H { s with heap:=h1.push { cls:=.type ty,data:=.fields #[.str z tz,.int 0 0] },toks:=s.toks + 1 }:=I1.kept (t':=s.toks + 1) fun b o e=>Heap.get?_push_of_some _ e
  have f2:FpOk X pins H h1.objs.size:=I1.fpOk (Nat.le_refl _) (I1.hok.fresh (Nat.le_refl _))
  refine codeAny_forLoop_any (fun n s'=>∃ q v,n = z.cps.size - q∧q≤z.cps.size∧Inv X pins ((σ.set j (some (.str (puts a b z q x)))).set k v) H s'∧s'.heap.IsStrIter h1.objs.size ty z tz q∧0 < s'.toks) ?_ z.cps.size ⟨0,σ[k],rfl,Nat.zero_le _,?_,⟨_,Heap.get?_push_size _ rfl,rfl,rfl⟩,Nat.succ_pos _⟩
  ·rintro n s3 ⟨q,v,rfl,hq,I3,st3,tk3⟩
   rcases Nat.lt_or_ge q z.cps.size with hlt | hge
   ·have hx':z.cps[q]? = some z.cps[q]:=Array.getElem?_eq_getElem hlt
    generalize hcc:z.cps[q] = c at hx'
    have fin:∀ h4,h4.IsStrIter h1.objs.size ty z tz (q + 1)→Heap.SameBut h1.objs.size s3.heap h4→wpAny (model X.prog X.w) X.A (letOwnedTupleGo (.Name mk p4) (.ref h1.objs.size) (.str ⟨#[c]⟩ s3.toks)) (fun _ s₁' =>
      wpAny (model X.prog X.w) X.A (assign (.Name mk p4) X.env (.str ⟨#[c]⟩ s3.toks)) (fun _ s₂=>wpAny (model X.prog X.w) X.A (execs [.Assign [.Name sp p6] (.Call (.Attribute (.Name sp p7) "replace" p8) [.Name mk p9,.JoinedStr [.Constant (.str a) 0 p10,.FormattedValue (.Name mk p11) (-1) none p12,.Constant (.str b) 0 p13] p14] [] p15) p16] X.env) (fun f s₃=>match f with
       | .next | .cont=>∃ m,m < z.cps.size - q∧∃ q' v',m = z.cps.size - q'∧q'≤z.cps.size∧Inv X pins ((σ.set j (some (.str (puts a b z q' x)))).set k v') H s₃∧s₃.heap.IsStrIter h1.objs.size ty z tz q'∧0 < s₃.toks
       | _=>False) (fun _ _=>False) s₂) (fun _ _=>False) s₁') (fun _ _=>False) { s3 with heap:=h4,toks:=s3.toks + 1 }:=fun h4 st4 sb4=>by
     obtain ⟨f0,f1,f2',f3,f4,f5⟩:=f2
     have I4:=I3.turned (t':=s3.toks + 1) (h':=h4) (fun b o hb e=>(sb4.2 b hb).trans e) f0 f1 f3 f4 f5
     obtain ⟨oi,ei,ci,di⟩:=id st4
     have I4':=I4.pinned (fp:=[h1.objs.size]) (fun b hb=>by
      have e:b = h1.objs.size:=by simpa using hb
      subst e
      exact ⟨f0,f1,f2',f3,f4,f5⟩) (fun b hb=>by
      have e:b = h1.objs.size:=by simpa using hb
      subst e
      exact ⟨oi,ei,fun v z=>by rw [di] at z; cases z⟩)
     refine go_of (s:={ s3 with heap:=h4,toks:=s3.toks + 1 }) ei ci di (by rcases hty with z | z <;> (subst z; decide)) ?_
     refine wpAny_assign_Name (store_loc I4' hN hk lk (v:=.str ⟨#[c]⟩) ⟨_,rfl⟩ fun h5 m5 I5 hn5 mk5 sb5=>?_)
     obtain ⟨uj,⟨tj,rfl⟩,mj5⟩:=I5.local hj lj (v:=.str (puts a b z q x)) (by
      rw [List.getElem?_set_ne (Ne.symm hjk),List.getElem?_set_ne (Ne.symm hjk),List.getElem?_set_self hjN]) hn5
     refine wpAny_execs_cons (wpAny_Assign_Name (wpAny_Call_method_late hbase rfl hline rfl (wpAny_Name (wpAny_loadName_local I5.ok.kind lj hn5 mj5 ?_) d2)) hs2)
     refine ⟨"str", "str.replace", F.plainAttrs_str,F.slot_str_replace,F.type_str_replace,typeIs_str _ _ _,fun a e=>(nomatch e),?_⟩
     refine Calls.callWith_builtin rfl (Calls.evalArgs_plain (Calls.spliced_cons (wpAny_Name (wpAny_loadName_local I5.ok.kind lk hn5 mk5 ?_) d3)))
     refine Calls.spliced_cons (wpAny_JoinedStr (pos:=p14) ?_)
     have la:(Str.empty ++ a).length≤sizeLine:=small (by
      have:=h14 c
      simp only [strLen_append] at this ⊢
      omega)
     have lb:(Str.empty ++ a ++ ⟨#[c]⟩).length≤sizeLine:=small (by
      have:=h14 c
      simp only [strLen_append] at this ⊢
      omega)
     have lc:(Str.empty ++ a ++ ⟨#[c]⟩ ++ b).length≤sizeLine:=small (by
      have:=h14 c
      omega)
     have l1:(⟨#[c]⟩:Str).length≤sizeLine:=small (by show 1≤1000; decide)
     have tail:∀ (tk:Nat) (t':Tok),s3.toks + 2≤tk→∃ y t,Value.str ⟨#[c]⟩ t' = Value.str y t∧(Str.empty ++ a ++ y).length≤sizeLine ∧
       Joins (model X.prog X.w) X.A (fun _ _=>False) (evalEach [.Constant (.str b) 0 p13] X.env) (Str.empty ++ a ++ y) (fun out s₁=>out.length≤sizeLine ∧
        wpAny (model X.prog X.w) X.A (spliced (backTo p15 (starEach [] X.env))) (fun vs s₂=>wpAny (model X.prog X.w) X.A (call (.builtin "str.replace") ([Value.str (puts a b z q x) tj] ++ (Value.str ⟨#[c]⟩ s3.toks :: .str out s₁.toks :: vs)) []) (fun v s₁ =>
         wpAny (model X.prog X.w) X.A (storeName X.env sp v) (fun _ s'=>wpAny (model X.prog X.w) X.A (execs [] X.env) (fun f s₃=>match f with
       | .next | .cont=>∃ m,m < z.cps.size - q∧∃ q' v',m = z.cps.size - q'∧q'≤z.cps.size∧Inv X pins ((σ.set j (some (.str (puts a b z q' x)))).set k v') H s₃∧s₃.heap.IsStrIter h1.objs.size ty z tz q'∧0 < s₃.toks
       | _=>False) (fun _ _=>False) s') (fun _ _=>False) s₁) (fun _ _=>False) s₂) (fun _ _=>False) { s₁ with toks:=s₁.toks + 1 })
       { s3 with heap:=h5,toks:=tk }:=fun tk t' htk=>by
      refine ⟨⟨#[c]⟩,t',rfl,lb,?_⟩
      show wpAny _ _ (eval (.Constant (.str b) 0 p13) X.env) _ _ _
      refine Calls.Constant_str ⟨b,tk,rfl,lc,lc,?_⟩
      refine Calls.spliced_nil ?_
      refine SC.replaceW (x:=puts a b z q x) (y:=⟨#[c]⟩) (z:=Str.empty ++ a ++ ⟨#[c]⟩ ++ b) (u:=s3.toks) (Nat.ne_of_gt tk3) (show tk + 1≠0 by omega) (show s3.toks≠tk + 1 by omega) (hne c) (Nat.le_trans (hlen q hq) (by decide)) (h14 c) fun t2 k2=>?_
      have I6:=I5.tok k2
      refine store_loc (s:={ s3 with heap:=h5,toks:=k2 }) I6 hN hj lj (v:=.str (put1 a b (puts a b z q x) c)) ⟨t2,rfl⟩ fun h7 m7 I7 _ _ _=>?_
      rw [set4 hjk,← puts_succ a b z q x hx'] at I7
      refine wpAny_execs_nil ⟨z.cps.size - (q + 1),by omega,q + 1,_,rfl,hlt,I7.unpinned,?_,Nat.succ_pos _⟩
      have e7:=(I7.pin (h1.objs.size,oi) (List.mem_append_right _ (List.mem_append_right _ (mem_pinsAt (by simp) ei)))).1
      exact ⟨oi,e7,ci,di⟩
     show wpAny _ _ (eval (.Constant (.str a) 0 p10) X.env) _ _ _
     refine Calls.Constant_str ⟨a,_,rfl,la,?_⟩
     show wpAny _ _ (eval (.FormattedValue (.Name mk p11) (-1) none p12) X.env) _ _ _
     refine wpAny_FormattedValue_plain (wpAny_Name (wpAny_loadName_local I5.ok.kind lk hn5 mk5 ?_) d3)
     exact wpAny_formatField_str (tail _ _ (by show s3.toks + 2≤s3.toks + 1 + 1 + 1; omega)) (tail _ _ (by show s3.toks + 2≤s3.toks + 1 + 1 + 1 + 1; omega)) l1
    rcases hty with e | e
    ·subst e
     refine wpAny_pyNext_ascii_item st3 hx' fun h4 st4 sb4=>?_
     refine wpAny_mono (fin h4 st4 sb4) (fun _ s1 w1=>wpAny_mono w1 (fun _ s2 w2=>wpAny_mono w2 (fun f s3' w3=>?_) fun _ _ z=>False.elim z) fun _ _ z=>False.elim z) fun _ _ z=>False.elim z
     cases f with
     | next=>exact w3
     | cont=>exact w3
     | brk=>exact False.elim w3
     | ret v=>exact False.elim w3
    ·subst e
     refine wpAny_pyNext_wide_item st3 hx' fun h4 st4 sb4=>?_
     refine wpAny_mono (fin h4 st4 sb4) (fun _ s1 w1=>wpAny_mono w1 (fun _ s2 w2=>wpAny_mono w2 (fun f s3' w3=>?_) fun _ _ z=>False.elim z) fun _ _ z=>False.elim z) fun _ _ z=>False.elim z
     cases f with
     | next=>exact w3
     | cont=>exact w3
     | brk=>exact False.elim w3
     | ret v=>exact False.elim w3
   ·have hx':z.cps[q]? = none:=Array.getElem?_eq_none hge
    have eq:q = z.cps.size:=by omega
    obtain ⟨f0,f1,f2',f3,f4,f5⟩:=f2
    have fin:∀ h4,Heap.ExtBut h1.objs.size s3.heap h4→wpAny (model X.prog X.w) X.A (execs rest X.env) (SP X pins D) X.xe { s3 with heap:=h4 }:=fun h4 eb=>by
     have I4:=I3.turned (t':=s3.toks) (h':=h4) (fun b o hb e=>eb b o hb e) f0 f1 f3 f4 f5
     rw [eq] at I4
     exact hr pins _ _ H D I4 (hu v)
    rcases hty with z | z
    ·subst z; exact wpAny_pyNext_ascii_end (I3.ok.hd hc) st3 hx' fun h4 eb=>wpAny_execs_nil (fin h4 eb)
    ·subst z; exact wpAny_pyNext_wide_end (I3.ok.hd hc) st3 hx' fun h4 eb=>wpAny_execs_nil (fin h4 eb)
  ·rw [set_own hjk hkN]
   exact I2
 cases ha:z.cps.all (· < 128)
 ·exact wpAny_pyIter_wide ha (main _ (.inr rfl))
 ·exact wpAny_pyIter_ascii ha (main _ (.inl rfl))
end
end L2
end
section
set_option Elab.async false
set_option linter.all false
set_option maxRecDepth 100000
set_option maxHeartbeats 4000000
namespace L2
open PySem PySem.Spec PyProof.Rows
open PySem.Builtin.Str PySem.StrLaws
def flush (cur:List Nat):List (List Nat):=if cur = [] then [] else [cur]
def wd:List Nat→List Nat→List (List Nat)
 | cur,[]=>flush cur
 | cur,c :: l=>if Unicode.isSpace c = true then flush cur ++ wd [] l else wd (cur ++ [c]) l
def subL (L:List Nat) (p:Nat× Nat):List Nat:=(L.drop p.1).take (p.2 - p.1)
def curL (L:List Nat) (st:Option Nat) (i:Nat):List Nat:=match st with
 | some b=>subL L (b,i)
 | none=>[]
theorem flush_ne {a:List Nat} (h:a≠[]):flush a = [a]:=by unfold flush; rw [if_neg h]
theorem subL_snoc {L:List Nat} {b i c:Nat} (h:L[i]? = some c) (hb:b≤i):subL L (b,i) ++ [c] = subL L (b,i + 1):=by
 have e:i + 1 - b = (i - b) + 1:=by omega
 unfold subL
 show List.take (i - b) (L.drop b) ++ [c] = List.take (i + 1 - b) (L.drop b)
 rw [e,List.take_succ,List.getElem?_drop,show b + (i - b) = i by omega,h]
 rfl
theorem subL_ne {L:List Nat} {b i:Nat} (hb:b < i) (hi:i≤L.length):subL L (b,i)≠[]:=by
 intro z
 have:=congrArg List.length z
 unfold subL at this
 simp only [List.length_take,List.length_drop,List.length_nil] at this
 omega
theorem sw_words (x:Str) (lim:Nat) (hl:x.length < lim):∀ (m i:Nat) (w:Array (Nat× Nat)) (st:Option Nat),i + m = x.length→w.size≤i→(∀ b,st = some b→b < i) →
  (swEnd x (forIn (List.range' i m) ((none,w,st):SwSt) (swBody x lim)).run).map (subL x.cps.toList) = w.toList.map (subL x.cps.toList) ++ wd (curL x.cps.toList st i) (x.cps.toList.drop i)
 | 0,i,w,st,hm,hw,hb=>by
  have hn:x.cps.toList.length = x.length:=by simp [Str.length]
  rw [List.drop_eq_nil_of_le (by omega)]
  show List.map _ (swEnd x (none,w,st)) = _
  have e:i = x.length:=by omega
  subst e
  cases st with
  | none=>simp [swEnd,curL,wd,flush]
  | some b =>
   have:=subL_ne (hb b rfl) (Nat.le_of_eq hn.symm)
   simp only [swEnd,curL,wd,Array.toList_push,List.map_append,List.map_cons,List.map_nil]
   rw [flush_ne this]
 | m + 1,i,w,st,hm,hw,hb=>by
  have hn:x.cps.toList.length = x.length:=by simp [Str.length]
  have hi:i < x.cps.toList.length:=by omega
  have hg:x.cps.toList[i]? = some x.cps.toList[i]:=List.getElem?_eq_getElem hi
  have hd:x.cps.getD i 0 = x.cps.toList[i]:=by
   have h2:i < x.cps.size:=by simpa using hi
   rw [Array.getD_eq_getD_getElem?,Array.getElem?_eq_getElem h2]
   simp
  generalize hc:x.cps.toList[i] = c at hg hd
  have dr:x.cps.toList.drop i = c :: x.cps.toList.drop (i + 1):=by rw [List.drop_eq_getElem_cons hi,hc]
  rw [List.range'_succ,List.forIn_cons,dr]
  have hsz:¬ ((w.size == lim) = true):=by rw [beq_iff_eq]; omega
  unfold swBody
  simp only [hsz,if_false,hd]
  cases hs:Unicode.isSpace c with
  | true =>
   cases st with
   | none =>
    refine (sw_words x lim hl m (i + 1) w none (by omega) (by omega) (fun b z=>by cases z)).trans ?_
    simp only [curL,wd,hs,if_true]
    simp [flush]
   | some b =>
    refine (sw_words x lim hl m (i + 1) (w.push (b,i)) none (by omega) (by rw [Array.size_push]; omega) (fun b z=>by cases z)).trans ?_
    have hne:=subL_ne (hb b rfl) (Nat.le_of_lt hi)
    simp only [curL,wd,hs,if_true,Array.toList_push,List.map_append,List.map_cons,List.map_nil]
    rw [flush_ne hne,List.append_assoc]
  | false =>
   cases st with
   | none =>
    refine (sw_words x lim hl m (i + 1) w (some i) (by omega) (by omega) (fun b z=>by cases z; omega)).trans ?_
    simp only [curL,wd,hs,Bool.false_eq_true,if_false]
    rw [← subL_snoc hg (Nat.le_refl i)]
    simp [subL]
   | some b =>
    refine (sw_words x lim hl m (i + 1) w (some b) (by omega) (by omega) (fun b' z=>by cases z; have:=hb b rfl; omega)).trans ?_
    simp only [curL,wd,hs,Bool.false_eq_true,if_false]
    rw [subL_snoc hg (Nat.le_of_lt (hb b rfl))]
theorem toList_sub (x:Str) (p:Nat× Nat):(strSub x p.1 p.2).cps.toList = subL x.cps.toList p:=by
 unfold strSub subL
 rw [Array.toList_extract,List.extract_eq_take_drop]
theorem words_are (x:Str):(Txt.words x).map (fun y=>y.cps.toList) = wd [] x.cps.toList:=by
 have k:=sw_words x (x.length + 1) (Nat.lt_succ_self _) x.length 0 #[] none (by omega) (by simp) (fun b z=>by cases z)
 rw [← sw_eq] at k
 have k2:(spaceWords x (x.length + 1)).map (subL x.cps.toList) = wd [] x.cps.toList:=by
  rw [k]
  simp [curL]
 unfold Txt.words
 split
 ·rename_i h
  rw [← k2,eq_of_beq h]
  simp [subL,Str.length]
  exact (List.take_of_length_le (by simp)).symm
 ·rw [← k2]
  unfold wordsOf
  rw [List.map_map]
  refine List.map_congr_left fun p _=>?_
  exact toList_sub x p
def posL (c:Nat):List Nat→List Nat
 | []=>[]
 | d :: l=>(if d = c then [0] else []) ++ (posL c l).map (· + 1)
def splL (c:Nat):List Nat→List Nat× List (List Nat)
 | []=>([],[])
 | d :: l=>if d = c then ([],(splL c l).1 :: (splL c l).2) else (d :: (splL c l).1,(splL c l).2)
def partsL (L cuts:List Nat):List (List Nat):=((0 :: cuts.map (· + 1)).zip (cuts ++ [L.length])).map (subL L)
def repL (c:Nat) (z L:List Nat):List Nat:=L.flatMap fun d=>if d = c then z else [d]
theorem subAt_one (x:Str) (c i:Nat) (hi:i < x.cps.toList.length):subAt x ⟨#[c]⟩ i = true↔x.cps.toList[i] = c:=by
 have h2:i < x.cps.size:=by simpa using hi
 unfold subAt
 rw [beq_iff_eq]
 show x.cps.extract i (i + 1) = #[c]↔_
 rw [← Array.toList_inj,Array.toList_extract,List.extract_eq_take_drop,Nat.add_sub_cancel_left,List.drop_eq_getElem_cons hi]
 simp
theorem occ_one (x:Str) (c lim:Nat) (hl:x.length < lim):∀ (m i:Nat) (w:Array Nat) (fr:Nat),i + m = x.length + 1→w.size≤i→fr≤i →
  (forIn (List.range' i m) (w,fr) (occBody x ⟨#[c]⟩ x.length lim)).run.fst.toList = w.toList ++ (posL c (x.cps.toList.drop i)).map (· + i)
 | 0,i,w,fr,hm,hw,hf=>by
  have hn:x.cps.toList.length = x.length:=by simp [Str.length]
  rw [List.drop_eq_nil_of_le (by omega)]
  show w.toList = _
  simp [posL]
 | m + 1,i,w,fr,hm,hw,hf=>by
  have hn:x.cps.toList.length = x.length:=by simp [Str.length]
  rw [List.range'_succ,List.forIn_cons]
  have sh:∀ l:List Nat,(l.map (· + 1)).map (· + i) = l.map (· + (i + 1)):=fun l=>by
   rw [List.map_map]
   refine List.map_congr_left fun q _=>?_
   show q + 1 + i = q + (i + 1)
   omega
  rcases Nat.lt_or_ge i x.length with hlt | hge
  ·have hi:i < x.cps.toList.length:=by omega
   rw [List.drop_eq_getElem_cons hi]
   unfold occBody
   by_cases hc:x.cps.toList[i] = c
   ·have c1:((w,fr).fst.size < lim∧(w,fr).snd≤i)∧i + Str.length ⟨#[c]⟩≤x.length:=⟨⟨by show w.size < lim; omega,hf⟩,by show i + 1≤x.length; omega⟩
    rw [if_pos ⟨c1,(subAt_one x c i hi).mpr hc⟩]
    refine (occ_one x c lim hl m (i + 1) (w.push i) (i + 1) (by omega) (by rw [Array.size_push]; omega) (Nat.le_refl _)).trans ?_
    simp only [posL,hc,if_true,Array.toList_push,List.map_append,List.map_cons,List.map_nil,sh]
    rw [Nat.zero_add,List.append_assoc]
   ·have c2:¬ ((((w,fr).fst.size < lim∧(w,fr).snd≤i)∧i + Str.length ⟨#[c]⟩≤x.length)∧subAt x ⟨#[c]⟩ i = true):=fun h=>hc ((subAt_one x c i hi).mp h.2)
    rw [if_neg c2]
    refine (occ_one x c lim hl m (i + 1) w fr (by omega) (by omega) (by omega)).trans ?_
    simp only [posL,hc,if_false,List.map_append,List.map_nil,List.nil_append,sh]
  ·have c2:¬ ((((w,fr).fst.size < lim∧(w,fr).snd≤i)∧i + Str.length ⟨#[c]⟩≤x.length)∧subAt x ⟨#[c]⟩ i = true):=fun h=>by
    have h1:i + 1≤x.length:=h.1.2
    omega
   unfold occBody
   rw [if_neg c2]
   refine (occ_one x c lim hl m (i + 1) w fr (by omega) (by omega) (by omega)).trans ?_
   rw [List.drop_eq_nil_of_le (by omega),List.drop_eq_nil_of_le (by omega)]
   simp [posL]
theorem occ_is (x:Str) (c:Nat):occurrences x ⟨#[c]⟩ 0 x.length (x.length + 1) = posL c x.cps.toList:=by
 rw [occ_eq]
 refine (occ_one x c (x.length + 1) (Nat.lt_succ_self _) (x.length + 1 - 0) 0 #[] 0 (by omega) (by simp) (Nat.le_refl 0)).trans ?_
 simp
theorem subL_succ (d:Nat) (l:List Nat) (p:Nat× Nat):subL (d :: l) (p.1 + 1,p.2 + 1) = subL l p:=by
 unfold subL
 show List.take (p.2 + 1 - (p.1 + 1)) (List.drop (p.1 + 1) (d :: l)) = _
 rw [List.drop_succ_cons,Nat.add_sub_add_right]
theorem parts_spl (c:Nat):∀ L:List Nat,partsL L (posL c L) = (splL c L).1 :: (splL c L).2
 | []=>rfl
 | d :: l=>by
  have ih:=parts_spl c l
  unfold partsL at ih
  by_cases hc:d = c
  ·have e1:posL c (d :: l) = 0 :: (posL c l).map (· + 1):=by simp [posL,hc]
   have e2:splL c (d :: l) = ([],(splL c l).1 :: (splL c l).2):=by simp [splL,hc]
   rw [e1,e2,← ih]
   unfold partsL
   have ez:((0:Nat) :: List.map (· + 1) (0 :: (posL c l).map (· + 1))).zip (0 :: (posL c l).map (· + 1) ++ [(d :: l).length]) = (0,0) :: ((0 :: (posL c l).map (· + 1)).zip (posL c l ++ [l.length])).map (fun p=>(p.1 + 1,p.2 + 1)):=by
    rw [List.map_cons,List.cons_append,List.zip_cons_cons]
    have:(posL c l).map (· + 1) ++ [(d :: l).length] = (posL c l ++ [l.length]).map (· + 1):=by simp
    rw [this,← List.map_cons (f:=(· + 1)) (a:=0),List.zip_map]
    rfl
   rw [ez,List.map_cons,List.map_map]
   congr 1
   refine List.map_congr_left fun p _=>?_
   exact subL_succ d l p
  ·have e1:posL c (d :: l) = (posL c l).map (· + 1):=by simp [posL,hc]
   have e2:splL c (d :: l) = (d :: (splL c l).1,(splL c l).2):=by simp [splL,hc]
   rw [e1,e2]
   unfold partsL
   have es:(posL c l).map (· + 1) ++ [(d :: l).length] = (posL c l ++ [l.length]).map (· + 1):=by simp
   rw [es]
   generalize hS:posL c l ++ [l.length] = S at ih
   cases S with
   | nil=>simp at hS
   | cons s0 S =>
    rw [List.zip_cons_cons,List.map_cons] at ih
    rw [List.map_cons,List.zip_cons_cons,List.map_cons,List.zip_map,List.map_map]
    injection ih with i1 i2
    have h1:subL (d :: l) (0,s0 + 1) = d :: (splL c l).1:=by
     rw [← i1]
     rfl
    show subL (d :: l) (0,s0 + 1) :: _ = (d :: (splL c l).1) :: (splL c l).2
    rw [h1,← i2]
    congr 1
    refine List.map_congr_left fun p _=>?_
    exact subL_succ d l p
theorem spl_rep (c:Nat) (z:List Nat):∀ L:List Nat,(splL c L).1 ++ (splL c L).2.flatMap (fun q=>z ++ q) = repL c z L
 | []=>rfl
 | d :: l=>by
  have ih:=spl_rep c z l
  by_cases hc:d = c
  ·have e2:splL c (d :: l) = ([],(splL c l).1 :: (splL c l).2):=by simp [splL,hc]
   rw [e2]
   show (z ++ (splL c l).1) ++ List.flatMap (fun q=>z ++ q) (splL c l).2 = repL c z (d :: l)
   rw [List.append_assoc,ih]
   simp [repL,hc]
  ·have e2:splL c (d :: l) = (d :: (splL c l).1,(splL c l).2):=by simp [splL,hc]
   rw [e2]
   show d :: ((splL c l).1 ++ List.flatMap (fun q=>z ++ q) (splL c l).2) = repL c z (d :: l)
   rw [ih]
   simp [repL,hc]
theorem glue_list (z:Str):∀ (r:List Str) (a:Array Nat),(r.foldl (fun acc p=>acc ++ z.cps ++ p.cps) a).toList = a.toList ++ (r.map fun y=>y.cps.toList).flatMap (fun q=>z.cps.toList ++ q)
 | [],a=>by simp
 | p :: r,a=>by
  rw [List.foldl_cons,glue_list z r]
  simp [List.append_assoc]
theorem replace_is (x z:Str) (c:Nat):(Txt.replace x ⟨#[c]⟩ z).cps.toList = repL c z.cps.toList x.cps.toList:=by
 have hn:x.cps.toList.length = x.length:=by simp [Str.length]
 have hp:(partsBetween x (posL c x.cps.toList) (Str.length ⟨#[c]⟩)).map (fun y=>y.cps.toList) = (splL c x.cps.toList).1 :: (splL c x.cps.toList).2:=by
  rw [← parts_spl]
  unfold partsBetween partsL
  rw [List.map_map,hn]
  refine List.map_congr_left fun p _=>?_
  exact toList_sub x p
 have hg:(glued z (partsBetween x (posL c x.cps.toList) (Str.length ⟨#[c]⟩))).cps.toList = repL c z.cps.toList x.cps.toList:=by
  rw [← spl_rep]
  generalize partsBetween x (posL c x.cps.toList) (Str.length ⟨#[c]⟩) = ps at hp
  cases ps with
  | nil=>simp at hp
  | cons p r =>
   rw [List.map_cons] at hp
   injection hp with h1 h2
   unfold glued
   show (List.foldl (fun acc p=>acc ++ z.cps ++ p.cps) p.cps r).toList = _
   rw [glue_list,h1,h2]
 unfold Txt.replace
 rw [occ_is]
 split
 ·rename_i h
  have h':posL c x.cps.toList = []:=by
   rcases Bool.or_eq_true_iff.mp h with h | h
   ·exact List.isEmpty_iff.mp h
   ·have:(Str.length ⟨#[c]⟩ == 0) = true:=(Bool.and_eq_true_iff.mp h).1
    exact absurd this (by show ¬ ((1:Nat) == 0) = true; decide)
  rw [← spl_rep]
  have k:=parts_spl c x.cps.toList
  rw [h'] at k
  unfold partsL at k
  simp only [List.map_nil,List.nil_append,List.zip_cons_cons,List.zip_nil_left,List.map_cons] at k
  injection k with k1 k2
  rw [← k1,← k2]
  simp [subL]
  exact (List.take_of_length_le (by simp)).symm
 ·exact hg
def isM (c:Nat):Bool:=c == 123 || c == 125 || c == 59 || c == 124
def tok:List Nat→List Nat→List (List Nat)
 | cur,[]=>flush cur
 | cur,c :: l=>if Unicode.isSpace c = true then flush cur ++ tok [] l else if isM c = true then flush cur ++ [c] :: tok [] l else tok (cur ++ [c]) l
def apartL (L:List Nat):List Nat:=L.flatMap fun d=>if isM d = true then [32,d,32] else [d]
theorem sp32:Unicode.isSpace 32 = true:=by decide +kernel
theorem spM {c:Nat} (h:isM c = true):Unicode.isSpace c = false:=by
 unfold isM at h
 simp only [Bool.or_eq_true,beq_iff_eq] at h
 rcases h with ((h | h) | h) | h <;> (subst h; decide +kernel)
theorem wd_apart:∀ (L cur:List Nat),wd cur (apartL L) = tok cur L
 | [],cur=>rfl
 | c :: l,cur=>by
  have ih:=wd_apart l
  have e:apartL (c :: l) = (if isM c = true then [32,c,32] else [c]) ++ apartL l:=by simp [apartL]
  rw [e]
  by_cases hm:isM c = true
  ·have hs:=spM hm
   have hf:flush ([]:List Nat) = []:=rfl
   have hf1:flush [c] = [[c]]:=rfl
   simp only [hm,if_true,List.cons_append,List.nil_append,wd,tok,sp32,hs,Bool.false_eq_true,if_false,hf1,ih]
  ·have hm':isM c = false:=by simpa using hm
   simp only [hm',Bool.false_eq_true,if_false,List.cons_append,List.nil_append,wd,tok,ih]
theorem puts_marks (x:Str):(puts " " " " "{};|" 4 x).cps.toList = apartL x.cps.toList:=by
 have hz:(("{};|" : Str)).cps.toList.take 4 = [123,125,59,124]:=by decide +kernel
 have hp:∀ c:Nat,(Str.empty ++ (" " : Str) ++ (⟨#[c]⟩:Str) ++ (" " : Str)).cps.toList = [32,c,32]:=fun c=>by
  show ((Str.empty ++ (" " : Str)).cps ++ #[c] ++ ((" " : Str)).cps).toList = [32,c,32]
  have h1:(Str.empty ++ (" " : Str)).cps = #[32]:=by decide +kernel
  have h2:((" " : Str)).cps = #[32]:=by decide +kernel
  rw [h1,h2]
  simp
 unfold puts
 rw [hz]
 simp only [List.foldl_cons,List.foldl_nil]
 unfold put1
 simp only [replace_is,hp]
 unfold repL apartL
 simp only [List.flatMap_assoc]
 congr 1
 funext d
 unfold isM
 by_cases h1:d = 123
 ·subst h1; decide +kernel
 by_cases h2:d = 125
 ·subst h2; decide +kernel
 by_cases h3:d = 59
 ·subst h3; decide +kernel
 by_cases h4:d = 124
 ·subst h4; decide +kernel
 simp [h1,h2,h3,h4]
theorem words_marks (x:Str):(Txt.words (puts " " " " "{};|" 4 x)).map (fun y=>y.cps.toList) = tok [] x.cps.toList:=by
 rw [words_are,puts_marks,wd_apart]
theorem for_str {x:Str} {g:TG} {tb:TS} {D:Ends} {σ:St} {H:Hp} (Pv:Nat→St→Hp→Prop) (h0:Pv 0 σ H)
  (hs:∀ i c σ H,x.cps[i]? = some c→Pv i σ H→g (.str ⟨#[c]⟩) σ H fun σ2 H2=>tb { D with nx:=Pv (i + 1),ct:=Pv (i + 1),bk:=D.nx } σ2 H2) (hd:∀ σ H,Pv x.cps.size σ H→D.nx σ H) :
  ∃ W:Nat→Nat→St→Hp→Prop,(∃ m,W 0 m σ H)∧∀ i m σ H,W i m σ H →
   ((Its x).stop i H∧D.nx σ H)∨((Its x).go i H∧∃ N:St→Hp→Prop,(∀ σ' H',N σ' H'→∃ m',m' < m∧W (i + 1) m' σ' H')∧∀ y H',(Its x).yld i H y H'→g y σ H' fun σ2 H2=>tb { D with nx:=N,ct:=N,bk:=D.nx } σ2 H2):=by
 refine ⟨fun i m σ H=>m = x.cps.size - i∧i≤x.cps.size∧Pv i σ H,⟨x.cps.size,by simp,Nat.zero_le _,h0⟩,?_⟩
 rintro i m σ H ⟨rfl,hi,p⟩
 by_cases hlt:i < x.cps.size
 ·refine .inr ⟨hlt,Pv (i + 1),fun σ' H' p'=>⟨x.cps.size - (i + 1),by omega,rfl,hlt,p'⟩,fun y H' z=>?_⟩
  obtain ⟨e,c,hc,ey⟩:=z
  subst e ey
  exact hs i c σ H' hc p
 ·have e:i = x.cps.size:=by omega
  subst e
  exact .inl ⟨Nat.le_refl _,hd σ H p⟩
def inS (j:Str) (c:Nat):Bool:=!(occurrences j ⟨#[c]⟩ 0 j.length 1).isEmpty
theorem inS_is (j:Str) (c:Nat):inS j c = j.cps.toList.contains c:=by
 have hn:j.cps.toList.length = j.length:=by simp [Str.length]
 have k:=occ_none j ⟨#[c]⟩ j.length (List.range' 0 (j.length + 1 - 0)) 0 (fun i _=>Nat.zero_le _)
 have e:(occurrences j ⟨#[c]⟩ 0 j.length 1).isEmpty = true↔¬ c∈j.cps.toList:=by
  rw [occ_eq,List.isEmpty_iff]
  have z:((forIn (List.range' 0 (j.length + 1 - 0)) ((#[]:Array Nat),0) (occBody j ⟨#[c]⟩ j.length 1)).run.fst.toList = [])↔(forIn (List.range' 0 (j.length + 1 - 0)) ((#[]:Array Nat),0) (occBody j ⟨#[c]⟩ j.length 1)).run.fst = #[]:=by
   constructor
   ·intro h; exact Array.toList_inj.mp h
   ·intro h; rw [h]
  refine z.trans (k.trans ?_)
  constructor
  ·intro h hc
   obtain ⟨i,hi,ei⟩:=List.mem_iff_getElem.mp hc
   refine h i ?_ ⟨?_,(subAt_one j c i hi).mpr ei⟩
   ·rw [List.mem_range'_1]; omega
   ·show i + 1≤j.length; omega
  ·intro h i _ ⟨h1,h2⟩
   have hi:i < j.cps.toList.length:=by
    have h1':i + 1≤j.length:=h1
    omega
   have ei:=(subAt_one j c i hi).mp h2
   exact h (ei ▸ List.getElem_mem hi)
 unfold inS
 cases h1:(occurrences j ⟨#[c]⟩ 0 j.length 1).isEmpty with
 | true =>
  have:=e.mp h1
  simp [this]
 | false =>
  have:c∈j.cps.toList:=by
   by_cases h2:c∈j.cps.toList
   ·exact h2
   ·have:=e.mpr h2
    rw [h1] at this
    cases this
  simp [this]
theorem len_put (x:Str) (c:Nat):(put1 " " " " x c).length≤3 * x.length:=by
 have hz:(Str.empty ++ (" " : Str) ++ (⟨#[c]⟩:Str) ++ (" " : Str)).cps.toList.length = 3:=by
  have h1:(Str.empty ++ (" " : Str)).cps = #[32]:=by decide +kernel
  have h2:((" " : Str)).cps = #[32]:=by decide +kernel
  show ((Str.empty ++ (" " : Str)).cps ++ #[c] ++ ((" " : Str)).cps).toList.length = 3
  rw [h1,h2]
  simp
 have k:=congrArg List.length (replace_is x (Str.empty ++ (" " : Str) ++ (⟨#[c]⟩:Str) ++ (" " : Str)) c)
 have m:∀ (z L:List Nat),z.length = 3→(repL c z L).length≤3 * L.length:=by
  intro z L hz
  induction L with
  | nil=>simp [repL]
  | cons d l ih =>
   have e:repL c z (d :: l) = (if d = c then z else [d]) ++ repL c z l:=by simp [repL]
   rw [e,List.length_append,List.length_cons]
   split
   ·omega
   ·rw [List.length_singleton]; omega
 have m':=m _ x.cps.toList hz
 unfold put1
 show (Txt.replace x _ _).cps.size≤3 * x.cps.size
 rw [← Array.length_toList,← Array.length_toList,k]
 exact m'
theorem len_puts (x:Str) (z:Str):∀ n,(puts " " " " z n x).length≤3 ^ n * x.length:=by
 unfold puts
 have m:∀ (l:List Nat) (n:Nat) (x:Str),l.length≤n→(l.foldl (put1 " " " ") x).length≤3 ^ n * x.length:=by
  intro l
  induction l with
  | nil =>
   intro n x _
   exact Nat.le_mul_of_pos_left _ (Nat.pow_pos (by decide))
  | cons c l ih =>
   intro n x hn
   cases n with
   | zero=>simp at hn
   | succ n =>
    rw [List.foldl_cons]
    refine Nat.le_trans (ih n _ (by simpa using hn)) ?_
    have:=len_put x c
    rw [Nat.pow_succ,Nat.mul_assoc]
    exact Nat.mul_le_mul_left _ this
 intro n
 exact m _ n x (List.length_take_le _ _)
theorem apart_ne (c:Nat):((⟨#[c]⟩:Str) == Str.empty ++ (" " : Str) ++ (⟨#[c]⟩:Str) ++ (" " : Str)) = false:=by
 cases h:((⟨#[c]⟩:Str) == Str.empty ++ (" " : Str) ++ (⟨#[c]⟩:Str) ++ (" " : Str)) with
 | false=>rfl
 | true =>
  have e:=congrArg (fun y:Str=>y.cps.toList.length) (eq_of_beq h)
  have h1:(Str.empty ++ (" " : Str)).cps = #[32]:=by decide +kernel
  have h2:((" " : Str)).cps = #[32]:=by decide +kernel
  have e2:(1:Nat) = ((Str.empty ++ (" " : Str)).cps ++ #[c] ++ ((" " : Str)).cps).toList.length:=e
  rw [h1,h2] at e2
  simp at e2
theorem apart_14 (c:Nat):(Str.empty ++ (" " : Str) ++ (⟨#[c]⟩:Str) ++ (" " : Str)).length≤14:=by
 have h1:(Str.empty ++ (" " : Str)).cps = #[32]:=by decide +kernel
 have h2:((" " : Str)).cps = #[32]:=by decide +kernel
 show ((Str.empty ++ (" " : Str)).cps ++ #[c] ++ ((" " : Str)).cps).size≤14
 rw [h1,h2]
 simp
end L2
end
section
set_option Elab.async false
set_option linter.all false
set_option maxRecDepth 100000
set_option maxHeartbeats 4000000
namespace L2
open PySem PySem.Spec PyProof.Rows
def MethX (P:Program) (w:World) (K:PySem.W.Frag) (mg:Str→Option Value) (base:Heap) (k:Nat) (C:Addr) (m:Str) (ps:List Str) (sp:Sp):Prop :=
 ∃ f fd,FnOk P w K mg base (CX1 P w) k f fd ps sp∧Binds K fd ps []∧Meth K C m f∧Cls K C
theorem Fun.okX {P:Program} {w:World} {K:PySem.W.Frag} {mg:Str→Option Value} {base:Heap} {x qual:Str} {st:Stmt} {f:Addr} {fd:FuncData} {N ps:List Str} {k:Nat} {sp:Sp} (F:Fun K x qual st f fd) (S:FnScope N ps (defScope st)) (len:∀ vs H Q E,sp vs H Q E→vs.length = ps.length)
  (hbody:∀ (cdv:Value) (A:Around) (outer:List Env) (s:Shared) (H:Hp) (vs:List V) (Q:VK) (E:XK),Room k (A.deeper (envOfC qual (defScope st) s.heap.objs.size f cdv))→sp vs H Q E →
   ∃ t,PSs (cxX P w K mg base N qual (defScope st) f cdv A outer s H E) (defBody st) t∧t { nx:=fun _ H'=>Q .non H',rt:=Q } (start N vs) H):FnOk P w K mg base (CX1 P w) (k + 1) f fd ps sp:=by
 obtain ⟨oc,od,kV,doc,pm,an,cdv,ct,osl,rfl,lk,hcd⟩:=F.ex
 exact fn_of lk hcd S len fun A outer s H vs Q E hr hsp=>hbody cdv A outer s H vs Q E hr hsp
section
variable {P:Program} {w:World} {K:PySem.W.Frag} {mg:Str→Option Value} {base:Heap} {N:List Str} {qual:Str} {scope:Scope} {f:Addr} {cd:Value} {A:Around} {outer:List Env} {s₀:Shared} {H₀:Hp} {E:XK}
theorem pe_methX0 {o:Expr} {m:Str} {apos pos:Pos} {k j:Nat} {ps:List Str} {sp:Sp} {C:Addr} {ta:TE} {pl:Sem Bool} (M:MethX P w K mg base j C m ps sp) (hr:Room k (cxX P w K mg base N qual scope f cd A outer s₀ H₀ E).A) (he:PE (cxX P w K mg base N qual scope f cd A outer s₀ H₀ E) o ta) (hj:j≤k:=by first | decide | omega)
  (ht:eval (.Call (.Attribute o m apos) [] [] pos) (cxX P w K mg base N qual scope f cd A outer s₀ H₀ E).env = (do
   let ov ← eval o (cxX P w K mg base N qual scope f cd A outer s₀ H₀ E).env
   standAt apos.atName
   let (f',first) ← holding [ov] (getMethod ov m pl)
   callWith pos f' first (backTo pos (starEach [] (cxX P w K mg base N qual scope f cd A outer s₀ H₀ E).env)) (backToKw pos (keywordEach [] (cxX P w K mg base N qual scope f cd A outer s₀ H₀ E).env))):=by rfl):PE (cxX P w K mg base N qual scope f cd A outer s₀ H₀ E) (.Call (.Attribute o m apos) [] [] pos) (tMeth C m sp [] E ta tNil):=by
 obtain ⟨f,fd,F,b,me,c⟩:=M
 exact pe_meth0 he c me (F.mono hj) hr b .nil passX ht
theorem pe_methX {o e:Expr} {es:List Expr} {m:Str} {apos pos:Pos} {k j:Nat} {ps:List Str} {sp:Sp} {C:Addr} {ta:TE} {t:TA} {pl:Sem Bool} (M:MethX P w K mg base j C m ps sp) (hr:Room k (cxX P w K mg base N qual scope f cd A outer s₀ H₀ E).A) (he:PE (cxX P w K mg base N qual scope f cd A outer s₀ H₀ E) o ta) (ha:PA (cxX P w K mg base N qual scope f cd A outer s₀ H₀ E) (e :: es) t) (hj:j≤k:=by first | decide | omega)
  (hst:starEach (e :: es) (cxX P w K mg base N qual scope f cd A outer s₀ H₀ E).env = (false,eval e (cxX P w K mg base N qual scope f cd A outer s₀ H₀ E).env) :: starEach es (cxX P w K mg base N qual scope f cd A outer s₀ H₀ E).env:=by rfl) (hpl:(backTo pos (starEach es (cxX P w K mg base N qual scope f cd A outer s₀ H₀ E).env)).any (·.1) = false:=by rfl)
  (ht:eval (.Call (.Attribute o m apos) (e :: es) [] pos) (cxX P w K mg base N qual scope f cd A outer s₀ H₀ E).env = (do
   let ov ← eval o (cxX P w K mg base N qual scope f cd A outer s₀ H₀ E).env
   standAt apos.atName
   let (f',first) ← holding [ov] (getMethod ov m pl)
   callWith pos f' first (backTo pos (starEach (e :: es) (cxX P w K mg base N qual scope f cd A outer s₀ H₀ E).env)) (backToKw pos (keywordEach [] (cxX P w K mg base N qual scope f cd A outer s₀ H₀ E).env))):=by rfl):PE (cxX P w K mg base N qual scope f cd A outer s₀ H₀ E) (.Call (.Attribute o m apos) (e :: es) [] pos) (tMeth C m sp [] E ta t):=by
 obtain ⟨f,fd,F,b,me,c⟩:=M
 exact pe_meth he c me (F.mono hj) hr b .nil passX ha hst hpl ht
end
end L2
end
section
set_option Elab.async false
set_option linter.all false
set_option maxRecDepth 100000
set_option maxHeartbeats 4000000
namespace My
open PySem L2
def top (i:Nat):Stmt:=PySem.Challenge.pw_signalwise_k04_refused_texts.main.body.getD i (.Pass ⟨0,0,0,0⟩)
abbrev s_inner_parts:Stmt:=top 6
theorem sc_inner_parts:FnScope ["part"] ["part"] (defScope s_inner_parts):=⟨rfl,rfl,rfl,by decide +kernel,rfl,by decide +kernel,by decide +kernel⟩
abbrev s_every_part:Stmt:=top 7
theorem sc_every_part:FnScope ["part", "found", "waiting", "here"] ["part"] (defScope s_every_part):=⟨rfl,rfl,rfl,by decide +kernel,rfl,by decide +kernel,by decide +kernel⟩
abbrev s_check_once:Stmt:=top 10
theorem sc_check_once:FnScope ["names"] ["names"] (defScope s_check_once):=⟨rfl,rfl,rfl,by decide +kernel,rfl,by decide +kernel,by decide +kernel⟩
abbrev s_check_there:Stmt:=top 11
theorem sc_check_there:FnScope ["part", "signs", "traps", "inner_signs", "inner_traps", "inner"] ["part", "signs", "traps"] (defScope s_check_there):=⟨rfl,rfl,rfl,by decide +kernel,rfl,by decide +kernel,by decide +kernel⟩
abbrev s_check_among:Stmt:=top 12
theorem sc_check_among:FnScope ["name", "names"] ["name", "names"] (defScope s_check_among):=⟨rfl,rfl,rfl,by decide +kernel,rfl,by decide +kernel,by decide +kernel⟩
abbrev s_parts:Stmt:=top 14
theorem sc_parts:FnScope ["block"] ["block"] (defScope s_parts):=⟨rfl,rfl,rfl,by decide +kernel,rfl,by decide +kernel,by decide +kernel⟩
abbrev s_words_of:Stmt:=top 21
theorem sc_words_of:FnScope ["text", "sign", "spaced", "mark"] ["text"] (defScope s_words_of):=⟨rfl,rfl,rfl,by decide +kernel,rfl,by decide +kernel,by decide +kernel⟩
abbrev s_is_name:Stmt:=top 22
theorem sc_is_name:FnScope ["word"] ["word"] (defScope s_is_name):=⟨rfl,rfl,rfl,by decide +kernel,rfl,by decide +kernel,by decide +kernel⟩
abbrev s_most_open:Stmt:=top 23
theorem sc_most_open:FnScope ["words", "most", "now", "word"] ["words"] (defScope s_most_open):=⟨rfl,rfl,rfl,by decide +kernel,rfl,by decide +kernel,by decide +kernel⟩
abbrev s_read:Stmt:=top 32
theorem sc_read:FnScope ["text", "named"] ["text"] (defScope s_read):=⟨rfl,rfl,rfl,by decide +kernel,rfl,by decide +kernel,by decide +kernel⟩
abbrev s_read_program:Stmt:=top 33
theorem sc_read_program:FnScope ["text", "found", "words", "ins", "outs", "block"] ["text"] (defScope s_read_program):=⟨rfl,rfl,rfl,by decide +kernel,rfl,by decide +kernel,by decide +kernel⟩
abbrev s_read_block:Stmt:=top 34
theorem sc_read_block:FnScope ["words", "block"] ["words"] (defScope s_read_block):=⟨rfl,rfl,rfl,by decide +kernel,rfl,by decide +kernel,by decide +kernel⟩
abbrev s_read_row:Stmt:=top 35
theorem sc_read_row:FnScope ["words", "row"] ["words"] (defScope s_read_row):=⟨rfl,rfl,rfl,by decide +kernel,rfl,by decide +kernel,by decide +kernel⟩
abbrev s_read_braced:Stmt:=top 36
theorem sc_read_braced:FnScope ["words", "block"] ["words"] (defScope s_read_braced):=⟨rfl,rfl,rfl,by decide +kernel,rfl,by decide +kernel,by decide +kernel⟩
abbrev s_read_part:Stmt:=top 37
theorem sc_read_part:FnScope ["words", "word", "name"] ["words"] (defScope s_read_part):=⟨rfl,rfl,rfl,by decide +kernel,rfl,by decide +kernel,by decide +kernel⟩
abbrev s_read_if:Stmt:=top 38
theorem sc_read_if:FnScope ["words", "name", "chosen"] ["words"] (defScope s_read_if):=⟨rfl,rfl,rfl,by decide +kernel,rfl,by decide +kernel,by decide +kernel⟩
abbrev s__law_mixed:Stmt:=top 40
theorem sc__law_mixed:FnScope ["_law_cell"] ["_law_cell"] (defScope s__law_mixed):=⟨rfl,rfl,rfl,by decide +kernel,rfl,by decide +kernel,by decide +kernel⟩
abbrev s__law_cell_at:Stmt:=top 41
theorem sc__law_cell_at:FnScope ["_law_script", "_law_k"] ["_law_script", "_law_k"] (defScope s__law_cell_at):=⟨rfl,rfl,rfl,by decide +kernel,rfl,by decide +kernel,by decide +kernel⟩
abbrev s__law_row:Stmt:=top 42
theorem sc__law_row:FnScope ["_law_number", "_law_name", "_law_kind"] ["_law_number"] (defScope s__law_row):=⟨rfl,rfl,rfl,by decide +kernel,rfl,by decide +kernel,by decide +kernel⟩
abbrev s__law_words:Stmt:=top 43
theorem sc__law_words:FnScope ["_law_script", "_law_words_here", "_law_k", "_law_cell", "_law_number"] ["_law_script"] (defScope s__law_words):=⟨rfl,rfl,rfl,by decide +kernel,rfl,by decide +kernel,by decide +kernel⟩
abbrev s__law_joined:Stmt:=top 44
theorem sc__law_joined:FnScope ["_law_words_here"] ["_law_words_here"] (defScope s__law_joined):=⟨rfl,rfl,rfl,by decide +kernel,rfl,by decide +kernel,by decide +kernel⟩
abbrev s__law_places:Stmt:=top 45
theorem sc__law_places:FnScope ["_law_words_here", "_law_wanted"] ["_law_words_here", "_law_wanted"] (defScope s__law_places):=⟨rfl,rfl,rfl,by decide +kernel,rfl,by decide +kernel,by decide +kernel⟩
abbrev s__law_spoilt:Stmt:=top 46
theorem sc__law_spoilt:FnScope ["_law_words_here", "_law_way", "_law_number", "_law_text", "_law_odd_here", "_law_at", "_law_places_here", "_law_new"] ["_law_words_here", "_law_way", "_law_number"] (defScope s__law_spoilt):=⟨rfl,rfl,rfl,by decide +kernel,rfl,by decide +kernel,by decide +kernel⟩
abbrev s__law_odd:Stmt:=top 47
theorem sc__law_odd:FnScope ["_law_number", "_law_some"] ["_law_number"] (defScope s__law_odd):=⟨rfl,rfl,rfl,by decide +kernel,rfl,by decide +kernel,by decide +kernel⟩
abbrev s__law_bound:Stmt:=top 48
theorem sc__law_bound:FnScope ["_law_number", "_law_more", "_law_way", "_law_text", "_law_head", "_law_mark"] ["_law_number"] (defScope s__law_bound):=⟨rfl,rfl,rfl,by decide +kernel,rfl,by decide +kernel,by decide +kernel⟩
abbrev s__law_asked:Stmt:=top 49
theorem sc__law_asked:FnScope ["_law_text", "_law_wide", "_law_word", "_law_found", "e"] ["_law_text", "_law_wide"] (defScope s__law_asked):=⟨rfl,rfl,rfl,by decide +kernel,rfl,by decide +kernel,by decide +kernel⟩
abbrev s_law:Stmt:=top 50
theorem sc_law:FnScope ["_law_script", "_law_first", "_law_number", "_law_words_here", "_law_wide", "_law_way", "_law_text", "_law_word", "_law_found"] ["_law_script"] (defScope s_law):=⟨rfl,rfl,rfl,by decide +kernel,rfl,by decide +kernel,by decide +kernel⟩
abbrev s_Words:Stmt:=top 24
structure Txt (mg:Str→Option Value):Prop where
 n_ValueError:mg "ValueError" = none
 n_enumerate:mg "enumerate" = none
 n_int:mg "int" = none
 n_isinstance:mg "isinstance" = none
 n_len:mg "len" = none
 n_max:mg "max" = none
 n_range:mg "range" = none
 n_set:mg "set" = none
 n_str:mg "str" = none
 n_tuple:mg "tuple" = none
open PySem.Builtin.Str PySem.StrLaws
theorem iteB {b:Bool} {A B:Prop} (h1:b = true→A) (h2:b = false→B):(if b = true then A else B):=by
 cases b with
 | true=>rw [if_pos rfl]; exact h1 rfl
 | false=>rw [if_neg (by decide)]; exact h2 rfl
structure Cst (K:PySem.W.Frag) (mg:Str→Option Value) (cNoText:Addr):Prop where
 letters:∃ t,mg "LETTERS" = some (.str "abcdefghijklmnopqrstuvwxyz" t)
 marks:∃ t,mg "MARKS" = some (.str "{};|" t)
 blanks:∃ t,mg "BLANKS" = some (.str " \n" t)
 longest:∃ t,mg "LONGEST_NAME" = some (.int 8 t)
 noText:mg "NoText" = some (.ref cNoText)
 excNT:ExcC K cNoText
def okC (c:Nat):Bool:=inS "abcdefghijklmnopqrstuvwxyz" c || inS "{};|" c || inS " \n" c
def wordsT (x:Str):List Str:=Txt.words (puts " " " " "{};|" 4 x)
def spWordsOf (C:Addr):Sp:=fun vs H Q E=>∃ x:Str,vs = [.str x]∧x.length≤3000 ∧
 ((x.cps.toList.all okC = true∧∀ p,H p = none→Q (.ref p) (upd H p (.lst ((wordsT x).map V.str))))∨(x.cps.toList.all okC = false∧E (.ref C) none H))
section
variable {P:Program} {w:World} {K:PySem.W.Frag} {mg:Str→Option Value} {base:Heap} {cNT:Addr}
theorem ok_wordsOf (F:FunM K mg "words_of" ["text"] s_words_of) (cs:Cst K mg cNT):CalleeX P w K mg base 1 "words_of" ["text"] (spWordsOf cNT):=by
 refine F.okX sc_words_of (fun vs H Q E h=>?_) (fun f cdv A outer s H vs Q E hr h=>?_)
 ·obtain ⟨x,rfl,_⟩:=h
  rfl
 obtain ⟨x,rfl,hl,h⟩:=h
 obtain ⟨t1,m1⟩:=cs.letters
 obtain ⟨t2,m2⟩:=cs.marks
 obtain ⟨t3,m3⟩:=cs.blanks
 refine ⟨_,(pss_cons (ps_for PassesOwn.leaving rfl (pi_str (pv 0)) (pg_name (i:=1) sc_words_of.nd rfl (Or.inl rfl))
   (pss_one (ps_if (PW.pt (pw_and (pt_cmpR op_notIn_str (pv 1) (pe_glob (v:=.str "abcdefghijklmnopqrstuvwxyz") rfl m1 ⟨_,rfl⟩) (by rfl)) (pw_and (pt_cmpR op_notIn_str (pv 1) (pe_glob (v:=.str "{};|") rfl m2 ⟨_,rfl⟩) (by rfl)) (pw_and1 (pt_cmpR op_notIn_str (pv 1) (pe_glob (v:=.str " \n") rfl m3 ⟨_,rfl⟩) (by rfl))))))
    (pss_one (ps_raise cs.excNT cs.noText rfl (pa_cons pe_str pa_nil)))
    pss_nil)))
  (pss_puts (i:=0) (j:=2) (k:=3) PassesOwn.leaving rfl sc_words_of.nd rfl rfl rfl (by decide) rfl rfl rfl rfl m2
   (pss_one (ps_ret (pe_bm0 PySem.F.plainAttrs_str PySem.F.slot_str_split PySem.F.type_str_split mt_split (pv 2)))) rfl (by decide) (by decide) (by decide) (by decide) rfl rfl rfl (fun _=>rfl))),?_⟩
 refine ⟨_,rfl,x,rfl,?_⟩
 refine for_str (fun i σ H'=>H' = H∧(∃ v,σ = [some (.str x),v,none,none])∧(x.cps.toList.take i).all okC = true) ⟨rfl,⟨none,rfl⟩,rfl⟩ ?_ ?_
 ·rintro i c σ' H' hc ⟨rfl,⟨v,rfl⟩,hall⟩
  have hi:x.cps.toList[i]? = some c:=by rw [Array.getElem?_toList]; exact hc
  have fin:okC c = true→(x.cps.toList.take (i + 1)).all okC = true:=fun hok=>by
   rw [List.take_succ,hi,List.all_append,hall]
   simp [hok]
  refine ⟨_,rfl,_,_,rfl,rfl,_,rfl,iteB (fun n1=>⟨_,rfl,_,_,rfl,rfl,_,rfl,iteB (fun n2=>⟨_,rfl,_,_,rfl,rfl,_,rfl,iteB (fun n3=>?_) fun n3=>?_⟩) fun n2=>iteB (fun z=>by cases z) fun _=>?_⟩) fun n1=>iteB (fun z=>by cases z) fun _=>?_⟩
  ·have no:okC c = false:=by
    unfold okC inS
    simp only [Bool.not_not] at n1 n2 n3 ⊢
    rw [n1,n2,n3]
    rfl
   have bad:x.cps.toList.all okC = false:=by
    cases z:x.cps.toList.all okC with
    | false=>rfl
    | true =>
     have:=List.all_eq_true.mp z c (List.mem_of_getElem? hi)
     rw [no] at this
     cases this
   rcases h with ⟨z,_⟩ | ⟨_,q⟩
   ·rw [bad] at z
    cases z
   ·exact ⟨by show 1≤sizeLine; decide,q⟩
  ·refine ⟨rfl,⟨_,rfl⟩,fin ?_⟩
   unfold okC inS
   simp only [Bool.not_not] at n3
   simp [n3]
  ·refine ⟨rfl,⟨_,rfl⟩,fin ?_⟩
   unfold okC inS
   simp only [Bool.not_not] at n2
   simp [n2]
  ·refine ⟨rfl,⟨_,rfl⟩,fin ?_⟩
   unfold okC inS
   simp only [Bool.not_not] at n1
   simp [n1]
 ·rintro σ' H' ⟨rfl,⟨v,rfl⟩,hall⟩
  have hall2:x.cps.toList.all okC = true:=by
   rw [List.take_of_length_le (by simp)] at hall
   exact hall
  rcases h with ⟨_,q⟩ | ⟨z,_⟩
  ·refine ⟨x,rfl,apart_ne,apart_14,fun n hn=>?_,fun v'=>?_⟩
   ·refine Nat.le_trans (len_puts x _ n) ?_
    have h4:n≤4:=hn
    have:3 ^ n≤81:=by
     have:3 ^ n≤3 ^ 4:=Nat.pow_le_pow_right (by decide) h4
     exact this
    have:=Nat.mul_le_mul this hl
    omega
   ·have hw:(puts " " " " "{};|" 4 x).length≤243000:=by
     have:=len_puts x "{};|" 4
     have:(puts " " " " "{};|" 4 x).length≤81 * x.length:=this
     omega
    refine ⟨_,rfl,rfl,_,rfl,rfl,?_,?_,?_,fun p hp=>q p hp⟩
    ·exact Nat.le_trans hw (by decide)
    ·have h1:=len_le_wsum (spaceWords (puts " " " " "{};|" 4 x) ((puts " " " " "{};|" 4 x).length + 1))
     have h2:=(sw_weight (puts " " " " "{};|" 4 x)).1
     exact Nat.le_trans (Nat.le_trans h1 h2) (Nat.le_trans (Nat.succ_le_succ hw) (by decide))
    ·have h1:=words_weight (puts " " " " "{};|" 4 x)
     exact Nat.le_trans (show (Txt.words (puts " " " " "{};|" 4 x)).length≤243001 by omega) (by decide)
  ·rw [z] at hall2
   cases hall2
end
end My
end
section
set_option Elab.async false
set_option linter.all false
set_option maxRecDepth 100000
set_option maxHeartbeats 4000000
namespace My
open PySem L2
open PySem.Builtin.Str PySem.StrLaws
def wfl (a:Addr) (p:Nat):List (Str× V):=putF "place" (.int p) (putF "words" (.ref a) [])
theorem wp_ne:¬ ("words" : Str) = "place" := by decide +kernel
theorem wfl_eq (a:Addr) (p:Nat):wfl a p = ([(("words" : Str),V.ref a),(("place" : Str),V.int p)]:List (Str× V)):=by
 unfold wfl
 show (if ("words" : Str) = "place" then _ else (("words" : Str),V.ref a) :: ([(("place" : Str),V.int p)]:List (Str× V))) = _
 rw [if_neg wp_ne]
theorem wfl_words (a:Addr) (p:Nat):(wfl a p).lookup ("words" : Str) = some (.ref a):=by
 unfold wfl
 rw [lookup_putF,if_neg wp_ne,lookup_putF,if_pos rfl]
theorem wfl_place (a:Addr) (p:Nat):(wfl a p).lookup ("place" : Str) = some (.int p):=by
 unfold wfl
 rw [lookup_putF,if_pos rfl]
theorem wfl_no (a:Addr) (p:Nat) {m:Str} (h1:¬ m = "place") (h2:¬ m = "words"):(wfl a p).lookup m = none:=by
 unfold wfl
 rw [lookup_putF,if_neg h1,lookup_putF,if_neg h2]
 all_goals rfl
theorem wfl_put (a:Addr) (p q:Nat):putF "place" (.int q) (wfl a p) = wfl a q:=by
 rw [wfl_eq,wfl_eq]
 show (if ("words" : Str) = "place" then _ else (("words" : Str),V.ref a) :: (if ("place" : Str) = "place" then [(("place" : Str),V.int q)] else _)) = ([(("words" : Str),V.ref a),(("place" : Str),V.int q)]:List (Str× V))
 rw [if_neg wp_ne,if_pos rfl]
def rsW (x:Str):Prop:=x.length≤3000∧(reprText x).length≤40000
def WsR (C:Addr) (H:Hp) (o a:Addr) (r:List Str):Prop:=∃ (dx:Addr) (ws:List Str) (p:Nat),H o = some (.ins C dx (wfl a p))∧H a = some (.lst (ws.map V.str))∧ws.drop p = r∧∀ x∈ws,rsW x
structure TxtW (K:PySem.W.Frag) (mg:Str→Option Value) (C aK:Addr):Prop extends Txt mg where
 cl:Cls K C
 nW:NoAttr K C "words"
 nP:NoAttr K C "place"
 m_Words:mg "Words" = some (.ref C)
 m_KEPT:mg "KEPT" = some (.ref aK)
 r_KEPT:RelV (.ref aK) (Value.ref aK)
 mK:ModT K aK (["in", "out", "nothing", "rest", "halt", "send", "keep", "await", "if", "else", "again", "hold", "watch", "weak", "trap", "exit", "local"].map fun x:String=>V.str x)
def kept:List Str:=["in", "out", "nothing", "rest", "halt", "send", "keep", "await", "if", "else", "again", "hold", "watch", "weak", "trap", "exit", "local"]
def hdS (r:List Str):Str:=r.headD ""
def spPeek (C:Addr):Sp:=fun vs H Q _=>∃ (o a:Addr) (r:List Str),vs = [.ref o]∧WsR C H o a r∧Q (.str (hdS r)) H
def spTake (C:Addr):Sp:=fun vs H Q _=>∃ (o a:Addr) (r:List Str),vs = [.ref o]∧WsR C H o a r∧∀ H',Kp o H H'→WsR C H' o a r.tail→Q (.str (hdS r)) H'
section
variable {P:Program} {w:World} {K:PySem.W.Frag} {mg:Str→Option Value} {base:Heap} {C aK:Addr}
abbrev s_init:Stmt:=inClass s_Words 0
abbrev s_peek:Stmt:=inClass s_Words 1
abbrev s_take:Stmt:=inClass s_Words 2
abbrev s_expect:Stmt:=inClass s_Words 3
abbrev s_take_name:Stmt:=inClass s_Words 4
abbrev s_take_names:Stmt:=inClass s_Words 5
abbrev s_expect_end:Stmt:=inClass s_Words 6
theorem sc_init:FnScope ["self", "words"] ["self", "words"] (defScope s_init):=⟨rfl,rfl,rfl,by decide +kernel,rfl,by decide +kernel,by decide +kernel⟩
theorem sc_peek:FnScope ["self"] ["self"] (defScope s_peek):=⟨rfl,rfl,rfl,by decide +kernel,rfl,by decide +kernel,by decide +kernel⟩
theorem sc_take:FnScope ["self", "word"] ["self"] (defScope s_take):=⟨rfl,rfl,rfl,by decide +kernel,rfl,by decide +kernel,by decide +kernel⟩
theorem sc_expect:FnScope ["self", "wanted"] ["self", "wanted"] (defScope s_expect):=⟨rfl,rfl,rfl,by decide +kernel,rfl,by decide +kernel,by decide +kernel⟩
theorem sc_take_name:FnScope ["self", "word"] ["self"] (defScope s_take_name):=⟨rfl,rfl,rfl,by decide +kernel,rfl,by decide +kernel,by decide +kernel⟩
theorem sc_take_names:FnScope ["self", "names"] ["self"] (defScope s_take_names):=⟨rfl,rfl,rfl,by decide +kernel,rfl,by decide +kernel,by decide +kernel⟩
theorem sc_expect_end:FnScope ["self"] ["self"] (defScope s_expect_end):=⟨rfl,rfl,rfl,by decide +kernel,rfl,by decide +kernel,by decide +kernel⟩
def spInit (C:Addr):Sp:=fun vs H Q _=>∃ (o dx a:Addr) (ws:List Str),vs = [.ref o,.ref a]∧H o = some (.ins C dx [])∧H a = some (.lst (ws.map V.str))∧(∀ x∈ws,rsW x)∧∀ H',Kp o H H'→WsR C H' o a ws→Q .non H'
theorem ok_init {f:Addr} {fd:FuncData} (F:Fun K "__init__" "Words.__init__" s_init f fd) (T:TxtW K mg C aK):FnOk P w K mg base CX0 1 f fd ["self", "words"] (spInit C):=by
 refine F.ok sc_init (fun vs H Q E h=>?_) (fun cdv A outer s H vs Q E hr h=>?_)
 ·obtain ⟨o,dx,a,ws,rfl,_⟩:=h
  rfl
 obtain ⟨o,dx,a,ws,rfl,ho,ha,rs,q⟩:=h
 refine ⟨_,(pss_cons (ps_fld (pv 0) (pv 1) rfl)
  (pss_one (ps_fld (pv 0) pe_int rfl))),?_⟩
 refine ⟨_,rfl,_,rfl,o,C,dx,[],rfl,ho,T.cl,T.nW,(by show 0 < 1000; decide),_,rfl,o,C,dx,_,rfl,upd_same,T.cl,T.nP,(by show 1 < 1000; decide),?_⟩
 have hne:=ne_of ha ho (by intro z; cases z)
 exact q _ (Kp.upd.trans Kp.upd) ⟨dx,ws,0,upd_same,by rw [upd_ne hne,upd_ne hne]; exact ha,rfl,rs⟩
theorem ok_peek {f:Addr} {fd:FuncData} (F:Fun K "peek" "Words.peek" s_peek f fd) (T:TxtW K mg C aK):FnOk P w K mg base CX0 1 f fd ["self"] (spPeek C):=by
 refine F.ok sc_peek (fun vs H Q E h=>?_) (fun cdv A outer s H vs Q E hr h=>?_)
 ·obtain ⟨o,a,r,rfl,_⟩:=h
  rfl
 obtain ⟨o,a,r,rfl,⟨dx,ws,p,ho,ha,er,rs⟩,q⟩:=h
 refine ⟨_,(pss_cons (ps_if (pt_cmpR op_lt (pe_fld (pv 0) rfl) (pe_callB call_lenK rfl T.n_len PySem.boot_len (pa_cons (pe_fld (pv 0) rfl) pa_nil)) (nomark _))
   (pss_one (ps_ret (pe_ix ix_list (pe_fld (pv 0) rfl) (pe_fld (pv 0) rfl) (fun _ _=>rfl))))
   pss_nil)
  (pss_one (ps_ret pe_str))),?_⟩
 refine ⟨_,rfl,o,C,dx,_,_,rfl,ho,T.cl,T.nP,wfl_place _ _,_,rfl,o,C,dx,_,_,rfl,ho,T.cl,T.nW,wfl_words _ _,a,_,rfl,.inl (SqL.of ha),_,_,rfl,rfl,_,rfl,iteB (fun hlt=>?_) fun hge=>?_⟩
 ·have hlt':p < ws.length:=by simpa using hlt
  refine ⟨_,rfl,o,C,dx,_,_,rfl,ho,T.cl,T.nW,wfl_words _ _,_,rfl,o,C,dx,_,_,rfl,ho,T.cl,T.nP,wfl_place _ _,a,_,_,.str ws[p],rfl,rfl,SqL.of ha,atI_nat (j:=p) (by rw [List.getElem?_map,List.getElem?_eq_getElem hlt']; rfl),?_⟩
  have e:hdS r = ws[p]:=by rw [← er,List.drop_eq_getElem_cons hlt']; rfl
  rw [← e]
  exact q
 ·have hge':ws.length≤p:=by simpa using hge
  have e:hdS r = "" := by rw [← er,List.drop_eq_nil_of_le hge']; rfl
  rw [e] at q
  exact q
theorem ok_take {f:Addr} {fd:FuncData} (F:Fun K "take" "Words.take" s_take f fd) (T:TxtW K mg C aK) (M_peek:MethM P w K mg base 1 C "peek" ["self"] (spPeek C)):FnOk P w K mg base CX0 2 f fd ["self"] (spTake C):=by
 refine F.ok sc_take (fun vs H Q E h=>?_) (fun cdv A outer s H vs Q E hr h=>?_)
 ·obtain ⟨o,a,r,rfl,_⟩:=h
  rfl
 obtain ⟨o,a,r,rfl,W,q⟩:=h
 obtain ⟨dx,ws,p,ho,ha,er,rs⟩:=id W
 refine ⟨_,(pss_cons (ps_set (i:=1) sc_take.nd rfl (Or.inl rfl) (pe_methC0 M_peek hr pass0 (pv 0)))
  (pss_cons (ps_fld (pv 0) (pe_op op_add (pe_fld (pv 0) rfl) pe_int) rfl)
  (pss_one (ps_ret (pv 1))))),?_⟩
 refine ⟨_,rfl,o,dx,_,rfl,ho,wfl_no _ _ (by decide +kernel) (by decide +kernel),o,a,r,rfl,W,?_⟩
 refine ⟨_,rfl,o,C,dx,_,_,rfl,ho,T.cl,T.nP,wfl_place _ _,_,_,rfl,rfl,_,rfl,o,C,dx,_,rfl,ho,T.cl,T.nP,(by rw [wfl_eq]; show 2 < 1000; decide),_,rfl,?_⟩
 have hao:=ne_of ha ho (by intro z; cases z)
 refine q _ Kp.upd ⟨dx,ws,p + 1,?_,by rw [upd_ne hao]; exact ha,?_,rs⟩
 ·rw [upd_same,← wfl_put a p (p + 1)]
  rfl
 ·rw [← er,List.tail_drop]
def nameB (x:Str):Bool:=Txt.isalpha x && decide (x.length≤8) && !kept.contains x
theorem nameB_len {x:Str} (h:nameB x = true):x.length≤8:=by
 unfold nameB at h
 rw [Bool.and_eq_true,Bool.and_eq_true] at h
 exact of_decide_eq_true h.1.2
def spIsName:Sp:=fun vs H Q _=>∃ x:Str,vs = [.str x]∧x.length≤1000000∧Q (.bl (nameB x)) H
theorem inV_strs {x:Str} {ws:List Str}:inV (.str x) (ws.map V.str) = decide (x∈ws):=by
 unfold inV
 rw [List.any_map]
 by_cases e:x∈ws
 ·rw [decide_eq_true e,List.any_eq_true]
  exact ⟨x,e,by show (x == x) = true; simp⟩
 ·rw [decide_eq_false e]
  refine Bool.eq_false_iff.mpr fun z=>e ?_
  rw [List.any_eq_true] at z
  obtain ⟨m,hm,h⟩:=z
  have:(m == x) = true:=h
  rw [← eq_of_beq this]
  exact hm
theorem keptV (x:Str):inV (.str x) (kept.map V.str) = kept.contains x:=by
 rw [inV_strs]
 cases h:kept.contains x with
 | true=>exact decide_eq_true (List.contains_iff_mem.mp h)
 | false=>exact decide_eq_false fun z=>by rw [List.contains_iff_mem.mpr z] at h; cases h
theorem ok_isName (F:FunM K mg "is_name" ["word"] s_is_name) (T:TxtW K mg C aK) {cNT:Addr} (cs:Cst K mg cNT):Callee P w K mg base 1 "is_name" ["word"] spIsName:=by
 refine F.ok sc_is_name (fun vs H Q E h=>?_) (fun f cdv A outer s H vs Q E hr h=>?_)
 ·obtain ⟨x,rfl,_⟩:=h
  rfl
 obtain ⟨x,rfl,hl,q⟩:=h
 obtain ⟨t8,m8⟩:=cs.longest
 refine ⟨_,(pss_one (ps_ret (pe_and (pe_bm0 PySem.F.plainAttrs_str PySem.F.slot_str_isalpha PySem.F.type_str_isalpha mt_isalpha (pv 0)) (pe_and (pe_cmpR op_le (pe_callB call_len_str rfl T.n_len PySem.boot_len (pa_cons (pv 0) pa_nil)) (pe_glob (v:=.int 8) rfl m8 ⟨_,rfl⟩) (nomark _)) (pe_one (pe_cmpR op_notIn_seq (pv 0) (pe_glob rfl T.m_KEPT T.r_KEPT) (by rfl))))))),?_⟩
 have fin:∀ {b:Bool},nameB x = b→Q (.bl b) H:=fun e=>e ▸ q
 refine ⟨_,rfl,rfl,x,rfl,rfl,_,rfl,iteB (fun h1=>?_) fun h1=>fin (by unfold nameB; rw [h1]; rfl)⟩
 refine ⟨_,rfl,x,rfl,Nat.le_trans hl (by decide),_,_,rfl,rfl,_,rfl,iteB (fun h2=>?_) fun h2=>fin ?_⟩
 ·refine ⟨_,rfl,aK,_,rfl,.inr (.inr T.mK),rfl,by decide +kernel,fin ?_⟩
  have h2':decide (x.length≤8) = true:=by
   have:=of_decide_eq_true h2
   exact decide_eq_true (by omega)
  unfold nameB
  rw [h1,h2',← keptV]
  rfl
 ·have h2':decide (x.length≤8) = false:=by
   have:=of_decide_eq_false h2
   exact decide_eq_false (by omega)
  unfold nameB
  rw [h1,h2']
  rfl
def spExpect (C cNT:Addr):Sp:=fun vs H Q E=>∃ (o a:Addr) (x:Str) (r:List Str),vs = [.ref o,.str x]∧WsR C H o a r∧rsW x∧((hdS r = x∧∀ H',Kp o H H'→WsR C H' o a r.tail→Q .non H')∨(¬ hdS r = x∧∀ H',Kp o H H'→E (.ref cNT) none H'))
def spTakeName (C cNT:Addr):Sp:=fun vs H Q E=>∃ (o a:Addr) (r:List Str),vs = [.ref o]∧WsR C H o a r∧((nameB (hdS r) = true∧∀ H',Kp o H H'→WsR C H' o a r.tail→Q (.str (hdS r)) H')∨(nameB (hdS r) = false∧∀ H',Kp o H H'→E (.ref cNT) none H'))
def spExpectEnd (C cNT:Addr):Sp:=fun vs H Q E=>∃ (o a:Addr) (r:List Str),vs = [.ref o]∧WsR C H o a r∧((hdS r = "" ∧ Q .non H)∨(¬ hdS r = "" ∧ E (.ref cNT) none H))
theorem rs_empty:rsW "" := by unfold rsW; decide +kernel
theorem WsR.rs {C o a:Addr} {H:Hp} {r:List Str} (W:WsR C H o a r):rsW (hdS r):=by
 obtain ⟨dx,ws,p,ho,ha,er,rs⟩:=W
 cases r with
 | nil=>exact rs_empty
 | cons x r=>exact rs x (List.mem_of_mem_drop (by rw [er]; exact List.mem_cons_self))
theorem w_no {a:Addr} {p:Nat}:(wfl a p).lookup ("peek" : Str) = none∧(wfl a p).lookup ("take" : Str) = none∧(wfl a p).lookup ("expect" : Str) = none∧(wfl a p).lookup ("take_name" : Str) = none∧(wfl a p).lookup ("take_names" : Str) = none∧(wfl a p).lookup ("expect_end" : Str) = none :=
 ⟨wfl_no _ _ (by decide +kernel) (by decide +kernel),wfl_no _ _ (by decide +kernel) (by decide +kernel),wfl_no _ _ (by decide +kernel) (by decide +kernel),wfl_no _ _ (by decide +kernel) (by decide +kernel),wfl_no _ _ (by decide +kernel) (by decide +kernel),wfl_no _ _ (by decide +kernel) (by decide +kernel)⟩
variable {cNT:Addr}
theorem fs_len {a b:Str} {m n:Nat} (h1:a.length≤m) (h2:b.length≤n) (h:m + n≤1000000):(a ++ b).length≤sizeLine:=by
 rw [strLen_append]
 exact Nat.le_trans (Nat.add_le_add h1 h2) (Nat.le_trans h (by decide))
theorem ok_expect {f:Addr} {fd:FuncData} (F:Fun K "expect" "Words.expect" s_expect f fd) (T:TxtW K mg C aK) (cs:Cst K mg cNT) (M_take:MethM P w K mg base 2 C "take" ["self"] (spTake C)):FnOk P w K mg base (CX1 P w) 3 f fd ["self", "wanted"] (spExpect C cNT):=by
 refine F.okX sc_expect (fun vs H Q E h=>?_) (fun cdv A outer s H vs Q E hr h=>?_)
 ·obtain ⟨o,a,x,r,rfl,_⟩:=h
  rfl
 obtain ⟨o,a,x,r,rfl,W,hx,h⟩:=h
 obtain ⟨dx,ws,p,ho,ha,er,rs⟩:=id W
 refine ⟨_,(pss_one (ps_if (pt_cmpR op_ne (pe_methC0 M_take hr pass0 (pv 0)) (pv 1) (nomark _))
   (pss_one (ps_raise cs.excNT cs.noText rfl (pa_cons (pe_fstr (.cons pe_str (.cons (pe_fr (pv 1)) .nil))) pa_nil)))
   pss_nil)),?_⟩
 refine ⟨_,rfl,o,dx,_,rfl,ho,w_no.2.1,o,a,_,rfl,W,fun H1 k1 W1=>?_⟩
 refine ⟨_,rfl,rfl,_,rfl,?_⟩
 rcases h with ⟨e,q⟩ | ⟨ne,hE⟩
 ·rw [decide_eq_true (congrArg V.str e)]
  exact iteF (q H1 k1 W1)
 ·rw [decide_eq_false (fun z=>ne (V.str.inj z))]
  refine iteT ⟨_,rfl,?_,_,rfl,_,rfl,Nat.le_trans hx.2 (show 40000≤sizeLine by decide),_,rfl,?_,?_,by show 1≤sizeLine; decide,hE _ k1⟩
  ·decide +kernel
  ·exact fs_len (m:=100) (n:=40000) (by decide +kernel) hx.2 (by decide)
  ·exact fs_len (m:=100) (n:=40000) (by decide +kernel) hx.2 (by decide)
theorem ok_takeName {f:Addr} {fd:FuncData} (F:Fun K "take_name" "Words.take_name" s_take_name f fd) (T:TxtW K mg C aK) (cs:Cst K mg cNT) (M_take:MethM P w K mg base 2 C "take" ["self"] (spTake C)) (C_is_name:Callee P w K mg base 1 "is_name" ["word"] spIsName):FnOk P w K mg base (CX1 P w) 3 f fd ["self"] (spTakeName C cNT):=by
 refine F.okX sc_take_name (fun vs H Q E h=>?_) (fun cdv A outer s H vs Q E hr h=>?_)
 ·obtain ⟨o,a,r,rfl,_⟩:=h
  rfl
 obtain ⟨o,a,r,rfl,W,h⟩:=h
 have hx:=W.rs
 obtain ⟨dx,ws,p,ho,ha,er,rs⟩:=id W
 refine ⟨_,(pss_cons (ps_set (i:=1) sc_take_name.nd rfl (Or.inl rfl) (pe_methC0 M_take hr pass0 (pv 0)))
  (pss_cons (ps_if (pt_not (pt_val (pe_callC C_is_name hr rfl pass0 (pa_cons (pv 1) pa_nil))))
   (pss_one (ps_raise cs.excNT cs.noText rfl (pa_cons (pe_fstr (.cons pe_str (.cons (pe_fr (pv 1)) .nil))) pa_nil)))
   pss_nil)
  (pss_one (ps_ret (pv 1))))),?_⟩
 refine ⟨_,rfl,o,dx,_,rfl,ho,w_no.2.1,o,a,_,rfl,W,fun H1 k1 W1=>?_⟩
 refine ⟨_,rfl,_,rfl,Nat.le_trans hx.1 (by decide),_,rfl,?_⟩
 rcases h with ⟨e,q⟩ | ⟨ne,hE⟩
 ·rw [e]
  exact iteF ⟨_,rfl,q H1 k1 W1⟩
 ·rw [ne]
  refine iteT ⟨_,rfl,?_,_,rfl,_,rfl,Nat.le_trans hx.2 (show 40000≤sizeLine by decide),_,rfl,?_,?_,by show 1≤sizeLine; decide,hE _ k1⟩
  ·decide +kernel
  ·exact fs_len (m:=100) (n:=40000) (by decide +kernel) hx.2 (by decide)
  ·exact fs_len (m:=100) (n:=40000) (by decide +kernel) hx.2 (by decide)
theorem ok_expectEnd {f:Addr} {fd:FuncData} (F:Fun K "expect_end" "Words.expect_end" s_expect_end f fd) (T:TxtW K mg C aK) (cs:Cst K mg cNT) (M_peek:MethM P w K mg base 1 C "peek" ["self"] (spPeek C)):FnOk P w K mg base (CX1 P w) 2 f fd ["self"] (spExpectEnd C cNT):=by
 refine F.okX sc_expect_end (fun vs H Q E h=>?_) (fun cdv A outer s H vs Q E hr h=>?_)
 ·obtain ⟨o,a,r,rfl,_⟩:=h
  rfl
 obtain ⟨o,a,r,rfl,W,h⟩:=h
 obtain ⟨dx,ws,p,ho,ha,er,rs⟩:=id W
 refine ⟨_,(pss_one (ps_if (pt_cmpR op_ne (pe_methC0 M_peek hr pass0 (pv 0)) pe_str (nomark _))
   (pss_one (ps_raise cs.excNT cs.noText rfl (pa_cons pe_str pa_nil)))
   pss_nil)),?_⟩
 refine ⟨_,rfl,o,dx,_,rfl,ho,w_no.1,o,a,_,rfl,W,rfl,_,rfl,?_⟩
 rcases h with ⟨e,q⟩ | ⟨ne,hE⟩
 ·rw [decide_eq_true (congrArg V.str e)]
  exact iteF q
 ·rw [decide_eq_false (fun z=>ne (V.str.inj z))]
  exact iteT ⟨by show 1≤sizeLine; decide,hE⟩
def spTakeNames (C:Addr):Sp:=fun vs H Q _=>∃ (o a:Addr) (ns r:List Str),vs = [.ref o]∧WsR C H o a (ns ++ r)∧(∀ x∈ns,nameB x = true)∧(∀ x∈ns ++ [hdS r],x.length≤1000000)∧nameB (hdS r) = false∧ns.length≤1000000 ∧
 ∀ p H',Kp o H H'→H p = none→H' p = some (.lst (ns.map V.str))→WsR C H' o a r→Q (.ref p) H'
theorem WsR.upd {C o p a:Addr} {H:Hp} {r:List Str} (W:WsR C H o a r) (h:H p = none) (u:HO):WsR C (upd H p u) o a r:=by
 obtain ⟨dx,ws,q,ho,ha,er,rs⟩:=W
 exact ⟨dx,ws,q,same_new h u _ _ ho,same_new h u _ _ ha,er,rs⟩
theorem ok_takeNames {f:Addr} {fd:FuncData} (F:Fun K "take_names" "Words.take_names" s_take_names f fd) (T:TxtW K mg C aK) (M_peek:MethM P w K mg base 1 C "peek" ["self"] (spPeek C)) (M_take:MethM P w K mg base 2 C "take" ["self"] (spTake C)) (C_is_name:Callee P w K mg base 1 "is_name" ["word"] spIsName):FnOk P w K mg base CX0 3 f fd ["self"] (spTakeNames C):=by
 refine F.ok sc_take_names (fun vs H Q E h=>?_) (fun cdv A outer s H vs Q E hr h=>?_)
 ·obtain ⟨o,a,ns,r,rfl,_⟩:=h
  rfl
 obtain ⟨o,a,ns,r,rfl,W,hn,hl,hno,hlen,q⟩:=h
 refine ⟨_,(pss_cons (ps_set (i:=1) sc_take_names.nd rfl (Or.inl rfl) (pe_lst pa_nil))
  (pss_cons (ps_while PassesOwn.never (pt_val (pe_callC C_is_name hr rfl pass0 (pa_cons (pe_methC0 M_peek hr pass0 (pv 0)) pa_nil)))
   (pss_one (ps_expr (pe_bm PySem.F.plainAttrs_list PySem.F.slot_list_append PySem.F.type_list_append mt_append (pv 1) (pa_cons (pe_methC0 M_take hr pass0 (pv 0)) pa_nil)))))
  (pss_one (ps_ret (pv 1))))),?_⟩
 refine ⟨(by show 0≤sizeLine; decide),fun p hp=>?_⟩
 obtain ⟨dx,ws,p0,ho,ha,er,rs⟩:=id W
 have hpa:p≠a:=fun z=>by rw [z,ha] at hp; cases hp
 have hpo:p≠o:=fun z=>by rw [z,ho] at hp; cases hp
 refine ⟨fun m σ H'=>∃ i,m = ns.length - i∧i≤ns.length∧σ = [some (.ref o),some (.ref p)]∧(∀ b u,b≠o→b≠p→H b = some u→H' b = some u)∧H' p = some (.lst ((ns.take i).map V.str))∧WsR C H' o a (ns.drop i ++ r),
  ⟨ns.length,0,rfl,Nat.zero_le _,rfl,fun b u _ h2 e=>same_new hp _ _ _ e,upd_same,W.upd hp _⟩,?_⟩
 rintro m σ' H' ⟨i,rfl,hi,rfl,keep,hp',W'⟩
 obtain ⟨dx',ws',p',ho',ha',er',rs'⟩:=id W'
 refine ⟨_,rfl,o,dx',_,rfl,ho',w_no.1,o,a,_,rfl,W',?_⟩
 rcases Nat.lt_or_ge i ns.length with hlt | hge
 ·have ed:ns.drop i ++ r = ns[i] :: (ns.drop (i + 1) ++ r):=by rw [List.drop_eq_getElem_cons hlt,List.cons_append]
  rw [ed] at W' ⊢
  refine ⟨ns[i],rfl,hl _ (List.mem_append_left _ (List.getElem_mem hlt)),_,rfl,?_⟩
  rw [hn _ (List.getElem_mem hlt)]
  refine iteT ⟨fun σ2 H2=>σ2 = [some (.ref o),some (.ref p)]∧(∀ b u,b≠o→b≠p→H b = some u→H2 b = some u)∧H2 p = some (.lst ((ns.take (i + 1)).map V.str))∧WsR C H2 o a (ns.drop (i + 1) ++ r),
   fun σ2 H2 ⟨a1,a2,a3,a4⟩=>⟨ns.length - (i + 1),by omega,i + 1,rfl,hlt,a1,a2,a3,a4⟩,?_⟩
  refine ⟨_,rfl,.inl ⟨rfl,_,SqL.of hp'⟩,_,rfl,o,dx',_,rfl,ho',w_no.2.1,o,a,_,rfl,W',fun H1 k1 W1=>?_⟩
  have hp1:=k1 _ _ hpo hp'
  refine ⟨p,_,_,rfl,rfl,hp1,?_,rfl,fun b u h1 h2 e=>?_,?_,?_⟩
  ·rw [List.length_map,List.length_take]
   exact Nat.lt_of_le_of_lt (Nat.le_trans (Nat.min_le_right _ _) hlen) (by decide)
  ·rw [upd_ne h2]
   exact k1 b u h1 (keep b u h1 h2 e)
  ·rw [upd_same,List.take_succ,List.getElem?_eq_getElem hlt,List.map_append]
   rfl
  ·obtain ⟨dx1,ws1,p1,ho1,ha1,er1,rs1⟩:=W1
   refine ⟨dx1,ws1,p1,?_,?_,er1,rs1⟩
   ·rw [upd_ne (Ne.symm hpo)]; exact ho1
   ·rw [upd_ne (Ne.symm hpa)]; exact ha1
 ·have e0:i = ns.length:=by omega
  subst e0
  rw [List.drop_length,List.nil_append] at W' ⊢
  refine ⟨hdS r,rfl,hl _ (by simp),_,rfl,?_⟩
  rw [hno]
  rw [List.take_length] at hp'
  refine iteF ⟨_,rfl,?_⟩
  exact q p H' (fun b u hb e=>keep b u hb (fun z=>by rw [z,hp] at e; cases e) e) hp hp' W'
end
section
variable {X:Cx} {o e:Expr} {es:List Expr} {m:Str} {apos pos:Pos} {k j:Nat} {ps:List Str} {sp:Sp} {E:XK} {C:Addr} {ta:TE} {t:TA}
end
def bareL:List Str:=["nothing", "rest", "halt"]
def namedL:List Str:=["send", "keep", "await", "exit"]
def roundL:List Str:=["hold", "watch", "weak", "trap", "local"]
mutual
inductive PPart:Nat→List Str→Nd→List Str→Prop
 | brace {d r t r'}:hdS r = "{" → PBr d r t r'→PPart d r t r'
 | bare {d w r}:w∈bareL→PPart d (w :: r) (.t [.s w]) r
 | named {d w x r}:w∈namedL→nameB x = true→PPart d (w :: x :: r) (.t [.s w,.s x]) r
 | round {d w x r t r'}:w∈roundL→nameB x = true→PBr d r t r'→PPart d (w :: x :: r) (.t [.s w,.s x,t]) r'
 | again {d r t r'}:PBr d r t r'→PPart d ("again" :: r) (.t [.s "again", t]) r'
 | iff {d r t r'}:PIf d r t r'→PPart d ("if" :: r) t r'
inductive PBr:Nat→List Str→Nd→List Str→Prop
 | mk {d r t r'}:PBlock d r t ("}" :: r')→PBr (d + 1) ("{" :: r) t r'
inductive PIf:Nat→List Str→Nd→List Str→Prop
 | one {d x r t r'}:nameB x = true→PBr d r t r'→¬ hdS r' = "else" → PIf d (x :: r) (.t [.s "if", .s x,t,.t [.s "nothing"]]) r'
 | two {d x r t r1 t2 r'}:nameB x = true→PBr d r t ("else" :: r1)→PBr d r1 t2 r'→PIf d (x :: r) (.t [.s "if", .s x,t,t2]) r'
inductive PRowT:Nat→Nd→List Str→Nd→List Str→Prop
 | done {d t r}:¬ hdS r = ";" → PRowT d t r t r
 | more {d t r t2 r1 t' r'}:PPart d r t2 r1→PRowT d (.t [.s "then", t,t2]) r1 t' r'→PRowT d t (";" :: r) t' r'
inductive PRow:Nat→List Str→Nd→List Str→Prop
 | mk {d r t r1 t' r'}:PPart d r t r1→PRowT d t r1 t' r'→PRow d r t' r'
inductive PBlockT:Nat→Nd→List Str→Nd→List Str→Prop
 | done {d t r}:¬ hdS r = "|" → PBlockT d t r t r
 | more {d t r t2 r1 t' r'}:PRow d r t2 r1→PBlockT d (.t [.s "beside", t,t2]) r1 t' r'→PBlockT d t ("|" :: r) t' r'
inductive PBlock:Nat→List Str→Nd→List Str→Prop
 | mk {d r t r1 t' r'}:PRow d r t r1→PBlockT d t r1 t' r'→PBlock d r t' r'
end
mutual
theorem PPart.lt:∀ {d:Nat} {r:List Str} {t:Nd} {r':List Str},PPart d r t r'→r'.length < r.length
 | _,_,_,_,.brace _ h=>PBr.lt h
 | _,_,_,_,.bare _=>Nat.lt_succ_self _
 | _,_,_,_,.named _ _=>Nat.lt_succ_of_lt (Nat.lt_succ_self _)
 | _,_,_,_,.round _ _ h=>Nat.lt_succ_of_lt (Nat.lt_succ_of_lt (PBr.lt h))
 | _,_,_,_,.again h=>Nat.lt_succ_of_lt (PBr.lt h)
 | _,_,_,_,.iff h=>Nat.lt_succ_of_lt (PIf.lt h)
theorem PBr.lt:∀ {d:Nat} {r:List Str} {t:Nd} {r':List Str},PBr d r t r'→r'.length < r.length
 | _,_,_,_,.mk h=>Nat.lt_succ_of_lt (Nat.lt_of_succ_lt (PBlock.lt h))
theorem PIf.lt:∀ {d:Nat} {r:List Str} {t:Nd} {r':List Str},PIf d r t r'→r'.length < r.length
 | _,_,_,_,.one _ h _=>Nat.lt_succ_of_lt (PBr.lt h)
 | _,_,_,_,.two _ h h2=>Nat.lt_succ_of_lt (Nat.lt_trans (Nat.lt_of_lt_of_le (PBr.lt h2) (Nat.le_succ _)) (PBr.lt h))
theorem PRowT.le:∀ {d:Nat} {t0:Nd} {r:List Str} {t:Nd} {r':List Str},PRowT d t0 r t r'→r'.length≤r.length
 | _,_,_,_,_,.done _=>Nat.le_refl _
 | _,_,_,_,_,.more h h2=>Nat.le_succ_of_le (Nat.le_trans (PRowT.le h2) (Nat.le_of_lt (PPart.lt h)))
theorem PRow.lt:∀ {d:Nat} {r:List Str} {t:Nd} {r':List Str},PRow d r t r'→r'.length < r.length
 | _,_,_,_,.mk h h2=>Nat.lt_of_le_of_lt (PRowT.le h2) (PPart.lt h)
theorem PBlockT.le:∀ {d:Nat} {t0:Nd} {r:List Str} {t:Nd} {r':List Str},PBlockT d t0 r t r'→r'.length≤r.length
 | _,_,_,_,_,.done _=>Nat.le_refl _
 | _,_,_,_,_,.more h h2=>Nat.le_succ_of_le (Nat.le_trans (PBlockT.le h2) (Nat.le_of_lt (PRow.lt h)))
theorem PBlock.lt:∀ {d:Nat} {r:List Str} {t:Nd} {r':List Str},PBlock d r t r'→r'.length < r.length
 | _,_,_,_,.mk h h2=>Nat.lt_of_le_of_lt (PBlockT.le h2) (PRow.lt h)
end
mutual
inductive FPart:Nat→List Str→Prop
 | brace {d r}:hdS r = "{" → FBr d r→FPart d r
 | named {d w r}:w∈namedL→nameB (hdS r) = false→FPart d (w :: r)
 | roundN {d w r}:w∈roundL→nameB (hdS r) = false→FPart d (w :: r)
 | round {d w x r}:w∈roundL→nameB x = true→FBr d r→FPart d (w :: x :: r)
 | again {d r}:FBr d r→FPart d ("again" :: r)
 | iff {d r}:FIf d r→FPart d ("if" :: r)
 | no {d r}:¬ hdS r = "{" → ¬ hdS r∈bareL→¬ hdS r∈namedL→¬ hdS r∈roundL→¬ hdS r = "again" → ¬ hdS r = "if" → FPart d r
inductive FBr:Nat→List Str→Prop
 | noOpen {d r}:¬ hdS r = "{" → FBr d r
 | inn {d r}:FBlock d r→FBr (d + 1) ("{" :: r)
 | noClose {d r t r'}:PBlock d r t r'→¬ hdS r' = "}" → FBr (d + 1) ("{" :: r)
inductive FIf:Nat→List Str→Prop
 | noName {d r}:nameB (hdS r) = false→FIf d r
 | one {d x r}:nameB x = true→FBr d r→FIf d (x :: r)
 | two {d x r t r1}:nameB x = true→PBr d r t ("else" :: r1)→FBr d r1→FIf d (x :: r)
inductive FRowT:Nat→List Str→Prop
 | fail {d r}:FPart d r→FRowT d (";" :: r)
 | more {d r t r1}:PPart d r t r1→FRowT d r1→FRowT d (";" :: r)
inductive FRow:Nat→List Str→Prop
 | first {d r}:FPart d r→FRow d r
 | rest {d r t r1}:PPart d r t r1→FRowT d r1→FRow d r
inductive FBlockT:Nat→List Str→Prop
 | fail {d r}:FRow d r→FBlockT d ("|" :: r)
 | more {d r t r1}:PRow d r t r1→FBlockT d r1→FBlockT d ("|" :: r)
inductive FBlock:Nat→List Str→Prop
 | first {d r}:FRow d r→FBlock d r
 | rest {d r t r1}:PRow d r t r1→FBlockT d r1→FBlock d r
end
inductive Two (R:Nd→List Str→Prop) (Fl:Prop):Prop
 | ok (t:Nd) (r':List Str) (h:R t r'):Two R Fl
 | no (h:Fl):Two R Fl
abbrev QK (C o a:Addr) (H:Hp) (Q:VK) (t:Nd) (r':List Str):Prop:=∀ v H',Kp o H H'→WsR C H' o a r'→At H' t v→Q v H'
abbrev EK (cNT o:Addr) (H:Hp) (E:XK):Prop:=∀ H',Kp o H H'→E (.ref cNT) none H'
def spPX (C cNT:Addr) (R:List Str→Nd→List Str→Prop) (Fl:List Str→Prop):Sp:=fun vs H Q E=>∃ (o a:Addr) (r:List Str),vs = [.ref o]∧WsR C H o a r∧Two (fun t r'=>R r t r'∧QK C o a H Q t r') (Fl r∧EK cNT o H E)
theorem WsR.ins {C o a:Addr} {H:Hp} {r:List Str} (W:WsR C H o a r):∃ dx p,H o = some (.ins C dx (wfl a p)):=by
 obtain ⟨dx,ws,p,ho,_⟩:=W
 exact ⟨dx,p,ho⟩
theorem pat_kp {C o a:Addr} {H H':Hp} {r:List Str} {t:Nd} {v:V} (A:At H t v) (W:WsR C H o a r) (k:Kp o H H'):At H' t v:=by
 obtain ⟨dx,p,ho⟩:=W.ins
 exact A.mono (k.tpI ho)
theorem rs_lit:rsW ";" ∧ rsW "|" ∧ rsW "{" ∧ rsW "}" ∧ rsW "else" ∧ rsW "in" ∧ rsW "out" := by unfold rsW; decide +kernel
theorem inT {w:Str} {ws:List Str} (h:w∈ws):inV (.str w) (ws.map V.str) = true:=by rw [inV_strs]; exact decide_eq_true h
theorem inF {w:Str} {ws:List Str} (h:¬ w∈ws):inV (.str w) (ws.map V.str) = false:=by rw [inV_strs]; exact decide_eq_false h
theorem iteIn {w:Str} {ws:List Str} {A B:Prop} (h:w∈ws) (hA:A):if inV (.str w) (ws.map V.str) = true then A else B:=by rw [inT h,if_pos rfl]; exact hA
theorem iteOut {w:Str} {ws:List Str} {A B:Prop} (h:¬ w∈ws) (hB:B):if inV (.str w) (ws.map V.str) = true then A else B:=by rw [inF h,if_neg Bool.false_ne_true]; exact hB
theorem neT {x y:Str} {A B:Prop} (h:¬ x = y) (a:A):if (!decide (V.str x = V.str y)) = true then A else B:=by rw [decide_eq_false (fun z=>h (V.str.inj z))]; exact a
theorem neF {x y:Str} {A B:Prop} (h:x = y) (b:B):if (!decide (V.str x = V.str y)) = true then A else B:=by rw [decide_eq_true (congrArg V.str h)]; exact b
theorem iteEqS {x y:Str} {A B:Prop} (h:x = y) (a:A):if decide (V.str x = V.str y) = true then A else B:=by rw [decide_eq_true (congrArg V.str h)]; exact a
theorem iteNeS {x y:Str} {A B:Prop} (h:¬ x = y) (b:B):if decide (V.str x = V.str y) = true then A else B:=by rw [decide_eq_false (fun z=>h (V.str.inj z))]; exact b
section
variable {P:Program} {w:World} {K:PySem.W.Frag} {mg:Str→Option Value} {base:Heap} {C aK cNT:Addr}
set_option maxHeartbeats 16000000 in
theorem ok_row {d k:Nat} (F:FunM K mg "read_row" ["words"] s_read_row) (M_peek:MethM P w K mg base 1 C "peek" ["self"] (spPeek C)) (M_expect:MethX P w K mg base 3 C "expect" ["self", "wanted"] (spExpect C cNT))
  (C_read_part:CalleeX P w K mg base (k + 3) "read_part" ["words"] (spPX C cNT (PPart d) (FPart d))):CalleeX P w K mg base (k + 4) "read_row" ["words"] (spPX C cNT (PRow d) (FRow d)):=by
 refine F.okX sc_read_row (fun vs H Q E h=>?_) (fun f cdv A outer s H vs Q E hr h=>?_)
 ·obtain ⟨o,a,r,rfl,_⟩:=h
  rfl
 obtain ⟨o,a,r,rfl,W,h⟩:=h
 refine ⟨_,(pss_cons (ps_set (i:=1) sc_read_row.nd rfl (Or.inl rfl) (pe_callX C_read_part hr rfl (pa_cons (pv 0) pa_nil)))
  (pss_cons (ps_while PassesOwn.leaving (pt_cmpR op_eq (pe_methC0 M_peek hr pass0 (pv 0)) pe_str (nomark _))
   (pss_cons (ps_expr (pe_methX M_expect hr (pv 0) (pa_cons pe_str pa_nil)))
  (pss_one (ps_set (i:=1) sc_read_row.nd rfl (Or.inl rfl) (pe_tup (pa_cons pe_str (pa_cons (pv 1) (pa_cons (pe_callX C_read_part hr rfl (pa_cons (pv 0) pa_nil)) pa_nil))))))))
  (pss_one (ps_ret (pv 1))))),?_⟩
 have nx:Two (fun t1 r1=>PPart d r t1 r1∧Two (fun t r'=>PRowT d t1 r1 t r'∧QK C o a H Q t r') (FRowT d r1∧EK cNT o H E)) (FPart d r∧EK cNT o H E):=by
  cases h with
  | ok t r' z =>
   obtain ⟨⟨h1,hT⟩,q⟩:=z
   exact .ok _ _ ⟨h1,.ok _ _ ⟨hT,q⟩⟩
  | no z =>
   obtain ⟨z,e⟩:=z
   cases z with
   | first f=>exact .no ⟨f,e⟩
   | rest h1 hT=>exact .ok _ _ ⟨h1,.no ⟨hT,e⟩⟩
 refine ⟨_,rfl,o,a,_,rfl,W,?_⟩
 cases nx with
 | no z=>exact .no z
 | ok t1 r1 z =>
 obtain ⟨h1,nx⟩:=z
 refine .ok t1 r1 ⟨h1,fun v1 H1 k1 W1 A1=>?_⟩
 refine ⟨fun m σ H'=>∃ t0 r0 v0,m = r0.length∧σ = [some (.ref o),some v0]∧Kp o H H'∧WsR C H' o a r0∧At H' t0 v0∧Two (fun t r'=>PRowT d t0 r0 t r'∧QK C o a H Q t r') (FRowT d r0∧EK cNT o H E),⟨_,_,_,v1,rfl,rfl,k1,W1,A1,nx⟩,?_⟩
 rintro m σ' H' ⟨t0,r0,v0,rfl,rfl,k0,W0,A0,nx⟩
 obtain ⟨dx,p,ho⟩:=W0.ins
 refine ⟨_,rfl,o,dx,_,rfl,ho,w_no.1,o,a,r0,rfl,W0,rfl,_,rfl,?_⟩
 have ny:(¬ hdS r0 = ";" ∧ QK C o a H Q t0 r0)∨∃ r1:List Str,r0 = (";" : Str) :: r1∧Two (fun t2 r2=>PPart d r1 t2 r2∧Two (fun t r'=>PRowT d (.t [.s "then", t0,t2]) r2 t r'∧QK C o a H Q t r') (FRowT d r2∧EK cNT o H E)) (FPart d r1∧EK cNT o H E):=by
  cases nx with
  | ok t r' z =>
   obtain ⟨z,q⟩:=z
   cases z with
   | done hne=>exact .inl ⟨hne,q⟩
   | more hP hT=>exact .inr ⟨_,rfl,.ok _ _ ⟨hP,.ok _ _ ⟨hT,q⟩⟩⟩
  | no z =>
   obtain ⟨z,e⟩:=z
   cases z with
   | fail f=>exact .inr ⟨_,rfl,.no ⟨f,e⟩⟩
   | more hP hT=>exact .inr ⟨_,rfl,.ok _ _ ⟨hP,.no ⟨hT,e⟩⟩⟩
 clear nx
 rcases ny with ⟨hne,q⟩ | ⟨r1,rfl,ny⟩
 ·exact iteNe hne ⟨_,rfl,q v0 H' k0 W0 A0⟩
 refine iteEq ⟨fun σ2 H2=>∃ t2 r2 v2,r2.length < r1.length + 1∧σ2 = [some (.ref o),some v2]∧Kp o H H2∧WsR C H2 o a r2∧At H2 t2 v2∧Two (fun t r'=>PRowT d t2 r2 t r'∧QK C o a H Q t r') (FRowT d r2∧EK cNT o H E),fun σ2 H2 ⟨t2,r2,v2,b0,b1,b2,b3,b4,b5⟩=>⟨_,b0,t2,r2,v2,rfl,b1,b2,b3,b4,b5⟩,?_⟩
 refine ⟨_,rfl,o,dx,_,rfl,ho,w_no.2.2.1,o,a,_,_,rfl,W0,rs_lit.1,.inl ⟨rfl,fun H2 k2 W2=>?_⟩⟩
 refine ⟨_,rfl,_,rfl,o,a,_,rfl,W2,?_⟩
 cases ny with
 | no z=>exact .no ⟨z.1,fun H3 k3=>z.2 _ ((k0.trans k2).trans k3)⟩
 | ok t2 r2 z =>
  obtain ⟨hP,nx⟩:=z
  refine .ok t2 r2 ⟨hP,fun v3 H3 k3 W3 A3=>⟨(by show 3≤sizeLine; decide),fun p3 hp3=>?_⟩⟩
  have g:=same_new hp3 (.tup [.str "then", v0,v3])
  exact ⟨_,r2,_,Nat.lt_succ_of_lt hP.lt,rfl,((k0.trans k2).trans k3).trans (Same.kp g),W3.upd hp3 _,.t upd_same (.cons .s (.cons ((pat_kp (pat_kp A0 W0 k2) W2 k3).mono g.tp) (.cons (A3.mono g.tp) .nil))),nx⟩
set_option maxHeartbeats 16000000 in
theorem ok_block {d k:Nat} (F:FunM K mg "read_block" ["words"] s_read_block) (M_peek:MethM P w K mg base 1 C "peek" ["self"] (spPeek C)) (M_expect:MethX P w K mg base 3 C "expect" ["self", "wanted"] (spExpect C cNT))
  (C_read_row:CalleeX P w K mg base (k + 4) "read_row" ["words"] (spPX C cNT (PRow d) (FRow d))):CalleeX P w K mg base (k + 5) "read_block" ["words"] (spPX C cNT (PBlock d) (FBlock d)):=by
 refine F.okX sc_read_block (fun vs H Q E h=>?_) (fun f cdv A outer s H vs Q E hr h=>?_)
 ·obtain ⟨o,a,r,rfl,_⟩:=h
  rfl
 obtain ⟨o,a,r,rfl,W,h⟩:=h
 refine ⟨_,(pss_cons (ps_set (i:=1) sc_read_block.nd rfl (Or.inl rfl) (pe_callX C_read_row hr rfl (pa_cons (pv 0) pa_nil)))
  (pss_cons (ps_while PassesOwn.leaving (pt_cmpR op_eq (pe_methC0 M_peek hr pass0 (pv 0)) pe_str (nomark _))
   (pss_cons (ps_expr (pe_methX M_expect hr (pv 0) (pa_cons pe_str pa_nil)))
  (pss_one (ps_set (i:=1) sc_read_block.nd rfl (Or.inl rfl) (pe_tup (pa_cons pe_str (pa_cons (pv 1) (pa_cons (pe_callX C_read_row hr rfl (pa_cons (pv 0) pa_nil)) pa_nil))))))))
  (pss_one (ps_ret (pv 1))))),?_⟩
 have nx:Two (fun t1 r1=>PRow d r t1 r1∧Two (fun t r'=>PBlockT d t1 r1 t r'∧QK C o a H Q t r') (FBlockT d r1∧EK cNT o H E)) (FRow d r∧EK cNT o H E):=by
  cases h with
  | ok t r' z =>
   obtain ⟨⟨h1,hT⟩,q⟩:=z
   exact .ok _ _ ⟨h1,.ok _ _ ⟨hT,q⟩⟩
  | no z =>
   obtain ⟨z,e⟩:=z
   cases z with
   | first f=>exact .no ⟨f,e⟩
   | rest h1 hT=>exact .ok _ _ ⟨h1,.no ⟨hT,e⟩⟩
 refine ⟨_,rfl,o,a,_,rfl,W,?_⟩
 cases nx with
 | no z=>exact .no z
 | ok t1 r1 z =>
 obtain ⟨h1,nx⟩:=z
 refine .ok t1 r1 ⟨h1,fun v1 H1 k1 W1 A1=>?_⟩
 refine ⟨fun m σ H'=>∃ t0 r0 v0,m = r0.length∧σ = [some (.ref o),some v0]∧Kp o H H'∧WsR C H' o a r0∧At H' t0 v0∧Two (fun t r'=>PBlockT d t0 r0 t r'∧QK C o a H Q t r') (FBlockT d r0∧EK cNT o H E),⟨_,_,_,v1,rfl,rfl,k1,W1,A1,nx⟩,?_⟩
 rintro m σ' H' ⟨t0,r0,v0,rfl,rfl,k0,W0,A0,nx⟩
 obtain ⟨dx,p,ho⟩:=W0.ins
 refine ⟨_,rfl,o,dx,_,rfl,ho,w_no.1,o,a,r0,rfl,W0,rfl,_,rfl,?_⟩
 have ny:(¬ hdS r0 = "|" ∧ QK C o a H Q t0 r0)∨∃ r1:List Str,r0 = ("|" : Str) :: r1∧Two (fun t2 r2=>PRow d r1 t2 r2∧Two (fun t r'=>PBlockT d (.t [.s "beside", t0,t2]) r2 t r'∧QK C o a H Q t r') (FBlockT d r2∧EK cNT o H E)) (FRow d r1∧EK cNT o H E):=by
  cases nx with
  | ok t r' z =>
   obtain ⟨z,q⟩:=z
   cases z with
   | done hne=>exact .inl ⟨hne,q⟩
   | more hP hT=>exact .inr ⟨_,rfl,.ok _ _ ⟨hP,.ok _ _ ⟨hT,q⟩⟩⟩
  | no z =>
   obtain ⟨z,e⟩:=z
   cases z with
   | fail f=>exact .inr ⟨_,rfl,.no ⟨f,e⟩⟩
   | more hP hT=>exact .inr ⟨_,rfl,.ok _ _ ⟨hP,.no ⟨hT,e⟩⟩⟩
 clear nx
 rcases ny with ⟨hne,q⟩ | ⟨r1,rfl,ny⟩
 ·exact iteNe hne ⟨_,rfl,q v0 H' k0 W0 A0⟩
 refine iteEq ⟨fun σ2 H2=>∃ t2 r2 v2,r2.length < r1.length + 1∧σ2 = [some (.ref o),some v2]∧Kp o H H2∧WsR C H2 o a r2∧At H2 t2 v2∧Two (fun t r'=>PBlockT d t2 r2 t r'∧QK C o a H Q t r') (FBlockT d r2∧EK cNT o H E),fun σ2 H2 ⟨t2,r2,v2,b0,b1,b2,b3,b4,b5⟩=>⟨_,b0,t2,r2,v2,rfl,b1,b2,b3,b4,b5⟩,?_⟩
 refine ⟨_,rfl,o,dx,_,rfl,ho,w_no.2.2.1,o,a,_,_,rfl,W0,rs_lit.2.1,.inl ⟨rfl,fun H2 k2 W2=>?_⟩⟩
 refine ⟨_,rfl,_,rfl,o,a,_,rfl,W2,?_⟩
 cases ny with
 | no z=>exact .no ⟨z.1,fun H3 k3=>z.2 _ ((k0.trans k2).trans k3)⟩
 | ok t2 r2 z =>
  obtain ⟨hP,nx⟩:=z
  refine .ok t2 r2 ⟨hP,fun v3 H3 k3 W3 A3=>⟨(by show 3≤sizeLine; decide),fun p3 hp3=>?_⟩⟩
  have g:=same_new hp3 (.tup [.str "beside", v0,v3])
  exact ⟨_,r2,_,Nat.lt_succ_of_lt hP.lt,rfl,((k0.trans k2).trans k3).trans (Same.kp g),W3.upd hp3 _,.t upd_same (.cons .s (.cons ((pat_kp (pat_kp A0 W0 k2) W2 k3).mono g.tp) (.cons (A3.mono g.tp) .nil))),nx⟩
theorem ok_braced {k:Nat} {RB:List Str→Nd→List Str→Prop} {FK:List Str→Prop} (F:FunM K mg "read_braced" ["words"] s_read_braced) (M_expect:MethX P w K mg base 3 C "expect" ["self", "wanted"] (spExpect C cNT))
  (C_read_block:CalleeX P w K mg base (k + 3) "read_block" ["words"] (spPX C cNT RB FK)):CalleeX P w K mg base (k + 4) "read_braced" ["words"] (spPX C cNT (fun r t r'=>∃ r1:List Str,r = ("{" : Str) :: r1∧RB r1 t ("}" :: r')) (fun r=>¬ hdS r = "{" ∨ ∃ r1:List Str,r = ("{" : Str) :: r1∧(FK r1∨∃ t r',RB r1 t r'∧¬ hdS r' = "}"))):=by
 refine F.okX sc_read_braced (fun vs H Q E h=>?_) (fun f cdv A outer s H vs Q E hr h=>?_)
 ·obtain ⟨o,a,r,rfl,_⟩:=h
  rfl
 obtain ⟨o,a,r,rfl,W,h⟩:=h
 refine ⟨_,(pss_cons (ps_expr (pe_methX M_expect hr (pv 0) (pa_cons pe_str pa_nil)))
  (pss_cons (ps_set (i:=1) sc_read_braced.nd rfl (Or.inl rfl) (pe_callX C_read_block hr rfl (pa_cons (pv 0) pa_nil)))
  (pss_cons (ps_expr (pe_methX M_expect hr (pv 0) (pa_cons pe_str pa_nil)))
  (pss_one (ps_ret (pv 1)))))),?_⟩
 obtain ⟨dx,p,ho⟩:=W.ins
 have nx:(¬ hdS r = "{" ∧ EK cNT o H E)∨∃ r1:List Str,r = ("{" : Str) :: r1∧Two (fun t r'=>RB r1 t r'∧((∃ r2:List Str,r' = ("}" : Str) :: r2∧QK C o a H Q t r2)∨(¬ hdS r' = "}" ∧ EK cNT o H E))) (FK r1∧EK cNT o H E):=by
  cases h with
  | ok t r' z =>
   obtain ⟨⟨r1,rfl,hB⟩,q⟩:=z
   exact .inr ⟨r1,rfl,.ok t _ ⟨hB,.inl ⟨r',rfl,q⟩⟩⟩
  | no z =>
   obtain ⟨ne | ⟨r1,rfl,hF | ⟨t,r',hB,ne⟩⟩,e⟩:=z
   ·exact .inl ⟨ne,e⟩
   ·exact .inr ⟨r1,rfl,.no ⟨hF,e⟩⟩
   ·exact .inr ⟨r1,rfl,.ok t r' ⟨hB,.inr ⟨ne,e⟩⟩⟩
 refine ⟨_,rfl,o,dx,_,rfl,ho,w_no.2.2.1,o,a,_,_,rfl,W,rs_lit.2.2.1,?_⟩
 rcases nx with ⟨ne,e⟩ | ⟨r1,rfl,g⟩
 ·exact .inr ⟨ne,e⟩
 refine .inl ⟨rfl,fun H1 k1 W1=>⟨_,rfl,o,a,_,rfl,W1,?_⟩⟩
 cases g with
 | no z=>exact .no ⟨z.1,fun H2 k2=>z.2 _ (k1.trans k2)⟩
 | ok t r' z =>
  refine .ok t r' ⟨z.1,fun v2 H2 k2 W2 A2=>?_⟩
  obtain ⟨dx2,p2,ho2⟩:=W2.ins
  refine ⟨_,rfl,o,dx2,_,rfl,ho2,w_no.2.2.1,o,a,_,_,rfl,W2,rs_lit.2.2.2.1,?_⟩
  rcases z.2 with ⟨r2,rfl,q⟩ | ⟨ne,e⟩
  ·exact .inl ⟨rfl,fun H3 k3 W3=>⟨_,rfl,q v2 H3 ((k1.trans k2).trans k3) W3 (pat_kp A2 W2 k3)⟩⟩
  ·exact .inr ⟨ne,fun H3 k3=>e _ ((k1.trans k2).trans k3)⟩
set_option maxHeartbeats 16000000 in
theorem ok_if {d k:Nat} (F:FunM K mg "read_if" ["words"] s_read_if) (M_peek:MethM P w K mg base 1 C "peek" ["self"] (spPeek C)) (M_expect:MethX P w K mg base 3 C "expect" ["self", "wanted"] (spExpect C cNT)) (M_take_name:MethX P w K mg base 3 C "take_name" ["self"] (spTakeName C cNT))
  (C_read_braced:CalleeX P w K mg base (k + 3) "read_braced" ["words"] (spPX C cNT (PBr d) (FBr d))):CalleeX P w K mg base (k + 4) "read_if" ["words"] (spPX C cNT (PIf d) (FIf d)):=by
 refine F.okX sc_read_if (fun vs H Q E h=>?_) (fun f cdv A outer s H vs Q E hr h=>?_)
 ·obtain ⟨o,a,r,rfl,_⟩:=h
  rfl
 obtain ⟨o,a,r,rfl,W,h⟩:=h
 refine ⟨_,(pss_cons (ps_set (i:=1) sc_read_if.nd rfl (Or.inl rfl) (pe_methX0 M_take_name hr (pv 0)))
  (pss_cons (ps_set (i:=2) sc_read_if.nd rfl (Or.inl rfl) (pe_callX C_read_braced hr rfl (pa_cons (pv 0) pa_nil)))
  (pss_cons (ps_if (pt_cmpR op_ne (pe_methC0 M_peek hr pass0 (pv 0)) pe_str (nomark _))
   (pss_one (ps_ret (pe_tup (pa_cons pe_str (pa_cons (pv 1) (pa_cons (pv 2) (pa_cons (pe_tup (pa_cons pe_str pa_nil)) pa_nil)))))))
   pss_nil)
  (pss_cons (ps_expr (pe_methX M_expect hr (pv 0) (pa_cons pe_str pa_nil)))
  (pss_one (ps_ret (pe_tup (pa_cons pe_str (pa_cons (pv 1) (pa_cons (pv 2) (pa_cons (pe_callX C_read_braced hr rfl (pa_cons (pv 0) pa_nil)) pa_nil))))))))))),?_⟩
 obtain ⟨dx,p,ho⟩:=W.ins
 have nx:(nameB (hdS r) = false∧EK cNT o H E)∨(nameB (hdS r) = true∧Two (fun t r1=>PBr d r.tail t r1∧((¬ hdS r1 = "else" ∧ QK C o a H Q (.t [.s "if", .s (hdS r),t,.t [.s "nothing"]]) r1)∨(hdS r1 = "else" ∧ Two (fun t2 r'=>PBr d r1.tail t2 r'∧QK C o a H Q (.t [.s "if", .s (hdS r),t,t2]) r') (FBr d r1.tail∧EK cNT o H E)))) (FBr d r.tail∧EK cNT o H E)):=by
  cases h with
  | ok t r' z =>
   obtain ⟨hI,q⟩:=z
   cases hI with
   | one hx h1 hne=>exact .inr ⟨hx,.ok _ _ ⟨h1,.inl ⟨hne,q⟩⟩⟩
   | two hx h1 h2=>exact .inr ⟨hx,.ok _ _ ⟨h1,.inr ⟨rfl,.ok _ _ ⟨h2,q⟩⟩⟩⟩
  | no z =>
   obtain ⟨hI,e⟩:=z
   cases hI with
   | noName hx=>exact .inl ⟨hx,e⟩
   | one hx h1=>exact .inr ⟨hx,.no ⟨h1,e⟩⟩
   | two hx h1 h2=>exact .inr ⟨hx,.ok _ _ ⟨h1,.inr ⟨rfl,.no ⟨h2,e⟩⟩⟩⟩
 refine ⟨_,rfl,o,dx,_,rfl,ho,w_no.2.2.2.1,o,a,_,rfl,W,?_⟩
 rcases nx with ⟨nn,e⟩ | ⟨hx,nx⟩
 ·exact .inr ⟨nn,e⟩
 refine .inl ⟨hx,fun H1 k1 W1=>⟨_,rfl,o,a,_,rfl,W1,?_⟩⟩
 cases nx with
 | no z=>exact .no ⟨z.1,fun H2 k2=>z.2 _ (k1.trans k2)⟩
 | ok t r1 z =>
  obtain ⟨h1,z⟩:=z
  refine .ok t r1 ⟨h1,fun v2 H2 k2 W2 A2=>?_⟩
  obtain ⟨dx2,p2,ho2⟩:=W2.ins
  refine ⟨_,rfl,o,dx2,_,rfl,ho2,w_no.1,o,a,_,rfl,W2,rfl,_,rfl,?_⟩
  rcases z with ⟨hne,q⟩ | ⟨he,z⟩
  ·refine neT hne ⟨_,rfl,_,rfl,(by show 1≤sizeLine; decide),fun t1 ht1=>⟨(by show 4≤sizeLine; decide),fun t2 ht2=>?_⟩⟩
   obtain ⟨g,a1,a2⟩:=new2 (b:=.tup [.str "if", .str _,v2,.ref t1]) ht1 ht2
   exact q _ _ ((k1.trans k2).trans (Same.kp g)) ((W2.upd ht1 _).upd ht2 _) (.t a2 (.cons .s (.cons .s (.cons (A2.mono g.tp) (.cons (.t a1 (.cons .s .nil)) .nil)))))
  ·refine neF he ⟨_,rfl,o,dx2,_,rfl,ho2,w_no.2.2.1,o,a,_,_,rfl,W2,rs_lit.2.2.2.2.1,.inl ⟨he,fun H3 k3 W3=>⟨_,rfl,_,rfl,_,rfl,o,a,_,rfl,W3,?_⟩⟩⟩
   cases z with
   | no z=>exact .no ⟨z.1,fun H4 k4=>z.2 _ (((k1.trans k2).trans k3).trans k4)⟩
   | ok t2 r' z =>
    refine .ok t2 r' ⟨z.1,fun v4 H4 k4 W4 A4=>⟨(by show 4≤sizeLine; decide),fun t2 ht2=>?_⟩⟩
    have g:=fun u=>same_new ht2 u
    exact z.2 _ _ ((((k1.trans k2).trans k3).trans k4).trans (Same.kp (g _))) (W4.upd ht2 _) (.t upd_same (.cons .s (.cons .s (.cons ((pat_kp (pat_kp A2 W2 k3) W3 k4).mono (g _).tp) (.cons (A4.mono (g _).tp) .nil)))))
structure TxtR (K:PySem.W.Frag) (mg:Str→Option Value) (C aK aB aM aR:Addr):Prop extends TxtW K mg C aK where
 m_BARE:mg "BARE" = some (.ref aB)
 r_BARE:RelV (.ref aB) (Value.ref aB)
 mB:ModT K aB (bareL.map V.str)
 m_NAMED:mg "NAMED" = some (.ref aM)
 r_NAMED:RelV (.ref aM) (Value.ref aM)
 mM:ModT K aM (namedL.map V.str)
 m_NAMED_ROUND:mg "NAMED_ROUND" = some (.ref aR)
 r_NAMED_ROUND:RelV (.ref aR) (Value.ref aR)
 mR:ModT K aR (roundL.map V.str)
theorem flats (ws:List Str):(ws.map V.str).all flatV = true:=by
 rw [List.all_eq_true]
 intro v hv
 obtain ⟨x,_,rfl⟩:=List.mem_map.mp hv
 rfl
theorem k_bare:∀ w∈bareL,¬ w = "{" := by decide +kernel
theorem k_named:∀ w∈namedL,¬ w = "{" ∧ ¬ w∈bareL:=by decide +kernel
theorem k_round:∀ w∈roundL,¬ w = "{" ∧ ¬ w∈bareL∧¬ w∈namedL:=by decide +kernel
theorem k_again:¬ ("again" : Str) = "{" ∧ ¬ ("again" : Str)∈bareL∧¬ ("again" : Str)∈namedL∧¬ ("again" : Str)∈roundL:=by decide +kernel
theorem k_if:¬ ("if" : Str) = "{" ∧ ¬ ("if" : Str)∈bareL∧¬ ("if" : Str)∈namedL∧¬ ("if" : Str)∈roundL∧¬ ("if" : Str) = "again" := by decide +kernel
inductive PtV (C cNT o a:Addr) (H:Hp) (Q:VK) (E:XK) (d:Nat) (r:List Str):Prop
 | brace (h:hdS r = "{") (z:Two (fun t r'=>PBr d r t r'∧QK C o a H Q t r') (FBr d r∧EK cNT o H E)):PtV C cNT o a H Q E d r
 | bare (h:hdS r∈bareL) (q:QK C o a H Q (.t [.s (hdS r)]) r.tail):PtV C cNT o a H Q E d r
 | named (h:hdS r∈namedL) (z:(nameB (hdS r.tail) = true∧QK C o a H Q (.t [.s (hdS r),.s (hdS r.tail)]) r.tail.tail)∨(nameB (hdS r.tail) = false∧EK cNT o H E)):PtV C cNT o a H Q E d r
 | round (h:hdS r∈roundL) (z:(nameB (hdS r.tail) = true∧Two (fun t r'=>PBr d r.tail.tail t r'∧QK C o a H Q (.t [.s (hdS r),.s (hdS r.tail),t]) r') (FBr d r.tail.tail∧EK cNT o H E))∨(nameB (hdS r.tail) = false∧EK cNT o H E)):PtV C cNT o a H Q E d r
 | again (h:hdS r = "again") (z:Two (fun t r'=>PBr d r.tail t r'∧QK C o a H Q (.t [.s "again", t]) r') (FBr d r.tail∧EK cNT o H E)):PtV C cNT o a H Q E d r
 | iff (h:hdS r = "if") (z:Two (fun t r'=>PIf d r.tail t r'∧QK C o a H Q t r') (FIf d r.tail∧EK cNT o H E)):PtV C cNT o a H Q E d r
 | no (n1:¬ hdS r = "{") (n2:¬ hdS r∈bareL) (n3:¬ hdS r∈namedL) (n4:¬ hdS r∈roundL) (n5:¬ hdS r = "again") (n6:¬ hdS r = "if") (e:EK cNT o H E):PtV C cNT o a H Q E d r
theorem part_view {o a:Addr} {H:Hp} {Q:VK} {E:XK} {d:Nat} {r:List Str} (h:Two (fun t r'=>PPart d r t r'∧QK C o a H Q t r') (FPart d r∧EK cNT o H E)):PtV C cNT o a H Q E d r:=by
 cases h with
 | ok t r' z =>
  obtain ⟨hP,q⟩:=z
  cases hP with
  | brace he hB=>exact .brace he (.ok _ _ ⟨hB,q⟩)
  | bare hw=>exact .bare hw q
  | named hw hx=>exact .named hw (.inl ⟨hx,q⟩)
  | round hw hx hB=>exact .round hw (.inl ⟨hx,.ok _ _ ⟨hB,q⟩⟩)
  | again hB=>exact .again rfl (.ok _ _ ⟨hB,q⟩)
  | iff hI=>exact .iff rfl (.ok _ _ ⟨hI,q⟩)
 | no z =>
  obtain ⟨hP,e⟩:=z
  cases hP with
  | brace he hB=>exact .brace he (.no ⟨hB,e⟩)
  | named hw hx=>exact .named hw (.inr ⟨hx,e⟩)
  | roundN hw hx=>exact .round hw (.inr ⟨hx,e⟩)
  | round hw hx hB=>exact .round hw (.inl ⟨hx,.no ⟨hB,e⟩⟩)
  | again hB=>exact .again rfl (.no ⟨hB,e⟩)
  | iff hI=>exact .iff rfl (.no ⟨hI,e⟩)
  | no n1 n2 n3 n4 n5 n6=>exact .no n1 n2 n3 n4 n5 n6 e
variable {aB aM aR:Addr}
set_option maxHeartbeats 16000000 in
theorem ok_part {d k:Nat} (F:FunM K mg "read_part" ["words"] s_read_part) (T:TxtR K mg C aK aB aM aR) (cs:Cst K mg cNT) (M_peek:MethM P w K mg base 1 C "peek" ["self"] (spPeek C)) (M_take:MethM P w K mg base 2 C "take" ["self"] (spTake C)) (M_take_name:MethX P w K mg base 3 C "take_name" ["self"] (spTakeName C cNT))
  (C_read_braced:CalleeX P w K mg base (k + 3) "read_braced" ["words"] (spPX C cNT (PBr d) (FBr d))) (C_read_if:CalleeX P w K mg base (k + 4) "read_if" ["words"] (spPX C cNT (PIf d) (FIf d))):CalleeX P w K mg base (k + 5) "read_part" ["words"] (spPX C cNT (PPart d) (FPart d)):=by
 refine F.okX sc_read_part (fun vs H Q E h=>?_) (fun f cdv A outer s H vs Q E hr h=>?_)
 ·obtain ⟨o,a,r,rfl,_⟩:=h
  rfl
 obtain ⟨o,a,r,rfl,W,h⟩:=h
 refine ⟨_,(pss_cons (ps_if (pt_cmpR op_eq (pe_methC0 M_peek hr pass0 (pv 0)) pe_str (nomark _))
   (pss_one (ps_ret (pe_callX C_read_braced hr rfl (pa_cons (pv 0) pa_nil))))
   pss_nil)
  (pss_cons (ps_set (i:=1) sc_read_part.nd rfl (Or.inl rfl) (pe_methC0 M_take hr pass0 (pv 0)))
  (pss_cons (ps_if (pt_cmpR op_in_seq (pv 1) (pe_glob rfl T.m_BARE T.r_BARE) (by rfl))
   (pss_one (ps_ret (pe_tup (pa_cons (pv 1) pa_nil))))
   pss_nil)
  (pss_cons (ps_if (pt_cmpR op_in_seq (pv 1) (pe_glob rfl T.m_NAMED T.r_NAMED) (by rfl))
   (pss_one (ps_ret (pe_tup (pa_cons (pv 1) (pa_cons (pe_methX0 M_take_name hr (pv 0)) pa_nil)))))
   pss_nil)
  (pss_cons (ps_if (pt_cmpR op_in_seq (pv 1) (pe_glob rfl T.m_NAMED_ROUND T.r_NAMED_ROUND) (by rfl))
   (pss_cons (ps_set (i:=2) sc_read_part.nd rfl (Or.inl rfl) (pe_methX0 M_take_name hr (pv 0)))
  (pss_one (ps_ret (pe_tup (pa_cons (pv 1) (pa_cons (pv 2) (pa_cons (pe_callX C_read_braced hr rfl (pa_cons (pv 0) pa_nil)) pa_nil)))))))
   pss_nil)
  (pss_cons (ps_if (pt_cmpR op_eq (pv 1) pe_str (nomark _))
   (pss_one (ps_ret (pe_tup (pa_cons pe_str (pa_cons (pe_callX C_read_braced hr rfl (pa_cons (pv 0) pa_nil)) pa_nil)))))
   pss_nil)
  (pss_cons (ps_if (pt_cmpR op_eq (pv 1) pe_str (nomark _))
   (pss_one (ps_ret (pe_callX C_read_if hr rfl (pa_cons (pv 0) pa_nil))))
   pss_nil)
  (pss_one (ps_raise cs.excNT cs.noText rfl (pa_cons (pe_fstr (.cons pe_str (.cons (pe_fr (pv 1)) .nil))) pa_nil)))))))))),?_⟩
 have hv:=part_view h
 have rs:=W.rs
 obtain ⟨dx,p,ho⟩:=W.ins
 refine ⟨_,rfl,o,dx,_,rfl,ho,w_no.1,o,a,_,rfl,W,rfl,_,rfl,?_⟩
 cases hv with
 | brace he z=>exact iteEqS he ⟨_,rfl,o,a,_,rfl,W,z⟩
 | bare hw q =>
  refine iteNeS (k_bare _ hw) ⟨_,rfl,o,dx,_,rfl,ho,w_no.2.1,o,a,_,rfl,W,fun H1 k1 W1=>?_⟩
  refine ⟨_,rfl,aB,_,rfl,.inr (.inr T.mB),rfl,flats _,_,rfl,iteIn (ws:=bareL) hw ⟨_,rfl,(by show 1≤sizeLine; decide),fun t1 ht1=>?_⟩⟩
  have g:=fun u=>same_new ht1 u
  exact q _ _ (k1.trans (Same.kp (g _))) (W1.upd ht1 _) (.t upd_same (.cons .s .nil))
 | named hw z =>
  obtain ⟨n1,n2⟩:=k_named _ hw
  refine iteNeS n1 ⟨_,rfl,o,dx,_,rfl,ho,w_no.2.1,o,a,_,rfl,W,fun H1 k1 W1=>?_⟩
  refine ⟨_,rfl,aB,_,rfl,.inr (.inr T.mB),rfl,flats _,_,rfl,iteOut (ws:=bareL) n2 ⟨_,rfl,aM,_,rfl,.inr (.inr T.mM),rfl,flats _,_,rfl,iteIn (ws:=namedL) hw ?_⟩⟩
  obtain ⟨dx1,p1,ho1⟩:=W1.ins
  refine ⟨_,rfl,_,rfl,o,dx1,_,rfl,ho1,w_no.2.2.2.1,o,a,_,rfl,W1,?_⟩
  rcases z with ⟨hx,q⟩ | ⟨hx,e⟩
  ·refine .inl ⟨hx,fun H2 k2 W2=>⟨(by show 2≤sizeLine; decide),fun t1 ht1=>?_⟩⟩
   have g:=fun u=>same_new ht1 u
   exact q _ _ ((k1.trans k2).trans (Same.kp (g _))) (W2.upd ht1 _) (.t upd_same (.cons .s (.cons .s .nil)))
  ·exact .inr ⟨hx,fun H2 k2=>e _ (k1.trans k2)⟩
 | round hw z =>
  obtain ⟨n1,n2,n3⟩:=k_round _ hw
  refine iteNeS n1 ⟨_,rfl,o,dx,_,rfl,ho,w_no.2.1,o,a,_,rfl,W,fun H1 k1 W1=>?_⟩
  refine ⟨_,rfl,aB,_,rfl,.inr (.inr T.mB),rfl,flats _,_,rfl,iteOut (ws:=bareL) n2 ⟨_,rfl,aM,_,rfl,.inr (.inr T.mM),rfl,flats _,_,rfl,iteOut (ws:=namedL) n3 ⟨_,rfl,aR,_,rfl,.inr (.inr T.mR),rfl,flats _,_,rfl,iteIn (ws:=roundL) hw ?_⟩⟩⟩
  obtain ⟨dx1,p1,ho1⟩:=W1.ins
  refine ⟨_,rfl,o,dx1,_,rfl,ho1,w_no.2.2.2.1,o,a,_,rfl,W1,?_⟩
  rcases z with ⟨hx,z⟩ | ⟨hx,e⟩
  ·refine .inl ⟨hx,fun H2 k2 W2=>⟨_,rfl,_,rfl,_,rfl,o,a,_,rfl,W2,?_⟩⟩
   cases z with
   | no z=>exact .no ⟨z.1,fun H3 k3=>z.2 _ ((k1.trans k2).trans k3)⟩
   | ok t r' z =>
    refine .ok t r' ⟨z.1,fun v3 H3 k3 W3 A3=>⟨(by show 3≤sizeLine; decide),fun t1 ht1=>?_⟩⟩
    have g:=fun u=>same_new ht1 u
    exact z.2 _ _ (((k1.trans k2).trans k3).trans (Same.kp (g _))) (W3.upd ht1 _) (.t upd_same (.cons .s (.cons .s (.cons (A3.mono (g _).tp) .nil))))
  ·exact .inr ⟨hx,fun H2 k2=>e _ (k1.trans k2)⟩
 | again he z =>
  obtain ⟨n1,n2,n3,n4⟩:=k_again
  rw [he]
  refine iteNeS n1 ⟨_,rfl,o,dx,_,rfl,ho,w_no.2.1,o,a,_,rfl,W,fun H1 k1 W1=>?_⟩
  rw [he]
  refine ⟨_,rfl,aB,_,rfl,.inr (.inr T.mB),rfl,flats _,_,rfl,iteOut (w:= "again") (ws:=bareL) n2 ⟨_,rfl,aM,_,rfl,.inr (.inr T.mM),rfl,flats _,_,rfl,iteOut (w:= "again") (ws:=namedL) n3 ⟨_,rfl,aR,_,rfl,.inr (.inr T.mR),rfl,flats _,_,rfl,iteOut (w:= "again") (ws:=roundL) n4 ⟨_,rfl,rfl,_,rfl,iteEqS rfl ?_⟩⟩⟩⟩
  refine ⟨_,rfl,o,a,_,rfl,W1,?_⟩
  cases z with
  | no z=>exact .no ⟨z.1,fun H3 k3=>z.2 _ (k1.trans k3)⟩
  | ok t r' z =>
   refine .ok t r' ⟨z.1,fun v3 H3 k3 W3 A3=>⟨(by show 2≤sizeLine; decide),fun t1 ht1=>?_⟩⟩
   have g:=fun u=>same_new ht1 u
   exact z.2 _ _ ((k1.trans k3).trans (Same.kp (g _))) (W3.upd ht1 _) (.t upd_same (.cons .s (.cons (A3.mono (g _).tp) .nil)))
 | iff he z =>
  obtain ⟨n1,n2,n3,n4,n5⟩:=k_if
  rw [he]
  refine iteNeS n1 ⟨_,rfl,o,dx,_,rfl,ho,w_no.2.1,o,a,_,rfl,W,fun H1 k1 W1=>?_⟩
  rw [he]
  refine ⟨_,rfl,aB,_,rfl,.inr (.inr T.mB),rfl,flats _,_,rfl,iteOut (w:= "if") (ws:=bareL) n2 ⟨_,rfl,aM,_,rfl,.inr (.inr T.mM),rfl,flats _,_,rfl,iteOut (w:= "if") (ws:=namedL) n3 ⟨_,rfl,aR,_,rfl,.inr (.inr T.mR),rfl,flats _,_,rfl,iteOut (w:= "if") (ws:=roundL) n4 ⟨_,rfl,rfl,_,rfl,iteNeS n5 ⟨_,rfl,rfl,_,rfl,iteEqS rfl ?_⟩⟩⟩⟩⟩
  refine ⟨_,rfl,o,a,_,rfl,W1,?_⟩
  cases z with
  | no z=>exact .no ⟨z.1,fun H3 k3=>z.2 _ (k1.trans k3)⟩
  | ok t r' z=>exact .ok t r' ⟨z.1,fun v3 H3 k3 W3 A3=>z.2 v3 H3 (k1.trans k3) W3 A3⟩
 | no n1 n2 n3 n4 n5 n6 e =>
  refine iteNeS n1 ⟨_,rfl,o,dx,_,rfl,ho,w_no.2.1,o,a,_,rfl,W,fun H1 k1 W1=>?_⟩
  refine ⟨_,rfl,aB,_,rfl,.inr (.inr T.mB),rfl,flats _,_,rfl,iteOut (ws:=bareL) n2 ⟨_,rfl,aM,_,rfl,.inr (.inr T.mM),rfl,flats _,_,rfl,iteOut (ws:=namedL) n3 ⟨_,rfl,aR,_,rfl,.inr (.inr T.mR),rfl,flats _,_,rfl,iteOut (ws:=roundL) n4 ⟨_,rfl,rfl,_,rfl,iteNeS n5 ⟨_,rfl,rfl,_,rfl,iteNeS n6 ?_⟩⟩⟩⟩⟩
  refine ⟨_,rfl,?_,_,rfl,_,rfl,Nat.le_trans rs.2 (by decide),_,rfl,?_,?_,by show 1≤sizeLine; decide,e _ k1⟩
  ·decide +kernel
  ·exact fs_len (m:=100) (n:=40000) (by decide +kernel) rs.2 (by decide)
  ·exact fs_len (m:=100) (n:=40000) (by decide +kernel) rs.2 (by decide)
theorem parse_all (FP:FunM K mg "read_part" ["words"] s_read_part) (FR:FunM K mg "read_row" ["words"] s_read_row) (FB:FunM K mg "read_block" ["words"] s_read_block) (FC:FunM K mg "read_braced" ["words"] s_read_braced) (FI:FunM K mg "read_if" ["words"] s_read_if) (T:TxtR K mg C aK aB aM aR) (cs:Cst K mg cNT)
  (M_peek:MethM P w K mg base 1 C "peek" ["self"] (spPeek C)) (M_take:MethM P w K mg base 2 C "take" ["self"] (spTake C)) (M_take_name:MethX P w K mg base 3 C "take_name" ["self"] (spTakeName C cNT)) (M_expect:MethX P w K mg base 3 C "expect" ["self", "wanted"] (spExpect C cNT)) :
  ∀ d,CalleeX P w K mg base (5 * d + 9) "read_block" ["words"] (spPX C cNT (PBlock d) (FBlock d))
 | 0=>by
  have zb:CalleeX P w K mg base 3 "read_block" ["words"] (spPX C cNT (fun _ _ _=>False) (fun _=>False)):=(FB.zeroX (sp:=spPX C cNT (fun _ _ _=>False) (fun _=>False)) fun vs H Q E h=>by
   obtain ⟨o,a,r,_,_,h⟩:=h
   cases h with
   | ok _ _ z=>exact z.1
   | no z=>exact z.1).mono (by decide)
  have cb:CalleeX P w K mg base 4 "read_braced" ["words"] (spPX C cNT (PBr 0) (FBr 0)):=(ok_braced (k:=0) FC M_expect zb).imp fun vs H Q E h=>by
   obtain ⟨o,a,r,e,W,h⟩:=h
   refine ⟨o,a,r,e,W,?_⟩
   cases h with
   | ok _ _ z=>obtain ⟨z,_⟩:=z; cases z
   | no z =>
    obtain ⟨z,e⟩:=z
    cases z with
    | noOpen n=>exact .no ⟨.inl n,e⟩
  exact ok_block (k:=4) FB M_peek M_expect (ok_row (k:=4) FR M_peek M_expect (ok_part (k:=1) FP T cs M_peek M_take M_take_name cb (ok_if (k:=1) FI M_peek M_expect M_take_name cb) |>.mono (by decide)))
 | d + 1=>by
  have ih:=parse_all FP FR FB FC FI T cs M_peek M_take M_take_name M_expect d
  have cb:CalleeX P w K mg base (5 * d + 10) "read_braced" ["words"] (spPX C cNT (PBr (d + 1)) (FBr (d + 1))):=(ok_braced (k:=5 * d + 6) FC M_expect ih).imp fun vs H Q E h=>by
   obtain ⟨o,a,r,e,W,h⟩:=h
   refine ⟨o,a,r,e,W,?_⟩
   cases h with
   | ok _ _ z =>
    obtain ⟨z,q⟩:=z
    cases z with
    | mk hB=>exact .ok _ _ ⟨⟨_,rfl,hB⟩,q⟩
   | no z =>
    obtain ⟨z,e⟩:=z
    cases z with
    | noOpen n=>exact .no ⟨.inl n,e⟩
    | inn f=>exact .no ⟨.inr ⟨_,rfl,.inl f⟩,e⟩
    | noClose p n=>exact .no ⟨.inr ⟨_,rfl,.inr ⟨_,_,p,n⟩⟩,e⟩
  exact ok_block (k:=5 * d + 9) FB M_peek M_expect (ok_row (k:=5 * d + 9) FR M_peek M_expect (ok_part (k:=5 * d + 7) FP T cs M_peek M_take M_take_name cb (ok_if (k:=5 * d + 7) FI M_peek M_expect M_take_name cb)))
end
def stepO (s:Int× Int) (x:Str):Int× Int :=
 let n1:=if x = "{" then s.2 + 1 else s.2
 let n2:=if x = "}" then n1 - 1 else n1
 (if s.1 < n2 then n2 else s.1,n2)
def mostO (ws:List Str):Int:=(ws.foldl stepO (0,0)).1
def spMost (K:PySem.W.Frag):Sp:=fun vs H Q _=>∃ (a:Addr) (ws:List Str),vs = [.ref a]∧SqL K H a (ws.map V.str)∧Q (.int (mostO ws)) H
section
variable {P:Program} {w:World} {K:PySem.W.Frag} {mg:Str→Option Value} {base:Heap} {C aK aB aM aR:Addr}
theorem ok_most (F:FunM K mg "most_open" ["words"] s_most_open) (T:Txt mg):Callee P w K mg base 1 "most_open" ["words"] (spMost K):=by
 refine F.ok sc_most_open (fun vs H Q E h=>?_) (fun f cdv A outer s H vs Q E hr h=>?_)
 ·obtain ⟨a,ws,rfl,_⟩:=h
  rfl
 obtain ⟨a,ws,rfl,hS,q⟩:=h
 refine ⟨_,(pss_cons (ps_set (i:=1) sc_most_open.nd rfl (Or.inl rfl) pe_int)
  (pss_cons (ps_set (i:=2) sc_most_open.nd rfl (Or.inl rfl) pe_int)
  (pss_cons (ps_for PassesOwn.never rfl (pi_list (pv 0)) (pg_name (i:=3) sc_most_open.nd rfl (Or.inl rfl))
   (pss_cons (ps_if (pt_cmpR op_eq (pv 3) pe_str (nomark _))
   (pss_one (ps_set (i:=2) sc_most_open.nd rfl (Or.inl rfl) (pe_op op_add (pv 2) pe_int)))
   pss_nil)
  (pss_cons (ps_if (pt_cmpR op_eq (pv 3) pe_str (nomark _))
   (pss_one (ps_set (i:=2) sc_most_open.nd rfl (Or.inl rfl) (pe_op op_sub (pv 2) pe_int)))
   pss_nil)
  (pss_one (ps_set (i:=1) sc_most_open.nd rfl (Or.inl rfl) (pe_callB (call_max2 rfl) rfl T.n_max (by decide +kernel) (pa_cons (pv 1) (pa_cons (pv 2) pa_nil))))))))
  (pss_one (ps_ret (pv 1)))))),?_⟩
 refine ⟨_,rfl,a,rfl,⟨_,hS⟩,?_⟩
 refine for_list (K:=K) (xs:=ws.map V.str) (fun i σ H'=>H' = H∧∃ v,σ = [some (.ref a),some (.int ((ws.take i).foldl stepO (0,0)).1),some (.int ((ws.take i).foldl stepO (0,0)).2),v]) ⟨rfl,none,rfl⟩ (fun i σ' H' _ ⟨e,_⟩=>by rw [e]; exact hS) ?_ ?_
 ·rintro i x σ' H' hi ⟨rfl,v,rfl⟩
  rw [List.getElem?_map] at hi
  obtain ⟨y,hy,rfl⟩:=Option.map_eq_some_iff.mp hi
  have e1:(ws.take (i + 1)).foldl stepO (0,0) = stepO ((ws.take i).foldl stepO (0,0)) y:=by
   rw [List.take_succ,hy,List.foldl_append]
   rfl
  rw [e1]
  generalize (ws.take i).foldl stepO (0,0) = st
  obtain ⟨m0,n0⟩:=st
  have mx:∀ i j:Int,(if j > i then j else i) = if i < j then j else i:=fun _ _=>rfl
  by_cases h1:y = "{"
  ·subst h1
   refine ⟨_,rfl,rfl,_,rfl,iteEq ⟨_,rfl,_,_,rfl,rfl,?_⟩⟩
   refine ⟨_,rfl,rfl,_,rfl,iteNe (by decide +kernel) ⟨_,rfl,_,rfl,_,_,rfl,?_⟩⟩
   refine ⟨rfl,some (.str "{"),?_⟩
   have e2:stepO (m0,n0) "{" = (if m0 < n0 + 1 then n0 + 1 else m0,n0 + 1):=by
    unfold stepO
    simp only [if_true]
    rw [if_neg (show ¬ ("{" : Str) = "}" by decide +kernel)]
   rw [e2]
   rfl
  ·by_cases h2:y = "}"
   ·subst h2
    refine ⟨_,rfl,rfl,_,rfl,iteNe h1 ⟨_,rfl,rfl,_,rfl,iteEq ⟨_,rfl,_,_,rfl,rfl,⟨_,rfl,_,rfl,_,_,rfl,?_⟩⟩⟩⟩
    refine ⟨rfl,some (.str "}"),?_⟩
    have e2:stepO (m0,n0) "}" = (if m0 < n0 - 1 then n0 - 1 else m0,n0 - 1):=by
     unfold stepO
     simp only [if_true]
     rw [if_neg h1]
    rw [e2]
    rfl
   ·refine ⟨_,rfl,rfl,_,rfl,iteNe h1 ⟨_,rfl,rfl,_,rfl,iteNe h2 ⟨_,rfl,_,rfl,_,_,rfl,?_⟩⟩⟩
    refine ⟨rfl,some (.str y),?_⟩
    have e2:stepO (m0,n0) y = (if m0 < n0 then n0 else m0,n0):=by
     unfold stepO
     simp only [h1,h2,if_false]
    rw [e2]
    rfl
 ·rintro σ' H' ⟨rfl,v,rfl⟩
  rw [List.length_map,List.take_length]
  exact ⟨_,rfl,q⟩
end
structure Whole (ws ins outs:List Str) (d:Nat) (t:Nd):Prop where
 ex:∃ r:List Str,ws = ("in" : Str) :: (ins ++ (";" : Str) :: ("out" : Str) :: (outs ++ (";" : Str) :: r))∧PBlock d r t []
 nI:∀ x∈ins,nameB x = true
 nO:∀ x∈outs,nameB x = true
 lI:ins.length≤1000
 lO:outs.length≤1000
theorem name_semi:nameB ";" = false:=by
 unfold nameB
 have:Txt.isalpha ";" = false:=by decide +kernel
 rw [this]
 rfl
def NamedAt (H:Hp) (v:V) (ins outs:List Str) (t:Nd):Prop:=∃ th i o vb,v = .ref th∧H th = some (.tup [.ref i,.ref o,vb])∧H i = some (.lst (ins.map V.str))∧H o = some (.lst (outs.map V.str))∧At H t vb
def NmL (ns:List Str):Prop:=(∀ x∈ns,nameB x = true)∧ns.length≤1000
inductive FWhole:List Str→Prop
 | noIn {ws:List Str} (h:¬ hdS ws = "in"):FWhole ws
 | semi1 {ins r:List Str} (n:NmL ins) (h:nameB (hdS r) = false) (h2:¬ hdS r = ";"):FWhole (("in" : Str) :: (ins ++ r))
 | noOut {ins r:List Str} (n:NmL ins) (h:¬ hdS r = "out"):FWhole (("in" : Str) :: (ins ++ (";" : Str) :: r))
 | semi2 {ins outs r:List Str} (n:NmL ins) (n2:NmL outs) (h:nameB (hdS r) = false) (h2:¬ hdS r = ";"):FWhole (("in" : Str) :: (ins ++ (";" : Str) :: ("out" : Str) :: (outs ++ r)))
 | blk {ins outs r:List Str} {d:Nat} (n:NmL ins) (n2:NmL outs) (hd:d≤20) (h:FBlock d r):FWhole (("in" : Str) :: (ins ++ (";" : Str) :: ("out" : Str) :: (outs ++ (";" : Str) :: r)))
 | more {ins outs r r':List Str} {d:Nat} {t:Nd} (n:NmL ins) (n2:NmL outs) (hd:d≤20) (h:PBlock d r t r') (h2:¬ hdS r' = ""):FWhole (("in" : Str) :: (ins ++ (";" : Str) :: ("out" : Str) :: (outs ++ (";" : Str) :: r)))
def BadT (x:Str):Prop:=x.cps.toList.all okC = false∨16 < mostO (wordsT x)∨FWhole (wordsT x)
theorem tok_in:∀ (L cur z:List Nat),z∈tok cur L→(∀ c∈z,c∈cur∨c∈L)∧z.length≤cur.length + L.length
 | [],cur,z,h=>by
  have h:z∈flush cur:=h
  unfold flush at h
  split at h
  ·cases h
  ·rw [List.mem_singleton.mp h]
   exact ⟨fun c hc=>.inl hc,by simp⟩
 | a :: L,cur,z,h=>by
  unfold tok at h
  have fl:z∈flush cur→(∀ c∈z,c∈cur∨c∈a :: L)∧z.length≤cur.length + (a :: L).length:=fun h=>by
   unfold flush at h
   split at h
   ·cases h
   ·rw [List.mem_singleton.mp h]
    exact ⟨fun c hc=>.inl hc,by simp⟩
  split at h
  ·rcases List.mem_append.mp h with h | h
   ·exact fl h
   ·obtain ⟨h1,h2⟩:=tok_in L [] z h
    exact ⟨fun c hc=>.inr (List.mem_cons_of_mem _ ((h1 c hc).resolve_left (by simp))),by rw [List.length_cons]; simp at h2; omega⟩
  ·split at h
   ·rcases List.mem_append.mp h with h | h
    ·exact fl h
    ·rcases List.mem_cons.mp h with rfl | h
     ·exact ⟨fun c hc=>.inr (by rw [List.mem_singleton.mp hc]; exact List.mem_cons_self),by simp; omega⟩
     ·obtain ⟨h1,h2⟩:=tok_in L [] z h
      exact ⟨fun c hc=>.inr (List.mem_cons_of_mem _ ((h1 c hc).resolve_left (by simp))),by rw [List.length_cons]; simp at h2; omega⟩
   ·obtain ⟨h1,h2⟩:=tok_in L (cur ++ [a]) z h
    refine ⟨fun c hc=>?_,by rw [List.length_append,List.length_singleton] at h2; rw [List.length_cons]; omega⟩
    rcases h1 c hc with h | h
    ·rcases List.mem_append.mp h with h | h
     ·exact .inl h
     ·exact .inr (by rw [List.mem_singleton.mp h]; exact List.mem_cons_self)
    ·exact .inr (List.mem_cons_of_mem _ h)
theorem okC_lt {c:Nat} (h:okC c = true):c < 128:=by
 unfold okC at h
 rw [inS_is,inS_is,inS_is,Bool.or_eq_true,Bool.or_eq_true,List.contains_iff_mem,List.contains_iff_mem,List.contains_iff_mem] at h
 rcases h with (h | h) | h
 ·exact (show ∀ c∈("abcdefghijklmnopqrstuvwxyz" : Str).cps.toList,c < 128 by decide +kernel) c h
 ·exact (show ∀ c∈("{};|" : Str).cps.toList,c < 128 by decide +kernel) c h
 ·exact (show ∀ c∈(" \n" : Str).cps.toList,c < 128 by decide +kernel) c h
theorem words_rs {x:Str} (hl:x.length≤3000) (ok:x.cps.toList.all okC = true):∀ y∈wordsT x,rsW y:=fun y hy=>by
 have e:=words_marks x
 have hy2:y.cps.toList∈tok [] x.cps.toList:=by rw [← e]; exact List.mem_map_of_mem hy
 obtain ⟨h1,h2⟩:=tok_in _ _ _ hy2
 have l1:y.length≤3000:=by
  have:y.cps.toList.length = y.length:=by simp [Str.length]
  have:x.cps.toList.length = x.length:=by simp [Str.length]
  simp only [List.length_nil,Nat.zero_add] at h2
  omega
 refine ⟨l1,?_⟩
 have:=reprText_len y fun c hc=>by
  have:=okC_lt (List.all_eq_true.mp ok c ((h1 c hc).resolve_left (by simp)))
  exact Nat.lt_of_lt_of_le this (by decide)
 omega
def spProgram (cNT:Addr):Sp:=fun vs H Q E=>∃ x:Str,vs = [.str x]∧x.length≤3000 ∧
 ((x.cps.toList.all okC = true∧mostO (wordsT x)≤16∧∃ ins outs d t,d≤20∧Whole (wordsT x) ins outs d t∧∀ v H',Same H H'→NamedAt H' v ins outs t→Q v H') ∨
  (BadT x∧∀ H',Same H H'→E (.ref cNT) none H'))
abbrev V5 (d:Nat) (r4:List Str) (QQ:Nd→Prop) (EE:Prop):Prop:=Two (fun t r'=>PBlock d r4 t r'∧((r' = []∧QQ t)∨(¬ hdS r' = "" ∧ EE))) (FBlock d r4∧EE)
abbrev V4 (d:Nat) (r3:List Str) (QQ:Nd→Prop) (EE:Prop):Prop:=(¬ hdS r3 = ";" ∧ EE)∨∃ r4:List Str,r3 = (";" : Str) :: r4∧V5 d r4 QQ EE
abbrev V3 (d:Nat) (r2:List Str) (QQ:List Str→Nd→Prop) (EE:Prop):Prop:=(¬ hdS r2 = "out" ∧ EE)∨∃ outs r3:List Str,r2 = ("out" : Str) :: (outs ++ r3)∧NmL outs∧nameB (hdS r3) = false∧V4 d r3 (QQ outs) EE
abbrev V2 (d:Nat) (r1:List Str) (QQ:List Str→Nd→Prop) (EE:Prop):Prop:=(¬ hdS r1 = ";" ∧ EE)∨∃ r2:List Str,r1 = (";" : Str) :: r2∧V3 d r2 QQ EE
abbrev V1 (d:Nat) (ws:List Str) (QQ:List Str→List Str→Nd→Prop) (EE:Prop):Prop:=(¬ hdS ws = "in" ∧ EE)∨∃ ins r1:List Str,ws = ("in" : Str) :: (ins ++ r1)∧NmL ins∧nameB (hdS r1) = false∧V2 d r1 (QQ ins) EE
theorem v1_ok {ws ins outs:List Str} {d:Nat} {t:Nd} {QQ:List Str→List Str→Nd→Prop} {EE:Prop} (h:Whole ws ins outs d t) (hd:d≤20) (q:QQ ins outs t):∃ d,d≤20∧V1 d ws QQ EE:=by
 obtain ⟨⟨r,rfl,hB⟩,nI,nO,lI,lO⟩:=h
 exact ⟨d,hd,.inr ⟨ins,_,rfl,⟨nI,lI⟩,name_semi,.inr ⟨_,rfl,.inr ⟨outs,_,rfl,⟨nO,lO⟩,name_semi,.inr ⟨_,rfl,.ok t [] ⟨hB,.inl ⟨rfl,q⟩⟩⟩⟩⟩⟩⟩
theorem v1_no {ws:List Str} {QQ:List Str→List Str→Nd→Prop} {EE:Prop} (h:FWhole ws) (e:EE):∃ d,d≤20∧V1 d ws QQ EE:=by
 cases h with
 | noIn h=>exact ⟨0,by decide,.inl ⟨h,e⟩⟩
 | semi1 n h h2=>exact ⟨0,by decide,.inr ⟨_,_,rfl,n,h,.inl ⟨h2,e⟩⟩⟩
 | noOut n h=>exact ⟨0,by decide,.inr ⟨_,_,rfl,n,name_semi,.inr ⟨_,rfl,.inl ⟨h,e⟩⟩⟩⟩
 | semi2 n n2 h h2=>exact ⟨0,by decide,.inr ⟨_,_,rfl,n,name_semi,.inr ⟨_,rfl,.inr ⟨_,_,rfl,n2,h,.inl ⟨h2,e⟩⟩⟩⟩⟩
 | blk n n2 hd h=>exact ⟨_,hd,.inr ⟨_,_,rfl,n,name_semi,.inr ⟨_,rfl,.inr ⟨_,_,rfl,n2,name_semi,.inr ⟨_,rfl,.no ⟨h,e⟩⟩⟩⟩⟩⟩
 | more n n2 hd h h2=>exact ⟨_,hd,.inr ⟨_,_,rfl,n,name_semi,.inr ⟨_,rfl,.inr ⟨_,_,rfl,n2,name_semi,.inr ⟨_,rfl,.ok _ _ ⟨h,.inr ⟨h2,e⟩⟩⟩⟩⟩⟩⟩
theorem rs_hd {a b:List Str} (h:∀ y∈a ++ b,rsW y):rsW (hdS b):=by
 cases b with
 | nil=>exact rs_empty
 | cons x r=>exact h x (List.mem_append_right _ List.mem_cons_self)
theorem lens_of {ns r:List Str} (h:∀ x∈ns,nameB x = true) (hr:rsW (hdS r)):∀ x∈ns ++ [hdS r],x.length≤1000000:=fun x hx=>by
 rcases List.mem_append.mp hx with z | z
 ·exact Nat.le_trans (nameB_len (h x z)) (by decide)
 ·rw [List.mem_singleton.mp z]; exact Nat.le_trans hr.1 (by decide)
section
variable {P:Program} {w:World} {K:PySem.W.Frag} {mg:Str→Option Value} {base:Heap} {C aK aB aM aR cNT fI:Addr} {fdI:FuncData}
set_option maxHeartbeats 16000000 in
theorem ok_program (F:FunM K mg "read_program" ["text"] s_read_program) (T:TxtR K mg C aK aB aM aR) (cs:Cst K mg cNT) (c16:∃ t,mg "MOST_OPEN" = some (.int 16 t)) (MkW:Mk K C fI) (GI:FnOk P w K mg base CX0 1 fI fdI ["self", "words"] (spInit C)) (bI:Binds K fdI ["self", "words"] [])
  (C_words_of:CalleeX P w K mg base 1 "words_of" ["text"] (spWordsOf cNT)) (C_most_open:Callee P w K mg base 1 "most_open" ["words"] (spMost K))
  (M_expect:MethX P w K mg base 3 C "expect" ["self", "wanted"] (spExpect C cNT)) (M_take_names:MethM P w K mg base 3 C "take_names" ["self"] (spTakeNames C)) (M_expect_end:MethX P w K mg base 2 C "expect_end" ["self"] (spExpectEnd C cNT))
  (CB:∀ d,CalleeX P w K mg base (5 * d + 9) "read_block" ["words"] (spPX C cNT (PBlock d) (FBlock d))):CalleeX P w K mg base 110 "read_program" ["text"] (spProgram cNT):=by
 refine F.okX sc_read_program (fun vs H Q E h=>?_) (fun f cdv A outer s H vs Q E hr h=>?_)
 ·obtain ⟨x,rfl,_⟩:=h
  rfl
 obtain ⟨x,rfl,hl,h⟩:=h
 obtain ⟨t16,m16⟩:=c16
 by_cases hbad:x.cps.toList.all okC = false∨16 < mostO (wordsT x)
 ·have hE:∀ H',Same H H'→E (.ref cNT) none H':=by
   rcases h with ⟨hok,hmo,_⟩ | ⟨_,hE⟩
   ·rcases hbad with z | z
    ·rw [hok] at z; cases z
    ·omega
   ·exact hE
  refine ⟨_,(pss_cons (ps_set (i:=1) sc_read_program.nd rfl (Or.inl rfl) (pe_callX C_words_of hr rfl (pa_cons (pv 0) pa_nil)))
  (pss_cons (ps_if (pt_cmpR op_gt (pe_callC C_most_open hr rfl pass0 (pa_cons (pv 1) pa_nil)) (pe_glob (v:=.int 16) rfl m16 ⟨_,rfl⟩) (nomark _))
   (pss_one (ps_raise cs.excNT cs.noText rfl (pa_cons pe_str pa_nil)))
   pss_nil)
  pss_never)),?_⟩
  refine ⟨_,rfl,x,rfl,hl,?_⟩
  cases hok:x.cps.toList.all okC with
  | false=>exact .inr ⟨rfl,hE _ (Same.refl _)⟩
  | true =>
   refine .inl ⟨rfl,fun p hp=>?_⟩
   have hmo:16 < mostO (wordsT x):=by
    rcases hbad with z | z
    ·rw [hok] at z; cases z
    ·exact z
   refine ⟨_,rfl,p,wordsT x,rfl,SqL.of upd_same,_,_,rfl,rfl,_,rfl,iteB (fun _=>⟨by show 1≤sizeLine; decide,hE _ (same_new hp _)⟩) fun z=>?_⟩
   exact absurd hmo (of_decide_eq_false z)
 have hok:x.cps.toList.all okC = true:=by
  cases z:x.cps.toList.all okC with
  | true=>rfl
  | false=>exact absurd (.inl z) hbad
 have hmo:mostO (wordsT x)≤16:=by
  by_cases z:16 < mostO (wordsT x)
  ·exact absurd (.inr z) hbad
  ·omega
 have rs:=words_rs hl hok
 obtain ⟨d,hd,VV⟩:∃ d,d≤20∧V1 d (wordsT x) (fun ins outs t=>∀ v H',Same H H'→NamedAt H' v ins outs t→Q v H') (∀ H',Same H H'→E (.ref cNT) none H'):=by
  rcases h with ⟨_,_,ins,outs,d,t,hd,Wh,q⟩ | ⟨b,hE⟩
  ·exact v1_ok Wh hd q
  ·rcases b with z | z | z
   ·exact absurd (.inl z) hbad
   ·exact absurd (.inr z) hbad
   ·exact v1_no z hE
 clear h hbad
 have C_read_block:CalleeX P w K mg base 109 "read_block" ["words"] (spPX C cNT (PBlock d) (FBlock d)):=(CB d).mono (by omega)
 refine ⟨_,(pss_cons (ps_set (i:=1) sc_read_program.nd rfl (Or.inl rfl) (pe_callX C_words_of hr rfl (pa_cons (pv 0) pa_nil)))
 (pss_cons (ps_if (pt_cmpR op_gt (pe_callC C_most_open hr rfl pass0 (pa_cons (pv 1) pa_nil)) (pe_glob (v:=.int 16) rfl m16 ⟨_,rfl⟩) (nomark _))
  (pss_one ps_never)
  pss_nil)
 (pss_cons (ps_set (i:=2) sc_read_program.nd rfl (Or.inl rfl) (pe_make MkW GI (hr.mono (by decide)) rfl T.m_Words bI .nil pass0 (pa_cons (pv 1) pa_nil)))
 (pss_cons (ps_expr (pe_methX M_expect hr (pv 2) (pa_cons pe_str pa_nil)))
 (pss_cons (ps_set (i:=3) sc_read_program.nd rfl (Or.inl rfl) (pe_methC0 M_take_names hr pass0 (pv 2)))
 (pss_cons (ps_expr (pe_methX M_expect hr (pv 2) (pa_cons pe_str pa_nil)))
 (pss_cons (ps_expr (pe_methX M_expect hr (pv 2) (pa_cons pe_str pa_nil)))
 (pss_cons (ps_set (i:=4) sc_read_program.nd rfl (Or.inl rfl) (pe_methC0 M_take_names hr pass0 (pv 2)))
 (pss_cons (ps_expr (pe_methX M_expect hr (pv 2) (pa_cons pe_str pa_nil)))
 (pss_cons (ps_set (i:=5) sc_read_program.nd rfl (Or.inl rfl) (pe_callX C_read_block hr rfl (pa_cons (pv 2) pa_nil)))
 (pss_cons (ps_expr (pe_methX0 M_expect_end hr (pv 2)))
 (pss_one (ps_ret (pe_tup (pa_cons (pv 3) (pa_cons (pv 4) (pa_cons (pv 5) pa_nil))))))))))))))))),?_⟩
 refine ⟨_,rfl,x,rfl,hl,.inl ⟨hok,fun p hp=>?_⟩⟩
 refine ⟨_,rfl,p,wordsT x,rfl,SqL.of upd_same,_,_,rfl,rfl,_,rfl,iteB (fun z=>?_) fun _=>?_⟩
 ·have:=of_decide_eq_true z
  omega
 have gp:=same_new hp (.lst ((wordsT x).map V.str))
 refine ⟨_,rfl,fun o dx no ndx nex=>?_⟩
 have hpp:(L2.upd H p (.lst ((wordsT x).map V.str))) p = some (.lst ((wordsT x).map V.str)):=upd_same
 have hpo:p≠o:=fun z=>by rw [← z,hpp] at no; cases no
 have hpd:p≠dx:=fun z=>by rw [← z,hpp] at ndx; cases ndx
 have s0:Same (L2.upd H p (.lst ((wordsT x).map V.str))) (upd (upd (L2.upd H p (.lst ((wordsT x).map V.str))) dx (.own o)) o (.ins C dx [])):=fun b u e=>by
  rw [upd_ne (ne_of_none e no),upd_ne (ne_of_none e ndx)]
  exact e
 refine ⟨o,dx,p,wordsT x,rfl,upd_same,s0 _ _ hpp,rs,fun H2 k2 W2=>⟨rfl,?_⟩⟩
 have oH:H o = none:=gp.free no
 have g2:Same H H2:=(gp.trans s0).byKp oH k2
 obtain ⟨dx2,p2,ho2⟩:=W2.ins
 refine ⟨_,rfl,o,dx2,_,rfl,ho2,w_no.2.2.1,o,p,_,_,rfl,W2,rs_lit.2.2.2.2.2.1,?_⟩
 rcases VV with ⟨ne,e⟩ | ⟨ins,r1,ew,⟨nI,lI⟩,hn1,VV⟩
 ·exact .inr ⟨ne,fun H3 k3=>e _ (g2.byKp oH k3)⟩
 rw [ew] at rs
 refine .inl ⟨by rw [ew]; rfl,fun H3 k3 W3=>?_⟩
 rw [ew] at W3
 have W3:WsR C H3 o p (ins ++ r1):=W3
 obtain ⟨dx3,p3,ho3⟩:=W3.ins
 have g3:=g2.byKp oH k3
 have rs1:rsW (hdS r1):=rs_hd (a:=("in" : Str) :: ins) rs
 refine ⟨_,rfl,o,dx3,_,rfl,ho3,w_no.2.2.2.2.1,o,p,ins,_,rfl,W3,nI,lens_of nI rs1,hn1,Nat.le_trans lI (by decide),fun pi H4 k4 npi hpi W4=>?_⟩
 have hio:pi≠o:=fun z=>by rw [z,ho3] at npi; cases npi
 obtain ⟨dx4,p4,ho4⟩:=W4.ins
 have g4:=g3.byKp oH k4
 refine ⟨_,rfl,o,dx4,_,rfl,ho4,w_no.2.2.1,o,p,_,_,rfl,W4,rs_lit.1,?_⟩
 rcases VV with ⟨ne,e⟩ | ⟨r2,rfl,VV⟩
 ·exact .inr ⟨ne,fun H5 k5=>e _ (g4.byKp oH k5)⟩
 refine .inl ⟨rfl,fun H5 k5 W5=>?_⟩
 obtain ⟨dx5,p5,ho5⟩:=W5.ins
 have g5:=g4.byKp oH k5
 refine ⟨_,rfl,o,dx5,_,rfl,ho5,w_no.2.2.1,o,p,_,_,rfl,W5,rs_lit.2.2.2.2.2.2,?_⟩
 rcases VV with ⟨ne,e⟩ | ⟨outs,r3,er2,⟨nO,lO⟩,hn3,VV⟩
 ·exact .inr ⟨ne,fun H6 k6=>e _ (g5.byKp oH k6)⟩
 have er2:r2 = ("out" : Str) :: (outs ++ r3):=er2
 subst er2
 refine .inl ⟨rfl,fun H6 k6 W6=>?_⟩
 obtain ⟨dx6,p6,ho6⟩:=W6.ins
 have g6:=g5.byKp oH k6
 have rs3:rsW (hdS r3):=rs_hd (a:=("in" : Str) :: (ins ++ (";" : Str) :: ("out" : Str) :: outs)) (fun y hy=>rs y (by simpa using hy))
 refine ⟨_,rfl,o,dx6,_,rfl,ho6,w_no.2.2.2.2.1,o,p,outs,_,rfl,W6,nO,lens_of nO rs3,hn3,Nat.le_trans lO (by decide),fun po H7 k7 npo hpo7 W7=>?_⟩
 have hoo:po≠o:=fun z=>by rw [z,ho6] at npo; cases npo
 obtain ⟨dx7,p7,ho7⟩:=W7.ins
 have g7:=g6.byKp oH k7
 refine ⟨_,rfl,o,dx7,_,rfl,ho7,w_no.2.2.1,o,p,_,_,rfl,W7,rs_lit.1,?_⟩
 rcases VV with ⟨ne,e⟩ | ⟨r4,rfl,VV⟩
 ·exact .inr ⟨ne,fun H8 k8=>e _ (g7.byKp oH k8)⟩
 refine .inl ⟨rfl,fun H8 k8 W8=>?_⟩
 have g8:=g7.byKp oH k8
 refine ⟨_,rfl,o,p,_,rfl,W8,?_⟩
 cases VV with
 | no z=>exact .no ⟨z.1,fun H9 k9=>z.2 _ (g8.byKp oH k9)⟩
 | ok t r' z =>
 refine .ok t r' ⟨z.1,fun vb H9 k9 W9 A9=>?_⟩
 obtain ⟨dx9,p9,ho9⟩:=W9.ins
 have g9:=g8.byKp oH k9
 refine ⟨_,rfl,o,dx9,_,rfl,ho9,w_no.2.2.2.2.2,o,p,_,rfl,W9,?_⟩
 rcases z.2 with ⟨rfl,q⟩ | ⟨ne,e⟩
 ·refine .inl ⟨rfl,⟨_,rfl,_,rfl,_,rfl,(by show 3≤sizeLine; decide),fun th hth=>?_⟩⟩
  have gt:=same_new hth (.tup [.ref pi,.ref po,vb])
  refine q _ _ (g9.trans gt) ⟨th,pi,po,vb,rfl,upd_same,gt _ _ ?_,gt _ _ ?_,A9.mono gt.tp⟩
  ·exact ((((k5.trans k6).trans k7).trans k8).trans k9) _ _ hio hpi
  ·exact (k8.trans k9) _ _ hoo hpo7
 ·exact .inr ⟨ne,e _ g9⟩
end
end My
end
section
set_option Elab.async false
set_option linter.all false
set_option maxRecDepth 100000
set_option maxHeartbeats 4000000
namespace My
open PySem L2
def spInner:Sp:=fun vs H Q _=>∃ v xs,vs = [v]∧At H (.t xs) v∧xs.length≤8∧∀ r ws,H r = none→AtL H (inner xs) ws→Q (.ref r) (upd H r (.lst ws))
def spEvery:Sp:=fun vs H Q _=>∃ v n,vs = [v]∧At H n v∧isT n = true∧slim n = true∧cnt n≤1200∧∀ r ws H',Same H H'→H' r = some (.lst ws)→AtL H' (pre n) ws→Q (.ref r) H'
section
variable {P:Program} {w:World} {K:PySem.W.Frag} {mg:Str→Option Value} {base:Heap}
theorem ok_inner (F:FunM K mg "inner_parts" ["part"] s_inner_parts) (T:Txt mg):Callee P w K mg base 1 "inner_parts" ["part"] spInner:=by
 refine F.ok sc_inner_parts (fun vs H Q E h=>?_) (fun f cdv A outer s H vs Q E hr h=>?_)
 ·obtain ⟨v,xs,rfl,_⟩:=h
  rfl
 obtain ⟨v,xs,rfl,hv,hl,q⟩:=h
 refine ⟨_,pss_one (ps_ret (pe_comp (tc:=tB (tCB (rIsi K) (tCons (tVar 0) (tCons (tC (.ty "tuple")) tNil)))) ["piece"] [] rfl (compOk (defScope s_inner_parts) ["part"] (by decide +kernel)) (pi_tup (pv 0))
  (fun s2 H2 fp cl C=>pg_name (i:=0) (show List.Nodup [("piece" : Str)] from by decide +kernel) rfl (Or.inl rfl)) (gkeep_name (by decide))
  (fun s2 H2 fp cl C=>pif_one (pt_val (pe_callB call_isinst rfl T.n_isinstance PyProof.Rows.boot_isinstance (pa_cons (pv 0) (pa_cons (pe_bltn rfl T.n_tuple (by decide +kernel) (v:=.ty "tuple") rfl) pa_nil)))))
  (fun s2 H2 fp cl C=>pv 0))),?_⟩
 obtain ⟨a,vs,rfl,ha,hx⟩:=hv.get
 refine ⟨_,rfl,a,rfl,⟨_,SqT.of ha⟩,?_⟩
 have hlen:=hx.len
 refine comp_by (xs:=vs) (F:=fun D ys H=>Q (.ref D) (upd H D (.lst ys))) (fun i ys H'=>H' = H∧AtL H (inner (xs.take i)) ys) ⟨rfl,by simpa [inner] using AtL.nil⟩ (small (by omega))
  (fun i ys H' hi ⟨e,_⟩=>⟨vs,vs[i],by rw [e]; exact SqT.of ha,by simp [hi]⟩) (fun ys H' ⟨e,_⟩=>⟨vs,by rw [e]; exact SqT.of ha,Nat.le_refl _⟩)
  (fun i ys H1 x H2 ⟨e,_⟩ ⟨e',y⟩=>⟨e',y vs (by rw [e]; exact SqT.of ha)⟩) ?_ (fun x σ H Q Q' h q=>h _ _ q) ?_ ?_ ?_
 ·rintro i x ys H' hi ⟨rfl,hy⟩
  obtain ⟨n,hn,hax⟩:=hx.at hi
  obtain ⟨t,ty,ek⟩:=ty_of (K:=K) hax
  have hxt:xs.take (i + 1) = xs.take i ++ [n]:=by
   rw [List.take_add_one,hn]; rfl
  refine ⟨x,rfl,_, "tuple", t,_,rfl,ty,ek,_,rfl,?_⟩
  refine ite2 (fun c=>?_) (fun c=>?_)
  ·refine ⟨x,rfl,rfl,?_⟩
   have:inner (xs.take (i + 1)) = inner (xs.take i) ++ [n]:=by rw [hxt]; simp [inner,c]
   rw [this]
   exact hy.append (.cons hax .nil)
  ·refine ⟨rfl,?_⟩
   have:inner (xs.take (i + 1)) = inner (xs.take i):=by rw [hxt]; simp [inner,c]
   rw [this]
   exact hy
 ·rintro σ H Q Q' h ⟨v,e,x,T,t,b,e2,ty,ek,c,e3,q⟩
  exact ⟨v,e,x,T,t,b,e2,ty,ek,c,e3,h _ _ q⟩
 ·rintro σ H Q Q' h ⟨v,e,q⟩
  exact ⟨v,e,h _ _ q⟩
 ·rintro ys H' ⟨rfl,hy⟩ D hD
  refine q D ys hD ?_
  rw [List.take_of_length_le (by omega)] at hy
  exact hy
theorem ok_every (F:FunM K mg "every_part" ["part"] s_every_part) (C_inner_parts:Callee P w K mg base 1 "inner_parts" ["part"] spInner):Callee P w K mg base 2 "every_part" ["part"] spEvery:=by
 refine F.ok sc_every_part (fun vs H Q E h=>?_) (fun f cdv A outer s H vs Q E hr h=>?_)
 ·obtain ⟨v,n,rfl,_⟩:=h
  rfl
 obtain ⟨v,n,rfl,hv,hT,hs,hc,q⟩:=h
 refine ⟨_,pss_cons (ps_set (i:=1) sc_every_part.nd rfl (Or.inl rfl) (pe_lst pa_nil))
  (pss_cons (ps_set (i:=2) sc_every_part.nd rfl (Or.inl rfl) (pe_lst (pa_cons (pv 0) pa_nil)))
  (pss_cons (ps_while PassesOwn.never (pt_truth (pv 2) (fun _=>rfl))
   (pss_cons (ps_set (i:=3) sc_every_part.nd rfl (Or.inl rfl) (pe_bm0 PySem.F.plainAttrs_list PySem.F.slot_list_pop PySem.F.type_list_pop mt_pop (pv 2)))
   (pss_cons (ps_expr (pe_bm PySem.F.plainAttrs_list PySem.F.slot_list_append PySem.F.type_list_append mt_append (pv 1) (pa_cons (pv 3) pa_nil)))
   (pss_one (ps_expr (pe_bm PySem.F.plainAttrs_list PySem.F.slot_list_extend PySem.F.type_list_extend mt_extend (pv 2) (pa_cons (pe_callC C_inner_parts hr rfl pass0 (pa_cons (pv 3) pa_nil)) pa_nil)))))))
  (pss_one (ps_ret (pv 1))))),?_⟩
 refine ⟨(by show 0≤sizeLine; decide),fun fo hfo=>⟨_,rfl,(by show 1≤sizeLine; decide),fun wa hwa=>?_⟩⟩
 have hwfo:wa≠fo:=by
  rintro rfl
  rw [upd_same] at hwa
  cases hwa
 have hwaH:H wa = none:=by rw [upd_ne hwfo] at hwa; exact hwa
 dsimp only [gName,tSeq]
 refine while_by (fun σ H1=>∃ fs st us ws hv',σ = [some v,some (.ref fo),some (.ref wa),hv']∧Same H H1∧H1 fo = some (.lst us)∧H1 wa = some (.lst ws)∧AtL H1 fs us∧AtL H1 st ws∧fs ++ preL st = pre n∧(∀ x∈st,isT x = true)∧slimL st = true)
  (fun σ H1=>match H1 fo with | some (.lst us)=>1300 - us.length | _=>0) ?_ ?_ ?_
 ·refine ⟨[],[n],[],[v],none,rfl,(same_new hfo _).trans (same_new hwa _),?_,upd_same,.nil,?_,?_,?_,?_⟩
  ·rw [upd_ne hwfo.symm,upd_same]
  ·exact .cons (hv.mono ((same_new hfo _).trans (same_new hwa _)).tp) .nil
  ·show preL [n] = pre n
   rw [preL_cons,preL_nil,List.nil_append]
  ·intro x hx
   rw [List.mem_singleton.mp hx]
   exact hT
  ·exact slimL_cons hs slimL_nil
 ·rintro σ H1 ⟨fs,st,us,ws,hv',rfl,g0,hf,hw,aF,aS,e,hTs,hsl⟩
  refine ⟨_,rfl,_,.inl ⟨ws,SqL.of hw,rfl⟩,?_⟩
  refine ite2 (fun c=>?_) (fun c=>?_)
  ·
   have hne:st≠[]:=by
    rintro rfl
    have:=aS.len
    cases ws with
    | nil=>simp at c
    | cons _ _=>simp at this
   obtain ⟨st',x,rfl⟩:∃ st' x,st = st' ++ [x]:=⟨st.dropLast,st.getLast hne,(List.dropLast_concat_getLast hne).symm⟩
   obtain ⟨ws',wx,rfl,aS',aX⟩:=aS.split
   obtain ⟨y,rfl,aY⟩:=aX.one
   have hx:isT x = true:=hTs x (by simp)
   obtain ⟨ns,rfl⟩:∃ ns,x = .t ns:=by
    cases x with
    | t ns=>exact ⟨ns,rfl⟩
    | s _=>cases hx
    | i _=>cases hx
   have hlen:fs.length + (preL (st' ++ [.t ns])).length = cnt n:=by
    have:=congrArg List.length e
    rw [List.length_append] at this
    exact this
   have hpx:preL (st' ++ [.t ns]) = .t ns :: (preL ns ++ preL st'):=by
    rw [preL_append,preL_cons,preL_nil,List.nil_append,pre_t]; rfl
   have hfl:=aF.len
   have sl:=slimL_left hsl
   have slx:=slim_one sl.2
   have fle:fs.length < 1300:=by rw [hpx] at hlen; simp at hlen; omega
   have wle:(ws' ++ [y]).length≤1200:=by
    have h1:=aS.len
    have h2:(st' ++ [Nd.t ns]).length≤(preL (st' ++ [.t ns])).length:=by
     have:∀ l:List Nd,(∀ x∈l,isT x = true)→l.length≤(preL l).length:=by
      intro l
      induction l with
      | nil=>intro _; exact Nat.zero_le _
      | cons z r ih =>
       intro h
       rw [preL_cons,List.length_append,List.length_cons]
       have hz:=h z List.mem_cons_self
       have:=ih fun x hx=>h x (List.mem_cons_of_mem _ hx)
       cases z with
       | t zs=>rw [pre_t,List.length_cons]; omega
       | s _=>cases hz
       | i _=>cases hz
     exact this _ hTs
    omega
   refine ⟨_,rfl,.inl ⟨rfl,_,SqL.of hw⟩,wa,_,y,rfl,rfl,hw,by simp,?_⟩
   have nfw:fo≠wa:=hwfo.symm
   have hf1:(upd H1 wa (.lst (ws' ++ [y]).dropLast)) fo = some (.lst us):=by rw [upd_ne nfw]; exact hf
   have T1:Tp H1 (upd H1 wa (.lst (ws' ++ [y]).dropLast)):=Tp.lst hw
   refine ⟨_,rfl,.inl ⟨rfl,_,SqL.of hf1⟩,_,rfl,fo,_,_,rfl,rfl,hf1,Nat.lt_of_le_of_lt (show us.length≤1300 by omega) (by decide),?_⟩
   have T2:=T1.trans (Tp.lst (o:=.lst (us ++ [y])) hf1)
   have hw2:(upd (upd H1 wa (.lst (ws' ++ [y]).dropLast)) fo (.lst (us ++ [y]))) wa = some (.lst ws'):=by rw [upd_ne hwfo,upd_same]; simp
   have hf2:(upd (upd H1 wa (.lst (ws' ++ [y]).dropLast)) fo (.lst (us ++ [y]))) fo = some (.lst (us ++ [y])):=upd_same
   refine ⟨_,rfl,.inl ⟨rfl,_,SqL.of hw2⟩,_,rfl,y,ns,rfl,aY.mono T2,slim_len slx,fun r zs hr0 hz=>?_⟩
   have nrw:wa≠r:=ne_of_none hw2 hr0
   have nrf:fo≠r:=ne_of_none hf2 hr0
   have T3:=T2.trans (Tp.new (o:=.lst zs) hr0)
   have zl:=hz.len
   have il:(inner ns).length≤ns.length:=List.length_filter_le _ _
   refine ⟨wa,r,ws',zs,rfl,rfl,by rw [upd_ne nrw]; exact hw2,upd_same,?_,?_⟩
   ·have:=slim_len slx
    simp at wle
    exact Nat.le_trans (show _≤1300 by omega) (by decide)
   have T4:=T3.trans (Tp.lst (o:=.lst (ws' ++ zs)) (a:=wa) (ys:=ws') (by rw [upd_ne nrw]; exact hw2))
   refine ⟨⟨fs ++ [.t ns],st' ++ inner ns,us ++ [y],ws' ++ zs,_,rfl,?_,?_,upd_same,?_,?_,?_,?_,?_⟩,?_⟩
   ·have hr0':H r = none:=by
     cases e:H r with
     | none=>rfl
     | some o =>
      have h1:=g0 r o e
      rw [upd_ne nrf.symm,upd_ne nrw.symm] at hr0
      rw [h1] at hr0
      cases hr0
    exact (((g0.young hwaH _).young hfo _).young hr0' _).young hwaH _
   ·rw [upd_ne nfw,upd_ne nrf]
    exact hf2
   ·exact (aF.mono T4).append (.cons (aY.mono T4) .nil)
   ·have T5:Tp (upd (upd H1 wa (.lst (ws' ++ [y]).dropLast)) fo (.lst (us ++ [y]))) (upd (upd (upd (upd H1 wa (.lst (ws' ++ [y]).dropLast)) fo (.lst (us ++ [y]))) r (.lst zs)) wa (.lst (ws' ++ zs))) :=
     (Tp.new (o:=.lst zs) hr0).trans (Tp.lst (o:=.lst (ws' ++ zs)) (a:=wa) (ys:=ws') (by rw [upd_ne nrw]; exact hw2))
    exact (aS'.mono T4).append (hz.mono T5)
   ·rw [preL_append,preL_inner,← e,hpx]
    simp
   ·intro x hx
    rcases List.mem_append.mp hx with z | z
    ·exact hTs x (List.mem_append_left _ z)
    ·exact inner_T x z
   ·exact slimL_append sl.1 (slimL_inner (slim_in slx))
   ·show (match (upd (upd (upd (upd H1 wa (.lst (ws' ++ [y]).dropLast)) fo (.lst (us ++ [y]))) r (.lst zs)) wa (.lst (ws' ++ zs))) fo with | some (.lst us)=>1300 - us.length | _=>0) < (match H1 fo with | some (.lst us)=>1300 - us.length | _=>0)
    rw [upd_ne nfw,upd_ne nrf,hf2,hf]
    show 1300 - (us ++ [y]).length < 1300 - us.length
    rw [List.length_append,List.length_singleton]
    omega
  ·
   have hw0:ws = []:=by
    cases ws with
    | nil=>rfl
    | cons _ _=>simp at c
   subst hw0
   have h0:=aS.len
   have:st = []:=List.length_eq_zero_iff.mp h0
   subst this
   rw [preL_nil,List.append_nil] at e
   subst e
   exact ⟨_,rfl,q fo us H1 g0 hf aF⟩
 ·rintro σ H Q Q' h ⟨v,e,k,t,q⟩
  exact ⟨v,e,k,t,h _ _ q⟩
end
def spParts:Sp:=fun vs H Q _=>∃ v n,vs = [v]∧At H n v∧isT n = true∧slim n = true∧cnt n≤1200∧∀ H',Same H H'→Q (.int (cnt n)) H'
section
variable {P:Program} {w:World} {K:PySem.W.Frag} {mg:Str→Option Value} {base:Heap}
theorem ok_parts (F:FunM K mg "parts" ["block"] s_parts) (T:Txt mg) (C_every_part:Callee P w K mg base 2 "every_part" ["part"] spEvery):Callee P w K mg base 3 "parts" ["block"] spParts:=by
 refine F.ok sc_parts (fun vs H Q E h=>?_) (fun f cdv A outer s H vs Q E hr h=>?_)
 ·obtain ⟨v,n,rfl,_⟩:=h
  rfl
 obtain ⟨v,n,rfl,hv,hT,hs,hc,q⟩:=h
 refine ⟨_,(pss_one (ps_ret (pe_callB call_len_seq rfl T.n_len PySem.boot_len (pa_cons (pe_callC C_every_part hr rfl pass0 (pa_cons (pv 0) pa_nil)) pa_nil)))),?_⟩
 refine ⟨_,rfl,v,n,rfl,hv,hT,hs,hc,fun r ws H' g e a=>?_⟩
 refine ⟨r,ws,rfl,.inl (SqL.of e),?_⟩
 have:=a.len
 rw [← this]
 exact q H' g
end
def users:List Str:=["send", "keep", "await", "if", "hold", "watch", "weak"]
def wordOf:List Nd→Str
 | .s x :: _=>x
 | _=> ""
def nameOf:List Nd→Str
 | _ :: .s x :: _=>x
 | _=> ""
def useOk (xs:List Nd) (sg tr:List Str):Bool:=(!users.contains (wordOf xs) || sg.contains (nameOf xs)) && (!decide (wordOf xs = "exit") || tr.contains (nameOf xs))
def sgIn (xs:List Nd) (sg:List Str):List Str:=if wordOf xs = "local" then sg ++ [nameOf xs] else sg
def trIn (xs:List Nd) (tr:List Str):List Str:=if wordOf xs = "trap" then tr ++ [nameOf xs] else tr
mutual
def chk:Nd→List Str→List Str→Bool
 | .t xs,sg,tr=>useOk xs sg tr && chkL xs (sgIn xs sg) (trIn xs tr)
 | _,_,_=>true
def chkL:List Nd→List Str→List Str→Bool
 | [],_,_=>true
 | x :: xs,sg,tr=>chk x sg tr && chkL xs sg tr
end
mutual
def hN:Nd→Nat
 | .t xs=>hNL xs + 1
 | _=>0
def hNL:List Nd→Nat
 | []=>0
 | x :: xs=>max (hN x) (hNL xs)
end
mutual
def wfN:Nd→Bool
 | .t xs=>decide (xs.length≤8) && (match xs with
  | .s w :: r=>(decide (w∈bareL∨w = "again" ∨ w = "then" ∨ w = "beside") || (match r with
   | .s x :: _=>decide (x.length≤1000)
   | _=>false))
  | _=>false) && wfL xs
 | _=>true
def wfL:List Nd→Bool
 | []=>true
 | x :: xs=>wfN x && wfL xs
end
def spAmong (cNN:Addr):Sp:=fun vs H Q E=>∃ (x:Str) (a:Addr) (sg:List Str),vs = [.str x,.ref a]∧H a = some (.lst (sg.map V.str))∧x.length≤1000∧((sg.contains x = true∧Q .non H)∨(sg.contains x = false∧E (.ref cNN) none H))
section
variable {P:Program} {w:World} {K:PySem.W.Frag} {mg:Str→Option Value} {base:Heap} {cNN aU:Addr}
theorem has_in (x:Str) (sg:List Str):inV (.str x) (sg.map V.str) = sg.contains x:=by
 rw [inV_strs]
 cases h:sg.contains x with
 | true=>exact decide_eq_true (List.contains_iff_mem.mp h)
 | false=>exact decide_eq_false fun z=>by rw [List.contains_iff_mem.mpr z] at h; cases h
theorem ok_among (F:FunM K mg "check_among" ["name", "names"] s_check_among) (hNN:mg "NoName" = some (.ref cNN)) (eNN:ExcC K cNN):CalleeX P w K mg base 1 "check_among" ["name", "names"] (spAmong cNN):=by
 refine F.okX sc_check_among (fun vs H Q E h=>?_) (fun f cdv A outer s H vs Q E hr h=>?_)
 ·obtain ⟨x,a,sg,rfl,_⟩:=h
  rfl
 obtain ⟨x,a,sg,rfl,ha,hl,h⟩:=h
 refine ⟨_,(pss_one (ps_if (pt_cmpR op_notIn_seq (pv 0) (pv 1) (by rfl))
   (pss_one (ps_raise eNN hNN rfl (pa_cons (pe_fstr (.cons pe_str (.cons (pe_fv (pv 0)) .nil))) pa_nil)))
   pss_nil)),?_⟩
 refine ⟨_,rfl,_,rfl,a,_,rfl,.inl (SqL.of ha),rfl,flats _,_,rfl,?_⟩
 have e:=has_in x sg
 rcases h with ⟨hc,q⟩ | ⟨hc,q⟩
 ·refine iteB (fun z=>?_) fun _=>q
  have z':(!inV (.str x) (sg.map V.str)) = true:=z
  rw [e,hc] at z'
  cases z'
 ·refine iteB (fun _=>?_) fun z=>?_
  ·have hx:x.length≤sizeLine:=Nat.le_trans hl (by decide)
   refine ⟨_,rfl,?_,_,rfl,_,rfl,hx,_,rfl,?_,?_,by show 1≤sizeLine; decide,q⟩
   ·decide +kernel
   ·rw [strLen_append]
    exact Nat.le_trans (Nat.add_le_add (show (Str.empty ++ ("nothing here is called " : Str)).length≤100 by decide +kernel) hl) (by decide)
   ·rw [strLen_append]
    exact Nat.le_trans (Nat.add_le_add (show (Str.empty ++ ("nothing here is called " : Str)).length≤100 by decide +kernel) hl) (by decide)
  ·have z':(!inV (.str x) (sg.map V.str)) = false:=z
   rw [e,hc] at z'
   cases z'
end
theorem via {c:TT} {ta tb:TE} {σ:St} {H:Hp} {Q:VK} {S:V→Hp→Prop} (h1:∀ Q':VK,(∀ v H,S v H→Q' v H)→tIf c ta tb σ H Q') (h2:∀ v H,S v H→Q v H):tIf c ta tb σ H Q:=h1 Q h2
def spThere (cNN:Addr) (k:Nat):Sp:=fun vs H Q E=>∃ (v:V) (xs:List Nd) (a b:Addr) (sg tr:List Str),vs = [v,.ref a,.ref b]∧At H (.t xs) v∧H a = some (.lst (sg.map V.str))∧H b = some (.lst (tr.map V.str))∧wfN (.t xs) = true∧hN (.t xs) + 1≤k∧sg.length + hN (.t xs)≤100000∧tr.length + hN (.t xs)≤100000 ∧
 ((chk (.t xs) sg tr = true∧∀ H',Same H H'→Q .non H')∨(chk (.t xs) sg tr = false∧∀ H',Same H H'→E (.ref cNN) none H'))
theorem chkL_inner:∀ (xs:List Nd) (sg tr:List Str),chkL xs sg tr = (inner xs).all fun x=>chk x sg tr
 | [],_,_=>rfl
 | x :: xs,sg,tr=>by
  have ih:=chkL_inner xs sg tr
  cases x with
  | s y=>simp [chkL,chk,inner,isT,ih]
  | i y=>simp [chkL,chk,inner,isT,ih]
  | t ys=>simp [chkL,inner,isT,ih]
theorem hNL_in:∀ {xs:List Nd} {x:Nd},x∈xs→hN x≤hNL xs
 | y :: xs,x,h=>by
  rcases List.mem_cons.mp h with z | z
  ·rw [z]; exact Nat.le_max_left _ _
  ·exact Nat.le_trans (hNL_in z) (Nat.le_max_right _ _)
theorem wfL_in:∀ {xs:List Nd} {x:Nd},wfL xs = true→x∈xs→wfN x = true
 | y :: xs,x,hw,h=>by
  unfold wfL at hw
  rw [Bool.and_eq_true] at hw
  rcases List.mem_cons.mp h with z | z
  ·rw [z]; exact hw.1
  ·exact wfL_in hw.2 z
theorem inner_in {xs:List Nd} {x:Nd} (h:x∈inner xs):x∈xs∧isT x = true:=by
 unfold inner at h
 exact List.mem_filter.mp h
theorem wf_head {xs:List Nd} (h:wfN (.t xs) = true):xs.length≤8∧wfL xs = true∧∃ w r,xs = .s w :: r∧((w∈bareL∨w = "again" ∨ w = "then" ∨ w = "beside")∨∃ x r',r = .s x :: r'∧x.length≤1000):=by
 unfold wfN at h
 rw [Bool.and_eq_true,Bool.and_eq_true] at h
 obtain ⟨⟨h1,h2⟩,h3⟩:=h
 refine ⟨of_decide_eq_true h1,h3,?_⟩
 match xs,h2 with
 | .s w :: r,h2 =>
  refine ⟨w,r,rfl,?_⟩
  rcases Bool.or_eq_true_iff.mp h2 with z | z
  ·exact .inl (of_decide_eq_true z)
  ·match r,z with
   | .s x :: r',z=>exact .inr ⟨x,r',rfl,of_decide_eq_true z⟩
theorem plain_words:∀ w:Str,(w∈bareL∨w = "again" ∨ w = "then" ∨ w = "beside")→¬ w∈users∧¬ w = "exit" ∧ ¬ w = "local" ∧ ¬ w = "trap" := by
 intro w h
 rcases h with h | h | h | h
 ·exact (show ∀ w∈bareL,¬ w∈users∧¬ w = "exit" ∧ ¬ w = "local" ∧ ¬ w = "trap" by decide +kernel) w h
 ·subst h; decide +kernel
 ·subst h; decide +kernel
 ·subst h; decide +kernel
section
variable {P:Program} {w:World} {K:PySem.W.Frag} {mg:Str→Option Value} {base:Heap} {cNN aU:Addr}
set_option maxHeartbeats 16000000 in
theorem ok_there {k:Nat} (F:FunM K mg "check_there" ["part", "signs", "traps"] s_check_there) (mU:mg "SIGN_USERS" = some (.ref aU)) (tU:ModT K aU (users.map V.str)) (C_check_among:CalleeX P w K mg base 1 "check_among" ["name", "names"] (spAmong cNN))
  (C_inner_parts:Callee P w K mg base 1 "inner_parts" ["part"] spInner) (C_check_there:CalleeX P w K mg base (k + 1) "check_there" ["part", "signs", "traps"] (spThere cNN (k + 1))):CalleeX P w K mg base (k + 2) "check_there" ["part", "signs", "traps"] (spThere cNN (k + 2)):=by
 refine F.okX sc_check_there (fun vs H Q E h=>?_) (fun f cdv A outer s H vs Q E hr h=>?_)
 ·obtain ⟨v,xs,a,b,sg,tr,rfl,_⟩:=h
  rfl
 obtain ⟨v,xs,a,b,sg,tr,rfl,hv,ha,hb,hwf,hk,hsg,htr,h⟩:=h
 have hQ:chk (.t xs) sg tr = true→∀ H',Same H H'→Q .non H':=fun e=>by
  rcases h with ⟨_,q⟩ | ⟨z,_⟩
  ·exact q
  ·rw [e] at z; cases z
 have hE:chk (.t xs) sg tr = false→∀ H',Same H H'→E (.ref cNN) none H':=fun e=>by
  rcases h with ⟨z,_⟩ | ⟨_,q⟩
  ·rw [e] at z; cases z
  ·exact q
 obtain ⟨h8,hwl,wd,r,exs,hcase⟩:=wf_head hwf
 obtain ⟨p,vs,rfl,hp,hL⟩:=hv.get
 have hw:wordOf xs = wd:=by rw [exs]; rfl
 have v0:∃ vr,vs = .str wd :: vr:=by
  rw [exs] at hL
  unfold AtL at hL
  obtain ⟨v,vr,e,hs,_⟩:=hL
  exact ⟨vr,by rw [e,hs.str]⟩
 have nm:(wd∈users∨wd = "exit" ∨ wd = "local" ∨ wd = "trap")→(∃ vr,vs = .str wd :: .str (nameOf xs) :: vr)∧(nameOf xs).length≤1000:=fun z=>by
  rcases hcase with c | ⟨x,r',er,hx⟩
  ·obtain ⟨n1,n2,n3,n4⟩:=plain_words wd c
   rcases z with z | z | z | z
   ·exact absurd z n1
   ·exact absurd z n2
   ·exact absurd z n3
   ·exact absurd z n4
  ·subst er
   subst exs
   unfold AtL at hL
   obtain ⟨v,vr,e,hs,hL2⟩:=hL
   unfold AtL at hL2
   obtain ⟨v2,vr2,e2,hs2,_⟩:=hL2
   exact ⟨⟨vr2,by rw [e,e2,hs.str,hs2.str]; rfl⟩,hx⟩
 obtain ⟨vr0,ev0⟩:=v0
 have a0:atI vs ((0:Nat):Int) = some (.str wd):=atI_nat (j:=0) (by rw [ev0]; rfl)
 have a1:(wd∈users∨wd = "exit" ∨ wd = "local" ∨ wd = "trap")→atI vs ((1:Nat):Int) = some (.str (nameOf xs)):=fun z=>by
  obtain ⟨vr,e⟩:=(nm z).1
  exact atI_nat (j:=1) (by rw [e]; rfl)
 have cu:∀ {b1 b2:Bool},useOk xs sg tr = false→chk (.t xs) sg tr = false:=fun e=>by unfold chk; rw [e]; rfl
 refine ⟨_,(pss_cons (ps_if (pt_cmpR op_in_seq (pe_ix ix_tup (pv 0) pe_int (fun _ _=>rfl)) (pe_glob (v:=.ref aU) rfl mU rfl) (by rfl))
   (pss_one (ps_expr (pe_callX C_check_among hr rfl (pa_cons (pe_ix ix_tup (pv 0) pe_int (fun _ _=>rfl)) (pa_cons (pv 1) pa_nil)))))
   pss_nil)
  (pss_cons (ps_if (pt_cmpR op_eq (pe_ix ix_tup (pv 0) pe_int (fun _ _=>rfl)) pe_str (nomark _))
   (pss_one (ps_expr (pe_callX C_check_among hr rfl (pa_cons (pe_ix ix_tup (pv 0) pe_int (fun _ _=>rfl)) (pa_cons (pv 2) pa_nil)))))
   pss_nil)
  (pss_cons (ps_set (i:=3) sc_check_there.nd rfl (Or.inl rfl) (pe_ifExp (pt_cmpR op_eq (pe_ix ix_tup (pv 0) pe_int (fun _ _=>rfl)) pe_str (nomark _)) (pe_op op_cat (pv 1) (pe_lst (pa_cons (pe_ix ix_tup (pv 0) pe_int (fun _ _=>rfl)) pa_nil))) (pv 1)))
  (pss_cons (ps_set (i:=4) sc_check_there.nd rfl (Or.inl rfl) (pe_ifExp (pt_cmpR op_eq (pe_ix ix_tup (pv 0) pe_int (fun _ _=>rfl)) pe_str (nomark _)) (pe_op op_cat (pv 2) (pe_lst (pa_cons (pe_ix ix_tup (pv 0) pe_int (fun _ _=>rfl)) pa_nil))) (pv 2)))
  (pss_one (ps_for PassesOwn.leaving rfl (pi_list (pe_callC C_inner_parts hr rfl pass0 (pa_cons (pv 0) pa_nil))) (pg_name (i:=5) sc_check_there.nd rfl (Or.inl rfl))
   (pss_one (ps_expr (pe_callX C_check_there hr rfl (pa_cons (pv 5) (pa_cons (pv 3) (pa_cons (pv 4) pa_nil)))))))))))),?_⟩
 refine (fun (nx1:(wd∈users→sg.contains (nameOf xs) = true)→_)=>⟨_,rfl,p,vs,_,.str wd,rfl,rfl,SqT.of hp,a0,aU,_,rfl,.inr (.inr tU),rfl,flats _,_,rfl,iteB (fun z=>?c1) fun z=>nx1 fun y=>absurd y (of_decide_eq_false (inV_strs.symm.trans z))⟩) ?n1
 case c1 =>
  have hu:wd∈users:=of_decide_eq_true (inV_strs.symm.trans z)
  refine ⟨_,rfl,p,vs,_,_,rfl,rfl,SqT.of hp,a1 (.inl hu),_,rfl,_,a,sg,rfl,ha,(nm (.inl hu)).2,?_⟩
  cases hc:sg.contains (nameOf xs) with
  | true=>exact .inl ⟨rfl,nx1 fun _=>hc⟩
  | false =>
   refine .inr ⟨rfl,hE (cu (b1:=true) (b2:=true) ?_) _ (Same.refl _)⟩
   unfold useOk
   rw [hw,List.contains_iff_mem.mpr hu,hc]
   rfl
 case n1 =>
 intro hA
 refine (fun (nx2:(wd = "exit" → tr.contains (nameOf xs) = true)→_)=>⟨_,rfl,p,vs,_,.str wd,rfl,rfl,SqT.of hp,a0,rfl,_,rfl,iteB (fun z=>?c2) fun z=>nx2 fun y=>absurd (congrArg V.str y) (of_decide_eq_false z)⟩) ?n2
 case c2 =>
  have hu:wd = "exit" := V.str.inj (of_decide_eq_true z)
  refine ⟨_,rfl,p,vs,_,_,rfl,rfl,SqT.of hp,a1 (.inr (.inl hu)),_,rfl,_,b,tr,rfl,hb,(nm (.inr (.inl hu))).2,?_⟩
  cases hc:tr.contains (nameOf xs) with
  | true=>exact .inl ⟨rfl,nx2 fun _=>hc⟩
  | false =>
   refine .inr ⟨rfl,hE (cu (b1:=true) (b2:=true) ?_) _ (Same.refl _)⟩
   unfold useOk
   rw [hw,hc,decide_eq_true hu]
   simp
 case n2 =>
 intro hB
 have hus:useOk xs sg tr = true:=by
  unfold useOk
  rw [hw,Bool.and_eq_true]
  constructor
  ·cases z:users.contains wd with
   | false=>rfl
   | true=>rw [hA (List.contains_iff_mem.mp z)]; rfl
  ·by_cases h2:wd = "exit"
   ·rw [decide_eq_true h2,hB h2]; rfl
   ·rw [decide_eq_false h2]; rfl
 unfold tNext
 dsimp only
 unfold tSeq
 dsimp only
 unfold tAsg
 dsimp only
 refine via (S:=fun v' H'=>∃ a',v' = .ref a'∧Same H H'∧H' a' = some (.lst ((sgIn xs sg).map V.str))) (fun Q3 nx3=>?w3) ?n3
 case w3 =>
  refine ⟨_,rfl,p,vs,_,.str wd,rfl,rfl,SqT.of hp,a0,rfl,_,rfl,iteB (fun z=>?c3) fun z=>⟨_,rfl,nx3 (.ref a) H ⟨a,rfl,Same.refl H,?d3⟩⟩⟩
  case d3 =>
   unfold sgIn
   rw [hw,if_neg fun y=>absurd (congrArg V.str y) (of_decide_eq_false z)]
   exact ha
  case c3 =>
   have hu:wd = "local" := V.str.inj (of_decide_eq_true z)
   refine ⟨_,rfl,_,rfl,p,vs,_,_,rfl,rfl,SqT.of hp,a1 (.inr (.inr (.inl hu))),(by show 1≤sizeLine; decide),fun c hc=>?_⟩
   have gc:=same_new hc (.lst [.str (nameOf xs)])
   refine ⟨a,c,_,_,rfl,rfl,gc _ _ ha,upd_same,?_,fun c2 hc2=>?_⟩
   ·rw [List.length_map]
    exact Nat.le_trans (show sg.length + 1≤200000 by omega) (by decide)
   refine nx3 (.ref c2) _ ⟨c2,rfl,gc.trans (same_new hc2 _),?_⟩
   rw [upd_same]
   unfold sgIn
   rw [hw,if_pos hu,List.map_append]
   rfl
 case n3 =>
 rintro _ H1 ⟨a',rfl,g1,ha1⟩
 have hp1:=g1 _ _ hp
 refine via (S:=fun v' H'=>∃ b',v' = .ref b'∧Same H1 H'∧H' b' = some (.lst ((trIn xs tr).map V.str))) (fun Q4 nx4=>?w4) ?n4
 case w4 =>
  refine ⟨_,rfl,p,vs,_,.str wd,rfl,rfl,SqT.of hp1,a0,rfl,_,rfl,iteB (fun z=>?c4) fun z=>⟨_,rfl,nx4 (.ref b) H1 ⟨b,rfl,Same.refl H1,?d4⟩⟩⟩
  case d4 =>
   unfold trIn
   rw [hw,if_neg fun y=>absurd (congrArg V.str y) (of_decide_eq_false z)]
   exact g1 _ _ hb
  case c4 =>
   have hu:wd = "trap" := V.str.inj (of_decide_eq_true z)
   refine ⟨_,rfl,_,rfl,p,vs,_,_,rfl,rfl,SqT.of hp1,a1 (.inr (.inr (.inr hu))),(by show 1≤sizeLine; decide),fun c hc=>?_⟩
   have gc:=same_new hc (.lst [.str (nameOf xs)])
   refine ⟨b,c,_,_,rfl,rfl,gc _ _ (g1 _ _ hb),upd_same,?_,fun c2 hc2=>?_⟩
   ·rw [List.length_map]
    exact Nat.le_trans (show tr.length + 1≤200000 by omega) (by decide)
   refine nx4 (.ref c2) _ ⟨c2,rfl,gc.trans (same_new hc2 _),?_⟩
   rw [upd_same]
   unfold trIn
   rw [hw,if_pos hu,List.map_append]
   rfl
 case n4 =>
 rintro _ H2 ⟨b',rfl,g2,hb2⟩
 have ha2:=g2 _ _ ha1
 have g12:=g1.trans g2
 have hv2:At H2 (.t xs) (.ref p):=.t (g12 _ _ hp) (hL.mono g12.tp)
 refine ⟨_,rfl,.ref p,xs,rfl,hv2,h8,fun r0 ws hr0 hAL=>⟨r0,rfl,⟨_,SqL.of upd_same⟩,?_⟩⟩
 have g3:=same_new hr0 (.lst ws)
 have lens:(sgIn xs sg).length≤sg.length + 1∧(trIn xs tr).length≤tr.length + 1:=by
  constructor
  ·unfold sgIn
   split
   ·rw [List.length_append]; exact Nat.le_refl _
   ·omega
  ·unfold trIn
   split
   ·rw [List.length_append]; exact Nat.le_refl _
   ·omega
 have hNx:hN (.t xs) = hNL xs + 1:=rfl
 refine for_list (K:=K) (xs:=ws) (fun i σ H'=>Same (L2.upd H2 r0 (.lst ws)) H'∧(∃ v,σ = [some (.ref p),some (.ref a),some (.ref b),some (.ref a'),some (.ref b'),v])∧((inner xs).take i).all (fun x=>chk x (sgIn xs sg) (trIn xs tr)) = true) ⟨Same.refl _,⟨none,rfl⟩,rfl⟩ (fun i σ' H' _ ⟨g,_⟩=>SqL.of (g _ _ upd_same)) ?_ ?_
 ·rintro i y σ' H' hi ⟨g,⟨v,rfl⟩,hall⟩
  obtain ⟨x,hx,hAt⟩:=hAL.at hi
  obtain ⟨hxm,hxT⟩:=inner_in (List.mem_of_getElem? hx)
  have next:chk x (sgIn xs sg) (trIn xs tr) = true→((inner xs).take (i + 1)).all (fun x=>chk x (sgIn xs sg) (trIn xs tr)) = true:=fun e=>by
   rw [List.take_succ,hx,List.all_append,hall]
   simp [e]
  cases x with
  | s y=>cases hxT
  | i y=>cases hxT
  | t ys =>
   have hh:hN (.t ys)≤hNL xs:=hNL_in hxm
   refine ⟨_,rfl,_,rfl,_,rfl,y,ys,a',b',sgIn xs sg,trIn xs tr,rfl,hAt.mono (g3.trans g).tp,(g3.trans g) _ _ ha2,(g3.trans g) _ _ hb2,wfL_in hwl hxm,by omega,by omega,by omega,?_⟩
   cases hc:chk (.t ys) (sgIn xs sg) (trIn xs tr) with
   | true=>exact .inl ⟨rfl,fun H' g'=>⟨g.trans g',⟨_,rfl⟩,next hc⟩⟩
   | false =>
    refine .inr ⟨rfl,fun H5 g5=>hE ?_ H5 (((g12.trans g3).trans g).trans g5)⟩
    unfold chk
    rw [hus,chkL_inner,Bool.true_and]
    cases z:(inner xs).all fun x=>chk x (sgIn xs sg) (trIn xs tr) with
    | false=>rfl
    | true =>
     have:=List.all_eq_true.mp z _ (List.mem_of_getElem? hx)
     rw [hc] at this
     cases this
 ·rintro σ' H' ⟨g,⟨v,rfl⟩,hall⟩
  refine hQ ?_ H' ((g12.trans g3).trans g)
  unfold chk
  rw [hus,chkL_inner,Bool.true_and]
  rw [List.take_of_length_le (Nat.le_of_eq hAL.len)] at hall
  exact hall
theorem there_all (F:FunM K mg "check_there" ["part", "signs", "traps"] s_check_there) (mU:mg "SIGN_USERS" = some (.ref aU)) (tU:ModT K aU (users.map V.str)) (C_check_among:CalleeX P w K mg base 1 "check_among" ["name", "names"] (spAmong cNN))
  (C_inner_parts:Callee P w K mg base 1 "inner_parts" ["part"] spInner):∀ k,CalleeX P w K mg base (k + 1) "check_there" ["part", "signs", "traps"] (spThere cNN (k + 1))
 | 0=>(F.zeroX (sp:=spThere cNN 1) fun vs H Q E h=>by
   obtain ⟨v,xs,a,b,sg,tr,_,_,_,_,_,hk,_⟩:=h
   have hk':hNL xs + 1 + 1≤1:=hk
   omega).mono (by decide)
 | k + 1=>ok_there F mU tU C_check_among C_inner_parts (there_all F mU tU C_check_among C_inner_parts k)
end
def Gd (t:Nd):Prop:=isT t = true∧slim t = true∧wfN t = true
theorem gd1 {w:Str} (h:w∈bareL):Gd (.t [.s w]):=by
 refine ⟨rfl,by simp [slim,slimL],?_⟩
 simp [wfN,wfL,h]
theorem nlen {x:Str} (h:nameB x = true):x.length≤1000:=Nat.le_trans (nameB_len h) (by decide)
theorem gd2 {w x:Str} (h:nameB x = true):Gd (.t [.s w,.s x]):=by
 refine ⟨rfl,by simp [slim,slimL],?_⟩
 simp [wfN,wfL,nlen h]
theorem gd3 {w x:Str} {t:Nd} (h:nameB x = true) (g:Gd t):Gd (.t [.s w,.s x,t]):=by
 refine ⟨rfl,by simp [slim,slimL,g.2.1],?_⟩
 simp [wfN,wfL,nlen h,g.2.2]
theorem gdA {t:Nd} (g:Gd t):Gd (.t [.s "again", t]):=by
 refine ⟨rfl,by simp [slim,slimL,g.2.1],?_⟩
 simp [wfN,wfL,g.2.2]
theorem gdT {w:Str} (hw:w = "then" ∨ w = "beside") {t u:Nd} (g:Gd t) (g':Gd u):Gd (.t [.s w,t,u]):=by
 refine ⟨rfl,by simp [slim,slimL,g.2.1,g'.2.1],?_⟩
 rcases hw with h | h <;> (subst h; simp [wfN,wfL,g.2.2,g'.2.2])
theorem gdI {w x:Str} {t u:Nd} (h:nameB x = true) (g:Gd t) (g':Gd u):Gd (.t [.s w,.s x,t,u]):=by
 refine ⟨rfl,by simp [slim,slimL,g.2.1,g'.2.1],?_⟩
 simp [wfN,wfL,nlen h,g.2.2,g'.2.2]
mutual
theorem PPart.gd:∀ {d:Nat} {r:List Str} {t:Nd} {r':List Str},PPart d r t r'→Gd t
 | _,_,_,_,.brace _ h=>PBr.gd h
 | _,_,_,_,.bare h=>gd1 h
 | _,_,_,_,.named _ hx=>gd2 hx
 | _,_,_,_,.round _ hx h=>gd3 hx (PBr.gd h)
 | _,_,_,_,.again h=>gdA (PBr.gd h)
 | _,_,_,_,.iff h=>PIf.gd h
theorem PBr.gd:∀ {d:Nat} {r:List Str} {t:Nd} {r':List Str},PBr d r t r'→Gd t
 | _,_,_,_,.mk h=>PBlock.gd h
theorem PIf.gd:∀ {d:Nat} {r:List Str} {t:Nd} {r':List Str},PIf d r t r'→Gd t
 | _,_,_,_,.one hx h _=>gdI hx (PBr.gd h) (gd1 (by decide +kernel))
 | _,_,_,_,.two hx h h2=>gdI hx (PBr.gd h) (PBr.gd h2)
theorem PRowT.gd:∀ {d:Nat} {t0:Nd} {r:List Str} {t:Nd} {r':List Str},PRowT d t0 r t r'→Gd t0→Gd t
 | _,_,_,_,_,.done _,g=>g
 | _,_,_,_,_,.more h h2,g=>PRowT.gd h2 (gdT (.inl rfl) g (PPart.gd h))
theorem PRow.gd:∀ {d:Nat} {r:List Str} {t:Nd} {r':List Str},PRow d r t r'→Gd t
 | _,_,_,_,.mk h h2=>PRowT.gd h2 (PPart.gd h)
theorem PBlockT.gd:∀ {d:Nat} {t0:Nd} {r:List Str} {t:Nd} {r':List Str},PBlockT d t0 r t r'→Gd t0→Gd t
 | _,_,_,_,_,.done _,g=>g
 | _,_,_,_,_,.more h h2,g=>PBlockT.gd h2 (gdT (.inr rfl) g (PRow.gd h))
theorem PBlock.gd:∀ {d:Nat} {r:List Str} {t:Nd} {r':List Str},PBlock d r t r'→Gd t
 | _,_,_,_,.mk h h2=>PBlockT.gd h2 (PRow.gd h)
end
mutual
theorem hN_cnt:∀ n:Nd,hN n≤cnt n
 | .s _=>Nat.zero_le _
 | .i _=>Nat.zero_le _
 | .t xs=>by
  rw [cnt_t]
  have:=hNL_cnt xs
  show hNL xs + 1≤_
  omega
theorem hNL_cnt:∀ xs:List Nd,hNL xs≤cntL xs
 | []=>Nat.zero_le _
 | x :: xs=>by
  rw [cntL_cons]
  have h1:=hN_cnt x
  have h2:=hNL_cnt xs
  show max (hN x) (hNL xs)≤_
  omega
end
def spOnce (cTw:Addr):Sp:=fun vs H Q E=>∃ (a:Addr) (ns:List Str),vs = [.ref a]∧H a = some (.lst (ns.map V.str))∧ns.length≤2000∧((ns.Nodup∧∀ H',Same H H'→Q .non H')∨(¬ ns.Nodup∧∀ H',Same H H'→E (.ref cTw) none H'))
def spRead (cNT cTw cNN:Addr):Sp:=fun vs H Q E=>∃ x:Str,vs = [.str x]∧x.length≤1000000 ∧
 ((3000 < x.length∧∀ H',Same H H'→E (.ref cNT) none H')∨(x.length≤3000∧BadT x∧∀ H',Same H H'→E (.ref cNT) none H') ∨
  (x.length≤3000∧x.cps.toList.all okC = true∧mostO (wordsT x)≤16∧∃ ins outs d t,d≤20∧Whole (wordsT x) ins outs d t∧cnt t≤1200 ∧
    ((60 < cnt t∧∀ H',Same H H'→E (.ref cNT) none H')∨(cnt t≤60∧¬ (ins ++ outs).Nodup∧∀ H',Same H H'→E (.ref cTw) none H') ∨
   (cnt t≤60∧(ins ++ outs).Nodup∧((chk t (ins ++ outs) [] = false∧∀ H',Same H H'→E (.ref cNN) none H')∨(chk t (ins ++ outs) [] = true∧∀ v H',Same H H'→NamedAt H' v ins outs t→Q v H'))))))
section
variable {P:Program} {w:World} {K:PySem.W.Frag} {mg:Str→Option Value} {base:Heap} {cNT cTw cNN:Addr}
set_option maxHeartbeats 16000000 in
theorem ok_read (F:FunM K mg "read" ["text"] s_read) (T:Txt mg) (cs:Cst K mg cNT) (c1:∃ t,mg "MOST_SIGNS" = some (.int 3000 t)) (c2:∃ t,mg "MOST_PARTS" = some (.int 60 t))
  (C_read_program:CalleeX P w K mg base 110 "read_program" ["text"] (spProgram cNT)) (C_parts:Callee P w K mg base 3 "parts" ["block"] spParts) (C_check_once:CalleeX P w K mg base 1 "check_once" ["names"] (spOnce cTw))
  (C_check_there:CalleeX P w K mg base 63 "check_there" ["part", "signs", "traps"] (spThere cNN 63)):CalleeX P w K mg base 111 "read" ["text"] (spRead cNT cTw cNN):=by
 refine F.okX sc_read (fun vs H Q E h=>?_) (fun f cdv A outer s H vs Q E hr h=>?_)
 ·obtain ⟨x,rfl,_⟩:=h
  rfl
 obtain ⟨x,rfl,hl,h⟩:=h
 obtain ⟨t1,m1⟩:=c1
 obtain ⟨t2,m2⟩:=c2
 refine ⟨_,(pss_cons (ps_if (pt_not (pt_val (pe_callB call_isinst rfl T.n_isinstance PyProof.Rows.boot_isinstance (pa_cons (pv 0) (pa_cons (pe_bltn rfl T.n_str (by decide +kernel) (v:=.ty "str") rfl) pa_nil)))))
   (pss_one ps_never)
   pss_nil)
  (pss_cons (ps_if (pt_cmpR op_gt (pe_callB call_len_str rfl T.n_len PySem.boot_len (pa_cons (pv 0) pa_nil)) (pe_glob (v:=.int 3000) rfl m1 ⟨_,rfl⟩) (nomark _))
   (pss_one (ps_raise cs.excNT cs.noText rfl (pa_cons pe_str pa_nil)))
   pss_nil)
  (pss_cons (ps_set (i:=1) sc_read.nd rfl (Or.inl rfl) (pe_callX C_read_program hr rfl (pa_cons (pv 0) pa_nil)))
  (pss_cons (ps_if (pt_cmpR op_gt (pe_callC C_parts hr rfl pass0 (pa_cons (pe_ix ix_tup (pv 1) pe_int (fun _ _=>rfl)) pa_nil)) (pe_glob (v:=.int 60) rfl m2 ⟨_,rfl⟩) (nomark _))
   (pss_one (ps_raise cs.excNT cs.noText rfl (pa_cons pe_str pa_nil)))
   pss_nil)
  (pss_cons (ps_expr (pe_callX C_check_once hr rfl (pa_cons (pe_op op_cat (pe_ix ix_tup (pv 1) pe_int (fun _ _=>rfl)) (pe_ix ix_tup (pv 1) pe_int (fun _ _=>rfl))) pa_nil)))
  (pss_cons (ps_expr (pe_callX C_check_there hr rfl (pa_cons (pe_ix ix_tup (pv 1) pe_int (fun _ _=>rfl)) (pa_cons (pe_op op_cat (pe_ix ix_tup (pv 1) pe_int (fun _ _=>rfl)) (pe_ix ix_tup (pv 1) pe_int (fun _ _=>rfl))) (pa_cons (pe_lst pa_nil) pa_nil)))))
  (pss_one (ps_ret (pv 1))))))))),?_⟩
 refine ⟨_,rfl,_, "str", _,true,rfl,.str x,rfl,_,rfl,iteB (fun z=>by cases z) fun _=>?_⟩
 refine ⟨_,rfl,x,rfl,Nat.le_trans hl (by decide),_,_,rfl,rfl,_,rfl,iteB (fun z=>?_) fun z=>?_⟩
 ·have hz:3000 < x.length:=by
   have:=of_decide_eq_true z
   omega
  refine ⟨by show 1≤sizeLine; decide,?_⟩
  rcases h with ⟨_,hE⟩ | ⟨h1,_⟩ | ⟨h1,_⟩
  ·exact hE _ (Same.refl _)
  ·omega
  ·omega
 have hle:x.length≤3000:=by
  have:=of_decide_eq_false z
  omega
 refine ⟨_,rfl,x,rfl,hle,?_⟩
 rcases h with ⟨h1,_⟩ | ⟨_,hbad,hE⟩ | ⟨_,hok,hmo,ins,outs,d,t,hd,Wh,hc,h⟩
 ·omega
 ·exact .inr ⟨hbad,hE⟩
 refine .inl ⟨hok,hmo,ins,outs,d,t,hd,Wh,fun v H1 g1 N1=>?_⟩
 obtain ⟨th,pi,po,vb,rfl,hth,hpi,hpo,hAt⟩:=N1
 obtain ⟨r,_,hB⟩:=Wh.ex
 obtain ⟨gT,gS,gW⟩:=hB.gd
 have lI:=Wh.lI
 have lO:=Wh.lO
 refine ⟨_,rfl,th,_,_,vb,rfl,rfl,SqT.of hth,atI_nat (j:=2) rfl,vb,t,rfl,hAt,gT,gS,hc,fun H2 g2=>⟨_,_,rfl,rfl,_,rfl,iteB (fun z=>?_) fun z=>?_⟩⟩
 ·have hz:60 < cnt t:=by
   have:=of_decide_eq_true z
   omega
  refine ⟨by show 1≤sizeLine; decide,?_⟩
  rcases h with ⟨_,hE⟩ | ⟨h1,_⟩ | ⟨h1,_⟩
  ·exact hE _ (g1.trans g2)
  ·omega
  ·omega
 have hcn:cnt t≤60:=by
  have:=of_decide_eq_false z
  omega
 have hth2:=g2 _ _ hth
 refine ⟨_,rfl,th,_,_,.ref pi,rfl,rfl,SqT.of hth2,atI_nat (j:=0) rfl,_,rfl,th,_,_,.ref po,rfl,rfl,SqT.of hth2,atI_nat (j:=1) rfl,pi,po,_,_,rfl,rfl,g2 _ _ hpi,g2 _ _ hpo,?_,fun c hc1=>?_⟩
 ·rw [List.length_map,List.length_map]
  exact Nat.le_trans (show ins.length + outs.length≤2000 by omega) (by decide)
 have gc:=same_new hc1 (.lst (ins.map V.str ++ outs.map V.str))
 refine ⟨c,ins ++ outs,rfl,by rw [upd_same,List.map_append],by rw [List.length_append]; omega,?_⟩
 rcases h with ⟨h1,_⟩ | ⟨_,hnd,hE⟩ | ⟨_,hnd,h⟩
 ·omega
 ·exact .inr ⟨hnd,fun H' g'=>hE H' (((g1.trans g2).trans gc).trans g')⟩
 refine .inl ⟨hnd,fun H3 g3=>?_⟩
 have g23:=(g2.trans gc).trans g3
 have hth3:=g23 _ _ hth
 refine ⟨_,rfl,th,_,_,vb,rfl,rfl,SqT.of hth3,atI_nat (j:=2) rfl,_,rfl,th,_,_,.ref pi,rfl,rfl,SqT.of hth3,atI_nat (j:=0) rfl,_,rfl,th,_,_,.ref po,rfl,rfl,SqT.of hth3,atI_nat (j:=1) rfl,pi,po,_,_,rfl,rfl,g23 _ _ hpi,g23 _ _ hpo,?_,fun c2 hc2=>⟨(by show 0≤sizeLine; decide),fun c3 hc3=>?_⟩⟩
 ·rw [List.length_map,List.length_map]
  exact Nat.le_trans (show ins.length + outs.length≤2000 by omega) (by decide)
 have gc2:=same_new hc2 (.lst (ins.map V.str ++ outs.map V.str))
 have gc3:=same_new hc3 (.lst [])
 have g25:=(g23.trans gc2).trans gc3
 cases t with
 | s y=>cases gT
 | i y=>cases gT
 | t xs =>
  have hh:=hN_cnt (.t xs)
  refine ⟨vb,xs,c2,c3,ins ++ outs,[],rfl,hAt.mono g25.tp,?_,upd_same,gW,by omega,by rw [List.length_append]; omega,by rw [List.length_nil]; omega,?_⟩
  ·refine gc3 _ _ ?_
   rw [upd_same,List.map_append]
  ·rcases h with ⟨hck,hE⟩ | ⟨hck,q⟩
   ·exact .inr ⟨hck,fun H' g'=>hE H' ((g1.trans g25).trans g')⟩
   ·refine .inl ⟨hck,fun H6 g6=>⟨_,rfl,?_⟩⟩
    have g26:=g25.trans g6
    exact q _ H6 (g1.trans g26) ⟨th,pi,po,vb,rfl,g26 _ _ hth,g26 _ _ hpi,g26 _ _ hpo,hAt.mono g26.tp⟩
end
end My
end
section
set_option Elab.async false
set_option linter.all false
set_option maxRecDepth 100000
set_option maxHeartbeats 4000000
namespace L2
open PySem PySem.Spec PyProof.Rows
def Rise (xs:Array Nat):Prop:=xs.toList.Pairwise (· < ·)
structure TabOk (led:Bool) (t:SetTable):Prop where
 led:t.led = led
 dum:t.dummies = #[]
 rise:Rise t.place
theorem Rise.lt {xs:Array Nat} (h:Rise xs) {i j:Nat} (hj:j < xs.size) (hij:i < j):xs[i]'(by omega) < xs[j]:=by
 have z:=List.pairwise_iff_getElem.mp h i j (by simp; omega) (by simpa using hj) hij
 simpa using z
theorem below_go {xs:Array Nat} {j:Nat} (h:Rise xs):∀ (fuel lo hi:Nat),lo≤hi→hi≤xs.size→hi - lo≤fuel→(∀ i (q:i < xs.size),i < lo→xs[i] < j)→(∀ i (q:i < xs.size),hi≤i→j≤xs[i]) →
  SetTable.below.go xs j fuel lo hi≤xs.size∧(∀ i (q:i < xs.size),i < SetTable.below.go xs j fuel lo hi→xs[i] < j)∧(∀ i (q:i < xs.size),SetTable.below.go xs j fuel lo hi≤i→j≤xs[i]):=by
 intro fuel
 induction fuel with
 | zero =>
  intro lo hi h1 h2 h3 h4 h5
  have e:lo = hi:=by omega
  subst e
  unfold SetTable.below.go
  exact ⟨h2,h4,h5⟩
 | succ fuel ih =>
  intro lo hi h1 h2 h3 h4 h5
  unfold SetTable.below.go
  by_cases c:lo < hi
  ·rw [if_pos c]
   dsimp only
   have hm:(lo + hi) / 2 < xs.size:=by omega
   have eg:xs.getD ((lo + hi) / 2) j = xs[(lo + hi) / 2]:=by simp [Array.getD,hm]
   by_cases d:xs.getD ((lo + hi) / 2) j < j
   ·rw [if_pos d]
    rw [eg] at d
    refine ih _ _ (by omega) h2 (by omega) (fun i hi' hl=>?_) h5
    rcases Nat.lt_or_ge i ((lo + hi) / 2) with z | z
    ·exact Nat.lt_trans (h.lt hm z) d
    ·have:i = (lo + hi) / 2:=by omega
     subst this
     exact d
   ·rw [if_neg d]
    rw [eg] at d
    refine ih _ _ (by omega) (by omega) (by omega) h4 (fun i hi' hl=>?_)
    rcases Nat.lt_or_ge ((lo + hi) / 2) i with z | z
    ·have:=h.lt hi' z; omega
    ·have:i = (lo + hi) / 2:=by omega
     subst this
     omega
  ·rw [if_neg c]
   have e:lo = hi:=by omega
   subst e
   exact ⟨h2,h4,h5⟩
theorem below_ok {xs:Array Nat} (h:Rise xs) (j:Nat):SetTable.below xs j≤xs.size∧(∀ i (hi:i < xs.size),i < SetTable.below xs j→xs[i] < j)∧(∀ i (hi':i < xs.size),SetTable.below xs j≤i→j≤xs[i]) :=
 below_go h xs.size 0 xs.size (Nat.zero_le _) (Nat.le_refl _) (by omega) (fun _ _ z=>by omega) (fun i hi z=>by omega)
theorem rise_range (n:Nat):Rise (Array.range n):=by
 unfold Rise
 rw [Array.toList_range]
 exact List.pairwise_lt_range
theorem rise_put {xs:Array Nat} {j:Nat} (h:Rise xs) (hn:xs[SetTable.below xs j]?≠some j):Rise (SetTable.insertAt xs (SetTable.below xs j) j):=by
 obtain ⟨h1,h2,h3⟩:=below_ok h j
 unfold Rise
 rw [SetTable.toList_insertAt,List.pairwise_append]
 refine ⟨List.Pairwise.sublist (List.take_sublist _ _) h,?_,?_⟩
 ·rw [List.pairwise_cons]
  refine ⟨fun y hy=>?_,List.Pairwise.sublist (List.drop_sublist _ _) h⟩
  obtain ⟨i,hi,rfl⟩:=List.mem_iff_getElem.mp hy
  rw [List.length_drop,Array.length_toList] at hi
  rw [List.getElem_drop,Array.getElem_toList]
  have a:=h3 (SetTable.below xs j + i) (by omega) (by omega)
  rcases Nat.eq_zero_or_pos i with z | z
  ·subst z
   rcases Nat.lt_or_ge j (xs[SetTable.below xs j + 0]'(by omega)) with y | y
   ·exact y
   ·exact absurd (by rw [Array.getElem?_eq_getElem (by omega)]; congr 1; simp at a y ⊢; omega) hn
  ·have b:=h3 (SetTable.below xs j) (by omega) (Nat.le_refl _)
   have c:=h.lt (i:=SetTable.below xs j) (j:=SetTable.below xs j + i) (by omega) (by omega)
   omega
 ·intro a ha b hb
  obtain ⟨i,hi,rfl⟩:=List.mem_iff_getElem.mp ha
  rw [List.length_take,Array.length_toList] at hi
  rw [List.getElem_take,Array.getElem_toList]
  have q:=h2 i (by omega) (by omega)
  rcases List.mem_cons.mp hb with z | z
  ·omega
  ·obtain ⟨l,hl,rfl⟩:=List.mem_iff_getElem.mp z
   rw [List.length_drop,Array.length_toList] at hl
   rw [List.getElem_drop,Array.getElem_toList]
   have:=h3 (SetTable.below xs j + l) (by omega) (by omega)
   omega
theorem has_empty (j:Nat):SetTable.has #[] j = false:=by
 unfold SetTable.has
 simp
theorem probe_ok {t:SetTable} {f:Nat→Int} {h:Int} (hd:t.dummies = #[]):∀ (fuel:Nat) (p:SetTable.Probe) (j:Nat) (d:Option Nat),p.dummy = none→SetTable.probe.go t f h fuel p = some (.empty j d)→d = none∧t.place[SetTable.below t.place j]?≠some j:=by
 intro fuel
 induction fuel with
 | zero=>intro p j d _ e; unfold SetTable.probe.go at e; cases e
 | succ fuel ih =>
  intro p j d hp e
  unfold SetTable.probe.go at e
  have hs:t.slot p.j = (if t.place[SetTable.below t.place p.j]? == some p.j then SetTable.Slot.live (SetTable.below t.place p.j) else SetTable.Slot.empty):=by
   unfold SetTable.slot
   dsimp only
   rw [hd,has_empty]
   rfl
  rw [hs] at e
  have adv:(t.advance p).dummy = none:=by
   unfold SetTable.advance
   split
   ·exact hp
   ·exact hp
  by_cases c:(t.place[SetTable.below t.place p.j]? == some p.j) = true
  ·rw [if_pos c] at e
   dsimp only at e
   split at e
   ·cases e
   ·exact ih _ _ _ adv e
  ·rw [if_neg c] at e
   dsimp only at e
   cases e
   exact ⟨hp,fun z=>c (by rw [z]; simp)⟩
theorem free_ok {t:SetTable} {h:Int} {j:Nat} {b:Bool} (hd:t.dummies = #[]) (e:t.freeSlot h = some (j,b)):t.place[SetTable.below t.place j]?≠some j:=by
 unfold SetTable.freeSlot SetTable.probe at e
 split at e
 ·rename_i j' d hq
  obtain ⟨rfl,z⟩:=probe_ok hd _ _ _ _ rfl hq
  cases e
  exact z
 ·cases e
theorem TabOk.standIn {led:Bool} {t:SetTable} (h:TabOk led t) (n:Nat):TabOk led (t.standIn n):=⟨h.led,rfl,rise_range n⟩
theorem TabOk.plainOff {led:Bool} {t:SetTable} (h:TabOk led t):TabOk led { t with plain:=false }:=⟨h.led,h.dum,h.rise⟩
theorem TabOk.layNew {led:Bool} {t:SetTable} (h:TabOk led t) (es:Array (Int× Value)) (k:Int) (x:Value):TabOk led (layNew t es k x).2.1:=by
 unfold PySem.layNew
 split
 ·rename_i j b e
  dsimp only
  have z:=free_ok h.dum e
  have q:TabOk led (t.put j).1:=by
   unfold SetTable.put
   refine ⟨h.led,?_,rise_put h.rise z⟩
   dsimp only
   rw [h.dum,has_empty]
   rfl
  unfold SetTable.orStandIn
  split
  ·exact q
  ·exact q.standIn _
 ·exact h.standIn _
theorem rise_live (owner:Array (Option Nat)) (m:Nat):Rise (((List.range m).filterMap fun j=>(owner.getD j none).map (j,·)).map (·.1)).toArray:=by
 unfold Rise
 have e:((List.range m).filterMap fun j=>(owner.getD j none).map (j,·)).map (·.1) = (List.range m).filter fun j=>(owner.getD j none).isSome:=by
  induction List.range m with
  | nil=>rfl
  | cons a l ih =>
   rw [List.filterMap_cons,List.filter_cons]
   cases q:owner.getD a none with
   | none=>simpa [q] using ih
   | some y=>simpa [q] using ih
 simp only [e]
 exact List.Pairwise.sublist List.filter_sublist List.pairwise_lt_range
theorem TabOk.relay {led:Bool} {t:SetTable} (h:TabOk led t) (es:Array (Int× Value)) (n:Nat):TabOk led (relayAll t es n).2.1:=by
 unfold relayAll
 split
 ·rename_i t' order e
  dsimp only
  split
  ·unfold SetTable.relaid SetTable.laid at e
   simp only [Option.bind_eq_bind,Option.bind_eq_some_iff] at e
   obtain ⟨owner,_,e2⟩:=e
   cases e2
   exact ⟨h.led,rfl,rise_live owner _⟩
  ·exact h.standIn _
 ·exact h.standIn _
theorem paired_perm {α β:Type} {F:α→β→Prop} {l l':List α} (p:List.Perm l' l):∀ {ms:List β},PySem.Paired F l ms→∃ ms',List.Perm ms' ms∧PySem.Paired F l' ms':=by
 replace p:=p.symm
 induction p with
 | nil=>intro ms h; exact ⟨ms,.refl _,h⟩
 | cons x _ ih =>
  intro ms h
  cases h with
  | cons f t =>
   obtain ⟨ms',q,r⟩:=ih t
   exact ⟨_ :: ms',q.cons _,.cons f r⟩
 | swap x y l =>
  intro ms h
  cases h with
  | cons f t =>
   cases t with
   | cons g u=>exact ⟨_,List.Perm.swap _ _ _,.cons g (.cons f u)⟩
 | trans _ _ ih1 ih2 =>
  intro ms h
  obtain ⟨m1,p1,r1⟩:=ih1 h
  obtain ⟨m2,p2,r2⟩:=ih2 r1
  exact ⟨m2,p2.trans p1,r2⟩
theorem nodup_len {κ:Type} [DecidableEq κ]:∀ {l l':List κ},l.Nodup→(∀ x∈l,x∈l')→l.length≤l'.length
 | [],_,_,_=>Nat.zero_le _
 | a :: t,l',n,h=>by
  have n:=List.nodup_cons.mp n
  have ha:=h a List.mem_cons_self
  have:=nodup_len (l:=t) (l':=l'.erase a) n.2 fun x hx=>(List.mem_erase_of_ne (show x≠a from fun e=>n.1 (e ▸ hx))).mpr (h x (List.mem_cons_of_mem _ hx))
  rw [List.length_erase_of_mem ha] at this
  have hp:0 < l'.length:=List.length_pos_of_mem ha
  rw [List.length_cons]
  omega
section
variable {prog:Program} {w:World} {κ:Type} [DecidableEq κ] (knd:PySem.KeyKind prog w κ)
structure SetD (h:Heap) (a:Addr) (ks:List κ) (o:Obj) (es:Array (Int× Value)) (ep:Nat) (t:SetTable) (ms:List κ):Prop where
 at':h.get? a = some o
 ex:o.ExactSet
 dat:o.data = .set es ep t
 el:ElemsOf knd es.toList
 pr:PySem.Paired (fun e k=>knd.is k e.2 = true) es.toList ms
 nd:ms.Nodup
 mem:∀ k,k∈ms↔k∈ks
 sm:es.size < scanBound
 fit:t.fits es.size = true
 tab:TabOk (!w.params.followText "set-order") t
def SetT (h:Heap) (a:Addr) (ks:List κ):Prop:=∃ o es ep t ms,SetD knd h a ks o es ep t ms
variable {knd}
variable {A:Around} {E:Value→Shared→Prop} {s:Shared} {a:Addr} {ks:List κ} {k:κ} {x:Value}
theorem SetD.keep {h h':Heap} {o es ep t ms} (S:SetD knd h a ks o es ep t ms) (k:h'.get? a = some o):SetD knd h' a ks o es ep t ms:=⟨k,S.ex,S.dat,S.el,S.pr,S.nd,S.mem,S.sm,S.fit,S.tab⟩
theorem SetT.keep {h h':Heap} (S:SetT knd h a ks) (k:∀ o,h.get? a = some o→h'.get? a = some o):SetT knd h' a ks:=by
 obtain ⟨o,es,ep,t,ms,D⟩:=S
 exact ⟨o,es,ep,t,ms,D.keep (k o D.at')⟩
theorem SetT.congr {h:Heap} {ks':List κ} (S:SetT knd h a ks) (e:∀ k,k∈ks↔k∈ks'):SetT knd h a ks':=by
 obtain ⟨o,es,ep,t,ms,D⟩:=S
 exact ⟨o,es,ep,t,ms,⟨D.at',D.ex,D.dat,D.el,D.pr,D.nd,fun k=>(D.mem k).trans (e k),D.sm,D.fit,D.tab⟩⟩
theorem SetD.size {h:Heap} {o es ep t ms} (S:SetD knd h a ks o es ep t ms):es.size = ms.length:=by rw [← PySem.Paired.length S.pr]; simp
theorem SetD.put {h:Heap} {o es ep t ms} (S:SetD knd h a ks o es ep t ms) {es':Array (Int× Value)} {t':SetTable} {ms' ks':List κ} (e1:ElemsOf knd es'.toList) (e2:PySem.Paired (fun e k=>knd.is k e.2 = true) es'.toList ms') (e3:ms'.Nodup)
  (e4:∀ k,k∈ms'↔k∈ks') (e5:es'.size < scanBound) (e6:t'.fits es'.size = true) (e7:TabOk (!w.params.followText "set-order") t') :
  ∃ o',SetD knd (h.update a (Obj.putSet es' t')) a ks' o' es' (ep + 1) t' ms':=by
 have hg:=Heap.get?_update_self (Obj.putSet es' t') S.at' (by rw [putSet_of es' t' S.dat]; rfl)
 rw [putSet_of es' t' S.dat] at hg
 exact ⟨_,hg,S.ex,rfl,e1,e2,e3,e4,e5,e6,e7⟩
theorem is_in {l:List (Int× Value)} {ms:List κ} (p:PySem.Paired (fun e k=>knd.is k e.2 = true) l ms):k∈ms↔∃ e∈l,knd.is k e.2 = true:=by
 induction p with
 | nil=>simp
 | cons f _ ih =>
  rename_i e m l ms _
  rw [List.mem_cons,ih]
  constructor
  ·rintro (rfl | ⟨e',h1,h2⟩)
   ·exact ⟨e,List.mem_cons_self,f⟩
   ·exact ⟨e',List.mem_cons_of_mem _ h1,h2⟩
  ·rintro ⟨e',h1,h2⟩
   rcases List.mem_cons.mp h1 with rfl | h1
   ·exact .inl (knd.inj _ _ _ h2 f)
   ·exact .inr ⟨e',h1,h2⟩
theorem add_tail {g:Bool→Sem Unit} (hg:∀ (b:Bool) (s₁:Shared) (Q':Unit→Shared→Prop),Q' () s₁→wpAny (model prog w) A (g b) Q' E s₁) {o es ep t ms} (S:SetD knd s.heap a ks o es ep t ms)
  {es1:Array (Int× Value)} {t1:SetTable} {ms1 ks1:List κ} (e1:ElemsOf knd es1.toList) (e2:PySem.Paired (fun e k=>knd.is k e.2 = true) es1.toList ms1) (e3:ms1.Nodup)
  (e4:∀ k,k∈ms1↔k∈ks1) (e5:es1.size < scanBound) (e6:t1.fits es1.size = true) (e7:TabOk (!w.params.followText "set-order") t1) {dm:Bool} {R:Option Bool→Shared→Prop}
  (h:∀ h',Heap.SameBut a s.heap h'→SetT knd h' a ks1→R (some true) { s with heap:=h' }) :
  wpAny (model prog w) A (do
   storeSet a es1 t1
   if (!dm && t1.tooFull) = true then do
    g (relayAll t1 es1 (SetTable.grown es1.size)).2.2
    storeSet a (relayAll t1 es1 (SetTable.grown es1.size)).1 (relayAll t1 es1 (SetTable.grown es1.size)).2.1
    pure (some true)
   else pure (some true)) R E s:=by
 refine wpAny_bind (wpAny_storeSet_of S.at' S.dat ?_ (fits_of_scanBound e5))
 obtain ⟨o1,S1⟩:=S.put e1 e2 e3 e4 e5 e6 e7
 have b1:=Heap.SameBut.update s.heap a (Obj.putSet es1 t1)
 by_cases c:(!dm && t1.tooFull) = true
 ·rw [if_pos c]
  have p2:=relayAll_perm t1 es1 (SetTable.grown es1.size)
  have f2:=relayAll_fits t1 es1 (SetTable.grown es1.size)
  have q2:=e7.relay es1 (SetTable.grown es1.size)
  generalize relayAll t1 es1 (SetTable.grown es1.size) = Rl at p2 f2 q2 ⊢
  obtain ⟨es2,t2,gv⟩:=Rl
  dsimp only at p2 f2 q2 ⊢
  obtain ⟨ms2,pm,r2⟩:=paired_perm p2 e2
  have hz:es2.size = es1.size:=by have:=p2.length_eq; simpa using this
  refine wpAny_bind (hg _ _ _ ?_)
  refine wpAny_bind (wpAny_storeSet_of S1.at' S1.dat ?_ (fits_of_scanBound (by omega)))
  obtain ⟨o2,S2⟩:=S1.put (e1.perm p2) r2 (pm.nodup_iff.mpr e3) (fun k=>pm.mem_iff.trans (e4 k)) (by omega) f2 q2
  exact wpAny_pure (h _ (b1.trans (Heap.SameBut.update _ a _)) ⟨_,_,_,_,_,S2⟩)
 ·rw [if_neg c]
  exact wpAny_pure (h _ b1 ⟨_,_,_,_,_,S1⟩)
theorem add_hashed {Q:Bool→Shared→Prop} (hk:knd.is k x = true) (hx:x.scannable = true) (S:SetT knd s.heap a ks) (hr:ks.length + 1 < scanBound)
  (h:∀ b h',Heap.SameBut a s.heap h'→SetT knd h' a (ks ++ [k])→Q b { s with heap:=h' }):wpAny (model prog w) A (setAddHashed a x (knd.hash k)) Q E s:=by
 obtain ⟨o,es,ep,t,ms,D⟩:=S
 have hz:=D.size
 have hml:ms.length≤ks.length:=nodup_len D.nd fun k hk=>(D.mem k).mp hk
 unfold setAddHashed setAddHashedIn
 refine wpAny_holding (wpAny_bind (wpAny_setState_of D.at' D.dat D.fit ?_))
 dsimp only
 rw [byScan_of hx D.sm D.el,if_pos rfl]
 unfold setAddByScan
 refine wpAny_bind (wpAny_bind (wpAny_rule (wpAny_bind (wpAny_setScan_of hk D.at' D.dat D.fit D.el ?_))))
 cases hf:List.findIdx? (fun e=>knd.is k e.2) es.toList with
 | some j =>
  dsimp only
  obtain ⟨hj,pj,_⟩:=List.findIdx?_eq_some_iff_getElem.mp hf
  have hin:k∈ms:=(is_in D.pr).mpr ⟨_,List.getElem_mem hj,pj⟩
  refine wpAny_pure (wpAny_pure ?_)
  have q:=h false s.heap (Heap.SameBut.refl a s.heap) (SetT.congr ⟨o,es,ep,t,ms,D⟩ fun k'=>?_)
  ·cases s; exact q
  ·rw [List.mem_append,List.mem_singleton]
   exact ⟨.inl,fun z=>z.elim id fun z=>by subst z; exact (D.mem _).mp hin⟩
 | none =>
  dsimp only
  have hout:¬ k∈ms:=fun z=>by
   obtain ⟨e,he,q⟩:=(is_in D.pr).mp z
   have:=List.findIdx?_eq_none_iff.mp hf e he
   rw [q] at this; cases this
  have p1:=layNew_perm t es (knd.hash k) x
  have f1:=layNew_fits t es (knd.hash k) x
  have q1:=D.tab.layNew es (knd.hash k) x
  generalize layNew t es (knd.hash k) x = L at p1 f1 q1 ⊢
  obtain ⟨es1,t1,dm,gv⟩:=L
  dsimp only at p1 f1 q1 ⊢
  rw [Array.toList_push] at p1
  have e1:=(D.el.push hk hx).perm p1
  obtain ⟨ms1,pm,r1⟩:=paired_perm p1 (D.pr.snoc (F:=fun (e:Int× Value) k=>knd.is k e.2 = true) hk)
  have z1:es1.size = es.size + 1:=by have:=p1.length_eq; simpa using this
  have e3:ms1.Nodup:=pm.nodup_iff.mpr (List.nodup_append.mpr ⟨D.nd,by simp,fun y hy z hz=>by rw [List.mem_singleton] at hz; subst hz; exact fun e=>hout (e ▸ hy)⟩)
  have e4:∀ k',k'∈ms1↔k'∈ks ++ [k]:=fun k'=>by rw [pm.mem_iff,List.mem_append,List.mem_append,D.mem]
  have gw:∀ (b:Bool) (s₁:Shared) (Q':Unit→Shared→Prop),Q' () s₁→wpAny (model prog w) A (match b with | true=>rule "set.scan.the-table-gave-way" | false=>pure ()) Q' E s₁:=fun b s₁ Q' q=>by
   cases b
   ·exact wpAny_pure q
   ·exact wpAny_rule q
  refine wpAny_bind (gw _ _ _ ?_)
  have fin:∀ h',Heap.SameBut a s.heap h'→SetT knd h' a (ks ++ [k])→wpAny (model prog w) A (pure true) Q E { s with heap:=h' }:=fun h' b S'=>wpAny_pure (h true h' b S')
  split
  ·refine wpAny_bind ?_
   rw [hashByValue_scannable 8 hx]
   refine wpAny_pure ?_
   refine add_tail gw D e1 r1 e3 e4 (by omega) (by split; exact f1; exact SetTable.fits_plain_off f1) (by split; exact q1; exact q1.plainOff) ?_
   intro h' b S'
   exact fin h' b S'
  ·refine wpAny_bind (wpAny_pure ?_)
   rw [if_pos rfl]
   refine add_tail gw D e1 r1 e3 e4 (by omega) f1 q1 ?_
   intro h' b S'
   exact fin h' b S'
end
section
variable {prog:Program} {w:World} {κ:Type} [DecidableEq κ] {knd:PySem.KeyKind prog w κ}
theorem set_loop {A:Around} {R:Result→Shared→Prop} {I:Addr} {fp wr:List Addr} {G:Array GenState→Array GenState→Prop} {n:Nat} {P:Nat→Value→Prop} {St:Nat→Shared→Prop} (W:WalksS prog w A.in1 I fp wr G n P St) (S:Addr) (hSf:S∉fp)
  (ks:List κ) (hn:ks.length = n) (hv:∀ i v,P i v→∃ k,ks[i]? = some k∧knd.is k v = true∧v.scannable = true) (hb:n + 1 < scanBound) :
  ∀ (j i:Nat) (s:Shared),n - i = j→i≤n→St i s→SetT knd s.heap S (ks.take i)→(∀ s',Moved (S :: wr) G s s'→SetT knd s'.heap S ks→R (.ok (.ret .none)) s') →
   codeAny (model prog w) A (.builtin "set.update.loop" ⟨[.ref S,.ref I],[]⟩) R s:=by
 have hSw:S∉wr:=fun h=>hSf (W.sub _ h)
 have sub:∀ b∈wr,b∈S :: wr:=fun b hb=>List.mem_cons_of_mem _ hb
 intro j
 induction j with
 | zero =>
  intro i s hj hi st hS hR
  have e:i = n:=by omega
  subst e
  refine codeAny_builtin PyProof.Rows.F.entry_set_update_loop ?_
  rw [Around.under_plainId PyProof.Rows.F.plain_set_update_loop _]
  refine wpAny_bind (m:=pyNext (.ref I)) (W.done s _ _ st fun s' mv=>?_)
  refine wpAny_pure (hR s' (mv.mono sub) ?_)
  rw [List.take_of_length_le (by omega)] at hS
  exact hS.keep fun o q=>mv.heap S o hSw q
 | succ j ih =>
  intro i s hj hi st hS hR
  have hlt:i < n:=by omega
  refine codeAny_builtin PyProof.Rows.F.entry_set_update_loop ?_
  rw [Around.under_plainId PyProof.Rows.F.plain_set_update_loop _]
  refine wpAny_bind (m:=pyNext (.ref I)) (W.item i s _ _ hlt st fun v s' hP st' mv=>?_)
  obtain ⟨k,ek,hk,hx⟩:=hv i v hP
  have hS':SetT knd s'.heap S (ks.take i):=hS.keep fun o q=>mv.heap S o hSw q
  show wpAny _ A.in1 (holding [v] (setAdd S v) >>= _) _ _ s'
  refine wpAny_bind (wpAny_holding ?_)
  unfold setAdd
  refine wpAny_holding (wpAny_bind (knd.pyHash (k:=k) hk ?_))
  refine add_hashed (s:={ s' with toks:=s'.toks + 1 }) hk hx hS' (by rw [List.length_take]; omega) fun b h' sb S2=>?_
  have et:ks.take (i + 1) = ks.take i ++ [k]:=by rw [List.take_add_one,ek]; rfl
  refine wpAny_pure ⟨plainId_quiet PyProof.Rows.F.plain_set_update_loop _,ih (i + 1) _ (by omega) hlt (W.frame _ s' _ _ st' (Nat.le_succ _) fun b hb o q=>?_) (by rw [et]; exact S2) fun s'' mv'' S''=>?_⟩
  ·exact (sb.2 b (fun z:b = S=>hSf (z ▸ hb))).trans q
  ·refine hR s'' (Moved.trans W.gtrans ((mv.mono sub).then_heap (Nat.le_succ _) fun b o hb q=>?_) mv'') S''
   exact (sb.2 b (fun z:b = S=>hb (by rw [z]; exact List.mem_cons_self))).trans q
variable {A:Around} {E:Value→Shared→Prop} {s:Shared}
abbrev setNew (w:World):Obj:={ cls:=.type "set", dict:=none,data:=.set #[] 0 (.fresh 0 0 (!w.params.followText "set-order")) }
theorem code_setNew (a:Value) {Q:Value→Shared→Prop} (h:Q (.ref s.heap.objs.size) { s with heap:=s.heap.push (setNew w) }) :
  codeAny (model prog w) A (.call (.builtin "set.__new__") ⟨[.type "set", a],[]⟩) (wants Q E) s:=by
 refine codeAny_of_tree ?_
 refine wpAny_bind (m:=checkBuiltinCall "set.__new__" ⟨[.type "set", a],[]⟩) (wpAny_of_eq (PySem.F.newCall_set_1 a) (wpAny_pure ⟨plainId_quiet PySem.F.plain_set_new _,codeAny_builtin PySem.F.entry_set_new ?_⟩))
 rw [Around.under_plainId PySem.F.plain_set_new _]
 unfold Builtin.«set.__new__» Builtin.Frozenset.newClass
 have hsub:=sub_set_self
 obtain ⟨hp,g,d,tk,os⟩:=s
 dsimp only
 wp_walk
 refine wpAny_askSetting (wpAny_pure ?_)
 dsimp only
 simp only [newObj]
 refine wpAny_bind (wpAny_alloc (wpAny_pure ?_))
 exact wpAny_pure h
theorem setNew_ok {h:Heap} {a:Addr} (e:h.get? a = some (setNew w)):SetT knd h a [] :=
 ⟨_,#[],0,_,[],e,⟨rfl,rfl,rfl⟩,rfl,fun e he=>by simp at he,.nil,by simp,fun k=>Iff.rfl,by decide,rfl,⟨rfl,rfl,by unfold Rise; exact .nil⟩⟩
end
section
variable {prog:Program} {w:World} {κ:Type} [DecidableEq κ] {knd:PySem.KeyKind prog w κ} {A:Around} {E:Value→Shared→Prop} {s:Shared}
def MadeSet (knd:PySem.KeyKind prog w κ) (s:Shared) (ks:List κ) (s2:Shared):Prop:=∃ h' tk,s2 = { s with heap:=h',toks:=tk }∧SetT knd h' s.heap.objs.size ks∧∀ b o,b < s.heap.objs.size→s.heap.get? b = some o→h'.get? b = some o
theorem init_set {l:Addr} {items:Array Value} {ks:List κ} (hh:A.handled = none) (hl:s.heap.IsList l items) (hn:ks.length = items.size) (hv:∀ (i:Nat) (v:Value),items[i]? = some v→∃ k,ks[i]? = some k∧knd.is k v = true∧v.scannable = true) (hb:items.size + 1 < scanBound)
  {Q:Unit→Shared→Prop} (h:∀ s2,MadeSet knd s ks s2→Q () s2) :
  wpAny (model prog w) A (Builtin.Frozenset.updateFrom "set.__init__" s.heap.objs.size (.ref l)) Q E { s with heap:=s.heap.push (setNew w) }:=by
 obtain ⟨ol,hol,hcl,nl,hdl⟩:=id hl
 have hol':=Heap.get?_push_of_some (setNew w) hol
 have ty:Shared.TypeIs { s with heap:=s.heap.push (setNew w) } (.ref l) "list" := ⟨ol,hol',hcl⟩
 have hll:l < s.heap.objs.size:=Heap.lt_size hol
 have hl1:(s.heap.push (setNew w)).IsList l items:=⟨_,hol',hcl,nl,hdl⟩
 have f1:=PySem.F.sub_list_set
 have f2:=PySem.F.sub_list_frozenset
 unfold Builtin.Frozenset.updateFrom
 refine wpAny_bind (m:=Builtin.Frozenset.isAnySet (.ref l)) ?_
 have e0:Builtin.Frozenset.isAnySet (.ref l) = (isInstance (.ref l) (.type "set") >>= fun b=>if b = true then pure true else isInstance (.ref l) (.type "frozenset")):=by
  unfold Builtin.Frozenset.isAnySet orM toBool
  congr 1
  funext b
  cases b <;> rfl
 rw [e0]
 refine wpAny_bind (wpAny_isInstance ty f1 ?_)
 rw [if_neg Bool.false_ne_true]
 refine wpAny_isInstance ty f2 ?_
 rw [if_neg Bool.false_ne_true]
 refine wpAny_bind (wpAny_typeOf ty ?_)
 rw [if_neg (by decide)]
 refine wpAny_bind (wpAny_pyIter_list hl1 ?_)
 refine wpAny_bind (wpAny_runValue ?_)
 have hh3:A.in1.handled = none:=hh
 have hne:l≠(s.heap.push (setNew w)).objs.size:=by rw [Heap.size_push]; exact Nat.ne_of_lt (Nat.lt_succ_of_lt hll)
 have hSf:s.heap.objs.size∉[(s.heap.push (setNew w)).objs.size,l]:=by
  rw [Heap.size_push]
  simp only [List.mem_cons,List.not_mem_nil,or_false,not_or]
  exact ⟨Nat.ne_of_lt (Nat.lt_succ_self _),Nat.ne_of_gt hll⟩
 refine set_loop (knd:=knd) ((Walks.list hh3 _ l hne items).toS) s.heap.objs.size hSf ks hn hv hb (items.size - 0) 0 _ (by omega) (Nat.zero_le _) ⟨⟨_,Heap.get?_push_size _ rfl,rfl,rfl⟩,hl1.push _⟩ ?_ ?_
 ·exact setNew_ok (Heap.get?_push_of_some _ (Heap.get?_push_size _ rfl))
 ·intro s' mv S'
  refine wpAny_pure (h _ ⟨s'.heap,s'.toks,?_,S',fun b o hb e=>?_⟩)
  ·obtain ⟨h',g',d',tk',os'⟩:=s'
   have eg:g' = s.gens:=mv.gens
   have ed:d' = s.drawn:=mv.drawn
   have eo:os' = s.os:=mv.os
   subst eg ed eo
   rfl
  ·refine mv.heap b o ?_ (Heap.get?_push_of_some _ (Heap.get?_push_of_some _ e))
   rw [Heap.size_push]
   simp only [List.mem_cons,List.not_mem_nil,or_false,not_or]
   exact ⟨Nat.ne_of_lt hb,Nat.ne_of_lt (Nat.lt_succ_of_lt hb)⟩
theorem call_setT {l:Addr} {items:Array Value} {ks:List κ} {Q:Value→Shared→Prop} (hh:A.handled = none) (hl:s.heap.IsList l items) (hn:ks.length = items.size) (hv:∀ (i:Nat) (v:Value),items[i]? = some v→∃ k,ks[i]? = some k∧knd.is k v = true∧v.scannable = true)
  (hb:items.size + 1 < scanBound) (h:∀ s2,MadeSet knd s ks s2→Q (.ref s.heap.objs.size) s2):wpAny (model prog w) A (call (.type "set") [.ref l]) Q E s:=by
 obtain ⟨c,tl,hm⟩:=PySem.F.called_set.mro
 have q1:=PySem.F.called_set.made
 have q2:=PySem.F.called_set.sub
 refine wpAny_call (codeAny_of_tree ?_)
 refine wpAny_pure ⟨Code.quiet_builtin _ (by decide +kernel),codeAny_builtin PySem.F.entry_type_call ?_⟩
 rw [Around.under_plain (weight_type_call_type "set" [.ref l] []) rfl]
 have q3:=PySem.F.called_set.notType
 have q4:=PySem.F.called_set.canCreate
 have q5:=PySem.F.typeCall_set_1 (.ref l)
 repeat any_goals (first | wp_step | assumption)
 refine codeAny_mono (code_setNew (w:=w) (.ref l) (E:=E) (Q:=fun obj s₁=>obj = .ref s.heap.objs.size∧s₁ = { s with heap:=s.heap.push (setNew w) }) ⟨rfl,rfl⟩) fun r s₁ hr=>?_
 cases r with
 | error e=>exact hr
 | ok fl =>
  cases fl with
  | ret obj =>
   obtain ⟨rfl,rfl⟩:=hr
   have hS:(s.heap.push (setNew w)).get? s.heap.objs.size = some (setNew w):=Heap.get?_push_size _ rfl
   have ty:Shared.TypeIs { s with heap:=s.heap.push (setNew w) } (.ref s.heap.objs.size) "set" := ⟨_,hS,rfl⟩
   have q6:=PySem.F.called_set.init.lookup
   have q7:=PySem.F.called_set.init.bind (.ref s.heap.objs.size)
   repeat any_goals (first | wp_step | assumption)
   refine codeAny_mono (codeAny_call_builtin (R:=wants (fun r s₂=>r = .none∧MadeSet knd s ks s₂) E) PySem.F.called_set.init.plain PySem.F.entry_set_init (check_set_init_1 ty ?_)) fun r₂ s₂ hr₂=>?_
   ·unfold Builtin.«set.__init__» noKeywords
    generalize hU:Builtin.Frozenset.updateFrom = U
    have ready:wpAny (model prog w) A.in1.in1 (U "set.__init__" s.heap.objs.size (.ref l)) (fun _ s2=>MadeSet knd s ks s2) (fun e s'=>wants (fun r s₂=>r = .none∧MadeSet knd s ks s₂) E (.error e) s') { s with heap:=s.heap.push (setNew w) }:=by
     rw [← hU]
     exact init_set (A:=A.in1.in1) hh hl hn hv hb fun s2 m=>m
    wp_walk
    refine wpAny_mono ready (fun _ s2 m=>?_) fun _ _ q=>q
    exact wpAny_pure ⟨rfl,m⟩
   ·cases r₂ with
    | error e=>exact hr₂
    | ok fl₂ =>
     cases fl₂ with
     | ret r =>
      obtain ⟨rfl,m⟩:=hr₂
      have z:=h _ m
      repeat any_goals (first | wp_step | assumption)
     | _=>exact hr₂.elim
  | _=>exact hr.elim
end
theorem dup_ex {κ:Type} [DecidableEq κ]:∀ l:List κ,¬ l.Nodup→∃ x∈l,x∈l.erase x
 | [],h=>absurd List.nodup_nil h
 | a :: t,h=>by
  by_cases c:a∈t
  ·exact ⟨a,List.mem_cons_self,by rw [List.erase_cons_head]; exact c⟩
  ·obtain ⟨x,hx,hx2⟩:=dup_ex t (fun z=>h (List.nodup_cons.mpr ⟨c,z⟩))
   have ne:x≠a:=fun e=>c (e ▸ hx)
   refine ⟨x,List.mem_cons_of_mem _ hx,?_⟩
   rw [List.erase_cons_tail (by simpa using fun e=>ne e.symm)]
   exact List.mem_cons_of_mem _ hx2
section
variable {X:Cx}
def tLST (K:PySem.W.Frag) (te:TE):TE:=fun σ H Q=>te σ H fun x H1=>∃ l ts,x = .ref l∧SqL K H1 l ((ts:List Str).map V.str)∧ts.length≤2000∧∀ n:Nat,(ts.Nodup→n = ts.length)→(¬ ts.Nodup→n < ts.length)→Q (.int n) H1
theorem boot_setK:bootBuiltins "set" = some (.type "set"):=by decide +kernel
theorem pe_lsetT {e:Expr} {te:TE} {p p2 pos pos2:Pos} (hc:X.calm = true) (hg:Gl X "len") (hm:X.mg "len" = none) (hg2:Gl X "set") (hm2:X.mg "set" = none) (he:PE X e te)
  (h1:starEach [e] X.env = [(false,eval e X.env)]:=by rfl) (h2:starEach [.Call (.Name "set" p2) [e] [] pos2] X.env = [(false,eval (.Call (.Name "set" p2) [e] [] pos2) X.env)]:=by rfl) :
  PE X (.Call (.Name "len" p) [.Call (.Name "set" p2) [e] [] pos2] [] pos) (tLST X.K te):=by
 intro pins s σ H Q I h
 refine wpAny_Call_Name_kw (ld_blt I hg hm PySem.boot_len ?_ (by decide) (by decide))
 refine PyProof.Rows.callWith_builtin1 ?_ h2 rfl
 rw [h2]
 refine Calls.spliced_cons ?_
 refine wpAny_Call_Name_kw (ld_blt I hg2 hm2 boot_setK ?_ (by decide) (by decide))
 refine PyProof.Rows.callWith_type1 ?_ h1 rfl
 rw [h1]
 refine Calls.spliced_cons (thn (he pins s σ H _ I h) fun u s1 ⟨x,H1,I1,r1,q1⟩=>Calls.spliced_nil ?_)
 obtain ⟨l,ts,rfl,hS,hl,q⟩:=q1
 cases r1
 obtain ⟨its,rv,pl,hz⟩:=I1.list hS
 have hlen:=rv.length
 rw [List.length_map] at hlen
 have hsz:its.toArray.size = its.length:=by simp
 obtain ⟨sl,rfl,es⟩:=strs_vals rv
 refine call_setT (knd:=strKind X.prog X.w) (ks:=ts) (I1.ok.hd hc) pl.isList (by rw [hsz]; exact hlen) (fun i v hv=>?_) (by rw [hsz]; show _ + 1 < 4096; omega) fun s2 m=>Calls.spliced_nil ?_
 ·have hv':(strValues sl)[i]? = some v:=by simpa using hv
  unfold strValues at hv'
  rw [List.getElem?_map] at hv'
  cases ei:sl[i]? with
  | none=>rw [ei] at hv'; cases hv'
  | some p' =>
   rw [ei] at hv'
   cases hv'
   refine ⟨p'.1,?_,strKind_is _ _ _ _,rfl⟩
   rw [← es,List.getElem?_map,ei]; rfl
 obtain ⟨h',tk,rfl,S,k1⟩:=m
 obtain ⟨o,es',ep,t,ms,D⟩:=S
 have e2:=PySem.Paired.length D.pr
 have e3:es'.size = ms.length:=by rw [← e2]; simp
 have l1:ms.length≤ts.length:=nodup_len D.nd fun k hk=>(D.mem k).mp hk
 refine call_len_set (s:={ s1 with heap:=h',toks:=tk }) D.at' D.ex D.dat D.fit (by omega) ?_
 have I2:Inv X pins σ H1 { s1 with heap:=h',toks:=tk + 1 + 1 }:=I1.kept fun b u e=>k1 b u (Heap.lt_size e) e
 refine ⟨.int ms.length,H1,I2,⟨_,by rw [e3]⟩,q ms.length (fun nd=>Nat.le_antisymm l1 (nodup_len nd fun k hk=>(D.mem k).mpr hk)) fun nd=>?_⟩
 obtain ⟨x,hx,hx2⟩:=dup_ex ts nd
 have:=nodup_len D.nd (l':=ts.erase x) fun k hk=>by
  by_cases c:k = x
  ·subst c; exact hx2
  ·exact (List.mem_erase_of_ne c).mpr ((D.mem k).mp hk)
 rw [List.length_erase_of_mem hx] at this
 have hp:0 < ts.length:=List.length_pos_of_mem hx
 omega
def rEqN (K:PySem.W.Frag):R2:=fun x y H Q=>∃ p q a xs b,x = .ref p∧y = .ref q∧SqT K H p (.str a :: xs)∧SqT K H q [.str b]∧(a = b→xs = []∧Q (.bl true) H)∧(¬ a = b→Q (.bl false) H)
theorem op_eqNK (hu:X.A.units + 64 < cLine):OpR X (compareOp .Eq) (rEqN X.K):=by
 intro pins s σ H x y v u Q I rx ry h
 obtain ⟨p,q,a,xs,b,rfl,rfl,h1,h2,qt,qf⟩:=h
 cases rx
 cases ry
 obtain ⟨us,r1,p1,z1⟩:=I.tuple h1
 obtain ⟨ws,r2,p2,z2⟩:=I.tuple h2
 obtain ⟨u1,us',rfl⟩:∃ u1 us',us = u1 :: us':=by
  cases us with
  | nil=>cases r1
  | cons u1 us'=>exact ⟨u1,us',rfl⟩
 obtain ⟨w1,rfl⟩:∃ w1,ws = [w1]:=by
  cases r2 with
  | cons _ t=>cases t; exact ⟨_,rfl⟩
 have ra:RelV (.str a) u1:=by cases r1 with | cons f _=>exact f
 have rb:RelV (.str b) w1:=by cases r2 with | cons f _=>exact f
 have rx:Vals xs us':=by cases r1 with | cons _ t=>exact t
 have lx:=rx.length
 refine SeqAt.eq_tupleAt (e:=fun _=>decide (a = b)) (show s.heap.IsTuple p (u1 :: us').toArray from p1) (show s.heap.IsTuple q [w1].toArray from p2) (by omega) (fun j h1 h2=>?_) ?_
 ·have j0:j = 0:=by simp at h2; omega
  subst j0
  have e:=eqAt_V (A:=X.A.in1) (s:=s) ra rb rfl rfl
  rw [show eqV (.str a) (.str b) = decide (a = b) by show (a == b) = _; rw [Bool.eq_iff_iff]; simp] at e
  exact e
 ·have em:min (u1 :: us').toArray.size [w1].toArray.size = 1:=by simp
  rw [em]
  by_cases c:a = b
  ·obtain ⟨rfl,q'⟩:=qt c
   have:us' = []:=List.length_eq_zero_iff.mp (by rw [← lx]; rfl)
   subst this
   refine ⟨.bl true,H,I,?_,q'⟩
   simp [c,RelV]
  ·refine ⟨.bl false,H,I,?_,qf c⟩
   simp [c,RelV]
end
end L2
end
section
set_option Elab.async false
set_option linter.all false
set_option maxRecDepth 100000
set_option maxHeartbeats 4000000
namespace My
open PySem L2
section
variable {P:Program} {w:World} {K:PySem.W.Frag} {mg:Str→Option Value} {base:Heap} {cTw:Addr}
theorem ok_once (F:FunM K mg "check_once" ["names"] s_check_once) (T:Txt mg) (hTw:mg "Twice" = some (.ref cTw)) (eTw:ExcC K cTw):CalleeX P w K mg base 1 "check_once" ["names"] (spOnce cTw):=by
 refine F.okX sc_check_once (fun vs H Q E h=>?_) (fun f cdv A outer s H vs Q E hr h=>?_)
 ·obtain ⟨a,ns,rfl,_⟩:=h; rfl
 obtain ⟨a,ns,rfl,ha,hl,h⟩:=h
 refine ⟨_,(pss_one (ps_if (pt_cmpR op_lt (pe_lsetT rfl rfl T.n_len rfl T.n_set (pv 0)) (pe_callB call_lenK rfl T.n_len PySem.boot_len (pa_cons (pv 0) pa_nil)) (nomark _))
   (pss_one (ps_raise eTw hTw rfl (pa_cons pe_str pa_nil)))
   pss_nil)),?_⟩
 refine ⟨_,rfl,a,ns,rfl,SqL.of ha,hl,fun n h1 h2=>⟨_,rfl,a,_,rfl,.inl (SqL.of ha),_,_,rfl,rfl,_,rfl,?_⟩⟩
 rcases h with ⟨nd,q⟩ | ⟨nd,e⟩
 ·have:=h1 nd
  rw [decide_eq_false (by rw [List.length_map]; omega)]
  exact iteF (q H (Same.refl _))
 ·have:=h2 nd
  rw [decide_eq_true (by rw [List.length_map]; omega)]
  exact iteT ⟨by show 1≤sizeLine; decide,e _ (Same.refl _)⟩
end
def bal:List Str→Int
 | []=>0
 | x :: r=>(if x = "{" then 1 else if x = "}" then -1 else 0) + bal r
theorem bal_app (a b:List Str):bal (a ++ b) = bal a + bal b:=by
 induction a with
 | nil=>simp [bal]
 | cons x r ih=>simp only [List.cons_append,bal,ih]; omega
def Dp (d:Nat) (r:List Str):Prop:=∀ a b:List Str,r = a ++ b→bal a≤d
theorem Dp.rest {d:Nat} {c r:List Str} (h:Dp d (c ++ r)) (hc:bal c = 0):Dp d r:=fun a b e=>by
 have:=h (c ++ a) b (by rw [e,List.append_assoc])
 rw [bal_app,hc] at this
 omega
theorem Dp.tail {d:Nat} {x:Str} {r:List Str} (h:Dp d (x :: r)) (h1:¬ x = "{") (h2:¬ x = "}"):Dp d r :=
 Dp.rest (c:=[x]) h (by simp [bal,h1,h2])
theorem Dp.opn {d:Nat} {r:List Str} (h:Dp d (("{" : Str) :: r)):∃ e,d = e + 1∧Dp e r:=by
 have h1:=h [("{" : Str)] r rfl
 have e1:bal [("{" : Str)] = 1:=by decide
 rw [e1] at h1
 refine ⟨d - 1,by omega,fun a b e=>?_⟩
 have:=h (("{" : Str) :: a) b (by rw [e]; rfl)
 have e2:bal (("{" : Str) :: a) = 1 + bal a:=by simp [bal]
 rw [e2] at this
 omega
def fstL:List Str:=["{", "nothing", "rest", "halt", "send", "keep", "await", "exit", "hold", "watch", "weak", "trap", "local", "again", "if"]
def folL:List Str:=[";", "|", "}", ""]
def okp (x y:Str):Prop :=
 (x∈bareL→y∈folL)∧(x = "}" → y∈folL∨y = "else")∧(nameB x = true→y∈folL∨y = "{")∧(x∈namedL∨x∈roundL∨x = "if" → nameB y = true)∧(x = ";" ∨ x = "|" ∨ x = "{" → y∈fstL)∧(x = "again" ∨ x = "else" → y = "{")
def adj:List Str→Str→Prop
 | [],_=>True
 | [x],z=>okp x z
 | x :: y :: r,z=>okp x y∧adj (y :: r) z
theorem adj_cons {x:Str} {r:List Str} {z:Str} (h:okp x ((r ++ [z]).headD "")) (h2:adj r z):adj (x :: r) z:=by
 cases r with
 | nil=>exact h
 | cons y r=>exact ⟨h,h2⟩
theorem adj_app {y:Str} {b:List Str} {z:Str}:∀ {a:List Str},adj a y→adj (y :: b) z→adj (a ++ y :: b) z
 | [],_,h=>h
 | [x],h1,h2=>⟨h1,h2⟩
 | x :: x2 :: a,h1,h2=>⟨h1.1,adj_app (a:=x2 :: a) h1.2 h2⟩
theorem adj_in {x y:Str} {b:List Str} {z:Str}:∀ {a:List Str},adj (a ++ x :: y :: b) z→okp x y
 | [],h=>h.1
 | [c],h=>adj_in (a:=[]) h.2
 | c :: c2 :: a,h=>adj_in (a:=c2 :: a) h.2
theorem adj_last {x z:Str}:∀ {a:List Str},adj (a ++ [x]) z→okp x z
 | [],h=>h
 | [c],h=>h.2
 | c :: c2 :: a,h=>adj_last (a:=c2 :: a) h.2
structure Cs (ys r c r':List Str):Prop where
 e:r = c ++ r'
 b:bal c = 0
 h:c.headD "" ∈ fstL
 n:c≠[]
 a:∀ y∈ys,adj c y
def kwL:List Str:=fstL ++ ([";", "|", "}", "else"]:List Str)
theorem kw_off:∀ x∈kwL,nameB x = false:=by
 have:∀ x∈kwL,(Txt.isalpha x && decide (x.length≤8) && !kept.contains x) = false:=by decide +kernel
 exact this
theorem okp_kw {x y:Str} (hx:x∈kwL) (h1:x∈bareL→y∈folL) (h2:x = "}" → y∈folL∨y = "else") (h4:x∈namedL∨x∈roundL∨x = "if" → nameB y = true) (h5:x = ";" ∨ x = "|" ∨ x = "{" → y∈fstL) (h6:x = "again" ∨ x = "else" → y = "{"):okp x y :=
 ⟨h1,h2,fun z=>(by rw [kw_off x hx] at z; cases z),h4,h5,h6⟩
theorem bare_f:∀ w∈bareL,w∈fstL∧w∈kwL∧¬ w = "}" ∧ ¬ w = "{" ∧ ¬ (w∈namedL∨w∈roundL∨w = "if")∧¬ (w = ";" ∨ w = "|" ∨ w = "{")∧¬ (w = "again" ∨ w = "else"):=by decide
theorem named_f:∀ w∈namedL,w∈fstL∧w∈kwL∧¬ w∈bareL∧¬ w = "}" ∧ ¬ w = "{" ∧ ¬ (w = ";" ∨ w = "|" ∨ w = "{")∧¬ (w = "again" ∨ w = "else"):=by decide
theorem round_f:∀ w∈roundL,w∈fstL∧w∈kwL∧¬ w∈bareL∧¬ w = "}" ∧ ¬ w = "{" ∧ ¬ (w = ";" ∨ w = "|" ∨ w = "{")∧¬ (w = "again" ∨ w = "else"):=by decide
theorem okp_bare {w y:Str} (h:w∈bareL) (hy:y∈folL):okp w y:=by
 obtain ⟨_,f2,f3,_,f4,f5,f6⟩:=bare_f w h
 exact okp_kw f2 (fun _=>hy) (fun z=>absurd z f3) (fun z=>absurd z f4) (fun z=>absurd z f5) (fun z=>absurd z f6)
theorem okp_named {w y:Str} (h:w∈namedL∨w∈roundL) (hy:nameB y = true):okp w y:=by
 have f:w∈fstL∧w∈kwL∧¬ w∈bareL∧¬ w = "}" ∧ ¬ w = "{" ∧ ¬ (w = ";" ∨ w = "|" ∨ w = "{")∧¬ (w = "again" ∨ w = "else"):=h.elim (named_f w) (round_f w)
 obtain ⟨_,f2,f3,f4,_,f5,f6⟩:=f
 exact okp_kw f2 (fun z=>absurd z f3) (fun z=>absurd z f4) (fun _=>hy) (fun z=>absurd z f5) (fun z=>absurd z f6)
theorem okp_if {y:Str} (hy:nameB y = true):okp "if" y:=okp_kw (by decide) (fun z=>absurd z (by decide)) (fun z=>absurd z (by decide)) (fun _=>hy) (fun z=>absurd z (by decide)) (fun z=>absurd z (by decide))
theorem okp_again {y:Str} (hy:y = "{"):okp "again" y:=okp_kw (by decide) (fun z=>absurd z (by decide)) (fun z=>absurd z (by decide)) (fun z=>absurd z (by decide)) (fun z=>absurd z (by decide)) (fun _=>hy)
theorem okp_else {y:Str} (hy:y = "{"):okp "else" y:=okp_kw (by decide) (fun z=>absurd z (by decide)) (fun z=>absurd z (by decide)) (fun z=>absurd z (by decide)) (fun z=>absurd z (by decide)) (fun _=>hy)
theorem okp_sep {x y:Str} (h:x = ";" ∨ x = "|" ∨ x = "{") (hy:y∈fstL):okp x y:=by
 rcases h with rfl | rfl | rfl
 ·exact okp_kw (by decide) (fun z=>absurd z (by decide)) (fun z=>absurd z (by decide)) (fun z=>absurd z (by decide)) (fun _=>hy) (fun z=>absurd z (by decide))
 ·exact okp_kw (by decide) (fun z=>absurd z (by decide)) (fun z=>absurd z (by decide)) (fun z=>absurd z (by decide)) (fun _=>hy) (fun z=>absurd z (by decide))
 ·exact okp_kw (by decide) (fun z=>absurd z (by decide)) (fun z=>absurd z (by decide)) (fun z=>absurd z (by decide)) (fun _=>hy) (fun z=>absurd z (by decide))
theorem okp_close {y:Str} (hy:y∈folL∨y = "else"):okp "}" y:=okp_kw (by decide) (fun z=>absurd z (by decide)) (fun _=>hy) (fun z=>absurd z (by decide)) (fun z=>absurd z (by decide)) (fun z=>absurd z (by decide))
theorem name_f {x:Str} (h:nameB x = true):x∉kwL:=fun z=>by rw [kw_off x z] at h; cases h
theorem okp_name {x y:Str} (h:nameB x = true) (hy:y∈folL∨y = "{"):okp x y:=by
 have n:=name_f h
 have off:∀ L:List Str,(∀ w∈L,w∈kwL)→x∉L:=fun L hL z=>n (hL x z)
 refine ⟨fun z=>absurd z (off _ (by decide)),fun z=>absurd (show x∈(["}"]:List Str) by rw [z]; simp) (off _ (by decide)),fun _=>hy,fun z=>?_,fun z=>?_,fun z=>?_⟩
 ·rcases z with z | z | z
  ·exact absurd z (off _ (by decide))
  ·exact absurd z (off _ (by decide))
  ·exact absurd (show x∈(["if"]:List Str) by rw [z]; simp) (off _ (by decide))
 ·exact absurd (show x∈([";", "|", "{"]:List Str) by simpa using z) (off _ (by decide))
 ·exact absurd (show x∈(["again", "else"]:List Str) by simpa using z) (off _ (by decide))
theorem bal1 {x:Str} (h1:¬ x = "{") (h2:¬ x = "}") (r:List Str):bal (x :: r) = bal r:=by simp [bal,h1,h2]
theorem name_nb {x:Str} (h:nameB x = true):¬ x = "{" ∧ ¬ x = "}" := ⟨fun z=>name_f h (by rw [z]; decide),fun z=>name_f h (by rw [z]; decide)⟩
theorem hd_app {c b:List Str} (h:c≠[]):(c ++ b).headD "" = c.headD "" := by
 cases c with
 | nil=>exact absurd rfl h
 | cons x r=>rfl
theorem Cs.weak {ys zs r c r':List Str} (h:Cs ys r c r') (k:∀ y∈zs,y∈ys):Cs zs r c r':=⟨h.e,h.b,h.h,h.n,fun y hy=>h.a y (k y hy)⟩
structure Ct (m:Str) (r c r':List Str):Prop where
 e:r = c ++ r'
 b:bal c = 0
 h:c = []∨c.headD "" = m
 a:c≠[]→∀ y∈folL,adj c y
theorem cs_join {m:Str} (hm:m∈folL) {r c r1 c2 r':List Str} (h:Cs folL r c r1) (k:Ct m r1 c2 r'):Cs folL r (c ++ c2) r':=by
 refine ⟨by rw [h.e,k.e,List.append_assoc],by rw [bal_app,h.b,k.b]; rfl,by rw [hd_app h.n]; exact h.h,fun z=>h.n (List.append_eq_nil_iff.mp z).1,fun y hy=>?_⟩
 rcases k.h with z | z
 ·rw [z,List.append_nil]; exact h.a y hy
 ·cases c2 with
  | nil=>rw [List.append_nil]; exact h.a y hy
  | cons x b =>
   have z:x = m:=z
   subst z
   exact adj_app (h.a x hm) (k.a (by simp) y hy)
theorem ct_more {m:Str} (hs:m = ";" ∨ m = "|") {r c r1 c2 r':List Str} (h:Cs folL r c r1) (k:Ct m r1 c2 r'):Ct m (m :: r) (m :: (c ++ c2)) r':=by
 have hm:m∈folL:=by rcases hs with rfl | rfl <;> decide
 have j:=cs_join hm h k
 have nb:¬ m = "{" ∧ ¬ m = "}" := by rcases hs with rfl | rfl <;> decide
 refine ⟨by rw [j.e]; rfl,by rw [bal1 nb.1 nb.2]; exact j.b,.inr rfl,fun _ y hy=>adj_cons ?_ (j.a y hy)⟩
 rw [hd_app j.n]
 exact okp_sep (by rcases hs with z | z <;> simp [z]) j.h
theorem cs_word {w:Str} {ys r c r':List Str} (hw:w∈fstL) (nb:¬ w = "{" ∧ ¬ w = "}") (e:r = c ++ r') (b:bal c = 0) (a:∀ y∈ys,adj c y) (o:∀ y∈ys,okp w ((c ++ [y]).headD "")):Cs ys (w :: r) (w :: c) r' :=
 ⟨by rw [e]; rfl,by rw [bal1 nb.1 nb.2]; exact b,hw,by simp,fun y hy=>adj_cons (o y hy) (a y hy)⟩
abbrev folE:List Str:=folL ++ (["else"]:List Str)
mutual
theorem PPart.cs:∀ {d:Nat} {r:List Str} {t:Nd} {r':List Str},PPart d r t r'→∃ c,Cs folL r c r'
 | _,_,_,_,.brace _ h=>by
  obtain ⟨c,k,_⟩:=PBr.cs h
  exact ⟨c,k.weak fun y hy=>List.mem_append_left _ hy⟩
 | _,_,_,_,.bare (w:=w) (r:=r) hw=>by
  obtain ⟨f1,_,f3,f4,_⟩:=bare_f w hw
  exact ⟨[w],cs_word (c:=[]) f1 ⟨f4,f3⟩ rfl rfl (fun _ _=>trivial) (fun y hy=>okp_bare hw hy)⟩
 | _,_,_,_,.named (w:=w) (x:=x) hw hx=>by
  obtain ⟨f1,_,_,f4,f5,_⟩:=named_f w hw
  have nx:=name_nb hx
  exact ⟨[w,x],cs_word (c:=[x]) f1 ⟨f5,f4⟩ rfl (by rw [bal1 nx.1 nx.2]; rfl) (fun y hy=>okp_name hx (.inl hy)) (fun y hy=>okp_named (.inl hw) hx)⟩
 | _,_,_,_,.round (w:=w) (x:=x) hw hx h=>by
  obtain ⟨f1,_,_,f4,f5,_⟩:=round_f w hw
  obtain ⟨c,k,hc⟩:=PBr.cs h
  have nx:=name_nb hx
  refine ⟨w :: x :: c,cs_word (c:=x :: c) f1 ⟨f5,f4⟩ (by rw [k.e]; rfl) (by rw [bal1 nx.1 nx.2]; exact k.b) (fun y hy=>adj_cons ?_ (k.a y (List.mem_append_left _ hy))) (fun y hy=>okp_named (.inr hw) hx)⟩
  rw [hd_app k.n,hc]
  exact okp_name hx (.inr rfl)
 | _,_,_,_,.again h=>by
  obtain ⟨c,k,hc⟩:=PBr.cs h
  exact ⟨"again" :: c,cs_word (c:=c) (by decide) (by decide) k.e k.b (fun y hy=>k.a y (List.mem_append_left _ hy)) (fun y hy=>by rw [hd_app k.n,hc]; exact okp_again rfl)⟩
 | _,_,_,_,.iff h=>by
  obtain ⟨x,c,e,hx,b,a⟩:=PIf.cs h
  exact ⟨"if" :: x :: c,cs_word (c:=x :: c) (by decide) (by decide) e b a (fun y hy=>okp_if hx)⟩
theorem PBr.cs:∀ {d:Nat} {r:List Str} {t:Nd} {r':List Str},PBr d r t r'→∃ c,Cs folE r c r'∧c.headD "" = "{"
 | _,_,_,_,.mk h=>by
  obtain ⟨c,k⟩:=PBlock.cs h
  refine ⟨("{" : Str) :: (c ++ [("}" : Str)]),⟨by rw [k.e]; simp,?_,(show ("{" : Str)∈fstL by decide),by simp,fun y hy=>adj_cons ?_ (adj_app (k.a "}" (by decide)) ?_)⟩,rfl⟩
  ·show 1 + bal (c ++ [("}" : Str)]) = 0
   rw [bal_app,k.b]
   decide
  ·rw [List.append_assoc,hd_app k.n]
   exact okp_sep (.inr (.inr rfl)) k.h
  ·refine okp_close ?_
   rcases List.mem_append.mp hy with z | z
   ·exact .inl z
   ·exact .inr (List.mem_singleton.mp z)
theorem PIf.cs:∀ {d:Nat} {r:List Str} {t:Nd} {r':List Str},PIf d r t r'→∃ x c,r = x :: c ++ r'∧nameB x = true∧bal (x :: c) = 0∧∀ y∈folL,adj (x :: c) y
 | _,_,_,_,.one (x:=x) hx h _=>by
  obtain ⟨c,k,hc⟩:=PBr.cs h
  have nx:=name_nb hx
  refine ⟨x,c,by rw [k.e]; rfl,hx,by rw [bal1 nx.1 nx.2]; exact k.b,fun y hy=>adj_cons ?_ (k.a y (List.mem_append_left _ hy))⟩
  rw [hd_app k.n,hc]
  exact okp_name hx (.inr rfl)
 | _,_,_,_,.two (x:=x) hx h h2=>by
  obtain ⟨c,k,hc⟩:=PBr.cs h
  obtain ⟨c2,k2,hc2⟩:=PBr.cs h2
  have nx:=name_nb hx
  refine ⟨x,c ++ ("else" : Str) :: c2,by rw [k.e,k2.e]; simp,hx,?_,fun y hy=>adj_cons ?_ (adj_app (k.a "else" (by decide)) (adj_cons ?_ (k2.a y (List.mem_append_left _ hy))))⟩
  ·rw [bal1 nx.1 nx.2,bal_app,k.b,bal1 (by decide) (by decide),k2.b]; rfl
  ·rw [List.append_assoc,hd_app k.n,hc]
   exact okp_name hx (.inr rfl)
  ·rw [hd_app k2.n,hc2]
   exact okp_else rfl
theorem PRowT.cs:∀ {d:Nat} {t0:Nd} {r:List Str} {t:Nd} {r':List Str},PRowT d t0 r t r'→∃ c,Ct ";" r c r'
 | _,_,_,_,_,.done _=>⟨[],rfl,rfl,.inl rfl,fun z=>absurd rfl z⟩
 | _,_,_,_,_,.more h h2=>by
  obtain ⟨c,k⟩:=PPart.cs h
  obtain ⟨c2,k2⟩:=PRowT.cs h2
  exact ⟨_,ct_more (.inl rfl) k k2⟩
theorem PRow.cs:∀ {d:Nat} {r:List Str} {t:Nd} {r':List Str},PRow d r t r'→∃ c,Cs folL r c r'
 | _,_,_,_,.mk h h2=>by
  obtain ⟨c,k⟩:=PPart.cs h
  obtain ⟨c2,k2⟩:=PRowT.cs h2
  exact ⟨_,cs_join (by decide) k k2⟩
theorem PBlockT.cs:∀ {d:Nat} {t0:Nd} {r:List Str} {t:Nd} {r':List Str},PBlockT d t0 r t r'→∃ c,Ct "|" r c r'
 | _,_,_,_,_,.done _=>⟨[],rfl,rfl,.inl rfl,fun z=>absurd rfl z⟩
 | _,_,_,_,_,.more h h2=>by
  obtain ⟨c,k⟩:=PRow.cs h
  obtain ⟨c2,k2⟩:=PBlockT.cs h2
  exact ⟨_,ct_more (.inr rfl) k k2⟩
theorem PBlock.cs:∀ {d:Nat} {r:List Str} {t:Nd} {r':List Str},PBlock d r t r'→∃ c,Cs folL r c r'
 | _,_,_,_,.mk h h2=>by
  obtain ⟨c,k⟩:=PRow.cs h
  obtain ⟨c2,k2⟩:=PBlockT.cs h2
  exact ⟨_,cs_join (by decide) k k2⟩
end
structure Tot (d:Nat) (r:List Str):Prop where
 part:(∃ t r',PPart d r t r')∨FPart d r
 br:(∃ t r',PBr d r t r')∨FBr d r
 iff:(∃ t r',PIf d r t r')∨FIf d r
 rowT:∀ t0,(∃ t r',PRowT d t0 r t r')∨FRowT d r
 row:(∃ t r',PRow d r t r')∨FRow d r
 blkT:∀ t0,(∃ t r',PBlockT d t0 r t r')∨FBlockT d r
 blk:(∃ t r',PBlock d r t r')∨FBlock d r
theorem hd_cons {r:List Str} {x:Str} (h:hdS r = x) (hx:¬ x = ""):∃ r2,r = x :: r2:=by
 cases r with
 | nil=>exact absurd (show x = "" from h.symm) hx
 | cons y r2=>exact ⟨r2,by rw [show y = x from h]⟩
theorem name_ne {x:Str} (h:nameB x = true):¬ x = "" := fun z=>by
 rw [z] at h
 have:nameB "" = false:=by
  have e:(Txt.isalpha "" && decide (("" : Str).length≤8) && !kept.contains "") = false:=by decide +kernel
  exact e
 rw [this] at h
 cases h
theorem total:∀ (n d:Nat) (r:List Str),r.length≤n→Dp d r→Tot d r:=by
 intro n
 induction n with
 | zero =>
  intro d r hl _
  have:r = []:=List.length_eq_zero_iff.mp (by omega)
  subst this
  have fp:FPart d []:=.no (by decide) (by decide) (by decide) (by decide) (by decide) (by decide)
  exact ⟨.inr fp,.inr (.noOpen (by decide)),.inr (.noName (Bool.eq_false_iff.mpr fun z=>name_ne z rfl)),fun t0=>.inl ⟨t0,[],.done (by decide)⟩,.inr (.first fp),fun t0=>.inl ⟨t0,[],.done (by decide)⟩,.inr (.first (.first fp))⟩
 | succ n ih =>
  intro d r hl hD
  have br:(∃ t r',PBr d r t r')∨FBr d r:=by
   by_cases h:hdS r = "{"
   ·obtain ⟨r2,rfl⟩:=hd_cons h (by decide)
    obtain ⟨e,rfl,hD2⟩:=hD.opn
    rw [List.length_cons] at hl
    rcases (ih e r2 (by omega) hD2).blk with ⟨t,r',hp⟩ | hf
    ·by_cases h2:hdS r' = "}"
     ·obtain ⟨r3,rfl⟩:=hd_cons h2 (by decide)
      exact .inl ⟨t,r3,.mk hp⟩
     ·exact .inr (.noClose hp h2)
    ·exact .inr (.inn hf)
   ·exact .inr (.noOpen h)
  have step:∀ {x:Str} {r2:List Str},r = x :: r2→¬ x = "{" → ¬ x = "}" → Tot d r2:=fun {x r2} e h1 h2=>by
   rw [e] at hl hD
   rw [List.length_cons] at hl
   exact ih d r2 (by omega) (hD.tail h1 h2)
  have after:∀ {t:Nd} {r':List Str},PBr d r t r'→Tot d r':=fun {t r'} hp=>by
   obtain ⟨c,k,_⟩:=hp.cs
   have:=PBr.lt hp
   exact ih d r' (by omega) (Dp.rest (c:=c) (by rw [← k.e]; exact hD) k.b)
  have iff':(∃ t r',PIf d r t r')∨FIf d r:=by
   by_cases h:nameB (hdS r) = true
   ·obtain ⟨x,r2,rfl⟩:∃ x r2,r = x :: r2:=by
     cases r with
     | nil=>exact absurd rfl (name_ne h)
     | cons x r2=>exact ⟨x,r2,rfl⟩
    have nx:=name_nb h
    have T2:=step rfl nx.1 nx.2
    rcases T2.br with ⟨t,r',hp⟩ | hf
    ·by_cases h2:hdS r' = "else"
     ·obtain ⟨r3,rfl⟩:=hd_cons h2 (by decide)
      obtain ⟨c,k,_⟩:=hp.cs
      have l1:=PBr.lt hp
      rw [List.length_cons] at hl l1
      have D2:Dp d r2:=hD.tail nx.1 nx.2
      have D3:Dp d (("else" : Str) :: r3):=Dp.rest (c:=c) (by rw [← k.e]; exact D2) k.b
      have T3:=ih d r3 (by omega) (D3.tail (by decide) (by decide))
      rcases T3.br with ⟨t2,r4,hp2⟩ | hf2
      ·exact .inl ⟨_,r4,.two h hp hp2⟩
      ·exact .inr (.two h hp hf2)
     ·exact .inl ⟨_,r',.one h hp h2⟩
    ·exact .inr (.one h hf)
   ·exact .inr (.noName (Bool.eq_false_iff.mpr h))
  have part:(∃ t r',PPart d r t r')∨FPart d r:=by
   by_cases h1:hdS r = "{"
   ·rcases br with ⟨t,r',hp⟩ | hf
    ·exact .inl ⟨t,r',.brace h1 hp⟩
    ·exact .inr (.brace h1 hf)
   by_cases h2:hdS r∈bareL
   ·obtain ⟨r2,e⟩:=hd_cons (r:=r) rfl (fun z=>absurd (z ▸ h2) (by decide))
    rw [e]
    exact .inl ⟨_,r2,.bare h2⟩
   by_cases h3:hdS r∈namedL
   ·obtain ⟨r2,e⟩:=hd_cons (r:=r) rfl (fun z=>absurd (z ▸ h3) (by decide))
    rw [e]
    by_cases h:nameB (hdS r2) = true
    ·obtain ⟨r3,e3⟩:=hd_cons (r:=r2) rfl (name_ne h)
     rw [e3]
     exact .inl ⟨_,r3,.named h3 h⟩
    ·exact .inr (.named h3 (Bool.eq_false_iff.mpr h))
   by_cases h4:hdS r∈roundL
   ·obtain ⟨r2,e⟩:=hd_cons (r:=r) rfl (fun z=>absurd (z ▸ h4) (by decide))
    obtain ⟨_,_,_,f4,f5,_⟩:=round_f _ h4
    have T2:=step e f5 f4
    rw [e]
    by_cases h:nameB (hdS r2) = true
    ·obtain ⟨r3,e3⟩:=hd_cons (r:=r2) rfl (name_ne h)
     have nx:=name_nb h
     have T3:Tot d r3:=by
      rw [e] at hl hD
      rw [e3] at hl hD
      simp only [List.length_cons] at hl
      exact ih d r3 (by omega) ((hD.tail f5 f4).tail nx.1 nx.2)
     rw [e3]
     rcases T3.br with ⟨t,r',hp⟩ | hf
     ·exact .inl ⟨_,r',.round h4 h hp⟩
     ·exact .inr (.round h4 h hf)
    ·exact .inr (.roundN h4 (Bool.eq_false_iff.mpr h))
   by_cases h5:hdS r = "again"
   ·obtain ⟨r2,rfl⟩:=hd_cons h5 (by decide)
    rcases (step rfl (by decide) (by decide)).br with ⟨t,r',hp⟩ | hf
    ·exact .inl ⟨_,r',.again hp⟩
    ·exact .inr (.again hf)
   by_cases h6:hdS r = "if"
   ·obtain ⟨r2,rfl⟩:=hd_cons h6 (by decide)
    rcases (step rfl (by decide) (by decide)).iff with ⟨t,r',hp⟩ | hf
    ·exact .inl ⟨_,r',.iff hp⟩
    ·exact .inr (.iff hf)
   exact .inr (.no h1 h2 h3 h4 h5 h6)
  have afterP:∀ {t:Nd} {r':List Str},PPart d r t r'→Tot d r':=fun {t r'} hp=>by
   obtain ⟨c,k⟩:=hp.cs
   have:=PPart.lt hp
   exact ih d r' (by omega) (Dp.rest (c:=c) (by rw [← k.e]; exact hD) k.b)
  have afterR:∀ {t:Nd} {r':List Str},PRow d r t r'→Tot d r':=fun {t r'} hp=>by
   obtain ⟨c,k⟩:=hp.cs
   have:=PRow.lt hp
   exact ih d r' (by omega) (Dp.rest (c:=c) (by rw [← k.e]; exact hD) k.b)
  have rowT:∀ t0,(∃ t r',PRowT d t0 r t r')∨FRowT d r:=fun t0=>by
   by_cases h:hdS r = ";"
   ·obtain ⟨r2,rfl⟩:=hd_cons h (by decide)
    have T2:=step rfl (by decide) (by decide)
    rcases T2.part with ⟨t2,r1,hp⟩ | hf
    ·obtain ⟨c,k⟩:=hp.cs
     have l1:=PPart.lt hp
     rw [List.length_cons] at hl
     have D2:Dp d r2:=hD.tail (by decide) (by decide)
     have T3:=ih d r1 (by omega) (Dp.rest (c:=c) (by rw [← k.e]; exact D2) k.b)
     rcases T3.rowT (.t [.s "then", t0,t2]) with ⟨t',r',hp2⟩ | hf2
     ·exact .inl ⟨t',r',.more hp hp2⟩
     ·exact .inr (.more hp hf2)
    ·exact .inr (.fail hf)
   ·exact .inl ⟨t0,r,.done h⟩
  have row:(∃ t r',PRow d r t r')∨FRow d r:=by
   rcases part with ⟨t,r1,hp⟩ | hf
   ·rcases (afterP hp).rowT t with ⟨t',r',hp2⟩ | hf2
    ·exact .inl ⟨t',r',.mk hp hp2⟩
    ·exact .inr (.rest hp hf2)
   ·exact .inr (.first hf)
  have blkT:∀ t0,(∃ t r',PBlockT d t0 r t r')∨FBlockT d r:=fun t0=>by
   by_cases h:hdS r = "|"
   ·obtain ⟨r2,rfl⟩:=hd_cons h (by decide)
    have T2:=step rfl (by decide) (by decide)
    rcases T2.row with ⟨t2,r1,hp⟩ | hf
    ·obtain ⟨c,k⟩:=hp.cs
     have l1:=PRow.lt hp
     rw [List.length_cons] at hl
     have D2:Dp d r2:=hD.tail (by decide) (by decide)
     have T3:=ih d r1 (by omega) (Dp.rest (c:=c) (by rw [← k.e]; exact D2) k.b)
     rcases T3.blkT (.t [.s "beside", t0,t2]) with ⟨t',r',hp2⟩ | hf2
     ·exact .inl ⟨t',r',.more hp hp2⟩
     ·exact .inr (.more hp hf2)
    ·exact .inr (.fail hf)
   ·exact .inl ⟨t0,r,.done h⟩
  refine ⟨part,br,iff',rowT,row,blkT,?_⟩
  rcases row with ⟨t,r1,hp⟩ | hf
  ·rcases (afterR hp).blkT t with ⟨t',r',hp2⟩ | hf2
   ·exact .inl ⟨t',r',.mk hp hp2⟩
   ·exact .inr (.rest hp hf2)
  ·exact .inr (.first hf)
theorem blk_bad {ins outs r:List Str} {d:Nat} (n:NmL ins) (n2:NmL outs) (hd:d≤20) (hD:Dp d r) (hne:∀ x∈r,¬ x = "") (bad:bal r≠0∨¬ adj r "" ∨ r.headD "" ∉ fstL):FWhole (("in" : Str) :: (ins ++ (";" : Str) :: ("out" : Str) :: (outs ++ (";" : Str) :: r))):=by
 rcases (total r.length d r (Nat.le_refl _) hD).blk with ⟨t,r',hp⟩ | hf
 ·refine .more n n2 hd hp fun z=>?_
  obtain ⟨c,k⟩:=hp.cs
  have e0:r' = []:=by
   cases r' with
   | nil=>rfl
   | cons x r2=>exact absurd (show x = "" from z) (hne x (by rw [k.e]; exact List.mem_append_right _ List.mem_cons_self))
  have ec:r = c:=by rw [k.e,e0,List.append_nil]
  rcases bad with b | b | b
  ·exact b (by rw [ec]; exact k.b)
  ·exact b (by rw [ec]; exact k.a "" (by decide))
  ·exact b (by rw [ec]; exact k.h)
 ·exact .blk n n2 hd hf
theorem most_ge:∀ (ws:List Str) (s n:Int),n≤s→s≤(ws.foldl stepO (s,n)).1∧∀ a b:List Str,ws = a ++ b→n + bal a≤(ws.foldl stepO (s,n)).1
 | [],s,n,h=>⟨Int.le_refl _,fun a b e=>by
  have:a = []:=(List.append_eq_nil_iff.mp e.symm).1
  rw [this]
  show n + 0≤s
  omega⟩
 | x :: r,s,n,h=>by
  have e1:stepO (s,n) x = (if s < (n + (if x = "{" then 1 else if x = "}" then -1 else 0)) then n + (if x = "{" then 1 else if x = "}" then -1 else 0) else s,n + (if x = "{" then 1 else if x = "}" then -1 else 0)):=by
   unfold stepO
   by_cases c1:x = "{"
   ·subst c1; rfl
   ·by_cases c2:x = "}"
    ·subst c2
     have:¬ (Str.ofString "}" = Str.ofString "{"):=by decide
     simp [this,Int.sub_eq_add_neg]
    ·simp [c1,c2]
  have hw:∀ a2,bal (x :: a2) = (if x = "{" then (1:Int) else if x = "}" then -1 else 0) + bal a2:=fun _=>rfl
  generalize (if x = "{" then (1:Int) else if x = "}" then -1 else 0) = w at e1 hw
  rw [List.foldl_cons,e1]
  have hs:n + w≤(if s < n + w then n + w else s)∧s≤(if s < n + w then n + w else s):=by split <;> omega
  obtain ⟨h1,h2⟩:=most_ge r (if s < n + w then n + w else s) (n + w) hs.1
  refine ⟨by omega,fun a b e=>?_⟩
  cases a with
  | nil =>
   show n + 0≤_
   omega
  | cons y a2 =>
   obtain ⟨rfl,e2⟩:=List.cons.inj e
   have:=h2 a2 b e2
   rw [hw]
   omega
theorem dp_most {ws a r:List Str} (e:ws = a ++ r) (ha:bal a = 0) (h:mostO ws≤16):Dp 16 r:=fun b c e2=>by
 have:=(most_ge ws 0 0 (Int.le_refl _)).2 (a ++ b) c (by rw [e,e2,List.append_assoc])
 rw [bal_app,ha] at this
 have h:(ws.foldl stepO (0,0)).1≤16:=h
 omega
theorem bal_names:∀ {ns:List Str},(∀ x∈ns,nameB x = true)→bal ns = 0
 | [],_=>rfl
 | x :: r,h=>by
  have nx:=name_nb (h x List.mem_cons_self)
  rw [bal1 nx.1 nx.2]
  exact bal_names fun y hy=>h y (List.mem_cons_of_mem _ hy)
theorem whole_bad {x:Str} {ins outs r:List Str} (e:wordsT x = ("in" : Str) :: (ins ++ (";" : Str) :: ("out" : Str) :: (outs ++ (";" : Str) :: r))) (n:NmL ins) (n2:NmL outs) (hne:∀ y∈r,¬ y = "") (bad:bal r≠0∨¬ adj r "" ∨ r.headD "" ∉ fstL):BadT x:=by
 by_cases h:mostO (wordsT x)≤16
 ·refine .inr (.inr ?_)
  have e2:wordsT x = (("in" : Str) :: (ins ++ (";" : Str) :: ("out" : Str) :: (outs ++ [(";" : Str)]))) ++ r:=by rw [e]; simp
  have hD:=dp_most e2 (by
   rw [bal1 (by decide) (by decide),bal_app,bal_names n.1,bal1 (by decide) (by decide),bal1 (by decide) (by decide),bal_app,bal_names n2.1]
   decide) h
  rw [e]
  exact blk_bad n n2 (by decide) hD hne bad
 ·exact .inr (.inl (by omega))
theorem fst_fol:∀ y∈fstL,¬ y∈folL∧¬ y = "else" := by decide
def tokB (x:Str):Prop:=x∈kwL∨nameB x = true
theorem kw_kinds:∀ x∈kwL,x∈bareL∨x = "}" ∨ (x∈namedL∨x∈roundL∨x = "if")∨(x = ";" ∨ x = "|" ∨ x = "{")∨(x = "again" ∨ x = "else"):=by decide
theorem gap_bad {a b:List Str} {x m y z:Str} (hx:tokB x) (h1:okp x m) (h2:okp m y) (hm:m = ";" ∨ m = "|") (hb:y = "{" → x∈bareL):¬ adj (a ++ x :: y :: b) z:=fun h=>by
 have o:=adj_in h
 have hy:y∈fstL:=h2.2.2.2.2.1 (by rcases hm with h | h <;> simp [h])
 obtain ⟨n1,n2⟩:=fst_fol y hy
 have nm:nameB m = false:=kw_off m (by rcases hm with rfl | rfl <;> decide)
 have mf:¬ m∈fstL∧¬ m = "{" := by rcases hm with rfl | rfl <;> decide
 rcases hx with hx | hx
 ·rcases kw_kinds x hx with c | c | c | c | c
  ·exact n1 (o.1 c)
  ·exact (o.2.1 c).elim n1 n2
  ·have:=h1.2.2.2.1 c; rw [nm] at this; cases this
  ·exact mf.1 (h1.2.2.2.2.1 c)
  ·exact mf.2 (h1.2.2.2.2.2 c)
 ·rcases o.2.2.1 hx with z | z
  ·exact n1 z
  ·exact name_f hx ((bare_f x (hb z)).2.1)
theorem brace_bad {a b:List Str} {m:Str} (h:bal (a ++ m :: b) = 0) (hm:m = "{" ∨ m = "}"):bal (a ++ b)≠0:=fun z=>by
 rw [bal_app] at h z
 have e:bal (m :: b) = (if m = "{" then (1:Int) else if m = "}" then -1 else 0) + bal b:=rfl
 rw [e] at h
 rcases hm with rfl | rfl
 ·rw [if_pos rfl] at h; omega
 ·rw [if_neg (by decide),if_pos rfl] at h; omega
theorem name_bad {a b:List Str} {x y y' z:Str} (hx:tokB x) (o:okp x y) (hy:nameB y = true) (hn:nameB y' = false):¬ adj (a ++ x :: y' :: b) z:=fun h=>by
 have o':=adj_in h
 have f:=name_f hy
 have nf:¬ y∈folL:=fun t=>f (((show ∀ y∈folL,y∈kwL∨y = "" by decide) y t).elim id fun e=>absurd e (name_ne hy))
 have nb:¬ y = "{" := (name_nb hy).1
 rcases hx with hx | hx
 ·rcases kw_kinds x hx with c | c | c | c | c
  ·exact nf (o.1 c)
  ·rcases o.2.1 c with t | t
   ·exact nf t
   ·exact f (by rw [t]; decide)
  ·have:=o'.2.2.2.1 c; rw [hn] at this; cases this
  ·exact f (List.mem_append_left _ (o.2.2.2.2.1 c))
  ·exact nb (o.2.2.2.2.2 c)
 ·rcases o.2.2.1 hx with t | t
  ·exact nf t
  ·exact nb t
theorem more_bad {a:List Str} {x y z:Str} (hx:tokB x) (o:okp x "") (hy:y∈fstL) (hy2:¬ y = "{"):¬ adj (a ++ [x,y]) z:=fun h=>by
 have o':=adj_in (b:=[]) h
 obtain ⟨n1,n2⟩:=fst_fol y hy
 have n0:nameB "" = false:=Bool.eq_false_iff.mpr fun z=>name_ne z rfl
 rcases hx with hx | hx
 ·rcases kw_kinds x hx with c | c | c | c | c
  ·exact n1 (o'.1 c)
  ·exact (o'.2.1 c).elim n1 n2
  ·have:=o.2.2.2.1 c; rw [n0] at this; cases this
  ·exact absurd (o.2.2.2.2.1 c) (by decide)
  ·exact absurd (o.2.2.2.2.2 c) (by decide)
 ·rcases o'.2.2.1 hx with t | t
  ·exact n1 t
  ·exact hy2 t
theorem sep_bad {a:List Str} {m:Str} (hm:m = ";" ∨ m = "|"):¬ adj (a ++ [m]) "" := fun h=>by
 have o:=adj_last h
 exact absurd (o.2.2.2.2.1 (by rcases hm with h | h <;> simp [h])) (by decide)
def nm3:List Str:=["bb", "cc", "restb"]
def rowsL:List (List Str) :=
 ([["nothing"],["rest"],["halt"],["trap", "dd", "{", "exit", "dd", "}"]]:List (List Str)) ++
 nm3.flatMap fun (n:Str)=>([["send", n],["keep", n],["await", n],["again", "{", "rest", "|", "send", n, "}"],["if", n, "{", "rest", "}", "else", "{", "halt", "}"],["hold", n, "{", "rest", ";", "{", "halt", "}", "}"],["watch", n, "{", "rest", ";", "{", "halt", "}", "}"],["weak", n, "{", "rest", ";", "{", "halt", "}", "}"],["local", n, "{", "rest", ";", "{", "halt", "}", "}"]]:List (List Str))
instance okpD (x y:Str):Decidable (okp x y):=by unfold okp; infer_instance
instance adjD:∀ (l:List Str) (z:Str),Decidable (adj l z)
 | [],_=>.isTrue trivial
 | [x],z=>okpD x z
 | x :: y :: r,z=>@instDecidableAnd _ _ (okpD x y) (adjD (y :: r) z)
instance tokD (x:Str):Decidable (tokB x):=by unfold tokB; infer_instance
def triB:List Str→Bool
 | x :: m :: y :: r=>(!(decide (m = ";" ∨ m = "|") && decide (y = "{")) || decide (x∈bareL)) && triB (m :: y :: r)
 | _=>true
structure GdB (B:List Str):Prop where
 b:bal B = 0
 a:∀ y∈folL,adj B y
 h:B.headD "" ∈ fstL
 n:¬ B.headD "" = "{"
 t:triB B = true
 k:∀ x∈B,tokB x
theorem rows_gd:∀ R∈rowsL,bal R = 0∧(∀ y∈folL,adj R y)∧R.headD "" ∈ fstL∧¬ R.headD "" = "{" ∧ triB R = true∧triB (";" :: R) = true∧triB ("|" :: R) = true∧∀ x∈R,tokB x:=by decide +kernel
theorem gd_ne {B:List Str} (h:GdB B):B≠[]:=fun z=>by
 have:=h.h
 rw [z] at this
 exact absurd this (by decide)
theorem triB_app {s:Str} {R:List Str} (hs:¬ s = "{") (hR:triB (s :: R) = true) (hh:¬ R.headD "" = "{"):∀ {A:List Str},triB A = true→triB (A ++ s :: R) = true
 | [],_=>hR
 | [x],_=>by
  cases R with
  | nil=>rfl
  | cons y r =>
   show ((!(decide (s = ";" ∨ s = "|") && decide (y = "{")) || decide (x∈bareL)) && triB (s :: y :: r)) = true
   rw [hR,decide_eq_false (show ¬ y = "{" from hh)]
   simp
 | [x,m],_=>by
  have:=triB_app hs hR hh (A:=[m]) rfl
  show ((!(decide (m = ";" ∨ m = "|") && decide (s = "{")) || decide (x∈bareL)) && triB ([m] ++ s :: R)) = true
  rw [this,decide_eq_false hs]
  simp
 | x :: m :: y :: r,h=>by
  obtain ⟨h1,h2⟩:=(Bool.and_eq_true _ _).mp h
  have:=triB_app hs hR hh (A:=m :: y :: r) h2
  exact (Bool.and_eq_true _ _).mpr ⟨h1,this⟩
theorem gd_more {B R:List Str} {s:Str} (h:GdB B) (hR:R∈rowsL) (hs:s = ";" ∨ s = "|"):GdB (B ++ s :: R):=by
 obtain ⟨r1,r2,r3,r4,r5,r6,r7,r8⟩:=rows_gd R hR
 have nb:¬ s = "{" ∧ ¬ s = "}" := by rcases hs with rfl | rfl <;> decide
 have sf:s∈folL:=by rcases hs with rfl | rfl <;> decide
 have hR0:R≠[]:=fun z=>by rw [z] at r3; exact absurd r3 (by decide)
 refine ⟨by rw [bal_app,h.b,bal1 nb.1 nb.2,r1]; rfl,fun y hy=>adj_app (h.a s sf) (adj_cons ?_ (r2 y hy)),by rw [hd_app (gd_ne h)]; exact h.h,by rw [hd_app (gd_ne h)]; exact h.n,triB_app nb.1 (by rcases hs with rfl | rfl <;> assumption) r4 h.t,fun x hx=>?_⟩
 ·rw [hd_app hR0]
  exact okp_sep (by rcases hs with z | z <;> simp [z]) r3
 ·rcases List.mem_append.mp hx with z | z
  ·exact h.k x z
  ·rcases List.mem_cons.mp z with z | z
   ·rw [z]; exact .inl (by rcases hs with rfl | rfl <;> decide)
   ·exact r8 x z
theorem gd_row {R:List Str} (hR:R∈rowsL):GdB R:=by
 obtain ⟨r1,r2,r3,r4,r5,r6,r7,r8⟩:=rows_gd R hR
 exact ⟨r1,r2,r3,r4,r5,r8⟩
theorem triB_in {x m y:Str} {b:List Str}:∀ {a:List Str},triB (a ++ x :: m :: y :: b) = true→(m = ";" ∨ m = "|")→y = "{" → x∈bareL
 | [],h,hm,hy=>by
  obtain ⟨h1,_⟩:=(Bool.and_eq_true _ _).mp h
  rw [decide_eq_true hm,decide_eq_true hy] at h1
  exact of_decide_eq_true (by simpa using h1)
 | [c],h,hm,hy=>triB_in (a:=[]) ((Bool.and_eq_true _ _).mp h).2 hm hy
 | [c,c2],h,hm,hy=>triB_in (a:=[c2]) ((Bool.and_eq_true _ _).mp h).2 hm hy
 | c :: c2 :: c3 :: a,h,hm,hy=>triB_in (a:=c2 :: c3 :: a) ((Bool.and_eq_true _ _).mp h).2 hm hy
def hdr:List Str:=["in", "bb", ";", "out", "cc", "restb", ";"]
def BadB (r:List Str):Prop:=bal r≠0∨¬ adj r "" ∨ r.headD "" ∉ fstL
theorem snocS {α:Type} (l:List α):l = []∨∃ l' x,l = l' ++ [x]:=by
 cases h:l with
 | nil=>exact .inl rfl
 | cons a r=>exact .inr ⟨(a :: r).dropLast,(a :: r).getLast (by simp),(List.dropLast_concat_getLast _).symm⟩
theorem adj_pair {x y z:Str} {a b:List Str} (h:adj (a ++ [x] ++ y :: b) z):okp x y:=by
 rw [List.append_assoc] at h
 exact adj_in h
theorem gd_drop {B a b:List Str} {m:Str} (h:GdB B) (e:B = a ++ m :: b) (hm:m∈(["{", "}", ";", "|"]:List Str)):BadB (a ++ b):=by
 by_cases hb:m = "{" ∨ m = "}"
 ·exact .inl (brace_bad (by rw [← e]; exact h.b) hb)
 ·have hs:m = ";" ∨ m = "|" := by
   simp only [List.mem_cons,List.mem_nil_iff,or_false] at hm
   rcases hm with z | z | z | z
   ·exact absurd (.inl z) hb
   ·exact absurd (.inr z) hb
   ·exact .inl z
   ·exact .inr z
  have ha:=h.a "" (by decide)
  rw [e] at ha
  rcases snocS a with z | ⟨a',x,rfl⟩
  ·have:=h.h
   rw [e,z] at this
   exact absurd (show m∈fstL from this) (by rcases hs with rfl | rfl <;> decide)
  ·cases b with
   | nil=>exact absurd ha (sep_bad hs)
   | cons y b =>
    refine .inr (.inl ?_)
    have o1:=adj_pair ha
    have o2:okp m y:=adj_in ha
    have ht:=h.t
    rw [e,List.append_assoc] at ht
    have:=gap_bad (a:=a') (b:=b) (z:= "") (h.k x (by rw [e]; simp)) o1 o2 hs (fun z=>triB_in ht hs z)
    rw [List.append_assoc]
    exact this
theorem gd_name {B a b:List Str} {y y':Str} (h:GdB B) (e:B = a ++ y :: b) (hy:nameB y = true) (hn:nameB y' = false):BadB (a ++ y' :: b):=by
 have ha:=h.a "" (by decide)
 rw [e] at ha
 rcases snocS a with z | ⟨a',x,rfl⟩
 ·have:=h.h
  rw [e,z] at this
  exact absurd (List.mem_append_left _ (show y∈fstL from this)) (name_f hy)
 ·refine .inr (.inl ?_)
  have:=name_bad (a:=a') (b:=b) (y':=y') (z:= "") (h.k x (by rw [e]; simp)) (adj_pair ha) hy hn
  rw [List.append_assoc]
  exact this
theorem gd_end {B:List Str} (h:GdB B):BadB (B ++ (["}"]:List Str))∧BadB (B ++ (["{"]:List Str))∧BadB (B ++ ([";"]:List Str))∧BadB (B ++ (["|"]:List Str))∧BadB (B ++ (["rest"]:List Str))∧BadB (B ++ ([";", "{"]:List Str)):=by
 refine ⟨.inl ?_,.inl ?_,.inr (.inl (sep_bad (.inl rfl))),.inr (.inl (sep_bad (.inr rfl))),.inr (.inl ?_),.inl ?_⟩
 ·rw [bal_app,h.b]; decide
 ·rw [bal_app,h.b]; decide
 ·rcases snocS B with z | ⟨a,x,e⟩
  ·exact absurd z (gd_ne h)
  ·have ha:=h.a "" (by decide)
   rw [e] at ha ⊢
   have:=more_bad (a:=a) (y:= "rest") (z:= "") (h.k x (by rw [e]; simp)) (adj_last ha) (by decide) (by decide)
   rw [List.append_assoc]
   exact this
 ·rw [bal_app,h.b]; decide
theorem n_bb:nameB "bb" = true∧nameB "cc" = true∧nameB "restb" = true:=by
 have:(Txt.isalpha "bb" && decide (("bb" : Str).length≤8) && !kept.contains "bb") = true∧(Txt.isalpha "cc" && decide (("cc" : Str).length≤8) && !kept.contains "cc") = true∧(Txt.isalpha "restb" && decide (("restb" : Str).length≤8) && !kept.contains "restb") = true:=by decide +kernel
 exact this
theorem nml {ns:List Str} (h:∀ x∈ns,x∈nm3) (hl:ns.length≤1000):NmL ns:=⟨fun x hx=>by
 have:=h x hx
 simp only [nm3,List.mem_cons,List.mem_nil_iff,or_false] at this
 rcases this with rfl | rfl | rfl
 ·exact n_bb.1
 ·exact n_bb.2.1
 ·exact n_bb.2.2,hl⟩
theorem hdr_bad {x:Str} {r:List Str} (e:wordsT x = hdr ++ r) (hne:∀ y∈r,¬ y = "") (bad:BadB r):BadT x :=
 whole_bad (ins:=["bb"]) (outs:=["cc", "restb"]) e (nml (by decide) (by decide)) (nml (by decide) (by decide)) hne bad
theorem hdr_at {a c:List Str} {m:Str} (e:hdr = a ++ m :: c):∃ k:Nat,k < 7∧a = hdr.take k∧m :: c = hdr.drop k:=by
 refine ⟨a.length,?_,?_,?_⟩
 ·have:=congrArg List.length e
  rw [List.length_append,List.length_cons] at this
  have h7:hdr.length = 7:=rfl
  omega
 ·rw [e,List.take_left]
 ·rw [e,List.drop_left]
theorem no_out:nameB "out" = false:=by
 have:(Txt.isalpha "out" && decide (("out" : Str).length≤8) && !kept.contains "out") = false:=by decide +kernel
 exact this
theorem split7 {B a b:List Str} {m:Str} (e:hdr ++ B = a ++ m :: b):(∃ a',a = hdr ++ a'∧B = a' ++ m :: b)∨∃ c,hdr = a ++ m :: c∧b = c ++ B:=by
 rcases List.append_eq_append_iff.mp e with ⟨a',h1,h2⟩ | ⟨c,h1,h2⟩
 ·exact .inl ⟨a',h1,h2⟩
 ·cases c with
  | nil=>exact .inl ⟨[],by rw [h1,List.append_nil,List.append_nil],by rw [List.nil_append]; exact h2.symm⟩
  | cons y c =>
   obtain ⟨rfl,h3⟩:=List.cons.inj h2
   exact .inr ⟨c,h1,h3⟩
theorem drop_bad {x:Str} {B a b:List Str} {m:Str} (h:GdB B) (hne:∀ y∈B,¬ y = "") (e:hdr ++ B = a ++ m :: b) (hm:m∈(["{", "}", ";", "|"]:List Str)) (ex:wordsT x = a ++ b):BadT x:=by
 rcases split7 e with ⟨a',rfl,eB⟩ | ⟨c,e1,rfl⟩
 ·refine hdr_bad (r:=a' ++ b) (by rw [ex,List.append_assoc]) (fun y hy=>hne y ?_) (gd_drop h eB hm)
  rw [eB]
  rcases List.mem_append.mp hy with z | z
  ·exact List.mem_append_left _ z
  ·exact List.mem_append_right _ (List.mem_cons_of_mem _ z)
 ·obtain ⟨k,hk,rfl,e2⟩:=hdr_at e1
  have:k = 0∨k = 1∨k = 2∨k = 3∨k = 4∨k = 5∨k = 6:=by omega
  rcases this with rfl | rfl | rfl | rfl | rfl | rfl | rfl <;> obtain ⟨rfl,rfl⟩:=List.cons.inj e2
  ·exact absurd hm (by decide)
  ·exact absurd hm (by decide)
  ·refine .inr (.inr ?_)
   rw [ex]
   exact FWhole.semi1 (ins:=["bb"]) (r:=("out" : Str) :: ((["cc", "restb", ";"]:List Str) ++ B)) (nml (by decide) (by decide)) no_out (show ¬ (("out" : Str) = ";") by decide)
  ·exact absurd hm (by decide)
  ·exact absurd hm (by decide)
  ·exact absurd hm (by decide)
  ·refine .inr (.inr ?_)
   rw [ex]
   have hB:hdS B = B.headD "" := rfl
   exact FWhole.semi2 (ins:=["bb"]) (outs:=["cc", "restb"]) (r:=B) (nml (by decide) (by decide)) (nml (by decide) (by decide)) (by rw [hB]; exact kw_off _ (List.mem_append_left _ h.h)) (fun z=>by rw [hB] at z; exact absurd (z ▸ h.h) (by decide))
theorem ren_bad {x:Str} {B a b:List Str} {y y':Str} (h:GdB B) (hne:∀ y∈B,¬ y = "") (hne':¬ y' = "") (hs:¬ y' = ";") (e:hdr ++ B = a ++ y :: b) (hy:nameB y = true) (hn:nameB y' = false) (ex:wordsT x = a ++ y' :: b):BadT x:=by
 rcases split7 e with ⟨a',rfl,eB⟩ | ⟨c,e1,rfl⟩
 ·refine hdr_bad (r:=a' ++ y' :: b) (by rw [ex,List.append_assoc]) (fun z hz=>?_) (gd_name h eB hy hn)
  rcases List.mem_append.mp hz with w | w
  ·exact hne z (by rw [eB]; exact List.mem_append_left _ w)
  ·rcases List.mem_cons.mp w with w | w
   ·rw [w]; exact hne'
   ·exact hne z (by rw [eB]; exact List.mem_append_right _ (List.mem_cons_of_mem _ w))
 ·obtain ⟨k,hk,rfl,e2⟩:=hdr_at e1
  have:k = 0∨k = 1∨k = 2∨k = 3∨k = 4∨k = 5∨k = 6:=by omega
  rcases this with rfl | rfl | rfl | rfl | rfl | rfl | rfl <;> obtain ⟨rfl,rfl⟩:=List.cons.inj e2
  ·exact absurd hy (by
    have:(Txt.isalpha "in" && decide (("in" : Str).length≤8) && !kept.contains "in") = false:=by decide +kernel
    rw [show nameB "in" = false from this]; decide)
  ·refine .inr (.inr ?_)
   rw [ex]
   exact FWhole.semi1 (ins:=[]) (r:=y' :: (([";", "out", "cc", "restb", ";"]:List Str) ++ B)) (nml (by decide) (by decide)) hn hs
  ·rw [name_semi] at hy; cases hy
  ·rw [no_out] at hy; cases hy
  ·refine .inr (.inr ?_)
   rw [ex]
   exact FWhole.semi2 (ins:=["bb"]) (outs:=[]) (r:=y' :: ((["restb", ";"]:List Str) ++ B)) (nml (by decide) (by decide)) (nml (by decide) (by decide)) hn hs
  ·refine .inr (.inr ?_)
   rw [ex]
   exact FWhole.semi2 (ins:=["bb"]) (outs:=["cc"]) (r:=y' :: (([";"]:List Str) ++ B)) (nml (by decide) (by decide)) (nml (by decide) (by decide)) hn hs
  ·rw [name_semi] at hy; cases hy
def hdN:Nd→Str
 | .t (.s x :: _)=>x
 | _=> ""
mutual
inductive Wd:Nd→List Str→Nat→Prop
 | bare {x}:x∈bareL→Wd (.t [.s x]) [x] 0
 | named {x y}:x∈namedL→nameB y = true→Wd (.t [.s x,.s y]) [x,y] 0
 | round {x y t ws b}:x∈roundL→nameB y = true→Wd t ws b→Wd (.t [.s x,.s y,t]) (x :: y :: ("{" : Str) :: (ws ++ [("}" : Str)])) (b + 1)
 | again {t ws b}:Wd t ws b→Wd (.t [.s "again", t]) ("again" :: ("{" : Str) :: (ws ++ [("}" : Str)])) (b + 1)
 | iff1 {y t ws b}:nameB y = true→Wd t ws b→Wd (.t [.s "if", .s y,t,.t [.s "nothing"]]) ("if" :: y :: ("{" : Str) :: (ws ++ [("}" : Str)])) (b + 1)
 | iff2 {y t t2 ws ws2 b b2}:nameB y = true→Wd t ws b→Wd t2 ws2 b2→Wd (.t [.s "if", .s y,t,t2]) ("if" :: y :: ("{" : Str) :: (ws ++ ("}" : Str) :: ("else" : Str) :: ("{" : Str) :: (ws2 ++ [("}" : Str)]))) (max b b2 + 1)
 | thn {t t2 ws ws2 b b2}:WdI ["then"] t ws b→WdI [] t2 ws2 b2→Wd (.t [.s "then", t,t2]) (ws ++ (";" : Str) :: ws2) (max b b2)
 | bes {t t2 ws ws2 b b2}:WdI ["then", "beside"] t ws b→WdI ["then"] t2 ws2 b2→Wd (.t [.s "beside", t,t2]) (ws ++ ("|" : Str) :: ws2) (max b b2)
inductive WdI:List Str→Nd→List Str→Nat→Prop
 | br {l t ws b}:Wd t ws b→WdI l t ("{" :: (ws ++ [("}" : Str)])) (b + 1)
 | no {l t ws b}:Wd t ws b→((¬ hdN t = "then" ∧ ¬ hdN t = "beside")∨hdN t∈l)→WdI l t ws b
end
def Pa (t:Nd) (ws:List Str) (b:Nat):Prop:=∀ d,b≤d→∀ r,¬ hdS r = "else" → PPart d (ws ++ r) t r
def Rw (t:Nd) (ws:List Str) (b:Nat):Prop:=∀ d,b≤d→∀ r t' r',¬ hdS r = "else" → PRowT d t r t' r'→PRow d (ws ++ r) t' r'
def Bk (t:Nd) (ws:List Str) (b:Nat):Prop:=∀ d,b≤d→∀ r t' r',¬ hdS r = "else" → ¬ hdS r = ";" → PBlockT d t r t' r'→PBlock d (ws ++ r) t' r'
theorem Pa.rw {t:Nd} {ws:List Str} {b:Nat} (h:Pa t ws b):Rw t ws b:=fun d hd r t' r' ne k=>.mk (h d hd r ne) k
theorem Rw.bk {t:Nd} {ws:List Str} {b:Nat} (h:Rw t ws b):Bk t ws b:=fun d hd r t' r' ne ns k=>.mk (h d hd r t r ne (.done ns)) k
structure Pz (t:Nd) (ws:List Str) (b:Nat):Prop where
 bk:Bk t ws b
 rw:¬ hdN t = "beside" → Rw t ws b
 pa:¬ hdN t = "beside" → ¬ hdN t = "then" → Pa t ws b
theorem Pa.pz {t:Nd} {ws:List Str} {b:Nat} (h:Pa t ws b):Pz t ws b:=⟨h.rw.bk,fun _=>h.rw,fun _ _=>h⟩
theorem n1:¬ (("}" : Str) = "else"):=by decide +kernel
theorem n2:¬ (("}" : Str) = ";"):=by decide +kernel
theorem n3:¬ (("}" : Str) = "|"):=by decide +kernel
theorem n4:¬ ((";" : Str) = "else"):=by decide +kernel
theorem n5:¬ (("|" : Str) = "else"):=by decide +kernel
theorem n6:¬ (("|" : Str) = ";"):=by decide +kernel
theorem n7:¬ (("then" : Str) = "beside"):=by decide +kernel
theorem Pz.br {t:Nd} {ws:List Str} {b:Nat} (h:Pz t ws b) {d:Nat} (hd:b + 1≤d) (r:List Str):PBr d (("{" : Str) :: (ws ++ [("}" : Str)]) ++ r) t r:=by
 cases d with
 | zero=>exact absurd hd (Nat.not_succ_le_zero _)
 | succ d =>
  have:=h.bk d (Nat.le_of_succ_le_succ hd) ("}" :: r) t ("}" :: r) n1 n2 (.done n3)
  rw [List.cons_append,List.append_assoc]
  exact .mk this
theorem Pz.brace {t:Nd} {ws:List Str} {b:Nat} (h:Pz t ws b):Pa t ("{" :: (ws ++ [("}" : Str)])) (b + 1):=fun d hd r _=>.brace rfl (h.br hd r)
mutual
theorem Wd.pz:∀ {t:Nd} {ws:List Str} {b:Nat},Wd t ws b→Pz t ws b
 | _,_,_,.bare h=>Pa.pz fun d _ r _=>.bare h
 | _,_,_,.named h k=>Pa.pz fun d _ r _=>.named h k
 | _,_,_,.round h k w=>Pa.pz fun d hd r _=>.round h k ((Wd.pz w).br hd r)
 | _,_,_,.again w=>Pa.pz fun d hd r _=>.again ((Wd.pz w).br hd r)
 | _,_,_,.iff1 k w=>Pa.pz fun d hd r ne=>.iff (.one k ((Wd.pz w).br hd r) ne)
 | _,_,_,.iff2 (ws:=ws) (ws2:=ws2) k w w2=>Pa.pz fun d hd r ne=>by
  have h1:=(Wd.pz w).br (d:=d) (Nat.le_trans (Nat.succ_le_succ (Nat.le_max_left _ _)) hd) (("else" : Str) :: (("{" : Str) :: (ws2 ++ [("}" : Str)]) ++ r))
  have h2:=(Wd.pz w2).br (d:=d) (Nat.le_trans (Nat.succ_le_succ (Nat.le_max_right _ _)) hd) r
  have:=PPart.iff (PIf.two k h1 h2)
  simpa using this
 | _,_,_,.thn (t:=t) (t2:=t2) (ws:=ws) (ws2:=ws2) (b:=b) (b2:=b2) w w2=>by
  have h1:=(WdI.pz w).1 (fun z=>n7 (List.mem_singleton.mp z).symm)
  have h2:=(WdI.pz w2).2 (fun z=>(by cases z)) (fun z=>(by cases z))
  have R:Rw (.t [.s "then", t,t2]) (ws ++ (";" : Str) :: ws2) (max b b2):=fun d hd r t' r' ne k=>by
   have k2:=PRowT.more (h2 d (Nat.le_trans (Nat.le_max_right _ _) hd) r ne) k
   have:=h1 d (Nat.le_trans (Nat.le_max_left _ _) hd) (";" :: (ws2 ++ r)) t' r' n4 k2
   simpa using this
  exact ⟨R.bk,fun _=>R,fun _ z=>absurd rfl z⟩
 | _,_,_,.bes (ws:=ws) (ws2:=ws2) w w2=>by
  have h1:=WdI.bk w
  have h2:=(WdI.pz w2).1 (fun z=>n7 (List.mem_singleton.mp z).symm)
  refine ⟨fun d hd r t' r' ne ns k=>?_,fun z=>absurd rfl z,fun z=>absurd rfl z⟩
  have k2:=PBlockT.more (h2 d (Nat.le_trans (Nat.le_max_right _ _) hd) r _ r ne (.done ns)) k
  have:=h1 d (Nat.le_trans (Nat.le_max_left _ _) hd) ("|" :: (ws2 ++ r)) t' r' n5 n6 k2
  simpa using this
theorem WdI.pz:∀ {l:List Str} {t:Nd} {ws:List Str} {b:Nat},WdI l t ws b→(¬ ("beside" : Str)∈l→Rw t ws b)∧(¬ ("beside" : Str)∈l→¬ ("then" : Str)∈l→Pa t ws b)
 | _,_,_,_,.br w=>⟨fun _=>(Wd.pz w).brace.rw,fun _ _=>(Wd.pz w).brace⟩
 | _,_,_,_,.no w h=>by
  have p:=Wd.pz w
  refine ⟨fun nb=>?_,fun nb nt=>?_⟩
  ·rcases h with ⟨_,h2⟩ | h
   ·exact p.rw h2
   ·exact p.rw fun z=>nb (z ▸ h)
  ·rcases h with ⟨h1,h2⟩ | h
   ·exact p.pa h2 h1
   ·exact p.pa (fun z=>nb (z ▸ h)) (fun z=>nt (z ▸ h))
theorem WdI.bk:∀ {l:List Str} {t:Nd} {ws:List Str} {b:Nat},WdI l t ws b→Bk t ws b
 | _,_,_,_,.br w=>(Wd.pz w).brace.rw.bk
 | _,_,_,_,.no w _=>(Wd.pz w).bk
end
theorem Wd.block {t:Nd} {ws:List Str} {b:Nat} (h:Wd t ws b):PBlock b ws t []:=by
 have:=h.pz.bk b (Nat.le_refl _) [] t [] (by decide +kernel) (by decide +kernel) (.done (by decide +kernel))
 rwa [List.append_nil] at this
def notBr (x:Str):Prop:=¬ x = "{" ∧ ¬ x = "}"
theorem stepO_not {x:Str} (h:notBr x) (s n:Int):stepO (s,n) x = (max s n,n):=by
 unfold stepO
 dsimp only
 rw [if_neg h.1,if_neg h.2]
 congr 1
 split <;> omega
theorem stepO_op (s n:Int):stepO (s,n) "{" = (max s (n + 1),n + 1):=by
 unfold stepO
 dsimp only
 rw [if_pos rfl,if_neg (show ¬ (("{" : Str) = "}") from by decide +kernel)]
 congr 1
 split <;> omega
theorem stepO_cl (s n:Int):stepO (s,n) "}" = (max s (n - 1),n - 1):=by
 unfold stepO
 dsimp only
 rw [if_neg (show ¬ (("}" : Str) = "{") from by decide +kernel),if_pos rfl]
 congr 1
 split <;> omega
def Op (ws:List Str) (b:Nat):Prop:=∀ s n:Int,ws.foldl stepO (s,n) = (max s (n + b),n)
theorem name_not {x:Str} (h:nameB x = true):notBr x:=by
 refine ⟨fun e=>?_,fun e=>?_⟩ <;> (subst e; exact absurd h (by decide +kernel))
theorem Op.one {x:Str} (h:notBr x):Op [x] 0:=fun s n=>by
 show stepO (s,n) x = _
 rw [stepO_not h]
 simp
theorem Op.app {a b:List Str} {m k:Nat} (h1:Op a m) (h2:Op b k):Op (a ++ b) (max m k):=fun s n=>by
 rw [List.foldl_append,h1,h2]
 congr 1
 omega
theorem Op.br {a:List Str} {m:Nat} (h:Op a m):Op ("{" :: (a ++ [("}" : Str)])) (m + 1):=fun s n=>by
 rw [List.foldl_cons,List.foldl_append,stepO_op,h]
 show stepO _ "}" = _
 rw [stepO_cl]
 simp only [Prod.mk.injEq]
 omega
theorem in_bare {x:Str} (h:x∈bareL):notBr x:=by
 unfold bareL at h
 simp only [List.mem_cons,List.not_mem_nil,or_false] at h
 rcases h with rfl | rfl | rfl <;> exact ⟨by decide +kernel,by decide +kernel⟩
theorem in_named {x:Str} (h:x∈namedL):notBr x:=by
 unfold namedL at h
 simp only [List.mem_cons,List.not_mem_nil,or_false] at h
 rcases h with rfl | rfl | rfl | rfl <;> exact ⟨by decide +kernel,by decide +kernel⟩
theorem in_round {x:Str} (h:x∈roundL):notBr x:=by
 unfold roundL at h
 simp only [List.mem_cons,List.not_mem_nil,or_false] at h
 rcases h with rfl | rfl | rfl | rfl | rfl <;> exact ⟨by decide +kernel,by decide +kernel⟩
theorem Op.cons {x:Str} {a:List Str} {m:Nat} (h:notBr x) (k:Op a m):Op (x :: a) m:=by
 have:=(Op.one h).app k
 rw [Nat.zero_max] at this
 exact this
mutual
theorem Wd.op:∀ {t:Nd} {ws:List Str} {b:Nat},Wd t ws b→Op ws b
 | _,_,_,.bare h=>Op.one (in_bare h)
 | _,_,_,.named h k=>Op.cons (in_named h) (Op.one (name_not k))
 | _,_,_,.round h k w=>Op.cons (in_round h) (Op.cons (name_not k) (Op.br (Wd.op w)))
 | _,_,_,.again w=>Op.cons ⟨by decide +kernel,by decide +kernel⟩ (Op.br (Wd.op w))
 | _,_,_,.iff1 k w=>Op.cons ⟨by decide +kernel,by decide +kernel⟩ (Op.cons (name_not k) (Op.br (Wd.op w)))
 | _,_,_,.iff2 (b:=b) (b2:=b2) k w w2=>by
  have h:=(Op.br (Wd.op w)).app (Op.cons (x:= "else") ⟨by decide +kernel,by decide +kernel⟩ (Op.br (Wd.op w2)))
  rw [show max (b + 1) (b2 + 1) = max b b2 + 1 by omega] at h
  have:=Op.cons (x:= "if") ⟨by decide +kernel,by decide +kernel⟩ (Op.cons (name_not k) h)
  simpa using this
 | _,_,_,.thn w w2=>Op.app (WdI.op w) (Op.cons ⟨by decide +kernel,by decide +kernel⟩ (WdI.op w2))
 | _,_,_,.bes w w2=>Op.app (WdI.op w) (Op.cons ⟨by decide +kernel,by decide +kernel⟩ (WdI.op w2))
theorem WdI.op:∀ {l:List Str} {t:Nd} {ws:List Str} {b:Nat},WdI l t ws b→Op ws b
 | _,_,_,_,.br w=>Op.br (Wd.op w)
 | _,_,_,_,.no w _=>Wd.op w
end
theorem Op.names:∀ {ns:List Str} {a:List Str} {m:Nat},(∀ x∈ns,nameB x = true)→Op a m→Op (ns ++ a) m
 | [],_,_,_,h=>h
 | x :: ns,_,_,hn,h=>Op.cons (name_not (hn x List.mem_cons_self)) (Op.names (fun y hy=>hn y (List.mem_cons_of_mem _ hy)) h)
def allW (ins outs ws:List Str):List Str:=("in" : Str) :: (ins ++ (";" : Str) :: ("out" : Str) :: (outs ++ (";" : Str) :: ws))
theorem allW_op {ins outs ws:List Str} {b:Nat} (hi:∀ x∈ins,nameB x = true) (ho:∀ x∈outs,nameB x = true) (h:Op ws b):Op (allW ins outs ws) b :=
 Op.cons ⟨by decide +kernel,by decide +kernel⟩ (Op.names hi (Op.cons ⟨by decide +kernel,by decide +kernel⟩ (Op.cons ⟨by decide +kernel,by decide +kernel⟩ (Op.names ho (Op.cons ⟨by decide +kernel,by decide +kernel⟩ h)))))
theorem allW_most {ins outs ws:List Str} {b:Nat} (hi:∀ x∈ins,nameB x = true) (ho:∀ x∈outs,nameB x = true) (h:Op ws b):mostO (allW ins outs ws) = (b:Int):=by
 unfold mostO
 rw [allW_op hi ho h]
 simp
theorem allW_whole {ins outs ws:List Str} {t:Nd} {b:Nat} (hi:∀ x∈ins,nameB x = true) (ho:∀ x∈outs,nameB x = true) (li:ins.length≤1000) (lo:outs.length≤1000) (h:Wd t ws b):Whole (allW ins outs ws) ins outs b t:=⟨⟨ws,rfl,h.block⟩,hi,ho,li,lo⟩
theorem str_len_app (a b:Str):(a ++ b).length = a.length + b.length:=by show (a.cps ++ b.cps).size = _; simp; rfl
theorem cps_app (a b:Str):(a ++ b).cps.toList = a.cps.toList ++ b.cps.toList:=by show (a.cps ++ b.cps).toList = _; simp
theorem smallK {n:Nat} (h:n≤100000):n≤sizeLine:=Nat.le_trans h (by decide)
def lettB (y:Str):Bool:=decide (0 < y.length) && decide (y.length≤9) && y.cps.toList.all fun c=>decide (97≤c) && decide (c≤122)
def mkB (x:Str):Bool:=x == "{" || x == "}" || x == ";" || x == "|"
def okWd (x:Str):Bool:=mkB x || lettB x
theorem lett_c {c:Nat} (h:97≤c∧c≤122):Unicode.isSpace c = false∧isM c = false∧okC c = true:=by
 have:∀ c,c < 123→97≤c→Unicode.isSpace c = false∧isM c = false∧okC c = true:=by decide +kernel
 exact this c (by omega) h.1
theorem tok_lett {y:List Nat}:∀ {L cur:List Nat},(∀ c∈L,97≤c∧c≤122)→tok cur (L ++ y) = tok (cur ++ L) y
 | [],cur,_=>by rw [List.append_nil]; rfl
 | c :: L,cur,h=>by
  have hc:=lett_c (h c List.mem_cons_self)
  rw [List.cons_append,tok,if_neg (by rw [hc.1]; exact Bool.false_ne_true),if_neg (by rw [hc.2.1]; exact Bool.false_ne_true),tok_lett fun d hd=>h d (List.mem_cons_of_mem _ hd),List.append_assoc]
  rfl
theorem tok_blank0 {y:List Nat}:∀ {L:List Nat},(∀ c∈L,Unicode.isSpace c = true)→tok [] (L ++ y) = tok [] y
 | [],_=>rfl
 | c :: L,h=>by
  rw [List.cons_append,tok,if_pos (h c List.mem_cons_self),tok_blank0 fun d hd=>h d (List.mem_cons_of_mem _ hd)]
  rfl
theorem tok_blank {y L cur:List Nat} (h:∀ c∈L,Unicode.isSpace c = true) (n:¬ L = []):tok cur (L ++ y) = flush cur ++ tok [] y:=by
 cases L with
 | nil=>exact absurd rfl n
 | cons c L=>rw [List.cons_append,tok,if_pos (h c List.mem_cons_self),tok_blank0 fun d hd=>h d (List.mem_cons_of_mem _ hd)]
theorem tok_mark {y cur:List Nat} {c:Nat} (h:isM c = true):tok cur ([c] ++ y) = flush cur ++ [c] :: tok [] y:=by
 rw [List.singleton_append,tok,if_neg (by rw [spM h]; exact Bool.false_ne_true),if_pos h]
theorem mk_ok {x:Str} (h:mkB x = true):∃ c,x.cps.toList = [c]∧isM c = true∧okC c = true∧x.length = 1:=by
 unfold mkB at h
 simp only [Bool.or_eq_true,beq_iff_eq] at h
 rcases h with ((rfl | rfl) | rfl) | rfl
 ·exact ⟨123,by decide +kernel⟩
 ·exact ⟨125,by decide +kernel⟩
 ·exact ⟨59,by decide +kernel⟩
 ·exact ⟨124,by decide +kernel⟩
theorem lett_ok {x:Str} (h:lettB x = true):(∀ c∈x.cps.toList,97≤c∧c≤122)∧¬ x.cps.toList = []∧x.length≤9:=by
 unfold lettB at h
 rw [Bool.and_eq_true,Bool.and_eq_true,List.all_eq_true] at h
 refine ⟨fun c hc=>?_,fun e=>?_,of_decide_eq_true h.1.2⟩
 ·have:=h.2 c hc
  rw [Bool.and_eq_true] at this
  exact ⟨of_decide_eq_true this.1,of_decide_eq_true this.2⟩
 ·have h0:0 < x.cps.size:=of_decide_eq_true h.1.1
  have:x.cps.size = 0:=by rw [← Array.length_toList,e]; rfl
  omega
theorem okWd_len {x:Str} (h:okWd x = true):x.length≤9∧¬ x = "" := by
 unfold okWd at h
 rw [Bool.or_eq_true] at h
 rcases h with h | h
 ·obtain ⟨c,e,_,_,l⟩:=mk_ok h
  exact ⟨by omega,fun z=>by rw [z] at l; exact absurd l (by decide +kernel)⟩
 ·obtain ⟨_,e,l⟩:=lett_ok h
  exact ⟨l,fun z=>e (by rw [z]; decide +kernel)⟩
theorem fl0:flush ([]:List Nat) = []:=rfl
theorem str_assoc (a b c:Str):a ++ b ++ c = a ++ (b ++ c):=Str.ext' (Array.toList_inj.mp (by rw [cps_app,cps_app,cps_app,cps_app,List.append_assoc]))
inductive Sh (x:Str) (ws:List Str):Prop
 | mk (done:List (List Nat)) (cur:List Nat) (h:∀ y,tok [] (x.cps.toList ++ y) = done ++ tok cur y) (e:done ++ flush cur = ws.map fun z=>z.cps.toList) (ok:x.cps.toList.all okC = true):Sh x ws
structure ShM (x:Str) (ws:List Str):Prop where
 h:∀ y,tok [] (x.cps.toList ++ y) = (ws.map fun z=>z.cps.toList) ++ tok [] y
 ok:x.cps.toList.all okC = true
structure ShB (x:Str) (ws:List Str):Prop where
 h:∀ cur y,tok cur (x.cps.toList ++ y) = flush cur ++ ((ws.map fun z=>z.cps.toList) ++ tok [] y)
 ok:x.cps.toList.all okC = true
theorem ShB.m {x:Str} {ws:List Str} (h:ShB x ws):ShM x ws:=⟨fun y=>by rw [h.h,fl0,List.nil_append],h.ok⟩
theorem ShM.s {x:Str} {ws:List Str} (h:ShM x ws):Sh x ws:=⟨_,[],h.h,by rw [fl0,List.append_nil],h.ok⟩
theorem ok_app {a b:Str} (h1:a.cps.toList.all okC = true) (h2:b.cps.toList.all okC = true):(a ++ b).cps.toList.all okC = true:=by rw [cps_app,List.all_append,h1,h2]; rfl
theorem ShB.mark {m:Str} (hm:mkB m = true):ShB m [m]:=by
 obtain ⟨c,e,im,oc,_⟩:=mk_ok hm
 refine ⟨fun cur y=>?_,by rw [e,List.all_cons,oc]; rfl⟩
 rw [List.map_cons,List.map_nil,e,tok_mark im]
 rfl
theorem Sh.lett {x:Str} (h:lettB x = true):Sh x [x]:=by
 obtain ⟨l1,l2,l3⟩:=lett_ok h
 refine ⟨[],x.cps.toList,fun y=>by rw [tok_lett l1]; rfl,by rw [flush_ne l2]; rfl,?_⟩
 rw [List.all_eq_true]
 exact fun c hc=>(lett_c (l1 c hc)).2.2
theorem Sh.wd {x:Str} (h:okWd x = true):Sh x [x]:=by
 unfold okWd at h
 rw [Bool.or_eq_true] at h
 rcases h with h | h
 ·exact (ShB.mark h).m.s
 ·exact Sh.lett h
theorem Sh.b {x y:Str} {ws vs:List Str} (h:Sh x ws) (k:ShB y vs):ShM (x ++ y) (ws ++ vs):=by
 obtain ⟨done,cur,h,e,ok⟩:=h
 refine ⟨fun z=>?_,ok_app ok k.ok⟩
 rw [cps_app,List.append_assoc,h,k.h,List.map_append,← e]
 simp only [List.append_assoc]
theorem Sh.blank {x:Str} {ws:List Str} (h:Sh x ws):ShM (x ++ " ") ws:=by
 obtain ⟨done,cur,h,e,ok⟩:=h
 refine ⟨fun z=>?_,ok_app ok (by decide +kernel)⟩
 rw [cps_app,List.append_assoc,h,tok_blank (show ∀ c∈(" " : Str).cps.toList,Unicode.isSpace c = true by decide +kernel) (by decide +kernel),← e,List.append_assoc]
theorem ShM.sh {x y:Str} {ws vs:List Str} (h:ShM x ws) (k:Sh y vs):Sh (x ++ y) (ws ++ vs):=by
 obtain ⟨done,cur,kh,e,ok⟩:=k
 exact ⟨_ ++ done,cur,fun z=>by rw [cps_app,List.append_assoc,h.h,kh,← List.append_assoc],by rw [List.append_assoc,e,List.map_append],ok_app h.ok ok⟩
theorem Sh.words {x:Str} {ws:List Str} (h:Sh x ws):wordsT x = ws:=by
 obtain ⟨done,cur,h,e,_⟩:=h
 have h0:=h []
 rw [List.append_nil] at h0
 have w:=words_marks x
 rw [h0] at w
 have w:(wordsT x).map (fun z=>z.cps.toList) = ws.map (fun z=>z.cps.toList):=w.trans e
 exact (List.map_inj_right (fun a b hab=>Str.ext' (Array.toList_inj.mp hab))).mp w
theorem Sh.okc {x:Str} {ws:List Str} (h:Sh x ws):x.cps.toList.all okC = true:=by obtain ⟨_,_,_,_,ok⟩:=h; exact ok
def joinW:List Str→Str
 | []=> ""
 | [a]=>a
 | a :: b :: l=>a ++ " " ++ joinW (b :: l)
theorem joinW_eq:∀ l:List Str,Txt.join " " l = joinW l:=by
 intro l
 have e:Txt.join " " l = Str.join " " l:=by
  show Builtin.Str.glued " " l = _
  rw [StrLaws.glued_eq_join]
 rw [e]
 have k:∀ (l:List Str) (a:Str),Str.join " " (a :: l) = joinW (a :: l):=by
  intro l
  induction l with
  | nil=>intro a; rfl
  | cons b l ih =>
   intro a
   show a ++ " " ++ Str.join " " (b :: l) = _
   rw [ih b]
   rfl
 cases l with
 | nil=>rfl
 | cons a l=>exact k l a
theorem Sh.join:∀ {l:List Str} {a:Str},(∀ z∈a :: l,okWd z = true)→Sh (joinW (a :: l)) (a :: l)
 | [],a,h=>Sh.wd (h a List.mem_cons_self)
 | b :: l,a,h=>(Sh.wd (h a List.mem_cons_self)).blank.sh (Sh.join (l:=l) (a:=b) fun z hz=>h z (List.mem_cons_of_mem _ hz))
theorem lenB:(" " : Str).length = 1:=by decide +kernel
theorem join_len:∀ {l:List Str} {a:Str},(∀ z∈a :: l,okWd z = true)→(joinW (a :: l)).length + 1≤10 * (l.length + 1)
 | [],a,h=>by
  have:=(okWd_len (h a List.mem_cons_self)).1
  show a.length + 1≤10
  omega
 | b :: l,a,h=>by
  have h1:=(okWd_len (h a List.mem_cons_self)).1
  have h2:=join_len (l:=l) (a:=b) fun z hz=>h z (List.mem_cons_of_mem _ hz)
  show (a ++ " " ++ joinW (b :: l)).length + 1≤_
  rw [str_len_app,str_len_app,lenB,List.length_cons]
  omega
theorem joinFew {s:Str} {l:List Str} {m:Nat} (h:∀ z∈l,z.length≤m) (hm:m≤20) (hl:l.length≤1000) (hs:s.length≤16):JoinOk s l = true:=by
 refine PyProof.Rows.joinOk_of_weight ?_ hs
 have:(l.map (·.length)).sum≤l.length * m:=by
  clear hl
  induction l with
  | nil=>exact Nat.zero_le _
  | cons a r ih =>
   have h1:=h a List.mem_cons_self
   have h2:=ih (fun z hz=>h z (List.mem_cons_of_mem _ hz))
   rw [List.map_cons,List.sum_cons,List.length_cons,Nat.succ_mul]
   omega
 have h3:l.length * m≤1000 * 20:=Nat.mul_le_mul hl hm
 omega
structure WsG (ws:List Str):Prop where
 n:ws≠[]
 k:∀ y∈ws,okWd y = true
 l:ws.length≤130
theorem WsG.sh {ws:List Str} (h:WsG ws):Sh (joinW ws) ws:=by
 cases ws with
 | nil=>exact absurd rfl h.n
 | cons a l=>exact Sh.join h.k
theorem WsG.len {ws:List Str} (h:WsG ws):(joinW ws).length≤1300:=by
 cases ws with
 | nil=>exact absurd rfl h.n
 | cons a l =>
  have:=join_len h.k
  have:=h.l
  rw [List.length_cons] at this
  omega
theorem WsG.ok {ws:List Str} (h:WsG ws):JoinOk " " ws = true:=joinFew (m:=9) (fun z hz=>(okWd_len (h.k z hz)).1) (by decide) (by have:=h.l; omega) (by decide +kernel)
theorem all_odd {a b:Str} {c:Nat} (h:okC c = false):(a ++ ⟨#[c]⟩ ++ b).cps.toList.all okC = false:=by
 rw [cps_app,cps_app,List.all_append,List.all_append]
 show ((_ && (okC c && true)) && _) = false
 rw [h]
 simp
def oddS:Str:= "0123456789!\"#$&'()*+,-./:<=>?@ABCDEFGHIJKLMNOPQRSTUVWXYZ[\\]^_`~\t"
theorem oddS_ok:∀ c∈oddS.cps.toList,okC c = false:=by decide +kernel
theorem end_bad {B:List Str} (h:GdB B) (hw:WsG (hdr ++ B)):∀ s∈([" }", " {", " ;", " |", " rest", "; {"]:List Str),BadT (joinW (hdr ++ B) ++ s):=by
 intro s hs
 obtain ⟨b1,b2,b3,b4,b5,b6⟩:=gd_end h
 have S:=hw.sh
 have one:∀ {z:Str},okWd z = true→Sh (joinW (hdr ++ B) ++ (" " ++ z)) (hdr ++ (B ++ [z])):=fun {z} hz=>by
  have:=S.blank.sh (Sh.wd hz)
  rw [str_assoc,List.append_assoc] at this
  exact this
 have ne:∀ {L:List Str},(∀ y∈L,¬ y = "")→∀ y∈B ++ L,¬ y = "" := fun {L} hL y hy=>by
  rcases List.mem_append.mp hy with z | z
  ·exact (okWd_len (hw.k y (List.mem_append_right _ z))).2
  ·exact hL y z
 simp only [List.mem_cons,List.not_mem_nil,or_false] at hs
 rcases hs with rfl | rfl | rfl | rfl | rfl | rfl
 ·have:=(one (z:= "}") (by decide +kernel)).words
  rw [show (" " : Str) ++ "}" = " }" by decide +kernel] at this
  exact hdr_bad this (ne (by decide +kernel)) b1
 ·have:=(one (z:= "{") (by decide +kernel)).words
  rw [show (" " : Str) ++ "{" = " {" by decide +kernel] at this
  exact hdr_bad this (ne (by decide +kernel)) b2
 ·have:=(one (z:= ";") (by decide +kernel)).words
  rw [show (" " : Str) ++ ";" = " ;" by decide +kernel] at this
  exact hdr_bad this (ne (by decide +kernel)) b3
 ·have:=(one (z:= "|") (by decide +kernel)).words
  rw [show (" " : Str) ++ "|" = " |" by decide +kernel] at this
  exact hdr_bad this (ne (by decide +kernel)) b4
 ·have:=(one (z:= "rest") (by decide +kernel)).words
  rw [show (" " : Str) ++ "rest" = " rest" by decide +kernel] at this
  exact hdr_bad this (ne (by decide +kernel)) b5
 ·have k:=(S.b (ShB.mark (m:= ";") (by decide +kernel))).s.blank.sh (Sh.wd (x:= "{") (by decide +kernel))
  rw [str_assoc,str_assoc,List.append_assoc,List.append_assoc] at k
  have:=k.words
  rw [show (";" : Str) ++ (" " ++ "{") = "; {" by decide +kernel] at this
  exact hdr_bad this (ne (by decide +kernel)) b6
theorem wsg_cut {a b:List Str} {m:Str} (h:WsG (a ++ m :: b)) (n:a ++ b≠[]):WsG (a ++ b):=⟨n,fun y hy=>h.k y (by
  rcases List.mem_append.mp hy with z | z
  ·exact List.mem_append_left _ z
  ·exact List.mem_append_right _ (List.mem_cons_of_mem _ z)),by have:=h.l; simp only [List.length_append,List.length_cons] at this ⊢; omega⟩
theorem wsg_put {a b:List Str} {m m':Str} (h:WsG (a ++ m :: b)) (k:okWd m' = true):WsG (a ++ m' :: b):=⟨by simp,fun y hy=>by
  rcases List.mem_append.mp hy with z | z
  ·exact h.k y (List.mem_append_left _ z)
  ·rcases List.mem_cons.mp z with z | z
   ·rw [z]; exact k
   ·exact h.k y (List.mem_append_right _ (List.mem_cons_of_mem _ z)),by have:=h.l; simp only [List.length_append,List.length_cons] at this ⊢; omega⟩
theorem drop_text {B a b:List Str} {m:Str} (h:GdB B) (hw:WsG (hdr ++ B)) (e:hdr ++ B = a ++ m :: b) (hm:m∈(["{", "}", ";", "|"]:List Str)):BadT (joinW (a ++ b))∧WsG (a ++ b):=by
 have n:a ++ b≠[]:=fun z=>by
  have:=congrArg List.length e
  rw [List.length_append,List.length_append,List.length_cons,show hdr.length = 7 from rfl] at this
  have z:=congrArg List.length z
  rw [List.length_append] at z
  simp at z
  simp [z] at this
  omega
 have g:WsG (a ++ b):=wsg_cut (by rw [← e]; exact hw) n
 exact ⟨drop_bad h (fun y hy=>(okWd_len (hw.k y (List.mem_append_right _ hy))).2) e hm g.sh.words,g⟩
def newL:List Str:=["in", "out", "nothing", "rest", "halt", "send", "keep", "await", "if", "else", "again", "hold", "watch", "weak", "trap", "exit", "local", "abcdefghi"]
theorem newL_ok:∀ y∈newL,okWd y = true∧nameB y = false∧¬ y = ";" ∧ ¬ y = "" := by
 have:∀ y∈newL,okWd y = true∧(Txt.isalpha y && decide (y.length≤8) && !kept.contains y) = false∧¬ y = ";" ∧ ¬ y = "" := by decide +kernel
 exact this
def nm4:List Str:=["bb", "cc", "restb", "dd"]
theorem nm4_ok:∀ y∈nm4,nameB y = true:=by
 have:∀ y∈nm4,(Txt.isalpha y && decide (y.length≤8) && !kept.contains y) = true:=by decide +kernel
 exact this
theorem ren_text {B a b:List Str} {y y':Str} (h:GdB B) (hw:WsG (hdr ++ B)) (e:hdr ++ B = a ++ y :: b) (hy:y∈nm4) (hn:y'∈newL):BadT (joinW (a ++ y' :: b))∧WsG (a ++ y' :: b):=by
 obtain ⟨k1,k2,k3,k4⟩:=newL_ok y' hn
 have g:WsG (a ++ y' :: b):=wsg_put (by rw [← e]; exact hw) k1
 exact ⟨ren_bad h (fun y hy=>(okWd_len (hw.k y (List.mem_append_right _ hy))).2) k4 k3 e (nm4_ok y hy) k2 g.sh.words,g⟩
def plL (ws L:List Str):List Nat:=(List.range ws.length).filter fun i=>decide (ws.getD i "" ∈ L)
theorem plL_at {ws L:List Str} {i:Nat} (h:i∈plL ws L):∃ a m b,ws = a ++ m :: b∧a.length = i∧m∈L:=by
 obtain ⟨h1,h2⟩:=List.mem_filter.mp h
 have hi:i < ws.length:=List.mem_range.mp h1
 have h2:ws.getD i "" ∈ L:=of_decide_eq_true h2
 refine ⟨ws.take i,ws[i],ws.drop (i + 1),?_,by rw [List.length_take]; omega,?_⟩
 ·rw [← List.drop_eq_getElem_cons hi,List.take_append_drop]
 ·rw [List.getD_eq_getElem?_getD,List.getElem?_eq_getElem hi] at h2
  exact h2
theorem plL_succ (ws L:List Str) (i:Nat):(List.range (i + 1)).filter (fun i=>decide (ws.getD i "" ∈ L)) = (List.range i).filter (fun i=>decide (ws.getD i "" ∈ L)) ++ (if ws.getD i "" ∈ L then [i] else []):=by
 rw [List.range_succ,List.filter_append]
 congr 1
 by_cases c:ws.getD i "" ∈ L
 ·rw [if_pos c,List.filter_cons,if_pos (decide_eq_true c)]; rfl
 ·rw [if_neg c,List.filter_cons,if_neg (by simpa using c)]; rfl
theorem plL_hdr {B L:List Str} {i:Nat} (hi:i < 7) (h:hdr.getD i "" ∈ L):0 < (plL (hdr ++ B) L).length:=by
 refine List.length_pos_of_mem (a:=i) (List.mem_filter.mpr ⟨List.mem_range.mpr (by rw [List.length_append,show hdr.length = 7 from rfl]; omega),decide_eq_true ?_⟩)
 rw [List.getD_eq_getElem?_getD,List.getElem?_append_left (by show i < 7; exact hi),← List.getD_eq_getElem?_getD]
 exact h
theorem cut_hd (xs:List V) (j:Nat):cutV xs none (some (j:Int)) = xs.take j:=by
 unfold cutV
 rw [HT.sIx_none,HT.sIx_nat,List.drop_zero,Nat.sub_zero]
 rcases Nat.le_total j xs.length with h | h
 ·rw [Nat.min_eq_left h]
 ·rw [Nat.min_eq_right h,List.take_length,List.take_of_length_le h]
theorem cut_tl (xs:List V) (j:Nat):cutV xs (some (j:Int)) none = xs.drop j:=by
 unfold cutV
 rw [HT.sIx_none,HT.sIx_nat]
 rcases Nat.le_total j xs.length with h | h
 ·rw [Nat.min_eq_left h,List.take_of_length_le (by rw [List.length_drop]; omega)]
 ·rw [Nat.min_eq_right h,List.drop_eq_nil_of_le (Nat.le_refl _),List.drop_eq_nil_of_le h,List.take_nil]
inductive GoodT (x:Str) (ins:List Str):Prop
 | mk (l:x.length≤3000) (ok:x.cps.toList.all okC = true) (mo:mostO (wordsT x)≤16) (outs:List Str) (d:Nat) (t:Nd) (hd:d≤20) (W:Whole (wordsT x) ins outs d t) (c:cnt t≤60) (nd:(ins ++ outs).Nodup) (ck:chk t (ins ++ outs) [] = true):GoodT x ins
inductive NoT (K:PySem.W.Frag) (H:Hp):V→Prop
 | long {x:Str} (l:3000 < x.length) (l2:x.length≤10000):NoT K H (.str x)
 | bad {x:Str} (l:x.length≤3000) (b:BadT x):NoT K H (.str x)
 | many {x:Str} (l:x.length≤3000) (ok:x.cps.toList.all okC = true) (mo:mostO (wordsT x)≤16) (ins outs:List Str) (d:Nat) (t:Nd) (hd:d≤20) (W:Whole (wordsT x) ins outs d t) (c:60 < cnt t) (c2:cnt t≤1200):NoT K H (.str x)
 | other {v:V} (t:Value) (ty:TyOf K H v t) (k:PySem.W.kitOne K t (.type "str") = some false):NoT K H v
theorem chk_t (xs:List Nd) (sg tr:List Str):chk (.t xs) sg tr = (useOk xs sg tr && chkL xs (sgIn xs sg) (trIn xs tr)):=by rw [chk]
theorem chk_s (x:Str) (sg tr:List Str):chk (.s x) sg tr = true:=by simp [chk]
theorem chkL_nil (sg tr:List Str):chkL [] sg tr = true:=by rw [chkL]
theorem chkL_cons (x:Nd) (xs:List Nd) (sg tr:List Str):chkL (x :: xs) sg tr = (chk x sg tr && chkL xs sg tr):=by rw [chkL]
theorem chk_two {w:Str} (hw:w = "then" ∨ w = "beside") (a b:Nd) (sg tr:List Str):chk (.t [.s w,a,b]) sg tr = (chk a sg tr && chk b sg tr):=by
 rw [chk_t,chkL_cons,chkL_cons,chkL_cons,chkL_nil,chk_s]
 have u:useOk [.s w,a,b] sg tr = true:=by
  unfold useOk
  have e:users.contains (wordOf [.s w,a,b]) = false:=by show users.contains w = false; rcases hw with rfl | rfl <;> decide +kernel
  have e2:decide (wordOf [.s w,a,b] = "exit") = false:=decide_eq_false (by show ¬ w = "exit"; rcases hw with rfl | rfl <;> decide +kernel)
  rw [e,e2]; rfl
 have s:sgIn [.s w,a,b] sg = sg:=by unfold sgIn; rw [if_neg (by show ¬ w = "local"; rcases hw with rfl | rfl <;> decide +kernel)]
 have r:trIn [.s w,a,b] tr = tr:=by unfold trIn; rw [if_neg (by show ¬ w = "trap"; rcases hw with rfl | rfl <;> decide +kernel)]
 rw [u,s,r]
 simp
theorem cnt_two (w:Str) (a b:Nd):cnt (.t [.s w,a,b]) = cnt a + cnt b + 1:=by rw [cnt_t,cntL_cons,cntL_cons,cntL_cons,cnt_s]; show 0 + _ + _ + 0 + 1 = _; omega
theorem nm3_ok:∀ n∈nm3,nameB n = true:=by
 have:∀ y∈nm3,(Txt.isalpha y && decide (y.length≤8) && !kept.contains y) = true:=by decide +kernel
 exact this
theorem n_dd:nameB "dd" = true:=nm4_ok "dd" (by decide +kernel)
abbrev rest1:Nd:=.t [.s "rest"]
abbrev halt1:Nd:=.t [.s "halt"]
theorem wd_rest:Wd rest1 ["rest"] 0:=.bare (by decide +kernel)
theorem wd_halt:Wd halt1 ["halt"] 0:=.bare (by decide +kernel)
theorem wd_rh:Wd (.t [.s "then", rest1,halt1]) ["rest", ";", "{", "halt", "}"] 1:=Wd.thn (WdI.no wd_rest (.inl (by decide +kernel))) (WdI.br wd_halt)
theorem nj {w:Str} {xs:List Nd} (h:¬ w = "then" ∧ ¬ w = "beside"):¬ hdN (.t (.s w :: xs)) = "then" ∧ ¬ hdN (.t (.s w :: xs)) = "beside" := h
structure RowT (R:List Str) (t:Nd) (b:Nat):Prop where
 w:Wd t R b
 b:b≤2
 c:cnt t≤4
 k:chk t nm3 [] = true
 n:¬ hdN t = "then" ∧ ¬ hdN t = "beside"
theorem row_tree:∀ R∈rowsL,∃ t b,RowT R t b:=by
 intro R hR
 rcases List.mem_append.mp hR with h | h
 ·simp only [List.mem_cons,List.not_mem_nil,or_false] at h
  rcases h with rfl | rfl | rfl | rfl
  ·exact ⟨.t [.s "nothing"],0,.bare (by decide +kernel),by decide,by decide +kernel,by decide +kernel,by decide +kernel⟩
  ·exact ⟨rest1,0,wd_rest,by decide,by decide +kernel,by decide +kernel,by decide +kernel⟩
  ·exact ⟨halt1,0,wd_halt,by decide,by decide +kernel,by decide +kernel,by decide +kernel⟩
  ·exact ⟨.t [.s "trap", .s "dd", .t [.s "exit", .s "dd"]],1,.round (by decide +kernel) n_dd (.named (by decide +kernel) n_dd),by decide,by decide +kernel,by decide +kernel,by decide +kernel⟩
 ·obtain ⟨n,hn,h⟩:=List.mem_flatMap.mp h
  have hk:=nm3_ok n hn
  simp only [List.mem_cons,List.not_mem_nil,or_false] at h
  rcases h with rfl | rfl | rfl | rfl | rfl | rfl | rfl | rfl | rfl
  ·exact ⟨.t [.s "send", .s n],0,.named (by decide +kernel) hk,by decide,(show ∀ n∈nm3,cnt (.t [.s "send", .s n])≤4 by decide +kernel) n hn,(show ∀ n∈nm3,chk (.t [.s "send", .s n]) nm3 [] = true by decide +kernel) n hn,nj (by decide +kernel)⟩
  ·exact ⟨.t [.s "keep", .s n],0,.named (by decide +kernel) hk,by decide,(show ∀ n∈nm3,cnt (.t [.s "keep", .s n])≤4 by decide +kernel) n hn,(show ∀ n∈nm3,chk (.t [.s "keep", .s n]) nm3 [] = true by decide +kernel) n hn,nj (by decide +kernel)⟩
  ·exact ⟨.t [.s "await", .s n],0,.named (by decide +kernel) hk,by decide,(show ∀ n∈nm3,cnt (.t [.s "await", .s n])≤4 by decide +kernel) n hn,(show ∀ n∈nm3,chk (.t [.s "await", .s n]) nm3 [] = true by decide +kernel) n hn,nj (by decide +kernel)⟩
  ·exact ⟨.t [.s "again", .t [.s "beside", rest1,.t [.s "send", .s n]]],1,.again (Wd.bes (WdI.no wd_rest (.inl (by decide +kernel))) (WdI.no (.named (x:= "send") (by decide +kernel) hk) (.inl (nj (by decide +kernel))))),by decide,(show ∀ n∈nm3,cnt (.t [.s "again", .t [.s "beside", rest1,.t [.s "send", .s n]]])≤4 by decide +kernel) n hn,(show ∀ n∈nm3,chk (.t [.s "again", .t [.s "beside", rest1,.t [.s "send", .s n]]]) nm3 [] = true by decide +kernel) n hn,nj (by decide +kernel)⟩
  ·exact ⟨.t [.s "if", .s n,rest1,halt1],1,Wd.iff2 (ws:=["rest"]) (ws2:=["halt"]) hk wd_rest wd_halt,by decide,(show ∀ n∈nm3,cnt (.t [.s "if", .s n,rest1,halt1])≤4 by decide +kernel) n hn,(show ∀ n∈nm3,chk (.t [.s "if", .s n,rest1,halt1]) nm3 [] = true by decide +kernel) n hn,nj (by decide +kernel)⟩
  ·exact ⟨.t [.s "hold", .s n,.t [.s "then", rest1,halt1]],2,.round (by decide +kernel) hk wd_rh,by decide,(show ∀ n∈nm3,cnt (.t [.s "hold", .s n,.t [.s "then", rest1,halt1]])≤4 by decide +kernel) n hn,(show ∀ n∈nm3,chk (.t [.s "hold", .s n,.t [.s "then", rest1,halt1]]) nm3 [] = true by decide +kernel) n hn,nj (by decide +kernel)⟩
  ·exact ⟨.t [.s "watch", .s n,.t [.s "then", rest1,halt1]],2,.round (by decide +kernel) hk wd_rh,by decide,(show ∀ n∈nm3,cnt (.t [.s "watch", .s n,.t [.s "then", rest1,halt1]])≤4 by decide +kernel) n hn,(show ∀ n∈nm3,chk (.t [.s "watch", .s n,.t [.s "then", rest1,halt1]]) nm3 [] = true by decide +kernel) n hn,nj (by decide +kernel)⟩
  ·exact ⟨.t [.s "weak", .s n,.t [.s "then", rest1,halt1]],2,.round (by decide +kernel) hk wd_rh,by decide,(show ∀ n∈nm3,cnt (.t [.s "weak", .s n,.t [.s "then", rest1,halt1]])≤4 by decide +kernel) n hn,(show ∀ n∈nm3,chk (.t [.s "weak", .s n,.t [.s "then", rest1,halt1]]) nm3 [] = true by decide +kernel) n hn,nj (by decide +kernel)⟩
  ·exact ⟨.t [.s "local", .s n,.t [.s "then", rest1,halt1]],2,.round (by decide +kernel) hk wd_rh,by decide,(show ∀ n∈nm3,cnt (.t [.s "local", .s n,.t [.s "then", rest1,halt1]])≤4 by decide +kernel) n hn,(show ∀ n∈nm3,chk (.t [.s "local", .s n,.t [.s "then", rest1,halt1]]) nm3 [] = true by decide +kernel) n hn,nj (by decide +kernel)⟩
def topR (t:Nd):Prop:=(¬ hdN t = "then" ∧ ¬ hdN t = "beside")∨hdN t = "then"
theorem topR.i {t:Nd} (h:topR t):(¬ hdN t = "then" ∧ ¬ hdN t = "beside")∨hdN t∈(["then"]:List Str):=h.imp id fun z=>by rw [z]; simp
theorem topR.j {t:Nd} (h:topR t):(¬ hdN t = "then" ∧ ¬ hdN t = "beside")∨hdN t∈(["then", "beside"]:List Str):=h.imp id fun z=>by rw [z]; simp
inductive GT:List Str→Nat→Prop
 | one {ws:List Str} {row:Nd} {b i:Nat} (w:Wd row ws b) (h:topR row) (hb:b≤2) (c:cnt row + 1≤5 * i) (k:chk row nm3 [] = true):GT ws i
 | two {wb ws:List Str} {tb row:Nd} {b1 b2 i:Nat} (w1:WdI ["then", "beside"] tb wb b1) (w2:Wd row ws b2) (h:topR row) (hb1:b1≤2) (hb2:b2≤2) (c:cnt tb + cnt row + 2≤5 * i) (k1:chk tb nm3 [] = true) (k2:chk row nm3 [] = true):GT (wb ++ ("|" : Str) :: ws) i
theorem gt_row {R:List Str} (hR:R∈rowsL):GT R 1:=by
 obtain ⟨t,b,r⟩:=row_tree R hR
 exact .one r.w (.inl r.n) r.b (by have:=r.c; omega) r.k
theorem gt_more {B R:List Str} {s:Str} {i:Nat} (h:GT B i) (hR:R∈rowsL) (hs:s = ";" ∨ s = "|"):GT (B ++ s :: R) (i + 1):=by
 obtain ⟨t,b,r⟩:=row_tree R hR
 have rc:=r.c
 have rb:=r.b
 cases h with
 | one w h hb c k =>
  rcases hs with rfl | rfl
  ·exact .one (Wd.thn (WdI.no w h.i) (WdI.no r.w (.inl r.n))) (.inr rfl) (by omega) (by rw [cnt_two]; omega) (by rw [chk_two (.inl rfl),k,r.k]; rfl)
  ·exact .two (WdI.no w h.j) r.w (.inl r.n) hb rb (by omega) k r.k
 | two w1 w2 h hb1 hb2 c k1 k2 =>
  rcases hs with rfl | rfl
  ·rw [List.append_assoc]
   exact .two w1 (Wd.thn (WdI.no w2 h.i) (WdI.no r.w (.inl r.n))) (.inr rfl) hb1 (by omega) (by rw [cnt_two]; omega) k1 (by rw [chk_two (.inl rfl),k2,r.k]; rfl)
  ·exact .two (WdI.no (Wd.bes w1 (WdI.no w2 h.i)) (.inr (by show ("beside" : Str)∈_; simp))) r.w (.inl r.n) (by omega) rb (by rw [cnt_two]; omega) (by rw [chk_two (.inr rfl),k1,k2]; rfl) r.k
theorem GT.wd {B:List Str} {i:Nat} (h:GT B i):∃ t b,Wd t B b∧b≤2∧cnt t + 1≤5 * i∧chk t nm3 [] = true:=by
 cases h with
 | one w h hb c k=>exact ⟨_,_,w,hb,c,k⟩
 | two w1 w2 h hb1 hb2 c k1 k2=>exact ⟨_,_,Wd.bes w1 (WdI.no w2 h.i),by omega,by rw [cnt_two]; omega,by rw [chk_two (.inr rfl),k1,k2]; rfl⟩
theorem good_text {B:List Str} {i:Nat} (hi:i≤12) (h:GT B i) (hw:WsG (hdr ++ B)):GoodT (joinW (hdr ++ B)) ["bb"]:=by
 obtain ⟨t,b,w,hb,c,k⟩:=h.wd
 have S:=hw.sh
 have e:wordsT (joinW (hdr ++ B)) = allW ["bb"] ["cc", "restb"] B:=S.words
 have n1:=(nml (ns:=["bb"]) (by decide) (by decide)).1
 have n2:=(nml (ns:=["cc", "restb"]) (by decide) (by decide)).1
 refine .mk (Nat.le_trans hw.len (by decide)) S.okc ?_ ["cc", "restb"] b t (by omega) ?_ (by omega) (by decide +kernel) k
 ·rw [e,allW_most n1 n2 w.op]; omega
 ·rw [e]
  exact allW_whole n1 n2 (by decide) (by decide) w
theorem mul_cps (x:Str) (n:Int):(Txt.mul x n).cps.toList = (List.replicate n.toNat x.cps.toList).flatten:=by
 have fold:∀ (k:Nat) (a acc:Array Nat),((List.replicate k a).foldl (· ++ ·) acc).toList = acc.toList ++ (List.replicate k a.toList).flatten:=by
  intro k a
  induction k with
  | zero=>intro acc; simp
  | succ k ih=>intro acc; rw [List.replicate_succ,List.foldl_cons,ih,List.replicate_succ,List.flatten_cons]; simp
 unfold Txt.mul
 split
 ·rename_i h
  have:n.toNat = 0:=by omega
  rw [this]; rfl
 ·split
  ·rename_i h1 h2
   rcases Bool.or_eq_true_iff.mp h2 with z | z
   ·have:n = 1:=eq_of_beq z
    subst this
    show _ = (List.replicate 1 _).flatten
    simp
   ·have:x.cps.toList = []:=by
     have z:x.length = 0:=eq_of_beq z
     have z:x.cps.size = 0:=z
     rw [← Array.length_toList] at z
     exact List.length_eq_zero_iff.mp z
    rw [this]
    simp
  ·rw [fold]; rfl
theorem mul_len (x:Str) (n:Int):(Txt.mul x n).length = n.toNat * x.length:=by
 have:=congrArg List.length (mul_cps x n)
 rw [Array.length_toList,List.length_flatten,List.map_replicate,List.sum_replicate_nat] at this
 show (Txt.mul x n).cps.size = n.toNat * x.cps.size
 rw [this,Array.length_toList]
theorem tok_pad {sp:List Nat} (h:∀ c∈sp,Unicode.isSpace c = true):∀ (L cur:List Nat),tok cur (L ++ sp) = tok cur L
 | [],cur=>by
  cases sp with
  | nil=>rfl
  | cons c sp =>
   have k:=tok_blank (y:=[]) (cur:=cur) h (by simp)
   rw [List.append_nil] at k
   show tok cur (c :: sp) = flush cur
   rw [k]
   show flush cur ++ flush [] = _
   rw [fl0,List.append_nil]
 | c :: L,cur=>by
  rw [List.cons_append,tok,tok]
  split
  ·rw [tok_pad h]
  ·split
   ·rw [tok_pad h]
   ·rw [tok_pad h]
theorem words_pad {x b:Str} (hb:∀ c∈b.cps.toList,c = 32):wordsT (x ++ b) = wordsT x:=by
 have sp:∀ c∈b.cps.toList,Unicode.isSpace c = true:=fun c hc=>by rw [hb c hc]; decide +kernel
 have w:=(words_marks (x ++ b)).trans ((by rw [cps_app,tok_pad sp]:tok [] (x ++ b).cps.toList = tok [] x.cps.toList).trans (words_marks x).symm)
 exact (List.map_inj_right (fun a b hab=>Str.ext' (Array.toList_inj.mp hab))).mp w
def okTB (x:Str) (ws:List Str):Bool:=decide (x.length≤3000) && x.cps.toList.all okC && decide (tok [] x.cps.toList = ws.map fun z=>z.cps.toList)
structure OkT (x:Str) (ws:List Str):Prop where
 l:x.length≤3000
 ok:x.cps.toList.all okC = true
 w:wordsT x = ws
theorem okT_of {x:Str} {ws:List Str} (h:okTB x ws = true):OkT x ws:=by
 unfold okTB at h
 rw [Bool.and_eq_true,Bool.and_eq_true] at h
 obtain ⟨⟨h1,h2⟩,h3⟩:=h
 have w:wordsT x = ws:=by
  have w:=(words_marks x).trans (of_decide_eq_true h3)
  exact (List.map_inj_right (fun a b hab=>Str.ext' (Array.toList_inj.mp hab))).mp w
 exact ⟨of_decide_eq_true h1,h2,w⟩
def oddT:List Str:=["", " ", "in", "in;out;", "in;out", "out;in;rest", "in;out;rest;", "in;out;;rest", "in;out;{}", "in;rest", "in;out;if b{rest}else", "in b;out;if b rest", "in;out;trap{rest}", "in b;out;if{rest}"]
theorem nml0:NmL []:=⟨fun x hx=>(by cases hx),by decide⟩
theorem n_b:nameB "b" = true:=by
 have:(Txt.isalpha "b" && decide (("b" : Str).length≤8) && !kept.contains "b") = true:=by decide +kernel
 exact this
theorem nmlb:NmL ["b"]:=⟨fun x hx=>(by rw [List.mem_singleton.mp hx]; exact n_b),by decide⟩
theorem n_no:nameB "" = false:=Bool.eq_false_iff.mpr fun z=>name_ne z rfl
theorem bad_whole {x:Str} {ins r:List Str} (h:okTB x (("in" : Str) :: (ins ++ (";" : Str) :: ("out" : Str) :: ([] ++ (";" : Str) :: r))) = true) (n:NmL ins) (hne:∀ y∈r,¬ y = "") (bad:bal r≠0∨¬ adj r "" ∨ r.headD "" ∉ fstL):x.length≤3000∧BadT x:=by
 have o:=okT_of h
 exact ⟨o.l,whole_bad (ins:=ins) (outs:=[]) o.w n nml0 hne bad⟩
theorem odd_bad:∀ x∈oddT,x.length≤3000∧BadT x:=by
 intro x hx
 unfold oddT at hx
 simp only [List.mem_cons,List.not_mem_nil,or_false] at hx
 rcases hx with rfl | rfl | rfl | rfl | rfl | rfl | rfl | rfl | rfl | rfl | rfl | rfl | rfl | rfl
 ·have o:=okT_of (x:= "") (ws:=[]) (by decide +kernel)
  exact ⟨o.l,.inr (.inr (by rw [o.w]; exact .noIn (by decide +kernel)))⟩
 ·have o:=okT_of (x:= " ") (ws:=[]) (by decide +kernel)
  exact ⟨o.l,.inr (.inr (by rw [o.w]; exact .noIn (by decide +kernel)))⟩
 ·have o:=okT_of (x:= "in") (ws:=["in"]) (by decide +kernel)
  exact ⟨o.l,.inr (.inr (by rw [o.w]; exact FWhole.semi1 (ins:=[]) (r:=[]) nml0 n_no (by decide +kernel)))⟩
 ·exact bad_whole (ins:=[]) (r:=[]) (by decide +kernel) nml0 (by decide +kernel) (.inr (.inr (by decide +kernel)))
 ·have o:=okT_of (x:= "in;out") (ws:=["in", ";", "out"]) (by decide +kernel)
  exact ⟨o.l,.inr (.inr (by rw [o.w]; exact FWhole.semi2 (ins:=[]) (outs:=[]) (r:=[]) nml0 nml0 n_no (by decide +kernel)))⟩
 ·have o:=okT_of (x:= "out;in;rest") (ws:=["out", ";", "in", ";", "rest"]) (by decide +kernel)
  exact ⟨o.l,.inr (.inr (by rw [o.w]; exact .noIn (by decide +kernel)))⟩
 ·exact bad_whole (ins:=[]) (r:=["rest", ";"]) (by decide +kernel) nml0 (by decide +kernel) (.inr (.inl (by decide +kernel)))
 ·exact bad_whole (ins:=[]) (r:=[";", "rest"]) (by decide +kernel) nml0 (by decide +kernel) (.inr (.inr (by decide +kernel)))
 ·exact bad_whole (ins:=[]) (r:=["{", "}"]) (by decide +kernel) nml0 (by decide +kernel) (.inr (.inl (by decide +kernel)))
 ·have o:=okT_of (x:= "in;rest") (ws:=["in", ";", "rest"]) (by decide +kernel)
  exact ⟨o.l,.inr (.inr (by rw [o.w]; exact FWhole.noOut (ins:=[]) (r:=["rest"]) nml0 (by decide +kernel)))⟩
 ·exact bad_whole (ins:=[]) (r:=["if", "b", "{", "rest", "}", "else"]) (by decide +kernel) nml0 (by decide +kernel) (.inr (.inl (by decide +kernel)))
 ·exact bad_whole (ins:=["b"]) (r:=["if", "b", "rest"]) (by decide +kernel) nmlb (by decide +kernel) (.inr (.inl (by decide +kernel)))
 ·exact bad_whole (ins:=[]) (r:=["trap", "{", "rest", "}"]) (by decide +kernel) nml0 (by decide +kernel) (.inr (.inl (by decide +kernel)))
 ·exact bad_whole (ins:=["b"]) (r:=["if", "{", "rest", "}"]) (by decide +kernel) nmlb (by decide +kernel) (.inr (.inl (by decide +kernel)))
def trN (w:Str):Nat→Nd
 | 0=>rest1
 | n + 1=>.t [.s w,trN w n,rest1]
def wsR (s:Str):Nat→List Str
 | 0=>["rest"]
 | n + 1=>("rest" : Str) :: s :: wsR s n
theorem wsR_app (s:Str):∀ n,wsR s (n + 1) = wsR s n ++ [s,("rest" : Str)]
 | 0=>rfl
 | n + 1=>by
  have:=wsR_app s n
  show ("rest" : Str) :: s :: wsR s (n + 1) = ("rest" : Str) :: s :: (wsR s n ++ [s, "rest"])
  rw [this]
theorem trN_then:∀ n,Wd (trN "then" n) (wsR ";" n) 0∧topR (trN "then" n)
 | 0=>⟨wd_rest,.inl (by decide +kernel)⟩
 | n + 1=>by
  obtain ⟨w,h⟩:=trN_then n
  rw [wsR_app]
  exact ⟨Wd.thn (WdI.no w h.i) (WdI.no wd_rest (.inl (by decide +kernel))),.inr rfl⟩
theorem trN_bes:∀ n,Wd (trN "beside" n) (wsR "|" n) 0
 | 0=>wd_rest
 | n + 1=>by
  have w:=trN_bes n
  rw [wsR_app]
  refine Wd.bes (WdI.no w ?_) (WdI.no wd_rest (.inl (by decide +kernel)))
  cases n with
  | zero=>exact .inl (by decide +kernel)
  | succ n=>exact .inr (by show ("beside" : Str)∈_; simp)
theorem trN_cnt (w:Str):∀ n,cnt (trN w n) = 2 * n + 1
 | 0=>(by decide +kernel:cnt rest1 = 1)
 | n + 1=>by
  have:=trN_cnt w n
  show cnt (.t [.s w,trN w n,rest1]) = _
  rw [cnt_two,this,show cnt rest1 = 1 by decide +kernel]
  omega
def rj (s:Str):Nat→Str
 | 0=> "rest"
 | n + 1=>("rest" : Str) ++ s ++ rj s n
theorem rj_eq (s:Str) (n:Nat):Txt.join s (List.replicate (n + 1) ("rest" : Str)) = rj s n:=by
 have e:Txt.join s (List.replicate (n + 1) ("rest" : Str)) = Str.join s (List.replicate (n + 1) ("rest" : Str)):=by
  show Builtin.Str.glued s _ = _
  rw [StrLaws.glued_eq_join]
 rw [e]
 clear e
 induction n with
 | zero=>rfl
 | succ n ih =>
  rw [List.replicate_succ] at ih
  rw [List.replicate_succ,List.replicate_succ]
  show ("rest" : Str) ++ s ++ Str.join s (("rest" : Str) :: List.replicate n "rest") = _
  rw [ih]
  rfl
theorem rj_len {s:Str} (hs:s.length = 1):∀ n,(rj s n).length = 5 * n + 4
 | 0=>(by decide +kernel:("rest" : Str).length = 4)
 | n + 1=>by
  have:=rj_len hs n
  show (("rest" : Str) ++ s ++ rj s n).length = _
  rw [str_len_app,str_len_app,this,hs,show ("rest" : Str).length = 4 by decide +kernel]
  omega
theorem rj_sh {s:Str} (hs:mkB s = true):∀ n,Sh (rj s n) (wsR s n)
 | 0=>Sh.wd (x:= "rest") (by decide +kernel)
 | n + 1=>((Sh.wd (x:= "rest") (by decide +kernel)).b (ShB.mark hs)).sh (rj_sh hs n)
theorem head_sh:ShM "in;out;" ["in", ";", "out", ";"]:=by
 have h:=((((Sh.wd (x:= "in") (by decide +kernel)).b (ShB.mark (m:= ";") (by decide +kernel))).sh (Sh.wd (x:= "out") (by decide +kernel))).b (ShB.mark (m:= ";") (by decide +kernel)))
 rw [show ((("in" : Str) ++ ";") ++ "out") ++ ";" = "in;out;" by decide +kernel] at h
 exact h
theorem mark_len:∀ s∈([";", "|"]:List Str),s.length = 1∧mkB s = true:=by decide +kernel
theorem many_bad {K:PySem.W.Frag} {H:Hp} {s:Str} (hs:s∈([";", "|"]:List Str)) {n:Nat} (h1:99≤n) (h2:n≤578):NoT K H (.str (("in;out;" : Str) ++ rj s n)):=by
 obtain ⟨m1,m2⟩:=mark_len s hs
 have S:=head_sh.sh (rj_sh m2 n)
 have e:wordsT (("in;out;" : Str) ++ rj s n) = allW [] [] (wsR s n):=S.words
 have l:(("in;out;" : Str) ++ rj s n).length≤3000:=by rw [str_len_app,rj_len m1,show ("in;out;" : Str).length = 7 by decide +kernel]; omega
 obtain ⟨t,w,c⟩:∃ t,Wd t (wsR s n) 0∧cnt t = 2 * n + 1:=by
  simp only [List.mem_cons,List.not_mem_nil,or_false] at hs
  rcases hs with rfl | rfl
  ·exact ⟨_,(trN_then n).1,trN_cnt _ n⟩
  ·exact ⟨_,trN_bes n,trN_cnt _ n⟩
 refine .many l S.okc ?_ [] [] 0 t (by decide) ?_ (by omega) (by omega)
 ·rw [e,allW_most nml0.1 nml0.1 w.op]; decide
 ·rw [e]; exact allW_whole nml0.1 nml0.1 (by decide) (by decide) w
theorem blanks (n:Int):∀ c∈(Txt.mul " " n).cps.toList,c = 32:=by
 intro c hc
 rw [mul_cps] at hc
 obtain ⟨l,hl,hc⟩:=List.mem_flatten.mp hc
 have:=List.eq_of_mem_replicate hl
 rw [this,show (" " : Str).cps.toList = [32] by decide +kernel] at hc
 exact List.mem_singleton.mp hc
theorem good_of {x:Str} {ins ws:List Str} {d:Nat} {t:Nd} (l:x.length≤3000) (ok:x.cps.toList.all okC = true) (e:wordsT x = allW ins [] ws) (m:mostO (allW ins [] ws)≤16) (h:PBlock d ws t []) (hd:d≤20) (n:NmL ins) (c:cnt t≤60) (nd:(ins ++ ([]:List Str)).Nodup) (ck:chk t (ins ++ ([]:List Str)) [] = true):GoodT x ins :=
 .mk l ok (by rw [e]; exact m) [] d t hd (by rw [e]; exact ⟨⟨ws,rfl,h⟩,n.1,nml0.1,n.2,by decide⟩) c nd ck
theorem many_of {K:PySem.W.Frag} {H:Hp} {x:Str} {ins ws:List Str} {d:Nat} {t:Nd} (l:x.length≤3000) (ok:x.cps.toList.all okC = true) (e:wordsT x = allW ins [] ws) (m:mostO (allW ins [] ws)≤16) (h:PBlock d ws t []) (hd:d≤20) (n:NmL ins) (c:60 < cnt t) (c2:cnt t≤1200):NoT K H (.str x) :=
 .many l ok (by rw [e]; exact m) ins [] d t hd (by rw [e]; exact ⟨⟨ws,rfl,h⟩,n.1,nml0.1,n.2,by decide⟩) c c2
def itm3:List Str:=["rest", "{rest}", "rest|rest"]
theorem blk_rest (d:Nat):PBlock d ["rest"] rest1 []:=.mk (.mk (.bare (by decide +kernel)) (.done (by decide +kernel))) (.done (by decide +kernel))
theorem itm_blk:∀ y∈itm3,∃ ws t,okTB (("in;out;" : Str) ++ y) (allW [] [] ws) = true∧mostO (allW [] [] ws)≤16∧PBlock 1 ws t []∧cnt t≤60∧chk t ([] ++ []) [] = true∧(("in;out;" : Str) ++ y).length≤16:=by
 intro y hy
 unfold itm3 at hy
 simp only [List.mem_cons,List.not_mem_nil,or_false] at hy
 rcases hy with rfl | rfl | rfl
 ·exact ⟨["rest"],rest1,by decide +kernel,by decide +kernel,blk_rest 1,by decide +kernel,by decide +kernel,by decide +kernel⟩
 ·exact ⟨["{", "rest", "}"],rest1,by decide +kernel,by decide +kernel,.mk (.mk (.brace rfl (.mk (.mk (.mk (.bare (by decide +kernel)) (.done (by decide +kernel))) (.done (by decide +kernel))))) (.done (by decide +kernel))) (.done (by decide +kernel)),by decide +kernel,by decide +kernel,by decide +kernel⟩
 ·exact ⟨["rest", "|", "rest"],.t [.s "beside", rest1,rest1],by decide +kernel,by decide +kernel,.mk (.mk (.bare (by decide +kernel)) (.done (by decide +kernel))) (.more (.mk (.bare (by decide +kernel)) (.done (by decide +kernel))) (.done (by decide +kernel))),by decide +kernel,by decide +kernel,by decide +kernel⟩
theorem pad_len {x:Str} {m:Int} (hm:0≤m) (hx:x.length≤16):((x ++ Txt.mul " " (3000 + m - (x.length:Int))).length:Int) = 3000 + m:=by
 rw [str_len_app,mul_len,lenB]
 omega
theorem pad_good {y:Str} (hy:y∈itm3):GoodT ((("in;out;" : Str) ++ y) ++ Txt.mul " " (3000 + 0 - (((("in;out;" : Str) ++ y).length:Nat):Int))) []:=by
 obtain ⟨ws,t,h1,h2,h3,h4,h5,h6⟩:=itm_blk y hy
 have o:=okT_of h1
 have l:=pad_len (m:=0) (by decide) h6
 refine good_of (ws:=ws) (d:=1) (by omega) (ok_app o.ok (List.all_eq_true.mpr fun c hc=>by rw [blanks _ c hc]; decide +kernel)) (by rw [words_pad (blanks _)]; exact o.w) h2 h3 (by decide) nml0 h4 (by decide) h5
theorem pad_long {K:PySem.W.Frag} {H:Hp} {y:Str} (hy:y∈itm3):NoT K H (.str ((("in;out;" : Str) ++ y) ++ Txt.mul " " (3000 + 1 - (((("in;out;" : Str) ++ y).length:Nat):Int)))):=by
 obtain ⟨ws,t,h1,h2,h3,h4,h5,h6⟩:=itm_blk y hy
 have l:=pad_len (m:=1) (by decide) h6
 exact .long (by omega) (by omega)
abbrev if1:Nd:=.t [.s "if", .s "b", rest1,.t [.s "nothing"]]
def tG:Nat→Nd
 | 0=>if1
 | n + 1=>.t [.s "then", tG n,if1]
def wG:Nat→List Str
 | 0=>["if", "b", "{", "rest", "}"]
 | n + 1=>wG n ++ (";" : Str) :: ["if", "b", "{", "rest", "}"]
theorem wd_if:Wd if1 ["if", "b", "{", "rest", "}"] 1:=.iff1 (ws:=["rest"]) n_b wd_rest
theorem tG_wd:∀ n,Wd (tG n) (wG n) 1∧topR (tG n)
 | 0=>⟨wd_if,.inl (by decide +kernel)⟩
 | n + 1=>by
  obtain ⟨w,h⟩:=tG_wd n
  exact ⟨Wd.thn (WdI.no w h.i) (WdI.no wd_if (.inl (by decide +kernel))),.inr rfl⟩
def agW (l:List Str):List Str:=("again" : Str) :: ("{" : Str) :: (l ++ [("}" : Str)])
def hlW:List Str:=[";", "halt"]
def haW:List Str:=[";", "again", "{", "halt", "}"]
theorem agW_wd {t:Nd} {ws:List Str} {b:Nat} (w:Wd t ws b):Wd (.t [.s "again", t]) (agW ws) (b + 1):=.again w
def txA (m:Int):Str:=(("in b;out;" : Str) ++ Txt.mul "again{" (1 + m)) ++ Txt.join ";" (List.replicate 15 ("if b{rest}" : Str)) ++ Txt.mul "}" (1 + m)
theorem txA0:GoodT (txA 0) ["b"]:=by
 have o:=okT_of (x:=txA 0) (ws:=allW ["b"] [] (agW (wG 14))) (by decide +kernel)
 exact good_of o.l o.ok o.w (by decide +kernel) (Wd.block (agW_wd (tG_wd 14).1)) (by decide) nmlb (by decide +kernel) (by decide +kernel) (by decide +kernel)
theorem txA1 {K:PySem.W.Frag} {H:Hp}:NoT K H (.str (txA 1)):=by
 have o:=okT_of (x:=txA 1) (ws:=allW ["b"] [] (agW (agW (wG 14)))) (by decide +kernel)
 exact many_of o.l o.ok o.w (by decide +kernel) (Wd.block (agW_wd (agW_wd (tG_wd 14).1))) (by decide) nmlb (by decide +kernel) (by decide +kernel)
def txB (s e:Str):Str:=(("in;out;again{" : Str) ++ Txt.join s (List.replicate 29 ("rest" : Str))) ++ "}" ++ e
theorem wd_trN {s:Str} (hs:s∈([";", "|"]:List Str)):∃ w:Str,(w = "then" ∨ w = "beside")∧Wd (trN w 28) (wsR s 28) 0:=by
 simp only [List.mem_cons,List.not_mem_nil,or_false] at hs
 rcases hs with rfl | rfl
 ·exact ⟨"then", .inl rfl,(trN_then 28).1⟩
 ·exact ⟨"beside", .inr rfl,trN_bes 28⟩
theorem txB_ok:∀ s∈([";", "|"]:List Str),okTB (txB s ";halt") (allW [] [] (agW (wsR s 28) ++ hlW)) = true∧okTB (txB s ";again{halt}") (allW [] [] (agW (wsR s 28) ++ haW)) = true∧mostO (allW [] [] (agW (wsR s 28) ++ hlW))≤16∧mostO (allW [] [] (agW (wsR s 28) ++ haW))≤16:=by decide +kernel
theorem trN_ck:∀ w∈(["then", "beside"]:List Str),chk (.t [.s "then", .t [.s "again", trN w 28],halt1]) ([] ++ []) [] = true:=by decide +kernel
theorem txB0 {s:Str} (hs:s∈([";", "|"]:List Str)):GoodT (txB s ";halt") []:=by
 obtain ⟨k1,_,k3,_⟩:=txB_ok s hs
 obtain ⟨w,hw,W⟩:=wd_trN hs
 have o:=okT_of k1
 refine good_of o.l o.ok o.w k3 (d:=1) (t:=.t [.s "then", .t [.s "again", trN w 28],halt1]) (Wd.block (b:=1) (Wd.thn (ws:=agW (wsR s 28)) (ws2:=["halt"]) (WdI.no (agW_wd W) (.inl (nj (by decide +kernel)))) (WdI.no wd_halt (.inl (by decide +kernel))))) (by decide) nml0 ?_ (by decide) (trN_ck w (by simpa using hw))
 rw [cnt_two,cnt_t,cntL_cons,cntL_cons,cnt_s,trN_cnt]
 decide +kernel
theorem txB1 {K:PySem.W.Frag} {H:Hp} {s:Str} (hs:s∈([";", "|"]:List Str)):NoT K H (.str (txB s ";again{halt}")):=by
 obtain ⟨_,k2,_,k4⟩:=txB_ok s hs
 obtain ⟨w,hw,W⟩:=wd_trN hs
 have o:=okT_of k2
 have c:cnt (.t [.s "then", .t [.s "again", trN w 28],.t [.s "again", halt1]]) = 61:=by
  rw [cnt_two,cnt_t,cntL_cons,cntL_cons,cnt_s,trN_cnt]
  decide +kernel
 exact many_of o.l o.ok o.w k4 (d:=1) (t:=.t [.s "then", .t [.s "again", trN w 28],.t [.s "again", halt1]]) (Wd.block (b:=1) (Wd.thn (ws:=agW (wsR s 28)) (ws2:=agW ["halt"]) (WdI.no (agW_wd W) (.inl (nj (by decide +kernel)))) (WdI.no (agW_wd wd_halt) (.inl (by decide +kernel))))) (by decide) nml0 (by rw [c]; decide) (by rw [c]; decide)
def txC (m:Int):Str:=(("in;out;rest|" : Str) ++ Txt.mul "{" (16 + m)) ++ "rest" ++ Txt.mul "}" (16 + m)
def brN (n:Nat):List Str:=List.replicate n ("{" : Str) ++ ("rest" : Str) :: List.replicate n ("}" : Str)
theorem brN_part:∀ (n:Nat) (r:List Str),PPart n (brN n ++ r) rest1 r
 | 0,r=>.bare (by decide +kernel)
 | n + 1,r=>by
  have e:brN (n + 1) ++ r = ("{" : Str) :: (brN n ++ ("}" : Str) :: r):=by
   unfold brN
   rw [List.replicate_succ,List.replicate_succ']
   simp
  rw [e]
  refine .brace rfl (.mk (.mk (.mk (brN_part n _) (.done ?_)) (.done ?_)))
  ·show ¬ (("}" : Str) = ";"); decide +kernel
  ·show ¬ (("}" : Str) = "|"); decide +kernel
theorem txC0:GoodT (txC 0) []:=by
 have o:=okT_of (x:=txC 0) (ws:=allW [] [] (("rest" : Str) :: ("|" : Str) :: brN 16)) (by decide +kernel)
 have h:PBlock 16 (("rest" : Str) :: ("|" : Str) :: brN 16) (.t [.s "beside", rest1,rest1]) []:=by
  have p:=brN_part 16 []
  rw [List.append_nil] at p
  exact .mk (.mk (.bare (by decide +kernel)) (.done (by decide +kernel))) (.more (.mk p (.done (by decide +kernel))) (.done (by decide +kernel)))
 exact good_of o.l o.ok o.w (by decide +kernel) h (by decide) nml0 (by decide +kernel) (by decide) (by decide +kernel)
theorem sh_many {m:Str} (hm:mkB m = true):∀ n,ShM (Txt.mul m (n:Nat)) (List.replicate n m):=by
 obtain ⟨c,e,im,oc,_⟩:=mk_ok hm
 have k:∀ n y,tok [] ((List.replicate n [c]).flatten ++ y) = (List.replicate n [c]) ++ tok [] y:=by
  intro n y
  induction n with
  | zero=>rfl
  | succ n ih=>rw [List.replicate_succ,List.flatten_cons,List.append_assoc,tok_mark im,ih]; rfl
 intro n
 refine ⟨fun y=>?_,?_⟩
 ·rw [mul_cps,e,Int.toNat_natCast,k,List.map_replicate,e]
 ·rw [mul_cps,e,List.all_eq_true]
  intro d hd
  obtain ⟨l,hl,hd⟩:=List.mem_flatten.mp hd
  rw [List.eq_of_mem_replicate hl] at hd
  rw [List.mem_singleton.mp hd]
  exact oc
theorem bal_open:∀ n,bal (List.replicate n ("{" : Str)) = n
 | 0=>rfl
 | n + 1=>by
  have:=bal_open n
  rw [List.replicate_succ]
  show 1 + bal _ = _
  rw [this]; omega
def hdC:List Str:=["in", ";", "out", ";", "rest", "|"]
theorem txC_open {K:PySem.W.Frag} {H:Hp} {m:Nat} (h1:1≤m) (h2:m≤1400):NoT K H (.str (txC m)):=by
 have hp:ShM "in;out;rest|" hdC:=by
  have h:=(head_sh.sh (Sh.wd (x:= "rest") (by decide +kernel))).b (ShB.mark (m:= "|") (by decide +kernel))
  rw [show (("in;out;" : Str) ++ "rest") ++ "|" = "in;out;rest|" by decide +kernel] at h
  exact h
 have S:=((hp.sh (sh_many (m:= "{") (by decide +kernel) (16 + m)).s))
 have e0:((16 + m:Nat):Int) = 16 + (m:Int):=by omega
 rw [e0] at S
 obtain ⟨done,cur,h,e,ok⟩:=S
 have w:∃ r,wordsT (txC m) = (hdC ++ List.replicate (16 + m) ("{" : Str)) ++ r:=by
  have S2:ShM (("in;out;rest|" : Str) ++ Txt.mul "{" (16 + (m:Int))) (hdC ++ List.replicate (16 + m) ("{" : Str)):=by
   have:=sh_many (m:= "{") (by decide +kernel) (16 + m)
   rw [e0] at this
   exact ⟨fun y=>by rw [cps_app,List.append_assoc,hp.h,this.h,List.map_append,List.append_assoc],ok_app hp.ok this.ok⟩
  have T:=((sh_many (m:= "}") (by decide +kernel) (16 + m)))
  rw [e0] at T
  have S3:=(S2.sh (Sh.wd (x:= "rest") (by decide +kernel)))
  obtain ⟨d3,c3,h3,e3,ok3⟩:=S3
  have ww:=words_marks (txC m)
  have hx:tok [] (txC m).cps.toList = ((hdC ++ List.replicate (16 + m) ("{" : Str)).map fun z=>z.cps.toList) ++ tok [] (("rest" : Str) ++ Txt.mul "}" (16 + (m:Int))).cps.toList:=by
   unfold txC
   rw [str_assoc,cps_app,S2.h]
  have hx:=ww.trans hx
  have hl:((hdC ++ List.replicate (16 + m) ("{" : Str)).map fun z:Str=>z.cps.toList) = ((wordsT (txC m)).take (22 + m)).map fun z=>z.cps.toList:=by
   rw [List.map_take]
   have:(wordsT (txC m)).map (fun z=>z.cps.toList) = _:=hx
   rw [this,List.take_left' (by rw [List.length_map,List.length_append,List.length_replicate]; show 6 + (16 + m) = 22 + m; omega)]
  have hl:=(List.map_inj_right (fun a b hab=>Str.ext' (Array.toList_inj.mp hab))).mp hl
  exact ⟨(wordsT (txC m)).drop (22 + m),by rw [hl,List.take_append_drop]⟩
 obtain ⟨r,w⟩:=w
 have l:(txC m).length≤3000:=by
  unfold txC
  rw [str_len_app,str_len_app,str_len_app,mul_len,mul_len,show ("in;out;rest|" : Str).length = 12 by decide +kernel,show ("{" : Str).length = 1 by decide +kernel,show ("}" : Str).length = 1 by decide +kernel,show ("rest" : Str).length = 4 by decide +kernel]
  omega
 refine .bad l (.inr (.inl ?_))
 have:=(most_ge (wordsT (txC m)) 0 0 (Int.le_refl _)).2 _ _ w
 rw [bal_app,bal_open,show bal hdC = 0 by decide +kernel] at this
 show 16 < ((wordsT (txC m)).foldl stepO (0,0)).1
 omega
end My
end
section
set_option Elab.async false
set_option linter.all false
set_option maxRecDepth 100000
set_option maxHeartbeats 4000000
namespace L2
open PySem PySem.Spec PyProof.Rows
section
variable {X:Cx}
def rMulS:R2:=fun x y H Q=>∃ i n,x = .str i∧y = .int n∧MulOk i n∧Q (.str (Txt.mul i n)) H
theorem op_mulS:OpR X (binaryOp .Mult) rMulS:=by
 intro pins s σ H x y v u Q I rx ry h
 obtain ⟨i,n,rfl,rfl,ok,q⟩:=h
 obtain ⟨t,rfl⟩:=rx
 obtain ⟨t2,rfl⟩:=ry
 exact SB.mul ok fun t' k=>⟨.str _,H,I.tok _,⟨_,rfl⟩,q⟩
end
section
variable {X:Cx} {a b o:Expr} {ta tb to:TE} {pos apos cpos p1 p2:Pos} {j1 j2:Nat}
def PE1 (X:Cx) (e:Expr) (t:TE):Prop :=
 ∀ (pins:List (Addr× Obj)) (s:Shared) (σ:St) (H:Hp) (Q:VK),Inv X pins σ H s→t σ H Q→wpAny (model X.prog X.w) X.A (eval e X.env) (fun u s'=>1≤s'.toks∧EP X pins σ Q u s') X.xe s
theorem pe1_int {i j}:PE1 X (.Constant (.int i) j pos) (tC (.int i)):=fun _ _ _ H _ I h=>wpAny_Constant_int ⟨Nat.succ_le_succ (Nat.zero_le _),.int i,H,I.tok _,⟨_,rfl⟩,h⟩
theorem binT1 (ha:PE X a ta) (hb:PE1 X b tb) {pins:List (Addr× Obj)} {s:Shared} {σ:St} {H:Hp} {R:V→V→Hp→Prop} (I:Inv X pins σ H s)
  (h:ta σ H fun x H1=>tb σ H1 fun y H2=>R x y H2) {Q:Value→Shared→Prop} {f:Value→Value→Sem Value}
  (hf:∀ v u s2 x y H2,Inv X pins σ H2 s2→RelV x v→RelV y u→R x y H2→wpAny (model X.prog X.w) X.A (f v u) Q X.xe s2) :
  wpAny (model X.prog X.w) X.A (eval a X.env) (fun v s₁=>wpAny (model X.prog X.w) X.A (eval b X.env) (fun u s₂=>wpAny (model X.prog X.w) X.A (f v u) (fun r s'=>1≤s'.toks∧Q r s') X.xe s₂) X.xe s₁) X.xe s:=by
 refine thn (ha pins s σ H _ I h) fun v s1 ⟨x,H1,I1,r1,q1⟩=>?_
 refine thn (hb pins s1 σ H1 _ I1 q1) fun u s2 ⟨t1,y,H2,I2,r2,q2⟩=>?_
 exact wpAny_mono (wpAny_toks_of t1 (hf v u s2 x y H2 I2 r1 r2 q2)) (fun _ _ z=>z) fun _ _ z=>z.2
theorem pe1_op {op:Operator} {r:R2} (ho:OpR X (binaryOp op) r) (ha:PE X a ta) (hb:PE1 X b tb):PE1 X (.BinOp a op b pos) (tOp r ta tb):=by
 intro pins s σ H Q I h
 exact wpAny_BinOp (binT1 ha hb I h fun v u s2 x y H2 I2 rx ry q=>ho pins s2 σ H2 x y v u Q I2 rx ry q)
theorem pe1_ix {r:R2} (hr:IxR X r) (ha:PE X a ta) (hb:PE1 X b tb) (hs:PlainIx b):PE1 X (.Subscript a b pos) (tOp r ta tb):=by
 intro pins s σ H Q I h
 exact Subscript_ (binT1 ha hb I h fun v u s2 x y H2 I2 rx ry q=>hr a b pins s2 σ H2 x y v u Q I2 rx ry q (hs _ _))
def tRepl (to:TE) (y z:Str):TE:=fun σ H Q=>to σ H fun v H1=>∃ x,v = .str x∧x.length≤1000000∧z.length≤14∧(y == z) = false∧Q (.str (Txt.replace x y z)) H1
theorem pe_repl {y z:Str} (ho:PE1 X o to) (hbase:attributeBase o "replace" X.env (eval o X.env) = eval o X.env:=by rfl)
  (hfew:((backTo cpos (starEach [.Constant (.str y) j1 p1,.Constant (.str z) j2 p2] X.env)).all (fun x=>!x.1) && (backToKw cpos (keywordEach [] X.env)).all (fun x=>x.1.isSome)
   && decide (([.Constant (.str y) j1 p1,.Constant (.str z) j2 p2]:List Expr).length + ([]:List Keyword).length + (if ([]:List Keyword).isEmpty then 0 else 1) < 30)) = true:=by rfl)
  (hline:(apos.endLine == cpos.line) = true:=by rfl):PE X (.Call (.Attribute o "replace" apos) [.Constant (.str y) j1 p1,.Constant (.str z) j2 p2] [] cpos) (tRepl to y z):=by
 intro pins s σ H Q I h
 refine wpAny_Call_method_late hbase hfew hline rfl (thn (ho pins s σ H _ I h) fun v s1 ⟨t1,v',H1,I1,r1,x,e,lx,lz,hyz,q⟩=>?_)
 subst e
 obtain ⟨tx,rfl⟩:=r1
 refine ⟨"str", "str.replace", F.plainAttrs_str,F.slot_str_replace,F.type_str_replace,typeIs_str _ _ _,fun a e=>(nomatch e),?_⟩
 refine Calls.callWith_builtin rfl (Calls.evalArgs_plain (Calls.spliced_cons (Calls.Constant_str (k:=j1) (pos:=p1) ?_)))
 refine Calls.spliced_cons (Calls.Constant_str (k:=j2) (pos:=p2) ?_)
 refine Calls.spliced_nil ?_
 refine SC.replaceW (x:=x) (y:=y) (z:=z) (u:=s1.toks) (Nat.ne_of_gt t1) (show s1.toks + 1≠0 by omega) (show s1.toks≠s1.toks + 1 by omega) hyz (Nat.le_trans lx (by decide)) lz fun t2 k2=>?_
 exact ⟨.str _,H1,I1.tok _,⟨_,rfl⟩,q⟩
end
section
variable {X:Cx}
theorem pa_s4 {a b c d:Str} {j1 j2 j3 j4:Nat} {p1 p2 p3 p4:Pos} {es:List Expr} {t:TA} (h:PA X es t):PA X (.Constant (.str a) j1 p1 :: .Constant (.str b) j2 p2 :: .Constant (.str c) j3 p3 :: .Constant (.str d) j4 p4 :: es) (tCons (tC (.str a)) (tCons (tC (.str b)) (tCons (tC (.str c)) (tCons (tC (.str d)) t)))) :=
 pa_cons pe_str (pa_cons pe_str (pa_cons pe_str (pa_cons pe_str h)))
end
end L2
end
section
set_option Elab.async false
set_option linter.all false
set_option maxRecDepth 100000
set_option maxHeartbeats 4000000
namespace My
open PySem L2
theorem cut_mid (xs:List V) (i j:Nat):cutV xs (some (i:Int)) (some (j:Int)) = (xs.drop i).take (j - i):=by
 unfold cutV
 rw [HT.sIx_nat,HT.sIx_nat]
 rcases Nat.lt_or_ge xs.length i with h | h
 ·rw [List.drop_eq_nil_of_le (by omega),List.drop_eq_nil_of_le (by omega)]
  simp
 ·rw [Nat.min_eq_left h]
  rcases Nat.lt_or_ge xs.length j with h2 | h2
  ·rw [Nat.min_eq_right (by omega),List.take_of_length_le (by simp),List.take_of_length_le (by simp; omega)]
  ·rw [Nat.min_eq_left h2]
theorem ints_at' {ns:List Int} {i:Nat} {y:V} (h:(ns.map V.int)[i]? = some y):∃ z,ns[i]? = some z∧y = .int z:=by
 rw [List.getElem?_map] at h
 cases e:ns[i]? with
 | none=>rw [e] at h; cases h
 | some z=>rw [e] at h; exact ⟨z,rfl,(Option.some.inj h).symm⟩
theorem row_in {n:Str} (h:n∈nm3):(["send", n]:List Str)∈rowsL∧(["keep", n]:List Str)∈rowsL∧(["await", n]:List Str)∈rowsL∧(["again", "{", "rest", "|", "send", n, "}"]:List Str)∈rowsL∧(["if", n, "{", "rest", "}", "else", "{", "halt", "}"]:List Str)∈rowsL∧∀ w∈(["hold", "watch", "weak", "local"]:List Str),([w,n, "{", "rest", ";", "{", "halt", "}", "}"]:List Str)∈rowsL:=by
 have k:∀ R:List Str,R∈([["send", n],["keep", n],["await", n],["again", "{", "rest", "|", "send", n, "}"],["if", n, "{", "rest", "}", "else", "{", "halt", "}"],["hold", n, "{", "rest", ";", "{", "halt", "}", "}"],["watch", n, "{", "rest", ";", "{", "halt", "}", "}"],["weak", n, "{", "rest", ";", "{", "halt", "}", "}"],["local", n, "{", "rest", ";", "{", "halt", "}", "}"]]:List (List Str))→R∈rowsL:=fun R hR=>List.mem_append_right _ (List.mem_flatMap.mpr ⟨n,h,hR⟩)
 refine ⟨k _ (by simp),k _ (by simp),k _ (by simp),k _ (by simp),k _ (by simp),fun w hw=>k _ ?_⟩
 simp only [List.mem_cons,List.mem_nil_iff,or_false] at hw
 rcases hw with rfl | rfl | rfl | rfl <;> simp
def spMixed:Sp:=fun vs H Q _=>∃ c:Int,vs = [.int c]∧∀ m:Int,0≤m→Q (.int m) H
def spRow:Sp:=fun vs H Q _=>∃ n:Int,vs = [.int n]∧∀ r H' (R:List Str),Same H H'→H r = none→R∈rowsL→H' r = some (.lst (R.map V.str))→Q (.ref r) H'
section
variable {P:Program} {w:World} {K:PySem.W.Frag} {mg:Str→Option Value} {base:Heap}
theorem ok_mixed (F:FunM K mg "_law_mixed" ["_law_cell"] s__law_mixed):Callee P w K mg base 1 "_law_mixed" ["_law_cell"] spMixed:=by
 refine F.ok sc__law_mixed (fun vs H Q E h=>?_) (fun f cdv A outer s H vs Q E hr h=>?_)
 ·obtain ⟨c,rfl,_⟩:=h
  rfl
 obtain ⟨c,rfl,q⟩:=h
 refine ⟨_,(pss_one (ps_ret (pe_op op_mod (pe_op op_mul (pe_op op_mul (pe_op op_add (pe_op op_mod (pv 0) pe_int) pe_int) pe_int) pe_int) pe_int))),?_⟩
 refine ⟨_,rfl,_,_,rfl,rfl,(by show (0:Int) < 2147483647; decide),_,_,rfl,rfl,_,_,rfl,rfl,.inr ⟨by decide,by decide⟩,_,_,rfl,rfl,.inr ⟨by decide,by decide⟩,_,_,rfl,rfl,(by show (0:Int) < 2147483629; decide),?_⟩
 exact q _ (Int.emod_nonneg _ (by decide))
set_option maxHeartbeats 16000000 in
theorem ok_lrow (F:FunM K mg "_law_row" ["_law_number"] s__law_row):Callee P w K mg base 1 "_law_row" ["_law_number"] spRow:=by
 refine F.ok sc__law_row (fun vs H Q E h=>?_) (fun f cdv A outer s H vs Q E hr h=>?_)
 ·obtain ⟨n,rfl,_⟩:=h; rfl
 obtain ⟨n,rfl,q⟩:=h
 refine ⟨_,(pss_cons (ps_set (i:=1) sc__law_row.nd rfl (Or.inl rfl) (pe_ix ix_list (pe_lst (pa_cons pe_str (pa_cons pe_str (pa_cons pe_str pa_nil)))) (pe_op op_mod (pe_op op_fdiv (pv 0) pe_int) pe_int) (fun _ _=>rfl)))
  (pss_cons (ps_set (i:=2) sc__law_row.nd rfl (Or.inl rfl) (pe_op op_mod (pv 0) pe_int))
  (pss_cons (ps_if (pt_cmpR op_lt (pv 2) pe_int (nomark _))
   (pss_one (ps_ret (pe_lst (pa_cons (pe_ix ix_list (pe_lst (pa_cons pe_str (pa_cons pe_str (pa_cons pe_str pa_nil)))) (pv 2) (fun _ _=>rfl)) pa_nil))))
   pss_nil)
  (pss_cons (ps_if (pt_cmpR op_lt (pv 2) pe_int (nomark _))
   (pss_one (ps_ret (pe_lst (pa_cons (pe_ix ix_list (pe_lst (pa_cons pe_str (pa_cons pe_str (pa_cons pe_str pa_nil)))) (pe_op op_sub (pv 2) pe_int) (fun _ _=>rfl)) (pa_cons (pv 1) pa_nil)))))
   pss_nil)
  (pss_cons (ps_if (pt_cmpR op_eq (pv 2) pe_int (nomark _))
   (pss_one (ps_ret (pe_lst (pa_s4 (pa_cons pe_str (pa_cons (pv 1) (pa_cons pe_str pa_nil)))))))
   pss_nil)
  (pss_cons (ps_if (pt_cmpR op_eq (pv 2) pe_int (nomark _))
   (pss_one (ps_ret (pe_lst (pa_cons pe_str (pa_cons (pv 1) (pa_s4 (pa_cons pe_str (pa_cons pe_str (pa_cons pe_str pa_nil)))))))))
   pss_nil)
  (pss_cons (ps_if (pt_cmpR op_eq (pv 2) pe_int (nomark _))
   (pss_one (ps_ret (pe_lst (pa_s4 (pa_cons pe_str (pa_cons pe_str pa_nil))))))
   pss_nil)
  (pss_one (ps_ret (pe_lst (pa_cons (pe_ix ix_list (pe_lst (pa_s4 pa_nil)) (pe_op op_mod (pe_op op_fdiv (pv 0) pe_int) pe_int) (fun _ _=>rfl)) (pa_cons (pv 1) (pa_s4 (pa_cons pe_str (pa_cons pe_str (pa_cons pe_str pa_nil)))))))))))))))),?_⟩
 have b1:0≤n / 11 % 3:=Int.emod_nonneg _ (by decide)
 have b2:n / 11 % 3 < 3:=Int.emod_lt_of_pos _ (by decide)
 refine ⟨(by show 3≤sizeLine; decide),fun l0 h0=>⟨_,rfl,_,_,rfl,rfl,⟨by decide,by decide⟩,_,_,rfl,rfl,(by show (0:Int) < 3; decide),l0,_,_,_,rfl,rfl,SqL.of upd_same,atI_map (ws:=nm3) b1 b2,?_⟩⟩
 have hnm:=getD_mem (ws:=nm3) b1 b2
 generalize nm3.getD (n / 11 % 3).toNat "" = nm at hnm ⊢
 have g0:=same_new h0 (.lst [.str "bb", .str "cc", .str "restb"])
 generalize (upd H l0 (.lst [.str "bb", .str "cc", .str "restb"])) = H1 at g0 ⊢
 obtain ⟨i1,i2,i3,i4,i5,i6⟩:=row_in hnm
 have new:∀ (R:List Str) (H2:Hp) (r:Addr),Same H1 H2→H2 r = none→R∈rowsL→Q (.ref r) (upd H2 r (.lst (R.map V.str))):=fun R H2 r g hr hR=>q r _ R (g0.trans (g.trans (same_new hr _))) ((g0.trans g).free hr) hR upd_same
 have c1:0≤n % 11:=Int.emod_nonneg _ (by decide)
 have c2:n % 11 < 11:=Int.emod_lt_of_pos _ (by decide)
 refine ⟨_,rfl,_,_,rfl,rfl,(by show (0:Int) < 11; decide),?_⟩
 refine ⟨_,rfl,_,_,rfl,rfl,_,rfl,ite2 (fun c=>?_) fun c=>?_⟩
 ·have c:n % 11 < 3:=of_decide_eq_true c
  refine ⟨(by show 3≤sizeLine; decide),fun l1 h1=>⟨_,rfl,l1,_,_,_,rfl,rfl,SqL.of upd_same,atI_map (ws:=["nothing", "rest", "halt"]) c1 c,(by show 1≤sizeLine; decide),fun r hr=>?_⟩⟩
  have hm:=getD_mem (ws:=["nothing", "rest", "halt"]) c1 c
  refine new [_] _ r (same_new h1 _) hr ?_
  simp only [List.mem_cons,List.mem_nil_iff,or_false] at hm
  rcases hm with z | z | z <;> rw [z] <;> decide
 have c:¬ n % 11 < 3:=fun z=>c (decide_eq_true z)
 refine ⟨_,rfl,_,_,rfl,rfl,_,rfl,ite2 (fun d=>?_) fun d=>?_⟩
 ·have d:n % 11 < 6:=of_decide_eq_true d
  have d1:0≤n % 11 - 3:=by omega
  have d2:n % 11 - 3 < 3:=by omega
  refine ⟨(by show 3≤sizeLine; decide),fun l1 h1=>⟨_,rfl,_,_,rfl,rfl,l1,_,_,_,rfl,rfl,SqL.of upd_same,atI_map (ws:=["send", "keep", "await"]) d1 d2,_,rfl,(by show 2≤sizeLine; decide),fun r hr=>?_⟩⟩
  have hm:=getD_mem (ws:=["send", "keep", "await"]) d1 d2
  refine new [_,nm] _ r (same_new h1 _) hr ?_
  simp only [List.mem_cons,List.mem_nil_iff,or_false] at hm
  rcases hm with z | z | z <;> rw [z] <;> assumption
 refine ⟨_,rfl,rfl,_,rfl,ite2 (fun e=>⟨_,rfl,(by show 7≤sizeLine; decide),fun r hr=>new _ _ r (Same.refl _) hr i4⟩) fun e=>?_⟩
 refine ⟨_,rfl,rfl,_,rfl,ite2 (fun e=>⟨_,rfl,(by show 9≤sizeLine; decide),fun r hr=>new _ _ r (Same.refl _) hr i5⟩) fun e=>?_⟩
 refine ⟨_,rfl,rfl,_,rfl,ite2 (fun e=>⟨(by show 6≤sizeLine; decide),fun r hr=>new ["trap", "dd", "{", "exit", "dd", "}"] _ r (Same.refl _) hr (by decide)⟩) fun e=>?_⟩
 have w1:0≤n / 33 % 4:=Int.emod_nonneg _ (by decide)
 have w2:n / 33 % 4 < 4:=Int.emod_lt_of_pos _ (by decide)
 refine ⟨(by show 4≤sizeLine; decide),fun l1 h1=>⟨_,rfl,_,_,rfl,rfl,⟨by decide,by decide⟩,_,_,rfl,rfl,(by show (0:Int) < 4; decide),l1,_,_,_,rfl,rfl,SqL.of upd_same,atI_map (ws:=["hold", "watch", "weak", "local"]) w1 w2,_,rfl,(by show 9≤sizeLine; decide),fun r hr=>?_⟩⟩
 exact new [_,nm, "{", "rest", ";", "{", "halt", "}", "}"] _ r (same_new h1 _) hr (i6 _ (getD_mem (ws:=["hold", "watch", "weak", "local"]) w1 w2))
theorem rows_len:∀ R∈rowsL,R.length≤9∧∀ y∈R,okWd y = true:=by decide +kernel
theorem hdr_ok:∀ y∈hdr,okWd y = true:=by decide +kernel
theorem wsg_of {B:List Str} (h:∀ y∈B,okWd y = true) (l:B.length≤120):WsG (hdr ++ B):=⟨by simp [hdr],fun y hy=>(List.mem_append.mp hy).elim (hdr_ok y) (h y),by rw [List.length_append,show hdr.length = 7 from rfl]; omega⟩
def spWords (K:PySem.W.Frag):Sp:=fun vs H Q _=>∃ (a:Addr) (ns:List Int),vs = [.ref a]∧SqL K H a (ns.map V.int)∧∀ r H' (B:List Str),Same H H'→H r = none→GdB B→(∃ i,i≤12∧GT B i)→WsG (hdr ++ B)→H' r = some (.lst ((hdr ++ B).map V.str))→Q (.ref r) H'
set_option maxHeartbeats 16000000 in
theorem ok_lwords (F:FunM K mg "_law_words" ["_law_script"] s__law_words) (T:Txt mg) (C__law_mixed:Callee P w K mg base 1 "_law_mixed" ["_law_cell"] spMixed) (C__law_row:Callee P w K mg base 1 "_law_row" ["_law_number"] spRow):Callee P w K mg base 2 "_law_words" ["_law_script"] (spWords K):=by
 refine F.ok sc__law_words (fun vs H Q E h=>?_) (fun f cdv A outer s H vs Q E hr h=>?_)
 ·obtain ⟨a,ns,rfl,_⟩:=h; rfl
 obtain ⟨a,ns,rfl,hS,q⟩:=h
 refine ⟨_,(pss_cons (ps_set (i:=1) sc__law_words.nd rfl (Or.inl rfl) (pe_lst (pa_s4 (pa_cons pe_str (pa_cons pe_str (pa_cons pe_str pa_nil))))))
  (pss_cons (ps_for PassesOwn.never rfl (pi_enum rfl T.n_enumerate (pa_cons (pe_slice sl_list (pv 0) (po_some pe_int) (po_some pe_int)) pa_nil)) (pg_tup rfl (pgs_cons (pg_name (i:=2) sc__law_words.nd rfl (Or.inl rfl)) (pgs_cons (pg_name (i:=3) sc__law_words.nd rfl (Or.inl rfl)) pgs_nil)))
   (pss_cons (ps_set (i:=4) sc__law_words.nd rfl (Or.inl rfl) (pe_callC C__law_mixed hr rfl pass0 (pa_cons (pv 3) pa_nil)))
  (pss_cons (ps_if (pt_cmpR op_gt (pv 2) pe_int (nomark _))
   (pss_one (ps_expr (pe_bm PySem.F.plainAttrs_list PySem.F.slot_list_append PySem.F.type_list_append mt_append (pv 1) (pa_cons (pe_ix ix_list (pe_lst (pa_cons pe_str (pa_cons pe_str pa_nil))) (pe_op op_mod (pe_op op_fdiv (pv 4) pe_int) pe_int) (fun _ _=>rfl)) pa_nil))))
   pss_nil)
  (pss_one (ps_set (i:=1) sc__law_words.nd rfl (Or.inl rfl) (pe_op op_cat (pv 1) (pe_callC C__law_row hr rfl pass0 (pa_cons (pv 4) pa_nil))))))))
  (pss_cons (ps_if (pt_cmpR op_eq (pe_callB call_lenK rfl T.n_len PySem.boot_len (pa_cons (pv 1) pa_nil)) pe_int (nomark _))
   (pss_one (ps_expr (pe_bm PySem.F.plainAttrs_list PySem.F.slot_list_append PySem.F.type_list_append mt_append (pv 1) (pa_cons pe_str pa_nil))))
   pss_nil)
  (pss_one (ps_ret (pv 1)))))),?_⟩
 refine ⟨(by show 7≤sizeLine; decide),fun wa0 h0=>?_⟩
 have g0:=same_new h0 (.lst [.str "in", .str "bb", .str ";", .str "out", .str "cc", .str "restb", .str ";"])
 refine ⟨_,rfl,_,rfl,_,rfl,a,_,rfl,g0.seq hS,fun cb hcb=>?_⟩
 obtain ⟨ms,ems,lms⟩:∃ ms:List Int,cutV (ns.map V.int) (some 3) (some 15) = ms.map V.int∧ms.length≤12:=⟨(ns.drop 3).take 12,by rw [show ((3:Int)) = ((3:Nat):Int) from rfl,show ((15:Int)) = ((15:Nat):Int) from rfl,cut_mid,List.map_take,List.map_drop],by rw [List.length_take]; omega⟩
 obtain ⟨g1,e1,e2⟩:=new2 (a:=.lst [.str "in", .str "bb", .str ";", .str "out", .str "cc", .str "restb", .str ";"]) (b:=.lst (cutV (ns.map V.int) (some 3) (some 15))) h0 hcb
 replace e2:=e2.trans (congrArg (fun x=>some (HO.lst x)) ems)
 have nwc:cb≠wa0:=fun z=>by rw [z,upd_same] at hcb; cases hcb
 have hl:∀ B:List Str,((hdr ++ B).map V.str).length = 7 + B.length:=fun B=>by rw [List.length_map,List.length_append]; rfl
 generalize (upd (upd H wa0 (.lst [.str "in", .str "bb", .str ";", .str "out", .str "cc", .str "restb", .str ";"])) cb (.lst (cutV (ns.map V.int) (some 3) (some 15)))) = H1 at g1 e1 e2 ⊢
 have e1:H1 wa0 = some (.lst (hdr.map V.str)):=e1
 refine ⟨cb,rfl,⟨_,SqL.of e2⟩,for_enum (K:=K) (l:=cb) (xs:=ms.map V.int) (fun i σ H'=>∃ (wa:Addr) (B:List Str) (x2 x3 x4:Option V),σ = [some (.ref a),some (.ref wa),x2,x3,x4]∧Same H1 H'∧H' wa = some (.lst ((hdr ++ B).map V.str))∧B.length≤10 * i∧(∀ y∈B,okWd y = true)∧((i = 0∧wa = wa0∧B = [])∨(0 < i∧H1 wa = none∧GdB B∧GT B i))) ⟨wa0,[],none,none,none,rfl,Same.refl _,by rw [List.append_nil]; exact e1,Nat.le_refl _,(fun y hy=>by cases hy),.inl ⟨rfl,rfl,rfl⟩⟩ (fun i σ H' _ ⟨_,_,_,_,_,_,g,_⟩=>SqL.of (g _ _ e2)) ?_ ?_⟩
 ·rintro i y Tz σ H2 hi ⟨wa,B,x2,x3,x4,rfl,g2,ew,lB,nB,hB⟩ hT
  have hil:i < (ms.map V.int).length:=(List.getElem?_eq_some_iff.mp hi).1
  rw [List.length_map] at hil
  obtain ⟨z,_,rfl⟩:=ints_at' hi
  have kT:=same_new hT (.tup [.int i,.int z])
  have g3:=g2.trans kT
  have ew3:=kT _ _ ew
  refine ⟨Tz,_,rfl,SqT.of upd_same,rfl,_,_,rfl,_,_,rfl,rfl,?_⟩
  generalize (upd H2 Tz (.tup [.int i,.int z])) = H3 at g3 ew3 ⊢
  refine ⟨_,rfl,z,rfl,fun m hm=>?_⟩
  refine ⟨_,rfl,_,_,rfl,rfl,_,rfl,ite2 (fun c=>?_) fun c=>?_⟩
  ·have c:(0:Int) < i:=of_decide_eq_true c
   obtain ⟨_,fw,gB,tB⟩:=hB.resolve_left fun z=>by omega
   have b1:0≤m / 200 % 2:=Int.emod_nonneg _ (by decide)
   have b2:m / 200 % 2 < 2:=Int.emod_lt_of_pos _ (by decide)
   refine ⟨_,rfl,.inl ⟨rfl,_,SqL.of ew3⟩,(by show 2≤sizeLine; decide),fun l2 h2=>⟨_,rfl,_,_,rfl,rfl,⟨by decide,by decide⟩,_,_,rfl,rfl,(by show (0:Int) < 2; decide),l2,_,_,_,rfl,rfl,SqL.of upd_same,atI_map (ws:=[";", "|"]) b1 b2,?_⟩⟩
   have hsp:=getD_mem (ws:=[";", "|"]) b1 b2
   generalize ([";", "|"]:List Str).getD (m / 200 % 2).toNat "" = sp at hsp ⊢
   have hsp:sp = ";" ∨ sp = "|" := by simpa using hsp
   have k2:=same_new h2 (.lst (([";", "|"]:List Str).map V.str))
   refine ⟨wa,_,_,rfl,rfl,k2 _ _ ew3,small1000 (by rw [hl]; omega),?_⟩
   have g4:Same H1 (upd (upd H3 l2 (.lst (([";", "|"]:List Str).map V.str))) wa (.lst ((hdr ++ B).map V.str ++ [.str sp]))):=(g3.trans k2).young fw _
   have ew4:(upd (upd H3 l2 (.lst (([";", "|"]:List Str).map V.str))) wa (.lst ((hdr ++ B).map V.str ++ [.str sp]))) wa = some (.lst ((hdr ++ B).map V.str ++ [.str sp])):=upd_same
   refine ⟨_,rfl,_,rfl,m,rfl,fun r H5 R g5 hr hR er=>?_⟩
   obtain ⟨l9,nR⟩:=rows_len R hR
   refine ⟨wa,r,_,_,rfl,rfl,g5 _ _ ew4,er,small (by rw [List.length_append,hl,List.length_map]; show 7 + B.length + 1 + R.length≤1000; omega),fun wn hwn=>?_⟩
   have k6:=same_new hwn (.lst ((hdr ++ B).map V.str ++ [.str sp] ++ R.map V.str))
   refine ⟨wn,B ++ sp :: R,_,_,_,rfl,g4.trans (g5.trans k6),?_,?_,fun y hy=>?_,.inr ⟨by omega,(g4.trans g5).free hwn,gd_more gB hR hsp,gt_more tB hR hsp⟩⟩
   ·rw [upd_same]; simp
   ·rw [List.length_append,List.length_cons]; omega
   ·rcases List.mem_append.mp hy with w | w
    ·exact nB y w
    ·rcases List.mem_cons.mp w with w | w
     ·rw [w]; rcases hsp with rfl | rfl <;> decide +kernel
     ·exact nR y w
  ·have c:¬ (0:Int) < i:=fun z=>c (decide_eq_true z)
   obtain ⟨i0,ewa,eB⟩:=hB.resolve_right fun z=>by omega
   refine ⟨_,rfl,_,rfl,m,rfl,fun r H5 R g5 hr hR er=>?_⟩
   obtain ⟨l9,nR⟩:=rows_len R hR
   refine ⟨wa,r,_,_,rfl,rfl,g5 _ _ ew3,er,small (by rw [hl,List.length_map]; omega),fun wn hwn=>?_⟩
   have k6:=same_new hwn (.lst ((hdr ++ B).map V.str ++ R.map V.str))
   refine ⟨wn,R,_,_,_,rfl,g3.trans (g5.trans k6),?_,by omega,nR,.inr ⟨by omega,(g3.trans g5).free hwn,gd_row hR,i0 ▸ gt_row hR⟩⟩
   rw [upd_same,eB]; simp
 ·rintro σ H2 ⟨wa,B,x2,x3,x4,rfl,g2,ew,lB,nB,hB⟩
  rw [List.length_map] at lB hB
  refine ⟨_,rfl,wa,_,rfl,.inl (SqL.of ew),rfl,_,rfl,?_⟩
  rw [hl]
  rcases hB with ⟨i0,ewa,eB⟩ | ⟨i0,fw,gB,tB⟩
  ·subst eB ewa
   rw [decide_eq_true (show V.int ((7 + ([]:List Str).length:Nat):Int) = V.int 7 from rfl)]
   refine iteT ⟨_,rfl,.inl ⟨rfl,_,SqL.of ew⟩,wa,_,_,rfl,rfl,ew,small1000 (by rw [hl]; decide),?_⟩
   refine ⟨_,rfl,q wa _ ["halt"] ((g1.trans g2).young h0 _) h0 (gd_row (by decide)) ⟨1,by decide,gt_row (by decide +kernel)⟩ (wsg_of (by decide +kernel) (by decide)) ?_⟩
   rw [upd_same]; rfl
  ·have:B≠[]:=gd_ne gB
   have:0 < B.length:=List.length_pos_iff.mpr this
   rw [decide_eq_false (fun z=>by have:=V.int.inj z; omega)]
   exact iteF ⟨_,rfl,q wa _ B (g1.trans g2) (g1.free fw) gB ⟨_,lms,tB⟩ (wsg_of nB (by omega)) ew⟩
end
def spJoined:Sp:=fun vs H Q _=>∃ (a:Addr) (ws:List Str),vs = [.ref a]∧H a = some (.lst (ws.map V.str))∧WsG ws∧Q (.str (joinW ws)) H
def spPlaces:Sp:=fun vs H Q _=>∃ (a b:Addr) (ws L:List Str),vs = [.ref a,.ref b]∧H a = some (.lst (ws.map V.str))∧H b = some (.lst (L.map V.str))∧ws.length≤130∧∀ r,H r = none→Q (.ref r) (upd H r (.lst ((plL ws L).map fun (i:Nat)=>V.int (i:Int))))
def spSpoilt:Sp:=fun vs H Q _=>∃ (a:Addr) (m n:Int) (B:List Str),vs = [.ref a,.int m,.int n]∧H a = some (.lst ((hdr ++ B).map V.str))∧GdB B∧WsG (hdr ++ B)∧0≤m∧m < 5∧∀ x H',Same H H'→x.length≤3000→BadT x→Q (.str x) H'
theorem ix_of {l:List Nat} {n:Int} (h:0 < l.length):∃ i∈l,atI (l.map fun (i:Nat)=>V.int (i:Int)) (n % (l.length:Int)) = some (.int (i:Int)):=by
 have h1:=Int.emod_nonneg n (show (l.length:Int)≠0 by omega)
 have h2:=Int.emod_lt_of_pos n (show (0:Int) < l.length by omega)
 obtain ⟨j,ej⟩:=Int.eq_ofNat_of_zero_le h1
 rw [ej] at h2 ⊢
 have hj:j < l.length:=by omega
 refine ⟨l[j],List.getElem_mem hj,atI_nat ?_⟩
 rw [List.getElem?_map,List.getElem?_eq_getElem hj]
 rfl
section
variable {P:Program} {w:World} {K:PySem.W.Frag} {mg:Str→Option Value} {base:Heap}
theorem ok_joined (F:FunM K mg "_law_joined" ["_law_words_here"] s__law_joined):Callee P w K mg base 1 "_law_joined" ["_law_words_here"] spJoined:=by
 refine F.ok sc__law_joined (fun vs H Q E h=>?_) (fun f cdv A outer s H vs Q E hr h=>?_)
 ·obtain ⟨a,ws,rfl,_⟩:=h; rfl
 obtain ⟨a,ws,rfl,ha,g,q⟩:=h
 refine ⟨_,(pss_one (ps_ret (pe_bm PySem.F.plainAttrs_str PySem.F.slot_str_join PySem.F.type_str_join mt_join pe_str (pa_cons (pv 0) pa_nil)))),?_⟩
 refine ⟨rfl,_,rfl,_,a,ws,rfl,rfl,SqL.of ha,g.ok,?_⟩
 rw [joinW_eq]
 exact q
theorem ok_places (F:FunM K mg "_law_places" ["_law_words_here", "_law_wanted"] s__law_places) (T:Txt mg):Callee P w K mg base 1 "_law_places" ["_law_words_here", "_law_wanted"] spPlaces:=by
 refine F.ok sc__law_places (fun vs H Q E h=>?_) (fun f cdv A outer s H vs Q E hr h=>?_)
 ·obtain ⟨a,b,ws,L,rfl,_⟩:=h; rfl
 obtain ⟨a,b,ws,L,rfl,ha,hb,hl,q⟩:=h
 refine ⟨_,(pss_one (ps_ret (pe_comp (g:=(gName 0)) (tc:=(tTest (tOp (rIn K false) (tOp (rIxL K) (tVar 2) (tVar 0)) (tVar 1)))) (te:=(tVar 0)) ["_law_at"] [("_law_wanted", 1),("_law_words_here", 0)] rfl (compOk (defScope s__law_places) ["_law_words_here", "_law_wanted"] (by decide +kernel)) (pi_range1 rfl T.n_range (pa_cons (pe_callB call_lenK rfl T.n_len PySem.boot_len (pa_cons (pv 0) pa_nil)) pa_nil)) (fun s2 H2 fp cl C=>pg_name (i:=0) (show List.Nodup [("_law_at" : Str),("_law_wanted" : Str),("_law_words_here" : Str)] from by decide +kernel) rfl (Or.inl rfl)) (gkeep_name (by decide)) (fun s2 H2 fp cl C=>pif_one (pt_cmpR op_in_seq (pe_ix ix_list (pv 2) (pv 0) (fun _ _=>rfl)) (pv 1) (by rfl))) (fun s2 H2 fp cl C=>(pv 0))))),?_⟩
 refine ⟨_,rfl,a,_,rfl,.inl (SqL.of ha),_,rfl,?_⟩
 rw [List.length_map]
 refine ⟨by omega,by omega,?_⟩
 dsimp only
 rw [Int.toNat_natCast]
 refine comp_range (fun i ys H'=>H' = H∧ys = ((List.range i).filter fun i=>decide (ws.getD i "" ∈ L)).map fun (i:Nat)=>V.int (i:Int)) ⟨rfl,rfl⟩ (small (by omega)) ?_ ?_
 ·rintro i ys H' N hi ⟨rfl,rfl⟩ hN hyl
  have at1:atI (ws.map V.str) ((0:Int) + (i:Int)) = some (.str (ws.getD i "")):=by
   rw [show (0:Int) + (i:Int) = (i:Int) by omega]
   exact atI_nat (by rw [List.getElem?_map,List.getElem?_eq_getElem hi,List.getD_eq_getElem?_getD,List.getElem?_eq_getElem hi]; rfl)
  refine ⟨_,rfl,_,rfl,a,_,_,_,rfl,rfl,SqL.of ha,at1,_,rfl,b,_,rfl,.inl (SqL.of hb),rfl,flats _,_,rfl,?_⟩
  have e:=inV_strs (x:=ws.getD i "") (ws:=L)
  refine iteB (fun z=>?_) fun z=>?_
  ·have c:ws.getD i "" ∈ L:=of_decide_eq_true (e.symm.trans z)
   refine ⟨_,rfl,hN _ _ ?_ ⟨rfl,?_⟩⟩
   ·rw [List.length_append,List.length_singleton]; omega
   ·rw [plL_succ,if_pos c,List.map_append]
    show _ ++ [V.int (0 + (i:Int))] = _ ++ [V.int (i:Int)]
    rw [Int.zero_add]
  ·have c:¬ ws.getD i "" ∈ L:=of_decide_eq_false (e.symm.trans z)
   refine hN _ _ (by omega) ⟨rfl,?_⟩
   rw [plL_succ,if_neg c,List.append_nil]
 ·rintro ys H' hyl ⟨rfl,rfl⟩ D hD
  exact q D hD
end
theorem cps_ix {z:Str} {n:Int} (h:0 < z.length):∃ c∈z.cps.toList,atI z.cps.toList (n % (z.length:Int)) = some c:=by
 have h1:=Int.emod_nonneg n (show (z.length:Int)≠0 by omega)
 have h2:=Int.emod_lt_of_pos n (show (0:Int) < z.length by omega)
 obtain ⟨j,ej⟩:=Int.eq_ofNat_of_zero_le h1
 rw [ej] at h2 ⊢
 have hj:j < z.cps.toList.length:=by rw [Array.length_toList]; show j < z.length; omega
 exact ⟨z.cps.toList[j],List.getElem_mem hj,atI_nat (List.getElem?_eq_getElem hj)⟩
theorem slen' (x:Str) (lo hi:Option Int) (h:x.length≤1300):(Txt.slice x lo hi).length≤1300:=Nat.le_trans (Txt.slice_le x lo hi) h
theorem str_ix {l:List Str} {n:Int} (h:0 < l.length):∃ y∈l,atI (l.map V.str) (n % (l.length:Int)) = some (.str y):=by
 have h1:=Int.emod_nonneg n (show (l.length:Int)≠0 by omega)
 have h2:=Int.emod_lt_of_pos n (show (0:Int) < l.length by omega)
 exact ⟨_,getD_mem h1 h2,atI_map h1 h2⟩
def nwA:List Str:=["in", "out", "nothing", "rest", "halt", "send", "keep", "await", "if", "else", "again", "hold"]
def nwB:List Str:=["watch", "weak", "trap", "exit", "local"]
theorem if_via {tc:TT} {A B:TS} {D:Ends} {σ:St} {H:Hp} (h:∀ nx:St→Hp→Prop,(∀ σ H,D.nx σ H→nx σ H)→(∀ σ H,nx σ H→D.nx σ H)→tIfS tc A B { D with nx:=nx } σ H):tIfS tc A B D σ H:=h D.nx (fun _ _ h=>h) fun _ _ h=>h
def endL:List Str:=[" }", " {", " ;", " |", " rest", "; {"]
theorem endL_len:∀ y∈endL,y.length≤5:=by decide +kernel
section
variable {P:Program} {w:World} {K:PySem.W.Frag} {mg:Str→Option Value} {base:Heap}
seal PSs PS PE PA PT
set_option maxHeartbeats 16000000 in
theorem ok_spoilt (F:FunM K mg "_law_spoilt" ["_law_words_here", "_law_way", "_law_number"] s__law_spoilt) (T:Txt mg) (C__law_joined:Callee P w K mg base 1 "_law_joined" ["_law_words_here"] spJoined) (C__law_places:Callee P w K mg base 1 "_law_places" ["_law_words_here", "_law_wanted"] spPlaces):Callee P w K mg base 2 "_law_spoilt" ["_law_words_here", "_law_way", "_law_number"] spSpoilt:=by
 refine F.ok sc__law_spoilt (fun vs H Q E h=>?_) (fun f cdv A outer s H vs Q E hr h=>?_)
 ·obtain ⟨a,m,n,B,rfl,_⟩:=h; rfl
 obtain ⟨a,m,n,B,rfl,ha,gB,hw,m0,m5,q⟩:=h
 refine ⟨_,(pss_cons (ps_set (i:=3) sc__law_spoilt.nd rfl (Or.inl rfl) (pe_callC C__law_joined hr rfl pass0 (pa_cons (pv 0) pa_nil)))
  (pss_cons (ps_if (pt_cmpR op_eq (pv 1) pe_int (nomark _))
   (pss_cons (ps_set (i:=4) sc__law_spoilt.nd rfl (Or.inl rfl) pe_str)
  (pss_cons (ps_set (i:=5) sc__law_spoilt.nd rfl (Or.inl rfl) (pe_op op_mod (pe_op op_fdiv (pv 2) pe_int) (pe_op op_add (pe_callB call_len_str rfl T.n_len PySem.boot_len (pa_cons (pv 3) pa_nil)) pe_int)))
  (pss_one (ps_ret (pe_op op_addS (pe_op op_addS (pe_slice sl_str (pv 3) po_none (po_some (pv 5))) (pe_ix ix_str (pv 4) (pe_op op_mod (pv 2) (pe_callB call_len_str rfl T.n_len PySem.boot_len (pa_cons (pv 4) pa_nil))) (fun _ _=>rfl))) (pe_slice sl_str (pv 3) (po_some (pv 5)) po_none))))))
   pss_nil)
  (pss_cons (ps_if (pt_cmpR op_eq (pv 1) pe_int (nomark _))
   (pss_cons (ps_set (i:=6) sc__law_spoilt.nd rfl (Or.inl rfl) (pe_callC C__law_places hr rfl pass0 (pa_cons (pv 0) (pa_cons (pe_lst (pa_s4 pa_nil)) pa_nil))))
  (pss_cons (ps_set (i:=5) sc__law_spoilt.nd rfl (Or.inl rfl) (pe_ix ix_list (pv 6) (pe_op op_mod (pv 2) (pe_callB call_lenK rfl T.n_len PySem.boot_len (pa_cons (pv 6) pa_nil))) (fun _ _=>rfl)))
  (pss_one (ps_ret (pe_callC C__law_joined hr rfl pass0 (pa_cons (pe_op op_cat (pe_slice sl_list (pv 0) po_none (po_some (pv 5))) (pe_slice sl_list (pv 0) (po_some (pe_op op_add (pv 5) pe_int)) po_none)) pa_nil))))))
   pss_nil)
  (pss_cons (ps_if (PW.pt (pw_or (pt_cmpR op_eq (pv 1) pe_int (nomark _)) (pw_or1 (pt_cmpR op_eq (pv 1) pe_int (nomark _)))))
   (pss_cons (ps_set (i:=6) sc__law_spoilt.nd rfl (Or.inl rfl) (pe_callC C__law_places hr rfl pass0 (pa_cons (pv 0) (pa_cons (pe_lst (pa_s4 pa_nil)) pa_nil))))
  (pss_cons (ps_set (i:=5) sc__law_spoilt.nd rfl (Or.inl rfl) (pe_ix ix_list (pv 6) (pe_op op_mod (pv 2) (pe_callB call_lenK rfl T.n_len PySem.boot_len (pa_cons (pv 6) pa_nil))) (fun _ _=>rfl)))
  (pss_cons (ps_set (i:=7) sc__law_spoilt.nd rfl (Or.inl rfl) (pe_lst (pa_s4 (pa_s4 (pa_s4 pa_nil)))))
  (pss_cons (ps_set (i:=7) sc__law_spoilt.nd rfl (Or.inl rfl) (pe_ix ix_list (pe_op op_cat (pv 7) (pe_lst (pa_s4 (pa_cons pe_str pa_nil)))) (pe_op op_mod (pe_op op_fdiv (pv 2) pe_int) pe_int) (fun _ _=>rfl)))
  (pss_cons (ps_if (pt_cmpR op_eq (pv 1) pe_int (nomark _))
   (pss_one (ps_set (i:=7) sc__law_spoilt.nd rfl (Or.inl rfl) pe_str))
   pss_nil)
  (pss_one (ps_ret (pe_callC C__law_joined hr rfl pass0 (pa_cons (pe_op op_cat (pe_op op_cat (pe_slice sl_list (pv 0) po_none (po_some (pv 5))) (pe_lst (pa_cons (pv 7) pa_nil))) (pe_slice sl_list (pv 0) (po_some (pe_op op_add (pv 5) pe_int)) po_none)) pa_nil)))))))))
   pss_nil)
  (pss_one (ps_ret (pe_op op_addS (pv 3) (pe_ix ix_list (pe_lst (pa_s4 (pa_cons pe_str (pa_cons pe_str pa_nil)))) (pe_op op_mod (pv 2) pe_int) (fun _ _=>rfl))))))))),?_⟩
 refine ⟨_,rfl,a,_,rfl,ha,hw,?_⟩
 have lx:=hw.len
 have hx0:(joinW (hdr ++ B)).length≤sizeLine:=smallK (by omega)
 refine ⟨_,rfl,rfl,_,rfl,ite2 (fun c=>?_) fun c=>?_⟩
 ·obtain ⟨oc,hoc,eoc⟩:=cps_ix (z:=oddS) (n:=n) (by decide +kernel)
  have s1:=slen' (joinW (hdr ++ B)) none (some (n / 64 % (((joinW (hdr ++ B)).length:Int) + 1))) lx
  have s2:=slen' (joinW (hdr ++ B)) (some (n / 64 % (((joinW (hdr ++ B)).length:Int) + 1))) none lx
  refine ⟨_,rfl,_,_,rfl,rfl,⟨by decide,by decide⟩,_,rfl,_,rfl,hx0,_,_,rfl,rfl,_,_,rfl,rfl,(by show (0:Int) < ((joinW (hdr ++ B)).length:Int) + 1; omega),?_⟩
  refine ⟨_,rfl,_,rfl,_,rfl,_,rfl,hx0,_,rfl,_,rfl,_,rfl,_,rfl,(by decide +kernel),_,_,rfl,rfl,(by show (0:Int) < ((oddS.length:Nat):Int); decide +kernel),_,_,_,rfl,rfl,(by decide +kernel),eoc,_,_,rfl,rfl,?_,_,rfl,_,rfl,_,rfl,_,rfl,hx0,_,_,rfl,rfl,?_,?_⟩
  ·exact smallK (by show _ + 1≤100000; omega)
  ·rw [str_len_app]
   exact smallK (by show _ + 1 + _≤100000; omega)
  ·refine q _ _ (Same.refl _) ?_ (.inl (all_odd (oddS_ok oc hoc)))
   rw [str_len_app,str_len_app]
   show _ + 1 + _≤3000
   omega
 refine ⟨_,rfl,rfl,_,rfl,ite2 (fun c=>?_) fun c1=>?_⟩
 ·refine ⟨_,rfl,(by show 4≤sizeLine; decide),fun l1 h1=>?_⟩
  have k1:=same_new h1 (.lst ((["{", "}", ";", "|"]:List Str).map V.str))
  refine ⟨a,l1,hdr ++ B,["{", "}", ";", "|"],rfl,k1 _ _ ha,upd_same,hw.l,fun l2 h2=>?_⟩
  have k2:=same_new h2 (.lst ((plL (hdr ++ B) ["{", "}", ";", "|"]).map fun (i:Nat)=>V.int (i:Int)))
  obtain ⟨i,hi,ei⟩:=ix_of (n:=n) (plL_hdr (B:=B) (L:=["{", "}", ";", "|"]) (i:=2) (by decide) (by decide))
  obtain ⟨u,mk,v,e,lu,hm⟩:=plL_at hi
  have pos:=plL_hdr (B:=B) (L:=["{", "}", ";", "|"]) (i:=2) (by decide) (by decide)
  obtain ⟨bad,G⟩:=drop_text gB hw e hm
  refine ⟨_,rfl,_,rfl,_,rfl,l2,_,rfl,.inl (SqL.of upd_same),_,_,rfl,rfl,(by rw [List.length_map]; omega),l2,_,_,.int (i:Int),rfl,rfl,SqL.of upd_same,(by rw [List.length_map]; exact ei),?_⟩
  have ha2:=k2 _ _ (k1 _ _ ha)
  refine ⟨_,rfl,_,rfl,_,rfl,a,_,rfl,SqL.of ha2,fun l3 h3=>?_⟩
  have k3:=same_new h3 (.lst (cutV ((hdr ++ B).map V.str) none (some (i:Int))))
  refine ⟨_,rfl,_,rfl,_,_,rfl,rfl,_,rfl,a,_,rfl,SqL.of (k3 _ _ ha2),fun l4 h4=>?_⟩
  have k4:=same_new h4 (.lst (cutV ((hdr ++ B).map V.str) (some ((i:Int) + 1)) none))
  have e1:cutV ((hdr ++ B).map V.str) none (some (i:Int)) = u.map V.str:=by rw [cut_hd,e,← List.map_take,← lu,List.take_left]
  have e2:cutV ((hdr ++ B).map V.str) (some ((i:Int) + 1)) none = v.map V.str:=by
   rw [show ((i:Int) + 1) = ((i + 1:Nat):Int) by omega,cut_tl,e,← List.map_drop,← lu]
   congr 1
   rw [show u ++ mk :: v = (u ++ [mk]) ++ v by simp,List.drop_left' (by simp)]
  have gl:=G.l
  rw [List.length_append] at gl
  refine ⟨l3,l4,_,_,rfl,rfl,k4 _ _ upd_same,upd_same,(by rw [e1,e2,List.length_map,List.length_map]; exact smallK (by omega)),fun l5 h5=>?_⟩
  rw [e1,e2] at h5 ⊢
  have k5:=same_new h5 (.lst (u.map V.str ++ v.map V.str))
  refine ⟨l5,u ++ v,rfl,by rw [upd_same,List.map_append],G,?_⟩
  rw [e1] at k3 k4
  rw [e2] at k4
  exact q _ _ ((((k1.trans k2).trans k3).trans k4).trans k5) (Nat.le_trans G.len (by decide)) bad
 refine (fun X=>⟨_,rfl,rfl,_,rfl,ite2 (fun c2=>iteT X) fun c2=>⟨_,rfl,rfl,_,rfl,ite2 (fun c3=>X) fun c3=>?e4⟩⟩) ?b23
 case e4 =>
  obtain ⟨y,hy,ey⟩:=str_ix (l:=endL) (n:=n) (by decide)
  have ly:=endL_len y hy
  refine ⟨_,rfl,(by show 6≤sizeLine; decide),fun l1 h1=>⟨_,rfl,_,_,rfl,rfl,(by show (0:Int) < 6; decide),l1,_,_,.str y,rfl,rfl,SqL.of upd_same,ey,_,_,rfl,rfl,smallK (by omega),?_⟩⟩
  exact q _ _ (same_new h1 _) (by rw [str_len_app]; omega) (end_bad gB hw y hy)
 case b23 =>
 refine ⟨_,rfl,(by show 4≤sizeLine; decide),fun l1 h1=>?_⟩
 have k1:=same_new h1 (.lst (nm4.map V.str))
 refine ⟨a,l1,hdr ++ B,nm4,rfl,k1 _ _ ha,upd_same,hw.l,fun l2 h2=>?_⟩
 have k2:=same_new h2 (.lst ((plL (hdr ++ B) nm4).map fun (i:Nat)=>V.int (i:Int)))
 have pos:=plL_hdr (B:=B) (L:=nm4) (i:=1) (by decide) (by decide)
 obtain ⟨i,hi,ei⟩:=ix_of (n:=n) pos
 obtain ⟨u,mk,v,e,lu,hm⟩:=plL_at hi
 refine ⟨_,rfl,_,rfl,_,rfl,l2,_,rfl,.inl (SqL.of upd_same),_,_,rfl,rfl,(by rw [List.length_map]; omega),l2,_,_,.int (i:Int),rfl,rfl,SqL.of upd_same,(by rw [List.length_map]; exact ei),?_⟩
 have ha2:=k2 _ _ (k1 _ _ ha)
 have g2:=k1.trans k2
 refine ⟨(by show 12≤sizeLine; decide),fun l3 h3=>?_⟩
 have k3:=same_new h3 (.lst (nwA.map V.str))
 refine ⟨_,rfl,(by show 5≤sizeLine; decide),fun l4 h4=>?_⟩
 have k4:=same_new h4 (.lst (nwB.map V.str))
 refine ⟨l3,l4,_,_,rfl,rfl,k4 _ _ upd_same,upd_same,(by show 17≤sizeLine; decide),fun l5 h5=>?_⟩
 have k5:=same_new h5 (.lst ((nwA ++ nwB).map V.str))
 obtain ⟨y,hy,ey⟩:=str_ix (l:=nwA ++ nwB) (n:=n / 64) (by decide)
 refine ⟨_,rfl,_,_,rfl,rfl,⟨by decide,by decide⟩,_,_,rfl,rfl,(by show (0:Int) < 17; decide),l5,_,_,.str y,rfl,rfl,SqL.of upd_same,ey,?_⟩
 have ha5:=k5 _ _ (k4 _ _ (k3 _ _ ha2))
 have g5:=((g2.trans k3).trans k4).trans k5
 dsimp only [gName,tSeq,tAsg,tC]
 refine if_via fun nx hn _=>?_
 have fin:∀ y'∈newL,∀ H5,Same H H5→H5 a = some (.lst ((hdr ++ B).map V.str))→nx [some (.ref a),some (.int m),some (.int n),some (.str (joinW (hdr ++ B))),none,some (.int (i:Int)),some (.ref l2),some (.str y')] H5:=by
  intro y' hy' H5 g5 ha5
  obtain ⟨bad,G⟩:=ren_text gB hw e hm hy'
  refine hn _ _ ?_
  refine ⟨_,rfl,_,rfl,_,rfl,a,_,rfl,SqL.of ha5,fun l6 h6=>?_⟩
  have e1:cutV ((hdr ++ B).map V.str) none (some (i:Int)) = u.map V.str:=by rw [cut_hd,e,← List.map_take,← lu,List.take_left]
  have e2:cutV ((hdr ++ B).map V.str) (some ((i:Int) + 1)) none = v.map V.str:=by
   rw [show ((i:Int) + 1) = ((i + 1:Nat):Int) by omega,cut_tl,e,← List.map_drop,← lu]
   congr 1
   rw [show u ++ mk :: v = (u ++ [mk]) ++ v by simp,List.drop_left' (by simp)]
  rw [e1]
  have k6:=same_new h6 (.lst (u.map V.str))
  refine ⟨_,rfl,(by show 1≤sizeLine; decide),fun l7 h7=>?_⟩
  have k7:=same_new h7 (.lst [V.str y'])
  have gl:=G.l
  rw [List.length_append,List.length_cons] at gl
  refine ⟨l6,l7,_,_,rfl,rfl,k7 _ _ upd_same,upd_same,(by rw [List.length_map]; exact smallK (by show _ + 1≤_; omega)),fun l8 h8=>?_⟩
  have k8:=same_new h8 (.lst (u.map V.str ++ [V.str y']))
  refine ⟨_,rfl,_,rfl,_,_,rfl,rfl,_,rfl,a,_,rfl,SqL.of (k8 _ _ (k7 _ _ (k6 _ _ ha5))),fun l9 h9=>?_⟩
  rw [e2]
  have k9:=same_new h9 (.lst (v.map V.str))
  refine ⟨l8,l9,_,_,rfl,rfl,k9 _ _ upd_same,upd_same,(by rw [List.length_append,List.length_map,List.length_map]; exact smallK (by show _ + 1 + _≤_; omega)),fun l10 h10=>?_⟩
  have k10:=same_new h10 (.lst (u.map V.str ++ [V.str y'] ++ v.map V.str))
  refine ⟨l10,u ++ y' :: v,rfl,by rw [upd_same]; simp,G,?_⟩
  exact q _ _ (((((g5.trans k6).trans k7).trans k8).trans k9).trans k10) (Nat.le_trans G.len (by decide)) bad
 refine ⟨_,rfl,rfl,_,rfl,ite2 (fun c3=>fin _ (by decide) _ g5 ha5) fun c3=>fin _ ?_ _ g5 ha5⟩
 exact (show ∀ y∈nwA ++ nwB,y∈newL by decide) y hy
end
theorem mulOk {x:Str} {n:Int} (hx:x.length≤10) (h1:-100000≤n) (h2:n≤100000):MulOk x n:=by
 refine ⟨?_,fun h3 _=>?_,fun h3 _=>?_⟩
 ·rw [Bool.or_eq_false_iff]
  exact ⟨decide_eq_false (by omega),decide_eq_false (by omega)⟩
 ·have h4:(10:Int)≤(2 ^ 63 - 1) / n:=by
   rw [Int.le_ediv_iff_mul_le (by omega)]
   omega
  omega
 ·unfold Builtin.Str.tooLong sizeLine
  refine decide_eq_false ?_
  have h5:x.length * n.toNat≤10 * 100000:=Nat.mul_le_mul hx (by omega)
  omega
theorem rep_map (k:Nat) (y:Str):(List.replicate k [V.str y]).flatten = (List.replicate k y).map V.str:=by
 induction k with
 | zero=>rfl
 | succ k ih=>rw [List.replicate_succ,List.flatten_cons,ih,List.replicate_succ]; rfl
theorem rep_ok {s y:Str} {k:Nat} (hs:s.length≤10) (hy:y.length≤20) (hk:k≤1000):JoinOk s (List.replicate k y) = true:=joinFew (m:=20) (fun z hz=>by rw [List.eq_of_mem_replicate hz]; exact hy) (by decide) (by rw [List.length_replicate]; exact hk) (by omega)
def odd14:List Str:=["", " ", "in", "in;out;", "in;out", "out;in;rest", "in;out;rest;", "in;out;;rest", "in;out;{}", "in;rest", "in;out;if b{rest}", "in b;out;if b rest", "in;out;trap{rest}", "in b;out;if{rest}"]
theorem odd14_rep:∀ y∈odd14,y.length≤100∧Txt.replace y "if b{rest}" "if b{rest}else" ∈ oddT:=by decide +kernel
def spOdd (K:PySem.W.Frag):Sp:=fun vs H Q _=>∃ n:Int,vs = [.int n]∧∀ v H',Same H H'→NoT K H' v→Q v H'
def spBound (K:PySem.W.Frag):Sp:=fun vs H Q _=>∃ n:Int,vs = [.int n]∧(n % 2 = 1→∀ v H',Same H H'→NoT K H' v→Q v H')∧(n % 2 = 0→∀ x ins H',Same H H'→GoodT x ins→Q (.str x) H')
section
variable {P:Program} {w:World} {K:PySem.W.Frag} {mg:Str→Option Value} {base:Heap}
seal PSs PS PE PA PT
set_option maxHeartbeats 16000000 in
theorem ok_odd (F:FunM K mg "_law_odd" ["_law_number"] s__law_odd) (T:Txt mg):Callee P w K mg base 1 "_law_odd" ["_law_number"] (spOdd K):=by
 refine F.ok sc__law_odd (fun vs H Q E h=>?_) (fun f cdv A outer s H vs Q E hr h=>?_)
 ·obtain ⟨n,rfl,_⟩:=h; rfl
 obtain ⟨n,rfl,q⟩:=h
 refine ⟨_,(pss_cons (ps_set (i:=1) sc__law_odd.nd rfl (Or.inl rfl) (pe_lst (pa_s4 (pa_s4 (pa_cons pe_str (pa_cons pe_str pa_nil))))))
  (pss_cons (ps_set (i:=1) sc__law_odd.nd rfl (Or.inl rfl) (pe_op op_cat (pv 1) (pe_lst (pa_s4 pa_nil))))
  (pss_cons (ps_if (pt_cmpR op_eq (pe_op op_mod (pv 0) pe_int) pe_int (nomark _))
   (pss_one (ps_ret (pe_op op_addS pe_str (pe_bm PySem.F.plainAttrs_str PySem.F.slot_str_join PySem.F.type_str_join mt_join (pe_ix ix_list (pe_lst (pa_cons pe_str (pa_cons pe_str pa_nil))) (pe_op op_mod (pe_op op_fdiv (pv 0) pe_int) pe_int) (fun _ _=>rfl)) (pa_cons (pe_op op_rep (pe_lst (pa_cons pe_str pa_nil)) (pe_op op_add pe_int (pe_op op_mod (pe_op op_fdiv (pv 0) pe_int) pe_int))) pa_nil)))))
   pss_nil)
  (pss_cons (ps_if (pt_cmpR op_eq (pe_op op_mod (pv 0) pe_int) pe_int (nomark _))
   (pss_one (ps_ret (pe_repl (pe1_ix ix_list (pv 1) (pe1_op op_mod (pe_op op_fdiv (pv 0) pe_int) pe1_int) (fun _ _=>rfl)))))
   pss_nil)
  (pss_one (ps_ret (pe_ix ix_list (pe_lst (pa_cons pe_non (pa_cons pe_int (pa_cons pe_bl (pa_cons (pe_lst (pa_cons pe_str pa_nil)) (pa_cons (pe_tup (pa_cons pe_str pa_nil)) pa_nil)))))) (pe_op op_mod (pe_op op_fdiv (pv 0) pe_int) pe_int) (fun _ _=>rfl)))))))),?_⟩
 refine ⟨(by show 10≤sizeLine; decide),fun l1 h1=>?_⟩
 have k1:=same_new h1 (.lst ((odd14.take 10).map V.str))
 refine ⟨_,rfl,(by show 4≤sizeLine; decide),fun l2 h2=>?_⟩
 have k2:=same_new h2 (.lst ((odd14.drop 10).map V.str))
 refine ⟨l1,l2,_,_,rfl,rfl,k2 _ _ upd_same,upd_same,(by show 14≤sizeLine; decide),fun l3 h3=>?_⟩
 have k3:=same_new h3 (.lst (odd14.map V.str))
 have g3:=(k1.trans k2).trans k3
 refine ⟨_,rfl,_,_,rfl,rfl,(by show (0:Int) < 8; decide),rfl,_,rfl,ite2 (fun c=>?_) fun c=>?_⟩
 ·refine ⟨(by show 2≤sizeLine; decide),fun l4 h4=>?_⟩
  have k4:=same_new h4 (.lst (([";", "|"]:List Str).map V.str))
  obtain ⟨s,hs,es⟩:=str_ix (l:=[";", "|"]) (n:=n / 8) (by decide)
  refine ⟨_,rfl,_,_,rfl,rfl,⟨by decide,by decide⟩,_,_,rfl,rfl,(by show (0:Int) < 2; decide),l4,_,_,.str s,rfl,rfl,SqL.of upd_same,es,rfl,(by show 1≤sizeLine; decide),fun l5 h5=>?_⟩
  have k5:=same_new h5 (.lst [V.str "rest"])
  obtain ⟨m,em,l0,l1'⟩:∃ m:Nat,(100 + n / 16 % 480:Int) = ((m + 1:Nat):Int)∧99≤m∧m≤578:=by
   have b1:=Int.emod_nonneg (n / 16) (show (480:Int)≠0 by decide)
   have b2:=Int.emod_lt_of_pos (n / 16) (show (0:Int) < 480 by decide)
   exact ⟨(99 + n / 16 % 480).toNat,by omega,by omega,by omega⟩
  refine ⟨_,rfl,_,_,rfl,rfl,⟨by decide,by decide⟩,_,_,rfl,rfl,(by show (0:Int) < 480; decide),_,_,rfl,rfl,l5,_,_,rfl,rfl,upd_same,(by omega),(by omega),(by rw [em]; exact smallK (by show 1 * (m + 1)≤100000; omega)),fun l6 h6=>?_⟩
  rw [em,Int.toNat_natCast,rep_map]
  have k6:=same_new h6 (.lst ((List.replicate (m + 1) ("rest" : Str)).map V.str))
  obtain ⟨ml,_⟩:=mark_len s hs
  refine ⟨s,l6,List.replicate (m + 1) "rest", rfl,rfl,SqL.of upd_same,rep_ok (by omega) (by decide +kernel) (by omega),?_⟩
  rw [rj_eq]
  refine ⟨_,_,rfl,rfl,?_,?_⟩
  ·rw [rj_len ml,show ("in;out;" : Str).length = 7 by decide +kernel]
   exact smallK (by omega)
  ·exact q _ _ (((g3.trans k4).trans k5).trans k6) (many_bad hs l0 l1')
 refine ⟨_,rfl,_,_,rfl,rfl,(by show (0:Int) < 2; decide),rfl,_,rfl,ite2 (fun c=>?_) fun c=>?_⟩
 ·obtain ⟨y,hy,ey⟩:=str_ix (l:=odd14) (n:=n / 2) (by decide)
  obtain ⟨ly,hy2⟩:=odd14_rep y hy
  obtain ⟨l,b⟩:=odd_bad _ hy2
  refine ⟨_,rfl,_,rfl,_,_,rfl,rfl,⟨by decide,by decide⟩,_,_,rfl,rfl,(by show (0:Int) < 14; decide),l3,_,_,.str y,rfl,rfl,SqL.of upd_same,ey,y,rfl,(by omega),(by decide +kernel),(by decide +kernel),?_⟩
  exact q _ _ g3 (.bad l b)
 ·refine ⟨(by show 1≤sizeLine; decide),fun l4 h4=>?_⟩
  have k4:=same_new h4 (.lst [V.str "in;out;rest"])
  refine ⟨(by show 1≤sizeLine; decide),fun l5 h5=>?_⟩
  have k5:=same_new h5 (.tup [V.str "in;out;rest"])
  refine ⟨(by show 5≤sizeLine; decide),fun l6 h6=>?_⟩
  have k6:=same_new h6 (.lst [V.non,.int 7,.bl true,.ref l4,.ref l5])
  have g6:=((g3.trans k4).trans k5).trans k6
  have b1:=Int.emod_nonneg (n / 2) (show (5:Int)≠0 by decide)
  have b2:=Int.emod_lt_of_pos (n / 2) (show (0:Int) < 5 by decide)
  obtain ⟨j,ej⟩:=Int.eq_ofNat_of_zero_le b1
  rw [ej] at b2
  have hj:j = 0∨j = 1∨j = 2∨j = 3∨j = 4:=by omega
  have e4:(upd (upd (upd (upd (upd (upd H l1 (.lst ((odd14.take 10).map V.str))) l2 (.lst ((odd14.drop 10).map V.str))) l3 (.lst (odd14.map V.str))) l4 (.lst [V.str "in;out;rest"])) l5 (.tup [V.str "in;out;rest"])) l6 (.lst [V.non,.int 7,.bl true,.ref l4,.ref l5])) l4 = some (.lst [V.str "in;out;rest"]):=k6 _ _ (k5 _ _ upd_same)
  have e5:(upd (upd (upd (upd (upd (upd H l1 (.lst ((odd14.take 10).map V.str))) l2 (.lst ((odd14.drop 10).map V.str))) l3 (.lst (odd14.map V.str))) l4 (.lst [V.str "in;out;rest"])) l5 (.tup [V.str "in;out;rest"])) l6 (.lst [V.non,.int 7,.bl true,.ref l4,.ref l5])) l5 = some (.tup [V.str "in;out;rest"]):=k6 _ _ upd_same
  have pick:∃ v,atI [V.non,.int 7,.bl true,.ref l4,.ref l5] (n / 2 % 5) = some v∧NoT K (upd (upd (upd (upd (upd (upd H l1 (.lst ((odd14.take 10).map V.str))) l2 (.lst ((odd14.drop 10).map V.str))) l3 (.lst (odd14.map V.str))) l4 (.lst [V.str "in;out;rest"])) l5 (.tup [V.str "in;out;rest"])) l6 (.lst [V.non,.int 7,.bl true,.ref l4,.ref l5])) v:=by
   rw [ej]
   rcases hj with rfl | rfl | rfl | rfl | rfl
   ·exact ⟨_,atI_nat (j:=0) rfl,.other _ .non rfl⟩
   ·exact ⟨_,atI_nat (j:=1) rfl,.other _ (.int 7) rfl⟩
   ·exact ⟨_,atI_nat (j:=2) rfl,.other _ (.bl true) rfl⟩
   ·exact ⟨_,atI_nat (j:=3) rfl,.other _ (.lst e4) rfl⟩
   ·exact ⟨_,atI_nat (j:=4) rfl,.other _ (.tup e5) rfl⟩
  obtain ⟨v,ev,nv⟩:=pick
  refine ⟨_,rfl,_,_,rfl,rfl,⟨by decide,by decide⟩,_,_,rfl,rfl,(by show (0:Int) < 5; decide),l6,_,_,v,rfl,rfl,SqL.of upd_same,ev,?_⟩
  exact q _ _ g6 nv
set_option maxHeartbeats 16000000 in
theorem ok_bound (F:FunM K mg "_law_bound" ["_law_number"] s__law_bound) (T:Txt mg):Callee P w K mg base 1 "_law_bound" ["_law_number"] (spBound K):=by
 refine F.ok sc__law_bound (fun vs H Q E h=>?_) (fun f cdv A outer s H vs Q E hr h=>?_)
 ·obtain ⟨n,rfl,_⟩:=h; rfl
 obtain ⟨n,rfl,q1,q0⟩:=h
 refine ⟨_,(pss_cons (ps_set (i:=1) sc__law_bound.nd rfl (Or.inl rfl) (pe_op op_mod (pv 0) pe_int))
  (pss_cons (ps_set (i:=2) sc__law_bound.nd rfl (Or.inl rfl) (pe_op op_mod (pe_op op_fdiv (pv 0) pe_int) pe_int))
  (pss_cons (ps_if (pt_cmpR op_eq (pv 2) pe_int (nomark _))
   (pss_cons (ps_set (i:=3) sc__law_bound.nd rfl (Or.inl rfl) (pe_op op_addS pe_str (pe_ix ix_list (pe_lst (pa_cons pe_str (pa_cons pe_str (pa_cons pe_str pa_nil)))) (pe_op op_mod (pe_op op_fdiv (pv 0) pe_int) pe_int) (fun _ _=>rfl))))
  (pss_one (ps_ret (pe_op op_addS (pv 3) (pe_op op_mulS pe_str (pe_op op_sub (pe_op op_add pe_int (pv 1)) (pe_callB call_len_str rfl T.n_len PySem.boot_len (pa_cons (pv 3) pa_nil))))))))
   pss_nil)
  (pss_cons (ps_if (PW.pt (pw_and (pt_cmpR op_eq (pv 2) pe_int (nomark _)) (pw_and1 (pt_cmpR op_eq (pe_op op_mod (pe_op op_fdiv (pv 0) pe_int) pe_int) pe_int (nomark _)))))
   (pss_cons (ps_set (i:=4) sc__law_bound.nd rfl (Or.inl rfl) (pe_op op_addS pe_str (pe_op op_mulS pe_str (pe_op op_add pe_int (pv 1)))))
  (pss_one (ps_ret (pe_op op_addS (pe_op op_addS (pv 4) (pe_bm PySem.F.plainAttrs_str PySem.F.slot_str_join PySem.F.type_str_join mt_join pe_str (pa_cons (pe_op op_rep (pe_lst (pa_cons pe_str pa_nil)) pe_int) pa_nil))) (pe_op op_mulS pe_str (pe_op op_add pe_int (pv 1)))))))
   pss_nil)
  (pss_cons (ps_if (pt_cmpR op_eq (pv 2) pe_int (nomark _))
   (pss_cons (ps_set (i:=5) sc__law_bound.nd rfl (Or.inl rfl) (pe_ix ix_list (pe_lst (pa_cons pe_str (pa_cons pe_str pa_nil))) (pe_op op_mod (pe_op op_fdiv (pv 0) pe_int) pe_int) (fun _ _=>rfl)))
  (pss_one (ps_ret (pe_op op_addS (pe_op op_addS (pe_op op_addS pe_str (pe_bm PySem.F.plainAttrs_str PySem.F.slot_str_join PySem.F.type_str_join mt_join (pv 5) (pa_cons (pe_op op_rep (pe_lst (pa_cons pe_str pa_nil)) pe_int) pa_nil))) pe_str) (pe_ix ix_list (pe_lst (pa_cons pe_str (pa_cons pe_str pa_nil))) (pv 1) (fun _ _=>rfl))))))
   pss_nil)
  (pss_cons (ps_set (i:=1) sc__law_bound.nd rfl (Or.inl rfl) (pe_op op_mul (pv 1) (pe_ix ix_list (pe_lst (pa_cons pe_int (pa_cons pe_int (pa_cons pe_int (pa_cons pe_int pa_nil))))) (pe_op op_mod (pe_op op_fdiv (pv 0) pe_int) pe_int) (fun _ _=>rfl))))
  (pss_one (ps_ret (pe_op op_addS (pe_op op_addS (pe_op op_addS pe_str (pe_op op_mulS pe_str (pe_op op_add pe_int (pv 1)))) pe_str) (pe_op op_mulS pe_str (pe_op op_add pe_int (pv 1)))))))))))),?_⟩
 have hm:n % 2 = 0∨n % 2 = 1:=by omega
 have b1:(" " : Str).length≤10∧("again{" : Str).length≤10∧("}" : Str).length≤10∧("{" : Str).length≤10:=by decide +kernel
 refine ⟨_,rfl,_,_,rfl,rfl,(by show (0:Int) < 2; decide),?_⟩
 refine ⟨_,rfl,_,_,rfl,rfl,⟨by decide,by decide⟩,_,_,rfl,rfl,(by show (0:Int) < 3; decide),?_⟩
 refine ⟨_,rfl,rfl,_,rfl,ite2 (fun c=>?_) fun c=>?_⟩
 ·refine ⟨(by show 3≤sizeLine; decide),fun l1 h1=>?_⟩
  have k1:=same_new h1 (.lst (itm3.map V.str))
  obtain ⟨y,hy,ey⟩:=str_ix (l:=itm3) (n:=n / 6) (by decide)
  obtain ⟨ws,t,z1,z2,z3,z4,z5,z6⟩:=itm_blk y hy
  have ly:("in;out;" : Str).length + y.length≤16:=by rw [← str_len_app]; exact z6
  refine ⟨_,rfl,_,_,rfl,rfl,⟨by decide,by decide⟩,_,_,rfl,rfl,(by show (0:Int) < 3; decide),l1,_,_,.str y,rfl,rfl,SqL.of upd_same,ey,_,_,rfl,rfl,smallK (by omega),?_⟩
  refine ⟨_,rfl,_,rfl,_,_,rfl,rfl,_,rfl,_,rfl,smallK (by omega),_,_,rfl,rfl,_,_,rfl,rfl,mulOk b1.1 (by omega) (by omega),_,_,rfl,rfl,?_,?_⟩
  ·rw [mul_len,lenB]
   exact smallK (by omega)
  ·rcases hm with e | e
   ·rw [e]; exact q0 e _ [] _ k1 (pad_good hy)
   ·rw [e]; exact q1 e _ _ k1 (pad_long hy)
 refine ⟨_,rfl,rfl,_,rfl,ite2 (fun c1=>⟨_,rfl,_,_,rfl,rfl,⟨by decide,by decide⟩,_,_,rfl,rfl,(by show (0:Int) < 2; decide),rfl,_,rfl,ite2 (fun c2=>?_) fun c2=>?_⟩) fun c1=>iteF ?_⟩
 ·refine ⟨_,rfl,_,_,rfl,rfl,_,_,rfl,rfl,mulOk b1.2.1 (by omega) (by omega),_,_,rfl,rfl,?_,?_⟩
  ·rw [mul_len]
   exact smallK (by
    have:(1 + n % 2).toNat * ("again{" : Str).length≤2 * 10:=Nat.mul_le_mul (by omega) b1.2.1
    have:("in b;out;" : Str).length≤10:=by decide +kernel
    omega)
  refine ⟨_,rfl,rfl,(by show 1≤sizeLine; decide),fun l1 h1=>?_⟩
  have k1:=same_new h1 (.lst [V.str "if b{rest}"])
  refine ⟨l1,_,_,rfl,rfl,upd_same,by decide,by decide,(by show 1 * 15≤sizeLine; decide),fun l2 h2=>?_⟩
  have k2:=same_new h2 (.lst ((List.replicate 15 ("if b{rest}" : Str)).map V.str))
  refine ⟨";", l2,List.replicate 15 "if b{rest}", rfl,rfl,SqL.of upd_same,rep_ok (by decide +kernel) (by decide +kernel) (by decide),?_⟩
  have lA:∀ m:Int,0≤m→m≤1→((("in b;out;" : Str) ++ Txt.mul "again{" (1 + m)).length + (Txt.join ";" (List.replicate 15 ("if b{rest}" : Str))).length≤1000):=by
   intro m m0 m1
   rw [str_len_app,mul_len,show ("in b;out;" : Str).length = 9 by decide +kernel,show ("again{" : Str).length = 6 by decide +kernel,show (Txt.join ";" (List.replicate 15 ("if b{rest}" : Str))).length = 164 by decide +kernel]
   omega
  have lA':=lA (n % 2) (by omega) (by omega)
  refine ⟨_,_,rfl,rfl,smallK (by omega),_,rfl,_,_,rfl,rfl,_,_,rfl,rfl,mulOk b1.2.2.1 (by omega) (by omega),_,_,rfl,rfl,?_,?_⟩
  ·rw [str_len_app,mul_len,show ("}" : Str).length = 1 by decide +kernel]
   exact smallK (by omega)
  ·rcases hm with e | e
   ·rw [e]; exact q0 e (txA 0) _ _ (k1.trans k2) txA0
   ·rw [e]; exact q1 e (.str (txA 1)) _ (k1.trans k2) txA1
 ·refine ⟨_,rfl,rfl,_,rfl,ite2 (fun _=>?_) fun c3=>absurd c1 c3⟩
  refine ⟨(by show 2≤sizeLine; decide),fun l1 h1=>?_⟩
  have k1:=same_new h1 (.lst (([";", "|"]:List Str).map V.str))
  obtain ⟨y,hy,ey⟩:=str_ix (l:=[";", "|"]) (n:=n / 6) (by decide)
  refine ⟨_,rfl,_,_,rfl,rfl,⟨by decide,by decide⟩,_,_,rfl,rfl,(by show (0:Int) < 2; decide),l1,_,_,.str y,rfl,rfl,SqL.of upd_same,ey,?_⟩
  refine ⟨_,rfl,rfl,(by show 1≤sizeLine; decide),fun l2 h2=>?_⟩
  have k2:=same_new h2 (.lst [V.str "rest"])
  refine ⟨l2,_,_,rfl,rfl,upd_same,by decide,by decide,(by show 1 * 29≤sizeLine; decide),fun l3 h3=>?_⟩
  have k3:=same_new h3 (.lst ((List.replicate 29 ("rest" : Str)).map V.str))
  obtain ⟨ml,_⟩:=mark_len y hy
  refine ⟨y,l3,List.replicate 29 "rest", rfl,rfl,SqL.of upd_same,rep_ok (by omega) (by decide +kernel) (by decide),?_⟩
  have lj:(Txt.join y (List.replicate 29 ("rest" : Str))).length = 144:=by rw [show (29:Nat) = 28 + 1 from rfl,rj_eq,rj_len ml]
  have lh:("in;out;again{" : Str).length = 13:=by decide +kernel
  have lc:("}" : Str).length = 1:=by decide +kernel
  refine ⟨_,_,rfl,rfl,smallK (by omega),_,_,rfl,rfl,(by rw [str_len_app]; exact smallK (by omega)),(by show 2≤sizeLine; decide),fun l4 h4=>?_⟩
  have k4:=same_new h4 (.lst (([";halt", ";again{halt}"]:List Str).map V.str))
  have g4:=((k1.trans k2).trans k3).trans k4
  have le:∀ e∈([";halt", ";again{halt}"]:List Str),e.length≤20:=by decide +kernel
  have fit:∀ e:Str,e.length≤20→((("in;out;again{" : Str) ++ Txt.join y (List.replicate 29 ("rest" : Str))) ++ "}").length + e.length≤sizeLine:=fun e he=>by
   rw [str_len_app,str_len_app]
   exact smallK (by omega)
  rcases hm with e | e
  ·refine ⟨_,rfl,l4,_,_,.str ";halt", rfl,rfl,SqL.of upd_same,(by rw [e]; exact atI_nat (j:=0) rfl),_,_,rfl,rfl,fit _ (by decide +kernel),?_⟩
   exact q0 e (txB y ";halt") _ _ g4 (txB0 hy)
  ·refine ⟨_,rfl,l4,_,_,.str ";again{halt}", rfl,rfl,SqL.of upd_same,(by rw [e]; exact atI_nat (j:=1) rfl),_,_,rfl,rfl,fit _ (by decide +kernel),?_⟩
   exact q1 e (.str (txB y ";again{halt}")) _ g4 (txB1 hy)
 ·refine ⟨_,rfl,rfl,_,rfl,ite2 (fun c3=>absurd c3 c1) fun _=>?_⟩
  refine ⟨_,rfl,(by show 4≤sizeLine; decide),fun l1 h1=>?_⟩
  have k1:=same_new h1 (.lst [V.int 1,.int 1,.int 1,.int 1400])
  obtain ⟨f4,hf,ef⟩:∃ f4:Nat,(f4 = 1∨f4 = 1400)∧atI [V.int 1,.int 1,.int 1,.int 1400] (n / 6 % 4) = some (.int (f4:Int)):=by
   have b1:=Int.emod_nonneg (n / 6) (show (4:Int)≠0 by decide)
   have b2:=Int.emod_lt_of_pos (n / 6) (show (0:Int) < 4 by decide)
   obtain ⟨j,ej⟩:=Int.eq_ofNat_of_zero_le b1
   rw [ej] at b2 ⊢
   have hj:j = 0∨j = 1∨j = 2∨j = 3:=by omega
   rcases hj with rfl | rfl | rfl | rfl
   ·exact ⟨1,.inl rfl,atI_nat (j:=0) rfl⟩
   ·exact ⟨1,.inl rfl,atI_nat (j:=1) rfl⟩
   ·exact ⟨1,.inl rfl,atI_nat (j:=2) rfl⟩
   ·exact ⟨1400,.inr rfl,atI_nat (j:=3) rfl⟩
  obtain ⟨m,em,hm2⟩:∃ m:Nat,n % 2 * (f4:Int) = (m:Int)∧((n % 2 = 0∧m = 0)∨(n % 2 = 1∧1≤m∧m≤1400)):=by
   rcases hm with e | e
   ·exact ⟨0,by rw [e]; omega,.inl ⟨e,rfl⟩⟩
   ·exact ⟨f4,by rw [e]; omega,.inr ⟨e,by omega,by omega⟩⟩
  have lm:m≤1400:=by omega
  refine ⟨_,rfl,_,_,rfl,rfl,⟨by decide,by decide⟩,_,_,rfl,rfl,(by show (0:Int) < 4; decide),l1,_,_,.int (f4:Int),rfl,rfl,SqL.of upd_same,ef,_,_,rfl,rfl,.inl (by show -(2 ^ 64) < n % 2∧n % 2 < 2 ^ 64; omega),?_⟩
  dsimp only
  rw [em]
  have lo:("in;out;rest|" : Str).length = 12:=by decide +kernel
  have l1':("{" : Str).length = 1∧("}" : Str).length = 1∧("rest" : Str).length = 4:=by decide +kernel
  refine ⟨_,rfl,_,_,rfl,rfl,_,_,rfl,rfl,mulOk b1.2.2.2 (by omega) (by omega),_,_,rfl,rfl,?_,_,_,rfl,rfl,?_,_,rfl,_,_,rfl,rfl,_,_,rfl,rfl,mulOk b1.2.2.1 (by omega) (by omega),_,_,rfl,rfl,?_,?_⟩
  ·rw [mul_len]; exact smallK (by rw [l1'.1]; omega)
  ·rw [str_len_app,mul_len]; exact smallK (by rw [l1'.1]; omega)
  ·rw [str_len_app,str_len_app,mul_len,mul_len]; exact smallK (by rw [l1'.1,l1'.2.1]; omega)
  ·rcases hm2 with ⟨e,rfl⟩ | ⟨e,m1,m2⟩
   ·exact q0 e (txC 0) _ _ k1 txC0
   ·exact q1 e (.str (txC m)) _ k1 (txC_open m1 m2)
end
end My
end
section
set_option Elab.async false
set_option linter.all false
set_option maxRecDepth 100000
set_option maxHeartbeats 4000000
namespace L2
open PySem PySem.Spec PyProof.Rows
def ExO (C ea:Addr):HO:=.ext fun h=>∃ o,h.get? ea = some o∧o.cls = .ref C
theorem ExO.ok {P:Program} {w:World} {H:Hp} {h:Heap} {C ea:Addr} {o:Obj} (e:h.get? ea = some o) (c:o.cls = .ref C):ObjOk P w H h ea (ExO C ea) :=
 ⟨⟨o,e,c⟩,⟨o,e⟩,fun h1 h2 ⟨o,e,c⟩ k=>⟨o,k o e,c⟩⟩
section
variable {X:Cx} {pins:List (Addr× Obj)} {σ:St} {H:Hp} {s:Shared} {ea C:Addr} {o:Obj}
theorem Inv.track (I:Inv X pins σ H s) (hn:H ea = none) (e:s.heap.get? ea = some o) (c:o.cls = .ref C) (hd:∀ v,o.data≠.cell v) (hl:ea≠X.env.locals) (old:X.s₀.heap.get? ea = none) (hp:∀ p∈X.pn ++ pins,p.1≠ea):Inv X pins σ (upd H ea (ExO C ea)) s where
 ok:=I.ok
 os:=I.os
 bare:=I.bare
 base:=⟨I.base.keep,I.base.slot,fun b ob q n x=>(by rw [upd_ne (fun z=>by rw [z,old] at q; cases q)]; exact I.base.free b ob q n x),I.base.there,
  fun b xs q=>(by have z:=I.base.tups b xs q; rw [upd_ne (ne_of_none z hn)]; exact z),
  fun b o u q=>(by have z:=I.base.frzs b o u q; rw [upd_ne (ne_of_none z hn)]; exact z),
  fun b ps q=>(by obtain ⟨m,z⟩:=I.base.tbls b ps q; exact ⟨m,by rw [upd_ne (ne_of_none z hn)]; exact z⟩)⟩
 loc:=I.loc
 cell:=I.cell
 free:=by rw [upd_ne hl.symm]; exact I.free
 freeC:=fun x c' q=>by
  rw [upd_ne (fun z=>?_)]
  ·exact I.freeC x c' q
  ·obtain ⟨v,o',e',d⟩:=I.cell x c' q
   rw [z,e] at e'
   cases e'
   exact hd v d
 pin:=fun p hp'=>by
  obtain ⟨a1,a2,a3,a4,a5⟩:=I.pin p hp'
  exact ⟨a1,by rw [upd_ne (hp p hp')]; exact a2,a3,a4,a5⟩
 hok:=fun b u q=>by
  by_cases hb:b = ea
  ·subst hb
   rw [upd_same] at q
   cases q
   exact ExO.ok e c
  ·rw [upd_ne hb] at q
   exact (I.hok b u q).stay (fun _ _ _ z=>z) (fun c q=>by rw [upd_ne (ne_of_none q hn)]; exact q) fun c xs q=>by rw [upd_ne (ne_of_none q hn)]; exact q
 len:=I.len
end
theorem find_eraseIdx {α:Type} {p:α→Bool}:∀ {l:List α} {i:Nat} {a:α},l[i]? = some a→p a = false→(l.eraseIdx i).find? p = l.find? p
 | [],_,_,h,_=>by cases h
 | x :: l,0,a,h,hp=>by
  cases h
  show l.find? p = _
  rw [List.find?_cons,hp]
 | x :: l,i + 1,a,h,hp=>by
  show (x :: l.eraseIdx i).find? p = _
  rw [List.find?_cons,List.find?_cons,find_eraseIdx (l:=l) (i:=i) h hp]
section
variable {M:Model} {A:Around} {E:Value→Shared→Prop} {s:Shared}
theorem wpAny_nsDelX {a:Addr} {m} {name:Str} {Q:Bool→Shared→Prop} (hn:s.heap.Ns a m)
  (hQ:∀ h' m',h'.Ns a m'→(∀ x,x≠name→m' x = m x)→Heap.SameBut a s.heap h'→Q (m name).isSome { s with heap:=h' }):wpAny M A (nsDel a name) Q E s:=by
 obtain ⟨o,es,ep,ho,hd,hk,hm⟩:=id hn
 have hany:es.any (·.refKey) = false:=by
  rw [Array.any_eq_false']; intro e he; obtain ⟨n,t,h⟩:=hk e he; simp [DictEntry.refKey,h]
 have hsome:(m name).isSome = es.any (·.key.isStr name):=by
  rw [← hm name]; simp only [nsFind,findBy,Option.isSome_map]
  rw [Bool.eq_iff_iff]; simp only [Array.find?_isSome,Array.any_eq_true]
  constructor
  ·rintro ⟨x,hx,hp⟩; obtain ⟨i,hi,rfl⟩:=Array.mem_iff_getElem.mp hx; exact ⟨i,hi,hp⟩
  ·rintro ⟨i,hi,hp⟩; exact ⟨_,Array.getElem_mem hi,hp⟩
 have hhas:nsHas name o = pure (es.any (·.key.isStr name)):=by
  rw [nsHas_eq]; unfold nsHasByArray; rw [hd]
  show (if (es.any fun x=>x.key.isStr name) = true then _ else _) = _
  generalize (es.any fun x=>x.key.isStr name) = b
  cases b <;> simp [hany]
 unfold nsDel
 refine wpAny_bind (wpAny_loadPart ho ?_)
 rw [hhas]
 refine wpAny_bind (wpAny_pure ?_)
 rw [← hsome]
 cases hmn:(m name).isSome
 ·have:=hQ s.heap m hn (fun _ _=>rfl) (.refl ..)
  rw [hmn] at this
  exact wpAny_pure this
 ·refine wpAny_bind (wpAny_updatePart ho (wpAny_pure ?_))
  have key:∃ m',(s.heap.update a (Obj.dropName name)).Ns a m'∧∀ x,x≠name→m' x = m x:=by
   obtain ⟨cl,d,dt,sl⟩:=o
   subst hd
   cases hi:es.findIdx? (·.key.isStr name) with
   | some i =>
    refine ⟨_,⟨_,_,ep + 1,Heap.get?_update_self _ ho (by simp only [Obj.dropName_eq,Obj.dropNameByArray,hi] <;> rfl),(by simp only [Obj.dropName_eq,Obj.dropNameByArray,hi] <;> rfl),hk.erase i,fun _=>rfl⟩,fun x hx=>?_⟩
    obtain ⟨hlt,hp,_⟩:=Array.findIdx?_eq_some_iff_getElem.mp hi
    rw [← hm x]
    have np:(es[i].key.isStr x) = false:=by
     obtain ⟨n,t,hkey⟩:=hk es[i] (Array.getElem_mem hlt)
     rw [hkey] at hp ⊢
     have hp:(n == name) = true:=hp
     have e:=eq_of_beq hp
     show (n == x) = false
     rw [e]
     exact beq_false_of_ne fun z=>hx z.symm
    unfold nsFind findBy
    congr 1
    rw [← Array.find?_toList,← Array.find?_toList,Array.toList_eraseIdxIfInBounds]
    exact find_eraseIdx (a:=es[i]) (by simp [hlt]) np
   | none=>exact ⟨_,⟨_,_,ep,Heap.get?_update_self _ ho (by simp only [Obj.dropName_eq,Obj.dropNameByArray,hi] <;> rfl),(by simp only [Obj.dropName_eq,Obj.dropNameByArray,hi] <;> rfl),hk,fun _=>rfl⟩,fun x _=>hm x⟩
  obtain ⟨m',hm',hs'⟩:=key
  have:=hQ _ m' hm' hs' (Heap.SameBut.update ..)
  rw [hmn] at this
  exact this
end
section
variable {X:Cx} {pins:List (Addr× Obj)} {σ:St} {H:Hp} {s:Shared}
theorem goes_ok {M:Model} {A:Around} {E:Value→Shared→Prop} {i:Nat} {x:Str} {pos:Pos} {Q:Unit→Shared→Prop} (I:Inv X pins σ H s) (hN:X.N.Nodup) (hi:X.N[i]? = some x) (hk:X.env.kindOf x = some .local)
  (h:∀ s',Inv X pins (σ.set i none) H s'→Q () s'):wpAny M A (do bindName X.env x .none; unbindBehindTheSuite X.env x pos) Q E s:=by
 obtain ⟨m,hn,hl⟩:=id I.loc
 have hcls:(X.env.scope.kind == .class || (X.env.scope.kind == .module && X.env.locals != X.env.globals)) = false:=by rw [I.ok.kind]; rfl
 have hiσ:i < σ.length:=by rw [I.len]; exact (List.getElem?_eq_some_iff.mp hi).1
 have cne:=I.cne
 refine wpAny_bind (wpAny_bindName (wpAny_storeName_local hk hn (fun h₁ hn₁ hs₁=>?_) hcls))
 unfold unbindBehindTheSuite
 refine wpAny_onRaise ?_
 unfold unbindName
 refine wpAny_bind (wpAny_point (wpAny_bind ?_))
 unfold deleteName
 simp only [hk,hcls]
 rw [if_neg (by decide)]
 refine wpAny_bind (wpAny_nsDelX hn₁ fun h' m₂ hn' hm₂ hs₂=>?_)
 simp only [if_true,Option.isSome_some,Bool.not_true,Bool.false_eq_true,if_false]
 have hs:=hs₁.trans hs₂
 obtain ⟨oL,_,_,hoL,_⟩:=id hn
 have tracked:HOk X.prog X.w H h':=fun b ob e=>by
  refine (I.hok b ob e).stay (fun c w' hc q=>(hs.2 c ?_).trans q) (fun _ q=>q) fun _ _ q=>q
  rintro rfl
  rcases hc with rfl | hc
  ·rw [I.free] at e; cases e
  ·rw [I.free] at hc; cases hc
 refine wpAny_pure (wpAny_point (h _ ⟨I.ok,I.os,I.bare,⟨fun b o e n hb hx=>?_,fun b o e n hb hx=>?_,I.base.free,fun b o e hx=>?_,I.base.tups,I.base.frzs,I.base.tbls⟩,⟨m₂,hn',fun j y v' e1 e2 e3=>?_⟩,fun y c e=>?_,I.free,I.freeC,fun p hp=>?_,tracked,by simpa using I.len⟩))
 ·exact (hs.2 b (Nat.ne_of_lt (Nat.lt_of_lt_of_le (Heap.lt_size e) I.ok.above))).trans (I.base.keep b o e n hb hx)
 ·obtain ⟨sl,e1⟩:=I.base.slot b o e n hb hx
  exact ⟨sl,(hs.2 b (Nat.ne_of_lt (Nat.lt_of_lt_of_le (Heap.lt_size e) I.ok.above))).trans e1⟩
 ·obtain ⟨o',e1⟩:=I.base.there b o e hx
  exact ⟨o',(hs.2 b (Nat.ne_of_lt (Nat.lt_of_lt_of_le (Heap.lt_size e) I.ok.above))).trans e1⟩
 ·by_cases hj:j = i
  ·subst hj
   rw [List.getElem?_set_self hiσ] at e2
   cases e2
  ·rw [List.getElem?_set_ne (Ne.symm hj)] at e2
   obtain ⟨u',r',q⟩:=hl j y v' e1 e2 e3
   refine ⟨u',r',?_⟩
   rcases q with ⟨k,e⟩ | ⟨k,c,e,z⟩
   ·refine .inl ⟨k,?_⟩
    have ne:y≠x:=fun e=>hj (nodup_ix hN e1 (e ▸ hi))
    rw [hm₂ y ne]
    simp [ne,e]
   ·exact .inr ⟨k,c,e,z.sameBut hs (cne y c e)⟩
 ·obtain ⟨w',z⟩:=I.cell y c e
  exact ⟨w',z.sameBut hs (cne y c e)⟩
 ·obtain ⟨e,n,ne,nf,d⟩:=I.pin p hp
  exact ⟨(hs.2 p.1 ne).trans e,n,ne,nf,d⟩
end
structure AsOk (X:Cx) (pins:List (Addr× Obj)) (H:Hp) (ea:Addr):Prop where
 hn:H ea = none
 old:X.s₀.heap.get? ea = none
 loc:ea≠X.env.locals
 pn:∀ p∈X.pn ++ pins,p.1≠ea
def PHA (X:Cx) (hs:List ExceptHandler) (th:Addr→TS):Prop:=∀ (pins:List (Addr× Obj)) (s:Shared) (σ:St) (H:Hp) (D:Ends) (B:Heap) (ea C:Addr) (a0:Value),Land X pins σ H B ea C a0 s→AsOk X pins H ea→th C D σ H →
 wpAny (model X.prog X.w) X.A (handleBy (.ref ea) X.env hs) (SP X pins D) X.xe s
def tHandAs (K:PySem.W.Frag) (C0:Addr) (i:Nat) (t:TS) (r:Addr→TS):Addr→TS:=fun C D σ H=>(PySem.W.exmOne K (.ref C) (.ref C0) = some true∧∀ ea,H ea = none→t { D with nx:=fun σ' H'=>D.nx (σ'.set i none) H',bk:=fun σ' H'=>D.bk (σ'.set i none) H',ct:=fun σ' H'=>D.ct (σ'.set i none) H' } (σ.set i (some (.ref ea))) (upd H ea (ExO C ea)))∨(PySem.W.exmOne K (.ref C) (.ref C0) = some false∧r C D σ H)
section
variable {X:Cx} {x n:Str} {i:Nat} {np pos:Pos} {b0:Stmt} {suite:List Stmt} {hs:List ExceptHandler} {C0:Addr} {t:TS} {r:Addr→TS}
theorem pha_nil:PHA X hs tLost:=fun _ _ _ _ _ _ _ _ _ _ _ h=>h.elim
theorem pha_cons (hm:X.mg x = some (.ref C0)) (hg:Gl X x) (hN:X.N.Nodup) (hi:X.N[i]? = some n) (hk:X.env.kindOf n = some .local) (hx:Loc X.env.scope n) (ht:∀ u,PSs (X.hold u) (b0 :: suite) t) (hr:PHA X hs r) (hdb:(x == ("__debug__" : Str)) = false:=by decide) (hf:X.fn n = true∨X.env.scope.names.lookup n = some .local:=by first | exact .inl rfl | exact .inr rfl | assumption) :
  PHA X (.ExceptHandler (some (.Name x np)) (some n) (b0 :: suite) pos :: hs) (tHandAs X.K C0 i t r):=by
 intro pins s σ H D B ea C a0 L O h
 refine wpAny_handleBy_cons (codeAny_handlers_test (ld_glob (X:=X.hold (.ref ea)) (L.inv.hold _) hg hm ?_ hdb)) (by intro q; cases q)
 have LT:PySem.W.Looks (model X.prog X.w) s.heap (typeOf (.ref ea)) (.ref C):=by
  obtain ⟨ob,hob,hoc⟩:=L.fly.there
  rw [← hoc]
  exact PySem.W.Looks.ld hob |>.andThen .now
 rcases h with ⟨hx',h⟩ | ⟨hx',h⟩
 ·refine (PySem.W.exm_one L.inv.kIn LT hx').here ?_
  refine codeAny_handlers_suite_as ?_
  refine lands_againW L.fly fun h6 fl6 up6=>?_
  have I6:=(L.go h6 fl6.1 up6).hold (.ref ea)
  obtain ⟨_,_,_,oe,vs,T,oT,ts,he,⟨hc,_⟩,hd,_⟩:=id fl6
  have I7:Inv (X.hold (.ref ea)) pins σ (upd H ea (ExO C ea)) { s with heap:=h6 }:=I6.track O.hn he hc (fun v z=>by rw [hd] at z; cases z) O.loc O.old O.pn
  refine store_ok (X:=X.hold (.ref ea)) I7 hN hi hx (v:=.ref ea) (u:=.ref ea) rfl (fun s' I8=>?_) hf
  refine wpAny_mono (ht (.ref ea) pins _ _ _ _ I8 (h ea O.hn)) (fun f s2 q=>?_) fun _ _ z=>False.elim z
  have q:=q.unhold L.inv.ok
  show wpAny _ _ (do bindName X.env n .none; unbindBehindTheSuite X.env n pos) _ _ s2
  cases f with
  | next=>obtain ⟨σ',H',I,q⟩:=q; exact goes_ok I hN hi hk fun s3 I3=>⟨_,H',I3,q⟩
  | brk=>obtain ⟨σ',H',I,q⟩:=q; exact goes_ok I hN hi hk fun s3 I3=>⟨_,H',I3,q⟩
  | cont=>obtain ⟨σ',H',I,q⟩:=q; exact goes_ok I hN hi hk fun s3 I3=>⟨_,H',I3,q⟩
  | ret v=>obtain ⟨v',σ',H',I,r,q⟩:=q; exact goes_ok I hN hi hk fun s3 I3=>⟨v',_,H',I3,r,q⟩
 ·refine (PySem.W.exm_one L.inv.kIn LT hx').here ?_
  exact hr pins s σ H D B ea C a0 L O h
end
section
variable {X:Cx} {hs:List ExceptHandler} {pos:Pos}
theorem ps_tryA {body:List Stmt} {h0:ExceptHandler} {tb:XK→TS} {th:Addr→TS} (hb:PXs X body tb) (hh:PHA X (h0 :: hs) th) (hst:X.stack = X.env :: X.outer) (hf:X.env.frame = some X.env.locals) (hex:X.ex = []:=by rfl):PS X (.Try body (h0 :: hs) [] [] pos) (tTry th tb):=by
 intro pins s σ H D I h
 refine wpAny_Try_except (wpAny_mono (hb pins s σ H D _ (fun e s₁=>wpAny (model X.prog X.w) X.A (noteFrame e X.env) (fun _ s₂=>wpAny (model X.prog X.w) X.A (setFlight e none) (fun _ s₃=>wpAny (model X.prog X.w) X.A (handleBy e X.env (h0 :: hs)) (SP X pins D) X.xe s₃) X.xe s₂) X.xe s₁) I h ?_) (fun f s1 q=>?_) fun _ _ z=>z)
 ·intro H1 s1 e' s' I1 hc
  obtain ⟨ea,C,a0,H',B,rfl,⟨C',e1,hE⟩,os,bare,un,hok,fl,cov,trb,hea⟩:=hc
  cases e1
  have nfr:ea∉frs X.stack:=fun z=>by
   obtain ⟨_,o2,q2,nf⟩:=fl.2.2.1.mem z
   obtain ⟨_,_,_,oe,vs,T,oT,ts,he,_,hd,_⟩:=id fl
   rw [q2] at he
   cases he
   exact nf vs hd
  have new:∀ o,s1.heap.get? ea = some o→False:=fun o q=>by
   obtain ⟨o',z⟩:=cov ea o q nfr
   rw [fl.2.1] at z
   cases z
  have O:AsOk X pins H' ea:=by
   refine ⟨hea,?_,fun z=>?_,fun p hp z=>?_⟩
   ·cases q:X.s₀.heap.get? ea with
    | none=>rfl
    | some o =>
     obtain ⟨o',z⟩:=I1.base.there ea o q (by rw [hex]; simp)
     exact (new o' z).elim
   ·obtain ⟨m,hn,_⟩:=I1.loc
    obtain ⟨o,_,_,ho,_⟩:=hn
    exact new o (by rw [z]; exact ho)
   ·exact new p.2 (by rw [← z]; exact (I1.pin p hp).1)
  have fl0:=fl
  rw [hst] at fl0
  refine wpAny_looks_onW (I1.ok.frames.trans (by rw [hst])) hf fl0 fun h4 held4 up4=>?_
  refine wpAny_landsW held4 fun h5 fl5 up5=>?_
  have fl5':Heap.FlyingW B X.stack ea (.ref C) a0 h5:=by rw [hst]; exact fl5
  have up:=up4.trans up5
  refine hh pins _ σ H' D B ea C a0 ⟨land I1 os bare un hok fl cov trb fl5.1 up,fl5',fun h' st' up'=>?_⟩ O hE
  exact land I1 os bare un hok fl cov trb st' (up.trans up')
 ·cases f with
  | next=>exact wpAny_execs_nil q
  | brk=>exact q
  | cont=>exact q
  | ret v=>exact q
end
end L2
end
section
set_option Elab.async false
set_option linter.all false
set_option maxRecDepth 100000
set_option maxHeartbeats 4000000
namespace L2
open PySem PySem.Spec PySem.Calls PyProof.Rows PySem.W PySem.Builtin PySem.Builtin.ObjectAttr PySem.Builtin.Getset_descriptor
section
variable {K:PySem.W.Frag} {D x:Addr}
theorem oc_look {M:Model} {h:Heap} (p:∃ o,h.get? x = some o∧o.cls = .ref D):Looks M h (typeOf (.ref x)) (.ref D):=by
 obtain ⟨o,e,c⟩:=p
 exact c ▸ (Looks.ld e).andThen .now
theorem oc_find {M:Model} {h:Heap} {name:Str} {a g:Value} (X:K.In h) (ha:findIn K (.ref D) name = some (some a)) (hg:specialIn K a "__get__" = some (some g)) (ht:takesIn K a = some true):Looks M h (find (.ref x) (.ref D) name) (.bind g a):=by
 have L2:Looks M h (getOf (some a)) (some g):=looks_specialIn X hg
 have L3:Looks M h (dataDescriptor? (some a) (some g)) (some (g,a)):=(looks_takesIn (M:=M) X ht).andThen .now
 exact (looks_findIn (M:=M) X ha).andThen (L2.andThen (L3.andThen (Looks.tag .now)))
section
variable {prog:Program} {w:World} {A:Around} {E:Value→Shared→Prop} {s:Shared}
theorem oc_get {R:Result→Shared→Prop} {tp:Value} (X:K.In s.heap) (p:∃ o,s.heap.get? x = some o∧o.cls = .ref D) (hm:mroIn K D (.type "object") = some true) (h:R (.ok (.ret (.ref D))) s) :
  codeAny (model prog w) A (.call (.builtin "getset_descriptor.__get__") ⟨[.builtin "object.__class__", .ref x,tp],[]⟩) R s:=by
 obtain ⟨hh,g,dr,t,os⟩:=s
 have L0:=oc_look (M:=model prog w) p
 have L1:=looks_mroIn (M:=model prog w) X hm
 refine codeAny_call_builtin KF.slot_gs.plain KF.entry_gs (KF.slot_gs.check _ _ _ _ _ _ _ _ KF.type_class (KF.args_gs _ _ _) ?_)
 unfold Builtin.«getset_descriptor.__get__» descrGet
 rw [dga_obj]
 refine wpAny_bind (wpAny_pure ?_)
 unfold descrGetter descrCheckInstance descrNameAndClass isInstance
 simp only [KF.owner_class]
 repeat lk
 refine ⟨Code.quiet_builtin _ (by decide +kernel),codeAny_builtin KF.entry_class ?_⟩
 unfold Builtin.«object.__class__» shownTypeOf
 repeat lk
 exact h
theorem slot_bga:Slot "BaseException" "__getattribute__" "BaseException.__getattribute__" :=
 .of (owner:= "BaseException") (n:= "__getattribute__") (by rw [typeLookup_type,builtinLookup_eq_fast]; kernel_rfl) (by decide +kernel) (by decide +kernel) (by decide +kernel)
  (by first | exact .inl (by decide +kernel) | exact .inr (by decide +kernel)) (by rw [isSubtype_type]; kernel_rfl)
theorem oc_class {Q:Option Value→Shared→Prop} (hga:findIn K (.ref D) "__getattribute__" = some (some (.builtin "BaseException.__getattribute__"))) (hgn:findIn K (.ref D) "__getattr__" = some none) (hbe:subIn K (.ref D) (.type "BaseException") = some true) (ha:findIn K (.ref D) "__class__" = some (some (.builtin "object.__class__")))
  (hn:specialIn K (.builtin "object.__class__") "__get__" = some (some (.builtin "getset_descriptor.__get__"))) (htk:takesIn K (.builtin "object.__class__") = some true) (hm:mroIn K D (.type "object") = some true)
  (X:K.In s.heap) (p:∃ o,s.heap.get? x = some o∧o.cls = .ref D) (h:Q (some (.ref D)) { s with toks:=s.toks + 1 }):wpAny (model prog w) A (getAttr? (.ref x) "__class__") Q E s:=by
 obtain ⟨hh,g,d,t,os⟩:=s
 have L0:=oc_look (M:=model prog w) p
 have L1:=looks_findIn (M:=model prog w) X hga
 have L2:=oc_find (M:=model prog w) (x:=x) X ha hn htk
 have L3:Looks (model prog w) hh (hookBefore (.ref D)) none:=looks_hook X (by rw [if_pos (show onTheHeap (Value.ref D) = true from rfl)]; exact hgn)
 unfold getAttr? getAttrBy? getAttrBy
 refine wpAny_bind (wpAny_mkText (wpAny_bind (wpAny_attempt (wpAny_holding (wpAny_bind (L0.at (wpAny_bind (L1.at ?_))))))))
 dsimp only
 rw [show (onTheHeap (.ref D) && Value.builtin "BaseException.__getattribute__" == Value.builtin "object.__getattribute__") = false from by rw [show (Value.builtin "BaseException.__getattribute__" == Value.builtin "object.__getattribute__") = false from by decide +kernel,Bool.and_false],if_neg (by decide)]
 unfold getAttrByItsOwn
 refine wpAny_bind (L3.at (wpAny_bind (wpAny_attempt (wpAny_holding ?_))))
 unfold callGetattribute
 rw [show (false && onTheHeap (Value.builtin "BaseException.__getattribute__")) = false from rfl,if_neg (by decide)]
 unfold boundAndCalled
 rw [slot_bga.bind]
 refine wpAny_bind (wpAny_pure ?_)
 show wpAny _ _ (call (.builtin "BaseException.__getattribute__") [.ref x,.str "__class__" t]) _ _ _
 refine wpAny_call (codeAny_call_builtin slot_bga.plain PySem.F.entry_bexc_ga ?_)
 refine @check_slot (model prog w) _ _ ⟨hh,g,d,t + 1,os⟩ "BaseException.__getattribute__" "BaseException" "__getattribute__" (.ref x) [.str "__class__" t] [] _ (by decide +kernel) (by decide +kernel) (L0.andThen (looks_subIn X hbe)) (PySem.F.args_bexc_ga _ _) ?_
 unfold Builtin.«object.__getattribute__»
 refine wpAny_bind (wpAny_pure ?_)
 dsimp only
 refine wpAny_bind (wpAny_pure (wpAny_bind (L0.at (wpAny_bind (L2.at ?_)))))
 show wpAny _ _ (bindTo (.builtin "getset_descriptor.__get__") (.builtin "object.__class__") (.ref x) (.ref D)) _ _ _
 unfold bindTo
 refine wpAny_bind (wpAny_holding (wpAny_call (oc_get (s:=⟨hh,g,d,t + 1,os⟩) X p hm ?_)))
 refine wpAny_pure ?_
 refine handed_on (v:=.ref D) rfl ?_
 exact wpAny_pure h
end
theorem kitx_cls (hga:findIn K (.ref D) "__getattribute__" = some (some (.builtin "BaseException.__getattribute__"))) (hgn:findIn K (.ref D) "__getattr__" = some none) (hbe:subIn K (.ref D) (.type "BaseException") = some true) (hc:(clsIn K D).isSome = true) (ha:findIn K (.ref D) "__class__" = some (some (.builtin "object.__class__")))
  (hn:specialIn K (.builtin "object.__class__") "__get__" = some (some (.builtin "getset_descriptor.__get__"))) (htk:takesIn K (.builtin "object.__class__") = some true) (hm:mroIn K D (.type "object") = some true) :
  KitX K (.ref x) (.ref D) (fun h=>∃ o,h.get? x = some o∧o.cls = .ref D) where
 ty:=fun _ _ _ p=>oc_look p
 it:=fun _ _ X _=>by
  obtain ⟨cdD,hcD⟩:=Option.isSome_iff_exists.mp hc
  unfold clsIn at hcD
  split at hcD
  ·rename_i c' d' cd' sl' ho
   intro A' Q' E' s' k q
   unfold isType loadHead
   exact wpAny_bind (wpAny_loadPart (k _ _ (X _ _ ho)) (wpAny_pure q))
  ·cases hcD
 ne:=fun h tp dd its n sl X htp=>by
  obtain ⟨cdD,hcD⟩:=Option.isSome_iff_exists.mp hc
  refine Bool.eq_false_iff.mpr fun q=>?_
  have e:D = tp:=Value.ref.inj (beq_iff_eq.mp q)
  subst e
  unfold clsIn at hcD
  split at hcD
  ·rename_i c' d' cd' sl' ho
   have z:=(X _ _ ho).symm.trans htp
   cases z
  ·cases hcD
 ca:=fun X p k=>oc_class hga hgn hbe ha hn htk hm X p k
end
structure ClsE (K:PySem.W.Frag) (D:Addr):Prop where
 hg:findIn K (.ref D) "__getattribute__" = some (some (.builtin "BaseException.__getattribute__"))
 gn:findIn K (.ref D) "__getattr__" = some none
 be:subIn K (.ref D) (.type "BaseException") = some true
 hc:(clsIn K D).isSome = true
 ha:findIn K (.ref D) "__class__" = some (some (.builtin "object.__class__"))
 hn:specialIn K (.builtin "object.__class__") "__get__" = some (some (.builtin "getset_descriptor.__get__"))
 ht:takesIn K (.builtin "object.__class__") = some true
 hm:mroIn K D (.type "object") = some true
def rIsiE (K:PySem.W.Frag):List V→Hp→VK→Prop:=fun xs H Q=>∃ ea C D b,xs = [.ref ea,.ref D]∧H ea = some (ExO C ea)∧ClsE K C∧kitOne K (.ref C) (.ref D) = some b∧Q (.bl b) H
theorem call_isinstE {X:Cx}:CallR X (.builtin "isinstance") (rIsiE X.K):=by
 intro pins s σ H xs us Q I r h
 obtain ⟨ea,C,D,b,rfl,he,ce,e,q⟩:=h
 obtain ⟨u,v,rfl,ru,rv⟩:=r.two
 cases rv
 cases ru
 exact kia_one (kitx_cls ce.hg ce.gn ce.be ce.hc ce.ha ce.hn ce.ht ce.hm) I.kIn (I.hok _ _ he).1 e (fun z=>nomatch z) fun tk=>⟨.bl b,H,I.tok _,rfl,q⟩
end L2
end
section
set_option Elab.async false
set_option linter.all false
set_option maxRecDepth 100000
set_option maxHeartbeats 4000000
namespace L2
open PySem PySem.Spec PySem.Calls PyProof.Rows PySem.W
def rIsiV (K:PySem.W.Frag):List V→Hp→VK→Prop:=fun xs H Q=>∃ ea C n b,xs = [.ref ea,.ty n]∧H ea = some (ExO C ea)∧ClsE K C∧kitOne K (.ref C) (.type n) = some b∧Q (.bl b) H
theorem call_isinstV {X:Cx}:CallR X (.builtin "isinstance") (rIsiV X.K):=by
 intro pins s σ H xs us Q I r h
 obtain ⟨ea,C,D,b,rfl,he,ce,e,q⟩:=h
 obtain ⟨u,v,rfl,ru,rv⟩:=r.two
 cases rv
 cases ru
 exact kia_one (kitx_cls ce.hg ce.gn ce.be ce.hc ce.ha ce.hn ce.ht ce.hm) I.kIn (I.hok _ _ he).1 e (fun z=>nomatch z) fun tk=>⟨.bl b,H,I.tok _,rfl,q⟩
section
variable {X:Cx} {e:Expr} {pos:Pos}
end
section
variable {P:Program} {w:World} {K:PySem.W.Frag} {mg:Str→Option Value} {base:Heap}
end
section
variable {X:Cx} {x:Str} {p pos:Pos} {e:Expr} {es:List Expr} {t:TA} {k j:Nat} {ps:List Str} {sp:Sp}
end
end L2
end
section
set_option Elab.async false
set_option linter.all false
set_option maxRecDepth 100000
set_option maxHeartbeats 4000000
namespace L2
open PySem PySem.Spec PyProof.Rows
section
variable {prog:Program} {w:World} {A:Around} {s:Shared}
end
section
variable {prog:Program} {w:World} {A:Around} {E:Value→Shared→Prop} {s:Shared}
end
section
variable {X:Cx}
end
section
variable {prog:Program} {w:World} {A:Around} {R:Result→Shared→Prop} {it S:Addr} {fp wr:List Addr} {n:Nat} {P:Nat→Value→Prop} {St:Nat→Heap→Prop} {kw:List (Str× Value)}
end
section
variable {prog:Program} {w:World} {A:Around} {E:Value→Shared→Prop} {s:Shared}
end
section
variable {X:Cx} {p pos kp:Pos} {e1 e2:Expr} {t tk:TA}
end
end L2
end
section
set_option Elab.async false
set_option linter.all false
set_option maxRecDepth 100000
set_option maxHeartbeats 4000000
namespace My
open PySem L2
def spRdO (K:PySem.W.Frag) (cNT:Addr):Sp:=fun vs H _ E=>∃ (v:V) (t:Value),vs = [v]∧TyOf K H v t∧PySem.W.kitOne K t (.type "str") = some false∧∀ H',Same H H'→E (.ref cNT) none H'
structure IsN (K:PySem.W.Frag) (cNT cWE:Addr):Prop where
 ce:ClsE K cNT
 k0:PySem.W.kitOne K (.ref cNT) (.ref cNT) = some true
 k7:PySem.W.kitOne K (.ref cNT) (.type "ValueError") = some true
 we:PySem.W.exmOne K (.ref cNT) (.ref cWE) = some true
 wn:PySem.W.exmOne K (.ref cNT) (.ref cNT) = some true
def spAsk (K:PySem.W.Frag):Sp:=fun vs H Q _=>∃ (v:V) (wd:Bool),vs = [v,.bl wd]∧((NoT K H v∧∀ r H',Same H H'→H' r = some (.tup [.str "text", .non])→Q (.ref r) H')∨(∃ x ins,v = .str x∧GoodT x ins∧∀ r v' outs t H',Same H H'→H' r = some (.tup [.str "none", v'])→NamedAt H' v' ins outs t→Q (.ref r) H'))
theorem no_read {K:PySem.W.Frag} {cNT cTw cNN:Addr} {H:Hp} {x:Str} {Q:VK} {E:XK} (h:NoT K H (.str x)) (e:∀ H',Same H H'→E (.ref cNT) none H'):spRead cNT cTw cNN [.str x] H Q E:=by
 cases h with
 | long l l2=>exact ⟨x,rfl,Nat.le_trans l2 (by decide),.inl ⟨l,e⟩⟩
 | bad l b=>exact ⟨x,rfl,Nat.le_trans l (by decide),.inr (.inl ⟨l,b,e⟩)⟩
 | many l ok mo ins outs d t hd W c c2=>exact ⟨x,rfl,Nat.le_trans l (by decide),.inr (.inr ⟨l,ok,mo,ins,outs,d,t,hd,W,c2,.inl ⟨c,e⟩⟩)⟩
 | other t ty k =>
  cases ty
  exact absurd (show some true = some false from k) (by decide)
theorem good_read {cNT cTw cNN:Addr} {H:Hp} {x:Str} {ins:List Str} {Q:VK} {E:XK} (h:GoodT x ins) (q:∀ v outs t H',Same H H'→NamedAt H' v ins outs t→Q v H'):spRead cNT cTw cNN [.str x] H Q E:=by
 cases h with
 | mk l ok mo outs d t hd W c nd ck=>exact ⟨x,rfl,Nat.le_trans l (by decide),.inr (.inr ⟨l,ok,mo,ins,outs,d,t,hd,W,Nat.le_trans c (by decide),.inr (.inr ⟨c,nd,.inr ⟨ck,fun v H' g n=>q v outs t H' g n⟩⟩)⟩)⟩
theorem not_str {K:PySem.W.Frag} {H:Hp} {v:V} (h:NoT K H v):(∃ x,v = .str x)∨∃ t,TyOf K H v t∧PySem.W.kitOne K t (.type "str") = some false:=by
 cases h with
 | long=>exact .inl ⟨_,rfl⟩
 | bad=>exact .inl ⟨_,rfl⟩
 | many=>exact .inl ⟨_,rfl⟩
 | other t ty k=>exact .inr ⟨t,ty,k⟩
theorem named_mono {H H':Hp} {v:V} {ins outs:List Str} {t:Nd} (h:NamedAt H v ins outs t) (g:Same H H'):NamedAt H' v ins outs t:=by
 obtain ⟨th,i,o,vb,e,h1,h2,h3,h4⟩:=h
 exact ⟨th,i,o,vb,e,g _ _ h1,g _ _ h2,g _ _ h3,h4.mono g.tp⟩
section
variable {P:Program} {w:World} {K:PySem.W.Frag} {mg:Str→Option Value} {base:Heap} {cNT cTw cNN cWE:Addr}
theorem ok_readO (F:FunM K mg "read" ["text"] s_read) (T:Txt mg) (cs:Cst K mg cNT):CalleeX P w K mg base 111 "read" ["text"] (spRdO K cNT):=by
 refine F.okX sc_read (fun vs H Q E h=>?_) (fun f cdv A outer s H vs Q E hr h=>?_)
 ·obtain ⟨v,t,rfl,_⟩:=h; rfl
 obtain ⟨v,t,rfl,ty,k,e⟩:=h
 refine ⟨_,(pss_cons (ps_if (pt_not (pt_val (pe_callB call_isinst rfl T.n_isinstance PyProof.Rows.boot_isinstance (pa_cons (pv 0) (pa_cons (pe_bltn rfl T.n_str (by decide +kernel) (v:=.ty "str") rfl) pa_nil)))))
   (pss_one (ps_raise cs.excNT cs.noText rfl (pa_cons pe_str pa_nil)))
   pss_nil)
  pss_never),?_⟩
 refine ⟨_,rfl,_, "str", _,false,rfl,ty,k,_,rfl,iteT ?_⟩
 exact ⟨by show 1≤sizeLine; decide,e _ (Same.refl _)⟩
seal PSs PS PE PA PT
set_option maxHeartbeats 16000000 in
theorem ok_ask (F:FunM K mg "_law_asked" ["_law_text", "_law_wide"] s__law_asked) (T:Txt mg) (hNT:mg "NoText" = some (.ref cNT)) (hWE:mg "WiseError" = some (.ref cWE)) (I:IsN K cNT cWE) (C_read:CalleeX P w K mg base 111 "read" ["text"] (spRead cNT cTw cNN)) (C_readO:CalleeX P w K mg base 111 "read" ["text"] (spRdO K cNT)):Callee P w K mg base 112 "_law_asked" ["_law_text", "_law_wide"] (spAsk K):=by
 refine F.ok sc__law_asked (fun vs H Q E h=>?_) (fun f cdv A outer s H vs Q E hr h=>?_)
 ·obtain ⟨v,wd,rfl,_⟩:=h; rfl
 obtain ⟨v,wd,rfl,h⟩:=h
 have str:(∃ x,v = .str x)∨∃ t,(TyOf K H v t∧PySem.W.kitOne K t (.type "str") = some false)∧∀ r H',Same H H'→H' r = some (.tup [.str "text", .non])→Q (.ref r) H':=by
  rcases h with ⟨n,q⟩ | ⟨x,ins,e,_⟩
  ·exact (not_str n).imp id fun ⟨t,z⟩=>⟨t,z,q⟩
  ·exact .inl ⟨x,e⟩
 rcases str with ⟨x,rfl⟩ | ⟨t,⟨ty,k⟩,q⟩
 ·refine ⟨_,(pss_cons (ps_set (i:=2) sc__law_asked.nd rfl (Or.inl rfl) pe_str)
  (pss_cons (ps_set (i:=3) sc__law_asked.nd rfl (Or.inl rfl) pe_non)
  (pss_cons (ps_if (pt_val (pv 1))
   (pss_cons (ps_tryA (pxs_set (i:=3) (px_call C_read hr rfl (pa_cons (pv 0) pa_nil)) sc__law_asked.nd rfl (Or.inl rfl)) (pha_cons (i:=4) hWE rfl sc__law_asked.nd rfl rfl (Or.inl rfl) (fun u=>pss_one (ps_set (i:=2) sc__law_asked.nd rfl (Or.inl rfl) (pe_ix (show IxR _ (rIxL K) from ix_list) (pe_lst (pa_cons pe_str (pa_cons pe_str pa_nil))) (pe_callTy call_intK rfl T.n_int (by decide +kernel) (pa_cons (pe_and (pe_callB (show CallR _ (.builtin "isinstance") (rIsiE K) from call_isinstE) rfl T.n_isinstance PyProof.Rows.boot_isinstance (pa_cons (pv 4) (pa_cons (pe_glob (v:=.ref cNT) rfl hNT rfl) pa_nil))) (pe_one (pe_callB (show CallR _ (.builtin "isinstance") (rIsiV K) from call_isinstV) rfl T.n_isinstance PyProof.Rows.boot_isinstance (pa_cons (pv 4) (pa_cons (pe_bltn rfl T.n_ValueError (by decide +kernel) (v:=.ty "ValueError") rfl) pa_nil))))) pa_nil)) (fun _ _=>rfl)))) pha_nil) rfl rfl)
   (pss_one (ps_ret (pe_tup (pa_cons (pv 2) (pa_cons (pv 3) pa_nil))))))
   pss_nil)
  (pss_cons (ps_try (pxs_set (i:=3) (px_call C_read hr rfl (pa_cons (pv 0) pa_nil)) sc__law_asked.nd rfl (Or.inl rfl)) (ph_cons hNT rfl (fun u=>pss_one (ps_set (i:=2) sc__law_asked.nd rfl (Or.inl rfl) pe_str)) ph_nil) rfl rfl)
  (pss_one (ps_ret (pe_tup (pa_cons (pv 2) (pa_cons (pv 3) pa_nil))))))))),?_⟩
  refine ⟨_,rfl,_,rfl,?_⟩
  cases wd with
  | true =>
   refine iteT ⟨_,rfl,?_⟩
   dsimp only [tNil]
   rcases h with ⟨n,q⟩ | ⟨x,ins,e,G,q⟩
   ·refine no_read n fun H1 g1=>⟨cNT,rfl,.inl ⟨I.we,fun ea hea=>?_⟩⟩
    have ka:=same_new hea (ExO cNT ea)
    refine ⟨(by show 2≤sizeLine; decide),fun l1 h1=>?_⟩
    have k1:=same_new h1 (.lst [V.str "other", .str "text"])
    have ee:=k1 _ _ (upd_same (H:=H1) (a:=ea) (o:=ExO cNT ea))
    refine ⟨_,rfl,ea,cNT,cNT,true,rfl,ee,I.ce,I.k0,_,rfl,iteT ⟨_,rfl,ea,cNT,_,true,rfl,ee,I.ce,I.k7,.inr ⟨true,rfl,l1,_,_,.str "text", rfl,rfl,SqL.of upd_same,atI_nat (j:=1) rfl,?_⟩⟩⟩
    refine ⟨_,rfl,_,rfl,(by show 2≤sizeLine; decide),fun r hr=>?_⟩
    exact q r _ (((g1.trans ka).trans k1).trans (same_new hr _)) upd_same
   ·cases e
    refine good_read G fun v' outs t H1 g1 N1=>?_
    refine ⟨_,rfl,_,rfl,(by show 2≤sizeLine; decide),fun r hr=>?_⟩
    exact q r v' outs t _ (g1.trans (same_new hr _)) upd_same (named_mono N1 (same_new hr _))
  | false =>
   refine iteF ⟨_,rfl,?_⟩
   dsimp only [tNil]
   rcases h with ⟨n,q⟩ | ⟨x,ins,e,G,q⟩
   ·refine no_read n fun H1 g1=>⟨cNT,rfl,.inl ⟨I.wn,?_⟩⟩
    refine ⟨_,rfl,_,rfl,(by show 2≤sizeLine; decide),fun r hr=>?_⟩
    exact q r _ (g1.trans (same_new hr _)) upd_same
   ·cases e
    refine good_read G fun v' outs t H1 g1 N1=>?_
    refine ⟨_,rfl,_,rfl,(by show 2≤sizeLine; decide),fun r hr=>?_⟩
    exact q r v' outs t _ (g1.trans (same_new hr _)) upd_same (named_mono N1 (same_new hr _))
 ·refine ⟨_,(pss_cons (ps_set (i:=2) sc__law_asked.nd rfl (Or.inl rfl) pe_str)
  (pss_cons (ps_set (i:=3) sc__law_asked.nd rfl (Or.inl rfl) pe_non)
  (pss_cons (ps_if (pt_val (pv 1))
   (pss_cons (ps_tryA (pxs_set (i:=3) (px_call C_readO hr rfl (pa_cons (pv 0) pa_nil)) sc__law_asked.nd rfl (Or.inl rfl)) (pha_cons (i:=4) hWE rfl sc__law_asked.nd rfl rfl (Or.inl rfl) (fun u=>pss_one (ps_set (i:=2) sc__law_asked.nd rfl (Or.inl rfl) (pe_ix (show IxR _ (rIxL K) from ix_list) (pe_lst (pa_cons pe_str (pa_cons pe_str pa_nil))) (pe_callTy call_intK rfl T.n_int (by decide +kernel) (pa_cons (pe_and (pe_callB (show CallR _ (.builtin "isinstance") (rIsiE K) from call_isinstE) rfl T.n_isinstance PyProof.Rows.boot_isinstance (pa_cons (pv 4) (pa_cons (pe_glob (v:=.ref cNT) rfl hNT rfl) pa_nil))) (pe_one (pe_callB (show CallR _ (.builtin "isinstance") (rIsiV K) from call_isinstV) rfl T.n_isinstance PyProof.Rows.boot_isinstance (pa_cons (pv 4) (pa_cons (pe_bltn rfl T.n_ValueError (by decide +kernel) (v:=.ty "ValueError") rfl) pa_nil))))) pa_nil)) (fun _ _=>rfl)))) pha_nil) rfl rfl)
   (pss_one (ps_ret (pe_tup (pa_cons (pv 2) (pa_cons (pv 3) pa_nil))))))
   pss_nil)
  (pss_cons (ps_try (pxs_set (i:=3) (px_call C_readO hr rfl (pa_cons (pv 0) pa_nil)) sc__law_asked.nd rfl (Or.inl rfl)) (ph_cons hNT rfl (fun u=>pss_one (ps_set (i:=2) sc__law_asked.nd rfl (Or.inl rfl) pe_str)) ph_nil) rfl rfl)
  (pss_one (ps_ret (pe_tup (pa_cons (pv 2) (pa_cons (pv 3) pa_nil))))))))),?_⟩
  refine ⟨_,rfl,_,rfl,?_⟩
  cases wd with
  | true =>
   refine iteT ⟨_,rfl,_,t,rfl,ty,k,fun H1 g1=>⟨cNT,rfl,.inl ⟨I.we,fun ea hea=>?_⟩⟩⟩
   have ka:=same_new hea (ExO cNT ea)
   refine ⟨(by show 2≤sizeLine; decide),fun l1 h1=>?_⟩
   have k1:=same_new h1 (.lst [V.str "other", .str "text"])
   have ee:=k1 _ _ (upd_same (H:=H1) (a:=ea) (o:=ExO cNT ea))
   refine ⟨_,rfl,ea,cNT,cNT,true,rfl,ee,I.ce,I.k0,_,rfl,iteT ⟨_,rfl,ea,cNT,_,true,rfl,ee,I.ce,I.k7,.inr ⟨true,rfl,l1,_,_,.str "text", rfl,rfl,SqL.of upd_same,atI_nat (j:=1) rfl,?_⟩⟩⟩
   refine ⟨_,rfl,_,rfl,(by show 2≤sizeLine; decide),fun r hr=>?_⟩
   exact q r _ (((g1.trans ka).trans k1).trans (same_new hr _)) upd_same
  | false =>
   refine iteF ⟨_,rfl,_,t,rfl,ty,k,fun H1 g1=>⟨cNT,rfl,.inl ⟨I.wn,?_⟩⟩⟩
   refine ⟨_,rfl,_,rfl,(by show 2≤sizeLine; decide),fun r hr=>?_⟩
   exact q r _ (g1.trans (same_new hr _)) upd_same
end
end My
end
section
set_option Elab.async false
set_option linter.all false
set_option maxRecDepth 100000
set_option maxHeartbeats 4000000
namespace L2
open PySem PySem.Spec PySem.Calls PyProof.Rows PySem.W
section
variable {X:Cx}
def rEqLD (K:PySem.W.Frag):R2:=fun x y H Q=>∃ d p q xs ys,d≤60∧x = .ref p∧y = .ref q∧SqL K H p xs∧SqL K H q ys∧xs.length = ys.length∧(∀ (i:Nat) (x y:V),xs[i]? = some x→ys[i]? = some y→EqD K H d x y)∧Q (.bl true) H
theorem op_eqLD (hu:X.A.units + 64 < cLine):OpR X (compareOp .Eq) (rEqLD X.K):=by
 intro pins s σ H x y v u Q I rx ry h
 obtain ⟨d,p,q,xs,ys,hd,rfl,rfl,h1,h2,hl,hi,hq⟩:=h
 cases rx
 cases ry
 obtain ⟨us,r1,p1,z1⟩:=I.list h1
 obtain ⟨ws,r2,p2,z2⟩:=I.list h2
 have l1:=r1.length
 have l2:=r2.length
 refine SeqAt.eq_listAt (e:=fun _=>true) p1.isList p2.isList (by rw [List.size_toArray,List.size_toArray]; omega) (by omega) (items_at (pins:=pins) (σ:=σ) (H:=H) (K:=X.K) (d:=d) r1 r2 hl fun i x y hx hy u v ru rv=>eqd_at I (hi i x y hx hy) X.A.in1 (by show X.A.units + 1 + d < cLine; omega) u v ru rv) ?_
 rw [all_true]
 exact ⟨.bl true,H,I,rfl,hq⟩
end
end L2
end
section
set_option Elab.async false
set_option linter.all false
set_option maxRecDepth 100000
set_option maxHeartbeats 4000000
namespace My
open PySem L2
def spCellAt (K:PySem.W.Frag):Sp:=fun vs H Q _=>∃ (a:Addr) (ns:List Int) (k:Int),vs = [.ref a,.int k]∧SqL K H a (ns.map V.int)∧0≤k∧∀ m:Int,0≤m→Q (.int m) H
def spLaw (K:PySem.W.Frag):Sp:=fun vs H Q _=>∃ (a:Addr) (ns:List Int),vs = [.ref a]∧SqL K H a (ns.map V.int)∧ns.length≤63∧∀ H',Q (.bl true) H'
inductive TxQ (K:PySem.W.Frag) (m n:Int) (H:Hp) (v:V):Prop
 | no (c:m < 7∨n % 2 = 1) (h:NoT K H v):TxQ K m n H v
 | good (c:m = 7) (c2:n % 2 = 0) (x:Str) (ins:List Str) (e:v = .str x) (h:GoodT x ins):TxQ K m n H v
theorem bb_eq {K:PySem.W.Frag} {H:Hp}:∀ (i:Nat) (x y:V),((["bb"]:List Str).map V.str)[i]? = some x→([V.str "bb"]:List V)[i]? = some y→EqD K H 0 x y:=by
 intro i x y h1 h2
 have e:((["bb"]:List Str).map V.str) = [V.str "bb"]:=rfl
 rw [e,h2] at h1
 cases h1
 cases i with
 | zero=>cases h2; exact .flat rfl rfl (by decide +kernel)
 | succ i=>cases h2
section
variable {P:Program} {w:World} {K:PySem.W.Frag} {mg:Str→Option Value} {base:Heap}
theorem ok_cellAt (F:FunM K mg "_law_cell_at" ["_law_script", "_law_k"] s__law_cell_at) (T:Txt mg) (C__law_mixed:Callee P w K mg base 1 "_law_mixed" ["_law_cell"] spMixed):Callee P w K mg base 2 "_law_cell_at" ["_law_script", "_law_k"] (spCellAt K):=by
 refine F.ok sc__law_cell_at (fun vs H Q E h=>?_) (fun f cdv A outer s H vs Q E hr h=>?_)
 ·obtain ⟨a,ns,k,rfl,_⟩:=h; rfl
 obtain ⟨a,ns,k,rfl,hS,h0,q⟩:=h
 refine ⟨_,(pss_cons (ps_if (pt_cmpR op_lt (pv 1) (pe_callB call_lenK rfl T.n_len PySem.boot_len (pa_cons (pv 0) pa_nil)) (nomark _))
   (pss_one (ps_ret (pe_callC C__law_mixed hr rfl pass0 (pa_cons (pe_ix ix_list (pv 0) (pv 1) (fun _ _=>rfl)) pa_nil))))
   pss_nil)
  (pss_one (ps_ret (pe_callC C__law_mixed hr rfl pass0 (pa_cons pe_int pa_nil))))),?_⟩
 refine ⟨_,rfl,_,rfl,a,_,rfl,.inl hS,_,_,rfl,rfl,_,rfl,?_⟩
 refine ite2 (fun c=>?_) (fun c=>?_)
 ·have c':k < (((ns.map V.int).length:Nat):Int):=of_decide_eq_true c
  rw [List.length_map] at c'
  have hk:k.toNat < ns.length:=by omega
  have e:atI (ns.map V.int) ((k.toNat:Nat):Int) = some (.int ns[k.toNat]):=atI_nat (by rw [List.getElem?_map,List.getElem?_eq_getElem hk] <;> rfl)
  rw [show ((k.toNat:Nat):Int) = k by omega] at e
  exact ⟨_,rfl,_,rfl,a,_,_,_,rfl,rfl,hS,e,_,rfl,fun m hm=>q m hm⟩
 ·exact ⟨_,rfl,fun m hm=>q m hm⟩
seal PSs PS PE PA PT
set_option maxHeartbeats 64000000 in
theorem ok_law {f:Addr} {fd:FuncData} (F:Fun K "law" "law" s_law f fd) (T:Txt mg) (C__law_cell_at:Callee P w K mg base 2 "_law_cell_at" ["_law_script", "_law_k"] (spCellAt K)) (C__law_words:Callee P w K mg base 2 "_law_words" ["_law_script"] (spWords K)) (C__law_joined:Callee P w K mg base 1 "_law_joined" ["_law_words_here"] spJoined) (C__law_spoilt:Callee P w K mg base 2 "_law_spoilt" ["_law_words_here", "_law_way", "_law_number"] spSpoilt) (C__law_odd:Callee P w K mg base 1 "_law_odd" ["_law_number"] (spOdd K)) (C__law_bound:Callee P w K mg base 1 "_law_bound" ["_law_number"] (spBound K)) (C__law_asked:Callee P w K mg base 112 "_law_asked" ["_law_text", "_law_wide"] (spAsk K)):FnOk P w K mg base CX0 150 f fd ["_law_script"] (spLaw K):=by
 refine F.ok sc_law (fun vs H Q E h=>?_) (fun cdv A outer s H vs Q E hr h=>?_)
 ·obtain ⟨a,ns,rfl,_⟩:=h; rfl
 obtain ⟨a,ns,rfl,hS,h63,q⟩:=h
 refine ⟨_,(pss_cons (ps_set (i:=1) sc_law.nd rfl (Or.inl rfl) (pe_callC C__law_cell_at hr rfl pass0 (pa_cons (pv 0) (pa_cons pe_int pa_nil))))
  (pss_cons (ps_set (i:=2) sc_law.nd rfl (Or.inl rfl) (pe_callC C__law_cell_at hr rfl pass0 (pa_cons (pv 0) (pa_cons pe_int pa_nil))))
  (pss_cons (ps_set (i:=3) sc_law.nd rfl (Or.inl rfl) (pe_callC C__law_words hr rfl pass0 (pa_cons (pv 0) pa_nil)))
  (pss_cons (ps_set (i:=4) sc_law.nd rfl (Or.inl rfl) (pe_cmpR op_eq (pe_op op_mod (pe_callC C__law_cell_at hr rfl pass0 (pa_cons (pv 0) (pa_cons pe_int pa_nil))) pe_int) pe_int (nomark _)))
  (pss_cons (ps_set (i:=5) sc_law.nd rfl (Or.inl rfl) (pe_op op_mod (pv 1) pe_int))
  (pss_cons (ps_set (i:=6) sc_law.nd rfl (Or.inl rfl) (pe_callC C__law_joined hr rfl pass0 (pa_cons (pv 3) pa_nil)))
  (pss_cons (ps_if (pt_cmpR op_lt (pv 5) pe_int (nomark _))
   (pss_one (ps_set (i:=6) sc_law.nd rfl (Or.inl rfl) (pe_callC C__law_spoilt hr rfl pass0 (pa_cons (pv 3) (pa_cons (pv 5) (pa_cons (pv 2) pa_nil))))))
   pss_nil)
  (pss_cons (ps_if (PW.pt (pw_or (pt_cmpR op_eq (pv 5) pe_int (nomark _)) (pw_or1 (pt_cmpR op_eq (pv 5) pe_int (nomark _)))))
   (pss_one (ps_set (i:=6) sc_law.nd rfl (Or.inl rfl) (pe_callC C__law_odd hr rfl pass0 (pa_cons (pv 2) pa_nil))))
   pss_nil)
  (pss_cons (ps_if (pt_cmpR op_eq (pv 5) pe_int (nomark _))
   (pss_one (ps_set (i:=6) sc_law.nd rfl (Or.inl rfl) (pe_callC C__law_bound hr rfl pass0 (pa_cons (pv 2) pa_nil))))
   pss_nil)
  (pss_cons (ps_asg (pe_callC C__law_asked hr rfl pass0 (pa_cons (pv 6) (pa_cons (pv 4) pa_nil))) (pg_tup rfl (pgs_cons (pg_name (i:=7) sc_law.nd rfl (Or.inl rfl)) (pgs_cons (pg_name (i:=8) sc_law.nd rfl (Or.inl rfl)) pgs_nil))))
  (pss_cons (ps_if (PW.pt (pw_or (pt_cmpR op_lt (pv 5) pe_int (nomark _)) (pw_or1 (pt_cmpR op_eq (pe_op op_mod (pv 2) pe_int) pe_int (nomark _)))))
   (pss_one (ps_if (pt_cmpR op_ne (pv 7) pe_str (nomark _))
   (pss_one (ps_ret pe_bl))
   pss_nil))
   (pss_one (ps_if (PW.pt (pw_or (pt_cmpR op_ne (pv 7) pe_str (nomark _)) (pw_or (pt_not (pt_val (pe_callB call_isinstK rfl T.n_isinstance PyProof.Rows.boot_isinstance (pa_cons (pv 8) (pa_cons (pe_bltn rfl T.n_tuple (by decide +kernel) (v:=.ty "tuple") rfl) pa_nil))))) (pw_or1 (pt_cmpR op_ne (pe_callB call_lenK rfl T.n_len PySem.boot_len (pa_cons (pv 8) pa_nil)) pe_int (nomark _))))))
   (pss_one (ps_ret pe_bl))
   pss_nil)))
  (pss_cons (ps_asg (pe_callC C__law_asked hr rfl pass0 (pa_cons (pe_callC C__law_joined hr rfl pass0 (pa_cons (pv 3) pa_nil)) (pa_cons (pe_not (pv 4)) pa_nil))) (pg_tup rfl (pgs_cons (pg_name (i:=7) sc_law.nd rfl (Or.inl rfl)) (pgs_cons (pg_name (i:=8) sc_law.nd rfl (Or.inl rfl)) pgs_nil))))
  (pss_one (ps_ret (pe_and (pe_cmpR op_eq (pv 7) pe_str (nomark _)) (pe_and (pe_callB call_isinstK rfl T.n_isinstance PyProof.Rows.boot_isinstance (pa_cons (pv 8) (pa_cons (pe_bltn rfl T.n_tuple (by decide +kernel) (v:=.ty "tuple") rfl) pa_nil))) (pe_and (pe_cmpR op_eq (pe_callB call_lenK rfl T.n_len PySem.boot_len (pa_cons (pv 8) pa_nil)) pe_int (nomark _)) (pe_one (pe_cmpR (op_eqLD hr.units) (pe_ix ix_tup (pv 8) pe_int (fun _ _=>rfl)) (pe_lst (pa_cons pe_str pa_nil)) (nomark _)))))))))))))))))))),?_⟩
 refine ⟨_,rfl,a,ns,0,rfl,hS,by decide,fun fi fi0=>?_⟩
 refine ⟨_,rfl,a,ns,1,rfl,hS,by decide,fun n n0=>?_⟩
 refine ⟨_,rfl,a,ns,rfl,hS,fun wa H1 B g1 fwa gB ⟨i12,hi12,tB⟩ hw ew=>?_⟩
 refine ⟨_,rfl,a,ns,2,rfl,g1.seq hS,by decide,fun m2 m20=>?_⟩
 refine ⟨_,_,rfl,rfl,(by show (0:Int) < 2; decide),rfl,?_⟩
 generalize decide (V.int (m2 % 2) = V.int 1) = wd
 refine ⟨_,rfl,_,_,rfl,rfl,(by show (0:Int) < 8; decide),?_⟩
 have m0:=Int.emod_nonneg fi (show (8:Int)≠0 by decide)
 have m8:=Int.emod_lt_of_pos fi (show (0:Int) < 8 by decide)
 refine ⟨_,rfl,wa,_,rfl,ew,hw,?_⟩
 dsimp only [gName,tSeq,tAsg,tC]
 generalize fi % 8 = m at m0 m8 ⊢
 refine if_via fun nx1 hn1 _=>?_
 have A1:∀ (v:V) (H2:Hp),Same H H2→H2 wa = some (.lst ((hdr ++ B).map V.str))→(m < 5→NoT K H2 v)→nx1 [some (.ref a),some (.int fi),some (.int n),some (.ref wa),some (.bl wd),some (.int m),some v,none,none] H2:=by
  intro v H2 g2 ew2 h5
  refine hn1 _ _ ?_
  dsimp only [gName,tSeq,tAsg,tC]
  refine if_via fun nx2 hn2 _=>?_
  have A2:∀ (v:V) (H2:Hp),Same H H2→H2 wa = some (.lst ((hdr ++ B).map V.str))→(m < 7→NoT K H2 v)→nx2 [some (.ref a),some (.int fi),some (.int n),some (.ref wa),some (.bl wd),some (.int m),some v,none,none] H2:=by
   intro v H2 g2 ew2 h7
   refine hn2 _ _ ?_
   dsimp only [gName,tSeq,tAsg,tC]
   refine if_via fun nx3 hn3 _=>?_
   have A3:∀ (v:V) (H2:Hp),Same H H2→H2 wa = some (.lst ((hdr ++ B).map V.str))→TxQ K m n H2 v→nx3 [some (.ref a),some (.int fi),some (.int n),some (.ref wa),some (.bl wd),some (.int m),some v,none,none] H2:=by
    intro v H2 g2 ew2 tx
    refine hn3 _ _ ?_
    refine ⟨_,rfl,_,rfl,v,wd,rfl,?_⟩
    cases tx with
    | no c nt =>
     refine .inl ⟨nt,fun r H3 g3 er=>?_⟩
     refine ⟨r,_,rfl,SqT.of er,rfl,_,_,rfl,_,_,rfl,rfl,?_⟩
     dsimp only [gName,tSeq,tAsg,tC,tNext]
     refine if_via fun nx4 hn4 _=>?_
     have ew3:=g3 _ _ ew2
     have fin:nx4 [some (.ref a),some (.int fi),some (.int n),some (.ref wa),some (.bl wd),some (.int m),some v,some (.str "text"),some V.non] H3:=by
      refine hn4 _ _ ?_
      refine ⟨_,rfl,wa,_,rfl,ew3,hw,_,rfl,wd,rfl,_,!wd,rfl,.inr ⟨_,["bb"],rfl,good_text hi12 tB hw,fun r4 v4 outs4 t4 H4 g4 er4 nm4=>?_⟩⟩
      refine ⟨r4,_,rfl,SqT.of er4,rfl,_,_,rfl,_,_,rfl,rfl,?_⟩
      obtain ⟨th,ti,to,vb,rfl,hth,hti,hto,_⟩:=nm4
      refine ⟨_,rfl,rfl,_,rfl,iteT ?_⟩
      refine ⟨_,rfl,_, "tuple", _,true,rfl,.inl (.tup hth),rfl,_,rfl,iteT ?_⟩
      refine ⟨_,rfl,th,_,rfl,.inr (SqT.of hth),rfl,_,rfl,iteT ?_⟩
      refine ⟨_,rfl,th,_,_,.ref ti,rfl,rfl,SqT.of hth,atI_nat (j:=0) rfl,(by show 1≤sizeLine; decide),fun l5 h5=>?_⟩
      exact ⟨0,ti,l5,_,_,by decide,rfl,rfl,SqL.of (same_new h5 _ _ _ hti),SqL.of upd_same,rfl,bb_eq,q _⟩
     refine (fun X=>⟨_,rfl,_,_,rfl,rfl,_,rfl,ite2 (fun z=>iteT X) fun z=>⟨_,rfl,_,_,rfl,rfl,(by show (0:Int) < 2; decide),rfl,_,rfl,ite2 (fun z2=>X) fun z2=>?c⟩⟩) ?x
     case c =>
      have z:¬ m < 7:=fun y=>z (decide_eq_true y)
      have z2:¬ n % 2 = 1:=fun y=>z2 (decide_eq_true (congrArg V.int y))
      omega
     case x=>exact ⟨_,rfl,rfl,_,rfl,iteF fin⟩
    | good c c2 x ins e gt =>
     refine .inr ⟨x,ins,e,gt,fun r v' outs t H3 g3 er nm=>?_⟩
     refine ⟨r,_,rfl,SqT.of er,rfl,_,_,rfl,_,_,rfl,rfl,?_⟩
     dsimp only [gName,tSeq,tAsg,tC,tNext]
     refine if_via fun nx4 hn4 _=>?_
     have ew3:=g3 _ _ ew2
     have fin:nx4 [some (.ref a),some (.int fi),some (.int n),some (.ref wa),some (.bl wd),some (.int m),some v,some (.str "none"),some v'] H3:=by
      refine hn4 _ _ ?_
      refine ⟨_,rfl,wa,_,rfl,ew3,hw,_,rfl,wd,rfl,_,!wd,rfl,.inr ⟨_,["bb"],rfl,good_text hi12 tB hw,fun r4 v4 outs4 t4 H4 g4 er4 nm4=>?_⟩⟩
      refine ⟨r4,_,rfl,SqT.of er4,rfl,_,_,rfl,_,_,rfl,rfl,?_⟩
      obtain ⟨th,ti,to,vb,rfl,hth,hti,hto,_⟩:=nm4
      refine ⟨_,rfl,rfl,_,rfl,iteT ?_⟩
      refine ⟨_,rfl,_, "tuple", _,true,rfl,.inl (.tup hth),rfl,_,rfl,iteT ?_⟩
      refine ⟨_,rfl,th,_,rfl,.inr (SqT.of hth),rfl,_,rfl,iteT ?_⟩
      refine ⟨_,rfl,th,_,_,.ref ti,rfl,rfl,SqT.of hth,atI_nat (j:=0) rfl,(by show 1≤sizeLine; decide),fun l5 h5=>?_⟩
      exact ⟨0,ti,l5,_,_,by decide,rfl,rfl,SqL.of (same_new h5 _ _ _ hti),SqL.of upd_same,rfl,bb_eq,q _⟩
     obtain ⟨th,ti,to,vb,rfl,hth,hti,hto,_⟩:=nm
     refine ⟨_,rfl,_,_,rfl,rfl,_,rfl,ite2 (fun z=>?_) fun z=>⟨_,rfl,_,_,rfl,rfl,(by show (0:Int) < 2; decide),rfl,_,rfl,ite2 (fun z2=>?_) fun z2=>?_⟩⟩
     ·have z:m < 7:=of_decide_eq_true z
      omega
     ·have z2:n % 2 = 1:=V.int.inj (of_decide_eq_true z2)
      omega
     ·exact ⟨_,rfl,rfl,_,rfl,iteF ⟨_,rfl,_, "tuple", _,true,rfl,.inl (.tup hth),rfl,_,rfl,iteF ⟨_,rfl,th,_,rfl,.inr (SqT.of hth),rfl,_,rfl,iteF fin⟩⟩⟩
   refine ⟨_,rfl,rfl,_,rfl,ite2 (fun c=>?_) fun c=>?_⟩
   ·have c:m = 7:=V.int.inj (of_decide_eq_true c)
    refine ⟨_,rfl,n,rfl,fun o v' H3 g3 nt=>A3 v' H3 (g2.trans g3) (g3 _ _ ew2) (.no (.inr o) nt),fun o x ins H3 g3 gt=>A3 _ H3 (g2.trans g3) (g3 _ _ ew2) (.good c o x ins rfl gt)⟩
   ·have c:¬ m = 7:=fun z=>c (decide_eq_true (congrArg V.int z))
    exact A3 v H2 g2 ew2 (.no (.inl (by omega)) (h7 (by omega)))
  refine (fun X=>⟨_,rfl,rfl,_,rfl,ite2 (fun c=>iteT X) fun c=>⟨_,rfl,rfl,_,rfl,ite2 (fun c2=>X) fun c2=>A2 v H2 g2 ew2 fun z=>h5 ?c⟩⟩) ?x
  case c =>
   have c:¬ m = 5:=fun z=>c (decide_eq_true (congrArg V.int z))
   have c2:¬ m = 6:=fun z=>c2 (decide_eq_true (congrArg V.int z))
   omega
  case x=>exact ⟨_,rfl,n,rfl,fun v' H3 g3 nt=>A2 v' H3 (g2.trans g3) (g3 _ _ ew2) fun _=>nt⟩
 refine ⟨_,rfl,_,_,rfl,rfl,_,rfl,ite2 (fun c=>?_) fun c=>?_⟩
 ·have c:m < 5:=of_decide_eq_true c
  exact ⟨_,rfl,_,rfl,_,rfl,wa,m,n,B,rfl,ew,gB,hw,m0,c,fun x H3 g3 l b=>A1 _ H3 (g1.trans g3) (g3 _ _ ew) fun _=>.bad l b⟩
 ·have c:¬ m < 5:=fun z=>c (decide_eq_true z)
  exact A1 _ H1 g1 ew fun z=>absurd z c
end
theorem clsE_some {K:PySem.W.Frag} {D:Addr} (h:PySem.W.hasDictIn K D = true):(PySem.W.clsIn K D).isSome = true:=by
 obtain ⟨cd,e,_⟩:=PySem.W.any_some h
 rw [e]
 rfl
theorem all_mk {l:PySem.W.OpenLaw} {w:World} {K:PySem.W.Frag} {h:Heap} {mg:Str→Option Value} {fa f0 f1 f2 f3 f4 f5 f6 f7 f8 f9 f10 f11 f12 f13 f14 f15 f16 f17 f18 f19 f20 f21 f22 f23 f24 f25 f26 C h0 h1 h2 h3 h4 h5 h6 a_KEPT a_BARE a_NAMED a_NAMED_ROUND a_SIGN_USERS c_NoText c_Twice c_NoName c_WiseError:Addr} (X:K.In h) (G:h.Ns mainGlobals mg) (hfa:mg "law" = some (.ref fa))
  {od0 an0:Option Addr} {sl0:Array (Option Value)} {oc0 kV0 dc0 pm0 cd0 ct0:Value}
  {od1 an1:Option Addr} {sl1:Array (Option Value)} {oc1 kV1 dc1 pm1 cd1 ct1:Value}
  {od2 an2:Option Addr} {sl2:Array (Option Value)} {oc2 kV2 dc2 pm2 cd2 ct2:Value}
  {od3 an3:Option Addr} {sl3:Array (Option Value)} {oc3 kV3 dc3 pm3 cd3 ct3:Value}
  {od4 an4:Option Addr} {sl4:Array (Option Value)} {oc4 kV4 dc4 pm4 cd4 ct4:Value}
  {od5 an5:Option Addr} {sl5:Array (Option Value)} {oc5 kV5 dc5 pm5 cd5 ct5:Value}
  {od6 an6:Option Addr} {sl6:Array (Option Value)} {oc6 kV6 dc6 pm6 cd6 ct6:Value}
  {od7 an7:Option Addr} {sl7:Array (Option Value)} {oc7 kV7 dc7 pm7 cd7 ct7:Value}
  {od8 an8:Option Addr} {sl8:Array (Option Value)} {oc8 kV8 dc8 pm8 cd8 ct8:Value}
  {od9 an9:Option Addr} {sl9:Array (Option Value)} {oc9 kV9 dc9 pm9 cd9 ct9:Value}
  {od10 an10:Option Addr} {sl10:Array (Option Value)} {oc10 kV10 dc10 pm10 cd10 ct10:Value}
  {od11 an11:Option Addr} {sl11:Array (Option Value)} {oc11 kV11 dc11 pm11 cd11 ct11:Value}
  {od12 an12:Option Addr} {sl12:Array (Option Value)} {oc12 kV12 dc12 pm12 cd12 ct12:Value}
  {od13 an13:Option Addr} {sl13:Array (Option Value)} {oc13 kV13 dc13 pm13 cd13 ct13:Value}
  {od14 an14:Option Addr} {sl14:Array (Option Value)} {oc14 kV14 dc14 pm14 cd14 ct14:Value}
  {od15 an15:Option Addr} {sl15:Array (Option Value)} {oc15 kV15 dc15 pm15 cd15 ct15:Value}
  {od16 an16:Option Addr} {sl16:Array (Option Value)} {oc16 kV16 dc16 pm16 cd16 ct16:Value}
  {od17 an17:Option Addr} {sl17:Array (Option Value)} {oc17 kV17 dc17 pm17 cd17 ct17:Value}
  {od18 an18:Option Addr} {sl18:Array (Option Value)} {oc18 kV18 dc18 pm18 cd18 ct18:Value}
  {od19 an19:Option Addr} {sl19:Array (Option Value)} {oc19 kV19 dc19 pm19 cd19 ct19:Value}
  {od20 an20:Option Addr} {sl20:Array (Option Value)} {oc20 kV20 dc20 pm20 cd20 ct20:Value}
  {od21 an21:Option Addr} {sl21:Array (Option Value)} {oc21 kV21 dc21 pm21 cd21 ct21:Value}
  {od22 an22:Option Addr} {sl22:Array (Option Value)} {oc22 kV22 dc22 pm22 cd22 ct22:Value}
  {od23 an23:Option Addr} {sl23:Array (Option Value)} {oc23 kV23 dc23 pm23 cd23 ct23:Value}
  {od24 an24:Option Addr} {sl24:Array (Option Value)} {oc24 kV24 dc24 pm24 cd24 ct24:Value}
  {od25 an25:Option Addr} {sl25:Array (Option Value)} {oc25 kV25 dc25 pm25 cd25 ct25:Value}
  {od26 an26:Option Addr} {sl26:Array (Option Value)} {oc26 kV26 dc26 pm26 cd26 ct26:Value}
  {mod0 man0:Option Addr} {msl0:Array (Option Value)} {moc0 mkV0 mdc0 mpm0 mcd0 mct0:Value}
  {mod1 man1:Option Addr} {msl1:Array (Option Value)} {moc1 mkV1 mdc1 mpm1 mcd1 mct1:Value}
  {mod2 man2:Option Addr} {msl2:Array (Option Value)} {moc2 mkV2 mdc2 mpm2 mcd2 mct2:Value}
  {mod3 man3:Option Addr} {msl3:Array (Option Value)} {moc3 mkV3 mdc3 mpm3 mcd3 mct3:Value}
  {mod4 man4:Option Addr} {msl4:Array (Option Value)} {moc4 mkV4 mdc4 mpm4 mcd4 mct4:Value}
  {mod5 man5:Option Addr} {msl5:Array (Option Value)} {moc5 mkV5 mdc5 mpm5 mcd5 mct5:Value}
  {mod6 man6:Option Addr} {msl6:Array (Option Value)} {moc6 mkV6 mdc6 mpm6 mcd6 mct6:Value}
  {od_KEPT:Option Addr} {it_KEPT:Array Value} {n_KEPT:Nat} {sl_KEPT:Array (Option Value)}
  {od_BARE:Option Addr} {it_BARE:Array Value} {n_BARE:Nat} {sl_BARE:Array (Option Value)}
  {od_NAMED:Option Addr} {it_NAMED:Array Value} {n_NAMED:Nat} {sl_NAMED:Array (Option Value)}
  {od_NAMED_ROUND:Option Addr} {it_NAMED_ROUND:Array Value} {n_NAMED_ROUND:Nat} {sl_NAMED_ROUND:Array (Option Value)}
  {od_SIGN_USERS:Option Addr} {it_SIGN_USERS:Array Value} {n_SIGN_USERS:Nat} {sl_SIGN_USERS:Array (Option Value)}
  {tk_LONGEST_NAME:Tok}
  {tk_MOST_SIGNS:Tok}
  {tk_MOST_PARTS:Tok}
  {tk_MOST_OPEN:Tok}
  {tk_LETTERS:Tok}
  {tk_MARKS:Tok}
  {tk_BLANKS:Tok}
  (a0:PySem.W.nsIn K mainGlobals "inner_parts" = some (some (.ref f0))) (l0:K.lookup f0 = some ⟨oc0,od0,.func (PySem.W.fnOf "inner_parts" "inner_parts" (defArgs s_inner_parts) (defBody s_inner_parts) (defScope s_inner_parts) .none kV0 dc0 pm0 an0 cd0 ct0),sl0⟩) (c0:PySem.W.codeIn K cd0 "inner_parts" = true) (k0:PySem.W.keepIn K (.ref f0) = true)
  (a1:PySem.W.nsIn K mainGlobals "every_part" = some (some (.ref f1))) (l1:K.lookup f1 = some ⟨oc1,od1,.func (PySem.W.fnOf "every_part" "every_part" (defArgs s_every_part) (defBody s_every_part) (defScope s_every_part) .none kV1 dc1 pm1 an1 cd1 ct1),sl1⟩) (c1:PySem.W.codeIn K cd1 "every_part" = true) (k1:PySem.W.keepIn K (.ref f1) = true)
  (a2:PySem.W.nsIn K mainGlobals "check_once" = some (some (.ref f2))) (l2:K.lookup f2 = some ⟨oc2,od2,.func (PySem.W.fnOf "check_once" "check_once" (defArgs s_check_once) (defBody s_check_once) (defScope s_check_once) .none kV2 dc2 pm2 an2 cd2 ct2),sl2⟩) (c2:PySem.W.codeIn K cd2 "check_once" = true) (k2:PySem.W.keepIn K (.ref f2) = true)
  (a3:PySem.W.nsIn K mainGlobals "check_there" = some (some (.ref f3))) (l3:K.lookup f3 = some ⟨oc3,od3,.func (PySem.W.fnOf "check_there" "check_there" (defArgs s_check_there) (defBody s_check_there) (defScope s_check_there) .none kV3 dc3 pm3 an3 cd3 ct3),sl3⟩) (c3:PySem.W.codeIn K cd3 "check_there" = true) (k3:PySem.W.keepIn K (.ref f3) = true)
  (a4:PySem.W.nsIn K mainGlobals "check_among" = some (some (.ref f4))) (l4:K.lookup f4 = some ⟨oc4,od4,.func (PySem.W.fnOf "check_among" "check_among" (defArgs s_check_among) (defBody s_check_among) (defScope s_check_among) .none kV4 dc4 pm4 an4 cd4 ct4),sl4⟩) (c4:PySem.W.codeIn K cd4 "check_among" = true) (k4:PySem.W.keepIn K (.ref f4) = true)
  (a5:PySem.W.nsIn K mainGlobals "parts" = some (some (.ref f5))) (l5:K.lookup f5 = some ⟨oc5,od5,.func (PySem.W.fnOf "parts" "parts" (defArgs s_parts) (defBody s_parts) (defScope s_parts) .none kV5 dc5 pm5 an5 cd5 ct5),sl5⟩) (c5:PySem.W.codeIn K cd5 "parts" = true) (k5:PySem.W.keepIn K (.ref f5) = true)
  (a6:PySem.W.nsIn K mainGlobals "words_of" = some (some (.ref f6))) (l6:K.lookup f6 = some ⟨oc6,od6,.func (PySem.W.fnOf "words_of" "words_of" (defArgs s_words_of) (defBody s_words_of) (defScope s_words_of) .none kV6 dc6 pm6 an6 cd6 ct6),sl6⟩) (c6:PySem.W.codeIn K cd6 "words_of" = true) (k6:PySem.W.keepIn K (.ref f6) = true)
  (a7:PySem.W.nsIn K mainGlobals "is_name" = some (some (.ref f7))) (l7:K.lookup f7 = some ⟨oc7,od7,.func (PySem.W.fnOf "is_name" "is_name" (defArgs s_is_name) (defBody s_is_name) (defScope s_is_name) .none kV7 dc7 pm7 an7 cd7 ct7),sl7⟩) (c7:PySem.W.codeIn K cd7 "is_name" = true) (k7:PySem.W.keepIn K (.ref f7) = true)
  (a8:PySem.W.nsIn K mainGlobals "most_open" = some (some (.ref f8))) (l8:K.lookup f8 = some ⟨oc8,od8,.func (PySem.W.fnOf "most_open" "most_open" (defArgs s_most_open) (defBody s_most_open) (defScope s_most_open) .none kV8 dc8 pm8 an8 cd8 ct8),sl8⟩) (c8:PySem.W.codeIn K cd8 "most_open" = true) (k8:PySem.W.keepIn K (.ref f8) = true)
  (a9:PySem.W.nsIn K mainGlobals "read" = some (some (.ref f9))) (l9:K.lookup f9 = some ⟨oc9,od9,.func (PySem.W.fnOf "read" "read" (defArgs s_read) (defBody s_read) (defScope s_read) .none kV9 dc9 pm9 an9 cd9 ct9),sl9⟩) (c9:PySem.W.codeIn K cd9 "read" = true) (k9:PySem.W.keepIn K (.ref f9) = true)
  (a10:PySem.W.nsIn K mainGlobals "read_program" = some (some (.ref f10))) (l10:K.lookup f10 = some ⟨oc10,od10,.func (PySem.W.fnOf "read_program" "read_program" (defArgs s_read_program) (defBody s_read_program) (defScope s_read_program) .none kV10 dc10 pm10 an10 cd10 ct10),sl10⟩) (c10:PySem.W.codeIn K cd10 "read_program" = true) (k10:PySem.W.keepIn K (.ref f10) = true)
  (a11:PySem.W.nsIn K mainGlobals "read_block" = some (some (.ref f11))) (l11:K.lookup f11 = some ⟨oc11,od11,.func (PySem.W.fnOf "read_block" "read_block" (defArgs s_read_block) (defBody s_read_block) (defScope s_read_block) .none kV11 dc11 pm11 an11 cd11 ct11),sl11⟩) (c11:PySem.W.codeIn K cd11 "read_block" = true) (k11:PySem.W.keepIn K (.ref f11) = true)
  (a12:PySem.W.nsIn K mainGlobals "read_row" = some (some (.ref f12))) (l12:K.lookup f12 = some ⟨oc12,od12,.func (PySem.W.fnOf "read_row" "read_row" (defArgs s_read_row) (defBody s_read_row) (defScope s_read_row) .none kV12 dc12 pm12 an12 cd12 ct12),sl12⟩) (c12:PySem.W.codeIn K cd12 "read_row" = true) (k12:PySem.W.keepIn K (.ref f12) = true)
  (a13:PySem.W.nsIn K mainGlobals "read_braced" = some (some (.ref f13))) (l13:K.lookup f13 = some ⟨oc13,od13,.func (PySem.W.fnOf "read_braced" "read_braced" (defArgs s_read_braced) (defBody s_read_braced) (defScope s_read_braced) .none kV13 dc13 pm13 an13 cd13 ct13),sl13⟩) (c13:PySem.W.codeIn K cd13 "read_braced" = true) (k13:PySem.W.keepIn K (.ref f13) = true)
  (a14:PySem.W.nsIn K mainGlobals "read_part" = some (some (.ref f14))) (l14:K.lookup f14 = some ⟨oc14,od14,.func (PySem.W.fnOf "read_part" "read_part" (defArgs s_read_part) (defBody s_read_part) (defScope s_read_part) .none kV14 dc14 pm14 an14 cd14 ct14),sl14⟩) (c14:PySem.W.codeIn K cd14 "read_part" = true) (k14:PySem.W.keepIn K (.ref f14) = true)
  (a15:PySem.W.nsIn K mainGlobals "read_if" = some (some (.ref f15))) (l15:K.lookup f15 = some ⟨oc15,od15,.func (PySem.W.fnOf "read_if" "read_if" (defArgs s_read_if) (defBody s_read_if) (defScope s_read_if) .none kV15 dc15 pm15 an15 cd15 ct15),sl15⟩) (c15:PySem.W.codeIn K cd15 "read_if" = true) (k15:PySem.W.keepIn K (.ref f15) = true)
  (a16:PySem.W.nsIn K mainGlobals "_law_mixed" = some (some (.ref f16))) (l16:K.lookup f16 = some ⟨oc16,od16,.func (PySem.W.fnOf "_law_mixed" "_law_mixed" (defArgs s__law_mixed) (defBody s__law_mixed) (defScope s__law_mixed) .none kV16 dc16 pm16 an16 cd16 ct16),sl16⟩) (c16:PySem.W.codeIn K cd16 "_law_mixed" = true) (k16:PySem.W.keepIn K (.ref f16) = true)
  (a17:PySem.W.nsIn K mainGlobals "_law_cell_at" = some (some (.ref f17))) (l17:K.lookup f17 = some ⟨oc17,od17,.func (PySem.W.fnOf "_law_cell_at" "_law_cell_at" (defArgs s__law_cell_at) (defBody s__law_cell_at) (defScope s__law_cell_at) .none kV17 dc17 pm17 an17 cd17 ct17),sl17⟩) (c17:PySem.W.codeIn K cd17 "_law_cell_at" = true) (k17:PySem.W.keepIn K (.ref f17) = true)
  (a18:PySem.W.nsIn K mainGlobals "_law_row" = some (some (.ref f18))) (l18:K.lookup f18 = some ⟨oc18,od18,.func (PySem.W.fnOf "_law_row" "_law_row" (defArgs s__law_row) (defBody s__law_row) (defScope s__law_row) .none kV18 dc18 pm18 an18 cd18 ct18),sl18⟩) (c18:PySem.W.codeIn K cd18 "_law_row" = true) (k18:PySem.W.keepIn K (.ref f18) = true)
  (a19:PySem.W.nsIn K mainGlobals "_law_words" = some (some (.ref f19))) (l19:K.lookup f19 = some ⟨oc19,od19,.func (PySem.W.fnOf "_law_words" "_law_words" (defArgs s__law_words) (defBody s__law_words) (defScope s__law_words) .none kV19 dc19 pm19 an19 cd19 ct19),sl19⟩) (c19:PySem.W.codeIn K cd19 "_law_words" = true) (k19:PySem.W.keepIn K (.ref f19) = true)
  (a20:PySem.W.nsIn K mainGlobals "_law_joined" = some (some (.ref f20))) (l20:K.lookup f20 = some ⟨oc20,od20,.func (PySem.W.fnOf "_law_joined" "_law_joined" (defArgs s__law_joined) (defBody s__law_joined) (defScope s__law_joined) .none kV20 dc20 pm20 an20 cd20 ct20),sl20⟩) (c20:PySem.W.codeIn K cd20 "_law_joined" = true) (k20:PySem.W.keepIn K (.ref f20) = true)
  (a21:PySem.W.nsIn K mainGlobals "_law_places" = some (some (.ref f21))) (l21:K.lookup f21 = some ⟨oc21,od21,.func (PySem.W.fnOf "_law_places" "_law_places" (defArgs s__law_places) (defBody s__law_places) (defScope s__law_places) .none kV21 dc21 pm21 an21 cd21 ct21),sl21⟩) (c21:PySem.W.codeIn K cd21 "_law_places" = true) (k21:PySem.W.keepIn K (.ref f21) = true)
  (a22:PySem.W.nsIn K mainGlobals "_law_spoilt" = some (some (.ref f22))) (l22:K.lookup f22 = some ⟨oc22,od22,.func (PySem.W.fnOf "_law_spoilt" "_law_spoilt" (defArgs s__law_spoilt) (defBody s__law_spoilt) (defScope s__law_spoilt) .none kV22 dc22 pm22 an22 cd22 ct22),sl22⟩) (c22:PySem.W.codeIn K cd22 "_law_spoilt" = true) (k22:PySem.W.keepIn K (.ref f22) = true)
  (a23:PySem.W.nsIn K mainGlobals "_law_odd" = some (some (.ref f23))) (l23:K.lookup f23 = some ⟨oc23,od23,.func (PySem.W.fnOf "_law_odd" "_law_odd" (defArgs s__law_odd) (defBody s__law_odd) (defScope s__law_odd) .none kV23 dc23 pm23 an23 cd23 ct23),sl23⟩) (c23:PySem.W.codeIn K cd23 "_law_odd" = true) (k23:PySem.W.keepIn K (.ref f23) = true)
  (a24:PySem.W.nsIn K mainGlobals "_law_bound" = some (some (.ref f24))) (l24:K.lookup f24 = some ⟨oc24,od24,.func (PySem.W.fnOf "_law_bound" "_law_bound" (defArgs s__law_bound) (defBody s__law_bound) (defScope s__law_bound) .none kV24 dc24 pm24 an24 cd24 ct24),sl24⟩) (c24:PySem.W.codeIn K cd24 "_law_bound" = true) (k24:PySem.W.keepIn K (.ref f24) = true)
  (a25:PySem.W.nsIn K mainGlobals "_law_asked" = some (some (.ref f25))) (l25:K.lookup f25 = some ⟨oc25,od25,.func (PySem.W.fnOf "_law_asked" "_law_asked" (defArgs s__law_asked) (defBody s__law_asked) (defScope s__law_asked) .none kV25 dc25 pm25 an25 cd25 ct25),sl25⟩) (c25:PySem.W.codeIn K cd25 "_law_asked" = true) (k25:PySem.W.keepIn K (.ref f25) = true)
  (a26:PySem.W.nsIn K mainGlobals "law" = some (some (.ref f26))) (l26:K.lookup f26 = some ⟨oc26,od26,.func (PySem.W.fnOf "law" "law" (defArgs s_law) (defBody s_law) (defScope s_law) .none kV26 dc26 pm26 an26 cd26 ct26),sl26⟩) (c26:PySem.W.codeIn K cd26 "law" = true) (k26:PySem.W.keepIn K (.ref f26) = true)
  (aC:PySem.W.nsIn K mainGlobals "Words" = some (some (.ref C)))
  (ma0:PySem.W.findIn K (.ref C) "__init__" = some (some (.ref h0))) (mi0:PySem.W.isFn K (.ref h0) = true) (ml0:K.lookup h0 = some ⟨moc0,mod0,.func (PySem.W.fnOf "__init__" "Words.__init__" (defArgs s_init) (defBody s_init) (defScope s_init) .none mkV0 mdc0 mpm0 man0 mcd0 mct0),msl0⟩) (mc0:PySem.W.codeIn K mcd0 "Words.__init__" = true) (mk0:PySem.W.keepIn K (.ref h0) = true)
  (ma1:PySem.W.findIn K (.ref C) "peek" = some (some (.ref h1))) (mi1:PySem.W.isFn K (.ref h1) = true) (ml1:K.lookup h1 = some ⟨moc1,mod1,.func (PySem.W.fnOf "peek" "Words.peek" (defArgs s_peek) (defBody s_peek) (defScope s_peek) .none mkV1 mdc1 mpm1 man1 mcd1 mct1),msl1⟩) (mc1:PySem.W.codeIn K mcd1 "Words.peek" = true) (mk1:PySem.W.keepIn K (.ref h1) = true)
  (ma2:PySem.W.findIn K (.ref C) "take" = some (some (.ref h2))) (mi2:PySem.W.isFn K (.ref h2) = true) (ml2:K.lookup h2 = some ⟨moc2,mod2,.func (PySem.W.fnOf "take" "Words.take" (defArgs s_take) (defBody s_take) (defScope s_take) .none mkV2 mdc2 mpm2 man2 mcd2 mct2),msl2⟩) (mc2:PySem.W.codeIn K mcd2 "Words.take" = true) (mk2:PySem.W.keepIn K (.ref h2) = true)
  (ma3:PySem.W.findIn K (.ref C) "expect" = some (some (.ref h3))) (mi3:PySem.W.isFn K (.ref h3) = true) (ml3:K.lookup h3 = some ⟨moc3,mod3,.func (PySem.W.fnOf "expect" "Words.expect" (defArgs s_expect) (defBody s_expect) (defScope s_expect) .none mkV3 mdc3 mpm3 man3 mcd3 mct3),msl3⟩) (mc3:PySem.W.codeIn K mcd3 "Words.expect" = true) (mk3:PySem.W.keepIn K (.ref h3) = true)
  (ma4:PySem.W.findIn K (.ref C) "take_name" = some (some (.ref h4))) (mi4:PySem.W.isFn K (.ref h4) = true) (ml4:K.lookup h4 = some ⟨moc4,mod4,.func (PySem.W.fnOf "take_name" "Words.take_name" (defArgs s_take_name) (defBody s_take_name) (defScope s_take_name) .none mkV4 mdc4 mpm4 man4 mcd4 mct4),msl4⟩) (mc4:PySem.W.codeIn K mcd4 "Words.take_name" = true) (mk4:PySem.W.keepIn K (.ref h4) = true)
  (ma5:PySem.W.findIn K (.ref C) "take_names" = some (some (.ref h5))) (mi5:PySem.W.isFn K (.ref h5) = true) (ml5:K.lookup h5 = some ⟨moc5,mod5,.func (PySem.W.fnOf "take_names" "Words.take_names" (defArgs s_take_names) (defBody s_take_names) (defScope s_take_names) .none mkV5 mdc5 mpm5 man5 mcd5 mct5),msl5⟩) (mc5:PySem.W.codeIn K mcd5 "Words.take_names" = true) (mk5:PySem.W.keepIn K (.ref h5) = true)
  (ma6:PySem.W.findIn K (.ref C) "expect_end" = some (some (.ref h6))) (mi6:PySem.W.isFn K (.ref h6) = true) (ml6:K.lookup h6 = some ⟨moc6,mod6,.func (PySem.W.fnOf "expect_end" "Words.expect_end" (defArgs s_expect_end) (defBody s_expect_end) (defScope s_expect_end) .none mkV6 mdc6 mpm6 man6 mcd6 mct6),msl6⟩) (mc6:PySem.W.codeIn K mcd6 "Words.expect_end" = true) (mk6:PySem.W.keepIn K (.ref h6) = true)
  (pg:PySem.W.plainGet K C Str.empty = true) (hd:PySem.W.hasDictIn K C = true) (po:PySem.W.plainOver K C = true) (sa:PySem.W.findIn K (.ref C) "__setattr__" = some (some (.builtin "object.__setattr__"))) (mk:PySem.W.makesIn K C = true) (kc:PySem.W.keepIn K (.ref C) = true)
  (nA_words:PySem.W.findIn K (.ref C) "words" = some none)
  (nA_place:PySem.W.findIn K (.ref C) "place" = some none)
  (ca_KEPT:PySem.W.nsIn K mainGlobals "KEPT" = some (some (.ref a_KEPT))) (cl_KEPT:K.lookup a_KEPT = some ⟨Value.type "tuple", od_KEPT,.seq it_KEPT n_KEPT,sl_KEPT⟩) (cs_KEPT:it_KEPT.size≤sizeLine) (cv_KEPT:Vals [V.str "in", V.str "out", V.str "nothing", V.str "rest", V.str "halt", V.str "send", V.str "keep", V.str "await", V.str "if", V.str "else", V.str "again", V.str "hold", V.str "watch", V.str "weak", V.str "trap", V.str "exit", V.str "local"] it_KEPT.toList)
  (ca_BARE:PySem.W.nsIn K mainGlobals "BARE" = some (some (.ref a_BARE))) (cl_BARE:K.lookup a_BARE = some ⟨Value.type "tuple", od_BARE,.seq it_BARE n_BARE,sl_BARE⟩) (cs_BARE:it_BARE.size≤sizeLine) (cv_BARE:Vals [V.str "nothing", V.str "rest", V.str "halt"] it_BARE.toList)
  (ca_NAMED:PySem.W.nsIn K mainGlobals "NAMED" = some (some (.ref a_NAMED))) (cl_NAMED:K.lookup a_NAMED = some ⟨Value.type "tuple", od_NAMED,.seq it_NAMED n_NAMED,sl_NAMED⟩) (cs_NAMED:it_NAMED.size≤sizeLine) (cv_NAMED:Vals [V.str "send", V.str "keep", V.str "await", V.str "exit"] it_NAMED.toList)
  (ca_NAMED_ROUND:PySem.W.nsIn K mainGlobals "NAMED_ROUND" = some (some (.ref a_NAMED_ROUND))) (cl_NAMED_ROUND:K.lookup a_NAMED_ROUND = some ⟨Value.type "tuple", od_NAMED_ROUND,.seq it_NAMED_ROUND n_NAMED_ROUND,sl_NAMED_ROUND⟩) (cs_NAMED_ROUND:it_NAMED_ROUND.size≤sizeLine) (cv_NAMED_ROUND:Vals [V.str "hold", V.str "watch", V.str "weak", V.str "trap", V.str "local"] it_NAMED_ROUND.toList)
  (ca_SIGN_USERS:PySem.W.nsIn K mainGlobals "SIGN_USERS" = some (some (.ref a_SIGN_USERS))) (cl_SIGN_USERS:K.lookup a_SIGN_USERS = some ⟨Value.type "tuple", od_SIGN_USERS,.seq it_SIGN_USERS n_SIGN_USERS,sl_SIGN_USERS⟩) (cs_SIGN_USERS:it_SIGN_USERS.size≤sizeLine) (cv_SIGN_USERS:Vals [V.str "send", V.str "keep", V.str "await", V.str "if", V.str "hold", V.str "watch", V.str "weak"] it_SIGN_USERS.toList)
  (cn_LONGEST_NAME:PySem.W.nsIn K mainGlobals "LONGEST_NAME" = some (some (.int 8 tk_LONGEST_NAME)))
  (cn_MOST_SIGNS:PySem.W.nsIn K mainGlobals "MOST_SIGNS" = some (some (.int 3000 tk_MOST_SIGNS)))
  (cn_MOST_PARTS:PySem.W.nsIn K mainGlobals "MOST_PARTS" = some (some (.int 60 tk_MOST_PARTS)))
  (cn_MOST_OPEN:PySem.W.nsIn K mainGlobals "MOST_OPEN" = some (some (.int 16 tk_MOST_OPEN)))
  (cn_LETTERS:PySem.W.nsIn K mainGlobals "LETTERS" = some (some (.str "abcdefghijklmnopqrstuvwxyz" tk_LETTERS)))
  (cn_MARKS:PySem.W.nsIn K mainGlobals "MARKS" = some (some (.str "{};|" tk_MARKS)))
  (cn_BLANKS:PySem.W.nsIn K mainGlobals "BLANKS" = some (some (.str " \n" tk_BLANKS)))
  (ea_NoText:PySem.W.nsIn K mainGlobals "NoText" = some (some (.ref c_NoText))) (ex_NoText:PySem.W.excIn K c_NoText veM "ValueError.__new__" = true)
  (ea_Twice:PySem.W.nsIn K mainGlobals "Twice" = some (some (.ref c_Twice))) (ex_Twice:PySem.W.excIn K c_Twice veM "ValueError.__new__" = true)
  (ea_NoName:PySem.W.nsIn K mainGlobals "NoName" = some (some (.ref c_NoName))) (ex_NoName:PySem.W.excIn K c_NoName veM "ValueError.__new__" = true)
  (em_NoText_NoText:PySem.W.exmOne K (.ref c_NoText) (.ref c_NoText) = some true)
  (ea_WiseError:PySem.W.nsIn K mainGlobals "WiseError" = some (some (.ref c_WiseError)))
  (hg_NoText:PySem.W.findIn K (.ref c_NoText) "__getattribute__" = some (some (.builtin "BaseException.__getattribute__")))
  (gn_NoText:PySem.W.findIn K (.ref c_NoText) "__getattr__" = some none)
  (be_NoText:PySem.W.subIn K (.ref c_NoText) (.type "BaseException") = some true)
  (hd_NoText:PySem.W.hasDictIn K c_NoText = true)
  (ha_NoText:PySem.W.findIn K (.ref c_NoText) "__class__" = some (some (.builtin "object.__class__")))
  (hm_NoText:PySem.W.mroIn K c_NoText (.type "object") = some true)
  (we_NoText:PySem.W.exmOne K (.ref c_NoText) (.ref c_WiseError) = some true)
  (kt_NoText:PySem.W.kitOne K (.ref c_NoText) (.ref c_NoText) = some true)
  (kv_NoText:PySem.W.kitOne K (.ref c_NoText) (.type "ValueError") = some true)
  (hnC:PySem.W.specialIn K (.builtin "object.__class__") "__get__" = some (some (.builtin "getset_descriptor.__get__")))
  (htC:PySem.W.takesIn K (.builtin "object.__class__") = some true)
  (z_ValueError:PySem.W.nsIn K mainGlobals "ValueError" = some none)
  (z_enumerate:PySem.W.nsIn K mainGlobals "enumerate" = some none)
  (z_int:PySem.W.nsIn K mainGlobals "int" = some none)
  (z_isinstance:PySem.W.nsIn K mainGlobals "isinstance" = some none)
  (z_len:PySem.W.nsIn K mainGlobals "len" = some none)
  (z_max:PySem.W.nsIn K mainGlobals "max" = some none)
  (z_range:PySem.W.nsIn K mainGlobals "range" = some none)
  (z_set:PySem.W.nsIn K mainGlobals "set" = some none)
  (z_str:PySem.W.nsIn K mainGlobals "str" = some none)
  (z_tuple:PySem.W.nsIn K mainGlobals "tuple" = some none)
  : ∃ fd:FuncData,(∀ (s:Shared) (v:Value),BindsTo s fd ⟨[v],[]⟩ [("_law_script", v)])∧∀ base:Heap,K.In base→base.Ns mainGlobals mg→FnOk l.prog w K mg base CX0 150 fa fd ["_law_script"] (spLaw K):=by
 have e:=hfa.symm.trans (PySem.W.mg_of X G a26)
 cases e
 have T:Txt mg:=⟨PySem.W.mg_none_of X G z_ValueError,PySem.W.mg_none_of X G z_enumerate,PySem.W.mg_none_of X G z_int,PySem.W.mg_none_of X G z_isinstance,PySem.W.mg_none_of X G z_len,PySem.W.mg_none_of X G z_max,PySem.W.mg_none_of X G z_range,PySem.W.mg_none_of X G z_set,PySem.W.mg_none_of X G z_str,PySem.W.mg_none_of X G z_tuple⟩
 have Cl:Cls K C:=⟨pg,hd,po,sa⟩
 have mC:=PySem.W.mg_of X G aC
 have cm_KEPT:=PySem.W.mg_of X G ca_KEPT
 have cst_KEPT:ModT K a_KEPT [V.str "in", V.str "out", V.str "nothing", V.str "rest", V.str "halt", V.str "send", V.str "keep", V.str "await", V.str "if", V.str "else", V.str "again", V.str "hold", V.str "watch", V.str "weak", V.str "trap", V.str "exit", V.str "local"]:=⟨_,_,_,cl_KEPT,rfl,rfl,cs_KEPT,cv_KEPT⟩
 have cm_BARE:=PySem.W.mg_of X G ca_BARE
 have cst_BARE:ModT K a_BARE [V.str "nothing", V.str "rest", V.str "halt"]:=⟨_,_,_,cl_BARE,rfl,rfl,cs_BARE,cv_BARE⟩
 have cm_NAMED:=PySem.W.mg_of X G ca_NAMED
 have cst_NAMED:ModT K a_NAMED [V.str "send", V.str "keep", V.str "await", V.str "exit"]:=⟨_,_,_,cl_NAMED,rfl,rfl,cs_NAMED,cv_NAMED⟩
 have cm_NAMED_ROUND:=PySem.W.mg_of X G ca_NAMED_ROUND
 have cst_NAMED_ROUND:ModT K a_NAMED_ROUND [V.str "hold", V.str "watch", V.str "weak", V.str "trap", V.str "local"]:=⟨_,_,_,cl_NAMED_ROUND,rfl,rfl,cs_NAMED_ROUND,cv_NAMED_ROUND⟩
 have cm_SIGN_USERS:=PySem.W.mg_of X G ca_SIGN_USERS
 have cst_SIGN_USERS:ModT K a_SIGN_USERS [V.str "send", V.str "keep", V.str "await", V.str "if", V.str "hold", V.str "watch", V.str "weak"]:=⟨_,_,_,cl_SIGN_USERS,rfl,rfl,cs_SIGN_USERS,cv_SIGN_USERS⟩
 have nm_LONGEST_NAME:=PySem.W.mg_of X G cn_LONGEST_NAME
 have nm_MOST_SIGNS:=PySem.W.mg_of X G cn_MOST_SIGNS
 have nm_MOST_PARTS:=PySem.W.mg_of X G cn_MOST_PARTS
 have nm_MOST_OPEN:=PySem.W.mg_of X G cn_MOST_OPEN
 have nm_LETTERS:=PySem.W.mg_of X G cn_LETTERS
 have nm_MARKS:=PySem.W.mg_of X G cn_MARKS
 have nm_BLANKS:=PySem.W.mg_of X G cn_BLANKS
 have mm_NoText:=PySem.W.mg_of X G ea_NoText
 have mm_Twice:=PySem.W.mg_of X G ea_Twice
 have mm_NoName:=PySem.W.mg_of X G ea_NoName
 have Fm_init:=fun_mk (st:=s_init) ml0 mc0 mk0
 have bm_init:=Fm_init.binds (ps:=["self", "words"]) fun _ _ _ _ _ _ us hl=>match us,hl with | [_,_],_=>rfl
 have MkC:Mk K C h0:=⟨mk,ma0,mi0,kc⟩
 have Fm_peek:=fun_mk (st:=s_peek) ml1 mc1 mk1
 have bm_peek:=Fm_peek.binds (ps:=["self"]) fun _ _ _ _ _ _ us hl=>match us,hl with | [_],_=>rfl
 have mm_peek:Meth K C "peek" h1:=⟨ma1,mi1,mk1⟩
 have Fm_take:=fun_mk (st:=s_take) ml2 mc2 mk2
 have bm_take:=Fm_take.binds (ps:=["self"]) fun _ _ _ _ _ _ us hl=>match us,hl with | [_],_=>rfl
 have mm_take:Meth K C "take" h2:=⟨ma2,mi2,mk2⟩
 have Fm_expect:=fun_mk (st:=s_expect) ml3 mc3 mk3
 have bm_expect:=Fm_expect.binds (ps:=["self", "wanted"]) fun _ _ _ _ _ _ us hl=>match us,hl with | [_,_],_=>rfl
 have mm_expect:Meth K C "expect" h3:=⟨ma3,mi3,mk3⟩
 have Fm_take_name:=fun_mk (st:=s_take_name) ml4 mc4 mk4
 have bm_take_name:=Fm_take_name.binds (ps:=["self"]) fun _ _ _ _ _ _ us hl=>match us,hl with | [_],_=>rfl
 have mm_take_name:Meth K C "take_name" h4:=⟨ma4,mi4,mk4⟩
 have Fm_take_names:=fun_mk (st:=s_take_names) ml5 mc5 mk5
 have bm_take_names:=Fm_take_names.binds (ps:=["self"]) fun _ _ _ _ _ _ us hl=>match us,hl with | [_],_=>rfl
 have mm_take_names:Meth K C "take_names" h5:=⟨ma5,mi5,mk5⟩
 have Fm_expect_end:=fun_mk (st:=s_expect_end) ml6 mc6 mk6
 have bm_expect_end:=Fm_expect_end.binds (ps:=["self"]) fun _ _ _ _ _ _ us hl=>match us,hl with | [_],_=>rfl
 have mm_expect_end:Meth K C "expect_end" h6:=⟨ma6,mi6,mk6⟩
 have F_inner_parts:FunM K mg "inner_parts" ["part"] s_inner_parts:=⟨_,_,fun_mk (st:=s_inner_parts) l0 c0 k0,PySem.W.mg_of X G a0,(fun_mk (st:=s_inner_parts) l0 c0 k0).binds (ps:=["part"]) fun _ _ _ _ _ _ us hl=>match us,hl with | [_],_=>rfl⟩
 have F_every_part:FunM K mg "every_part" ["part"] s_every_part:=⟨_,_,fun_mk (st:=s_every_part) l1 c1 k1,PySem.W.mg_of X G a1,(fun_mk (st:=s_every_part) l1 c1 k1).binds (ps:=["part"]) fun _ _ _ _ _ _ us hl=>match us,hl with | [_],_=>rfl⟩
 have F_check_once:FunM K mg "check_once" ["names"] s_check_once:=⟨_,_,fun_mk (st:=s_check_once) l2 c2 k2,PySem.W.mg_of X G a2,(fun_mk (st:=s_check_once) l2 c2 k2).binds (ps:=["names"]) fun _ _ _ _ _ _ us hl=>match us,hl with | [_],_=>rfl⟩
 have F_check_there:FunM K mg "check_there" ["part", "signs", "traps"] s_check_there:=⟨_,_,fun_mk (st:=s_check_there) l3 c3 k3,PySem.W.mg_of X G a3,(fun_mk (st:=s_check_there) l3 c3 k3).binds (ps:=["part", "signs", "traps"]) fun _ _ _ _ _ _ us hl=>match us,hl with | [_,_,_],_=>rfl⟩
 have F_check_among:FunM K mg "check_among" ["name", "names"] s_check_among:=⟨_,_,fun_mk (st:=s_check_among) l4 c4 k4,PySem.W.mg_of X G a4,(fun_mk (st:=s_check_among) l4 c4 k4).binds (ps:=["name", "names"]) fun _ _ _ _ _ _ us hl=>match us,hl with | [_,_],_=>rfl⟩
 have F_parts:FunM K mg "parts" ["block"] s_parts:=⟨_,_,fun_mk (st:=s_parts) l5 c5 k5,PySem.W.mg_of X G a5,(fun_mk (st:=s_parts) l5 c5 k5).binds (ps:=["block"]) fun _ _ _ _ _ _ us hl=>match us,hl with | [_],_=>rfl⟩
 have F_words_of:FunM K mg "words_of" ["text"] s_words_of:=⟨_,_,fun_mk (st:=s_words_of) l6 c6 k6,PySem.W.mg_of X G a6,(fun_mk (st:=s_words_of) l6 c6 k6).binds (ps:=["text"]) fun _ _ _ _ _ _ us hl=>match us,hl with | [_],_=>rfl⟩
 have F_is_name:FunM K mg "is_name" ["word"] s_is_name:=⟨_,_,fun_mk (st:=s_is_name) l7 c7 k7,PySem.W.mg_of X G a7,(fun_mk (st:=s_is_name) l7 c7 k7).binds (ps:=["word"]) fun _ _ _ _ _ _ us hl=>match us,hl with | [_],_=>rfl⟩
 have F_most_open:FunM K mg "most_open" ["words"] s_most_open:=⟨_,_,fun_mk (st:=s_most_open) l8 c8 k8,PySem.W.mg_of X G a8,(fun_mk (st:=s_most_open) l8 c8 k8).binds (ps:=["words"]) fun _ _ _ _ _ _ us hl=>match us,hl with | [_],_=>rfl⟩
 have F_read:FunM K mg "read" ["text"] s_read:=⟨_,_,fun_mk (st:=s_read) l9 c9 k9,PySem.W.mg_of X G a9,(fun_mk (st:=s_read) l9 c9 k9).binds (ps:=["text"]) fun _ _ _ _ _ _ us hl=>match us,hl with | [_],_=>rfl⟩
 have F_read_program:FunM K mg "read_program" ["text"] s_read_program:=⟨_,_,fun_mk (st:=s_read_program) l10 c10 k10,PySem.W.mg_of X G a10,(fun_mk (st:=s_read_program) l10 c10 k10).binds (ps:=["text"]) fun _ _ _ _ _ _ us hl=>match us,hl with | [_],_=>rfl⟩
 have F_read_block:FunM K mg "read_block" ["words"] s_read_block:=⟨_,_,fun_mk (st:=s_read_block) l11 c11 k11,PySem.W.mg_of X G a11,(fun_mk (st:=s_read_block) l11 c11 k11).binds (ps:=["words"]) fun _ _ _ _ _ _ us hl=>match us,hl with | [_],_=>rfl⟩
 have F_read_row:FunM K mg "read_row" ["words"] s_read_row:=⟨_,_,fun_mk (st:=s_read_row) l12 c12 k12,PySem.W.mg_of X G a12,(fun_mk (st:=s_read_row) l12 c12 k12).binds (ps:=["words"]) fun _ _ _ _ _ _ us hl=>match us,hl with | [_],_=>rfl⟩
 have F_read_braced:FunM K mg "read_braced" ["words"] s_read_braced:=⟨_,_,fun_mk (st:=s_read_braced) l13 c13 k13,PySem.W.mg_of X G a13,(fun_mk (st:=s_read_braced) l13 c13 k13).binds (ps:=["words"]) fun _ _ _ _ _ _ us hl=>match us,hl with | [_],_=>rfl⟩
 have F_read_part:FunM K mg "read_part" ["words"] s_read_part:=⟨_,_,fun_mk (st:=s_read_part) l14 c14 k14,PySem.W.mg_of X G a14,(fun_mk (st:=s_read_part) l14 c14 k14).binds (ps:=["words"]) fun _ _ _ _ _ _ us hl=>match us,hl with | [_],_=>rfl⟩
 have F_read_if:FunM K mg "read_if" ["words"] s_read_if:=⟨_,_,fun_mk (st:=s_read_if) l15 c15 k15,PySem.W.mg_of X G a15,(fun_mk (st:=s_read_if) l15 c15 k15).binds (ps:=["words"]) fun _ _ _ _ _ _ us hl=>match us,hl with | [_],_=>rfl⟩
 have F__law_mixed:FunM K mg "_law_mixed" ["_law_cell"] s__law_mixed:=⟨_,_,fun_mk (st:=s__law_mixed) l16 c16 k16,PySem.W.mg_of X G a16,(fun_mk (st:=s__law_mixed) l16 c16 k16).binds (ps:=["_law_cell"]) fun _ _ _ _ _ _ us hl=>match us,hl with | [_],_=>rfl⟩
 have F__law_cell_at:FunM K mg "_law_cell_at" ["_law_script", "_law_k"] s__law_cell_at:=⟨_,_,fun_mk (st:=s__law_cell_at) l17 c17 k17,PySem.W.mg_of X G a17,(fun_mk (st:=s__law_cell_at) l17 c17 k17).binds (ps:=["_law_script", "_law_k"]) fun _ _ _ _ _ _ us hl=>match us,hl with | [_,_],_=>rfl⟩
 have F__law_row:FunM K mg "_law_row" ["_law_number"] s__law_row:=⟨_,_,fun_mk (st:=s__law_row) l18 c18 k18,PySem.W.mg_of X G a18,(fun_mk (st:=s__law_row) l18 c18 k18).binds (ps:=["_law_number"]) fun _ _ _ _ _ _ us hl=>match us,hl with | [_],_=>rfl⟩
 have F__law_words:FunM K mg "_law_words" ["_law_script"] s__law_words:=⟨_,_,fun_mk (st:=s__law_words) l19 c19 k19,PySem.W.mg_of X G a19,(fun_mk (st:=s__law_words) l19 c19 k19).binds (ps:=["_law_script"]) fun _ _ _ _ _ _ us hl=>match us,hl with | [_],_=>rfl⟩
 have F__law_joined:FunM K mg "_law_joined" ["_law_words_here"] s__law_joined:=⟨_,_,fun_mk (st:=s__law_joined) l20 c20 k20,PySem.W.mg_of X G a20,(fun_mk (st:=s__law_joined) l20 c20 k20).binds (ps:=["_law_words_here"]) fun _ _ _ _ _ _ us hl=>match us,hl with | [_],_=>rfl⟩
 have F__law_places:FunM K mg "_law_places" ["_law_words_here", "_law_wanted"] s__law_places:=⟨_,_,fun_mk (st:=s__law_places) l21 c21 k21,PySem.W.mg_of X G a21,(fun_mk (st:=s__law_places) l21 c21 k21).binds (ps:=["_law_words_here", "_law_wanted"]) fun _ _ _ _ _ _ us hl=>match us,hl with | [_,_],_=>rfl⟩
 have F__law_spoilt:FunM K mg "_law_spoilt" ["_law_words_here", "_law_way", "_law_number"] s__law_spoilt:=⟨_,_,fun_mk (st:=s__law_spoilt) l22 c22 k22,PySem.W.mg_of X G a22,(fun_mk (st:=s__law_spoilt) l22 c22 k22).binds (ps:=["_law_words_here", "_law_way", "_law_number"]) fun _ _ _ _ _ _ us hl=>match us,hl with | [_,_,_],_=>rfl⟩
 have F__law_odd:FunM K mg "_law_odd" ["_law_number"] s__law_odd:=⟨_,_,fun_mk (st:=s__law_odd) l23 c23 k23,PySem.W.mg_of X G a23,(fun_mk (st:=s__law_odd) l23 c23 k23).binds (ps:=["_law_number"]) fun _ _ _ _ _ _ us hl=>match us,hl with | [_],_=>rfl⟩
 have F__law_bound:FunM K mg "_law_bound" ["_law_number"] s__law_bound:=⟨_,_,fun_mk (st:=s__law_bound) l24 c24 k24,PySem.W.mg_of X G a24,(fun_mk (st:=s__law_bound) l24 c24 k24).binds (ps:=["_law_number"]) fun _ _ _ _ _ _ us hl=>match us,hl with | [_],_=>rfl⟩
 have F__law_asked:FunM K mg "_law_asked" ["_law_text", "_law_wide"] s__law_asked:=⟨_,_,fun_mk (st:=s__law_asked) l25 c25 k25,PySem.W.mg_of X G a25,(fun_mk (st:=s__law_asked) l25 c25 k25).binds (ps:=["_law_text", "_law_wide"]) fun _ _ _ _ _ _ us hl=>match us,hl with | [_,_],_=>rfl⟩
 have F_law:=fun_mk (st:=s_law) l26 c26 k26
 refine ⟨PySem.W.fnOf "law" "law" (defArgs s_law) (defBody s_law) (defScope s_law) .none kV26 dc26 pm26 an26 cd26 ct26,fun s v=>.of_eq rfl,fun base _ _=>?_⟩
 have TW:TxtW K mg C a_KEPT:={ toTxt:=T,cl:=Cl,nW:=nA_words,nP:=nA_place,m_Words:=mC,m_KEPT:=cm_KEPT,r_KEPT:=rfl,mK:=cst_KEPT }
 have TR:TxtR K mg C a_KEPT a_BARE a_NAMED a_NAMED_ROUND:={ toTxtW:=TW,m_BARE:=cm_BARE,r_BARE:=rfl,mB:=cst_BARE,m_NAMED:=cm_NAMED,r_NAMED:=rfl,mM:=cst_NAMED,m_NAMED_ROUND:=cm_NAMED_ROUND,r_NAMED_ROUND:=rfl,mR:=cst_NAMED_ROUND }
 have cs:Cst K mg c_NoText:=⟨⟨_,nm_LETTERS⟩,⟨_,nm_MARKS⟩,⟨_,nm_BLANKS⟩,⟨_,nm_LONGEST_NAME⟩,mm_NoText,ex_NoText⟩
 have GI:=ok_init (P:=l.prog) (w:=w) (base:=base) Fm_init TW
 have MP:MethM l.prog w K mg base 1 C "peek" ["self"] (spPeek C):=⟨_,_,ok_peek Fm_peek TW,bm_peek,mm_peek,Cl⟩
 have MT:MethM l.prog w K mg base 2 C "take" ["self"] (spTake C):=⟨_,_,ok_take Fm_take TW MP,bm_take,mm_take,Cl⟩
 have CN:=ok_isName (P:=l.prog) (w:=w) (base:=base) F_is_name TW cs
 have ME:MethX l.prog w K mg base 3 C "expect" ["self", "wanted"] (spExpect C c_NoText):=⟨_,_,ok_expect Fm_expect TW cs MT,bm_expect,mm_expect,Cl⟩
 have MN:MethX l.prog w K mg base 3 C "take_name" ["self"] (spTakeName C c_NoText):=⟨_,_,ok_takeName Fm_take_name TW cs MT CN,bm_take_name,mm_take_name,Cl⟩
 have ML:MethM l.prog w K mg base 3 C "take_names" ["self"] (spTakeNames C):=⟨_,_,ok_takeNames Fm_take_names TW MP MT CN,bm_take_names,mm_take_names,Cl⟩
 have MD:MethX l.prog w K mg base 2 C "expect_end" ["self"] (spExpectEnd C c_NoText):=⟨_,_,ok_expectEnd Fm_expect_end TW cs MP,bm_expect_end,mm_expect_end,Cl⟩
 have CB:=parse_all F_read_part F_read_row F_read_block F_read_braced F_read_if TR cs MP MT MN ME
 have CW:=ok_wordsOf (P:=l.prog) (w:=w) (base:=base) F_words_of cs
 have CM:=ok_most (P:=l.prog) (w:=w) (base:=base) F_most_open T
 have CPr:=ok_program F_read_program TR cs ⟨_,nm_MOST_OPEN⟩ MkC GI bm_init CW CM ME ML MD CB
 have CI:=ok_inner (P:=l.prog) (w:=w) (base:=base) F_inner_parts T
 have CPa:=ok_parts F_parts T (ok_every F_every_part CI)
 have CO:=ok_once (P:=l.prog) (w:=w) (base:=base) F_check_once T mm_Twice ex_Twice
 have CA:=ok_among (P:=l.prog) (w:=w) (base:=base) F_check_among mm_NoName ex_NoName
 have CT:=there_all F_check_there cm_SIGN_USERS cst_SIGN_USERS CA CI 62
 have CR:=ok_read F_read T cs ⟨_,nm_MOST_SIGNS⟩ ⟨_,nm_MOST_PARTS⟩ CPr CPa CO CT
 have mm_WiseError:=PySem.W.mg_of X G ea_WiseError
 have IN:IsN K c_NoText c_WiseError:=⟨⟨hg_NoText,gn_NoText,be_NoText,clsE_some hd_NoText,ha_NoText,hnC,htC,hm_NoText⟩,kt_NoText,kv_NoText,we_NoText,em_NoText_NoText⟩
 have MD2:=ok_mixed (P:=l.prog) (w:=w) (base:=base) F__law_mixed
 have CJ:=ok_joined (P:=l.prog) (w:=w) (base:=base) F__law_joined
 exact ok_law F_law T (ok_cellAt F__law_cell_at T MD2) (ok_lwords F__law_words T MD2 (ok_lrow F__law_row)) CJ (ok_spoilt F__law_spoilt T CJ (ok_places F__law_places T)) (ok_odd F__law_odd T) (ok_bound F__law_bound T) (ok_ask F__law_asked T mm_NoText mm_WiseError IN CR (ok_readO F_read T cs))
theorem walk {l:PySem.W.OpenLaw} {q:Program} {loose:List Str} {XP:(Str→Option Value)→Heap→Prop} {YP:World→Heap→Prop} {d:DefRec} {K:Params→PySem.W.Frag} (hn:l.most = some 63) (hdf:d.params.defaults = [])
  (hY:∀ (w:World) (h:Heap),YP w h→(K w.params).In h)
  (F:∀ (w:World) (mg:Str→Option Value) (fa:Addr) (h:Heap),(K w.params).In h→h.Ns mainGlobals mg→mg d.name = some (.ref fa) →
   ∃ fd:FuncData,(∀ (s:Shared) (u:Value),BindsTo s fd ⟨[u],[]⟩ [("_law_script", u)])∧∀ base:Heap,(K w.params).In base→base.Ns mainGlobals mg→FnOk l.prog w (K w.params) mg base CX0 150 fa fd ["_law_script"] (spLaw (K w.params))) :
  PySem.W.WalkO q loose XP YP l.row.toRowW d [] (fun f vs=>PySem.call f vs) :=
 L2.walk_of (n:=63) (k:=150) (x:= "_law_script") (CX:=fun _=>CX0) (sp:=fun w=>spLaw (K w.params)) hn (by decide) hdf ⟨rfl,by decide,by decide⟩ hY F (fun _ _ a ns hl _ hS=>⟨a,ns,rfl,hS,hl,fun _=>rfl⟩) fun _ _ _ _ _ z=>z
end My
end
set_option Elab.async false
open PySem PySem.W PyProof.Rows L2
def PySem.W.Fast.tw12609896305783556034:PySem.Program:=PySem.Challenge.pw_signalwise_k04_refused_texts
theorem PySem.W.Fast.te12609896305783556034:PySem.Challenge.pw_signalwise_k04_refused_texts = PySem.W.Fast.tw12609896305783556034:=rfl
def PySem.W.Fast.tw9862351284327458000:Unit:=()
def PySem.W.Fast.tw1247537633200249033:Unit:=()
def PySem.W.Fast.tw9340757632458770613:Unit:=()
def PySem.W.Fast.tw6996337328080839356:Unit:=()
def PySem.W.Fast.tw13195452375162535822:Unit:=()
def PySem.W.Fast.tw6716034611085141437:Unit:=()
def PySem.W.Fast.tw11316283651569617771:Unit:=()
def PySem.W.Fast.tw3943392087923161978:Unit:=()
def PySem.W.Fast.tw17012356745569379321:Unit:=()
def PySem.W.Fast.tw821450310781085765:Unit:=()
def PySem.W.Fast.tw7318711487026770460:Unit:=()
def PySem.W.Fast.tw3750590911628363344:Unit:=()
def PySem.W.Fast.tw15033608203123059208:Unit:=()
def PySem.W.Fast.tw18081074507358579074:Unit:=()
def PySem.W.Fast.tw16370492917477884881:Unit:=()
def PySem.W.Fast.tw15645952155048693317:Unit:=()
def PySem.W.Fast.tw12157118983687788573:Unit:=()
def PySem.W.Fast.tw11704922391052184021:Unit:=()
def PySem.W.Fast.tw1198888946374218427:Unit:=()
def PySem.W.Fast.tw1691819898522746381:Unit:=()
def PySem.W.Fast.tw8217021654791358662:Unit:=()
def PySem.W.Fast.tw1490357985473623679:Unit:=()
def PySem.W.Fast.tw3519629486685366367:Unit:=()
def PySem.W.Fast.tw17473738309857792511:Unit:=()
def PySem.W.Fast.tw4849265495865236519:Unit:=()
def PySem.W.Fast.tw13784576207217610143:Unit:=()
def PySem.W.Fast.tw11787045576456944404:Unit:=()
def PySem.W.Fast.tw3890230988026252377:Unit:=()
def PySem.W.Fast.tw3067483526883008627:Unit:=()
def PySem.W.Fast.tw10877073471827797459:Unit:=()
def PySem.W.Fast.tw17745638318756285189:Unit:=()
def PySem.W.Fast.tw6453533413301897339:Unit:=()
def PySem.W.Fast.tw6433691356159103891:Unit:=()
def PySem.W.Fast.tw17746124693012665412:Unit:=()
def PySem.W.Fast.tw17331732025138095942:Unit:=()
def PySem.W.Fast.tw13122166223600247508:Unit:=()
def PySem.W.Fast.tw6037309604180397413:Unit:=()
def PySem.W.Fast.tw9376595517203069216:Unit:=()
def PySem.W.Fast.tw14920432888194906803:Unit:=()
def PySem.W.Fast.tw6081196704951333878:Unit:=()
def PySem.W.Fast.tw521302913686470541:Unit:=()
def PySem.W.Fast.tw13191176011793944093:Unit:=()
def PySem.W.Fast.tw15253657487914775649:Unit:=()
def PySem.W.Fast.tw4744758571662180539:Unit:=()
def PySem.W.Fast.tw10027348113306002974:Unit:=()
set_option maxRecDepth 100000 in
set_option maxHeartbeats 0 in
theorem PySem.Challenge.cw_signalwise_k04_refused_texts_holds : PySem.Challenge.rw_signalwise_k04_refused_texts.Holds := by
 w_on; o_law; k_head; (case hw=>w_witness2)
 k_fill
 refine My.walk (l:=PySem.Challenge.rw_signalwise_k04_refused_texts) rfl rfl (fun w h Y=>PySem.W.kIn_of Y) ?F
 case F =>
  intro w mg fa h KX G hmg
  refine' My.all_mk KX G hmg ?a0 ?l0 ?c0 ?k0 ?a1 ?l1 ?c1 ?k1 ?a2 ?l2 ?c2 ?k2 ?a3 ?l3 ?c3 ?k3 ?a4 ?l4 ?c4 ?k4 ?a5 ?l5 ?c5 ?k5 ?a6 ?l6 ?c6 ?k6 ?a7 ?l7 ?c7 ?k7 ?a8 ?l8 ?c8 ?k8 ?a9 ?l9 ?c9 ?k9 ?a10 ?l10 ?c10 ?k10 ?a11 ?l11 ?c11 ?k11 ?a12 ?l12 ?c12 ?k12 ?a13 ?l13 ?c13 ?k13 ?a14 ?l14 ?c14 ?k14 ?a15 ?l15 ?c15 ?k15 ?a16 ?l16 ?c16 ?k16 ?a17 ?l17 ?c17 ?k17 ?a18 ?l18 ?c18 ?k18 ?a19 ?l19 ?c19 ?k19 ?a20 ?l20 ?c20 ?k20 ?a21 ?l21 ?c21 ?k21 ?a22 ?l22 ?c22 ?k22 ?a23 ?l23 ?c23 ?k23 ?a24 ?l24 ?c24 ?k24 ?a25 ?l25 ?c25 ?k25 ?a26 ?l26 ?c26 ?k26 ?aC ?ma0 ?mi0 ?ml0 ?mc0 ?mk0 ?ma1 ?mi1 ?ml1 ?mc1 ?mk1 ?ma2 ?mi2 ?ml2 ?mc2 ?mk2 ?ma3 ?mi3 ?ml3 ?mc3 ?mk3 ?ma4 ?mi4 ?ml4 ?mc4 ?mk4 ?ma5 ?mi5 ?ml5 ?mc5 ?mk5 ?ma6 ?mi6 ?ml6 ?mc6 ?mk6 ?pg ?hd ?po ?sa ?mk ?kc ?nA_words ?nA_place ?ca_KEPT ?cl_KEPT ?cs_KEPT ?cv_KEPT ?ca_BARE ?cl_BARE ?cs_BARE ?cv_BARE ?ca_NAMED ?cl_NAMED ?cs_NAMED ?cv_NAMED ?ca_NAMED_ROUND ?cl_NAMED_ROUND ?cs_NAMED_ROUND ?cv_NAMED_ROUND ?ca_SIGN_USERS ?cl_SIGN_USERS ?cs_SIGN_USERS ?cv_SIGN_USERS ?cn_LONGEST_NAME ?cn_MOST_SIGNS ?cn_MOST_PARTS ?cn_MOST_OPEN ?cn_LETTERS ?cn_MARKS ?cn_BLANKS ?ea_NoText ?ex_NoText ?ea_Twice ?ex_Twice ?ea_NoName ?ex_NoName ?em_NoText_NoText ?ea_WiseError ?hg_NoText ?gn_NoText ?be_NoText ?hd_NoText ?ha_NoText ?hm_NoText ?we_NoText ?kt_NoText ?kv_NoText ?hnC ?htC ?z_ValueError ?z_enumerate ?z_int ?z_isinstance ?z_len ?z_max ?z_range ?z_set ?z_str ?z_tuple
  (case a0=>k_is)
  (case l0=>k_is)
  (case c0=>k_is)
  (case k0=>k_is)
  (case a1=>k_is)
  (case l1=>k_is)
  (case c1=>k_is)
  (case k1=>k_is)
  (case a2=>k_is)
  (case l2=>k_is)
  (case c2=>k_is)
  (case k2=>k_is)
  (case a3=>k_is)
  (case l3=>k_is)
  (case c3=>k_is)
  (case k3=>k_is)
  (case a4=>k_is)
  (case l4=>k_is)
  (case c4=>k_is)
  (case k4=>k_is)
  (case a5=>k_is)
  (case l5=>k_is)
  (case c5=>k_is)
  (case k5=>k_is)
  (case a6=>k_is)
  (case l6=>k_is)
  (case c6=>k_is)
  (case k6=>k_is)
  (case a7=>k_is)
  (case l7=>k_is)
  (case c7=>k_is)
  (case k7=>k_is)
  (case a8=>k_is)
  (case l8=>k_is)
  (case c8=>k_is)
  (case k8=>k_is)
  (case a9=>k_is)
  (case l9=>k_is)
  (case c9=>k_is)
  (case k9=>k_is)
  (case a10=>k_is)
  (case l10=>k_is)
  (case c10=>k_is)
  (case k10=>k_is)
  (case a11=>k_is)
  (case l11=>k_is)
  (case c11=>k_is)
  (case k11=>k_is)
  (case a12=>k_is)
  (case l12=>k_is)
  (case c12=>k_is)
  (case k12=>k_is)
  (case a13=>k_is)
  (case l13=>k_is)
  (case c13=>k_is)
  (case k13=>k_is)
  (case a14=>k_is)
  (case l14=>k_is)
  (case c14=>k_is)
  (case k14=>k_is)
  (case a15=>k_is)
  (case l15=>k_is)
  (case c15=>k_is)
  (case k15=>k_is)
  (case a16=>k_is)
  (case l16=>k_is)
  (case c16=>k_is)
  (case k16=>k_is)
  (case a17=>k_is)
  (case l17=>k_is)
  (case c17=>k_is)
  (case k17=>k_is)
  (case a18=>k_is)
  (case l18=>k_is)
  (case c18=>k_is)
  (case k18=>k_is)
  (case a19=>k_is)
  (case l19=>k_is)
  (case c19=>k_is)
  (case k19=>k_is)
  (case a20=>k_is)
  (case l20=>k_is)
  (case c20=>k_is)
  (case k20=>k_is)
  (case a21=>k_is)
  (case l21=>k_is)
  (case c21=>k_is)
  (case k21=>k_is)
  (case a22=>k_is)
  (case l22=>k_is)
  (case c22=>k_is)
  (case k22=>k_is)
  (case a23=>k_is)
  (case l23=>k_is)
  (case c23=>k_is)
  (case k23=>k_is)
  (case a24=>k_is)
  (case l24=>k_is)
  (case c24=>k_is)
  (case k24=>k_is)
  (case a25=>k_is)
  (case l25=>k_is)
  (case c25=>k_is)
  (case k25=>k_is)
  (case a26=>k_is)
  (case l26=>k_is)
  (case c26=>k_is)
  (case k26=>k_is)
  (case aC=>k_is)
  (case ma0=>k_is)
  (case mi0=>k_is)
  (case ml0=>k_is)
  (case mc0=>k_is)
  (case mk0=>k_is)
  (case ma1=>k_is)
  (case mi1=>k_is)
  (case ml1=>k_is)
  (case mc1=>k_is)
  (case mk1=>k_is)
  (case ma2=>k_is)
  (case mi2=>k_is)
  (case ml2=>k_is)
  (case mc2=>k_is)
  (case mk2=>k_is)
  (case ma3=>k_is)
  (case mi3=>k_is)
  (case ml3=>k_is)
  (case mc3=>k_is)
  (case mk3=>k_is)
  (case ma4=>k_is)
  (case mi4=>k_is)
  (case ml4=>k_is)
  (case mc4=>k_is)
  (case mk4=>k_is)
  (case ma5=>k_is)
  (case mi5=>k_is)
  (case ml5=>k_is)
  (case mc5=>k_is)
  (case mk5=>k_is)
  (case ma6=>k_is)
  (case mi6=>k_is)
  (case ml6=>k_is)
  (case mc6=>k_is)
  (case mk6=>k_is)
  (case pg=>k_is)
  (case hd=>k_is)
  (case po=>k_is)
  (case sa=>k_is)
  (case mk=>k_is)
  (case kc=>k_is)
  (case nA_words=>k_is)
  (case nA_place=>k_is)
  (case ca_KEPT=>k_is)
  (case cl_KEPT=>k_is)
  (case cs_KEPT=>decide)
  (case cv_KEPT=>exact .cons ⟨_,rfl⟩ (.cons ⟨_,rfl⟩ (.cons ⟨_,rfl⟩ (.cons ⟨_,rfl⟩ (.cons ⟨_,rfl⟩ (.cons ⟨_,rfl⟩ (.cons ⟨_,rfl⟩ (.cons ⟨_,rfl⟩ (.cons ⟨_,rfl⟩ (.cons ⟨_,rfl⟩ (.cons ⟨_,rfl⟩ (.cons ⟨_,rfl⟩ (.cons ⟨_,rfl⟩ (.cons ⟨_,rfl⟩ (.cons ⟨_,rfl⟩ (.cons ⟨_,rfl⟩ (.cons ⟨_,rfl⟩ (.nil))))))))))))))))))
  (case ca_BARE=>k_is)
  (case cl_BARE=>k_is)
  (case cs_BARE=>decide)
  (case cv_BARE=>exact .cons ⟨_,rfl⟩ (.cons ⟨_,rfl⟩ (.cons ⟨_,rfl⟩ (.nil))))
  (case ca_NAMED=>k_is)
  (case cl_NAMED=>k_is)
  (case cs_NAMED=>decide)
  (case cv_NAMED=>exact .cons ⟨_,rfl⟩ (.cons ⟨_,rfl⟩ (.cons ⟨_,rfl⟩ (.cons ⟨_,rfl⟩ (.nil)))))
  (case ca_NAMED_ROUND=>k_is)
  (case cl_NAMED_ROUND=>k_is)
  (case cs_NAMED_ROUND=>decide)
  (case cv_NAMED_ROUND=>exact .cons ⟨_,rfl⟩ (.cons ⟨_,rfl⟩ (.cons ⟨_,rfl⟩ (.cons ⟨_,rfl⟩ (.cons ⟨_,rfl⟩ (.nil))))))
  (case ca_SIGN_USERS=>k_is)
  (case cl_SIGN_USERS=>k_is)
  (case cs_SIGN_USERS=>decide)
  (case cv_SIGN_USERS=>exact .cons ⟨_,rfl⟩ (.cons ⟨_,rfl⟩ (.cons ⟨_,rfl⟩ (.cons ⟨_,rfl⟩ (.cons ⟨_,rfl⟩ (.cons ⟨_,rfl⟩ (.cons ⟨_,rfl⟩ (.nil))))))))
  (case cn_LONGEST_NAME=>k_is)
  (case cn_MOST_SIGNS=>k_is)
  (case cn_MOST_PARTS=>k_is)
  (case cn_MOST_OPEN=>k_is)
  (case cn_LETTERS=>k_is)
  (case cn_MARKS=>k_is)
  (case cn_BLANKS=>k_is)
  (case ea_NoText=>k_is)
  (case ex_NoText=>k_exc)
  (case ea_Twice=>k_is)
  (case ex_Twice=>k_exc)
  (case ea_NoName=>k_is)
  (case ex_NoName=>k_exc)
  (case em_NoText_NoText=>kts_exm)
  (case ea_WiseError=>k_is)
  (case hg_NoText=>k_is)
  (case gn_NoText=>k_is)
  (case be_NoText=>k_is)
  (case hd_NoText=>k_is)
  (case ha_NoText=>k_is)
  (case hm_NoText=>k_is)
  (case we_NoText=>kts_exm)
  (case kt_NoText=>kit_is)
  (case kv_NoText=>kit_is)
  (case hnC=>k_is)
  (case htC=>k_is)
  (case z_ValueError=>k_is)
  (case z_enumerate=>k_is)
  (case z_int=>k_is)
  (case z_isinstance=>k_is)
  (case z_len=>k_is)
  (case z_max=>k_is)
  (case z_range=>k_is)
  (case z_set=>k_is)
  (case z_str=>k_is)
  (case z_tuple=>k_is)
#print axioms PySem.Challenge.cw_signalwise_k04_refused_texts_holds
