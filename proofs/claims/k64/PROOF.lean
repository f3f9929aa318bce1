import PyProof.Rows.All
import Wide.All
import OpenK.AllK
import Wide.FinOn
import Lean
import PyProof.EqAt
import PyProof.EqKinds
import PyProof.TupleCall
import PyProof.StrLawsRepr
import KE.RegKTryMore
import PySem.Challenge.RW_signalwise_k64_too_many
set_option Elab.async false
set_option linter.all false
set_option maxRecDepth 100000
namespace L2
open PySem PySem.Spec PyProof.Rows
abbrev Key:=Sum Int Str
def keyIs:Key→Value→Bool
 | .inl k,v=>Value.isInt k v
 | .inr x,v=>Value.isStrOf x v
def keyH (w:World):Key→Int
 | .inl k=>hashInt k
 | .inr x=>hashStr w x
theorem keyIs_shape:∀ {k:Key} {v:Value},keyIs k v = true→(∃ i t,k = Sum.inl i∧v = Value.int i t)∨(∃ x t,k = Sum.inr x∧v = Value.str x t)
 | .inl i,v,h=>by
  obtain ⟨t,e⟩:=Value.isInt_shape (k:=i) (v:=v) h
  exact .inl ⟨i,t,rfl,e⟩
 | .inr x,v,h=>by
  obtain ⟨t,e⟩:=Value.isStrOf_shape (x:=x) (v:=v) h
  exact .inr ⟨x,t,rfl,e⟩
theorem keyIs_int (i:Int) (t:Tok):keyIs (.inl i) (.int i t) = true:=by simp [keyIs,Value.isInt]
theorem keyIs_str (x:Str) (t:Tok):keyIs (.inr x) (.str x t) = true:=by simp [keyIs,Value.isStrOf]
theorem key_ll (a b:Int):decide ((Sum.inl a:Key) = Sum.inl b) = (a == b):=by
 by_cases e:a = b
 ·subst e; simp
 ·have h:¬ (Sum.inl a:Key) = Sum.inl b:=fun q=>e (Sum.inl.inj q)
  rw [decide_eq_false h]
  exact (beq_eq_false_iff_ne.mpr e).symm
theorem key_rr (a b:Str):decide ((Sum.inr a:Key) = Sum.inr b) = decide (a = b):=by
 by_cases e:a = b
 ·subst e; simp
 ·have h:¬ (Sum.inr a:Key) = Sum.inr b:=fun q=>e (Sum.inr.inj q)
  rw [decide_eq_false h,decide_eq_false e]
theorem key_lr (a:Int) (b:Str):decide ((Sum.inl a:Key) = Sum.inr b) = false:=decide_eq_false (fun q=>nomatch q)
theorem key_rl (a:Str) (b:Int):decide ((Sum.inr a:Key) = Sum.inl b) = false:=decide_eq_false (fun q=>nomatch q)
def mixKind (prog:Program) (w:World):PySem.KeyKind prog w Key where
 is:=keyIs
 hash:=keyH w
 inj:=fun v a b ha hb=>by
  rcases keyIs_shape ha with ⟨i,t,rfl,rfl⟩ | ⟨x,t,rfl,rfl⟩
  ·rcases keyIs_shape hb with ⟨j,u,rfl,e⟩ | ⟨y,u,rfl,e⟩
   ·injection e with e1 _; rw [e1]
   ·exact nomatch e
  ·rcases keyIs_shape hb with ⟨j,u,rfl,e⟩ | ⟨y,u,rfl,e⟩
   ·exact nomatch e
   ·injection e with e1 _; rw [e1]
 byValue:=fun k v h=>by
  rcases keyIs_shape h with ⟨i,t,rfl,rfl⟩ | ⟨x,t,rfl,rfl⟩ <;> rfl
 pyHash:=fun hv h=>by
  rcases keyIs_shape hv with ⟨i,t,rfl,rfl⟩ | ⟨x,t,rfl,rfl⟩
  ·exact wpAny_pyHash_int h
  ·exact wpAny_pyHash_str h
 eqBool:=fun hu hv h=>by
  rcases keyIs_shape hu with ⟨i,t,rfl,rfl⟩ | ⟨x,t,rfl,rfl⟩
  ·rcases keyIs_shape hv with ⟨j,u,rfl,rfl⟩ | ⟨y,u,rfl,rfl⟩
   ·rw [key_ll] at h; exact wpAny_eqBool_int h
   ·rw [key_lr] at h; exact SeqAt.EqAt.int_str i t y u _ _ _ _ h
  ·rcases keyIs_shape hv with ⟨j,u,rfl,rfl⟩ | ⟨y,u,rfl,rfl⟩
   ·rw [key_rl] at h; exact SeqAt.EqAt.str_int x t j u _ _ _ _ h
   ·rw [key_rr] at h; exact wpAny_eqBool_str h
 «strs»:=fun k x t v h=>by
  rcases keyIs_shape h with ⟨i,u,rfl,e⟩ | ⟨y,u,rfl,e⟩
  ·exact nomatch e
  ·injection e with e1 _
   subst e1
   cases v <;> rfl
theorem mixKind_int (prog:Program) (w:World) (i:Int) (t:Tok):(mixKind prog w).is (.inl i) (.int i t) = true:=keyIs_int i t
theorem mixKind_str (prog:Program) (w:World) (x:Str) (t:Tok):(mixKind prog w).is (.inr x) (.str x t) = true:=keyIs_str x t
end L2
namespace L2
open PySem PySem.Spec PyProof.Rows
inductive V where
 | non | bl (b:Bool) | int (i:Int) | str (x:Str) | byt (b:Array UInt8) | flt (b:UInt64) | ref (a:Addr) | ty (n:String)
 deriving DecidableEq
def RelV:V→Value→Prop
 | .non,u=>u = Value.none
 | .bl b,u=>u = Value.bool b
 | .int i,u=>∃ t,u = Value.int i t
 | .str x,u=>∃ t,u = Value.str x t
 | .byt b,u=>∃ t,u = Value.bytes b t
 | .flt b,u=>∃ t,u = Value.float b t
 | .ref a,u=>u = Value.ref a
 | .ty n,u=>u = Value.type n
abbrev Vals:List V→List Value→Prop:=Paired RelV
theorem Vals.length {xs:List V} {us:List Value} (r:Vals xs us):xs.length = us.length:=Paired.length r
theorem Vals.get:∀ {xs:List V} {us:List Value} {i:Nat} {x:V},Vals xs us→xs[i]? = some x→∃ u,us[i]? = some u∧RelV x u
 | _,_,_,_,.nil,e=>by simp at e
 | _,_,0,_,.cons r _,e=>by simp at e; subst e; exact ⟨_,rfl,r⟩
 | _,_,i + 1,x,.cons _ t,e=>by
  obtain ⟨u,h1,h2⟩:=Vals.get (i:=i) (x:=x) t (by simpa using e)
  exact ⟨u,by simpa using h1,h2⟩
theorem Vals.set {x:V} {u:Value} (r:RelV x u):∀ {xs:List V} {us:List Value} (i:Nat),Vals xs us→Vals (xs.set i x) (us.set i u)
 | _,_,_,.nil=>.nil
 | _,_,0,.cons _ t=>.cons r t
 | _,_,i + 1,.cons q t=>.cons q (Vals.set r i t)
theorem Vals.append:∀ {xs ys:List V} {us ws:List Value},Vals xs us→Vals ys ws→Vals (xs ++ ys) (us ++ ws)
 | _,_,_,_,.nil,s=>s
 | _,_,_,_,.cons r t,s=>.cons r (Vals.append t s)
theorem Vals.take:∀ {xs:List V} {us:List Value} (n:Nat),Vals xs us→Vals (xs.take n) (us.take n)
 | _,_,0,_=>.nil
 | _,_,_ + 1,.nil=>.nil
 | _,_,n + 1,.cons r t=>.cons r (Vals.take n t)
theorem Vals.drop:∀ {xs:List V} {us:List Value} (n:Nat),Vals xs us→Vals (xs.drop n) (us.drop n)
 | _,_,0,r=>r
 | _,_,_ + 1,.nil=>.nil
 | _,_,n + 1,.cons _ t=>Vals.drop n t
def RelO:Option V→Option Value→Prop
 | some v,some u=>RelV v u
 | none,none=>True
 | _,_=>False
def KV {κ:Type}:List (κ× V)→List (κ× Value)→Prop:=Paired fun (p:κ× V) (q:κ× Value)=>p.1 = q.1∧RelV p.2 q.2
def kV:Key→V
 | .inl i=>.int i
 | .inr x=>.str x
inductive HO where
 | lst (xs:List V)
 | tup (xs:List V)
 | dK (kvs:List (Key× V)) | dT (kvs:List (List Key× V))
 | set (S:Int→Bool) (n:Nat)
 | ins (C dx:Addr) (fs:List (Str× V))
 | own (x:Addr)
 | xd (fs:List (Str× V))
 | met (f x:Addr)
 | rng (lo hi:Int)
 | frz (o:Obj) (u:HO)
 | tbl (ps:Array Value)
 | ext (φ:Heap→Prop)
abbrev Hp:=Addr→Option HO
def upd (H:Hp) (a:Addr) (o:HO):Hp:=fun b=>if b = a then some o else H b
theorem upd_same {H:Hp} {a:Addr} {o:HO}:upd H a o a = some o:=by unfold upd; rw [if_pos rfl]
theorem upd_ne {H:Hp} {a b:Addr} {o:HO} (h:b≠a):upd H a o b = H b:=by unfold upd; rw [if_neg h]
theorem ne_of {H:Hp} {a b:Addr} {o u:HO} (h:H a = some o) (h':H b = some u) (d:o≠u):a≠b:=by
 intro e; subst e; rw [h] at h'; exact d (Option.some.inj h')
theorem ne_of_none {H:Hp} {a b:Addr} {o:HO} (h:H a = some o) (h':H b = none):a≠b:=by
 intro e; subst e; rw [h] at h'; cases h'
section
variable (P:Program) (w:World)
def ObjOk (H:Hp) (h:Heap) (a:Addr):HO→Prop
 | .lst xs=>xs.length≤sizeLine∧∃ (its:List Value) (n:Nat),Vals xs its∧h.get? a = some { cls:=.type "list", data:=.seq its.toArray n }
 | .tup xs=>xs.length≤sizeLine∧∃ its:List Value,Vals xs its∧IsTup h a its.toArray
 | .dK kvs=>kvs.length≤sizeLine∧(a == sysModules) = false∧∃ vs,KV kvs vs∧h.DictOf (mixKind P w) a vs
 | .dT kvs=>kvs.length≤sizeLine∧(a == sysModules) = false∧∃ xs:List (List Key× Addr× Value),
   Paired (fun (p:List Key× V) (q:List Key× Addr× Value)=>p.1 = q.1∧H q.2.1 = some (.tup (p.1.map kV))∧RelV p.2 q.2.2) kvs xs ∧
   ∃ o es ep,h.get? a = some o∧o.ExactDict∧o.data = .dict es ep∧es.toList = xs.map (entryOfKey (tupleKind (mixKind P w)))∧(xs.map (·.1)).Nodup
 | .set S n=>h.SetOf (intKind P w) a S n
 | .ins C dx fs=>H dx = some (.own a)∧fs.length≤1000∧dx≠a∧h.get? a = some (PySem.W.instObj C dx) ∧
   ∃ mA,h.Ns1 dx mA∧(∀ f,RelO (fs.lookup f) (mA f))∧PySem.Within mA (fs.map (·.1))
 | .own _=>∃ o,h.get? a = some o
 | .xd fs=>∃ mA,h.Ns1 a mA∧∀ f,RelO (fs.lookup f) (mA f)
 | .rng lo hi=>∃ t u v,h.get? a = some { cls:=.type "range", data:=.fields #[.int lo t,.int hi u,.int 1 v] }
 | .frz o u=>h.get? a = some o∧ObjOk H h a u
 | .tbl ps=>h.get? a = some { cls:=.none,data:=.fields ps }
 | .met f x=>h.get? a = some (PySem.W.methodObj (.ref f) (.ref x))
 | .ext φ=>φ h∧(∃ o,h.get? a = some o)∧∀ h1 h2:Heap,φ h1→(∀ o,h1.get? a = some o→h2.get? a = some o)→φ h2
def HOk (H:Hp) (h:Heap):Prop:=∀ a o,H a = some o→ObjOk P w H h a o
end
section
variable {P:Program} {w:World} {H H':Hp} {h h':Heap} {a:Addr} {o:HO}
theorem ObjOk.lt (x:ObjOk P w H h a o):a < h.objs.size:=by
 cases o with
 | lst xs=>obtain ⟨_,_,_,_,e⟩:=x; exact Heap.lt_size e
 | tup xs=>obtain ⟨_,_,_,p⟩:=x; exact p.lt
 | dK kvs=>obtain ⟨_,_,_,_,o,_,_,e,_⟩:=x; exact Heap.lt_size e
 | dT kvs=>obtain ⟨_,_,_,_,o,_,_,e,_⟩:=x; exact Heap.lt_size e
 | set S n=>obtain ⟨o,_,_,_,e,_⟩:=x; exact Heap.lt_size e
 | ins C dx fs=>obtain ⟨_,_,_,e,_⟩:=x; exact Heap.lt_size e
 | own y=>obtain ⟨_,e⟩:=x; exact Heap.lt_size e
 | xd fs=>obtain ⟨_,⟨_,_,_,e,_⟩,_⟩:=x; exact Heap.lt_size e
 | rng lo hi=>obtain ⟨_,_,_,e⟩:=x; exact Heap.lt_size e
 | frz ob u=>obtain ⟨e,_⟩:=x; exact Heap.lt_size e
 | tbl ps=>exact Heap.lt_size (show h.get? a = some _ from x)
 | met f y=>exact Heap.lt_size (show h.get? a = some _ from x)
 | ext φ=>obtain ⟨_,⟨_,e⟩,_⟩:=x; exact Heap.lt_size e
theorem Paired.mapP {α β:Type} {F G:α→β→Prop}:∀ {l₁:List α} {l₂:List β},Paired F l₁ l₂→(∀ a b,F a b→G a b)→Paired G l₁ l₂
 | _,_,.nil,_=>.nil
 | _,_,.cons r t,f=>.cons (f _ _ r) (Paired.mapP t f)
theorem ObjOk.stay (x:ObjOk P w H h a o) (k:∀ b u,(b = a∨H b = some (.own a))→h.get? b = some u→h'.get? b = some u)
  (ho:∀ b,H b = some (.own a)→H' b = some (.own a)) (ht:∀ b xs,H b = some (.tup xs)→H' b = some (.tup xs)):ObjOk P w H' h' a o:=by
 induction o with
 | lst xs=>obtain ⟨z,its,n,r,e⟩:=x; exact ⟨z,its,n,r,k _ _ (.inl rfl) e⟩
 | tup xs=>obtain ⟨z,its,r,ob,e,c⟩:=x; exact ⟨z,its,r,ob,k _ _ (.inl rfl) e,c⟩
 | dK kvs=>obtain ⟨z,y,vs,r,ob,es,ep,e,c⟩:=x; exact ⟨z,y,vs,r,ob,es,ep,k _ _ (.inl rfl) e,c⟩
 | dT kvs =>
  obtain ⟨z,y,xs,r,ob,es,ep,e,c⟩:=x
  exact ⟨z,y,xs,Paired.mapP r fun p q z=>⟨z.1,ht _ _ z.2.1,z.2.2⟩,ob,es,ep,k _ _ (.inl rfl) e,c⟩
 | set S n=>obtain ⟨ob,es,ep,t,e,c⟩:=x; exact ⟨ob,es,ep,t,k _ _ (.inl rfl) e,c⟩
 | ins C dx fs =>
  obtain ⟨d,z,ne,e,mA,⟨od,es,ep,e2,c⟩,r⟩:=x
  exact ⟨ho _ d,z,ne,k _ _ (.inl rfl) e,mA,⟨od,es,ep,k _ _ (.inr d) e2,c⟩,r⟩
 | own y=>obtain ⟨ob,e⟩:=x; exact ⟨ob,k _ _ (.inl rfl) e⟩
 | xd fs=>obtain ⟨mA,⟨od,es,ep,e,c⟩,r⟩:=x; exact ⟨mA,⟨od,es,ep,k _ _ (.inl rfl) e,c⟩,r⟩
 | rng lo hi=>obtain ⟨t,u,v,e⟩:=x; exact ⟨t,u,v,k _ _ (.inl rfl) e⟩
 | frz ob u ih=>obtain ⟨e,q⟩:=x; exact ⟨k _ _ (.inl rfl) e,ih q⟩
 | tbl ps =>
  have e:h.get? a = some { cls:=.none,data:=.fields ps }:=x
  show h'.get? a = some { cls:=.none,data:=.fields ps }
  exact k a _ (.inl rfl) e
 | met f y =>
  have e:h.get? a = some (PySem.W.methodObj (.ref f) (.ref y)):=x
  show h'.get? a = some (PySem.W.methodObj (.ref f) (.ref y))
  exact k a _ (.inl rfl) e
 | ext φ=>obtain ⟨p,⟨o,e⟩,st⟩:=x; exact ⟨st _ _ p fun o q=>k _ _ (.inl rfl) q,⟨o,k _ _ (.inl rfl) e⟩,st⟩
theorem HOk.lt (x:HOk P w H h) (e:H a = some o):a < h.objs.size:=(x a o e).lt
theorem HOk.fresh (x:HOk P w H h) (e:h.objs.size≤a):H a = none:=by
 cases q:H a with
 | none=>rfl
 | some u=>exact absurd (Nat.lt_of_lt_of_le (x.lt q) e) (Nat.lt_irrefl _)
theorem HOk.kept (x:HOk P w H h) (k:∀ b u,h.get? b = some u→h'.get? b = some u):HOk P w H h':=fun a o e =>
 (x a o e).stay (fun b u _ q=>k b u q) (fun _ q=>q) fun _ _ q=>q
theorem HOk.laid (x:HOk P w H h) (k:∀ b u,h.get? b = some u→h'.get? b = some u) (hp:h.objs.size≤a) (new:ObjOk P w (upd H a o) h' a o):HOk P w (upd H a o) h':=fun b u e=>by
 have hn:=x.fresh hp
 by_cases hb:b = a
 ·subst hb; rw [upd_same] at e; cases e; exact new
 ·rw [upd_ne hb] at e
  exact (x b u e).stay (fun c v _ q=>k c v q) (fun c q=>by rw [upd_ne (ne_of_none q hn)]; exact q) fun c xs q=>by rw [upd_ne (ne_of_none q hn)]; exact q
end
def Rd (H:Hp) (a:Addr) (u:HO):Prop:=H a = some u∨∃ o,H a = some (.frz o u)
theorem Rd.ok {P:Program} {w:World} {H:Hp} {h:Heap} {a:Addr} {u:HO} (r:Rd H a u) (x:HOk P w H h):ObjOk P w H h a u:=by
 rcases r with r | ⟨o,r⟩
 ·exact x a u r
 ·obtain ⟨_,q⟩:=x a _ r
  exact q
def Mut:Option HO→Prop
 | some (.lst _)=>True
 | some (.dK _)=>True
 | some (.dT _)=>True
 | some (.set _ _)=>True
 | some (.ins _ _ _)=>True
 | some (.ext _)=>True
 | _=>False
section
variable {P:Program} {w:World} {H:Hp} {h h':Heap} {x e:Addr} {o':HO}
theorem HOk.write (ok:HOk P w H h) (mu:Mut (H x)) (he:e = x∨H e = some (.own x)) (k:∀ b u,b≠e→h.get? b = some u→h'.get? b = some u) (heo:∃ u,h'.get? e = some u)
  (new:ObjOk P w (upd H x o') h' x o'):HOk P w (upd H x o') h':=fun b u q=>by
 have nown:∀ c y,H c = some (.own y)→c≠x:=fun c y r z=>by subst z; rw [r] at mu; exact mu
 have ntup:∀ c xs,H c = some (.tup xs)→c≠x:=fun c xs r z=>by subst z; rw [r] at mu; exact mu
 by_cases hb:b = x
 ·subst hb; rw [upd_same] at q; cases q; exact new
 ·rw [upd_ne hb] at q
  by_cases hbe:b = e
  ·have q':H b = some (.own x):=by
    rcases he with z | z
    ·exact absurd (hbe.trans z) hb
    ·rw [hbe]; exact z
   rw [q] at q'; cases q'
   obtain ⟨v,hv⟩:=heo
   exact ⟨v,by rw [hbe]; exact hv⟩
  ·refine (ok b u q).stay (fun c v hc r=>k c v ?_ r) (fun c r=>by rw [upd_ne (nown c b r)]; exact r) fun c xs r=>by rw [upd_ne (ntup c xs r)]; exact r
   rcases hc with rfl | hc
   ·exact hbe
   ·rintro rfl
    rcases he with z | z
    ·exact nown c b hc z
    ·rw [hc] at z; cases z; exact hb rfl
end
structure Un (fs ex:List Addr) (H H':Hp) (h h':Heap):Prop where
 keep:∀ b o,h.get? b = some o→H b = none→b∉fs→b∉ex→h'.get? b = some o
 slot:∀ b o,h.get? b = some o→H b = none→b∈fs→b∉ex→∃ sl,h'.get? b = some { o with slots:=sl }
 free:∀ b o,h.get? b = some o→H b = none→b∉ex→H' b = none
 there:∀ b o,h.get? b = some o→b∉ex→∃ o',h'.get? b = some o'
 tups:∀ b xs,H b = some (.tup xs)→H' b = some (.tup xs)
 frzs:∀ b o u,H b = some (.frz o u)→H' b = some (.frz o u)
 tbls:∀ b ps,H b = some (.tbl ps)→∃ more,H' b = some (.tbl (ps ++ more))
section
variable {fs fs' ex ex':List Addr} {H H1 H2:Hp} {h h1 h2 h':Heap} {a x e:Addr} {o:HO}
theorem Un.any (u:Un fs ex H H1 h h1) {b:Addr} {ob:Obj} (q:h.get? b = some ob) (n:H b = none) (hx:b∉ex):∃ sl,h1.get? b = some { ob with slots:=sl }:=by
 by_cases hb:b∈fs
 ·exact u.slot b ob q n hb hx
 ·exact ⟨ob.slots,u.keep b ob q n hb hx⟩
theorem Un.kept (k:∀ b u,h.get? b = some u→h'.get? b = some u):Un fs ex H H h h' :=
 ⟨fun b ob q _ _ _=>k b ob q,fun b ob q _ _ _=>⟨ob.slots,k b ob q⟩,fun _ _ _ n _=>n,fun b ob q _=>⟨ob,k b ob q⟩,fun _ _ q=>q,fun _ _ _ q=>q,fun _ ps q=>⟨#[],by rw [q]; simp⟩⟩
theorem Un.refl:Un fs ex H H h h:=Un.kept fun _ _ q=>q
theorem Un.laid (k:∀ b u,h.get? b = some u→h'.get? b = some u) (hp:h.objs.size≤a) (hn:H a = none):Un fs ex H (upd H a o) h h' where
 keep:=fun b u q _ _ _=>k b u q
 slot:=fun b u q _ _ _=>⟨u.slots,k b u q⟩
 free:=fun b u q n _=>by rw [upd_ne (Nat.ne_of_lt (Nat.lt_of_lt_of_le (Heap.lt_size q) hp))]; exact n
 there:=fun b u q _=>⟨u,k b u q⟩
 tups:=fun b xs q=>by rw [upd_ne (ne_of_none q hn)]; exact q
 frzs:=fun b u xs q=>by rw [upd_ne (ne_of_none q hn)]; exact q
 tbls:=fun b ps q=>⟨#[],by rw [upd_ne (ne_of_none q hn),q]; simp⟩
theorem Un.write (mu:Mut (H x)) (he:e = x∨H e = some (.own x)) (k:∀ b u,b≠e→h.get? b = some u→h'.get? b = some u) (heo:∃ u,h'.get? e = some u):Un fs ex H (upd H x o) h h':=by
 have hx:∀ b,H b = none→b≠x:=fun b n z=>by subst z; rw [n] at mu; exact mu
 have hb:∀ b,H b = none→b≠e:=fun b n z=>by
  subst z
  rcases he with r | r
  ·exact hx b n r
  ·rw [n] at r; cases r
 have hm:∀ b u,H b = some u→¬ Mut (some u)→b≠x:=fun b u q nm z=>by subst z; rw [q] at mu; exact nm mu
 refine ⟨fun b u q n _ _=>k b u (hb b n) q,fun b u q n _ _=>⟨u.slots,k b u (hb b n) q⟩,fun b u q n _=>by rw [upd_ne (hx b n)]; exact n,fun b u q _=>?_,
  fun b xs q=>by rw [upd_ne (hm b _ q fun z=>z)]; exact q,fun b u xs q=>by rw [upd_ne (hm b _ q fun z=>z)]; exact q,fun b ps q=>⟨#[],by rw [upd_ne (hm b _ q fun z=>z),q]; simp⟩⟩
 by_cases hbe:b = e
 ·subst hbe; exact heo
 ·exact ⟨u,k b u hbe q⟩
end
def trk (h:Heap) (H:Hp):List Addr:=(List.range h.objs.size).filter fun a=>(H a).isSome
def hidT (h:Heap) (H:Hp):Heap:=PySem.W.hideAll h (trk h H)
theorem hidT_size (h:Heap) (H:Hp):(hidT h H).objs.size = h.objs.size:=PySem.W.hideAll_size _ _
theorem hidT_get {h:Heap} {H:Hp} {b:Addr} {o:Obj} (e:h.get? b = some o) (n:H b = none):(hidT h H).get? b = some o :=
 PySem.W.hideAll_get _ e fun hm=>by
  have q:(H b).isSome = true:=(List.mem_filter.mp hm).2
  rw [n] at q; simp at q
theorem of_hidT {h:Heap} {H:Hp} {b:Addr} {o:Obj} (e:(hidT h H).get? b = some o):h.get? b = some o∧H b = none:=by
 have e':h.get? b = some o:=PySem.W.of_hideAll (trk h H) e
 refine ⟨e',?_⟩
 cases q:H b with
 | none=>rfl
 | some x =>
  have hm:b∈trk h H:=List.mem_filter.mpr ⟨List.mem_range.mpr (Heap.lt_size e'),by simp [q]⟩
  have z:(hidT h H).get? b = none:=PySem.W.hideAll_none (trk h H) hm
  rw [z] at e; cases e
def allNews (g h:Heap) (L:Addr):List (Addr× Obj):=(List.range h.objs.size).filterMap fun a=>if a = L∨(g.get? a).isSome = true then none else (h.get? a).map fun o=>(a,o)
def rest (g h:Heap) (L d:Addr):List (Addr× Obj):=(allNews g h L).filter fun p=>decide (p.1≠d)
end L2
namespace L2
open PySem PySem.Spec PyProof.Rows
structure Mod (K:PySem.W.Frag) (mg:Str→Option Value) (base:Heap):Prop where
 kin:K.In base
 glob:base.Ns mainGlobals mg
 blt:∃ mb,base.Ns builtinsNs mb∧∀ x:Str,x≠ "__name__" → mb x = bootBuiltins x
 nolimit:base.NoLimit
structure Cx where
 prog:Program
 w:World
 K:PySem.W.Frag
 mg:Str→Option Value
 base:Heap
 A:Around
 N:List Str
 s₀:Shared
 H₀:Hp
 env:Env
 outer:List Env
 stack:List Env
 ex:List Addr
 fn:Str→Bool
 calm:Bool
 pn:List (Addr× Obj)
 xe:Value→Shared→Prop
def frs (l:List Env):List Addr:=l.filterMap (·.frame)
abbrev Cx.fs (X:Cx):List Addr:=frs X.outer
def Vis (sc:Scope) (x:Str):Prop:=sc.names.lookup x = some .local∨sc.names.lookup x = some .cell∨sc.names.lookup x = some .free
def Loc (sc:Scope) (x:Str):Prop:=sc.names.lookup x = some .local∨sc.names.lookup x = some .cell
def Look (env:Env) (h:Heap) (m:Str→Option Value) (x:Str) (u:Value):Prop :=
 (env.kindOf x = some .local∧m x = some u)∨((env.kindOf x = some .cell∨env.kindOf x = some .free)∧∃ c,env.cells.lookup x = some c∧h.IsCell c (some u))
structure Cx.Ok (X:Cx):Prop where
 mod:Mod X.K X.mg X.base
 kind:X.env.scope.kind = .function
 glob:X.env.globals = mainGlobals
 blt:X.env.builtins = builtinsNs
 above:X.s₀.heap.objs.size≤X.env.locals
 inj:∀ x y c,X.env.cells.lookup x = some c→X.env.cells.lookup y = some c→x = y
 has:∀ x,(X.env.kindOf x = some .cell∨X.env.kindOf x = some .free)→∃ c,X.env.cells.lookup x = some c
 cab:∀ x c,X.fn x = true→X.env.cells.lookup x = some c→X.s₀.heap.objs.size≤c
 hd:X.calm = true→X.A.handled = none
 frames:X.A.frames = some X.stack
 stk:X.stack = X.outer∨(X.stack = X.env :: X.outer∧X.env.frame = some X.env.locals)
 exf:∀ b∈X.ex,b≠X.env.locals∧∀ x c,X.env.cells.lookup x = some c→c≠b
 bs:∀ b o,X.base.get? b = some o→X.s₀.heap.get? b = some o∧X.H₀ b = none
 bsz:X.base.objs.size≤X.s₀.heap.objs.size
 noex:∀ b o,X.base.get? b = some o→b∉X.ex
 exfs:∀ b∈X.ex,b∉X.fs
 funs:X.s₀.heap.FunFrames X.base X.outer
 frf:∀ b∈X.fs,X.H₀ b = none
structure Inv (X:Cx) (pins:List (Addr× Obj)) (σ:List (Option V)) (H:Hp) (s:Shared):Prop where
 ok:X.Ok
 os:s.os = X.s₀.os
 bare:AllBare s.gens
 base:Un X.fs X.ex X.H₀ H X.s₀.heap s.heap
 loc:∃ m,s.heap.Ns X.env.locals m∧∀ (i:Nat) (x:Str) (v:V),X.N[i]? = some x→σ[i]? = some (some v)→Vis X.env.scope x→∃ u,RelV v u∧Look X.env s.heap m x u
 cell:∀ x c,X.env.cells.lookup x = some c→∃ v,s.heap.IsCell c v
 free:H X.env.locals = none
 freeC:∀ x c,X.env.cells.lookup x = some c→H c = none
 pin:∀ p∈X.pn ++ pins,s.heap.get? p.1 = some p.2∧H p.1 = none∧p.1≠X.env.locals∧p.1∉X.fs∧∀ v,p.2.data≠.cell v
 hok:HOk X.prog X.w H s.heap
 len:σ.length = X.N.length
section
variable {X:Cx} {pins:List (Addr× Obj)} {σ:List (Option V)} {H H':Hp} {s:Shared} {h':Heap}
theorem Cx.Ok.nofr (ok:X.Ok) {b:Addr} {o:Obj} (e:X.base.get? b = some o):b∉X.fs:=fun hb=>by
 have:=(ok.funs.mem hb).1
 rw [e] at this; cases this
theorem Inv.bs (I:Inv X pins σ H s):∀ b o,X.base.get? b = some o→s.heap.get? b = some o∧H b = none:=fun b o e =>
 ⟨I.base.keep b o (I.ok.bs b o e).1 (I.ok.bs b o e).2 (I.ok.nofr e) (I.ok.noex b o e),I.base.free b o (I.ok.bs b o e).1 (I.ok.bs b o e).2 (I.ok.noex b o e)⟩
theorem Inv.bk (I:Inv X pins σ H s):∀ b o,X.base.get? b = some o→s.heap.get? b = some o:=fun b o e=>(I.bs b o e).1
theorem Inv.mod (I:Inv X pins σ H s):Mod X.K X.mg X.base:=I.ok.mod
theorem Inv.kIn (I:Inv X pins σ H s):X.K.In s.heap:=I.ok.mod.kin.keeps I.bk
theorem Inv.lt (I:Inv X pins σ H s):X.env.locals < s.heap.objs.size:=let ⟨_,hn,_⟩:=I.loc; hn.lt
theorem Inv.sz (I:Inv X pins σ H s):X.s₀.heap.objs.size≤s.heap.objs.size:=Nat.le_trans I.ok.above (Nat.le_of_lt I.lt)
theorem Inv.nofs (I:Inv X pins σ H s) {a:Addr} (h:s.heap.objs.size≤a):a∉X.fs:=fun hb=>by
 obtain ⟨_,o,ho,_⟩:=I.ok.funs.mem hb
 exact absurd (Nat.lt_of_lt_of_le (Heap.lt_size ho) (Nat.le_trans I.sz h)) (Nat.lt_irrefl _)
theorem Inv.cne (I:Inv X pins σ H s):∀ x c,X.env.cells.lookup x = some c→c≠X.env.locals:=fun x c e z=>by
 obtain ⟨v,o,ho,hd⟩:=I.cell x c e
 obtain ⟨m,⟨o',es,ep,ho',hd',_⟩,_⟩:=I.loc
 rw [z,ho'] at ho; cases ho; rw [hd'] at hd; cases hd
theorem Inv.funs (I:Inv X pins σ H s):s.heap.FunFrames X.base X.outer:=by
 have all:∀ (l:List Env),(∀ b∈frs l,b∈X.fs)→X.s₀.heap.FunFrames X.base l→s.heap.FunFrames X.base l:=by
  intro l
  induction l with
  | nil=>intro _ _; trivial
  | cons env r ih =>
   intro hs hl
   obtain ⟨hk,⟨L,o,hf,hn,ho,hd⟩,hr⟩:=hl
   have hL:L∈X.fs:=hs L (by unfold frs; rw [List.filterMap_cons,hf]; exact List.mem_cons_self)
   obtain ⟨sl,e⟩:=I.base.slot L o ho (I.ok.frf L hL) hL fun z=>I.ok.exfs L z hL
   exact ⟨hk,⟨L,_,hf,hn,e,hd⟩,ih (fun b hb=>hs b (by unfold frs; rw [List.filterMap_cons,hf]; exact List.mem_cons_of_mem _ hb)) hr⟩
 exact all X.outer (fun _ hb=>hb) I.ok.funs
theorem Inv.stack (I:Inv X pins σ H s):s.heap.FunFrames X.base X.stack:=by
 rcases I.ok.stk with e | ⟨e,hf⟩
 ·rw [e]; exact I.funs
 ·rw [e]
  obtain ⟨m,hn,_⟩:=I.loc
  refine .cons (by rw [I.ok.kind]; decide) hf hn ?_ I.funs
  exact Heap.get?_none_of_le (Nat.le_trans I.ok.bsz I.ok.above)
theorem Inv.stkSub (I:Inv X pins σ H s):∀ b∈frs X.stack,b∈X.env.locals :: X.fs:=fun b hb=>by
 rcases I.ok.stk with e | ⟨e,hf⟩
 ·rw [e] at hb; exact List.mem_cons_of_mem _ hb
 ·rw [e] at hb
  unfold frs at hb
  rw [List.filterMap_cons,hf] at hb
  exact hb
theorem Inv.stkFree (I:Inv X pins σ H s):∀ b∈frs X.stack,H b = none:=fun b hb=>by
 rcases List.mem_cons.mp (I.stkSub b hb) with e | hb
 ·rw [e]; exact I.free
 ·obtain ⟨_,o,ho,_⟩:=I.ok.funs.mem hb
  exact I.base.free b o ho (I.ok.frf b hb) fun z=>I.ok.exfs b z hb
theorem Inv.step {g':Array GenState} {t':Nat} {d':Drawn} {ch:List Addr} (I:Inv X pins σ H s)
  (hch:∀ b∈ch,(b∈X.ex∨X.s₀.heap.objs.size≤b)∧b≠X.env.locals∧(∀ x c,X.env.cells.lookup x = some c→c≠b)∧∀ p∈X.pn ++ pins,p.1≠b)
  (keep:∀ b o,b≠X.env.locals→b∉X.fs→b∉ch→s.heap.get? b = some o→H b = none→h'.get? b = some o)
  (slot:∀ b o,b≠X.env.locals→b∈X.fs→b∉ch→s.heap.get? b = some o→H b = none→∃ sl,h'.get? b = some { o with slots:=sl }) (free:∀ b o,b∉ch→s.heap.get? b = some o→H b = none→H' b = none)
  (there:∀ b o,b∉ch→s.heap.get? b = some o→∃ o',h'.get? b = some o')
  (tups:∀ b xs,H b = some (.tup xs)→H' b = some (.tup xs)) (frzs:∀ b o u,H b = some (.frz o u)→H' b = some (.frz o u)) (tbls:∀ b ps,H b = some (.tbl ps)→∃ more,H' b = some (.tbl (ps ++ more)))
  (ns:∀ m,s.heap.Ns X.env.locals m→h'.Ns X.env.locals m) (hok:HOk X.prog X.w H' h') (hg:AllBare g') :
  Inv X pins σ H' { s with heap:=h',gens:=g',drawn:=d',toks:=t' }:=by
 have neL:∀ b o,X.s₀.heap.get? b = some o→b≠X.env.locals:=fun b o e=>Nat.ne_of_lt (Nat.lt_of_lt_of_le (Heap.lt_size e) I.ok.above)
 have neC:∀ b o,X.s₀.heap.get? b = some o→b∉X.ex→b∉ch:=fun b o e hx hb=>by
  rcases (hch b hb).1 with z | z
  ·exact hx z
  ·exact absurd (Nat.lt_of_lt_of_le (Heap.lt_size e) z) (Nat.lt_irrefl _)
 have cellK:∀ x c,X.env.cells.lookup x = some c→∀ v,s.heap.IsCell c v→h'.IsCell c v:=fun x c e v ⟨o,ho,hd⟩=>by
  have nch:c∉ch:=fun z=>(hch c z).2.2.1 x c e rfl
  by_cases hc:c∈X.fs
  ·obtain ⟨sl,q⟩:=slot c o (I.cne x c e) hc nch ho (I.freeC x c e)
   exact ⟨_,q,hd⟩
  ·exact ⟨o,keep c o (I.cne x c e) hc nch ho (I.freeC x c e),hd⟩
 refine ⟨I.ok,I.os,hg,⟨fun b o e n hb hx=>?_,fun b o e n hb hx=>?_,fun b o e n hx=>?_,fun b o e hx=>?_,fun b xs e=>tups b xs (I.base.tups b xs e),fun b o xs e=>frzs b o xs (I.base.frzs b o xs e),fun b ps e=>?_⟩,?_,fun x c e=>?_,?_,fun x c e=>?_,fun p hp=>?_,hok,I.len⟩
 ·exact keep b o (neL b o e) hb (neC b o e hx) (I.base.keep b o e n hb hx) (I.base.free b o e n hx)
 ·obtain ⟨sl,e1⟩:=I.base.slot b o e n hb hx
  obtain ⟨sl',e2⟩:=slot b _ (neL b o e) hb (neC b o e hx) e1 (I.base.free b o e n hx)
  exact ⟨sl',e2⟩
 ·obtain ⟨o',e1⟩:=I.base.there b o e hx
  exact free b o' (neC b o e hx) e1 (I.base.free b o e n hx)
 ·obtain ⟨o',e1⟩:=I.base.there b o e hx
  exact there b o' (neC b o e hx) e1
 ·obtain ⟨m1,e1⟩:=I.base.tbls b ps e
  obtain ⟨m2,e2⟩:=tbls b _ e1
  exact ⟨m1 ++ m2,by rw [e2,Array.append_assoc]⟩
 ·obtain ⟨m,hn,hl⟩:=I.loc
  refine ⟨m,ns m hn,fun i x v e1 e2 e3=>?_⟩
  obtain ⟨u,r,l⟩:=hl i x v e1 e2 e3
  refine ⟨u,r,?_⟩
  rcases l with l | ⟨k,c,e,z⟩
  ·exact .inl l
  ·exact .inr ⟨k,c,e,cellK x c e _ z⟩
 ·obtain ⟨v,z⟩:=I.cell x c e
  exact ⟨v,cellK x c e v z⟩
 ·obtain ⟨m,⟨o,_,_,ho,_⟩,_⟩:=I.loc
  exact free _ o (fun z=>(hch _ z).2.1 rfl) ho I.free
 ·obtain ⟨v,o,ho,hd⟩:=I.cell x c e
  exact free c o (fun z=>(hch c z).2.2.1 x c e rfl) ho (I.freeC x c e)
 ·obtain ⟨e,n,ne,nf,d⟩:=I.pin p hp
  have nch:p.1∉ch:=fun z=>(hch p.1 z).2.2.2 p hp rfl
  exact ⟨keep p.1 p.2 ne nf nch e n,free p.1 p.2 nch e n,ne,nf,d⟩
theorem Inv.un {t':Nat} (I:Inv X pins σ H s) (u:Un X.fs [] H H' s.heap h') (hok:HOk X.prog X.w H' h'):Inv X pins σ H' { s with heap:=h',toks:=t' }:=by
 obtain ⟨m,⟨o,es,ep,ho,r⟩,_⟩:=id I.loc
 obtain ⟨sl,hL⟩:=u.any ho I.free (by simp)
 exact I.step (g':=s.gens) (d':=s.drawn) (ch:=[]) (fun _ z=>nomatch z) (fun b o _ hb _ e n=>u.keep b o e n hb (by simp)) (fun b o _ hb _ e n=>u.slot b o e n hb (by simp)) (fun b o _ e n=>u.free b o e n (by simp)) (fun b o _ e=>u.there b o e (by simp)) u.tups u.frzs u.tbls (fun m' hm=>by
  obtain ⟨o',es',ep',ho',r'⟩:=hm
  rw [ho] at ho'; cases ho'
  exact ⟨_,es',ep',hL,r'⟩) hok I.bare
theorem Inv.call {g':Array GenState} {t':Nat} {d':Drawn} {ch:List Addr} (I:Inv X pins σ H s) (u:Un (frs X.stack) ch H H' s.heap h') (hok:HOk X.prog X.w H' h') (hg:AllBare g')
  (hch:∀ b∈ch,(b∈X.ex∨X.s₀.heap.objs.size≤b)∧b≠X.env.locals∧(∀ x c,X.env.cells.lookup x = some c→c≠b)∧∀ p∈X.pn ++ pins,p.1≠b) :
  Inv X pins σ H' { s with heap:=h',gens:=g',drawn:=d',toks:=t' }:=by
 obtain ⟨m,⟨o,es,ep,ho,r⟩,_⟩:=id I.loc
 obtain ⟨sl,hL⟩:=u.any ho I.free fun z=>(hch _ z).2.1 rfl
 exact I.step (ch:=ch) hch (fun b o hL hb hc e n=>u.keep b o e n (fun z=>(List.mem_cons.mp (I.stkSub b z)).elim hL hb) hc) (fun b o _ _ hc e n=>u.any e n hc) (fun b o hc e n=>u.free b o e n hc) (fun b o hc e=>u.there b o e hc) u.tups u.frzs u.tbls (fun m' hm=>by
  obtain ⟨o',es',ep',ho',r'⟩:=hm
  rw [ho] at ho'; cases ho'
  exact ⟨_,es',ep',hL,r'⟩) hok hg
theorem Inv.turned {t':Nat} {it:Addr} (I:Inv X pins σ H s) (k:∀ b o,b≠it→s.heap.get? b = some o→h'.get? b = some o) (hn:H it = none) (hL:it≠X.env.locals)
  (h1:it∈X.ex∨X.s₀.heap.objs.size≤it) (h2:∀ x c,X.env.cells.lookup x = some c→c≠it) (h3:∀ p∈X.pn ++ pins,p.1≠it):Inv X pins σ H { s with heap:=h',toks:=t' }:=by
 have nit:∀ b u,H b = some u→b≠it:=fun b u e z=>by rw [z,hn] at e; cases e
 refine I.step (g':=s.gens) (d':=s.drawn) (ch:=[it]) (fun b hb=>?_) (fun b o _ _ hc e _=>k b o (fun z=>hc (by simp [z])) e) (fun b o _ _ hc e _=>⟨o.slots,k b o (fun z=>hc (by simp [z])) e⟩) (fun _ _ _ _ n=>n)
  (fun b o hc e=>⟨o,k b o (fun z=>hc (by simp [z])) e⟩) (fun _ _ e=>e) (fun _ _ _ e=>e) (fun b ps e=>⟨#[],by rw [e]; simp⟩) (fun m hm=>?_) (fun b u e=>?_) I.bare
 ·have e:b = it:=by simpa using hb
  subst e
  exact ⟨h1,hL,h2,h3⟩
 ·obtain ⟨o,es,ep,ho,r⟩:=hm
  exact ⟨o,es,ep,k _ o (Ne.symm hL) ho,r⟩
 ·refine (I.hok b u e).stay (fun c v hc q=>k c v ?_ q) (fun _ q=>q) fun _ _ q=>q
  rcases hc with z | z
  ·rw [z]; exact nit b u e
  ·exact nit c _ z
theorem Inv.tok (I:Inv X pins σ H s) (t:Nat):Inv X pins σ H { s with toks:=t }:=I.un (h':=s.heap) (t':=t) Un.refl I.hok
theorem Inv.kept {t':Nat} (I:Inv X pins σ H s) (k:∀ b u,s.heap.get? b = some u→h'.get? b = some u):Inv X pins σ H { s with heap:=h',toks:=t' }:=I.un (Un.kept k) (I.hok.kept k)
theorem Inv.laid {a:Addr} {o:HO} {t':Nat} (I:Inv X pins σ H s) (k:∀ b u,s.heap.get? b = some u→h'.get? b = some u) (hp:s.heap.objs.size≤a) (new:ObjOk X.prog X.w (upd H a o) h' a o) :
  Inv X pins σ (upd H a o) { s with heap:=h',toks:=t' }:=I.un (Un.laid k hp (I.hok.fresh hp)) (I.hok.laid k hp new)
theorem Inv.write {x e:Addr} {o:HO} {t':Nat} (I:Inv X pins σ H s) (mu:Mut (H x)) (he:e = x∨H e = some (.own x)) (k:∀ b u,b≠e→s.heap.get? b = some u→h'.get? b = some u) (heo:∃ u,h'.get? e = some u)
  (new:ObjOk X.prog X.w (upd H x o) h' x o):Inv X pins σ (upd H x o) { s with heap:=h',toks:=t' }:=I.un (Un.write mu he k heo) (I.hok.write mu he k heo new)
theorem Inv.weak {σ':List (Option V)} (I:Inv X pins σ H s) (hl:σ'.length = σ.length) (w:∀ (i:Nat) v,σ'[i]? = some (some v)→σ[i]? = some (some v)):Inv X pins σ' H s :=
 ⟨I.ok,I.os,I.bare,I.base,let ⟨m,hn,hl'⟩:=I.loc; ⟨m,hn,fun i x v e1 e2 e3=>hl' i x v e1 (w i v e2) e3⟩,I.cell,I.free,I.freeC,I.pin,I.hok,hl.trans I.len⟩
theorem Inv.pins_of {pins':List (Addr× Obj)} (I:Inv X pins σ H s) (h:∀ p∈pins',s.heap.get? p.1 = some p.2∧H p.1 = none∧p.1≠X.env.locals∧p.1∉X.fs∧∀ v,p.2.data≠.cell v):Inv X pins' σ H s :=
 ⟨I.ok,I.os,I.bare,I.base,I.loc,I.cell,I.free,I.freeC,fun p hp=>(List.mem_append.mp hp).elim (fun z=>I.pin p (List.mem_append_left _ z)) (h p),I.hok,I.len⟩
theorem nodup_ix {N:List Str} (hN:N.Nodup) {i j:Nat} {x:Str} (a:N[i]? = some x) (b:N[j]? = some x):i = j:=by
 obtain ⟨h1,e1⟩:=List.getElem?_eq_some_iff.mp a
 obtain ⟨h2,e2⟩:=List.getElem?_eq_some_iff.mp b
 exact (List.getElem_inj hN).mp (e1.trans e2.symm)
theorem store_ok2 {M:Model} {A:Around} {E:Value→Shared→Prop} {i:Nat} {x:Str} {v:V} {u:Value} {Q:Unit→Shared→Prop} (I:Inv X pins σ H s) (hN:X.N.Nodup) (hi:X.N[i]? = some x) (hx:Loc X.env.scope x) (r:RelV v u)
  (h:∀ s',Inv X pins (σ.set i (some v)) H s'→(∃ a,Heap.SameBut a s.heap s'.heap∧(a = X.env.locals∨X.env.cells.lookup x = some a))→Q () s') (hf:X.fn x = true∨X.env.scope.names.lookup x = some .local:=by first | exact .inl rfl | exact .inr rfl | assumption):wpAny M A (storeName X.env x u) Q E s:=by
 obtain ⟨m,hn,hl⟩:=id I.loc
 have hcls:(X.env.scope.kind == .class || (X.env.scope.kind == .module && X.env.locals != X.env.globals)) = false:=by rw [I.ok.kind]; rfl
 have hiσ:i < σ.length:=by rw [I.len]; exact (List.getElem?_eq_some_iff.mp hi).1
 have cne:=I.cne
 have tracked:∀ {a:Addr} {h':Heap},(∃ o,s.heap.get? a = some o∧H a = none)→Heap.SameBut a s.heap h'→HOk X.prog X.w H h':=fun {a h'} ha hs b ob e=>by
  obtain ⟨_,_,hfree⟩:=ha
  refine (I.hok b ob e).stay (fun c w' hc q=>(hs.2 c ?_).trans q) (fun _ q=>q) fun _ _ q=>q
  rintro rfl
  rcases hc with rfl | hc
  ·rw [hfree] at e; cases e
  ·rw [hfree] at hc; cases hc
 rcases hx with hk | hk
 ·refine wpAny_storeName_local hk hn (fun h' hn' hs=>?_) hcls
  obtain ⟨oL,_,_,hoL,_⟩:=id hn
  refine h _ ⟨I.ok,I.os,I.bare,⟨fun b o e n hb hx=>?_,fun b o e n hb hx=>?_,I.base.free,fun b o e hx=>?_,I.base.tups,I.base.frzs,I.base.tbls⟩,⟨_,hn',fun j y v' e1 e2 e3=>?_⟩,fun y c e=>?_,I.free,I.freeC,fun p hp=>?_,tracked ⟨oL,hoL,I.free⟩ hs,by simpa using I.len⟩ ⟨_,hs,.inl rfl⟩
  ·exact (hs.2 b (Nat.ne_of_lt (Nat.lt_of_lt_of_le (Heap.lt_size e) I.ok.above))).trans (I.base.keep b o e n hb hx)
  ·obtain ⟨sl,e1⟩:=I.base.slot b o e n hb hx
   exact ⟨sl,(hs.2 b (Nat.ne_of_lt (Nat.lt_of_lt_of_le (Heap.lt_size e) I.ok.above))).trans e1⟩
  ·obtain ⟨o',e1⟩:=I.base.there b o e hx
   exact ⟨o',(hs.2 b (Nat.ne_of_lt (Nat.lt_of_lt_of_le (Heap.lt_size e) I.ok.above))).trans e1⟩
  ·by_cases hj:j = i
   ·subst hj
    rw [hi] at e1; cases e1
    rw [List.getElem?_set_self hiσ] at e2
    cases e2
    exact ⟨u,r,.inl ⟨hk,by simp⟩⟩
   ·rw [List.getElem?_set_ne (Ne.symm hj)] at e2
    obtain ⟨u',r',q⟩:=hl j y v' e1 e2 e3
    refine ⟨u',r',?_⟩
    rcases q with ⟨k,e⟩ | ⟨k,c,e,z⟩
    ·refine .inl ⟨k,?_⟩
     have:y≠x:=fun e=>hj (nodup_ix hN e1 (e ▸ hi))
     simp [this,e]
    ·exact .inr ⟨k,c,e,z.sameBut hs (cne y c e)⟩
  ·obtain ⟨w',z⟩:=I.cell y c e
   exact ⟨w',z.sameBut hs (cne y c e)⟩
  ·obtain ⟨e,n,ne,nf,d⟩:=I.pin p hp
   exact ⟨(hs.2 p.1 ne).trans e,n,ne,nf,d⟩
 ·have hfn:X.fn x = true:=by
   rcases hf with z | z
   ·exact z
   ·rw [z] at hk; cases hk
  obtain ⟨c,hc⟩:=I.ok.has x (.inl hk)
  obtain ⟨w',z⟩:=I.cell x c hc
  refine wpAny_storeName_cell I.ok.kind hk hc z (fun h' hc' hs=>?_)
  obtain ⟨oc,hoc,hocd⟩:=id z
  refine h { s with heap:=h' } ⟨I.ok,I.os,I.bare,⟨fun b o e n hb hx=>?_,fun b o e n hb hx=>?_,I.base.free,fun b o e hx=>?_,I.base.tups,I.base.frzs,I.base.tbls⟩,⟨m,hn.sameBut hs (Ne.symm (cne x c hc)),fun j y v' e1 e2 e3=>?_⟩,fun y c' e=>?_,I.free,I.freeC,fun p hp=>?_,tracked ⟨oc,hoc,I.freeC x c hc⟩ hs,by simpa using I.len⟩ ⟨c,hs,.inr hc⟩
  ·exact (hs.2 b (Nat.ne_of_lt (Nat.lt_of_lt_of_le (Heap.lt_size e) (I.ok.cab x c hfn hc)))).trans (I.base.keep b o e n hb hx)
  ·obtain ⟨sl,e1⟩:=I.base.slot b o e n hb hx
   exact ⟨sl,(hs.2 b (Nat.ne_of_lt (Nat.lt_of_lt_of_le (Heap.lt_size e) (I.ok.cab x c hfn hc)))).trans e1⟩
  ·obtain ⟨o',e1⟩:=I.base.there b o e hx
   exact ⟨o',(hs.2 b (Nat.ne_of_lt (Nat.lt_of_lt_of_le (Heap.lt_size e) (I.ok.cab x c hfn hc)))).trans e1⟩
  ·by_cases hj:j = i
   ·subst hj
    rw [hi] at e1; cases e1
    rw [List.getElem?_set_self hiσ] at e2
    cases e2
    exact ⟨u,r,.inr ⟨.inl hk,c,hc,hc'⟩⟩
   ·rw [List.getElem?_set_ne (Ne.symm hj)] at e2
    obtain ⟨u',r',q⟩:=hl j y v' e1 e2 e3
    refine ⟨u',r',?_⟩
    rcases q with q | ⟨k,c',e,z'⟩
    ·exact .inl q
    ·refine .inr ⟨k,c',e,z'.sameBut hs ?_⟩
     rintro rfl
     exact hj (nodup_ix hN e1 (I.ok.inj _ _ _ e hc ▸ hi))
  ·by_cases hcc:c' = c
   ·subst hcc; exact ⟨_,hc'⟩
   ·obtain ⟨w2,z2⟩:=I.cell y c' e
    exact ⟨w2,z2.sameBut hs hcc⟩
  ·obtain ⟨e,n,ne,nf,d⟩:=I.pin p hp
   refine ⟨(hs.2 p.1 ?_).trans e,n,ne,nf,d⟩
   intro q
   rw [q,hoc] at e
   have q':oc = p.2:=Option.some.inj e
   exact d w' (by rw [← q']; exact hocd)
theorem store_ok {M:Model} {A:Around} {E:Value→Shared→Prop} {i:Nat} {x:Str} {v:V} {u:Value} {Q:Unit→Shared→Prop} (I:Inv X pins σ H s) (hN:X.N.Nodup) (hi:X.N[i]? = some x) (hx:Loc X.env.scope x) (r:RelV v u)
  (h:∀ s',Inv X pins (σ.set i (some v)) H s'→Q () s') (hf:X.fn x = true∨X.env.scope.names.lookup x = some .local:=by first | exact .inl rfl | exact .inr rfl | assumption):wpAny M A (storeName X.env x u) Q E s :=
 store_ok2 I hN hi hx r (fun s' I' _=>h s' I') hf
theorem Inv.call' {s':Shared} {ch:List Addr} (I:Inv X pins σ H s) (ho:s'.os = s.os) (u:Un (frs X.stack) ch H H' s.heap s'.heap) (hok:HOk X.prog X.w H' s'.heap) (hg:AllBare s'.gens)
  (hch:∀ b∈ch,(b∈X.ex∨X.s₀.heap.objs.size≤b)∧b≠X.env.locals∧(∀ x c,X.env.cells.lookup x = some c→c≠b)∧∀ p∈X.pn ++ pins,p.1≠b):Inv X pins σ H' s':=by
 obtain ⟨h',g',d',t',o'⟩:=s'
 have e:o' = s.os:=ho
 subst e
 exact I.call (g':=g') (t':=t') (d':=d') u hok hg hch
end
abbrev XK:=Value→Option Addr→Hp→Prop
abbrev St:=List (Option V)
abbrev VK:=V→Hp→Prop
abbrev TE:=St→Hp→VK→Prop
abbrev TT:=St→Hp→(Bool→Hp→Prop)→Prop
abbrev TA:=St→Hp→(List V→Hp→Prop)→Prop
structure Ends where
 nx:St→Hp→Prop
 rt:VK
 bk:St→Hp→Prop:=fun _ _=>False
 ct:St→Hp→Prop:=fun _ _=>False
abbrev TS:=Ends→St→Hp→Prop
def EP (X:Cx) (pins:List (Addr× Obj)) (σ:St) (Q:VK) (u:Value) (s':Shared):Prop:=∃ v H',Inv X pins σ H' s'∧RelV v u∧Q v H'
def TP (X:Cx) (pins:List (Addr× Obj)) (σ:St) (Q:Bool→Hp→Prop) (b:Bool) (s':Shared):Prop:=∃ H',Inv X pins σ H' s'∧Q b H'
def AP (X:Cx) (pins:List (Addr× Obj)) (σ:St) (Q:List V→Hp→Prop) (us:List Value) (s':Shared):Prop:=∃ vs H',Inv X pins σ H' s'∧Vals vs us∧Q vs H'
def SP (X:Cx) (pins:List (Addr× Obj)) (D:Ends) (f:Flow) (s':Shared):Prop :=
 match f with
 | .next=>∃ σ' H',Inv X pins σ' H' s'∧D.nx σ' H'
 | .brk=>∃ σ' H',Inv X pins σ' H' s'∧D.bk σ' H'
 | .cont=>∃ σ' H',Inv X pins σ' H' s'∧D.ct σ' H'
 | .ret u=>∃ v σ' H',Inv X pins σ' H' s'∧RelV v u∧D.rt v H'
def PE (X:Cx) (e:Expr) (t:TE):Prop :=
 ∀ (pins:List (Addr× Obj)) (s:Shared) (σ:St) (H:Hp) (Q:VK),Inv X pins σ H s→t σ H Q→wpAny (model X.prog X.w) X.A (eval e X.env) (EP X pins σ Q) X.xe s
def PT (X:Cx) (e:Expr) (t:TT):Prop :=
 ∀ (pins:List (Addr× Obj)) (s:Shared) (σ:St) (H:Hp) (Q:Bool→Hp→Prop),Inv X pins σ H s→t σ H Q→wpAny (model X.prog X.w) X.A (isTrue e X.env (eval e X.env)) (TP X pins σ Q) X.xe s
def PW (X:Cx) (e:Expr) (t:TT):Prop :=
 ∀ (whole:Sem Value) (pins:List (Addr× Obj)) (s:Shared) (σ:St) (H:Hp) (Q:Bool→Hp→Prop),Inv X pins σ H s→t σ H Q→wpAny (model X.prog X.w) X.A (isTrue e X.env whole) (TP X pins σ Q) X.xe s
theorem PW.pt {X:Cx} {e:Expr} {t:TT} (h:PW X e t):PT X e t:=h _
def PA (X:Cx) (es:List Expr) (t:TA):Prop :=
 ∀ (pos:Pos) (pins:List (Addr× Obj)) (s:Shared) (σ:St) (H:Hp) (Q:List V→Hp→Prop),Inv X pins σ H s→t σ H Q→wpAny (model X.prog X.w) X.A (spliced (backTo pos (starEach es X.env))) (AP X pins σ Q) X.xe s
def PS (X:Cx) (st:Stmt) (t:TS):Prop :=
 ∀ (pins:List (Addr× Obj)) (s:Shared) (σ:St) (H:Hp) (D:Ends),Inv X pins σ H s→t D σ H→wpAny (model X.prog X.w) X.A (exec st X.env) (SP X pins D) X.xe s
def PSs (X:Cx) (st:List Stmt) (t:TS):Prop :=
 ∀ (pins:List (Addr× Obj)) (s:Shared) (σ:St) (H:Hp) (D:Ends),Inv X pins σ H s→t D σ H→wpAny (model X.prog X.w) X.A (execs st X.env) (SP X pins D) X.xe s
theorem thn {α:Type} {t:Sem α} {Q Q':α→Shared→Prop} {M:Model} {A:Around} {E:Value→Shared→Prop} {s:Shared} (h:wpAny M A t Q E s) (hQ:∀ a s,Q a s→Q' a s):wpAny M A t Q' E s:=wpAny_mono h hQ fun _ _ x=>x
end L2
namespace L2
open PySem PySem.Spec PyProof.Rows
section
variable {X:Cx}
def tVar (i:Nat):TE:=fun σ H Q=>∃ v,σ[i]? = some (some v)∧Q v H
def tC (v:V):TE:=fun _ H Q=>Q v H
theorem pe_var {i:Nat} {x:Str} {pos:Pos} (hN:X.N[i]? = some x) (hv:Vis X.env.scope x) (hd:(x == ("__debug__" : Str)) = false:=by decide) (hcd:(x == ("__classdict__" : Str)) = false:=by decide):PE X (.Name x pos) (tVar i):=by
 intro pins s σ H Q I h
 obtain ⟨v,e,h⟩:=h
 obtain ⟨m,hn,hl⟩:=I.loc
 obtain ⟨u,r,l⟩:=hl i x v hN e hv
 have fin:EP X pins σ Q u s:=⟨v,H,I,r,h⟩
 rcases l with ⟨hk,hm⟩ | ⟨hk,c,hc,hcell⟩
 ·exact wpAny_Name (wpAny_loadName_local I.ok.kind hk hn hm fin) hd
 ·rcases hk with hk | hk
  ·exact wpAny_Name (wpAny_loadName_cell I.ok.kind hk hc hcell fin) hd
  ·exact wpAny_Name (wpAny_loadName_free I.ok.kind hk hc hcell fin hcd) hd
theorem pe_int {i j pos}:PE X (.Constant (.int i) j pos) (tC (.int i)):=fun _ _ _ H _ I h=>wpAny_Constant_int ⟨.int i,H,I.tok _,⟨_,rfl⟩,h⟩
theorem pe_bl {b j pos}:PE X (.Constant (.bool b) j pos) (tC (.bl b)):=fun _ _ _ H _ I h=>Constant_bool ⟨.bl b,H,I,rfl,h⟩
theorem pe_non {j pos}:PE X (.Constant .none j pos) (tC .non):=fun _ _ _ H _ I h=>Constant_none ⟨.non,H,I,rfl,h⟩
theorem pe_str {x j pos}:PE X (.Constant (.str x) j pos) (tC (.str x)):=fun _ _ _ H _ I h=>Calls.Constant_str ⟨.str x,H,I.tok _,⟨_,rfl⟩,h⟩
def Gl (X:Cx) (x:Str):Prop:=X.env.kindOf x = some .globalImplicit
theorem ld_glob {E:Value→Shared→Prop} {pins:List (Addr× Obj)} {s:Shared} {σ:St} {H:Hp} {x:Str} {u:Value} {pos:Pos} {Q:Value→Shared→Prop} (I:Inv X pins σ H s) (hg:Gl X x) (hm:X.mg x = some u) (h:Q u s)
  (hd:(x == ("__debug__" : Str)) = false:=by decide):wpAny (model X.prog X.w) X.A (eval (.Name x pos) X.env) Q E s :=
 Calls.Name_function_global I.ok.kind hg (Calls.loadGlobal_global (by rw [I.ok.glob]; exact I.mod.glob.keeps I.bk) hm h) hd
theorem ld_blt {E:Value→Shared→Prop} {pins:List (Addr× Obj)} {s:Shared} {σ:St} {H:Hp} {x:Str} {u:Value} {pos:Pos} {Q:Value→Shared→Prop} (I:Inv X pins σ H s) (hg:Gl X x) (hm:X.mg x = none) (hv:bootBuiltins x = some u) (h:Q u s)
  (hn:x≠ "__name__" := by decide) (hd:(x == ("__debug__" : Str)) = false:=by decide):wpAny (model X.prog X.w) X.A (eval (.Name x pos) X.env) Q E s:=by
 obtain ⟨mb,h1,h2⟩:=I.mod.blt
 exact Calls.Name_function_global I.ok.kind hg (Calls.loadGlobal_builtin (by rw [I.ok.glob]; exact I.mod.glob.keeps I.bk) hm (by rw [I.ok.blt]; exact h1.keeps I.bk) ((h2 x hn).trans hv) h) hd
theorem pe_glob {x:Str} {v:V} {u:Value} {pos:Pos} (hg:Gl X x) (hm:X.mg x = some u) (r:RelV v u) (hd:(x == ("__debug__" : Str)) = false:=by decide):PE X (.Name x pos) (tC v) :=
 fun _ _ _ H _ I h=>ld_glob I hg hm ⟨v,H,I,r,h⟩ hd
theorem pe_bltn {x:Str} {v:V} {u:Value} {pos:Pos} (hg:Gl X x) (hm:X.mg x = none) (hv:bootBuiltins x = some u) (r:RelV v u) (hn:x≠ "__name__" := by decide) (hd:(x == ("__debug__" : Str)) = false:=by decide):PE X (.Name x pos) (tC v) :=
 fun _ _ _ H _ I h=>ld_blt I hg hm hv ⟨v,H,I,r,h⟩ hn hd
variable {a b:Expr} {ta tb:TE} {pos:Pos}
def tB (t:TE):TT:=fun σ H Q=>t σ H fun x H1=>∃ c,x = .bl c∧Q c H1
theorem pt_val {e:Expr} {t:TE} (h:PE X e t) (he:∀ whole,isTrue e X.env whole = (do let v ← whole; standAt e.pos; holding [v] (truthy v)):=by intro _; rfl):PT X e (tB t):=by
 intro pins s σ H Q I hw
 refine isTrue_plain (thn (h pins s σ H _ I hw) fun v s1 ⟨x,H1,I1,r1,q1⟩=>?_) (he _)
 obtain ⟨d,rfl,q⟩:=q1
 cases r1
 exact wpAny_truthy_bool ⟨H1,I1,q⟩
variable {tA tB':TT} {rest:List Expr}
def tAnd (t u:TT):TT:=fun σ H Q=>t σ H fun c H1=>if c = true then u σ H1 Q else Q false H1
def tOr (t u:TT):TT:=fun σ H Q=>t σ H fun c H1=>if c = true then Q true H1 else u σ H1 Q
def tNot (t:TT):TT:=fun σ H Q=>t σ H fun c H1=>Q (!c) H1
theorem pw_and1 (ha:PT X a tA):PW X (.BoolOp .And [a] pos) tA:=by
 intro wh pins s σ H Q I h
 refine isTrue_and (thn (ha pins s σ H Q I h) fun c s1 e=>?_)
 cases c with
 | true=>exact isTrue_and_nil e
 | false=>exact e
theorem pw_or1 (ha:PT X a tA):PW X (.BoolOp .Or [a] pos) tA:=by
 intro wh pins s σ H Q I h
 refine isTrue_or (thn (ha pins s σ H Q I h) fun c s1 e=>?_)
 cases c with
 | false=>exact isTrue_or_nil e
 | true=>exact e
theorem pw_and (ha:PT X a tA) (hb:PW X (.BoolOp .And (b :: rest) pos) tB'):PW X (.BoolOp .And (a :: b :: rest) pos) (tAnd tA tB'):=by
 intro wh pins s σ H Q I h
 refine isTrue_and (thn (ha pins s σ H _ I h) fun c s1 ⟨H1,I1,q1⟩=>?_)
 cases c with
 | true=>exact hb wh pins s1 σ H1 Q I1 q1
 | false=>exact ⟨H1,I1,q1⟩
theorem pw_or (ha:PT X a tA) (hb:PW X (.BoolOp .Or (b :: rest) pos) tB'):PW X (.BoolOp .Or (a :: b :: rest) pos) (tOr tA tB'):=by
 intro wh pins s σ H Q I h
 refine isTrue_or (thn (ha pins s σ H _ I h) fun c s1 ⟨H1,I1,q1⟩=>?_)
 cases c with
 | true=>exact ⟨H1,I1,q1⟩
 | false=>exact hb wh pins s1 σ H1 Q I1 q1
theorem pt_not (ha:PT X a tA):PT X (.UnaryOp .Not a pos) (tNot tA):=by
 intro pins s σ H Q I h
 exact isTrue_not (ha pins s σ H (fun c H1=>Q (!c) H1) I h)
def tAndV (ta tb:TE):TE:=fun σ H Q=>ta σ H fun x H1=>∃ c,x = .bl c∧if c = true then tb σ H1 Q else Q (.bl false) H1
theorem pe_one {op} {t:TE} (h:PE X a t):PE X (.BoolOp op [a] pos) t:=fun pins s σ H Q I hw=>BoolOp_one (h pins s σ H Q I hw)
theorem pe_and (ha:PE X a ta) (hb:PE X (.BoolOp .And (b :: rest) pos) tb):PE X (.BoolOp .And (a :: b :: rest) pos) (tAndV ta tb):=by
 intro pins s σ H Q I h
 refine BoolOp_and (thn (ha pins s σ H _ I h) fun v s1 ⟨x,H1,I1,r1,q1⟩=>?_)
 obtain ⟨c,rfl,q1⟩:=q1
 cases r1
 refine wpAny_truthy_bool ?_
 cases c with
 | true=>exact hb pins s1 σ H1 Q I1 q1
 | false=>exact ⟨.bl false,H1,I1,rfl,q1⟩
def tIf (t:TT) (ta tb:TE):TE:=fun σ H Q=>t σ H fun c H1=>if c = true then ta σ H1 Q else tb σ H1 Q
theorem pe_ifExp {c:Expr} (hc:PT X c tA) (ha:PE X a ta) (hb:PE X b tb):PE X (.IfExp c a b pos) (tIf tA ta tb):=by
 intro pins s σ H Q I h
 refine wpAny_IfExp (thn (hc pins s σ H _ I h) fun d s1 ⟨H1,I1,q1⟩=>?_)
 cases d with
 | true=>exact ha pins s1 σ H1 Q I1 q1
 | false=>exact hb pins s1 σ H1 Q I1 q1
end
end L2
namespace L2
open PySem PySem.Spec PyProof.Rows
def SqL (K:PySem.W.Frag) (H:Hp) (a:Addr) (xs:List V):Prop :=
 Rd H a (.lst xs) ∨
  ∃ (o:Obj) (its:Array Value) (n:Nat),K.lookup a = some o∧o.cls = .type "list" ∧ o.dict = none∧o.data = .seq its n∧its.size≤sizeLine∧Vals xs its.toList
def SqT (K:PySem.W.Frag) (H:Hp) (a:Addr) (xs:List V):Prop :=
 Rd H a (.tup xs) ∨
  ∃ (o:Obj) (its:Array Value) (n:Nat),K.lookup a = some o∧o.cls = .type "tuple" ∧ o.data = .seq its n∧its.size≤sizeLine∧Vals xs its.toList
def absV:Value→Option V
 | .none=>some .non
 | .bool b=>some (.bl b)
 | .int i _=>some (.int i)
 | .str x _=>some (.str x)
 | .bytes b _=>some (.byt b)
 | .float b _=>some (.flt b)
 | .ref a=>some (.ref a)
 | .type n=>some (.ty n)
 | _=>none
theorem RelV.abs {x:V} {u:Value} (r:RelV x u):absV u = some x:=by
 cases x with
 | non=>cases r; rfl
 | bl _=>cases r; rfl
 | int _=>obtain ⟨t,rfl⟩:=r; rfl
 | str _=>obtain ⟨t,rfl⟩:=r; rfl
 | byt _=>obtain ⟨t,rfl⟩:=r; rfl
 | flt _=>obtain ⟨t,rfl⟩:=r; rfl
 | ref _=>cases r; rfl
 | ty _=>cases r; rfl
theorem RelV.inj {x y:V} {u:Value} (r:RelV x u) (q:RelV y u):x = y:=Option.some.inj (r.abs.symm.trans q.abs)
theorem Vals.inj:∀ {xs ys:List V} {us:List Value},Vals xs us→Vals ys us→xs = ys
 | _,_,_,.nil,.nil=>rfl
 | _,_,_,.cons r t,.cons r' t'=>by rw [r.inj r',Vals.inj t t']
section
variable {X:Cx} {pins:List (Addr× Obj)} {σ:St} {H:Hp} {s:Shared} {a:Addr} {xs ys:List V}
theorem SqL.of {K:PySem.W.Frag} (h:H a = some (.lst xs)):SqL K H a xs:=.inl (.inl h)
theorem SqT.of {K:PySem.W.Frag} (h:H a = some (.tup xs)):SqT K H a xs:=.inl (.inl h)
theorem Inv.list (I:Inv X pins σ H s) (h:SqL X.K H a xs):∃ its:List Value,Vals xs its∧PlainL s.heap a its.toArray∧xs.length≤sizeLine:=by
 rcases h with h | ⟨o,its,n,hk,hc,hd,hs,hz,r⟩
 ·obtain ⟨z,its,n,r,e⟩:=h.ok I.hok
  exact ⟨its,r,⟨_,n,e,rfl,rfl,rfl⟩,z⟩
 ·refine ⟨its.toList,r,⟨o,n,I.kIn a o hk,hc,hd,by simpa using hs⟩,?_⟩
  have e:=r.length
  simp only [Array.length_toList] at e
  omega
theorem Inv.tuple (I:Inv X pins σ H s) (h:SqT X.K H a xs):∃ its:List Value,Vals xs its∧IsTup s.heap a its.toArray∧xs.length≤sizeLine:=by
 rcases h with h | ⟨o,its,n,hk,hc,hs,hz,r⟩
 ·obtain ⟨z,its,r,p⟩:=h.ok I.hok
  exact ⟨its,r,p,z⟩
 ·refine ⟨its.toList,r,⟨o,I.kIn a o hk,hc,n,by simpa using hs⟩,?_⟩
  have e:=r.length
  simp only [Array.length_toList] at e
  omega
theorem Inv.list_inj (I:Inv X pins σ H s) (h:SqL X.K H a xs) (h':SqL X.K H a ys):xs = ys:=by
 obtain ⟨its,r,⟨o,n,e,_,_,d⟩,_⟩:=I.list h
 obtain ⟨its',r',⟨o',n',e',_,_,d'⟩,_⟩:=I.list h'
 rw [e] at e'; cases e'
 rw [d] at d'
 injection d' with d1 _
 have:its = its':=by simpa using congrArg Array.toList d1
 subst this
 exact r.inj r'
end
abbrev Cx.wish (X:Cx) (E:Value→Shared→Prop):Cx:={ X with xe:=E }
abbrev Cx.nox (X:Cx):Cx:=X.wish fun _ _=>False
theorem Cx.Ok.wish {X:Cx} (ok:X.Ok) (E:Value→Shared→Prop):(X.wish E).Ok :=
 ⟨ok.mod,ok.kind,ok.glob,ok.blt,ok.above,ok.inj,ok.has,ok.cab,ok.hd,ok.frames,ok.stk,ok.exf,ok.bs,ok.bsz,ok.noex,ok.exfs,ok.funs,ok.frf⟩
theorem Cx.Ok.unwish {X:Cx} {E:Value→Shared→Prop} (ok:(X.wish E).Ok):X.Ok :=
 ⟨ok.mod,ok.kind,ok.glob,ok.blt,ok.above,ok.inj,ok.has,ok.cab,ok.hd,ok.frames,ok.stk,ok.exf,ok.bs,ok.bsz,ok.noex,ok.exfs,ok.funs,ok.frf⟩
section
variable {X:Cx} {pins:List (Addr× Obj)} {σ:St} {H:Hp} {s:Shared} {E:Value→Shared→Prop}
theorem Inv.wish (I:Inv X pins σ H s) (E:Value→Shared→Prop):Inv (X.wish E) pins σ H s:=⟨I.ok.wish E,I.os,I.bare,I.base,I.loc,I.cell,I.free,I.freeC,I.pin,I.hok,I.len⟩
theorem Inv.unwish (I:Inv (X.wish E) pins σ H s):Inv X pins σ H s:=⟨I.ok.unwish,I.os,I.bare,I.base,I.loc,I.cell,I.free,I.freeC,I.pin,I.hok,I.len⟩
theorem SP.unwish {D:Ends} {f:Flow} {s':Shared} (h:SP (X.wish E) pins D f s'):SP X pins D f s':=by
 cases f with
 | next=>obtain ⟨σ',H',I,q⟩:=h; exact ⟨σ',H',I.unwish,q⟩
 | brk=>obtain ⟨σ',H',I,q⟩:=h; exact ⟨σ',H',I.unwish,q⟩
 | cont=>obtain ⟨σ',H',I,q⟩:=h; exact ⟨σ',H',I.unwish,q⟩
 | ret u=>obtain ⟨v,σ',H',I,r,q⟩:=h; exact ⟨v,σ',H',I.unwish,r,q⟩
theorem PSs.nox {st:List Stmt} {t:TS} (h:PSs X.nox st t):PSs X st t:=fun pins s σ H D I hw =>
 wpAny_mono (h pins s σ H D (I.wish _) hw) (fun _ _ q=>q.unwish) fun _ _ z=>False.elim z
end
section
variable {X:Cx} {st:Stmt} {rest:List Stmt} {t u:TS} {e:Expr} {te:TE} {pos:Pos}
def tNext:TS:=fun D σ H=>D.nx σ H
def tSeq (t u:TS):TS:=fun D σ H=>t { D with nx:=u D } σ H
theorem pss_nil:PSs X [] tNext:=fun _ _ σ H _ I h=>wpAny_execs_nil ⟨σ,H,I,h⟩
theorem pss_cons (h1:PS X st t) (h2:PSs X rest u):PSs X (st :: rest) (tSeq t u):=by
 intro pins s σ H D I h
 refine wpAny_execs_cons (thn (h1 pins s σ H { D with nx:=u D } I h) fun f s1 q=>?_)
 cases f with
 | next =>
  obtain ⟨σ',H',I',q⟩:=q
  exact h2 pins s1 σ' H' D I' q
 | ret v=>exact q
 | brk=>exact q
 | cont=>exact q
theorem pss_one (h1:PS X st t):PSs X [st] t:=by
 intro pins s σ H D I h
 refine wpAny_execs_cons (thn (h1 pins s σ H D I h) fun f s1 q=>?_)
 cases f with
 | next=>exact wpAny_execs_nil q
 | ret v=>exact q
 | brk=>exact q
 | cont=>exact q
theorem Inv.quiet {pins:List (Addr× Obj)} {σ:St} {H:Hp} {s:Shared} (I:Inv X pins σ H s):interactive X.env = false:=by simp [interactive,I.ok.kind]
def tDrop (te:TE):TS:=fun D σ H=>te σ H fun _ H1=>D.nx σ H1
theorem ps_expr (he:PE X e te) (hs:swapsWith e none pos.line X.env = pure false:=by rfl):PS X (.Expr e pos) (tDrop te):=by
 intro pins s σ H D I h
 exact wpAny_Expr_any (thn (he pins s σ H _ I h) fun v s1 ⟨x,H1,I1,r1,q1⟩=>⟨σ,H1,I1,q1⟩) I.quiet hs
def tRet (te:TE):TS:=fun D σ H=>te σ H D.rt
theorem ps_ret (he:PE X e te):PS X (.Return (some e) pos) (tRet te):=by
 intro pins s σ H D I h
 exact wpAny_Return_some (thn (he pins s σ H _ I h) fun v s1 ⟨x,H1,I1,r1,q1⟩=>⟨x,σ,H1,I1,r1,q1⟩)
def tIfS (c:TT) (t u:TS):TS:=fun D σ H=>c σ H fun b H1=>if b = true then t D σ H1 else u D σ H1
theorem ps_if {c:Expr} {a b:List Stmt} {tc:TT} (hc:PT X c tc) (ha:PSs X a t) (hb:PSs X b u):PS X (.If c a b pos) (tIfS tc t u):=by
 intro pins s σ H D I h
 refine wpAny_If (thn (hc pins s σ H _ I h) fun d s1 ⟨H1,I1,q1⟩=>?_)
 cases d with
 | true=>exact ha pins s1 σ H1 D I1 q1
 | false=>exact hb pins s1 σ H1 D I1 q1
end
abbrev TG:=V→St→Hp→(St→Hp→Prop)→Prop
abbrev TGs:=List V→St→Hp→(St→Hp→Prop)→Prop
def PG (X:Cx) (target:Expr) (t:TG):Prop :=
 ∀ (pins:List (Addr× Obj)) (s:Shared) (σ:St) (H:Hp) (v:V) (u:Value) (Q:St→Hp→Prop),Inv X pins σ H s→RelV v u→t v σ H Q →
  wpAny (model X.prog X.w) X.A (assign target X.env u) (fun _ s'=>∃ σ' H',Inv X pins σ' H' s'∧Q σ' H') X.xe s
def PGs (X:Cx) (ts:List Expr) (t:TGs):Prop :=
 ∀ (pins:List (Addr× Obj)) (s:Shared) (σ:St) (H:Hp) (vs:List V) (us:List Value) (Q:St→Hp→Prop),Inv X pins σ H s→Vals vs us→t vs σ H Q →
  wpAny (model X.prog X.w) X.A (assignInOrder ((assignEach ts X.env).map (·.2)) us) (fun _ s'=>∃ σ' H',Inv X pins σ' H' s'∧Q σ' H') X.xe s
abbrev TSet:=V→V→V→Hp→(Hp→Prop)→Prop
def PSet (X:Cx) (t:TSet):Prop :=
 ∀ (pins:List (Addr× Obj)) (s:Shared) (σ:St) (H:Hp) (o i v:V) (ov iv u:Value) (Q:Hp→Prop),Inv X pins σ H s→RelV o ov→RelV i iv→RelV v u→t o i v H Q →
  wpAny (model X.prog X.w) X.A (setItem ov iv u) (fun _ s'=>∃ H',Inv X pins σ H' s'∧Q H') X.xe s
section
variable {X:Cx} {pos:Pos}
def gName (i:Nat):TG:=fun v σ H Q=>Q (σ.set i (some v)) H
theorem pg_name {i:Nat} {x:Str} (hN:X.N.Nodup) (hi:X.N[i]? = some x) (hx:Loc X.env.scope x) (hf:X.fn x = true∨X.env.scope.names.lookup x = some .local:=by first | exact .inl rfl | exact .inr rfl | assumption):PG X (.Name x pos) (gName i):=by
 intro pins s σ H v u Q I r h
 exact wpAny_assign_Name (store_ok I hN hi hx r (fun s' I'=>⟨_,H,I',h⟩) hf)
def gNil:TGs:=fun vs σ H Q=>vs = []∧Q σ H
def gCons (t:TG) (u:TGs):TGs:=fun vs σ H Q=>∃ v r,vs = v :: r∧t v σ H fun σ' H'=>u r σ' H' Q
theorem pgs_nil:PGs X [] gNil:=by
 intro pins s σ H vs us Q I r h
 obtain ⟨e,h⟩:=h
 subst e
 cases r
 exact assignInOrder_nil ⟨σ,H,I,h⟩
theorem pgs_cons {e:Expr} {es:List Expr} {t:TG} {u:TGs} (h1:PG X e t) (h2:PGs X es u)
  (hs:(assignEach (e :: es) X.env).map (·.2) = assign e X.env :: (assignEach es X.env).map (·.2):=by rfl):PGs X (e :: es) (gCons t u):=by
 intro pins s σ H vs us Q I r h
 obtain ⟨v,vr,e1,h⟩:=h
 subst e1
 cases r with
 | cons r rr =>
  rw [hs]
  refine assignInOrder_cons (thn (h1 pins s σ H _ _ _ I r h) fun _ s1 ⟨σ1,H1,I1,q1⟩=>?_)
  exact h2 pins s1 σ1 H1 _ _ Q I1 rr q1
def gTup (K:PySem.W.Frag) (n:Nat) (t:TGs):TG:=fun v σ H Q=>∃ a xs,v = .ref a∧SqT K H a xs∧xs.length = n∧t xs σ H Q
theorem pg_tup {es:List Expr} {k:Nat} {t:TGs} {n:Nat} (hc:X.calm = true) (h:PGs X es t)
  (hn:(assignEach es X.env).length = n:=by rfl) (hst:(assignEach es X.env).findIdx? (·.1) = none:=by rfl):PG X (.Tuple es k pos) (gTup X.K n t):=by
 intro pins s σ H v u Q I r hw
 obtain ⟨a,xs,e1,hq,hl,hw⟩:=hw
 subst e1
 cases r
 obtain ⟨its,rv,ht,hz⟩:=I.tuple hq
 refine assign_Tuple_tuple (I.ok.hd hc) ht (by simp [hn,← hl,rv.length]) hst fun h' hx=>?_
 have I1:Inv X pins σ H { s with heap:=h' }:=I.kept (t':=s.toks) fun b o e=>hx b o (Nat.ne_of_lt (Heap.lt_size e)) e
 exact h pins _ σ H xs _ Q I1 (by simpa using rv) hw
def gSub (to ti:TE) (t:TSet):TG:=fun v σ H Q=>to σ H fun o H1=>ti σ H1 fun i H2=>t o i v H2 fun H3=>Q σ H3
theorem pg_sub {o i:Expr} {to ti:TE} {t:TSet} (ho:PE X o to) (hi:PE X i ti) (hs:PSet X t)
  (ha:∀ v,assign (.Subscript o i pos) X.env v = (do
   let ov ← holding [v] (eval o X.env)
   let iv ← holding [v,ov] (eval i X.env)
   standAt pos
   holding [v,ov,iv] (setItem ov iv v)
   release [v,ov,iv] []):=by intro _; rfl):PG X (.Subscript o i pos) (gSub to ti t):=by
 intro pins s σ H v u Q I r h
 rw [ha]
 refine wpAny_bind (wpAny_holding (thn (ho pins s σ H _ I h) fun ov s1 ⟨x,H1,I1,r1,q1⟩=>?_))
 refine wpAny_bind (wpAny_holding (thn (hi pins s1 σ H1 _ I1 q1) fun iv s2 ⟨y,H2,I2,r2,q2⟩=>?_))
 refine wpAny_bind (wpAny_standAt (wpAny_bind (wpAny_holding (thn (hs pins s2 σ H2 x y v ov iv u _ I2 r1 r2 r q2) fun _ s3 ⟨H3,I3,q3⟩=>?_))))
 exact wpAny_release ⟨σ,H3,I3,q3⟩
def tAsg (te:TE) (g:TG):TS:=fun D σ H=>te σ H fun x H1=>g x σ H1 D.nx
theorem ps_asg {tg e:Expr} {te:TE} {g:TG} (he:PE X e te) (hg:PG X tg g) (hs:swapsWithSole [tg] e pos.line X.env = pure false:=by rfl) (hw:swappedStores [tg] e X.env = pure none:=by rfl)
  (h1:(assignEach [tg] X.env).map (·.2) = [assign tg X.env]:=by rfl):PS X (.Assign [tg] e pos) (tAsg te g):=by
 intro pins s σ H D I h
 refine wpAny_Assign_stores (thn (he pins s σ H _ I h) fun v s1 ⟨x,H1,I1,r1,q1⟩=>?_) hs hw
 rw [h1]
 exact thn (hg pins s1 σ H1 x v _ I1 r1 q1) fun _ s2 q=>q
theorem ps_set {i:Nat} {x:Str} {e:Expr} {te:TE} {pos':Pos} (hN:X.N.Nodup) (hi:X.N[i]? = some x) (hx:Loc X.env.scope x) (he:PE X e te) (hs:swapsWith e (some (.Name x pos')) pos.line X.env = pure false:=by rfl) (hf:X.fn x = true∨X.env.scope.names.lookup x = some .local:=by first | exact .inl rfl | exact .inr rfl | assumption) :
  PS X (.Assign [.Name x pos'] e pos) (tAsg te (gName i)):=by
 intro pins s σ H D I h
 refine wpAny_Assign_Name (thn (he pins s σ H _ I h) fun v s1 ⟨y,H1,I1,r1,q1⟩=>?_) hs
 exact store_ok I1 hN hi hx r1 (fun s2 I2=>⟨_,H1,I2,q1⟩) hf
end
section
variable {X:Cx} {pos:Pos}
def tWhile (c:TT) (tb:TS):TS:=fun D σ H=>∃ W:Nat→St→Hp→Prop,(∃ m,W m σ H)∧∀ m σ H,W m σ H →
 c σ H fun b H1=>if b = true then ∃ N:St→Hp→Prop,(∀ σ' H',N σ' H'→∃ m',m' < m∧W m' σ' H')∧tb { D with nx:=N,ct:=N,bk:=D.nx } σ H1 else D.nx σ H1
theorem ps_while {c:Expr} {body:List Stmt} {tc:TT} {tb:TS} (hp:PassesOwn (model X.prog X.w) X.A X.env X.xe) (hc:PT X c tc) (hb:PSs X body tb):PS X (.While c body [] pos) (tWhile tc tb):=by
 intro pins s σ H D I h
 obtain ⟨W,⟨m0,w0⟩,turn⟩:=h
 refine wpAny_While (codeAny_whileLoop (fun n s'=>∃ σ' H',Inv X pins σ' H' s'∧W n σ' H') ?_ m0 ⟨σ,H,I,w0⟩)
 rintro n s1 ⟨σ1,H1,I1,w1⟩
 refine wpAny_passesOwn hp (thn (hc pins s1 σ1 H1 _ I1 (turn n σ1 H1 w1)) fun b s2 ⟨H2,I2,q2⟩=>?_)
 cases b with
 | true =>
  obtain ⟨N,hN,q2⟩:=q2
  rw [if_pos rfl]
  refine wpAny_passesOwn hp (thn (hb pins s2 σ1 H2 _ I2 q2) fun f s3 q3=>?_)
  cases f with
  | next =>
   obtain ⟨σ3,H3,I3,n3⟩:=q3
   obtain ⟨m',hm,w3⟩:=hN σ3 H3 n3
   exact ⟨m',hm,σ3,H3,I3,w3⟩
  | cont =>
   obtain ⟨σ3,H3,I3,n3⟩:=q3
   obtain ⟨m',hm,w3⟩:=hN σ3 H3 n3
   exact ⟨m',hm,σ3,H3,I3,w3⟩
  | brk=>exact q3
  | ret v=>exact q3
 | false =>
  rw [if_neg Bool.false_ne_true]
  exact wpAny_execs_nil ⟨σ1,H2,I2,q2⟩
end
structure It where
 go:Nat→Hp→Prop
 yld:Nat→Hp→V→Hp→Prop
 stop:Nat→Hp→Prop
def FpOk (X:Cx) (pins:List (Addr× Obj)) (H:Hp) (b:Addr):Prop :=
 H b = none∧b≠X.env.locals∧b∉X.fs∧(b∈X.ex∨X.s₀.heap.objs.size≤b)∧(∀ x c,X.env.cells.lookup x = some c→c≠b)∧∀ p∈X.pn ++ pins,p.1≠b
theorem Inv.fpOk {X:Cx} {pins:List (Addr× Obj)} {σ:St} {H H':Hp} {s:Shared} {b:Addr} (I:Inv X pins σ H s) (hb:s.heap.objs.size≤b) (hn:H' b = none):FpOk X pins H' b:=by
 refine ⟨hn,Nat.ne_of_gt (Nat.lt_of_lt_of_le I.lt hb),I.nofs hb,.inr (Nat.le_trans I.sz hb),fun x c e z=>?_,fun p hp z=>?_⟩
 ·obtain ⟨v,q⟩:=I.cell x c e
  exact absurd (Nat.lt_of_lt_of_le q.lt (by rw [z]; exact hb)) (Nat.lt_irrefl _)
 ·exact absurd (Nat.lt_of_lt_of_le (Heap.lt_size (I.pin p hp).1) (by rw [z]; exact hb)) (Nat.lt_irrefl _)
structure Turn (P:Program) (w:World) (K:PySem.W.Frag) (tg:Expr) (J:It) (fp:List Addr) (it:Addr) (tn:Nat→Heap→Prop):Prop where
 mem:it∈fp
 obj:∀ i h,tn i h→∀ b∈fp,∃ o,h.get? b = some o∧∀ v,o.data≠.cell v
 keep:∀ i h h',tn i h→(∀ b∈fp,∀ o,h.get? b = some o→h'.get? b = some o)→tn i h'
 item:∀ (X:Cx),X.prog = P→X.w = w→X.K = K→X.calm = true→∀ (i:Nat) (pins:List (Addr× Obj)) (s:Shared) (σ:St) (H:Hp) (E:Value→Shared→Prop),Inv X pins σ H s→(∀ b∈fp,FpOk X pins H b)→tn i s.heap→J.go i H →
  wpAny (model P w) X.A (pyNext (.ref it)) (fun r s1=>∃ u,r = some u ∧
   wpAny (model P w) X.A (letOwnedTupleGo tg (.ref it) u) (fun _ s2=>∃ x H',Inv X pins σ H' s2∧RelV x u∧J.yld i H x H'∧tn (i + 1) s2.heap∧∀ b∈fp,H' b = none) E s1) E s
 done:∀ (X:Cx),X.prog = P→X.w = w→X.K = K→X.calm = true→∀ (i:Nat) (pins:List (Addr× Obj)) (s:Shared) (σ:St) (H:Hp) (E:Value→Shared→Prop),Inv X pins σ H s→(∀ b∈fp,FpOk X pins H b)→tn i s.heap→J.stop i H →
  wpAny (model P w) X.A (pyNext (.ref it)) (fun r s1=>r = none∧Inv X pins σ H s1) E s
 self:∀ (A:Around) (i:Nat) (s:Shared) (Q:Value→Shared→Prop) (E:Value→Shared→Prop),tn i s.heap→Q (.ref it) s→wpAny (model P w) A (pyIter (.ref it)) Q E s
abbrev TI:=St→Hp→(It→Hp→Prop)→Prop
def PIE (X:Cx) (pins:List (Addr× Obj)) (σ:St) (tg:Expr) (R:It→Hp→Prop) (itv:Value) (s2:Shared):Prop :=
 ∃ (it:Addr) (fp:List Addr) (tn:Nat→Heap→Prop) (J:It) (H':Hp),itv = .ref it∧Inv X pins σ H' s2∧Turn X.prog X.w X.K tg J fp it tn∧tn 0 s2.heap∧(∀ b∈fp,FpOk X pins H' b)∧R J H'
def PI (X:Cx) (tg iter:Expr) (wi:TI):Prop :=
 ∀ (pins:List (Addr× Obj)) (s:Shared) (σ:St) (H:Hp) (R:It→Hp→Prop),Inv X pins σ H s→wi σ H R →
  wpAny (model X.prog X.w) X.A (eval iter X.env) (fun v s1=>wpAny (model X.prog X.w) X.A (pyIter v) (PIE X pins σ tg R) X.xe s1) X.xe s
theorem go_of {M:Model} {A:Around} {E:Value→Shared→Prop} {s:Shared} {tg:Expr} {it:Addr} {u:Value} {o:Obj} {n:String} {vs:Array Value} {Q:Unit→Shared→Prop} (ho:s.heap.get? it = some o) (hc:o.cls = .type n) (hd:o.data = .fields vs)
  (hn:["enumerate", "zip", "dict_itemiterator", "dict_reverseitemiterator", "odict_iterator", "itertools.zip_longest", "itertools.pairwise"].contains n = false) (hQ:Q () s):wpAny M A (letOwnedTupleGo tg (.ref it) u) Q E s:=by
 unfold letOwnedTupleGo
 cases tg <;> first
  | exact wpAny_pure hQ
  | (cases u <;> first
    | exact wpAny_pure hQ
    | (refine wpAny_bind (wpAny_load ho ?_)
       rw [hc,hd]
       show wpAny M A (if (["enumerate", "zip", "dict_itemiterator", "dict_reverseitemiterator", "odict_iterator", "itertools.zip_longest", "itertools.pairwise"].contains n && vs[0]? == some (rawInt _)) = true then _ else _) Q E s
       rw [if_neg (by intro h; rw [hn,Bool.false_and] at h; cases h)]
       exact wpAny_pure hQ))
def Itl (K:PySem.W.Frag) (a:Addr):It :=
 ⟨fun i H=>∃ xs x,SqL K H a xs∧xs[i]? = some x,fun i H x H'=>H' = H∧∀ xs,SqL K H a xs→xs[i]? = some x,fun i H=>∃ xs,SqL K H a xs∧xs.length≤i⟩
def Itr (lo:Int) (n:Nat):It:=⟨fun i _=>i < n,fun i H x H'=>H' = H∧x = .int (lo + i),fun i _=>n≤i⟩
theorem turn_list {P:Program} {w:World} {K:PySem.W.Frag} {tg:Expr} (a it:Addr):Turn P w K tg (Itl K a) [it] it (fun i h=>h.IsListIter it a i) where
 mem:=by simp
 obj:=fun i h st b hb=>by
  have e:b = it:=by simpa using hb
  subst e
  obtain ⟨o,e,c,d⟩:=st
  exact ⟨o,e,fun v z=>by rw [d] at z; cases z⟩
 keep:=fun i h h' st k=>st.at fun o e=>k it (by simp) o e
 item:=by
  intro X hP hw hK hc i pins s σ H E I hf st hg
  subst hP hw hK
  obtain ⟨xs,x,hq,hx⟩:=hg
  obtain ⟨its,rv,p,hz⟩:=I.list hq
  obtain ⟨u,hu,ru⟩:=rv.get hx
  obtain ⟨f0,f1,f2,f3,f4,f5⟩:=hf it (by simp)
  refine wpAny_pyNext_list_item st p.isList (x:=u) (by simpa using hu) fun h' st' sb=>?_
  have I1:Inv X pins σ H { s with heap:=h' }:=I.turned (t':=s.toks) (fun b o hb e=>(sb.2 b hb).trans e) f0 f1 f3 f4 f5
  obtain ⟨o,e,c,d⟩:=id st'
  exact ⟨u,rfl,go_of (s:={ s with heap:=h' }) e c d (by decide) ⟨x,H,I1,ru,⟨rfl,fun ys hy=>by rw [I.list_inj hy hq]; exact hx⟩,st',fun b hb=>(hf b hb).1⟩⟩
 done:=by
  intro X hP hw hK hc i pins s σ H E I hf st hg
  subst hP hw hK
  obtain ⟨xs,hq,hx⟩:=hg
  obtain ⟨its,rv,p,hz⟩:=I.list hq
  obtain ⟨f0,f1,f2,f3,f4,f5⟩:=hf it (by simp)
  have hl:=rv.length
  exact wpAny_pyNext_list_end (I.ok.hd hc) st p.isList (by simp; omega) fun h' eb=>⟨rfl,I.turned (t':=s.toks) (fun b o hb e=>eb b o hb e) f0 f1 f3 f4 f5⟩
 self:=fun _ _ _ _ _ st h=>wpAny_pyIter_listiter st h
theorem turn_range {P:Program} {w:World} {K:PySem.W.Frag} {tg:Expr} (it:Addr) (lo:Int) (n:Nat):Turn P w K tg (Itr lo n) [it] it (fun i h=>IsRangeIter h it (lo + (i:Nat) * 1) ((n:Int) - (i:Nat)) 1) where
 mem:=by simp
 obj:=fun i h st b hb=>by
  have e:b = it:=by simpa using hb
  subst e
  exact ⟨_,st,fun v z=>by
   have z':Data.fields _ = Data.cell v:=z
   cases z'⟩
 keep:=fun i h h' st k=>k it (by simp) _ st
 item:=by
  intro X hP hw hK hc i pins s σ H E I hf st hg
  subst hP hw hK
  obtain ⟨f0,f1,f2,f3,f4,f5⟩:=hf it (by simp)
  have W:=Walks.range (prog:=X.prog) (w:=X.w) (I.ok.hd hc) it lo 1 n
  refine W.item i s _ _ hg st fun v h' tk hv st' kk=>?_
  obtain ⟨t,rfl⟩:=hv
  have I1:Inv X pins σ H { s with heap:=h',toks:=tk }:=I.turned (fun b o hb e=>kk b o (by simpa using hb) e) f0 f1 f3 f4 f5
  refine ⟨_,rfl,go_of (s:={ s with heap:=h',toks:=tk }) (n:= "range_iterator") st' rfl rfl (by decide) ⟨.int (lo + i),H,I1,⟨t,?_⟩,⟨rfl,rfl⟩,st',fun b hb=>(hf b hb).1⟩⟩
  rw [Int.mul_one]
 done:=by
  intro X hP hw hK hc i pins s σ H E I hf st hg
  subst hP hw hK
  obtain ⟨f0,f1,f2,f3,f4,f5⟩:=hf it (by simp)
  exact wpAny_pyNext_range_end (I.ok.hd hc) st (by have:n≤i:=hg; omega) fun h' eb=>⟨rfl,I.turned (t':=s.toks) (fun b o hb e=>eb b o hb e) f0 f1 f3 f4 f5⟩
 self:=fun _ _ _ _ _ st h=>wpAny_pyIter_rangeiter st h
end L2
namespace L2
open PySem PySem.Spec PyProof.Rows
section
variable {X:Cx} {tg:Expr}
def iList (K:PySem.W.Frag) (tl:TE):TI:=fun σ H R=>tl σ H fun x H1=>∃ a,x = .ref a∧(∃ xs,SqL K H1 a xs)∧R (Itl K a) H1
theorem pi_list {l:Expr} {tl:TE} (hl:PE X l tl):PI X tg l (iList X.K tl):=by
 intro pins s σ H R I h
 refine thn (hl pins s σ H _ I h) fun v s1 ⟨x,H1,I1,r1,q1⟩=>?_
 obtain ⟨a,e,⟨xs,hq⟩,q⟩:=q1
 subst e
 cases r1
 obtain ⟨its,rv,p,hz⟩:=I1.list hq
 refine wpAny_pyIter_list p.isList ?_
 refine ⟨s1.heap.objs.size,[s1.heap.objs.size],_,_,H1,rfl,I1.kept (t':=s1.toks) fun b o e=>Heap.get?_push_of_some _ e,turn_list a _,⟨_,Heap.get?_push_size _ rfl,rfl,rfl⟩,fun b hb=>?_,q⟩
 have e:b = s1.heap.objs.size:=by simpa using hb
 subst e
 exact I1.fpOk (Nat.le_refl _) (I1.hok.fresh (Nat.le_refl _))
theorem range_it {pins:List (Addr× Obj)} {σ:St} {H:Hp} {s:Shared} {R:It→Hp→Prop} {E:Value→Shared→Prop} {lo hi:Int} {t u v:Tok} {tk:Nat} (I:Inv X pins σ H s) (h1:-(2 ^ 62)≤lo) (h2:lo < 2 ^ 62) (h3:-(2 ^ 62)≤hi) (h4:hi < 2 ^ 62)
  (q:R (Itr lo (hi - lo).toNat) H):wpAny (model X.prog X.w) X.A (pyIter (.ref s.heap.objs.size)) (PIE X pins σ tg R) E { s with heap:=s.heap.push { cls:=.type "range", data:=.fields #[.int lo t,.int hi u,.int 1 v] },toks:=tk }:=by
 refine wpAny_pyIter_range (IsRange.new ..) (small_one h1 h2 h3 h4) ?_
 have I1:Inv X pins σ H { s with heap:=s.heap.push { cls:=.type "range", data:=.fields #[.int lo t,.int hi u,.int 1 v] },toks:=tk }:=I.kept fun b o e=>Heap.get?_push_of_some _ e
 refine ⟨(s.heap.push { cls:=.type "range", data:=.fields #[.int lo t,.int hi u,.int 1 v] }).objs.size,[(s.heap.push { cls:=.type "range", data:=.fields #[.int lo t,.int hi u,.int 1 v] }).objs.size],_,_,H,rfl,
  I1.kept (t':=tk) fun b o e=>Heap.get?_push_of_some _ e,turn_range _ lo (hi - lo).toNat,?_,fun b hb=>?_,q⟩
 ·have e1:lo + ((0:Nat):Int) * 1 = lo:=by simp
  have e2:(((hi - lo).toNat:Nat):Int) - ((0:Nat):Int) = Builtin.Range.rangeSize lo hi 1:=by rw [rangeSize_one]; split <;> omega
  show IsRangeIter _ _ (lo + ((0:Nat):Int) * 1) ((((hi - lo).toNat:Nat):Int) - ((0:Nat):Int)) 1
  rw [e1,e2]
  exact Heap.get?_push_size _ rfl
 ·have e:b = (s.heap.push { cls:=.type "range", data:=.fields #[.int lo t,.int hi u,.int 1 v] }).objs.size:=by simpa using hb
  subst e
  exact I1.fpOk (Nat.le_refl _) (I1.hok.fresh (Nat.le_refl _))
def iRng1 (ta:TA):TI:=fun σ H R=>ta σ H fun vs H1=>∃ j:Int,vs = [.int j]∧-(2 ^ 62)≤j∧j < 2 ^ 62∧R (Itr 0 j.toNat) H1
def iRng2 (ta:TA):TI:=fun σ H R=>ta σ H fun vs H1=>∃ i j:Int,vs = [.int i,.int j]∧(-(2 ^ 62)≤i∧i < 2 ^ 62∧-(2 ^ 62)≤j∧j < 2 ^ 62)∧R (Itr i (j - i).toNat) H1
theorem pi_range1 {a:Expr} {ta:TA} {p pos:Pos} (hg:Gl X "range") (hm:X.mg "range" = none) (ha:PA X [a] ta) (hs:starEach [a] X.env = [(false,eval a X.env)]:=by rfl):PI X tg (.Call (.Name "range" p) [a] [] pos) (iRng1 ta):=by
 intro pins s σ H R I h
 refine Call_ (ld_blt I hg hm boot_range (PyProof.Rows.callWith_type1 (thn (ha pos pins s σ H _ I h) fun us s1 ⟨vs,H1,I1,r1,q1⟩=>?_) hs rfl))
 obtain ⟨j,e,q1,q2,q⟩:=q1
 subst e
 cases r1 with
 | cons r rr =>
  cases rr
  obtain ⟨t,rfl⟩:=r
  exact call_range_1 (range_it I1 (by omega) (by omega) q1 q2 (by simpa using q))
theorem pi_range2 {a b:Expr} {ta:TA} {p pos:Pos} (hg:Gl X "range") (hm:X.mg "range" = none) (ha:PA X [a,b] ta) (hs:starEach [a,b] X.env = [(false,eval a X.env),(false,eval b X.env)]:=by rfl) (hs2:starEach [b] X.env = [(false,eval b X.env)]:=by rfl) :
  PI X tg (.Call (.Name "range" p) [a,b] [] pos) (iRng2 ta):=by
 intro pins s σ H R I h
 refine Call_ (ld_blt I hg hm boot_range (PyProof.Rows.callWith_type1 (thn (ha pos pins s σ H _ I h) fun us s1 ⟨vs,H1,I1,r1,q1⟩=>?_) (by rw [hs,hs2]) (by rw [hs2]; rfl)))
 obtain ⟨i,j,e,⟨q1,q2,q3,q4⟩,q⟩:=q1
 subst e
 cases r1 with
 | cons r rr =>
  cases rr with
  | cons r' rr =>
   cases rr
   obtain ⟨t,rfl⟩:=r
   obtain ⟨t',rfl⟩:=r'
   exact call_range_2 (range_it I1 q1 q2 q3 q4 q)
def tFor (wi:TI) (g:TG) (tb:TS):TS:=fun D σ H=>wi σ H fun J H1=>∃ W:Nat→Nat→St→Hp→Prop,(∃ m,W 0 m σ H1)∧∀ i m σ H,W i m σ H →
 (J.stop i H∧D.nx σ H)∨(J.go i H∧∃ N:St→Hp→Prop,(∀ σ' H',N σ' H'→∃ m',m' < m∧W (i + 1) m' σ' H')∧∀ x H',J.yld i H x H'→g x σ H' fun σ2 H2=>tb { D with nx:=N,ct:=N,bk:=D.nx } σ2 H2)
def pinsAt (fp:List Addr) (h:Heap):List (Addr× Obj):=fp.filterMap fun b=>(h.get? b).map fun o=>(b,o)
theorem mem_pinsAt {fp:List Addr} {h:Heap} {b:Addr} {o:Obj} (hb:b∈fp) (e:h.get? b = some o):(b,o)∈pinsAt fp h:=List.mem_filterMap.mpr ⟨b,hb,by rw [e]; rfl⟩
theorem of_pinsAt {fp:List Addr} {h:Heap} {p:Addr× Obj} (hp:p∈pinsAt fp h):p.1∈fp∧h.get? p.1 = some p.2:=by
 obtain ⟨b,hb,e⟩:=List.mem_filterMap.mp hp
 cases q:h.get? b with
 | none=>rw [q] at e; cases e
 | some o =>
  rw [q] at e
  have e':(b,o) = p:=Option.some.inj e
  subst e'
  exact ⟨hb,q⟩
theorem Inv.pinned {pins:List (Addr× Obj)} {σ:St} {H:Hp} {s:Shared} {fp:List Addr} (I:Inv X pins σ H s) (hf:∀ b∈fp,FpOk X pins H b) (ho:∀ b∈fp,∃ o,s.heap.get? b = some o∧∀ v,o.data≠.cell v):Inv X (pins ++ pinsAt fp s.heap) σ H s :=
 I.pins_of fun p hp=>(List.mem_append.mp hp).elim (fun z=>I.pin p (List.mem_append_right _ z)) fun z=>by
  obtain ⟨hb,e⟩:=of_pinsAt z
  obtain ⟨f0,f1,f2,_⟩:=hf p.1 hb
  obtain ⟨o,e',d⟩:=ho p.1 hb
  rw [e] at e'; cases e'
  exact ⟨e,f0,f1,f2,d⟩
theorem Inv.unpinned {pins pl:List (Addr× Obj)} {σ:St} {H:Hp} {s:Shared} (I:Inv X (pins ++ pl) σ H s):Inv X pins σ H s:=I.pins_of fun p hp=>I.pin p (List.mem_append_right _ (List.mem_append_left _ hp))
theorem ps_for {iter:Expr} {body:List Stmt} {wi:TI} {g:TG} {tb:TS} {pos:Pos} (hp:PassesOwn (model X.prog X.w) X.A X.env X.xe) (hc:X.calm = true) (hi:PI X tg iter wi) (hg:PG X tg g) (hb:PSs X body tb)
  (hs:∀ x,foldedSetIterable iter X.env x = pure x:=by intro _; rfl):PS X (.For tg iter body [] pos) (tFor wi g tb):=by
 intro pins s σ H D I h
 refine wpAny_For (thn (hi pins s σ H _ I h) fun v s1 h1=>thn h1 fun itv s2 h2=>?_) hs
 obtain ⟨it,fp,tn,J,H2,e,I2,T,st2,f2,W,⟨m0,w0⟩,turn⟩:=h2
 subst e
 have stat:∀ {H':Hp},(∀ b∈fp,H' b = none)→∀ b∈fp,FpOk X pins H' b:=fun hn b hb=>⟨hn b hb,(f2 b hb).2⟩
 refine codeAny_forLoop_any (fun n s'=>∃ i σ' H',Inv X pins σ' H' s'∧tn i s'.heap∧(∀ b∈fp,H' b = none)∧W i n σ' H') ?_ m0 ⟨0,σ,H2,I2,st2,fun b hb=>(f2 b hb).1,w0⟩
 rintro n s3 ⟨i,σ3,H3,I3,st3,fr3,w3⟩
 rcases turn i n σ3 H3 w3 with ⟨stop,qn⟩ | ⟨go,N,hN,step⟩
 ·refine wpAny_passesOwn hp (thn (T.done X rfl rfl rfl hc i pins s3 σ3 H3 X.xe I3 (stat fr3) st3 stop) fun r s4 ⟨hr,I4⟩=>?_)
  subst hr
  exact wpAny_execs_nil ⟨σ3,H3,I4,qn⟩
 ·refine wpAny_passesOwn hp (thn (T.item X rfl rfl rfl hc i pins s3 σ3 H3 X.xe I3 (stat fr3) st3 go) fun r s4 ⟨u,hr,h4⟩=>?_)
  subst hr
  refine wpAny_passesOwn hp (thn h4 fun _ s5 ⟨x,H5,I5,r5,y5,st5,fr5⟩=>?_)
  have I5':=I5.pinned (stat fr5) (T.obj _ _ st5)
  refine wpAny_passesOwn hp (thn (hg _ s5 σ3 H5 x u _ I5' r5 (step x H5 y5)) fun _ s6 ⟨σ6,H6,I6,q6⟩=>?_)
  refine wpAny_passesOwn hp (thn (hb _ s6 σ6 H6 _ I6 q6) fun f s7 q7=>?_)
  have again:∀ {σ7:St} {H7:Hp},Inv X (pins ++ pinsAt fp s5.heap) σ7 H7 s7→N σ7 H7→∃ m,m < n∧∃ i σ' H',Inv X pins σ' H' s7∧tn i s7.heap∧(∀ b∈fp,H' b = none)∧W i m σ' H':=fun {σ7 H7} I7 n7=>by
   obtain ⟨m',hm,w7⟩:=hN σ7 H7 n7
   refine ⟨m',hm,i + 1,σ7,H7,I7.unpinned,T.keep _ _ _ st5 fun b hb o e=>(I7.pin (b,o) (List.mem_append_right _ (List.mem_append_right _ (mem_pinsAt hb e)))).1,fun b hb=>?_,w7⟩
   obtain ⟨o,e,d⟩:=T.obj _ _ st5 b hb
   exact (I7.pin (b,o) (List.mem_append_right _ (List.mem_append_right _ (mem_pinsAt hb e)))).2.1
  cases f with
  | next=>obtain ⟨σ7,H7,I7,n7⟩:=q7; exact again I7 n7
  | cont=>obtain ⟨σ7,H7,I7,n7⟩:=q7; exact again I7 n7
  | brk=>obtain ⟨σ7,H7,I7,q7⟩:=q7; exact ⟨σ7,H7,I7.unpinned,q7⟩
  | ret v=>obtain ⟨x7,σ7,H7,I7,r7,q7⟩:=q7; exact ⟨x7,σ7,H7,I7.unpinned,r7,q7⟩
end
theorem for_list {K:PySem.W.Frag} {a:Addr} {xs:List V} {g:TG} {tb:TS} {D:Ends} {σ:St} {H:Hp} (Pv:Nat→St→Hp→Prop) (h0:Pv 0 σ H) (hl:∀ i σ H,i≤xs.length→Pv i σ H→SqL K H a xs)
  (hs:∀ i x σ H,xs[i]? = some x→Pv i σ H→g x σ H fun σ2 H2=>tb { D with nx:=Pv (i + 1),ct:=Pv (i + 1),bk:=D.nx } σ2 H2) (hd:∀ σ H,Pv xs.length σ H→D.nx σ H) :
  ∃ W:Nat→Nat→St→Hp→Prop,(∃ m,W 0 m σ H)∧∀ i m σ H,W i m σ H →
   ((Itl K a).stop i H∧D.nx σ H)∨((Itl K a).go i H∧∃ N:St→Hp→Prop,(∀ σ' H',N σ' H'→∃ m',m' < m∧W (i + 1) m' σ' H')∧∀ x H',(Itl K a).yld i H x H'→g x σ H' fun σ2 H2=>tb { D with nx:=N,ct:=N,bk:=D.nx } σ2 H2):=by
 refine ⟨fun i m σ H=>m = xs.length - i∧i≤xs.length∧Pv i σ H,⟨xs.length,by simp,Nat.zero_le _,h0⟩,?_⟩
 rintro i m σ H ⟨rfl,hi,p⟩
 have q:=hl i σ H hi p
 by_cases hlt:i < xs.length
 ·refine .inr ⟨⟨xs,xs[i],q,by simp [hlt]⟩,Pv (i + 1),fun σ' H' p'=>⟨xs.length - (i + 1),by omega,rfl,hlt,p'⟩,fun x H' y=>?_⟩
  obtain ⟨e,y⟩:=y
  subst e
  exact hs i x σ _ (y xs q) p
 ·have e:i = xs.length:=by omega
  subst e
  exact .inl ⟨⟨xs,q,Nat.le_refl _⟩,hd σ H p⟩
theorem for_range {lo:Int} {n:Nat} {g:TG} {tb:TS} {D:Ends} {σ:St} {H:Hp} (Pv:Nat→St→Hp→Prop) (h0:Pv 0 σ H)
  (hs:∀ i σ H,i < n→Pv i σ H→g (.int (lo + i)) σ H fun σ2 H2=>tb { D with nx:=Pv (i + 1),ct:=Pv (i + 1),bk:=D.nx } σ2 H2) (hd:∀ σ H,Pv n σ H→D.nx σ H) :
  ∃ W:Nat→Nat→St→Hp→Prop,(∃ m,W 0 m σ H)∧∀ i m σ H,W i m σ H →
   ((Itr lo n).stop i H∧D.nx σ H)∨((Itr lo n).go i H∧∃ N:St→Hp→Prop,(∀ σ' H',N σ' H'→∃ m',m' < m∧W (i + 1) m' σ' H')∧∀ x H',(Itr lo n).yld i H x H'→g x σ H' fun σ2 H2=>tb { D with nx:=N,ct:=N,bk:=D.nx } σ2 H2):=by
 refine ⟨fun i m σ H=>m = n - i∧i≤n∧Pv i σ H,⟨n,by simp,Nat.zero_le _,h0⟩,?_⟩
 rintro i m σ H ⟨rfl,hi,p⟩
 by_cases hlt:i < n
 ·refine .inr ⟨hlt,Pv (i + 1),fun σ' H' p'=>⟨n - (i + 1),by omega,rfl,hlt,p'⟩,fun x H' y=>?_⟩
  obtain ⟨e,y⟩:=y
  subst e y
  exact hs i σ _ hlt p
 ·have e:i = n:=by omega
  subst e
  exact .inl ⟨Nat.le_refl _,hd σ H p⟩
theorem while_by {c:TT} {tb:TS} {D:Ends} {σ:St} {H:Hp} (Pv:St→Hp→Prop) (μ:St→Hp→Nat) (h0:Pv σ H)
  (hs:∀ σ H,Pv σ H→c σ H fun b H1=>if b = true then tb { D with nx:=fun σ' H'=>Pv σ' H'∧μ σ' H' < μ σ H,ct:=fun σ' H'=>Pv σ' H'∧μ σ' H' < μ σ H,bk:=D.nx } σ H1 else D.nx σ H1)
  (mono:∀ σ H Q Q',(∀ b H1,Q b H1→Q' b H1)→c σ H Q→c σ H Q'):tWhile c tb D σ H:=by
 refine ⟨fun m σ H=>m = μ σ H∧Pv σ H,⟨_,rfl,h0⟩,?_⟩
 rintro m σ H ⟨rfl,p⟩
 refine mono σ H _ _ (fun b H1 q=>?_) (hs σ H p)
 cases b with
 | true=>exact ⟨_,fun σ' H' ⟨p',l⟩=>⟨_,l,rfl,p'⟩,q⟩
 | false=>exact q
end L2
namespace L2
open PySem PySem.Spec PyProof.Rows
abbrev R2:=V→V→Hp→VK→Prop
def OpR (X:Cx) (f:Value→Value→Sem Value) (r:R2):Prop :=
 ∀ (pins:List (Addr× Obj)) (s:Shared) (σ:St) (H:Hp) (x y:V) (v u:Value) (Q:VK),Inv X pins σ H s→RelV x v→RelV y u→r x y H Q →
  wpAny (model X.prog X.w) X.A (f v u) (EP X pins σ Q) X.xe s
def UnR (X:Cx) (f:Value→Sem Value) (r:V→Hp→VK→Prop):Prop :=
 ∀ (pins:List (Addr× Obj)) (s:Shared) (σ:St) (H:Hp) (x:V) (v:Value) (Q:VK),Inv X pins σ H s→RelV x v→r x H Q →
  wpAny (model X.prog X.w) X.A (f v) (EP X pins σ Q) X.xe s
def CallR (X:Cx) (f:Value) (r:List V→Hp→VK→Prop):Prop :=
 ∀ (pins:List (Addr× Obj)) (s:Shared) (σ:St) (H:Hp) (xs:List V) (us:List Value) (Q:VK),Inv X pins σ H s→Vals xs us→r xs H Q →
  wpAny (model X.prog X.w) X.A (call f us) (EP X pins σ Q) X.xe s
def TruR (X:Cx) (r:V→Hp→(Bool→Hp→Prop)→Prop):Prop :=
 ∀ (pins:List (Addr× Obj)) (s:Shared) (σ:St) (H:Hp) (x:V) (v:Value) (Q:Bool→Hp→Prop),Inv X pins σ H s→RelV x v→r x H Q →
  wpAny (model X.prog X.w) X.A (truthy v) (TP X pins σ Q) X.xe s
def tOp (r:R2) (ta tb:TE):TE:=fun σ H Q=>ta σ H fun x H1=>tb σ H1 fun y H2=>r x y H2 Q
def tUn (r:V→Hp→VK→Prop) (ta:TE):TE:=fun σ H Q=>ta σ H fun x H1=>r x H1 Q
def rI (C:Int→Int→Prop) (g:Int→Int→V):R2:=fun x y H Q=>∃ i j,x = .int i∧y = .int j∧C i j∧Q (g i j) H
def rI0 (g:Int→Int→V):R2:=fun x y H Q=>∃ i j,x = .int i∧y = .int j∧Q (g i j) H
def rU (g:Int→V):V→Hp→VK→Prop:=fun x H Q=>∃ i,x = .int i∧Q (g i) H
section
variable {X:Cx} {a b c:Expr} {ta tb tc:TE} {pos:Pos}
theorem binT (ha:PE X a ta) (hb:PE X b tb) {pins:List (Addr× Obj)} {s:Shared} {σ:St} {H:Hp} {R:V→V→Hp→Prop} (I:Inv X pins σ H s)
  (h:ta σ H fun x H1=>tb σ H1 fun y H2=>R x y H2) {Q:Value→Shared→Prop} {f:Value→Value→Sem Value}
  (hf:∀ v u s2 x y H2,Inv X pins σ H2 s2→RelV x v→RelV y u→R x y H2→wpAny (model X.prog X.w) X.A (f v u) Q X.xe s2) :
  wpAny (model X.prog X.w) X.A (eval a X.env) (fun v s₁=>wpAny (model X.prog X.w) X.A (eval b X.env) (fun u s₂=>wpAny (model X.prog X.w) X.A (f v u) Q X.xe s₂) X.xe s₁) X.xe s:=by
 refine thn (ha pins s σ H _ I h) fun v s1 ⟨x,H1,I1,r1,q1⟩=>?_
 refine thn (hb pins s1 σ H1 _ I1 q1) fun u s2 ⟨y,H2,I2,r2,q2⟩=>?_
 exact hf v u s2 x y H2 I2 r1 r2 q2
theorem pe_op {op:Operator} {r:R2} (ho:OpR X (binaryOp op) r) (ha:PE X a ta) (hb:PE X b tb):PE X (.BinOp a op b pos) (tOp r ta tb):=by
 intro pins s σ H Q I h
 exact wpAny_BinOp (binT ha hb I h fun v u s2 x y H2 I2 rx ry q=>ho pins s2 σ H2 x y v u Q I2 rx ry q)
theorem pe_un {op:UnaryOp} {r:V→Hp→VK→Prop} (ho:UnR X (unaryOp op) r) (ha:PE X a ta):PE X (.UnaryOp op a pos) (tUn r ta):=by
 intro pins s σ H Q I h
 exact UnaryOp_ (thn (ha pins s σ H _ I h) fun v s1 ⟨x,H1,I1,r1,q1⟩=>ho pins s1 σ H1 x v Q I1 r1 q1)
theorem opI {f:Value→Value→Sem Value} {C:Int→Int→Prop} {g:Int→Int→Int}
  (rule:∀ (i j:Int) (t u:Tok) (s:Shared) (Q:Value→Shared→Prop) (E:Value→Shared→Prop),C i j→Q (.int (g i j) s.toks) { s with toks:=s.toks + 1 }→wpAny (model X.prog X.w) X.A (f (.int i t) (.int j u)) Q E s) :
  OpR X f (rI C fun i j=>.int (g i j)):=by
 intro pins s σ H x y v u Q I rx ry h
 obtain ⟨i,j,rfl,rfl,hc,q⟩:=h
 obtain ⟨t,rfl⟩:=rx
 obtain ⟨t',rfl⟩:=ry
 exact rule i j t t' s _ _ hc ⟨.int (g i j),H,I.tok _,⟨_,rfl⟩,q⟩
theorem opI0 {f:Value→Value→Sem Value} {g:Int→Int→Int}
  (rule:∀ (i j:Int) (t u:Tok) (s:Shared) (Q:Value→Shared→Prop) (E:Value→Shared→Prop),Q (.int (g i j) s.toks) { s with toks:=s.toks + 1 }→wpAny (model X.prog X.w) X.A (f (.int i t) (.int j u)) Q E s) :
  OpR X f (rI0 fun i j=>.int (g i j)):=by
 intro pins s σ H x y v u Q I rx ry h
 obtain ⟨i,j,rfl,rfl,q⟩:=h
 obtain ⟨t,rfl⟩:=rx
 obtain ⟨t',rfl⟩:=ry
 exact rule i j t t' s _ _ ⟨.int (g i j),H,I.tok _,⟨_,rfl⟩,q⟩
theorem opB0 {f:Value→Value→Sem Value} {g:Int→Int→Bool}
  (rule:∀ (i j:Int) (t u:Tok) (s:Shared) (Q:Value→Shared→Prop) (E:Value→Shared→Prop),Q (.bool (g i j)) s→wpAny (model X.prog X.w) X.A (f (.int i t) (.int j u)) Q E s) :
  OpR X f (rI0 fun i j=>.bl (g i j)):=by
 intro pins s σ H x y v u Q I rx ry h
 obtain ⟨i,j,rfl,rfl,q⟩:=h
 obtain ⟨t,rfl⟩:=rx
 obtain ⟨t',rfl⟩:=ry
 exact rule i j t t' s _ _ ⟨.bl (g i j),H,I,rfl,q⟩
def CDiv (i j:Int):Prop:=0 < j∧j < 1073741824
def CMul (i j:Int):Prop:=(-(2 ^ 64) < i∧i < 2 ^ 64)∨(-(2 ^ 64) < j∧j < 2 ^ 64)
theorem CMul.ok {i j:Int} (h:CMul i j):IntMulOk i j:=by
 rcases h with ⟨h1,h2⟩ | ⟨h1,h2⟩
 ·exact .of_left (intBits_le_64 h1 h2)
 ·exact .of_right (intBits_le_64 h1 h2)
theorem op_add:OpR X (binaryOp .Add) (rI0 fun i j=>.int (i + j)):=opI0 fun _ _ _ _ _ _ _ q=>add_int q
theorem op_sub:OpR X (binaryOp .Sub) (rI0 fun i j=>.int (i - j)):=opI0 fun _ _ _ _ _ _ _ q=>sub_int q
theorem op_mul:OpR X (binaryOp .Mult) (rI CMul fun i j=>.int (i * j)):=opI fun _ _ _ _ _ _ _ hc q=>mul_int q hc.ok
theorem op_fdiv:OpR X (binaryOp .FloorDiv) (rI CDiv fun i j=>.int (i / j)):=opI fun i j _ _ _ _ _ hc q=>by
 have h1:(0:Int) < j:=hc.1
 have h2:j < 1073741824:=hc.2
 exact floordiv_int (by omega) (by rw [Int.fdiv_eq_ediv_of_nonneg i (by omega)]; exact q) (.inl (PyProof.noPylong_small (by omega)))
theorem op_mod:OpR X (binaryOp .Mod) (rI (fun _ j=>0 < j) fun i j=>.int (i % j)):=opI fun i j _ _ _ _ _ hc q=>by
 have h1:(0:Int) < j:=hc
 exact mod_int' (by omega) (by rw [Int.fmod_eq_emod_of_nonneg i (by omega)]; exact q)
theorem unI {f:Value→Sem Value} {g:Int→Int}
  (rule:∀ (i:Int) (t:Tok) (s:Shared) (Q:Value→Shared→Prop) (E:Value→Shared→Prop),Q (.int (g i) s.toks) { s with toks:=s.toks + 1 }→wpAny (model X.prog X.w) X.A (f (.int i t)) Q E s) :
  UnR X f (rU fun i=>.int (g i)):=by
 intro pins s σ H x v Q I rx h
 obtain ⟨i,rfl,q⟩:=h
 obtain ⟨t,rfl⟩:=rx
 exact rule i t s _ _ ⟨.int (g i),H,I.tok _,⟨_,rfl⟩,q⟩
theorem un_neg:UnR X (unaryOp .USub) (rU fun i=>.int (-i)):=unI fun _ _ _ _ _ q=>neg_int q
end
def scal:V→V→Bool
 | .non,.non=>true | .non,.int _=>true | .int _,.non=>true | .non,.bl _=>true | .bl _,.non=>true | .non,.str _=>true | .str _,.non=>true
 | .int _,.int _=>true | .bl _,.bl _=>true | .str _,.str _=>true | .byt _,.byt _=>true
 | .int _,.str _=>true | .str _,.int _=>true | .bl _,.str _=>true | .str _,.bl _=>true
 | _,_=>false
def rEq:R2:=fun x y H Q=>scal x y = true∧Q (.bl (decide (x = y))) H
def rNe:R2:=fun x y H Q=>scal x y = true∧Q (.bl (!decide (x = y))) H
theorem dec_int {i j:Int}:decide (V.int i = V.int j) = (i == j):=by
 rw [Bool.eq_iff_iff]
 simp
theorem dec_bl {i j:Bool}:decide (V.bl i = V.bl j) = (i == j):=by
 rw [Bool.eq_iff_iff]
 simp
theorem dec_str {i j:Str}:decide (V.str i = V.str j) = (i == j):=by
 rw [Bool.eq_iff_iff]
 simp
theorem dec_byt {i j:Array UInt8}:decide (V.byt i = V.byt j) = (i.toList == j.toList):=by
 rw [Bool.eq_iff_iff]
 cases i
 cases j
 simp
section
variable {X:Cx} {a b c:Expr} {ta tb tc:TE} {pos:Pos}
theorem fin_bl {pins:List (Addr× Obj)} {σ:St} {H:Hp} {s:Shared} {Q:VK} {k k':Bool} (I:Inv X pins σ H s) (q:Q (.bl k) H) (e:k = k'):EP X pins σ Q (.bool k') s:=by
 subst e
 exact ⟨.bl k,H,I,rfl,q⟩
theorem op_eq:OpR X (compareOp .Eq) rEq:=by
 intro pins s σ H x y v u Q I rx ry h
 obtain ⟨hs,q⟩:=h
 cases x with
 | non =>
  cases rx
  cases y with
  | non=>cases ry; exact PySem.EqNone.eq_none_none (fin_bl I q (by simp))
  | bl j=>cases ry; exact PySem.EqNone.eq_none_bool (fin_bl I q (by simp))
  | int j=>obtain ⟨t',rfl⟩:=ry; exact PySem.EqNone.eq_none_int (fin_bl I q (by simp))
  | str j=>obtain ⟨t',rfl⟩:=ry; exact PySem.EqNone.eq_none_str (fin_bl I q (by simp))
  | _=>exact absurd (show false = true from hs) Bool.false_ne_true
 | bl i =>
  cases rx
  cases y with
  | non=>cases ry; exact PySem.EqNone.eq_bool_none (fin_bl I q (by simp))
  | bl j=>cases ry; exact eq_bool (fin_bl I q dec_bl)
  | str j=>obtain ⟨t',rfl⟩:=ry; exact PySem.EqMixed.eq_bool_str (fin_bl I q (by simp))
  | _=>exact absurd (show false = true from hs) Bool.false_ne_true
 | int i =>
  obtain ⟨t,rfl⟩:=rx
  cases y with
  | non=>cases ry; exact PySem.EqNone.eq_int_none (fin_bl I q (by simp))
  | int j=>obtain ⟨t',rfl⟩:=ry; exact eq_int (fin_bl I q dec_int)
  | str j=>obtain ⟨t',rfl⟩:=ry; exact PySem.EqMixed.eq_int_str (fin_bl I q (by simp))
  | _=>exact absurd (show false = true from hs) Bool.false_ne_true
 | str i =>
  obtain ⟨t,rfl⟩:=rx
  cases y with
  | non=>cases ry; exact PySem.EqNone.eq_str_none (fin_bl I q (by simp))
  | bl j=>cases ry; exact PySem.EqMixed.eq_str_bool (fin_bl I q (by simp))
  | int j=>obtain ⟨t',rfl⟩:=ry; exact PySem.EqMixed.eq_str_int (fin_bl I q (by simp))
  | str j=>obtain ⟨t',rfl⟩:=ry; exact eq_str (fin_bl I q dec_str)
  | _=>exact absurd (show false = true from hs) Bool.false_ne_true
 | byt i =>
  obtain ⟨t,rfl⟩:=rx
  cases y with
  | byt j=>obtain ⟨t',rfl⟩:=ry; exact PySem.W.eq_bytes (fin_bl I q dec_byt)
  | _=>exact absurd (show false = true from hs) Bool.false_ne_true
 | _=>cases y <;> exact absurd (show false = true from hs) Bool.false_ne_true
theorem op_ne:OpR X (compareOp .NotEq) rNe:=by
 intro pins s σ H x y v u Q I rx ry h
 obtain ⟨hs,q⟩:=h
 cases x with
 | non =>
  cases rx
  cases y with
  | non=>cases ry; exact PySem.EqNone.ne_none_none (fin_bl I q (by simp))
  | bl j=>cases ry; exact PySem.EqNone.ne_none_bool (fin_bl I q (by simp))
  | int j=>obtain ⟨t',rfl⟩:=ry; exact PySem.EqNone.ne_none_int (fin_bl I q (by simp))
  | str j=>obtain ⟨t',rfl⟩:=ry; exact PySem.EqNone.ne_none_str (fin_bl I q (by simp))
  | _=>exact absurd (show false = true from hs) Bool.false_ne_true
 | bl i =>
  cases rx
  cases y with
  | non=>cases ry; exact PySem.EqNone.ne_bool_none (fin_bl I q (by simp))
  | bl j=>cases ry; exact ne_bool (fin_bl I q (congrArg not dec_bl))
  | str j=>obtain ⟨t',rfl⟩:=ry; exact PySem.EqMixed.ne_bool_str (fin_bl I q (by simp))
  | _=>exact absurd (show false = true from hs) Bool.false_ne_true
 | int i =>
  obtain ⟨t,rfl⟩:=rx
  cases y with
  | non=>cases ry; exact PySem.EqNone.ne_int_none (fin_bl I q (by simp))
  | int j=>obtain ⟨t',rfl⟩:=ry; exact ne_int (fin_bl I q (congrArg not dec_int))
  | str j=>obtain ⟨t',rfl⟩:=ry; exact PySem.EqMixed.ne_int_str (fin_bl I q (by simp))
  | _=>exact absurd (show false = true from hs) Bool.false_ne_true
 | str i =>
  obtain ⟨t,rfl⟩:=rx
  cases y with
  | non=>cases ry; exact PySem.EqNone.ne_str_none (fin_bl I q (by simp))
  | bl j=>cases ry; exact PySem.EqMixed.ne_str_bool (fin_bl I q (by simp))
  | int j=>obtain ⟨t',rfl⟩:=ry; exact PySem.EqMixed.ne_str_int (fin_bl I q (by simp))
  | str j=>obtain ⟨t',rfl⟩:=ry; exact ne_str (fin_bl I q (congrArg not dec_str))
  | _=>exact absurd (show false = true from hs) Bool.false_ne_true
 | byt i =>
  obtain ⟨t,rfl⟩:=rx
  cases y with
  | byt j=>obtain ⟨t',rfl⟩:=ry; exact PySem.W.ne_bytes (fin_bl I q (congrArg not dec_byt))
  | _=>exact absurd (show false = true from hs) Bool.false_ne_true
 | _=>cases y <;> exact absurd (show false = true from hs) Bool.false_ne_true
theorem op_lt:OpR X (compareOp .Lt) (rI0 fun i j=>.bl (decide (i < j))):=opB0 fun _ _ _ _ _ _ _ q=>lt_int q
theorem op_le:OpR X (compareOp .LtE) (rI0 fun i j=>.bl (decide (i≤j))):=opB0 fun _ _ _ _ _ _ _ q=>le_int q
theorem op_gt:OpR X (compareOp .Gt) (rI0 fun i j=>.bl (decide (j < i))):=opB0 fun _ _ _ _ _ _ _ q=>gt_int q
theorem op_ge:OpR X (compareOp .GtE) (rI0 fun i j=>.bl (decide (j≤i))):=opB0 fun _ _ _ _ _ _ _ q=>ge_int q
theorem op_isN:OpR X (compareOp .Is) (fun x y H Q=>y = .non∧Q (.bl (decide (x = .non))) H):=by
 intro pins s σ H x y v u Q I rx ry h
 obtain ⟨rfl,q⟩:=h
 cases ry
 refine is_none_gen (fin_bl I q ?_)
 cases x <;> first
  | (cases rx; rfl)
  | (obtain ⟨t,rfl⟩:=rx; rfl)
theorem op_notN:OpR X (compareOp .IsNot) (fun x y H Q=>y = .non∧Q (.bl (!decide (x = .non))) H):=by
 intro pins s σ H x y v u Q I rx ry h
 obtain ⟨rfl,q⟩:=h
 cases ry
 refine isnot_none_gen (fin_bl I q ?_)
 cases x <;> first
  | (cases rx; rfl)
  | (obtain ⟨t,rfl⟩:=rx; rfl)
theorem nomark (b:Expr) {op:CmpOp} (h:op≠.In:=by decide) (h2:op≠.NotIn:=by decide):behindInMarks op b = false:=by
 have e1:(op == CmpOp.In) = false:=by cases op <;> first | rfl | exact absurd rfl h
 have e2:(op == CmpOp.NotIn) = false:=by cases op <;> first | rfl | exact absurd rfl h2
 cases b <;> simp [behindInMarks,e1,e2]
theorem pe_cmpR {op:CmpOp} {r:R2} (ho:OpR X (compareOp op) r) (ha:PE X a ta) (hb:PE X b tb) (hm:behindInMarks op b = false):PE X (.Compare a [op] [b] pos) (tOp r ta tb):=by
 intro pins s σ H Q I h
 exact wpAny_Compare1 (binT ha hb I h fun v u s2 x y H2 I2 rx ry q=>ho pins s2 σ H2 x y v u Q I2 rx ry q) hm
def tTest (t:TE):TT:=fun σ H Q=>t σ H fun x H'=>∃ k,x = .bl k∧Q k H'
theorem pt_cmpR {op:CmpOp} {r:R2} (ho:OpR X (compareOp op) r) (ha:PE X a ta) (hb:PE X b tb) (hm:behindInMarks op b = false):PT X (.Compare a [op] [b] pos) (tTest (tOp r ta tb)):=by
 intro pins s σ H Q I h
 refine wpAny_isTrue_Compare1 (thn (ha pins s σ H _ I h) fun v s1 ⟨x,H1,I1,r1,q1⟩=>thn (hb pins s1 σ H1 _ I1 q1) fun u s2 ⟨y,H2,I2,r2,q2⟩ =>
  thn (ho pins s2 σ H2 x y v u _ I2 r1 r2 q2) fun c s3 ⟨z,H3,I3,r3,k,e,q3⟩=>?_) hm
 subst e
 cases r3
 exact wpAny_truthy_bool ⟨H3,I3,q3⟩
def tChain (r r':R2) (ta tb tc:TE):TE:=fun σ H Q=>ta σ H fun x H1=>tb σ H1 fun y H2=>r x y H2 fun z H3=>∃ k,z = .bl k ∧
 (if k = true then tc σ H3 fun w' H4=>r' y w' H4 Q else Q (.bl false) H3)
theorem pe_chain {op op':CmpOp} {r r':R2} (ho:OpR X (compareOp op) r) (ho':OpR X (compareOp op') r') (ha:PE X a ta) (hb:PE X b tb) (hc:PE X c tc)
  (hm:lastMarks [op,op'] [b,c] = false:=by with_unfolding_all rfl):PE X (.Compare a [op,op'] [b,c] pos) (tChain r r' ta tb tc):=by
 intro pins s σ H Q I h
 refine Compare_chain (thn (ha pins s σ H _ I h) fun v s1 ⟨x,H1,I1,r1,q1⟩=>chain_link (thn (hb pins s1 σ H1 _ I1 q1) fun u s2 ⟨y,H2,I2,r2,q2⟩ =>
  thn (ho pins s2 σ H2 x y v u _ I2 r1 r2 q2) fun d s3 ⟨z,H3,I3,r3,k,e,q3⟩=>?_)) hm
 subst e
 cases r3
 refine wpAny_truthy_bool ?_
 cases k with
 | false=>exact ite_ff ⟨.bl false,H3,I3,rfl,q3⟩
 | true=>exact ite_tt (chain_last (thn (hc pins s3 σ H3 _ I3 q3) fun w' s4 ⟨z',H4,I4,r4,q4⟩=>ho' pins s4 σ H4 y z' u w' Q I4 r2 r4 q4))
theorem pt_chain {op op':CmpOp} {r r':R2} (ho:OpR X (compareOp op) r) (ho':OpR X (compareOp op') r') (ha:PE X a ta) (hb:PE X b tb) (hc:PE X c tc)
  (hm:lastMarks [op,op'] [b,c] = false:=by with_unfolding_all rfl):PT X (.Compare a [op,op'] [b,c] pos) (tTest (tChain r r' ta tb tc)):=by
 intro pins s σ H Q I h
 refine isTrue_chain (thn (ha pins s σ H _ I h) fun v s1 ⟨x,H1,I1,r1,q1⟩=>test_link (thn (hb pins s1 σ H1 _ I1 q1) fun u s2 ⟨y,H2,I2,r2,q2⟩ =>
  thn (ho pins s2 σ H2 x y v u _ I2 r1 r2 q2) fun d s3 ⟨z,H3,I3,r3,k,e,q3⟩=>?_)) hm
 subst e
 cases r3
 refine wpAny_truthy_bool ?_
 cases k with
 | false =>
  obtain ⟨k',e',q'⟩:=q3
  cases e'
  exact ite_ff ⟨H3,I3,q'⟩
 | true =>
  refine ite_tt (test_last (thn (hc pins s3 σ H3 _ I3 q3) fun w' s4 ⟨z',H4,I4,r4,q4⟩=>thn (ho' pins s4 σ H4 y z' u w' _ I4 r2 r4 q4) fun d' s5 ⟨z2,H5,I5,r5,k2,e2,q5⟩=>?_))
  subst e2
  cases r5
  exact wpAny_truthy_bool ⟨H5,I5,q5⟩
def TruV (K:PySem.W.Frag) (x:V) (H:Hp) (k:Bool):Prop :=
 match x with
 | .non=>k = false
 | .bl b=>k = b
 | .int i=>k = (i != 0)
 | .str y=>y.length≤sizeLine∧k = ((y.length:Int) != 0)
 | .byt y=>y.size≤sizeLine∧k = ((y.size:Int) != 0)
 | .ref p=>(∃ xs,SqL K H p xs∧k = !xs.isEmpty)∨(∃ xs,SqT K H p xs∧k = !xs.isEmpty)∨∃ kvs,H p = some (.dK kvs)∧k = !kvs.isEmpty
 | _=>False
theorem isEmpty_kv {κ:Type} {kvs:List (κ× V)} {vs:List (κ× Value)} (r:KV kvs vs):(!vs.isEmpty) = !kvs.isEmpty:=by
 cases r <;> rfl
theorem isEmpty_of {xs:List V} {its:List Value} (r:Vals xs its):(!its.toArray.isEmpty) = !xs.isEmpty:=by
 cases r <;> simp
theorem line63:(sizeLine:Nat) < 2 ^ 63:=by rw [sizeLine_eq]; decide
theorem tru_ok:TruR X (fun x H Q=>∃ k,TruV X.K x H k∧Q k H):=by
 intro pins s σ H x v Q I rx h
 obtain ⟨k,e,q⟩:=h
 have hl:=line63
 have hs:sizeLine = 16777216:=sizeLine_eq
 cases x with
 | non =>
  cases rx
  have e':k = false:=e
  subst e'
  exact truthy_none ⟨H,I,q⟩
 | bl b =>
  cases rx
  have e':k = b:=e
  subst e'
  exact wpAny_truthy_bool ⟨H,I,q⟩
 | int i =>
  obtain ⟨t,rfl⟩:=rx
  have e':k = (i != 0):=e
  subst e'
  exact PySem.P.truthy_int ⟨H,I,q⟩
 | str y =>
  obtain ⟨t,rfl⟩:=rx
  obtain ⟨hy,e'⟩:y.length≤sizeLine∧k = ((y.length:Int) != 0):=e
  subst e'
  exact PySem.P.truthy_str (by omega) ⟨H,I.tok _,q⟩
 | byt y =>
  obtain ⟨t,rfl⟩:=rx
  obtain ⟨hy,e'⟩:y.size≤sizeLine∧k = ((y.size:Int) != 0):=e
  subst e'
  exact PySem.W.truthy_bytes (by omega) ⟨H,I.tok _,q⟩
 | ref p =>
  cases rx
  have e':(∃ xs,SqL X.K H p xs∧k = !xs.isEmpty)∨(∃ xs,SqT X.K H p xs∧k = !xs.isEmpty)∨∃ kvs,H p = some (.dK kvs)∧k = !kvs.isEmpty:=e
  rcases e' with ⟨xs,hx,e'⟩ | ⟨xs,hx,e'⟩ | ⟨kvs,hx,e'⟩
  ·subst e'
   obtain ⟨its,r,pl,hz⟩:=I.list hx
   have hlen:=r.length
   exact wpAny_truthy_list pl.isList (by simp only [List.size_toArray]; omega) ⟨H,I.tok _,by rw [isEmpty_of r]; exact q⟩
  ·subst e'
   obtain ⟨its,r,pl,hz⟩:=I.tuple hx
   have hlen:=r.length
   exact truthy_tuple pl (by simp only [List.size_toArray]; omega) ⟨H,I.tok _,by rw [isEmpty_of r]; exact q⟩
  ·subst e'
   obtain ⟨hz,hS,vs,r,m⟩:kvs.length≤sizeLine∧(p == sysModules) = false∧∃ vs,KV kvs vs∧s.heap.DictOf (mixKind X.prog X.w) p vs:=I.hok p _ hx
   have hlen:kvs.length = vs.length:=Paired.length r
   exact wpAny_truthy_dict hS m (by omega) ⟨H,I.tok _,by rw [isEmpty_kv r]; exact q⟩
 | _=>exact (show False from e).elim
theorem pt_truth (ha:PE X a ta) (he:∀ whole,isTrue a X.env whole = (do let v ← whole; standAt a.pos; holding [v] (truthy v))) :
  PT X a (fun σ H Q=>ta σ H fun x H'=>∃ k,TruV X.K x H' k∧Q k H'):=by
 intro pins s σ H Q I h
 exact isTrue_plain (thn (ha pins s σ H _ I h) fun v s1 ⟨x,H1,I1,r1,q1⟩=>tru_ok pins s1 σ H1 x v Q I1 r1 q1) (he _)
theorem vals1 {x:V} {us:List Value} (r:Vals [x] us):∃ u,us = [u]∧RelV x u:=by
 cases r with
 | cons r1 r2=>cases r2; exact ⟨_,rfl,r1⟩
theorem vals2 {x y:V} {us:List Value} (r:Vals [x,y] us):∃ u w',us = [u,w']∧RelV x u∧RelV y w':=by
 cases r with
 | cons r1 r2 =>
  cases r2 with
  | cons r3 r4=>cases r4; exact ⟨_,_,rfl,r1,r3⟩
theorem call_max2 (hc:X.calm = true):CallR X (.builtin "max") (fun xs H Q=>∃ i j,xs = [.int i,.int j]∧Q (.int (if j > i then j else i)) H):=by
 intro pins s σ H xs us Q I r h
 obtain ⟨i,j,rfl,q⟩:=h
 obtain ⟨u,w',rfl,⟨t,rfl⟩,⟨t',rfl⟩⟩:=vals2 r
 refine max_two_ints (I.ok.hd hc) fun h' tk k=>⟨_,H,I.kept k,?_,q⟩
 by_cases hj:j > i
 ·rw [if_pos hj,if_pos hj]; exact ⟨_,rfl⟩
 ·rw [if_neg hj,if_neg hj]; exact ⟨_,rfl⟩
end
end L2
namespace L2
open PySem PySem.Spec PyProof.Rows
structure ObjM (h:Heap) (x dx C:Addr) (mA:Str→Option Value):Prop where
 obj:h.get? x = some (PySem.W.instObj C dx)
 ns:h.Ns1 dx mA
 ne:dx≠x
theorem lookIn_ns {h:Heap} {dx:Addr} {mA:Str→Option Value} (n:h.Ns1 dx mA):∃ od,h.get? dx = some od∧∀ name,PySem.W.lookIn name od = some (mA name):=by
 obtain ⟨o,es,ep,ho,hd,hk,_,hm⟩:=n
 refine ⟨o,ho,fun name=>?_⟩
 have e:=hm name
 unfold nsFind findBy at e
 rw [← Array.find?_toList] at e
 unfold PySem.W.lookIn
 rw [hd]
 dsimp only
 split
 ·rename_i y q
  rw [q] at e
  exact congrArg some e
 ·rename_i q
  rw [q] at e
  have a:es.toList.any (·.refKey) = false:=by
   rw [List.any_eq_false]
   intro y hy
   obtain ⟨z,t,hkey⟩:=hk y (Array.mem_toList_iff.mp hy)
   simp [DictEntry.refKey,hkey]
  have a':¬ es.toList.any (·.refKey) = true:=by rw [a]; exact Bool.false_ne_true
  rw [if_neg a']
  exact congrArg some e
theorem ObjM.look {h:Heap} {x dx C:Addr} {mA:Str→Option Value} (I:ObjM h x dx C mA):∃ od,PySem.W.InstAt h x (PySem.W.instObj C dx) C (some od)∧∀ name,PySem.W.lookIn name od = some (mA name) :=
 let ⟨od,ho,hl⟩:=lookIn_ns I.ns
 ⟨od,⟨I.obj,rfl,rfl,ho⟩,hl⟩
section
variable {prog:Program} {w:World} {A:Around} {E:Value→Shared→Prop} {s:Shared} {K:PySem.W.Frag} {x dx C f:Addr} {mA:Str→Option Value} {name:Str} {v:Value}
theorem get_map {expr:Bool} {Q:Value→Shared→Prop} (X:K.In s.heap) (I:ObjM s.heap x dx C mA) (hg:PySem.W.plainGet K C name = true) (hh:PySem.W.hasDictIn K C = true)
  (ha:PySem.W.findIn K (.ref C) name = some none) (hv:mA name = some v) (hv':PySem.W.handedIn v = true) (h:Q v { s with toks:=s.toks + 1 }) :
  wpAny (model prog w) A (getAttr (.ref x) name expr) Q E s:=by
 obtain ⟨od,J,hl⟩:=I.look
 exact PySem.W.get_value X J (PySem.W.plainGet_of hg).1 (PySem.W.findObj_own hh ha rfl (by rw [hl,hv])) hv' h
theorem get_meth {pl:Sem Bool} {Q:Value× List Value→Shared→Prop} (X:K.In s.heap) (I:ObjM s.heap x dx C mA) (hg:PySem.W.plainGet K C name = true)
  (hf:PySem.W.findIn K (.ref C) name = some (some (.ref f))) (ht:PySem.W.isFn K (.ref f) = true) (hv:mA name = none) (h:Q (.ref f,[.ref x]) s) :
  wpAny (model prog w) A (getMethod (.ref x) name pl) Q E s:=by
 obtain ⟨od,J,hl⟩:=I.look
 exact PySem.W.method_fn X J (PySem.W.plainGet_of hg).1 (PySem.W.plainGet_of hg).2 hf (beq_iff_eq.mp ht) (by show (PySem.W.lookIn name od).map (·.isSome) = some false; rw [hl,hv]; rfl) h
theorem set_map {ns:List Str} {Q:Unit→Shared→Prop} (X:K.In s.heap) (I:ObjM s.heap x dx C mA)
  (hs:PySem.W.findIn K (.ref C) "__setattr__" = some (some (.builtin "object.__setattr__"))) (hp:PySem.W.plainOver K C = true) (ht:PySem.W.takerIn K C name = some none) (hh:PySem.W.hasDictIn K C = true)
  (hw:PySem.Within mA ns) (hsz:ns.length≤sizeLine)
  (h:∀ h',ObjM h' x dx C (fun y=>if y = name then some v else mA y)→Heap.SameBut dx s.heap h'→Q () { s with heap:=h',toks:=s.toks + 2 }) :
  wpAny (model prog w) A (setAttr (.ref x) name v) Q E s:=by
 obtain ⟨od,J,hl⟩:=I.look
 refine PySem.W.set_plain X J hs (PySem.W.osa_open (s:={ s with toks:=s.toks + 1 }) (r:=none) X J hp ht fun b=>?_)
 obtain ⟨cd,hc,hd'⟩:=PySem.W.any_some hh
 have hx:s.heap.get? x = some ⟨.ref C,some dx,.plain,#[]⟩:=I.obj
 refine wpAny_bind (wpAny_pure (wpAny_bind (wpAny_bind (wpAny_loadPart hx (wpAny_bind (PySem.W.Looks.here (s:={ s with toks:=s.toks + 1 }) (PySem.W.looks_clsIn X hc) ?_))))))
 rw [hd']
 refine wpAny_pure (a:=some dx) (wpAny_bind (wpAny_pure (wpAny_bind ?_)))
 refine wpAny_nsSet1 (s:={ s with toks:=s.toks + 1 }) I.ns fun h' hn2 hs2=>?_
 obtain ⟨oD,esD,epD,hoD,hdD,hcD⟩:=hn2.count (PySem.Within.cons name v hw)
 refine wpAny_bind (wpAny_lookBehind hoD (by rw [hdD]; exact pastItsLine_dict (Nat.le_trans hcD (by rw [List.length_cons]; omega))) ?_)
 exact wpAny_pure (h _ ⟨(hs2.2 _ (Ne.symm I.ne)).trans I.obj,hn2,I.ne⟩ hs2)
theorem make_map {R:Result→Shared→Prop} {vs:List Value} {kw:List (Str× Value)} (X:K.In s.heap) (hm:PySem.W.makesIn K C = true)
  (hi:PySem.W.findIn K (.ref C) "__init__" = some (some (.ref f))) (hf:PySem.W.typeIn K (.ref f) = some (.type "function"))
  (h:codeAny (model prog w) (A.under (.builtin "type.__call__" ⟨.ref C :: vs,kw⟩)) (.call (.ref f) ⟨.ref (s.heap.objs.size + 1) :: vs,kw⟩) (PySem.W.InitBack (s.heap.objs.size + 1) R)
   { s with heap:=(s.heap.push PySem.W.emptyDict).push (PySem.W.instObj C s.heap.objs.size) }) :
  codeAny (model prog w) A (.call (.ref C) ⟨vs,kw⟩) R s:=by
 obtain ⟨hh,g,d,t,os⟩:=s
 exact PySem.W.make_core (PySem.W.makes_of X hm) (PySem.W.looks_findIn X hi) (fun self=>PySem.W.bind_fn X self hf) (.inl rfl) h
end
def putF (f:Str) (v:V):List (Str× V)→List (Str× V)
 | []=>[(f,v)]
 | (g,x) :: r=>if g = f then (g,v) :: r else (g,x) :: putF f v r
theorem lookup_putF (f g:Str) (v:V):∀ fs:List (Str× V),(putF f v fs).lookup g = if g = f then some v else fs.lookup g
 | []=>by
  show List.lookup g [(f,v)] = _
  by_cases h:g = f
  ·have hb:(g == f) = true:=beq_iff_eq.mpr h
   simp only [List.lookup,hb,if_pos h]
  ·have hb:(g == f) = false:=beq_eq_false_iff_ne.mpr h
   simp only [List.lookup,hb,if_neg h]
 | (k,x) :: r=>by
  have ih:=lookup_putF f g v r
  rw [show putF f v ((k,x) :: r) = (if k = f then (k,v) :: r else (k,x) :: putF f v r) from rfl]
  by_cases hk:k = f
  ·rw [if_pos hk]
   by_cases h:g = k
   ·have hb:(g == k) = true:=beq_iff_eq.mpr h
    simp only [List.lookup,hb,if_pos (h.trans hk)]
   ·have hb:(g == k) = false:=beq_eq_false_iff_ne.mpr h
    simp only [List.lookup,hb,if_neg (fun e:g = f=>h (e.trans hk.symm))]
  ·rw [if_neg hk]
   by_cases h:g = k
   ·have hb:(g == k) = true:=beq_iff_eq.mpr h
    simp only [List.lookup,hb,if_neg (fun e:g = f=>hk (h.symm.trans e))]
   ·have hb:(g == k) = false:=beq_eq_false_iff_ne.mpr h
    simp only [List.lookup,hb]
    exact ih
theorem keys_putF (f:Str) (v:V):∀ fs:List (Str× V),f∈(putF f v fs).map (·.1)∧∀ g,g∈fs.map (·.1)→g∈(putF f v fs).map (·.1)
 | []=>⟨by simp [putF],fun g h=>by simp at h⟩
 | (k,x) :: r=>by
  obtain ⟨i1,i2⟩:=keys_putF f v r
  rw [show putF f v ((k,x) :: r) = (if k = f then (k,v) :: r else (k,x) :: putF f v r) from rfl]
  by_cases hk:k = f
  ·rw [if_pos hk]
   subst hk
   exact ⟨by simp,fun g h=>by simpa using h⟩
  ·rw [if_neg hk]
   refine ⟨?_,fun g h=>?_⟩
   ·rw [List.map_cons]
    exact List.mem_cons_of_mem _ i1
   ·rw [List.map_cons] at h ⊢
    rcases List.mem_cons.mp h with e | e
    ·exact List.mem_cons.mpr (.inl e)
    ·exact List.mem_cons_of_mem _ (i2 g e)
theorem length_putF (f:Str) (v:V):∀ fs:List (Str× V),(putF f v fs).length≤fs.length + 1
 | []=>by simp [putF]
 | (k,x) :: r=>by
  have ih:=length_putF f v r
  rw [show putF f v ((k,x) :: r) = (if k = f then (k,v) :: r else (k,x) :: putF f v r) from rfl]
  by_cases hk:k = f
  ·rw [if_pos hk,List.length_cons,List.length_cons]; omega
  ·rw [if_neg hk,List.length_cons,List.length_cons]; omega
theorem RelO.some_of {v:V} {o:Option Value} (r:RelO (some v) o):∃ u,o = some u∧RelV v u:=by
 cases o with
 | none=>exact (show False from r).elim
 | some u=>exact ⟨u,rfl,r⟩
theorem RelO.none_of {o:Option Value} (r:RelO none o):o = none:=by
 cases o with
 | none=>rfl
 | some u=>exact (show False from r).elim
theorem handed_of {v:V} {u:Value} (r:RelV v u):PySem.W.handedIn u = true:=by
 cases v with
 | non=>cases (show u = Value.none from r); rfl
 | bl b=>cases (show u = Value.bool b from r); rfl
 | int i=>obtain ⟨t,e⟩:=(show ∃ t,u = Value.int i t from r); cases e; rfl
 | str x=>obtain ⟨t,e⟩:=(show ∃ t,u = Value.str x t from r); cases e; rfl
 | byt b=>obtain ⟨t,e⟩:=(show ∃ t,u = Value.bytes b t from r); cases e; rfl
 | flt b=>obtain ⟨t,e⟩:=(show ∃ t,u = Value.float b t from r); cases e; rfl
 | ref a=>cases (show u = Value.ref a from r); rfl
 | ty n=>cases (show u = Value.type n from r); rfl
section
variable {P:Program} {w:World} {H H':Hp} {h h':Heap} {a C dx:Addr} {fs fs':List (Str× V)}
theorem ins_get (hok:HOk P w H h) (e:H a = some (.ins C dx fs)):∃ mA,ObjM h a dx C mA∧(∀ f,RelO (fs.lookup f) (mA f))∧PySem.Within mA (fs.map (·.1))∧fs.length≤1000∧H dx = some (.own a):=by
 obtain ⟨d,z,ne,ob,mA,n,r,q⟩:=(show ObjOk P w H h a (.ins C dx fs) from hok a _ e)
 exact ⟨mA,⟨ob,n,ne⟩,r,q,z,d⟩
end
structure Cls (K:PySem.W.Frag) (C:Addr):Prop where
 pg:PySem.W.plainGet K C Str.empty = true
 hd:PySem.W.hasDictIn K C = true
 po:PySem.W.plainOver K C = true
 sa:PySem.W.findIn K (.ref C) "__setattr__" = some (some (.builtin "object.__setattr__"))
theorem Cls.get {K:PySem.W.Frag} {C:Addr} (c:Cls K C) (f:Str):PySem.W.plainGet K C f = true:=c.pg
def NoAttr (K:PySem.W.Frag) (C:Addr) (f:Str):Prop:=PySem.W.findIn K (.ref C) f = some none
theorem NoAttr.taker {K:PySem.W.Frag} {C:Addr} {f:Str} (n:NoAttr K C f):PySem.W.takerIn K C f = some none:=by
 unfold PySem.W.takerIn
 rw [show PySem.W.findIn K (.ref C) f = some none from n]
 rfl
structure Meth (K:PySem.W.Frag) (C:Addr) (m:Str) (f:Addr):Prop where
 at_:PySem.W.findIn K (.ref C) m = some (some (.ref f))
 fn:PySem.W.isFn K (.ref f) = true
 kp:PySem.W.keepIn K (.ref f) = true
section
variable {X:Cx} {pins:List (Addr× Obj)} {σ:St} {H:Hp} {s:Shared} {a C dx:Addr} {fs:List (Str× V)} {f:Str} {v:V} {A:Around} {E:Value→Shared→Prop}
theorem getattr_ok {b:Bool} {Q:Value→Shared→Prop} (I:Inv X pins σ H s) (e:H a = some (.ins C dx fs)) (c:Cls X.K C) (n:NoAttr X.K C f) (l:fs.lookup f = some v)
  (h:∀ u s',Inv X pins σ H s'→RelV v u→Q u s'):wpAny (model X.prog X.w) A (getAttr (.ref a) f b) Q E s:=by
 obtain ⟨mA,O,r,_,_,_⟩:=ins_get I.hok e
 obtain ⟨u,hu,ru⟩:=RelO.some_of (v:=v) (o:=mA f) (by rw [← l]; exact r f)
 exact get_map I.kIn O (c.get f) c.hd n hu (handed_of ru) (h u _ (I.tok _) ru)
theorem getmeth_ok {m:Str} {g:Addr} {pl:Sem Bool} {Q:Value× List Value→Shared→Prop} (I:Inv X pins σ H s) (e:H a = some (.ins C dx fs)) (c:Cls X.K C) (k:Meth X.K C m g) (l:fs.lookup m = none)
  (h:Q (.ref g,[.ref a]) s):wpAny (model X.prog X.w) A (getMethod (.ref a) m pl) Q E s:=by
 obtain ⟨mA,O,r,_,_,_⟩:=ins_get I.hok e
 have hn:mA m = none:=RelO.none_of (by rw [← l]; exact r m)
 exact get_meth I.kIn O (c.get m) k.at_ k.fn hn h
theorem setattr_ok {y:V} {u:Value} {Q:Unit→Shared→Prop} (I:Inv X pins σ H s) (e:H a = some (.ins C dx fs)) (c:Cls X.K C) (n:NoAttr X.K C f) (hl:fs.length < 1000) (ry:RelV y u)
  (h:∀ s',Inv X pins σ (upd H a (.ins C dx (putF f y fs))) s'→Q () s'):wpAny (model X.prog X.w) A (setAttr (.ref a) f u) Q E s:=by
 obtain ⟨mA,O,r,wi,_,ho⟩:=ins_get I.hok e
 have hz:(fs.map (·.1)).length≤sizeLine:=by rw [List.length_map,sizeLine_eq]; omega
 refine set_map I.kIn O c.sa c.po n.taker c.hd wi hz fun h' O' sb=>h _ ?_
 have hd:∃ o,h'.get? dx = some o:=let ⟨o,_,_,e',_⟩:=O'.ns; ⟨o,e'⟩
 refine I.write (x:=a) (e:=dx) (by rw [e]; exact True.intro) (.inr ho) (fun b q hb z=>(sb.2 b hb).trans z) hd ?_
 refine ⟨by rw [upd_ne O.ne]; exact ho,?_,O.ne,O'.obj,_,O'.ns,fun g=>?_,fun g hg=>?_⟩
 ·have:=length_putF f y fs; omega
 ·show RelO ((putF f y fs).lookup g) (if g = f then some u else mA g)
  rw [lookup_putF]
  by_cases q:g = f
  ·rw [if_pos q,if_pos q]; exact ry
  ·rw [if_neg q,if_neg q]; exact r g
 ·by_cases q:g = f
  ·rw [q]; exact (keys_putF f y fs).1
  ·refine (keys_putF f y fs).2 g (wi g fun z=>hg ?_)
   show (if g = f then some u else mA g) = none
   rw [if_neg q]; exact z
theorem Inv.made (I:Inv X pins σ H s):Inv X pins σ (upd (upd H s.heap.objs.size (.own (s.heap.objs.size + 1))) (s.heap.objs.size + 1) (.ins C s.heap.objs.size []))
  { s with heap:=(s.heap.push PySem.W.emptyDict).push (PySem.W.instObj C s.heap.objs.size) }:=by
 have e1:(s.heap.push PySem.W.emptyDict).get? s.heap.objs.size = some PySem.W.emptyDict:=Heap.get?_push_size s.heap rfl
 have e2:((s.heap.push PySem.W.emptyDict).push (PySem.W.instObj C s.heap.objs.size)).get? (s.heap.objs.size + 1) = some (PySem.W.instObj C s.heap.objs.size):=by
  have:=Heap.get?_push_size (s.heap.push PySem.W.emptyDict) (o:=PySem.W.instObj C s.heap.objs.size) rfl
  rwa [Heap.size_push] at this
 have e3:(s.heap.push PySem.W.emptyDict).Ns s.heap.objs.size (fun _=>none):=⟨PySem.W.emptyDict,#[],_,e1,rfl,(fun e he=>absurd he (by simp)),fun _=>rfl⟩
 have I1:=I.laid (a:=s.heap.objs.size) (o:=.own (s.heap.objs.size + 1)) (h':=s.heap.push PySem.W.emptyDict) (t':=s.toks) (fun b u q=>Heap.get?_push_of_some _ q) (Nat.le_refl _) ⟨_,e1⟩
 refine I1.laid (a:=s.heap.objs.size + 1) (o:=.ins C s.heap.objs.size []) (t':=s.toks) (fun b u q=>Heap.get?_push_of_some _ q) (Nat.le_of_eq (Heap.size_push _ _)) ?_
 have ne:s.heap.objs.size≠s.heap.objs.size + 1:=Nat.ne_of_lt (Nat.lt_succ_self _)
 refine ⟨by rw [upd_ne ne,upd_same],Nat.zero_le _,ne,e2,fun _=>none,(Heap.Ns1.of_empty e3).at fun o q=>Heap.get?_push_of_some _ q,fun _=>True.intro,fun y hy=>absurd rfl hy⟩
theorem attr_of {prog:Program} {w:World} {env:Env} {e:Expr} {f:Str} {pos:Pos} {s:Shared} {Q:Value→Shared→Prop} (hb:attributeBase e f env (eval e env) = eval e env)
  (h:wpAny (model prog w) A (eval e env) (fun o s₁=>wpAny (model prog w) A (getAttr o f true) Q E s₁) E s):wpAny (model prog w) A (eval (.Attribute e f pos) env) Q E s :=
 Attribute_any_ h (by rw [arm_eval_Attribute,hb])
end
def tFld (K:PySem.W.Frag) (ta:TE) (f:Str):TE:=fun σ H Q=>ta σ H fun x H1=>∃ a C dx fs v,x = .ref a∧H1 a = some (.ins C dx fs)∧Cls K C∧NoAttr K C f∧fs.lookup f = some v∧Q v H1
def sFld (K:PySem.W.Frag) (ta tv:TE) (f:Str):TS:=fun D σ H=>tv σ H fun y H1=>ta σ H1 fun x H2=>∃ a C dx fs,x = .ref a∧H2 a = some (.ins C dx fs)∧Cls K C∧NoAttr K C f∧fs.length < 1000 ∧
 D.nx σ (upd H2 a (.ins C dx (putF f y fs)))
section
variable {X:Cx} {o e value:Expr} {f:Str} {pos pos' tpos:Pos} {ta tv:TE}
theorem pe_fld (he:PE X e ta) (hb:attributeBase e f X.env (eval e X.env) = eval e X.env):PE X (.Attribute e f pos) (tFld X.K ta f):=by
 intro pins s σ H Q I h
 refine attr_of hb (thn (he pins s σ H _ I h) fun u s1 ⟨x,H1,I1,rx,a,C,dx,fs,v,ex,ea,c,n,l,q⟩=>?_)
 subst ex
 obtain rfl:u = Value.ref a:=rx
 exact getattr_ok I1 ea c n l fun u' s2 I2 ru=>⟨v,H1,I2,ru,q⟩
theorem ps_fld (ha:PE X o ta) (hv:PE X value tv) (hs:swapsWith value (some (.Attribute o f pos')) pos.line X.env = pure false):PS X (.Assign [.Attribute o f pos'] value pos) (sFld X.K ta tv f):=by
 intro pins s σ H D I h
 refine plainObj_wpAny_Assign_Attribute (thn (hv pins s σ H _ I h) fun u s1 ⟨y,H1,I1,ry,q⟩=>thn (ha pins s1 σ H1 _ I1 q) fun ov s2 ⟨x,H2,I2,rx,a,C,dx,fs,ex,ea,c,n,l,q2⟩=>?_) hs
 subst ex
 obtain rfl:ov = Value.ref a:=rx
 exact setattr_ok I2 ea c n l ry fun s3 I3=>⟨σ,_,I3,q2⟩
end
section
variable {X:Cx} {pins:List (Addr× Obj)} {σ:St} {H:Hp} {s:Shared} {A:Around} {E:Value→Shared→Prop} {Q:Value→Shared→Prop} {c:Value} {b:Bool}
inductive TyOf (K:PySem.W.Frag) (H:Hp):V→Value→Prop where
 | non:TyOf K H .non (.type "NoneType")
 | bl (x:Bool):TyOf K H (.bl x) (.type "bool")
 | int (i:Int):TyOf K H (.int i) (.type "int")
 | str (x:Str):TyOf K H (.str x) (.type "str")
 | flt (x:UInt64):TyOf K H (.flt x) (.type "float")
 | lst {a:Addr} {xs:List V} (e:H a = some (.lst xs)):TyOf K H (.ref a) (.type "list")
 | frz {a:Addr} {o:Obj} {xs:List V} (e:H a = some (.frz o (.lst xs))):TyOf K H (.ref a) (.type "list")
 | tup {a:Addr} {xs:List V} (e:H a = some (.tup xs)):TyOf K H (.ref a) (.type "tuple")
 | dK {a:Addr} {kvs:List (Key× V)} (e:H a = some (.dK kvs)):TyOf K H (.ref a) (.type "dict")
 | dT {a:Addr} {kvs:List (List Key× V)} (e:H a = some (.dT kvs)):TyOf K H (.ref a) (.type "dict")
 | ins {a C dx:Addr} {fs:List (Str× V)} (e:H a = some (.ins C dx fs)) (cl:Cls K C) (ha:PySem.W.findIn K (.ref C) "__class__" = some (some (.builtin "object.__class__")))
   (hn:PySem.W.specialIn K (.builtin "object.__class__") "__get__" = some (some (.builtin "getset_descriptor.__get__"))) (htk:PySem.W.takesIn K (.builtin "object.__class__") = some true)
   (hm:PySem.W.mroIn K C (.type "object") = some true):TyOf K H (.ref a) (.ref C)
theorem isinst_ok {x:V} {u t:Value} (I:Inv X pins σ H s) (rx:RelV x u) (ty:TyOf X.K H x t) (e:PySem.W.kitOne X.K t c = some b) (h:∀ tk,Q (.bool b) { s with toks:=tk }) :
  wpAny (model X.prog X.w) A (call (.builtin "isinstance") [u,c]) Q E s:=by
 cases ty with
 | non=>cases (show u = Value.none from rx); exact PySem.W.kia_one PySem.W.kitx_none I.kIn True.intro e (fun z=>nomatch z) h
 | bl y=>cases (show u = Value.bool y from rx); exact PySem.W.kia_one PySem.W.kitx_bool I.kIn True.intro e (fun z=>nomatch z) h
 | int i=>obtain ⟨t,q⟩:=(show ∃ t,u = Value.int i t from rx); cases q; exact PySem.W.kia_one PySem.W.kitx_int I.kIn True.intro e (fun z=>nomatch z) h
 | str y=>obtain ⟨t,q⟩:=(show ∃ t,u = Value.str y t from rx); cases q; exact PySem.W.kia_one PySem.W.kitx_str I.kIn True.intro e (fun z=>nomatch z) h
 | flt y=>obtain ⟨t,q⟩:=(show ∃ t,u = Value.float y t from rx); cases q; exact PySem.W.kia_one PySem.W.kitx_float I.kIn True.intro e (fun z=>nomatch z) h
 | @lst a xs ea =>
  cases (show u = Value.ref a from rx)
  obtain ⟨_,_,n,_,h1⟩:=(show ObjOk X.prog X.w H s.heap a (.lst xs) from I.hok a _ ea)
  exact PySem.W.kia_one PySem.W.kitx_list I.kIn ⟨_,h1,rfl⟩ e (fun z=>nomatch z) h
 | @frz a ob xs ea =>
  cases (show u = Value.ref a from rx)
  obtain ⟨_,_,_,n,_,h1⟩:=(show ObjOk X.prog X.w H s.heap a (.frz ob (.lst xs)) from I.hok a _ ea)
  exact PySem.W.kia_one PySem.W.kitx_list I.kIn ⟨_,h1,rfl⟩ e (fun z=>nomatch z) h
 | @tup a xs ea =>
  cases (show u = Value.ref a from rx)
  obtain ⟨_,_,_,p⟩:=(show ObjOk X.prog X.w H s.heap a (.tup xs) from I.hok a _ ea)
  obtain ⟨o,h1,h2,_⟩:=p
  exact PySem.W.kia_one PySem.W.kitx_tuple I.kIn ⟨o,h1,h2⟩ e (fun z=>nomatch z) h
 | @dK a kvs ea =>
  cases (show u = Value.ref a from rx)
  obtain ⟨_,_,vs,_,p⟩:=(show ObjOk X.prog X.w H s.heap a (.dK kvs) from I.hok a _ ea)
  obtain ⟨o,es,ep,h1,h2,_⟩:=p
  exact PySem.W.kia_one PySem.W.kitx_dict I.kIn ⟨o,h1,h2.1⟩ e (fun z=>nomatch z) h
 | @dT a kvs ea =>
  cases (show u = Value.ref a from rx)
  obtain ⟨_,_,xs,_,o,es,ep,h1,h2,_⟩:=(show ObjOk X.prog X.w H s.heap a (.dT kvs) from I.hok a _ ea)
  exact PySem.W.kia_one PySem.W.kitx_dict I.kIn ⟨o,h1,h2.1⟩ e (fun z=>nomatch z) h
 | @ins a C dx fs ea cl ha hn htk hm =>
  cases (show u = Value.ref a from rx)
  obtain ⟨mA,O,_⟩:=ins_get I.hok ea
  obtain ⟨od,J,_⟩:=O.look
  exact PySem.W.kia_one (PySem.W.kitx_own (cl.get _) cl.hd ha hn htk hm) I.kIn J e (fun z=>nomatch z) h
end
end L2
namespace L2
open PySem PySem.Spec PyProof.Rows
structure Room (k:Nat) (A:Around):Prop where
 hd:A.handled = none
 dp:A.depth + 3 * k + 5 < recursionLimit
 un:A.units + 16 * k + 200 < cLine
theorem Room.mono {j k:Nat} {A:Around} (r:Room k A) (h:j≤k):Room j A:=⟨r.hd,by have:=r.dp; omega,by have:=r.un; omega⟩
theorem Room.deeper {k:Nat} {A:Around} (r:Room (k + 1) A) (env:Env):Room k (A.deeper env) :=
 ⟨r.hd,by have:=r.dp; show A.depth + 1 + 3 * k + 5 < _; omega,by have:=r.un; show A.units + 3 + 16 * k + 200 < _; omega⟩
theorem make_depth {A:Around} {C:Addr} {us:List Value} {kw:List (Str× Value)}:(A.under (.builtin "type.__call__" ⟨.ref C :: us,kw⟩)).depth = A.depth + 1:=by
 first | rfl | simp [Around.under,Code.weight,Code.isCreation,Code.isGuard,Code.isCaller,Code.frames,Code.isFrame,guardIds]
theorem make_units {A:Around} {C:Addr} {us:List Value} {kw:List (Str× Value)}:(A.under (.builtin "type.__call__" ⟨.ref C :: us,kw⟩)).units = A.units + 1:=by
 first | rfl | simp [Around.under,Code.cUnits,Code.frames,Code.isFrame]
theorem Room.make {k:Nat} {A:Around} (r:Room (k + 1) A) (C:Addr) (us:List Value) (kw:List (Str× Value)):Room k (A.under (.builtin "type.__call__" ⟨.ref C :: us,kw⟩)) :=
 ⟨r.hd,by have:=r.dp; rw [make_depth]; omega,by have:=r.un; rw [make_units]; omega⟩
theorem Room.depth {k:Nat} {A:Around} (r:Room k A):A.depth < recursionLimit:=by have:=r.dp; omega
theorem Room.units {k:Nat} {A:Around} (r:Room k A):A.units + 64 < cLine:=by have:=r.un; omega
theorem Room.units0 {k:Nat} {A:Around} (r:Room k A):A.units < cLine:=by have:=r.un; omega
def tNil:TA:=fun _ H Q=>Q [] H
def tCons (ta:TE) (tr:TA):TA:=fun σ H Q=>ta σ H fun x H1=>tr σ H1 fun xs H2=>Q (x :: xs) H2
section
variable {X:Cx} {e:Expr} {es:List Expr} {te:TE} {t:TA} {pos:Pos}
theorem pa_nil:PA X [] tNil:=fun _ _ _ _ H Q I h=>Calls.spliced_nil ⟨[],H,I,.nil,h⟩
theorem pa_cons (ha:PE X e te) (hr:PA X es t) (hs:starEach (e :: es) X.env = (false,eval e X.env) :: starEach es X.env:=by rfl):PA X (e :: es) (tCons te t):=by
 intro pos pins s σ H Q I h
 rw [hs]
 show wpAny _ _ (spliced ((false,eval e X.env) :: backTo pos (starEach es X.env))) _ _ s
 refine Calls.spliced_cons (thn (ha pins s σ H _ I h) fun u s1 ⟨x,H1,I1,r1,q1⟩=>?_)
 exact thn (hr pos pins s1 σ H1 _ I1 q1) fun us s2 ⟨xs,H2,I2,r2,q2⟩=>⟨x :: xs,H2,I2,.cons r1 r2,q2⟩
def tTup (t:TA):TE:=fun σ H Q=>t σ H fun xs H1=>xs.length≤sizeLine∧∀ p,H1 p = none→Q (.ref p) (upd H1 p (.tup xs))
def tLst (t:TA):TE:=fun σ H Q=>t σ H fun xs H1=>xs.length≤sizeLine∧∀ p,H1 p = none→Q (.ref p) (upd H1 p (.lst xs))
theorem pe_tup {x1} (h:PA X es t):PE X (.Tuple es x1 pos) (tTup t):=by
 intro pins s σ H Q I hq
 refine wpAny_Tuple_spliced (thn (h pos pins s σ H _ I hq) fun us s1 ⟨xs,H1,I1,r,z,q⟩=>⟨by rw [← r.length]; exact z,?_⟩)
 have hf:H1 s1.heap.objs.size = none:=I1.hok.fresh (Nat.le_refl _)
 refine ⟨.ref s1.heap.objs.size,upd H1 s1.heap.objs.size (.tup xs),I1.laid (t':=s1.toks) (fun b u e=>Heap.get?_push_of_some _ e) (Nat.le_refl _) ?_,rfl,q _ hf⟩
 exact ⟨z,us,r,⟨_,Heap.get?_push_size _ rfl,rfl,_,rfl⟩⟩
theorem pe_lst (h:PA X es t):PE X (.List es pos) (tLst t):=by
 intro pins s σ H Q I hq
 refine wpAny_List_spliced (thn (h pos pins s σ H _ I hq) fun us s1 ⟨xs,H1,I1,r,z,q⟩=>⟨by rw [← r.length]; exact z,?_⟩)
 have hf:H1 s1.heap.objs.size = none:=I1.hok.fresh (Nat.le_refl _)
 refine ⟨.ref s1.heap.objs.size,upd H1 s1.heap.objs.size (.lst xs),I1.laid (t':=s1.toks) (fun b u e=>Heap.get?_push_of_some _ e) (Nat.le_refl _) ?_,rfl,q _ hf⟩
 exact ⟨z,us,0,r,Heap.get?_push_size _ rfl⟩
end
abbrev Sp:=List V→Hp→VK→XK→Prop
abbrev CXT:=List Env→Hp→Shared→XK→Value→Shared→Prop
structure Env0 (P:Program) (w:World) (K:PySem.W.Frag) (mg:Str→Option Value) (base:Heap) (A:Around) (outer:List Env) (s:Shared) (H:Hp):Prop where
 frames:A.frames = some outer
 mod:Mod K mg base
 bs:∀ b o,base.get? b = some o→s.heap.get? b = some o∧H b = none
 bsz:base.objs.size≤s.heap.objs.size
 funs:s.heap.FunFrames base outer
 frf:∀ b∈frs outer,H b = none
 hok:HOk P w H s.heap
 bare:AllBare s.gens
def CE (outer:List Env) (P:Program) (w:World) (H:Hp) (s:Shared) (Q:VK) (u:Value) (s':Shared):Prop :=
 ∃ v H',s'.os = s.os∧AllBare s'.gens∧Un (frs outer) [] H H' s.heap s'.heap∧HOk P w H' s'.heap∧RelV v u∧Q v H'
def CR (CX:CXT) (outer:List Env) (P:Program) (w:World) (H:Hp) (s:Shared) (Q:VK) (E:XK) (r:Result) (s':Shared):Prop :=
 match r with
 | .ok (.ret u)=>CE outer P w H s Q u s'
 | .ok _=>False
 | .error e=>CX outer H s E e s'
structure FnOk (P:Program) (w:World) (K:PySem.W.Frag) (mg:Str→Option Value) (base:Heap) (CX:CXT) (k:Nat) (f:Addr) (fd:FuncData) (ps:List Str) (sp:Sp):Prop where
 len:∀ vs H Q E,sp vs H Q E→vs.length = ps.length
 run:∀ (A:Around) (outer:List Env) (s:Shared) (H:Hp) (args:Args) (us:List Value) (vs:List V) (Q:VK) (E:XK),Room k A→Env0 P w K mg base A outer s H→BindsTo s fd args (ps.zip us)→Vals vs us→sp vs H Q E →
  codeAny (model P w) A (.call (.ref f) args) (CR CX outer P w H s Q E) s
theorem FnOk.mono {P:Program} {w:World} {K:PySem.W.Frag} {mg:Str→Option Value} {base:Heap} {CX:CXT} {j k:Nat} {f:Addr} {fd:FuncData} {ps:List Str} {sp:Sp} (F:FnOk P w K mg base CX j f fd ps sp) (h:j≤k) :
  FnOk P w K mg base CX k f fd ps sp:=⟨F.len,fun A outer s H args us vs Q E hr=>F.run A outer s H args us vs Q E (hr.mono h)⟩
theorem FnOk.imp {P:Program} {w:World} {K:PySem.W.Frag} {mg:Str→Option Value} {base:Heap} {CX:CXT} {k:Nat} {f:Addr} {fd:FuncData} {ps:List Str} {sp sp':Sp} (F:FnOk P w K mg base CX k f fd ps sp)
  (h:∀ vs H Q E,sp' vs H Q E→sp vs H Q E):FnOk P w K mg base CX k f fd ps sp' :=
 ⟨fun vs H Q E q=>F.len vs H Q E (h _ _ _ _ q),fun A outer s H args us vs Q E hr he hb hv hs=>F.run A outer s H args us vs Q E hr he hb hv (h _ _ _ _ hs)⟩
theorem Env0.make {P:Program} {w:World} {K:PySem.W.Frag} {mg:Str→Option Value} {base:Heap} {A:Around} {outer:List Env} {s:Shared} {H:Hp} (e:Env0 P w K mg base A outer s H) (C:Addr) (us:List Value) (kw:List (Str× Value)) :
  Env0 P w K mg base (A.under (.builtin "type.__call__" ⟨.ref C :: us,kw⟩)) outer s H:=⟨by first | exact e.frames | (simpa [Around.under,Code.envs,Code.isFrame,pushEnvs] using e.frames),e.mod,e.bs,e.bsz,e.funs,e.frf,e.hok,e.bare⟩
section
variable {X:Cx} {pins:List (Addr× Obj)} {σ:St} {H:Hp} {s s':Shared}
theorem Inv.env0 (I:Inv X pins σ H s):Env0 X.prog X.w X.K X.mg X.base X.A X.stack s H :=
 ⟨I.ok.frames,I.ok.mod,I.bs,Nat.le_trans I.ok.bsz I.sz,I.stack,I.stkFree,I.hok,I.bare⟩
theorem Inv.after {Q:VK} {u:Value} (I:Inv X pins σ H s) (h:CE X.stack X.prog X.w H s Q u s'):EP X pins σ Q u s':=by
 obtain ⟨v,H',os,bare,un,hok,r,q⟩:=h
 obtain ⟨hh,g,d,t,os'⟩:=s'
 obtain rfl:os' = s.os:=os
 exact ⟨v,H',I.call (h':=hh) (g':=g) (d':=d) (t':=t) (ch:=[]) un hok bare (fun b z=>absurd z (by simp)),r,q⟩
end
def tCall (sp:Sp) (dvs:List V) (E:XK) (t:TA):TE:=fun σ H Q=>t σ H fun vs H1=>sp (vs ++ dvs) H1 Q E
def tMeth (C:Addr) (m:Str) (sp:Sp) (dvs:List V) (E:XK) (ta:TE) (t:TA):TE:=fun σ H Q=>ta σ H fun x H1=>∃ a dx fs,x = .ref a∧H1 a = some (.ins C dx fs)∧fs.lookup m = none ∧
 t σ H1 fun vs H2=>sp (x :: (vs ++ dvs)) H2 Q E
def tMake (C:Addr) (sp:Sp) (dvs:List V) (E:XK) (t:TA):TE:=fun σ H Q=>t σ H fun vs H1=>∀ x dx,H1 x = none→H1 dx = none→dx≠x →
 sp (.ref x :: (vs ++ dvs)) (upd (upd H1 dx (.own x)) x (.ins C dx [])) (fun v H2=>v = .non∧Q (.ref x) H2) E
def Binds (K:PySem.W.Frag) (fd:FuncData) (ps:List Str) (ds:List Value):Prop :=
 ∀ (s:Shared) (us:List Value),K.In s.heap→(us ++ ds).length = ps.length→BindsTo s fd ⟨us,[]⟩ (ps.zip (us ++ ds))
theorem Binds.all {K:PySem.W.Frag} {fd:FuncData} {ps:List Str} (h:∀ us:List Value,us.length = ps.length→bindArgs fd ⟨us,[]⟩ = pure (ps.zip us)):Binds K fd ps []:=fun s us _ hl=>by
 rw [List.append_nil] at hl ⊢
 exact .of_eq (h us hl)
def Passes (CX:CXT) (X:Cx) (E:XK):Prop:=∀ (pins:List (Addr× Obj)) (σ:St) (H:Hp) (s:Shared) (e:Value) (s':Shared),Inv X pins σ H s→CX X.stack H s E e s'→X.xe e s'
section
variable {X:Cx} {CX:CXT} {k:Nat} {f C:Addr} {fd:FuncData} {ps:List Str} {sp:Sp} {dvs:List V} {ds:List Value} {E:XK} {x m:Str} {p pos apos:Pos} {e o:Expr} {es:List Expr} {ta:TE} {t:TA}
theorem run_fn {pins:List (Addr× Obj)} {σ:St} {H:Hp} {s:Shared} {Q:VK} {us:List Value} {vs:List V} (F:FnOk X.prog X.w X.K X.mg X.base CX k f fd ps sp) (hr:Room k X.A) (hb:Binds X.K fd ps ds) (hd:Vals dvs ds) (hx:Passes CX X E)
  (I:Inv X pins σ H s) (r:Vals vs us) (h:sp (vs ++ dvs) H Q E):wpAny (model X.prog X.w) X.A (call (.ref f) us) (EP X pins σ Q) X.xe s:=by
 have r2:Vals (vs ++ dvs) (us ++ ds):=r.append hd
 have hl:(us ++ ds).length = ps.length:=by rw [← r2.length]; exact F.len _ _ _ _ h
 refine wpAny_call (codeAny_mono (F.run X.A X.stack s H ⟨us,[]⟩ (us ++ ds) (vs ++ dvs) Q E hr I.env0 (hb s us I.kIn hl) r2 h) fun r s' hq=>?_)
 cases r with
 | error e=>exact hx pins σ H s e s' I hq
 | ok fl =>
  cases fl with
  | ret u=>exact I.after hq
  | next=>exact False.elim hq
  | brk=>exact False.elim hq
  | cont=>exact False.elim hq
theorem pe_call (F:FnOk X.prog X.w X.K X.mg X.base CX k f fd ps sp) (hr:Room k X.A) (hg:Gl X x) (hm:X.mg x = some (.ref f)) (hk:PySem.W.keepIn X.K (.ref f) = true) (hb:Binds X.K fd ps ds) (hd:Vals dvs ds) (hx:Passes CX X E)
  (ha:PA X (e :: es) t) (hdb:(x == ("__debug__" : Str)) = false:=by decide) (he:starEach (e :: es) X.env = (false,eval e X.env) :: starEach es X.env:=by rfl) (hpl:(backTo pos (starEach es X.env)).any (·.1) = false:=by rfl) :
  PE X (.Call (.Name x p) (e :: es) [] pos) (tCall sp dvs E t):=by
 intro pins s σ H Q I h
 refine wpAny_Call_Name_kw (ld_glob I hg hm ?_ hdb)
 refine PySem.W.callWith_K (h₀:=X.base) I.ok.mod.kin hk (thn (ha pos pins s σ H _ I h) fun us s1 ⟨vs,H1,I1,r,q⟩=>⟨I1.kIn,?_⟩) he hpl
 exact run_fn F hr hb hd hx I1 r q
theorem pe_meth0 {pl:Sem Bool} (he:PE X o ta) (c:Cls X.K C) (hm:Meth X.K C m f) (F:FnOk X.prog X.w X.K X.mg X.base CX k f fd ps sp) (hr:Room k X.A) (hb:Binds X.K fd ps ds) (hd:Vals dvs ds) (hx:Passes CX X E)
  (ht:eval (.Call (.Attribute o m apos) [] [] pos) X.env = (do
   let ov ← eval o X.env
   standAt apos.atName
   let (f,first) ← holding [ov] (getMethod ov m pl)
   callWith pos f first (backTo pos (starEach [] X.env)) (backToKw pos (keywordEach [] X.env))):=by rfl) :
  PE X (.Call (.Attribute o m apos) [] [] pos) (tMeth C m sp dvs E ta tNil):=by
 intro pins s σ H Q I h
 refine PySem.W.methodCall_KW (pl:=pl) (thn (he pins s σ H _ I h) fun u s1 ⟨x,H1,I1,rx,a,dx,fs,ex,ea,l,q⟩=>?_) ht
 subst ex
 obtain rfl:u = Value.ref a:=rx
 refine getmeth_ok I1 ea c hm l ?_
 exact PySem.W.callWith_K0 (first:=[.ref a]) I1.kIn hm.kp (run_fn (us:=[.ref a]) (vs:=[.ref a]) F hr hb hd hx I1 (.cons rfl .nil) q)
structure Mk (K:PySem.W.Frag) (C f:Addr):Prop where
 makes:PySem.W.makesIn K C = true
 init:PySem.W.findIn K (.ref C) "__init__" = some (some (.ref f))
 fn:PySem.W.isFn K (.ref f) = true
 kp:PySem.W.keepIn K (.ref C) = true
theorem run_make {pins:List (Addr× Obj)} {σ:St} {H:Hp} {s:Shared} {Q:VK} {us:List Value} {vs:List V} (M:Mk X.K C f) (F:FnOk X.prog X.w X.K X.mg X.base CX k f fd ps sp) (hr:Room (k + 1) X.A) (hb:Binds X.K fd ps ds) (hd:Vals dvs ds)
  (hx:Passes CX X E) (I:Inv X pins σ H s) (r:Vals vs us)
  (h:∀ x dx,H x = none→H dx = none→dx≠x→sp (.ref x :: (vs ++ dvs)) (upd (upd H dx (.own x)) x (.ins C dx [])) (fun v H2=>v = .non∧Q (.ref x) H2) E) :
  wpAny (model X.prog X.w) X.A (call (.ref C) us) (EP X pins σ Q) X.xe s:=by
 have hq:=h (s.heap.objs.size + 1) s.heap.objs.size (I.hok.fresh (Nat.le_succ _)) (I.hok.fresh (Nat.le_refl _)) (Nat.ne_of_lt (Nat.lt_succ_self _))
 have I2:=Inv.made (C:=C) I
 have r2:Vals (V.ref (s.heap.objs.size + 1) :: (vs ++ dvs)) (Value.ref (s.heap.objs.size + 1) :: (us ++ ds)):=.cons rfl (r.append hd)
 have hl:(Value.ref (s.heap.objs.size + 1) :: us ++ ds).length = ps.length:=by
  have e:=r2.length
  rw [F.len _ _ _ _ hq] at e
  exact e.symm
 refine wpAny_call (make_map (f:=f) I.kIn M.makes M.init (beq_iff_eq.mp M.fn) (codeAny_mono (F.run _ X.stack _ _ ⟨Value.ref (s.heap.objs.size + 1) :: us,[]⟩ (Value.ref (s.heap.objs.size + 1) :: (us ++ ds)) _ _ E (hr.make C us [])
  (I2.env0.make C us []) (hb _ (Value.ref (s.heap.objs.size + 1) :: us) I2.kIn hl) r2 hq) fun r s' hq'=>?_))
 cases r with
 | error e=>exact hx pins σ _ _ e s' I2 hq'
 | ok fl =>
  cases fl with
  | ret u =>
   obtain ⟨v,H',I3,rv,ev,q3⟩:=I2.after hq'
   subst ev
   exact ⟨rv,⟨V.ref (s.heap.objs.size + 1),H',I3,rfl,q3⟩⟩
  | next=>exact False.elim hq'
  | brk=>exact False.elim hq'
  | cont=>exact False.elim hq'
theorem pe_make (M:Mk X.K C f) (F:FnOk X.prog X.w X.K X.mg X.base CX k f fd ps sp) (hr:Room (k + 1) X.A) (hg:Gl X x) (hm:X.mg x = some (.ref C)) (hb:Binds X.K fd ps ds) (hd:Vals dvs ds) (hx:Passes CX X E)
  (ha:PA X (e :: es) t) (hdb:(x == ("__debug__" : Str)) = false:=by decide) (he:starEach (e :: es) X.env = (false,eval e X.env) :: starEach es X.env:=by rfl) (hpl:(backTo pos (starEach es X.env)).any (·.1) = false:=by rfl) :
  PE X (.Call (.Name x p) (e :: es) [] pos) (tMake C sp dvs E t):=by
 intro pins s σ H Q I h
 refine wpAny_Call_Name_kw (ld_glob I hg hm ?_ hdb)
 refine PySem.W.callWith_K (h₀:=X.base) I.ok.mod.kin M.kp (thn (ha pos pins s σ H _ I h) fun us s1 ⟨vs,H1,I1,r,q⟩=>⟨I1.kIn,?_⟩) he hpl
 exact run_make M F hr hb hd hx I1 r q
end
section
variable {X:Cx} {CX:CXT} {k:Nat} {f C:Addr} {fd:FuncData} {ps ks:List Str} {sp:Sp} {E:XK} {x m:Str} {p pos apos kpos:Pos} {e o:Expr} {es:List Expr} {kws:List Keyword} {te ta:TE} {t tk:TA} {nm:Option Str}
variable {g:List Value→List Value→List Value} {gV:List V→List V→List V}
end
structure FnScope (N P:List Str) (sc:Scope):Prop where
 kind:sc.kind = .function
 co:sc.isCoroutine = false
 gen:sc.isGenerator = false
 nd:N.Nodup
 pre:N.take P.length = P
 par:∀ x∈P,sc.names.lookup x = some .local∨sc.names.lookup x = some .cell
 nofree:∀ y∈sc.names,y.2≠.free
theorem bindL_out {kindOf:Str→Option NameKind} {x:Str}:∀ {binds:List (Str× Value)} {m:Str→Option Value},(∀ v,(x,v)∉binds)→bindL kindOf binds m x = m x
 | [],_,_=>rfl
 | (n,v) :: r,m,h=>by
  unfold bindL
  rw [bindL_out fun w hw=>h w (List.mem_cons_of_mem _ hw)]
  split
  ·have:x≠n:=by rintro rfl; exact h v List.mem_cons_self
   simp [this]
  ·rfl
theorem bindC_out {kindOf:Str→Option NameKind} {x:Str}:∀ {binds:List (Str× Value)} {m:Str→Option Value},(∀ v,(x,v)∉binds)→bindC kindOf binds m x = m x
 | [],_,_=>rfl
 | (n,v) :: r,m,h=>by
  unfold bindC
  rw [bindC_out fun w hw=>h w (List.mem_cons_of_mem _ hw)]
  split
  ·rfl
  ·have:x≠n:=by rintro rfl; exact h v List.mem_cons_self
   simp [this]
theorem bindL_get {kindOf:Str→Option NameKind} {x:Str} {v:Value}:∀ {P:List Str} {vs:List Value} {i:Nat} {m:Str→Option Value},P.Nodup→P[i]? = some x→vs[i]? = some v→kindOf x = some .local →
  bindL kindOf (P.zip vs) m x = some v
 | [],_,_,_,_,h,_,_=>by simp at h
 | _ :: _,[],_,_,_,_,h,_=>by simp at h
 | p :: P,w :: vs,0,m,nd,h1,h2,hk=>by
  simp at h1 h2; subst h1; subst h2
  show bindL kindOf ((p,w) :: P.zip vs) m p = _
  unfold bindL
  rw [bindL_out fun v hv=>(List.nodup_cons.mp nd).1 (List.of_mem_zip hv).1,if_pos hk]
  simp
 | p :: P,w :: vs,i + 1,m,nd,h1,h2,hk=>by
  show bindL kindOf ((p,w) :: P.zip vs) m x = _
  unfold bindL
  exact bindL_get (i:=i) (List.nodup_cons.mp nd).2 (by simpa using h1) (by simpa using h2) hk
theorem bindC_get {kindOf:Str→Option NameKind} {x:Str} {v:Value}:∀ {P:List Str} {vs:List Value} {i:Nat} {m:Str→Option Value},P.Nodup→P[i]? = some x→vs[i]? = some v→kindOf x≠some .local →
  bindC kindOf (P.zip vs) m x = some v
 | [],_,_,_,_,h,_,_=>by simp at h
 | _ :: _,[],_,_,_,_,h,_=>by simp at h
 | p :: P,w :: vs,0,m,nd,h1,h2,hk=>by
  simp at h1 h2; subst h1; subst h2
  show bindC kindOf ((p,w) :: P.zip vs) m p = _
  unfold bindC
  rw [bindC_out fun v hv=>(List.nodup_cons.mp nd).1 (List.of_mem_zip hv).1,if_neg hk]
  simp
 | p :: P,w :: vs,i + 1,m,nd,h1,h2,hk=>by
  show bindC kindOf ((p,w) :: P.zip vs) m x = _
  unfold bindC
  exact bindC_get (i:=i) (List.nodup_cons.mp nd).2 (by simpa using h1) (by simpa using h2) hk
def start (N:List Str) (vs:List V):St:=vs.map some ++ List.replicate (N.length - vs.length) none
def cxOf (CX:CXT) (P:Program) (w:World) (K:PySem.W.Frag) (mg:Str→Option Value) (base:Heap) (N:List Str) (qual:Str) (scope:Scope) (f:Addr) (cd:Value) (A:Around) (outer:List Env) (s:Shared) (H:Hp) (E:XK):Cx where
 prog:=P
 w:=w
 K:=K
 mg:=mg
 base:=base
 A:=A.deeper (envOfC qual scope s.heap.objs.size f cd)
 N:=N
 s₀:=s
 H₀:=H
 env:=envOfC qual scope s.heap.objs.size f cd
 outer:=outer
 stack:=envOfC qual scope s.heap.objs.size f cd :: outer
 ex:=[]
 calm:=true
 fn:=fun _=>true
 pn:=[]
 xe:=fun e s'=>wpAny (model P w) (A.deeper (envOfC qual scope s.heap.objs.size f cd)) (leaving (envOfC qual scope s.heap.objs.size f cd) e) (fun _ s''=>CX outer H s E e s'') (fun e' s''=>CX outer H s E e' s'') s'
theorem cell_has {sc:Scope} {n:Nat} {x:Str} (h:sc.names.lookup x = some .cell):∃ c,(cellsFrom n sc.names []).lookup x = some c:=by
 have q:=PySem.W.cellsFrom_some sc.names n [] (.inl h)
 exact Option.isSome_iff_exists.mp q
theorem inv_start {CX:CXT} {P:Program} {w:World} {K:PySem.W.Frag} {mg:Str→Option Value} {base:Heap} {N ps:List Str} {qual:Str} {scope:Scope} {f:Addr} {cd:Value} {A:Around} {outer:List Env} {s s1:Shared} {H:Hp} {E:XK} {us:List Value} {vs:List V}
  (S:FnScope N ps scope) (hd:A.handled = none) (e0:Env0 P w K mg base A outer s H) (hl:vs.length = ps.length) (r:Vals vs us)
  (x:InCallC s s.heap.objs.size (bindL (envOfC qual scope s.heap.objs.size f cd).kindOf (ps.zip us) fun _=>none) (cellsFrom (s.heap.objs.size + 1) scope.names []) (bindC (envOfC qual scope s.heap.objs.size f cd).kindOf (ps.zip us) fun _=>none) s1) :
  Inv (cxOf CX P w K mg base N qual scope f cd A outer s H E) [] (start N vs) H s1:=by
 have hpl:ps.length≤N.length:=by have:=congrArg List.length S.pre; rw [List.length_take] at this; omega
 obtain ⟨h1,tk,rfl,hk⟩:=x.done
 have noA:∀ b:Addr,b∉(cxOf CX P w K mg base N qual scope f cd A outer s H E).ex:=fun b z=>absurd (show b∈([]:List Addr) from z) (by simp)
 refine ⟨⟨e0.mod,S.kind,rfl,rfl,Nat.le_refl _,fun y z c h1 h2=>?_,fun y hy=>?_,fun y c _ h=>?_,fun _=>hd,Around.frames_deeper e0.frames,.inr ⟨rfl,rfl⟩,fun b z=>absurd z (noA b),e0.bs,e0.bsz,fun b _ _=>noA b,fun b z=>absurd z (noA b),e0.funs,e0.frf⟩,
  rfl,e0.bare,Un.kept hk,⟨_,x.toInCall.ns,fun i y v h1 h2 h3=>?_⟩,fun y c h=>⟨_,x.cell y c h⟩,e0.hok.fresh (Nat.le_refl _),fun y c h=>?_,fun p hp=>absurd (show p∈([]:List (Addr× Obj)) from hp) (by simp),e0.hok.kept hk,?_⟩
 ·exact name_of_addr x.apart (PySem.mem_of_lookup h1) (PySem.mem_of_lookup h2)
 ·have hy:scope.names.lookup y = some .cell∨scope.names.lookup y = some .free:=hy
  rcases hy with hy | hy
  ·exact cell_has hy
  ·exact absurd rfl (S.nofree _ (PySem.mem_of_lookup hy))
 ·exact Nat.le_of_lt (x.above y c (PySem.mem_of_lookup h))
 ·have hi:i < vs.length:=by
   unfold start at h2
   by_cases hi:i < vs.length
   ·exact hi
   ·rw [List.getElem?_append_right (by simpa using hi)] at h2
    rw [List.getElem?_replicate] at h2
    split at h2 <;> cases h2
  have ha:vs[i]? = some v:=by
   unfold start at h2
   rw [List.getElem?_append_left (by simpa using hi),List.getElem?_map] at h2
   cases e:vs[i]? with
   | none=>rw [e] at h2; cases h2
   | some a=>rw [e] at h2; cases h2; rfl
  obtain ⟨u,hu,rv⟩:=r.get ha
  have hp:ps[i]? = some y:=by
   rw [← S.pre,List.getElem?_take_of_lt (by omega)]; exact h1
  have ndP:ps.Nodup:=by rw [← S.pre]; exact S.nd.sublist (List.take_sublist _ _)
  refine ⟨u,rv,?_⟩
  rcases S.par y (List.mem_of_getElem? hp) with k | k
  ·exact .inl ⟨k,bindL_get ndP hp hu k⟩
  ·obtain ⟨c,e⟩:=cell_has (n:=s.heap.objs.size + 1) k
   refine .inr ⟨.inl k,c,e,?_⟩
   have q:=x.cell y c e
   rw [bindC_get ndP hp hu (by show scope.names.lookup y≠_; rw [k]; decide)] at q
   exact q
 ·exact e0.hok.fresh (Nat.le_of_lt (x.above y c (PySem.mem_of_lookup h)))
 ·unfold start
  show _ = N.length
  rw [List.length_append,List.length_map,List.length_replicate]
  omega
theorem fn_of {CX:CXT} {P:Program} {w:World} {K:PySem.W.Frag} {mg:Str→Option Value} {base:Heap} {k:Nat} {f:Addr} {name qual:Str} {params:Arguments} {body:List Stmt} {scope:Scope} {dV kV doc pm cdv ct oc:Value} {an od:Option Addr}
  {osl:Array (Option Value)} {N ps:List Str} {sp:Sp} (lk:K.lookup f = some ⟨oc,od,.func (PySem.W.fnOf name qual params body scope dV kV doc pm an cdv ct),osl⟩) (hcd:PySem.W.codeIn K cdv qual = true) (S:FnScope N ps scope)
  (len:∀ vs H Q E,sp vs H Q E→vs.length = ps.length)
  (hbody:∀ (A:Around) (outer:List Env) (s:Shared) (H:Hp) (vs:List V) (Q:VK) (E:XK),Room k (A.deeper (envOfC qual scope s.heap.objs.size f cdv))→sp vs H Q E →
   ∃ t,PSs (cxOf CX P w K mg base N qual scope f cdv A outer s H E) body t∧t { nx:=fun _ H'=>Q .non H',rt:=Q } (start N vs) H) :
  FnOk P w K mg base CX (k + 1) f (PySem.W.fnOf name qual params body scope dV kV doc pm an cdv ct) ps sp:=by
 refine ⟨len,fun A outer s H args us vs Q E hr e0 hb r hsp=>?_⟩
 have hl:=len _ _ _ _ hsp
 have KX:K.In s.heap:=e0.mod.kin.keeps fun b o e=>(e0.bs b o e).1
 have lim:s.heap.NoLimit:=e0.mod.nolimit.keeps fun b o e=>(e0.bs b o e).1
 have hkind:∀ y∈ps.zip us,scope.names.lookup y.1 = some .local∨(scope.names.lookup y.1 = some .cell∧((cellsFrom (s.heap.objs.size + 1) scope.names []).lookup y.1).isSome = true):=fun ⟨n,v⟩ hy=>by
  rcases S.par n (List.of_mem_zip hy).1 with q | q
  ·exact .inl q
  ·exact .inr ⟨q,PySem.W.cellsFrom_some _ _ _ (.inl q)⟩
 refine codeAny_call_function hr.depth (KX _ _ lk) rfl S.co S.gen rfl (PySem.W.codeRec_of KX hcd) (hb _ _ _ _ ?_)
 refine wpAny_newFunctionEnv_cells S.kind hkind fun env he s1 x=>?_
 subst he
 refine ⟨lim.keeps x.toInCall.keep,codeAny_func ?_⟩
 obtain ⟨t,ht,hq⟩:=hbody A outer s H vs Q E (hr.deeper _) hsp
 have I:Inv (cxOf CX P w K mg base N qual scope f cdv A outer s H E) [] (start N vs) H s1:=inv_start S hr.hd e0 hl r x
 refine wpAny_mono (ht [] s1 (start N vs) H _ I hq) (fun fl s' hs=>?_) fun e s' hs=>hs
 have fin:∀ {σ':St} {H':Hp} {v:V} {u:Value},Inv (cxOf CX P w K mg base N qual scope f cdv A outer s H E) [] σ' H' s'→RelV v u→Q v H'→CE outer P w H s Q u s' :=
  fun {σ' H' v u} J rv q=>⟨v,H',J.os,J.bare,J.base,J.hok,rv,q⟩
 cases fl with
 | ret u =>
  obtain ⟨v,σ',H',J,rv,q⟩:=hs
  exact fin J rv q
 | next =>
  obtain ⟨σ',H',J,q⟩:=hs
  exact fin (v:=V.non) (u:=Value.none) J rfl q
 | brk =>
  obtain ⟨_,_,_,q⟩:=hs
  exact False.elim q
 | cont =>
  obtain ⟨_,_,_,q⟩:=hs
  exact False.elim q
end L2
namespace L2
open PySem PySem.Spec PyProof.Rows
section
variable {X:Cx} {x:Str} {p pos:Pos} {e:Expr} {es:List Expr} {t:TA} {id T:String} {r:List V→Hp→VK→Prop}
def tCB (r:List V→Hp→VK→Prop) (t:TA):TE:=fun σ H Q=>t σ H fun vs H1=>r vs H1 Q
theorem pe_callB (hc:CallR X (.builtin id) r) (hg:Gl X x) (hm:X.mg x = none) (hv:bootBuiltins x = some (.builtin id)) (ha:PA X (e :: es) t) (hn:x≠ "__name__" := by decide) (hdb:(x == ("__debug__" : Str)) = false:=by decide)
  (he:starEach (e :: es) X.env = (false,eval e X.env) :: starEach es X.env:=by rfl) (hpl:(backTo pos (starEach es X.env)).any (·.1) = false:=by rfl):PE X (.Call (.Name x p) (e :: es) [] pos) (tCB r t):=by
 intro pins s σ H Q I h
 refine wpAny_Call_Name_kw (ld_blt I hg hm hv ?_ hn hdb)
 exact PyProof.Rows.callWith_builtin1 (thn (ha pos pins s σ H _ I h) fun us s1 ⟨vs,H1,I1,r1,q1⟩=>hc pins s1 σ H1 vs us Q I1 r1 q1) he hpl
theorem pe_callTy (hc:CallR X (.type T) r) (hg:Gl X x) (hm:X.mg x = none) (hv:bootBuiltins x = some (.type T)) (ha:PA X (e :: es) t) (hn:x≠ "__name__" := by decide) (hdb:(x == ("__debug__" : Str)) = false:=by decide)
  (he:starEach (e :: es) X.env = (false,eval e X.env) :: starEach es X.env:=by rfl) (hpl:(backTo pos (starEach es X.env)).any (·.1) = false:=by rfl):PE X (.Call (.Name x p) (e :: es) [] pos) (tCB r t):=by
 intro pins s σ H Q I h
 refine wpAny_Call_Name_kw (ld_blt I hg hm hv ?_ hn hdb)
 exact PyProof.Rows.callWith_type1 (thn (ha pos pins s σ H _ I h) fun us s1 ⟨vs,H1,I1,r1,q1⟩=>hc pins s1 σ H1 vs us Q I1 r1 q1) he hpl
end
end L2
namespace HT
open PySem PyProof.Rows
section
open PySem.SeqAt
open PySem.AutoSeq1 (wpAny_loadPart')
open PySem.MeetsSeq PySem.MeetsSeq2 PySem.MeetsSeq3
end
section
variable {prog:Program} {w:World} {A:Around} {E:Value→Shared→Prop} {s:Shared}
def sIx (n d:Nat):Option Int→Nat
 | none=>d
 | some v=>if v < 0 then (v + (n:Int)).toNat else min v.toNat n
theorem sIx_none (n d:Nat):sIx n d none = d:=rfl
theorem sIx_nat (n d k:Nat):sIx n d (some (k:Int)) = min k n:=by
 show (if (k:Int) < 0 then ((k:Int) + (n:Int)).toNat else min (k:Int).toNat n) = min k n
 rw [if_neg (by omega),Int.toNat_natCast]
end
end HT
namespace L2
open PySem PySem.Spec PyProof.Rows
abbrev TO:=St→Hp→(Option Int→Hp→Prop)→Prop
def PO (X:Cx) (e:Option Expr) (t:TO):Prop :=
 ∀ (pins:List (Addr× Obj)) (s:Shared) (σ:St) (H:Hp) (Q:Option Int→Hp→Prop),Inv X pins σ H s→t σ H Q →
  wpAny (model X.prog X.w) X.A (evalPart e X.env) (fun u s'=>∃ o H',Inv X pins σ H' s'∧IsPart u o∧Q o H') X.xe s
def tNoPart:TO:=fun _ H Q=>Q none H
def tPart (t:TE):TO:=fun σ H Q=>t σ H fun x H1=>∃ i,x = .int i∧Q (some i) H1
theorem intsAre_of {ns:List Int}:∀ {us:List Value},Vals (ns.map V.int) us→IntsAre us ns:=by
 induction ns with
 | nil=>intro us r; rw [List.map_nil] at r; cases r; exact .nil
 | cons n ns ih =>
  intro us r
  rw [List.map_cons] at r
  cases r with
  | cons r1 r2 =>
   obtain ⟨t,e⟩:=r1
   subst e
   exact .cons n t (ih r2)
section
variable {X:Cx} {e:Expr} {te:TE} {lo hi:Option Expr} {tl th:TO} {pos p2:Pos}
theorem po_none:PO X none tNoPart:=by
 intro pins s σ H Q I h
 rw [evalPart_none]
 exact wpAny_pure ⟨none,H,I,.none,h⟩
theorem po_some (h:PE X e te):PO X (some e) (tPart te):=by
 intro pins s σ H Q I hw
 rw [evalPart_some]
 refine thn (h pins s σ H _ I hw) fun u s1 ⟨x,H1,I1,r1,q1⟩=>?_
 obtain ⟨i,rfl,q⟩:=q1
 obtain ⟨t,rfl⟩:=r1
 exact ⟨some i,H1,I1,.int i t,q⟩
def SlR (X:Cx) (r:V→Option Int→Option Int→Hp→VK→Prop):Prop :=
 ∀ (pins:List (Addr× Obj)) (s:Shared) (σ:St) (H:Hp) (x:V) (v vl vu:Value) (lo hi:Option Int) (sl:Addr) (Q:VK),Inv X pins σ H s→RelV x v→s.heap.IsSliceOf sl vl vu .none→IsPart vl lo→IsPart vu hi→r x lo hi H Q →
  ∃ T id,typeLookup (.type T) "__getitem__" = pure (some (.builtin id))∧s.TypeIs v T∧wpAny (model X.prog X.w) X.A (getItem v (.ref sl)) (EP X pins σ Q) X.xe s
def tSl (r:V→Option Int→Option Int→Hp→VK→Prop) (te:TE) (tl th:TO):TE:=fun σ H Q=>te σ H fun x H1=>tl σ H1 fun l H2=>th σ H2 fun u H3=>r x l u H3 Q
theorem pe_slice {r:V→Option Int→Option Int→Hp→VK→Prop} (hr:SlR X r) (he:PE X e te) (hl:PO X lo tl) (hu:PO X hi th):PE X (.Subscript e (.Slice lo hi none p2) pos) (tSl r te tl th):=by
 intro pins s σ H Q I h
 refine Subscript_ (thn (he pins s σ H _ I h) fun v s1 ⟨x,H1,I1,r1,q1⟩=>?_)
 refine wpAny_Slice (thn (hl pins s1 σ H1 _ I1 q1) fun vl s2 ⟨l,H2,I2,pl,q2⟩=>thn (hu pins s2 σ H2 _ I2 q2) fun vu s3 ⟨u,H3,I3,pu,q3⟩=>?_)
 rw [evalPart_none]
 refine wpAny_pure ?_
 have I4:Inv X pins σ H3 { s3 with heap:=s3.heap.push { cls:=.type "slice", data:=.fields #[vl,vu,.none] } }:=I3.kept (t':=s3.toks) fun b ob q=>Heap.get?_push_of_some _ q
 obtain ⟨T,id,hT,ht,hg⟩:=hr pins { s3 with heap:=s3.heap.push { cls:=.type "slice", data:=.fields #[vl,vu,.none] } } σ H3 x v vl vu l u s3.heap.objs.size Q I4 r1 (Heap.IsSliceOf.new ..) pl pu q3
 show wpAny (model X.prog X.w) X.A (subscriptTail e (.Slice lo hi none p2) v (.ref s3.heap.objs.size)) (EP X pins σ Q) X.xe { s3 with heap:=s3.heap.push { cls:=.type "slice", data:=.fields #[vl,vu,.none] } }
 exact tail_any (ops:=[.ref s3.heap.objs.size,v]) ht hT hg (by with_unfolding_all rfl)
def cutV (xs:List V) (lo hi:Option Int):List V:=(xs.drop (HT.sIx xs.length 0 lo)).take (HT.sIx xs.length xs.length hi - HT.sIx xs.length 0 lo)
theorem cutV_length (xs:List V) (lo hi:Option Int):(cutV xs lo hi).length≤xs.length:=by
 unfold cutV
 rw [List.length_take,List.length_drop]
 omega
end
end L2
namespace L2
open PySem PySem.Spec PyProof.Rows
def ixN (n:Nat) (i:Int):Option Nat:=if 0≤i then (if i < n then some i.toNat else none) else if -(n:Int)≤i then some (i + n).toNat else none
def atI {α:Type} (xs:List α) (i:Int):Option α:=(ixN xs.length i).bind fun j=>xs[j]?
theorem ixN_seq {n:Nat} {i:Int} {j:Nat} (h:ixN n i = some j):seqIndex? i n = some j∧j < n∧-(n:Int)≤i∧i < n:=by
 unfold ixN at h
 by_cases h0:0≤i
 ·rw [if_pos h0] at h
  by_cases h1:i < n
  ·rw [if_pos h1] at h
   have e:i.toNat = j:=Option.some.inj h
   exact ⟨by rw [seqIndex_of h0 h1,e],by omega,by omega,h1⟩
  ·rw [if_neg h1] at h; cases h
 ·rw [if_neg h0] at h
  by_cases h1:-(n:Int)≤i
  ·rw [if_pos h1] at h
   have e:(i + n).toNat = j:=Option.some.inj h
   exact ⟨by rw [seqIndex_neg (by omega) h1,e],by omega,h1,by omega⟩
  ·rw [if_neg h1] at h; cases h
theorem atI_get {α:Type} {xs:List α} {i:Int} {v:α} (h:atI xs i = some v):∃ j,seqIndex? i xs.length = some j∧xs[j]? = some v∧j < xs.length∧-(xs.length:Int)≤i∧i < xs.length:=by
 unfold atI at h
 cases e:ixN xs.length i with
 | none=>rw [e] at h; cases h
 | some j =>
  rw [e] at h
  obtain ⟨h1,h2,h3,h4⟩:=ixN_seq e
  exact ⟨j,h1,h,h2,h3,h4⟩
theorem atI_nat {α:Type} {xs:List α} {j:Nat} {v:α} (h:xs[j]? = some v):atI xs (j:Int) = some v:=by
 have hj:j < xs.length:=(List.getElem?_eq_some_iff.mp h).1
 have e:ixN xs.length (j:Int) = some j:=by
  unfold ixN
  rw [if_pos (by omega),if_pos (by omega)]; simp
 unfold atI; rw [e]; exact h
def PlainIx (b:Expr):Prop:=∀ o i,subscripted b false o i = operate [o,i] (getItem o i)
def IxR (X:Cx) (r:R2):Prop :=
 ∀ (value slice:Expr) (pins:List (Addr× Obj)) (s:Shared) (σ:St) (H:Hp) (x y:V) (v u:Value) (Q:VK),Inv X pins σ H s→RelV x v→RelV y u→r x y H Q →
  subscripted slice false v u = operate [v,u] (getItem v u)→wpAny (model X.prog X.w) X.A (subscriptTail value slice v u) (EP X pins σ Q) X.xe s
def MtR (X:Cx) (id:String) (r:V→List V→Hp→VK→Prop):Prop :=
 ∀ (pins:List (Addr× Obj)) (s:Shared) (σ:St) (H:Hp) (x:V) (xs:List V) (v:Value) (us:List Value) (Q:VK),Inv X pins σ H s→RelV x v→Vals xs us→r x xs H Q →
  wpAny (model X.prog X.w) X.A (call (.builtin id) (v :: us)) (EP X pins σ Q) X.xe s
section
variable {X:Cx} {a b:Expr} {ta tb:TE} {pos:Pos}
theorem pe_ix {r:R2} (hr:IxR X r) (ha:PE X a ta) (hb:PE X b tb) (hs:PlainIx b):PE X (.Subscript a b pos) (tOp r ta tb):=by
 intro pins s σ H Q I h
 exact Subscript_ (binT ha hb I h fun v u s2 x y H2 I2 rx ry q=>hr a b pins s2 σ H2 x y v u Q I2 rx ry q (hs _ _))
def rIxL (K:PySem.W.Frag):R2:=fun x y H Q=>∃ p xs i v,x = .ref p∧y = .int i∧SqL K H p xs∧atI xs i = some v∧Q v H
def rIxT (K:PySem.W.Frag):R2:=fun x y H Q=>∃ p xs i v,x = .ref p∧y = .int i∧SqT K H p xs∧atI xs i = some v∧Q v H
theorem ix_list:IxR X (rIxL X.K):=by
 intro value slice pins s σ H x y v u Q I rx ry h hs
 obtain ⟨p,xs,i,z,rfl,rfl,hq,he,q⟩:=h
 cases rx
 obtain ⟨t,rfl⟩:=ry
 obtain ⟨its,r,pl,hz⟩:=I.list hq
 obtain ⟨j,h1,h2,h3,h4,h5⟩:=atI_get he
 obtain ⟨w,ew,rw'⟩:=r.get h2
 have hl:=r.length
 have hn:=line63
 have fin:EP X pins σ Q w s:=⟨z,H,I,rw',q⟩
 by_cases h0:0≤i
 ·have hj:i.toNat = j:=by
   rw [seqIndex_of h0 h5] at h1
   exact Option.some.inj h1
  exact item_listR pl.isList h0 (by omega) (by rw [hj]; simpa using ew) fin hs
 ·have hj:(i + (its.toArray.size:Int)).toNat = j:=by
   rw [seqIndex_neg (by omega) h4] at h1
   rw [List.size_toArray,← hl]
   exact Option.some.inj h1
  exact subscriptTail_builtinR (x:=w) pl.isList.typeIs slot_list_getitem.lookup
   (wpAny_getItem_list_neg (Q:=fun r s'=>r = w∧EP X pins σ Q r s') pl.isList (by omega) (by rw [List.size_toArray] <;> omega) (by omega) (by rw [hj]; simpa using ew) ⟨rfl,fin⟩) hs
theorem ix_tup:IxR X (rIxT X.K):=by
 intro value slice pins s σ H x y v u Q I rx ry h hs
 obtain ⟨p,xs,i,z,rfl,rfl,hq,he,q⟩:=h
 cases rx
 obtain ⟨t,rfl⟩:=ry
 obtain ⟨its,r,pl,hz⟩:=I.tuple hq
 obtain ⟨j,h1,h2,h3,h4,h5⟩:=atI_get he
 obtain ⟨w,ew,rw'⟩:=r.get h2
 have hl:=r.length
 have hn:=line63
 have fin:EP X pins σ Q w s:=⟨z,H,I,rw',q⟩
 exact subscriptTail_builtinR (x:=w) pl.typeIs slot_tuple_getitem.lookup
  (getItem_tuple (j:=j) (Q:=fun r s'=>r = w∧EP X pins σ Q r s') pl (by omega) (by omega) (by rw [List.size_toArray,← hl]; exact h1) (by simpa using ew) ⟨rfl,fin⟩) hs
theorem mapSeq_set (its:List Value) (n j:Nat) (u:Value):Obj.mapSeq (·.setIfInBounds j u) { cls:=.type "list", data:=.seq its.toArray n } = { cls:=.type "list", data:=.seq (its.set j u).toArray n }:=by
 simp [Obj.mapSeq]
theorem Inv.lst {pins:List (Addr× Obj)} {σ:St} {H:Hp} {s:Shared} {p:Addr} {xs:List V} (I:Inv X pins σ H s) (h:H p = some (.lst xs)) :
  ∃ (its:List Value) (n:Nat),Vals xs its∧s.heap.get? p = some { cls:=.type "list", data:=.seq its.toArray n }∧xs.length≤sizeLine:=by
 obtain ⟨z,its,n,r,e⟩:=I.hok p _ h
 exact ⟨its,n,r,e,z⟩
theorem Inv.lstUpd {pins:List (Addr× Obj)} {σ:St} {H:Hp} {s:Shared} {p:Addr} {xs ys:List V} {its its':List Value} {n n':Nat} {f:Obj→Obj} (I:Inv X pins σ H s) (h:H p = some (.lst xs))
  (ho:s.heap.get? p = some { cls:=.type "list", data:=.seq its.toArray n }) (hf:f { cls:=.type "list", data:=.seq its.toArray n } = { cls:=.type "list", data:=.seq its'.toArray n' }) (r:Vals ys its') (hz:ys.length≤sizeLine) (t:Nat) :
  Inv X pins σ (upd H p (.lst ys)) { s with heap:=s.heap.update p f,toks:=t }:=by
 have e:(s.heap.update p f).get? p = some { cls:=.type "list", data:=.seq its'.toArray n' }:=by
  rw [Heap.get?_update_self f ho (by rw [hf] <;> rfl),hf]
 refine I.write (x:=p) (e:=p) (by rw [h]; trivial) (.inl rfl) (fun b u hb q=>(Heap.get?_update_other _ _ (Ne.symm hb)).trans q) ⟨_,e⟩ ?_
 exact ⟨hz,its',n',r,e⟩
def rSetL:V→V→V→Hp→(Hp→Prop)→Prop:=fun o i v H Q=>∃ p xs k j,o = .ref p∧i = .int k∧H p = some (.lst xs)∧ixN xs.length k = some j∧Q (upd H p (.lst (xs.set j v)))
theorem set_list:PSet X rSetL:=by
 intro pins s σ H o i v ov iv u Q I ro ri rv h
 obtain ⟨p,xs,k,j,rfl,rfl,hp,hj,q⟩:=h
 cases ro
 obtain ⟨t,rfl⟩:=ri
 obtain ⟨its,n,r,ho,hz⟩:=I.lst hp
 obtain ⟨h1,h2,h3,h4⟩:=ixN_seq hj
 have hl:=r.length
 have hn:=line63
 have I':Inv X pins σ (upd H p (.lst (xs.set j v))) { s with heap:=s.heap.update p (Obj.mapSeq (·.setIfInBounds j u)) } :=
  I.lstUpd hp ho (mapSeq_set its n j u) (r.set rv j) (by rw [List.length_set]; exact hz) s.toks
 by_cases h0:0≤k
 ·have hk:k.toNat = j:=by
   rw [seqIndex_of h0 h4] at h1
   exact Option.some.inj h1
  exact PySem.W.ki_setAt ho h0 (by omega) (by rw [List.size_toArray,← hl]; exact h4) (by rw [hk]; exact ⟨_,I',q⟩)
 ·have hk:(k + (its.toArray.size:Int)).toNat = j:=by
   rw [seqIndex_neg (by omega) h3] at h1
   rw [List.size_toArray,← hl]
   exact Option.some.inj h1
  exact PySem.W.ki_setBack ho (by omega) (by rw [List.size_toArray,← hl]; exact h3) (by omega) (by rw [hk]; exact ⟨_,I',q⟩)
theorem slice_bounds (lo hi:Option Int) (n:Nat):(sliceBounds lo hi none n).1 = ((HT.sIx n 0 lo:Nat):Int)∧(sliceBounds lo hi none n).2.1 = ((HT.sIx n n hi:Nat):Int)∧(sliceBounds lo hi none n).2.2 = 1:=by
 refine ⟨?_,?_,rfl⟩
 ·cases lo with
  | none=>simp [sliceBounds,HT.sIx]
  | some i =>
   simp only [sliceBounds,HT.sIx,Option.getD_none,show (1:Int) > 0 by decide,if_true]
   by_cases h:i < 0
   ·simp only [h,if_true] <;> omega
   ·simp only [h,if_false] <;> omega
 ·cases hi with
  | none=>simp [sliceBounds,HT.sIx]
  | some i =>
   simp only [sliceBounds,HT.sIx,Option.getD_none,show (1:Int) > 0 by decide,if_true]
   by_cases h:i < 0
   ·simp only [h,if_true] <;> omega
   ·simp only [h,if_false] <;> omega
theorem slicePick_cut (its:List Value) (lo hi:Option Int):slicePick its.toArray lo hi none = ((its.drop (HT.sIx its.length 0 lo)).take (HT.sIx its.length its.length hi - HT.sIx its.length 0 lo)).toArray:=by
 obtain ⟨h1,h2,h3⟩:=slice_bounds lo hi its.toArray.size
 unfold slicePick
 rw [h1,h2,h3]
 simp only [sliceRange_one,pick_run,List.size_toArray] <;> rfl
def rSlL (K:PySem.W.Frag):V→Option Int→Option Int→Hp→VK→Prop:=fun x lo hi H Q=>∃ a xs,x = .ref a∧SqL K H a xs∧∀ p,H p = none→Q (.ref p) (upd H p (.lst (cutV xs lo hi)))
theorem sl_list:SlR X (rSlL X.K):=by
 intro pins s σ H x v vl vu lo hi sl Q I rx hs pl pu h
 obtain ⟨a,xs,rfl,hx,q⟩:=h
 cases rx
 obtain ⟨its,r,ht,hz⟩:=I.list hx
 have hlen:=r.length
 refine ⟨"list", _,slot_list_getitem.lookup,ht.isList.typeIs,?_⟩
 refine wpAny_getItem_list_slice ht.isList hs pl pu .none (by simp) ?_ (by rw [List.size_toArray] <;> omega)
 rw [slicePick_cut,← hlen]
 refine ⟨.ref s.heap.objs.size,_,I.laid (t':=s.toks) (o:=.lst (cutV xs lo hi)) (fun b ob q=>Heap.get?_push_of_some _ q) (Nat.le_refl _) ?_,rfl,q _ (I.hok.fresh (Nat.le_refl _))⟩
 exact ⟨Nat.le_trans (cutV_length xs lo hi) hz,_,0,(r.drop (HT.sIx xs.length 0 lo)).take (HT.sIx xs.length xs.length hi - HT.sIx xs.length 0 lo),Heap.get?_push_size _ rfl⟩
def flatV:V→Bool
 | .non=>true
 | .bl _=>true
 | .int _=>true
 | .str _=>true
 | _=>false
def eqV:V→V→Bool
 | .non,.non=>true
 | .bl a,.bl b=>a == b
 | .bl a,.int b=>(if a then 1 else 0) == b
 | .int a,.bl b=>a == (if b then 1 else 0)
 | .int a,.int b=>a == b
 | .str a,.str b=>a == b
 | _,_=>false
theorem eqAt_V {A:Around} {s:Shared} {y x:V} {u v:Value} (ry:RelV y u) (rx:RelV x v) (fy:flatV y = true) (fx:flatV x = true):SeqAt.EqAt A s u v (eqV y x):=by
 cases y with
 | non =>
  cases ry
  cases x with
  | non=>cases rx; exact SeqAt.EqAt.same _
  | bl b=>cases rx; exact SeqAt.EqAt.none_bool b
  | int b=>obtain ⟨t,rfl⟩:=rx; exact SeqAt.EqAt.none_int b t
  | str b=>obtain ⟨t,rfl⟩:=rx; exact SeqAt.EqAt.none_str b t
  | _=>exact absurd (show false = true from fx) Bool.false_ne_true
 | bl a =>
  cases ry
  cases x with
  | non=>cases rx; exact SeqAt.EqAt.bool_none a
  | bl b=>cases rx; exact SeqAt.EqAt.bool_bool a b
  | int b=>obtain ⟨t,rfl⟩:=rx; exact SeqAt.EqAt.bool_int a b t
  | str b=>obtain ⟨t,rfl⟩:=rx; exact SeqAt.EqAt.bool_str a b t
  | _=>exact absurd (show false = true from fx) Bool.false_ne_true
 | int a =>
  obtain ⟨t',rfl⟩:=ry
  cases x with
  | non=>cases rx; exact SeqAt.EqAt.int_none a t'
  | bl b=>cases rx; exact SeqAt.EqAt.int_bool a t' b
  | int b=>obtain ⟨t,rfl⟩:=rx; exact SeqAt.EqAt.int_int a t' b t
  | str b=>obtain ⟨t,rfl⟩:=rx; exact SeqAt.EqAt.int_str a t' b t
  | _=>exact absurd (show false = true from fx) Bool.false_ne_true
 | str a =>
  obtain ⟨t',rfl⟩:=ry
  cases x with
  | non=>cases rx; exact SeqAt.EqAt.str_none a t'
  | bl b=>cases rx; exact SeqAt.EqAt.str_bool a t' b
  | int b=>obtain ⟨t,rfl⟩:=rx; exact SeqAt.EqAt.str_int a t' b t
  | str b=>obtain ⟨t,rfl⟩:=rx; exact SeqAt.EqAt.str_str a t' b t
  | _=>exact absurd (show false = true from fx) Bool.false_ne_true
 | _=>exact absurd (show false = true from fy) Bool.false_ne_true
def eqU (x:V) (u:Value):Bool:=match u with
 | .none=>eqV .non x
 | .bool b=>eqV (.bl b) x
 | .int i _=>eqV (.int i) x
 | .str z _=>eqV (.str z) x
 | _=>false
theorem eqU_of {x y:V} {u:Value} (r:RelV y u) (f:flatV y = true):eqU x u = eqV y x:=by
 cases y with
 | non=>cases r; rfl
 | bl b=>cases r; rfl
 | int i=>obtain ⟨t,rfl⟩:=r; rfl
 | str z=>obtain ⟨t,rfl⟩:=r; rfl
 | _=>exact absurd (show false = true from f) Bool.false_ne_true
theorem any_eqU {x:V}:∀ {xs:List V} {us:List Value},Vals xs us→xs.all flatV = true→us.any (eqU x) = xs.any fun y=>eqV y x
 | _,_,.nil,_=>rfl
 | y :: xs,u :: us,.cons r t,f=>by
  rw [List.all_cons,Bool.and_eq_true] at f
  rw [List.any_cons,List.any_cons,eqU_of r f.1,any_eqU t f.2]
theorem mem_eqAt {A:Around} {s:Shared} {x:V} {v:Value} (rx:RelV x v) (fx:flatV x = true):∀ {xs:List V} {us:List Value},Vals xs us→xs.all flatV = true→∀ u∈us,SeqAt.EqAt A s u v (eqU x u)
 | _,_,.nil,_=>fun u hu=>by cases hu
 | y :: xs,u :: us,.cons r t,f=>fun u' hu=>by
  rw [List.all_cons,Bool.and_eq_true] at f
  rcases List.mem_cons.mp hu with rfl | hu
  ·rw [eqU_of r f.1]; exact eqAt_V r rx f.1 fx
  ·exact mem_eqAt rx fx t f.2 u' hu
def inV (x:V) (xs:List V):Bool:=xs.any fun y=>eqV y x
def rIn (K:PySem.W.Frag) (neg:Bool):R2:=fun x y H Q=>∃ p xs,y = .ref p∧(SqL K H p xs∨SqT K H p xs)∧flatV x = true∧xs.all flatV = true∧Q (.bl (if neg then !inV x xs else inV x xs)) H
theorem op_in_seq:OpR X (compareOp .In) (rIn X.K false):=by
 intro pins s σ H x y v u Q I rx ry h
 obtain ⟨p,xs,rfl,hq,fx,fs,q⟩:=h
 cases ry
 rcases hq with hq | hq
 ·obtain ⟨its,r,pl,hz⟩:=I.list hq
  refine SeqAt.in_listAt (eqU x) pl.isList (fun w hw=>mem_eqAt rx fx r fs w (by simpa using hw)) ⟨.bl _,H,I,rfl,?_⟩
  rw [show its.toArray.any (eqU x) = its.any (eqU x) by simp,any_eqU r fs]
  exact q
 ·obtain ⟨its,r,pl,hz⟩:=I.tuple hq
  refine SeqAt.in_tupleAt (eqU x) pl (fun w hw=>mem_eqAt rx fx r fs w (by simpa using hw)) ⟨.bl _,H,I,rfl,?_⟩
  rw [show its.toArray.any (eqU x) = its.any (eqU x) by simp,any_eqU r fs]
  exact q
theorem op_notIn_seq:OpR X (compareOp .NotIn) (rIn X.K true):=by
 intro pins s σ H x y v u Q I rx ry h
 obtain ⟨p,xs,rfl,hq,fx,fs,q⟩:=h
 cases ry
 rcases hq with hq | hq
 ·obtain ⟨its,r,pl,hz⟩:=I.list hq
  refine SeqAt.notIn_listAt (eqU x) pl.isList (fun w hw=>mem_eqAt rx fx r fs w (by simpa using hw)) ⟨.bl _,H,I,rfl,?_⟩
  rw [show its.toArray.any (eqU x) = its.any (eqU x) by simp,any_eqU r fs]
  exact q
 ·obtain ⟨its,r,pl,hz⟩:=I.tuple hq
  refine SeqAt.notIn_tupleAt (eqU x) pl (fun w hw=>mem_eqAt rx fx r fs w (by simpa using hw)) ⟨.bl _,H,I,rfl,?_⟩
  rw [show its.toArray.any (eqU x) = its.any (eqU x) by simp,any_eqU r fs]
  exact q
theorem call_len_seq:CallR X (.builtin "len") (fun xs H Q=>∃ p ys,xs = [.ref p]∧(SqL X.K H p ys∨SqT X.K H p ys)∧Q (.int ys.length) H):=by
 intro pins s σ H xs us Q I r h
 obtain ⟨p,ys,rfl,hq,q⟩:=h
 obtain ⟨u,rfl,rx⟩:=vals1 r
 cases rx
 have hn:=line63
 rcases hq with hq | hq
 ·obtain ⟨its,r',pl,hz⟩:=I.list hq
  have hlen:=r'.length
  exact Calls.call_len_list pl.isList (by simp only [List.size_toArray] <;> omega) ⟨.int ys.length,H,I.tok _,⟨s.toks + 1,by rw [List.size_toArray,hlen]⟩,q⟩
 ·obtain ⟨its,r',pl,hz⟩:=I.tuple hq
  have hlen:=r'.length
  exact len_tuple pl (by simp only [List.size_toArray] <;> omega) ⟨.int ys.length,H,I.tok _,⟨s.toks + 1,by rw [List.size_toArray,hlen]⟩,q⟩
theorem call_list_of:CallR X (.type "list") (fun xs H Q=>∃ p ys,xs = [.ref p]∧(SqL X.K H p ys∨SqT X.K H p ys)∧∀ l,H l = none→Q (.ref l) (upd H l (.lst ys))):=by
 intro pins s σ H xs us Q I r h
 obtain ⟨p,ys,rfl,hq,q⟩:=h
 obtain ⟨u,rfl,rx⟩:=vals1 r
 cases rx
 have fin:∀ (its:List Value),Vals ys its→ys.length≤sizeLine→∀ (h':Heap) (c':Nat),(∀ b o',s.heap.get? b = some o'→h'.get? b = some o') →
   h'.get? s.heap.objs.size = some { cls:=.type "list", dict:=none,data:=.seq its.toArray c',slots:=#[] }→EP X pins σ Q (.ref s.heap.objs.size) { s with heap:=h' }:=fun its r' hz h' c' kp e =>
  ⟨.ref s.heap.objs.size,_,I.laid (t':=s.toks) kp (Nat.le_refl _) (show ObjOk X.prog X.w _ h' _ (.lst ys) from ⟨hz,its,c',r',e⟩),rfl,q _ (I.hok.fresh (Nat.le_refl _))⟩
 rcases hq with hq | hq
 ·obtain ⟨its,r',pl,hz⟩:=I.list hq
  have hlen:=r'.length
  obtain ⟨o,ho,hc,n,hd⟩:=pl.isList
  exact call_list_seq p (.inl rfl) ho hc hd (fun h' c' kp e=>fin its r' hz h' c' kp e) (by simp only [List.size_toArray] <;> omega)
 ·obtain ⟨its,r',pl,hz⟩:=I.tuple hq
  have hlen:=r'.length
  obtain ⟨o,ho,hc,n,hd⟩:=pl
  exact call_list_seq p (.inr rfl) ho hc hd (fun h' c' kp e=>fin its r' hz h' c' kp e) (by simp only [List.size_toArray] <;> omega)
theorem call_tuple_of:CallR X (.type "tuple") (fun xs H Q=>∃ p ys,xs = [.ref p]∧((SqL X.K H p ys∧∀ l,H l = none→Q (.ref l) (upd H l (.tup ys)))∨(SqT X.K H p ys∧Q (.ref p) H))):=by
 intro pins s σ H xs us Q I r h
 obtain ⟨p,ys,rfl,h⟩:=h
 obtain ⟨u,rfl,rx⟩:=vals1 r
 cases rx
 rcases h with ⟨hq,q⟩ | ⟨hq,q⟩
 ·obtain ⟨its,r',pl,hz⟩:=I.list hq
  have hlen:=r'.length
  refine call_tuple_list pl.isList (fun h' kp=>?_) (by simp only [List.size_toArray] <;> omega)
  have I1:Inv X pins σ H { s with heap:=h' }:=I.kept (t':=s.toks) kp
  have I2:Inv X pins σ (upd H h'.objs.size (.tup ys)) { s with heap:=h'.push { cls:=.type "tuple", data:=.seq its.toArray } } :=
   I1.laid (t':=s.toks) (fun b o e=>Heap.get?_push_of_some _ e) (Nat.le_refl _) (show ObjOk X.prog X.w _ _ _ (.tup ys) from ⟨hz,its,r',IsTup.new _ _⟩)
  exact ⟨.ref h'.objs.size,_,I2,rfl,q _ (I1.hok.fresh (Nat.le_refl _))⟩
 ·obtain ⟨its,r',pl,hz⟩:=I.tuple hq
  exact call_tuple_same pl ⟨.ref p,H,I,rfl,q⟩
def tyV (K:PySem.W.Frag) (T:String) (x:V) (H:Hp):Prop:=match x with
 | .str _=>T = "str"
 | .int _=>T = "int"
 | .ref p=>(T = "list" ∧ ∃ xs,SqL K H p xs)∨(T = "tuple" ∧ ∃ o,K.lookup p = some o∧o.cls = .type "tuple" ∧ o.dict = none) ∨
   (T = "dict" ∧ ((∃ kvs,H p = some (.dK kvs))∨∃ kvs,H p = some (.dT kvs)))∨(T = "set" ∧ ∃ S n,H p = some (.set S n))
 | _=>False
theorem tyV_is {pins:List (Addr× Obj)} {σ:St} {H:Hp} {s:Shared} {T:String} {x:V} {v:Value} (I:Inv X pins σ H s) (r:RelV x v) (ty:tyV X.K T x H) :
  s.TypeIs v T∧∀ a,v = .ref a→∃ ob,s.heap.get? a = some ob∧ob.dict = none:=by
 cases x with
 | str z =>
  obtain ⟨t,rfl⟩:=r
  cases (show T = "str" from ty)
  exact ⟨typeIs_str s z t,fun _ e=>nomatch e⟩
 | int i =>
  obtain ⟨t,rfl⟩:=r
  cases (show T = "int" from ty)
  exact ⟨typeIs_int s i t,fun _ e=>nomatch e⟩
 | ref p =>
  cases r
  rcases ty with ⟨rfl,xs,hq⟩ | ⟨rfl,o,hk,hc,hd⟩ | ⟨rfl,hk⟩ | ⟨rfl,S,n,hk⟩
  ·obtain ⟨its,_,pl,_⟩:=I.list hq
   refine ⟨pl.isList.typeIs,fun a e=>?_⟩
   cases e
   obtain ⟨o,n,e,c,hd,_⟩:=pl
   exact ⟨o,e,hd⟩
  ·refine ⟨⟨o,I.kIn p o hk,hc⟩,fun a e=>?_⟩
   cases e
   exact ⟨o,I.kIn _ o hk,hd⟩
  ·have z:∃ o,s.heap.get? p = some o∧o.ExactDict:=by
    rcases hk with ⟨kvs,hk⟩ | ⟨kvs,hk⟩
    ·obtain ⟨_,_,_,_,o,_,_,e,ex,_⟩:=I.hok p _ hk
     exact ⟨o,e,ex⟩
    ·obtain ⟨_,_,_,_,o,_,_,e,ex,_⟩:=I.hok p _ hk
     exact ⟨o,e,ex⟩
   obtain ⟨o,e,ex⟩:=z
   refine ⟨⟨o,e,ex.1⟩,fun a e2=>?_⟩
   cases e2
   exact ⟨o,e,ex.2.1⟩
  ·obtain ⟨o,_,_,_,e,ex,_⟩:=I.hok p _ hk
   refine ⟨⟨o,e,ex.1⟩,fun a e2=>?_⟩
   cases e2
   exact ⟨o,e,ex.2.1⟩
 | _=>exact False.elim ty
def tBM (K:PySem.W.Frag) (T:String) (r:V→List V→Hp→VK→Prop) (to:TE) (t:TA):TE:=fun σ H Q=>to σ H fun x H1=>tyV K T x H1∧t σ H1 fun xs H2=>r x xs H2 Q
variable {o e:Expr} {es:List Expr} {to:TE} {t:TA} {name:Str} {apos cpos:Pos} {T id:String} {r:V→List V→Hp→VK→Prop}
theorem pe_bm (pa:PlainAttrs T) (slot:Slot T name id) (hty:typeOf (.builtin id) = pure (.type "method_descriptor")) (hm:MtR X id r) (ho:PE X o to) (ha:PA X (e :: es) t)
  (hbase:attributeBase o name X.env (eval o X.env) = eval o X.env:=by rfl)
  (hfew:((backTo cpos (starEach (e :: es) X.env)).all (fun x=>!x.1) && (backToKw cpos (keywordEach [] X.env)).all (fun x=>x.1.isSome)
   && decide ((e :: es).length + ([]:List Keyword).length + (if ([]:List Keyword).isEmpty then 0 else 1) < 30)) = true:=by rfl)
  (hline:(apos.endLine == cpos.line) = true:=by rfl) (hs:starEach (e :: es) X.env = (false,eval e X.env) :: starEach es X.env:=by rfl) (hplain:(backTo cpos (starEach es X.env)).any (·.1) = false:=by rfl) :
  PE X (.Call (.Attribute o name apos) (e :: es) [] cpos) (tBM X.K T r to t):=by
 intro pins s σ H Q I h
 refine wpAny_Call_method_late hbase hfew hline rfl (thn (ho pins s σ H _ I h) fun v s1 ⟨x,H1,I1,r1,ty,q1⟩=>?_)
 obtain ⟨h1,h2⟩:=tyV_is I1 r1 ty
 refine ⟨T,id,pa,slot,hty,h1,h2,?_⟩
 have hA:=ha cpos pins s1 σ H1 _ I1 q1
 rw [hs] at hA ⊢
 refine Calls.callWith_builtin (by show (false || (backTo cpos (starEach es X.env)).any (·.1)) = false; rw [hplain] <;> rfl) (Calls.evalArgs_plain ?_)
 exact thn hA fun us s2 ⟨vs,H2,I2,r2,q2⟩=>hm pins s2 σ H2 x vs v us Q I2 r1 r2 q2
end
end L2
namespace L2
open PySem PySem.Spec PyProof.Rows
def MtM (X:Cx) (id:String) (r:V→List V→Hp→VK→Prop):Prop :=
 ∀ (pins:List (Addr× Obj)) (s:Shared) (σ:St) (H:Hp) (x:V) (xs:List V) (v:Value) (us:List Value) (Q:VK),Inv X pins σ H s→RelV x v→Vals xs us→r x xs H Q →
  wpAny (model X.prog X.w) X.A (call (.builtin id) (v :: us)) (EP X pins σ Q) X.xe s
theorem Vals.one:∀ {x:V} {us:List Value},Vals [x] us→∃ u,us = [u]∧RelV x u
 | _,_,.cons r .nil=>⟨_,rfl,r⟩
theorem Vals.two:∀ {x y:V} {us:List Value},Vals [x,y] us→∃ u v,us = [u,v]∧RelV x u∧RelV y v
 | _,_,_,.cons r (.cons q .nil)=>⟨_,_,rfl,r,q⟩
section
variable {X:Cx} {pins:List (Addr× Obj)} {σ:St} {H:Hp} {s:Shared} {l b:Addr} {xs ys zs:List V}
theorem Inv.lset {its its':List Value} {n:Nat} {f:Array Value→Array Value} {t':Nat} (I:Inv X pins σ H s) (hH:H l = some (.lst xs))
  (e:s.heap.get? l = some { cls:=.type "list", data:=.seq its.toArray n }) (hf:f its.toArray = its'.toArray) (hv:Vals ys its') (hz:ys.length≤sizeLine) :
  Inv X pins σ (upd H l (.lst ys)) { s with heap:=s.heap.update l (Obj.mapSeq f),toks:=t' }:=by
 have q:=PySem.IsL.update e f
 rw [hf] at q
 refine I.write (x:=l) (e:=l) (by rw [hH]; exact trivial) (.inl rfl) (fun b' u hb hu=>(Heap.get?_update_other s.heap (Obj.mapSeq f) (Ne.symm hb)).trans hu) ⟨_,q⟩ ?_
 exact ⟨hz,its',_,hv,q⟩
theorem Inv.lnew {its:List Value} {t':Nat} (I:Inv X pins σ H s) (hv:Vals ys its) (hz:ys.length≤sizeLine) :
  Inv X pins σ (upd H s.heap.objs.size (.lst ys)) { s with heap:=s.heap.push { cls:=.type "list", data:=.seq its.toArray },toks:=t' } :=
 I.laid (fun _ _ q=>Heap.get?_push_of_some _ q) (Nat.le_refl _) ⟨hz,its,0,hv,Heap.get?_push_size _ rfl⟩
theorem Inv.fresh (I:Inv X pins σ H s):H s.heap.objs.size = none:=I.hok.fresh (Nat.le_refl _)
theorem Inv.lstM (I:Inv X pins σ H s) (hH:H l = some (.lst xs)):xs.length≤sizeLine∧∃ (its:List Value) (n:Nat),Vals xs its∧xs.length = its.length∧s.heap.get? l = some { cls:=.type "list", data:=.seq its.toArray n }:=by
 obtain ⟨z,its,n,r,e⟩:=I.hok l _ hH
 exact ⟨z,its,n,r,r.length,e⟩
end
section
variable {X:Cx}
def rAppend:V→List V→Hp→VK→Prop:=fun x vs H Q=>∃ l xs y,x = .ref l∧vs = [y]∧H l = some (.lst xs)∧xs.length < sizeLine∧Q .non (upd H l (.lst (xs ++ [y])))
theorem mt_append:MtM X "list.append" rAppend:=by
 intro pins s σ H x vs v us Q I rx rv h
 obtain ⟨l,xs,y,rfl,rfl,hH,hz,q⟩:=h
 cases rx
 obtain ⟨u,rfl,ru⟩:=rv.one
 obtain ⟨z,its,n,r,hl,e⟩:=I.lstM hH
 refine call_meets F.slot_list_append ⟨_,e,rfl⟩ F.entry_list_append (F.args_list_append_2 _ _) (PySem.list_append l its.toArray n u (by rw [List.size_toArray]; omega)) ⟨e,?_⟩
 refine ⟨.non,_,I.lset (its':=its ++ [u]) hH e (by simp) (r.append (.cons ru .nil)) ?_,rfl,q⟩
 rw [List.length_append,List.length_singleton]
 omega
def rCat:R2:=fun x y H Q=>∃ l b xs zs,x = .ref l∧y = .ref b∧H l = some (.lst xs)∧H b = some (.lst zs)∧xs.length + zs.length≤sizeLine∧∀ p,H p = none→Q (.ref p) (upd H p (.lst (xs ++ zs)))
theorem op_cat:OpR X (binaryOp .Add) rCat:=by
 intro pins s σ H x y v u Q I rx ry h
 obtain ⟨l,b,xs,zs,rfl,rfl,hH,hB,hz,q⟩:=h
 cases rx
 cases ry
 obtain ⟨z,its,n,r,hl,e⟩:=I.lstM hH
 obtain ⟨z2,its2,n2,r2,hl2,e2⟩:=I.lstM hB
 refine PySem.P.add_list e e2 ?_ (by rw [List.size_toArray,List.size_toArray]; omega)
 have ea:its.toArray ++ its2.toArray = (its ++ its2).toArray:=by simp
 rw [ea]
 exact ⟨.ref _,_,I.lnew (t':=s.toks) (r.append r2) (by rw [List.length_append]; omega),rfl,q _ I.fresh⟩
end
section
variable {prog:Program} {w:World} {A:Around} {E:Value→Shared→Prop} {s:Shared}
end
section
variable {X:Cx}
end
end L2
namespace Att
open PySem PySem.W PySem.Calls PyProof.Rows
theorem ints_of_wellAll {P:Params} {h:Heap}:∀ (ns:List Int) (vs:List Value),WellAll P h vs (ns.map WData.int)→IntsAre vs ns:=by
 intro ns
 induction ns with
 | nil =>
  intro vs w
  rw [List.map_nil] at w
  cases w
  exact .nil
 | cons n ns ih =>
  intro vs w
  rw [List.map_cons] at w
  cases w with
  | cons a b =>
   cases a
   exact .cons _ _ (ih _ b)
theorem script_of {l:OpenLaw} {n:Nat} (hn:l.most = some n) {P:Params} {h:Heap} {args:List WData} {vals:List Value}
  (hpre:l.row.toRowW.claim.pre args = true) (hwl:WellAll P h vals args) :
  ∃ a vs ns,vals = [Value.ref a]∧args = [WData.list (ns.map WData.int)]∧h.get? a = some { cls:=.type "list", data:=.seq vs.toArray }∧IntsAre vs ns∧ns.length≤n:=by
 have hsh:WShape.hasAll [] args [.list .int] = true:=(pre_splitW hpre).1
 have hc:l.pre.holds [] { args:=args } = true:=(pre_splitW hpre).2
 obtain ⟨d,r,rfl,h1,h2⟩:=hasAllW_cons hsh
 obtain rfl:=hasAllW_nil h2
 obtain ⟨xs,rfl,h3⟩:=hasW_list h1
 obtain ⟨ns,rfl⟩:=items_int h3
 have hlen:ns.length≤n:=by
  unfold OpenLaw.pre at hc
  have h4:(WTm.not (.lt (.lit (.int (n:Int))) (.len (.arg 0)))).holds [] { args:=[.list (ns.map .int)] } = true:=by
   have h4:=(holds_andW hc).1
   rw [hn] at h4
   exact h4
  have h5:=condW_of h4 (w_not (w_lt w_lit (w_len_list (w_arg rfl))))
  rw [List.length_map] at h5
  refine Nat.le_of_not_lt fun q=>?_
  have q':(n:Int) < ((ns.length:Nat):Int):=by omega
  first
   | (rw [decide_eq_true q'] at h5; exact absurd h5 (by decide))
   | (simp at h5; omega)
 cases hwl with
 | cons w1 w2 =>
  cases w2
  cases w1 with
  | list ho hall=>exact ⟨_,_,ns,rfl,rfl,ho,ints_of_wellAll ns _ hall,hlen⟩
theorem post_true (l:OpenLaw) (args:List WData):l.row.toRowW.claim.post args (.bool true) args = true :=
 postW_of (r:=l.row.toRowW) (X:=(true == true))
  (show WShape.has [] (.bool true) .bool = true by first | rfl | decide | simp [WShape.has,WShape.arms,WShape.armsAll])
  (show (WTm.eq .res (.lit (.bool true))).value [] { args:=args,res:=some (.bool true),after:=args } = some (.bool (true == true)) from w_eq_bool (w_res rfl) w_lit) rfl
theorem attach_call {l:OpenLaw} {n:Nat} {q:Program} {loose:List Str} {XP:(Str→Option Value)→Heap→Prop} {YP:World→Heap→Prop} {d:DefRec}
  (hn:l.most = some n) (hdf:d.params.defaults = [])
  (call:∀ (w:World) (s₀ s₁:Shared) (mg mb:Str→Option Value) (fa:Addr) (o:Obj) (pm cd doc:Value) (a:Addr) (vs:List Value) (ns:List Int),
   Ground q loose [] XP w s₀ mg mb s₁.heap→YP w s₁.heap →
   s₁.heap.get? fa = some o→o.data = .func (docDef d.name d.params d.body d.scope pm cd doc)→s₁.heap.CodeRec cd d.name→mg d.name = some (.ref fa) →
   s₁.heap.get? a = some { cls:=.type "list", data:=.seq vs.toArray }→IntsAre vs ns→ns.length≤n→s₁.gens = #[] →
   codeAny (model l.prog w) callerA (.call (.ref fa) ⟨[.ref a],[]⟩) (fun r s'=>r = .ok (.ret (.bool true))∧OldK s₁.heap s'.heap∧s'.os = s₁.os∧AllBare s'.gens) s₁) :
  WalkO q loose XP YP l.row.toRowW d [] (fun f vs=>PySem.call f vs):=by
 intro w s₀ s₁ mg mb G Y fa o pm cd doc dV kV ho hd hcd hD hmg hg args vals as hpre hlay hrd hwl hlo
 obtain rfl:dV = .none:=Dflts.none hD hdf
 obtain rfl:kV = .none:=Dflts.noKw hD
 obtain ⟨a,vs,ns,rfl,rfl,hobj,hints,hlen⟩:=script_of hn hpre hwl
 refine enter_call (codeAny_mono (call w s₀ s₁ mg mb fa o pm cd doc a vs ns G Y ho (fd_plain hd) hcd hmg hobj hints hlen hg) fun r s' hq=>?_)
 obtain ⟨rfl,h2,h3,h4⟩:=hq
 exact ⟨.inl ⟨.bool true,.bool true,[],rfl,fun _=>rfl,.bool true,post_true l _,fun _=>⟨List.Pairwise.nil,fun _ hm=>(nomatch hm)⟩⟩,h2,h3,h4⟩
section
variable {prog:Program} {w:World} {A:Around} {E:Value→Shared→Prop} {s:Shared} {K:Frag}
def ledger (h:Heap) (L d:Addr):List (Addr× Obj):=(List.range h.objs.size).filterMap fun a=>if a = L∨a = d then none else (h.get? a).map fun o=>(a,o)
end
end Att
namespace L2
open PySem PySem.Spec PyProof.Rows
theorem vals_ints:∀ {vs:List Value} {ns:List Int},IntsAre vs ns→Vals (ns.map V.int) vs
 | _,_,.nil=>.nil
 | _,_,.cons n t h=>.cons ⟨t,rfl⟩ (vals_ints h)
def Only (H:Hp):Prop:=∀ b,H b = none∨∃ o xs,H b = some (.frz o (.lst xs))
theorem law_call {P:Program} {w:World} {K:PySem.W.Frag} {mg mb:Str→Option Value} {CX:CXT} {k:Nat} {fa a:Addr} {fd:FuncData} {x:Str} {sp:Sp} {s₁:Shared} {vs:List Value} {ns:List Int}
  (KX:K.In s₁.heap) (hns:s₁.heap.Ns mainGlobals mg) (hb:s₁.heap.Ns builtinsNs mb) (hbb:∀ x:Str,x≠ "__name__" → mb x = bootBuiltins x) (hlim:s₁.heap.NoLimit) (hg:s₁.gens = #[])
  (ha:s₁.heap.get? a = some { cls:=.type "list", data:=.seq vs.toArray }) (hi:IntsAre vs ns) (hl:ns.length≤sizeLine) (hr:Room k callerA)
  (F:∀ base:Heap,K.In base→base.Ns mainGlobals mg→FnOk P w K mg base CX k fa fd [x] sp) (hbind:∀ (s:Shared) (u:Value),BindsTo s fd ⟨[u],[]⟩ [(x,u)])
  (hsp:∀ H:Hp,Only H→SqL K H a (ns.map V.int)→sp [.ref a] H (fun v _=>v = .bl true) fun _ _ _=>False)
  (hCX:∀ H e s',CX [] H s₁ (fun _ _ _=>False) e s'→False) :
  codeAny (model P w) callerA (.call (.ref fa) ⟨[.ref a],[]⟩) (fun r s'=>r = .ok (.ret (.bool true))∧OldK s₁.heap s'.heap∧s'.os = s₁.os∧AllBare s'.gens) s₁:=by
 have rv:=vals_ints hi
 have lenV:=hi.length
 have core:∀ H:Hp,Only H→SqL K H a (ns.map V.int)→HOk P w H s₁.heap→(∀ b,H b≠none→b = a)→(H a≠none→K.lookup a = none) →
   codeAny (model P w) callerA (.call (.ref fa) ⟨[.ref a],[]⟩) (fun r s'=>r = .ok (.ret (.bool true))∧OldK s₁.heap s'.heap∧s'.os = s₁.os∧AllBare s'.gens) s₁:=by
  intro H hO hS hok hA hK
  have base_of:∀ {b:Addr} {o:Obj},s₁.heap.get? b = some o→H b = none→(hidT s₁.heap H).get? b = some o:=fun e n=>hidT_get e n
  have noA:∀ {b:Addr} {o:Obj} {es:Array DictEntry} {ep:Nat},s₁.heap.get? b = some o→o.data = .dict es ep→H b = none:=fun {b o es ep} e d=>by
   cases q:H b with
   | none=>rfl
   | some u =>
    have e':b = a:=hA b (by rw [q]; simp)
    subst e'
    rw [ha] at e; cases e
    have d':Data.seq vs.toArray _ = Data.dict es ep:=d
    cases d'
  have nsK:∀ {b:Addr} {m:Str→Option Value},s₁.heap.Ns b m→(hidT s₁.heap H).Ns b m:=fun {b m} ⟨o,es,ep,e,d,r⟩=>⟨o,es,ep,base_of e (noA e d),d,r⟩
  have hKb:K.In (hidT s₁.heap H):=fun b o e=>base_of (KX b o e) (by
   cases q:H b with
   | none=>rfl
   | some u =>
    have e':b = a:=hA b (by rw [q]; simp)
    subst e'
    rw [hK (by rw [q]; simp)] at e; cases e)
  have hM:Mod K mg (hidT s₁.heap H):=⟨hKb,nsK hns,⟨mb,nsK hb,hbb⟩,let ⟨mc,h1,h2⟩:=hlim; ⟨mc,nsK h1,h2⟩⟩
  have e0:Env0 P w K mg (hidT s₁.heap H) callerA [] s₁ H:=⟨rfl,hM,fun b o e=>of_hidT e,Nat.le_of_eq (hidT_size _ _),trivial,fun b hb=>absurd (show b∈([]:List Addr) from hb) (by simp),hok,.of_eq hg⟩
  refine codeAny_mono ((F _ hKb (nsK hns)).run callerA [] s₁ H ⟨[.ref a],[]⟩ [.ref a] [.ref a] _ _ hr e0 (hbind s₁ (.ref a)) (.cons rfl .nil) (hsp H hO hS)) fun r s' h=>?_
  cases r with
  | error e=>exact (hCX H e s' h).elim
  | ok fl =>
   cases fl with
   | next=>exact False.elim h
   | brk=>exact False.elim h
   | cont=>exact False.elim h
   | ret u =>
    obtain ⟨v,H',os,bare,un,hok',r',q⟩:=h
    have q':v = .bl true:=q
    subst q'
    obtain rfl:u = Value.bool true:=r'
    refine ⟨rfl,OldK.of_keep fun b o e=>?_,os,bare⟩
    cases q:H b with
    | none=>exact un.keep b o e q (by intro z; exact absurd (show b∈([]:List Addr) from z) (by simp)) (by simp)
    | some u =>
     rcases hO b with z | ⟨ob,xs,z⟩
     ·rw [q] at z; cases z
     ·have z2:=un.frzs b ob _ z
      obtain ⟨e1,_⟩:=hok b _ z
      obtain ⟨e2,_⟩:=hok' b _ z2
      rw [e] at e1; cases e1
      exact e2
 cases hk:K.lookup a with
 | some o =>
  have e:=KX a o hk
  rw [ha] at e
  cases e
  refine core (fun _=>none) (fun _=>.inl rfl) (.inr ⟨_,vs.toArray,_,hk,rfl,rfl,rfl,by rw [List.size_toArray,lenV]; exact hl,by simpa using rv⟩) (fun b u z=>by have z':(none:Option HO) = some u:=z; cases z') (fun b z=>absurd rfl z) fun z=>absurd rfl z
 | none =>
  refine core (fun b=>if b = a then some (.frz { cls:=.type "list", data:=.seq vs.toArray } (.lst (ns.map V.int))) else none) (fun b=>?_) (.inl (.inr ⟨{ cls:=.type "list", data:=.seq vs.toArray },if_pos rfl⟩)) (fun b u z=>?_) (fun b z=>?_) fun _=>hk
  ·by_cases hb:b = a
   ·exact .inr ⟨_,_,if_pos hb⟩
   ·exact .inl (if_neg hb)
  ·by_cases hb:b = a
   ·have z':=(if_pos hb).symm.trans z
    cases z'
    subst hb
    exact ⟨ha,by rw [List.length_map]; exact hl,vs,_,rv,ha⟩
   ·have z':=(if_neg hb).symm.trans z
    cases z'
  ·by_cases hb:b = a
   ·exact hb
   ·exact absurd (if_neg hb) z
end L2
namespace L2
open PySem PySem.Spec PyProof.Rows
abbrev KOf {K:PySem.W.Frag} {h:Heap} (_:K.In h):PySem.W.Frag:=K
theorem walk_of {l:PySem.W.OpenLaw} {n k:Nat} {q:Program} {loose:List Str} {XP:(Str→Option Value)→Heap→Prop} {YP:World→Heap→Prop} {d:DefRec} {K:Params→PySem.W.Frag} {CX:World→CXT} {sp:World→Sp} {x:Str}
  (hn:l.most = some n) (hn2:n≤sizeLine) (hdf:d.params.defaults = []) (hr:Room k callerA)
  (hY:∀ (w:World) (h:Heap),YP w h→(K w.params).In h)
  (F:∀ (w:World) (mg:Str→Option Value) (fa:Addr) (h:Heap),(K w.params).In h→h.Ns mainGlobals mg→mg d.name = some (.ref fa) →
   ∃ fd:FuncData,(∀ (s:Shared) (u:Value),BindsTo s fd ⟨[u],[]⟩ [(x,u)]) ∧
    ∀ base:Heap,(K w.params).In base→base.Ns mainGlobals mg→FnOk l.prog w (K w.params) mg base (CX w) k fa fd [x] (sp w))
  (hsp:∀ (w:World) (H:Hp) (a:Addr) (ns:List Int),ns.length≤n→Only H→SqL (K w.params) H a (ns.map V.int)→sp w [.ref a] H (fun v _=>v = .bl true) fun _ _ _=>False)
  (hCX:∀ (w:World) (H:Hp) (s:Shared) (e:Value) (s':Shared),CX w [] H s (fun _ _ _=>False) e s'→False) :
  PySem.W.WalkO q loose XP YP l.row.toRowW d [] (fun f vs=>PySem.call f vs):=by
 refine Att.attach_call hn hdf fun w s₀ s₁ mg mb fa o pm cd doc a vs ns G Y ho hd hcd hmg hobj hints hlen hg=>?_
 have KX:=hY w _ Y
 obtain ⟨fd,hb,hF⟩:=F w mg fa _ KX G.T.g hmg
 exact law_call KX G.T.g G.T.b G.T.builtins G.T.nolimit hg hobj hints (Nat.le_trans hlen hn2) hr hF hb (fun H hO hS=>hsp w H a ns hlen hO hS) fun H e s'=>hCX w H s₁ e s'
end L2
namespace L2
open PySem PySem.Spec PyProof.Rows
def inClass (s:Stmt) (j:Nat):Stmt:=match s with
 | .ClassDef _ _ _ body _ _ _ _ _ _ _=>body.getD j (.Pass ⟨0,0,0,0⟩)
 | _=>.Pass ⟨0,0,0,0⟩
def defArgs (s:Stmt):Arguments:=match s with
 | .FunctionDef _ a _ _ _ _ _ _ _ _=>a
 | _=>{ posonlyargs:=[],args:=[],vararg:=none,kwonlyargs:=[],kw_defaults:=[],kwarg:=none,defaults:=[] }
def defBody (s:Stmt):List Stmt:=match s with
 | .FunctionDef _ _ b _ _ _ _ _ _ _=>b
 | _=>[]
def defScope (s:Stmt):Scope:=match s with
 | .FunctionDef _ _ _ _ _ _ sc _ _ _=>sc
 | _=>{ kind:=.function,names:=[],isGenerator:=false,isCoroutine:=false }
abbrev CX0:CXT:=fun _ _ _ _ _ _=>False
abbrev E0:XK:=fun _ _ _=>False
theorem pass0 {X:Cx}:Passes CX0 X E0:=fun _ _ _ _ _ _ _ h=>h.elim
structure Fun (K:PySem.W.Frag) (x qual:Str) (st:Stmt) (f:Addr) (fd:FuncData):Prop where
 ex:∃ (oc:Value) (od:Option Addr) (kV doc pm:Value) (an:Option Addr) (cdv ct:Value) (osl:Array (Option Value)),
  fd = PySem.W.fnOf x qual (defArgs st) (defBody st) (defScope st) .none kV doc pm an cdv ct∧K.lookup f = some ⟨oc,od,.func fd,osl⟩∧PySem.W.codeIn K cdv qual = true
 kp:PySem.W.keepIn K (.ref f) = true
section
variable {P:Program} {w:World} {K:PySem.W.Frag} {mg:Str→Option Value} {base:Heap}
theorem Fun.ok {x qual:Str} {st:Stmt} {f:Addr} {fd:FuncData} {N ps:List Str} {k:Nat} {sp:Sp} (F:Fun K x qual st f fd) (S:FnScope N ps (defScope st)) (len:∀ vs H Q E,sp vs H Q E→vs.length = ps.length)
  (hbody:∀ (cdv:Value) (A:Around) (outer:List Env) (s:Shared) (H:Hp) (vs:List V) (Q:VK) (E:XK),Room k (A.deeper (envOfC qual (defScope st) s.heap.objs.size f cdv))→sp vs H Q E →
   ∃ t,PSs (cxOf CX0 P w K mg base N qual (defScope st) f cdv A outer s H E).nox (defBody st) t∧t { nx:=fun _ H'=>Q .non H',rt:=Q } (start N vs) H):FnOk P w K mg base CX0 (k + 1) f fd ps sp:=by
 obtain ⟨oc,od,kV,doc,pm,an,cdv,ct,osl,rfl,lk,hcd⟩:=F.ex
 refine fn_of lk hcd S len fun A outer s H vs Q E hr hsp=>?_
 obtain ⟨t,h,q⟩:=hbody cdv A outer s H vs Q E hr hsp
 exact ⟨t,h.nox,q⟩
theorem Fun.binds {x qual:Str} {st:Stmt} {f:Addr} {fd:FuncData} {ps:List Str} (F:Fun K x qual st f fd)
  (h:∀ (kV doc pm:Value) (an:Option Addr) (cdv ct:Value) (us:List Value),us.length = ps.length→bindArgs (PySem.W.fnOf x qual (defArgs st) (defBody st) (defScope st) .none kV doc pm an cdv ct) ⟨us,[]⟩ = pure (ps.zip us)):Binds K fd ps []:=by
 obtain ⟨oc,od,kV,doc,pm,an,cdv,ct,osl,rfl,lk,hcd⟩:=F.ex
 exact .all (h kV doc pm an cdv ct)
theorem fun_mk {x qual:Str} {st:Stmt} {f:Addr} {oc:Value} {od an:Option Addr} {osl:Array (Option Value)} {kV doc pm cdv ct:Value} (l:K.lookup f = some ⟨oc,od,.func (PySem.W.fnOf x qual (defArgs st) (defBody st) (defScope st) .none kV doc pm an cdv ct),osl⟩)
  (c:PySem.W.codeIn K cdv qual = true) (k:PySem.W.keepIn K (.ref f) = true):Fun K x qual st f (PySem.W.fnOf x qual (defArgs st) (defBody st) (defScope st) .none kV doc pm an cdv ct):=⟨⟨oc,od,kV,doc,pm,an,cdv,ct,osl,rfl,l,c⟩,k⟩
end
theorem hu_of {A:Around} {k:Nat} (hr:Room k A):A.units + 1 < cLine:=Nat.lt_of_le_of_lt (Nat.add_le_add_left (by decide:1≤64) _) hr.units
theorem small1000 {n:Nat} (h:n≤1000):n < sizeLine:=Nat.lt_of_le_of_lt h (by decide)
section
variable {X:Cx}
theorem pv (i:Nat) {x:Str} {pos:Pos} (hN:X.N[i]? = some x:=by rfl) (hv:Vis X.env.scope x:=by first | exact Or.inl rfl | exact Or.inr (Or.inl rfl) | exact Or.inr (Or.inr rfl)) (hd:(x == ("__debug__" : Str)) = false:=by decide)
  (hcd:(x == ("__classdict__" : Str)) = false:=by decide):PE X (.Name x pos) (tVar i):=pe_var hN hv hd hcd
end
theorem iteF {A B:Prop} (h:B):if false = true then A else B:=by
 rw [if_neg Bool.false_ne_true]
 exact h
theorem iteT {A B:Prop} (h:A):if true = true then A else B:=by
 rw [if_pos rfl]
 exact h
theorem ite2 {c A B:Prop} [Decidable c] (h1:c→A) (h2:¬ c→B):if c then A else B:=by
 by_cases h:c
 ·rw [if_pos h]
  exact h1 h
 ·rw [if_neg h]
  exact h2 h
def Same (H H':Hp):Prop:=∀ b o,H b = some o→H' b = some o
theorem Same.refl (H:Hp):Same H H:=fun _ _ h=>h
theorem Same.trans {H H1 H2:Hp} (a:Same H H1) (b:Same H1 H2):Same H H2:=fun c o h=>b c o (a c o h)
theorem Same.free {H H':Hp} (e:Same H H') {l:Addr} (h:H' l = Option.none):H l = Option.none:=by
 cases q:H l with
 | none=>rfl
 | some o =>
  rw [e l o q] at h
  cases h
theorem Same.seq {K:PySem.W.Frag} {H H':Hp} {a:Addr} {xs:List V} (e:Same H H') (h:SqL K H a xs):SqL K H' a xs:=by
 rcases h with (h | ⟨o,h⟩) | h
 ·exact .inl (.inl (e _ _ h))
 ·exact .inl (.inr ⟨o,e _ _ h⟩)
 ·exact .inr h
end L2
section
set_option Elab.async false
set_option linter.all false
set_option maxRecDepth 100000
set_option maxHeartbeats 4000000
namespace L2
open PySem PySem.Spec PyProof.Rows
theorem compLoopG {prog:Program} {w:World} {A:Around} {R:Result→Shared→Prop} {s:Shared} {elt target iter:Expr} {ifs:List Expr} {scope:Scope} {pos:Pos} {it acc:Value} {env:Env} (I:Nat→Shared→Prop)
  (turn:∀ n s,I n s→wpAny (model prog w) A (pyNext it) (fun r s₁=>match r with
   | none=>R (.ok .next) s₁
   | some v=>wpAny (model prog w) A (letOwnedTupleGo target it v) (fun _ s₀=>wpAny (model prog w) A (assign target env v) (fun _ s₂ =>
     wpAny (model prog w) A (forIn ifs true fun c r=>if r = true then do let ok ← isTrue c env (eval c env); pure (ForInStep.yield ok) else pure (ForInStep.yield r)) (fun ok s₃ =>
      if ok = true then wpAny (model prog w) A (eval elt env) (fun x s₄ =>
       wpAny (model prog w) A (call (.builtin "list.append") [acc,x]) (fun _ s₅=>∃ m,m < n∧I m s₅) (fun _ _=>False) s₄) (fun _ _=>False) s₃
      else ∃ m,m < n∧I m s₃) (fun _ _=>False) s₂) (fun _ _=>False) s₀) (fun _ _=>False) s₁) (fun _ _=>False) s)
  (n:Nat) (h:I n s) :
  codeAny (model prog w) A (.compLoop (.ListComp elt [⟨target,iter,ifs,0⟩] scope pos) 0 it acc env) R s:=by
 refine codeAny_loop rfl I (fun n s hI=>?_) n h
 show wpAny _ A ((compTurn (.ListComp elt [⟨target,iter,ifs,0⟩] scope pos) 0 it acc env).onRaise (fun x=>do noteFrame x env; theTreesLotGoes x)) _ _ s
 refine wpAny_noted ?_
 rw [compTurn_list]
 refine wpAny_bind (wpAny_standAt (wpAny_bind (wpAny_mono (turn n s hI) (fun r s₁ h₁=>?_) fun _ _ h'=>h'.elim)))
 cases r with
 | none=>exact wpAny_pure h₁
 | some v =>
  refine wpAny_bind (wpAny_mono h₁ (fun _ s₀ h₀=>?_) fun _ _ h'=>h'.elim)
  refine wpAny_bind (wpAny_mono h₀ (fun _ s₂ h₂=>wpAny_bind (wpAny_mono h₂ (fun ok s₃ h₃=>?_) fun _ _ h'=>h'.elim)) fun _ _ h'=>h'.elim)
  cases ok with
  | false=>exact wpAny_pure ⟨rfl,h₃⟩
  | true =>
   exact wpAny_bind (wpAny_bind (wpAny_mono h₃ (fun x s₄ h₄=>wpAny_bind (wpAny_mono h₄ (fun _ s₅ h₅=>wpAny_pure (wpAny_pure ⟨rfl,h₅⟩)) fun _ _ h'=>h'.elim)) fun _ _ h'=>h'.elim))
theorem closure_ex {scope:Scope} {env:Env} (hf:∀ y∈scope.names,y.2 = .free→∃ c,env.cells.lookup y.1 = some c) :
  ∃ cl,closureFor scope env = pure cl∧(∀ x c,cl.lookup x = some c→env.cells.lookup x = some c)∧∀ x,(x,NameKind.free)∈scope.names→∃ c,cl.lookup x = some c:=by
 have go:∀ (l:List (Str× NameKind)) (acc:List (Str× Addr)),(∀ y∈l,y.2 = .free→∃ c,env.cells.lookup y.1 = some c)→(∀ x c,acc.lookup x = some c→env.cells.lookup x = some c) →
   ∃ cl:List (Str× Addr),(forIn l acc (fun x (r:List (Str× Addr))=>match x with | (name,kind)=>if (kind == NameKind.free) = true then do let a ← cellOf env name; pure (ForInStep.yield ((name,a) :: r)) else pure (ForInStep.yield r)):Sem (List (Str× Addr))) = pure cl ∧
    (∀ x c,cl.lookup x = some c→env.cells.lookup x = some c)∧(∀ x,(x,NameKind.free)∈l→∃ c,cl.lookup x = some c)∧∀ x c,acc.lookup x = some c→∃ c',cl.lookup x = some c':=by
  intro l
  induction l with
  | nil=>intro acc _ ha; exact ⟨acc,rfl,ha,fun x h=>absurd h (by simp),fun x c h=>⟨c,h⟩⟩
  | cons y r ih =>
   intro acc hl ha
   obtain ⟨name,kind⟩:=y
   by_cases hk:kind = .free
   ·subst hk
    obtain ⟨c,hc⟩:=hl (name,.free) List.mem_cons_self rfl
    have ha':∀ x c',((name,c) :: acc).lookup x = some c'→env.cells.lookup x = some c':=fun x c' h=>by
     rw [List.lookup_cons] at h
     cases e:x == name with
     | true=>rw [e] at h; cases h; rw [eq_of_beq e]; exact hc
     | false=>rw [e] at h; exact ha x c' h
    obtain ⟨cl,e,h1,h2,h3⟩:=ih ((name,c) :: acc) (fun y hy=>hl y (List.mem_cons_of_mem _ hy)) ha'
    refine ⟨cl,?_,h1,fun x hx=>?_,fun x c' h=>?_⟩
    ·rw [List.forIn_cons,← e]
     have ec:cellOf env name = pure c:=by unfold cellOf; rw [hc]
     show (if (NameKind.free == NameKind.free) = true then _ else _) >>= _ = _
     rw [if_pos (by rfl),ec]
     rfl
    ·rcases List.mem_cons.mp hx with z | z
     ·cases z
      exact h3 name c (by rw [List.lookup_cons]; simp)
     ·exact h2 x z
    ·cases e:x == name with
     | true=>exact h3 x c (by rw [List.lookup_cons,e])
     | false=>exact h3 x c' (by rw [List.lookup_cons,e]; exact h)
   ·have hb:(kind == NameKind.free) = false:=by simpa using hk
    obtain ⟨cl,e,h1,h2,h3⟩:=ih acc (fun y hy=>hl y (List.mem_cons_of_mem _ hy)) ha
    refine ⟨cl,?_,h1,fun x hx=>?_,h3⟩
    ·rw [List.forIn_cons,← e]
     show (if (kind == NameKind.free) = true then _ else _) >>= _ = _
     rw [if_neg (by rw [hb]; decide)]
     rfl
    ·rcases List.mem_cons.mp hx with z | z
     ·cases z; exact absurd rfl hk
     ·exact h2 x z
 obtain ⟨cl,e,h1,h2,_⟩:=go scope.names [] hf (fun x c h=>by simp at h)
 refine ⟨cl,?_,h1,h2⟩
 unfold closureFor
 show (forIn scope.names [] _ >>= fun cs=>pure cs) = _
 refine Eq.trans (congrArg (fun t=>t >>= fun cs=>pure cs) e) ?_
 rfl
theorem relabel_lookup {env:Env}:∀ {names:List (Str× NameKind)} {x:Str} {k':NameKind},
  (names.map fun (n,k)=>if (k == NameKind.free && env.scope.kind == .function && env.kindOf n == some .cell) then (n,NameKind.cell) else (n,k)).lookup x = some k' →
  ∃ k,names.lookup x = some k∧(k' = k∨(k = .free∧k' = .cell))
 | [],_,_,h=>by simp at h
 | (n,k) :: r,x,k',h=>by
  have ih:=@relabel_lookup env r x k'
  have h:List.lookup x ((if (k == NameKind.free && env.scope.kind == .function && env.kindOf n == some .cell) = true then (n,NameKind.cell) else (n,k)) :: r.map fun (n,k)=>if (k == NameKind.free && env.scope.kind == .function && env.kindOf n == some .cell) then (n,NameKind.cell) else (n,k)) = some k':=h
  by_cases hc:(k == NameKind.free && env.scope.kind == .function && env.kindOf n == some .cell) = true
  ·rw [if_pos hc,List.lookup_cons] at h
   rw [List.lookup_cons]
   cases e:x == n with
   | true =>
    rw [e] at h
    cases h
    refine ⟨k,rfl,.inr ⟨?_,rfl⟩⟩
    simp only [Bool.and_eq_true,beq_iff_eq] at hc
    exact hc.1.1
   | false=>rw [e] at h; exact ih h
  ·rw [if_neg hc,List.lookup_cons] at h
   rw [List.lookup_cons]
   cases e:x == n with
   | true=>rw [e] at h; cases h; exact ⟨k,rfl,.inl rfl⟩
   | false=>rw [e] at h; exact ih h
def cxComp (X:Cx) (s2:Shared) (H2:Hp) (fp:List Addr) (N:List Str) (scope:Scope) (cl:List (Str× Addr)) (C:Addr):Cx where
 prog:=X.prog
 w:=X.w
 K:=X.K
 mg:=X.mg
 base:=X.base
 A:=X.A
 N:=N
 s₀:=s2
 H₀:=H2
 env:=compEnvC scope cl C X.env
 outer:=X.stack
 stack:=X.stack
 ex:=fp
 fn:=fun _=>false
 calm:=X.calm
 pn:=[]
 xe:=fun _ _=>False
def GKeep (k:Nat) (g:TG):Prop:=∀ x σ H Q,g x σ H Q→g x σ H fun σ2 H2=>(∀ i,k≤i→σ2[i]? = σ[i]?)∧Q σ2 H2
theorem gkeep_name {k i:Nat} (h:i < k):GKeep k (gName i):=fun x σ H Q q=>⟨fun j hj=>by rw [List.getElem?_set_ne (by omega)],q⟩
theorem gkeep_pair {K:PySem.W.Frag} {k i j n:Nat} (hi:i < k) (hj:j < k):GKeep k (gTup K n (gCons (gName i) (gCons (gName j) gNil))):=by
 rintro x σ H Q ⟨a,xs,e1,hq,hl,v,r,e2,v',r',e3,e4,q⟩
 exact ⟨a,xs,e1,hq,hl,v,r,e2,v',r',e3,e4,fun l hl=>by rw [List.getElem?_set_ne (by omega),List.getElem?_set_ne (by omega)],q⟩
def PIfs (X:Cx) (ifs:List Expr) (t:TT):Prop :=
 ∀ (pins:List (Addr× Obj)) (s:Shared) (σ:St) (H:Hp) (Q:Bool→Hp→Prop),Inv X pins σ H s→t σ H Q →
  wpAny (model X.prog X.w) X.A (forIn ifs true fun c r=>if r = true then do let ok ← isTrue c X.env (eval c X.env); pure (ForInStep.yield ok) else pure (ForInStep.yield r)) (TP X pins σ Q) X.xe s
def tAlways:TT:=fun _ H Q=>Q true H
theorem pif_nil {X:Cx}:PIfs X [] tAlways:=fun pins s σ H Q I h=>wpAny_tests_nil ⟨H,I,h⟩
theorem pif_one {X:Cx} {c:Expr} {t:TT} (h:PT X c t):PIfs X [c] t:=fun pins s σ H Q I q=>wpAny_tests_one (h pins s σ H Q I q)
def compSt (k:Nat) (js:List Nat) (σ:St):St:=List.replicate k none ++ js.map fun j=>(σ[j]?).join
def tComp (k:Nat) (js:List Nat) (wi:TI) (g:TG) (tc:TT) (te:TE):TE:=fun σ H Q=>wi σ H fun J H1=>∃ W:Nat→Nat→List V→Hp→Prop,(∃ m,W 0 m [] H1)∧∀ i m ys H,W i m ys H →
 (J.stop i H∧∀ D,H D = none→Q (.ref D) (upd H D (.lst ys))) ∨
 (J.go i H∧ys.length < sizeLine∧∀ x H',J.yld i H x H'→g x (compSt k js σ) H' fun σ2 H2=>tc σ2 H2 fun b H3=>if b = true then te σ2 H3 fun y H4=>∃ m',m' < m∧W (i + 1) m' (ys ++ [y]) H4 else ∃ m',m' < m∧W (i + 1) m' ys H3)
theorem Un.later {P:Program} {w:World} {fs ex:List Addr} {H H1 H2:Hp} {h h1 h2:Heap} (u:Un fs ex H H1 h h1) (ok:HOk P w H h) (ag:∀ b,b < h.objs.size→H2 b = H1 b) (k:∀ b o,b < h.objs.size→h1.get? b = some o→h2.get? b = some o):Un fs ex H H2 h h2 where
 keep:=fun b o e n hb hx=>k b o (Heap.lt_size e) (u.keep b o e n hb hx)
 slot:=fun b o e n hb hx=>let ⟨sl,q⟩:=u.slot b o e n hb hx; ⟨sl,k b _ (Heap.lt_size e) q⟩
 free:=fun b o e n hx=>by rw [ag b (Heap.lt_size e)]; exact u.free b o e n hx
 there:=fun b o e hx=>let ⟨o',q⟩:=u.there b o e hx; ⟨o',k b _ (Heap.lt_size e) q⟩
 tups:=fun b xs e=>by rw [ag b (ok.lt e)]; exact u.tups b xs e
 frzs:=fun b o x e=>by rw [ag b (ok.lt e)]; exact u.frzs b o x e
 tbls:=fun b ps e=>by rw [ag b (ok.lt e)]; exact u.tbls b ps e
section
variable {X:Cx} {elt tg iter:Expr} {ifs:List Expr} {scope:Scope} {pos:Pos} {wi:TI} {g:TG} {tc:TT} {te:TE}
structure CompOk (X:Cx) (scope:Scope) (own:List Str) (fr:List (Str× Nat)):Prop where
 kind:scope.kind = .function
 cell:∀ y∈scope.names,y.2≠.cell
 loc:∀ y∈scope.names,y.2 = .local→scope.names.lookup y.1 = some .local
 free:∀ y∈scope.names,y.2 = .free→X.env.kindOf y.1 = some .cell
 fr:∀ p∈fr,scope.names.lookup p.1 = some .free∧X.N[p.2]? = some p.1
def compChk (sc scope:Scope) (N:List Str) (fr:List (Str× Nat)):Bool :=
 (decide (scope.kind = .function) && scope.names.all (fun y=>decide (y.2≠.cell)) && scope.names.all (fun y=>decide (y.2 = .local→scope.names.lookup y.1 = some .local)) &&
  scope.names.all (fun y=>decide (y.2 = .free→sc.names.lookup y.1 = some .cell)) && fr.all fun p=>decide (scope.names.lookup p.1 = some .free) && decide (N[p.2]? = some p.1))
theorem compOk {own:List Str} {fr:List (Str× Nat)} (sc:Scope) (N:List Str) (h:compChk sc scope N fr = true) (hs:X.env.scope = sc:=by rfl) (hN:X.N = N:=by rfl):CompOk X scope own fr:=by
 subst hs hN
 unfold compChk at h
 simp only [Bool.and_eq_true,List.all_eq_true,decide_eq_true_eq] at h
 obtain ⟨⟨⟨⟨h1,h2⟩,h3⟩,h4⟩,h5⟩:=h
 exact ⟨h1,h2,h3,h4,h5⟩
theorem comp_core {own:List Str} {fr:List (Str× Nat)} {pins:List (Addr× Obj)} {s2:Shared} {σ:St} {H2:Hp} {it:Addr} {fp:List Addr} {tn:Nat→Heap→Prop} {J:It} {cl:List (Str× Addr)} {E:Value→Shared→Prop}
  {W:Nat→Nat→List V→Hp→Prop} {m0:Nat} {RR:Value→Addr→Result→Shared→Prop} {Fin:Addr→List V→Hp→Prop}
  (hc:X.calm = true) (S:CompOk X scope own fr) (cl1:∀ x c,cl.lookup x = some c→X.env.cells.lookup x = some c) (cl2:∀ x,(x,NameKind.free)∈scope.names→∃ c,cl.lookup x = some c)
  (hg:∀ s2 H2 fp cl C,PG (cxComp X s2 H2 fp (own ++ fr.map (·.1)) scope cl C) tg g) (hk:GKeep own.length g)
  (hi:∀ s2 H2 fp cl C,PIfs (cxComp X s2 H2 fp (own ++ fr.map (·.1)) scope cl C) ifs tc) (he:∀ s2 H2 fp cl C,PE (cxComp X s2 H2 fp (own ++ fr.map (·.1)) scope cl C) elt te)
  (I2:Inv X pins σ H2 s2) (T:Turn X.prog X.w X.K tg J fp it tn) (st2:tn 0 s2.heap) (f2:∀ b∈fp,FpOk X pins H2 b) (w0:W 0 m0 [] H2)
  (turn:∀ i m ys H,W i m ys H →
   (J.stop i H∧∀ D,H D = none→Fin D ys H) ∨
   (J.go i H∧ys.length < sizeLine∧∀ x H',J.yld i H x H'→g x (compSt own.length (fr.map (·.2)) σ) H' fun σ2 H2=>tc σ2 H2 fun b H3=>if b = true then te σ2 H3 fun y H4=>∃ m',m' < m∧W (i + 1) m' (ys ++ [y]) H4 else ∃ m',m' < m∧W (i + 1) m' ys H3))
  (hRR:∀ D C oC mC s4 H4 ys,Fin D ys H4→Inv X (pins ++ [(C,oC)]) σ (upd H4 D (.lst ys)) s4→s4.heap.Ns C mC→FpOk X pins (upd H4 D (.lst ys)) C→RR (.ref D) C (.ok .next) s4) :
  wpAny (model X.prog X.w) X.A (newList []) (fun acc s₃=>wpAny (model X.prog X.w) X.A (newFunctionEnv scope X.env.globals cl [] X.env.qual none .none (some X.env)) (fun cenv s₄ =>
   codeAny (model X.prog X.w) X.A (.compStart (.ListComp elt [⟨tg,iter,ifs,0⟩] scope pos) 0 (.ref it) acc { cenv with scope:=relabel scope X.env }) (RR acc cenv.locals) s₄) E s₃) E s2:=by
 refine wpAny_newObj_type (wpAny_newFunctionEnv S.cell (by intro y hy; simp at hy) (fun h₁ hns₁ hsb₁=>?_) S.kind)
 dsimp only at hns₁ hsb₁ ⊢
 generalize hH2:s2.heap.push { cls:=.type "list", dict:=none,data:=.seq ([]:List Value).toArray } = Hh at hns₁ hsb₁ ⊢
 have hC:Hh.objs.size = s2.heap.objs.size + 1:=by rw [← hH2,Heap.size_push]
 have hDC:s2.heap.objs.size≠Hh.objs.size:=by rw [hC]; exact Nat.ne_of_lt (Nat.lt_succ_self _)
 have hCle:s2.heap.objs.size≤Hh.objs.size:=by rw [hC]; exact Nat.le_succ _
 have old:∀ b o,s2.heap.get? b = some o→h₁.get? b = some o:=fun b o e=>hsb₁.extBut b o (Nat.ne_of_lt (Nat.lt_of_lt_of_le (Heap.lt_size e) hCle)) (Heap.get?_push_of_some _ (hH2 ▸ Heap.get?_push_of_some _ e))
 have hacc:h₁.get? s2.heap.objs.size = some (LCg.lst []):=hsb₁.extBut _ _ hDC (Heap.get?_push_of_some _ (hH2 ▸ Heap.get?_push_size _ rfl))
 let Y:Cx:=cxComp X s2 H2 fp (own ++ fr.map (·.1)) scope cl Hh.objs.size
 let D:=s2.heap.objs.size
 let σY:St:=compSt own.length (fr.map (·.2)) σ
 have fpl:∀ b∈fp,b < s2.heap.objs.size:=fun b hb=>let ⟨o,e,_⟩:=T.obj 0 _ st2 b hb; Heap.lt_size e
 have nfs:∀ b,s2.heap.objs.size≤b→b∉Y.fs:=fun b hb z=>by
  rcases List.mem_cons.mp (I2.stkSub b z) with e | e
  ·rw [e] at hb; exact absurd I2.lt (Nat.not_lt.mpr hb)
  ·exact I2.nofs hb e
 have hkY:∀ x,(Y.env.kindOf x = some .cell∨Y.env.kindOf x = some .free)→scope.names.lookup x = some .free:=fun x hx=>by
  have q:∃ k',(relabel scope X.env).names.lookup x = some k'∧(k' = .cell∨k' = .free):=by
   rcases hx with z | z
   ·exact ⟨_,z,.inl rfl⟩
   ·exact ⟨_,z,.inr rfl⟩
  obtain ⟨k',e,hk'⟩:=q
  obtain ⟨k,e',h'⟩:=relabel_lookup e
  have nc:k≠.cell:=S.cell (x,k) (PySem.mem_of_lookup e')
  rcases h' with z | ⟨z,_⟩
  ·subst z
   rcases hk' with z | z
   ·exact absurd z nc
   ·rw [z] at e'; exact e'
  ·rw [z] at e'; exact e'
 have okY:Y.Ok:=by
  refine ⟨I2.ok.mod,S.kind,I2.ok.glob,I2.ok.blt,hCle,fun x y c h1 h2=>I2.ok.inj x y c (cl1 x c h1) (cl1 y c h2),fun x hx=>cl2 x (PySem.mem_of_lookup (hkY x hx)),(fun x c z _=>nomatch z),I2.ok.hd,I2.ok.frames,.inl rfl,fun b hb=>⟨?_,fun x c e=>(f2 b hb).2.2.2.2.1 x c (cl1 x c e)⟩,
   fun b o e=>I2.bs b o e,Nat.le_trans I2.ok.bsz I2.sz,fun b o e hb=>?_,fun b hb z=>?_,I2.stack,I2.stkFree⟩
  ·exact Nat.ne_of_lt (Nat.lt_of_lt_of_le (fpl b hb) hCle)
  ·rcases (f2 b hb).2.2.2.1 with z | z
   ·exact I2.ok.noex b o e z
   ·exact absurd (Nat.lt_of_lt_of_le (Heap.lt_size e) (Nat.le_trans I2.ok.bsz z)) (Nat.lt_irrefl _)
  ·rcases List.mem_cons.mp (I2.stkSub b z) with e | e
   ·exact (f2 b hb).2.1 e
   ·exact (f2 b hb).2.2.1 e
 have σYl:σY.length = Y.N.length:=by
  show (compSt own.length (fr.map (·.2)) σ).length = (own ++ fr.map (·.1)).length
  unfold compSt
  rw [List.length_append,List.length_append,List.length_replicate,List.length_map,List.length_map,List.length_map]
 have lookY:∀ (h:Heap) (m:Str→Option Value),(∀ c v,(∃ x,X.env.cells.lookup x = some c)→s2.heap.IsCell c v→h.IsCell c v)→∀ (i:Nat) (x:Str) (v:V),Y.N[i]? = some x→σY[i]? = some (some v)→Vis Y.env.scope x→∃ u,RelV v u∧Look Y.env h m x u:=by
  intro h m hcells i x v hN hσ hv
  have hN:(own ++ fr.map (·.1))[i]? = some x:=hN
  have hσ:(List.replicate own.length none ++ (fr.map (·.2)).map fun j=>(σ[j]?).join)[i]? = some (some v):=hσ
  by_cases hio:i < own.length
  ·rw [List.getElem?_append_left (by simpa using hio),List.getElem?_replicate,if_pos hio] at hσ
   cases hσ
  ·rw [List.getElem?_append_right (by simpa using hio)] at hσ
   rw [List.getElem?_append_right (by simpa using hio)] at hN
   rw [List.length_replicate] at hσ
   rw [List.getElem?_map] at hN
   rw [List.getElem?_map,List.getElem?_map] at hσ
   cases ep:fr[i - own.length]? with
   | none=>rw [ep] at hN; cases hN
   | some p =>
    rw [ep] at hN hσ
    cases hN
    have hσ:(σ[p.2]?).join = some v:=Option.some.inj hσ
    obtain ⟨hfree,hXN⟩:=S.fr p (List.mem_of_getElem? ep)
    have hXk:X.env.kindOf p.1 = some .cell:=S.free (p.1,.free) (PySem.mem_of_lookup hfree) rfl
    obtain ⟨m',hn',hl'⟩:=I2.loc
    have hσ':σ[p.2]? = some (some v):=by
     cases e:σ[p.2]? with
     | none=>rw [e] at hσ; cases hσ
     | some o=>rw [e] at hσ; cases o with
      | none=>cases hσ
      | some v'=>cases hσ; rfl
    obtain ⟨u,r,l⟩:=hl' p.2 p.1 v hXN hσ' (.inr (.inl hXk))
    refine ⟨u,r,?_⟩
    rcases l with ⟨l,_⟩ | ⟨_,c,hcl,hcell⟩
    ·rw [hXk] at l; cases l
    ·obtain ⟨c',hc'⟩:=cl2 p.1 (PySem.mem_of_lookup hfree)
     have e2:=cl1 _ _ hc'
     rw [hcl] at e2
     cases e2
     refine .inr ⟨?_,c,hc',hcells c _ ⟨_,hcl⟩ hcell⟩
     rcases hv with z | z | z
     ·obtain ⟨k,e1,e3⟩:=relabel_lookup z
      rw [hfree] at e1
      cases e1
      rcases e3 with e3 | ⟨_,e3⟩
      ·exact .inr (by cases e3)
      ·exact .inr (by cases e3)
     ·exact .inl z
     ·exact .inr z
 have IY:Inv Y [(D,LCg.lst [])] σY H2 { s2 with heap:=h₁,toks:=s2.toks + ([]:List (Str× Value)).length }:=by
  refine ⟨okY,rfl,I2.bare,Un.kept old,⟨_,hns₁,lookY _ _ fun c v _ ⟨o,e,d⟩=>⟨o,old c o e,d⟩⟩,fun x c e=>?_,I2.hok.fresh hCle,fun x c e=>I2.freeC x c (cl1 x c e),fun p hp=>?_,I2.hok.kept old,σYl⟩
  ·obtain ⟨v,o,e1,d⟩:=I2.cell x c (cl1 x c e)
   exact ⟨v,o,old c o e1,d⟩
  ·have hp:p∈[(D,LCg.lst [])]:=by simpa [Y,cxComp] using hp
   rw [List.mem_singleton.mp hp]
   exact ⟨hacc,I2.hok.fresh (Nat.le_refl _),hDC,nfs _ (Nat.le_refl _),fun v z=>nomatch z⟩
 have stat:∀ {us:List Value} {H':Hp},(∀ b∈fp,H' b = none)→∀ b∈fp,FpOk Y [(D,LCg.lst us)] H' b:=fun {us H'} hn b hb=>by
  refine ⟨hn b hb,Nat.ne_of_lt (Nat.lt_of_lt_of_le (fpl b hb) hCle),fun z=>?_,.inl hb,fun x c e=>(f2 b hb).2.2.2.2.1 x c (cl1 x c e),fun p hp=>?_⟩
  ·exact okY.exfs b hb z
  ·have hp:p∈[(D,LCg.lst us)]:=by simpa [Y,cxComp] using hp
   rw [List.mem_singleton.mp hp]
   exact fun z=>absurd (fpl b hb) (by rw [← z]; exact Nat.lt_irrefl _)
 have loop:∀ s₃:Shared,s₃ = { s2 with heap:=h₁,toks:=s2.toks + ([]:List (Str× Value)).length } →
   codeAny (model X.prog X.w) X.A (.compLoop (.ListComp elt [⟨tg,iter,ifs,0⟩] scope pos) 0 (.ref it) (.ref s2.heap.objs.size) (compEnvC scope cl Hh.objs.size X.env))
    (RR (.ref s2.heap.objs.size) Hh.objs.size) s₃:=by
  rintro s₃ rfl
  refine compLoopG (fun n s'=>∃ i ys us H',Inv Y [(D,LCg.lst us)] σY H' s'∧Vals ys us∧ys.length≤sizeLine∧tn i s'.heap∧(∀ b∈fp,H' b = none)∧W i n ys H') ?_ m0
   ⟨0,[],[],H2,IY,.nil,Nat.zero_le _,T.keep _ _ _ st2 fun b _ o e=>old b o e,fun b hb=>(f2 b hb).1,w0⟩
  rintro n s3 ⟨i,ys,us,H3,I3,rv,hsz,st3,fr3,w3⟩
  rcases turn i n ys H3 w3 with ⟨stop,qn⟩ | ⟨go,hlt,step⟩
  ·refine thn (T.done Y rfl rfl rfl hc i _ s3 σY H3 _ I3 (stat fr3) st3 stop) fun r s4 ⟨hr,I4⟩=>?_
   subst hr
   have pinD:=I4.pin (D,LCg.lst us) (List.mem_append_right _ (List.mem_singleton.mpr rfl))
   obtain ⟨mC,hnC,_⟩:=I4.loc
   obtain ⟨oC,esC,epC,hoC,hdC,hxC⟩:=id hnC
   have hDn:H3 D = none:=pinD.2.1
   have ag:∀ b,b < s2.heap.objs.size→(upd H3 D (.lst ys)) b = H3 b:=fun b hb=>upd_ne (Nat.ne_of_lt hb)
   have hokU:HOk X.prog X.w (upd H3 D (.lst ys)) s4.heap:=fun a o e=>by
    by_cases ha:a = D
    ·subst ha
     rw [upd_same] at e
     cases e
     exact ⟨hsz,us,_,rv,pinD.1⟩
    ·rw [upd_ne ha] at e
     refine (I4.hok a o e).stay (fun _ _ _ q=>q) (fun b q=>?_) (fun b xs q=>?_)
     ·rw [upd_ne (ne_of_none q hDn)]; exact q
     ·rw [upd_ne (ne_of_none q hDn)]; exact q
   have IX:Inv X pins σ (upd H3 D (.lst ys)) s4:=I2.call' (ch:=fp) I4.os (I4.base.later I2.hok ag fun b o _ e=>e) hokU I4.bare fun b hb=>⟨(f2 b hb).2.2.2.1,(f2 b hb).2.1,(f2 b hb).2.2.2.2.1,(f2 b hb).2.2.2.2.2⟩
   have hCn:(upd H3 D (.lst ys)) Hh.objs.size = none:=by rw [upd_ne (Ne.symm hDC)]; exact I4.free
   have fC:FpOk X pins (upd H3 D (.lst ys)) Hh.objs.size:=I2.fpOk hCle hCn
   refine hRR D Hh.objs.size oC mC s4 H3 ys (qn D hDn) (IX.pins_of fun p hp=>?_) hnC fC
   rcases List.mem_append.mp hp with z | z
   ·exact IX.pin p (List.mem_append_right _ z)
   ·rw [List.mem_singleton.mp z]
    exact ⟨hoC,hCn,fC.2.1,fC.2.2.1,fun v z=>by rw [hdC] at z; cases z⟩
  ·refine thn (T.item Y rfl rfl rfl hc i _ s3 σY H3 _ I3 (stat fr3) st3 go) fun r s4 ⟨u,hr,h4⟩=>?_
   subst hr
   refine thn h4 fun _ s5 ⟨x,H5,I5,r5,y5,st5,fr5⟩=>?_
   have I5':=I5.pinned (stat fr5) (T.obj _ _ st5)
   refine thn (hg _ _ _ _ _ _ s5 σY H5 x u _ I5' r5 (hk _ _ _ _ (step x H5 y5))) fun _ s6 ⟨σ6,H6,I6,hext,q6⟩=>?_
   refine thn (hi _ _ _ _ _ _ s6 σ6 H6 _ I6 q6) fun b s7 ⟨H7,I7,q7⟩=>?_
   have back:∀ {s8:Shared} {H8:Hp} {us8:List Value},Inv Y ([(D,LCg.lst us8)] ++ pinsAt fp s5.heap) σ6 H8 s8→Inv Y [(D,LCg.lst us8)] σY H8 s8∧tn (i + 1) s8.heap∧∀ b∈fp,H8 b = none:=fun {s8 H8 us8} I8=>by
    refine ⟨I8.unpinned.weak (σYl.trans I8.len.symm) fun j v hj=>?_,T.keep _ _ _ st5 fun b hb o e=>(I8.pin (b,o) (List.mem_append_right _ (List.mem_append_right _ (mem_pinsAt hb e)))).1,fun b hb=>?_⟩
    ·have hjo:own.length≤j:=by
      rcases Nat.lt_or_ge j own.length with z | z
      ·have hj:(List.replicate own.length none ++ (fr.map (·.2)).map fun j=>(σ[j]?).join)[j]? = some (some v):=hj
       rw [List.getElem?_append_left (by simpa using z),List.getElem?_replicate,if_pos z] at hj
       cases hj
      ·exact z
     rw [hext j hjo]
     exact hj
    ·obtain ⟨o,e,d⟩:=T.obj _ _ st5 b hb
     exact (I8.pin (b,o) (List.mem_append_right _ (List.mem_append_right _ (mem_pinsAt hb e)))).2.1
   cases b with
   | false =>
    rw [if_neg Bool.false_ne_true] at q7 ⊢
    obtain ⟨m',hm,w7⟩:=q7
    obtain ⟨I8,t8,f8⟩:=back I7
    exact ⟨m',hm,i + 1,ys,us,H7,I8,rv,hsz,t8,f8,w7⟩
   | true =>
    rw [if_pos rfl] at q7 ⊢
    refine thn (he _ _ _ _ _ _ s7 σ6 H7 _ I7 q7) fun vy s8 ⟨y,H8,I8,ry,m',hm,w8⟩=>?_
    have pinD:=I8.pin (D,LCg.lst us) (List.mem_append_right _ (List.mem_append_left _ (List.mem_singleton.mpr rfl)))
    refine append_at (hsz:=by rw [List.size_toArray,← rv.length]; exact hsz) pinD.1 fun h₅ hs₅ hD₅=>?_
    have hD₅':h₅.get? D = some (LCg.lst (us ++ [vy])):=hD₅.trans (congrArg some (LCg.lst_snoc us vy))
    have Ia:Inv Y (pinsAt fp s5.heap) σ6 H8 s8:=I8.pins_of fun p hp=>I8.pin p (List.mem_append_right _ (List.mem_append_right _ hp))
    have Ib:Inv Y (pinsAt fp s5.heap) σ6 H8 { s8 with heap:=h₅ }:=Ia.turned (it:=D) (t':=s8.toks) (fun b o hb e=>hs₅.extBut b o hb e) pinD.2.1 hDC (.inr (Nat.le_refl _))
     (fun x c e z=>by
      obtain ⟨v,q⟩:=I2.cell x c (cl1 x c e)
      exact absurd q.lt (by rw [z]; exact Nat.lt_irrefl _))
     (fun p hp=>by
      have hp:p∈pinsAt fp s5.heap:=by simpa [Y,cxComp] using hp
      exact fun z=>absurd (fpl p.1 (of_pinsAt hp).1) (by rw [z]; exact Nat.lt_irrefl _))
    have Ic:Inv Y ([(D,LCg.lst (us ++ [vy]))] ++ pinsAt fp s5.heap) σ6 H8 { s8 with heap:=h₅ }:=Ib.pins_of fun p hp=>by
     rcases List.mem_append.mp hp with z | z
     ·rw [List.mem_singleton.mp z]
      exact ⟨hD₅',pinD.2.1,hDC,nfs _ (Nat.le_refl _),fun v z=>nomatch z⟩
     ·exact Ib.pin p (List.mem_append_right _ z)
    obtain ⟨I9,t9,f9⟩:=back Ic
    exact ⟨m',hm,i + 1,ys ++ [y],us ++ [vy],H8,I9,rv.append (.cons ry .nil),by rw [List.length_append,List.length_singleton]; omega,t9,f9,w8⟩
 exact codeAny_compStart_list (loop _ rfl) (T.self X.A 0 _ _ _ (T.keep _ _ _ st2 fun b _ o e=>old b o e) (loop _ rfl))
theorem comp_cells {own:List Str} {fr:List (Str× Nat)} {pins:List (Addr× Obj)} {s:Shared} {σ:St} {H:Hp} (S:CompOk X scope own fr) (I:Inv X pins σ H s):∀ y∈scope.names,y.2 = .free→∃ c,X.env.cells.lookup y.1 = some c :=
 fun y hy e=>I.ok.has y.1 (.inl (S.free y hy e))
theorem pe_comp (own:List Str) (fr:List (Str× Nat)) (hc:X.calm = true) (S:CompOk X scope own fr) (hit:PI X tg iter wi)
  (hg:∀ s2 H2 fp cl C,PG (cxComp X s2 H2 fp (own ++ fr.map (·.1)) scope cl C) tg g) (hk:GKeep own.length g)
  (hi:∀ s2 H2 fp cl C,PIfs (cxComp X s2 H2 fp (own ++ fr.map (·.1)) scope cl C) ifs tc) (he:∀ s2 H2 fp cl C,PE (cxComp X s2 H2 fp (own ++ fr.map (·.1)) scope cl C) elt te)
  (hs:∀ x,foldedSetIterable iter X.env x = pure x:=by intro _; rfl) :
  PE X (.ListComp elt [⟨tg,iter,ifs,0⟩] scope pos) (tComp own.length (fr.map (·.2)) wi g tc te):=by
 intro pins s σ H Q I h
 obtain ⟨cl,hclos,cl1,cl2⟩:=closure_ex (comp_cells S I)
 rw [eval_ListComp]
 refine wpAny_comprehension_free (use:=none) rfl hs hclos S.kind S.loc (thn (hit pins s σ H _ I h) fun v s1 h1=>thn h1 fun itv s2 h2=>?_)
 obtain ⟨it,fp,tn,J,H2,e,I2,T,st2,f2,W,⟨m0,w0⟩,turn⟩:=h2
 subst e
 refine comp_core (RR:=fun acc C=>compPost (model X.prog X.w) X.A X.xe none (EP X pins σ Q) acc C) (Fin:=fun D ys H=>Q (.ref D) (upd H D (.lst ys))) hc S cl1 cl2 hg hk hi he I2 T st2 f2 w0 turn ?_
 intro D C oC mC s4 H4 ys fin IC hn fC
 refine ⟨mC,hn,fun h' hs'=>⟨.ref D,_,?_,rfl,fin⟩⟩
 exact IC.unpinned.turned (t':=s4.toks) (fun b o hb e=>hs'.extBut b o hb e) fC.1 fC.2.1 fC.2.2.2.1 fC.2.2.2.2.1 fC.2.2.2.2.2
def tSetComp (j k:Nat) (js:List Nat) (wi:TI) (g:TG) (tc:TT) (te:TE):TS:=fun D σ H=>tComp k js wi g tc te σ H fun v H'=>D.nx (σ.set j (some v)) H'
theorem ps_setComp {j:Nat} {y:Str} {py spos:Pos} (own:List Str) (fr:List (Str× Nat)) (hN:X.N.Nodup) (hj:X.N[j]? = some y) (hy:Loc X.env.scope y) (hc:X.calm = true) (S:CompOk X scope own fr) (hit:PI X tg iter wi)
  (hg:∀ s2 H2 fp cl C,PG (cxComp X s2 H2 fp (own ++ fr.map (·.1)) scope cl C) tg g) (hk:GKeep own.length g)
  (hi:∀ s2 H2 fp cl C,PIfs (cxComp X s2 H2 fp (own ++ fr.map (·.1)) scope cl C) ifs tc) (he:∀ s2 H2 fp cl C,PE (cxComp X s2 H2 fp (own ++ fr.map (·.1)) scope cl C) elt te)
  (hsw:swapsWith (.ListComp elt [⟨tg,iter,ifs,0⟩] scope pos) (some (.Name y py)) spos.line X.env = pure true:=by rfl)
  (hs:∀ x,foldedSetIterable iter X.env x = pure x:=by intro _; rfl)
  (hf:X.fn y = true∨X.env.scope.names.lookup y = some .local:=by first | exact .inl rfl | exact .inr rfl | assumption) :
  PS X (.Assign [.Name y py] (.ListComp elt [⟨tg,iter,ifs,0⟩] scope pos) spos) (tSetComp j own.length (fr.map (·.2)) wi g tc te):=by
 intro pins s σ H Dn I h
 obtain ⟨cl,hclos,cl1,cl2⟩:=closure_ex (comp_cells S I)
 rw [exec_Assign_Name_used _ _ _ _ hsw]
 refine wpAny_bind (wpAny_standAt (wpAny_bind ?_))
 show wpAny _ X.A (do let _ ← comprehension (.ListComp elt [⟨tg,iter,ifs,0⟩] scope pos) scope X.env _ (newList []) false (eval iter X.env) (some (assign (.Name y py) X.env))) _ _ s
 refine wpAny_bind (wpAny_mono (wpAny_comprehension_free (use:=some (assign (.Name y py) X.env)) (Q:=fun _ s'=>SP X pins Dn .next s') rfl hs hclos S.kind S.loc
  (thn (hit pins s σ H _ I h) fun v s1 h1=>thn h1 fun itv s2 h2=>?_)) (fun _ s' hq=>wpAny_pure (wpAny_pure hq)) fun _ _ e=>e)
 obtain ⟨it,fp,tn,J,H2,e,I2,T,st2,f2,W,⟨m0,w0⟩,turn⟩:=h2
 subst e
 refine comp_core (RR:=fun acc C=>compPost (model X.prog X.w) X.A X.xe (some (assign (.Name y py) X.env)) (fun _ s'=>SP X pins Dn .next s') acc C) (Fin:=fun D ys H=>Dn.nx (σ.set j (some (.ref D))) (upd H D (.lst ys))) hc S cl1 cl2 hg hk hi he I2 T st2 f2 w0 turn ?_
 intro D C oC mC s4 H4 ys fin IC hn fC
 show wpAny _ X.A (assign (.Name y py) X.env (.ref D)) _ _ _
 refine wpAny_assign_Name (store_ok (v:=.ref D) IC hN hj hy rfl (fun s5 I5=>?_) hf)
 have pC:=I5.pin (C,oC) (List.mem_append_right _ (List.mem_append_right _ (List.mem_singleton.mpr rfl)))
 have pC4:=IC.pin (C,oC) (List.mem_append_right _ (List.mem_append_right _ (List.mem_singleton.mpr rfl)))
 refine ⟨mC,hn.at' fun o e=>?_,fun h' hs'=>⟨_,_,?_,fin⟩⟩
 ·have e':=pC4.1
  rw [e] at e'
  cases e'
  exact pC.1
 ·exact I5.unpinned.turned (t':=s5.toks) (fun b o hb e=>hs'.extBut b o hb e) fC.1 fC.2.1 fC.2.2.2.1 fC.2.2.2.2.1 fC.2.2.2.2.2
end
section
variable {X:Cx} {pins:List (Addr× Obj)} {σ:St} {H H':Hp} {s:Shared} {h':Heap}
theorem Inv.turnedL {its:List Addr} {t':Nat} (I:Inv X pins σ H s) (hf:∀ b∈its,FpOk X pins H b) (k:∀ b o,b∉its→s.heap.get? b = some o→h'.get? b = some o)
  (ag:∀ b,b < s.heap.objs.size→H' b = H b) (hok:HOk X.prog X.w H' h'):Inv X pins σ H' { s with heap:=h',toks:=t' }:=by
 refine I.step (g':=s.gens) (d':=s.drawn) (ch:=its) (fun b hb=>⟨(hf b hb).2.2.2.1,(hf b hb).2.1,(hf b hb).2.2.2.2.1,(hf b hb).2.2.2.2.2⟩) (fun b o _ _ hc e _=>k b o hc e) (fun b o _ _ hc e _=>⟨o.slots,k b o hc e⟩)
  (fun b o _ e n=>by rw [ag b (Heap.lt_size e)]; exact n) (fun b o hc e=>⟨o,k b o hc e⟩) (fun b xs e=>by rw [ag b (I.hok.lt e)]; exact e) (fun b o u e=>by rw [ag b (I.hok.lt e)]; exact e)
  (fun b ps e=>⟨#[],by rw [ag b (I.hok.lt e),e]; simp⟩) (fun m hm=>?_) hok I.bare
 obtain ⟨o,es,ep,ho,r⟩:=hm
 exact ⟨o,es,ep,k _ o (fun z=>(hf _ z).2.1 rfl) ho,r⟩
theorem HOk.turned {its:List Addr} (ok:HOk X.prog X.w H s.heap) (hf:∀ b∈its,H b = none) (k:∀ b o,b∉its→s.heap.get? b = some o→h'.get? b = some o):HOk X.prog X.w H h':=fun b u e=>by
 refine (ok b u e).stay (fun c v hc q=>k c v (fun z=>?_) q) (fun _ q=>q) fun _ _ q=>q
 rcases hc with y | y
 ·rw [← y,hf c z] at e; cases e
 ·rw [hf c z] at y; cases y
theorem HOk.turnedNew {its:List Addr} {T:Addr} {o:HO} (ok:HOk X.prog X.w H s.heap) (hf:∀ b∈its,H b = none) (k:∀ b o,b∉its→s.heap.get? b = some o→h'.get? b = some o) (hT:s.heap.objs.size≤T)
  (new:ObjOk X.prog X.w (upd H T o) h' T o):HOk X.prog X.w (upd H T o) h':=fun b u e=>by
 by_cases hb:b = T
 ·subst hb
  rw [upd_same] at e
  cases e
  exact new
 ·rw [upd_ne hb] at e
  have hn:H T = none:=ok.fresh hT
  refine (HOk.turned (s:=s) ok hf k b u e).stay (fun _ _ _ q=>q) (fun c q=>?_) fun c xs q=>?_
  ·rw [upd_ne (ne_of_none q hn)]; exact q
  ·rw [upd_ne (ne_of_none q hn)]; exact q
end
def Itz (K:PySem.W.Frag) (l1 l2:Addr):It :=
 ⟨fun i H=>∃ xs ys x y,SqL K H l1 xs∧SqL K H l2 ys∧xs[i]? = some x∧ys[i]? = some y,
  fun i H v H'=>∃ T x y,v = .ref T∧H T = none∧H' = upd H T (.tup [x,y])∧(∀ xs,SqL K H l1 xs→xs[i]? = some x)∧∀ ys,SqL K H l2 ys→ys[i]? = some y,
  fun i H=>∃ xs ys,SqL K H l1 xs∧SqL K H l2 ys∧(xs.length≤i∨ys.length≤i)⟩
theorem turn_zip {P:Program} {w:World} {K:PySem.W.Frag} {elts:List Expr} {x1} {tp:Pos} {z TI TO i1 i2 l1 l2:Addr} (A:ZipApart z TI TO i1 i2 l1 l2) :
  Turn P w K (.Tuple elts x1 tp) (Itz K l1 l2) [z,TI,TO,i1,i2] z (fun i h=>IsZip h z TI TO .none∧IsPair h TI (.ref i1) (.ref i2)∧(∃ a b,IsPair h TO a b)∧h.IsListIter i1 l1 i∧h.IsListIter i2 l2 i) where
 mem:=by simp
 obj:=fun i h ⟨h1,h2,⟨a,b,h3⟩,h4,h5⟩ c hc=>by
  simp only [List.mem_cons,List.mem_nil_iff,or_false] at hc
  rcases hc with rfl | rfl | rfl | rfl | rfl
  ·exact ⟨_,h1,fun v z=>nomatch z⟩
  ·exact ⟨_,h2,fun v z=>nomatch z⟩
  ·exact ⟨_,h3,fun v z=>nomatch z⟩
  ·obtain ⟨o,e,c,d⟩:=h4
   exact ⟨o,e,fun v z=>by rw [d] at z; cases z⟩
  ·obtain ⟨o,e,c,d⟩:=h5
   exact ⟨o,e,fun v z=>by rw [d] at z; cases z⟩
 keep:=fun i h h' ⟨h1,h2,⟨a,b,h3⟩,h4,h5⟩ k=>⟨k _ (by simp) _ h1,k _ (by simp) _ h2,⟨a,b,k _ (by simp) _ h3⟩,h4.at fun o e=>k _ (by simp) o e,h5.at fun o e=>k _ (by simp) o e⟩
 item:=by
  intro X hP hw hK hc i pins s σ H E I hf st hg
  subst hP hw hK
  obtain ⟨h1,h2,⟨a,b,h3⟩,h4,h5⟩:=st
  obtain ⟨xs,ys,x,y,q1,q2,e1,e2⟩:=hg
  obtain ⟨its1,rv1,p1,hz1⟩:=I.list q1
  obtain ⟨its2,rv2,p2,hz2⟩:=I.list q2
  obtain ⟨u,hu,ru⟩:=rv1.get e1
  obtain ⟨v,hv,rv⟩:=rv2.get e2
  refine wpAny_pyNext_zip_item A h1 h2 h3 h4 h5 p1.isList p2.isList (x:=u) (y:=v) (by simpa using hu) (by simpa using hv) fun h' a1 a2 a3 a4 a5 a6 a7=>?_
  refine ⟨_,rfl,wpAny_letOwnedTupleGo_zip (s:={ s with heap:=h' }) a1 fun h'' b1 b2=>?_⟩
  have b2:Heap.SameBut z h' h'':=b2
  have zl:z < s.heap.objs.size:=Heap.lt_size h1
  have Tz:s.heap.objs.size≠z:=Nat.ne_of_gt zl
  have k:∀ b o,b∉[z,TI,TO,i1,i2]→s.heap.get? b = some o→h''.get? b = some o:=fun b o hb e=>by
   simp only [List.mem_cons,List.mem_nil_iff,or_false,not_or] at hb
   exact b2.extBut b o hb.1 (a7 b o hb.1 hb.2.2.1 hb.2.2.2.1 hb.2.2.2.2 e)
  have pT:h''.get? s.heap.objs.size = some { cls:=.type "tuple", data:=.seq #[u,v] }:=b2.extBut _ _ Tz a5
  have hn:H s.heap.objs.size = none:=I.hok.fresh (Nat.le_refl _)
  have fpl:∀ b∈[z,TI,TO,i1,i2],s.heap.objs.size≠b:=fun b hb=>by
   simp only [List.mem_cons,List.mem_nil_iff,or_false] at hb
   rcases hb with rfl | rfl | rfl | rfl | rfl
   ·exact Tz
   ·exact Nat.ne_of_gt (Heap.lt_size h2)
   ·exact Nat.ne_of_gt (Heap.lt_size h3)
   ·obtain ⟨o,e,_⟩:=h4; exact Nat.ne_of_gt (Heap.lt_size e)
   ·obtain ⟨o,e,_⟩:=h5; exact Nat.ne_of_gt (Heap.lt_size e)
  have hok:HOk X.prog X.w (upd H s.heap.objs.size (.tup [x,y])) h'':=HOk.turnedNew (s:=s) I.hok (fun b hb=>(hf b hb).1) k (Nat.le_refl _) ⟨(by show 2≤sizeLine; decide),[u,v],.cons ru (.cons rv .nil),_,pT,rfl,_,rfl⟩
  have I1:Inv X pins σ (upd H s.heap.objs.size (.tup [x,y])) { s with heap:=h'' }:=I.turnedL (t':=s.toks) hf k (fun b hb=>upd_ne (Nat.ne_of_lt hb)) hok
  refine ⟨.ref s.heap.objs.size,_,I1,rfl,⟨_,x,y,rfl,hn,rfl,fun zs hz=>by rw [I.list_inj hz q1]; exact e1,fun zs hz=>by rw [I.list_inj hz q2]; exact e2⟩,?_,fun b hb=>by rw [upd_ne (Ne.symm (fpl b hb))]; exact (hf b hb).1⟩
  refine ⟨b1,?_,⟨u,v,b2.extBut _ _ A.TOz a2⟩,a3.extBut b2.extBut A.i1z,a4.extBut b2.extBut A.i2z⟩
  exact b2.extBut _ _ A.TIz (a7 _ _ A.TIz A.TITO A.TIi1 A.TIi2 h2)
 done:=by
  intro X hP hw hK hc i pins s σ H E I hf st hg
  subst hP hw hK
  obtain ⟨h1,h2,⟨a,b,h3⟩,h4,h5⟩:=st
  obtain ⟨xs,ys,q1,q2,hx⟩:=hg
  obtain ⟨its1,rv1,p1,hz1⟩:=I.list q1
  obtain ⟨its2,rv2,p2,hz2⟩:=I.list q2
  have l1:=rv1.length
  have l2:=rv2.length
  refine wpAny_pyNext_zip_end (I.ok.hd hc) A h1 h2 h3 h4 h5 p1.isList p2.isList ?_ fun h' a7=>?_
  ·rcases hx with z | z
   ·exact .inl (by simp; omega)
   ·exact .inr (by simp; omega)
  ·have k:∀ b o,b∉[z,TI,TO,i1,i2]→s.heap.get? b = some o→h'.get? b = some o:=fun b o hb e=>by
    simp only [List.mem_cons,List.mem_nil_iff,or_false,not_or] at hb
    exact a7 b o hb.1 hb.2.2.1 hb.2.2.2.1 hb.2.2.2.2 e
   exact ⟨rfl,I.turnedL (t':=s.toks) hf k (fun _ _=>rfl) (HOk.turned (s:=s) I.hok (fun b hb=>(hf b hb).1) k)⟩
 self:=fun _ _ _ _ _ st h=>wpAny_pyIter_zip st.1 h
def Ite (K:PySem.W.Frag) (l:Addr):It :=
 ⟨fun i H=>∃ xs x,SqL K H l xs∧xs[i]? = some x,
  fun i H v H'=>∃ T x,v = .ref T∧H T = none∧H' = upd H T (.tup [.int i,x])∧∀ xs,SqL K H l xs→xs[i]? = some x,
  fun i H=>∃ xs,SqL K H l xs∧xs.length≤i⟩
theorem turn_enum {P:Program} {w:World} {K:PySem.W.Frag} {elts:List Expr} {x1} {tp:Pos} {e it l:Addr} (hei:e≠it) :
  Turn P w K (.Tuple elts x1 tp) (Ite K l) [e,it] e (fun i h=>(∃ old,IsEnum h e it i old)∧h.IsListIter it l i) where
 mem:=by simp
 obj:=fun i h ⟨⟨old,h1⟩,h4⟩ c hc=>by
  simp only [List.mem_cons,List.mem_nil_iff,or_false] at hc
  rcases hc with rfl | rfl
  ·exact ⟨_,h1,fun v z=>nomatch z⟩
  ·obtain ⟨o,e,c,d⟩:=h4
   exact ⟨o,e,fun v z=>by rw [d] at z; cases z⟩
 keep:=fun i h h' ⟨⟨old,h1⟩,h4⟩ k=>⟨⟨old,k _ (by simp) _ h1⟩,h4.at fun o e=>k _ (by simp) o e⟩
 item:=by
  intro X hP hw hK hc i pins s σ H E I hf st hg
  subst hP hw hK
  obtain ⟨⟨old,h1⟩,h4⟩:=st
  obtain ⟨xs,x,q1,e1⟩:=hg
  obtain ⟨its1,rv1,p1,hz1⟩:=I.list q1
  obtain ⟨u,hu,ru⟩:=rv1.get e1
  refine wpAny_pyNext_enum_item h1 h4 p1.isList (x:=u) (by simpa using hu) hei fun h' a1 a3 a5 a6 a7=>?_
  refine ⟨_,rfl,wpAny_letOwnedTupleGo_enum (s:={ s with heap:=h',toks:=s.toks + 1 }) a1 fun h'' b1 b2=>?_⟩
  have b2:Heap.SameBut e h' h'':=b2
  have zl:e < s.heap.objs.size:=Heap.lt_size h1
  have Tz:s.heap.objs.size≠e:=Nat.ne_of_gt zl
  have k:∀ b o,b∉[e,it]→s.heap.get? b = some o→h''.get? b = some o:=fun b o hb q=>by
   simp only [List.mem_cons,List.mem_nil_iff,or_false,not_or] at hb
   exact b2.extBut b o hb.1 (a7 b o hb.1 hb.2 q)
  have pT:h''.get? s.heap.objs.size = some { cls:=.type "tuple", data:=.seq #[.int i s.toks,u] }:=b2.extBut _ _ Tz a5
  have hn:H s.heap.objs.size = none:=I.hok.fresh (Nat.le_refl _)
  have fpl:∀ b∈[e,it],s.heap.objs.size≠b:=fun b hb=>by
   simp only [List.mem_cons,List.mem_nil_iff,or_false] at hb
   rcases hb with rfl | rfl
   ·exact Tz
   ·obtain ⟨o,q,_⟩:=h4; exact Nat.ne_of_gt (Heap.lt_size q)
  have hok:HOk X.prog X.w (upd H s.heap.objs.size (.tup [.int i,x])) h'':=HOk.turnedNew (s:=s) I.hok (fun b hb=>(hf b hb).1) k (Nat.le_refl _) ⟨(by show 2≤sizeLine; decide),[.int i s.toks,u],.cons ⟨_,rfl⟩ (.cons ru .nil),_,pT,rfl,_,rfl⟩
  have I1:Inv X pins σ (upd H s.heap.objs.size (.tup [.int i,x])) { s with heap:=h'',toks:=s.toks + 1 }:=I.turnedL (t':=s.toks + 1) hf k (fun b hb=>upd_ne (Nat.ne_of_lt hb)) hok
  refine ⟨.ref s.heap.objs.size,_,I1,rfl,⟨_,x,rfl,hn,rfl,fun zs hz=>by rw [I.list_inj hz q1]; exact e1⟩,?_,fun b hb=>by rw [upd_ne (Ne.symm (fpl b hb))]; exact (hf b hb).1⟩
  exact ⟨⟨_,b1⟩,a3.extBut b2.extBut hei.symm⟩
 done:=by
  intro X hP hw hK hc i pins s σ H E I hf st hg
  subst hP hw hK
  obtain ⟨⟨old,h1⟩,h4⟩:=st
  obtain ⟨xs,q1,hx⟩:=hg
  obtain ⟨its1,rv1,p1,hz1⟩:=I.list q1
  have l1:=rv1.length
  refine wpAny_pyNext_enum_end (I.ok.hd hc) h1 h4 p1.isList (by simp; omega) fun h' a7=>?_
  have k:∀ b o,b∉[e,it]→s.heap.get? b = some o→h'.get? b = some o:=fun b o hb q=>by
   simp only [List.mem_cons,List.mem_nil_iff,or_false,not_or] at hb
   exact a7 b o hb.2 q
  exact ⟨rfl,I.turnedL (t':=s.toks) hf k (fun _ _=>rfl) (HOk.turned (s:=s) I.hok (fun b hb=>(hf b hb).1) k)⟩
 self:=fun _ _ _ _ _ st h=>by
  obtain ⟨⟨old,h1⟩,_⟩:=st
  refine wpAny_pyIter_slot (T:= "enumerate") ⟨_,h1,rfl⟩ F.slot_enumerate_iter (wpAny_call_entry F.slot_enumerate_iter ⟨_,h1,rfl⟩ F.entry_enumerate_iter ?_ (F.args_enumerate_iter_1 _))
  show wpAny _ _ (ret (.ref _)) _ _ _
  exact wpAny_pure ⟨_,rfl, "enumerate", _,⟨_,h1,rfl⟩,F.slot_enumerate_next.lookup,h⟩
section
variable {X:Cx}
def iZip (K:PySem.W.Frag) (ta:TA):TI:=fun σ H R=>ta σ H fun vs H1=>∃ l1 l2,vs = [.ref l1,.ref l2]∧(∃ xs,SqL K H1 l1 xs)∧(∃ xs,SqL K H1 l2 xs)∧R (Itz K l1 l2) H1
theorem pi_zip {elts:List Expr} {x1} {tp:Pos} {a b:Expr} {ta:TA} {p pos:Pos} (hg:Gl X "zip") (hm:X.mg "zip" = none) (ha:PA X [a,b] ta) (hs:starEach [a,b] X.env = [(false,eval a X.env),(false,eval b X.env)]:=by rfl) (hs2:starEach [b] X.env = [(false,eval b X.env)]:=by rfl) :
  PI X (.Tuple elts x1 tp) (.Call (.Name "zip" p) [a,b] [] pos) (iZip X.K ta):=by
 intro pins s σ H R I h
 refine Call_ (ld_blt I hg hm boot_zip (PyProof.Rows.callWith_type1 (thn (ha pos pins s σ H _ I h) fun us s1 ⟨vs,H1,I1,r1,q1⟩=>?_) (by rw [hs,hs2]) (by rw [hs2]; rfl)))
 obtain ⟨l1,l2,e,⟨xs,hx⟩,⟨ys,hy⟩,q⟩:=q1
 subst e
 obtain ⟨u,v,rfl,ru,rv⟩:=r1.two
 cases ru
 cases rv
 obtain ⟨its1,rv1,p1,hz1⟩:=I1.list hx
 obtain ⟨its2,rv2,p2,hz2⟩:=I1.list hy
 refine call_zip_2 p1.isList p2.isList fun h' a1 a2 a3 a4 a5 a6 a7=>?_
 have b1:l1 < s1.heap.objs.size:=by obtain ⟨_,e,_⟩:=p1.isList; exact Heap.lt_size e
 have b2:l2 < s1.heap.objs.size:=by obtain ⟨_,e,_⟩:=p2.isList; exact Heap.lt_size e
 have I2:Inv X pins σ H1 { s1 with heap:=h' }:=I1.kept (t':=s1.toks) a7
 refine wpAny_pyIter_zip (s:={ s1 with heap:=h' }) a1 ?_
 refine ⟨_,_,_,_,H1,rfl,I2,turn_zip (zipApart_new b1 b2),⟨a1,a2,⟨_,_,a3⟩,a4,a5⟩,fun b hb=>?_,q⟩
 have hb:s1.heap.objs.size≤b:=by
  simp only [List.mem_cons,List.mem_nil_iff,or_false] at hb
  rcases hb with rfl | rfl | rfl | rfl | rfl
  ·exact Nat.le_add_right _ 4
  ·exact Nat.le_add_right _ 2
  ·exact Nat.le_add_right _ 3
  ·exact Nat.le_refl _
  ·exact Nat.le_add_right _ 1
 exact I1.fpOk hb (I1.hok.fresh hb)
def iEnum (K:PySem.W.Frag) (ta:TA):TI:=fun σ H R=>ta σ H fun vs H1=>∃ l,vs = [.ref l]∧(∃ xs,SqL K H1 l xs)∧R (Ite K l) H1
theorem pi_enum {elts:List Expr} {x1} {tp:Pos} {a:Expr} {ta:TA} {p pos:Pos} (hg:Gl X "enumerate") (hm:X.mg "enumerate" = none) (ha:PA X [a] ta) (hs:starEach [a] X.env = [(false,eval a X.env)]:=by rfl) :
  PI X (.Tuple elts x1 tp) (.Call (.Name "enumerate" p) [a] [] pos) (iEnum X.K ta):=by
 intro pins s σ H R I h
 refine Call_ (ld_blt I hg hm boot_enumerate (PyProof.Rows.callWith_type1 (thn (ha pos pins s σ H _ I h) fun us s1 ⟨vs,H1,I1,r1,q1⟩=>?_) hs rfl))
 obtain ⟨l,e,⟨xs,hx⟩,q⟩:=q1
 subst e
 obtain ⟨u,rfl,ru⟩:=r1.one
 cases ru
 obtain ⟨its1,rv1,p1,hz1⟩:=I1.list hx
 refine call_enumerate_list p1.isList fun h' a1 a4 a6 a7=>?_
 have I2:Inv X pins σ H1 { s1 with heap:=h' }:=I1.kept (t':=s1.toks) a7
 have T:=turn_enum (P:=X.prog) (w:=X.w) (K:=X.K) (elts:=elts) (x1:=x1) (tp:=tp) (e:=s1.heap.objs.size + 1) (it:=s1.heap.objs.size) (l:=l) (Nat.ne_of_gt (Nat.lt_succ_self _))
 refine T.self X.A 0 { s1 with heap:=h' } _ _ ⟨⟨_,a1⟩,a4⟩ ?_
 refine ⟨_,_,_,_,H1,rfl,I2,T,⟨⟨_,a1⟩,a4⟩,fun b hb=>?_,q⟩
 have hb:s1.heap.objs.size≤b:=by
  simp only [List.mem_cons,List.mem_nil_iff,or_false] at hb
  rcases hb with rfl | rfl
  ·exact Nat.le_add_right _ 1
  ·exact Nat.le_refl _
 exact I1.fpOk hb (I1.hok.fresh hb)
end
theorem for_zip {K:PySem.W.Frag} {l1 l2:Addr} {xs ys:List V} {g:TG} {tb:TS} {D:Ends} {σ:St} {H:Hp} (hlen:xs.length = ys.length) (Pv:Nat→St→Hp→Prop) (h0:Pv 0 σ H) (hl:∀ i σ H,i≤xs.length→Pv i σ H→SqL K H l1 xs∧SqL K H l2 ys)
  (hs:∀ i x y T σ H,xs[i]? = some x→ys[i]? = some y→Pv i σ H→H T = none→g (.ref T) σ (upd H T (.tup [x,y])) fun σ2 H2=>tb { D with nx:=Pv (i + 1),ct:=Pv (i + 1),bk:=D.nx } σ2 H2) (hd:∀ σ H,Pv xs.length σ H→D.nx σ H) :
  ∃ W:Nat→Nat→St→Hp→Prop,(∃ m,W 0 m σ H)∧∀ i m σ H,W i m σ H →
   ((Itz K l1 l2).stop i H∧D.nx σ H)∨((Itz K l1 l2).go i H∧∃ N:St→Hp→Prop,(∀ σ' H',N σ' H'→∃ m',m' < m∧W (i + 1) m' σ' H')∧∀ x H',(Itz K l1 l2).yld i H x H'→g x σ H' fun σ2 H2=>tb { D with nx:=N,ct:=N,bk:=D.nx } σ2 H2):=by
 refine ⟨fun i m σ H=>m = xs.length - i∧i≤xs.length∧Pv i σ H,⟨xs.length,by simp,Nat.zero_le _,h0⟩,?_⟩
 rintro i m σ H ⟨rfl,hi,p⟩
 obtain ⟨q1,q2⟩:=hl i σ H hi p
 by_cases hlt:i < xs.length
 ·refine .inr ⟨⟨xs,ys,xs[i],ys[i]'(by omega),q1,q2,by simp [hlt],by simp [show i < ys.length by omega]⟩,Pv (i + 1),fun σ' H' p'=>⟨xs.length - (i + 1),by omega,rfl,hlt,p'⟩,fun x H' y=>?_⟩
  obtain ⟨T,a,b,rfl,hT,rfl,y1,y2⟩:=y
  exact hs i a b T σ H (y1 xs q1) (y2 ys q2) p hT
 ·have e:i = xs.length:=by omega
  subst e
  exact .inl ⟨⟨xs,ys,q1,q2,.inl (Nat.le_refl _)⟩,hd σ H p⟩
theorem for_enum {K:PySem.W.Frag} {l:Addr} {xs:List V} {g:TG} {tb:TS} {D:Ends} {σ:St} {H:Hp} (Pv:Nat→St→Hp→Prop) (h0:Pv 0 σ H) (hl:∀ i σ H,i≤xs.length→Pv i σ H→SqL K H l xs)
  (hs:∀ i x T σ H,xs[i]? = some x→Pv i σ H→H T = none→g (.ref T) σ (upd H T (.tup [.int i,x])) fun σ2 H2=>tb { D with nx:=Pv (i + 1),ct:=Pv (i + 1),bk:=D.nx } σ2 H2) (hd:∀ σ H,Pv xs.length σ H→D.nx σ H) :
  ∃ W:Nat→Nat→St→Hp→Prop,(∃ m,W 0 m σ H)∧∀ i m σ H,W i m σ H →
   ((Ite K l).stop i H∧D.nx σ H)∨((Ite K l).go i H∧∃ N:St→Hp→Prop,(∀ σ' H',N σ' H'→∃ m',m' < m∧W (i + 1) m' σ' H')∧∀ x H',(Ite K l).yld i H x H'→g x σ H' fun σ2 H2=>tb { D with nx:=N,ct:=N,bk:=D.nx } σ2 H2):=by
 refine ⟨fun i m σ H=>m = xs.length - i∧i≤xs.length∧Pv i σ H,⟨xs.length,by simp,Nat.zero_le _,h0⟩,?_⟩
 rintro i m σ H ⟨rfl,hi,p⟩
 have q1:=hl i σ H hi p
 by_cases hlt:i < xs.length
 ·refine .inr ⟨⟨xs,xs[i],q1,by simp [hlt]⟩,Pv (i + 1),fun σ' H' p'=>⟨xs.length - (i + 1),by omega,rfl,hlt,p'⟩,fun x H' y=>?_⟩
  obtain ⟨T,a,rfl,hT,rfl,y1⟩:=y
  exact hs i a T σ H (y1 xs q1) p hT
 ·have e:i = xs.length:=by omega
  subst e
  exact .inl ⟨⟨xs,q1,Nat.le_refl _⟩,hd σ H p⟩
inductive Nd where
 | s (x:Str)
 | i (n:Int)
 | t (xs:List Nd)
def Tp (H H':Hp):Prop:=∀ b xs,H b = some (.tup xs)→H' b = some (.tup xs)
theorem Tp.trans {H H1 H2:Hp} (a:Tp H H1) (b:Tp H1 H2):Tp H H2:=fun c xs h=>b c xs (a c xs h)
theorem Same.tp {H H':Hp} (h:Same H H'):Tp H H':=fun b xs e=>h b _ e
theorem Tp.lst {H:Hp} {a:Addr} {o:HO} {ys:List V} (h:H a = some (.lst ys)):Tp H (upd H a o):=fun b xs e=>by rw [upd_ne (ne_of e h (by intro z; cases z))]; exact e
theorem same_new {H:Hp} {p:Addr} (h:H p = none) (o:HO):Same H (upd H p o):=fun b u q=>by rw [upd_ne (ne_of_none q h)]; exact q
theorem Same.young {H H1:Hp} {p:Addr} (g:Same H H1) (h:H p = none) (o:HO):Same H (upd H1 p o):=fun b u q=>by rw [upd_ne (ne_of_none q h)]; exact g b u q
def isT:Nd→Bool
 | .t _=>true
 | _=>false
mutual
def pre:Nd→List Nd
 | .t xs=>.t xs :: preL xs
 | .s _=>[]
 | .i _=>[]
def preL:List Nd→List Nd
 | []=>[]
 | x :: r=>preL r ++ pre x
end
def cnt (n:Nd):Nat:=(pre n).length
def inner (xs:List Nd):List Nd:=xs.filter isT
theorem small {n:Nat} (h:n≤1000):n≤sizeLine:=Nat.le_of_lt (small1000 h)
theorem atI_neg1 {α:Type} {xs:List α} {v:α} (h:xs[xs.length - 1]? = some v):atI xs (-1) = some v:=by
 have hl:0 < xs.length:=by
  rcases Nat.eq_zero_or_pos xs.length with z | z
  ·rw [List.length_eq_zero_iff.mp z] at h; simp at h
  ·exact z
 unfold atI ixN
 rw [if_neg (by omega),if_pos (by omega)]
 show xs[((-1:Int) + xs.length).toNat]? = some v
 rw [show ((-1:Int) + (xs.length:Int)).toNat = xs.length - 1 by omega]
 exact h
theorem atI_neg2 {α:Type} {xs:List α} {v:α} (h1:2≤xs.length) (h:xs[xs.length - 2]? = some v):atI xs (-2) = some v:=by
 unfold atI ixN
 rw [if_neg (by omega),if_pos (by omega)]
 show xs[((-2:Int) + xs.length).toNat]? = some v
 rw [show ((-2:Int) + (xs.length:Int)).toNat = xs.length - 2 by omega]
 exact h
theorem new2 {H:Hp} {p q:Addr} {a b:HO} (h:H p = none) (h2:(upd H p a) q = none):Same H (upd (upd H p a) q b)∧(upd (upd H p a) q b) p = some a∧(upd (upd H p a) q b) q = some b :=
 ⟨(same_new h a).trans (same_new h2 b),same_new h2 b _ _ upd_same,upd_same⟩
theorem new3 {H:Hp} {p q r:Addr} {a b c:HO} (h:H p = none) (h2:(upd H p a) q = none) (h3:(upd (upd H p a) q b) r = none) :
  Same H (upd (upd (upd H p a) q b) r c)∧(upd (upd (upd H p a) q b) r c) p = some a∧(upd (upd (upd H p a) q b) r c) q = some b∧(upd (upd (upd H p a) q b) r c) r = some c :=
 ⟨((same_new h a).trans (same_new h2 b)).trans (same_new h3 c),same_new h3 c _ _ (same_new h2 b _ _ upd_same),same_new h3 c _ _ upd_same,upd_same⟩
theorem new4 {H:Hp} {p q r s:Addr} {a b c d:HO} (h:H p = none) (h2:(upd H p a) q = none) (h3:(upd (upd H p a) q b) r = none) (h4:(upd (upd (upd H p a) q b) r c) s = none) :
  Same H (upd (upd (upd (upd H p a) q b) r c) s d)∧(upd (upd (upd (upd H p a) q b) r c) s d) p = some a∧(upd (upd (upd (upd H p a) q b) r c) s d) q = some b∧(upd (upd (upd (upd H p a) q b) r c) s d) r = some c∧(upd (upd (upd (upd H p a) q b) r c) s d) s = some d :=
 ⟨(new3 h h2 h3).1.trans (same_new h4 d),same_new h4 d _ _ (new3 h h2 h3).2.1,same_new h4 d _ _ (new3 h h2 h3).2.2.1,same_new h4 d _ _ (new3 h h2 h3).2.2.2,upd_same⟩
theorem new5 {H:Hp} {p q r s u:Addr} {a b c d e:HO} (h:H p = none) (h2:(upd H p a) q = none) (h3:(upd (upd H p a) q b) r = none) (h4:(upd (upd (upd H p a) q b) r c) s = none) (h5:(upd (upd (upd (upd H p a) q b) r c) s d) u = none) :
  Same H (upd (upd (upd (upd (upd H p a) q b) r c) s d) u e)∧(upd (upd (upd (upd (upd H p a) q b) r c) s d) u e) p = some a∧(upd (upd (upd (upd (upd H p a) q b) r c) s d) u e) q = some b∧(upd (upd (upd (upd (upd H p a) q b) r c) s d) u e) r = some c ∧
   (upd (upd (upd (upd (upd H p a) q b) r c) s d) u e) s = some d∧(upd (upd (upd (upd (upd H p a) q b) r c) s d) u e) u = some e :=
 ⟨(new4 h h2 h3 h4).1.trans (same_new h5 e),same_new h5 e _ _ (new4 h h2 h3 h4).2.1,same_new h5 e _ _ (new4 h h2 h3 h4).2.2.1,same_new h5 e _ _ (new4 h h2 h3 h4).2.2.2.1,same_new h5 e _ _ (new4 h h2 h3 h4).2.2.2.2,upd_same⟩
def FunM (K:PySem.W.Frag) (mg:Str→Option Value) (x:Str) (ps:List Str) (st:Stmt):Prop:=∃ f fd,Fun K x x st f fd∧mg x = some (.ref f)∧Binds K fd ps []
def Callee (P:Program) (w:World) (K:PySem.W.Frag) (mg:Str→Option Value) (base:Heap) (k:Nat) (x:Str) (ps:List Str) (sp:Sp):Prop :=
 ∃ f fd,FnOk P w K mg base CX0 k f fd ps sp∧Binds K fd ps []∧PySem.W.keepIn K (.ref f) = true∧mg x = some (.ref f)
section
variable {P:Program} {w:World} {K:PySem.W.Frag} {mg:Str→Option Value} {base:Heap}
theorem Callee.mono {j k:Nat} {x:Str} {ps:List Str} {sp:Sp} (C:Callee P w K mg base j x ps sp) (h:j≤k):Callee P w K mg base k x ps sp:=by
 obtain ⟨f,fd,F,b,kp,m⟩:=C
 exact ⟨f,fd,F.mono h,b,kp,m⟩
theorem Callee.imp {k:Nat} {x:Str} {ps:List Str} {sp sp':Sp} (C:Callee P w K mg base k x ps sp) (h:∀ vs H Q E,sp' vs H Q E→sp vs H Q E):Callee P w K mg base k x ps sp':=by
 obtain ⟨f,fd,F,b,kp,m⟩:=C
 exact ⟨f,fd,F.imp h,b,kp,m⟩
theorem FunM.ok {x:Str} {st:Stmt} {N ps:List Str} {k:Nat} {sp:Sp} (F:FunM K mg x ps st) (S:FnScope N ps (defScope st)) (len:∀ vs H Q E,sp vs H Q E→vs.length = ps.length)
  (hbody:∀ (f:Addr) (cdv:Value) (A:Around) (outer:List Env) (s:Shared) (H:Hp) (vs:List V) (Q:VK) (E:XK),Room k (A.deeper (envOfC x (defScope st) s.heap.objs.size f cdv))→sp vs H Q E →
   ∃ t,PSs (cxOf CX0 P w K mg base N x (defScope st) f cdv A outer s H E).nox (defBody st) t∧t { nx:=fun _ H'=>Q .non H',rt:=Q } (start N vs) H):Callee P w K mg base (k + 1) x ps sp:=by
 obtain ⟨f,fd,F,m,b⟩:=F
 exact ⟨f,fd,F.ok S len (hbody f),b,F.kp,m⟩
theorem FunM.zero {x:Str} {st:Stmt} {ps:List Str} {sp:Sp} (F:FunM K mg x ps st) (no:∀ vs H Q E,¬ sp vs H Q E):Callee P w K mg base 0 x ps sp:=by
 obtain ⟨f,fd,F,m,b⟩:=F
 exact ⟨f,fd,⟨fun vs H Q E h=>absurd h (no vs H Q E),fun A outer s H args us vs Q E _ _ _ _ h=>absurd h (no vs H Q E)⟩,b,F.kp,m⟩
end
section
variable {X:Cx} {x:Str} {p pos:Pos} {e:Expr} {es:List Expr} {t:TA} {k j:Nat} {ps:List Str} {sp:Sp} {E:XK}
theorem pe_callC (C:Callee X.prog X.w X.K X.mg X.base j x ps sp) (hr:Room k X.A) (hg:Gl X x) (hx:Passes CX0 X E) (ha:PA X (e :: es) t) (hj:j≤k:=by first | decide | omega)
  (hdb:(x == ("__debug__" : Str)) = false:=by decide) (he:starEach (e :: es) X.env = (false,eval e X.env) :: starEach es X.env:=by rfl) (hpl:(backTo pos (starEach es X.env)).any (·.1) = false:=by rfl) :
  PE X (.Call (.Name x p) (e :: es) [] pos) (tCall sp [] E t):=by
 obtain ⟨f,fd,F,b,kp,m⟩:=C
 exact pe_call (F.mono hj) hr hg m kp b .nil hx ha hdb he hpl
end
section
variable {X:Cx}
def rLen (K:PySem.W.Frag):List V→Hp→VK→Prop:=fun xs H Q=>∃ p ys,xs = [.ref p]∧(SqL K H p ys∨SqT K H p ys)∧Q (.int ys.length) H
theorem call_lenK:CallR X (.builtin "len") (rLen X.K):=call_len_seq
theorem call_sorted:CallR X (.builtin "sorted") (fun xs H Q=>∃ p ns,xs = [.ref p]∧SqL X.K H p ((ns:List Int).map V.int)∧ns.length < 64 ∧
  ∀ r (ms:List Int),H r = none→ms.Perm ns→ms.Pairwise (·≤·)→Q (.ref r) (upd H r (.lst (ms.map V.int)))):=by
 intro pins s σ H xs us Q I r h
 obtain ⟨p,ns,rfl,hS,hl,q⟩:=h
 obtain ⟨u,rfl,ru⟩:=r.one
 cases ru
 obtain ⟨its,rv,pl,hz⟩:=I.list hS
 have hI:=intsAre_of rv
 have el:=rv.length
 rw [List.length_map] at el
 refine sorted_ints pl.isList hI (by omega) fun out ns' a1 a2 a3=>?_
 obtain ⟨e,he⟩:=sortedAll_at s.heap its out
 have hlen:=a2.length_eq
 have hn:H (s.heap.objs.size + 1) = none:=I.hok.fresh (Nat.le_succ _)
 refine ⟨.ref (s.heap.objs.size + 1),_,I.laid (t':=s.toks) (o:=.lst (ns'.map V.int)) (fun b o e=>sortedAll_old e) (Nat.le_succ _) ?_,rfl,q _ ns' hn a2 a3⟩
 refine ⟨by rw [List.length_map]; exact small (by omega),out.toList,e,vals_ints a1,?_⟩
 rw [he]
theorem ints_all {ns ms:List Int} (h:ns.length = ms.length):((List.range ns.length).all fun j=>decide (ns[j]? = ms[j]?)) = decide (ns = ms):=by
 by_cases e:ns = ms
 ·subst e; simp
 ·rw [decide_eq_false e]
  refine Bool.eq_false_iff.mpr fun z=>e ?_
  rw [List.all_eq_true] at z
  refine List.ext_getElem? fun i=>?_
  by_cases hi:i < ns.length
  ·exact of_decide_eq_true (z i (List.mem_range.mpr hi))
  ·rw [List.getElem?_eq_none_iff.mpr (by omega),List.getElem?_eq_none_iff.mpr (by omega)]
theorem ints_at {A:Around} {s:Shared} {ns ms:List Int} {us ws:List Value} (r:Vals (ns.map V.int) us) (r':Vals (ms.map V.int) ws):∀ j (h1:j < us.toArray.size) (h2:j < ws.toArray.size),SeqAt.EqAt A s us.toArray[j] ws.toArray[j] (decide (ns[j]? = ms[j]?)):=by
 intro j h1 h2
 have l1:=r.length
 have l2:=r'.length
 rw [List.length_map] at l1 l2
 have h1':j < ns.length:=by simpa [l1] using h1
 have h2':j < ms.length:=by simpa [l2] using h2
 obtain ⟨u,eu,ru⟩:=r.get (i:=j) (x:=V.int ns[j]) (by rw [List.getElem?_map,List.getElem?_eq_getElem h1']; rfl)
 obtain ⟨v,ev,rv⟩:=r'.get (i:=j) (x:=V.int ms[j]) (by rw [List.getElem?_map,List.getElem?_eq_getElem h2']; rfl)
 have e1:us.toArray[j] = u:=by
  have:us[j]? = some us.toArray[j]:=by simp
  rw [eu] at this
  exact (Option.some.inj this).symm
 have e2:ws.toArray[j] = v:=by
  have:ws[j]? = some ws.toArray[j]:=by simp
  rw [ev] at this
  exact (Option.some.inj this).symm
 rw [e1,e2]
 have z:=eqAt_V (A:=A) (s:=s) ru rv rfl rfl
 have e3:eqV (V.int ns[j]) (V.int ms[j]) = decide (ns[j]? = ms[j]?):=by
  rw [List.getElem?_eq_getElem h1',List.getElem?_eq_getElem h2']
  show (ns[j] == ms[j]) = _
  by_cases q:ns[j] = ms[j]
  ·rw [q]; simp
  ·rw [decide_eq_false fun z=>q (Option.some.inj z)]; simpa using q
 rw [← e3]
 exact z
def rEqI (K:PySem.W.Frag) (neg:Bool):R2:=fun x y H Q=>∃ p q ns ms,x = .ref p∧y = .ref q∧SqL K H p ((ns:List Int).map V.int)∧SqL K H q ((ms:List Int).map V.int)∧Q (.bl (if neg then !decide (ns = ms) else decide (ns = ms))) H
theorem op_neI (hu:X.A.units < cLine):OpR X (compareOp .NotEq) (rEqI X.K true):=by
 intro pins s σ H x y v u Q I rx ry h
 obtain ⟨p,q,ns,ms,rfl,rfl,h1,h2,hq⟩:=h
 cases rx
 cases ry
 obtain ⟨us,r1,p1,z1⟩:=I.list h1
 obtain ⟨ws,r2,p2,z2⟩:=I.list h2
 have l1:=r1.length
 have l2:=r2.length
 rw [List.length_map] at l1 l2
 by_cases e:ns.length = ms.length
 ·refine SeqAt.RcNeAt.lists p1.isList p2.isList (by simp; omega) hu (ints_at r1 r2) X.prog X.w X.xe _ ?_
  rw [List.size_toArray,← l1,ints_all e]
  exact ⟨.bl _,H,I,rfl,hq⟩
 ·refine SeqAt.RcNeAt.lists_lengths p1.isList p2.isList (by simp; omega) hu X.prog X.w X.xe _ ?_
  have d:decide (ns = ms) = false:=decide_eq_false fun z=>e (by rw [z])
  rw [d] at hq
  exact ⟨.bl _,H,I,rfl,hq⟩
theorem inV_ints {n:Int} {ns:List Int}:inV (.int n) (ns.map V.int) = decide (n∈ns):=by
 unfold inV
 rw [List.any_map]
 by_cases e:n∈ns
 ·rw [decide_eq_true e,List.any_eq_true]
  exact ⟨n,e,by show (n == n) = true; simp⟩
 ·rw [decide_eq_false e]
  refine Bool.eq_false_iff.mpr fun z=>e ?_
  rw [List.any_eq_true] at z
  obtain ⟨m,hm,h⟩:=z
  have:(m == n) = true:=h
  rw [← eq_of_beq this]
  exact hm
theorem flat_ints (ns:List Int):(ns.map V.int).all flatV = true:=by
 rw [List.all_eq_true]
 intro x hx
 obtain ⟨n,_,rfl⟩:=List.mem_map.mp hx
 rfl
theorem sorted_one:∀ {a b:List Int},a.Perm b→a.Pairwise (·≤·)→b.Pairwise (·≤·)→a = b:=by
 intro a
 induction a with
 | nil=>intro b p _ _; exact (List.Perm.nil_eq p)
 | cons x r ih =>
  intro b p ha hb
  cases b with
  | nil=>exact absurd p.length_eq (by simp)
  | cons y t =>
   rw [List.pairwise_cons] at ha hb
   have e:x = y:=by
    have h1:x∈y :: t:=p.subset List.mem_cons_self
    have h2:y∈x :: r:=p.symm.subset List.mem_cons_self
    rcases List.mem_cons.mp h1 with z | z
    ·exact z
    ·rcases List.mem_cons.mp h2 with z' | z'
     ·exact z'.symm
     ·have:=hb.1 x z
      have:=ha.1 y z'
      omega
   subst e
   rw [ih ((List.perm_cons x).mp p) ha.2 hb.2]
end
abbrev CompW (J:It) (g:TG) (tc:TT) (te:TE) (σY:St) (F:Addr→List V→Hp→Prop) (H:Hp):Prop :=
 ∃ W:Nat→Nat→List V→Hp→Prop,(∃ m,W 0 m [] H)∧∀ i m ys H,W i m ys H →
   (J.stop i H∧∀ D,H D = none→F D ys H) ∨
   (J.go i H∧ys.length < sizeLine∧∀ x H',J.yld i H x H'→g x σY H' fun σ2 H2=>tc σ2 H2 fun b H3=>if b = true then te σ2 H3 fun y H4=>∃ m',m' < m∧W (i + 1) m' (ys ++ [y]) H4 else ∃ m',m' < m∧W (i + 1) m' ys H3)
theorem comp_gen {J:It} {k:Nat} {g:TG} {tc:TT} {te:TE} {σY:St} {H:Hp} {F:Addr→List V→Hp→Prop} (Pv:Nat→List V→Hp→Prop) (h0:Pv 0 [] H) (hz:k≤sizeLine)
  (hgo:∀ i ys H,i < k→Pv i ys H→J.go i H) (hst:∀ ys H,Pv k ys H→J.stop k H)
  (hs:∀ i x ys H H' (N:List V→Hp→Prop),i < k→Pv i ys H→J.yld i H x H'→ys.length≤i→(∀ ys' H',ys'.length≤i + 1→Pv (i + 1) ys' H'→N ys' H')→g x σY H' fun σ2 H2=>tc σ2 H2 fun b H3=>if b = true then te σ2 H3 fun y H4=>N (ys ++ [y]) H4 else N ys H3)
  (hd:∀ ys H,ys.length≤k→Pv k ys H→∀ D,H D = none→F D ys H):CompW J g tc te σY F H:=by
 refine ⟨fun i m ys H=>m = k - i∧i≤k∧ys.length≤i∧Pv i ys H,⟨k,by simp,Nat.zero_le _,Nat.le_refl _,h0⟩,?_⟩
 rintro i m ys H ⟨rfl,hi,hyl,p⟩
 by_cases hlt:i < k
 ·refine .inr ⟨hgo i ys H hlt p,by omega,fun x H' y=>?_⟩
  exact hs i x ys H H' (fun ys' H4=>∃ m',m' < k - i∧m' = k - (i + 1)∧i + 1≤k∧ys'.length≤i + 1∧Pv (i + 1) ys' H4) hlt p y hyl fun ys' H4 l q=>⟨k - (i + 1),by omega,rfl,hlt,l,q⟩
 ·have e:i = k:=by omega
  subst e
  exact .inl ⟨hst ys H p,hd ys H hyl p⟩
theorem comp_list {K:PySem.W.Frag} {a:Addr} {xs:List V} {g:TG} {tc:TT} {te:TE} {σY:St} {H:Hp} {F:Addr→List V→Hp→Prop} (Pv:Nat→List V→Hp→Prop) (h0:Pv 0 [] H) (hz:xs.length≤sizeLine) (hl:∀ i ys H,Pv i ys H→SqL K H a xs)
  (hs:∀ i x ys H (N:List V→Hp→Prop),xs[i]? = some x→Pv i ys H→(∀ ys' H',ys'.length≤i + 1→Pv (i + 1) ys' H'→N ys' H')→ys.length≤i→g x σY H fun σ2 H2=>tc σ2 H2 fun b H3=>if b = true then te σ2 H3 fun y H4=>N (ys ++ [y]) H4 else N ys H3)
  (hd:∀ ys H,ys.length≤xs.length→Pv xs.length ys H→∀ D,H D = none→F D ys H):CompW (Itl K a) g tc te σY F H :=
 comp_gen Pv h0 hz (fun i ys H hi p=>⟨xs,xs[i],hl i ys H p,by simp [hi]⟩) (fun ys H p=>⟨xs,hl _ ys H p,Nat.le_refl _⟩)
  (fun i x ys H H' N hi p ⟨e,y⟩ hyl k=>by subst e; exact hs i x ys _ N (y xs (hl i ys _ p)) p k hyl) hd
theorem comp_range {lo:Int} {n:Nat} {g:TG} {tc:TT} {te:TE} {σY:St} {H:Hp} {F:Addr→List V→Hp→Prop} (Pv:Nat→List V→Hp→Prop) (h0:Pv 0 [] H) (hz:n≤sizeLine)
  (hs:∀ i ys H (N:List V→Hp→Prop),i < n→Pv i ys H→(∀ ys' H',ys'.length≤i + 1→Pv (i + 1) ys' H'→N ys' H')→ys.length≤i→g (.int (lo + i)) σY H fun σ2 H2=>tc σ2 H2 fun b H3=>if b = true then te σ2 H3 fun y H4=>N (ys ++ [y]) H4 else N ys H3)
  (hd:∀ ys H,ys.length≤n→Pv n ys H→∀ D,H D = none→F D ys H):CompW (Itr lo n) g tc te σY F H :=
 comp_gen Pv h0 hz (fun i ys H hi p=>hi) (fun ys H p=>Nat.le_refl _)
  (fun i x ys H H' N hi p ⟨e,y⟩ hyl k=>by subst e y; exact hs i ys _ N hi p k hyl) hd
theorem comp_enum {K:PySem.W.Frag} {a:Addr} {xs:List V} {g:TG} {tc:TT} {te:TE} {σY:St} {H:Hp} {F:Addr→List V→Hp→Prop} (Pv:Nat→List V→Hp→Prop) (h0:Pv 0 [] H) (hz:xs.length≤sizeLine) (hl:∀ i ys H,Pv i ys H→SqL K H a xs)
  (hs:∀ i x T ys H (N:List V→Hp→Prop),xs[i]? = some x→Pv i ys H→H T = none→(∀ ys' H',ys'.length≤i + 1→Pv (i + 1) ys' H'→N ys' H')→ys.length≤i→g (.ref T) σY (upd H T (.tup [.int i,x])) fun σ2 H2=>tc σ2 H2 fun b H3=>if b = true then te σ2 H3 fun y H4=>N (ys ++ [y]) H4 else N ys H3)
  (hd:∀ ys H,ys.length≤xs.length→Pv xs.length ys H→∀ D,H D = none→F D ys H):CompW (Ite K a) g tc te σY F H :=
 comp_gen Pv h0 hz (fun i ys H hi p=>⟨xs,xs[i],hl i ys H p,by simp [hi]⟩) (fun ys H p=>⟨xs,hl _ ys H p,Nat.le_refl _⟩)
  (fun i x ys H H' N hi p ⟨T,z,e1,hT,e2,y⟩ hyl k=>by subst e1 e2; exact hs i z T ys _ N (y xs (hl i ys _ p)) p hT k hyl) hd
end L2
end
section
set_option Elab.async false
set_option linter.all false
set_option maxRecDepth 100000
namespace L2
open PySem PySem.Spec PyProof.Rows
section
variable {κ:Type} [DecidableEq κ]
def valV (kvs:List (κ× V)) (k:κ):Option V:=(kvs.find? fun kv=>decide (kv.1 = k)).map (·.2)
def putK (kvs:List (κ× V)) (k:κ) (v:V):List (κ× V) :=
 if (kvs.any fun kv=>decide (kv.1 = k)) = true then kvs.map (fun kv=>if kv.1 = k then (kv.1,v) else kv) else kvs ++ [(k,v)]
theorem valV_pos {p:κ× V} {r:List (κ× V)} {k:κ} (e:p.1 = k):valV (p :: r) k = some p.2:=by simp [valV,List.find?_cons,e]
theorem valV_neg {p:κ× V} {r:List (κ× V)} {k:κ} (e:¬ p.1 = k):valV (p :: r) k = valV r k:=by simp [valV,List.find?_cons,e]
theorem valV_any (k:κ):∀ kvs:List (κ× V),(kvs.any fun kv=>decide (kv.1 = k)) = (valV kvs k).isSome
 | []=>rfl
 | p :: r=>by
  rw [List.any_cons]
  by_cases e:p.1 = k
  ·simp only [valV_pos e,decide_eq_true e,Bool.true_or,Option.isSome_some]
  ·rw [valV_neg e,decide_eq_false e,Bool.false_or]; exact valV_any k r
theorem valV_map (k j:κ) (y:V):∀ kvs:List (κ× V),valV (kvs.map fun kv=>if kv.1 = k then (kv.1,y) else kv) j = (valV kvs j).map fun x=>if j = k then y else x
 | []=>rfl
 | p :: r=>by
  have ih:=valV_map k j y r
  rw [List.map_cons]
  by_cases h:p.1 = k
  ·rw [if_pos h]
   by_cases e:p.1 = j
   ·rw [valV_pos (p:=(p.1,y)) e,valV_pos e,Option.map_some,if_pos (e.symm.trans h)]
   ·rw [valV_neg (p:=(p.1,y)) e,valV_neg e,ih]
  ·rw [if_neg h]
   by_cases e:p.1 = j
   ·rw [valV_pos (p:=p) e,valV_pos e,Option.map_some,if_neg (fun z=>h (e.trans z))]
   ·rw [valV_neg (p:=p) e,valV_neg e,ih]
theorem valV_snoc (k j:κ) (y:V):∀ kvs:List (κ× V),valV kvs k = none→valV (kvs ++ [(k,y)]) j = if j = k then some y else valV kvs j
 | [],_=>by
  by_cases e:k = j
  ·rw [if_pos e.symm]; exact valV_pos (p:=(k,y)) e
  ·rw [if_neg (fun z=>e z.symm)]; exact valV_neg (p:=(k,y)) e
 | p :: r,hn=>by
  rw [List.cons_append]
  have hk:¬ p.1 = k:=fun z=>by rw [valV_pos z] at hn; cases hn
  rw [valV_neg hk] at hn
  have ih:=valV_snoc k j y r hn
  by_cases e:p.1 = j
  ·rw [valV_pos e,valV_pos e,if_neg (fun z=>hk (e.trans z))]
  ·rw [valV_neg e,valV_neg e,ih]
theorem valV_put (kvs:List (κ× V)) (k j:κ) (y:V):valV (putK kvs k y) j = if j = k then some y else valV kvs j:=by
 unfold putK
 by_cases a:(kvs.any fun kv=>decide (kv.1 = k)) = true
 ·rw [if_pos a,valV_map]
  rw [valV_any] at a
  by_cases e:j = k
  ·obtain ⟨x,hx⟩:=Option.isSome_iff_exists.mp a
   rw [if_pos e,e,hx,Option.map_some,if_pos rfl]
  ·rw [if_neg e]
   cases valV kvs j with
   | none=>rfl
   | some x=>rw [Option.map_some,if_neg e]
 ·rw [if_neg a]
  refine valV_snoc k j y kvs ?_
  rw [valV_any] at a
  cases q:valV kvs k with
  | none=>rfl
  | some x=>rw [q] at a; exact (a rfl).elim
theorem length_putK (kvs:List (κ× V)) (k:κ) (v:V):(putK kvs k v).length≤kvs.length + 1:=by
 unfold putK
 split
 ·rw [List.length_map]; omega
 ·rw [List.length_append,List.length_cons,List.length_nil]; omega
theorem RelO.isSome_eq {o:Option V} {u:Option Value} (r:RelO o u):o.isSome = u.isSome:=by
 cases o with
 | none=>cases u with
  | none=>rfl
  | some _=>exact (show False from r).elim
 | some _=>cases u with
  | none=>exact (show False from r).elim
  | some _=>rfl
theorem KV.val {kvs:List (κ× V)} {vs:List (κ× Value)} (r:KV kvs vs) (k:κ):RelO (valV kvs k) (valueAt vs k):=by
 unfold KV at r
 induction r with
 | nil=>exact True.intro
 | @cons p q ps qs h t ih =>
  obtain ⟨h1,h2⟩:=h
  by_cases e:p.1 = k
  ·have e':q.1 = k:=h1.symm.trans e
   have b:valueAt (q :: qs) k = some q.2:=by simp [valueAt,List.find?_cons,e']
   rw [valV_pos e,b]; exact h2
  ·have e':¬ q.1 = k:=fun z=>e (h1.trans z)
   have b:valueAt (q :: qs) k = valueAt qs k:=by simp [valueAt,List.find?_cons,e']
   rw [valV_neg e,b]; exact ih
theorem KV.any {kvs:List (κ× V)} {vs:List (κ× Value)} (r:KV kvs vs) (k:κ):(kvs.any fun kv=>decide (kv.1 = k)) = vs.any fun kv=>decide (kv.1 = k):=by
 unfold KV at r
 induction r with
 | nil=>rfl
 | cons h t ih=>rw [List.any_cons,List.any_cons,ih,h.1]
theorem KV.repl {kvs:List (κ× V)} {vs:List (κ× Value)} (r:KV kvs vs) (k:κ) {y:V} {u:Value} (ry:RelV y u) :
  KV (kvs.map fun kv=>if kv.1 = k then (kv.1,y) else kv) (vs.map fun kv=>if kv.1 = k then (kv.1,u) else kv):=by
 unfold KV at r ⊢
 induction r with
 | nil=>exact .nil
 | @cons p q ps qs h t ih =>
  rw [List.map_cons,List.map_cons]
  refine .cons ?_ ih
  obtain ⟨h1,h2⟩:=h
  by_cases e:p.1 = k
  ·rw [if_pos e,if_pos (h1.symm.trans e)]; exact ⟨h1,ry⟩
  ·rw [if_neg e,if_neg (fun z=>e (h1.trans z))]; exact ⟨h1,h2⟩
theorem KV.put {kvs:List (κ× V)} {vs:List (κ× Value)} (r:KV kvs vs) (k:κ) {y:V} {u:Value} (ry:RelV y u):KV (putK kvs k y) (stored vs k u):=by
 unfold putK stored
 rw [r.any k]
 by_cases e:(vs.any fun kv=>decide (kv.1 = k)) = true
 ·rw [if_pos e,if_pos e]; exact r.repl k ry
 ·rw [if_neg e,if_neg e]; exact Paired.snoc r ⟨rfl,ry⟩
theorem KV.length {kvs:List (κ× V)} {vs:List (κ× Value)} (r:KV kvs vs):kvs.length = vs.length:=Paired.length r
end
theorem kV_is {P:Program} {w:World} {k:Key} {u:Value} (r:RelV (kV k) u):(mixKind P w).is k u = true:=by
 cases k with
 | inl i=>obtain ⟨t,e⟩:=(show ∃ t,u = Value.int i t from r); subst e; exact mixKind_int P w i t
 | inr x=>obtain ⟨t,e⟩:=(show ∃ t,u = Value.str x t from r); subst e; exact mixKind_str P w x t
theorem items_are {P:Program} {w:World}:∀ {ks:List Key} {us:List Value},Vals (ks.map kV) us→ItemsAre (mixKind P w) ks us
 | [],_,r=>by rw [List.map_nil] at r; cases r; exact .nil
 | k :: ks,_,r=>by
  rw [List.map_cons] at r
  cases r with
  | cons h t=>exact .cons (kV_is h) (items_are t)
abbrev KT (H:Hp):List (List Key× V)→List (List Key× Addr× Value)→Prop:=Paired fun p q=>p.1 = q.1∧H q.2.1 = some (.tup (p.1.map kV))∧RelV p.2 q.2.2
theorem KT.val {H:Hp} {kvs:List (List Key× V)} {xs:List (List Key× Addr× Value)} (r:KT H kvs xs) (k:List Key):RelO (valV kvs k) ((atKey xs k).map (·.2)):=by
 induction r with
 | nil=>exact True.intro
 | @cons p q ps qs h t ih =>
  obtain ⟨h1,_,h2⟩:=h
  by_cases e:p.1 = k
  ·have e':q.1 = k:=h1.symm.trans e
   have b:atKey (q :: qs) k = some q.2:=by simp [atKey,List.find?_cons,e']
   rw [valV_pos e,b]; exact h2
  ·have e':¬ q.1 = k:=fun z=>e (h1.trans z)
   have b:atKey (q :: qs) k = atKey qs k:=by simp [atKey,List.find?_cons,e']
   rw [valV_neg e,b]; exact ih
theorem KT.repl {H:Hp} {kvs:List (List Key× V)} {xs:List (List Key× Addr× Value)} (r:KT H kvs xs) (k:List Key) {y:V} {u:Value} (ry:RelV y u) :
  KT H (kvs.map fun kv=>if kv.1 = k then (kv.1,y) else kv) (xs.map (putAt k u)):=by
 induction r with
 | nil=>exact .nil
 | @cons p q ps qs h t ih =>
  rw [List.map_cons,List.map_cons]
  refine .cons ?_ ih
  obtain ⟨h1,h2,h3⟩:=h
  unfold putAt
  by_cases e:p.1 = k
  ·rw [if_pos e,if_pos (h1.symm.trans e)]; exact ⟨h1,h2,ry⟩
  ·rw [if_neg e,if_neg (fun z=>e (h1.trans z))]; exact ⟨h1,h2,h3⟩
theorem KT.put {H:Hp} {kvs:List (List Key× V)} {xs:List (List Key× Addr× Value)} (r:KT H kvs xs) (k:List Key) {b:Addr} {y:V} {u:Value} (hb:H b = some (.tup (k.map kV))) (ry:RelV y u) :
  KT H (putK kvs k y) (storedH xs k b u):=by
 have e:(kvs.any fun kv=>decide (kv.1 = k)) = (atKey xs k).isSome:=by
  rw [valV_any,(r.val k).isSome_eq,Option.isSome_map]
 unfold putK storedH
 rw [e]
 by_cases q:(atKey xs k).isSome = true
 ·rw [if_pos q,if_pos q]; exact r.repl k ry
 ·rw [if_neg q,if_neg q]; exact Paired.snoc r ⟨rfl,hb,ry⟩
theorem KT.keeps {H H':Hp} {kvs:List (List Key× V)} {xs:List (List Key× Addr× Value)} (r:KT H kvs xs) (ht:∀ b ys,H b = some (.tup ys)→H' b = some (.tup ys)):KT H' kvs xs :=
 Paired.mapP r fun _ _ z=>⟨z.1,ht _ _ z.2.1,z.2.2⟩
section
variable {P:Program} {w:World} {H:Hp} {h:Heap} {a:Addr}
theorem rd_of {u:HO} (ok:HOk P w H h) (e:Rd H a u):ObjOk P w H h a u:=e.ok ok
theorem dk_rd {kvs:List (Key× V)} (ok:HOk P w H h) (e:Rd H a (.dK kvs)):kvs.length≤sizeLine∧(a == sysModules) = false∧∃ vs,KV kvs vs∧h.DictOf (mixKind P w) a vs :=
 show ObjOk P w H h a (.dK kvs) from rd_of ok e
theorem dk_of {kvs:List (Key× V)} (ok:HOk P w H h) (e:H a = some (.dK kvs)):kvs.length≤sizeLine∧(a == sysModules) = false∧∃ vs,KV kvs vs∧h.DictOf (mixKind P w) a vs:=dk_rd ok (.inl e)
theorem key_of {ks:List Key} (ok:HOk P w H h) (e:H a = some (.tup (ks.map kV))):(tupleKind (mixKind P w)).is h ks a:=by
 obtain ⟨_,its,r,o,h1,h2,n,h3⟩:=(show ObjOk P w H h a (.tup (ks.map kV)) from ok a _ e)
 exact ⟨o,its.toArray,n,h1,h2,h3,by simpa using items_are r⟩
theorem dt_rd {kvs:List (List Key× V)} (ok:HOk P w H h) (e:Rd H a (.dT kvs)):kvs.length≤sizeLine∧(a == sysModules) = false ∧
  ∃ xs,KT H kvs xs∧h.DictOfH (tupleKind (mixKind P w)) a xs:=by
 obtain ⟨z,y,xs,r,o,es,ep,h1,h2,h3,h4,h5⟩:=(show ObjOk P w H h a (.dT kvs) from rd_of ok e)
 refine ⟨z,y,xs,r,o,es,ep,h1,h2,h3,h4,fun x hx=>?_,h5⟩
 have all:∀ {l:List (List Key× V)} {m:List (List Key× Addr× Value)},KT H l m→∀ x∈m,(tupleKind (mixKind P w)).is h x.1 x.2.1:=by
  intro l m q
  induction q with
  | nil=>intro x hx; exact nomatch hx
  | @cons p q ps qs hq t ih =>
   intro x hx
   rcases List.mem_cons.mp hx with e | hx
   ·subst e
    exact key_of ok (by rw [← hq.1]; exact hq.2.1)
   ·exact ih x hx
 exact all r x hx
theorem dt_of {kvs:List (List Key× V)} (ok:HOk P w H h) (e:H a = some (.dT kvs)):kvs.length≤sizeLine∧(a == sysModules) = false ∧
  ∃ xs,KT H kvs xs∧h.DictOfH (tupleKind (mixKind P w)) a xs:=dt_rd ok (.inl e)
end
def DGet (H:Hp) (a:Addr) (y:V) (r:Option V):Prop :=
 (∃ kvs k,Rd H a (.dK kvs)∧y = kV k∧r = valV kvs k)∨∃ kvs k b,Rd H a (.dT kvs)∧y = .ref b∧H b = some (.tup (k.map kV))∧r = valV kvs k
def DPut (H:Hp) (a:Addr) (y v:V) (H':Hp):Prop :=
 (∃ kvs k,H a = some (.dK kvs)∧y = kV k∧kvs.length < sizeLine∧H' = upd H a (.dK (putK kvs k v))) ∨
 ∃ kvs k b,H a = some (.dT kvs)∧y = .ref b∧H b = some (.tup (k.map kV))∧kvs.length < sizeLine∧H' = upd H a (.dT (putK kvs k v))
theorem DGet.k {H:Hp} {a:Addr} {kvs:List (Key× V)} {k:Key} (e:H a = some (.dK kvs)):DGet H a (kV k) (valV kvs k):=.inl ⟨kvs,k,.inl e,rfl,rfl⟩
theorem DPut.k {H:Hp} {a:Addr} {kvs:List (Key× V)} {k:Key} {v:V} (e:H a = some (.dK kvs)) (hl:kvs.length < sizeLine):DPut H a (kV k) v (upd H a (.dK (putK kvs k v))):=.inl ⟨kvs,k,e,rfl,hl,rfl⟩
section
variable {X:Cx} {pins:List (Addr× Obj)} {σ:St} {H:Hp} {s:Shared} {a:Addr} {y v:V} {u r:Value} {o:Option V} {A:Around} {E:Value→Shared→Prop}
theorem Inv.big (I:Inv X pins σ H s):sysModules < s.heap.objs.size:=by
 have h:mainGlobals < s.heap.objs.size:=(I.mod.glob.keeps I.bk).lt
 exact Nat.lt_trans (by decide) h
theorem d_getItem {Q:Value→Shared→Prop} (hu:A.units + 1 < cLine) (I:Inv X pins σ H s) (g:DGet H a y (some v)) (ry:RelV y u) (h:∀ w' s',Inv X pins σ H s'→RelV v w'→Q w' s') :
  wpAny (model X.prog X.w) A (getItem (.ref a) u) Q E s:=by
 rcases g with ⟨kvs,k,e,ey,l⟩ | ⟨kvs,k,b,e,ey,eb,l⟩
 ·subst ey
  obtain ⟨z,hd,vs,rel,dd⟩:=dk_rd I.hok e
  obtain ⟨w',hw,rw'⟩:=RelO.some_of (v:=v) (o:=valueAt vs k) (by rw [l]; exact rel.val k)
  exact wpAny_getItem_of (kV_is ry) dd.mapOf hw (h w' _ (I.tok _) rw')
 ·subst ey
  cases (show u = Value.ref b from ry)
  obtain ⟨z,hd,xs,rel,dd⟩:=dt_rd I.hok e
  obtain ⟨w',hw,rw'⟩:=RelO.some_of (v:=v) (o:=(atKey xs k).map (·.2)) (by rw [l]; exact rel.val k)
  obtain ⟨p,hp,hp2⟩:=Option.map_eq_some_iff.mp hw
  refine wpAny_getItem_heap (tupleKind_room_in1 hu) (key_of I.hok eb) dd hp ?_
  rw [hp2]
  exact h w' _ (I.tok _) rw'
theorem d_write {h':Heap} {t':Nat} {ob:HO} (I:Inv X pins σ H s) (mu:Mut (H a)) (hs:Heap.SameBut a s.heap h') (he:∃ q,h'.get? a = some q) (new:ObjOk X.prog X.w (upd H a ob) h' a ob) :
  Inv X pins σ (upd H a ob) { s with heap:=h',toks:=t' } :=
 I.write (x:=a) (e:=a) mu (.inl rfl) (fun b q hb z=>(hs.2 b hb).trans z) he new
theorem dk_new {P:Program} {w:World} {H':Hp} {h':Heap} {kvs:List (Key× V)} {vs:List (Key× Value)} (z:kvs.length≤sizeLine) (hd:(a == sysModules) = false) (rel:KV kvs vs) (dd:h'.DictOf (mixKind P w) a vs) :
  ObjOk P w H' h' a (.dK kvs):=⟨z,hd,vs,rel,dd⟩
theorem d_setItem {H':Hp} {Q:Unit→Shared→Prop} (hu:A.units + 1 < cLine) (I:Inv X pins σ H s) (g:DPut H a y v H') (ry:RelV y u) (rv:RelV v r) (h:∀ s',Inv X pins σ H' s'→Q () s') :
  wpAny (model X.prog X.w) A (setItem (.ref a) u r) Q E s:=by
 rcases g with ⟨kvs,k,e,ey,l,eH⟩ | ⟨kvs,k,b,e,ey,eb,l,eH⟩
 ·subst ey eH
  obtain ⟨z,hd,vs,rel,dd⟩:=dk_of I.hok e
  have hz:vs.length≤sizeLine:=by rw [← rel.length]; exact z
  have hl:(putK kvs k v).length≤sizeLine:=by have:=length_putK kvs k v; omega
  refine wpAny_setItem_pairs (hsz:=hz) (kV_is ry) dd fun h' dd' hs=>h _ ?_
  have he:∃ q,h'.get? a = some q:=let ⟨q,_,_,hq,_⟩:=dd'; ⟨q,hq⟩
  exact d_write I (by rw [e]; exact True.intro) hs he (dk_new hl hd (rel.put k rv) dd')
 ·subst ey eH
  cases (show u = Value.ref b from ry)
  obtain ⟨z,hd,xs,rel,dd⟩:=dt_of I.hok e
  have hz:xs.length≤sizeLine:=by rw [← Paired.length rel]; exact z
  have hl:(putK kvs k v).length≤sizeLine:=by have:=length_putK kvs k v; omega
  refine wpAny_setItem_heap (hsz:=hz) (tupleKind_room_in1 hu) (key_of I.hok eb) dd fun h' dd' hs=>h _ ?_
  obtain ⟨q,es,ep,hq,h2,h3,h4,_,h5⟩:=dd'
  refine d_write I (by rw [e]; exact True.intro) hs ⟨q,hq⟩ ⟨hl,hd,_,(rel.put k eb rv).keeps fun c ys ec=>?_,q,es,ep,hq,h2,h3,h4,h5⟩
  rw [upd_ne (ne_of ec e (fun z=>nomatch z))]
  exact ec
end
section
variable {X:Cx} {pins:List (Addr× Obj)} {σ:St} {H:Hp} {s:Shared} {a:Addr} {kvs:List (Key× V)} {k:Key} {u:Value} {A:Around} {E:Value→Shared→Prop}
end
def NoSl (i:Expr):Prop:=∀ ov iv,subscripted i false ov iv = operate [ov,iv] (getItem ov iv)
theorem subD_of {prog:Program} {w:World} {A:Around} {E:Value→Shared→Prop} {s:Shared} {env:Env} {value slice:Expr} {pos:Pos} {T id:String} {Q:Value→Shared→Prop}
  (hl:typeLookup (.type T) "__getitem__" = pure (some (.builtin id))) (hs:NoSl slice)
  (h:wpAny (model prog w) A (eval value env) (fun o s₁=>wpAny (model prog w) A (eval slice env) (fun i s₂=>s₂.TypeIs o T∧wpAny (model prog w) A (getItem o i) Q E s₂) E s₁) E s) :
  wpAny (model prog w) A (eval (.Subscript value slice pos) env) Q E s:=by
 refine Subscript_ (wpAny_mono h (fun o s₁ h₁=>wpAny_mono h₁ (fun i s₂ h₂=>?_) fun _ _ x=>x) fun _ _ x=>x)
 obtain ⟨hT,h₂⟩:=h₂
 unfold subscriptTail
 refine wpAny_bind ?_
 rw [getitemInPython_of_ne hT.not_modules]
 refine wpAny_bind (wpAny_specialOf hT hl ?_)
 have fin:wpAny (model prog w) A (subscripted slice false o i) (fun r s₃=>wpAny (model prog w) A (letTemporaryGo value o r >>= fun _=>pure r) Q E s₃) E s₂:=by
  rw [hs o i]
  exact wpAny_operating (wpAny_mono h₂ (fun r s₃ h₃=>wpAny_bind (wpAny_letTemporaryGo (wpAny_pure h₃))) fun _ _ x=>x)
 first
  | exact wpAny_pure (wpAny_bind fin)
  | exact wpAny_bind (wpAny_pure (wpAny_bind fin))
  | exact wpAny_bind fin
theorem dict_typeIs {X:Cx} {pins:List (Addr× Obj)} {σ:St} {H:Hp} {s:Shared} {a:Addr} {y:V} {o:Option V} (I:Inv X pins σ H s) (g:DGet H a y o):s.TypeIs (.ref a) "dict" := by
 rcases g with ⟨kvs,k,e,_,_⟩ | ⟨kvs,k,b,e,_,_,_⟩
 ·obtain ⟨_,_,vs,_,dd⟩:=dk_rd I.hok e
  exact dd.typeIs
 ·obtain ⟨_,_,xs,_,dd⟩:=dt_rd I.hok e
  exact dd.typeIs
def tDGet (td ty:TE):TE:=fun σ H Q=>td σ H fun x H1=>ty σ H1 fun y H2=>∃ a v,x = .ref a∧DGet H2 a y (some v)∧Q v H2
def sDPut (td ty tv:TE):TS:=fun D σ H=>tv σ H fun v H1=>td σ H1 fun x H2=>ty σ H2 fun y H3=>∃ a H4,x = .ref a∧DPut H3 a y v H4∧D.nx σ H4
section
variable {X:Cx} {o i e value:Expr} {pos pos' tpos:Pos} {td ty tv:TE}
theorem pe_dget (hu:X.A.units + 1 < cLine) (ho:PE X o td) (hi:PE X i ty) (hs:NoSl i):PE X (.Subscript o i pos) (tDGet td ty):=by
 intro pins s σ H Q I h
 refine subD_of PySem.F.slot_dict_getitem.lookup hs (thn (ho pins s σ H _ I h) fun u s1 ⟨x,H1,I1,rx,q1⟩=>thn (hi pins s1 σ H1 _ I1 q1) fun iv s2 ⟨y,H2,I2,ry,a,v,ex,g,q2⟩=>?_)
 subst ex
 obtain rfl:u = Value.ref a:=rx
 exact ⟨dict_typeIs I2 g,d_getItem hu I2 g ry fun w' s3 I3 rw'=>⟨v,H2,I3,rw',q2⟩⟩
theorem ps_dput (hu:X.A.units + 1 < cLine) (ho:PE X o td) (hi:PE X i ty) (hv:PE X value tv) (hs:swapsWith value (some (.Subscript o i pos')) pos.line X.env = pure false) :
  PS X (.Assign [.Subscript o i pos'] value pos) (sDPut td ty tv):=by
 intro pins s σ H D I h
 refine wpAny_Assign_Subscript (thn (hv pins s σ H _ I h) fun r s1 ⟨v,H1,I1,rv,q1⟩=>thn (ho pins s1 σ H1 _ I1 q1) fun u s2 ⟨x,H2,I2,rx,q2⟩=>thn (hi pins s2 σ H2 _ I2 q2) fun iv s3 ⟨y,H3,I3,ry,a,H4,ex,g,q3⟩=>?_) hs
 subst ex
 obtain rfl:u = Value.ref a:=rx
 exact d_setItem hu I3 g ry rv fun s4 I4=>⟨σ,H4,I4,q3⟩
end
theorem dk_empty {P:Program} {w:World} {H:Hp} (h:Heap) (hb:sysModules < h.objs.size):ObjOk P w H (h.push { cls:=.type "dict", data:=.dict #[] }) h.objs.size (.dK []) :=
 ⟨Nat.zero_le _,beq_eq_false_iff_ne.mpr (Ne.symm (Nat.ne_of_lt hb)),[],.nil,Heap.DictOf.new h⟩
def tDNewK:TE:=fun _ H Q=>∀ p,H p = none→Q (.ref p) (upd H p (.dK []))
section
variable {X:Cx} {pos:Pos}
theorem pe_dnewK:PE X (.Dict [] [] pos) tDNewK:=fun pins s σ H Q I h =>
 wpAny_Dict_empty ⟨.ref s.heap.objs.size,_,I.laid (a:=s.heap.objs.size) (o:=.dK []) (t':=s.toks) (fun _ _ q=>Heap.get?_push_of_some _ q) (Nat.le_refl _) (dk_empty s.heap I.big),rfl,h _ (I.hok.fresh (Nat.le_refl _))⟩
end
structure M1 (X:Cx) (o:Expr) (m:Str) (apos:Pos) (e:Expr) (cpos:Pos):Prop where
 base:attributeBase o m X.env (eval o X.env) = eval o X.env
 few:((backTo cpos (starEach [e] X.env)).all (fun x=>!x.1) && (backToKw cpos (keywordEach [] X.env)).all (fun x=>x.1.isSome)
  && decide (([e]:List Expr).length + ([]:List Keyword).length + (if ([]:List Keyword).isEmpty then 0 else 1) < 30)) = true
 line:(apos.endLine == cpos.line) = true
 trees:backTo cpos (starEach [e] X.env) = [(false,eval e X.env)]
structure M2 (X:Cx) (o:Expr) (m:Str) (apos:Pos) (e f:Expr) (cpos:Pos):Prop where
 base:attributeBase o m X.env (eval o X.env) = eval o X.env
 few:((backTo cpos (starEach [e,f] X.env)).all (fun x=>!x.1) && (backToKw cpos (keywordEach [] X.env)).all (fun x=>x.1.isSome)
  && decide (([e,f]:List Expr).length + ([]:List Keyword).length + (if ([]:List Keyword).isEmpty then 0 else 1) < 30)) = true
 line:(apos.endLine == cpos.line) = true
 trees:backTo cpos (starEach [e,f] X.env) = [(false,eval e X.env),(false,eval f X.env)]
section
variable {X:Cx} {pins:List (Addr× Obj)} {σ:St} {H:Hp} {s:Shared} {a:Addr} {y d:V} {u r:Value} {o:Option V} {A:Around} {E:Value→Shared→Prop}
end
section
variable {X:Cx} {o e f:Expr} {apos cpos:Pos} {td ty tx:TE}
end
section
variable {X:Cx} {pins:List (Addr× Obj)} {σ:St} {H:Hp} {s:Shared} {a:Addr} {kvs:List (Key× V)} {A:Around} {E:Value→Shared→Prop}
theorem d_copyOf {Q:Value→Shared→Prop} (I:Inv X pins σ H s) (e:Rd H a (.dK kvs)) (h:∀ p s',H p = none→Inv X pins σ (upd H p (.dK kvs)) s'→Q (.ref p) s'):wpAny (model X.prog X.w) A (call (.type "dict") [.ref a]) Q E s:=by
 obtain ⟨z,hd,vs,rel,dd⟩:=dk_rd I.hok e
 refine kt_call_dict hd dd (by rw [← rel.length]; exact z) fun h' dd' hs=>?_
 refine h _ _ (I.hok.fresh (Nat.le_refl _)) (I.laid (a:=s.heap.objs.size) (o:=.dK kvs) (t':=s.toks) (fun b q hq=>?_) (Nat.le_refl _) (dk_new z (beq_eq_false_iff_ne.mpr (Ne.symm (Nat.ne_of_lt I.big))) rel dd'))
 exact (hs.2 b (Nat.ne_of_lt (Heap.lt_size hq))).trans (Heap.get?_push_of_some _ hq)
end
section
variable {X:Cx} {pins:List (Addr× Obj)} {σ:St} {H:Hp} {s:Shared} {a:Addr} {y:V} {u:Value} {A:Around} {E:Value→Shared→Prop}
end
end L2
namespace L2
open PySem PySem.Spec PyProof.Rows
section
variable {X:Cx}
end
end L2
namespace L2
open PySem PySem.Spec PyProof.Rows
section
variable {κ:Type} [DecidableEq κ]
end
end L2
end
section
set_option Elab.async false
set_option linter.all false
set_option maxRecDepth 100000
set_option maxHeartbeats 4000000
namespace L2
open PySem PySem.Spec PyProof.Rows
def ModT (K:PySem.W.Frag) (a:Addr) (vs:List V):Prop:=∃ (o:Obj) (its:Array Value) (n:Nat),K.lookup a = some o∧o.cls = .type "tuple" ∧ o.data = .seq its n∧its.size≤sizeLine∧Vals vs its.toList
def TupAt (K:PySem.W.Frag) (H:Hp) (a:Addr) (vs:List V):Prop:=H a = some (.tup vs)∨ModT K a vs
theorem TupAt.mono {K:PySem.W.Frag} {H H':Hp} (T:Tp H H') {a:Addr} {vs:List V} (h:TupAt K H a vs):TupAt K H' a vs:=h.elim (fun z=>.inl (T a vs z)) .inr
theorem TupAt.sq {K:PySem.W.Frag} {H:Hp} {a:Addr} {vs:List V} (h:TupAt K H a vs):SqT K H a vs:=h.elim SqT.of .inr
mutual
def PAt (K:PySem.W.Frag) (H:Hp):Nd→V→Prop
 | .s x,v=>v = .str x
 | .i n,v=>v = .int n
 | .t xs,v=>∃ a vs,v = .ref a∧TupAt K H a vs∧PAtL K H xs vs
def PAtL (K:PySem.W.Frag) (H:Hp):List Nd→List V→Prop
 | [],vs=>vs = []
 | x :: xs,vs=>∃ v r,vs = v :: r∧PAt K H x v∧PAtL K H xs r
end
mutual
theorem PAt.mono {K:PySem.W.Frag} {H H':Hp} (T:Tp H H'):∀ {n:Nd} {v:V},PAt K H n v→PAt K H' n v
 | .s x,v,h=>h
 | .i n,v,h=>h
 | .t xs,v,h=>by
  obtain ⟨a,vs,e,q,r⟩:=h
  exact ⟨a,vs,e,q.mono T,PAtL.mono T r⟩
theorem PAtL.mono {K:PySem.W.Frag} {H H':Hp} (T:Tp H H'):∀ {xs:List Nd} {vs:List V},PAtL K H xs vs→PAtL K H' xs vs
 | [],vs,h=>h
 | x :: xs,vs,h=>by
  obtain ⟨v,r,e,q,l⟩:=h
  exact ⟨v,r,e,PAt.mono T q,PAtL.mono T l⟩
end
theorem PAtL.nil {K:PySem.W.Frag} {H:Hp}:PAtL K H [] []:=by unfold PAtL; rfl
theorem PAtL.cons {K:PySem.W.Frag} {H:Hp} {x:Nd} {xs:List Nd} {v:V} {r:List V} (a:PAt K H x v) (l:PAtL K H xs r):PAtL K H (x :: xs) (v :: r):=by unfold PAtL; exact ⟨v,r,rfl,a,l⟩
theorem PAt.s {K:PySem.W.Frag} {H:Hp} {x:Str}:PAt K H (.s x) (.str x):=by unfold PAt; rfl
theorem PAt.i {K:PySem.W.Frag} {H:Hp} {x:Int}:PAt K H (.i x) (.int x):=by unfold PAt; rfl
theorem PAt.t {K:PySem.W.Frag} {H:Hp} {a:Addr} {xs:List Nd} {vs:List V} (h:TupAt K H a vs) (l:PAtL K H xs vs):PAt K H (.t xs) (.ref a):=by unfold PAt; exact ⟨a,vs,rfl,h,l⟩
theorem PAt.get {K:PySem.W.Frag} {H:Hp} {xs:List Nd} {v:V} (h:PAt K H (.t xs) v):∃ a vs,v = .ref a∧TupAt K H a vs∧PAtL K H xs vs:=by unfold PAt at h; exact h
theorem PAt.str {K:PySem.W.Frag} {H:Hp} {x:Str} {v:V} (h:PAt K H (.s x) v):v = .str x:=by unfold PAt at h; exact h
theorem PAt.int {K:PySem.W.Frag} {H:Hp} {x:Int} {v:V} (h:PAt K H (.i x) v):v = .int x:=by unfold PAt at h; exact h
theorem PAtL.one {K:PySem.W.Frag} {H:Hp} {x:Nd} {vs:List V} (h:PAtL K H [x] vs):∃ v,vs = [v]∧PAt K H x v:=by
 unfold PAtL at h
 obtain ⟨v,r,rfl,q,l⟩:=h
 unfold PAtL at l
 subst l
 exact ⟨v,rfl,q⟩
theorem PAtL.two {K:PySem.W.Frag} {H:Hp} {x y:Nd} {vs:List V} (h:PAtL K H [x,y] vs):∃ v w,vs = [v,w]∧PAt K H x v∧PAt K H y w:=by
 unfold PAtL at h
 obtain ⟨v,r,rfl,q,l⟩:=h
 obtain ⟨w,rfl,q'⟩:=l.one
 exact ⟨v,w,rfl,q,q'⟩
def TyK (K:PySem.W.Frag) (H:Hp) (x:V) (t:Value):Prop:=TyOf K H x t∨∃ a vs,x = .ref a∧ModT K a vs∧t = .type "tuple"
def rIsiK (K:PySem.W.Frag):List V→Hp→VK→Prop:=fun xs H Q=>∃ x T t b,xs = [x,.ty T]∧TyK K H x t∧PySem.W.kitOne K t (.type T) = some b∧Q (.bl b) H
section
variable {X:Cx}
theorem call_isinstK:CallR X (.builtin "isinstance") (rIsiK X.K):=by
 intro pins s σ H xs us Q I r h
 obtain ⟨x,T,t,b,rfl,ty,e,q⟩:=h
 obtain ⟨u,v,rfl,ru,rv⟩:=r.two
 cases rv
 rcases ty with ty | ⟨a,vs,rfl,⟨o,its,n,lk,hc,hd,hz,rr⟩,rfl⟩
 ·exact isinst_ok I ru ty e fun tk=>⟨.bl b,H,I.tok _,rfl,q⟩
 ·cases ru
  exact PySem.W.kia_one PySem.W.kitx_tuple I.kIn ⟨o,I.kIn _ _ lk,hc⟩ e (fun z=>nomatch z) fun tk=>⟨.bl b,H,I.tok _,rfl,q⟩
theorem call_dict_of:CallR X (.type "dict") (fun xs H Q=>∃ a kvs,xs = [.ref a]∧H a = some (.dK kvs)∧∀ p,H p = none→Q (.ref p) (upd H p (.dK kvs))):=by
 intro pins s σ H xs us Q I r h
 obtain ⟨a,kvs,rfl,ha,q⟩:=h
 obtain ⟨u,rfl,ru⟩:=r.one
 cases ru
 exact d_copyOf I (.inl ha) fun p s' hp I'=>⟨.ref p,_,I',rfl,q p hp⟩
def rIndex:V→List V→Hp→VK→Prop:=fun x vs H Q=>∃ l xs y j z,x = .ref l∧vs = [y]∧H l = some (.lst xs)∧flatV y = true∧xs.all flatV = true∧xs[j]? = some z∧eqV z y = true∧(∀ m z',m < j→xs[m]? = some z'→eqV z' y = false)∧Q (.int (j:Nat)) H
theorem mt_index:MtM X "list.index" rIndex:=by
 intro pins s σ H x vs v us Q I rx rv h
 obtain ⟨l,xs,y,j,z,rfl,rfl,hH,fy,fx,hj,hz,hno,q⟩:=h
 cases rx
 obtain ⟨u,rfl,ru⟩:=rv.one
 obtain ⟨hl,its,n,r,hlen,e⟩:=I.lstM hH
 have hjl:j < its.length:=by rw [← hlen]; exact (List.getElem?_eq_some_iff.mp hj).1
 have at':∀ (m:Nat) (hm:m < its.toArray.size),∃ z',xs[m]? = some z'∧eqU y its.toArray[m] = eqV z' y:=by
  intro m hm
  have hm':m < xs.length:=by rw [hlen]; simpa using hm
  refine ⟨xs[m],List.getElem?_eq_getElem hm',?_⟩
  obtain ⟨w',ew,rw'⟩:=r.get (i:=m) (x:=xs[m]) (List.getElem?_eq_getElem hm')
  have e2:its.toArray[m] = w':=by
   have:its[m]? = some its.toArray[m]:=by simp
   rw [ew] at this
   exact (Option.some.inj this).symm
  rw [e2]
  exact eqU_of rw' (List.all_eq_true.mp fx _ (List.getElem_mem hm'))
 refine call_meets F.slot_list_index ⟨_,e,rfl⟩ F.entry_list_index (F.args_list_index_2 _ _) (SeqAt.list_indexAt l its.toArray n none #[] u (eqU y) j (by simpa using hjl) ?_ ?_ ?_) ⟨e,?_,?_⟩
 ·have:=line63
  omega
 ·obtain ⟨z',e1,e2⟩:=at' j (by simpa using hjl)
  rw [hj] at e1
  cases e1
  rw [e2]
  exact hz
 ·intro m hm hlt
  obtain ⟨z',e1,e2⟩:=at' m hm
  rw [e2]
  exact hno m z' hlt e1
 ·intro w' hw'
  exact mem_eqAt ru fy r fx w' (by simpa using hw')
 ·exact ⟨.int (j:Nat),H,I.tok _,⟨_,rfl⟩,q⟩
end
def MethM (P:Program) (w:World) (K:PySem.W.Frag) (mg:Str→Option Value) (base:Heap) (k:Nat) (C:Addr) (m:Str) (ps:List Str) (sp:Sp):Prop :=
 ∃ f fd,FnOk P w K mg base CX0 k f fd ps sp∧Binds K fd ps []∧Meth K C m f∧Cls K C
section
variable {X:Cx} {o e:Expr} {es:List Expr} {m:Str} {apos pos:Pos} {k j:Nat} {ps:List Str} {sp:Sp} {E:XK} {C:Addr} {ta:TE} {t:TA}
theorem pe_methC0 {pl:Sem Bool} (M:MethM X.prog X.w X.K X.mg X.base j C m ps sp) (hr:Room k X.A) (hx:Passes CX0 X E) (he:PE X o ta) (hj:j≤k:=by first | decide | omega)
  (ht:eval (.Call (.Attribute o m apos) [] [] pos) X.env = (do
   let ov ← eval o X.env
   standAt apos.atName
   let (f,first) ← holding [ov] (getMethod ov m pl)
   callWith pos f first (backTo pos (starEach [] X.env)) (backToKw pos (keywordEach [] X.env))):=by rfl):PE X (.Call (.Attribute o m apos) [] [] pos) (tMeth C m sp [] E ta tNil):=by
 obtain ⟨f,fd,F,b,me,c⟩:=M
 exact pe_meth0 he c me (F.mono hj) hr b .nil hx ht
end
def Kp (r:Addr) (H H':Hp):Prop:=∀ b o,b≠r→H b = some o→H' b = some o
theorem Kp.refl {r:Addr} (H:Hp):Kp r H H:=fun _ _ _ h=>h
theorem Kp.trans {r:Addr} {H H1 H2:Hp} (a:Kp r H H1) (b:Kp r H1 H2):Kp r H H2:=fun c o h e=>b c o h (a c o h e)
theorem Same.kp {r:Addr} {H H':Hp} (g:Same H H'):Kp r H H':=fun b o _ e=>g b o e
theorem Kp.upd {r:Addr} {H:Hp} {o:HO}:Kp r H (L2.upd H r o):=fun b u h e=>by rw [upd_ne h]; exact e
theorem Kp.tpI {r C dx:Addr} {H H':Hp} {fs:List (Str× V)} (k:Kp r H H') (h:H r = some (.ins C dx fs)):Tp H H':=fun b xs e=>k b _ (ne_of e h (by intro z; cases z)) e
theorem Same.byKp {r:Addr} {H H1 H2:Hp} (g:Same H H1) (h:H r = none) (k:Kp r H1 H2):Same H H2:=fun b o e=>k b o (ne_of_none e h) (g b o e)
theorem iteNe {x y:Str} {A B:Prop} (h:¬ x = y) (hB:B):if decide (V.str x = V.str y) = true then A else B:=by
 rw [decide_eq_false fun z=>h (V.str.inj z),if_neg Bool.false_ne_true]; exact hB
theorem iteEq {x:Str} {A B:Prop} (hA:A):if decide (V.str x = V.str x) = true then A else B:=by
 rw [decide_eq_true rfl,if_pos rfl]; exact hA
theorem PAtL.three {K:PySem.W.Frag} {H:Hp} {x y z:Nd} {vs:List V} (h:PAtL K H [x,y,z] vs):∃ v w u,vs = [v,w,u]∧PAt K H x v∧PAt K H y w∧PAt K H z u:=by
 unfold PAtL at h
 obtain ⟨v,r,rfl,q,l⟩:=h
 obtain ⟨w,u,rfl,q',q''⟩:=l.two
 exact ⟨v,w,u,rfl,q,q',q''⟩
theorem PAtL.four {K:PySem.W.Frag} {H:Hp} {x y z z':Nd} {vs:List V} (h:PAtL K H [x,y,z,z'] vs):∃ v w u u',vs = [v,w,u,u']∧PAt K H x v∧PAt K H y w∧PAt K H z u∧PAt K H z' u':=by
 unfold PAtL at h
 obtain ⟨v,r,rfl,q,l⟩:=h
 obtain ⟨w,u,u',rfl,q',q'',q3⟩:=l.three
 exact ⟨v,w,u,u',rfl,q,q',q'',q3⟩
theorem Kp.young {r p:Addr} {H H1:Hp} {o:HO} (k:Kp r H H1) (h:H p = none):Kp r H (L2.upd H1 p o):=fun b u hb e=>by rw [upd_ne (ne_of_none e h)]; exact k b u hb e
section
variable {X:Cx}
end
section
variable {X:Cx}
end
def Rise (xs:Array Nat):Prop:=xs.toList.Pairwise (· < ·)
structure TabOk (led:Bool) (t:SetTable):Prop where
 led:t.led = led
 dum:t.dummies = #[]
 rise:Rise t.place
theorem Rise.lt {xs:Array Nat} (h:Rise xs) {i j:Nat} (hj:j < xs.size) (hij:i < j):xs[i]'(by omega) < xs[j]:=by
 have z:=List.pairwise_iff_getElem.mp h i j (by simp; omega) (by simpa using hj) hij
 simpa using z
theorem below_go {xs:Array Nat} {j:Nat} (h:Rise xs):∀ (fuel lo hi:Nat),lo≤hi→hi≤xs.size→hi - lo≤fuel→(∀ i (q:i < xs.size),i < lo→xs[i] < j)→(∀ i (q:i < xs.size),hi≤i→j≤xs[i]) →
  SetTable.below.go xs j fuel lo hi≤xs.size∧(∀ i (q:i < xs.size),i < SetTable.below.go xs j fuel lo hi→xs[i] < j)∧(∀ i (q:i < xs.size),SetTable.below.go xs j fuel lo hi≤i→j≤xs[i]):=by
 intro fuel
 induction fuel with
 | zero =>
  intro lo hi h1 h2 h3 h4 h5
  have e:lo = hi:=by omega
  subst e
  unfold SetTable.below.go
  exact ⟨h2,h4,h5⟩
 | succ fuel ih =>
  intro lo hi h1 h2 h3 h4 h5
  unfold SetTable.below.go
  by_cases c:lo < hi
  ·rw [if_pos c]
   dsimp only
   have hm:(lo + hi) / 2 < xs.size:=by omega
   have eg:xs.getD ((lo + hi) / 2) j = xs[(lo + hi) / 2]:=by simp [Array.getD,hm]
   by_cases d:xs.getD ((lo + hi) / 2) j < j
   ·rw [if_pos d]
    rw [eg] at d
    refine ih _ _ (by omega) h2 (by omega) (fun i hi' hl=>?_) h5
    rcases Nat.lt_or_ge i ((lo + hi) / 2) with z | z
    ·exact Nat.lt_trans (h.lt hm z) d
    ·have:i = (lo + hi) / 2:=by omega
     subst this
     exact d
   ·rw [if_neg d]
    rw [eg] at d
    refine ih _ _ (by omega) (by omega) (by omega) h4 (fun i hi' hl=>?_)
    rcases Nat.lt_or_ge ((lo + hi) / 2) i with z | z
    ·have:=h.lt hi' z; omega
    ·have:i = (lo + hi) / 2:=by omega
     subst this
     omega
  ·rw [if_neg c]
   have e:lo = hi:=by omega
   subst e
   exact ⟨h2,h4,h5⟩
theorem below_ok {xs:Array Nat} (h:Rise xs) (j:Nat):SetTable.below xs j≤xs.size∧(∀ i (hi:i < xs.size),i < SetTable.below xs j→xs[i] < j)∧(∀ i (hi':i < xs.size),SetTable.below xs j≤i→j≤xs[i]) :=
 below_go h xs.size 0 xs.size (Nat.zero_le _) (Nat.le_refl _) (by omega) (fun _ _ z=>by omega) (fun i hi z=>by omega)
theorem below_next {xs:Array Nat} (h:Rise xs) {i:Nat} (hi:i < xs.size):SetTable.below xs (xs[i] + 1) = i + 1:=by
 obtain ⟨h1,h2,h3⟩:=below_ok h (xs[i] + 1)
 rcases Nat.lt_trichotomy (SetTable.below xs (xs[i] + 1)) (i + 1) with z | z | z
 ·have:=h3 i hi (by omega); omega
 ·exact z
 ·have a:=h2 (i + 1) (by omega) (by omega)
  have b:=h.lt (i:=i) (j:=i + 1) (by omega) (by omega)
  omega
theorem below_zero {xs:Array Nat} (h:Rise xs):SetTable.below xs 0 = 0:=by
 obtain ⟨h1,h2,h3⟩:=below_ok h 0
 rcases Nat.eq_zero_or_pos (SetTable.below xs 0) with z | z
 ·exact z
 ·have:=h2 0 (by omega) z; omega
theorem rise_range (n:Nat):Rise (Array.range n):=by
 unfold Rise
 rw [Array.toList_range]
 exact List.pairwise_lt_range
theorem rise_put {xs:Array Nat} {j:Nat} (h:Rise xs) (hn:xs[SetTable.below xs j]?≠some j):Rise (SetTable.insertAt xs (SetTable.below xs j) j):=by
 obtain ⟨h1,h2,h3⟩:=below_ok h j
 unfold Rise
 rw [SetTable.toList_insertAt,List.pairwise_append]
 refine ⟨List.Pairwise.sublist (List.take_sublist _ _) h,?_,?_⟩
 ·rw [List.pairwise_cons]
  refine ⟨fun y hy=>?_,List.Pairwise.sublist (List.drop_sublist _ _) h⟩
  obtain ⟨i,hi,rfl⟩:=List.mem_iff_getElem.mp hy
  rw [List.length_drop,Array.length_toList] at hi
  rw [List.getElem_drop,Array.getElem_toList]
  have a:=h3 (SetTable.below xs j + i) (by omega) (by omega)
  rcases Nat.eq_zero_or_pos i with z | z
  ·subst z
   rcases Nat.lt_or_ge j (xs[SetTable.below xs j + 0]'(by omega)) with y | y
   ·exact y
   ·exact absurd (by rw [Array.getElem?_eq_getElem (by omega)]; congr 1; simp at a y ⊢; omega) hn
  ·have b:=h3 (SetTable.below xs j) (by omega) (Nat.le_refl _)
   have c:=h.lt (i:=SetTable.below xs j) (j:=SetTable.below xs j + i) (by omega) (by omega)
   omega
 ·intro a ha b hb
  obtain ⟨i,hi,rfl⟩:=List.mem_iff_getElem.mp ha
  rw [List.length_take,Array.length_toList] at hi
  rw [List.getElem_take,Array.getElem_toList]
  have q:=h2 i (by omega) (by omega)
  rcases List.mem_cons.mp hb with z | z
  ·omega
  ·obtain ⟨l,hl,rfl⟩:=List.mem_iff_getElem.mp z
   rw [List.length_drop,Array.length_toList] at hl
   rw [List.getElem_drop,Array.getElem_toList]
   have:=h3 (SetTable.below xs j + l) (by omega) (by omega)
   omega
theorem has_empty (j:Nat):SetTable.has #[] j = false:=by
 unfold SetTable.has
 simp
theorem probe_ok {t:SetTable} {f:Nat→Int} {h:Int} (hd:t.dummies = #[]):∀ (fuel:Nat) (p:SetTable.Probe) (j:Nat) (d:Option Nat),p.dummy = none→SetTable.probe.go t f h fuel p = some (.empty j d)→d = none∧t.place[SetTable.below t.place j]?≠some j:=by
 intro fuel
 induction fuel with
 | zero=>intro p j d _ e; unfold SetTable.probe.go at e; cases e
 | succ fuel ih =>
  intro p j d hp e
  unfold SetTable.probe.go at e
  have hs:t.slot p.j = (if t.place[SetTable.below t.place p.j]? == some p.j then SetTable.Slot.live (SetTable.below t.place p.j) else SetTable.Slot.empty):=by
   unfold SetTable.slot
   dsimp only
   rw [hd,has_empty]
   rfl
  rw [hs] at e
  have adv:(t.advance p).dummy = none:=by
   unfold SetTable.advance
   split
   ·exact hp
   ·exact hp
  by_cases c:(t.place[SetTable.below t.place p.j]? == some p.j) = true
  ·rw [if_pos c] at e
   dsimp only at e
   split at e
   ·cases e
   ·exact ih _ _ _ adv e
  ·rw [if_neg c] at e
   dsimp only at e
   cases e
   exact ⟨hp,fun z=>c (by rw [z]; simp)⟩
theorem free_ok {t:SetTable} {h:Int} {j:Nat} {b:Bool} (hd:t.dummies = #[]) (e:t.freeSlot h = some (j,b)):t.place[SetTable.below t.place j]?≠some j:=by
 unfold SetTable.freeSlot SetTable.probe at e
 split at e
 ·rename_i j' d hq
  obtain ⟨rfl,z⟩:=probe_ok hd _ _ _ _ rfl hq
  cases e
  exact z
 ·cases e
theorem TabOk.standIn {led:Bool} {t:SetTable} (h:TabOk led t) (n:Nat):TabOk led (t.standIn n):=⟨h.led,rfl,rise_range n⟩
theorem TabOk.plainOff {led:Bool} {t:SetTable} (h:TabOk led t):TabOk led { t with plain:=false }:=⟨h.led,h.dum,h.rise⟩
theorem TabOk.layNew {led:Bool} {t:SetTable} (h:TabOk led t) (es:Array (Int× Value)) (k:Int) (x:Value):TabOk led (layNew t es k x).2.1:=by
 unfold PySem.layNew
 split
 ·rename_i j b e
  dsimp only
  have z:=free_ok h.dum e
  have q:TabOk led (t.put j).1:=by
   unfold SetTable.put
   refine ⟨h.led,?_,rise_put h.rise z⟩
   dsimp only
   rw [h.dum,has_empty]
   rfl
  unfold SetTable.orStandIn
  split
  ·exact q
  ·exact q.standIn _
 ·exact h.standIn _
theorem rise_live (owner:Array (Option Nat)) (m:Nat):Rise (((List.range m).filterMap fun j=>(owner.getD j none).map (j,·)).map (·.1)).toArray:=by
 unfold Rise
 have e:((List.range m).filterMap fun j=>(owner.getD j none).map (j,·)).map (·.1) = (List.range m).filter fun j=>(owner.getD j none).isSome:=by
  induction List.range m with
  | nil=>rfl
  | cons a l ih =>
   rw [List.filterMap_cons,List.filter_cons]
   cases q:owner.getD a none with
   | none=>simpa [q] using ih
   | some y=>simpa [q] using ih
 simp only [e]
 exact List.Pairwise.sublist List.filter_sublist List.pairwise_lt_range
theorem TabOk.relay {led:Bool} {t:SetTable} (h:TabOk led t) (es:Array (Int× Value)) (n:Nat):TabOk led (relayAll t es n).2.1:=by
 unfold relayAll
 split
 ·rename_i t' order e
  dsimp only
  split
  ·unfold SetTable.relaid SetTable.laid at e
   simp only [Option.bind_eq_bind,Option.bind_eq_some_iff] at e
   obtain ⟨owner,_,e2⟩:=e
   cases e2
   exact ⟨h.led,rfl,rise_live owner _⟩
  ·exact h.standIn _
 ·exact h.standIn _
theorem erase_perm {α:Type}:∀ (l:List α) (i:Nat) (h:i < l.length),(l[i] :: l.eraseIdx i).Perm l
 | [],i,h=>by simp at h
 | a :: l,0,h=>by simp
 | a :: l,i + 1,h=>by
  have hi:i < l.length:=by simpa using h
  have:=erase_perm l i hi
  simp only [List.getElem_cons_succ,List.eraseIdx_cons_succ]
  exact (List.Perm.swap _ _ _).trans (this.cons a)
theorem pick_go {α:Type} (next:Nat→Nat):∀ (fuel k:Nat) (left:List α) (out:Array α),left.length = fuel→(pickOrder.go next fuel k left out).toList.Perm (out.toList ++ left):=by
 intro fuel
 induction fuel with
 | zero =>
  intro k left out hl
  rw [List.length_eq_zero_iff.mp hl]
  unfold pickOrder.go
  simp
 | succ fuel ih =>
  intro k left out hl
  have hi:next k % left.length < left.length:=Nat.mod_lt _ (by omega)
  unfold pickOrder.go
  rw [List.getElem?_eq_getElem hi]
  dsimp only
  refine (ih _ _ _ (by rw [List.length_eraseIdx_of_lt hi]; omega)).trans ?_
  rw [Array.toList_push,List.append_assoc]
  refine List.Perm.append_left _ ?_
  exact erase_perm _ _ hi
theorem pick_perm {α:Type} (next:Nat→Nat) (xs:Array α):(pickOrder next xs).toList.Perm xs.toList:=by
 have:=pick_go next xs.size 0 xs.toList #[] (by simp)
 unfold pickOrder
 simpa using this
theorem draw_ok {M:Model} {A:Around} {E:Value→Shared→Prop} {α:Type}:∀ (n:Nat) (xs:List α) (s:Shared) (Q:List α→Shared→Prop),xs.length = n →
  (∀ ys d,List.Perm ys xs→Q ys { s with drawn:=d })→wpAny M A (drawOrder n xs) Q E s:=by
 intro n
 induction n with
 | zero =>
  intro xs s Q hl h
  unfold drawOrder
  have e:xs = []:=List.length_eq_zero_iff.mp hl
  subst e
  exact wpAny_pure (h [] s.drawn .nil)
 | succ n ih =>
  intro xs s Q hl h
  cases xs with
  | nil=>cases hl
  | cons x r =>
   unfold drawOrder
   refine wpAny_bind (m:=choose .order (x :: r).length) ?_
   intro Γ p hΓ
   show Sem.wp M Γ (.choose .order (x :: r).length .pure) _ _ p s
   rw [Sem.wp_choose]
   refine ⟨by simp,?_⟩
   generalize hg:M.w.draws .order (s.drawn.get .order) % (x :: r).length = i
   have hi:i < (x :: r).length:=by rw [← hg]; exact Nat.mod_lt _ (by simp)
   have g:wpAny M A (do
     match (x :: r)[i]? with
     | some y=>return y :: (← drawOrder n ((x :: r).eraseIdx i))
     | none=>unsupported "internal:drawOrder") Q E { s with drawn:=s.drawn.bump .order }:=by
    rw [List.getElem?_eq_getElem hi]
    dsimp only
    refine wpAny_bind (ih _ _ _ (by rw [List.length_eraseIdx_of_lt hi]; simp at hl ⊢; omega) fun ys d hp=>wpAny_pure ?_)
    exact h _ d ((List.Perm.cons _ hp).trans (erase_perm _ _ hi))
   trace_state
   exact g
theorem paired_perm {α β:Type} {F:α→β→Prop} {l l':List α} (p:List.Perm l' l):∀ {ms:List β},PySem.Paired F l ms→∃ ms',List.Perm ms' ms∧PySem.Paired F l' ms':=by
 replace p:=p.symm
 induction p with
 | nil=>intro ms h; exact ⟨ms,.refl _,h⟩
 | cons x _ ih =>
  intro ms h
  cases h with
  | cons f t =>
   obtain ⟨ms',q,r⟩:=ih t
   exact ⟨_ :: ms',q.cons _,.cons f r⟩
 | swap x y l =>
  intro ms h
  cases h with
  | cons f t =>
   cases t with
   | cons g u=>exact ⟨_,List.Perm.swap _ _ _,.cons g (.cons f u)⟩
 | trans _ _ ih1 ih2 =>
  intro ms h
  obtain ⟨m1,p1,r1⟩:=ih1 h
  obtain ⟨m2,p2,r2⟩:=ih2 r1
  exact ⟨m2,p2.trans p1,r2⟩
theorem nodup_len {κ:Type} [DecidableEq κ]:∀ {l l':List κ},l.Nodup→(∀ x∈l,x∈l')→l.length≤l'.length
 | [],_,_,_=>Nat.zero_le _
 | a :: t,l',n,h=>by
  have n:=List.nodup_cons.mp n
  have ha:=h a List.mem_cons_self
  have:=nodup_len (l:=t) (l':=l'.erase a) n.2 fun x hx=>(List.mem_erase_of_ne (show x≠a from fun e=>n.1 (e ▸ hx))).mpr (h x (List.mem_cons_of_mem _ hx))
  rw [List.length_erase_of_mem ha] at this
  have hp:0 < l'.length:=List.length_pos_of_mem ha
  rw [List.length_cons]
  omega
section
variable {prog:Program} {w:World} {κ:Type} [DecidableEq κ] (knd:PySem.KeyKind prog w κ)
structure SetD (h:Heap) (a:Addr) (ks:List κ) (o:Obj) (es:Array (Int× Value)) (ep:Nat) (t:SetTable) (ms:List κ):Prop where
 at':h.get? a = some o
 ex:o.ExactSet
 dat:o.data = .set es ep t
 el:ElemsOf knd es.toList
 pr:PySem.Paired (fun e k=>knd.is k e.2 = true) es.toList ms
 nd:ms.Nodup
 mem:∀ k,k∈ms↔k∈ks
 sm:es.size < scanBound
 fit:t.fits es.size = true
 tab:TabOk (!w.params.followText "set-order") t
def SetT (h:Heap) (a:Addr) (ks:List κ):Prop:=∃ o es ep t ms,SetD knd h a ks o es ep t ms
variable {knd}
variable {A:Around} {E:Value→Shared→Prop} {s:Shared} {a:Addr} {ks:List κ} {k:κ} {x:Value}
theorem SetD.keep {h h':Heap} {o es ep t ms} (S:SetD knd h a ks o es ep t ms) (k:h'.get? a = some o):SetD knd h' a ks o es ep t ms:=⟨k,S.ex,S.dat,S.el,S.pr,S.nd,S.mem,S.sm,S.fit,S.tab⟩
theorem SetT.keep {h h':Heap} (S:SetT knd h a ks) (k:∀ o,h.get? a = some o→h'.get? a = some o):SetT knd h' a ks:=by
 obtain ⟨o,es,ep,t,ms,D⟩:=S
 exact ⟨o,es,ep,t,ms,D.keep (k o D.at')⟩
theorem SetT.congr {h:Heap} {ks':List κ} (S:SetT knd h a ks) (e:∀ k,k∈ks↔k∈ks'):SetT knd h a ks':=by
 obtain ⟨o,es,ep,t,ms,D⟩:=S
 exact ⟨o,es,ep,t,ms,⟨D.at',D.ex,D.dat,D.el,D.pr,D.nd,fun k=>(D.mem k).trans (e k),D.sm,D.fit,D.tab⟩⟩
theorem SetD.size {h:Heap} {o es ep t ms} (S:SetD knd h a ks o es ep t ms):es.size = ms.length:=by rw [← PySem.Paired.length S.pr]; simp
theorem SetD.put {h:Heap} {o es ep t ms} (S:SetD knd h a ks o es ep t ms) {es':Array (Int× Value)} {t':SetTable} {ms' ks':List κ} (e1:ElemsOf knd es'.toList) (e2:PySem.Paired (fun e k=>knd.is k e.2 = true) es'.toList ms') (e3:ms'.Nodup)
  (e4:∀ k,k∈ms'↔k∈ks') (e5:es'.size < scanBound) (e6:t'.fits es'.size = true) (e7:TabOk (!w.params.followText "set-order") t') :
  ∃ o',SetD knd (h.update a (Obj.putSet es' t')) a ks' o' es' (ep + 1) t' ms':=by
 have hg:=Heap.get?_update_self (Obj.putSet es' t') S.at' (by rw [putSet_of es' t' S.dat]; rfl)
 rw [putSet_of es' t' S.dat] at hg
 exact ⟨_,hg,S.ex,rfl,e1,e2,e3,e4,e5,e6,e7⟩
theorem is_in {l:List (Int× Value)} {ms:List κ} (p:PySem.Paired (fun e k=>knd.is k e.2 = true) l ms):k∈ms↔∃ e∈l,knd.is k e.2 = true:=by
 induction p with
 | nil=>simp
 | cons f _ ih =>
  rename_i e m l ms _
  rw [List.mem_cons,ih]
  constructor
  ·rintro (rfl | ⟨e',h1,h2⟩)
   ·exact ⟨e,List.mem_cons_self,f⟩
   ·exact ⟨e',List.mem_cons_of_mem _ h1,h2⟩
  ·rintro ⟨e',h1,h2⟩
   rcases List.mem_cons.mp h1 with rfl | h1
   ·exact .inl (knd.inj _ _ _ h2 f)
   ·exact .inr ⟨e',h1,h2⟩
theorem add_tail {g:Bool→Sem Unit} (hg:∀ (b:Bool) (s₁:Shared) (Q':Unit→Shared→Prop),Q' () s₁→wpAny (model prog w) A (g b) Q' E s₁) {o es ep t ms} (S:SetD knd s.heap a ks o es ep t ms)
  {es1:Array (Int× Value)} {t1:SetTable} {ms1 ks1:List κ} (e1:ElemsOf knd es1.toList) (e2:PySem.Paired (fun e k=>knd.is k e.2 = true) es1.toList ms1) (e3:ms1.Nodup)
  (e4:∀ k,k∈ms1↔k∈ks1) (e5:es1.size < scanBound) (e6:t1.fits es1.size = true) (e7:TabOk (!w.params.followText "set-order") t1) {dm:Bool} {R:Option Bool→Shared→Prop}
  (h:∀ h',Heap.SameBut a s.heap h'→SetT knd h' a ks1→R (some true) { s with heap:=h' }) :
  wpAny (model prog w) A (do
   storeSet a es1 t1
   if (!dm && t1.tooFull) = true then do
    g (relayAll t1 es1 (SetTable.grown es1.size)).2.2
    storeSet a (relayAll t1 es1 (SetTable.grown es1.size)).1 (relayAll t1 es1 (SetTable.grown es1.size)).2.1
    pure (some true)
   else pure (some true)) R E s:=by
 refine wpAny_bind (wpAny_storeSet_of S.at' S.dat ?_ (fits_of_scanBound e5))
 obtain ⟨o1,S1⟩:=S.put e1 e2 e3 e4 e5 e6 e7
 have b1:=Heap.SameBut.update s.heap a (Obj.putSet es1 t1)
 by_cases c:(!dm && t1.tooFull) = true
 ·rw [if_pos c]
  have p2:=relayAll_perm t1 es1 (SetTable.grown es1.size)
  have f2:=relayAll_fits t1 es1 (SetTable.grown es1.size)
  have q2:=e7.relay es1 (SetTable.grown es1.size)
  generalize relayAll t1 es1 (SetTable.grown es1.size) = Rl at p2 f2 q2 ⊢
  obtain ⟨es2,t2,gv⟩:=Rl
  dsimp only at p2 f2 q2 ⊢
  obtain ⟨ms2,pm,r2⟩:=paired_perm p2 e2
  have hz:es2.size = es1.size:=by have:=p2.length_eq; simpa using this
  refine wpAny_bind (hg _ _ _ ?_)
  refine wpAny_bind (wpAny_storeSet_of S1.at' S1.dat ?_ (fits_of_scanBound (by omega)))
  obtain ⟨o2,S2⟩:=S1.put (e1.perm p2) r2 (pm.nodup_iff.mpr e3) (fun k=>pm.mem_iff.trans (e4 k)) (by omega) f2 q2
  exact wpAny_pure (h _ (b1.trans (Heap.SameBut.update _ a _)) ⟨_,_,_,_,_,S2⟩)
 ·rw [if_neg c]
  exact wpAny_pure (h _ b1 ⟨_,_,_,_,_,S1⟩)
theorem add_hashed {Q:Bool→Shared→Prop} (hk:knd.is k x = true) (hx:x.scannable = true) (S:SetT knd s.heap a ks) (hr:ks.length + 1 < scanBound)
  (h:∀ b h',Heap.SameBut a s.heap h'→SetT knd h' a (ks ++ [k])→Q b { s with heap:=h' }):wpAny (model prog w) A (setAddHashed a x (knd.hash k)) Q E s:=by
 obtain ⟨o,es,ep,t,ms,D⟩:=S
 have hz:=D.size
 have hml:ms.length≤ks.length:=nodup_len D.nd fun k hk=>(D.mem k).mp hk
 unfold setAddHashed setAddHashedIn
 refine wpAny_holding (wpAny_bind (wpAny_setState_of D.at' D.dat D.fit ?_))
 dsimp only
 rw [byScan_of hx D.sm D.el,if_pos rfl]
 unfold setAddByScan
 refine wpAny_bind (wpAny_bind (wpAny_rule (wpAny_bind (wpAny_setScan_of hk D.at' D.dat D.fit D.el ?_))))
 cases hf:List.findIdx? (fun e=>knd.is k e.2) es.toList with
 | some j =>
  dsimp only
  obtain ⟨hj,pj,_⟩:=List.findIdx?_eq_some_iff_getElem.mp hf
  have hin:k∈ms:=(is_in D.pr).mpr ⟨_,List.getElem_mem hj,pj⟩
  refine wpAny_pure (wpAny_pure ?_)
  have q:=h false s.heap (Heap.SameBut.refl a s.heap) (SetT.congr ⟨o,es,ep,t,ms,D⟩ fun k'=>?_)
  ·cases s; exact q
  ·rw [List.mem_append,List.mem_singleton]
   exact ⟨.inl,fun z=>z.elim id fun z=>by subst z; exact (D.mem _).mp hin⟩
 | none =>
  dsimp only
  have hout:¬ k∈ms:=fun z=>by
   obtain ⟨e,he,q⟩:=(is_in D.pr).mp z
   have:=List.findIdx?_eq_none_iff.mp hf e he
   rw [q] at this; cases this
  have p1:=layNew_perm t es (knd.hash k) x
  have f1:=layNew_fits t es (knd.hash k) x
  have q1:=D.tab.layNew es (knd.hash k) x
  generalize layNew t es (knd.hash k) x = L at p1 f1 q1 ⊢
  obtain ⟨es1,t1,dm,gv⟩:=L
  dsimp only at p1 f1 q1 ⊢
  rw [Array.toList_push] at p1
  have e1:=(D.el.push hk hx).perm p1
  obtain ⟨ms1,pm,r1⟩:=paired_perm p1 (D.pr.snoc (F:=fun (e:Int× Value) k=>knd.is k e.2 = true) hk)
  have z1:es1.size = es.size + 1:=by have:=p1.length_eq; simpa using this
  have e3:ms1.Nodup:=pm.nodup_iff.mpr (List.nodup_append.mpr ⟨D.nd,by simp,fun y hy z hz=>by rw [List.mem_singleton] at hz; subst hz; exact fun e=>hout (e ▸ hy)⟩)
  have e4:∀ k',k'∈ms1↔k'∈ks ++ [k]:=fun k'=>by rw [pm.mem_iff,List.mem_append,List.mem_append,D.mem]
  have gw:∀ (b:Bool) (s₁:Shared) (Q':Unit→Shared→Prop),Q' () s₁→wpAny (model prog w) A (match b with | true=>rule "set.scan.the-table-gave-way" | false=>pure ()) Q' E s₁:=fun b s₁ Q' q=>by
   cases b
   ·exact wpAny_pure q
   ·exact wpAny_rule q
  refine wpAny_bind (gw _ _ _ ?_)
  have fin:∀ h',Heap.SameBut a s.heap h'→SetT knd h' a (ks ++ [k])→wpAny (model prog w) A (pure true) Q E { s with heap:=h' }:=fun h' b S'=>wpAny_pure (h true h' b S')
  split
  ·refine wpAny_bind ?_
   rw [hashByValue_scannable 8 hx]
   refine wpAny_pure ?_
   refine add_tail gw D e1 r1 e3 e4 (by omega) (by split; exact f1; exact SetTable.fits_plain_off f1) (by split; exact q1; exact q1.plainOff) ?_
   intro h' b S'
   exact fin h' b S'
  ·refine wpAny_bind (wpAny_pure ?_)
   rw [if_pos rfl]
   refine add_tail gw D e1 r1 e3 e4 (by omega) f1 q1 ?_
   intro h' b S'
   exact fin h' b S'
end
section
variable {prog:Program} {w:World} {κ:Type} [DecidableEq κ] {knd:PySem.KeyKind prog w κ}
theorem set_loop {A:Around} {R:Result→Shared→Prop} {I:Addr} {fp wr:List Addr} {G:Array GenState→Array GenState→Prop} {n:Nat} {P:Nat→Value→Prop} {St:Nat→Shared→Prop} (W:WalksS prog w A.in1 I fp wr G n P St) (S:Addr) (hSf:S∉fp)
  (ks:List κ) (hn:ks.length = n) (hv:∀ i v,P i v→∃ k,ks[i]? = some k∧knd.is k v = true∧v.scannable = true) (hb:n + 1 < scanBound) :
  ∀ (j i:Nat) (s:Shared),n - i = j→i≤n→St i s→SetT knd s.heap S (ks.take i)→(∀ s',Moved (S :: wr) G s s'→SetT knd s'.heap S ks→R (.ok (.ret .none)) s') →
   codeAny (model prog w) A (.builtin "set.update.loop" ⟨[.ref S,.ref I],[]⟩) R s:=by
 have hSw:S∉wr:=fun h=>hSf (W.sub _ h)
 have sub:∀ b∈wr,b∈S :: wr:=fun b hb=>List.mem_cons_of_mem _ hb
 intro j
 induction j with
 | zero =>
  intro i s hj hi st hS hR
  have e:i = n:=by omega
  subst e
  refine codeAny_builtin PyProof.Rows.F.entry_set_update_loop ?_
  rw [Around.under_plainId PyProof.Rows.F.plain_set_update_loop _]
  refine wpAny_bind (m:=pyNext (.ref I)) (W.done s _ _ st fun s' mv=>?_)
  refine wpAny_pure (hR s' (mv.mono sub) ?_)
  rw [List.take_of_length_le (by omega)] at hS
  exact hS.keep fun o q=>mv.heap S o hSw q
 | succ j ih =>
  intro i s hj hi st hS hR
  have hlt:i < n:=by omega
  refine codeAny_builtin PyProof.Rows.F.entry_set_update_loop ?_
  rw [Around.under_plainId PyProof.Rows.F.plain_set_update_loop _]
  refine wpAny_bind (m:=pyNext (.ref I)) (W.item i s _ _ hlt st fun v s' hP st' mv=>?_)
  obtain ⟨k,ek,hk,hx⟩:=hv i v hP
  have hS':SetT knd s'.heap S (ks.take i):=hS.keep fun o q=>mv.heap S o hSw q
  show wpAny _ A.in1 (holding [v] (setAdd S v) >>= _) _ _ s'
  refine wpAny_bind (wpAny_holding ?_)
  unfold setAdd
  refine wpAny_holding (wpAny_bind (knd.pyHash (k:=k) hk ?_))
  refine add_hashed (s:={ s' with toks:=s'.toks + 1 }) hk hx hS' (by rw [List.length_take]; omega) fun b h' sb S2=>?_
  have et:ks.take (i + 1) = ks.take i ++ [k]:=by rw [List.take_add_one,ek]; rfl
  refine wpAny_pure ⟨plainId_quiet PyProof.Rows.F.plain_set_update_loop _,ih (i + 1) _ (by omega) hlt (W.frame _ s' _ _ st' (Nat.le_succ _) fun b hb o q=>?_) (by rw [et]; exact S2) fun s'' mv'' S''=>?_⟩
  ·exact (sb.2 b (fun z:b = S=>hSf (z ▸ hb))).trans q
  ·refine hR s'' (Moved.trans W.gtrans ((mv.mono sub).then_heap (Nat.le_succ _) fun b o hb q=>?_) mv'') S''
   exact (sb.2 b (fun z:b = S=>hb (by rw [z]; exact List.mem_cons_self))).trans q
variable {A:Around} {E:Value→Shared→Prop} {s:Shared}
abbrev setNew (w:World):Obj:={ cls:=.type "set", dict:=none,data:=.set #[] 0 (.fresh 0 0 (!w.params.followText "set-order")) }
theorem code_setNew (a:Value) {Q:Value→Shared→Prop} (h:Q (.ref s.heap.objs.size) { s with heap:=s.heap.push (setNew w) }) :
  codeAny (model prog w) A (.call (.builtin "set.__new__") ⟨[.type "set", a],[]⟩) (wants Q E) s:=by
 refine codeAny_of_tree ?_
 refine wpAny_bind (m:=checkBuiltinCall "set.__new__" ⟨[.type "set", a],[]⟩) (wpAny_of_eq (PySem.F.newCall_set_1 a) (wpAny_pure ⟨plainId_quiet PySem.F.plain_set_new _,codeAny_builtin PySem.F.entry_set_new ?_⟩))
 rw [Around.under_plainId PySem.F.plain_set_new _]
 unfold Builtin.«set.__new__» Builtin.Frozenset.newClass
 have hsub:=sub_set_self
 obtain ⟨hp,g,d,tk,os⟩:=s
 dsimp only
 wp_walk
 refine wpAny_askSetting (wpAny_pure ?_)
 dsimp only
 simp only [newObj]
 refine wpAny_bind (wpAny_alloc (wpAny_pure ?_))
 exact wpAny_pure h
theorem setNew_ok {h:Heap} {a:Addr} (e:h.get? a = some (setNew w)):SetT knd h a [] :=
 ⟨_,#[],0,_,[],e,⟨rfl,rfl,rfl⟩,rfl,fun e he=>by simp at he,.nil,by simp,fun k=>Iff.rfl,by decide,rfl,⟨rfl,rfl,by unfold Rise; exact .nil⟩⟩
end
section
variable {prog:Program} {w:World} {κ:Type} [DecidableEq κ] {knd:PySem.KeyKind prog w κ} {A:Around} {E:Value→Shared→Prop} {s:Shared}
def MadeSet (knd:PySem.KeyKind prog w κ) (s:Shared) (ks:List κ) (s2:Shared):Prop:=∃ h' tk,s2 = { s with heap:=h',toks:=tk }∧SetT knd h' s.heap.objs.size ks∧∀ b o,b < s.heap.objs.size→s.heap.get? b = some o→h'.get? b = some o
theorem init_set {l:Addr} {items:Array Value} {ks:List κ} (hh:A.handled = none) (hl:s.heap.IsList l items) (hn:ks.length = items.size) (hv:∀ (i:Nat) (v:Value),items[i]? = some v→∃ k,ks[i]? = some k∧knd.is k v = true∧v.scannable = true) (hb:items.size + 1 < scanBound)
  {Q:Unit→Shared→Prop} (h:∀ s2,MadeSet knd s ks s2→Q () s2) :
  wpAny (model prog w) A (Builtin.Frozenset.updateFrom "set.__init__" s.heap.objs.size (.ref l)) Q E { s with heap:=s.heap.push (setNew w) }:=by
 obtain ⟨ol,hol,hcl,nl,hdl⟩:=id hl
 have hol':=Heap.get?_push_of_some (setNew w) hol
 have ty:Shared.TypeIs { s with heap:=s.heap.push (setNew w) } (.ref l) "list" := ⟨ol,hol',hcl⟩
 have hll:l < s.heap.objs.size:=Heap.lt_size hol
 have hl1:(s.heap.push (setNew w)).IsList l items:=⟨_,hol',hcl,nl,hdl⟩
 have f1:=PySem.F.sub_list_set
 have f2:=PySem.F.sub_list_frozenset
 unfold Builtin.Frozenset.updateFrom
 refine wpAny_bind (m:=Builtin.Frozenset.isAnySet (.ref l)) ?_
 have e0:Builtin.Frozenset.isAnySet (.ref l) = (isInstance (.ref l) (.type "set") >>= fun b=>if b = true then pure true else isInstance (.ref l) (.type "frozenset")):=by
  unfold Builtin.Frozenset.isAnySet orM toBool
  congr 1
  funext b
  cases b <;> rfl
 rw [e0]
 refine wpAny_bind (wpAny_isInstance ty f1 ?_)
 rw [if_neg Bool.false_ne_true]
 refine wpAny_isInstance ty f2 ?_
 rw [if_neg Bool.false_ne_true]
 refine wpAny_bind (wpAny_typeOf ty ?_)
 rw [if_neg (by decide)]
 refine wpAny_bind (wpAny_pyIter_list hl1 ?_)
 refine wpAny_bind (wpAny_runValue ?_)
 have hh3:A.in1.handled = none:=hh
 have hne:l≠(s.heap.push (setNew w)).objs.size:=by rw [Heap.size_push]; exact Nat.ne_of_lt (Nat.lt_succ_of_lt hll)
 have hSf:s.heap.objs.size∉[(s.heap.push (setNew w)).objs.size,l]:=by
  rw [Heap.size_push]
  simp only [List.mem_cons,List.not_mem_nil,or_false,not_or]
  exact ⟨Nat.ne_of_lt (Nat.lt_succ_self _),Nat.ne_of_gt hll⟩
 refine set_loop (knd:=knd) ((Walks.list hh3 _ l hne items).toS) s.heap.objs.size hSf ks hn hv hb (items.size - 0) 0 _ (by omega) (Nat.zero_le _) ⟨⟨_,Heap.get?_push_size _ rfl,rfl,rfl⟩,hl1.push _⟩ ?_ ?_
 ·exact setNew_ok (Heap.get?_push_of_some _ (Heap.get?_push_size _ rfl))
 ·intro s' mv S'
  refine wpAny_pure (h _ ⟨s'.heap,s'.toks,?_,S',fun b o hb e=>?_⟩)
  ·obtain ⟨h',g',d',tk',os'⟩:=s'
   have eg:g' = s.gens:=mv.gens
   have ed:d' = s.drawn:=mv.drawn
   have eo:os' = s.os:=mv.os
   subst eg ed eo
   rfl
  ·refine mv.heap b o ?_ (Heap.get?_push_of_some _ (Heap.get?_push_of_some _ e))
   rw [Heap.size_push]
   simp only [List.mem_cons,List.not_mem_nil,or_false,not_or]
   exact ⟨Nat.ne_of_lt hb,Nat.ne_of_lt (Nat.lt_succ_of_lt hb)⟩
theorem call_setT {l:Addr} {items:Array Value} {ks:List κ} {Q:Value→Shared→Prop} (hh:A.handled = none) (hl:s.heap.IsList l items) (hn:ks.length = items.size) (hv:∀ (i:Nat) (v:Value),items[i]? = some v→∃ k,ks[i]? = some k∧knd.is k v = true∧v.scannable = true)
  (hb:items.size + 1 < scanBound) (h:∀ s2,MadeSet knd s ks s2→Q (.ref s.heap.objs.size) s2):wpAny (model prog w) A (call (.type "set") [.ref l]) Q E s:=by
 obtain ⟨c,tl,hm⟩:=PySem.F.called_set.mro
 have q1:=PySem.F.called_set.made
 have q2:=PySem.F.called_set.sub
 refine wpAny_call (codeAny_of_tree ?_)
 refine wpAny_pure ⟨Code.quiet_builtin _ (by decide +kernel),codeAny_builtin PySem.F.entry_type_call ?_⟩
 rw [Around.under_plain (weight_type_call_type "set" [.ref l] []) rfl]
 have q3:=PySem.F.called_set.notType
 have q4:=PySem.F.called_set.canCreate
 have q5:=PySem.F.typeCall_set_1 (.ref l)
 repeat any_goals (first | wp_step | assumption)
 refine codeAny_mono (code_setNew (w:=w) (.ref l) (E:=E) (Q:=fun obj s₁=>obj = .ref s.heap.objs.size∧s₁ = { s with heap:=s.heap.push (setNew w) }) ⟨rfl,rfl⟩) fun r s₁ hr=>?_
 cases r with
 | error e=>exact hr
 | ok fl =>
  cases fl with
  | ret obj =>
   obtain ⟨rfl,rfl⟩:=hr
   have hS:(s.heap.push (setNew w)).get? s.heap.objs.size = some (setNew w):=Heap.get?_push_size _ rfl
   have ty:Shared.TypeIs { s with heap:=s.heap.push (setNew w) } (.ref s.heap.objs.size) "set" := ⟨_,hS,rfl⟩
   have q6:=PySem.F.called_set.init.lookup
   have q7:=PySem.F.called_set.init.bind (.ref s.heap.objs.size)
   repeat any_goals (first | wp_step | assumption)
   refine codeAny_mono (codeAny_call_builtin (R:=wants (fun r s₂=>r = .none∧MadeSet knd s ks s₂) E) PySem.F.called_set.init.plain PySem.F.entry_set_init (check_set_init_1 ty ?_)) fun r₂ s₂ hr₂=>?_
   ·unfold Builtin.«set.__init__» noKeywords
    generalize hU:Builtin.Frozenset.updateFrom = U
    have ready:wpAny (model prog w) A.in1.in1 (U "set.__init__" s.heap.objs.size (.ref l)) (fun _ s2=>MadeSet knd s ks s2) (fun e s'=>wants (fun r s₂=>r = .none∧MadeSet knd s ks s₂) E (.error e) s') { s with heap:=s.heap.push (setNew w) }:=by
     rw [← hU]
     exact init_set (A:=A.in1.in1) hh hl hn hv hb fun s2 m=>m
    wp_walk
    refine wpAny_mono ready (fun _ s2 m=>?_) fun _ _ q=>q
    exact wpAny_pure ⟨rfl,m⟩
   ·cases r₂ with
    | error e=>exact hr₂
    | ok fl₂ =>
     cases fl₂ with
     | ret r =>
      obtain ⟨rfl,m⟩:=hr₂
      have z:=h _ m
      repeat any_goals (first | wp_step | assumption)
     | _=>exact hr₂.elim
  | _=>exact hr.elim
end
theorem slot_seti_next:Slot "set_iterator" "__next__" "set_iterator.__next__" :=
 .of (owner:= "set_iterator") (n:= "__next__") (by rw [typeLookup_type,builtinLookup_eq_fast]; kernel_rfl) (by decide +kernel) (by decide +kernel) (by decide +kernel)
  (by first | exact .inl (by decide +kernel) | exact .inr (by decide +kernel)) (by rw [isSubtype_type]; kernel_rfl)
theorem entry_seti_next:entryFor table "set_iterator.__next__" = some Builtin.«set_iterator.__next__»:=entryFor_of_tree (by kernel_rfl)
theorem owner_seti:Manifest.owners.lookup (String.ofList ['r', 'o', 't', 'a', 'r', 'e', 't', 'i', '_', 't', 'e', 's'].reverse) = some Manifest.sig_set_iterator:=by kernel_rfl
theorem args_seti_next (a:Value):argsOk "set_iterator.__next__" ⟨[a],[]⟩:=by
 unfold argsOk
 rw [signature?_of (id:= "set_iterator.__next__") (n:=['_', '_', 't', 'x', 'e', 'n', '_', '_']) (o:=['r', 'o', 't', 'a', 'r', 'e', 't', 'i', '_', 't', 'e', 's']) (by kernel_rfl) owner_seti]
 kernel_rfl
theorem entry_set_iter:entryFor table "set.__iter__" = some Builtin.«frozenset.__iter__» :=
 entryFor_alias (id':= "frozenset.__iter__") (by kernel_rfl) rfl (by decide +kernel) (by kernel_rfl)
abbrev itObj (first:Value) (i:Nat) (a:Addr) (n ep:Nat):Obj:={ cls:=.type "set_iterator", dict:=none,data:=.fields #[first,.int i 0,.ref a,.int n 0,.int ep 0],slots:=#[] }
section
variable {prog:Program} {w:World} {A:Around} {E:Value→Shared→Prop} {s:Shared} {I a:Addr} {i n ep:Nat} {Q:Option Value→Shared→Prop}
theorem stop_now {o:Obj} {vs:Array Value} {m:Nat} (hh:A.handled = none) (ho:s.heap.get? I = some o) (hd:o.data = .fields vs) (hm:m < vs.size) {R:PySem.Fin→Shared→Prop} {E':Value→Shared→Prop}
  (h:∀ x h',(⟨h',s.gens,s.drawn,s.toks,s.os⟩:Shared).TypeIs x "StopIteration" → Heap.ExtBut I s.heap h'→E' x { s with heap:=h' }) :
  wpAny (model prog w) A (do setField (.ref I) m .none; raiseNew (← newExc (.type "StopIteration") [])) R E' s:=by
 refine wpAny_bind (wpAny_setField ho hd hm ?_)
 refine wpAny_bind (m:=newExc (.type "StopIteration") []) ?_
 simp only [newExc,newTuple]
 refine wpAny_bind (wpAny_newObj_type ?_ (by size_fits))
 refine wpAny_bind (m:=firstArgMember _ _) (wpAny_of_eq (a:=Value.none) (by first | rfl | (simp only [firstArgMember]; rfl)) ?_)
 refine wpAny_newObj_type ?_ (by size_fits)
 simp only [raiseNew]
 refine wpAny_bind (wpAny_handled ?_)
 rw [hh]
 refine wpAny_bind (wpAny_pure (wpAny_throw ?_))
 exact h _ _ ⟨_,Heap.get?_push_size _ rfl,rfl⟩ (((Heap.SameBut.update ..).extBut.push _).push _)
theorem next_int {slot nx:Nat} {x:Value} (ho:s.heap.get? I = some (itObj (.int slot 0) i a n ep)) (hz:∀ (A:Around) (E:Value→Shared→Prop) (Q:Array (Int× Value)→Shared→Prop),(∀ es,es.size = n→Q es s)→wpAny (model prog w) A (setEntries a) Q E s)
  (hN:∀ (A:Around) (E:Value→Shared→Prop) (Q:Option (Value× Nat)→Shared→Prop),Q (some (x,nx)) s→wpAny (model prog w) A (setNext a slot i ep) Q E s)
  (hQ:∀ h',h'.get? I = some (itObj (.int nx 0) (i + 1) a n ep)→Heap.SameBut I s.heap h'→Q (some x) { s with heap:=h' }):wpAny (model prog w) A (pyNext (.ref I)) Q E s:=by
 have ty:s.TypeIs (.ref I) "set_iterator" := ⟨_,ho,rfl⟩
 unfold pyNext
 refine wpAny_bind (wpAny_attempt (wpAny_callSpecial?_slot (name:=Str.ofString "__next__") ty slot_seti_next (wpAny_call_entry slot_seti_next ty entry_seti_next ?_ (args_seti_next _))))
 unfold Builtin.«set_iterator.__next__»
 refine wpAny_bind (m:=slotArgs "__next__" 0 _) (wpAny_pure ?_)
 refine wpAny_bind (wpAny_fieldsOf ho rfl ?_)
 show wpAny _ _ (setEntries a >>= _) _ _ s
 refine wpAny_bind (hz _ _ _ fun es e=>?_)
 rw [if_neg (by rw [e]; simp)]
 show wpAny _ _ (setNext a (slot:Int).toNat (i:Int).toNat (ep:Int).toNat >>= _) _ _ s
 simp only [Int.toNat_natCast]
 refine wpAny_bind (hN _ _ _ ?_)
 dsimp only
 refine wpAny_bind (wpAny_setField_rec ho (by simp) fun h1 e1 b1=>?_)
 refine wpAny_bind (wpAny_setField_rec (s:={ s with heap:=h1 }) e1 (by simp) fun h2 e2 b2=>?_)
 refine wpAny_pure ⟨_,rfl,wpAny_pure (hQ h2 ?_ (b1.trans b2))⟩
 rw [e2]
 simp [rawInt]
theorem done_int {slot:Nat} (hh:A.handled = none) (ho:s.heap.get? I = some (itObj (.int slot 0) i a n ep)) (hz:∀ (A:Around) (E:Value→Shared→Prop) (Q:Array (Int× Value)→Shared→Prop),(∀ es,es.size = n→Q es s)→wpAny (model prog w) A (setEntries a) Q E s)
  (hN:∀ (A:Around) (E:Value→Shared→Prop) (Q:Option (Value× Nat)→Shared→Prop),Q none s→wpAny (model prog w) A (setNext a slot i ep) Q E s)
  (hQ:∀ h',Heap.ExtBut I s.heap h'→Q none { s with heap:=h' }):wpAny (model prog w) A (pyNext (.ref I)) Q E s:=by
 have ty:s.TypeIs (.ref I) "set_iterator" := ⟨_,ho,rfl⟩
 unfold pyNext
 refine wpAny_bind (wpAny_attempt (wpAny_callSpecial?_slot (name:=Str.ofString "__next__") ty slot_seti_next (wpAny_call_entry slot_seti_next ty entry_seti_next ?_ (args_seti_next _))))
 unfold Builtin.«set_iterator.__next__»
 refine wpAny_bind (m:=slotArgs "__next__" 0 _) (wpAny_pure ?_)
 refine wpAny_bind (wpAny_fieldsOf ho rfl ?_)
 show wpAny _ _ (setEntries a >>= _) _ _ s
 refine wpAny_bind (hz _ _ _ fun es e=>?_)
 rw [if_neg (by rw [e]; simp)]
 show wpAny _ _ (setNext a (slot:Int).toNat (i:Int).toNat (ep:Int).toNat >>= _) _ _ s
 simp only [Int.toNat_natCast]
 refine wpAny_bind (hN _ _ _ ?_)
 dsimp only
 refine stop_now (A:=A.in1) hh ho rfl (by simp) fun x h' ty' b=>?_
 refine wpAny_bind (wpAny_isInstance (T:= "StopIteration") (b:=true) ty' isSubtype_stop ?_)
 exact wpAny_pure (hQ h' b)
theorem next_tup {tp:Addr} {pl:List Nat} {q:Nat} {x:Value} {h0:Int} {es0:Array (Int× Value)} {t:SetTable} (ho:s.heap.get? I = some (itObj (.ref tp) i a n ep)) (htp:s.heap.get? tp = some { cls:=.type "tuple", data:=.seq (pl.map fun (p:Nat)=>rawInt p).toArray }) (hz:∀ (A:Around) (E:Value→Shared→Prop) (Q:Array (Int× Value)→Shared→Prop),(∀ es,es.size = n→Q es s)→wpAny (model prog w) A (setEntries a) Q E s)
  (hS:∀ (A:Around) (E:Value→Shared→Prop) (Q:Array (Int× Value)× Nat× SetTable→Shared→Prop),Q (es0,ep,t) s→wpAny (model prog w) A (setState a) Q E s)
  (hp:pl[i]? = some q) (hx:es0[q]? = some (h0,x)) (hQ:∀ h',h'.get? I = some (itObj (.ref tp) (i + 1) a n ep)→Heap.SameBut I s.heap h'→Q (some x) { s with heap:=h' }):wpAny (model prog w) A (pyNext (.ref I)) Q E s:=by
 have ty:s.TypeIs (.ref I) "set_iterator" := ⟨_,ho,rfl⟩
 unfold pyNext
 refine wpAny_bind (wpAny_attempt (wpAny_callSpecial?_slot (name:=Str.ofString "__next__") ty slot_seti_next (wpAny_call_entry slot_seti_next ty entry_seti_next ?_ (args_seti_next _))))
 unfold Builtin.«set_iterator.__next__»
 refine wpAny_bind (m:=slotArgs "__next__" 0 _) (wpAny_pure ?_)
 refine wpAny_bind (wpAny_fieldsOf ho rfl ?_)
 show wpAny _ _ (setEntries a >>= _) _ _ s
 refine wpAny_bind (hz _ _ _ fun es e=>?_)
 rw [if_neg (by rw [e]; simp)]
 show wpAny _ _ (seqItems? (.ref tp) >>= _) _ _ s
 refine wpAny_bind (wpAny_seqItems htp rfl ?_)
 dsimp only
 have hq:(pl.map fun (p:Nat)=>rawInt p).toArray[(i:Int).toNat]? = some (rawInt q):=by simp [hp]
 rw [hq]
 show wpAny _ _ (setNextDrawn a (q:Int).toNat (ep:Int).toNat >>= _) _ _ s
 simp only [Int.toNat_natCast]
 unfold setNextDrawn
 refine wpAny_bind (wpAny_bind (hS _ _ _ ?_))
 dsimp only
 rw [if_neg (by simp),hx]
 refine wpAny_pure ?_
 refine wpAny_bind (wpAny_setField_rec ho (by simp) fun h1 e1 b1=>?_)
 refine wpAny_pure ⟨_,rfl,wpAny_pure (hQ h1 ?_ b1)⟩
 rw [e1]
 simp [rawInt]
theorem done_tup {tp:Addr} {pl:List Nat} (hh:A.handled = none) (ho:s.heap.get? I = some (itObj (.ref tp) i a n ep)) (htp:s.heap.get? tp = some { cls:=.type "tuple", data:=.seq (pl.map fun (p:Nat)=>rawInt p).toArray }) (hz:∀ (A:Around) (E:Value→Shared→Prop) (Q:Array (Int× Value)→Shared→Prop),(∀ es,es.size = n→Q es s)→wpAny (model prog w) A (setEntries a) Q E s)
  (hp:pl[i]? = none) (hQ:∀ h',Heap.ExtBut I s.heap h'→Q none { s with heap:=h' }):wpAny (model prog w) A (pyNext (.ref I)) Q E s:=by
 have ty:s.TypeIs (.ref I) "set_iterator" := ⟨_,ho,rfl⟩
 unfold pyNext
 refine wpAny_bind (wpAny_attempt (wpAny_callSpecial?_slot (name:=Str.ofString "__next__") ty slot_seti_next (wpAny_call_entry slot_seti_next ty entry_seti_next ?_ (args_seti_next _))))
 unfold Builtin.«set_iterator.__next__»
 refine wpAny_bind (m:=slotArgs "__next__" 0 _) (wpAny_pure ?_)
 refine wpAny_bind (wpAny_fieldsOf ho rfl ?_)
 show wpAny _ _ (setEntries a >>= _) _ _ s
 refine wpAny_bind (hz _ _ _ fun es e=>?_)
 rw [if_neg (by rw [e]; simp)]
 show wpAny _ _ (seqItems? (.ref tp) >>= _) _ _ s
 refine wpAny_bind (wpAny_seqItems htp rfl ?_)
 dsimp only
 have hq:(pl.map fun (p:Nat)=>rawInt p).toArray[(i:Int).toNat]? = none:=by simpa using hp
 rw [hq]
 dsimp only
 refine wpAny_bind (wpAny_setField_rec ho (by simp) fun h1 e1 b1=>?_)
 refine stop_now (s:={ s with heap:=h1 }) (A:=A.in1) hh e1 rfl (by simp) fun x h' ty' b=>?_
 refine wpAny_bind (wpAny_isInstance (T:= "StopIteration") (b:=true) ty' isSubtype_stop ?_)
 exact wpAny_pure (hQ h' fun b' o' hb e=>b b' o' hb (b1.extBut b' o' hb e))
end
theorem slot_seti_iter:Slot "set_iterator" "__iter__" "set_iterator.__iter__" :=
 .of (owner:= "set_iterator") (n:= "__iter__") (by rw [typeLookup_type,builtinLookup_eq_fast]; kernel_rfl) (by decide +kernel) (by decide +kernel) (by decide +kernel)
  (by first | exact .inl (by decide +kernel) | exact .inr (by decide +kernel)) (by rw [isSubtype_type]; kernel_rfl)
theorem entry_seti_iter:entryFor table "set_iterator.__iter__" = some Builtin.«dict_keyiterator.__iter__» :=
 entryFor_alias (id':= "dict_keyiterator.__iter__") (by kernel_rfl) rfl (by decide +kernel) (by kernel_rfl)
theorem args_seti_iter (a:Value):argsOk "set_iterator.__iter__" ⟨[a],[]⟩:=by
 unfold argsOk
 rw [signature?_of (id:= "set_iterator.__iter__") (n:=['_', '_', 'r', 'e', 't', 'i', '_', '_']) (o:=['r', 'o', 't', 'a', 'r', 'e', 't', 'i', '_', 't', 'e', 's']) (by kernel_rfl) owner_seti]
 kernel_rfl
section
variable {prog:Program} {w:World} {κ:Type} [DecidableEq κ] {knd:PySem.KeyKind prog w κ} {A:Around} {E:Value→Shared→Prop} {s:Shared} {a I:Addr} {ks:List κ} {o:Obj} {es:Array (Int× Value)} {ep:Nat} {t:SetTable} {ms:List κ}
theorem self_seti {Q:Value→Shared→Prop} (ty:s.TypeIs (.ref I) "set_iterator") (h:Q (.ref I) s):wpAny (model prog w) A (pyIter (.ref I)) Q E s:=by
 refine wpAny_pyIter_slot ty slot_seti_iter (wpAny_call_entry slot_seti_iter ty entry_seti_iter ?_ (args_seti_iter _))
 show wpAny _ _ (ret (.ref I)) _ _ s
 exact wpAny_pure ⟨_,rfl, "set_iterator", _,ty,slot_seti_next.lookup,h⟩
theorem by_text {Q:Bool→Shared→Prop} (h:Q (w.params.followText "set-order") s):wpAny (model prog w) A setsByText Q E s:=by
 unfold setsByText
 exact wpAny_bind (wpAny_askSetting (wpAny_pure h))
theorem SetD.state (D:SetD knd s.heap a ks o es ep t ms) {Q:Array (Int× Value)× Nat× SetTable→Shared→Prop} (h:Q (es,ep,t) s):wpAny (model prog w) A (setState a) Q E s:=wpAny_setState_of D.at' D.dat D.fit h
theorem SetD.entries (D:SetD knd s.heap a ks o es ep t ms) {Q:Array (Int× Value)→Shared→Prop} (h:Q es s):wpAny (model prog w) A (setEntries a) Q E s:=by
 unfold setEntries
 exact wpAny_bind (D.state (wpAny_pure h))
theorem next_text (D:SetD knd s.heap a ks o es ep t ms) (ft:w.params.followText "set-order" = true) {slot given:Nat} {Q:Option (Value× Nat)→Shared→Prop} (h:Q (((pickOrder (w.params.setOrder a ep) es)[given]?).map fun e=>(e.2,slot)) s) :
  wpAny (model prog w) A (setNext a slot given ep) Q E s:=by
 unfold setNext
 refine wpAny_bind (D.state ?_)
 dsimp only
 refine wpAny_bind (by_text ?_)
 rw [if_pos ft,if_neg (by simp)]
 refine wpAny_bind ?_
 unfold setWalk
 refine wpAny_bind (D.state ?_)
 dsimp only
 refine wpAny_bind (by_text ?_)
 rw [if_pos ft]
 refine wpAny_bind (wpAny_askSetting (wpAny_pure ?_))
 exact wpAny_pure h
theorem next_plain (D:SetD knd s.heap a ks o es ep t ms) (ft:w.params.followText "set-order" = false) (hd:(!t.plain && decide (es.size > 1)) = false) {slot given:Nat} {Q:Option (Value× Nat)→Shared→Prop}
  (h:Q (match es[SetTable.below t.place slot]?,t.place[SetTable.below t.place slot]? with | some (_,x),some j=>some (x,j + 1) | _,_=>none) s) :
  wpAny (model prog w) A (setNext a slot given ep) Q E s:=by
 have hl:t.led = true:=by rw [D.tab.led,ft]; rfl
 unfold setNext
 refine wpAny_bind (D.state ?_)
 dsimp only
 refine wpAny_bind (by_text ?_)
 rw [if_neg (by rw [ft]; exact Bool.false_ne_true)]
 show wpAny _ _ (if (!t.plain && decide (es.size > 1)) = true then _ else _) _ _ s
 rw [hd,if_neg Bool.false_ne_true]
 refine wpAny_bind ?_
 show wpAny _ _ (if (!t.led && !es.isEmpty) = true then _ else _) _ _ s
 rw [hl]
 exact wpAny_pure (wpAny_pure h)
end
def slotAt (pl:Array Nat):Nat→Nat
 | 0=>0
 | i + 1=>pl.getD i 0 + 1
theorem below_slot {pl:Array Nat} (h:Rise pl) {i:Nat} (hi:i≤pl.size):SetTable.below pl (slotAt pl i) = i:=by
 cases i with
 | zero=>exact below_zero h
 | succ i =>
  have e:pl.getD i 0 = pl[i]:=by simp [Array.getD,show i < pl.size by omega]
  show SetTable.below pl (pl.getD i 0 + 1) = i + 1
  rw [e]
  exact below_next h (by omega)
section
variable {prog:Program} {w:World} {κ:Type} [DecidableEq κ] {knd:PySem.KeyKind prog w κ} {A:Around} {E:Value→Shared→Prop} {s:Shared} {a I:Addr} {ks:List κ} {o:Obj} {es:Array (Int× Value)} {ep:Nat} {t:SetTable} {ms:List κ}
theorem size_of (D:SetD knd s.heap a ks o es ep t ms):∀ (A:Around) (E:Value→Shared→Prop) (Q:Array (Int× Value)→Shared→Prop),(∀ es',es'.size = es.size→Q es' s)→wpAny (model prog w) A (setEntries a) Q E s:=fun _ _ _ q=>D.entries (q es rfl)
theorem walk_text {h0:Heap} (D:SetD knd h0 a ks o es ep t ms) (ft:w.params.followText "set-order" = true) (hh:A.handled = none) (hne:a≠I) :
  Walks prog w A I [I,a] [I] es.size (fun i v=>((pickOrder (w.params.setOrder a ep) es).toList.map (·.2))[i]? = some v) (fun i h=>h.get? I = some (itObj (.int (0:Nat) 0) i a es.size ep)∧h.get? a = some o) where
 sub:=fun b hb=>by simp at hb; simp [hb]
 frame:=fun _ _ _ st hk=>⟨hk I (by simp) _ st.1,hk a (by simp) _ st.2⟩
 item:=fun i s Q E hi st hQ=>by
  have D':=D.keep st.2
  have hp:=(pick_perm (w.params.setOrder a ep) es).length_eq
  have hl:i < (pickOrder (w.params.setOrder a ep) es).size:=by simp at hp; omega
  refine next_int (x:=((pickOrder (w.params.setOrder a ep) es)[i]).2) (nx:=0) st.1 (size_of D') (fun _ _ _ q=>next_text D' ft (by rw [Array.getElem?_eq_getElem hl]; exact q)) fun h' e1 b1=>?_
  exact hQ _ h' s.toks (by simp [hl]) ⟨e1,(b1.2 a hne).trans st.2⟩ fun b u hb e=>b1.extBut b u (fun z=>hb (by simp [z])) e
 done:=fun s Q E st hQ=>by
  have D':=D.keep st.2
  have hp:=(pick_perm (w.params.setOrder a ep) es).length_eq
  have hl:¬ es.size < (pickOrder (w.params.setOrder a ep) es).size:=by simp at hp; omega
  refine done_int hh st.1 (size_of D') (fun _ _ _ q=>next_text D' ft (by rw [Array.getElem?_eq_none (by omega)]; exact q)) fun h' b1=>?_
  exact hQ h' s.toks fun b u hb e=>b1 b u (fun z=>hb (by simp [z])) e
 self:=fun _ s _ _ st hQ=>self_seti ⟨_,st.1,rfl⟩ hQ
theorem walk_plain {h0:Heap} (D:SetD knd h0 a ks o es ep t ms) (ft:w.params.followText "set-order" = false) (hd:(!t.plain && decide (es.size > 1)) = false) (hh:A.handled = none) (hne:a≠I) :
  Walks prog w A I [I,a] [I] es.size (fun i v=>(es.toList.map (·.2))[i]? = some v) (fun i h=>i≤es.size∧h.get? I = some (itObj (.int (slotAt t.place i) 0) i a es.size ep)∧h.get? a = some o) where
 sub:=fun b hb=>by simp at hb; simp [hb]
 frame:=fun _ _ _ st hk=>⟨st.1,hk I (by simp) _ st.2.1,hk a (by simp) _ st.2.2⟩
 item:=fun i s Q E hi st hQ=>by
  have D':=D.keep st.2.2
  have hz:t.place.size = es.size:=by have:=D.fit; simp only [SetTable.fits,Bool.and_eq_true,beq_iff_eq] at this; exact this.1
  refine next_int (x:=es[i].2) (nx:=slotAt t.place (i + 1)) st.2.1 (size_of D') (fun _ _ _ q=>next_plain D' ft hd (by
   rw [below_slot D.tab.rise (by omega),Array.getElem?_eq_getElem hi,Array.getElem?_eq_getElem (by omega)]
   have e:slotAt t.place (i + 1) = t.place[i]'(by omega) + 1:=by simp [slotAt,Array.getD,show i < t.place.size by omega]
   rw [e] at q
   exact q)) fun h' e1 b1=>?_
  exact hQ _ h' s.toks (by simp [hi]) ⟨hi,e1,(b1.2 a hne).trans st.2.2⟩ fun b u hb e=>b1.extBut b u (fun z=>hb (by simp [z])) e
 done:=fun s Q E st hQ=>by
  have D':=D.keep st.2.2
  have hz:t.place.size = es.size:=by have:=D.fit; simp only [SetTable.fits,Bool.and_eq_true,beq_iff_eq] at this; exact this.1
  refine done_int hh st.2.1 (size_of D') (fun _ _ _ q=>next_plain D' ft hd (by
   rw [below_slot D.tab.rise (by omega),Array.getElem?_eq_none (by omega)]
   exact q)) fun h' b1=>?_
  exact hQ h' s.toks fun b u hb e=>b1 b u (fun z=>hb (by simp [z])) e
 self:=fun _ s _ _ st hQ=>self_seti ⟨_,st.2.1,rfl⟩ hQ
abbrev tupObj (pl:List Nat):Obj:={ cls:=.type "tuple", data:=.seq (pl.map fun (p:Nat)=>rawInt p).toArray }
theorem walk_drawn {h0:Heap} {tp:Addr} {pl:List Nat} (D:SetD knd h0 a ks o es ep t ms) (hp:pl.Perm (List.range es.size)) (hh:A.handled = none) (hne:a≠I) (hnt:tp≠I) :
  Walks prog w A I [I,a,tp] [I] es.size (fun i v=>(pl.map fun p=>((es[p]?).map (·.2)).getD .none)[i]? = some v) (fun i h=>h.get? I = some (itObj (.ref tp) i a es.size ep)∧h.get? a = some o∧h.get? tp = some (tupObj pl)) where
 sub:=fun b hb=>by simp at hb; simp [hb]
 frame:=fun _ _ _ st hk=>⟨hk I (by simp) _ st.1,hk a (by simp) _ st.2.1,hk tp (by simp) _ st.2.2⟩
 item:=fun i s Q E hi st hQ=>by
  have D':=D.keep st.2.1
  have hl:i < pl.length:=by rw [hp.length_eq,List.length_range]; exact hi
  have hm:pl[i] < es.size:=by have:=hp.mem_iff.mp (List.getElem_mem hl); simpa using this
  refine next_tup (q:=pl[i]) (h0:=(es[pl[i]]).1) (x:=(es[pl[i]]).2) st.1 st.2.2 (size_of D') (fun _ _ _ q=>D'.state q) (List.getElem?_eq_getElem hl) (by rw [Array.getElem?_eq_getElem hm]) fun h' e1 b1=>?_
  refine hQ _ h' s.toks ?_ ⟨e1,(b1.2 a hne).trans st.2.1,(b1.2 tp hnt).trans st.2.2⟩ fun b u hb e=>b1.extBut b u (fun z=>hb (by simp [z])) e
  rw [List.getElem?_map,List.getElem?_eq_getElem hl,Option.map_some,Array.getElem?_eq_getElem hm]
  rfl
 done:=fun s Q E st hQ=>by
  have D':=D.keep st.2.1
  refine done_tup hh st.1 st.2.2 (size_of D') (List.getElem?_eq_none (by rw [hp.length_eq,List.length_range]; exact Nat.le_refl _)) fun h' b1=>?_
  exact hQ h' s.toks fun b u hb e=>b1 b u (fun z=>hb (by simp [z])) e
 self:=fun _ s _ _ st hQ=>self_seti ⟨_,st.1,rfl⟩ hQ
theorem drawn_perm {pl:List Nat} (hp:pl.Perm (List.range es.size)):(pl.map fun p=>((es[p]?).map (·.2)).getD .none).Perm (es.toList.map (·.2)):=by
 refine (hp.map _).trans ?_
 rw [show (List.range es.size).map (fun p=>((es[p]?).map (·.2)).getD Value.none) = es.toList.map (·.2) from ?_]
 refine List.ext_getElem (by simp) fun i h1 h2=>?_
 simp at h1
 simp [h1]
theorem iter_set {Q:Value→Shared→Prop} (D:SetD knd s.heap a ks o es ep t ms)
  (h:∀ (h':Heap) (d:Drawn) (I:Addr) (fp:List Addr) (vs:List Value) (St:Nat→Heap→Prop),(∀ b u,s.heap.get? b = some u→h'.get? b = some u)→vs.Perm (es.toList.map (·.2))→s.heap.objs.size≤I→(∀ b∈fp,b = a∨s.heap.objs.size≤b) →
   (∀ A':Around,A'.handled = none→Walks prog w A' I fp [I] es.size (fun i v=>vs[i]? = some v) St)→St 0 h'→Q (.ref I) { s with heap:=h',drawn:=d }):wpAny (model prog w) A (pyIter (.ref a)) Q E s:=by
 have ty:s.TypeIs (.ref a) "set" := ⟨o,D.at',D.ex.1⟩
 have hal:a < s.heap.objs.size:=Heap.lt_size D.at'
 have hal1:a≠s.heap.objs.size:=Nat.ne_of_lt hal
 refine wpAny_pyIter_slot ty PySem.F.slot_set_iter (wpAny_call_entry PySem.F.slot_set_iter ty entry_set_iter ?_ (PySem.F.args_set_iter_1 _))
 unfold Builtin.«frozenset.__iter__» Builtin.Frozenset.slot0
 refine wpAny_bind (wpAny_bind (m:=slotArgs "__iter__" 0 _) (wpAny_pure ?_))
 refine wpAny_of_eq (a:=a) rfl ?_
 refine wpAny_bind (m:=Builtin.Frozenset.sizeOf a) ?_
 unfold Builtin.Frozenset.sizeOf
 refine wpAny_bind (D.entries (wpAny_pure ?_))
 refine wpAny_bind (m:=setDrawn a) ?_
 unfold setDrawn
 refine wpAny_bind (D.state ?_)
 dsimp only
 refine wpAny_bind (by_text (wpAny_pure ?_))
 have fin:∀ (first:Value) (s1:Shared) (D1:SetD knd s1.heap a ks o es ep t ms) (hk:Q (.ref s1.heap.objs.size) { s1 with heap:=s1.heap.push (itObj first 0 a es.size ep) }),wpAny (model prog w) A.in1 (do
   ret (← newFields "set_iterator" [first,rawInt 0,.ref a,rawInt es.size,rawInt (← setEpoch a)])) (fun fin s'=>∃ v,fin = .done (.ret v)∧∃ T' r,s'.TypeIs v T'∧typeLookup (.type T') "__next__" = pure (some r)∧Q v s') E s1:=by
  intro first s1 D1 hk
  refine wpAny_bind (wpAny_setEpoch_of D1.at' D1.dat D1.fit ?_)
  refine wpAny_bind (wpAny_newObj_type ?_ (by size_fits))
  exact wpAny_pure ⟨_,rfl, "set_iterator", _,⟨_,Heap.get?_push_size _ rfl,rfl⟩,slot_seti_next.lookup,hk⟩
 cases ft:w.params.followText "set-order" with
 | true =>
  rw [show (!true && _) = false from rfl,if_neg Bool.false_ne_true]
  refine wpAny_bind (wpAny_pure ?_)
  refine fin _ s D ?_
  exact h _ s.drawn s.heap.objs.size _ _ _ (fun b u e=>Heap.get?_push_of_some _ e) ((pick_perm (w.params.setOrder a ep) es).map _) (Nat.le_refl _) (fun b hb=>by simp at hb; rcases hb with z | z; exact .inr (Nat.le_of_eq z.symm); exact .inl z)
   (fun A' hA=>walk_text D ft hA hal1) ⟨Heap.get?_push_size _ rfl,Heap.get?_push_of_some _ D.at'⟩
 | false =>
  cases hd:(!t.plain && decide (es.size > 1)) with
  | false =>
   show wpAny _ _ (if (!false && (!t.plain && decide (es.size > 1))) = true then _ else _) _ _ s
   rw [hd,show (!false && false) = false from rfl,if_neg Bool.false_ne_true]
   refine wpAny_bind (wpAny_pure ?_)
   refine fin _ s D ?_
   exact h _ s.drawn s.heap.objs.size _ _ _ (fun b u e=>Heap.get?_push_of_some _ e) (.refl _) (Nat.le_refl _) (fun b hb=>by simp at hb; rcases hb with z | z; exact .inr (Nat.le_of_eq z.symm); exact .inl z)
    (fun A' hA=>walk_plain D ft hd hA hal1) ⟨Nat.zero_le _,Heap.get?_push_size _ rfl,Heap.get?_push_of_some _ D.at'⟩
  | true =>
   show wpAny _ _ (if (!false && (!t.plain && decide (es.size > 1))) = true then _ else _) _ _ s
   rw [hd,show (!false && true) = true from rfl,if_pos rfl]
   refine wpAny_bind (draw_ok es.size (List.range es.size) s _ (by simp) fun pl d hp=>?_)
   have hpl:pl.length = es.size:=by rw [hp.length_eq,List.length_range]
   refine wpAny_bind (wpAny_newTuple ?_ (by rw [List.length_map,hpl]; exact fits_of_scanBound D.sm))
   refine fin _ ⟨s.heap.push (tupObj pl),s.gens,d,s.toks,s.os⟩ (D.keep (Heap.get?_push_of_some _ D.at')) ?_
   have hI:(s.heap.push (tupObj pl)).objs.size = s.heap.objs.size + 1:=Heap.size_push _ _
   refine h _ d (s.heap.push (tupObj pl)).objs.size _ _ _ (fun b u e=>Heap.get?_push_of_some _ (Heap.get?_push_of_some _ e)) (drawn_perm hp) (by rw [hI]; exact Nat.le_succ _) (fun b hb=>?_)
    (fun A' hA=>walk_drawn (tp:=s.heap.objs.size) D hp hA (by rw [hI]; exact Nat.ne_of_lt (Nat.lt_succ_of_lt hal)) (by rw [hI]; exact Nat.ne_of_lt (Nat.lt_succ_self _))) ⟨Heap.get?_push_size _ rfl,Heap.get?_push_of_some _ (Heap.get?_push_of_some _ D.at'),Heap.get?_push_of_some _ (Heap.get?_push_size _ rfl)⟩
   simp at hb
   rcases hb with z | z | z
   ·exact .inr (by rw [z]; exact Nat.le_succ _)
   ·exact .inl z
   ·exact .inr (Nat.le_of_eq z.symm)
end
section
variable {prog:Program} {w:World} {κ:Type} [DecidableEq κ] {knd:PySem.KeyKind prog w κ} {A:Around} {E:Value→Shared→Prop} {s:Shared} {a I:Addr} {ks:List κ} {o:Obj} {es:Array (Int× Value)} {ep:Nat} {t:SetTable} {ms:List κ}
theorem hint_set {Q:Bool→Shared→Prop} (ty:s.TypeIs (.ref a) "set") (h:Q false s):wpAny (model prog w) A (Builtin.List.listLengthHint (.ref a)) Q E s:=by
 unfold Builtin.List.listLengthHint
 refine wpAny_bind (wpAny_specialOf ty PySem.F.slot_set_len.lookup ?_)
 generalize e:("set.__len__" : String) = nm
 wp_delta
 rw [show splitId nm = some ("set", "__len__") from by subst e; decide +kernel]
 subst e
 refine wpAny_bind (wpAny_isInstance (T:= "set") (b:=true) ty sub_set_self ?_)
 refine wpAny_ite_split (fun c=>absurd c (by decide)) fun _=>?_
 refine wpAny_ite_split (fun _=>?_) fun c=>absurd (by decide +kernel) c
 exact wpAny_bind (wpAny_typeOf ty (wpAny_pure h))
theorem items_eq {vs:List Value} {acc:Array Value} {n:Nat} (hn:vs.length = n) (h:ItemsOf (fun i v=>vs[i]? = some v) acc n):acc.toList = vs:=by
 refine List.ext_getElem (by rw [Array.length_toList,h.1,hn]) fun i h1 h2=>?_
 have q:vs[i]? = some (acc.toList[i]):=h.2 i (acc.toList[i]) (by simp at h1; simp [h1])
 rw [List.getElem?_eq_getElem h2] at q
 exact (Option.some.inj q).symm
theorem extend_set {R:Result→Shared→Prop} (D:SetD knd s.heap a ks o es ep t ms) (hh:A.handled = none) (S:Addr) (hSa:S≠a) (res:Value) (hS:s.heap.get? S = some { cls:=.type "list", data:=.seq #[] })
  (h:∀ h' tk d acc' c',(∀ b u,b≠S→s.heap.get? b = some u→h'.get? b = some u)→h'.get? S = some { cls:=.type "list", dict:=none,data:=.seq acc' c',slots:=#[] }→acc'.toList.Perm (es.toList.map (·.2))→R (.ok (.ret res)) { s with heap:=h',drawn:=d,toks:=tk }) :
  wpAny (model prog w) A.in1 (Builtin.List.listExtendWith (.ref S) (.ref a) res)
   (fun fin s'=>match fin with | .done f=>R (.ok f) s' | .again c'=>c'.quiet = true∧codeAny (model prog w) A c' R s') (fun e s'=>R (.error e) s') s:=by
 have ty:s.TypeIs (.ref a) "set" := ⟨o,D.at',D.ex.1⟩
 have hSl:S < s.heap.objs.size:=Heap.lt_size hS
 unfold Builtin.List.listExtendWith
 refine wpAny_bind (wpAny_typeOf ty ?_)
 have e1:Builtin.List.listSameRef (.ref S) (.ref a) = false:=by simp [Builtin.List.listSameRef,hSa]
 rw [e1]
 rw [if_neg (by decide)]
 refine wpAny_bind (iter_set D fun h1 d I fp vs St k1 pv hI hfp W st=>?_)
 have hSf:S∉fp:=fun z=>by
  rcases hfp S z with q | q
  ·exact hSa q
  ·exact absurd q (Nat.not_le.mpr hSl)
 have hvl:vs.length = es.size:=by rw [pv.length_eq]; simp
 have go:∀ (h2:Heap) (c tk:Nat),St 0 h2→(∀ b u,b≠S→s.heap.get? b = some u→h2.get? b = some u)→h2.get? S = some { cls:=.type "list", data:=.seq #[] c } →
   codeAny (model prog w) A (.builtin "list.extend.loop" ⟨[.ref S,.ref I,res],[]⟩) R { s with heap:=h2,drawn:=d,toks:=tk }:=by
  intro h2 c tk st2 k2 hS2
  refine codeAny_extend_loopS (W A.in1 hh).toS (fits_of_scanBound D.sm) S hSf res es.size 0 _ #[] c rfl (Nat.zero_le _) st2 hS2 (ItemsOf.nil _) fun s' acc' c' mv hS' hacc=>?_
  have ee:=items_eq hvl hacc
  obtain ⟨h',g',d',tk',os'⟩:=s'
  have eg:g' = s.gens:=mv.gens
  have ed:d' = d:=mv.drawn
  have eo:os' = s.os:=mv.os
  subst eg ed eo
  refine h h' tk' _ acc' c' (fun b u hb e=>mv.heap b u (fun z=>?_) (k2 b u hb e)) hS' (by rw [ee]; exact pv)
  rcases List.mem_cons.mp z with z | z
  ·exact hb z
  ·rw [List.mem_singleton] at z
   exact absurd (Heap.lt_size e) (by rw [z]; exact Nat.not_lt.mpr hI)
 have hS1:=k1 _ _ hS
 refine wpAny_bind (wpAny_holding (hint_set ⟨o,k1 _ _ D.at',D.ex.1⟩ ?_))
 refine wpAny_ite_split (fun _=>?_) fun _=>wpAny_pure ⟨plainId_quiet PySem.F.plain_extend_loop _,go _ _ _ st (fun b u _ e=>k1 b u e) hS1⟩
 refine wpAny_bind (wpAny_rule ?_)
 refine wpAny_bind ?_
 show wpAny _ _ (updateSeq S (·.push .none) >>= fun _=>updateSeq S (·.pop)) _ _ _
 refine wpAny_bind (wpAny_updateSeq hS1 rfl ?_)
 have hS2:=Heap.get?_update_self (Obj.mapSeq (·.push Value.none)) hS1 rfl
 refine wpAny_updateSeq (hz:=by seq_fits) hS2 rfl ?_
 have hS3:=Heap.get?_update_self (Obj.mapSeq (·.pop)) hS2 rfl
 have oth:∀ b u,b≠S→h1.get? b = some u→((h1.update S (Obj.mapSeq (·.push Value.none))).update S (Obj.mapSeq (·.pop))).get? b = some u:=fun b u hb e =>
  (Heap.get?_update_other _ _ (Ne.symm hb)).trans ((Heap.get?_update_other _ _ (Ne.symm hb)).trans e)
 exact wpAny_pure ⟨plainId_quiet PySem.F.plain_extend_loop _,go _ _ _ ((W A.in1 hh).frame 0 _ _ st fun b hb u e=>oth b u (fun z=>hSf (z ▸ hb)) e) (fun b u hb e=>oth b u hb (k1 b u e)) hS3⟩
theorem collect_set {R:List Value→Shared→Prop} (D:SetD knd s.heap a ks o es ep t ms) (hh:A.handled = none)
  (h:∀ (h':Heap) (tk:Nat) (d:Drawn) (vs:List Value),(∀ b u,s.heap.get? b = some u→h'.get? b = some u)→s.heap.objs.size≤h'.objs.size→vs.Perm (es.toList.map (·.2))→R vs { s with heap:=h',drawn:=d,toks:=tk }) :
  wpAny (model prog w) A (collect (.ref a)) R E s:=by
 unfold collect
 refine wpAny_bind (wpAny_runValue (codeAny_builtin entry_proto_collect' ?_))
 rw [Around.under_plainId PySem.F.plain_proto_collect _]
 refine wpAny_bind (m:=newList []) (wpAny_newObj_type ?_)
 refine wpAny_pure ⟨plainId_quiet PySem.F.plain_list_iadd _,codeAny_builtin entry_list_iadd' ?_⟩
 rw [Around.under_plainId PySem.F.plain_list_iadd _]
 have hS:(s.heap.push { cls:=.type "list", data:=.seq ([]:List Value).toArray }).get? s.heap.objs.size = some { cls:=.type "list", data:=.seq #[] }:=Heap.get?_push_size _ rfl
 show wpAny _ A.in1 (Builtin.List.listExtendWith (.ref s.heap.objs.size) (.ref a) (.ref s.heap.objs.size)) _ _ _
 have key:=extend_set (A:=A) (s:={ s with heap:=s.heap.push { cls:=.type "list", data:=.seq ([]:List Value).toArray } })
  (R:=fun (q:Result) (s':Shared)=>∃ h' tk d acc' c',q = .ok (.ret (.ref s.heap.objs.size))∧s' = { s with heap:=h',drawn:=d,toks:=tk }∧(∀ b u,s.heap.get? b = some u→h'.get? b = some u) ∧
   h'.get? s.heap.objs.size = some { cls:=.type "list", dict:=none,data:=.seq acc' c',slots:=#[] }∧acc'.toList.Perm (es.toList.map (·.2)))
  (D.keep (Heap.get?_push_of_some _ D.at')) hh s.heap.objs.size (Nat.ne_of_gt (Heap.lt_size D.at')) (.ref s.heap.objs.size) hS
  (fun h' tk d acc' c' k1 e1 p1=>⟨h',tk,d,acc',c',rfl,rfl,fun b u e=>k1 b u (Nat.ne_of_lt (Heap.lt_size e)) (Heap.get?_push_of_some _ e),e1,p1⟩)
 refine wpAny_mono key (fun fin s' x=>?_) fun e s' x=>?_
 ·cases fin with
  | done f =>
   obtain ⟨h',tk,d,acc',c',e,rfl,k1,e1,p1⟩:=x
   cases e
   exact wpAny_bind (m:=load s.heap.objs.size) (wpAny_load e1 (wpAny_pure (h h' tk d acc'.toList k1 (Nat.le_of_lt (Heap.lt_size e1)) p1)))
  | again c₁ =>
   refine ⟨x.1,codeAny_mono x.2 fun q s₂ y=>?_⟩
   obtain ⟨h',tk,d,acc',c',rfl,rfl,k1,e1,p1⟩:=y
   exact wpAny_bind (m:=load s.heap.objs.size) (wpAny_load e1 (wpAny_pure (h h' tk d acc'.toList k1 (Nat.le_of_lt (Heap.lt_size e1)) p1)))
 ·obtain ⟨_,_,_,_,_,z,_⟩:=x
  cases z
end
section
variable {prog:Program} {w:World} {A:Around} {E:Value→Shared→Prop} {s:Shared} {a:Addr} {ks:List Int}
theorem ints_of {vs:List Value} {ns:List Int} (h:PySem.Paired (fun v n=>∃ t,v = Value.int n t) vs ns):IntsAre vs ns:=by
 induction h with
 | nil=>exact .nil
 | cons f _ ih =>
  obtain ⟨t,rfl⟩:=f
  exact .cons _ t ih
theorem sorted_set {Q:Value→Shared→Prop} (S:SetT (intKind prog w) s.heap a ks) (hh:A.handled = none) (h64:ks.length < 64)
  (h:∀ (h':Heap) (tk:Nat) (d:Drawn) (L:Addr) (out:Array Value) (c:Nat) (ns:List Int),(∀ b u,s.heap.get? b = some u→h'.get? b = some u)→s.heap.objs.size≤L→h'.get? L = some (seqObj "list" out c)→IntsAre out.toList ns→ns.Pairwise (· < ·)→(∀ k,k∈ns↔k∈ks) →
   Q (.ref L) { s with heap:=h',drawn:=d,toks:=tk }):wpAny (model prog w) A (call (.builtin "sorted") [.ref a]) Q E s:=by
 obtain ⟨o,es,ep,t,ms,D⟩:=S
 refine Calls.call_function_entry kind_sorted plain_sorted entry_sorted (args_sorted1 _) ?_
 unfold Builtin.«sorted»
 refine wpAny_bind (m:=checkCount "sorted" 1 1 _) (wpAny_pure ?_)
 refine wpAny_bind (collect_set (A:=A.in1) D hh fun h1 tk d vs k1 hsz pv=>?_)
 have pr:PySem.Paired (fun v n=>∃ t,v = Value.int n t) (es.toList.map (·.2)) ms:=by
  have:=D.pr
  generalize es.toList = l at this
  clear pv D
  induction this with
  | nil=>exact .nil
  | cons f _ ih=>exact .cons (Value.isInt_shape f) ih
 obtain ⟨ns,pn,r1⟩:=paired_perm pv pr
 have hI:=ints_of r1
 have hlen:vs.length < 64:=by
  have h1:ms.length≤ks.length:=nodup_len D.nd fun k hk=>(D.mem k).mp hk
  have h2:=pv.length_eq
  have h3:=D.size
  simp at h2
  omega
 refine wpAny_bind (wpAny_newList ?_ (by rw [sizeLine_eq]; omega))
 have hL:(h1.push (seqObj "list" vs.toArray 0)).get? h1.objs.size = some (seqObj "list" vs.toArray 0):=Heap.get?_push_size _ rfl
 refine wpAny_bind (wpAny_holding (wpAny_call_entry slot_list_sort ⟨_,hL,rfl⟩ entry_list_sort (list_sort_tree hL hI hlen fun out ns' a1 a2 a3=>⟨_,rfl,?_⟩) (args_list_sort _)))
 have hlt:h1.objs.size < (h1.push (seqObj "list" vs.toArray 0)).objs.size:=Heap.lt_size hL
 obtain ⟨c,hc⟩:∃ c,(sortedHeap (h1.push (seqObj "list" vs.toArray 0)) h1.objs.size vs out).get? h1.objs.size = some (seqObj "list" out c):=sortedHeap_at hL
 have p3:=a2.trans pn
 refine wpAny_pure ⟨_,rfl,h _ tk d h1.objs.size out c ns' (fun b u e=>?_) ?_ hc a1 ?_ fun k=>p3.mem_iff.trans (D.mem k)⟩
 ·have hb:=Heap.lt_size (k1 b u e)
  rw [sortedHeap_old (Nat.ne_of_lt hb) (Nat.lt_trans hb hlt)]
  exact Heap.get?_push_of_some _ (k1 b u e)
 ·exact hsz
 ·have nd:ns'.Nodup:=p3.nodup_iff.mpr D.nd
  exact (List.Pairwise.and a3 nd).imp fun {x y} z=>by omega
end
theorem rise_ext:∀ {a b:List Int},a.Pairwise (· < ·)→b.Pairwise (· < ·)→(∀ k,k∈a↔k∈b)→a = b
 | [],[],_,_,_=>rfl
 | [],y :: b,_,_,h=>by simpa using (h y).mpr List.mem_cons_self
 | x :: a,[],_,_,h=>by simpa using (h x).mp List.mem_cons_self
 | x :: a,y :: b,ha,hb,h=>by
  have ha':=List.pairwise_cons.mp ha
  have hb':=List.pairwise_cons.mp hb
  have e:x = y:=by
   rcases List.mem_cons.mp ((h x).mp List.mem_cons_self) with z | z
   ·exact z
   ·rcases List.mem_cons.mp ((h y).mpr List.mem_cons_self) with z' | z'
    ·exact z'.symm
    ·have:=ha'.1 y z'; have:=hb'.1 x z; omega
  subst e
  congr 1
  refine rise_ext ha'.2 hb'.2 fun k=>⟨fun z=>?_,fun z=>?_⟩
  ·rcases List.mem_cons.mp ((h k).mp (List.mem_cons_of_mem _ z)) with q | q
   ·have:=ha'.1 k z; omega
   ·exact q
  ·rcases List.mem_cons.mp ((h k).mpr (List.mem_cons_of_mem _ z)) with q | q
   ·have:=hb'.1 k z; omega
   ·exact q
def ins (k:Int):List Int→List Int
 | []=>[k]
 | x :: r=>if k < x then k :: x :: r else if k = x then x :: r else x :: ins k r
def nub:List Int→List Int
 | []=>[]
 | x :: r=>ins x (nub r)
theorem mem_ins {k j:Int}:∀ {l:List Int},j∈ins k l↔j = k∨j∈l
 | []=>by simp [ins]
 | x :: r=>by
  unfold ins
  split
  ·simp
  ·split
   ·rename_i h; subst h; simp
   ·rw [List.mem_cons,mem_ins,List.mem_cons]
    constructor
    ·rintro (z | z | z)
     ·exact .inr (.inl z)
     ·exact .inl z
     ·exact .inr (.inr z)
    ·rintro (z | z | z)
     ·exact .inr (.inl z)
     ·exact .inl z
     ·exact .inr (.inr z)
theorem rise_ins {k:Int}:∀ {l:List Int},l.Pairwise (· < ·)→(ins k l).Pairwise (· < ·)
 | [],_=>by simp [ins]
 | x :: r,h=>by
  have h':=List.pairwise_cons.mp h
  unfold ins
  split
  ·rename_i c
   refine List.pairwise_cons.mpr ⟨fun y hy=>?_,h⟩
   rcases List.mem_cons.mp hy with z | z
   ·omega
   ·have:=h'.1 y z; omega
  ·split
   ·exact h
   ·refine List.pairwise_cons.mpr ⟨fun y hy=>?_,rise_ins h'.2⟩
    rcases mem_ins.mp hy with z | z
    ·omega
    ·exact h'.1 y z
theorem mem_nub {j:Int}:∀ {l:List Int},j∈nub l↔j∈l
 | []=>by simp [nub]
 | x :: r=>by unfold nub; rw [mem_ins,mem_nub,List.mem_cons]
theorem rise_nub:∀ (l:List Int),(nub l).Pairwise (· < ·)
 | []=>.nil
 | x :: r=>rise_ins (rise_nub r)
theorem nub_eq {l ms:List Int} (h:ms.Pairwise (· < ·)) (m:∀ k,k∈ms↔k∈l):ms = nub l:=rise_ext h (rise_nub l) fun k=>(m k).trans mem_nub.symm
theorem nub_len:∀ (l:List Int),(nub l).length≤l.length:=fun l=>nodup_len ((rise_nub l).imp fun {a b} h=>by omega) fun x hx=>mem_nub.mp hx
section
variable {X:Cx}
def tSS (K:PySem.W.Frag) (te:TE):TE:=fun σ H Q=>te σ H fun x H1=>∃ l ns,x = .ref l∧SqL K H1 l ((ns:List Int).map V.int)∧ns.length < 64∧∀ r,H1 r = none→Q (.ref r) (upd H1 r (.lst ((nub ns).map V.int)))
theorem boot_set':bootBuiltins "set" = some (.type "set"):=by decide +kernel
theorem pe_sset {e:Expr} {te:TE} {p p2 pos pos2:Pos} (hc:X.calm = true) (hg:Gl X "sorted") (hm:X.mg "sorted" = none) (hg2:Gl X "set") (hm2:X.mg "set" = none) (he:PE X e te)
  (h1:starEach [e] X.env = [(false,eval e X.env)]:=by rfl) (h2:starEach [.Call (.Name "set" p2) [e] [] pos2] X.env = [(false,eval (.Call (.Name "set" p2) [e] [] pos2) X.env)]:=by rfl) :
  PE X (.Call (.Name "sorted" p) [.Call (.Name "set" p2) [e] [] pos2] [] pos) (tSS X.K te):=by
 intro pins s σ H Q I h
 refine wpAny_Call_Name_kw (ld_blt I hg hm boot_sorted ?_ (by decide) (by decide))
 refine PyProof.Rows.callWith_builtin1 ?_ h2 rfl
 rw [h2]
 refine Calls.spliced_cons ?_
 refine wpAny_Call_Name_kw (ld_blt I hg2 hm2 boot_set' ?_ (by decide) (by decide))
 refine PyProof.Rows.callWith_type1 ?_ h1 rfl
 rw [h1]
 refine Calls.spliced_cons (thn (he pins s σ H _ I h) fun u s1 ⟨x,H1,I1,r1,q1⟩=>Calls.spliced_nil ?_)
 obtain ⟨l,ns,rfl,hS,hl,q⟩:=q1
 cases r1
 obtain ⟨its,rv,pl,hz⟩:=I1.list hS
 have hlen:=rv.length
 rw [List.length_map] at hlen
 have hi:=intsAre_of rv
 have hsz:its.toArray.size = its.length:=by simp
 refine call_setT (knd:=intKind X.prog X.w) (ks:=ns) (I1.ok.hd hc) pl.isList (by rw [hsz]; exact hlen) (fun i v hv=>?_) (by rw [hsz]; show its.length + 1 < 4096; omega) fun s2 m=>Calls.spliced_nil ?_
 ·obtain ⟨t,e⟩:=IntsAre.int_at hi i v (by simpa using hv)
  have hil:i < ns.length:=by
   rw [hlen]
   have:=Array.getElem?_eq_some_iff.mp hv
   obtain ⟨z,_⟩:=this
   simpa using z
  subst e
  refine ⟨ns.getD i 0,?_,intKind_is _ _ _ _,rfl⟩
  rw [List.getD_eq_getElem?_getD,List.getElem?_eq_getElem hil]
  rfl
 obtain ⟨h',tk,rfl,S,k1⟩:=m
 have hsz2:s1.heap.objs.size < h'.objs.size:=by
  obtain ⟨o,es,ep,t,ms,D⟩:=S
  exact Heap.lt_size D.at'
 refine sorted_set (s:={ s1 with heap:=h',toks:=tk }) S (I1.ok.hd hc) hl fun h2 tk2 d L out c ns' k2 hL eL aI aP aM=>?_
 have hLn:H1 L = none:=I1.hok.fresh (Nat.le_trans (Nat.le_of_lt hsz2) hL)
 have en:=nub_eq aP aM
 subst en
 have kp:∀ b u,s1.heap.get? b = some u→h2.get? b = some u:=fun b u e=>k2 b u (k1 b u (Heap.lt_size e) e)
 have hLe:s1.heap.objs.size≤L:=Nat.le_trans (Nat.le_of_lt hsz2) hL
 have nl:=nub_len ns
 have I2:Inv X pins σ (upd H1 L (.lst ((nub ns).map V.int))) { s1 with heap:=h2,gens:=s1.gens,drawn:=d,toks:=tk2 } :=
  I1.call (ch:=[]) (Un.laid kp hLe hLn) (I1.hok.laid kp hLe ⟨by rw [List.length_map]; exact small (by omega),out.toList,c,vals_ints aI,by rw [eL]⟩) I1.bare (fun _ z=>nomatch z)
 exact ⟨.ref L,_,I2,rfl,q L hLn⟩
end
section
variable {X:Cx}
end
section
variable {X:Cx}
end
section
variable {X:Cx}
end
section
variable {X:Cx}
end
section
variable {X:Cx}
end
theorem ints_here {ns:List Int} {its:List Value} (r:Vals (ns.map V.int) its) {i:Nat} {v:Value} (h:its[i]? = some v):∃ t,v = .int (ns.getD i 0) t:=by
 have hi:i < its.length:=(List.getElem?_eq_some_iff.mp h).1
 have hl:=r.length
 rw [List.length_map] at hl
 have hn:i < ns.length:=by omega
 obtain ⟨u,hu,ru⟩:=r.get (i:=i) (x:=V.int ns[i]) (by rw [List.getElem?_map,List.getElem?_eq_getElem hn]; rfl)
 rw [h] at hu
 cases hu
 obtain ⟨t,e⟩:∃ t,v = .int ns[i] t:=ru
 exact ⟨t,by rw [e,List.getD_eq_getElem?_getD,List.getElem?_eq_getElem hn]; rfl⟩
section
variable {X:Cx}
theorem call_minL (hc:X.calm = true):CallR X (.builtin "min") (fun xs H Q=>∃ p ns,xs = [.ref p]∧SqL X.K H p ((ns:List Int).map V.int)∧0 < ns.length∧∀ M,M∈ns→(∀ a∈ns,M≤a)→Q (.int M) H):=by
 intro pins s σ H xs us Q I r h
 obtain ⟨p,ns,rfl,hS,h0,q⟩:=h
 obtain ⟨u,rfl,ru⟩:=r.one
 cases ru
 obtain ⟨its,rv,pl,hz⟩:=I.list hS
 have hh:X.A.handled = none:=I.ok.hd hc
 have hl:=rv.length
 rw [List.length_map] at hl
 have hlt:p < s.heap.objs.size:=by obtain ⟨_,e,_⟩:=pl.isList; exact Heap.lt_size e
 refine call_min_walk (wpAny_pyIter_list pl.isList ?_)
 refine ⟨s.heap.objs.size,[s.heap.objs.size,p],[s.heap.objs.size],its.toArray.size,_,_,_,rfl,Walks.list (A:=X.A.in1) hh _ p (Nat.ne_of_lt hlt) its.toArray,
  ⟨⟨_,Heap.get?_push_size _ rfl,rfl,rfl⟩,pl.isList.push _⟩,fun b hb=>?_,by rw [List.size_toArray]; omega,CmpOf.ints_lt (fun i=>ns.getD i 0) (fun i v hP=>ints_here rv (by simpa using hP)),fun v h' tk hP hk=>?_⟩
 ·rcases List.mem_cons.mp hb with rfl | hb
  ·exact Heap.lt_size (Heap.get?_push_size _ rfl)
  ·rcases List.mem_singleton.mp hb with rfl
   obtain ⟨_,e,_⟩:=pl.isList
   exact Heap.lt_size (Heap.get?_push_of_some _ e)
 ·have hP':its[argBest (fun i j=>decide (ns.getD i 0 < ns.getD j 0)) (its.toArray.size - 1)]? = some v:=by rw [← List.getElem?_toArray]; exact hP
  obtain ⟨h1,h2⟩:=argBest_lt (fun i=>ns.getD i 0) (its.toArray.size - 1)
  generalize argBest (fun i j=>decide (ns.getD i 0 < ns.getD j 0)) (its.toArray.size - 1) = b at hP' h1 h2
  rw [List.size_toArray] at h1 h2
  obtain ⟨t,rfl⟩:=ints_here rv hP'
  have hb:b < ns.length:=by omega
  refine ⟨.int _,H,I.kept (t':=tk) (LSm.kept_iter hk),⟨t,rfl⟩,q _ ?_ fun a ha=>?_⟩
  ·rw [List.getD_eq_getElem?_getD,List.getElem?_eq_getElem hb]
   exact List.getElem_mem _
  ·obtain ⟨j,hj,rfl⟩:=List.getElem_of_mem ha
   have:=h2 j (by omega)
   simpa [List.getD_eq_getElem?_getD,List.getElem?_eq_getElem hj] using this
end
end L2
end
section
set_option Elab.async false
set_option linter.all false
set_option maxRecDepth 100000
namespace L2
open PySem PySem.Spec PyProof.Rows
def FunA (K:PySem.W.Frag) (mg:Str→Option Value) (x q:Str) (ps:List Str) (st:Stmt):Prop:=∃ f fd,Fun K q q st f fd∧mg x = some (.ref f)∧Binds K fd ps []
section
variable {P:Program} {w:World} {K:PySem.W.Frag} {mg:Str→Option Value} {base:Heap}
theorem FunA.ok {x q:Str} {st:Stmt} {N ps:List Str} {k:Nat} {sp:Sp} (F:FunA K mg x q ps st) (S:FnScope N ps (defScope st)) (len:∀ vs H Q E,sp vs H Q E→vs.length = ps.length)
  (hbody:∀ (f:Addr) (cdv:Value) (A:Around) (outer:List Env) (s:Shared) (H:Hp) (vs:List V) (Q:VK) (E:XK),Room k (A.deeper (envOfC q (defScope st) s.heap.objs.size f cdv))→sp vs H Q E →
   ∃ t,PSs (cxOf CX0 P w K mg base N q (defScope st) f cdv A outer s H E).nox (defBody st) t∧t { nx:=fun _ H'=>Q .non H',rt:=Q } (start N vs) H):Callee P w K mg base (k + 1) x ps sp:=by
 obtain ⟨f,fd,F,m,b⟩:=F
 exact ⟨f,fd,F.ok S len (hbody f),b,F.kp,m⟩
theorem FunA.zero {x q:Str} {st:Stmt} {ps:List Str} {sp:Sp} (F:FunA K mg x q ps st) (no:∀ vs H Q E,¬ sp vs H Q E):Callee P w K mg base 0 x ps sp:=by
 obtain ⟨f,fd,F,m,b⟩:=F
 exact ⟨f,fd,⟨fun vs H Q E h=>absurd h (no vs H Q E),fun A outer s H args us vs Q E _ _ _ _ h=>absurd h (no vs H Q E)⟩,b,F.kp,m⟩
end
end L2
end
section
set_option Elab.async false
set_option linter.all false
set_option maxRecDepth 100000
set_option maxHeartbeats 4000000
namespace L2
open PySem PySem.Spec PyProof.Rows
def CX1 (P:Program) (w:World):CXT:=fun outer H s E e s'=>∃ (ea C:Addr) (a0:Value) (H':Hp) (B:Heap),
 e = .ref ea∧E (.ref C) none H'∧s'.os = s.os∧AllBare s'.gens∧Un (frs outer) [] H H' s.heap s'.heap∧HOk P w H' s'.heap∧Heap.FlyingW B outer ea (.ref C) a0 s'.heap ∧
 (∀ b o,s.heap.get? b = some o→b∉frs outer→∃ o',B.get? b = some o')∧(∀ b u,H' b = some u→∃ o,B.get? b = some o)∧H' ea = none
theorem ObjOk.some' {P:Program} {w:World} {H:Hp} {h:Heap} {a:Addr} {o:HO} (x:ObjOk P w H h a o):∃ ob,h.get? a = some ob:=by
 cases o with
 | lst xs=>obtain ⟨_,_,_,_,e⟩:=x; exact ⟨_,e⟩
 | tup xs=>obtain ⟨_,_,_,ob,e,_⟩:=x; exact ⟨ob,e⟩
 | dK kvs=>obtain ⟨_,_,_,_,ob,_,_,e,_⟩:=x; exact ⟨ob,e⟩
 | dT kvs=>obtain ⟨_,_,_,_,ob,_,_,e,_⟩:=x; exact ⟨ob,e⟩
 | set S n=>obtain ⟨ob,_,_,_,e,_⟩:=x; exact ⟨ob,e⟩
 | ins C dx fs=>obtain ⟨_,_,_,e,_⟩:=x; exact ⟨_,e⟩
 | own y=>exact x
 | xd fs=>obtain ⟨_,⟨ob,_,_,e,_⟩,_⟩:=x; exact ⟨ob,e⟩
 | rng lo hi=>obtain ⟨_,_,_,e⟩:=x; exact ⟨_,e⟩
 | frz ob u=>exact ⟨ob,x.1⟩
 | tbl ps=>exact ⟨_,x⟩
 | met f y=>exact ⟨_,x⟩
 | ext φ=>obtain ⟨_,⟨ob,e⟩,_⟩:=x; exact ⟨ob,e⟩
theorem HOk.fly {P:Program} {w:World} {H:Hp} {h h' B:Heap} (ok:HOk P w H h) (tr:∀ b u,H b = some u→∃ o,B.get? b = some o) (s1:B.StaysIn h) (s2:B.StaysIn h'):HOk P w H h':=fun a o e =>
 (ok a o e).stay (fun b u hb q=>by
  obtain ⟨v,hv⟩:∃ v,H b = some v:=hb.elim (fun z=>⟨o,by rw [z]; exact e⟩) fun z=>⟨_,z⟩
  obtain ⟨o',ho'⟩:=tr b v hv
  have e1:=s1 b o' ho'
  rw [q] at e1
  cases e1
  exact s2 b _ ho') (fun _ q=>q) fun _ _ q=>q
theorem Un.fly {fs:List Addr} {H H':Hp} {h₀ h h' B:Heap} (u:Un fs [] H H' h₀ h) (cov:∀ b o,h₀.get? b = some o→b∉fs→∃ o',B.get? b = some o') (s1:B.StaysIn h) (s2:B.StaysIn h')
  (sl:∀ b∈fs,∀ o,h.get? b = some o→∃ z,h'.get? b = some { o with slots:=z }):Un fs [] H H' h₀ h' where
 keep:=fun b ob q n hb hx=>by
  have e:=u.keep b ob q n hb hx
  obtain ⟨o',ho'⟩:=cov b ob q hb
  have e1:=s1 b o' ho'
  rw [e] at e1
  cases e1
  exact s2 b _ ho'
 slot:=fun b ob q n hb hx=>by
  obtain ⟨z,e⟩:=u.slot b ob q n hb hx
  obtain ⟨z',e'⟩:=sl b hb _ e
  exact ⟨z',e'⟩
 free:=u.free
 there:=fun b ob q hx=>by
  by_cases hb:b∈fs
  ·obtain ⟨o1,e⟩:=u.there b ob q hx
   obtain ⟨z,e'⟩:=sl b hb o1 e
   exact ⟨_,e'⟩
  ·obtain ⟨o',ho'⟩:=cov b ob q hb
   exact ⟨o',s2 b o' ho'⟩
 tups:=u.tups
 frzs:=u.frzs
 tbls:=u.tbls
section
variable {P:Program} {w:World} {K:PySem.W.Frag} {mg:Str→Option Value} {base:Heap} {N:List Str} {qual:Str} {scope:Scope} {f:Addr} {cd:Value} {A:Around} {outer:List Env} {s₀:Shared} {H₀:Hp} {E:XK}
abbrev cxX (P:Program) (w:World) (K:PySem.W.Frag) (mg:Str→Option Value) (base:Heap) (N:List Str) (qual:Str) (scope:Scope) (f:Addr) (cd:Value) (A:Around) (outer:List Env) (s₀:Shared) (H₀:Hp) (E:XK):Cx:=cxOf (CX1 P w) P w K mg base N qual scope f cd A outer s₀ H₀ E
theorem young_fr {pins:List (Addr× Obj)} {σ:St} {H:Hp} {s:Shared} (I:Inv (cxX P w K mg base N qual scope f cd A outer s₀ H₀ E) pins σ H s) {b:Addr} {o:Obj} (e:s₀.heap.get? b = some o) (hb:b∉frs outer) :
  b∉frs (cxX P w K mg base N qual scope f cd A outer s₀ H₀ E).stack:=fun z=>by
 rcases List.mem_cons.mp (I.stkSub b z) with q | q
 ·exact absurd (Heap.lt_size e) (by rw [q]; exact Nat.lt_irrefl _)
 ·exact hb q
theorem passX:Passes (CX1 P w) (cxX P w K mg base N qual scope f cd A outer s₀ H₀ E) E:=by
 intro pins σ H s e s' I h
 obtain ⟨ea,C,a0,H',B,rfl,hE,os,bare,un,hok,fl,cov,trb,hea⟩:=h
 have I0:Inv (cxX P w K mg base N qual scope f cd A outer s₀ H₀ E) [] σ H s:=I.pins_of fun p hp=>absurd hp (by simp)
 have I1:Inv (cxX P w K mg base N qual scope f cd A outer s₀ H₀ E) [] σ H' s':=I0.call' (ch:=[]) os un hok bare fun b hb=>absurd hb (by simp)
 show wpAny _ _ (leaving _ (.ref ea)) _ _ s'
 refine wpAny_leaves_onW (base:=B) (L:=s₀.heap.objs.size) I.ok.frames rfl fl fun h' fl' up=>?_
 have cov':∀ b o,s₀.heap.get? b = some o→b∉frs outer→∃ o',B.get? b = some o':=fun b o q hb=>by
  obtain ⟨o1,e1⟩:=I.base.there b o q (fun z=>absurd z (show b∉([]:List Addr) by simp))
  exact cov b o1 e1 (young_fr I q hb)
 refine ⟨ea,C,a0,H',B,rfl,hE,I1.os,bare,?_,hok.fly trb fl.1 fl'.1,fl',cov',trb,hea⟩
 refine Un.fly (B:=B) I1.base cov' fl.1 fl'.1 fun b hb o q=>?_
 obtain ⟨_,o2,q2,nf⟩:=fl'.2.2.1.mem hb
 have nf':∀ vs,o.data≠.fields vs:=fun vs z=>by
  obtain ⟨_,o3,q3,n3⟩:=I1.funs.mem hb
  rw [q] at q3
  cases q3
  exact n3 vs z
 exact up b o q nf'
theorem raisedX {pins:List (Addr× Obj)} {σ:St} {H:Hp} {s:Shared} {h':Heap} {ea C:Addr} {vs:List Value} (I:Inv (cxX P w K mg base N qual scope f cd A outer s₀ H₀ E) pins σ H s) (hx:Heap.MadeExcOf s.heap h' ea (.ref C) vs) (hE:E (.ref C) none H) :
  (cxX P w K mg base N qual scope f cd A outer s₀ H₀ E).xe (.ref ea) { s with heap:=h' }:=by
 show wpAny _ _ (leaving _ (.ref ea)) _ _ _
 have hin:∀ env∈(cxX P w K mg base N qual scope f cd A outer s₀ H₀ E).stack,∀ a,env.frame = some a→a∈frs (cxX P w K mg base N qual scope f cd A outer s₀ H₀ E).stack:=fun env he a ha=>List.mem_filterMap.mpr ⟨env,he,ha⟩
 refine wpAny_leaves_madeW (base:=PySem.W.hideAll s.heap (frs (cxX P w K mg base N qual scope f cd A outer s₀ H₀ E).stack)) (L:=s₀.heap.objs.size) I.ok.frames rfl (fun b o q=>PySem.W.of_hideAll _ q) (PySem.W.funFrames_hide I.stack hin) hx fun h'' t fl tup tn up=>?_
 have st:(PySem.W.hideAll s.heap (frs (cxX P w K mg base N qual scope f cd A outer s₀ H₀ E).stack)).StaysIn s.heap:=fun b o q=>PySem.W.of_hideAll _ q
 have cov:∀ b o,s₀.heap.get? b = some o→b∉frs outer→∃ o',(PySem.W.hideAll s.heap (frs (cxX P w K mg base N qual scope f cd A outer s₀ H₀ E).stack)).get? b = some o':=fun b o q hb=>by
  obtain ⟨o1,e1⟩:=I.base.there b o q (fun z=>absurd z (show b∉([]:List Addr) by simp))
  exact ⟨o1,PySem.W.hideAll_get _ e1 (young_fr I q hb)⟩
 have trb:∀ b u,H b = some u→∃ o,(PySem.W.hideAll s.heap (frs (cxX P w K mg base N qual scope f cd A outer s₀ H₀ E).stack)).get? b = some o:=fun b u q=>by
  obtain ⟨o,e⟩:=(I.hok b u q).some'
  exact ⟨o,PySem.W.hideAll_get _ e fun z=>by rw [I.stkFree b z] at q; cases q⟩
 have hea:H ea = none:=by
  cases z:H ea with
  | none=>rfl
  | some u =>
   obtain ⟨o,e⟩:=(I.hok ea u z).some'
   rw [hx.new] at e
   cases e
 refine ⟨ea,C,.ref t,H,_,rfl,hE,I.os,I.bare,?_,I.hok.fly trb st fl.1,fl,cov,trb,hea⟩
 refine Un.fly I.base cov st fl.1 fun b hb o q=>?_
 have nf':∀ vs,o.data≠.fields vs:=fun vs z=>by
  obtain ⟨_,o3,q3,n3⟩:=I.funs.mem hb
  rw [q] at q3
  cases q3
  exact n3 vs z
 exact up b o (hx.keeps b o q) nf'
end
abbrev veM:List Value:=[.type "ValueError", .type "Exception", .type "BaseException", .type "object"]
def ExcC (K:PySem.W.Frag) (C:Addr):Prop:=PySem.W.excIn K C veM "ValueError.__new__" = true
theorem ExcC.obj {K:PySem.W.Frag} {C:Addr} (q:ExcC K C) {h:Heap} (X:K.In h):∃ bm N nm qn bs hd sn sub ab col dd k0 k1 k2 k3 k5 mN,h.get? C = some (excClassObj nm qn C N bs bm hd sn sub ab col dd k0 k1 k2 k3 k5 "ValueError.__new__") ∧
  h.Ns N mN∧mN "__init__" = none∧OwnTail h veM bm:=by
 unfold ExcC PySem.W.excIn at q
 split at q
 case h_2=>cases q
 rename_i d1 c1 l1 hl
 split at q
 case h_2=>cases q
 rename_i C2 b2 j0 j1 j2 j3 nn j5 hmr hli
 have q1:=Bool.and_eq_true_iff.mp q
 have q2:=Bool.and_eq_true_iff.mp q1.1
 have q3:=Bool.and_eq_true_iff.mp q2.1
 have q4:=Bool.and_eq_true_iff.mp q3.1
 have q5:=Bool.and_eq_true_iff.mp q4.1
 have ho:=X _ _ hl
 have eC:C2 = C:=eq_of_beq q5.1
 have en:nn = "ValueError.__new__" := eq_of_beq q5.2
 have T:=PySem.W.tail_of_in (h:=h) X q3.2
 have NS:h.Ns c1.ns (h.nsMap c1.ns):=.of_isNs (PySem.W.isNs_of_in X q2.2)
 have hi:=PySem.W.nsMap_none_of_in X q2.2 (eq_of_beq q1.2)
 have ed:c1.hasDel = false:=by
  cases z:c1.hasDel with
  | false=>rfl
  | true=>rw [z] at q4; exact absurd q4.2 (by decide)
 have es:l1 = #[j0,j1,j2,j3,some (.builtin "ValueError.__new__"),j5]:=by rw [← en]; exact Array.toList_inj.mp hli
 rw [es] at ho
 rw [eC] at hmr
 obtain ⟨nm,bs,mr,ns,qn,hdi,sn,sub,ab,col,dl⟩:=c1
 have e1:mr = Value.ref C :: b2:=hmr
 have e2:dl = false:=ed
 rw [e1,e2] at ho
 exact ⟨b2,ns,nm,qn,bs,hdi,sn,sub,ab,col,d1,j0,j1,j2,j3,j5,_,ho,NS,hi,T⟩
def tRaise (C:Addr) (E:XK) (t:TA):TS:=fun _ σ H=>t σ H fun vs H'=>vs.length≤sizeLine∧E (.ref C) none H'
section
variable {P:Program} {w:World} {K:PySem.W.Frag} {mg:Str→Option Value} {base:Heap} {N:List Str} {qual:Str} {scope:Scope} {f:Addr} {cd:Value} {A:Around} {outer:List Env} {s₀:Shared} {H₀:Hp} {E:XK}
theorem ps_raise {x:Str} {C:Addr} {np cpos pos:Pos} {e:Expr} {es:List Expr} {t:TA} (hq:ExcC K C) (hm:mg x = some (.ref C)) (hg:Gl (cxX P w K mg base N qual scope f cd A outer s₀ H₀ E) x)
  (ha:PA (cxX P w K mg base N qual scope f cd A outer s₀ H₀ E) (e :: es) t)
  (hdb:(x == ("__debug__" : Str)) = false:=by decide) (he:starEach (e :: es) (cxX P w K mg base N qual scope f cd A outer s₀ H₀ E).env = (false,eval e (cxX P w K mg base N qual scope f cd A outer s₀ H₀ E).env) :: starEach es (cxX P w K mg base N qual scope f cd A outer s₀ H₀ E).env:=by rfl)
  (hpl:(backTo cpos (starEach es (cxX P w K mg base N qual scope f cd A outer s₀ H₀ E).env)).any (·.1) = false:=by rfl) :
  PS (cxX P w K mg base N qual scope f cd A outer s₀ H₀ E) (.Raise (some (.Call (.Name x np) (e :: es) [] cpos)) none pos) (tRaise C E t):=by
 intro pins s σ H D I h
 obtain ⟨bm,Nn,nm,qn,bs,hd,sn,sub,ab,col,dd,k0,k1,k2,k3,k5,mN,hC,hN,hni,TL⟩:=hq.obj I.ok.mod.kin
 have ha':=ha cpos pins s σ H _ I h
 refine wpAny_Raise_call_subT (C:=C) (N:=Nn) (nm:=nm) (q:=qn) (bs:=bs) (bm:=bm) (hdct:=hd) (sn:=sn) (sub:=sub) (ab:=ab) (col:=col) (dd:=dd) (k0:=k0) (k1:=k1) (k2:=k2) (k3:=k3) (k5:=k5) (mN:=mN) PySem.F.excBase_ValueError (TL.hasType (by decide)) (I.ok.hd rfl) ?_ hni (ld_glob I hg hm ⟨rfl,?_⟩ hdb)
 ·rw [he]
  show (false || (backTo cpos (starEach es (cxX P w K mg base N qual scope f cd A outer s₀ H₀ E).env)).any (·.1)) = false
  rw [hpl]; rfl
 ·rw [he] at ha' ⊢
  refine Calls.evalArgs_plain (thn ha' fun us s1 ⟨vs,H1,I1,r,hl,q⟩=>⟨rfl,?_,I1.bk _ _ hC,hN.keeps I1.bk,TL.keeps I1.bk,fun h' ea hx=>raisedX I1 hx q⟩)
  rw [← r.length]
  exact hl
end
def PX (X:Cx) (e:Expr) (t:XK→TE):Prop:=∀ (pins:List (Addr× Obj)) (s:Shared) (σ:St) (H:Hp) (Q:VK) (E:XK) (xe:Value→Shared→Prop),Inv X pins σ H s→t E σ H Q →
 (∀ H1 s1 e' s',Inv X pins σ H1 s1→CX1 X.prog X.w X.stack H1 s1 E e' s'→xe e' s')→wpAny (model X.prog X.w) X.A (eval e X.env) (EP X pins σ Q) xe s
def PXs (X:Cx) (sts:List Stmt) (t:XK→TS):Prop:=∀ (pins:List (Addr× Obj)) (s:Shared) (σ:St) (H:Hp) (D:Ends) (E:XK) (xe:Value→Shared→Prop),Inv X pins σ H s→t E D σ H →
 (∀ H1 s1 e' s',Inv X pins σ H1 s1→CX1 X.prog X.w X.stack H1 s1 E e' s'→xe e' s')→wpAny (model X.prog X.w) X.A (execs sts X.env) (SP X pins D) xe s
def CalleeX (P:Program) (w:World) (K:PySem.W.Frag) (mg:Str→Option Value) (base:Heap) (k:Nat) (x:Str) (ps:List Str) (sp:Sp):Prop :=
 ∃ f fd,FnOk P w K mg base (CX1 P w) k f fd ps sp∧Binds K fd ps []∧PySem.W.keepIn K (.ref f) = true∧mg x = some (.ref f)
section
variable {X:Cx} {k j:Nat} {f:Addr} {fd:FuncData} {ps:List Str} {sp:Sp} {x:Str} {p pos:Pos} {e:Expr} {es:List Expr} {t:TA}
theorem run_fnX {pins:List (Addr× Obj)} {σ:St} {H:Hp} {s:Shared} {Q:VK} {E:XK} {xe:Value→Shared→Prop} {us:List Value} {vs:List V} (F:FnOk X.prog X.w X.K X.mg X.base (CX1 X.prog X.w) k f fd ps sp) (hr:Room k X.A) (hb:Binds X.K fd ps [])
  (I:Inv X pins σ H s) (r:Vals vs us) (h:sp vs H Q E) (hx:∀ H1 s1 e' s',Inv X pins σ H1 s1→CX1 X.prog X.w X.stack H1 s1 E e' s'→xe e' s'):wpAny (model X.prog X.w) X.A (call (.ref f) us) (EP X pins σ Q) xe s:=by
 have hl:us.length = ps.length:=by rw [← r.length]; exact F.len _ _ _ _ h
 have hb':=hb s us I.kIn (by rw [List.append_nil]; exact hl)
 rw [List.append_nil] at hb'
 refine wpAny_call (codeAny_mono (F.run X.A X.stack s H ⟨us,[]⟩ us vs Q E hr I.env0 hb' r h) fun r s' hq=>?_)
 cases r with
 | error e=>exact hx H s e s' I hq
 | ok fl =>
  cases fl with
  | ret u=>exact I.after hq
  | next=>exact False.elim hq
  | brk=>exact False.elim hq
  | cont=>exact False.elim hq
theorem px_call (C:CalleeX X.prog X.w X.K X.mg X.base j x ps sp) (hr:Room k X.A) (hg:Gl X x) (ha:PA X.nox (e :: es) t) (hj:j≤k:=by first | decide | omega)
  (hdb:(x == ("__debug__" : Str)) = false:=by decide) (he:starEach (e :: es) X.env = (false,eval e X.env) :: starEach es X.env:=by rfl) (hpl:(backTo pos (starEach es X.env)).any (·.1) = false:=by rfl) :
  PX X (.Call (.Name x p) (e :: es) [] pos) (fun E=>tCall sp [] E t):=by
 obtain ⟨f,fd,F,b,kp,m⟩:=C
 intro pins s σ H Q E xe I h hx
 refine wpAny_Call_Name_kw (ld_glob I hg m ?_ hdb)
 have ha':=ha pos pins s σ H _ (I.wish _) h
 refine PySem.W.callWith_K (h₀:=X.base) I.ok.mod.kin kp (wpAny_mono ha' (fun us s1 ⟨vs,H1,I1,r,q⟩=>⟨I1.unwish.kIn,?_⟩) fun _ _ z=>False.elim z) he hpl
 have q2:sp (vs ++ []) H1 Q E:=q
 rw [List.append_nil] at q2
 exact run_fnX (F.mono hj) hr b I1.unwish r q2 hx
theorem pxs_set {i:Nat} {te:XK→TE} {pos':Pos} (he:PX X e te) (hN:X.N.Nodup) (hi:X.N[i]? = some x) (hx:Loc X.env.scope x) (hs:swapsWith e (some (.Name x pos')) pos.line X.env = pure false:=by rfl) (hf:X.fn x = true∨X.env.scope.names.lookup x = some .local:=by first | exact .inl rfl | exact .inr rfl | assumption) :
  PXs X [.Assign [.Name x pos'] e pos] (fun E=>tAsg (te E) (gName i)):=by
 intro pins s σ H D E xe I h hxx
 refine wpAny_execs_cons (wpAny_Assign_Name (thn (he pins s σ H _ E xe I h hxx) fun v s1 ⟨y,H1,I1,r1,q1⟩=>?_) hs)
 exact store_ok I1 hN hi hx r1 (fun s2 I2=>wpAny_execs_nil ⟨_,H1,I2,q1⟩) hf
end
section
variable {P:Program} {w:World} {K:PySem.W.Frag} {mg:Str→Option Value} {base:Heap}
theorem FunM.okX {x:Str} {st:Stmt} {N ps:List Str} {k:Nat} {sp:Sp} (F:FunM K mg x ps st) (S:FnScope N ps (defScope st)) (len:∀ vs H Q E,sp vs H Q E→vs.length = ps.length)
  (hbody:∀ (f:Addr) (cdv:Value) (A:Around) (outer:List Env) (s:Shared) (H:Hp) (vs:List V) (Q:VK) (E:XK),Room k (A.deeper (envOfC x (defScope st) s.heap.objs.size f cdv))→sp vs H Q E →
   ∃ t,PSs (cxX P w K mg base N x (defScope st) f cdv A outer s H E) (defBody st) t∧t { nx:=fun _ H'=>Q .non H',rt:=Q } (start N vs) H):CalleeX P w K mg base (k + 1) x ps sp:=by
 obtain ⟨f,fd,F,m,b⟩:=F
 have kp:=F.kp
 obtain ⟨oc,od,kV,doc,pm,an,cdv,ct,osl,rfl,lk,hcd⟩:=F.ex
 exact ⟨f,_,fn_of lk hcd S len fun A outer s H vs Q E hr hsp=>hbody f cdv A outer s H vs Q E hr hsp,b,kp,m⟩
end
section
variable {P:Program} {w:World} {K:PySem.W.Frag} {mg:Str→Option Value} {base:Heap} {N:List Str} {qual:Str} {scope:Scope} {f:Addr} {cd:Value} {A:Around} {outer:List Env} {s₀:Shared} {H₀:Hp} {E:XK}
theorem pe_callX {x:Str} {p pos:Pos} {e:Expr} {es:List Expr} {t:TA} {k j:Nat} {ps:List Str} {sp:Sp} (C:CalleeX P w K mg base j x ps sp) (hr:Room k (cxX P w K mg base N qual scope f cd A outer s₀ H₀ E).A) (hg:Gl (cxX P w K mg base N qual scope f cd A outer s₀ H₀ E) x)
  (ha:PA (cxX P w K mg base N qual scope f cd A outer s₀ H₀ E) (e :: es) t) (hj:j≤k:=by first | decide | omega)
  (hdb:(x == ("__debug__" : Str)) = false:=by decide) (he:starEach (e :: es) (cxX P w K mg base N qual scope f cd A outer s₀ H₀ E).env = (false,eval e (cxX P w K mg base N qual scope f cd A outer s₀ H₀ E).env) :: starEach es (cxX P w K mg base N qual scope f cd A outer s₀ H₀ E).env:=by rfl)
  (hpl:(backTo pos (starEach es (cxX P w K mg base N qual scope f cd A outer s₀ H₀ E).env)).any (·.1) = false:=by rfl) :
  PE (cxX P w K mg base N qual scope f cd A outer s₀ H₀ E) (.Call (.Name x p) (e :: es) [] pos) (tCall sp [] E t):=by
 obtain ⟨f,fd,F,b,kp,m⟩:=C
 exact pe_call (F.mono hj) hr hg m kp b .nil passX ha hdb he hpl
end
abbrev Cx.hold (X:Cx) (u:Value):Cx:={ X with A:=X.A.mark (some u),calm:=false,xe:=fun _ _=>False }
section
variable {X:Cx} {pins:List (Addr× Obj)} {σ:St} {H:Hp} {s:Shared} {u:Value}
theorem Inv.hold (I:Inv X pins σ H s) (u:Value):Inv (X.hold u) pins σ H s :=
 ⟨⟨I.ok.mod,I.ok.kind,I.ok.glob,I.ok.blt,I.ok.above,I.ok.inj,I.ok.has,I.ok.cab,fun z=>(by cases z),I.ok.frames,I.ok.stk,I.ok.exf,I.ok.bs,I.ok.bsz,I.ok.noex,I.ok.exfs,I.ok.funs,I.ok.frf⟩,
  I.os,I.bare,I.base,I.loc,I.cell,I.free,I.freeC,I.pin,I.hok,I.len⟩
theorem Inv.unhold (ok:X.Ok) (I:Inv (X.hold u) pins σ H s):Inv X pins σ H s:=⟨ok,I.os,I.bare,I.base,I.loc,I.cell,I.free,I.freeC,I.pin,I.hok,I.len⟩
theorem SP.unhold (ok:X.Ok) {D:Ends} {f:Flow} {s':Shared} (h:SP (X.hold u) pins D f s'):SP X pins D f s':=by
 cases f with
 | next=>obtain ⟨σ',H',I,q⟩:=h; exact ⟨σ',H',I.unhold ok,q⟩
 | brk=>obtain ⟨σ',H',I,q⟩:=h; exact ⟨σ',H',I.unhold ok,q⟩
 | cont=>obtain ⟨σ',H',I,q⟩:=h; exact ⟨σ',H',I.unhold ok,q⟩
 | ret v=>obtain ⟨v',σ',H',I,r,q⟩:=h; exact ⟨v',σ',H',I.unhold ok,r,q⟩
end
structure Land (X:Cx) (pins:List (Addr× Obj)) (σ:St) (H:Hp) (B:Heap) (ea C:Addr) (a0:Value) (s:Shared):Prop where
 inv:Inv X pins σ H s
 fly:Heap.FlyingW B X.stack ea (.ref C) a0 s.heap
 go:∀ h',B.StaysIn h'→s.heap.UpToSlots h'→Inv X pins σ H { s with heap:=h' }
section
variable {X:Cx} {pins:List (Addr× Obj)} {σ:St} {H H':Hp} {s s':Shared} {B:Heap} {ea C:Addr} {a0:Value}
theorem land (I:Inv X pins σ H s) (os:s'.os = s.os) (bare:AllBare s'.gens) (un:Un (frs X.stack) [] H H' s.heap s'.heap) (hok:HOk X.prog X.w H' s'.heap) (fl:Heap.FlyingW B X.stack ea (.ref C) a0 s'.heap)
  (cov:∀ b o,s.heap.get? b = some o→b∉frs X.stack→∃ o',B.get? b = some o') (trb:∀ b u,H' b = some u→∃ o,B.get? b = some o) {h':Heap} (st:B.StaysIn h') (up:s'.heap.UpToSlots h'):Inv X pins σ H' { s' with heap:=h' }:=by
 have nf:∀ b∈frs X.stack,∀ o,s'.heap.get? b = some o→∃ z,h'.get? b = some { o with slots:=z }:=fun b hb o q=>by
  refine up b o q fun vs z=>?_
  obtain ⟨_,o3,q3,n3⟩:=fl.2.2.1.mem hb
  rw [q] at q3
  cases q3
  exact n3 vs z
 exact I.call' (ch:=[]) (s':={ s' with heap:=h' }) os (Un.fly un cov fl.1 st nf) (hok.fly trb fl.1 st) bare fun b hb=>absurd hb (by simp)
end
def PH (X:Cx) (hs:List ExceptHandler) (th:Addr→TS):Prop:=∀ (pins:List (Addr× Obj)) (s:Shared) (σ:St) (H:Hp) (D:Ends) (B:Heap) (ea C:Addr) (a0:Value),Land X pins σ H B ea C a0 s→th C D σ H →
 wpAny (model X.prog X.w) X.A (handleBy (.ref ea) X.env hs) (SP X pins D) X.xe s
def tHand (K:PySem.W.Frag) (C0:Addr) (t:TS) (r:Addr→TS):Addr→TS:=fun C D σ H=>(PySem.W.exmOne K (.ref C) (.ref C0) = some true∧t D σ H)∨(PySem.W.exmOne K (.ref C) (.ref C0) = some false∧r C D σ H)
def tLost:Addr→TS:=fun _ _ _ _=>False
section
variable {X:Cx} {x:Str} {np pos:Pos} {b0:Stmt} {suite:List Stmt} {hs:List ExceptHandler} {C0:Addr} {t:TS} {r:Addr→TS}
theorem ph_nil:PH X hs tLost:=fun _ _ _ _ _ _ _ _ _ _ h=>h.elim
theorem ph_cons (hm:X.mg x = some (.ref C0)) (hg:Gl X x) (ht:∀ u,PSs (X.hold u) (b0 :: suite) t) (hr:PH X hs r) (hdb:(x == ("__debug__" : Str)) = false:=by decide) :
  PH X (.ExceptHandler (some (.Name x np)) none (b0 :: suite) pos :: hs) (tHand X.K C0 t r):=by
 intro pins s σ H D B ea C a0 L h
 refine wpAny_handleBy_cons (codeAny_handlers_test (ld_glob (X:=X.hold (.ref ea)) (L.inv.hold _) hg hm ?_ hdb)) (by intro q; cases q)
 have LT:PySem.W.Looks (model X.prog X.w) s.heap (typeOf (.ref ea)) (.ref C):=by
  obtain ⟨ob,hob,hoc⟩:=L.fly.there
  rw [← hoc]
  exact PySem.W.Looks.ld hob |>.andThen .now
 rcases h with ⟨hx,h⟩ | ⟨hx,h⟩
 ·refine (PySem.W.exm_one L.inv.kIn LT hx).here ?_
  refine codeAny_handlers_suite ?_
  refine lands_againW L.fly fun h6 fl6 up6=>?_
  have I6:=(L.go h6 fl6.1 up6).hold (.ref ea)
  exact wpAny_mono (ht (.ref ea) pins _ σ H D I6 h) (fun f s2 q=>q.unhold L.inv.ok) fun _ _ z=>False.elim z
 ·refine (PySem.W.exm_one L.inv.kIn LT hx).here ?_
  exact hr pins s σ H D B ea C a0 L h
def tTry (th:Addr→TS) (tb:XK→TS):TS:=fun D σ H=>tb (fun cv _ H'=>∃ C,cv = .ref C∧th C D σ H') D σ H
theorem ps_try {body:List Stmt} {h0:ExceptHandler} {tb:XK→TS} {th:Addr→TS} (hb:PXs X body tb) (hh:PH X (h0 :: hs) th) (hst:X.stack = X.env :: X.outer) (hf:X.env.frame = some X.env.locals):PS X (.Try body (h0 :: hs) [] [] pos) (tTry th tb):=by
 intro pins s σ H D I h
 refine wpAny_Try_except (wpAny_mono (hb pins s σ H D _ (fun e s₁=>wpAny (model X.prog X.w) X.A (noteFrame e X.env) (fun _ s₂=>wpAny (model X.prog X.w) X.A (setFlight e none) (fun _ s₃=>wpAny (model X.prog X.w) X.A (handleBy e X.env (h0 :: hs)) (SP X pins D) X.xe s₃) X.xe s₂) X.xe s₁) I h ?_) (fun f s1 q=>?_) fun _ _ z=>z)
 ·intro H1 s1 e' s' I1 hc
  obtain ⟨ea,C,a0,H',B,rfl,⟨C',e1,hE⟩,os,bare,un,hok,fl,cov,trb,hea⟩:=hc
  cases e1
  have fl0:=fl
  rw [hst] at fl0
  refine wpAny_looks_onW (I1.ok.frames.trans (by rw [hst])) hf fl0 fun h4 held4 up4=>?_
  refine wpAny_landsW held4 fun h5 fl5 up5=>?_
  have fl5':Heap.FlyingW B X.stack ea (.ref C) a0 h5:=by rw [hst]; exact fl5
  have up:=up4.trans up5
  refine hh pins _ σ H' D B ea C a0 ⟨land I1 os bare un hok fl cov trb fl5.1 up,fl5',fun h' st' up'=>?_⟩ hE
  exact land I1 os bare un hok fl cov trb st' (up.trans up')
 ·cases f with
  | next=>exact wpAny_execs_nil q
  | brk=>exact q
  | cont=>exact q
  | ret v=>exact q
end
end L2
end
section
set_option Elab.async false
set_option linter.all false
set_option maxRecDepth 100000
set_option maxHeartbeats 4000000
namespace L2
open PySem PySem.Spec PyProof.Rows
open PySem.Builtin.Str
section
variable {X:Cx}
end
section
variable {X:Cx}
end
section
variable {X:Cx} {pins:List (Addr× Obj)} {σ:St} {H:Hp} {s:Shared}
end
section
variable {X:Cx}
end
end L2
end
section
set_option Elab.async false
set_option linter.all false
set_option maxRecDepth 100000
set_option maxHeartbeats 4000000
namespace L2
open PySem PySem.Spec PyProof.Rows
open PySem.Builtin.Str PySem.StrLaws
def flush (cur:List Nat):List (List Nat):=if cur = [] then [] else [cur]
def isM (c:Nat):Bool:=c == 123 || c == 125 || c == 59 || c == 124
def tok:List Nat→List Nat→List (List Nat)
 | cur,[]=>flush cur
 | cur,c :: l=>if Unicode.isSpace c = true then flush cur ++ tok [] l else if isM c = true then flush cur ++ [c] :: tok [] l else tok (cur ++ [c]) l
end L2
end
section
set_option Elab.async false
set_option linter.all false
set_option maxRecDepth 100000
set_option maxHeartbeats 4000000
namespace L2
open PySem PySem.Spec PyProof.Rows
section
variable {P:Program} {w:World} {K:PySem.W.Frag} {mg:Str→Option Value} {base:Heap} {N:List Str} {qual:Str} {scope:Scope} {f:Addr} {cd:Value} {A:Around} {outer:List Env} {s₀:Shared} {H₀:Hp} {E:XK}
end
end L2
end
section
set_option Elab.async false
set_option linter.all false
set_option maxRecDepth 100000
set_option maxHeartbeats 4000000
namespace My
open PySem L2
def top (i:Nat):Stmt:=PySem.Challenge.pw_signalwise_k64_too_many.main.body.getD i (.Pass ⟨0,0,0,0⟩)
abbrev s_begun_instants:Stmt:=top 22
theorem sc_begun_instants:FnScope ["part", "there", "word", "first", "inner"] ["part", "there"] (defScope s_begun_instants):=⟨rfl,rfl,rfl,by decide +kernel,rfl,by decide +kernel,by decide +kernel⟩
abbrev s_begun_leaf_instants:Stmt:=top 24
theorem sc_begun_leaf_instants:FnScope ["part", "sent"] ["part"] (defScope s_begun_leaf_instants):=⟨rfl,rfl,rfl,by decide +kernel,rfl,by decide +kernel,by decide +kernel⟩
abbrev s_in_turn_instants:Stmt:=top 27
theorem sc_in_turn_instants:FnScope ["first", "second"] ["first", "second"] (defScope s_in_turn_instants):=⟨rfl,rfl,rfl,by decide +kernel,rfl,by decide +kernel,by decide +kernel⟩
abbrev s_side_by_side_instants:Stmt:=top 29
theorem sc_side_by_side_instants:FnScope ["first", "second", "code", "left"] ["first", "second"] (defScope s_side_by_side_instants):=⟨rfl,rfl,rfl,by decide +kernel,rfl,by decide +kernel,by decide +kernel⟩
abbrev s_begun_walking:Stmt:=top 34
theorem sc_begun_walking:FnScope ["part", "sure", "known", "word", "first", "inner"] ["part", "sure", "known"] (defScope s_begun_walking):=⟨rfl,rfl,rfl,by decide +kernel,rfl,by decide +kernel,by decide +kernel⟩
abbrev s_begun_leaf_walking:Stmt:=top 36
theorem sc_begun_leaf_walking:FnScope ["part", "sure", "can", "must"] ["part", "sure"] (defScope s_begun_leaf_walking):=⟨rfl,rfl,rfl,by decide +kernel,rfl,by decide +kernel,by decide +kernel⟩
abbrev s_in_turn_walking:Stmt:=top 38
theorem sc_in_turn_walking:FnScope ["first", "second", "going_past", "codes"] ["first", "second"] (defScope s_in_turn_walking):=⟨rfl,rfl,rfl,by decide +kernel,rfl,by decide +kernel,by decide +kernel⟩
abbrev s_side_by_side_walking:Stmt:=top 40
theorem sc_side_by_side_walking:FnScope ["first", "second", "least", "codes"] ["first", "second"] (defScope s_side_by_side_walking):=⟨rfl,rfl,rfl,by decide +kernel,rfl,by decide +kernel,by decide +kernel⟩
abbrev s_leaf_code:Stmt:=top 7
theorem sc_leaf_code:FnScope ["part"] ["part"] (defScope s_leaf_code):=⟨rfl,rfl,rfl,by decide +kernel,rfl,by decide +kernel,by decide +kernel⟩
abbrev s_code_of_again:Stmt:=top 8
theorem sc_code_of_again:FnScope ["code"] ["code"] (defScope s_code_of_again):=⟨rfl,rfl,rfl,by decide +kernel,rfl,by decide +kernel,by decide +kernel⟩
abbrev s_code_of_trap:Stmt:=top 9
theorem sc_code_of_trap:FnScope ["code"] ["code"] (defScope s_code_of_trap):=⟨rfl,rfl,rfl,by decide +kernel,rfl,by decide +kernel,by decide +kernel⟩
abbrev s_part_to_begin:Stmt:=top 14
theorem sc_part_to_begin:FnScope ["part", "state"] ["part", "state"] (defScope s_part_to_begin):=⟨rfl,rfl,rfl,by decide +kernel,rfl,by decide +kernel,by decide +kernel⟩
abbrev s_body_to_begin:Stmt:=top 15
theorem sc_body_to_begin:FnScope ["program", "state", "found"] ["program", "state"] (defScope s_body_to_begin):=⟨rfl,rfl,rfl,by decide +kernel,rfl,by decide +kernel,by decide +kernel⟩
abbrev s_remaining:Stmt:=top 16
theorem sc_remaining:FnScope ["part", "state", "first", "second", "inner"] ["part", "state"] (defScope s_remaining):=⟨rfl,rfl,rfl,by decide +kernel,rfl,by decide +kernel,by decide +kernel⟩
abbrev s_left_of_pair:Stmt:=top 17
theorem sc_left_of_pair:FnScope ["part", "first", "second"] ["part", "first", "second"] (defScope s_left_of_pair):=⟨rfl,rfl,rfl,by decide +kernel,rfl,by decide +kernel,by decide +kernel⟩
abbrev s_left_of_round:Stmt:=top 18
theorem sc_left_of_round:FnScope ["part", "inner", "skipped"] ["part", "inner"] (defScope s_left_of_round):=⟨rfl,rfl,rfl,by decide +kernel,rfl,by decide +kernel,by decide +kernel⟩
abbrev s_ran:Stmt:=top 20
theorem sc_ran:FnScope ["part", "state", "there", "ending"] ["part", "state", "there"] (defScope s_ran):=⟨rfl,rfl,rfl,by decide +kernel,rfl,by decide +kernel,by decide +kernel⟩
abbrev s_instant:Stmt:=top 21
theorem sc_instant:FnScope ["program", "state", "there", "body"] ["program", "state", "there"] (defScope s_instant):=⟨rfl,rfl,rfl,by decide +kernel,rfl,by decide +kernel,by decide +kernel⟩
abbrev s_rests_left:Stmt:=top 26
theorem sc_rests_left:FnScope ["part"] ["part"] (defScope s_rests_left):=⟨rfl,rfl,rfl,by decide +kernel,rfl,by decide +kernel,by decide +kernel⟩
abbrev s_repeated:Stmt:=top 31
theorem sc_repeated:FnScope ["rest", "inner", "left"] ["rest", "inner"] (defScope s_repeated):=⟨rfl,rfl,rfl,by decide +kernel,rfl,by decide +kernel,by decide +kernel⟩
abbrev s_walked:Stmt:=top 33
theorem sc_walked:FnScope ["part", "state", "sure", "known", "ending"] ["part", "state", "sure", "known"] (defScope s_walked):=⟨rfl,rfl,rfl,by decide +kernel,rfl,by decide +kernel,by decide +kernel⟩
abbrev s_one_of:Stmt:=top 42
theorem sc_one_of:FnScope ["first", "second"] ["first", "second"] (defScope s_one_of):=⟨rfl,rfl,rfl,by decide +kernel,rfl,by decide +kernel,by decide +kernel⟩
abbrev s_recoded:Stmt:=top 43
theorem sc_recoded:FnScope ["inner", "codes"] ["inner", "codes"] (defScope s_recoded):=⟨rfl,rfl,rfl,by decide +kernel,rfl,by decide +kernel,by decide +kernel⟩
abbrev s_rounds:Stmt:=top 45
theorem sc_rounds:FnScope ["program", "state", "coming", "body", "known", "told", "changes"] ["program", "state", "coming"] (defScope s_rounds):=⟨rfl,rfl,rfl,by decide +kernel,rfl,by decide +kernel,by decide +kernel⟩
abbrev s_settled:Stmt:=top 46
theorem sc_settled:FnScope ["program", "state", "coming", "known", "changes"] ["program", "state", "coming"] (defScope s_settled):=⟨rfl,rfl,rfl,by decide +kernel,rfl,by decide +kernel,by decide +kernel⟩
abbrev s_signs_that_are:Stmt:=top 47
theorem sc_signs_that_are:FnScope ["value", "known"] ["value", "known"] (defScope s_signs_that_are):=⟨rfl,rfl,rfl,by decide +kernel,rfl,by decide +kernel,by decide +kernel⟩
abbrev s_known_at_first:Stmt:=top 48
theorem sc_known_at_first:FnScope ["program", "coming"] ["program", "coming"] (defScope s_known_at_first):=⟨rfl,rfl,rfl,by decide +kernel,rfl,by decide +kernel,by decide +kernel⟩
abbrev s_known_behind:Stmt:=top 49
theorem sc_known_behind:FnScope ["known", "changes", "behind", "change"] ["known", "changes"] (defScope s_known_behind):=⟨rfl,rfl,rfl,by decide +kernel,rfl,by decide +kernel,by decide +kernel⟩
abbrev s_changes_by:Stmt:=top 50
theorem sc_changes_by:FnScope ["body", "known", "must", "can", "walk", "waiting"] ["body", "known"] (defScope s_changes_by):=⟨rfl,rfl,rfl,by decide +kernel,rfl,by decide +kernel,by decide +kernel⟩
abbrev s_comings:Stmt:=top 53
theorem sc_comings:FnScope ["came", "found", "sign"] ["came"] (defScope s_comings):=⟨rfl,rfl,rfl,by decide +kernel,rfl,by decide +kernel,by decide +kernel⟩
abbrev s_looked:Stmt:=top 54
theorem sc_looked:FnScope ["program", "states", "ways", "place", "coming", "way", "known", "behind"] ["program"] (defScope s_looked):=⟨rfl,rfl,rfl,by decide +kernel,rfl,by decide +kernel,by decide +kernel⟩
abbrev s_add_state:Stmt:=top 55
theorem sc_add_state:FnScope ["states", "state"] ["states", "state"] (defScope s_add_state):=⟨rfl,rfl,rfl,by decide +kernel,rfl,by decide +kernel,by decide +kernel⟩
abbrev s_plain:Stmt:=top 59
theorem sc_plain:FnScope ["named", "ins", "outs", "numbers", "signs", "number", "name", "body"] ["named"] (defScope s_plain):=⟨rfl,rfl,rfl,by decide +kernel,rfl,by decide +kernel,by decide +kernel⟩
abbrev s_plain_part:Stmt:=top 60
theorem sc_plain_part:FnScope ["part", "signs", "traps", "numbers", "word", "left", "chosen", "repeated", "inner_signs"] ["part", "signs", "traps", "numbers"] (defScope s_plain_part):=⟨rfl,rfl,rfl,by decide +kernel,rfl,by decide +kernel,by decide +kernel⟩
abbrev s_plain_weak:Stmt:=top 61
theorem sc_plain_weak:FnScope ["part", "signs", "traps", "numbers", "inner", "waiting"] ["part", "signs", "traps", "numbers"] (defScope s_plain_weak):=⟨rfl,rfl,rfl,by decide +kernel,rfl,by decide +kernel,by decide +kernel⟩
abbrev s_awaited:Stmt:=top 62
theorem sc_awaited:FnScope ["sign", "numbers"] ["sign", "numbers"] (defScope s_awaited):=⟨rfl,rfl,rfl,by decide +kernel,rfl,by decide +kernel,by decide +kernel⟩
abbrev s_plain_leaf:Stmt:=top 63
theorem sc_plain_leaf:FnScope ["part", "signs", "traps", "numbers", "word"] ["part", "signs", "traps", "numbers"] (defScope s_plain_leaf):=⟨rfl,rfl,rfl,by decide +kernel,rfl,by decide +kernel,by decide +kernel⟩
abbrev s__law_mixed:Stmt:=top 65
theorem sc__law_mixed:FnScope ["_law_cell"] ["_law_cell"] (defScope s__law_mixed):=⟨rfl,rfl,rfl,by decide +kernel,rfl,by decide +kernel,by decide +kernel⟩
abbrev s__law_loop:Stmt:=top 66
theorem sc__law_loop:FnScope ["_law_number", "_law_rests", "_law_part", "_law_k"] ["_law_number", "_law_rests"] (defScope s__law_loop):=⟨rfl,rfl,rfl,by decide +kernel,rfl,by decide +kernel,by decide +kernel⟩
abbrev s__law_divisor:Stmt:=top 67
theorem sc__law_divisor:FnScope ["_law_one", "_law_other", "_law_rest"] ["_law_one", "_law_other"] (defScope s__law_divisor):=⟨rfl,rfl,rfl,by decide +kernel,rfl,by decide +kernel,by decide +kernel⟩
abbrev s__law_together:Stmt:=top 68
theorem sc__law_together:FnScope ["_law_sizes", "_law_many", "_law_size"] ["_law_sizes"] (defScope s__law_together):=⟨rfl,rfl,rfl,by decide +kernel,rfl,by decide +kernel,by decide +kernel⟩
abbrev s__law_asked:Stmt:=top 69
theorem sc__law_asked:FnScope ["_law_program", "_law_many", "_law_found"] ["_law_program"] (defScope s__law_asked):=⟨rfl,rfl,rfl,by decide +kernel,rfl,by decide +kernel,by decide +kernel⟩
abbrev s__law_states:Stmt:=top 70
theorem sc__law_states:FnScope ["_law_states_here", "_law_sizes", "_law_firsts", "_law_count", "_law_size", "_law_k", "_law_state", "_law_first"] ["_law_states_here", "_law_sizes"] (defScope s__law_states):=⟨rfl,rfl,rfl,by decide +kernel,rfl,by decide +kernel,by decide +kernel⟩
abbrev s_law:Stmt:=top 71
theorem sc_law:FnScope ["_law_script", "_law_numbers", "_law_sizes", "_law_block", "_law_k", "_law_many", "_law_more", "_law_found"] ["_law_script"] (defScope s_law):=⟨rfl,rfl,rfl,by decide +kernel,rfl,by decide +kernel,by decide +kernel⟩
abbrev s_Numbers:Stmt:=top 58
structure Txt (mg:Str→Option Value):Prop where
 n_ValueError:mg "ValueError" = none
 n_dict:mg "dict" = none
 n_enumerate:mg "enumerate" = none
 n_isinstance:mg "isinstance" = none
 n_len:mg "len" = none
 n_list:mg "list" = none
 n_max:mg "max" = none
 n_min:mg "min" = none
 n_range:mg "range" = none
 n_set:mg "set" = none
 n_sorted:mg "sorted" = none
 n_tuple:mg "tuple" = none
 n_zip:mg "zip" = none
end My
end
section
set_option Elab.async false
set_option linter.all false
set_option maxRecDepth 100000
set_option maxHeartbeats 4000000
namespace Pln
open PySem L2 My
inductive Np where
 | nothing | rest | halt
 | send (x:Str) | keep (x:Str) | await (x:Str) | exit (x:Str)
 | again (p:Np)
 | hold (x:Str) (p:Np) | watch (x:Str) (p:Np) | weak (x:Str) (p:Np) | trap (x:Str) (p:Np) | loc (x:Str) (p:Np)
 | iff (x:Str) (p q:Np) | thn (p q:Np) | bes (p q:Np)
def Np.nd:Np→Nd
 | .nothing=>.t [.s "nothing"]
 | .rest=>.t [.s "rest"]
 | .halt=>.t [.s "halt"]
 | .send x=>.t [.s "send", .s x]
 | .keep x=>.t [.s "keep", .s x]
 | .await x=>.t [.s "await", .s x]
 | .exit x=>.t [.s "exit", .s x]
 | .again p=>.t [.s "again", p.nd]
 | .hold x p=>.t [.s "hold", .s x,p.nd]
 | .watch x p=>.t [.s "watch", .s x,p.nd]
 | .weak x p=>.t [.s "weak", .s x,p.nd]
 | .trap x p=>.t [.s "trap", .s x,p.nd]
 | .loc x p=>.t [.s "local", .s x,p.nd]
 | .iff x p q=>.t [.s "if", .s x,p.nd,q.nd]
 | .thn p q=>.t [.s "then", p.nd,q.nd]
 | .bes p q=>.t [.s "beside", p.nd,q.nd]
abbrev Env':=Str→Option Int
def upE (e:Env') (x:Str) (n:Int):Env':=fun y=>if y = x then some n else e y
def idx (x:Str):List (Option Str)→Nat
 | []=>0
 | y :: r=>if y = some x then 0 else idx x r + 1
def nothN:Nd:=.t [.s "nothing"]
def waitN (s k:Int):Nd:=.t [.s "watch", .i s,.t [.s "again", .i k,nothN]]
def exit0:Nd:=.t [.s "exit", .i 0]
def weakN (s k:Int) (p:Nd):Nd:=.t [.s "trap", .t [.s "beside", .t [.s "then", p,exit0],.t [.s "then", waitN s k,exit0]]]
def pl:Np→Env'→List (Option Str)→Int→Int→Nd× Int× Int
 | .nothing,_,_,sg,rs=>(nothN,sg,rs)
 | .rest,_,_,sg,rs=>(.t [.s "rest", .i rs],sg,rs + 1)
 | .halt,_,_,sg,rs=>(.t [.s "again", .i rs,nothN],sg,rs + 1)
 | .send x,e,_,sg,rs=>(.t [.s "send", .i ((e x).getD 0)],sg,rs)
 | .keep x,e,_,sg,rs=>(.t [.s "again", .i rs,.t [.s "send", .i ((e x).getD 0)]],sg,rs + 1)
 | .await x,e,_,sg,rs=>(waitN ((e x).getD 0) rs,sg,rs + 1)
 | .exit x,_,tr,sg,rs=>(.t [.s "exit", .i (idx x tr)],sg,rs)
 | .again p,e,tr,sg,rs=>(.t [.s "again", .i (pl p e tr sg rs).2.2,(pl p e tr sg rs).1],(pl p e tr sg rs).2.1,(pl p e tr sg rs).2.2 + 1)
 | .hold x p,e,tr,sg,rs=>(.t [.s "hold", .i ((e x).getD 0),(pl p e tr sg rs).1],(pl p e tr sg rs).2)
 | .watch x p,e,tr,sg,rs=>(.t [.s "watch", .i ((e x).getD 0),(pl p e tr sg rs).1],(pl p e tr sg rs).2)
 | .weak x p,e,tr,sg,rs=>(weakN ((e x).getD 0) (pl p e (none :: tr) sg rs).2.2 (pl p e (none :: tr) sg rs).1,(pl p e (none :: tr) sg rs).2.1,(pl p e (none :: tr) sg rs).2.2 + 1)
 | .trap x p,e,tr,sg,rs=>(.t [.s "trap", (pl p e (some x :: tr) sg rs).1],(pl p e (some x :: tr) sg rs).2)
 | .loc x p,e,tr,sg,rs=>pl p (upE e x sg) tr (sg + 1) rs
 | .iff x p q,e,tr,sg,rs=>(.t [.s "if", .i ((e x).getD 0),(pl p e tr sg rs).1,(pl q e tr (pl p e tr sg rs).2.1 (pl p e tr sg rs).2.2).1],(pl q e tr (pl p e tr sg rs).2.1 (pl p e tr sg rs).2.2).2)
 | .thn p q,e,tr,sg,rs=>(.t [.s "then", (pl p e tr sg rs).1,(pl q e tr (pl p e tr sg rs).2.1 (pl p e tr sg rs).2.2).1],(pl q e tr (pl p e tr sg rs).2.1 (pl p e tr sg rs).2.2).2)
 | .bes p q,e,tr,sg,rs=>(.t [.s "beside", (pl p e tr sg rs).1,(pl q e tr (pl p e tr sg rs).2.1 (pl p e tr sg rs).2.2).1],(pl q e tr (pl p e tr sg rs).2.1 (pl p e tr sg rs).2.2).2)
def okp:Np→Env'→List (Option Str)→Prop
 | .nothing,_,_=>True
 | .rest,_,_=>True
 | .halt,_,_=>True
 | .send x,e,_=>∃ n,e x = some n
 | .keep x,e,_=>∃ n,e x = some n
 | .await x,e,_=>∃ n,e x = some n
 | .exit x,_,tr=>some x∈tr
 | .again p,e,tr=>okp p e tr
 | .hold x p,e,tr=>(∃ n,e x = some n)∧okp p e tr
 | .watch x p,e,tr=>(∃ n,e x = some n)∧okp p e tr
 | .weak x p,e,tr=>(∃ n,e x = some n)∧okp p e (none :: tr)
 | .trap x p,e,tr=>okp p e (some x :: tr)
 | .loc x p,e,tr=>∀ n,okp p (upE e x n) tr
 | .iff x p q,e,tr=>(∃ n,e x = some n)∧okp p e tr∧okp q e tr
 | .thn p q,e,tr=>okp p e tr∧okp q e tr
 | .bes p q,e,tr=>okp p e tr∧okp q e tr
def hgt:Np→Nat
 | .again p=>hgt p + 1
 | .hold _ p=>hgt p + 1
 | .watch _ p=>hgt p + 1
 | .weak _ p=>hgt p + 2
 | .trap _ p=>hgt p + 1
 | .loc _ p=>hgt p + 1
 | .iff _ p q=>max (hgt p) (hgt q) + 1
 | .thn p q=>max (hgt p) (hgt q) + 1
 | .bes p q=>max (hgt p) (hgt q) + 1
 | _=>0
def isLf:Np→Bool
 | .nothing | .rest | .halt | .send _ | .keep _ | .await _ | .exit _=>true
 | _=>false
def SgAt (H:Hp) (d:Addr) (e:Env') (L:Nat):Prop:=∃ kvs:List (Key× V),H d = some (.dK kvs)∧kvs.length≤L∧∀ x:Str,valV kvs (Sum.inr x:Key) = (e x).map V.int
def tV:Option Str→V
 | none=>.non
 | some x=>.str x
def flds (sg rs:Int):List (Str× V):=putF "rests" (.int rs) (putF "signs" (.int sg) [])
theorem rs_ne:¬ (("signs" : Str) = "rests"):=by decide +kernel
theorem flds_eq (sg rs:Int):flds sg rs = ([("signs", V.int sg),("rests", V.int rs)]:List (Str× V)):=by
 show (if ("signs" : Str) = "rests" then [(("signs" : Str),V.int rs)] else (("signs" : Str),V.int sg) :: putF "rests" (V.int rs) []) = ([("signs", V.int sg),("rests", V.int rs)]:List (Str× V))
 rw [if_neg rs_ne]
 all_goals rfl
theorem flds_signs (sg rs:Int):(flds sg rs).lookup ("signs" : Str) = some (.int sg):=by
 unfold flds
 rw [lookup_putF,if_neg rs_ne,lookup_putF,if_pos rfl]
theorem flds_rests (sg rs:Int):(flds sg rs).lookup ("rests" : Str) = some (.int rs):=by
 unfold flds
 rw [lookup_putF,if_pos rfl]
theorem flds_no (sg rs:Int) {m:Str} (h1:¬ m = "rests") (h2:¬ m = "signs"):(flds sg rs).lookup m = none:=by
 unfold flds
 rw [lookup_putF,if_neg h1,lookup_putF,if_neg h2]
 all_goals rfl
theorem put_rests (sg rs r:Int):putF "rests" (.int r) (flds sg rs) = flds sg r:=by
 rw [flds_eq,flds_eq]
 show (if ("signs" : Str) = "rests" then _ else (("signs" : Str),V.int sg) :: (if ("rests" : Str) = "rests" then [(("rests" : Str),V.int r)] else _)) = ([("signs", V.int sg),("rests", V.int r)]:List (Str× V))
 rw [if_neg rs_ne,if_pos rfl]
theorem put_signs (sg rs g:Int):putF "signs" (.int g) (flds sg rs) = flds g rs:=by
 rw [flds_eq,flds_eq]
 show (if ("signs" : Str) = "signs" then (("signs" : Str),V.int g) :: [(("rests" : Str),V.int rs)] else _) = ([("signs", V.int g),("rests", V.int rs)]:List (Str× V))
 rw [if_pos rfl]
def NumAt (C:Addr) (H:Hp) (o:Addr) (sg rs:Int):Prop:=∃ dx,H o = some (.ins C dx (flds sg rs))
structure TxtP (K:PySem.W.Frag) (mg:Str→Option Value) (C aN:Addr):Prop extends Txt mg where
 cl:Cls K C
 nS:NoAttr K C "signs"
 nR:NoAttr K C "rests"
 m_Numbers:mg "Numbers" = some (.ref C)
 m_NOTHING:mg "NOTHING_plain" = some (.ref aN)
 r_NOTHING:RelV (.ref aN) (Value.ref aN)
 mN:ModT K aN [.str "nothing"]
def spInit (C:Addr):Sp:=fun vs H Q _=>∃ (o dx:Addr) (sg:Int),vs = [.ref o,.int sg]∧H o = some (.ins C dx [])∧∀ H',Kp o H H'→NumAt C H' o sg 0→Q .non H'
def spNewS (C:Addr):Sp:=fun vs H Q _=>∃ (o:Addr) (sg rs:Int),vs = [.ref o]∧NumAt C H o sg rs∧∀ H',Kp o H H'→NumAt C H' o (sg + 1) rs→Q (.int sg) H'
def spNewR (C:Addr):Sp:=fun vs H Q _=>∃ (o:Addr) (sg rs:Int),vs = [.ref o]∧NumAt C H o sg rs∧∀ H',Kp o H H'→NumAt C H' o sg (rs + 1)→Q (.int rs) H'
def spAwaited (K:PySem.W.Frag) (C:Addr):Sp:=fun vs H Q _=>∃ (o:Addr) (s sg rs:Int),vs = [.int s,.ref o]∧NumAt C H o sg rs∧∀ v H',Kp o H H'→NumAt C H' o sg (rs + 1)→PAt K H' (waitN s rs) v→Q v H'
structure PlIn (K:PySem.W.Frag) (C:Addr) (H:Hp) (v:V) (n:Np) (d:Addr) (e:Env') (L:Nat) (t:Addr) (tr:List (Option Str)) (o:Addr) (sg rs:Int):Prop where
 at':PAt K H n.nd v
 sg':SgAt H d e L
 tr':H t = some (.lst (tr.map tV))
 nu:NumAt C H o sg rs
 ok:okp n e tr
 hL:L + hgt n≤900
 ht:tr.length + hgt n≤900
def spLeafP (K:PySem.W.Frag) (C:Addr):Sp:=fun vs H Q _=>∃ v n d e L t tr o sg rs,vs = [v,.ref d,.ref t,.ref o]∧PlIn K C H v n d e L t tr o sg rs∧isLf n = true ∧
 ∀ v' H',Kp o H H'→NumAt C H' o (pl n e tr sg rs).2.1 (pl n e tr sg rs).2.2→PAt K H' (pl n e tr sg rs).1 v'→Q v' H'
def spPart (K:PySem.W.Frag) (C:Addr) (k:Nat):Sp:=fun vs H Q _=>∃ v n d e L t tr o sg rs,vs = [v,.ref d,.ref t,.ref o]∧PlIn K C H v n d e L t tr o sg rs∧hgt n + 4≤k ∧
 ∀ v' H',Kp o H H'→NumAt C H' o (pl n e tr sg rs).2.1 (pl n e tr sg rs).2.2→PAt K H' (pl n e tr sg rs).1 v'→Q v' H'
def spWeak (K:PySem.W.Frag) (C:Addr) (k:Nat):Sp:=fun vs H Q _=>∃ v x p d e L t tr o sg rs,vs = [v,.ref d,.ref t,.ref o]∧PlIn K C H v (.weak x p) d e L t tr o sg rs∧hgt p + 5≤k ∧
 ∀ v' H',Kp o H H'→NumAt C H' o (pl (.weak x p) e tr sg rs).2.1 (pl (.weak x p) e tr sg rs).2.2→PAt K H' (pl (.weak x p) e tr sg rs).1 v'→Q v' H'
theorem SgAt.kp {H H':Hp} {d o C dx:Addr} {fs:List (Str× V)} {e:Env'} {L:Nat} (k:Kp o H H') (h:H o = some (.ins C dx fs)) (s:SgAt H d e L):SgAt H' d e L:=by
 obtain ⟨kvs,a,b,c⟩:=s
 exact ⟨kvs,k _ _ (ne_of a h (by intro z; cases z)) a,b,c⟩
section
variable {P:Program} {w:World} {K:PySem.W.Frag} {mg:Str→Option Value} {base:Heap} {C aN:Addr}
abbrev s_init:Stmt:=inClass s_Numbers 0
abbrev s_new_sign:Stmt:=inClass s_Numbers 1
abbrev s_new_rest:Stmt:=inClass s_Numbers 2
theorem sc_init:FnScope ["self", "signs"] ["self", "signs"] (defScope s_init):=⟨rfl,rfl,rfl,by decide +kernel,rfl,by decide +kernel,by decide +kernel⟩
theorem sc_new_sign:FnScope ["self"] ["self"] (defScope s_new_sign):=⟨rfl,rfl,rfl,by decide +kernel,rfl,by decide +kernel,by decide +kernel⟩
theorem sc_new_rest:FnScope ["self"] ["self"] (defScope s_new_rest):=⟨rfl,rfl,rfl,by decide +kernel,rfl,by decide +kernel,by decide +kernel⟩
theorem ok_init {f:Addr} {fd:FuncData} (F:Fun K "__init__" "Numbers.__init__" s_init f fd) (T:TxtP K mg C aN):FnOk P w K mg base CX0 1 f fd ["self", "signs"] (spInit C):=by
 refine F.ok sc_init (fun vs H Q E h=>?_) (fun cdv A outer s H vs Q E hr h=>?_)
 ·obtain ⟨o,dx,sg,rfl,_⟩:=h
  rfl
 obtain ⟨o,dx,sg,rfl,ho,q⟩:=h
 refine ⟨_,pss_cons (ps_fld (pv 0) (pv 1) rfl) (pss_one (ps_fld (pv 0) pe_int rfl)),?_⟩
 refine ⟨_,rfl,_,rfl,o,C,dx,[],rfl,ho,T.cl,T.nS,(by show 0 < 1000; decide),_,rfl,o,C,dx,_,rfl,upd_same,T.cl,T.nR,(by show 1 < 1000; decide),?_⟩
 exact q _ (Kp.upd.trans Kp.upd) ⟨dx,upd_same⟩
theorem ok_newR {f:Addr} {fd:FuncData} (F:Fun K "new_rest" "Numbers.new_rest" s_new_rest f fd) (T:TxtP K mg C aN):FnOk P w K mg base CX0 1 f fd ["self"] (spNewR C):=by
 refine F.ok sc_new_rest (fun vs H Q E h=>?_) (fun cdv A outer s H vs Q E hr h=>?_)
 ·obtain ⟨o,sg,rs,rfl,_⟩:=h
  rfl
 obtain ⟨o,sg,rs,rfl,⟨dx,ho⟩,q⟩:=h
 refine ⟨_,pss_cons (ps_fld (pv 0) (pe_op op_add (pe_fld (pv 0) rfl) pe_int) rfl) (pss_one (ps_ret (pe_op op_sub (pe_fld (pv 0) rfl) pe_int))),?_⟩
 refine ⟨_,rfl,o,C,dx,_,_,rfl,ho,T.cl,T.nR,flds_rests _ _,_,_,rfl,rfl,_,rfl,o,C,dx,_,rfl,ho,T.cl,T.nR,(by rw [flds_eq]; show 2 < 1000; decide),?_⟩
 have e:(upd H o (.ins C dx (putF "rests" (.int (rs + 1)) (flds sg rs)))) o = some (.ins C dx (flds sg (rs + 1))):=by rw [upd_same,put_rests]
 refine ⟨_,rfl,o,C,dx,_,_,rfl,e,T.cl,T.nR,flds_rests _ _,_,_,rfl,rfl,?_⟩
 show Q (.int (rs + 1 - 1)) _
 rw [show rs + 1 - 1 = rs by omega]
 exact q _ Kp.upd ⟨dx,e⟩
theorem ok_newS {f:Addr} {fd:FuncData} (F:Fun K "new_sign" "Numbers.new_sign" s_new_sign f fd) (T:TxtP K mg C aN):FnOk P w K mg base CX0 1 f fd ["self"] (spNewS C):=by
 refine F.ok sc_new_sign (fun vs H Q E h=>?_) (fun cdv A outer s H vs Q E hr h=>?_)
 ·obtain ⟨o,sg,rs,rfl,_⟩:=h
  rfl
 obtain ⟨o,sg,rs,rfl,⟨dx,ho⟩,q⟩:=h
 refine ⟨_,pss_cons (ps_fld (pv 0) (pe_op op_add (pe_fld (pv 0) rfl) pe_int) rfl) (pss_one (ps_ret (pe_op op_sub (pe_fld (pv 0) rfl) pe_int))),?_⟩
 refine ⟨_,rfl,o,C,dx,_,_,rfl,ho,T.cl,T.nS,flds_signs _ _,_,_,rfl,rfl,_,rfl,o,C,dx,_,rfl,ho,T.cl,T.nS,(by rw [flds_eq]; show 2 < 1000; decide),?_⟩
 have e:(upd H o (.ins C dx (putF "signs" (.int (sg + 1)) (flds sg rs)))) o = some (.ins C dx (flds (sg + 1) rs)):=by rw [upd_same,put_signs]
 refine ⟨_,rfl,o,C,dx,_,_,rfl,e,T.cl,T.nS,flds_signs _ _,_,_,rfl,rfl,?_⟩
 show Q (.int (sg + 1 - 1)) _
 rw [show sg + 1 - 1 = sg by omega]
 exact q _ Kp.upd ⟨dx,e⟩
end
theorem tV_flat (tr:List (Option Str)):(tr.map tV).all flatV = true:=by
 rw [List.all_eq_true]
 intro x hx
 obtain ⟨n,_,rfl⟩:=List.mem_map.mp hx
 cases n <;> rfl
theorem eq_tV (y:Option Str) (x:Str):eqV (tV y) (.str x) = decide (y = some x):=by
 cases y with
 | none=>rfl
 | some z =>
  show (z == x) = _
  by_cases e:z = x
  ·subst e; simp
  ·rw [decide_eq_false fun q=>e (Option.some.inj q)]; simpa using e
theorem idx_at {x:Str}:∀ {tr:List (Option Str)},some x∈tr→(tr.map tV)[idx x tr]? = some (tV (some x))∧∀ (m:Nat) (z':V),m < idx x tr→(tr.map tV)[m]? = some z'→eqV z' (.str x) = false
 | [],h=>by simp at h
 | y :: r,h=>by
  unfold idx
  by_cases e:y = some x
  ·rw [if_pos e]
   subst e
   exact ⟨rfl,fun m _ hm=>absurd hm (Nat.not_lt_zero _)⟩
  ·rw [if_neg e]
   have h':some x∈r:=by
    rcases List.mem_cons.mp h with z | z
    ·exact absurd z.symm e
    ·exact z
   obtain ⟨a,b⟩:=idx_at h'
   refine ⟨by simpa using a,fun m z' hm hz=>?_⟩
   cases m with
   | zero =>
    have hz:some (tV y) = some z':=hz
    cases hz
    rw [eq_tV,decide_eq_false e]
   | succ m=>exact b m z' (by omega) (by simpa using hz)
theorem sg_get {H:Hp} {d:Addr} {e:Env'} {L:Nat} {x:Str} {n:Int} (s:SgAt H d e L) (h:e x = some n):DGet H d (.str x) (some (.int ((e x).getD 0))):=by
 obtain ⟨kvs,a,b,c⟩:=s
 have:=DGet.k (k:=(Sum.inr x:Key)) a
 rw [c x,h] at this
 rw [h]
 exact this
section
variable {P:Program} {w:World} {K:PySem.W.Frag} {mg:Str→Option Value} {base:Heap} {C aN:Addr}
theorem nothAt (T:TxtP K mg C aN) {H:Hp}:PAt K H nothN (.ref aN):=.t (.inr T.mN) (.cons .s .nil)
theorem num_no {sg rs:Int}:(flds sg rs).lookup ("new_rest" : Str) = none∧(flds sg rs).lookup ("new_sign" : Str) = none:=⟨flds_no _ _ (by decide +kernel) (by decide +kernel),flds_no _ _ (by decide +kernel) (by decide +kernel)⟩
theorem ok_awaited (F:FunM K mg "awaited" ["sign", "numbers"] s_awaited) (T:TxtP K mg C aN) (M_new_rest:MethM P w K mg base 1 C "new_rest" ["self"] (spNewR C)):Callee P w K mg base 2 "awaited" ["sign", "numbers"] (spAwaited K C):=by
 refine F.ok sc_awaited (fun vs H Q E h=>?_) (fun f cdv A outer s H vs Q E hr h=>?_)
 ·obtain ⟨o,s,sg,rs,rfl,_⟩:=h
  rfl
 obtain ⟨o,sn,sg,rs,rfl,⟨dx,ho⟩,q⟩:=h
 refine ⟨_,(pss_one (ps_ret (pe_tup (pa_cons pe_str (pa_cons (pv 0) (pa_cons (pe_tup (pa_cons pe_str (pa_cons (pe_methC0 M_new_rest hr pass0 (pv 1)) (pa_cons (pe_glob rfl T.m_NOTHING T.r_NOTHING) pa_nil)))) pa_nil)))))),?_⟩
 refine ⟨_,rfl,_,rfl,o,dx,_,rfl,ho,num_no.1,o,sg,rs,rfl,⟨dx,ho⟩,fun H1 k1 n1=>⟨(by show 3≤sizeLine; decide),fun t1 ht1=>⟨(by show 3≤sizeLine; decide),fun t2 ht2=>?_⟩⟩⟩
 obtain ⟨g,a1,a2⟩:=new2 (b:=.tup [.str "watch", .int sn,.ref t1]) ht1 ht2
 obtain ⟨dx1,ho1⟩:=n1
 exact q _ _ (k1.trans (Same.kp g)) ⟨dx1,g _ _ ho1⟩ (.t (.inl a2) (.cons .s (.cons .i (.cons (.t (.inl a1) (.cons .s (.cons .i (.cons (nothAt T) .nil)))) .nil))))
set_option maxHeartbeats 16000000 in
theorem ok_leafP (F:FunM K mg "plain_leaf" ["part", "signs", "traps", "numbers"] s_plain_leaf) (T:TxtP K mg C aN) (M_new_rest:MethM P w K mg base 1 C "new_rest" ["self"] (spNewR C)) (C_awaited:Callee P w K mg base 2 "awaited" ["sign", "numbers"] (spAwaited K C)) :
  Callee P w K mg base 3 "plain_leaf" ["part", "signs", "traps", "numbers"] (spLeafP K C):=by
 refine F.ok sc_plain_leaf (fun vs H Q E h=>?_) (fun f cdv A outer s H vs Q E hr h=>?_)
 ·obtain ⟨v,n,d,e,L,t,tr,o,sg,rs,rfl,_⟩:=h
  rfl
 obtain ⟨v,n,d,e,L,t,tr,o,sg,rs,rfl,I,lf,q⟩:=h
 have hu:=hu_of hr
 refine ⟨_,(pss_cons (ps_set (i:=4) sc_plain_leaf.nd rfl (Or.inl rfl) (pe_ix ix_tup (pv 0) pe_int (fun _ _=>rfl)))
  (pss_cons (ps_if (pt_cmpR op_eq (pv 4) pe_str (nomark _))
   (pss_one (ps_ret (pe_tup (pa_cons pe_str (pa_cons (pe_methC0 M_new_rest hr pass0 (pv 3)) pa_nil)))))
   pss_nil)
  (pss_cons (ps_if (pt_cmpR op_eq (pv 4) pe_str (nomark _))
   (pss_one (ps_ret (pe_tup (pa_cons pe_str (pa_cons (pe_methC0 M_new_rest hr pass0 (pv 3)) (pa_cons (pe_glob rfl T.m_NOTHING T.r_NOTHING) pa_nil))))))
   pss_nil)
  (pss_cons (ps_if (pt_cmpR op_eq (pv 4) pe_str (nomark _))
   (pss_one (ps_ret (pe_tup (pa_cons pe_str (pa_cons (pe_dget hu (pv 1) (pe_ix ix_tup (pv 0) pe_int (fun _ _=>rfl)) (fun _ _=>rfl)) pa_nil)))))
   pss_nil)
  (pss_cons (ps_if (pt_cmpR op_eq (pv 4) pe_str (nomark _))
   (pss_one (ps_ret (pe_tup (pa_cons pe_str (pa_cons (pe_methC0 M_new_rest hr pass0 (pv 3)) (pa_cons (pe_tup (pa_cons pe_str (pa_cons (pe_dget hu (pv 1) (pe_ix ix_tup (pv 0) pe_int (fun _ _=>rfl)) (fun _ _=>rfl)) pa_nil))) pa_nil))))))
   pss_nil)
  (pss_cons (ps_if (pt_cmpR op_eq (pv 4) pe_str (nomark _))
   (pss_one (ps_ret (pe_callC C_awaited hr rfl pass0 (pa_cons (pe_dget hu (pv 1) (pe_ix ix_tup (pv 0) pe_int (fun _ _=>rfl)) (fun _ _=>rfl)) (pa_cons (pv 3) pa_nil)))))
   pss_nil)
  (pss_cons (ps_if (pt_cmpR op_eq (pv 4) pe_str (nomark _))
   (pss_one (ps_ret (pe_tup (pa_cons pe_str (pa_cons (pe_bm PySem.F.plainAttrs_list PySem.F.slot_list_index PySem.F.type_list_index mt_index (pv 2) (pa_cons (pe_ix ix_tup (pv 0) pe_int (fun _ _=>rfl)) pa_nil)) pa_nil)))))
   pss_nil)
  (pss_one (ps_ret (pe_glob rfl T.m_NOTHING T.r_NOTHING)))))))))),?_⟩
 obtain ⟨dx,ho⟩:=I.nu
 have hat:=I.at'
 have hok:=I.ok
 have hsg:=I.sg'
 cases n with
 | nothing =>
   obtain ⟨a,vs,rfl,ha,aT⟩:=(show PAt K H (.t [.s "nothing"]) v from hat).get
   obtain ⟨v0,rfl,a0⟩:=aT.one
   cases a0.str
   refine ⟨_,rfl,a,_,_,.str "nothing", rfl,rfl,ha.sq,atI_nat (j:=0) rfl,?_⟩
   refine ⟨_,rfl,rfl,_,rfl,iteNe (by decide +kernel) ?_⟩
   refine ⟨_,rfl,rfl,_,rfl,iteNe (by decide +kernel) ?_⟩
   refine ⟨_,rfl,rfl,_,rfl,iteNe (by decide +kernel) ?_⟩
   refine ⟨_,rfl,rfl,_,rfl,iteNe (by decide +kernel) ?_⟩
   refine ⟨_,rfl,rfl,_,rfl,iteNe (by decide +kernel) ?_⟩
   refine ⟨_,rfl,rfl,_,rfl,iteNe (by decide +kernel) ?_⟩
   exact q _ _ (Kp.refl _) ⟨dx,ho⟩ (nothAt T)
 | rest =>
   obtain ⟨a,vs,rfl,ha,aT⟩:=(show PAt K H (.t [.s "rest"]) v from hat).get
   obtain ⟨v0,rfl,a0⟩:=aT.one
   cases a0.str
   refine ⟨_,rfl,a,_,_,.str "rest", rfl,rfl,ha.sq,atI_nat (j:=0) rfl,?_⟩
   refine ⟨_,rfl,rfl,_,rfl,iteEq ?_⟩
   refine ⟨_,rfl,o,dx,_,rfl,ho,num_no.1,o,sg,rs,rfl,⟨dx,ho⟩,fun H1 k1 ⟨dx1,ho1⟩=>⟨(by show 2≤sizeLine; decide),fun t2 ht2=>?_⟩⟩
   have g:=same_new ht2 (.tup [.str "rest", .int rs])
   exact q _ _ (k1.trans (Same.kp g)) ⟨dx1,g _ _ ho1⟩ (.t (.inl upd_same) (.cons .s (.cons .i .nil)))
 | halt =>
   obtain ⟨a,vs,rfl,ha,aT⟩:=(show PAt K H (.t [.s "halt"]) v from hat).get
   obtain ⟨v0,rfl,a0⟩:=aT.one
   cases a0.str
   refine ⟨_,rfl,a,_,_,.str "halt", rfl,rfl,ha.sq,atI_nat (j:=0) rfl,?_⟩
   refine ⟨_,rfl,rfl,_,rfl,iteNe (by decide +kernel) ?_⟩
   refine ⟨_,rfl,rfl,_,rfl,iteEq ?_⟩
   refine ⟨_,rfl,o,dx,_,rfl,ho,num_no.1,o,sg,rs,rfl,⟨dx,ho⟩,fun H1 k1 ⟨dx1,ho1⟩=>⟨(by show 3≤sizeLine; decide),fun t2 ht2=>?_⟩⟩
   have g:=same_new ht2 (.tup [.str "again", .int rs,.ref aN])
   exact q _ _ (k1.trans (Same.kp g)) ⟨dx1,g _ _ ho1⟩ (.t (.inl upd_same) (.cons .s (.cons .i (.cons (nothAt T) .nil))))
 | send x =>
   obtain ⟨a,vs,rfl,ha,aT⟩:=(show PAt K H (.t [.s "send", .s x]) v from hat).get
   obtain ⟨v0,v1,rfl,a0,a1⟩:=aT.two
   cases a0.str
   cases a1.str
   refine ⟨_,rfl,a,_,_,.str "send", rfl,rfl,ha.sq,atI_nat (j:=0) rfl,?_⟩
   refine ⟨_,rfl,rfl,_,rfl,iteNe (by decide +kernel) ?_⟩
   refine ⟨_,rfl,rfl,_,rfl,iteNe (by decide +kernel) ?_⟩
   refine ⟨_,rfl,rfl,_,rfl,iteEq ?_⟩
   obtain ⟨nx,hx⟩:=(show ∃ n,e x = some n from hok)
   refine ⟨_,rfl,_,rfl,a,_,_,.str x,rfl,rfl,ha.sq,atI_nat (j:=1) rfl,d,_,rfl,sg_get hsg hx,(by show 2≤sizeLine; decide),fun t2 ht2=>?_⟩
   have g:=same_new ht2 (.tup [.str "send", .int ((e x).getD 0)])
   exact q _ _ (Same.kp g) ⟨dx,g _ _ ho⟩ (.t (.inl upd_same) (.cons .s (.cons .i .nil)))
 | keep x =>
   obtain ⟨a,vs,rfl,ha,aT⟩:=(show PAt K H (.t [.s "keep", .s x]) v from hat).get
   obtain ⟨v0,v1,rfl,a0,a1⟩:=aT.two
   cases a0.str
   cases a1.str
   refine ⟨_,rfl,a,_,_,.str "keep", rfl,rfl,ha.sq,atI_nat (j:=0) rfl,?_⟩
   refine ⟨_,rfl,rfl,_,rfl,iteNe (by decide +kernel) ?_⟩
   refine ⟨_,rfl,rfl,_,rfl,iteNe (by decide +kernel) ?_⟩
   refine ⟨_,rfl,rfl,_,rfl,iteNe (by decide +kernel) ?_⟩
   refine ⟨_,rfl,rfl,_,rfl,iteEq ?_⟩
   obtain ⟨nx,hx⟩:=(show ∃ n,e x = some n from hok)
   refine ⟨_,rfl,o,dx,_,rfl,ho,num_no.1,o,sg,rs,rfl,⟨dx,ho⟩,fun H1 k1 ⟨dx1,ho1⟩=>?_⟩
   refine ⟨_,rfl,_,rfl,a,_,_,.str x,rfl,rfl,(ha.mono (k1.tpI ho)).sq,atI_nat (j:=1) rfl,d,_,rfl,sg_get (hsg.kp k1 ho) hx,(by show 2≤sizeLine; decide),fun t2 ht2=>⟨(by show 3≤sizeLine; decide),fun t3 ht3=>?_⟩⟩
   obtain ⟨g,b1,b2⟩:=new2 (b:=.tup [.str "again", .int rs,.ref t2]) ht2 ht3
   exact q _ _ (k1.trans (Same.kp g)) ⟨dx1,g _ _ ho1⟩ (.t (.inl b2) (.cons .s (.cons .i (.cons (.t (.inl b1) (.cons .s (.cons .i .nil))) .nil))))
 | await x =>
   obtain ⟨a,vs,rfl,ha,aT⟩:=(show PAt K H (.t [.s "await", .s x]) v from hat).get
   obtain ⟨v0,v1,rfl,a0,a1⟩:=aT.two
   cases a0.str
   cases a1.str
   refine ⟨_,rfl,a,_,_,.str "await", rfl,rfl,ha.sq,atI_nat (j:=0) rfl,?_⟩
   refine ⟨_,rfl,rfl,_,rfl,iteNe (by decide +kernel) ?_⟩
   refine ⟨_,rfl,rfl,_,rfl,iteNe (by decide +kernel) ?_⟩
   refine ⟨_,rfl,rfl,_,rfl,iteNe (by decide +kernel) ?_⟩
   refine ⟨_,rfl,rfl,_,rfl,iteNe (by decide +kernel) ?_⟩
   refine ⟨_,rfl,rfl,_,rfl,iteEq ?_⟩
   obtain ⟨nx,hx⟩:=(show ∃ n,e x = some n from hok)
   refine ⟨_,rfl,_,rfl,a,_,_,.str x,rfl,rfl,ha.sq,atI_nat (j:=1) rfl,d,_,rfl,sg_get hsg hx,_,rfl,o,_,sg,rs,rfl,⟨dx,ho⟩,fun v' H1 k1 n1 p1=>?_⟩
   exact q _ _ k1 n1 p1
 | exit x =>
   obtain ⟨a,vs,rfl,ha,aT⟩:=(show PAt K H (.t [.s "exit", .s x]) v from hat).get
   obtain ⟨v0,v1,rfl,a0,a1⟩:=aT.two
   cases a0.str
   cases a1.str
   refine ⟨_,rfl,a,_,_,.str "exit", rfl,rfl,ha.sq,atI_nat (j:=0) rfl,?_⟩
   refine ⟨_,rfl,rfl,_,rfl,iteNe (by decide +kernel) ?_⟩
   refine ⟨_,rfl,rfl,_,rfl,iteNe (by decide +kernel) ?_⟩
   refine ⟨_,rfl,rfl,_,rfl,iteNe (by decide +kernel) ?_⟩
   refine ⟨_,rfl,rfl,_,rfl,iteNe (by decide +kernel) ?_⟩
   refine ⟨_,rfl,rfl,_,rfl,iteNe (by decide +kernel) ?_⟩
   refine ⟨_,rfl,rfl,_,rfl,iteEq ?_⟩
   obtain ⟨i1,i2⟩:=idx_at (show some x∈tr from hok)
   refine ⟨_,rfl,.inl ⟨rfl,_,SqL.of I.tr'⟩,_,rfl,a,_,_,.str x,rfl,rfl,ha.sq,atI_nat (j:=1) rfl,t,_,_,idx x tr,_,rfl,rfl,I.tr',rfl,tV_flat tr,i1,by rw [eq_tV]; exact decide_eq_true rfl,i2,(by show 2≤sizeLine; decide),fun t2 ht2=>?_⟩
   have g:=same_new ht2 (.tup [.str "exit", .int (idx x tr)])
   exact q _ _ (Same.kp g) ⟨dx,g _ _ ho⟩ (.t (.inl upd_same) (.cons .s (.cons .i .nil)))
 | again _=>cases lf
 | hold _ _=>cases lf
 | watch _ _=>cases lf
 | weak _ _=>cases lf
 | trap _ _=>cases lf
 | loc _ _=>cases lf
 | iff _ _ _=>cases lf
 | thn _ _=>cases lf
 | bes _ _=>cases lf
end
theorem sg_put {H:Hp} {d:Addr} {kvs:List (Key× V)} {e:Env'} {L:Nat} {x:Str} {n:Int} (hl:kvs.length≤L) (hv:∀ y:Str,valV kvs (Sum.inr y:Key) = (e y).map V.int) (h:H d = some (.dK (putK kvs (Sum.inr x:Key) (.int n)))):SgAt H d (upE e x n) (L + 1):=by
 refine ⟨_,h,Nat.le_trans (length_putK _ _ _) (by omega),fun y=>?_⟩
 rw [valV_put]
 unfold upE
 by_cases z:y = x
 ·subst z; rw [if_pos rfl,if_pos rfl]; rfl
 ·rw [if_neg fun q=>z (Sum.inr.inj q),if_neg z]; exact hv y
section
variable {P:Program} {w:World} {K:PySem.W.Frag} {mg:Str→Option Value} {base:Heap} {C aN:Addr}
set_option maxHeartbeats 32000000 in
theorem ok_weak {k:Nat} (F:FunM K mg "plain_weak" ["part", "signs", "traps", "numbers"] s_plain_weak) (T:TxtP K mg C aN) (C_plain_part:Callee P w K mg base k "plain_part" ["part", "signs", "traps", "numbers"] (spPart K C k)) (C_awaited:Callee P w K mg base 2 "awaited" ["sign", "numbers"] (spAwaited K C)) :
  Callee P w K mg base (k + 1) "plain_weak" ["part", "signs", "traps", "numbers"] (spWeak K C (k + 1)):=by
 refine F.ok sc_plain_weak (fun vs H Q E h=>?_) (fun f cdv A outer s H vs Q E hr h=>?_)
 ·obtain ⟨v,x,p,d,e,L,t,tr,o,sg,rs,rfl,_⟩:=h
  rfl
 obtain ⟨v,x,p,d,e,L,t,tr,o,sg,rs,rfl,I,hk,q⟩:=h
 have h3:4≤k:=by omega
 have hu:=hu_of hr
 refine ⟨_,(pss_cons (ps_set (i:=4) sc_plain_weak.nd rfl (Or.inl rfl) (pe_callC C_plain_part hr rfl pass0 (pa_cons (pe_ix ix_tup (pv 0) pe_int (fun _ _=>rfl)) (pa_cons (pv 1) (pa_cons (pe_op op_cat (pe_lst (pa_cons pe_non pa_nil)) (pv 2)) (pa_cons (pv 3) pa_nil))))))
  (pss_cons (ps_set (i:=5) sc_plain_weak.nd rfl (Or.inl rfl) (pe_callC C_awaited hr rfl pass0 (pa_cons (pe_dget hu (pv 1) (pe_ix ix_tup (pv 0) pe_int (fun _ _=>rfl)) (fun _ _=>rfl)) (pa_cons (pv 3) pa_nil))))
  (pss_one (ps_ret (pe_tup (pa_cons pe_str (pa_cons (pe_tup (pa_cons pe_str (pa_cons (pe_tup (pa_cons pe_str (pa_cons (pv 4) (pa_cons (pe_tup (pa_cons pe_str (pa_cons pe_int pa_nil))) pa_nil)))) (pa_cons (pe_tup (pa_cons pe_str (pa_cons (pv 5) (pa_cons (pe_tup (pa_cons pe_str (pa_cons pe_int pa_nil))) pa_nil)))) pa_nil)))) pa_nil))))))),?_⟩
 obtain ⟨a,vs,rfl,ha,aT⟩:=(show PAt K H (.t [.s "weak", .s x,p.nd]) v from I.at').get
 obtain ⟨v0,v1,v2,rfl,a0,a1,a2⟩:=aT.three
 cases a0.str
 cases a1.str
 obtain ⟨dx,ho⟩:=I.nu
 obtain ⟨⟨nx,hx⟩,hokp⟩:=(show (∃ n,e x = some n)∧okp p e (none :: tr) from I.ok)
 have hL:L + (hgt p + 2)≤900:=I.hL
 have htr:tr.length + (hgt p + 2)≤900:=I.ht
 refine ⟨_,rfl,a,_,_,v2,rfl,rfl,ha.sq,atI_nat (j:=2) rfl,_,rfl,(by show 1≤sizeLine; decide),fun l1 hl1=>?_⟩
 have g1:=same_new hl1 (.lst [.non])
 refine ⟨_,rfl,l1,t,_,_,rfl,rfl,upd_same,g1 _ _ I.tr',?_,fun l2 hl2=>?_⟩
 ·rw [List.length_map,List.length_singleton]; exact small (by omega)
 have g2:=same_new hl2 (.lst ([.non] ++ tr.map tV))
 have g12:=g1.trans g2
 have I1:PlIn K C _ v2 p d e L l2 (none :: tr) o sg rs:=⟨a2.mono g12.tp,by obtain ⟨kvs,b1,b2,b3⟩:=I.sg'; exact ⟨kvs,g12 _ _ b1,b2,b3⟩,upd_same,⟨dx,g12 _ _ ho⟩,hokp,by omega,by rw [List.length_cons]; omega⟩
 refine ⟨_,rfl,v2,p,d,e,L,l2,none :: tr,o,sg,rs,rfl,I1,by omega,fun v' H1 k1 n1 p1=>?_⟩
 obtain ⟨dx1,ho1⟩:=n1
 have k01:Kp o H H1:=(Same.kp g12).trans k1
 have tp1:=k01.tpI ho
 refine ⟨_,rfl,_,rfl,a,_,_,.str x,rfl,rfl,(ha.mono tp1).sq,atI_nat (j:=1) rfl,d,_,rfl,sg_get (I.sg'.kp k01 ho) hx,_,rfl,o,_,_,_,rfl,⟨dx1,ho1⟩,fun w' H2 k2 n2 p2=>?_⟩
 obtain ⟨dx2,ho2⟩:=n2
 refine ⟨_,rfl,(by show 2≤sizeLine; decide),fun t1 ht1=>⟨(by show 3≤sizeLine; decide),fun t2 ht2=>⟨_,rfl,(by show 2≤sizeLine; decide),fun t3 ht3=>⟨(by show 3≤sizeLine; decide),fun t4 ht4=>⟨(by show 3≤sizeLine; decide),fun t5 ht5=>⟨(by show 2≤sizeLine; decide),fun t6 ht6=>?_⟩⟩⟩⟩⟩⟩
 obtain ⟨g5,b1,b2,b3,b4,b5⟩:=new5 (e:=.tup [.str "beside", .ref t2,.ref t4]) ht1 ht2 ht3 ht4 ht5
 have g6:=same_new ht6 (.tup [.str "trap", .ref t5])
 have g:=g5.trans g6
 have tp2:=k2.tpI ho1
 refine q _ _ ((k01.trans k2).trans (Same.kp g)) ⟨dx2,g _ _ ho2⟩ (.t (.inl upd_same) (.cons .s (.cons (.t (.inl (g6 _ _ b5)) (.cons .s (.cons (.t (.inl (g6 _ _ b2)) (.cons .s (.cons (p1.mono (tp2.trans g.tp)) (.cons (.t (.inl (g6 _ _ b1)) (.cons .s (.cons .i .nil))) .nil)))) (.cons (.t (.inl (g6 _ _ b4)) (.cons .s (.cons (p2.mono g.tp) (.cons (.t (.inl (g6 _ _ b3)) (.cons .s (.cons .i .nil))) .nil)))) .nil)))) .nil)))
set_option maxHeartbeats 64000000 in
theorem ok_part {k:Nat} (F:FunM K mg "plain_part" ["part", "signs", "traps", "numbers"] s_plain_part) (T:TxtP K mg C aN) (C_plain_part:Callee P w K mg base k "plain_part" ["part", "signs", "traps", "numbers"] (spPart K C k)) (C_plain_weak:Callee P w K mg base k "plain_weak" ["part", "signs", "traps", "numbers"] (spWeak K C k))
  (C_plain_leaf:Callee P w K mg base 3 "plain_leaf" ["part", "signs", "traps", "numbers"] (spLeafP K C)) (M_new_rest:MethM P w K mg base 1 C "new_rest" ["self"] (spNewR C)) (M_new_sign:MethM P w K mg base 1 C "new_sign" ["self"] (spNewS C)) :
  Callee P w K mg base (k + 1) "plain_part" ["part", "signs", "traps", "numbers"] (spPart K C (k + 1)):=by
 refine F.ok sc_plain_part (fun vs H Q E h=>?_) (fun f cdv A outer s H vs Q E hr h=>?_)
 ·obtain ⟨v,n,d,e,L,t,tr,o,sg,rs,rfl,_⟩:=h
  rfl
 obtain ⟨v,n,d,e,L,t,tr,o,sg,rs,rfl,I,hk,q⟩:=h
 have h3:3≤k:=by omega
 have hu:=hu_of hr
 refine ⟨_,(pss_cons (ps_set (i:=4) sc_plain_part.nd rfl (Or.inl rfl) (pe_ix ix_tup (pv 0) pe_int (fun _ _=>rfl)))
  (pss_cons (ps_if (PW.pt (pw_or (pt_cmpR op_eq (pv 4) pe_str (nomark _)) (pw_or1 (pt_cmpR op_eq (pv 4) pe_str (nomark _)))))
   (pss_cons (ps_set (i:=5) sc_plain_part.nd rfl (Or.inl rfl) (pe_callC C_plain_part hr rfl pass0 (pa_cons (pe_ix ix_tup (pv 0) pe_int (fun _ _=>rfl)) (pa_cons (pv 1) (pa_cons (pv 2) (pa_cons (pv 3) pa_nil))))))
  (pss_one (ps_ret (pe_tup (pa_cons (pv 4) (pa_cons (pv 5) (pa_cons (pe_callC C_plain_part hr rfl pass0 (pa_cons (pe_ix ix_tup (pv 0) pe_int (fun _ _=>rfl)) (pa_cons (pv 1) (pa_cons (pv 2) (pa_cons (pv 3) pa_nil))))) pa_nil)))))))
   pss_nil)
  (pss_cons (ps_if (pt_cmpR op_eq (pv 4) pe_str (nomark _))
   (pss_cons (ps_set (i:=6) sc_plain_part.nd rfl (Or.inl rfl) (pe_callC C_plain_part hr rfl pass0 (pa_cons (pe_ix ix_tup (pv 0) pe_int (fun _ _=>rfl)) (pa_cons (pv 1) (pa_cons (pv 2) (pa_cons (pv 3) pa_nil))))))
  (pss_one (ps_ret (pe_tup (pa_cons pe_str (pa_cons (pe_dget hu (pv 1) (pe_ix ix_tup (pv 0) pe_int (fun _ _=>rfl)) (fun _ _=>rfl)) (pa_cons (pv 6) (pa_cons (pe_callC C_plain_part hr rfl pass0 (pa_cons (pe_ix ix_tup (pv 0) pe_int (fun _ _=>rfl)) (pa_cons (pv 1) (pa_cons (pv 2) (pa_cons (pv 3) pa_nil))))) pa_nil))))))))
   pss_nil)
  (pss_cons (ps_if (pt_cmpR op_eq (pv 4) pe_str (nomark _))
   (pss_cons (ps_set (i:=7) sc_plain_part.nd rfl (Or.inl rfl) (pe_callC C_plain_part hr rfl pass0 (pa_cons (pe_ix ix_tup (pv 0) pe_int (fun _ _=>rfl)) (pa_cons (pv 1) (pa_cons (pv 2) (pa_cons (pv 3) pa_nil))))))
  (pss_one (ps_ret (pe_tup (pa_cons pe_str (pa_cons (pe_methC0 M_new_rest hr pass0 (pv 3)) (pa_cons (pv 7) pa_nil)))))))
   pss_nil)
  (pss_cons (ps_if (PW.pt (pw_or (pt_cmpR op_eq (pv 4) pe_str (nomark _)) (pw_or1 (pt_cmpR op_eq (pv 4) pe_str (nomark _)))))
   (pss_one (ps_ret (pe_tup (pa_cons (pv 4) (pa_cons (pe_dget hu (pv 1) (pe_ix ix_tup (pv 0) pe_int (fun _ _=>rfl)) (fun _ _=>rfl)) (pa_cons (pe_callC C_plain_part hr rfl pass0 (pa_cons (pe_ix ix_tup (pv 0) pe_int (fun _ _=>rfl)) (pa_cons (pv 1) (pa_cons (pv 2) (pa_cons (pv 3) pa_nil))))) pa_nil))))))
   pss_nil)
  (pss_cons (ps_if (pt_cmpR op_eq (pv 4) pe_str (nomark _))
   (pss_one (ps_ret (pe_callC C_plain_weak hr rfl pass0 (pa_cons (pv 0) (pa_cons (pv 1) (pa_cons (pv 2) (pa_cons (pv 3) pa_nil)))))))
   pss_nil)
  (pss_cons (ps_if (pt_cmpR op_eq (pv 4) pe_str (nomark _))
   (pss_one (ps_ret (pe_tup (pa_cons pe_str (pa_cons (pe_callC C_plain_part hr rfl pass0 (pa_cons (pe_ix ix_tup (pv 0) pe_int (fun _ _=>rfl)) (pa_cons (pv 1) (pa_cons (pe_op op_cat (pe_lst (pa_cons (pe_ix ix_tup (pv 0) pe_int (fun _ _=>rfl)) pa_nil)) (pv 2)) (pa_cons (pv 3) pa_nil))))) pa_nil)))))
   pss_nil)
  (pss_cons (ps_if (pt_cmpR op_eq (pv 4) pe_str (nomark _))
   (pss_cons (ps_set (i:=8) sc_plain_part.nd rfl (Or.inl rfl) (pe_callTy call_dict_of rfl T.n_dict (by decide +kernel) (pa_cons (pv 1) pa_nil)))
  (pss_cons (ps_dput hu (pv 8) (pe_ix ix_tup (pv 0) pe_int (fun _ _=>rfl)) (pe_methC0 M_new_sign hr pass0 (pv 3)) rfl)
  (pss_one (ps_ret (pe_callC C_plain_part hr rfl pass0 (pa_cons (pe_ix ix_tup (pv 0) pe_int (fun _ _=>rfl)) (pa_cons (pv 8) (pa_cons (pv 2) (pa_cons (pv 3) pa_nil)))))))))
   pss_nil)
  (pss_one (ps_ret (pe_callC C_plain_leaf hr rfl pass0 (pa_cons (pv 0) (pa_cons (pv 1) (pa_cons (pv 2) (pa_cons (pv 3) pa_nil))))))))))))))),?_⟩
 obtain ⟨dx,ho⟩:=I.nu
 have hat:=I.at'
 have hok:=I.ok
 have hsg:=I.sg'
 have htr:=I.tr'
 have hL:=I.hL
 have hT:=I.ht
 cases n with
 | nothing =>
   obtain ⟨a,vs,rfl,ha,aT⟩:=(show PAt K H (.t [.s "nothing"]) v from hat).get
   obtain ⟨v0,rfl,a0⟩:=aT.one
   cases a0.str
   refine ⟨_,rfl,a,_,_,.str "nothing", rfl,rfl,ha.sq,atI_nat (j:=0) rfl,?_⟩
   refine ⟨_,rfl,rfl,_,rfl,iteNe (by decide +kernel) ⟨_,rfl,rfl,_,rfl,iteNe (by decide +kernel) ?_⟩⟩
   refine ⟨_,rfl,rfl,_,rfl,iteNe (by decide +kernel) ?_⟩
   refine ⟨_,rfl,rfl,_,rfl,iteNe (by decide +kernel) ?_⟩
   refine ⟨_,rfl,rfl,_,rfl,iteNe (by decide +kernel) ⟨_,rfl,rfl,_,rfl,iteNe (by decide +kernel) ?_⟩⟩
   refine ⟨_,rfl,rfl,_,rfl,iteNe (by decide +kernel) ?_⟩
   refine ⟨_,rfl,rfl,_,rfl,iteNe (by decide +kernel) ?_⟩
   refine ⟨_,rfl,rfl,_,rfl,iteNe (by decide +kernel) ?_⟩
   exact ⟨_,rfl,_,rfl,_,rfl,_,rfl,_,_,d,e,L,t,tr,o,sg,rs,rfl,I,rfl,fun v' H1 k1 n1 p1=>q _ _ k1 n1 p1⟩
 | rest =>
   obtain ⟨a,vs,rfl,ha,aT⟩:=(show PAt K H (.t [.s "rest"]) v from hat).get
   obtain ⟨v0,rfl,a0⟩:=aT.one
   cases a0.str
   refine ⟨_,rfl,a,_,_,.str "rest", rfl,rfl,ha.sq,atI_nat (j:=0) rfl,?_⟩
   refine ⟨_,rfl,rfl,_,rfl,iteNe (by decide +kernel) ⟨_,rfl,rfl,_,rfl,iteNe (by decide +kernel) ?_⟩⟩
   refine ⟨_,rfl,rfl,_,rfl,iteNe (by decide +kernel) ?_⟩
   refine ⟨_,rfl,rfl,_,rfl,iteNe (by decide +kernel) ?_⟩
   refine ⟨_,rfl,rfl,_,rfl,iteNe (by decide +kernel) ⟨_,rfl,rfl,_,rfl,iteNe (by decide +kernel) ?_⟩⟩
   refine ⟨_,rfl,rfl,_,rfl,iteNe (by decide +kernel) ?_⟩
   refine ⟨_,rfl,rfl,_,rfl,iteNe (by decide +kernel) ?_⟩
   refine ⟨_,rfl,rfl,_,rfl,iteNe (by decide +kernel) ?_⟩
   exact ⟨_,rfl,_,rfl,_,rfl,_,rfl,_,_,d,e,L,t,tr,o,sg,rs,rfl,I,rfl,fun v' H1 k1 n1 p1=>q _ _ k1 n1 p1⟩
 | halt =>
   obtain ⟨a,vs,rfl,ha,aT⟩:=(show PAt K H (.t [.s "halt"]) v from hat).get
   obtain ⟨v0,rfl,a0⟩:=aT.one
   cases a0.str
   refine ⟨_,rfl,a,_,_,.str "halt", rfl,rfl,ha.sq,atI_nat (j:=0) rfl,?_⟩
   refine ⟨_,rfl,rfl,_,rfl,iteNe (by decide +kernel) ⟨_,rfl,rfl,_,rfl,iteNe (by decide +kernel) ?_⟩⟩
   refine ⟨_,rfl,rfl,_,rfl,iteNe (by decide +kernel) ?_⟩
   refine ⟨_,rfl,rfl,_,rfl,iteNe (by decide +kernel) ?_⟩
   refine ⟨_,rfl,rfl,_,rfl,iteNe (by decide +kernel) ⟨_,rfl,rfl,_,rfl,iteNe (by decide +kernel) ?_⟩⟩
   refine ⟨_,rfl,rfl,_,rfl,iteNe (by decide +kernel) ?_⟩
   refine ⟨_,rfl,rfl,_,rfl,iteNe (by decide +kernel) ?_⟩
   refine ⟨_,rfl,rfl,_,rfl,iteNe (by decide +kernel) ?_⟩
   exact ⟨_,rfl,_,rfl,_,rfl,_,rfl,_,_,d,e,L,t,tr,o,sg,rs,rfl,I,rfl,fun v' H1 k1 n1 p1=>q _ _ k1 n1 p1⟩
 | send x =>
   obtain ⟨a,vs,rfl,ha,aT⟩:=(show PAt K H (.t [.s "send", .s x]) v from hat).get
   obtain ⟨v0,v1,rfl,a0,a1⟩:=aT.two
   cases a0.str
   cases a1.str
   refine ⟨_,rfl,a,_,_,.str "send", rfl,rfl,ha.sq,atI_nat (j:=0) rfl,?_⟩
   refine ⟨_,rfl,rfl,_,rfl,iteNe (by decide +kernel) ⟨_,rfl,rfl,_,rfl,iteNe (by decide +kernel) ?_⟩⟩
   refine ⟨_,rfl,rfl,_,rfl,iteNe (by decide +kernel) ?_⟩
   refine ⟨_,rfl,rfl,_,rfl,iteNe (by decide +kernel) ?_⟩
   refine ⟨_,rfl,rfl,_,rfl,iteNe (by decide +kernel) ⟨_,rfl,rfl,_,rfl,iteNe (by decide +kernel) ?_⟩⟩
   refine ⟨_,rfl,rfl,_,rfl,iteNe (by decide +kernel) ?_⟩
   refine ⟨_,rfl,rfl,_,rfl,iteNe (by decide +kernel) ?_⟩
   refine ⟨_,rfl,rfl,_,rfl,iteNe (by decide +kernel) ?_⟩
   exact ⟨_,rfl,_,rfl,_,rfl,_,rfl,_,_,d,e,L,t,tr,o,sg,rs,rfl,I,rfl,fun v' H1 k1 n1 p1=>q _ _ k1 n1 p1⟩
 | keep x =>
   obtain ⟨a,vs,rfl,ha,aT⟩:=(show PAt K H (.t [.s "keep", .s x]) v from hat).get
   obtain ⟨v0,v1,rfl,a0,a1⟩:=aT.two
   cases a0.str
   cases a1.str
   refine ⟨_,rfl,a,_,_,.str "keep", rfl,rfl,ha.sq,atI_nat (j:=0) rfl,?_⟩
   refine ⟨_,rfl,rfl,_,rfl,iteNe (by decide +kernel) ⟨_,rfl,rfl,_,rfl,iteNe (by decide +kernel) ?_⟩⟩
   refine ⟨_,rfl,rfl,_,rfl,iteNe (by decide +kernel) ?_⟩
   refine ⟨_,rfl,rfl,_,rfl,iteNe (by decide +kernel) ?_⟩
   refine ⟨_,rfl,rfl,_,rfl,iteNe (by decide +kernel) ⟨_,rfl,rfl,_,rfl,iteNe (by decide +kernel) ?_⟩⟩
   refine ⟨_,rfl,rfl,_,rfl,iteNe (by decide +kernel) ?_⟩
   refine ⟨_,rfl,rfl,_,rfl,iteNe (by decide +kernel) ?_⟩
   refine ⟨_,rfl,rfl,_,rfl,iteNe (by decide +kernel) ?_⟩
   exact ⟨_,rfl,_,rfl,_,rfl,_,rfl,_,_,d,e,L,t,tr,o,sg,rs,rfl,I,rfl,fun v' H1 k1 n1 p1=>q _ _ k1 n1 p1⟩
 | await x =>
   obtain ⟨a,vs,rfl,ha,aT⟩:=(show PAt K H (.t [.s "await", .s x]) v from hat).get
   obtain ⟨v0,v1,rfl,a0,a1⟩:=aT.two
   cases a0.str
   cases a1.str
   refine ⟨_,rfl,a,_,_,.str "await", rfl,rfl,ha.sq,atI_nat (j:=0) rfl,?_⟩
   refine ⟨_,rfl,rfl,_,rfl,iteNe (by decide +kernel) ⟨_,rfl,rfl,_,rfl,iteNe (by decide +kernel) ?_⟩⟩
   refine ⟨_,rfl,rfl,_,rfl,iteNe (by decide +kernel) ?_⟩
   refine ⟨_,rfl,rfl,_,rfl,iteNe (by decide +kernel) ?_⟩
   refine ⟨_,rfl,rfl,_,rfl,iteNe (by decide +kernel) ⟨_,rfl,rfl,_,rfl,iteNe (by decide +kernel) ?_⟩⟩
   refine ⟨_,rfl,rfl,_,rfl,iteNe (by decide +kernel) ?_⟩
   refine ⟨_,rfl,rfl,_,rfl,iteNe (by decide +kernel) ?_⟩
   refine ⟨_,rfl,rfl,_,rfl,iteNe (by decide +kernel) ?_⟩
   exact ⟨_,rfl,_,rfl,_,rfl,_,rfl,_,_,d,e,L,t,tr,o,sg,rs,rfl,I,rfl,fun v' H1 k1 n1 p1=>q _ _ k1 n1 p1⟩
 | exit x =>
   obtain ⟨a,vs,rfl,ha,aT⟩:=(show PAt K H (.t [.s "exit", .s x]) v from hat).get
   obtain ⟨v0,v1,rfl,a0,a1⟩:=aT.two
   cases a0.str
   cases a1.str
   refine ⟨_,rfl,a,_,_,.str "exit", rfl,rfl,ha.sq,atI_nat (j:=0) rfl,?_⟩
   refine ⟨_,rfl,rfl,_,rfl,iteNe (by decide +kernel) ⟨_,rfl,rfl,_,rfl,iteNe (by decide +kernel) ?_⟩⟩
   refine ⟨_,rfl,rfl,_,rfl,iteNe (by decide +kernel) ?_⟩
   refine ⟨_,rfl,rfl,_,rfl,iteNe (by decide +kernel) ?_⟩
   refine ⟨_,rfl,rfl,_,rfl,iteNe (by decide +kernel) ⟨_,rfl,rfl,_,rfl,iteNe (by decide +kernel) ?_⟩⟩
   refine ⟨_,rfl,rfl,_,rfl,iteNe (by decide +kernel) ?_⟩
   refine ⟨_,rfl,rfl,_,rfl,iteNe (by decide +kernel) ?_⟩
   refine ⟨_,rfl,rfl,_,rfl,iteNe (by decide +kernel) ?_⟩
   exact ⟨_,rfl,_,rfl,_,rfl,_,rfl,_,_,d,e,L,t,tr,o,sg,rs,rfl,I,rfl,fun v' H1 k1 n1 p1=>q _ _ k1 n1 p1⟩
 | again p =>
   obtain ⟨a,vs,rfl,ha,aT⟩:=(show PAt K H (.t [.s "again", p.nd]) v from hat).get
   obtain ⟨v0,v1,rfl,a0,a1⟩:=aT.two
   cases a0.str
   simp only [hgt] at hk hL hT
   refine ⟨_,rfl,a,_,_,.str "again", rfl,rfl,ha.sq,atI_nat (j:=0) rfl,?_⟩
   refine ⟨_,rfl,rfl,_,rfl,iteNe (by decide +kernel) ⟨_,rfl,rfl,_,rfl,iteNe (by decide +kernel) ?_⟩⟩
   refine ⟨_,rfl,rfl,_,rfl,iteNe (by decide +kernel) ?_⟩
   refine ⟨_,rfl,rfl,_,rfl,iteEq ?_⟩
   have I1:PlIn K C H v1 p d e L t tr o sg rs:=⟨a1,hsg,htr,⟨dx,ho⟩,hok,by omega,by omega⟩
   refine ⟨_,rfl,a,_,_,v1,rfl,rfl,ha.sq,atI_nat (j:=1) rfl,_,rfl,_,rfl,_,rfl,v1,p,d,e,L,t,tr,o,sg,rs,rfl,I1,by omega,fun v' H1 k1 n1 p1=>?_⟩
   obtain ⟨dx1,ho1⟩:=n1
   refine ⟨_,rfl,o,dx1,_,rfl,ho1,num_no.1,o,_,_,rfl,⟨dx1,ho1⟩,fun H2 k2 ⟨dx2,ho2⟩=>⟨_,rfl,(by show 3≤sizeLine; decide),fun t2 ht2=>?_⟩⟩
   have g:=same_new ht2 (.tup [.str "again", .int (pl p e tr sg rs).2.2,v'])
   exact q _ _ ((k1.trans k2).trans (Same.kp g)) ⟨dx2,g _ _ ho2⟩ (.t (.inl upd_same) (.cons .s (.cons .i (.cons (p1.mono ((k2.tpI ho1).trans g.tp)) .nil))))
 | hold x p =>
   obtain ⟨a,vs,rfl,ha,aT⟩:=(show PAt K H (.t [.s "hold", .s x,p.nd]) v from hat).get
   obtain ⟨v0,v1,v2,rfl,a0,a1,a2⟩:=aT.three
   cases a0.str
   cases a1.str
   simp only [hgt] at hk hL hT
   refine ⟨_,rfl,a,_,_,.str "hold", rfl,rfl,ha.sq,atI_nat (j:=0) rfl,?_⟩
   refine ⟨_,rfl,rfl,_,rfl,iteNe (by decide +kernel) ⟨_,rfl,rfl,_,rfl,iteNe (by decide +kernel) ?_⟩⟩
   refine ⟨_,rfl,rfl,_,rfl,iteNe (by decide +kernel) ?_⟩
   refine ⟨_,rfl,rfl,_,rfl,iteNe (by decide +kernel) ?_⟩
   refine ⟨_,rfl,rfl,_,rfl,iteEq (iteT ?_)⟩
   obtain ⟨⟨nx,hx⟩,hokp⟩:=(show (∃ n,e x = some n)∧okp p e tr from hok)
   have I1:PlIn K C H v2 p d e L t tr o sg rs:=⟨a2,hsg,htr,⟨dx,ho⟩,hokp,by omega,by omega⟩
   refine ⟨_,rfl,_,rfl,_,rfl,a,_,_,.str x,rfl,rfl,ha.sq,atI_nat (j:=1) rfl,d,_,rfl,sg_get hsg hx,?_⟩
   refine ⟨_,rfl,a,_,_,v2,rfl,rfl,ha.sq,atI_nat (j:=2) rfl,_,rfl,_,rfl,_,rfl,v2,p,d,e,L,t,tr,o,sg,rs,rfl,I1,by omega,fun v' H1 k1 n1 p1=>⟨(by show 3≤sizeLine; decide),fun t2 ht2=>?_⟩⟩
   obtain ⟨dx1,ho1⟩:=n1
   have g:=same_new ht2 (.tup [.str "hold", .int ((e x).getD 0),v'])
   exact q _ _ (k1.trans (Same.kp g)) ⟨dx1,g _ _ ho1⟩ (.t (.inl upd_same) (.cons .s (.cons .i (.cons (p1.mono g.tp) .nil))))
 | watch x p =>
   obtain ⟨a,vs,rfl,ha,aT⟩:=(show PAt K H (.t [.s "watch", .s x,p.nd]) v from hat).get
   obtain ⟨v0,v1,v2,rfl,a0,a1,a2⟩:=aT.three
   cases a0.str
   cases a1.str
   simp only [hgt] at hk hL hT
   refine ⟨_,rfl,a,_,_,.str "watch", rfl,rfl,ha.sq,atI_nat (j:=0) rfl,?_⟩
   refine ⟨_,rfl,rfl,_,rfl,iteNe (by decide +kernel) ⟨_,rfl,rfl,_,rfl,iteNe (by decide +kernel) ?_⟩⟩
   refine ⟨_,rfl,rfl,_,rfl,iteNe (by decide +kernel) ?_⟩
   refine ⟨_,rfl,rfl,_,rfl,iteNe (by decide +kernel) ?_⟩
   refine ⟨_,rfl,rfl,_,rfl,iteNe (by decide +kernel) ⟨_,rfl,rfl,_,rfl,iteEq ?_⟩⟩
   obtain ⟨⟨nx,hx⟩,hokp⟩:=(show (∃ n,e x = some n)∧okp p e tr from hok)
   have I1:PlIn K C H v2 p d e L t tr o sg rs:=⟨a2,hsg,htr,⟨dx,ho⟩,hokp,by omega,by omega⟩
   refine ⟨_,rfl,_,rfl,_,rfl,a,_,_,.str x,rfl,rfl,ha.sq,atI_nat (j:=1) rfl,d,_,rfl,sg_get hsg hx,?_⟩
   refine ⟨_,rfl,a,_,_,v2,rfl,rfl,ha.sq,atI_nat (j:=2) rfl,_,rfl,_,rfl,_,rfl,v2,p,d,e,L,t,tr,o,sg,rs,rfl,I1,by omega,fun v' H1 k1 n1 p1=>⟨(by show 3≤sizeLine; decide),fun t2 ht2=>?_⟩⟩
   obtain ⟨dx1,ho1⟩:=n1
   have g:=same_new ht2 (.tup [.str "watch", .int ((e x).getD 0),v'])
   exact q _ _ (k1.trans (Same.kp g)) ⟨dx1,g _ _ ho1⟩ (.t (.inl upd_same) (.cons .s (.cons .i (.cons (p1.mono g.tp) .nil))))
 | weak x p =>
   obtain ⟨a,vs,rfl,ha,aT⟩:=(show PAt K H (.t [.s "weak", .s x,p.nd]) v from hat).get
   obtain ⟨v0,v1,v2,rfl,a0,a1,a2⟩:=aT.three
   cases a0.str
   cases a1.str
   simp only [hgt] at hk hL hT
   refine ⟨_,rfl,a,_,_,.str "weak", rfl,rfl,ha.sq,atI_nat (j:=0) rfl,?_⟩
   refine ⟨_,rfl,rfl,_,rfl,iteNe (by decide +kernel) ⟨_,rfl,rfl,_,rfl,iteNe (by decide +kernel) ?_⟩⟩
   refine ⟨_,rfl,rfl,_,rfl,iteNe (by decide +kernel) ?_⟩
   refine ⟨_,rfl,rfl,_,rfl,iteNe (by decide +kernel) ?_⟩
   refine ⟨_,rfl,rfl,_,rfl,iteNe (by decide +kernel) ⟨_,rfl,rfl,_,rfl,iteNe (by decide +kernel) ?_⟩⟩
   refine ⟨_,rfl,rfl,_,rfl,iteEq ?_⟩
   exact ⟨_,rfl,_,rfl,_,rfl,_,rfl,_,x,p,d,e,L,t,tr,o,sg,rs,rfl,I,by omega,fun v' H1 k1 n1 p1=>q _ _ k1 n1 p1⟩
 | trap x p =>
   obtain ⟨a,vs,rfl,ha,aT⟩:=(show PAt K H (.t [.s "trap", .s x,p.nd]) v from hat).get
   obtain ⟨v0,v1,v2,rfl,a0,a1,a2⟩:=aT.three
   cases a0.str
   cases a1.str
   simp only [hgt] at hk hL hT
   refine ⟨_,rfl,a,_,_,.str "trap", rfl,rfl,ha.sq,atI_nat (j:=0) rfl,?_⟩
   refine ⟨_,rfl,rfl,_,rfl,iteNe (by decide +kernel) ⟨_,rfl,rfl,_,rfl,iteNe (by decide +kernel) ?_⟩⟩
   refine ⟨_,rfl,rfl,_,rfl,iteNe (by decide +kernel) ?_⟩
   refine ⟨_,rfl,rfl,_,rfl,iteNe (by decide +kernel) ?_⟩
   refine ⟨_,rfl,rfl,_,rfl,iteNe (by decide +kernel) ⟨_,rfl,rfl,_,rfl,iteNe (by decide +kernel) ?_⟩⟩
   refine ⟨_,rfl,rfl,_,rfl,iteNe (by decide +kernel) ?_⟩
   refine ⟨_,rfl,rfl,_,rfl,iteEq ?_⟩
   refine ⟨_,rfl,a,_,_,v2,rfl,rfl,ha.sq,atI_nat (j:=2) rfl,_,rfl,_,rfl,a,_,_,.str x,rfl,rfl,ha.sq,atI_nat (j:=1) rfl,(by show 1≤sizeLine; decide),fun l1 hl1=>?_⟩
   have g1:=same_new hl1 (.lst [.str x])
   refine ⟨_,rfl,l1,t,_,_,rfl,rfl,upd_same,g1 _ _ htr,?_,fun l2 hl2=>?_⟩
   ·rw [List.length_map,List.length_singleton]; exact small (by omega)
   have g2:=same_new hl2 (.lst ([.str x] ++ tr.map tV))
   have g12:=g1.trans g2
   have I1:PlIn K C _ v2 p d e L l2 (some x :: tr) o sg rs:=⟨a2.mono g12.tp,by obtain ⟨kvs,b1,b2,b3⟩:=hsg; exact ⟨kvs,g12 _ _ b1,b2,b3⟩,upd_same,⟨dx,g12 _ _ ho⟩,hok,by omega,by rw [List.length_cons]; omega⟩
   refine ⟨_,rfl,v2,p,d,e,L,l2,some x :: tr,o,sg,rs,rfl,I1,by omega,fun v' H1 k1 n1 p1=>⟨(by show 2≤sizeLine; decide),fun t2 ht2=>?_⟩⟩
   obtain ⟨dx1,ho1⟩:=n1
   have g:=same_new ht2 (.tup [.str "trap", v'])
   exact q _ _ (((Same.kp g12).trans k1).trans (Same.kp g)) ⟨dx1,g _ _ ho1⟩ (.t (.inl upd_same) (.cons .s (.cons (p1.mono g.tp) .nil)))
 | loc x p =>
   obtain ⟨a,vs,rfl,ha,aT⟩:=(show PAt K H (.t [.s "local", .s x,p.nd]) v from hat).get
   obtain ⟨v0,v1,v2,rfl,a0,a1,a2⟩:=aT.three
   cases a0.str
   cases a1.str
   simp only [hgt] at hk hL hT
   refine ⟨_,rfl,a,_,_,.str "local", rfl,rfl,ha.sq,atI_nat (j:=0) rfl,?_⟩
   refine ⟨_,rfl,rfl,_,rfl,iteNe (by decide +kernel) ⟨_,rfl,rfl,_,rfl,iteNe (by decide +kernel) ?_⟩⟩
   refine ⟨_,rfl,rfl,_,rfl,iteNe (by decide +kernel) ?_⟩
   refine ⟨_,rfl,rfl,_,rfl,iteNe (by decide +kernel) ?_⟩
   refine ⟨_,rfl,rfl,_,rfl,iteNe (by decide +kernel) ⟨_,rfl,rfl,_,rfl,iteNe (by decide +kernel) ?_⟩⟩
   refine ⟨_,rfl,rfl,_,rfl,iteNe (by decide +kernel) ?_⟩
   refine ⟨_,rfl,rfl,_,rfl,iteNe (by decide +kernel) ?_⟩
   refine ⟨_,rfl,rfl,_,rfl,iteEq ?_⟩
   obtain ⟨kvs,hd,hkl,hkv⟩:=hsg
   refine ⟨_,rfl,d,kvs,rfl,hd,fun d2 hd2=>?_⟩
   have g1:=same_new hd2 (.dK kvs)
   refine ⟨_,rfl,o,dx,_,rfl,g1 _ _ ho,num_no.2,o,sg,rs,rfl,⟨dx,g1 _ _ ho⟩,fun H1 k1 ⟨dx1,ho1⟩=>?_⟩
   have k01:Kp o H H1:=(Same.kp g1).trans k1
   have hdo:d2≠o:=(ne_of_none ho hd2).symm
   have hd21:H1 d2 = some (.dK kvs):=k1 _ _ hdo upd_same
   have tp1:=k01.tpI ho
   refine ⟨_,rfl,_,rfl,a,_,_,.str x,rfl,rfl,(ha.mono tp1).sq,atI_nat (j:=1) rfl,d2,_,rfl,DPut.k (k:=(Sum.inr x:Key)) hd21 (small1000 (by omega)),?_⟩
   have k02:Kp o H (upd H1 d2 (.dK (putK kvs (Sum.inr x:Key) (.int sg)))):=k01.young hd2
   have tp2:=k02.tpI ho
   have ho2:(upd H1 d2 (.dK (putK kvs (Sum.inr x:Key) (.int sg)))) o = some (.ins C dx1 (flds (sg + 1) rs)):=by rw [upd_ne hdo.symm]; exact ho1
   have I1:PlIn K C _ v2 p d2 (upE e x sg) (L + 1) t tr o (sg + 1) rs:=⟨a2.mono tp2,sg_put hkl hkv upd_same,k02 _ _ (ne_of htr ho (by intro z; cases z)) htr,⟨dx1,ho2⟩,hok sg,by omega,by omega⟩
   exact ⟨_,rfl,a,_,_,v2,rfl,rfl,(ha.mono tp2).sq,atI_nat (j:=2) rfl,_,rfl,_,rfl,_,rfl,v2,p,d2,upE e x sg,L + 1,t,tr,o,sg + 1,rs,rfl,I1,by omega,fun v' H3 k3 n3 p3=>q _ _ (k02.trans k3) n3 p3⟩
 | iff x p q2 =>
   obtain ⟨a,vs,rfl,ha,aT⟩:=(show PAt K H (.t [.s "if", .s x,p.nd,q2.nd]) v from hat).get
   obtain ⟨v0,v1,v2,v3,rfl,a0,a1,a2,a3⟩:=aT.four
   cases a0.str
   cases a1.str
   simp only [hgt] at hk hL hT
   refine ⟨_,rfl,a,_,_,.str "if", rfl,rfl,ha.sq,atI_nat (j:=0) rfl,?_⟩
   refine ⟨_,rfl,rfl,_,rfl,iteNe (by decide +kernel) ⟨_,rfl,rfl,_,rfl,iteNe (by decide +kernel) ?_⟩⟩
   refine ⟨_,rfl,rfl,_,rfl,iteEq ?_⟩
   obtain ⟨⟨nx,hx⟩,hokp,hokq⟩:=(show (∃ n,e x = some n)∧okp p e tr∧okp q2 e tr from hok)
   have I1:PlIn K C H v2 p d e L t tr o sg rs:=⟨a2,hsg,htr,⟨dx,ho⟩,hokp,by omega,by omega⟩
   refine ⟨_,rfl,a,_,_,v2,rfl,rfl,ha.sq,atI_nat (j:=2) rfl,_,rfl,_,rfl,_,rfl,v2,p,d,e,L,t,tr,o,sg,rs,rfl,I1,by omega,fun v' H1 k1 n1 p1=>?_⟩
   obtain ⟨dx1,ho1⟩:=n1
   have tp1:=k1.tpI ho
   refine ⟨_,rfl,_,rfl,a,_,_,.str x,rfl,rfl,(ha.mono tp1).sq,atI_nat (j:=1) rfl,d,_,rfl,sg_get (hsg.kp k1 ho) hx,_,rfl,?_⟩
   have I2:PlIn K C H1 v3 q2 d e L t tr o _ _:=⟨a3.mono tp1,hsg.kp k1 ho,k1 _ _ (ne_of htr ho (by intro z; cases z)) htr,⟨dx1,ho1⟩,hokq,by omega,by omega⟩
   refine ⟨_,rfl,a,_,_,v3,rfl,rfl,(ha.mono tp1).sq,atI_nat (j:=3) rfl,_,rfl,_,rfl,_,rfl,v3,q2,d,e,L,t,tr,o,_,_,rfl,I2,by omega,fun v'' H2 k2 n2 p2=>⟨(by show 4≤sizeLine; decide),fun t2 ht2=>?_⟩⟩
   obtain ⟨dx2,ho2⟩:=n2
   have g:=same_new ht2 (.tup [.str "if", .int ((e x).getD 0),v',v''])
   exact q _ _ ((k1.trans k2).trans (Same.kp g)) ⟨dx2,g _ _ ho2⟩ (.t (.inl upd_same) (.cons .s (.cons .i (.cons (p1.mono ((k2.tpI ho1).trans g.tp)) (.cons (p2.mono g.tp) .nil)))))
 | thn p q2 =>
   obtain ⟨a,vs,rfl,ha,aT⟩:=(show PAt K H (.t [.s "then", p.nd,q2.nd]) v from hat).get
   obtain ⟨v0,v1,v2,rfl,a0,a1,a2⟩:=aT.three
   cases a0.str
   simp only [hgt] at hk hL hT
   refine ⟨_,rfl,a,_,_,.str "then", rfl,rfl,ha.sq,atI_nat (j:=0) rfl,?_⟩
   refine ⟨_,rfl,rfl,_,rfl,iteEq (iteT ?_)⟩
   obtain ⟨hokp,hokq⟩:=(show okp p e tr∧okp q2 e tr from hok)
   have I1:PlIn K C H v1 p d e L t tr o sg rs:=⟨a1,hsg,htr,⟨dx,ho⟩,hokp,by omega,by omega⟩
   refine ⟨_,rfl,a,_,_,v1,rfl,rfl,ha.sq,atI_nat (j:=1) rfl,_,rfl,_,rfl,_,rfl,v1,p,d,e,L,t,tr,o,sg,rs,rfl,I1,by omega,fun v' H1 k1 n1 p1=>?_⟩
   obtain ⟨dx1,ho1⟩:=n1
   have tp1:=k1.tpI ho
   have I2:PlIn K C H1 v2 q2 d e L t tr o _ _:=⟨a2.mono tp1,hsg.kp k1 ho,k1 _ _ (ne_of htr ho (by intro z; cases z)) htr,⟨dx1,ho1⟩,hokq,by omega,by omega⟩
   refine ⟨_,rfl,_,rfl,_,rfl,a,_,_,v2,rfl,rfl,(ha.mono tp1).sq,atI_nat (j:=2) rfl,_,rfl,_,rfl,_,rfl,v2,q2,d,e,L,t,tr,o,_,_,rfl,I2,by omega,fun v'' H2 k2 n2 p2=>⟨(by show 3≤sizeLine; decide),fun t2 ht2=>?_⟩⟩
   obtain ⟨dx2,ho2⟩:=n2
   have g:=same_new ht2 (.tup [.str "then", v',v''])
   exact q _ _ ((k1.trans k2).trans (Same.kp g)) ⟨dx2,g _ _ ho2⟩ (.t (.inl upd_same) (.cons .s (.cons (p1.mono ((k2.tpI ho1).trans g.tp)) (.cons (p2.mono g.tp) .nil))))
 | bes p q2 =>
   obtain ⟨a,vs,rfl,ha,aT⟩:=(show PAt K H (.t [.s "beside", p.nd,q2.nd]) v from hat).get
   obtain ⟨v0,v1,v2,rfl,a0,a1,a2⟩:=aT.three
   cases a0.str
   simp only [hgt] at hk hL hT
   refine ⟨_,rfl,a,_,_,.str "beside", rfl,rfl,ha.sq,atI_nat (j:=0) rfl,?_⟩
   refine ⟨_,rfl,rfl,_,rfl,iteNe (by decide +kernel) ⟨_,rfl,rfl,_,rfl,iteEq ?_⟩⟩
   obtain ⟨hokp,hokq⟩:=(show okp p e tr∧okp q2 e tr from hok)
   have I1:PlIn K C H v1 p d e L t tr o sg rs:=⟨a1,hsg,htr,⟨dx,ho⟩,hokp,by omega,by omega⟩
   refine ⟨_,rfl,a,_,_,v1,rfl,rfl,ha.sq,atI_nat (j:=1) rfl,_,rfl,_,rfl,_,rfl,v1,p,d,e,L,t,tr,o,sg,rs,rfl,I1,by omega,fun v' H1 k1 n1 p1=>?_⟩
   obtain ⟨dx1,ho1⟩:=n1
   have tp1:=k1.tpI ho
   have I2:PlIn K C H1 v2 q2 d e L t tr o _ _:=⟨a2.mono tp1,hsg.kp k1 ho,k1 _ _ (ne_of htr ho (by intro z; cases z)) htr,⟨dx1,ho1⟩,hokq,by omega,by omega⟩
   refine ⟨_,rfl,_,rfl,_,rfl,a,_,_,v2,rfl,rfl,(ha.mono tp1).sq,atI_nat (j:=2) rfl,_,rfl,_,rfl,_,rfl,v2,q2,d,e,L,t,tr,o,_,_,rfl,I2,by omega,fun v'' H2 k2 n2 p2=>⟨(by show 3≤sizeLine; decide),fun t2 ht2=>?_⟩⟩
   obtain ⟨dx2,ho2⟩:=n2
   have g:=same_new ht2 (.tup [.str "beside", v',v''])
   exact q _ _ ((k1.trans k2).trans (Same.kp g)) ⟨dx2,g _ _ ho2⟩ (.t (.inl upd_same) (.cons .s (.cons (p1.mono ((k2.tpI ho1).trans g.tp)) (.cons (p2.mono g.tp) .nil))))
theorem part_all (F:FunM K mg "plain_part" ["part", "signs", "traps", "numbers"] s_plain_part) (G:FunM K mg "plain_weak" ["part", "signs", "traps", "numbers"] s_plain_weak) (T:TxtP K mg C aN) (C_plain_leaf:Callee P w K mg base 3 "plain_leaf" ["part", "signs", "traps", "numbers"] (spLeafP K C)) (C_awaited:Callee P w K mg base 2 "awaited" ["sign", "numbers"] (spAwaited K C))
  (M_new_rest:MethM P w K mg base 1 C "new_rest" ["self"] (spNewR C)) (M_new_sign:MethM P w K mg base 1 C "new_sign" ["self"] (spNewS C)):∀ k,Callee P w K mg base k "plain_part" ["part", "signs", "traps", "numbers"] (spPart K C k)∧Callee P w K mg base k "plain_weak" ["part", "signs", "traps", "numbers"] (spWeak K C k)
 | 0=>⟨F.zero fun vs H Q E ⟨_,_,_,_,_,_,_,_,_,_,_,_,h,_⟩=>by omega,G.zero fun vs H Q E ⟨_,_,_,_,_,_,_,_,_,_,_,_,_,h,_⟩=>by omega⟩
 | k + 1=>by
  have ih:=part_all F G T C_plain_leaf C_awaited M_new_rest M_new_sign k
  exact ⟨ok_part F T ih.1 ih.2 C_plain_leaf M_new_rest M_new_sign,ok_weak G T ih.1 C_awaited⟩
end
def restOf:Nd→Option Int
 | .t (.s w :: .i k :: _)=>if w = "rest" ∨ w = "again" then some k else none
 | _=>none
def rests (n:Nd):List Int:=(pre n).filterMap restOf
def sz:Np→Nat
 | .again p=>sz p + 1
 | .hold _ p=>sz p + 1
 | .watch _ p=>sz p + 1
 | .weak _ p=>sz p + 1
 | .trap _ p=>sz p + 1
 | .loc _ p=>sz p + 1
 | .iff _ p q=>sz p + sz q + 1
 | .thn p q=>sz p + sz q + 1
 | .bes p q=>sz p + sz q + 1
 | _=>1
def okS (S Tn:List Str) (p:Np):Prop:=∀ e tr,(∀ x∈S,∃ n,e x = some n)→(∀ x∈Tn,some x∈tr)→okp p e tr
section
variable {S Tn:List Str} {x:Str} {p q:Np}
end
def envOf:List Str→Int→Env'→Env'
 | [],_,e=>e
 | x :: r,k,e=>envOf r (k + 1) (upE e x k)
theorem envOf_snoc:∀ (a:List Str) (x:Str) (k:Int) (e:Env'),envOf (a ++ [x]) k e = upE (envOf a k e) x (k + a.length)
 | [],x,k,e=>by simp [envOf]
 | y :: a,x,k,e=>by
  show envOf (a ++ [x]) (k + 1) (upE e y k) = _
  rw [envOf_snoc a x (k + 1) (upE e y k)]
  show upE (envOf a (k + 1) (upE e y k)) x _ = upE (envOf a (k + 1) (upE e y k)) x _
  rw [List.length_cons,Int.natCast_add,show k + 1 + (a.length:Int) = k + ((a.length:Int) + ((1:Nat):Int)) by omega]
def spPlain (K:PySem.W.Frag):Sp:=fun vs H Q _=>∃ (a ia oa:Addr) (ins outs:List Str) (vb:V) (n:Np),vs = [.ref a]∧H a = some (.tup [.ref ia,.ref oa,vb])∧H ia = some (.lst (ins.map V.str))∧H oa = some (.lst (outs.map V.str))∧PAt K H n.nd vb ∧
 okp n (envOf (ins ++ outs) 0 fun _=>none) []∧ins.length + outs.length≤100∧hgt n≤96 ∧
 ∀ t vb' H',Same H H'→H' t = some (.tup [.int ins.length,.int outs.length,.int (pl n (envOf (ins ++ outs) 0 fun _=>none) [] ((ins.length:Int) + outs.length) 0).2.1,vb'])→PAt K H' (pl n (envOf (ins ++ outs) 0 fun _=>none) [] ((ins.length:Int) + outs.length) 0).1 vb'→Q (.ref t) H'
theorem strs_at {ns:List Str} {i:Nat} {y:V} (h:(ns.map V.str)[i]? = some y):∃ x,ns[i]? = some x∧y = .str x:=by
 rw [List.getElem?_map] at h
 cases e:ns[i]? with
 | none=>rw [e] at h; cases h
 | some z=>rw [e] at h; exact ⟨z,rfl,(Option.some.inj h).symm⟩
section
variable {P:Program} {w:World} {K:PySem.W.Frag} {mg:Str→Option Value} {base:Heap} {C aN:Addr}
set_option maxHeartbeats 32000000 in
theorem ok_plain {fI:Addr} {fdI:FuncData} (F:FunM K mg "plain" ["named"] s_plain) (T:TxtP K mg C aN) (MkN:Mk K C fI) (GI:FnOk P w K mg base CX0 1 fI fdI ["self", "signs"] (spInit C)) (bI:Binds K fdI ["self", "signs"] [])
  (C_plain_part:Callee P w K mg base 100 "plain_part" ["part", "signs", "traps", "numbers"] (spPart K C 100)):Callee P w K mg base 101 "plain" ["named"] (spPlain K):=by
 refine F.ok sc_plain (fun vs H Q E h=>?_) (fun f cdv A outer s H vs Q E hr h=>?_)
 ·obtain ⟨a,ia,oa,ins,outs,vb,n,rfl,_⟩:=h
  rfl
 obtain ⟨a,ia,oa,ins,outs,vb,n,rfl,ha,hi,ho,hat,hok,hlen,hhg,q⟩:=h
 have hu:=hu_of hr
 refine ⟨_,(pss_cons (ps_set (i:=1) sc_plain.nd rfl (Or.inl rfl) (pe_ix ix_tup (pv 0) pe_int (fun _ _=>rfl)))
  (pss_cons (ps_set (i:=2) sc_plain.nd rfl (Or.inl rfl) (pe_ix ix_tup (pv 0) pe_int (fun _ _=>rfl)))
  (pss_cons (ps_set (i:=3) sc_plain.nd rfl (Or.inl rfl) (pe_make MkN GI (hr.mono (by decide)) rfl T.m_Numbers bI .nil pass0 (pa_cons (pe_op op_add (pe_callB call_lenK rfl T.n_len PySem.boot_len (pa_cons (pv 1) pa_nil)) (pe_callB call_lenK rfl T.n_len PySem.boot_len (pa_cons (pv 2) pa_nil))) pa_nil)))
  (pss_cons (ps_set (i:=4) sc_plain.nd rfl (Or.inl rfl) pe_dnewK)
  (pss_cons (ps_for PassesOwn.never rfl (pi_enum rfl T.n_enumerate (pa_cons (pe_op op_cat (pv 1) (pv 2)) pa_nil)) (pg_tup rfl (pgs_cons (pg_name (i:=5) sc_plain.nd rfl (Or.inl rfl)) (pgs_cons (pg_name (i:=6) sc_plain.nd rfl (Or.inl rfl)) pgs_nil)))
   (pss_one (ps_dput hu (pv 4) (pv 6) (pv 5) rfl)))
  (pss_cons (ps_set (i:=7) sc_plain.nd rfl (Or.inl rfl) (pe_callC C_plain_part hr rfl pass0 (pa_cons (pe_ix ix_tup (pv 0) pe_int (fun _ _=>rfl)) (pa_cons (pv 4) (pa_cons (pe_lst pa_nil) (pa_cons (pv 3) pa_nil))))))
  (pss_one (ps_ret (pe_tup (pa_cons (pe_callB call_lenK rfl T.n_len PySem.boot_len (pa_cons (pv 1) pa_nil)) (pa_cons (pe_callB call_lenK rfl T.n_len PySem.boot_len (pa_cons (pv 2) pa_nil)) (pa_cons (pe_fld (pv 3) rfl) (pa_cons (pv 7) pa_nil))))))))))))),?_⟩
 refine ⟨_,rfl,a,_,_,.ref ia,rfl,rfl,SqT.of ha,atI_nat (j:=0) rfl,?_⟩
 refine ⟨_,rfl,a,_,_,.ref oa,rfl,rfl,SqT.of ha,atI_nat (j:=1) rfl,?_⟩
 refine ⟨_,rfl,ia,_,rfl,.inl (SqL.of hi),_,rfl,oa,_,rfl,.inl (SqL.of ho),_,_,rfl,rfl,fun x dx nx ndx nex=>⟨x,dx,_,rfl,upd_same,fun H1 k1 n1=>⟨rfl,?_⟩⟩⟩
 have s0:Same H (upd (upd H dx (.own x)) x (.ins C dx [])):=fun b o e=>by
  rw [upd_ne (ne_of_none e nx),upd_ne (ne_of_none e ndx)]
  exact e
 have g1:Same H H1:=s0.byKp nx k1
 rw [List.length_map,List.length_map] at n1
 intro d hd
 have hdH:H d = none:=g1.free hd
 have g2:=same_new hd (.dK [])
 have g12:=g1.trans g2
 have n2:NumAt C (upd H1 d (.dK [])) x ((ins.length:Int) + outs.length) 0:=by
  obtain ⟨dy,e⟩:=n1
  exact ⟨dy,g2 _ _ e⟩
 refine ⟨_,rfl,_,rfl,ia,oa,_,_,rfl,rfl,g12 _ _ hi,g12 _ _ ho,by rw [List.length_map,List.length_map]; exact small (by omega),fun p hp=>?_⟩
 have g3:=same_new hp (.lst (ins.map V.str ++ outs.map V.str))
 have hpH:H p = none:=g12.free hp
 have em:ins.map V.str ++ outs.map V.str = (ins ++ outs).map V.str:=by rw [List.map_append]
 refine ⟨p,rfl,⟨_,SqL.of upd_same⟩,for_enum (K:=K) (l:=p) (xs:=ins.map V.str ++ outs.map V.str)
  (fun i σ H2=>∃ (x5 x6:Option V),σ = [some (.ref a),some (.ref ia),some (.ref oa),some (.ref x),some (.ref d),x5,x6,none]∧Same H H2∧NumAt C H2 x ((ins.length:Int) + outs.length) 0∧H2 p = some (.lst (ins.map V.str ++ outs.map V.str))∧SgAt H2 d (envOf ((ins ++ outs).take i) 0 fun _=>none) i)
  ⟨none,none,rfl,g12.trans g3,?_,upd_same,?_⟩ (fun i σ H2 _ ⟨_,_,_,_,_,e,_⟩=>SqL.of e) ?_ ?_⟩
 ·obtain ⟨dy,e⟩:=n2
  exact ⟨dy,g3 _ _ e⟩
 ·exact ⟨[],g3 _ _ upd_same,Nat.le_refl _,fun y=>rfl⟩
 ·rintro i y Tt σ H2 hy ⟨x5,x6,rfl,gH,⟨dy,hx2⟩,hp2,kvs,hd2,hkl,hkv⟩ hT
  have hil:i < (ins.map V.str ++ outs.map V.str).length:=(List.getElem?_eq_some_iff.mp hy).1
  rw [List.length_append,List.length_map,List.length_map] at hil
  rw [em] at hy
  obtain ⟨nm,hnm,rfl⟩:=strs_at hy
  have gT:=same_new hT (.tup [.int i,.str nm])
  have hdx:d≠x:=(ne_of hd2 hx2 (by intro z; cases z))
  have hdp:d≠p:=(ne_of hd2 hp2 (by intro z; cases z))
  refine ⟨Tt,_,rfl,SqT.of upd_same,rfl,_,_,rfl,_,_,rfl,rfl,?_⟩
  refine ⟨_,rfl,_,rfl,_,rfl,d,_,rfl,DPut.k (k:=(Sum.inr nm:Key)) (gT _ _ hd2) (small1000 (by omega)),?_⟩
  refine ⟨_,_,rfl,(gH.trans gT).young hdH _,⟨dy,by rw [upd_ne hdx.symm]; exact gT _ _ hx2⟩,by rw [upd_ne hdp.symm]; exact gT _ _ hp2,?_⟩
  have ee:envOf ((ins ++ outs).take (i + 1)) 0 (fun _=>none) = upE (envOf ((ins ++ outs).take i) 0 fun _=>none) nm i:=by
   rw [List.take_add_one,hnm]
   show envOf (_ ++ [nm]) 0 _ = _
   rw [envOf_snoc,List.length_take]
   congr 1
   rw [List.length_append]
   omega
  rw [ee]
  exact sg_put hkl hkv upd_same
 ·rintro σ H2 ⟨x5,x6,rfl,gH,⟨dy,hx2⟩,hp2,hsg⟩
  rw [em,List.length_map,List.take_of_length_le (Nat.le_refl _)] at hsg
  refine ⟨_,rfl,a,_,_,vb,rfl,rfl,SqT.of (gH _ _ ha),atI_nat (j:=2) rfl,_,rfl,(by show 0≤sizeLine; decide),fun l0 hl0=>?_⟩
  have g4:=same_new hl0 (.lst [])
  have I1:PlIn K C (upd H2 l0 (.lst [])) vb n d (envOf (ins ++ outs) 0 fun _=>none) (ins ++ outs).length l0 [] x ((ins.length:Int) + outs.length) 0 :=
   ⟨hat.mono (gH.trans g4).tp,by obtain ⟨kvs,b1,b2,b3⟩:=hsg; exact ⟨kvs,g4 _ _ b1,b2,b3⟩,upd_same,⟨dy,g4 _ _ hx2⟩,hok,by rw [List.length_append]; omega,by show 0 + hgt n≤900; omega⟩
  refine ⟨_,rfl,vb,n,d,_,_,l0,[],x,_,_,rfl,I1,by omega,fun v' H3 k3 n3 p3=>?_⟩
  obtain ⟨dz,hx3⟩:=n3
  have g5:Same H H3:=(gH.trans g4).byKp nx k3
  refine ⟨_,rfl,ia,_,rfl,.inl (SqL.of (g5 _ _ hi)),_,rfl,oa,_,rfl,.inl (SqL.of (g5 _ _ ho)),_,rfl,x,C,dz,_,_,rfl,hx3,T.cl,T.nS,flds_signs _ _,_,rfl,(by show 4≤sizeLine; decide),fun t ht=>?_⟩
  refine q t v' _ (g5.trans (same_new ht _)) ?_ (p3.mono (same_new ht _).tp)
  rw [upd_same,List.length_map,List.length_map]
end
end Pln
end
section
set_option Elab.async false
set_option linter.all false
set_option maxRecDepth 100000
set_option maxHeartbeats 4000000
namespace My
open PySem L2
inductive Pt where
 | nothing
 | rest (k:Int)
 | send (s:Int)
 | exit (d:Int)
 | stay (ks:List Int)
 | iff (s:Int) (p q:Pt)
 | again (k:Int) (p:Pt)
 | hold (s:Int) (p:Pt)
 | watch (s:Int) (p:Pt)
 | trap (p:Pt)
 | thn (p q:Pt)
 | bes (p q:Pt)
def Pt.nd:Pt→Nd
 | .nothing=>.t [.s "nothing"]
 | .rest k=>.t [.s "rest", .i k]
 | .send s=>.t [.s "send", .i s]
 | .exit d=>.t [.s "exit", .i d]
 | .stay ks=>.t [.s "stay", .t (ks.map Nd.i)]
 | .iff s p q=>.t [.s "if", .i s,p.nd,q.nd]
 | .again k p=>.t [.s "again", .i k,p.nd]
 | .hold s p=>.t [.s "hold", .i s,p.nd]
 | .watch s p=>.t [.s "watch", .i s,p.nd]
 | .trap p=>.t [.s "trap", p.nd]
 | .thn p q=>.t [.s "then", p.nd,q.nd]
 | .bes p q=>.t [.s "beside", p.nd,q.nd]
def Pt.hg:Pt→Nat
 | .iff _ p q=>max p.hg q.hg + 1
 | .thn p q=>max p.hg q.hg + 1
 | .bes p q=>max p.hg q.hg + 1
 | .again _ p=>p.hg + 1
 | .hold _ p=>p.hg + 1
 | .watch _ p=>p.hg + 1
 | .trap p=>p.hg + 1
 | _=>1
def Pt.rc:Pt→Nat
 | .rest _=>1
 | .stay ks=>ks.length
 | .iff _ p q=>p.rc + q.rc
 | .thn p q=>p.rc + q.rc
 | .bes p q=>p.rc + q.rc
 | .again _ p=>p.rc + 1
 | .hold _ p=>p.rc
 | .watch _ p=>p.rc
 | .trap p=>p.rc
 | _=>0
def Pt.sc:Pt→Nat
 | .send _=>1
 | .iff _ p q=>p.sc + q.sc
 | .thn p q=>p.sc + q.sc
 | .bes p q=>p.sc + q.sc
 | .again _ p=>p.sc
 | .hold _ p=>p.sc
 | .watch _ p=>p.sc
 | .trap p=>p.sc
 | _=>0
def Pt.lc:Pt→Nat
 | .rest _=>1
 | .stay ks=>ks.length
 | .iff _ p q=>max p.lc q.lc
 | .thn p q=>max p.lc q.lc
 | .bes p q=>p.lc + q.lc
 | .again _ p=>max 1 p.lc
 | .hold _ p=>p.lc
 | .watch _ p=>p.lc
 | .trap p=>p.lc
 | _=>0
def lp (p:Pt) (a b:List Int× Pt):Pt :=
 match p with
 | .thn _ q=>if b.1 = [] then .thn a.2 q else b.2
 | .bes _ _=>if ¬ a.1 = []∧¬ b.1 = [] then .bes a.2 b.2 else if ¬ a.1 = [] then a.2 else if ¬ b.1 = [] then b.2 else p
 | _=>if ¬ a.1 = [] then a.2 else if ¬ b.1 = [] then b.2 else p
def lr (p:Pt) (a:List Int× Pt):Pt :=
 if a.1 = [] then p else
 match p with
 | .again k _=>.again k a.2
 | .trap _=>.trap a.2
 | .hold s _=>.iff s (.stay a.1) a.2
 | .watch s _=>.iff s .nothing a.2
 | _=>p
def rem (st:List Int):Pt→List Int× Pt
 | .iff s p q=>((rem st p).1 ++ (rem st q).1,lp (.iff s p q) (rem st p) (rem st q))
 | .thn p q=>((rem st p).1 ++ (rem st q).1,lp (.thn p q) (rem st p) (rem st q))
 | .bes p q=>((rem st p).1 ++ (rem st q).1,lp (.bes p q) (rem st p) (rem st q))
 | .again k p=>if k∈st then ([k] ++ (rem st p).1,.again k p) else ((rem st p).1,lr (.again k p) (rem st p))
 | .hold s p=>((rem st p).1,lr (.hold s p) (rem st p))
 | .watch s p=>((rem st p).1,lr (.watch s p) (rem st p))
 | .trap p=>((rem st p).1,lr (.trap p) (rem st p))
 | .rest k=>if k∈st then ([k],.nothing) else ([],.rest k)
 | p=>([],p)
def trapC (c:Int):Int:=if c = 2 then 0 else if 2 < c then c - 1 else c
def agC (c:Int):Int:=if c = 0 then 1 else c
abbrev Dd:=Int× List Int× List Int
def turnD (a b:Dd):Dd:=(b.1,a.2.1 ++ b.2.1,b.2.2)
def sideD (a b:Dd):Dd:=(if b.1 > a.1 then b.1 else a.1,a.2.1 ++ b.2.1,if (if b.1 > a.1 then b.1 else a.1) = 1 then a.2.2 ++ b.2.2 else [])
def repD (k:Int) (a:Dd):Dd:=(agC a.1,a.2.1,if a.1 = 0 then [k] else a.2.2)
def beg (th:List Int):Pt→Dd
 | .thn p q=>if (beg th p).1 = 0 then turnD (beg th p) (beg th q) else beg th p
 | .bes p q=>sideD (beg th p) (beg th q)
 | .iff s p q=>if s∈th then beg th p else beg th q
 | .again k p=>repD k (beg th p)
 | .hold _ p=>beg th p
 | .watch _ p=>beg th p
 | .trap p=>(trapC (beg th p).1,(beg th p).2.1,(beg th p).2.2)
 | .nothing=>(0,[],[])
 | .send s=>(0,[s],[])
 | .exit d=>(2 + d,[],[])
 | .rest k=>(1,[],[k])
 | .stay ks=>(1,[],ks)
theorem Pt.hg_pos (p:Pt):1≤p.hg:=by cases p <;> exact Nat.le_add_left 1 _
theorem rem_len (st:List Int) (p:Pt):(rem st p).1.length≤p.rc:=by
 induction p with
 | nothing=>exact Nat.le_refl _
 | rest k=>simp only [rem]; split; exact Nat.le_refl _; exact Nat.zero_le _
 | send s=>exact Nat.le_refl _
 | exit d=>exact Nat.le_refl _
 | stay ks=>exact Nat.zero_le _
 | iff s p q ih1 ih2=>simp only [rem,List.length_append]; exact Nat.add_le_add ih1 ih2
 | thn p q ih1 ih2=>simp only [rem,List.length_append]; exact Nat.add_le_add ih1 ih2
 | bes p q ih1 ih2=>simp only [rem,List.length_append]; exact Nat.add_le_add ih1 ih2
 | again k p ih =>
  simp only [rem]
  split
  ·rw [List.length_append,Nat.add_comm]; exact Nat.succ_le_succ ih
  ·exact Nat.le_trans ih (Nat.le_succ _)
 | hold s p ih=>exact ih
 | watch s p ih=>exact ih
 | trap p ih=>exact ih
theorem Pt.lc_rc (p:Pt):p.lc≤p.rc:=by
 induction p with
 | iff s p q h1 h2=>exact Nat.max_le.mpr ⟨Nat.le_trans h1 (Nat.le_add_right _ _),Nat.le_trans h2 (Nat.le_add_left _ _)⟩
 | thn p q h1 h2=>exact Nat.max_le.mpr ⟨Nat.le_trans h1 (Nat.le_add_right _ _),Nat.le_trans h2 (Nat.le_add_left _ _)⟩
 | bes p q h1 h2=>exact Nat.add_le_add h1 h2
 | again k p h=>exact Nat.max_le.mpr ⟨Nat.le_add_left _ _,Nat.le_trans h (Nat.le_succ _)⟩
 | hold s p h=>exact h
 | watch s p h=>exact h
 | trap p h=>exact h
 | _=>exact Nat.le_refl _
theorem beg_len (th:List Int) (p:Pt):(beg th p).2.1.length≤p.sc∧(beg th p).2.2.length≤p.lc:=by
 induction p with
 | nothing=>exact ⟨Nat.le_refl _,Nat.le_refl _⟩
 | rest k=>exact ⟨Nat.le_refl _,Nat.le_refl _⟩
 | send s=>exact ⟨Nat.le_refl _,Nat.le_refl _⟩
 | exit d=>exact ⟨Nat.le_refl _,Nat.le_refl _⟩
 | stay ks=>exact ⟨Nat.le_refl _,Nat.le_refl _⟩
 | iff s p q ih1 ih2 =>
  simp only [beg]
  split
  ·exact ⟨Nat.le_trans ih1.1 (Nat.le_add_right _ _),Nat.le_trans ih1.2 (Nat.le_max_left _ _)⟩
  ·exact ⟨Nat.le_trans ih2.1 (Nat.le_add_left _ _),Nat.le_trans ih2.2 (Nat.le_max_right _ _)⟩
 | thn p q ih1 ih2 =>
  simp only [beg]
  split
  ·simp only [turnD,List.length_append]
   exact ⟨Nat.add_le_add ih1.1 ih2.1,Nat.le_trans ih2.2 (Nat.le_max_right _ _)⟩
  ·exact ⟨Nat.le_trans ih1.1 (Nat.le_add_right _ _),Nat.le_trans ih1.2 (Nat.le_max_left _ _)⟩
 | bes p q ih1 ih2 =>
  simp only [beg,sideD,List.length_append]
  refine ⟨Nat.add_le_add ih1.1 ih2.1,?_⟩
  generalize (if (beg th q).1 > (beg th p).1 then (beg th q).1 else (beg th p).1) = c
  split
  ·rw [List.length_append]; exact Nat.add_le_add ih1.2 ih2.2
  ·exact Nat.zero_le _
 | again k p ih =>
  simp only [beg,repD]
  refine ⟨ih.1,?_⟩
  split
  ·exact Nat.le_max_left _ _
  ·exact Nat.le_trans ih.2 (Nat.le_max_right _ _)
 | hold s p ih=>exact ih
 | watch s p ih=>exact ih
 | trap p ih=>exact ih
theorem lp_le {f:Pt→Nat} {p:Pt} {a b:List Int× Pt} {n:Nat} (h0:f p≤n) (ha:f a.2≤n) (hb:f b.2≤n) (ht:∀ q r,p = .thn q r→f (.thn a.2 r)≤n) (hs:∀ q r,p = .bes q r→f (.bes a.2 b.2)≤n):f (lp p a b)≤n:=by
 unfold lp
 split
 ·split
  ·exact ht _ _ rfl
  ·exact hb
 ·split
  ·exact hs _ _ rfl
  ·split
   ·exact ha
   ·split
    ·exact hb
    ·exact h0
 ·split
  ·exact ha
  ·split
   ·exact hb
   ·exact h0
theorem rem_sc (st:List Int) (p:Pt):(rem st p).2.sc≤p.sc:=by
 induction p with
 | nothing=>exact Nat.le_refl _
 | rest k=>simp only [rem]; split <;> exact Nat.le_refl _
 | send s=>exact Nat.le_refl _
 | exit d=>exact Nat.le_refl _
 | stay ks=>exact Nat.le_refl _
 | iff s p q ih1 ih2=>exact lp_le (f:=Pt.sc) (p:=.iff s p q) (a:=rem st p) (b:=rem st q) (n:=Pt.sc (.iff s p q)) (Nat.le_refl _) (Nat.le_trans ih1 (Nat.le_add_right _ _)) (Nat.le_trans ih2 (Nat.le_add_left _ _)) (fun _ _ e=>nomatch e) (fun _ _ e=>nomatch e)
 | thn p q ih1 ih2=>exact lp_le (f:=Pt.sc) (p:=.thn p q) (a:=rem st p) (b:=rem st q) (n:=Pt.sc (.thn p q)) (Nat.le_refl _) (Nat.le_trans ih1 (Nat.le_add_right _ _)) (Nat.le_trans ih2 (Nat.le_add_left _ _)) (fun _ _ e=>by cases e; exact Nat.add_le_add_right ih1 _) (fun _ _ e=>nomatch e)
 | bes p q ih1 ih2=>exact lp_le (f:=Pt.sc) (p:=.bes p q) (a:=rem st p) (b:=rem st q) (n:=Pt.sc (.bes p q)) (Nat.le_refl _) (Nat.le_trans ih1 (Nat.le_add_right _ _)) (Nat.le_trans ih2 (Nat.le_add_left _ _)) (fun _ _ e=>nomatch e) (fun _ _ e=>by cases e; exact Nat.add_le_add ih1 ih2)
 | again k p ih =>
  simp only [rem]
  split
  ·exact Nat.le_refl _
  ·unfold lr; split
   ·exact Nat.le_refl _
   ·exact ih
 | hold s p ih=>simp only [rem]; unfold lr; split; exact Nat.le_refl _; exact Nat.le_trans (Nat.le_of_eq (Nat.zero_add _)) ih
 | watch s p ih=>simp only [rem]; unfold lr; split; exact Nat.le_refl _; exact Nat.le_trans (Nat.le_of_eq (Nat.zero_add _)) ih
 | trap p ih=>simp only [rem]; unfold lr; split; exact Nat.le_refl _; exact ih
theorem rem_lc (st:List Int) (p:Pt):(rem st p).2.lc≤p.rc:=by
 induction p with
 | nothing=>exact Nat.le_refl _
 | rest k=>simp only [rem]; split; exact Nat.zero_le _; exact Nat.le_refl _
 | send s=>exact Nat.le_refl _
 | exit d=>exact Nat.le_refl _
 | stay ks=>exact Nat.le_refl _
 | iff s p q ih1 ih2=>exact lp_le (f:=Pt.lc) (p:=.iff s p q) (a:=rem st p) (b:=rem st q) (n:=Pt.rc (.iff s p q)) (Pt.lc_rc _) (Nat.le_trans ih1 (Nat.le_add_right _ _)) (Nat.le_trans ih2 (Nat.le_add_left _ _)) (fun _ _ e=>nomatch e) (fun _ _ e=>nomatch e)
 | thn p q ih1 ih2=>exact lp_le (f:=Pt.lc) (p:=.thn p q) (a:=rem st p) (b:=rem st q) (n:=Pt.rc (.thn p q)) (Pt.lc_rc _) (Nat.le_trans ih1 (Nat.le_add_right _ _)) (Nat.le_trans ih2 (Nat.le_add_left _ _)) (fun _ _ e=>by cases e; exact Nat.max_le.mpr ⟨Nat.le_trans ih1 (Nat.le_add_right _ _),Nat.le_trans (Pt.lc_rc q) (Nat.le_add_left _ _)⟩) (fun _ _ e=>nomatch e)
 | bes p q ih1 ih2=>exact lp_le (f:=Pt.lc) (p:=.bes p q) (a:=rem st p) (b:=rem st q) (n:=Pt.rc (.bes p q)) (Pt.lc_rc _) (Nat.le_trans ih1 (Nat.le_add_right _ _)) (Nat.le_trans ih2 (Nat.le_add_left _ _)) (fun _ _ e=>nomatch e) (fun _ _ e=>by cases e; exact Nat.add_le_add ih1 ih2)
 | again k p ih =>
  simp only [rem]
  split
  ·exact Pt.lc_rc _
  ·unfold lr; split
   ·exact Pt.lc_rc _
   ·exact Nat.max_le.mpr ⟨Nat.le_add_left _ _,Nat.le_trans ih (Nat.le_succ _)⟩
 | hold s p ih=>simp only [rem]; unfold lr; split; exact Pt.lc_rc p; exact Nat.max_le.mpr ⟨rem_len st p,ih⟩
 | watch s p ih=>simp only [rem]; unfold lr; split; exact Pt.lc_rc p; exact Nat.max_le.mpr ⟨Nat.zero_le _,ih⟩
 | trap p ih=>simp only [rem]; unfold lr; split; exact Pt.lc_rc p; exact ih
theorem rem_hg (st:List Int) (p:Pt):(rem st p).2.hg≤p.hg:=by
 induction p with
 | nothing=>exact Nat.le_refl _
 | rest k=>simp only [rem]; split <;> exact Nat.le_refl _
 | send s=>exact Nat.le_refl _
 | exit d=>exact Nat.le_refl _
 | stay ks=>exact Nat.le_refl _
 | iff s p q ih1 ih2=>exact lp_le (f:=Pt.hg) (p:=.iff s p q) (a:=rem st p) (b:=rem st q) (n:=Pt.hg (.iff s p q)) (Nat.le_refl _) (Nat.le_trans ih1 (Nat.le_trans (Nat.le_max_left _ _) (Nat.le_succ _))) (Nat.le_trans ih2 (Nat.le_trans (Nat.le_max_right _ _) (Nat.le_succ _))) (fun _ _ e=>nomatch e) (fun _ _ e=>nomatch e)
 | thn p q ih1 ih2=>exact lp_le (f:=Pt.hg) (p:=.thn p q) (a:=rem st p) (b:=rem st q) (n:=Pt.hg (.thn p q)) (Nat.le_refl _) (Nat.le_trans ih1 (Nat.le_trans (Nat.le_max_left _ _) (Nat.le_succ _))) (Nat.le_trans ih2 (Nat.le_trans (Nat.le_max_right _ _) (Nat.le_succ _))) (fun _ _ e=>by cases e; exact Nat.succ_le_succ (Nat.max_le.mpr ⟨Nat.le_trans ih1 (Nat.le_max_left _ _),Nat.le_max_right _ _⟩)) (fun _ _ e=>nomatch e)
 | bes p q ih1 ih2=>exact lp_le (f:=Pt.hg) (p:=.bes p q) (a:=rem st p) (b:=rem st q) (n:=Pt.hg (.bes p q)) (Nat.le_refl _) (Nat.le_trans ih1 (Nat.le_trans (Nat.le_max_left _ _) (Nat.le_succ _))) (Nat.le_trans ih2 (Nat.le_trans (Nat.le_max_right _ _) (Nat.le_succ _))) (fun _ _ e=>nomatch e) (fun _ _ e=>by cases e; exact Nat.succ_le_succ (Nat.max_le.mpr ⟨Nat.le_trans ih1 (Nat.le_max_left _ _),Nat.le_trans ih2 (Nat.le_max_right _ _)⟩))
 | again k p ih =>
  simp only [rem]
  split
  ·exact Nat.le_refl _
  ·unfold lr; split
   ·exact Nat.le_refl _
   ·exact Nat.succ_le_succ ih
 | hold s p ih=>simp only [rem]; unfold lr; split; exact Nat.le_refl _; exact Nat.succ_le_succ (Nat.max_le.mpr ⟨Pt.hg_pos p,ih⟩)
 | watch s p ih=>simp only [rem]; unfold lr; split; exact Nat.le_refl _; exact Nat.succ_le_succ (Nat.max_le.mpr ⟨Pt.hg_pos p,ih⟩)
 | trap p ih=>simp only [rem]; unfold lr; split; exact Nat.le_refl _; exact Nat.succ_le_succ ih
def sortI (l:List Int):List Int:=l.mergeSort (fun a b=>decide (a≤b))
theorem sortI_perm (l:List Int):(sortI l).Perm l:=List.mergeSort_perm l _
theorem sortI_rise (l:List Int):(sortI l).Pairwise (·≤·):=by
 have:=List.pairwise_mergeSort (le:=fun a b:Int=>decide (a≤b)) (fun a b c h1 h2=>by simp at *; omega) (fun a b=>by simp; omega) l
 exact this.imp fun {a b} h=>by simpa using h
theorem perm_ext {a b:List Int} (p:a.Perm b) (ha:a.Pairwise (·≤·)) (hb:b.Pairwise (·≤·)):a = b:=by
 induction a generalizing b with
 | nil=>exact p.nil_eq.symm ▸ rfl
 | cons x a ih =>
  cases b with
  | nil=>exact absurd p.length_eq (by simp)
  | cons y b =>
   have ha':=List.pairwise_cons.mp ha
   have hb':=List.pairwise_cons.mp hb
   have e:x = y:=by
    have h1:x≤y:=by
     rcases List.mem_cons.mp (p.mem_iff.mpr (List.mem_cons_self (a:=y) (l:=b))) with z | z
     ·omega
     ·exact ha'.1 y z
    have h2:y≤x:=by
     rcases List.mem_cons.mp (p.mem_iff.mp (List.mem_cons_self (a:=x) (l:=a))) with z | z
     ·omega
     ·exact hb'.1 x z
    omega
   subst e
   congr 1
   exact ih (List.Perm.cons_inv p) ha'.2 hb'.2
theorem sortI_eq {l ms:List Int} (p:ms.Perm l) (h:ms.Pairwise (·≤·)):ms = sortI l:=perm_ext (p.trans (sortI_perm l).symm) h (sortI_rise l)
def pb (p:Pt):Option (List Int)→Pt
 | none=>p
 | some st=>(rem st p).2
def ranD (p:Pt) (st:Option (List Int)) (th:List Int):Dd:=((beg th (pb p st)).1,nub (beg th (pb p st)).2.1,sortI (beg th (pb p st)).2.2)
theorem iteE {l:List Int} {A B:Prop} (h1:¬ l = []→A) (h2:l = []→B):if (!(l.map V.int).isEmpty) = true then A else B:=by
 cases l with
 | nil=>exact h2 rfl
 | cons x r=>exact h1 (by simp)
theorem iteI {i j:Int} {A B:Prop} (h1:i = j→A) (h2:¬ i = j→B):if decide (V.int i = V.int j) = true then A else B:=by
 by_cases c:i = j
 ·rw [decide_eq_true (congrArg V.int c),if_pos rfl]; exact h1 c
 ·rw [decide_eq_false (fun z=>c (V.int.inj z)),if_neg Bool.false_ne_true]; exact h2 c
theorem iteM {k:Int} {l:List Int} {A B:Prop} (h1:k∈l→A) (h2:¬ k∈l→B):if (if false = true then !inV (V.int k) (l.map V.int) else inV (V.int k) (l.map V.int)) = true then A else B:=by
 rw [if_neg Bool.false_ne_true,inV_ints]
 by_cases c:k∈l
 ·rw [decide_eq_true c,if_pos rfl]; exact h1 c
 ·rw [decide_eq_false c,if_neg Bool.false_ne_true]; exact h2 c
theorem iteW {x y:Str} {A B:Prop} (h1:x = y→A) (h2:¬ x = y→B):if decide (V.str x = V.str y) = true then A else B:=by
 by_cases c:x = y
 ·subst c; exact iteEq (h1 rfl)
 ·exact iteNe c (h2 c)
theorem iteB {b:Bool} {A B:Prop} (h1:b = true→A) (h2:b = false→B):if b = true then A else B:=by
 cases b with
 | true=>rw [if_pos rfl]; exact h1 rfl
 | false=>rw [if_neg Bool.false_ne_true]; exact h2 rfl
def wdP:Pt→Str
 | .nothing=> "nothing"
 | .rest _=> "rest"
 | .send _=> "send"
 | .exit _=> "exit"
 | .stay _=> "stay"
 | .iff _ _ _=> "if"
 | .again _ _=> "again"
 | .hold _ _=> "hold"
 | .watch _ _=> "watch"
 | .trap _=> "trap"
 | .thn _ _=> "then"
 | .bes _ _=> "beside"
theorem nd_wd (p:Pt):∃ r,Pt.nd p = .t (.s (wdP p) :: r):=by cases p <;> exact ⟨_,rfl⟩
theorem wd_at {K:PySem.W.Frag} {H:Hp} {p:Pt} {v:V} (h:PAt K H (Pt.nd p) v):∃ a vs,v = .ref a∧TupAt K H a (.str (wdP p) :: vs):=by
 obtain ⟨r,e⟩:=nd_wd p
 rw [e] at h
 obtain ⟨a,vs,rfl,hs,hx⟩:=PAt.get h
 unfold PAtL at hx
 obtain ⟨v,r',rfl,q,l⟩:=hx
 cases q.str
 exact ⟨a,r',rfl,hs⟩
theorem wd_thn {p:Pt} (e:wdP p = "then"):∃ p1 p2,p = .thn p1 p2:=by cases p <;> first | exact ⟨_,_,rfl⟩ | (dsimp only [wdP] at e; exact absurd e (by decide +kernel))
theorem wd_bes {p:Pt} (e:wdP p = "beside"):∃ p1 p2,p = .bes p1 p2:=by cases p <;> first | exact ⟨_,_,rfl⟩ | (dsimp only [wdP] at e; exact absurd e (by decide +kernel))
theorem wd_iff {p:Pt} (e:wdP p = "if"):∃ x p1 p2,p = .iff x p1 p2:=by cases p <;> first | exact ⟨_,_,_,rfl⟩ | (dsimp only [wdP] at e; exact absurd e (by decide +kernel))
theorem wd_again {p:Pt} (e:wdP p = "again"):∃ k p1,p = .again k p1:=by cases p <;> first | exact ⟨_,_,rfl⟩ | (dsimp only [wdP] at e; exact absurd e (by decide +kernel))
theorem wd_hold {p:Pt} (e:wdP p = "hold"):∃ x p1,p = .hold x p1:=by cases p <;> first | exact ⟨_,_,rfl⟩ | (dsimp only [wdP] at e; exact absurd e (by decide +kernel))
theorem wd_watch {p:Pt} (e:wdP p = "watch"):∃ x p1,p = .watch x p1:=by cases p <;> first | exact ⟨_,_,rfl⟩ | (dsimp only [wdP] at e; exact absurd e (by decide +kernel))
theorem wd_trap {p:Pt} (e:wdP p = "trap"):∃ p1,p = .trap p1:=by cases p <;> first | exact ⟨_,rfl⟩ | (dsimp only [wdP] at e; exact absurd e (by decide +kernel))
theorem wd_exit {p:Pt} (e:wdP p = "exit"):∃ k,p = .exit k:=by cases p <;> first | exact ⟨_,rfl⟩ | (dsimp only [wdP] at e; exact absurd e (by decide +kernel))
theorem wd_send {p:Pt} (e:wdP p = "send"):∃ k,p = .send k:=by cases p <;> first | exact ⟨_,rfl⟩ | (dsimp only [wdP] at e; exact absurd e (by decide +kernel))
theorem wd_stay {p:Pt} (e:wdP p = "stay"):∃ k,p = .stay k:=by cases p <;> first | exact ⟨_,rfl⟩ | (dsimp only [wdP] at e; exact absurd e (by decide +kernel))
theorem wd_rest {p:Pt} (e:wdP p = "rest"):∃ k,p = .rest k:=by cases p <;> first | exact ⟨_,rfl⟩ | (dsimp only [wdP] at e; exact absurd e (by decide +kernel))
theorem snoc_le {α:Type} {l:List α} {x:α} {j:Nat} (h:l.length≤j):(l ++ [x]).length≤j + 1:=by rw [List.length_append,List.length_singleton]; exact Nat.succ_le_succ h
theorem lt9 {n:Nat} (h:n < 64):n≤900:=Nat.le_trans (Nat.le_of_lt h) (by decide)
theorem leKn {n k:Nat} (h:n≤k) (z:k≤1000):n≤1000:=Nat.le_trans h z
theorem le2K {a b k l:Nat} (h1:a≤k) (h2:b≤l) (z:k + l≤1000):a + b≤1000:=Nat.le_trans (Nat.add_le_add h1 h2) z
theorem le2L {a b k l:Nat} (h1:a≤k) (h2:b≤l) (z:k + l < 64):a + b < 64:=Nat.lt_of_le_of_lt (Nat.add_le_add h1 h2) z
theorem tn_lt {s:Int} {n:Nat} (h:0≤s∧s < n):s.toNat < n:=(Int.toNat_lt h.1).mpr h.2
theorem hgl {a b n:Nat} (h:max a b + 1≤n + 1):a≤n:=Nat.le_trans (Nat.le_max_left _ _) (Nat.le_of_succ_le_succ h)
theorem hgr {a b n:Nat} (h:max a b + 1≤n + 1):b≤n:=Nat.le_trans (Nat.le_max_right _ _) (Nat.le_of_succ_le_succ h)
theorem adl {a b n:Nat} (h:a + b≤n):a≤n:=Nat.le_trans (Nat.le_add_right _ _) h
theorem adr {a b n:Nat} (h:a + b≤n):b≤n:=Nat.le_trans (Nat.le_add_left _ _) h
theorem mxl {a b n:Nat} (h:max a b≤n):a≤n:=Nat.le_trans (Nat.le_max_left _ _) h
theorem mxr {a b n:Nat} (h:max a b≤n):b≤n:=Nat.le_trans (Nat.le_max_right _ _) h
structure TxtR (K:PySem.W.Frag) (mg:Str→Option Value) (aN aP aR:Addr) (uE uR uL:Value):Prop extends Txt mg where
 m_ENDED:mg "ENDED" = some uE
 r_ENDED:RelV (.int 0) uE
 m_RESTS:mg "RESTS" = some uR
 r_RESTS:RelV (.int 1) uR
 m_LEAVES:mg "LEAVES" = some uL
 r_LEAVES:RelV (.int 2) uL
 m_NOTHING:mg "NOTHING_remaining" = some (.ref aN)
 r_NOTHING:RelV (.ref aN) (Value.ref aN)
 mN:ModT K aN [V.str "nothing"]
 m_PAIRS:mg "PAIRS" = some (.ref aP)
 r_PAIRS:RelV (.ref aP) (Value.ref aP)
 mP:ModT K aP [V.str "then", V.str "if", V.str "beside"]
 m_ROUND:mg "ROUND" = some (.ref aR)
 r_ROUND:RelV (.ref aR) (Value.ref aR)
 mR:ModT K aR [V.str "again", V.str "hold", V.str "watch", V.str "trap"]
def RemAt (K:PySem.W.Frag) (H:Hp) (t:Addr) (r:List Int× Pt):Prop:=∃ l v,H t = some (.tup [.ref l,v])∧H l = some (.lst (r.1.map V.int))∧PAt K H r.2.nd v
theorem RemAt.mono {K:PySem.W.Frag} {H H':Hp} (g:Same H H') {t:Addr} {r:List Int× Pt} (h:RemAt K H t r):RemAt K H' t r:=by
 obtain ⟨l,v,h1,h2,h3⟩:=h
 exact ⟨l,v,g _ _ h1,g _ _ h2,h3.mono g.tp⟩
theorem patL_ints {K:PySem.W.Frag} {H:Hp}:∀ (l:List Int),PAtL K H (l.map Nd.i) (l.map V.int)
 | []=>.nil
 | x :: r=>.cons .i (patL_ints r)
theorem patL_int {K:PySem.W.Frag} {H:Hp}:∀ {l:List Int} {vs:List V},PAtL K H (l.map Nd.i) vs→vs = l.map V.int
 | [],vs,h=>by unfold PAtL at h; exact h
 | x :: r,vs,h=>by
  have h:PAtL K H (.i x :: r.map Nd.i) vs:=h
  unfold PAtL at h
  obtain ⟨v,r',rfl,q,l⟩:=h
  cases q.int
  rw [patL_int l]; rfl
def isLf:Pt→Bool
 | .nothing=>true
 | .rest _=>true
 | .send _=>true
 | .exit _=>true
 | .stay _=>true
 | _=>false
def isPr:Pt→Bool
 | .iff _ _ _=>true
 | .thn _ _=>true
 | .bes _ _=>true
 | _=>false
def isRd:Pt→Bool
 | .again _ _=>true
 | .hold _ _=>true
 | .watch _ _=>true
 | .trap _=>true
 | _=>false
theorem wd_leaf {p:Pt} (n1:¬ wdP p = "then") (n2:¬ wdP p = "beside") (n3:¬ wdP p = "if") (n4:¬ wdP p = "again") (n5:¬ wdP p = "hold") (n6:¬ wdP p = "watch") (n7:¬ wdP p = "trap"):isLf p = true:=by
 cases p <;> first | rfl | exact absurd rfl n1 | exact absurd rfl n2 | exact absurd rfl n3 | exact absurd rfl n4 | exact absurd rfl n5 | exact absurd rfl n6 | exact absurd rfl n7
theorem in_pr {p:Pt} {A B:Prop} (h1:isPr p = true→A) (h2:isPr p = false→B):if (if false = true then !inV (V.str (wdP p)) [V.str "then", V.str "if", V.str "beside"] else inV (V.str (wdP p)) [V.str "then", V.str "if", V.str "beside"]) = true then A else B:=by
 rw [show (if false = true then !inV (V.str (wdP p)) [V.str "then", V.str "if", V.str "beside"] else inV (V.str (wdP p)) [V.str "then", V.str "if", V.str "beside"]) = isPr p from by cases p <;> (dsimp only [wdP,isPr]; decide +kernel)]
 exact iteB h1 h2
theorem in_rd {p:Pt} {A B:Prop} (h1:isRd p = true→A) (h2:isRd p = false→B):if (if false = true then !inV (V.str (wdP p)) [V.str "again", V.str "hold", V.str "watch", V.str "trap"] else inV (V.str (wdP p)) [V.str "again", V.str "hold", V.str "watch", V.str "trap"]) = true then A else B:=by
 rw [show (if false = true then !inV (V.str (wdP p)) [V.str "again", V.str "hold", V.str "watch", V.str "trap"] else inV (V.str (wdP p)) [V.str "again", V.str "hold", V.str "watch", V.str "trap"]) = isRd p from by cases p <;> (dsimp only [wdP,isRd]; decide +kernel)]
 exact iteB h1 h2
inductive PrV (K:PySem.W.Frag) (H:Hp) (p:Pt) (v:V) (n:Nat):Prop
 | mk (a:Addr) (vs:List V) (x1 x2:V) (p1 p2:Pt) (e:v = .ref a) (hs:TupAt K H a vs) (i1:atI vs (-2) = some x1) (i2:atI vs (-1) = some x2) (h1:PAt K H (Pt.nd p1) x1) (h2:PAt K H (Pt.nd p2) x2) (c1:p1.hg≤n) (c2:p2.hg≤n) (hc:p1.rc + p2.rc≤900) (er:∀ ns,rem ns p = ((rem ns p1).1 ++ (rem ns p2).1,lp p (rem ns p1) (rem ns p2))):PrV K H p v n
theorem pat_pr {K:PySem.W.Frag} {H:Hp} {p:Pt} {v:V} {n:Nat} (h:PAt K H (Pt.nd p) v) (z:isPr p = true) (hh:p.hg≤n + 1) (hc:p.rc≤900):PrV K H p v n:=by
 cases p with
 | thn p1 p2 =>
  obtain ⟨a,vs,rfl,hs,hx⟩:=PAt.get h
  obtain ⟨x0,x1,x2,rfl,h0,h1,h2⟩:=hx.three
  exact ⟨a,_,x1,x2,p1,p2,rfl,hs,atI_neg2 (by simp) rfl,atI_neg1 rfl,h1,h2,hgl hh,hgr hh,hc,fun _=>rfl⟩
 | bes p1 p2 =>
  obtain ⟨a,vs,rfl,hs,hx⟩:=PAt.get h
  obtain ⟨x0,x1,x2,rfl,h0,h1,h2⟩:=hx.three
  exact ⟨a,_,x1,x2,p1,p2,rfl,hs,atI_neg2 (by simp) rfl,atI_neg1 rfl,h1,h2,hgl hh,hgr hh,hc,fun _=>rfl⟩
 | iff sn p1 p2 =>
  obtain ⟨a,vs,rfl,hs,hx⟩:=PAt.get h
  obtain ⟨x0,x1,x2,x3,rfl,h0,h1,h2,h3⟩:=hx.four
  exact ⟨a,_,x2,x3,p1,p2,rfl,hs,atI_neg2 (by simp) rfl,atI_neg1 rfl,h2,h3,hgl hh,hgr hh,hc,fun _=>rfl⟩
 | _=>cases z
inductive RdV (K:PySem.W.Frag) (H:Hp) (p:Pt) (v:V) (n:Nat):Prop
 | mk (a:Addr) (vs:List V) (x1:V) (p1:Pt) (e:v = .ref a) (hs:TupAt K H a (.str (wdP p) :: vs)) (i1:atI (.str (wdP p) :: vs) (-1) = some x1) (h1:PAt K H (Pt.nd p1) x1) (c1:p1.hg≤n) (c2:p1.rc≤900) (hor:(∃ k,p = .again k p1∧p1.rc + 1≤900∧vs = [.int k,x1])∨(¬ wdP p = "again" ∧ ∀ ns,rem ns p = ((rem ns p1).1,lr p (rem ns p1)))):RdV K H p v n
theorem pat_rd {K:PySem.W.Frag} {H:Hp} {p:Pt} {v:V} {n:Nat} (h:PAt K H (Pt.nd p) v) (z:isRd p = true) (hh:p.hg≤n + 1) (hc:p.rc≤900):RdV K H p v n:=by
 cases p with
 | again k p1 =>
  obtain ⟨a,vs,rfl,hs,hx⟩:=PAt.get h
  obtain ⟨x0,x1,x2,rfl,h0,h1,h2⟩:=hx.three
  cases h0.str
  cases h1.int
  exact ⟨a,_,x2,p1,rfl,hs,atI_neg1 rfl,h2,Nat.le_of_succ_le_succ hh,Nat.le_of_succ_le hc,.inl ⟨k,rfl,hc,rfl⟩⟩
 | hold k p1 =>
  obtain ⟨a,vs,rfl,hs,hx⟩:=PAt.get h
  obtain ⟨x0,x1,x2,rfl,h0,h1,h2⟩:=hx.three
  cases h0.str
  exact ⟨a,_,x2,p1,rfl,hs,atI_neg1 rfl,h2,Nat.le_of_succ_le_succ hh,hc,.inr ⟨by dsimp only [wdP]; decide +kernel,fun _=>rfl⟩⟩
 | watch k p1 =>
  obtain ⟨a,vs,rfl,hs,hx⟩:=PAt.get h
  obtain ⟨x0,x1,x2,rfl,h0,h1,h2⟩:=hx.three
  cases h0.str
  exact ⟨a,_,x2,p1,rfl,hs,atI_neg1 rfl,h2,Nat.le_of_succ_le_succ hh,hc,.inr ⟨by dsimp only [wdP]; decide +kernel,fun _=>rfl⟩⟩
 | trap p1 =>
  obtain ⟨a,vs,rfl,hs,hx⟩:=PAt.get h
  obtain ⟨x0,x1,rfl,h0,h1⟩:=hx.two
  cases h0.str
  exact ⟨a,_,x1,p1,rfl,hs,atI_neg1 rfl,h1,Nat.le_of_succ_le_succ hh,hc,.inr ⟨by dsimp only [wdP]; decide +kernel,fun _=>rfl⟩⟩
 | _=>cases z
theorem rem_leaf {p:Pt} (h1:isPr p = false) (h2:isRd p = false) (h3:¬ wdP p = "rest") (ns:List Int):rem ns p = ([],p):=by
 cases p <;> first | rfl | (cases h1; done) | (cases h2; done) | exact absurd rfl h3
def agIn (ns:List Int):Pt→Bool
 | .again k _=>decide (k∈ns)
 | _=>false
def restIn (ns:List Int):Pt→Bool
 | .rest k=>decide (k∈ns)
 | _=>false
theorem agIn_no {p:Pt} (h:¬ wdP p = "again") (ns:List Int):agIn ns p = false:=by cases p <;> first | rfl | exact absurd rfl h
theorem restIn_no {p:Pt} (h:¬ wdP p = "rest") (ns:List Int):restIn ns p = false:=by cases p <;> first | rfl | exact absurd rfl h
theorem if_pure {t:TT} {a u:TS} {D:Ends} {σ:St} {H:Hp} (b:Bool) (h:∀ N:Bool→Hp→Prop,N b H→t σ H N) (ka:b = true→a { D with nx:=u D } σ H) (kb:b = false→u D σ H):tSeq (tIfS t a tNext) u D σ H :=
 h _ (by
  cases b with
  | true=>exact iteT (ka rfl)
  | false=>exact iteF (kb rfl))
theorem beg_leaf {p:Pt} (h:isLf p = true) (th th':List Int):beg th p = beg th' p:=by cases p <;> first | rfl | cases h
theorem lf_code {p:Pt} (h:isLf p = true) (n1:¬ wdP p = "exit") (n2:¬ wdP p = "rest") (n3:¬ wdP p = "stay"):(beg [] p).1 = 0:=by cases p <;> first | rfl | exact absurd rfl n1 | exact absurd rfl n2 | exact absurd rfl n3 | cases h
theorem lf_left {p:Pt} (h:isLf p = true) (n1:¬ wdP p = "rest") (n2:¬ wdP p = "stay"):(beg [] p).2.2 = []:=by cases p <;> first | rfl | exact absurd rfl n1 | exact absurd rfl n2 | cases h
theorem lf_sent {p:Pt} (h:isLf p = true) (n1:¬ wdP p = "send"):(beg [] p).2.1 = []:=by cases p <;> first | rfl | exact absurd rfl n1 | cases h
def spLeafC (K:PySem.W.Frag):Sp:=fun vs H Q _=>∃ v p,vs = [v]∧PAt K H (Pt.nd p) v∧isLf p = true∧Q (.int (beg [] p).1) H
def spAgC:Sp:=fun vs H Q _=>∃ c:Int,vs = [.int c]∧Q (.int (agC c)) H
def spTrC:Sp:=fun vs H Q _=>∃ c:Int,vs = [.int c]∧Q (.int (trapC c)) H
def spLP (K:PySem.W.Frag):Sp:=fun vs H Q _=>∃ v p t1 t2 a b,vs = [v,.ref t1,.ref t2]∧PAt K H (Pt.nd p) v∧isPr p = true∧RemAt K H t1 a∧RemAt K H t2 b∧∀ v' H',Same H H'→PAt K H' (lp p a b).nd v'→Q v' H'
def spLR (K:PySem.W.Frag):Sp:=fun vs H Q _=>∃ v p t a,vs = [v,.ref t]∧PAt K H (Pt.nd p) v∧isRd p = true∧RemAt K H t a∧∀ v' H',Same H H'→PAt K H' (lr p a).nd v'→Q v' H'
def spRem (K:PySem.W.Frag) (n:Nat):Sp:=fun vs H Q _=>∃ v p st ns,vs = [v,.ref st]∧PAt K H (Pt.nd p) v∧SqL K H st ((ns:List Int).map V.int)∧p.hg≤n∧p.rc≤900∧∀ t H',Same H H'→RemAt K H' t (rem ns p)→Q (.ref t) H'
def StAt (K:PySem.W.Frag) (H:Hp):Option (List Int)→V→Prop
 | none,v=>v = .non
 | some ns,v=>∃ a,v = .ref a∧SqL K H a (ns.map V.int)
def spPtb (K:PySem.W.Frag) (n:Nat):Sp:=fun vs H Q _=>∃ v p sv st,vs = [v,sv]∧PAt K H (Pt.nd p) v∧StAt K H st sv∧(st = none∨(p.hg≤n∧p.rc≤900))∧∀ v' H',Same H H'→PAt K H' (pb p st).nd v'→Q v' H'
section
variable {P:Program} {w:World} {K:PySem.W.Frag} {mg:Str→Option Value} {base:Heap} {aN aP aR:Addr} {uE uR uL:Value}
theorem ok_leafCode (F:FunM K mg "leaf_code" ["part"] s_leaf_code) (T:TxtR K mg aN aP aR uE uR uL):Callee P w K mg base 1 "leaf_code" ["part"] (spLeafC K):=by
 refine F.ok sc_leaf_code (fun vs H Q E h=>?_) (fun f cdv A outer s H vs Q E hr h=>?_)
 ·obtain ⟨v,p,rfl,_⟩:=h; rfl
 obtain ⟨v,p,rfl,hp,lf,q⟩:=h
 refine ⟨_,(pss_cons (ps_if (pt_cmpR op_eq (pe_ix ix_tup (pv 0) pe_int (fun _ _=>rfl)) pe_str (nomark _))
   (pss_one (ps_ret (pe_op op_add (pe_glob rfl T.m_LEAVES T.r_LEAVES) (pe_ix ix_tup (pv 0) pe_int (fun _ _=>rfl)))))
   pss_nil)
  (pss_cons (ps_if (PW.pt (pw_or (pt_cmpR op_eq (pe_ix ix_tup (pv 0) pe_int (fun _ _=>rfl)) pe_str (nomark _)) (pw_or1 (pt_cmpR op_eq (pe_ix ix_tup (pv 0) pe_int (fun _ _=>rfl)) pe_str (nomark _)))))
   (pss_one (ps_ret (pe_glob rfl T.m_RESTS T.r_RESTS)))
   pss_nil)
  (pss_one (ps_ret (pe_glob rfl T.m_ENDED T.r_ENDED))))),?_⟩
 obtain ⟨a,vs,rfl,hs⟩:=wd_at hp
 refine ⟨_,rfl,a,_,_,_,rfl,rfl,hs.sq,atI_nat (j:=0) rfl,rfl,_,rfl,iteW (fun e=>?_) fun n1=>⟨_,rfl,a,_,_,_,rfl,rfl,hs.sq,atI_nat (j:=0) rfl,rfl,_,rfl,iteW (fun e=>iteT ?_) fun n2=>⟨_,rfl,a,_,_,_,rfl,rfl,hs.sq,atI_nat (j:=0) rfl,rfl,_,rfl,iteW (fun e=>?_) fun n3=>?_⟩⟩⟩
 ·obtain ⟨x,rfl⟩:=wd_exit e
  obtain ⟨a',vs',ev,hs,hx⟩:=PAt.get hp
  cases ev
  obtain ⟨x0,x1,rfl,h0,h1⟩:=hx.two
  cases h0.str
  cases h1.int
  exact ⟨_,rfl,a,_,_,_,rfl,rfl,hs.sq,atI_nat (j:=1) rfl,_,_,rfl,rfl,q⟩
 ·obtain ⟨x,rfl⟩:=wd_rest e
  exact q
 ·obtain ⟨x,rfl⟩:=wd_stay e
  exact q
 ·rw [lf_code lf n1 n2 n3] at q
  exact q
theorem ok_agC (F:FunM K mg "code_of_again" ["code"] s_code_of_again) (T:TxtR K mg aN aP aR uE uR uL):Callee P w K mg base 1 "code_of_again" ["code"] spAgC:=by
 refine F.ok sc_code_of_again (fun vs H Q E h=>?_) (fun f cdv A outer s H vs Q E hr h=>?_)
 ·obtain ⟨c,rfl,_⟩:=h; rfl
 obtain ⟨c,rfl,q⟩:=h
 refine ⟨_,(pss_one (ps_ret (pe_ifExp (pt_cmpR op_eq (pv 0) (pe_glob rfl T.m_ENDED T.r_ENDED) (nomark _)) (pe_glob rfl T.m_RESTS T.r_RESTS) (pv 0)))),?_⟩
 unfold agC at q
 refine ⟨_,rfl,rfl,_,rfl,iteI (fun c=>?_) fun c=>?_⟩
 ·rw [if_pos c] at q; exact q
 ·rw [if_neg c] at q; exact ⟨_,rfl,q⟩
theorem ok_trC (F:FunM K mg "code_of_trap" ["code"] s_code_of_trap) (T:TxtR K mg aN aP aR uE uR uL):Callee P w K mg base 1 "code_of_trap" ["code"] spTrC:=by
 refine F.ok sc_code_of_trap (fun vs H Q E h=>?_) (fun f cdv A outer s H vs Q E hr h=>?_)
 ·obtain ⟨c,rfl,_⟩:=h; rfl
 obtain ⟨c,rfl,q⟩:=h
 refine ⟨_,(pss_cons (ps_if (pt_cmpR op_eq (pv 0) (pe_glob rfl T.m_LEAVES T.r_LEAVES) (nomark _))
   (pss_one (ps_ret (pe_glob rfl T.m_ENDED T.r_ENDED)))
   pss_nil)
  (pss_one (ps_ret (pe_ifExp (pt_cmpR op_gt (pv 0) (pe_glob rfl T.m_LEAVES T.r_LEAVES) (nomark _)) (pe_op op_sub (pv 0) pe_int) (pv 0))))),?_⟩
 unfold trapC at q
 refine ⟨_,rfl,rfl,_,rfl,iteI (fun c=>?_) fun c=>?_⟩
 ·rw [if_pos c] at q; exact q
 ·rw [if_neg c] at q
  refine ⟨_,rfl,_,_,rfl,rfl,_,rfl,ite2 (fun c=>?_) fun c=>?_⟩
  ·rw [if_pos (of_decide_eq_true c)] at q; exact ⟨_,rfl,_,_,rfl,rfl,q⟩
  ·rw [if_neg (fun z=>c (decide_eq_true z))] at q; exact ⟨_,rfl,q⟩
set_option maxHeartbeats 16000000 in
theorem ok_LP (F:FunM K mg "left_of_pair" ["part", "first", "second"] s_left_of_pair) (T:TxtR K mg aN aP aR uE uR uL):Callee P w K mg base 1 "left_of_pair" ["part", "first", "second"] (spLP K):=by
 refine F.ok sc_left_of_pair (fun vs H Q E h=>?_) (fun f cdv A outer s H vs Q E hr h=>?_)
 ·obtain ⟨v,p,t1,t2,a,b,rfl,_⟩:=h; rfl
 obtain ⟨v,p,t1,t2,ra,rb,rfl,hp,pr,⟨l1,v1,a1,a2,a3⟩,⟨l2,v2,b1,b2,b3⟩,q⟩:=h
 refine ⟨_,(pss_cons (ps_if (pt_cmpR op_eq (pe_ix ix_tup (pv 0) pe_int (fun _ _=>rfl)) pe_str (nomark _))
   (pss_one (ps_ret (pe_ifExp (pt_truth (pe_ix ix_tup (pv 2) pe_int (fun _ _=>rfl)) (fun _=>rfl)) (pe_ix ix_tup (pv 2) pe_int (fun _ _=>rfl)) (pe_tup (pa_cons pe_str (pa_cons (pe_ix ix_tup (pv 1) pe_int (fun _ _=>rfl)) (pa_cons (pe_ix ix_tup (pv 0) pe_int (fun _ _=>rfl)) pa_nil)))))))
   pss_nil)
  (pss_cons (ps_if (PW.pt (pw_and (pt_cmpR op_eq (pe_ix ix_tup (pv 0) pe_int (fun _ _=>rfl)) pe_str (nomark _)) (pw_and (pt_truth (pe_ix ix_tup (pv 1) pe_int (fun _ _=>rfl)) (fun _=>rfl)) (pw_and1 (pt_truth (pe_ix ix_tup (pv 2) pe_int (fun _ _=>rfl)) (fun _=>rfl))))))
   (pss_one (ps_ret (pe_tup (pa_cons pe_str (pa_cons (pe_ix ix_tup (pv 1) pe_int (fun _ _=>rfl)) (pa_cons (pe_ix ix_tup (pv 2) pe_int (fun _ _=>rfl)) pa_nil))))))
   pss_nil)
  (pss_cons (ps_if (pt_truth (pe_ix ix_tup (pv 1) pe_int (fun _ _=>rfl)) (fun _=>rfl))
   (pss_one (ps_ret (pe_ix ix_tup (pv 1) pe_int (fun _ _=>rfl))))
   pss_nil)
  (pss_one (ps_ret (pe_ifExp (pt_truth (pe_ix ix_tup (pv 2) pe_int (fun _ _=>rfl)) (fun _=>rfl)) (pe_ix ix_tup (pv 2) pe_int (fun _ _=>rfl)) (pv 0))))))),?_⟩
 cases p with
 | thn p1 p2 =>
  obtain ⟨a,vs,rfl,hs,hx⟩:=PAt.get hp
  obtain ⟨x0,x1,x2,rfl,h0,h1,h2⟩:=hx.three
  cases h0.str
  refine ⟨_,rfl,a,_,_,_,rfl,rfl,hs.sq,atI_nat (j:=0) rfl,rfl,_,rfl,iteEq ⟨_,rfl,t2,_,_,_,rfl,rfl,SqT.of b1,atI_nat (j:=0) rfl,_,.inl ⟨_,SqL.of b2,rfl⟩,iteE (fun c=>?_) fun c=>?_⟩⟩
  ·exact ⟨_,rfl,t2,_,_,_,rfl,rfl,SqT.of b1,atI_nat (j:=1) rfl,q _ _ (Same.refl _) (by unfold lp; dsimp only; rw [if_neg c]; exact b3)⟩
  ·refine ⟨_,rfl,t1,_,_,_,rfl,rfl,SqT.of a1,atI_nat (j:=1) rfl,_,rfl,a,_,_,_,rfl,rfl,hs.sq,atI_nat (j:=2) rfl,(by show 3≤sizeLine; decide),fun t ht=>?_⟩
   have g:=same_new ht (.tup [V.str "then", v1,x2])
   exact q _ _ g (by unfold lp; dsimp only; rw [if_pos c]; exact .t (.inl upd_same) (.cons .s (.cons (a3.mono g.tp) (.cons (h2.mono g.tp) .nil))))
 | bes p1 p2 =>
  obtain ⟨a,vs,rfl,hs,hx⟩:=PAt.get hp
  obtain ⟨x0,x1,x2,rfl,h0,h1,h2⟩:=hx.three
  cases h0.str
  have last:∀ (c:ra.1 = []∨rb.1 = []),lp (.bes p1 p2) ra rb = (if ¬ ra.1 = [] then ra.2 else if ¬ rb.1 = [] then rb.2 else .bes p1 p2):=fun c=>by
   unfold lp
   dsimp only
   rw [if_neg (fun z=>c.elim z.1 z.2)]
  refine ⟨_,rfl,a,_,_,_,rfl,rfl,hs.sq,atI_nat (j:=0) rfl,rfl,_,rfl,iteNe (by decide +kernel) ⟨_,rfl,a,_,_,_,rfl,rfl,hs.sq,atI_nat (j:=0) rfl,rfl,_,rfl,iteEq ⟨_,rfl,t1,_,_,_,rfl,rfl,SqT.of a1,atI_nat (j:=0) rfl,_,.inl ⟨_,SqL.of a2,rfl⟩,iteE (fun c1=>?_) fun c1=>?_⟩⟩⟩
  ·refine ⟨_,rfl,t2,_,_,_,rfl,rfl,SqT.of b1,atI_nat (j:=0) rfl,_,.inl ⟨_,SqL.of b2,rfl⟩,iteE (fun c2=>?_) fun c2=>?_⟩
   ·refine ⟨_,rfl,t1,_,_,_,rfl,rfl,SqT.of a1,atI_nat (j:=1) rfl,_,rfl,t2,_,_,_,rfl,rfl,SqT.of b1,atI_nat (j:=1) rfl,(by show 3≤sizeLine; decide),fun t ht=>?_⟩
    have g:=same_new ht (.tup [V.str "beside", v1,v2])
    exact q _ _ g (by unfold lp; dsimp only; rw [if_pos ⟨c1,c2⟩]; exact .t (.inl upd_same) (.cons .s (.cons (a3.mono g.tp) (.cons (b3.mono g.tp) .nil))))
   ·refine ⟨_,rfl,t1,_,_,_,rfl,rfl,SqT.of a1,atI_nat (j:=0) rfl,_,.inl ⟨_,SqL.of a2,rfl⟩,iteE (fun _=>?_) fun z=>absurd z c1⟩
    exact ⟨_,rfl,t1,_,_,_,rfl,rfl,SqT.of a1,atI_nat (j:=1) rfl,q _ _ (Same.refl _) (by rw [last (.inr c2),if_pos c1]; exact a3)⟩
  ·refine iteF ⟨_,rfl,t1,_,_,_,rfl,rfl,SqT.of a1,atI_nat (j:=0) rfl,_,.inl ⟨_,SqL.of a2,rfl⟩,iteE (fun z=>absurd c1 z) fun _=>⟨_,rfl,t2,_,_,_,rfl,rfl,SqT.of b1,atI_nat (j:=0) rfl,_,.inl ⟨_,SqL.of b2,rfl⟩,iteE (fun c2=>?_) fun c2=>?_⟩⟩
   ·exact ⟨_,rfl,t2,_,_,_,rfl,rfl,SqT.of b1,atI_nat (j:=1) rfl,q _ _ (Same.refl _) (by rw [last (.inl c1),if_neg (fun z=>z c1),if_pos c2]; exact b3)⟩
   ·exact ⟨_,rfl,q _ _ (Same.refl _) (by rw [last (.inl c1),if_neg (fun z=>z c1),if_neg (fun z=>z c2)]; exact hp)⟩
 | iff s p1 p2 =>
  obtain ⟨a,vs,rfl,hs,hx⟩:=PAt.get hp
  obtain ⟨x0,x1,x2,x3,rfl,h0,h1,h2,h3⟩:=hx.four
  cases h0.str
  cases h1.int
  refine ⟨_,rfl,a,_,_,_,rfl,rfl,hs.sq,atI_nat (j:=0) rfl,rfl,_,rfl,iteNe (by decide +kernel) ⟨_,rfl,a,_,_,_,rfl,rfl,hs.sq,atI_nat (j:=0) rfl,rfl,_,rfl,iteNe (by decide +kernel) (iteF ⟨_,rfl,t1,_,_,_,rfl,rfl,SqT.of a1,atI_nat (j:=0) rfl,_,.inl ⟨_,SqL.of a2,rfl⟩,iteE (fun c1=>?_) fun c1=>⟨_,rfl,t2,_,_,_,rfl,rfl,SqT.of b1,atI_nat (j:=0) rfl,_,.inl ⟨_,SqL.of b2,rfl⟩,iteE (fun c2=>?_) fun c2=>?_⟩⟩)⟩⟩
  ·exact ⟨_,rfl,t1,_,_,_,rfl,rfl,SqT.of a1,atI_nat (j:=1) rfl,q _ _ (Same.refl _) (by unfold lp; dsimp only; rw [if_pos c1]; exact a3)⟩
  ·exact ⟨_,rfl,t2,_,_,_,rfl,rfl,SqT.of b1,atI_nat (j:=1) rfl,q _ _ (Same.refl _) (by unfold lp; dsimp only; rw [if_neg (fun z=>z c1),if_pos c2]; exact b3)⟩
  ·exact ⟨_,rfl,q _ _ (Same.refl _) (by unfold lp; dsimp only; rw [if_neg (fun z=>z c1),if_neg (fun z=>z c2)]; exact hp)⟩
 | _=>cases pr
set_option maxHeartbeats 16000000 in
theorem ok_LR (F:FunM K mg "left_of_round" ["part", "inner"] s_left_of_round) (T:TxtR K mg aN aP aR uE uR uL):Callee P w K mg base 1 "left_of_round" ["part", "inner"] (spLR K):=by
 refine F.ok sc_left_of_round (fun vs H Q E h=>?_) (fun f cdv A outer s H vs Q E hr h=>?_)
 ·obtain ⟨v,p,t1,a,rfl,_⟩:=h; rfl
 obtain ⟨v,p,t1,ra,rfl,hp,rd,⟨l1,v1,a1,a2,a3⟩,q⟩:=h
 refine ⟨_,(pss_cons (ps_if (pt_not (pt_truth (pe_ix ix_tup (pv 1) pe_int (fun _ _=>rfl)) (fun _=>rfl)))
   (pss_one (ps_ret (pv 0)))
   pss_nil)
  (pss_cons (ps_if (pt_cmpR op_eq (pe_ix ix_tup (pv 0) pe_int (fun _ _=>rfl)) pe_str (nomark _))
   (pss_one (ps_ret (pe_tup (pa_cons pe_str (pa_cons (pe_ix ix_tup (pv 0) pe_int (fun _ _=>rfl)) (pa_cons (pe_ix ix_tup (pv 1) pe_int (fun _ _=>rfl)) pa_nil))))))
   pss_nil)
  (pss_cons (ps_if (pt_cmpR op_eq (pe_ix ix_tup (pv 0) pe_int (fun _ _=>rfl)) pe_str (nomark _))
   (pss_one (ps_ret (pe_tup (pa_cons pe_str (pa_cons (pe_ix ix_tup (pv 1) pe_int (fun _ _=>rfl)) pa_nil)))))
   pss_nil)
  (pss_cons (ps_set (i:=2) sc_left_of_round.nd rfl (Or.inl rfl) (pe_ifExp (pt_cmpR op_eq (pe_ix ix_tup (pv 0) pe_int (fun _ _=>rfl)) pe_str (nomark _)) (pe_tup (pa_cons pe_str (pa_cons (pe_callTy call_tuple_of rfl T.n_tuple (by decide +kernel) (pa_cons (pe_ix ix_tup (pv 1) pe_int (fun _ _=>rfl)) pa_nil)) pa_nil))) (pe_glob rfl T.m_NOTHING T.r_NOTHING)))
  (pss_one (ps_ret (pe_tup (pa_cons pe_str (pa_cons (pe_ix ix_tup (pv 0) pe_int (fun _ _=>rfl)) (pa_cons (pv 2) (pa_cons (pe_ix ix_tup (pv 1) pe_int (fun _ _=>rfl)) pa_nil))))))))))),?_⟩
 have none:ra.1 = []→lr p ra = p:=fun c=>by unfold lr; rw [if_pos c]
 have nt:∀ {A B:Prop},(¬ ra.1 = []→B)→(ra.1 = []→A)→if (!!(ra.1.map V.int).isEmpty) = true then A else B:=fun {A B} h1 h2=>by
  cases e:ra.1 with
  | nil=>exact h2 e
  | cons x r=>exact h1 (by rw [e]; simp)
 refine ⟨_,rfl,t1,_,_,_,rfl,rfl,SqT.of a1,atI_nat (j:=0) rfl,_,.inl ⟨_,SqL.of a2,rfl⟩,nt (fun c=>?_) fun c=>⟨_,rfl,q _ _ (Same.refl _) (by rw [none c]; exact hp)⟩⟩
 cases p with
 | again k p1 =>
  obtain ⟨a,vs,rfl,hs,hx⟩:=PAt.get hp
  obtain ⟨x0,x1,x2,rfl,h0,h1,h2⟩:=hx.three
  cases h0.str
  cases h1.int
  refine ⟨_,rfl,a,_,_,_,rfl,rfl,hs.sq,atI_nat (j:=0) rfl,rfl,_,rfl,iteEq ⟨_,rfl,a,_,_,_,rfl,rfl,hs.sq,atI_nat (j:=1) rfl,_,rfl,t1,_,_,_,rfl,rfl,SqT.of a1,atI_nat (j:=1) rfl,(by show 3≤sizeLine; decide),fun t ht=>?_⟩⟩
  have g:=same_new ht (.tup [V.str "again", .int k,v1])
  exact q _ _ g (by unfold lr; rw [if_neg c]; exact .t (.inl upd_same) (.cons .s (.cons .i (.cons (a3.mono g.tp) .nil))))
 | trap p1 =>
  obtain ⟨a,vs,rfl,hs,hx⟩:=PAt.get hp
  obtain ⟨x0,x1,rfl,h0,h1⟩:=hx.two
  cases h0.str
  refine ⟨_,rfl,a,_,_,_,rfl,rfl,hs.sq,atI_nat (j:=0) rfl,rfl,_,rfl,iteNe (by decide +kernel) ⟨_,rfl,a,_,_,_,rfl,rfl,hs.sq,atI_nat (j:=0) rfl,rfl,_,rfl,iteEq ⟨_,rfl,t1,_,_,_,rfl,rfl,SqT.of a1,atI_nat (j:=1) rfl,(by show 2≤sizeLine; decide),fun t ht=>?_⟩⟩⟩
  have g:=same_new ht (.tup [V.str "trap", v1])
  exact q _ _ g (by unfold lr; rw [if_neg c]; exact .t (.inl upd_same) (.cons .s (.cons (a3.mono g.tp) .nil)))
 | hold s p1 =>
  obtain ⟨a,vs,rfl,hs,hx⟩:=PAt.get hp
  obtain ⟨x0,x1,x2,rfl,h0,h1,h2⟩:=hx.three
  cases h0.str
  cases h1.int
  refine ⟨_,rfl,a,_,_,_,rfl,rfl,hs.sq,atI_nat (j:=0) rfl,rfl,_,rfl,iteNe (by decide +kernel) ⟨_,rfl,a,_,_,_,rfl,rfl,hs.sq,atI_nat (j:=0) rfl,rfl,_,rfl,iteNe (by decide +kernel) ⟨_,rfl,a,_,_,_,rfl,rfl,hs.sq,atI_nat (j:=0) rfl,rfl,_,rfl,iteEq ⟨_,rfl,t1,_,_,_,rfl,rfl,SqT.of a1,atI_nat (j:=0) rfl,l1,_,rfl,.inl ⟨SqL.of a2,fun t0 ht0=>⟨(by show 2≤sizeLine; decide),fun t2 ht2=>?_⟩⟩⟩⟩⟩⟩
  obtain ⟨g0,n1,n2⟩:=new2 (b:=.tup [V.str "stay", .ref t0]) ht0 ht2
  refine ⟨_,rfl,a,_,_,_,rfl,rfl,(hs.mono g0.tp).sq,atI_nat (j:=1) rfl,_,rfl,_,rfl,t1,_,_,_,rfl,rfl,SqT.of (g0 _ _ a1),atI_nat (j:=1) rfl,(by show 4≤sizeLine; decide),fun t ht=>?_⟩
  have g:=same_new ht (.tup [V.str "if", .int s,.ref t2,v1])
  exact q _ _ (g0.trans g) (by unfold lr; rw [if_neg c]; exact .t (.inl upd_same) (.cons .s (.cons .i (.cons (.t (.inl (g _ _ n2)) (.cons .s (.cons (.t (.inl (g _ _ n1)) (patL_ints _)) .nil))) (.cons (a3.mono (g0.trans g).tp) .nil)))))
 | watch s p1 =>
  obtain ⟨a,vs,rfl,hs,hx⟩:=PAt.get hp
  obtain ⟨x0,x1,x2,rfl,h0,h1,h2⟩:=hx.three
  cases h0.str
  cases h1.int
  refine ⟨_,rfl,a,_,_,_,rfl,rfl,hs.sq,atI_nat (j:=0) rfl,rfl,_,rfl,iteNe (by decide +kernel) ⟨_,rfl,a,_,_,_,rfl,rfl,hs.sq,atI_nat (j:=0) rfl,rfl,_,rfl,iteNe (by decide +kernel) ⟨_,rfl,a,_,_,_,rfl,rfl,hs.sq,atI_nat (j:=0) rfl,rfl,_,rfl,iteNe (by decide +kernel) ?_⟩⟩⟩
  refine ⟨_,rfl,a,_,_,_,rfl,rfl,hs.sq,atI_nat (j:=1) rfl,_,rfl,_,rfl,t1,_,_,_,rfl,rfl,SqT.of a1,atI_nat (j:=1) rfl,(by show 4≤sizeLine; decide),fun t ht=>?_⟩
  have g:=same_new ht (.tup [V.str "if", .int s,.ref aN,v1])
  exact q _ _ g (by unfold lr; rw [if_neg c]; exact .t (.inl upd_same) (.cons .s (.cons .i (.cons (.t (.inr T.mN) (.cons .s .nil)) (.cons (a3.mono g.tp) .nil)))))
 | _=>cases rd
set_option maxHeartbeats 64000000 in
theorem ok_rem {n:Nat} (F:FunM K mg "remaining" ["part", "state"] s_remaining) (T:TxtR K mg aN aP aR uE uR uL) (C_left_of_pair:Callee P w K mg base 1 "left_of_pair" ["part", "first", "second"] (spLP K)) (C_left_of_round:Callee P w K mg base 1 "left_of_round" ["part", "inner"] (spLR K))
  (C_remaining:Callee P w K mg base (n + 2) "remaining" ["part", "state"] (spRem K n)):Callee P w K mg base (n + 3) "remaining" ["part", "state"] (spRem K (n + 1)):=by
 refine F.ok sc_remaining (fun vs H Q E h=>?_) (fun f cdv A outer s H vs Q E hr h=>?_)
 ·obtain ⟨v,p,st,ns,rfl,_⟩:=h; rfl
 obtain ⟨v,p,st,ns,rfl,hp,hS,hh,hc,q⟩:=h
 refine ⟨_,(pss_cons (ps_if (pt_cmpR op_in_seq (pe_ix ix_tup (pv 0) pe_int (fun _ _=>rfl)) (pe_glob rfl T.m_PAIRS T.r_PAIRS) (by rfl))
   (pss_cons (ps_set (i:=2) sc_remaining.nd rfl (Or.inl rfl) (pe_callC C_remaining hr rfl pass0 (pa_cons (pe_ix ix_tup (pv 0) (pe_un un_neg pe_int) (fun _ _=>rfl)) (pa_cons (pv 1) pa_nil))))
  (pss_cons (ps_set (i:=3) sc_remaining.nd rfl (Or.inl rfl) (pe_callC C_remaining hr rfl pass0 (pa_cons (pe_ix ix_tup (pv 0) (pe_un un_neg pe_int) (fun _ _=>rfl)) (pa_cons (pv 1) pa_nil))))
  (pss_one (ps_ret (pe_tup (pa_cons (pe_op op_cat (pe_ix ix_tup (pv 2) pe_int (fun _ _=>rfl)) (pe_ix ix_tup (pv 3) pe_int (fun _ _=>rfl))) (pa_cons (pe_callC C_left_of_pair hr rfl pass0 (pa_cons (pv 0) (pa_cons (pv 2) (pa_cons (pv 3) pa_nil)))) pa_nil)))))))
   pss_nil)
  (pss_cons (ps_if (pt_cmpR op_in_seq (pe_ix ix_tup (pv 0) pe_int (fun _ _=>rfl)) (pe_glob rfl T.m_ROUND T.r_ROUND) (by rfl))
   (pss_cons (ps_set (i:=4) sc_remaining.nd rfl (Or.inl rfl) (pe_callC C_remaining hr rfl pass0 (pa_cons (pe_ix ix_tup (pv 0) (pe_un un_neg pe_int) (fun _ _=>rfl)) (pa_cons (pv 1) pa_nil))))
  (pss_cons (ps_if (PW.pt (pw_and (pt_cmpR op_eq (pe_ix ix_tup (pv 0) pe_int (fun _ _=>rfl)) pe_str (nomark _)) (pw_and1 (pt_cmpR op_in_seq (pe_ix ix_tup (pv 0) pe_int (fun _ _=>rfl)) (pv 1) (by rfl)))))
   (pss_one (ps_ret (pe_tup (pa_cons (pe_op op_cat (pe_lst (pa_cons (pe_ix ix_tup (pv 0) pe_int (fun _ _=>rfl)) pa_nil)) (pe_ix ix_tup (pv 4) pe_int (fun _ _=>rfl))) (pa_cons (pv 0) pa_nil)))))
   pss_nil)
  (pss_one (ps_ret (pe_tup (pa_cons (pe_ix ix_tup (pv 4) pe_int (fun _ _=>rfl)) (pa_cons (pe_callC C_left_of_round hr rfl pass0 (pa_cons (pv 0) (pa_cons (pv 4) pa_nil))) pa_nil)))))))
   pss_nil)
  (pss_cons (ps_if (PW.pt (pw_and (pt_cmpR op_eq (pe_ix ix_tup (pv 0) pe_int (fun _ _=>rfl)) pe_str (nomark _)) (pw_and1 (pt_cmpR op_in_seq (pe_ix ix_tup (pv 0) pe_int (fun _ _=>rfl)) (pv 1) (by rfl)))))
   (pss_one (ps_ret (pe_tup (pa_cons (pe_lst (pa_cons (pe_ix ix_tup (pv 0) pe_int (fun _ _=>rfl)) pa_nil)) (pa_cons (pe_glob rfl T.m_NOTHING T.r_NOTHING) pa_nil)))))
   pss_nil)
  (pss_one (ps_ret (pe_tup (pa_cons (pe_lst pa_nil) (pa_cons (pv 0) pa_nil)))))))),?_⟩
 obtain ⟨a,vs,rfl,hs⟩:=wd_at hp
 refine ⟨_,rfl,a,_,_,_,rfl,rfl,hs.sq,atI_nat (j:=0) rfl,aP,_,rfl,.inr (.inr T.mP),rfl,rfl,_,rfl,in_pr (fun z=>?_) fun z1=>⟨_,rfl,a,_,_,_,rfl,rfl,hs.sq,atI_nat (j:=0) rfl,aR,_,rfl,.inr (.inr T.mR),rfl,rfl,_,rfl,in_rd (fun z=>?_) fun z2=>?_⟩⟩
 ·obtain ⟨a',vs',x1,x2,p1,p2,ev,hs,i1,i2,h1,h2,c1,c2,hc,er⟩:=pat_pr hp z hh hc
  cases ev
  have l1:=rem_len ns p1
  have l2:=rem_len ns p2
  rw [er] at q
  refine ⟨_,rfl,_,rfl,a,_,_,_,rfl,rfl,hs.sq,i1,_,rfl,x1,p1,st,ns,rfl,h1,hS,c1,adl hc,fun t1 H1 g1 R1=>?_⟩
  refine ⟨_,rfl,_,rfl,a,_,_,_,rfl,rfl,(hs.mono g1.tp).sq,i2,_,rfl,x2,p2,st,ns,rfl,h2.mono g1.tp,g1.seq hS,c2,adr hc,fun t2 H2 g2 R2=>?_⟩
  have R1':=R1.mono g2
  obtain ⟨l1',v1,a1,a2,a3⟩:=id R1'
  obtain ⟨l2',v2,b1,b2,b3⟩:=id R2
  refine ⟨_,rfl,t1,_,_,_,rfl,rfl,SqT.of a1,atI_nat (j:=0) rfl,_,rfl,t2,_,_,_,rfl,rfl,SqT.of b1,atI_nat (j:=0) rfl,l1',l2',_,_,rfl,rfl,a2,b2,by rw [List.length_map,List.length_map]; exact small (leKn (Nat.le_trans (Nat.add_le_add l1 l2) hc) (by decide)),fun l hl=>?_⟩
  have g3:=same_new hl (.lst (((rem ns p1).1.map V.int) ++ ((rem ns p2).1.map V.int)))
  refine ⟨_,rfl,_,rfl,_,rfl,_,p,t1,t2,_,_,rfl,hp.mono ((g1.trans g2).trans g3).tp,z,R1'.mono g3,R2.mono g3,fun v' H4 g4 P4=>⟨(by show 2≤sizeLine; decide),fun t ht=>?_⟩⟩
  have g5:=same_new ht (.tup [.ref l,v'])
  refine q _ _ ((((g1.trans g2).trans g3).trans g4).trans g5) ⟨l,v',upd_same,?_,P4.mono g5.tp⟩
  rw [g5 _ _ (g4 _ _ upd_same)]
  show some (HO.lst ((rem ns p1).1.map V.int ++ (rem ns p2).1.map V.int)) = some (HO.lst (((rem ns p1).1 ++ (rem ns p2).1).map V.int))
  rw [List.map_append]
 ·obtain ⟨a',vs',x1,p1,ev,hs,i1,h1,c1,c2,hor⟩:=pat_rd hp z hh hc
  cases ev
  have l1:=rem_len ns p1
  refine ⟨_,rfl,_,rfl,a,_,_,_,rfl,rfl,hs.sq,i1,_,rfl,x1,p1,st,ns,rfl,h1,hS,c1,c2,fun t1 H1 g1 R1=>?_⟩
  have hs1:=hs.mono g1.tp
  obtain ⟨l1',v1,a1,a2,a3⟩:=id R1
  dsimp only [gName]
  refine if_pure (agIn ns p) (fun N fin=>?_) (fun c=>?_) fun c=>?_
  ·rcases hor with ⟨k,rfl,hc',rfl⟩ | ⟨na,_⟩
   ·refine ⟨_,rfl,a,_,_,_,rfl,rfl,hs1.sq,atI_nat (j:=0) rfl,rfl,_,rfl,iteEq ⟨_,rfl,a,_,_,_,rfl,rfl,hs1.sq,atI_nat (j:=1) rfl,_,rfl,st,_,rfl,.inl (g1.seq hS),rfl,flat_ints ns,_,rfl,?_⟩⟩
    rw [if_neg Bool.false_ne_true,inV_ints]
    exact fin
   ·refine ⟨_,rfl,a,_,_,_,rfl,rfl,hs1.sq,atI_nat (j:=0) rfl,rfl,_,rfl,iteNe na ?_⟩
    rw [agIn_no na ns] at fin
    exact fin
  ·rcases hor with ⟨k,rfl,hc',rfl⟩ | ⟨na,_⟩
   ·have c:k∈ns:=of_decide_eq_true c
    refine ⟨_,rfl,a,_,_,_,rfl,rfl,hs1.sq,atI_nat (j:=1) rfl,(by show 1≤sizeLine; decide),fun l0 hl0=>?_⟩
    have g2:=same_new hl0 (.lst [V.int k])
    refine ⟨_,rfl,t1,_,_,_,rfl,rfl,SqT.of (g2 _ _ a1),atI_nat (j:=0) rfl,l0,l1',_,_,rfl,rfl,upd_same,g2 _ _ a2,by rw [List.length_map]; show 1 + _≤sizeLine; exact small (Nat.le_trans (Nat.add_le_add_left (Nat.le_trans l1 c2) 1) (by decide)),fun l hl=>?_⟩
    have g3:=same_new hl (.lst ([V.int k] ++ (rem ns p1).1.map V.int))
    refine ⟨_,rfl,(by show 2≤sizeLine; decide),fun t ht=>?_⟩
    have g5:=same_new ht (.tup [.ref l,.ref a])
    refine q _ _ (((g1.trans g2).trans g3).trans g5) ?_
    rw [show rem ns (.again k p1) = ([k] ++ (rem ns p1).1,.again k p1) from by simp only [rem]; rw [if_pos c]]
    exact ⟨l,_,upd_same,g5 _ _ upd_same,hp.mono (((g1.trans g2).trans g3).trans g5).tp⟩
   ·rw [agIn_no na ns] at c
    cases c
  ·have er:rem ns p = ((rem ns p1).1,lr p (rem ns p1)):=by
    rcases hor with ⟨k,rfl,_,_⟩ | ⟨_,h⟩
    ·simp only [rem]; rw [if_neg (of_decide_eq_false c)]
    ·exact h ns
   rw [er] at q
   refine ⟨_,rfl,t1,_,_,_,rfl,rfl,SqT.of a1,atI_nat (j:=0) rfl,_,rfl,_,rfl,_,p,t1,_,rfl,hp.mono g1.tp,z,R1,fun v' H4 g4 P4=>⟨(by show 2≤sizeLine; decide),fun t ht=>?_⟩⟩
   have g5:=same_new ht (.tup [.ref l1',v'])
   exact q _ _ ((g1.trans g4).trans g5) ⟨l1',v',upd_same,g5 _ _ (g4 _ _ a2),P4.mono g5.tp⟩
 ·dsimp only [tNext]
  refine if_pure (restIn ns p) (fun N fin=>?_) (fun c=>?_) fun c=>?_
  ·by_cases z:wdP p = "rest"
   ·obtain ⟨k,rfl⟩:=wd_rest z
    obtain ⟨a',vs',ev,hs,hx⟩:=PAt.get hp
    cases ev
    obtain ⟨x0,x1,rfl,h0,h1⟩:=hx.two
    cases h0.str
    cases h1.int
    refine ⟨_,rfl,a,_,_,_,rfl,rfl,hs.sq,atI_nat (j:=0) rfl,rfl,_,rfl,iteEq ⟨_,rfl,a,_,_,_,rfl,rfl,hs.sq,atI_nat (j:=1) rfl,_,rfl,st,_,rfl,.inl hS,rfl,flat_ints ns,_,rfl,?_⟩⟩
    rw [if_neg Bool.false_ne_true,inV_ints]
    exact fin
   ·refine ⟨_,rfl,a,_,_,_,rfl,rfl,hs.sq,atI_nat (j:=0) rfl,rfl,_,rfl,iteNe z ?_⟩
    rw [restIn_no z ns] at fin
    exact fin
  ·obtain ⟨k,rfl⟩:∃ k,p = .rest k:=wd_rest (Classical.byContradiction fun z=>by rw [restIn_no z ns] at c; cases c)
   have c:k∈ns:=of_decide_eq_true c
   obtain ⟨a',vs',ev,hs,hx⟩:=PAt.get hp
   cases ev
   obtain ⟨x0,x1,rfl,h0,h1⟩:=hx.two
   cases h0.str
   cases h1.int
   refine ⟨_,rfl,a,_,_,_,rfl,rfl,hs.sq,atI_nat (j:=1) rfl,(by show 1≤sizeLine; decide),fun l hl=>⟨(by show 2≤sizeLine; decide),fun t ht=>?_⟩⟩
   obtain ⟨g,n1,n2⟩:=new2 (b:=.tup [.ref l,.ref aN]) hl ht
   refine q _ _ g ?_
   rw [show rem ns (.rest k) = ([k],.nothing) from by simp only [rem]; rw [if_pos c]]
   exact ⟨l,_,n2,n1,.t (.inr T.mN) (.cons .s .nil)⟩
  ·have er:rem ns p = ([],p):=by
    by_cases z:wdP p = "rest"
    ·obtain ⟨k,rfl⟩:=wd_rest z
     simp only [rem]; rw [if_neg (of_decide_eq_false c)]
    ·exact rem_leaf z1 z2 z ns
   rw [er] at q
   refine ⟨(by show 0≤sizeLine; decide),fun l hl=>⟨_,rfl,(by show 2≤sizeLine; decide),fun t ht=>?_⟩⟩
   obtain ⟨g,n1,n2⟩:=new2 (b:=.tup [.ref l,.ref a]) hl ht
   exact q _ _ g ⟨l,_,n2,n1,hp.mono g.tp⟩
theorem rem_all (F:FunM K mg "remaining" ["part", "state"] s_remaining) (T:TxtR K mg aN aP aR uE uR uL) (CP:Callee P w K mg base 1 "left_of_pair" ["part", "first", "second"] (spLP K)) (CR:Callee P w K mg base 1 "left_of_round" ["part", "inner"] (spLR K)) :
  ∀ n,Callee P w K mg base (n + 2) "remaining" ["part", "state"] (spRem K n)
 | 0=>(F.zero (sp:=spRem K 0) fun vs H Q E h=>by obtain ⟨v,p,st,ns,_,_,_,hh,_⟩:=h; exact absurd hh (Nat.not_le_of_gt (Pt.hg_pos p))).mono (by decide)
 | n + 1=>ok_rem F T CP CR (rem_all F T CP CR n)
theorem ok_ptb {n:Nat} (F:FunM K mg "part_to_begin" ["part", "state"] s_part_to_begin) (T:TxtR K mg aN aP aR uE uR uL) (C_remaining:Callee P w K mg base (n + 2) "remaining" ["part", "state"] (spRem K n)) :
  Callee P w K mg base (n + 3) "part_to_begin" ["part", "state"] (spPtb K n):=by
 refine F.ok sc_part_to_begin (fun vs H Q E h=>?_) (fun f cdv A outer s H vs Q E hr h=>?_)
 ·obtain ⟨v,p,sv,st,rfl,_⟩:=h; rfl
 obtain ⟨v,p,sv,st,rfl,hp,hS,hb,q⟩:=h
 refine ⟨_,(pss_cons (ps_if (pt_cmpR op_isN (pv 1) pe_non (nomark _))
   (pss_one (ps_ret (pv 0)))
   pss_nil)
  (pss_one (ps_ret (pe_ix ix_tup (pe_callC C_remaining hr rfl pass0 (pa_cons (pv 0) (pa_cons (pv 1) pa_nil))) pe_int (fun _ _=>rfl))))),?_⟩
 cases st with
 | none =>
  have e:sv = .non:=hS
  subst e
  exact ⟨_,rfl,rfl,_,rfl,iteT ⟨_,rfl,q _ _ (Same.refl _) hp⟩⟩
 | some ns =>
  obtain ⟨a,rfl,hS⟩:=hS
  obtain ⟨hh,hc⟩:=hb.resolve_left (fun z=>by cases z)
  refine ⟨_,rfl,rfl,_,rfl,iteF ⟨_,rfl,_,rfl,v,p,a,ns,rfl,hp,hS,hh,hc,fun t H1 g1 ⟨l,v1,a1,a2,a3⟩=>?_⟩⟩
  exact ⟨t,_,_,_,rfl,rfl,SqT.of a1,atI_nat (j:=1) rfl,q _ _ g1 a3⟩
end
def DdAt (H:Hp) (t:Addr) (d:Dd):Prop:=∃ l1 l2,H t = some (.tup [.int d.1,.ref l1,.ref l2])∧H l1 = some (.lst (d.2.1.map V.int))∧H l2 = some (.lst (d.2.2.map V.int))
theorem DdAt.mono {H H':Hp} (g:Same H H') {t:Addr} {d:Dd} (h:DdAt H t d):DdAt H' t d:=by
 obtain ⟨l1,l2,h1,h2,h3⟩:=h
 exact ⟨l1,l2,g _ _ h1,g _ _ h2,g _ _ h3⟩
def small9 (d:Dd):Prop:=d.2.1.length≤900∧d.2.2.length≤900
def spRl (K:PySem.W.Frag):Sp:=fun vs H Q _=>∃ v p,vs = [v]∧PAt K H (Pt.nd p) v∧isLf p = true∧p.lc≤900∧∀ l H',Same H H'→H' l = some (.lst ((beg [] p).2.2.map V.int))→Q (.ref l) H'
def spBl (K:PySem.W.Frag):Sp:=fun vs H Q _=>∃ v p,vs = [v]∧PAt K H (Pt.nd p) v∧isLf p = true∧p.lc≤900∧∀ t H',Same H H'→DdAt H' t (beg [] p)→Q (.ref t) H'
def spTurn:Sp:=fun vs H Q _=>∃ t1 t2 a b,vs = [.ref t1,.ref t2]∧DdAt H t1 a∧DdAt H t2 b∧small9 a∧small9 b∧∀ t H',Same H H'→DdAt H' t (turnD a b)→Q (.ref t) H'
def spSide:Sp:=fun vs H Q _=>∃ t1 t2 a b,vs = [.ref t1,.ref t2]∧DdAt H t1 a∧DdAt H t2 b∧small9 a∧small9 b∧∀ t H',Same H H'→DdAt H' t (sideD a b)→Q (.ref t) H'
def spRep:Sp:=fun vs H Q _=>∃ (k:Int) (t1:Addr) (a:Dd),vs = [.int k,.ref t1]∧DdAt H t1 a∧∀ t H',Same H H'→DdAt H' t (repD k a)→Q (.ref t) H'
def spBeg (K:PySem.W.Frag) (n:Nat):Sp:=fun vs H Q _=>∃ v p th ns,vs = [v,.ref th]∧PAt K H (Pt.nd p) v∧SqL K H th ((ns:List Int).map V.int)∧p.hg≤n∧p.sc≤900∧p.lc≤900∧∀ t H',Same H H'→DdAt H' t (beg ns p)→Q (.ref t) H'
theorem sm9 {ns:List Int} {p:Pt} (h1:p.sc≤900) (h2:p.lc≤900):small9 (beg ns p):=⟨Nat.le_trans (beg_len ns p).1 h1,Nat.le_trans (beg_len ns p).2 h2⟩
def RanAt (H H':Hp) (t:Addr) (d:Dd):Prop:=∃ l1 l2,H' t = some (.tup [.int d.1,.ref l1,.ref l2])∧H' l1 = some (.lst (d.2.1.map V.int))∧H' l2 = some (.lst (d.2.2.map V.int))∧H l1 = none∧H l2 = none∧l1≠l2
def spRanG (K:PySem.W.Frag) (n:Nat):Sp:=fun vs H Q _=>∃ v p sv st th ns,vs = [v,sv,.ref th]∧PAt K H (Pt.nd p) v∧StAt K H st sv∧SqL K H th ((ns:List Int).map V.int)∧(st = none∨(p.hg≤n∧p.rc≤900))∧(pb p st).hg≤n∧(pb p st).sc < 64∧(pb p st).lc < 64∧∀ t H',Same H H'→RanAt H H' t (ranD p st ns)→Q (.ref t) H'
theorem pb_bd (p:Pt) (st:Option (List Int)):(pb p st).hg≤p.hg∧(pb p st).sc≤p.sc∧(pb p st).lc≤p.rc:=by
 cases st with
 | none=>exact ⟨Nat.le_refl _,Nat.le_refl _,Pt.lc_rc p⟩
 | some l=>exact ⟨rem_hg l p,rem_sc l p,rem_lc l p⟩
section
variable {P:Program} {w:World} {K:PySem.W.Frag} {mg:Str→Option Value} {base:Heap} {aN aP aR:Addr} {uE uR uL:Value}
theorem ok_rl (F:FunM K mg "rests_left" ["part"] s_rests_left) (T:TxtR K mg aN aP aR uE uR uL):Callee P w K mg base 1 "rests_left" ["part"] (spRl K):=by
 refine F.ok sc_rests_left (fun vs H Q E h=>?_) (fun f cdv A outer s H vs Q E hr h=>?_)
 ·obtain ⟨v,p,rfl,_⟩:=h; rfl
 obtain ⟨v,p,rfl,hp,lf,hc,q⟩:=h
 refine ⟨_,(pss_cons (ps_if (pt_cmpR op_eq (pe_ix ix_tup (pv 0) pe_int (fun _ _=>rfl)) pe_str (nomark _))
   (pss_one (ps_ret (pe_lst (pa_cons (pe_ix ix_tup (pv 0) pe_int (fun _ _=>rfl)) pa_nil))))
   pss_nil)
  (pss_one (ps_ret (pe_ifExp (pt_cmpR op_eq (pe_ix ix_tup (pv 0) pe_int (fun _ _=>rfl)) pe_str (nomark _)) (pe_callTy call_list_of rfl T.n_list (by decide +kernel) (pa_cons (pe_ix ix_tup (pv 0) pe_int (fun _ _=>rfl)) pa_nil)) (pe_lst pa_nil))))),?_⟩
 obtain ⟨a,vs,rfl,hs⟩:=wd_at hp
 refine ⟨_,rfl,a,_,_,_,rfl,rfl,hs.sq,atI_nat (j:=0) rfl,rfl,_,rfl,iteW (fun e=>?_) fun n1=>⟨_,rfl,a,_,_,_,rfl,rfl,hs.sq,atI_nat (j:=0) rfl,rfl,_,rfl,iteW (fun e=>?_) fun n2=>?_⟩⟩
 ·obtain ⟨x,rfl⟩:=wd_rest e
  obtain ⟨a',vs',ev,hs,hx⟩:=PAt.get hp
  cases ev
  obtain ⟨x0,x1,rfl,h0,h1⟩:=hx.two
  cases h0.str
  cases h1.int
  exact ⟨_,rfl,a,_,_,_,rfl,rfl,hs.sq,atI_nat (j:=1) rfl,(by show 1≤sizeLine; decide),fun l hl=>q _ _ (same_new hl _) upd_same⟩
 ·obtain ⟨ks,rfl⟩:=wd_stay e
  obtain ⟨a',vs',ev,hs,hx⟩:=PAt.get hp
  cases ev
  obtain ⟨x0,x1,rfl,h0,h1⟩:=hx.two
  cases h0.str
  obtain ⟨a2,vs2,rfl,hs2,hx2⟩:=PAt.get h1
  cases patL_int hx2
  exact ⟨_,rfl,a,_,_,_,rfl,rfl,hs.sq,atI_nat (j:=1) rfl,a2,_,rfl,.inr hs2.sq,fun l hl=>q _ _ (same_new hl _) upd_same⟩
 ·rw [lf_left lf n1 n2] at q
  exact ⟨(by show 0≤sizeLine; decide),fun l hl=>q _ _ (same_new hl _) upd_same⟩
theorem ok_bl (F:FunA K mg "begun_leaf_instants" "begun_leaf" ["part"] s_begun_leaf_instants) (T:TxtR K mg aN aP aR uE uR uL) (C_leaf_code:Callee P w K mg base 1 "leaf_code" ["part"] (spLeafC K)) (C_rests_left:Callee P w K mg base 1 "rests_left" ["part"] (spRl K)):Callee P w K mg base 2 "begun_leaf_instants" ["part"] (spBl K):=by
 refine F.ok sc_begun_leaf_instants (fun vs H Q E h=>?_) (fun f cdv A outer s H vs Q E hr h=>?_)
 ·obtain ⟨v,p,rfl,_⟩:=h; rfl
 obtain ⟨v,p,rfl,hp,lf,hc,q⟩:=h
 refine ⟨_,(pss_cons (ps_set (i:=1) sc_begun_leaf_instants.nd rfl (Or.inl rfl) (pe_ifExp (pt_cmpR op_eq (pe_ix ix_tup (pv 0) pe_int (fun _ _=>rfl)) pe_str (nomark _)) (pe_lst (pa_cons (pe_ix ix_tup (pv 0) pe_int (fun _ _=>rfl)) pa_nil)) (pe_lst pa_nil)))
  (pss_one (ps_ret (pe_tup (pa_cons (pe_callC C_leaf_code hr rfl pass0 (pa_cons (pv 0) pa_nil)) (pa_cons (pv 1) (pa_cons (pe_callC C_rests_left hr rfl pass0 (pa_cons (pv 0) pa_nil)) pa_nil))))))),?_⟩
 have fin:∀ (l1:Addr) (xs:List V) (hl:H l1 = none) (e:xs = (beg [] p).2.1.map V.int),(tTup (tCons (tCall (spLeafC K) [] E0 (tCons (tVar 0) tNil)) (tCons (tVar 1) (tCons (tCall (spRl K) [] E0 (tCons (tVar 0) tNil)) tNil)))) [some v,some (.ref l1)] (upd H l1 (.lst xs)) Q:=by
  intro l1 xs hl e
  subst e
  have g1:=same_new hl (.lst ((beg [] p).2.1.map V.int))
  refine ⟨_,rfl,v,p,rfl,hp.mono g1.tp,lf,_,rfl,_,rfl,v,p,rfl,hp.mono g1.tp,lf,hc,fun l2 H2 g2 e2=>⟨(by show 3≤sizeLine; decide),fun t ht=>?_⟩⟩
  have g3:=same_new ht (.tup [.int (beg [] p).1,.ref l1,.ref l2])
  exact q _ _ ((g1.trans g2).trans g3) ⟨l1,l2,upd_same,g3 _ _ (g2 _ _ upd_same),g3 _ _ e2⟩
 obtain ⟨a,vs,rfl,hs⟩:=wd_at hp
 refine ⟨_,rfl,a,_,_,_,rfl,rfl,hs.sq,atI_nat (j:=0) rfl,rfl,_,rfl,iteW (fun e=>?_) fun n1=>⟨(by show 0≤sizeLine; decide),fun l hl=>fin l [] hl (by rw [lf_sent lf n1]; rfl)⟩⟩
 obtain ⟨x,rfl⟩:=wd_send e
 obtain ⟨a',vs',ev,hs,hx⟩:=PAt.get hp
 cases ev
 obtain ⟨x0,x1,rfl,h0,h1⟩:=hx.two
 cases h0.str
 cases h1.int
 exact ⟨_,rfl,a,_,_,_,rfl,rfl,hs.sq,atI_nat (j:=1) rfl,(by show 1≤sizeLine; decide),fun l hl=>fin l _ hl rfl⟩
theorem ok_turn (F:FunA K mg "in_turn_instants" "in_turn" ["first", "second"] s_in_turn_instants) (T:TxtR K mg aN aP aR uE uR uL):Callee P w K mg base 1 "in_turn_instants" ["first", "second"] spTurn:=by
 refine F.ok sc_in_turn_instants (fun vs H Q E h=>?_) (fun f cdv A outer s H vs Q E hr h=>?_)
 ·obtain ⟨t1,t2,da,db,rfl,_⟩:=h; rfl
 obtain ⟨t1,t2,da,db,rfl,⟨l1,l2,a1,a2,a3⟩,⟨m1,m2,b1,b2,b3⟩,sa,sb,q⟩:=h
 refine ⟨_,(pss_one (ps_ret (pe_tup (pa_cons (pe_ix ix_tup (pv 1) pe_int (fun _ _=>rfl)) (pa_cons (pe_op op_cat (pe_ix ix_tup (pv 0) pe_int (fun _ _=>rfl)) (pe_ix ix_tup (pv 1) pe_int (fun _ _=>rfl))) (pa_cons (pe_ix ix_tup (pv 1) pe_int (fun _ _=>rfl)) pa_nil)))))),?_⟩
 refine ⟨_,rfl,t2,_,_,_,rfl,rfl,SqT.of b1,atI_nat (j:=0) rfl,_,rfl,t1,_,_,_,rfl,rfl,SqT.of a1,atI_nat (j:=1) rfl,_,rfl,t2,_,_,_,rfl,rfl,SqT.of b1,atI_nat (j:=1) rfl,l1,m1,_,_,rfl,rfl,a2,b2,by rw [List.length_map,List.length_map]; exact Nat.le_trans (Nat.add_le_add sa.1 sb.1) (by decide),fun l hl=>?_⟩
 have g1:=same_new hl (.lst (da.2.1.map V.int ++ db.2.1.map V.int))
 refine ⟨_,rfl,t2,_,_,_,rfl,rfl,SqT.of (g1 _ _ b1),atI_nat (j:=2) rfl,(by show 3≤sizeLine; decide),fun t ht=>?_⟩
 have g2:=same_new ht (.tup [.int db.1,.ref l,.ref m2])
 refine q _ _ (g1.trans g2) ⟨l,m2,upd_same,?_,g2 _ _ (g1 _ _ b3)⟩
 rw [g2 _ _ upd_same]
 show some (HO.lst (da.2.1.map V.int ++ db.2.1.map V.int)) = some (HO.lst ((da.2.1 ++ db.2.1).map V.int))
 rw [List.map_append]
set_option maxHeartbeats 16000000 in
theorem ok_side (F:FunA K mg "side_by_side_instants" "side_by_side" ["first", "second"] s_side_by_side_instants) (T:TxtR K mg aN aP aR uE uR uL):Callee P w K mg base 1 "side_by_side_instants" ["first", "second"] spSide:=by
 refine F.ok sc_side_by_side_instants (fun vs H Q E h=>?_) (fun f cdv A outer s H vs Q E hr h=>?_)
 ·obtain ⟨t1,t2,da,db,rfl,_⟩:=h; rfl
 obtain ⟨t1,t2,da,db,rfl,⟨l1,l2,a1,a2,a3⟩,⟨m1,m2,b1,b2,b3⟩,sa,sb,q⟩:=h
 refine ⟨_,(pss_cons (ps_set (i:=2) sc_side_by_side_instants.nd rfl (Or.inl rfl) (pe_callB (call_max2 rfl) rfl T.n_max (by decide +kernel) (pa_cons (pe_ix ix_tup (pv 0) pe_int (fun _ _=>rfl)) (pa_cons (pe_ix ix_tup (pv 1) pe_int (fun _ _=>rfl)) pa_nil))))
  (pss_cons (ps_set (i:=3) sc_side_by_side_instants.nd rfl (Or.inl rfl) (pe_ifExp (pt_cmpR op_eq (pv 2) (pe_glob rfl T.m_RESTS T.r_RESTS) (nomark _)) (pe_op op_cat (pe_ix ix_tup (pv 0) pe_int (fun _ _=>rfl)) (pe_ix ix_tup (pv 1) pe_int (fun _ _=>rfl))) (pe_lst pa_nil)))
  (pss_one (ps_ret (pe_tup (pa_cons (pv 2) (pa_cons (pe_op op_cat (pe_ix ix_tup (pv 0) pe_int (fun _ _=>rfl)) (pe_ix ix_tup (pv 1) pe_int (fun _ _=>rfl))) (pa_cons (pv 3) pa_nil)))))))),?_⟩
 refine ⟨_,rfl,t1,_,_,_,rfl,rfl,SqT.of a1,atI_nat (j:=0) rfl,_,rfl,t2,_,_,_,rfl,rfl,SqT.of b1,atI_nat (j:=0) rfl,_,_,rfl,?_⟩
 have fin:∀ (l0:Addr) (xs:List Int) (hl:H l0 = none) (e:xs = (sideD da db).2.2),(tTup (tCons (tVar 2) (tCons (tOp rCat (tOp (rIxT K) (tVar 0) (tC (.int 1))) (tOp (rIxT K) (tVar 1) (tC (.int 1)))) (tCons (tVar 3) tNil)))) [some (.ref t1),some (.ref t2),some (.int (sideD da db).1),some (.ref l0)] (upd H l0 (.lst (xs.map V.int))) Q:=by
  intro l0 xs hl e
  subst e
  have g0:=same_new hl (.lst ((sideD da db).2.2.map V.int))
  refine ⟨_,rfl,_,rfl,t1,_,_,_,rfl,rfl,SqT.of (g0 _ _ a1),atI_nat (j:=1) rfl,_,rfl,t2,_,_,_,rfl,rfl,SqT.of (g0 _ _ b1),atI_nat (j:=1) rfl,l1,m1,_,_,rfl,rfl,g0 _ _ a2,g0 _ _ b2,by rw [List.length_map,List.length_map]; exact Nat.le_trans (Nat.add_le_add sa.1 sb.1) (by decide),fun l hl2=>?_⟩
  have g1:=same_new hl2 (.lst (da.2.1.map V.int ++ db.2.1.map V.int))
  refine ⟨_,rfl,(by show 3≤sizeLine; decide),fun t ht=>?_⟩
  have g2:=same_new ht (.tup [.int (sideD da db).1,.ref l,.ref l0])
  refine q _ _ ((g0.trans g1).trans g2) ⟨l,l0,upd_same,?_,g2 _ _ (g1 _ _ upd_same)⟩
  rw [g2 _ _ upd_same]
  show some (HO.lst (da.2.1.map V.int ++ db.2.1.map V.int)) = some (HO.lst ((da.2.1 ++ db.2.1).map V.int))
  rw [List.map_append]
 refine ⟨_,rfl,rfl,_,rfl,iteI (fun c=>?_) fun c=>?_⟩
 ·refine ⟨_,rfl,t1,_,_,_,rfl,rfl,SqT.of a1,atI_nat (j:=2) rfl,_,rfl,t2,_,_,_,rfl,rfl,SqT.of b1,atI_nat (j:=2) rfl,l2,m2,_,_,rfl,rfl,a3,b3,by rw [List.length_map,List.length_map]; exact Nat.le_trans (Nat.add_le_add sa.2 sb.2) (by decide),fun l hl=>?_⟩
  rw [← List.map_append]
  exact fin l _ hl (by unfold sideD; dsimp only; rw [if_pos c])
 ·exact ⟨(by show 0≤sizeLine; decide),fun l hl=>fin l [] hl (by unfold sideD; dsimp only; rw [if_neg c])⟩
theorem ok_rep (F:FunM K mg "repeated" ["rest", "inner"] s_repeated) (T:TxtR K mg aN aP aR uE uR uL) (C_code_of_again:Callee P w K mg base 1 "code_of_again" ["code"] spAgC):Callee P w K mg base 2 "repeated" ["rest", "inner"] spRep:=by
 refine F.ok sc_repeated (fun vs H Q E h=>?_) (fun f cdv A outer s H vs Q E hr h=>?_)
 ·obtain ⟨k,t1,da,rfl,_⟩:=h; rfl
 obtain ⟨k,t1,da,rfl,⟨l1,l2,a1,a2,a3⟩,q⟩:=h
 refine ⟨_,(pss_cons (ps_set (i:=2) sc_repeated.nd rfl (Or.inl rfl) (pe_ifExp (pt_cmpR op_eq (pe_ix ix_tup (pv 1) pe_int (fun _ _=>rfl)) (pe_glob rfl T.m_ENDED T.r_ENDED) (nomark _)) (pe_lst (pa_cons (pv 0) pa_nil)) (pe_ix ix_tup (pv 1) pe_int (fun _ _=>rfl))))
  (pss_one (ps_ret (pe_tup (pa_cons (pe_callC C_code_of_again hr rfl pass0 (pa_cons (pe_ix ix_tup (pv 1) pe_int (fun _ _=>rfl)) pa_nil)) (pa_cons (pe_ix ix_tup (pv 1) pe_int (fun _ _=>rfl)) (pa_cons (pv 2) pa_nil))))))),?_⟩
 refine ⟨_,rfl,t1,_,_,_,rfl,rfl,SqT.of a1,atI_nat (j:=0) rfl,rfl,_,rfl,iteI (fun c=>?_) fun c=>?_⟩
 ·refine ⟨_,rfl,(by show 1≤sizeLine; decide),fun l hl=>?_⟩
  have g0:=same_new hl (.lst [.int k])
  refine ⟨_,rfl,t1,_,_,_,rfl,rfl,SqT.of (g0 _ _ a1),atI_nat (j:=0) rfl,_,rfl,_,rfl,t1,_,_,_,rfl,rfl,SqT.of (g0 _ _ a1),atI_nat (j:=1) rfl,_,rfl,(by show 3≤sizeLine; decide),fun t ht=>?_⟩
  have g2:=same_new ht (.tup [.int (agC da.1),.ref l1,.ref l])
  exact q _ _ (g0.trans g2) ⟨l1,l,upd_same,g2 _ _ (g0 _ _ a2),by rw [show (repD k da).2.2 = [k] from if_pos c]; exact g2 _ _ upd_same⟩
 ·refine ⟨_,rfl,t1,_,_,_,rfl,rfl,SqT.of a1,atI_nat (j:=2) rfl,?_⟩
  refine ⟨_,rfl,t1,_,_,_,rfl,rfl,SqT.of a1,atI_nat (j:=0) rfl,_,rfl,_,rfl,t1,_,_,_,rfl,rfl,SqT.of a1,atI_nat (j:=1) rfl,_,rfl,(by show 3≤sizeLine; decide),fun t ht=>?_⟩
  have g2:=same_new ht (.tup [.int (agC da.1),.ref l1,.ref l2])
  exact q _ _ g2 ⟨l1,l2,upd_same,g2 _ _ a2,by rw [show (repD k da).2.2 = da.2.2 from if_neg c]; exact g2 _ _ a3⟩
set_option maxHeartbeats 64000000 in
theorem ok_beg {n:Nat} (F:FunA K mg "begun_instants" "begun" ["part", "there"] s_begun_instants) (T:TxtR K mg aN aP aR uE uR uL) (C_begun_leaf_instants:Callee P w K mg base 2 "begun_leaf_instants" ["part"] (spBl K)) (C_in_turn_instants:Callee P w K mg base 1 "in_turn_instants" ["first", "second"] spTurn) (C_side_by_side_instants:Callee P w K mg base 1 "side_by_side_instants" ["first", "second"] spSide)
  (C_repeated:Callee P w K mg base 2 "repeated" ["rest", "inner"] spRep) (C_code_of_trap:Callee P w K mg base 1 "code_of_trap" ["code"] spTrC) (C_begun_instants:Callee P w K mg base (n + 2) "begun_instants" ["part", "there"] (spBeg K n)):Callee P w K mg base (n + 3) "begun_instants" ["part", "there"] (spBeg K (n + 1)):=by
 refine F.ok sc_begun_instants (fun vs H Q E h=>?_) (fun f cdv A outer s H vs Q E hr h=>?_)
 ·obtain ⟨v,p,st,ns,rfl,_⟩:=h; rfl
 obtain ⟨v,p,st,ns,rfl,hp,hS,hh,hsc,hlc,q⟩:=h
 refine ⟨_,(pss_cons (ps_set (i:=2) sc_begun_instants.nd rfl (Or.inl rfl) (pe_ix ix_tup (pv 0) pe_int (fun _ _=>rfl)))
  (pss_cons (ps_if (pt_cmpR op_eq (pv 2) pe_str (nomark _))
   (pss_cons (ps_set (i:=3) sc_begun_instants.nd rfl (Or.inl rfl) (pe_callC C_begun_instants hr rfl pass0 (pa_cons (pe_ix ix_tup (pv 0) pe_int (fun _ _=>rfl)) (pa_cons (pv 1) pa_nil))))
  (pss_one (ps_ret (pe_ifExp (pt_cmpR op_eq (pe_ix ix_tup (pv 3) pe_int (fun _ _=>rfl)) (pe_glob rfl T.m_ENDED T.r_ENDED) (nomark _)) (pe_callC C_in_turn_instants hr rfl pass0 (pa_cons (pv 3) (pa_cons (pe_callC C_begun_instants hr rfl pass0 (pa_cons (pe_ix ix_tup (pv 0) pe_int (fun _ _=>rfl)) (pa_cons (pv 1) pa_nil))) pa_nil))) (pv 3)))))
   pss_nil)
  (pss_cons (ps_if (pt_cmpR op_eq (pv 2) pe_str (nomark _))
   (pss_one (ps_ret (pe_callC C_side_by_side_instants hr rfl pass0 (pa_cons (pe_callC C_begun_instants hr rfl pass0 (pa_cons (pe_ix ix_tup (pv 0) pe_int (fun _ _=>rfl)) (pa_cons (pv 1) pa_nil))) (pa_cons (pe_callC C_begun_instants hr rfl pass0 (pa_cons (pe_ix ix_tup (pv 0) pe_int (fun _ _=>rfl)) (pa_cons (pv 1) pa_nil))) pa_nil)))))
   pss_nil)
  (pss_cons (ps_if (pt_cmpR op_eq (pv 2) pe_str (nomark _))
   (pss_one (ps_ret (pe_callC C_begun_instants hr rfl pass0 (pa_cons (pe_ifExp (pt_cmpR op_in_seq (pe_ix ix_tup (pv 0) pe_int (fun _ _=>rfl)) (pv 1) (by rfl)) (pe_ix ix_tup (pv 0) pe_int (fun _ _=>rfl)) (pe_ix ix_tup (pv 0) pe_int (fun _ _=>rfl))) (pa_cons (pv 1) pa_nil)))))
   pss_nil)
  (pss_cons (ps_if (pt_cmpR op_eq (pv 2) pe_str (nomark _))
   (pss_one (ps_ret (pe_callC C_repeated hr rfl pass0 (pa_cons (pe_ix ix_tup (pv 0) pe_int (fun _ _=>rfl)) (pa_cons (pe_callC C_begun_instants hr rfl pass0 (pa_cons (pe_ix ix_tup (pv 0) pe_int (fun _ _=>rfl)) (pa_cons (pv 1) pa_nil))) pa_nil)))))
   pss_nil)
  (pss_cons (ps_if (PW.pt (pw_or (pt_cmpR op_eq (pv 2) pe_str (nomark _)) (pw_or1 (pt_cmpR op_eq (pv 2) pe_str (nomark _)))))
   (pss_one (ps_ret (pe_callC C_begun_instants hr rfl pass0 (pa_cons (pe_ix ix_tup (pv 0) pe_int (fun _ _=>rfl)) (pa_cons (pv 1) pa_nil)))))
   pss_nil)
  (pss_cons (ps_if (pt_cmpR op_eq (pv 2) pe_str (nomark _))
   (pss_cons (ps_set (i:=4) sc_begun_instants.nd rfl (Or.inl rfl) (pe_callC C_begun_instants hr rfl pass0 (pa_cons (pe_ix ix_tup (pv 0) pe_int (fun _ _=>rfl)) (pa_cons (pv 1) pa_nil))))
  (pss_one (ps_ret (pe_tup (pa_cons (pe_callC C_code_of_trap hr rfl pass0 (pa_cons (pe_ix ix_tup (pv 4) pe_int (fun _ _=>rfl)) pa_nil)) (pa_cons (pe_ix ix_tup (pv 4) pe_int (fun _ _=>rfl)) (pa_cons (pe_ix ix_tup (pv 4) pe_int (fun _ _=>rfl)) pa_nil)))))))
   pss_nil)
  (pss_one (ps_ret (pe_callC C_begun_leaf_instants hr rfl pass0 (pa_cons (pv 0) pa_nil))))))))))),?_⟩
 obtain ⟨a,vs,rfl,hs⟩:=wd_at hp
 refine ⟨_,rfl,a,_,_,_,rfl,rfl,hs.sq,atI_nat (j:=0) rfl,_,rfl,rfl,_,rfl,iteW (fun e=>?_) fun n1=>⟨_,rfl,rfl,_,rfl,iteW (fun e=>?_) fun n2=>⟨_,rfl,rfl,_,rfl,iteW (fun e=>?_) fun n3=>⟨_,rfl,rfl,_,rfl,iteW (fun e=>?_) fun n4=>⟨_,rfl,rfl,_,rfl,iteW (fun e=>iteT ?_) fun n5=>⟨_,rfl,rfl,_,rfl,iteW (fun e=>?_) fun n6=>⟨_,rfl,rfl,_,rfl,iteW (fun e=>?_) fun n7=>?_⟩⟩⟩⟩⟩⟩⟩
 ·obtain ⟨p1,p2,rfl⟩:=wd_thn e
  obtain ⟨a',vs',ev,hs,hx⟩:=PAt.get hp
  cases ev
  obtain ⟨x0,x1,x2,rfl,h0,h1,h2⟩:=hx.three
  cases h0.str
  refine ⟨_,rfl,a,_,_,_,rfl,rfl,hs.sq,atI_nat (j:=1) rfl,_,rfl,x1,p1,st,ns,rfl,h1,hS,hgl hh,adl hsc,mxl hlc,fun t1 H1 g1 R1=>?_⟩
  obtain ⟨l1,l2,a1,a2,a3⟩:=id R1
  refine ⟨_,rfl,t1,_,_,_,rfl,rfl,SqT.of a1,atI_nat (j:=0) rfl,rfl,_,rfl,iteI (fun c=>?_) fun c=>?_⟩
  ·refine ⟨_,rfl,_,rfl,a,_,_,_,rfl,rfl,(hs.mono g1.tp).sq,atI_nat (j:=2) rfl,_,rfl,x2,p2,st,ns,rfl,h2.mono g1.tp,g1.seq hS,hgr hh,adr hsc,mxr hlc,fun t2 H2 g2 R2=>?_⟩
   refine ⟨t1,t2,_,_,rfl,R1.mono g2,R2,sm9 (adl hsc) (mxl hlc),sm9 (adr hsc) (mxr hlc),fun t H3 g3 R3=>?_⟩
   exact q _ _ ((g1.trans g2).trans g3) (by rw [show beg ns (.thn p1 p2) = turnD (beg ns p1) (beg ns p2) from by simp only [beg]; rw [if_pos c]]; exact R3)
  ·exact ⟨_,rfl,q _ _ g1 (by rw [show beg ns (.thn p1 p2) = beg ns p1 from by simp only [beg]; rw [if_neg c]]; exact R1)⟩
 ·obtain ⟨p1,p2,rfl⟩:=wd_bes e
  obtain ⟨a',vs',ev,hs,hx⟩:=PAt.get hp
  cases ev
  obtain ⟨x0,x1,x2,rfl,h0,h1,h2⟩:=hx.three
  cases h0.str
  refine ⟨_,rfl,a,_,_,_,rfl,rfl,hs.sq,atI_nat (j:=1) rfl,_,rfl,x1,p1,st,ns,rfl,h1,hS,hgl hh,adl hsc,adl hlc,fun t1 H1 g1 R1=>?_⟩
  refine ⟨_,rfl,a,_,_,_,rfl,rfl,(hs.mono g1.tp).sq,atI_nat (j:=2) rfl,_,rfl,x2,p2,st,ns,rfl,h2.mono g1.tp,g1.seq hS,hgr hh,adr hsc,adr hlc,fun t2 H2 g2 R2=>?_⟩
  exact ⟨t1,t2,_,_,rfl,R1.mono g2,R2,sm9 (adl hsc) (adl hlc),sm9 (adr hsc) (adr hlc),fun t H3 g3 R3=>q _ _ ((g1.trans g2).trans g3) R3⟩
 ·obtain ⟨sn,p1,p2,rfl⟩:=wd_iff e
  obtain ⟨a',vs',ev,hs,hx⟩:=PAt.get hp
  cases ev
  obtain ⟨x0,x1,x2,x3,rfl,h0,h1,h2,h3⟩:=hx.four
  cases h0.str
  cases h1.int
  refine ⟨_,rfl,a,_,_,_,rfl,rfl,hs.sq,atI_nat (j:=1) rfl,_,rfl,st,_,rfl,.inl hS,rfl,flat_ints ns,_,rfl,iteM (fun c=>?_) fun c=>?_⟩
  ·exact ⟨_,rfl,a,_,_,_,rfl,rfl,hs.sq,atI_nat (j:=2) rfl,_,rfl,x2,p1,st,ns,rfl,h2,hS,hgl hh,adl hsc,mxl hlc,fun t1 H1 g1 R1=>q _ _ g1 (by rw [show beg ns (.iff sn p1 p2) = beg ns p1 from by simp only [beg]; rw [if_pos c]]; exact R1)⟩
  ·exact ⟨_,rfl,a,_,_,_,rfl,rfl,hs.sq,atI_nat (j:=3) rfl,_,rfl,x3,p2,st,ns,rfl,h3,hS,hgr hh,adr hsc,mxr hlc,fun t1 H1 g1 R1=>q _ _ g1 (by rw [show beg ns (.iff sn p1 p2) = beg ns p2 from by simp only [beg]; rw [if_neg c]]; exact R1)⟩
 ·obtain ⟨kn,p1,rfl⟩:=wd_again e
  obtain ⟨a',vs',ev,hs,hx⟩:=PAt.get hp
  cases ev
  obtain ⟨x0,x1,x2,rfl,h0,h1,h2⟩:=hx.three
  cases h0.str
  cases h1.int
  refine ⟨_,rfl,a,_,_,_,rfl,rfl,hs.sq,atI_nat (j:=1) rfl,_,rfl,a,_,_,_,rfl,rfl,hs.sq,atI_nat (j:=2) rfl,_,rfl,x2,p1,st,ns,rfl,h2,hS,Nat.le_of_succ_le_succ hh,hsc,mxr hlc,fun t1 H1 g1 R1=>?_⟩
  exact ⟨kn,t1,_,rfl,R1,fun t H3 g3 R3=>q _ _ (g1.trans g3) R3⟩
 ·obtain ⟨sn,p1,rfl⟩:=wd_hold e
  obtain ⟨a',vs',ev,hs,hx⟩:=PAt.get hp
  cases ev
  obtain ⟨x0,x1,x2,rfl,h0,h1,h2⟩:=hx.three
  cases h0.str
  cases h1.int
  exact ⟨_,rfl,a,_,_,_,rfl,rfl,hs.sq,atI_nat (j:=2) rfl,_,rfl,x2,p1,st,ns,rfl,h2,hS,Nat.le_of_succ_le_succ hh,hsc,hlc,fun t1 H1 g1 R1=>q _ _ g1 R1⟩
 ·obtain ⟨sn,p1,rfl⟩:=wd_watch e
  obtain ⟨a',vs',ev,hs,hx⟩:=PAt.get hp
  cases ev
  obtain ⟨x0,x1,x2,rfl,h0,h1,h2⟩:=hx.three
  cases h0.str
  cases h1.int
  exact ⟨_,rfl,a,_,_,_,rfl,rfl,hs.sq,atI_nat (j:=2) rfl,_,rfl,x2,p1,st,ns,rfl,h2,hS,Nat.le_of_succ_le_succ hh,hsc,hlc,fun t1 H1 g1 R1=>q _ _ g1 R1⟩
 ·obtain ⟨p1,rfl⟩:=wd_trap e
  obtain ⟨a',vs',ev,hs,hx⟩:=PAt.get hp
  cases ev
  obtain ⟨x0,x1,rfl,h0,h1⟩:=hx.two
  cases h0.str
  refine ⟨_,rfl,a,_,_,_,rfl,rfl,hs.sq,atI_nat (j:=1) rfl,_,rfl,x1,p1,st,ns,rfl,h1,hS,Nat.le_of_succ_le_succ hh,hsc,hlc,fun t1 H1 g1 R1=>?_⟩
  obtain ⟨l1,l2,a1,a2,a3⟩:=id R1
  refine ⟨_,rfl,t1,_,_,_,rfl,rfl,SqT.of a1,atI_nat (j:=0) rfl,_,rfl,_,rfl,t1,_,_,_,rfl,rfl,SqT.of a1,atI_nat (j:=1) rfl,_,rfl,t1,_,_,_,rfl,rfl,SqT.of a1,atI_nat (j:=2) rfl,(by show 3≤sizeLine; decide),fun t ht=>?_⟩
  have g2:=same_new ht (.tup [.int (trapC (beg ns p1).1),.ref l1,.ref l2])
  exact q _ _ (g1.trans g2) ⟨l1,l2,upd_same,g2 _ _ a2,g2 _ _ a3⟩
 ·have lf:=wd_leaf n1 n2 n3 n4 n5 n6 n7
  exact ⟨_,rfl,_,p,rfl,hp,lf,hlc,fun t1 H1 g1 R1=>q _ _ g1 (by rw [beg_leaf lf ns []]; exact R1)⟩
theorem beg_all (F:FunA K mg "begun_instants" "begun" ["part", "there"] s_begun_instants) (T:TxtR K mg aN aP aR uE uR uL) (C1:Callee P w K mg base 2 "begun_leaf_instants" ["part"] (spBl K)) (C2:Callee P w K mg base 1 "in_turn_instants" ["first", "second"] spTurn) (C3:Callee P w K mg base 1 "side_by_side_instants" ["first", "second"] spSide)
  (C4:Callee P w K mg base 2 "repeated" ["rest", "inner"] spRep) (C5:Callee P w K mg base 1 "code_of_trap" ["code"] spTrC):∀ n,Callee P w K mg base (n + 2) "begun_instants" ["part", "there"] (spBeg K n)
 | 0=>(F.zero (sp:=spBeg K 0) fun vs H Q E h=>by obtain ⟨v,p,st,ns,_,_,_,hh,_⟩:=h; exact absurd hh (Nat.not_le_of_gt (Pt.hg_pos p))).mono (by decide)
 | n + 1=>ok_beg F T C1 C2 C3 C4 C5 (beg_all F T C1 C2 C3 C4 C5 n)
set_option maxHeartbeats 16000000 in
theorem ok_ranG {n:Nat} (F:FunM K mg "ran" ["part", "state", "there"] s_ran) (T:TxtR K mg aN aP aR uE uR uL) (C_part_to_begin:Callee P w K mg base (n + 3) "part_to_begin" ["part", "state"] (spPtb K n)) (C_begun_instants:Callee P w K mg base (n + 2) "begun_instants" ["part", "there"] (spBeg K n)) :
  Callee P w K mg base (n + 4) "ran" ["part", "state", "there"] (spRanG K n):=by
 refine F.ok sc_ran (fun vs H Q E h=>?_) (fun f cdv A outer s H vs Q E hr h=>?_)
 ·obtain ⟨v,p,sv,st,th,ns,rfl,_⟩:=h; rfl
 obtain ⟨v,p,sv,st,th,ns,rfl,hp,hst,hS,hb,k1,k2,k3,q⟩:=h
 refine ⟨_,(pss_cons (ps_set (i:=3) sc_ran.nd rfl (Or.inl rfl) (pe_callC C_begun_instants hr rfl pass0 (pa_cons (pe_callC C_part_to_begin hr rfl pass0 (pa_cons (pv 0) (pa_cons (pv 1) pa_nil))) (pa_cons (pv 2) pa_nil))))
  (pss_one (ps_ret (pe_tup (pa_cons (pe_ix ix_tup (pv 3) pe_int (fun _ _=>rfl)) (pa_cons (pe_sset rfl rfl T.n_sorted rfl T.n_set (pe_ix ix_tup (pv 3) pe_int (fun _ _=>rfl))) (pa_cons (pe_callB call_sorted rfl T.n_sorted (by decide +kernel) (pa_cons (pe_ix ix_tup (pv 3) pe_int (fun _ _=>rfl)) pa_nil)) pa_nil))))))),?_⟩
 refine ⟨_,rfl,_,rfl,v,p,sv,st,rfl,hp,hst,hb,fun v1 H1 g1 P1=>?_⟩
 refine ⟨_,rfl,v1,pb p st,th,ns,rfl,P1,g1.seq hS,k1,lt9 k2,lt9 k3,fun t H2 g2 ⟨l1,l2,a1,a2,a3⟩=>?_⟩
 obtain ⟨c1,c2⟩:=beg_len ns (pb p st)
 refine ⟨_,rfl,t,_,_,_,rfl,rfl,SqT.of a1,atI_nat (j:=0) rfl,_,rfl,t,_,_,_,rfl,rfl,SqT.of a1,atI_nat (j:=1) rfl,l1,_,rfl,SqL.of a2,Nat.lt_of_le_of_lt c1 k2,fun r1 hr1=>?_⟩
 have g3:=same_new hr1 (.lst ((nub (beg ns (pb p st)).2.1).map V.int))
 refine ⟨_,rfl,t,_,_,_,rfl,rfl,SqT.of (g3 _ _ a1),atI_nat (j:=2) rfl,l2,_,rfl,SqL.of (g3 _ _ a3),Nat.lt_of_le_of_lt c2 k3,fun r2 ms hr2 pm om=>?_⟩
 cases sortI_eq pm om
 have g4:=same_new hr2 (.lst ((sortI (beg ns (pb p st)).2.2).map V.int))
 refine ⟨(by show 3≤sizeLine; decide),fun t2 ht2=>?_⟩
 have g5:=same_new ht2 (.tup [.int (beg ns (pb p st)).1,.ref r1,.ref r2])
 have g02:=g1.trans g2
 refine q _ _ (((g02.trans g3).trans g4).trans g5) ⟨r1,r2,upd_same,g5 _ _ (g4 _ _ upd_same),g5 _ _ upd_same,g02.free hr1,(g02.trans g3).free hr2,ne_of_none upd_same hr2⟩
end
abbrev Wk:=List Int× Bool× List Int× List Int
def vO:Option Bool→V
 | none=>.non
 | some b=>.bl b
abbrev V_ENDED:V:=.int 0
def minL:List Int→Int
 | []=>0
 | [x]=>x
 | x :: y :: r=>if minL (y :: r) < x then minL (y :: r) else x
theorem minL_low:∀ {l:List Int},0 < l.length→minL l∈l∧∀ a∈l,minL l≤a
 | [x],_=>⟨List.mem_singleton.mpr rfl,fun a ha=>by rcases List.mem_singleton.mp ha with rfl; exact Int.le_refl _⟩
 | x :: y :: r,_=>by
  obtain ⟨h1,h2⟩:=minL_low (l:=y :: r) (Nat.succ_pos _)
  unfold minL
  split
  ·next c=>exact ⟨List.mem_cons_of_mem _ h1,fun a ha=>(List.mem_cons.mp ha).elim (fun e=>e ▸ Int.le_of_lt c) fun z=>h2 a z⟩
  ·next c=>exact ⟨List.mem_cons_self,fun a ha=>(List.mem_cons.mp ha).elim (fun e=>e ▸ Int.le_refl _) fun z=>Int.le_trans (Int.not_lt.mp c) (h2 a z)⟩
theorem minL_eq {l:List Int} {M:Int} (h1:M∈l) (h2:∀ a∈l,M≤a):M = minL l:=by
 obtain ⟨k1,k2⟩:=minL_low (List.length_pos_of_mem h1)
 exact Int.le_antisymm (h2 _ k1) (k2 _ h1)
def mx (a b:Int):Int:=if b > a then b else a
def turnW (a b:Wk):Wk:=(nub (a.1.filter (fun c=>!decide (c = 0)) ++ b.1),b.2.1,a.2.2.1 ++ b.2.2.1,a.2.2.2 ++ b.2.2.2)
def sideW (a b:Wk):Wk:=((nub (a.1 ++ b.1)).filter (fun c=>decide (mx (minL a.1) (minL b.1)≤c)),a.2.1 && b.2.1,a.2.2.1 ++ b.2.2.1,a.2.2.2 ++ b.2.2.2)
def oneW (a b:Wk):Wk:=(nub (a.1 ++ b.1),false,[],a.2.2.2 ++ b.2.2.2)
def recW (f:Int→Int) (a:Wk):Wk:=(nub (a.1.map f),a.2.1,a.2.2.1,a.2.2.2)
def wbeg (kn:List (Option Bool)):Bool→Pt→Wk
 | s,.thn p q=>if 0∈(wbeg kn s p).1 then turnW (wbeg kn s p) (wbeg kn (wbeg kn s p).2.1 q) else wbeg kn s p
 | s,.bes p q=>sideW (wbeg kn s p) (wbeg kn s q)
 | s,.iff x p q=>match (kn[x.toNat]?).getD none with
  | none=>oneW (wbeg kn false p) (wbeg kn false q)
  | some true=>wbeg kn s p
  | some false=>wbeg kn s q
 | s,.again _ p=>recW agC (wbeg kn s p)
 | s,.hold _ p=>wbeg kn s p
 | s,.watch _ p=>wbeg kn s p
 | s,.trap p=>recW trapC (wbeg kn s p)
 | s,.nothing=>([0],s,[],[])
 | s,.send x=>([0],s,if s = true then [x] else [],[x])
 | s,.exit d=>([2 + d],s,[],[])
 | s,.rest _=>([1],s,[],[])
 | s,.stay _=>([1],s,[],[])
def okW (sg:Int):Pt→Prop
 | .send s=>0≤s∧s < sg
 | .exit d=>0≤d∧d < 4
 | .iff s p q=>(0≤s∧s < sg)∧okW sg p∧okW sg q
 | .thn p q=>okW sg p∧okW sg q
 | .bes p q=>okW sg p∧okW sg q
 | .again _ p=>okW sg p
 | .hold s p=>(0≤s∧s < sg)∧okW sg p
 | .watch s p=>(0≤s∧s < sg)∧okW sg p
 | .trap p=>okW sg p
 | _=>True
theorem okW_rem {sg:Int} (st:List Int) {p:Pt} (h:okW sg p):okW sg (rem st p).2:=by
 induction p with
 | iff s p q ih1 ih2 =>
  have:=ih1 h.2.1
  have:=ih2 h.2.2
  simp only [rem,lp]
  split
  ·assumption
  ·split
   ·assumption
   ·exact h
 | thn p q ih1 ih2 =>
  have:=ih1 h.1
  have:=ih2 h.2
  simp only [rem,lp]
  split
  ·exact ⟨ih1 h.1,h.2⟩
  ·assumption
 | bes p q ih1 ih2 =>
  have:=ih1 h.1
  have:=ih2 h.2
  simp only [rem,lp]
  split
  ·exact ⟨ih1 h.1,ih2 h.2⟩
  ·split
   ·assumption
   ·split
    ·assumption
    ·exact h
 | again k p ih =>
  have:=ih h
  simp only [rem]
  split
  ·exact h
  ·simp only [lr]
   split
   ·exact h
   ·exact ih h
 | hold s p ih =>
  have:=ih h.2
  simp only [rem,lr]
  split
  ·exact h
  ·exact ⟨h.1,trivial,ih h.2⟩
 | watch s p ih =>
  have:=ih h.2
  simp only [rem,lr]
  split
  ·exact h
  ·exact ⟨h.1,trivial,ih h.2⟩
 | trap p ih =>
  have:=ih h
  simp only [rem,lr]
  split
  ·exact h
  ·exact ih h
 | rest k =>
  simp only [rem]
  split <;> exact trivial
 | nothing=>exact trivial
 | send s=>exact h
 | exit d=>exact h
 | stay ks=>exact trivial
theorem okW_pb {sg:Int} {p:Pt} (h:okW sg p) (st:Option (List Int)):okW sg (pb p st):=by
 cases st with
 | none=>exact h
 | some l=>exact okW_rem l h
theorem rise_len:∀ {l:List Int} {a b:Int},l.Pairwise (· < ·)→(∀ x∈l,a≤x∧x < b)→(l.length:Int)≤max 0 (b - a)
 | [],a,b,_,_=>Int.le_max_left 0 (b - a)
 | x :: r,a,b,h,k=>by
  have h':=List.pairwise_cons.mp h
  have kx:=k x List.mem_cons_self
  have:=rise_len (l:=r) (a:=x + 1) (b:=b) h'.2 fun y hy=>⟨Int.add_one_le_of_lt (h'.1 y hy),(k y (List.mem_cons_of_mem _ hy)).2⟩
  rw [List.length_cons]
  omega
structure Cw (l:List Int):Prop where
 ri:l.Pairwise (· < ·)
 bd:∀ c∈l,0≤c∧c < 6
 ne:0 < l.length
theorem Cw.len {l:List Int} (h:Cw l):l.length≤6:=by
 have:=rise_len h.ri h.bd
 omega
theorem nub_ne {l:List Int} (h:0 < l.length):0 < (nub l).length:=by
 cases l with
 | nil=>cases h
 | cons x r=>exact List.length_pos_of_mem (mem_nub.mpr (List.mem_cons_self (a:=x) (l:=r)))
theorem cw_nub {l:List Int} (h:∀ c∈l,0≤c∧c < 6) (n:0 < l.length):Cw (nub l):=⟨rise_nub l,fun c hc=>h c (mem_nub.mp hc),nub_ne n⟩
theorem cw_app {a b:List Int} (ha:Cw a) (hb:Cw b):Cw (nub (a ++ b)):=cw_nub (fun c hc=>(List.mem_append.mp hc).elim (fun h=>ha.bd c h) fun h=>hb.bd c h) (by rw [List.length_append]; exact Nat.lt_of_lt_of_le ha.ne (Nat.le_add_right _ _))
theorem cw_one {c:Int} (h:0≤c∧c < 6):Cw [c]:=⟨List.pairwise_singleton _ _,fun x hx=>by rcases List.mem_singleton.mp hx with rfl; exact h,Nat.succ_pos _⟩
theorem three {c:Int} (h0:0≤c) (h:c < 3):c = 0∨c = 1∨c = 2:=by
 obtain ⟨n,rfl⟩:=Int.eq_ofNat_of_zero_le h0
 match n,h with
 | 0,_=>exact .inl rfl
 | 1,_=>exact .inr (.inl rfl)
 | 2,_=>exact .inr (.inr rfl)
 | n + 3,z=>exact absurd z (by omega)
theorem six {P:Int→Prop} (h0:P 0) (h1:P 1) (h2:P 2) (h3:P 3) (h4:P 4) (h5:P 5) {c:Int} (h:0≤c∧c < 6):P c:=by
 obtain ⟨n,rfl⟩:=Int.eq_ofNat_of_zero_le h.1
 match n,h.2 with
 | 0,_=>exact h0
 | 1,_=>exact h1
 | 2,_=>exact h2
 | 3,_=>exact h3
 | 4,_=>exact h4
 | 5,_=>exact h5
 | n + 6,z=>exact absurd z (by omega)
theorem agC_bd {c:Int} (h:0≤c∧c < 6):0≤agC c∧agC c < 6:=six (P:=fun c=>0≤agC c∧agC c < 6) (by decide) (by decide) (by decide) (by decide) (by decide) (by decide) h
theorem trapC_bd {c:Int} (h:0≤c∧c < 6):0≤trapC c∧trapC c < 6:=six (P:=fun c=>0≤trapC c∧trapC c < 6) (by decide) (by decide) (by decide) (by decide) (by decide) (by decide) h
theorem cw_map {f:Int→Int} (hf:∀ c,0≤c∧c < 6→0≤f c∧f c < 6) {a:List Int} (ha:Cw a):Cw (nub (a.map f)):=cw_nub (fun c hc=>by obtain ⟨x,hx,rfl⟩:=List.mem_map.mp hc; exact hf x (ha.bd x hx)) (by rw [List.length_map]; exact ha.ne)
theorem cw_side {a b:List Int} (ha:Cw a) (hb:Cw b):Cw ((nub (a ++ b)).filter (fun c=>decide (mx (minL a) (minL b)≤c))):=by
 have h:=cw_app ha hb
 refine ⟨h.ri.filter _,fun c hc=>h.bd c (List.mem_filter.mp hc).1,?_⟩
 have m1:=(minL_low ha.ne).1
 have m2:=(minL_low hb.ne).1
 refine List.length_pos_of_mem (a:=mx (minL a) (minL b)) (List.mem_filter.mpr ⟨mem_nub.mpr ?_,by simp⟩)
 unfold mx
 split
 ·exact List.mem_append_right _ m2
 ·exact List.mem_append_left _ m1
theorem cw_beg {sg:Int} (kn:List (Option Bool)) {p:Pt} (h:okW sg p):∀ s,Cw (wbeg kn s p).1:=by
 induction p with
 | thn p q ih1 ih2 =>
  intro s
  simp only [wbeg]
  split
  ·have h1:=ih1 h.1 s
   have h2:=ih2 h.2 (wbeg kn s p).2.1
   exact cw_nub (fun c hc=>(List.mem_append.mp hc).elim (fun z=>h1.bd c (List.mem_filter.mp z).1) fun z=>h2.bd c z) (by rw [List.length_append]; exact Nat.lt_of_lt_of_le h2.ne (Nat.le_add_left _ _))
  ·exact ih1 h.1 s
 | bes p q ih1 ih2=>intro s; exact cw_side (ih1 h.1 s) (ih2 h.2 s)
 | iff x p q ih1 ih2 =>
  intro s
  simp only [wbeg]
  split
  ·exact cw_app (ih1 h.2.1 false) (ih2 h.2.2 false)
  ·exact ih1 h.2.1 s
  ·exact ih2 h.2.2 s
 | again k p ih=>intro s; exact cw_map (fun c=>agC_bd) (ih h s)
 | hold x p ih=>intro s; exact ih h.2 s
 | watch x p ih=>intro s; exact ih h.2 s
 | trap p ih=>intro s; exact cw_map (fun c=>trapC_bd) (ih h s)
 | nothing=>intro s; exact cw_one ⟨by decide,by decide⟩
 | send x=>intro s; exact cw_one ⟨by decide,by decide⟩
 | exit d=>intro s; exact cw_one ⟨Int.le_trans h.1 (Int.le_add_of_nonneg_left (by decide)),Int.add_lt_add_left h.2 2⟩
 | rest k=>intro s; exact cw_one ⟨by decide,by decide⟩
 | stay k=>intro s; exact cw_one ⟨by decide,by decide⟩
theorem wbeg_len (kn:List (Option Bool)) (p:Pt):∀ s,(wbeg kn s p).2.2.1.length≤p.sc∧(wbeg kn s p).2.2.2.length≤p.sc:=by
 induction p with
 | thn p q ih1 ih2 =>
  intro s
  have h1:=ih1 s
  have h2:=ih2 (wbeg kn s p).2.1
  simp only [wbeg,Pt.sc]
  split
  ·simp only [turnW,List.length_append]; exact ⟨Nat.add_le_add h1.1 h2.1,Nat.add_le_add h1.2 h2.2⟩
  ·exact ⟨Nat.le_add_right_of_le h1.1,Nat.le_add_right_of_le h1.2⟩
 | bes p q ih1 ih2 =>
  intro s
  have h1:=ih1 s
  have h2:=ih2 s
  simp only [wbeg,Pt.sc,sideW,List.length_append]
  exact ⟨Nat.add_le_add h1.1 h2.1,Nat.add_le_add h1.2 h2.2⟩
 | iff x p q ih1 ih2 =>
  intro s
  have h1:=ih1 s
  have h2:=ih2 s
  have h3:=ih1 false
  have h4:=ih2 false
  simp only [wbeg,Pt.sc]
  split
  ·simp only [oneW,List.length_append,List.length_nil]; exact ⟨Nat.zero_le _,Nat.add_le_add h3.2 h4.2⟩
  ·exact ⟨Nat.le_add_right_of_le h1.1,Nat.le_add_right_of_le h1.2⟩
  ·exact ⟨Nat.le_add_left_of_le h2.1,Nat.le_add_left_of_le h2.2⟩
 | again k p ih=>intro s; exact ih s
 | hold x p ih=>intro s; exact ih s
 | watch x p ih=>intro s; exact ih s
 | trap p ih=>intro s; exact ih s
 | send x=>intro s; cases s <;> simp [wbeg,Pt.sc]
 | nothing=>intro s; exact ⟨Nat.zero_le _,Nat.zero_le _⟩
 | exit x=>intro s; exact ⟨Nat.zero_le _,Nat.zero_le _⟩
 | rest x=>intro s; exact ⟨Nat.zero_le _,Nat.zero_le _⟩
 | stay x=>intro s; exact ⟨Nat.zero_le _,Nat.zero_le _⟩
def walkD (kn:List (Option Bool)) (s:Bool) (p:Pt) (st:Option (List Int)):Wk:=((wbeg kn s (pb p st)).1,(wbeg kn s (pb p st)).2.1,nub (wbeg kn s (pb p st)).2.2.1,nub (wbeg kn s (pb p st)).2.2.2)
def WkAt (H:Hp) (t:Addr) (d:Wk):Prop:=∃ l1 l2 l3,H t = some (.tup [.ref l1,.bl d.2.1,.ref l2,.ref l3])∧H l1 = some (.lst (d.1.map V.int))∧H l2 = some (.lst (d.2.2.1.map V.int))∧H l3 = some (.lst (d.2.2.2.map V.int))
theorem WkAt.mono {H H':Hp} {t:Addr} {d:Wk} (h:WkAt H t d) (g:Same H H'):WkAt H' t d:=by
 obtain ⟨l1,l2,l3,a1,a2,a3,a4⟩:=h
 exact ⟨l1,l2,l3,g _ _ a1,g _ _ a2,g _ _ a3,g _ _ a4⟩
def smW (d:Wk):Prop:=d.1.length≤20∧0 < d.1.length∧d.2.2.1.length≤900∧d.2.2.2.length≤900
def spTurnW:Sp:=fun vs H Q _=>∃ t1 t2 a b,vs = [.ref t1,.ref t2]∧WkAt H t1 a∧WkAt H t2 b∧smW a∧smW b∧∀ t H',Same H H'→WkAt H' t (turnW a b)→Q (.ref t) H'
def spSideW:Sp:=fun vs H Q _=>∃ t1 t2 a b,vs = [.ref t1,.ref t2]∧WkAt H t1 a∧WkAt H t2 b∧smW a∧smW b∧∀ t H',Same H H'→WkAt H' t (sideW a b)→Q (.ref t) H'
def spOneW:Sp:=fun vs H Q _=>∃ t1 t2 a b,vs = [.ref t1,.ref t2]∧WkAt H t1 a∧WkAt H t2 b∧smW a∧smW b∧∀ t H',Same H H'→WkAt H' t (oneW a b)→Q (.ref t) H'
def spRecW:Sp:=fun vs H Q _=>∃ (t1 c:Addr) (a:Wk) (cs:List Int),vs = [.ref t1,.ref c]∧WkAt H t1 a∧H c = some (.lst (cs.map V.int))∧cs.length≤20∧∀ t H',Same H H'→WkAt H' t (nub cs,a.2.1,a.2.2.1,a.2.2.2)→Q (.ref t) H'
def spLeafW (K:PySem.W.Frag):Sp:=fun vs H Q _=>∃ v p s,vs = [v,.bl s]∧PAt K H (Pt.nd p) v∧isLf p = true∧∀ t H',Same H H'→WkAt H' t (wbeg [] s p)→Q (.ref t) H'
def spWb (K:PySem.W.Frag) (n:Nat):Sp:=fun vs H Q _=>∃ v p s kl kn,vs = [v,.bl s,.ref kl]∧PAt K H (Pt.nd p) v∧SqL K H kl ((kn:List (Option Bool)).map vO)∧p.hg≤n∧p.sc≤900∧okW kn.length p∧∀ t H',Same H H'→WkAt H' t (wbeg kn s p)→Q (.ref t) H'
def spWalk (K:PySem.W.Frag) (n:Nat):Sp:=fun vs H Q _=>∃ v p sv st s kl kn,vs = [v,sv,.bl s,.ref kl]∧PAt K H (Pt.nd p) v∧StAt K H st sv∧SqL K H kl ((kn:List (Option Bool)).map vO)∧p.hg≤n∧p.sc < 64∧p.rc < 64∧okW kn.length p∧∀ t H',Same H H'→WkAt H' t (walkD kn s p st)→Q (.ref t) H'
theorem smW_beg {kn:List (Option Bool)} {sg:Int} {p:Pt} (h:okW sg p) (hs:p.sc≤900) (s:Bool):smW (wbeg kn s p):=by
 have c:=cw_beg kn h s
 exact ⟨Nat.le_trans c.len (by decide),c.ne,Nat.le_trans (wbeg_len kn p s).1 hs,Nat.le_trans (wbeg_len kn p s).2 hs⟩
theorem lstApp {H:Hp} {l:Addr} {xs ys:List Int} (h:H l = some (.lst (xs.map V.int ++ ys.map V.int))):H l = some (.lst ((xs ++ ys).map V.int)):=by rw [h,List.map_append]
section
variable {P:Program} {w:World} {K:PySem.W.Frag} {mg:Str→Option Value} {base:Heap} {aN aP aR:Addr} {uE uR uL:Value}
set_option maxHeartbeats 16000000 in
theorem ok_turnW (F:FunA K mg "in_turn_walking" "in_turn" ["first", "second"] s_in_turn_walking) (T:TxtR K mg aN aP aR uE uR uL):Callee P w K mg base 1 "in_turn_walking" ["first", "second"] spTurnW:=by
 refine F.ok sc_in_turn_walking (fun vs H Q E h=>?_) (fun f cdv A outer s H vs Q E hr h=>?_)
 ·obtain ⟨t1,t2,da,db,rfl,_⟩:=h; rfl
 obtain ⟨t1,t2,da,db,rfl,⟨l1,l2,l3,a1,a2,a3,a4⟩,⟨m1,m2,m3,b1,b2,b3,b4⟩,sa,sb,q⟩:=h
 refine ⟨_,(pss_cons (ps_setComp (j:=2) (g:=(gName 0)) (tc:=(tTest (tOp rNe (tVar 0) (tC V_ENDED)))) (te:=(tVar 0)) ["code"] [] sc_in_turn_walking.nd rfl (Or.inl rfl) rfl (compOk (defScope s_in_turn_walking) ["first", "second", "going_past", "codes"] (by decide +kernel)) (pi_list (pe_ix ix_tup (pv 0) pe_int (fun _ _=>rfl))) (fun s2 H2 fp cl C=>pg_name (i:=0) (show List.Nodup [("code" : Str)] from by decide +kernel) rfl (Or.inl rfl)) (gkeep_name (by decide)) (fun s2 H2 fp cl C=>pif_one (pt_cmpR op_ne (pv 0) (pe_glob rfl T.m_ENDED T.r_ENDED) (nomark _))) (fun s2 H2 fp cl C=>(pv 0)))
  (pss_cons (ps_set (i:=3) sc_in_turn_walking.nd rfl (Or.inl rfl) (pe_sset rfl rfl T.n_sorted rfl T.n_set (pe_op op_cat (pv 2) (pe_ix ix_tup (pv 1) pe_int (fun _ _=>rfl)))))
  (pss_one (ps_ret (pe_tup (pa_cons (pv 3) (pa_cons (pe_ix ix_tup (pv 1) pe_int (fun _ _=>rfl)) (pa_cons (pe_op op_cat (pe_ix ix_tup (pv 0) pe_int (fun _ _=>rfl)) (pe_ix ix_tup (pv 1) pe_int (fun _ _=>rfl))) (pa_cons (pe_op op_cat (pe_ix ix_tup (pv 0) pe_int (fun _ _=>rfl)) (pe_ix ix_tup (pv 1) pe_int (fun _ _=>rfl))) pa_nil))))))))),?_⟩
 refine ⟨_,rfl,t1,_,_,_,rfl,rfl,SqT.of a1,atI_nat (j:=0) rfl,l1,rfl,⟨_,SqL.of a2⟩,comp_list (K:=K) (xs:=da.1.map V.int) (fun i ys H'=>H' = H∧ys = ((da.1.take i).filter (fun c=>!decide (c = 0))).map V.int) ⟨rfl,rfl⟩ (by rw [List.length_map]; exact small (leKn sa.1 (by decide))) (fun i ys H' ⟨e,_⟩=>by rw [e]; exact SqL.of a2) ?_ ?_⟩
 ·rintro j z ys H' N hj ⟨rfl,rfl⟩ hN hyl
  rw [List.getElem?_map] at hj
  cases ej:da.1[j]? with
  | none=>rw [ej] at hj; cases hj
  | some c =>
   rw [ej] at hj
   cases hj
   have et:(da.1.take (j + 1)).filter (fun c=>!decide (c = 0)) = (da.1.take j).filter (fun c=>!decide (c = 0)) ++ [c].filter (fun c=>!decide (c = 0)):=by
    rw [List.take_add_one,ej,List.filter_append]; rfl
   refine ⟨_,rfl,rfl,_,rfl,ite2 (fun z=>?_) fun z=>?_⟩
   ·refine ⟨_,rfl,hN _ _ (snoc_le hyl) ⟨rfl,?_⟩⟩
    have nz:¬ c = 0:=fun y=>by rw [y] at z; exact absurd z (by decide)
    rw [et,List.map_append,List.filter_cons_of_pos (by simp [nz])]
    rfl
   ·refine hN _ _ (Nat.le_succ_of_le hyl) ⟨rfl,?_⟩
    have nz:c = 0:=Classical.byContradiction fun y=>z (by simp [y])
    rw [et,List.filter_cons_of_neg (by simp [nz])]
    simp
 ·rintro ys H' hyl ⟨rfl,rfl⟩ D hD
  have g0:=same_new hD (.lst (((da.1.take (da.1.map V.int).length).filter (fun c=>!decide (c = 0))).map V.int))
  have hD0:(upd H' D (.lst (((da.1.take (da.1.map V.int).length).filter (fun c=>!decide (c = 0))).map V.int))) D = some (.lst ((da.1.filter (fun c=>!decide (c = 0))).map V.int)):=by rw [upd_same,List.length_map,List.take_length]
  have fl:(da.1.filter (fun c=>!decide (c = 0))).length≤da.1.length:=List.length_filter_le _ _
  have s1:=sa.1
  have s2:=sb.1
  have a1:=g0 _ _ a1
  have a3:=g0 _ _ a3
  have a4:=g0 _ _ a4
  have b1:=g0 _ _ b1
  have b2:=g0 _ _ b2
  have b3:=g0 _ _ b3
  have b4:=g0 _ _ b4
  have q:∀ t H2,Same (upd H' D (.lst (((da.1.take (da.1.map V.int).length).filter (fun c=>!decide (c = 0))).map V.int))) H2→WkAt H2 t (turnW da db)→Q (.ref t) H2:=fun t H2 g=>q t H2 (g0.trans g)
  generalize (upd H' D (.lst (((da.1.take (da.1.map V.int).length).filter (fun c=>!decide (c = 0))).map V.int))) = H1 at hD0 a1 a3 a4 b1 b2 b3 b4 q
  refine ⟨_,rfl,_,rfl,t2,_,_,_,rfl,rfl,SqT.of b1,atI_nat (j:=0) rfl,D,m1,_,_,rfl,rfl,hD0,b2,by rw [List.length_map,List.length_map]; exact small (le2K (Nat.le_trans fl s1) s2 (by decide)),fun p hp=>?_⟩
  have g1:=same_new hp (.lst ((da.1.filter (fun c=>!decide (c = 0))).map V.int ++ db.1.map V.int))
  refine ⟨p,_,rfl,SqL.of (lstApp upd_same),by rw [List.length_append]; exact le2L (Nat.le_trans fl s1) s2 (by decide),fun r hr=>?_⟩
  have g2:=same_new hr (.lst ((nub (da.1.filter (fun c=>!decide (c = 0)) ++ db.1)).map V.int))
  have g12:=g1.trans g2
  refine ⟨_,rfl,_,rfl,t2,_,_,_,rfl,rfl,SqT.of (g12 _ _ b1),atI_nat (j:=1) rfl,_,rfl,t1,_,_,_,rfl,rfl,SqT.of (g12 _ _ a1),atI_nat (j:=2) rfl,_,rfl,t2,_,_,_,rfl,rfl,SqT.of (g12 _ _ b1),atI_nat (j:=2) rfl,l2,m2,_,_,rfl,rfl,g12 _ _ a3,g12 _ _ b3,by rw [List.length_map,List.length_map]; exact Nat.le_trans (Nat.add_le_add sa.2.2.1 sb.2.2.1) (by decide),fun c hc=>?_⟩
  have g3:=same_new hc (.lst (da.2.2.1.map V.int ++ db.2.2.1.map V.int))
  have g13:=g12.trans g3
  refine ⟨_,rfl,t1,_,_,_,rfl,rfl,SqT.of (g13 _ _ a1),atI_nat (j:=3) rfl,_,rfl,t2,_,_,_,rfl,rfl,SqT.of (g13 _ _ b1),atI_nat (j:=3) rfl,l3,m3,_,_,rfl,rfl,g13 _ _ a4,g13 _ _ b4,by rw [List.length_map,List.length_map]; exact Nat.le_trans (Nat.add_le_add sa.2.2.2 sb.2.2.2) (by decide),fun e he=>?_⟩
  have g4:=same_new he (.lst (da.2.2.2.map V.int ++ db.2.2.2.map V.int))
  refine ⟨(by show 4≤sizeLine; decide),fun t ht=>?_⟩
  have g5:=same_new ht (.tup [.ref r,.bl db.2.1,.ref c,.ref e])
  exact q _ _ (g13.trans (g4.trans g5)) ⟨r,c,e,upd_same,g5 _ _ (g4 _ _ (g3 _ _ upd_same)),g5 _ _ (g4 _ _ (lstApp upd_same)),g5 _ _ (lstApp upd_same)⟩
set_option maxHeartbeats 16000000 in
theorem ok_sideW (F:FunA K mg "side_by_side_walking" "side_by_side" ["first", "second"] s_side_by_side_walking) (T:TxtR K mg aN aP aR uE uR uL):Callee P w K mg base 1 "side_by_side_walking" ["first", "second"] spSideW:=by
 refine F.ok sc_side_by_side_walking (fun vs H Q E h=>?_) (fun f cdv A outer s H vs Q E hr h=>?_)
 ·obtain ⟨t1,t2,da,db,rfl,_⟩:=h; rfl
 obtain ⟨t1,t2,da,db,rfl,⟨l1,l2,l3,a1,a2,a3,a4⟩,⟨m1,m2,m3,b1,b2,b3,b4⟩,sa,sb,q⟩:=h
 refine ⟨_,(pss_cons (ps_set (i:=2) sc_side_by_side_walking.nd rfl (Or.inr rfl) (pe_callB (call_max2 rfl) rfl T.n_max (by decide +kernel) (pa_cons (pe_callB (call_minL rfl) rfl T.n_min (by decide +kernel) (pa_cons (pe_ix ix_tup (pv 0) pe_int (fun _ _=>rfl)) pa_nil)) (pa_cons (pe_callB (call_minL rfl) rfl T.n_min (by decide +kernel) (pa_cons (pe_ix ix_tup (pv 1) pe_int (fun _ _=>rfl)) pa_nil)) pa_nil))))
  (pss_cons (ps_setComp (j:=3) (g:=(gName 0)) (tc:=(tTest (tOp (rI0 fun i j=>.bl (decide (j≤i))) (tVar 0) (tVar 1)))) (te:=(tVar 0)) ["code"] [("least", 2)] sc_side_by_side_walking.nd rfl (Or.inl rfl) rfl (compOk (defScope s_side_by_side_walking) ["first", "second", "least", "codes"] (by decide +kernel)) (pi_list (pe_sset rfl rfl T.n_sorted rfl T.n_set (pe_op op_cat (pe_ix ix_tup (pv 0) pe_int (fun _ _=>rfl)) (pe_ix ix_tup (pv 1) pe_int (fun _ _=>rfl))))) (fun s2 H2 fp cl C=>pg_name (i:=0) (show List.Nodup [("code" : Str),("least" : Str)] from by decide +kernel) rfl (Or.inl rfl)) (gkeep_name (by decide)) (fun s2 H2 fp cl C=>pif_one (pt_cmpR op_ge (pv 0) (pv 1) (nomark _))) (fun s2 H2 fp cl C=>(pv 0)))
  (pss_one (ps_ret (pe_tup (pa_cons (pv 3) (pa_cons (pe_and (pe_ix ix_tup (pv 0) pe_int (fun _ _=>rfl)) (pe_one (pe_ix ix_tup (pv 1) pe_int (fun _ _=>rfl)))) (pa_cons (pe_op op_cat (pe_ix ix_tup (pv 0) pe_int (fun _ _=>rfl)) (pe_ix ix_tup (pv 1) pe_int (fun _ _=>rfl))) (pa_cons (pe_op op_cat (pe_ix ix_tup (pv 0) pe_int (fun _ _=>rfl)) (pe_ix ix_tup (pv 1) pe_int (fun _ _=>rfl))) pa_nil))))))))),?_⟩
 refine ⟨_,rfl,t1,_,_,_,rfl,rfl,SqT.of a1,atI_nat (j:=0) rfl,l1,_,rfl,SqL.of a2,sa.2.1,fun M1 h1 h2=>?_⟩
 refine ⟨_,rfl,t2,_,_,_,rfl,rfl,SqT.of b1,atI_nat (j:=0) rfl,m1,_,rfl,SqL.of b2,sb.2.1,fun M2 k1 k2=>?_⟩
 cases minL_eq h1 h2
 cases minL_eq k1 k2
 have s1:=sa.1
 have s2:=sb.1
 refine ⟨_,_,rfl,_,rfl,t1,_,_,_,rfl,rfl,SqT.of a1,atI_nat (j:=0) rfl,_,rfl,t2,_,_,_,rfl,rfl,SqT.of b1,atI_nat (j:=0) rfl,l1,m1,_,_,rfl,rfl,a2,b2,by rw [List.length_map,List.length_map]; exact small (le2K s1 s2 (by decide)),fun p hp=>?_⟩
 have g1:=same_new hp (.lst (da.1.map V.int ++ db.1.map V.int))
 refine ⟨p,da.1 ++ db.1,rfl,SqL.of (lstApp upd_same),by rw [List.length_append]; exact le2L s1 s2 (by decide),fun r hr=>?_⟩
 have g2:=same_new hr (.lst ((nub (da.1 ++ db.1)).map V.int))
 have g12:=g1.trans g2
 have hr2:=upd_same (H:=upd H p (.lst (da.1.map V.int ++ db.1.map V.int))) (a:=r) (o:=.lst ((nub (da.1 ++ db.1)).map V.int))
 have a1:=g12 _ _ a1
 have a3:=g12 _ _ a3
 have a4:=g12 _ _ a4
 have b1:=g12 _ _ b1
 have b3:=g12 _ _ b3
 have b4:=g12 _ _ b4
 have q:∀ t H2,Same (upd (upd H p (.lst (da.1.map V.int ++ db.1.map V.int))) r (.lst ((nub (da.1 ++ db.1)).map V.int))) H2→WkAt H2 t (sideW da db)→Q (.ref t) H2:=fun t H2 g=>q t H2 (g12.trans g)
 generalize (upd (upd H p (.lst (da.1.map V.int ++ db.1.map V.int))) r (.lst ((nub (da.1 ++ db.1)).map V.int))) = H1 at hr2 a1 a3 a4 b1 b3 b4 q
 have nl:(nub (da.1 ++ db.1)).length≤40:=Nat.le_trans (nub_len _) (by rw [List.length_append]; exact Nat.add_le_add s1 s2)
 refine ⟨r,rfl,⟨_,SqL.of hr2⟩,comp_list (K:=K) (xs:=(nub (da.1 ++ db.1)).map V.int) (fun i ys H'=>H' = H1∧ys = (((nub (da.1 ++ db.1)).take i).filter (fun c=>decide (mx (minL da.1) (minL db.1)≤c))).map V.int) ⟨rfl,rfl⟩ (by rw [List.length_map]; exact small (leKn nl (by decide))) (fun i ys H' ⟨e,_⟩=>by rw [e]; exact SqL.of hr2) ?_ ?_⟩
 ·rintro j z ys H' N hj ⟨rfl,rfl⟩ hN hyl
  rw [List.getElem?_map] at hj
  cases ej:(nub (da.1 ++ db.1))[j]? with
  | none=>rw [ej] at hj; cases hj
  | some c =>
   rw [ej] at hj
   cases hj
   have et:((nub (da.1 ++ db.1)).take (j + 1)).filter (fun c=>decide (mx (minL da.1) (minL db.1)≤c)) = ((nub (da.1 ++ db.1)).take j).filter (fun c=>decide (mx (minL da.1) (minL db.1)≤c)) ++ [c].filter (fun c=>decide (mx (minL da.1) (minL db.1)≤c)):=by
    rw [List.take_add_one,ej,List.filter_append]; rfl
   refine ⟨_,rfl,_,rfl,_,_,rfl,rfl,_,rfl,ite2 (fun z=>?_) fun z=>?_⟩
   ·refine ⟨_,rfl,hN _ _ (snoc_le hyl) ⟨rfl,?_⟩⟩
    have f1:[c].filter (fun c=>decide (mx (minL da.1) (minL db.1)≤c)) = [c]:=by
     have:mx (minL da.1) (minL db.1)≤c:=of_decide_eq_true z
     simp [this]
    rw [et,f1,List.map_append]
    rfl
   ·refine hN _ _ (Nat.le_succ_of_le hyl) ⟨rfl,?_⟩
    have f1:[c].filter (fun c=>decide (mx (minL da.1) (minL db.1)≤c)) = []:=by
     have:¬ mx (minL da.1) (minL db.1)≤c:=fun y=>z (decide_eq_true y)
     simp [this]
    rw [et,f1,List.append_nil]
 ·rintro ys H' hyl ⟨rfl,rfl⟩ D hD
  have g0:=same_new hD (.lst ((((nub (da.1 ++ db.1)).take ((nub (da.1 ++ db.1)).map V.int).length).filter (fun c=>decide (mx (minL da.1) (minL db.1)≤c))).map V.int))
  have hD0:(upd H' D (.lst ((((nub (da.1 ++ db.1)).take ((nub (da.1 ++ db.1)).map V.int).length).filter (fun c=>decide (mx (minL da.1) (minL db.1)≤c))).map V.int))) D = some (.lst ((sideW da db).1.map V.int)):=by rw [upd_same,List.length_map,List.take_length]; rfl
  have a1:=g0 _ _ a1
  have a3:=g0 _ _ a3
  have a4:=g0 _ _ a4
  have b1:=g0 _ _ b1
  have b3:=g0 _ _ b3
  have b4:=g0 _ _ b4
  have q:=fun t H2 (g:Same (upd H' D (.lst ((((nub (da.1 ++ db.1)).take ((nub (da.1 ++ db.1)).map V.int).length).filter (fun c=>decide (mx (minL da.1) (minL db.1)≤c))).map V.int))) H2)=>q t H2 (g0.trans g)
  generalize (upd H' D (.lst ((((nub (da.1 ++ db.1)).take ((nub (da.1 ++ db.1)).map V.int).length).filter (fun c=>decide (mx (minL da.1) (minL db.1)≤c))).map V.int))) = H2 at hD0 a1 a3 a4 b1 b3 b4 q
  refine ⟨_,rfl,_,rfl,t1,_,_,_,rfl,rfl,SqT.of a1,atI_nat (j:=1) rfl,_,rfl,?_⟩
  have rest:∀ bb,bb = (da.2.1 && db.2.1)→(tCons (tOp rCat (tOp (rIxT K) (tVar 0) (tC (.int 2))) (tOp (rIxT K) (tVar 1) (tC (.int 2)))) (tCons (tOp rCat (tOp (rIxT K) (tVar 0) (tC (.int 3))) (tOp (rIxT K) (tVar 1) (tC (.int 3)))) tNil)) [some (.ref t1),some (.ref t2),some (.int (mx (minL da.1) (minL db.1))),some (.ref D)] H2 (fun xs H1=>([V.ref D,.bl bb] ++ xs).length≤sizeLine∧∀ p,H1 p = none→Q (.ref p) (upd H1 p (.tup ([V.ref D,.bl bb] ++ xs)))):=by
   intro bb eb
   subst eb
   refine ⟨_,rfl,t1,_,_,_,rfl,rfl,SqT.of a1,atI_nat (j:=2) rfl,_,rfl,t2,_,_,_,rfl,rfl,SqT.of b1,atI_nat (j:=2) rfl,l2,m2,_,_,rfl,rfl,a3,b3,by rw [List.length_map,List.length_map]; exact Nat.le_trans (Nat.add_le_add sa.2.2.1 sb.2.2.1) (by decide),fun c hc=>?_⟩
   have g3:=same_new hc (.lst (da.2.2.1.map V.int ++ db.2.2.1.map V.int))
   refine ⟨_,rfl,t1,_,_,_,rfl,rfl,SqT.of (g3 _ _ a1),atI_nat (j:=3) rfl,_,rfl,t2,_,_,_,rfl,rfl,SqT.of (g3 _ _ b1),atI_nat (j:=3) rfl,l3,m3,_,_,rfl,rfl,g3 _ _ a4,g3 _ _ b4,by rw [List.length_map,List.length_map]; exact Nat.le_trans (Nat.add_le_add sa.2.2.2 sb.2.2.2) (by decide),fun e he=>?_⟩
   have g4:=same_new he (.lst (da.2.2.2.map V.int ++ db.2.2.2.map V.int))
   refine ⟨(by show 4≤sizeLine; decide),fun t ht=>?_⟩
   have g5:=same_new ht (.tup [.ref D,.bl (da.2.1 && db.2.1),.ref c,.ref e])
   exact q _ _ (g3.trans (g4.trans g5)) ⟨D,c,e,upd_same,g5 _ _ (g4 _ _ (g3 _ _ hD0)),g5 _ _ (g4 _ _ (lstApp upd_same)),g5 _ _ (lstApp upd_same)⟩
  cases e1:da.2.1 with
  | true=>exact iteT ⟨_,rfl,t2,_,_,_,rfl,rfl,SqT.of b1,atI_nat (j:=1) rfl,rest _ (by rw [e1]; rfl)⟩
  | false=>exact iteF (rest _ (by rw [e1]; rfl))
set_option maxHeartbeats 16000000 in
theorem ok_oneW (F:FunM K mg "one_of" ["first", "second"] s_one_of) (T:TxtR K mg aN aP aR uE uR uL):Callee P w K mg base 1 "one_of" ["first", "second"] spOneW:=by
 refine F.ok sc_one_of (fun vs H Q E h=>?_) (fun f cdv A outer s H vs Q E hr h=>?_)
 ·obtain ⟨t1,t2,da,db,rfl,_⟩:=h; rfl
 obtain ⟨t1,t2,da,db,rfl,⟨l1,l2,l3,a1,a2,a3,a4⟩,⟨m1,m2,m3,b1,b2,b3,b4⟩,sa,sb,q⟩:=h
 refine ⟨_,(pss_one (ps_ret (pe_tup (pa_cons (pe_sset rfl rfl T.n_sorted rfl T.n_set (pe_op op_cat (pe_ix ix_tup (pv 0) pe_int (fun _ _=>rfl)) (pe_ix ix_tup (pv 1) pe_int (fun _ _=>rfl)))) (pa_cons pe_bl (pa_cons (pe_lst pa_nil) (pa_cons (pe_op op_cat (pe_ix ix_tup (pv 0) pe_int (fun _ _=>rfl)) (pe_ix ix_tup (pv 1) pe_int (fun _ _=>rfl))) pa_nil))))))),?_⟩
 have s1:=sa.1
 have s2:=sb.1
 refine ⟨_,rfl,t1,_,_,_,rfl,rfl,SqT.of a1,atI_nat (j:=0) rfl,_,rfl,t2,_,_,_,rfl,rfl,SqT.of b1,atI_nat (j:=0) rfl,l1,m1,_,_,rfl,rfl,a2,b2,by rw [List.length_map,List.length_map]; exact small (le2K s1 s2 (by decide)),fun p hp=>?_⟩
 have g1:=same_new hp (.lst (da.1.map V.int ++ db.1.map V.int))
 refine ⟨p,da.1 ++ db.1,rfl,SqL.of (lstApp upd_same),by rw [List.length_append]; exact le2L s1 s2 (by decide),fun r hr=>?_⟩
 have g2:=same_new hr (.lst ((nub (da.1 ++ db.1)).map V.int))
 refine ⟨(by show 0≤sizeLine; decide),fun c hc=>?_⟩
 have g3:=same_new hc (.lst [])
 have g13:=(g1.trans g2).trans g3
 refine ⟨_,rfl,t1,_,_,_,rfl,rfl,SqT.of (g13 _ _ a1),atI_nat (j:=3) rfl,_,rfl,t2,_,_,_,rfl,rfl,SqT.of (g13 _ _ b1),atI_nat (j:=3) rfl,l3,m3,_,_,rfl,rfl,g13 _ _ a4,g13 _ _ b4,by rw [List.length_map,List.length_map]; exact Nat.le_trans (Nat.add_le_add sa.2.2.2 sb.2.2.2) (by decide),fun e he=>?_⟩
 have g4:=same_new he (.lst (da.2.2.2.map V.int ++ db.2.2.2.map V.int))
 refine ⟨(by show 4≤sizeLine; decide),fun t ht=>?_⟩
 have g5:=same_new ht (.tup [.ref r,.bl false,.ref c,.ref e])
 exact q _ _ (g13.trans (g4.trans g5)) ⟨r,c,e,upd_same,g5 _ _ (g4 _ _ (g3 _ _ upd_same)),g5 _ _ (g4 _ _ upd_same),g5 _ _ (lstApp upd_same)⟩
theorem ok_recW (F:FunM K mg "recoded" ["inner", "codes"] s_recoded) (T:TxtR K mg aN aP aR uE uR uL):Callee P w K mg base 1 "recoded" ["inner", "codes"] spRecW:=by
 refine F.ok sc_recoded (fun vs H Q E h=>?_) (fun f cdv A outer s H vs Q E hr h=>?_)
 ·obtain ⟨t1,c,a,cs,rfl,_⟩:=h; rfl
 obtain ⟨t1,c,a,cs,rfl,⟨l1,l2,l3,a1,a2,a3,a4⟩,hc,hl,q⟩:=h
 refine ⟨_,(pss_one (ps_ret (pe_tup (pa_cons (pe_sset rfl rfl T.n_sorted rfl T.n_set (pv 1)) (pa_cons (pe_ix ix_tup (pv 0) pe_int (fun _ _=>rfl)) (pa_cons (pe_ix ix_tup (pv 0) pe_int (fun _ _=>rfl)) (pa_cons (pe_ix ix_tup (pv 0) pe_int (fun _ _=>rfl)) pa_nil))))))),?_⟩
 refine ⟨_,rfl,c,cs,rfl,SqL.of hc,Nat.lt_of_le_of_lt hl (by decide),fun r hr=>?_⟩
 have g1:=same_new hr (.lst ((nub cs).map V.int))
 refine ⟨_,rfl,t1,_,_,_,rfl,rfl,SqT.of (g1 _ _ a1),atI_nat (j:=1) rfl,_,rfl,t1,_,_,_,rfl,rfl,SqT.of (g1 _ _ a1),atI_nat (j:=2) rfl,_,rfl,t1,_,_,_,rfl,rfl,SqT.of (g1 _ _ a1),atI_nat (j:=3) rfl,(by show 4≤sizeLine; decide),fun t ht=>?_⟩
 have g5:=same_new ht (.tup [.ref r,.bl a.2.1,.ref l2,.ref l3])
 exact q _ _ (g1.trans g5) ⟨r,l2,l3,upd_same,g5 _ _ upd_same,g5 _ _ (g1 _ _ a3),g5 _ _ (g1 _ _ a4)⟩
set_option maxHeartbeats 16000000 in
theorem ok_leafW (F:FunA K mg "begun_leaf_walking" "begun_leaf" ["part", "sure"] s_begun_leaf_walking) (T:TxtR K mg aN aP aR uE uR uL) (C_leaf_code:Callee P w K mg base 1 "leaf_code" ["part"] (spLeafC K)):Callee P w K mg base 2 "begun_leaf_walking" ["part", "sure"] (spLeafW K):=by
 refine F.ok sc_begun_leaf_walking (fun vs H Q E h=>?_) (fun f cdv A outer s H vs Q E hr h=>?_)
 ·obtain ⟨v,p,sr,rfl,_⟩:=h; rfl
 obtain ⟨v,p,sr,rfl,hp,lf,q⟩:=h
 refine ⟨_,(pss_cons (ps_set (i:=2) sc_begun_leaf_walking.nd rfl (Or.inl rfl) (pe_ifExp (pt_cmpR op_eq (pe_ix ix_tup (pv 0) pe_int (fun _ _=>rfl)) pe_str (nomark _)) (pe_lst (pa_cons (pe_ix ix_tup (pv 0) pe_int (fun _ _=>rfl)) pa_nil)) (pe_lst pa_nil)))
  (pss_cons (ps_set (i:=3) sc_begun_leaf_walking.nd rfl (Or.inl rfl) (pe_ifExp (pt_val (pv 1)) (pv 2) (pe_lst pa_nil)))
  (pss_one (ps_ret (pe_tup (pa_cons (pe_lst (pa_cons (pe_callC C_leaf_code hr rfl pass0 (pa_cons (pv 0) pa_nil)) pa_nil)) (pa_cons (pv 1) (pa_cons (pv 3) (pa_cons (pv 2) pa_nil))))))))),?_⟩
 have fin:∀ (l1:Addr) (xs:List Int) (hl:H l1 = none) (e1:wbeg [] sr p = ([(beg [] p).1],sr,(if sr = true then xs else []),xs)),(tAsg (tIf (tB (tVar 1)) (tVar 2) (tLst tNil)) (gName 3)) { nx:=tRet (tTup (tCons (tLst (tCons (tCall (spLeafC K) [] E0 (tCons (tVar 0) tNil)) tNil)) (tCons (tVar 1) (tCons (tVar 3) (tCons (tVar 2) tNil))))) { nx:=fun _ H'=>Q .non H',rt:=Q },rt:=Q } [some v,some (.bl sr),some (.ref l1),none] (upd H l1 (.lst (xs.map V.int))):=by
  intro l1 xs hl e1
  rw [e1] at q
  have g1:=same_new hl (.lst (xs.map V.int))
  refine ⟨_,rfl,_,rfl,?_⟩
  cases sr with
  | true =>
   refine iteT ⟨_,rfl,_,rfl,v,p,rfl,hp.mono g1.tp,lf,(by show 1≤sizeLine; decide),fun c hc=>?_⟩
   have g2:=same_new hc (.lst [.int (beg [] p).1])
   refine ⟨_,rfl,_,rfl,_,rfl,(by show 4≤sizeLine; decide),fun t ht=>?_⟩
   have g3:=same_new ht (.tup [.ref c,.bl true,.ref l1,.ref l1])
   exact q _ _ (g1.trans (g2.trans g3)) ⟨c,l1,l1,upd_same,g3 _ _ upd_same,g3 _ _ (g2 _ _ upd_same),g3 _ _ (g2 _ _ upd_same)⟩
  | false =>
   refine iteF ⟨(by show 0≤sizeLine; decide),fun m hm=>?_⟩
   have g0:=same_new hm (.lst [])
   refine ⟨_,rfl,v,p,rfl,hp.mono (g1.trans g0).tp,lf,(by show 1≤sizeLine; decide),fun c hc=>?_⟩
   have g2:=same_new hc (.lst [.int (beg [] p).1])
   refine ⟨_,rfl,_,rfl,_,rfl,(by show 4≤sizeLine; decide),fun t ht=>?_⟩
   have g3:=same_new ht (.tup [.ref c,.bl false,.ref m,.ref l1])
   exact q _ _ (g1.trans (g0.trans (g2.trans g3))) ⟨c,m,l1,upd_same,g3 _ _ upd_same,g3 _ _ (g2 _ _ upd_same),g3 _ _ (g2 _ _ (g0 _ _ upd_same))⟩
 cases p with
 | nothing =>
  obtain ⟨a,vs,rfl,hs,hx⟩:=PAt.get hp
  obtain ⟨x0,rfl,h0⟩:=hx.one
  cases h0.str
  exact ⟨_,rfl,a,_,_,_,rfl,rfl,hs.sq,atI_nat (j:=0) rfl,rfl,_,rfl,iteNe (by decide +kernel) ⟨(by show 0≤sizeLine; decide),fun l hl=>fin l [] hl (by cases sr <;> rfl)⟩⟩
 | exit x =>
  obtain ⟨a,vs,rfl,hs,hx⟩:=PAt.get hp
  obtain ⟨x0,x1,rfl,h0,h1⟩:=hx.two
  cases h0.str
  cases h1.int
  exact ⟨_,rfl,a,_,_,_,rfl,rfl,hs.sq,atI_nat (j:=0) rfl,rfl,_,rfl,iteNe (by decide +kernel) ⟨(by show 0≤sizeLine; decide),fun l hl=>fin l [] hl (by cases sr <;> rfl)⟩⟩
 | rest x =>
  obtain ⟨a,vs,rfl,hs,hx⟩:=PAt.get hp
  obtain ⟨x0,x1,rfl,h0,h1⟩:=hx.two
  cases h0.str
  cases h1.int
  exact ⟨_,rfl,a,_,_,_,rfl,rfl,hs.sq,atI_nat (j:=0) rfl,rfl,_,rfl,iteNe (by decide +kernel) ⟨(by show 0≤sizeLine; decide),fun l hl=>fin l [] hl (by cases sr <;> rfl)⟩⟩
 | stay x =>
  obtain ⟨a,vs,rfl,hs,hx⟩:=PAt.get hp
  obtain ⟨x0,x1,rfl,h0,h1⟩:=hx.two
  cases h0.str
  exact ⟨_,rfl,a,_,_,_,rfl,rfl,hs.sq,atI_nat (j:=0) rfl,rfl,_,rfl,iteNe (by decide +kernel) ⟨(by show 0≤sizeLine; decide),fun l hl=>fin l [] hl (by cases sr <;> rfl)⟩⟩
 | send x =>
  obtain ⟨a,vs,rfl,hs,hx⟩:=PAt.get hp
  obtain ⟨x0,x1,rfl,h0,h1⟩:=hx.two
  cases h0.str
  cases h1.int
  exact ⟨_,rfl,a,_,_,_,rfl,rfl,hs.sq,atI_nat (j:=0) rfl,rfl,_,rfl,iteEq ⟨_,rfl,a,_,_,_,rfl,rfl,hs.sq,atI_nat (j:=1) rfl,(by show 1≤sizeLine; decide),fun l hl=>fin l [x] hl (by cases sr <;> rfl)⟩⟩
 | _=>cases lf
end
inductive WkN (s:Addr) (H:Hp) (t:Addr) (d:Wk):Prop
 | mk (l1 l2 l3:Addr) (h0:H t = some (.tup [.ref l1,.bl d.2.1,.ref l2,.ref l3])) (h1:H l1 = some (.lst (d.1.map V.int))) (h2:H l2 = some (.lst (d.2.2.1.map V.int))) (h3:H l3 = some (.lst (d.2.2.2.map V.int))) (n0:t≠s) (n1:l1≠s) (n2:l2≠s) (n3:l3≠s):WkN s H t d
def spWalkG (K:PySem.W.Frag) (n:Nat):Sp:=fun vs H Q _=>∃ v p sv st s kl kn,vs = [v,sv,.bl s,.ref kl]∧PAt K H (Pt.nd p) v∧StAt K H st sv∧SqL K H kl ((kn:List (Option Bool)).map vO)∧(st = none∨(p.hg≤n∧p.rc≤900))∧(pb p st).hg≤n∧(pb p st).sc < 64∧okW kn.length p∧∀ (t:Addr) (H':Hp),Same H H'→WkAt H' t (walkD kn s p st)→(∀ (a:Addr) (xs:List Addr),H a = some (.lst (xs.map V.ref))→WkN a H' t (walkD kn s p st))→Q (.ref t) H'
def selW:Option Bool→Wk→Wk→Wk→Wk
 | none,a,_,_=>a
 | some true,_,b,_=>b
 | some false,_,_,c=>c
section
variable {P:Program} {w:World} {K:PySem.W.Frag} {mg:Str→Option Value} {base:Heap} {aN aP aR:Addr} {uE uR uL:Value}
theorem wbeg_leaf {p:Pt} (h:isLf p = true) (kn kn2:List (Option Bool)) (s:Bool):wbeg kn s p = wbeg kn2 s p:=by cases p <;> first | rfl | cases h
theorem wbeg_iff {kn:List (Option Bool)} {s:Bool} {x:Int} {p q:Pt} {o:Option Bool} (h:(kn[x.toNat]?).getD none = o):wbeg kn s (.iff x p q) = selW o (oneW (wbeg kn false p) (wbeg kn false q)) (wbeg kn s p) (wbeg kn s q):=by
 subst h
 simp only [wbeg]
 cases (kn[x.toNat]?).getD none with
 | none=>rfl
 | some b=>cases b <;> rfl
set_option maxHeartbeats 64000000 in
theorem ok_wb {n:Nat} (F:FunA K mg "begun_walking" "begun" ["part", "sure", "known"] s_begun_walking) (T:TxtR K mg aN aP aR uE uR uL) (C_begun_leaf_walking:Callee P w K mg base 2 "begun_leaf_walking" ["part", "sure"] (spLeafW K)) (C_in_turn_walking:Callee P w K mg base 1 "in_turn_walking" ["first", "second"] spTurnW) (C_side_by_side_walking:Callee P w K mg base 1 "side_by_side_walking" ["first", "second"] spSideW) (C_one_of:Callee P w K mg base 1 "one_of" ["first", "second"] spOneW) (C_recoded:Callee P w K mg base 1 "recoded" ["inner", "codes"] spRecW)
  (C_code_of_again:Callee P w K mg base 1 "code_of_again" ["code"] spAgC) (C_code_of_trap:Callee P w K mg base 1 "code_of_trap" ["code"] spTrC) (C_begun_walking:Callee P w K mg base (n + 2) "begun_walking" ["part", "sure", "known"] (spWb K n)):Callee P w K mg base (n + 3) "begun_walking" ["part", "sure", "known"] (spWb K (n + 1)):=by
 refine F.ok sc_begun_walking (fun vs H Q E h=>?_) (fun f cdv A outer s H vs Q E hr h=>?_)
 ·obtain ⟨v,p,sr,kl,kn,rfl,_⟩:=h; rfl
 obtain ⟨v,p,sr,kl,kn,rfl,hp,hS,hh,hsc,ok,q⟩:=h
 refine ⟨_,(pss_cons (ps_set (i:=3) sc_begun_walking.nd rfl (Or.inl rfl) (pe_ix ix_tup (pv 0) pe_int (fun _ _=>rfl)))
  (pss_cons (ps_if (pt_cmpR op_eq (pv 3) pe_str (nomark _))
   (pss_cons (ps_set (i:=4) sc_begun_walking.nd rfl (Or.inl rfl) (pe_callC C_begun_walking hr rfl pass0 (pa_cons (pe_ix ix_tup (pv 0) pe_int (fun _ _=>rfl)) (pa_cons (pv 1) (pa_cons (pv 2) pa_nil)))))
  (pss_one (ps_ret (pe_ifExp (pt_cmpR op_in_seq (pe_glob rfl T.m_ENDED T.r_ENDED) (pe_ix ix_tup (pv 4) pe_int (fun _ _=>rfl)) (by rfl)) (pe_callC C_in_turn_walking hr rfl pass0 (pa_cons (pv 4) (pa_cons (pe_callC C_begun_walking hr rfl pass0 (pa_cons (pe_ix ix_tup (pv 0) pe_int (fun _ _=>rfl)) (pa_cons (pe_ix ix_tup (pv 4) pe_int (fun _ _=>rfl)) (pa_cons (pv 2) pa_nil)))) pa_nil))) (pv 4)))))
   pss_nil)
  (pss_cons (ps_if (pt_cmpR op_eq (pv 3) pe_str (nomark _))
   (pss_one (ps_ret (pe_callC C_side_by_side_walking hr rfl pass0 (pa_cons (pe_callC C_begun_walking hr rfl pass0 (pa_cons (pe_ix ix_tup (pv 0) pe_int (fun _ _=>rfl)) (pa_cons (pv 1) (pa_cons (pv 2) pa_nil)))) (pa_cons (pe_callC C_begun_walking hr rfl pass0 (pa_cons (pe_ix ix_tup (pv 0) pe_int (fun _ _=>rfl)) (pa_cons (pv 1) (pa_cons (pv 2) pa_nil)))) pa_nil)))))
   pss_nil)
  (pss_cons (ps_if (pt_cmpR op_eq (pv 3) pe_str (nomark _))
   (pss_cons (ps_if (pt_cmpR op_isN (pe_ix ix_list (pv 2) (pe_ix ix_tup (pv 0) pe_int (fun _ _=>rfl)) (fun _ _=>rfl)) pe_non (nomark _))
   (pss_one (ps_ret (pe_callC C_one_of hr rfl pass0 (pa_cons (pe_callC C_begun_walking hr rfl pass0 (pa_cons (pe_ix ix_tup (pv 0) pe_int (fun _ _=>rfl)) (pa_cons pe_bl (pa_cons (pv 2) pa_nil)))) (pa_cons (pe_callC C_begun_walking hr rfl pass0 (pa_cons (pe_ix ix_tup (pv 0) pe_int (fun _ _=>rfl)) (pa_cons pe_bl (pa_cons (pv 2) pa_nil)))) pa_nil)))))
   pss_nil)
  (pss_one (ps_ret (pe_callC C_begun_walking hr rfl pass0 (pa_cons (pe_ifExp (pt_val (pe_ix ix_list (pv 2) (pe_ix ix_tup (pv 0) pe_int (fun _ _=>rfl)) (fun _ _=>rfl))) (pe_ix ix_tup (pv 0) pe_int (fun _ _=>rfl)) (pe_ix ix_tup (pv 0) pe_int (fun _ _=>rfl))) (pa_cons (pv 1) (pa_cons (pv 2) pa_nil)))))))
   pss_nil)
  (pss_cons (ps_if (pt_cmpR op_eq (pv 3) pe_str (nomark _))
   (pss_cons (ps_set (i:=5) sc_begun_walking.nd rfl (Or.inl rfl) (pe_callC C_begun_walking hr rfl pass0 (pa_cons (pe_ix ix_tup (pv 0) pe_int (fun _ _=>rfl)) (pa_cons (pv 1) (pa_cons (pv 2) pa_nil)))))
  (pss_one (ps_ret (pe_callC C_recoded hr rfl pass0 (pa_cons (pv 5) (pa_cons (pe_comp (g:=(gName 0)) (tc:=tAlways) (te:=(tCall spAgC [] E0 (tCons (tVar 0) tNil))) ["code"] [] rfl (compOk (defScope s_begun_walking) ["part", "sure", "known", "word", "first", "inner"] (by decide +kernel)) (pi_list (pe_ix ix_tup (pv 5) pe_int (fun _ _=>rfl))) (fun s2 H2 fp cl C=>pg_name (i:=0) (show List.Nodup [("code" : Str)] from by decide +kernel) rfl (Or.inl rfl)) (gkeep_name (by decide)) (fun s2 H2 fp cl C=>pif_nil) (fun s2 H2 fp cl C=>(pe_callC C_code_of_again hr rfl pass0 (pa_cons (pv 0) pa_nil)))) pa_nil))))))
   pss_nil)
  (pss_cons (ps_if (PW.pt (pw_or (pt_cmpR op_eq (pv 3) pe_str (nomark _)) (pw_or1 (pt_cmpR op_eq (pv 3) pe_str (nomark _)))))
   (pss_one (ps_ret (pe_callC C_begun_walking hr rfl pass0 (pa_cons (pe_ix ix_tup (pv 0) pe_int (fun _ _=>rfl)) (pa_cons (pv 1) (pa_cons (pv 2) pa_nil))))))
   pss_nil)
  (pss_cons (ps_if (pt_cmpR op_eq (pv 3) pe_str (nomark _))
   (pss_cons (ps_set (i:=5) sc_begun_walking.nd rfl (Or.inl rfl) (pe_callC C_begun_walking hr rfl pass0 (pa_cons (pe_ix ix_tup (pv 0) pe_int (fun _ _=>rfl)) (pa_cons (pv 1) (pa_cons (pv 2) pa_nil)))))
  (pss_one (ps_ret (pe_callC C_recoded hr rfl pass0 (pa_cons (pv 5) (pa_cons (pe_comp (g:=(gName 0)) (tc:=tAlways) (te:=(tCall spTrC [] E0 (tCons (tVar 0) tNil))) ["code"] [] rfl (compOk (defScope s_begun_walking) ["part", "sure", "known", "word", "first", "inner"] (by decide +kernel)) (pi_list (pe_ix ix_tup (pv 5) pe_int (fun _ _=>rfl))) (fun s2 H2 fp cl C=>pg_name (i:=0) (show List.Nodup [("code" : Str)] from by decide +kernel) rfl (Or.inl rfl)) (gkeep_name (by decide)) (fun s2 H2 fp cl C=>pif_nil) (fun s2 H2 fp cl C=>(pe_callC C_code_of_trap hr rfl pass0 (pa_cons (pv 0) pa_nil)))) pa_nil))))))
   pss_nil)
  (pss_one (ps_ret (pe_callC C_begun_leaf_walking hr rfl pass0 (pa_cons (pv 0) (pa_cons (pv 1) pa_nil)))))))))))),?_⟩
 obtain ⟨a,vs,rfl,hs⟩:=wd_at hp
 refine ⟨_,rfl,a,_,_,_,rfl,rfl,hs.sq,atI_nat (j:=0) rfl,_,rfl,rfl,_,rfl,iteW (fun e=>?_) fun n1=>⟨_,rfl,rfl,_,rfl,iteW (fun e=>?_) fun n2=>⟨_,rfl,rfl,_,rfl,iteW (fun e=>?_) fun n3=>⟨_,rfl,rfl,_,rfl,iteW (fun e=>?_) fun n4=>⟨_,rfl,rfl,_,rfl,iteW (fun e=>iteT ?_) fun n5=>⟨_,rfl,rfl,_,rfl,iteW (fun e=>?_) fun n6=>⟨_,rfl,rfl,_,rfl,iteW (fun e=>?_) fun n7=>?_⟩⟩⟩⟩⟩⟩⟩
 ·obtain ⟨p1,p2,rfl⟩:=wd_thn e
  obtain ⟨a',vs',ev,hs,hx⟩:=PAt.get hp
  cases ev
  obtain ⟨x0,x1,x2,rfl,h0,h1,h2⟩:=hx.three
  cases h0.str
  refine ⟨_,rfl,a,_,_,_,rfl,rfl,hs.sq,atI_nat (j:=1) rfl,_,rfl,_,rfl,x1,p1,sr,kl,kn,rfl,h1,hS,hgl hh,adl hsc,ok.1,fun t1 H1 g1 R1=>?_⟩
  obtain ⟨l1,l2,l3,a1,a2,a3,a4⟩:=id R1
  refine ⟨_,rfl,t1,_,_,_,rfl,rfl,SqT.of a1,atI_nat (j:=0) rfl,l1,_,rfl,.inl (SqL.of a2),rfl,flat_ints _,_,rfl,iteM (fun c=>?_) fun c=>?_⟩
  ·refine ⟨_,rfl,_,rfl,a,_,_,_,rfl,rfl,(hs.mono g1.tp).sq,atI_nat (j:=2) rfl,_,rfl,t1,_,_,_,rfl,rfl,SqT.of a1,atI_nat (j:=1) rfl,_,rfl,x2,p2,_,kl,kn,rfl,h2.mono g1.tp,g1.seq hS,hgr hh,adr hsc,ok.2,fun t2 H2 g2 R2=>?_⟩
   refine ⟨t1,t2,_,_,rfl,R1.mono g2,R2,smW_beg ok.1 (adl hsc) sr,smW_beg ok.2 (adr hsc) _,fun t H3 g3 R3=>?_⟩
   exact q _ _ ((g1.trans g2).trans g3) (by rw [show wbeg kn sr (.thn p1 p2) = turnW (wbeg kn sr p1) (wbeg kn (wbeg kn sr p1).2.1 p2) from by simp only [wbeg]; rw [if_pos c]]; exact R3)
  ·exact ⟨_,rfl,q _ _ g1 (by rw [show wbeg kn sr (.thn p1 p2) = wbeg kn sr p1 from by simp only [wbeg]; rw [if_neg c]]; exact R1)⟩
 ·obtain ⟨p1,p2,rfl⟩:=wd_bes e
  obtain ⟨a',vs',ev,hs,hx⟩:=PAt.get hp
  cases ev
  obtain ⟨x0,x1,x2,rfl,h0,h1,h2⟩:=hx.three
  cases h0.str
  refine ⟨_,rfl,a,_,_,_,rfl,rfl,hs.sq,atI_nat (j:=1) rfl,_,rfl,_,rfl,x1,p1,sr,kl,kn,rfl,h1,hS,hgl hh,adl hsc,ok.1,fun t1 H1 g1 R1=>?_⟩
  refine ⟨_,rfl,a,_,_,_,rfl,rfl,(hs.mono g1.tp).sq,atI_nat (j:=2) rfl,_,rfl,_,rfl,x2,p2,sr,kl,kn,rfl,h2.mono g1.tp,g1.seq hS,hgr hh,adr hsc,ok.2,fun t2 H2 g2 R2=>?_⟩
  exact ⟨t1,t2,_,_,rfl,R1.mono g2,R2,smW_beg ok.1 (adl hsc) sr,smW_beg ok.2 (adr hsc) sr,fun t H3 g3 R3=>q _ _ ((g1.trans g2).trans g3) R3⟩
 ·obtain ⟨sn,p1,p2,rfl⟩:=wd_iff e
  obtain ⟨a',vs',ev,hs,hx⟩:=PAt.get hp
  cases ev
  obtain ⟨x0,x1,x2,x3,rfl,h0,h1,h2,h3⟩:=hx.four
  cases h0.str
  cases h1.int
  have hb:sn.toNat < kn.length:=tn_lt ok.1
  obtain ⟨o,eo⟩:∃ o,kn[sn.toNat]? = some o:=⟨_,List.getElem?_eq_getElem hb⟩
  have ea:atI (kn.map vO) sn = some (vO o):=by
   have:=atI_nat (xs:=kn.map vO) (j:=sn.toNat) (v:=vO o) (by rw [List.getElem?_map,eo]; rfl)
   rw [Int.toNat_of_nonneg ok.1.1] at this
   exact this
  have ew:=fun s=>wbeg_iff (kn:=kn) (s:=s) (x:=sn) (p:=p1) (q:=p2) (o:=o) (by rw [eo]; rfl)
  refine ⟨_,rfl,_,rfl,a,_,_,_,rfl,rfl,hs.sq,atI_nat (j:=1) rfl,kl,_,_,_,rfl,rfl,hS,ea,rfl,_,rfl,?_⟩
  rw [ew] at q
  cases o with
  | none =>
   refine iteT ?_
   refine ⟨_,rfl,a,_,_,_,rfl,rfl,hs.sq,atI_nat (j:=2) rfl,_,rfl,x2,p1,false,kl,kn,rfl,h2,hS,hgl hh,adl hsc,ok.2.1,fun t1 H1 g1 R1=>?_⟩
   refine ⟨_,rfl,a,_,_,_,rfl,rfl,(hs.mono g1.tp).sq,atI_nat (j:=3) rfl,_,rfl,x3,p2,false,kl,kn,rfl,h3.mono g1.tp,g1.seq hS,hgr hh,adr hsc,ok.2.2,fun t2 H2 g2 R2=>?_⟩
   exact ⟨t1,t2,_,_,rfl,R1.mono g2,R2,smW_beg ok.2.1 (adl hsc) false,smW_beg ok.2.2 (adr hsc) false,fun t H3 g3 R3=>q _ _ ((g1.trans g2).trans g3) R3⟩
  | some b =>
   refine iteF ?_
   refine ⟨_,rfl,_,rfl,a,_,_,_,rfl,rfl,hs.sq,atI_nat (j:=1) rfl,kl,_,_,_,rfl,rfl,hS,ea,b,rfl,?_⟩
   cases b with
   | true=>exact iteT ⟨_,rfl,a,_,_,_,rfl,rfl,hs.sq,atI_nat (j:=2) rfl,_,rfl,_,rfl,x2,p1,sr,kl,kn,rfl,h2,hS,hgl hh,adl hsc,ok.2.1,fun t1 H1 g1 R1=>q _ _ g1 R1⟩
   | false=>exact iteF ⟨_,rfl,a,_,_,_,rfl,rfl,hs.sq,atI_nat (j:=3) rfl,_,rfl,_,rfl,x3,p2,sr,kl,kn,rfl,h3,hS,hgr hh,adr hsc,ok.2.2,fun t1 H1 g1 R1=>q _ _ g1 R1⟩
 ·obtain ⟨k,p1,rfl⟩:=wd_again e
  obtain ⟨a',vs',ev,hs,hx⟩:=PAt.get hp
  cases ev
  obtain ⟨x0,x1,x2,rfl,h0,h1,h2⟩:=hx.three
  cases h0.str
  cases h1.int
  refine ⟨_,rfl,a,_,_,_,rfl,rfl,hs.sq,atI_nat (j:=2) rfl,_,rfl,_,rfl,x2,p1,sr,kl,kn,rfl,h2,hS,Nat.le_of_succ_le_succ hh,hsc,ok,fun t1 H1 g1 R1=>?_⟩
  obtain ⟨l1,l2,l3,a1,a2,a3,a4⟩:=id R1
  have sm:=smW_beg (kn:=kn) (p:=p1) ok hsc sr
  refine ⟨_,rfl,_,rfl,t1,_,_,_,rfl,rfl,SqT.of a1,atI_nat (j:=0) rfl,l1,rfl,⟨_,SqL.of a2⟩,comp_list (K:=K) (xs:=(wbeg kn sr p1).1.map V.int) (fun i ys H'=>H' = H1∧ys = (((wbeg kn sr p1).1.take i).map agC).map V.int) ⟨rfl,rfl⟩ (by rw [List.length_map]; exact small (leKn sm.1 (by decide))) (fun i ys H' ⟨e,_⟩=>by rw [e]; exact SqL.of a2) ?_ ?_⟩
  ·rintro j z ys H' N hj ⟨rfl,rfl⟩ hN hyl
   rw [List.getElem?_map] at hj
   cases ej:(wbeg kn sr p1).1[j]? with
   | none=>rw [ej] at hj; cases hj
   | some c =>
    rw [ej] at hj
    cases hj
    refine ⟨_,rfl,c,rfl,hN _ _ ?_ ⟨rfl,?_⟩⟩
    ·exact snoc_le hyl
    ·rw [List.take_add_one,ej,List.map_append,List.map_append]; rfl
  ·rintro ys H' hyl ⟨rfl,rfl⟩ D hD
   have g2:=same_new hD (.lst ((((wbeg kn sr p1).1.take ((wbeg kn sr p1).1.map V.int).length).map agC).map V.int))
   have hD0:(upd H' D (.lst ((((wbeg kn sr p1).1.take ((wbeg kn sr p1).1.map V.int).length).map agC).map V.int))) D = some (.lst (((wbeg kn sr p1).1.map agC).map V.int)):=by rw [upd_same,List.length_map,List.take_length]
   exact ⟨t1,D,_,_,rfl,R1.mono g2,hD0,by rw [List.length_map]; exact sm.1,fun t H3 g3 R3=>q _ _ ((g1.trans g2).trans g3) R3⟩
 ·obtain ⟨s0,p1,rfl⟩:=wd_hold e
  obtain ⟨a',vs',ev,hs,hx⟩:=PAt.get hp
  cases ev
  obtain ⟨x0,x1,x2,rfl,h0,h1,h2⟩:=hx.three
  cases h0.str
  cases h1.int
  exact ⟨_,rfl,a,_,_,_,rfl,rfl,hs.sq,atI_nat (j:=2) rfl,_,rfl,_,rfl,x2,p1,sr,kl,kn,rfl,h2,hS,Nat.le_of_succ_le_succ hh,hsc,ok.2,fun t1 H1 g1 R1=>q _ _ g1 R1⟩
 ·obtain ⟨s0,p1,rfl⟩:=wd_watch e
  obtain ⟨a',vs',ev,hs,hx⟩:=PAt.get hp
  cases ev
  obtain ⟨x0,x1,x2,rfl,h0,h1,h2⟩:=hx.three
  cases h0.str
  cases h1.int
  exact ⟨_,rfl,a,_,_,_,rfl,rfl,hs.sq,atI_nat (j:=2) rfl,_,rfl,_,rfl,x2,p1,sr,kl,kn,rfl,h2,hS,Nat.le_of_succ_le_succ hh,hsc,ok.2,fun t1 H1 g1 R1=>q _ _ g1 R1⟩
 ·obtain ⟨p1,rfl⟩:=wd_trap e
  obtain ⟨a',vs',ev,hs,hx⟩:=PAt.get hp
  cases ev
  obtain ⟨x0,x1,rfl,h0,h1⟩:=hx.two
  cases h0.str
  refine ⟨_,rfl,a,_,_,_,rfl,rfl,hs.sq,atI_nat (j:=1) rfl,_,rfl,_,rfl,x1,p1,sr,kl,kn,rfl,h1,hS,Nat.le_of_succ_le_succ hh,hsc,ok,fun t1 H1 g1 R1=>?_⟩
  obtain ⟨l1,l2,l3,a1,a2,a3,a4⟩:=id R1
  have sm:=smW_beg (kn:=kn) (p:=p1) ok hsc sr
  refine ⟨_,rfl,_,rfl,t1,_,_,_,rfl,rfl,SqT.of a1,atI_nat (j:=0) rfl,l1,rfl,⟨_,SqL.of a2⟩,comp_list (K:=K) (xs:=(wbeg kn sr p1).1.map V.int) (fun i ys H'=>H' = H1∧ys = (((wbeg kn sr p1).1.take i).map trapC).map V.int) ⟨rfl,rfl⟩ (by rw [List.length_map]; exact small (leKn sm.1 (by decide))) (fun i ys H' ⟨e,_⟩=>by rw [e]; exact SqL.of a2) ?_ ?_⟩
  ·rintro j z ys H' N hj ⟨rfl,rfl⟩ hN hyl
   rw [List.getElem?_map] at hj
   cases ej:(wbeg kn sr p1).1[j]? with
   | none=>rw [ej] at hj; cases hj
   | some c =>
    rw [ej] at hj
    cases hj
    refine ⟨_,rfl,c,rfl,hN _ _ ?_ ⟨rfl,?_⟩⟩
    ·exact snoc_le hyl
    ·rw [List.take_add_one,ej,List.map_append,List.map_append]; rfl
  ·rintro ys H' hyl ⟨rfl,rfl⟩ D hD
   have g2:=same_new hD (.lst ((((wbeg kn sr p1).1.take ((wbeg kn sr p1).1.map V.int).length).map trapC).map V.int))
   have hD0:(upd H' D (.lst ((((wbeg kn sr p1).1.take ((wbeg kn sr p1).1.map V.int).length).map trapC).map V.int))) D = some (.lst (((wbeg kn sr p1).1.map trapC).map V.int)):=by rw [upd_same,List.length_map,List.take_length]
   exact ⟨t1,D,_,_,rfl,R1.mono g2,hD0,by rw [List.length_map]; exact sm.1,fun t H3 g3 R3=>q _ _ ((g1.trans g2).trans g3) R3⟩
 ·have lf:=wd_leaf n1 n2 n3 n4 n5 n6 n7
  exact ⟨_,rfl,_,rfl,_,p,sr,rfl,hp,lf,fun t1 H1 g1 R1=>q _ _ g1 (by rw [wbeg_leaf lf kn [] sr]; exact R1)⟩
theorem wb_all (F:FunA K mg "begun_walking" "begun" ["part", "sure", "known"] s_begun_walking) (T:TxtR K mg aN aP aR uE uR uL) (C1:Callee P w K mg base 2 "begun_leaf_walking" ["part", "sure"] (spLeafW K)) (C2:Callee P w K mg base 1 "in_turn_walking" ["first", "second"] spTurnW) (C3:Callee P w K mg base 1 "side_by_side_walking" ["first", "second"] spSideW) (C4:Callee P w K mg base 1 "one_of" ["first", "second"] spOneW) (C5:Callee P w K mg base 1 "recoded" ["inner", "codes"] spRecW)
  (C6:Callee P w K mg base 1 "code_of_again" ["code"] spAgC) (C7:Callee P w K mg base 1 "code_of_trap" ["code"] spTrC):∀ n,Callee P w K mg base (n + 2) "begun_walking" ["part", "sure", "known"] (spWb K n)
 | 0=>(F.zero (sp:=spWb K 0) fun vs H Q E h=>by obtain ⟨v,p,sr,kl,kn,_,_,_,hh,_⟩:=h; exact absurd hh (Nat.not_le_of_gt (Pt.hg_pos p))).mono (by decide)
 | n + 1=>ok_wb F T C1 C2 C3 C4 C5 C6 C7 (wb_all F T C1 C2 C3 C4 C5 C6 C7 n)
set_option maxHeartbeats 16000000 in
theorem ok_walkG {n:Nat} (F:FunM K mg "walked" ["part", "state", "sure", "known"] s_walked) (T:TxtR K mg aN aP aR uE uR uL) (C_part_to_begin:Callee P w K mg base (n + 3) "part_to_begin" ["part", "state"] (spPtb K n)) (C_begun_walking:Callee P w K mg base (n + 2) "begun_walking" ["part", "sure", "known"] (spWb K n)) :
  Callee P w K mg base (n + 4) "walked" ["part", "state", "sure", "known"] (spWalkG K n):=by
 refine F.ok sc_walked (fun vs H Q E h=>?_) (fun f cdv A outer s H vs Q E hr h=>?_)
 ·obtain ⟨v,p,sv,st,sr,kl,kn,rfl,_⟩:=h; rfl
 obtain ⟨v,p,sv,st,sr,kl,kn,rfl,hp,hst,hS,hb,k1,k2,ok,q⟩:=h
 refine ⟨_,(pss_cons (ps_set (i:=4) sc_walked.nd rfl (Or.inl rfl) (pe_callC C_begun_walking hr rfl pass0 (pa_cons (pe_callC C_part_to_begin hr rfl pass0 (pa_cons (pv 0) (pa_cons (pv 1) pa_nil))) (pa_cons (pv 2) (pa_cons (pv 3) pa_nil)))))
  (pss_one (ps_ret (pe_tup (pa_cons (pe_ix ix_tup (pv 4) pe_int (fun _ _=>rfl)) (pa_cons (pe_ix ix_tup (pv 4) pe_int (fun _ _=>rfl)) (pa_cons (pe_sset rfl rfl T.n_sorted rfl T.n_set (pe_ix ix_tup (pv 4) pe_int (fun _ _=>rfl))) (pa_cons (pe_sset rfl rfl T.n_sorted rfl T.n_set (pe_ix ix_tup (pv 4) pe_int (fun _ _=>rfl))) pa_nil)))))))),?_⟩
 refine ⟨_,rfl,_,rfl,v,p,sv,st,rfl,hp,hst,hb,fun v1 H1 g1 P1=>?_⟩
 refine ⟨_,rfl,_,rfl,v1,pb p st,sr,kl,kn,rfl,P1,g1.seq hS,k1,lt9 k2,okW_pb ok st,fun t H2 g2 ⟨l1,l2,l3,a1,a2,a3,a4⟩=>?_⟩
 have wl:=wbeg_len kn (pb p st) sr
 refine ⟨_,rfl,t,_,_,_,rfl,rfl,SqT.of a1,atI_nat (j:=0) rfl,_,rfl,t,_,_,_,rfl,rfl,SqT.of a1,atI_nat (j:=1) rfl,_,rfl,t,_,_,_,rfl,rfl,SqT.of a1,atI_nat (j:=2) rfl,l2,_,rfl,SqL.of a3,Nat.lt_of_le_of_lt wl.1 k2,fun r1 hr1=>?_⟩
 have g3:=same_new hr1 (.lst ((nub (wbeg kn sr (pb p st)).2.2.1).map V.int))
 refine ⟨_,rfl,t,_,_,_,rfl,rfl,SqT.of (g3 _ _ a1),atI_nat (j:=3) rfl,l3,_,rfl,SqL.of (g3 _ _ a4),Nat.lt_of_le_of_lt wl.2 k2,fun r2 hr2=>?_⟩
 have g4:=same_new hr2 (.lst ((nub (wbeg kn sr (pb p st)).2.2.2).map V.int))
 refine ⟨(by show 4≤sizeLine; decide),fun t2 ht2=>?_⟩
 have g5:=same_new ht2 (.tup [.ref l1,.bl (wbeg kn sr (pb p st)).2.1,.ref r1,.ref r2])
 have gA:=(g1.trans g2).trans (g3.trans (g4.trans g5))
 have c1:=g5 _ _ (g4 _ _ (g3 _ _ a2))
 have c2:=g5 _ _ (g4 _ _ (upd_same (H:=H2) (a:=r1) (o:=.lst ((nub (wbeg kn sr (pb p st)).2.2.1).map V.int))))
 have c3:=g5 _ _ (upd_same (H:=(upd H2 r1 (.lst ((nub (wbeg kn sr (pb p st)).2.2.1).map V.int)))) (a:=r2) (o:=.lst ((nub (wbeg kn sr (pb p st)).2.2.2).map V.int)))
 have ne:=(cw_beg kn (okW_pb ok st) sr).ne
 have f1:=(g1.trans g2).free hr1
 have f2:=((g1.trans g2).trans g3).free hr2
 have f3:=((g1.trans g2).trans (g3.trans g4)).free ht2
 refine q _ _ gA ⟨l1,r1,r2,upd_same,c1,c2,c3⟩ fun a xs ha=>⟨l1,r1,r2,upd_same,c1,c2,c3,(ne_of_none ha f3).symm,fun e=>?_,(ne_of_none ha f1).symm,(ne_of_none ha f2).symm⟩
 subst e
 have z:=gA _ _ ha
 rw [c1] at z
 have z:=HO.lst.inj (Option.some.inj z)
 generalize (wbeg kn sr (pb p st)).1 = cs at z ne
 cases cs with
 | nil=>exact absurd ne (by simp)
 | cons c cs =>
  cases xs with
  | nil=>cases z
  | cons y ys=>cases z
theorem ok_walk {n:Nat} (C:Callee P w K mg base (n + 4) "walked" ["part", "state", "sure", "known"] (spWalkG K n)):Callee P w K mg base (n + 4) "walked" ["part", "state", "sure", "known"] (spWalk K n):=C.imp fun vs H Q E h=>by
 obtain ⟨v,p,sv,st,sr,kl,kn,rfl,hp,hst,hS,hh,hsc,hrc,ok,q⟩:=h
 have b:=pb_bd p st
 exact ⟨v,p,sv,st,sr,kl,kn,rfl,hp,hst,hS,.inr ⟨hh,lt9 hrc⟩,Nat.le_trans b.1 hh,Nat.lt_of_le_of_lt b.2.1 hsc,ok,fun t H' g wk _=>q t H' g wk⟩
end
def okX:Pt→Prop
 | .exit d=>0≤d
 | .iff _ p q=>okX p∧okX q
 | .thn p q=>okX p∧okX q
 | .bes p q=>okX p∧okX q
 | .again _ p=>okX p
 | .hold _ p=>okX p
 | .watch _ p=>okX p
 | .trap p=>okX p
 | _=>True
theorem stAt_mono {K:PySem.W.Frag} {H H':Hp} (g:Same H H') {st:Option (List Int)} {v:V} (h:StAt K H st v):StAt K H' st v:=by
 cases st with
 | none=>exact h
 | some l =>
  obtain ⟨a,e,hS⟩:=h
  exact ⟨a,e,g.seq hS⟩
def spLaw (K:PySem.W.Frag):Sp:=fun vs H Q _=>∃ (a:Addr) (ns:List Int),vs = [.ref a]∧SqL K H a (ns.map V.int)∧ns.length≤63∧∀ H',Q (.bl true) H'
section
variable {P:Program} {w:World} {K:PySem.W.Frag} {mg:Str→Option Value} {base:Heap}
end
theorem nub_one (c:Int):nub [c] = [c]:=(nub_eq (List.pairwise_singleton _ _) fun k=>Iff.rfl).symm
theorem mx_lel (a b:Int):a≤mx a b:=by
 unfold mx; split
 ·next c=>exact Int.le_of_lt c
 ·exact Int.le_refl _
theorem mx_ler (a b:Int):b≤mx a b:=by
 unfold mx; split
 ·exact Int.le_refl _
 ·next c=>exact Int.not_lt.mp c
theorem mx_or (a b:Int):mx a b = a∨mx a b = b:=by
 unfold mx; split
 ·exact .inr rfl
 ·exact .inl rfl
theorem side_one (a b:Int):(nub ([a] ++ [b])).filter (fun c=>decide (mx (minL [a]) (minL [b])≤c)) = [mx a b]:=by
 refine rise_ext ((rise_nub _).filter _) (List.pairwise_singleton _ _) fun k=>?_
 show _∈List.filter (fun c=>decide (mx a b≤c)) _↔_
 rw [List.mem_filter,mem_nub,List.mem_singleton]
 simp only [List.mem_append,List.mem_singleton,decide_eq_true_eq]
 constructor
 ·rintro ⟨rfl | rfl,h⟩
  ·exact Int.le_antisymm (mx_lel _ _) h
  ·exact Int.le_antisymm (mx_ler _ _) h
 ·rintro rfl
  exact ⟨mx_or a b,Int.le_refl _⟩
theorem off_beg (kn:List (Option Bool)) (p:Pt):(wbeg kn false p).2.1 = false∧(wbeg kn false p).2.2.1 = []:=by
 induction p with
 | thn p q ih1 ih2 =>
  simp only [wbeg]
  split
  ·simp only [turnW]
   rw [ih1.1,ih1.2,ih2.2]
   exact ⟨ih2.1,rfl⟩
  ·exact ih1
 | bes p q ih1 ih2 =>
  simp only [wbeg,sideW]
  rw [ih1.1,ih1.2,ih2.2]
  exact ⟨rfl,rfl⟩
 | iff x p q ih1 ih2 =>
  simp only [wbeg]
  split
  ·exact ⟨rfl,rfl⟩
  ·exact ih1
  ·exact ih2
 | again k p ih=>exact ih
 | hold x p ih=>exact ih
 | watch x p ih=>exact ih
 | trap p ih=>exact ih
 | _=>exact ⟨rfl,rfl⟩
theorem sure_of {kn:List (Option Bool)} {s:Bool} {p:Pt} (h:(wbeg kn s p).2.1 = true):s = true:=by
 cases s with
 | true=>rfl
 | false=>rw [(off_beg kn p).1] at h; cases h
theorem one_sure {sg:Int} (kn:List (Option Bool)) {p:Pt} (h:okW sg p):∀ s,(wbeg kn s p).2.1 = true→∃ c,(wbeg kn s p).1 = [c]:=by
 induction p with
 | thn p q ih1 ih2 =>
  intro s
  simp only [wbeg]
  split
  ·next c =>
   simp only [turnW]
   intro z
   have z1:=sure_of z
   obtain ⟨c1,e1⟩:=ih1 h.1 s z1
   obtain ⟨c2,e2⟩:=ih2 h.2 _ z
   rw [e1] at c ⊢
   rw [e2]
   have:c1 = 0:=(List.mem_singleton.mp c).symm
   subst this
   exact ⟨c2,by rw [show [(0:Int)].filter (fun c=>!decide (c = 0)) = [] from rfl]; exact nub_one _⟩
  ·exact ih1 h.1 s
 | bes p q ih1 ih2 =>
  intro s z
  simp only [wbeg,sideW,Bool.and_eq_true] at z ⊢
  obtain ⟨c1,e1⟩:=ih1 h.1 s z.1
  obtain ⟨c2,e2⟩:=ih2 h.2 s z.2
  rw [e1,e2]
  exact ⟨_,side_one c1 c2⟩
 | iff x p q ih1 ih2 =>
  intro s
  simp only [wbeg]
  split
  ·intro z; cases z
  ·exact ih1 h.2.1 s
  ·exact ih2 h.2.2 s
 | again k p ih =>
  intro s z
  obtain ⟨c,e⟩:=ih h s z
  exact ⟨agC c,by simp only [wbeg,recW]; rw [e]; exact nub_one _⟩
 | hold x p ih=>intro s z; exact ih h.2 s z
 | watch x p ih=>intro s z; exact ih h.2 s z
 | trap p ih =>
  intro s z
  obtain ⟨c,e⟩:=ih h s z
  exact ⟨trapC c,by simp only [wbeg,recW]; rw [e]; exact nub_one _⟩
 | _=>intro s z; exact ⟨_,rfl⟩
structure LeW (a b:Wk):Prop where
 cd:∀ c∈b.1,c∈a.1
 su:a.2.1 = true→b.2.1 = true
 mu:∀ x∈a.2.2.1,x∈b.2.2.1
 ca:∀ x∈b.2.2.2,x∈a.2.2.2
def leK (kn kn':List (Option Bool)):Prop:=∀ (i:Nat) (b:Bool),(kn[i]?).getD none = some b→(kn'[i]?).getD none = some b
theorem minL_anti {a b:List Int} (hb:0 < b.length) (h:∀ c∈b,c∈a):minL a≤minL b:=by
 have h1:=(minL_low hb).1
 exact (minL_low (List.length_pos_of_mem (h _ h1))).2 _ (h _ h1)
theorem le_walk {sg:Int} {kn kn':List (Option Bool)} (hk:leK kn kn') {p:Pt} (h:okW sg p):∀ s s',(s = true→s' = true)→LeW (wbeg kn s p) (wbeg kn' s' p):=by
 induction p with
 | thn p q ih1 ih2 =>
  intro s s' hs
  have a1:=ih1 h.1 s s' hs
  have a2:=ih2 h.2 _ _ a1.su
  simp only [wbeg]
  by_cases c':0∈(wbeg kn' s' p).1
  ·have c:=a1.cd 0 c'
   rw [if_pos c,if_pos c']
   refine ⟨fun x hx=>?_,a2.su,fun x hx=>?_,fun x hx=>?_⟩
   ·have hx:=mem_nub.mp hx
    refine mem_nub.mpr (List.mem_append.mpr ((List.mem_append.mp hx).elim (fun z=>.inl ?_) fun z=>.inr (a2.cd x z)))
    have:=List.mem_filter.mp z
    exact List.mem_filter.mpr ⟨a1.cd x this.1,this.2⟩
   ·exact List.mem_append.mpr ((List.mem_append.mp hx).elim (fun z=>.inl (a1.mu x z)) fun z=>.inr (a2.mu x z))
   ·exact List.mem_append.mpr ((List.mem_append.mp hx).elim (fun z=>.inl (a1.ca x z)) fun z=>.inr (a2.ca x z))
  ·rw [if_neg c']
   by_cases c:0∈(wbeg kn s p).1
   ·rw [if_pos c]
    have ns:(wbeg kn s p).2.1 = false:=by
     cases e:(wbeg kn s p).2.1 with
     | false=>rfl
     | true =>
      obtain ⟨c1,e1⟩:=one_sure kn h.1 s e
      rw [e1] at c
      have:c1 = 0:=(List.mem_singleton.mp c).symm
      subst this
      obtain ⟨m1,_⟩:=minL_low (cw_beg kn' h.1 s').ne
      have:=a1.cd _ m1
      rw [e1] at this
      rw [List.mem_singleton.mp this] at m1
      exact absurd m1 c'
    have o:=off_beg kn q
    rw [ns]
    refine ⟨fun x hx=>mem_nub.mpr (List.mem_append.mpr (.inl (List.mem_filter.mpr ⟨a1.cd x hx,?_⟩))),fun z=>?_,fun x hx=>?_,fun x hx=>List.mem_append.mpr (.inl (a1.ca x hx))⟩
    ·have:¬ x = 0:=fun z=>c' (z ▸ hx)
     simp [this]
    ·have z:(wbeg kn false q).2.1 = true:=z
     rw [o.1] at z
     cases z
    ·refine (List.mem_append.mp hx).elim (fun z=>a1.mu x z) fun z=>?_
     rw [o.2] at z
     cases z
   ·rw [if_neg c]
    exact a1
 | bes p q ih1 ih2 =>
  intro s s' hs
  have a1:=ih1 h.1 s s' hs
  have a2:=ih2 h.2 s s' hs
  have k1:=minL_anti (cw_beg kn' h.1 s').ne a1.cd
  have k2:=minL_anti (cw_beg kn' h.2 s').ne a2.cd
  simp only [wbeg]
  refine ⟨fun x hx=>?_,fun z=>?_,fun x hx=>?_,fun x hx=>?_⟩
  ·obtain ⟨h1,h2⟩:=List.mem_filter.mp hx
   refine List.mem_filter.mpr ⟨mem_nub.mpr (List.mem_append.mpr ((List.mem_append.mp (mem_nub.mp h1)).elim (fun z=>.inl (a1.cd x z)) fun z=>.inr (a2.cd x z))),?_⟩
   have h2:mx (minL (wbeg kn' s' p).1) (minL (wbeg kn' s' q).1)≤x:=of_decide_eq_true h2
   refine decide_eq_true ?_
   unfold mx at h2 ⊢
   split at h2 <;> split <;> omega
  ·simp only [sideW,Bool.and_eq_true] at z ⊢
   exact ⟨a1.su z.1,a2.su z.2⟩
  ·exact List.mem_append.mpr ((List.mem_append.mp hx).elim (fun z=>.inl (a1.mu x z)) fun z=>.inr (a2.mu x z))
  ·exact List.mem_append.mpr ((List.mem_append.mp hx).elim (fun z=>.inl (a1.ca x z)) fun z=>.inr (a2.ca x z))
 | iff y p q ih1 ih2 =>
  intro s s' hs
  rw [wbeg_iff rfl,wbeg_iff rfl]
  cases e:(kn[y.toNat]?).getD none with
  | some b =>
   rw [hk _ _ e]
   cases b with
   | true=>exact ih1 h.2.1 s s' hs
   | false=>exact ih2 h.2.2 s s' hs
  | none =>
   have f:false = true→s' = true:=fun z=>nomatch z
   cases e':(kn'[y.toNat]?).getD none with
   | some b =>
    cases b with
    | true =>
     have a:=ih1 h.2.1 false s' f
     exact ⟨fun c hc=>mem_nub.mpr (List.mem_append.mpr (.inl (a.cd c hc))),(fun z=>nomatch z),(fun x hx=>by cases hx),fun x hx=>List.mem_append.mpr (.inl (a.ca x hx))⟩
    | false =>
     have a:=ih2 h.2.2 false s' f
     exact ⟨fun c hc=>mem_nub.mpr (List.mem_append.mpr (.inr (a.cd c hc))),(fun z=>nomatch z),(fun x hx=>by cases hx),fun x hx=>List.mem_append.mpr (.inr (a.ca x hx))⟩
   | none =>
    have a1:=ih1 h.2.1 false false (fun z=>z)
    have a2:=ih2 h.2.2 false false (fun z=>z)
    exact ⟨fun c hc=>mem_nub.mpr (List.mem_append.mpr ((List.mem_append.mp (mem_nub.mp hc)).elim (fun z=>.inl (a1.cd c z)) fun z=>.inr (a2.cd c z))),(fun z=>nomatch z),(fun x hx=>by cases hx),
     fun x hx=>List.mem_append.mpr ((List.mem_append.mp hx).elim (fun z=>.inl (a1.ca x z)) fun z=>.inr (a2.ca x z))⟩
 | again k p ih =>
  intro s s' hs
  have a:=ih h s s' hs
  exact ⟨fun c hc=>by obtain ⟨x,hx,e⟩:=List.mem_map.mp (mem_nub.mp hc); exact mem_nub.mpr (List.mem_map.mpr ⟨x,a.cd x hx,e⟩),a.su,a.mu,a.ca⟩
 | hold y p ih=>intro s s' hs; exact ih h.2 s s' hs
 | watch y p ih=>intro s s' hs; exact ih h.2 s s' hs
 | trap p ih =>
  intro s s' hs
  have a:=ih h s s' hs
  exact ⟨fun c hc=>by obtain ⟨x,hx,e⟩:=List.mem_map.mp (mem_nub.mp hc); exact mem_nub.mpr (List.mem_map.mpr ⟨x,a.cd x hx,e⟩),a.su,a.mu,a.ca⟩
 | send y =>
  intro s s' hs
  refine ⟨fun c hc=>hc,hs,fun x hx=>?_,fun x hx=>hx⟩
  cases s with
  | false=>cases hx
  | true=>rw [hs rfl]; exact hx
 | nothing=>intro s s' hs; exact ⟨fun c hc=>hc,hs,fun x hx=>hx,fun x hx=>hx⟩
 | exit d=>intro s s' hs; exact ⟨fun c hc=>hc,hs,fun x hx=>hx,fun x hx=>hx⟩
 | rest d=>intro s s' hs; exact ⟨fun c hc=>hc,hs,fun x hx=>hx,fun x hx=>hx⟩
 | stay d=>intro s s' hs; exact ⟨fun c hc=>hc,hs,fun x hx=>hx,fun x hx=>hx⟩
theorem le_walkD {sg:Int} {kn kn':List (Option Bool)} (hk:leK kn kn') {p:Pt} (h:okW sg p) (st:Option (List Int)) {s s':Bool} (hs:s = true→s' = true):LeW (walkD kn s p st) (walkD kn' s' p st):=by
 have a:=le_walk hk (okW_pb h st) s s' hs
 exact ⟨a.cd,a.su,fun x hx=>mem_nub.mpr (a.mu x (mem_nub.mp hx)),fun x hx=>mem_nub.mpr (a.ca x (mem_nub.mp hx))⟩
def instD (p:Pt) (st:Option (List Int)) (th:List Int):Dd :=
 match st with
 | none=>ranD p none th
 | some l=>if (rem l p).1 = [] then (0,[],[]) else ranD p (some l) th
def DdF (H H':Hp) (t:Addr) (d:Dd):Prop:=∃ l1 l2,H' t = some (.tup [.int d.1,.ref l1,.ref l2])∧H' l1 = some (.lst (d.2.1.map V.int))∧H' l2 = some (.lst (d.2.2.map V.int))∧H l1 = none∧H l2 = none
def spRan0 (K:PySem.W.Frag) (n:Nat):Sp:=fun vs H Q _=>∃ v p th ns,vs = [v,.non,.ref th]∧PAt K H (Pt.nd p) v∧SqL K H th ((ns:List Int).map V.int)∧p.hg≤n∧p.sc < 64∧p.lc < 64∧∀ t H',Same H H'→DdF H H' t ((beg ns p).1,nub (beg ns p).2.1,sortI (beg ns p).2.2)→Q (.ref t) H'
def overP (p:Pt):Option (List Int)→Prop
 | none=>False
 | some l=>(rem l p).1 = []
def spBtb (K:PySem.W.Frag) (n:Nat):Sp:=fun vs H Q _=>∃ pr x0 x1 x2 v p sv st,vs = [.ref pr,sv]∧SqT K H pr [x0,x1,x2,v]∧PAt K H (Pt.nd p) v∧StAt K H st sv∧p.hg≤n∧p.rc≤900∧∀ v' H',Same H H'→(overP p st∧v' = .non∨¬ overP p st∧PAt K H' (pb p st).nd v')→Q v' H'
def spInst (K:PySem.W.Frag) (n:Nat):Sp:=fun vs H Q _=>∃ pr x0 x1 x2 v p sv st th ns,vs = [.ref pr,sv,.ref th]∧SqT K H pr [x0,x1,x2,v]∧PAt K H (Pt.nd p) v∧StAt K H st sv∧SqL K H th ((ns:List Int).map V.int)∧p.hg≤n∧p.sc < 64∧p.rc < 64∧∀ t H',Same H H'→DdF H H' t (instD p st ns)→Q (.ref t) H'
theorem inst_over {p:Pt} {st:Option (List Int)} {th:List Int}:(overP p st→instD p st th = (0,[],[]))∧(¬ overP p st→instD p st th = ranD p st th):=by
 cases st with
 | none=>exact ⟨fun z=>z.elim,fun _=>rfl⟩
 | some l=>exact ⟨fun z=>if_pos z,fun z=>if_neg z⟩
section
variable {P:Program} {w:World} {K:PySem.W.Frag} {mg:Str→Option Value} {base:Heap} {aN aP aR:Addr} {uE uR uL:Value}
theorem ok_ran0 {n:Nat} (C:Callee P w K mg base (n + 4) "ran" ["part", "state", "there"] (spRanG K n)):Callee P w K mg base (n + 4) "ran" ["part", "state", "there"] (spRan0 K n):=C.imp fun vs H Q E h=>by
 obtain ⟨v,p,th,ns,rfl,hp,hS,hh,hsc,hlc,q⟩:=h
 refine ⟨v,p,.non,none,th,ns,rfl,hp,rfl,hS,.inl rfl,hh,hsc,hlc,fun t H' g R=>q t H' g ?_⟩
 obtain ⟨l1,l2,a1,a2,a3,f1,f2,_⟩:=R
 exact ⟨l1,l2,a1,a2,a3,f1,f2⟩
theorem ok_btb {n:Nat} (F:FunM K mg "body_to_begin" ["program", "state"] s_body_to_begin) (T:TxtR K mg aN aP aR uE uR uL) (C_remaining:Callee P w K mg base (n + 2) "remaining" ["part", "state"] (spRem K n)) :
  Callee P w K mg base (n + 3) "body_to_begin" ["program", "state"] (spBtb K n):=by
 refine F.ok sc_body_to_begin (fun vs H Q E h=>?_) (fun f cdv A outer s H vs Q E hr h=>?_)
 ·obtain ⟨pr,x0,x1,x2,v,p,sv,st,rfl,_⟩:=h; rfl
 obtain ⟨pr,x0,x1,x2,v,p,sv,st,rfl,hpr,hp,hS,hh,hc,q⟩:=h
 refine ⟨_,(pss_cons (ps_if (pt_cmpR op_isN (pv 1) pe_non (nomark _))
   (pss_one (ps_ret (pe_ix ix_tup (pv 0) pe_int (fun _ _=>rfl))))
   pss_nil)
  (pss_cons (ps_set (i:=2) sc_body_to_begin.nd rfl (Or.inl rfl) (pe_callC C_remaining hr rfl pass0 (pa_cons (pe_ix ix_tup (pv 0) pe_int (fun _ _=>rfl)) (pa_cons (pv 1) pa_nil))))
  (pss_one (ps_ret (pe_ifExp (pt_truth (pe_ix ix_tup (pv 2) pe_int (fun _ _=>rfl)) (fun _=>rfl)) (pe_ix ix_tup (pv 2) pe_int (fun _ _=>rfl)) pe_non))))),?_⟩
 cases st with
 | none =>
  have e:sv = .non:=hS
  subst e
  exact ⟨_,rfl,rfl,_,rfl,iteT ⟨_,rfl,pr,_,_,_,rfl,rfl,hpr,atI_nat (j:=3) rfl,q _ _ (Same.refl _) (.inr ⟨fun z=>z,hp⟩)⟩⟩
 | some ns =>
  obtain ⟨a,rfl,hS⟩:=hS
  refine ⟨_,rfl,rfl,_,rfl,iteF ⟨_,rfl,pr,_,_,_,rfl,rfl,hpr,atI_nat (j:=3) rfl,_,rfl,v,p,a,ns,rfl,hp,hS,hh,hc,fun t H1 g1 ⟨l,v1,a1,a2,a3⟩=>?_⟩⟩
  refine ⟨_,rfl,t,_,_,_,rfl,rfl,SqT.of a1,atI_nat (j:=0) rfl,_,.inl ⟨_,SqL.of a2,rfl⟩,iteE (fun c=>?_) fun c=>?_⟩
  ·exact ⟨_,rfl,t,_,_,_,rfl,rfl,SqT.of a1,atI_nat (j:=1) rfl,q _ _ g1 (.inr ⟨c,a3⟩)⟩
  ·exact q _ _ g1 (.inl ⟨c,rfl⟩)
set_option maxHeartbeats 16000000 in
theorem ok_inst {n:Nat} (F:FunM K mg "instant" ["program", "state", "there"] s_instant) (T:TxtR K mg aN aP aR uE uR uL) (C_body_to_begin:Callee P w K mg base (n + 3) "body_to_begin" ["program", "state"] (spBtb K n)) (C_ran:Callee P w K mg base (n + 4) "ran" ["part", "state", "there"] (spRan0 K n)) :
  Callee P w K mg base (n + 5) "instant" ["program", "state", "there"] (spInst K n):=by
 refine F.ok sc_instant (fun vs H Q E h=>?_) (fun f cdv A outer s H vs Q E hr h=>?_)
 ·obtain ⟨pr,x0,x1,x2,v,p,sv,st,th,ns,rfl,_⟩:=h; rfl
 obtain ⟨pr,x0,x1,x2,v,p,sv,st,th,ns,rfl,hpr,hp,hst,hS,hh,hsc,hrc,q⟩:=h
 refine ⟨_,(pss_cons (ps_set (i:=3) sc_instant.nd rfl (Or.inl rfl) (pe_callC C_body_to_begin hr rfl pass0 (pa_cons (pv 0) (pa_cons (pv 1) pa_nil))))
  (pss_cons (ps_if (pt_cmpR op_isN (pv 3) pe_non (nomark _))
   (pss_one (ps_ret (pe_tup (pa_cons (pe_glob rfl T.m_ENDED T.r_ENDED) (pa_cons (pe_lst pa_nil) (pa_cons (pe_lst pa_nil) pa_nil))))))
   pss_nil)
  (pss_one (ps_ret (pe_callC C_ran hr rfl pass0 (pa_cons (pv 3) (pa_cons pe_non (pa_cons (pv 2) pa_nil)))))))),?_⟩
 refine ⟨_,rfl,_,rfl,pr,x0,x1,x2,v,p,sv,st,rfl,hpr,hp,hst,hh,by omega,fun v1 H1 g1 hv=>?_⟩
 rcases hv with ⟨ov,rfl⟩ | ⟨ov,P1⟩
 ·refine ⟨_,rfl,rfl,_,rfl,iteT ⟨(by show 0≤sizeLine; decide),fun y1 hy1=>⟨(by show 0≤sizeLine; decide),fun y2 hy2=>⟨(by show 3≤sizeLine; decide),fun y3 hy3=>?_⟩⟩⟩⟩
  obtain ⟨kx,n1,n2,n3⟩:=new3 (a:=.lst []) (b:=.lst []) (c:=.tup [.int 0,.ref y1,.ref y2]) hy1 hy2 hy3
  exact q _ _ (g1.trans kx) (by rw [inst_over.1 ov]; exact ⟨y1,y2,n3,n1,n2,g1.free hy1,(g1.trans (same_new hy1 _)).free hy2⟩)
 ·have k1:(pb p st).hg≤p.hg:=by cases st with | none=>exact Nat.le_refl _ | some l=>exact rem_hg l p
  have k2:(pb p st).sc≤p.sc:=by cases st with | none=>exact Nat.le_refl _ | some l=>exact rem_sc l p
  have k3:(pb p st).lc≤p.rc:=by cases st with | none=>exact Pt.lc_rc p | some l=>exact rem_lc l p
  obtain ⟨a1,e1⟩:∃ a,v1 = .ref a:=by
   generalize pb p st = p' at P1
   cases p' <;> (obtain ⟨a,vs,e,_⟩:=PAt.get P1; exact ⟨a,e⟩)
  subst e1
  refine ⟨_,rfl,rfl,_,rfl,iteF ⟨_,rfl,_,rfl,.ref a1,pb p st,th,ns,rfl,P1,g1.seq hS,by omega,by omega,by omega,fun t H2 g2 R2=>q _ _ (g1.trans g2) ?_⟩⟩
  rw [inst_over.2 ov]
  obtain ⟨l1,l2,a1,a2,a3,f1,f2⟩:=R2
  exact ⟨l1,l2,a1,a2,a3,g1.free f1,g1.free f2⟩
end
def mcB (kn:List (Option Bool)):Option Pt→List Int× List Int
 | none=>([],[])
 | some b=>((walkD kn true b none).2.2.1,(walkD kn true b none).2.2.2)
def okB (sg:Int):Option Pt→Prop
 | none=>True
 | some b=>okW sg b
theorem mcB_le {sg:Int} {kn kn':List (Option Bool)} (hk:leK kn kn') {o:Option Pt} (h:okB sg o):(∀ x∈(mcB kn o).1,x∈(mcB kn' o).1)∧∀ x∈(mcB kn' o).2,x∈(mcB kn o).2:=by
 cases o with
 | none=>exact ⟨fun x hx=>hx,fun x hx=>hx⟩
 | some b =>
  have a:=le_walkD hk (p:=b) h none (s:=true) (s':=true) fun z=>z
  exact ⟨a.mu,a.ca⟩
def areL (v:Option Bool) (kn:List (Option Bool)):List Int:=((List.range kn.length).filter (fun i=>decide ((kn[i]?).getD none = v))).map fun (i:Nat)=>(i:Int)
theorem mem_areL {v:Option Bool} {kn:List (Option Bool)} {x:Int}:x∈areL v kn↔(0≤x∧x < kn.length)∧(kn[x.toNat]?).getD none = v:=by
 unfold areL
 rw [List.mem_map]
 constructor
 ·rintro ⟨i,hi,rfl⟩
  have:=List.mem_filter.mp hi
  exact ⟨⟨by omega,by have:=List.mem_range.mp this.1; omega⟩,by rw [Int.toNat_natCast]; exact of_decide_eq_true this.2⟩
 ·rintro ⟨⟨h0,h1⟩,h2⟩
  exact ⟨x.toNat,List.mem_filter.mpr ⟨List.mem_range.mpr (by omega),decide_eq_true h2⟩,by omega⟩
def tak (kn:List (Option Bool)) (mu ca:List Int):List Int:=(areL none kn).filter (fun s=>decide (s∈mu) || !decide (s∈ca))
theorem mem_tak {kn:List (Option Bool)} {mu ca:List Int} {x:Int}:x∈tak kn mu ca↔((0≤x∧x < kn.length)∧(kn[x.toNat]?).getD none = none)∧(x∈mu∨¬ x∈ca):=by
 unfold tak
 rw [List.mem_filter,mem_areL]
 simp
def chg (kn:List (Option Bool)) (mu ca:List Int):List (Int× Bool):=(tak kn mu ca).map fun s=>(s,decide (s∈mu))
def behK (kn:List (Option Bool)) (cs:List (Int× Bool)):List (Option Bool):=cs.foldl (fun k c=>k.set c.1.toNat (some c.2)) kn
theorem behK_len (cs:List (Int× Bool)):∀ kn,(behK kn cs).length = kn.length:=by
 induction cs with
 | nil=>intro kn; rfl
 | cons c r ih=>intro kn; show (behK (kn.set c.1.toNat (some c.2)) r).length = _; rw [ih,List.length_set]
theorem behK_map (f:Int→Bool) (i:Nat):∀ (ss:List Int) (kn:List (Option Bool)),(∀ s∈ss,0≤s∧s < kn.length)→(behK kn (ss.map fun s=>(s,f s)))[i]? = if (i:Int)∈ss then some (some (f i)) else kn[i]?
 | [],kn,_=>by simp [behK]
 | s :: r,kn,h=>by
  have hs:=h s List.mem_cons_self
  show (behK (kn.set s.toNat (some (f s))) (r.map fun s=>(s,f s)))[i]? = _
  rw [behK_map f i r _ (fun x hx=>by rw [List.length_set]; exact h x (List.mem_cons_of_mem _ hx))]
  by_cases hr:(i:Int)∈r
  ·rw [if_pos hr,if_pos (List.mem_cons_of_mem _ hr)]
  ·rw [if_neg hr]
   by_cases e:(i:Int) = s
   ·subst e
    rw [if_pos List.mem_cons_self,Int.toNat_natCast,List.getElem?_set_self (by omega)]
   ·rw [if_neg (fun z=>(List.mem_cons.mp z).elim e hr),List.getElem?_set_ne (by omega)]
theorem nextK_get {kn:List (Option Bool)} {mu ca:List Int} (i:Nat):((behK kn (chg kn mu ca))[i]?).getD none = if (i:Int)∈tak kn mu ca then some (decide ((i:Int)∈mu)) else (kn[i]?).getD none:=by
 unfold chg
 rw [behK_map (fun s=>decide (s∈mu)) i _ kn (fun s hs=>(mem_tak.mp hs).1.1)]
 split <;> rfl
theorem nextK_le {kn:List (Option Bool)} {mu ca:List Int}:leK kn (behK kn (chg kn mu ca)):=by
 intro i b e
 rw [nextK_get,if_neg]
 ·exact e
 ·intro z
  have:=(mem_tak.mp z).1.2
  rw [Int.toNat_natCast,e] at this
  cases this
structure SI (n:Nat) (co:List Int) (o:Option Pt) (kn:List (Option Bool)):Prop where
 len:kn.length = n
 i1:∀ i:Nat,i < n→(i:Int)∈co→(kn[i]?).getD none = some true
 i2:∀ i:Nat,(kn[i]?).getD none = some true→(i:Int)∈co∨(i:Int)∈(mcB kn o).1
 i3:∀ i:Nat,(kn[i]?).getD none = some false→¬ (i:Int)∈(mcB kn o).2
def stepK (o:Option Pt) (kn:List (Option Bool)):List (Int× Bool):=chg kn (mcB kn o).1 (mcB kn o).2
theorem SI.next {n:Nat} {co:List Int} {o:Option Pt} {kn:List (Option Bool)} {sg:Int} (h:SI n co o kn) (ok:okB sg o):SI n co o (behK kn (stepK o kn)):=by
 have le:=nextK_le (kn:=kn) (mu:=(mcB kn o).1) (ca:=(mcB kn o).2)
 have ml:=mcB_le le ok
 refine ⟨by rw [behK_len]; exact h.len,fun i hi hc=>le _ _ (h.i1 i hi hc),fun i e=>?_,fun i e=>?_⟩
 ·have e':=e
  unfold stepK at e'
  rw [nextK_get] at e'
  split at e'
  ·exact .inr (ml.1 _ (of_decide_eq_true (Option.some.inj e')))
  ·exact (h.i2 i e').imp (fun z=>z) fun z=>ml.1 _ z
 ·have e':=e
  unfold stepK at e'
  rw [nextK_get] at e'
  split at e'
  ·next z =>
   have nm:=of_decide_eq_false (Option.some.inj e')
   have:=(mem_tak.mp z).2
   exact fun y=>(this.resolve_left nm) (ml.2 _ y)
  ·exact fun y=>h.i3 i e' (ml.2 _ y)
def firstK (n:Nat) (co:List Int):List (Option Bool):=(List.range n).map fun (i:Nat)=>if (i:Int)∈co then some true else none
theorem firstK_get (n:Nat) (co:List Int) (i:Nat):((firstK n co)[i]?).getD none = if i < n∧(i:Int)∈co then some true else none:=by
 unfold firstK
 rw [List.getElem?_map]
 by_cases h:i < n
 ·rw [List.getElem?_range h]
  by_cases c:(i:Int)∈co
  ·rw [if_pos ⟨h,c⟩]; show (some (if (i:Int)∈co then some true else none)).getD none = _; rw [if_pos c]; rfl
  ·rw [if_neg (fun z=>c z.2)]; show (some (if (i:Int)∈co then some true else none)).getD none = _; rw [if_neg c]; rfl
 ·rw [if_neg (fun z=>h z.1),List.getElem?_eq_none (by rw [List.length_range]; omega)]; rfl
theorem SI.first (n:Nat) (co:List Int) (o:Option Pt):SI n co o (firstK n co):=by
 refine ⟨by simp [firstK],fun i hi hc=>?_,fun i e=>?_,fun i e=>?_⟩
 ·rw [firstK_get,if_pos ⟨hi,hc⟩]
 ·rw [firstK_get] at e
  split at e
  ·next z=>exact .inl z.2
  ·cases e
 ·rw [firstK_get] at e
  split at e <;> cases e
def rnds (o:Option Pt):Nat→List (Option Bool)→List (List (Int× Bool))
 | 0,_=>[]
 | f + 1,kn=>if stepK o kn = [] then [] else stepK o kn :: rnds o f (behK kn (stepK o kn))
def setF (o:Option Pt) (f:Nat) (kn:List (Option Bool)):List (Option Bool):=(rnds o f kn).foldl behK kn
theorem setF_succ (o:Option Pt) (f:Nat) (kn:List (Option Bool)):setF o (f + 1) kn = if stepK o kn = [] then kn else setF o f (behK kn (stepK o kn)):=by
 unfold setF
 simp only [rnds]
 split <;> rfl
theorem SI.set {n:Nat} {co:List Int} {o:Option Pt} {sg:Int} (ok:okB sg o):∀ (f:Nat) {kn:List (Option Bool)},SI n co o kn→SI n co o (setF o f kn)
 | 0,kn,h=>h
 | f + 1,kn,h=>by
  rw [setF_succ]
  split
  ·exact h
  ·exact SI.set ok f (h.next ok)
def nones:List (Option Bool)→Nat
 | []=>0
 | none :: r=>nones r + 1
 | some _ :: r=>nones r
theorem nones_len:∀ kn:List (Option Bool),nones kn≤kn.length
 | []=>Nat.le_refl _
 | none :: r=>by have:=nones_len r; simp only [nones,List.length_cons]; omega
 | some _ :: r=>by have:=nones_len r; simp only [nones,List.length_cons]; omega
theorem nones_set (b:Bool):∀ (kn:List (Option Bool)) (i:Nat),nones (kn.set i (some b))≤nones kn∧(kn[i]? = some none→nones (kn.set i (some b)) < nones kn)
 | [],i=>⟨Nat.le_refl _,fun z=>by simp at z⟩
 | none :: r,0=>⟨by simp only [List.set_cons_zero,nones]; omega,fun _=>by simp only [List.set_cons_zero,nones]; omega⟩
 | some c :: r,0=>⟨by simp only [List.set_cons_zero,nones]; omega,fun z=>by simp at z⟩
 | none :: r,i + 1=>by
  have:=nones_set b r i
  refine ⟨by simp only [List.set_cons_succ,nones]; omega,fun z=>?_⟩
  have:=this.2 (by simpa using z)
  simp only [List.set_cons_succ,nones]; omega
 | some c :: r,i + 1=>by
  have:=nones_set b r i
  refine ⟨by simp only [List.set_cons_succ,nones]; omega,fun z=>?_⟩
  have:=this.2 (by simpa using z)
  simp only [List.set_cons_succ,nones]; omega
theorem nones_beh:∀ (cs:List (Int× Bool)) (kn:List (Option Bool)),nones (behK kn cs)≤nones kn
 | [],kn=>Nat.le_refl _
 | c :: r,kn=>Nat.le_trans (nones_beh r _) (nones_set c.2 kn c.1.toNat).1
theorem nones_next {o:Option Pt} {kn:List (Option Bool)} (h:¬ stepK o kn = []):nones (behK kn (stepK o kn)) < nones kn:=by
 cases e:stepK o kn with
 | nil=>exact absurd e h
 | cons c r =>
  have hc:c∈stepK o kn:=by rw [e]; exact List.mem_cons_self
  obtain ⟨s,hs,ec⟩:=List.mem_map.mp hc
  have m:=(mem_tak.mp hs).1
  refine Nat.lt_of_le_of_lt (nones_beh r _) ((nones_set c.2 kn c.1.toNat).2 ?_)
  subst ec
  show kn[s.toNat]? = some none
  have hl:s.toNat < kn.length:=by have:=m.1; omega
  rw [List.getElem?_eq_getElem hl]
  have:=m.2
  rw [List.getElem?_eq_getElem hl] at this
  exact congrArg some this
def bodyO (p:Pt) (st:Option (List Int)):Option Pt :=
 match st with
 | none=>some p
 | some l=>if (rem l p).1 = [] then none else some (rem l p).2
theorem bodyO_over {p:Pt} {st:Option (List Int)}:(overP p st→bodyO p st = none)∧(¬ overP p st→bodyO p st = some (pb p st)):=by
 cases st with
 | none=>exact ⟨fun z=>z.elim,fun _=>rfl⟩
 | some l=>exact ⟨fun z=>if_pos z,fun z=>if_neg z⟩
theorem okB_body {sg:Int} {p:Pt} (h:okW sg p) (st:Option (List Int)):okB sg (bodyO p st):=by
 by_cases z:overP p st
 ·rw [bodyO_over.1 z]; exact trivial
 ·rw [bodyO_over.2 z]; exact okW_pb h st
def chV (p:Addr× (Int× Bool)):V:=.ref p.1
def ChAt (H:Hp) (a:Addr) (cs:List (Int× Bool)):Prop:=∃ its:List (Addr× (Int× Bool)),H a = some (.lst (its.map chV))∧its.map Prod.snd = cs∧∀ p∈its,H p.1 = some (.tup [.int p.2.1,.bl p.2.2])
theorem ChAt.mono {H H':Hp} {a:Addr} {cs:List (Int× Bool)} (h:ChAt H a cs) (g:Same H H'):ChAt H' a cs:=by
 obtain ⟨its,h1,h2,h3⟩:=h
 exact ⟨its,g _ _ h1,h2,fun p hp=>g _ _ (h3 p hp)⟩
theorem ChAt.off {H:Hp} {a r:Addr} {cs:List (Int× Bool)} {xs ys:List V} (h:ChAt H a cs) (n:a≠r) (hr:H r = some (.lst xs)):ChAt (upd H r (.lst ys)) a cs:=by
 obtain ⟨its,h1,h2,h3⟩:=h
 refine ⟨its,by rw [upd_ne n]; exact h1,h2,fun p hp=>?_⟩
 have:=h3 p hp
 rw [upd_ne (fun z=>by rw [z,hr] at this; cases this)]
 exact this
def rdV (p:Addr× List (Int× Bool)):V:=.ref p.1
def RdAt (H:Hp) (a:Addr) (css:List (List (Int× Bool))):Prop:=∃ its:List (Addr× List (Int× Bool)),H a = some (.lst (its.map rdV))∧its.map Prod.snd = css∧∀ p∈its,ChAt H p.1 p.2
structure PgAt (K:PySem.W.Frag) (H:Hp) (pr:Addr) (n:Nat) (p:Pt):Prop where
 pa:∃ x0 x1 v,H pr = some (.tup [x0,x1,.int n,v])∧PAt K H (Pt.nd p) v
 hg:p.hg≤40
 sc:p.sc≤40
 rc:p.rc≤40
 ok:okW n p
 nb:n≤30
theorem PgAt.mono {K:PySem.W.Frag} {H H':Hp} {pr:Addr} {n:Nat} {p:Pt} (h:PgAt K H pr n p) (g:Same H H'):PgAt K H' pr n p:=by
 obtain ⟨⟨x0,x1,v,e,a⟩,h1,h2,h3,h4,h5⟩:=h
 exact ⟨⟨x0,x1,v,g _ _ e,a.mono g.tp⟩,h1,h2,h3,h4,h5⟩
def OBd (K:PySem.W.Frag) (H:Hp):Option Pt→V→Prop
 | none,v=>v = .non
 | some b,v=>PAt K H b.nd v∧b.hg≤40∧b.sc < 64
theorem OBd.mono {K:PySem.W.Frag} {H H':Hp} {o:Option Pt} {v:V} (h:OBd K H o v) (g:Same H H'):OBd K H' o v:=by
 cases o with
 | none=>exact h
 | some b=>exact ⟨h.1.mono g.tp,h.2⟩
def spWalk0 (K:PySem.W.Frag) (n:Nat):Sp:=fun vs H Q _=>∃ v p s kl kn,vs = [v,.non,.bl s,.ref kl]∧PAt K H (Pt.nd p) v∧SqL K H kl ((kn:List (Option Bool)).map vO)∧p.hg≤n∧p.sc < 64∧okW kn.length p∧∀ t H',Same H H'→WkAt H' t (walkD kn s p none)→Q (.ref t) H'
def spFirst (K:PySem.W.Frag):Sp:=fun vs H Q _=>∃ pr co n p cs,vs = [.ref pr,.ref co]∧PgAt K H pr n p∧SqL K H co ((cs:List Int).map V.int)∧∀ r H',Same H H'→H r = none→H' r = some (.lst ((firstK n cs).map vO))→Q (.ref r) H'
def spAre (K:PySem.W.Frag):Sp:=fun vs H Q _=>∃ v kl kn,vs = [vO v,.ref kl]∧SqL K H kl ((kn:List (Option Bool)).map vO)∧kn.length≤30∧∀ r H',Same H H'→H r = none→H' r = some (.lst ((areL v kn).map V.int))→Q (.ref r) H'
def spChg (K:PySem.W.Frag):Sp:=fun vs H Q _=>∃ bv o kl kn,vs = [bv,.ref kl]∧OBd K H o bv∧SqL K H kl ((kn:List (Option Bool)).map vO)∧kn.length≤30∧okB kn.length o∧∀ r H',Same H H'→H r = none→ChAt H' r (stepK o kn)→Q (.ref r) H'
def spBeh (K:PySem.W.Frag):Sp:=fun vs H Q _=>∃ kl c kn cs,vs = [.ref kl,.ref c]∧SqL K H kl ((kn:List (Option Bool)).map vO)∧ChAt H c cs∧(∀ x∈cs,0≤x.1∧x.1 < kn.length)∧cs.length≤60∧kn.length≤30∧∀ r H',Same H H'→H r = none→H' r = some (.lst ((behK kn cs).map vO))→Q (.ref r) H'
def spRnd (K:PySem.W.Frag):Sp:=fun vs H Q _=>∃ pr sv co n p st cs,vs = [.ref pr,sv,.ref co]∧PgAt K H pr n p∧StAt K H st sv∧SqL K H co ((cs:List Int).map V.int)∧∀ r H',Same H H'→RdAt H' r (rnds (bodyO p st) (n + 1) (firstK n cs))→Q (.ref r) H'
def spSet (K:PySem.W.Frag):Sp:=fun vs H Q _=>∃ pr sv co n p st cs,vs = [.ref pr,sv,.ref co]∧PgAt K H pr n p∧StAt K H st sv∧SqL K H co ((cs:List Int).map V.int)∧∀ r H',Same H H'→H' r = some (.lst ((setF (bodyO p st) (n + 1) (firstK n cs)).map vO))→Q (.ref r) H'
theorem areL_len (v:Option Bool) (kn:List (Option Bool)):(areL v kn).length≤kn.length:=by
 unfold areL
 rw [List.length_map]
 exact Nat.le_trans (List.length_filter_le _ _) (by rw [List.length_range]; exact Nat.le_refl _)
theorem stepK_bd (o:Option Pt) (kn:List (Option Bool)):(∀ x∈stepK o kn,0≤x.1∧x.1 < kn.length)∧(stepK o kn).length≤kn.length:=by
 constructor
 ·intro x hx
  obtain ⟨s,hs,rfl⟩:=List.mem_map.mp hx
  exact (mem_tak.mp hs).1.1
 ·unfold stepK chg tak
  rw [List.length_map]
  exact Nat.le_trans (List.length_filter_le _ _) (areL_len _ _)
theorem rnds_bd (o:Option Pt):∀ (f:Nat) (kn:List (Option Bool)),∀ cs∈rnds o f kn,(∀ x∈cs,0≤x.1∧x.1 < kn.length)∧cs.length≤kn.length
 | 0,kn,cs,h=>by cases h
 | f + 1,kn,cs,h=>by
  simp only [rnds] at h
  split at h
  ·cases h
  ·rcases List.mem_cons.mp h with rfl | h
   ·exact stepK_bd o kn
   ·have:=rnds_bd o f _ cs h
    rw [behK_len] at this
    exact this
theorem foldB_len:∀ (css:List (List (Int× Bool))) (kn:List (Option Bool)),(css.foldl behK kn).length = kn.length
 | [],kn=>rfl
 | c :: r,kn=>by show (r.foldl behK (behK kn c)).length = _; rw [foldB_len r,behK_len]
theorem vO_eq (a b:Option Bool):decide (vO a = vO b) = decide (a = b):=by
 cases a with
 | none=>cases b with
  | none=>rfl
  | some y=>rfl
 | some x=>cases b with
  | none=>rfl
  | some y=>cases x <;> cases y <;> rfl
theorem vO_scal (a b:Option Bool):scal (vO a) (vO b) = true:=by cases a <;> cases b <;> rfl
theorem areL_take (v:Option Bool) (kn:List (Option Bool)) (j:Nat) (o:Option Bool) (h:kn[j]? = some o):((List.range (j + 1)).filter (fun i=>decide ((kn[i]?).getD none = v))).map (fun (i:Nat)=>(i:Int)) = if decide (o = v) = true then ((List.range j).filter (fun i=>decide ((kn[i]?).getD none = v))).map (fun (i:Nat)=>(i:Int)) ++ [(j:Int)] else ((List.range j).filter (fun i=>decide ((kn[i]?).getD none = v))).map (fun (i:Nat)=>(i:Int)):=by
 rw [List.range_succ,List.filter_append,List.map_append]
 by_cases z:o = v
 ·rw [if_pos (decide_eq_true z),List.filter_cons_of_pos (by rw [h]; exact decide_eq_true z)]; rfl
 ·rw [if_neg (fun y=>z (of_decide_eq_true y)),List.filter_cons_of_neg (by rw [h]; exact fun y=>z (of_decide_eq_true y))]; simp
section
variable {P:Program} {w:World} {K:PySem.W.Frag} {mg:Str→Option Value} {base:Heap} {aN aP aR:Addr} {uE uR uL:Value}
theorem ok_walk0 {n:Nat} (C:Callee P w K mg base (n + 4) "walked" ["part", "state", "sure", "known"] (spWalkG K n)):Callee P w K mg base (n + 4) "walked" ["part", "state", "sure", "known"] (spWalk0 K n):=C.imp fun vs H Q E h=>by
 obtain ⟨v,p,sr,kl,kn,rfl,hp,hS,hh,hsc,ok,q⟩:=h
 exact ⟨v,p,.non,none,sr,kl,kn,rfl,hp,rfl,hS,.inl rfl,hh,hsc,ok,fun t H' g wk _=>q t H' g wk⟩
set_option maxHeartbeats 16000000 in
theorem ok_first (F:FunM K mg "known_at_first" ["program", "coming"] s_known_at_first) (T:Txt mg):Callee P w K mg base 1 "known_at_first" ["program", "coming"] (spFirst K):=by
 refine F.ok sc_known_at_first (fun vs H Q E h=>?_) (fun f cdv A outer s H vs Q E hr h=>?_)
 ·obtain ⟨pr,co,n,p,cs,rfl,_⟩:=h; rfl
 obtain ⟨pr,co,n,p,cs,rfl,pg,hS,q⟩:=h
 obtain ⟨x0,x1,v,hpr,_⟩:=pg.pa
 have nb:=pg.nb
 refine ⟨_,(pss_one (ps_ret (pe_comp (g:=(gName 0)) (tc:=tAlways) (te:=(tIf (tTest (tOp (rIn K false) (tVar 0) (tVar 1))) (tC (.bl true)) (tC .non))) ["sign"] [("coming", 1)] rfl (compOk (defScope s_known_at_first) ["program", "coming"] (by decide +kernel)) (pi_range1 rfl T.n_range (pa_cons (pe_ix ix_tup (pv 0) pe_int (fun _ _=>rfl)) pa_nil)) (fun s2 H2 fp cl C=>pg_name (i:=0) (show List.Nodup [("sign" : Str),("coming" : Str)] from by decide +kernel) rfl (Or.inl rfl)) (gkeep_name (by decide)) (fun s2 H2 fp cl C=>pif_nil) (fun s2 H2 fp cl C=>(pe_ifExp (pt_cmpR op_in_seq (pv 0) (pv 1) (by rfl)) pe_bl pe_non))))),?_⟩
 refine ⟨_,rfl,pr,_,_,_,rfl,rfl,SqT.of hpr,atI_nat (j:=2) rfl,_,rfl,by omega,by omega,?_⟩
 dsimp only
 rw [Int.toNat_natCast]
 refine comp_range (n:=n) (fun i ys H'=>H' = H∧ys = (firstK i cs).map vO) ⟨rfl,rfl⟩ (small (by omega)) ?_ ?_
 ·rintro i ys H' N hi ⟨rfl,rfl⟩ hN hyl
  have es:firstK (i + 1) cs = firstK i cs ++ [if (i:Int)∈cs then some true else none]:=by unfold firstK; rw [List.range_succ,List.map_append]; rfl
  refine ⟨_,rfl,_,rfl,co,_,rfl,.inl hS,rfl,flat_ints _,_,rfl,iteM (fun c=>?_) fun c=>?_⟩
  ·rw [Int.zero_add] at c
   exact hN _ _ (by rw [List.length_append,List.length_singleton]; omega) ⟨rfl,by rw [es,if_pos c,List.map_append]; rfl⟩
  ·rw [Int.zero_add] at c
   exact hN _ _ (by rw [List.length_append,List.length_singleton]; omega) ⟨rfl,by rw [es,if_neg c,List.map_append]; rfl⟩
 ·rintro ys H' hyl ⟨rfl,rfl⟩ D hD
  exact q D _ (same_new hD _) hD upd_same
set_option maxHeartbeats 16000000 in
theorem ok_are (F:FunM K mg "signs_that_are" ["value", "known"] s_signs_that_are) (T:Txt mg):Callee P w K mg base 1 "signs_that_are" ["value", "known"] (spAre K):=by
 refine F.ok sc_signs_that_are (fun vs H Q E h=>?_) (fun f cdv A outer s H vs Q E hr h=>?_)
 ·obtain ⟨v,kl,kn,rfl,_⟩:=h; rfl
 obtain ⟨v,kl,kn,rfl,hS,ln,q⟩:=h
 refine ⟨_,(pss_one (ps_ret (pe_comp (g:=(gTup K 2 (gCons (gName 0) (gCons (gName 1) gNil)))) (tc:=(tTest (tOp rEq (tVar 1) (tVar 2)))) (te:=(tVar 0)) ["sign", "one"] [("value", 0)] rfl (compOk (defScope s_signs_that_are) ["value", "known"] (by decide +kernel)) (pi_enum rfl T.n_enumerate (pa_cons (pv 1) pa_nil)) (fun s2 H2 fp cl C=>pg_tup rfl (pgs_cons (pg_name (i:=0) (show List.Nodup [("sign" : Str),("one" : Str),("value" : Str)] from by decide +kernel) rfl (Or.inl rfl)) (pgs_cons (pg_name (i:=1) (show List.Nodup [("sign" : Str),("one" : Str),("value" : Str)] from by decide +kernel) rfl (Or.inl rfl)) pgs_nil))) (gkeep_pair (by decide) (by decide)) (fun s2 H2 fp cl C=>pif_one (pt_cmpR op_eq (pv 1) (pv 2) (nomark _))) (fun s2 H2 fp cl C=>(pv 0))))),?_⟩
 refine ⟨_,rfl,kl,rfl,⟨_,hS⟩,?_⟩
 refine comp_enum (K:=K) (xs:=kn.map vO) (fun i ys H'=>Same H H'∧ys = (((List.range i).filter (fun i=>decide ((kn[i]?).getD none = v))).map fun (i:Nat)=>(i:Int)).map V.int) ⟨Same.refl _,rfl⟩ (by rw [List.length_map]; exact small (by omega)) (fun i ys H' ⟨g,_⟩=>g.seq hS) ?_ ?_
 ·rintro i x Tt ys H' Nx hi ⟨gx,rfl⟩ hT hN hyl
  rw [List.getElem?_map] at hi
  cases e:kn[i]? with
  | none=>rw [e] at hi; cases hi
  | some o =>
   rw [e] at hi
   cases hi
   have gT:=same_new hT (.tup [.int i,vO o])
   have et:=areL_take v kn i o e
   refine ⟨Tt,_,rfl,SqT.of upd_same,rfl,_,_,rfl,_,_,rfl,rfl,?_⟩
   refine ⟨_,rfl,_,rfl,vO_scal o v,_,rfl,?_⟩
   rw [vO_eq]
   refine ite2 (fun c=>?_) (fun c=>?_)
   ·exact ⟨_,rfl,hN _ _ (by rw [List.length_append,List.length_singleton]; omega) ⟨gx.trans gT,by rw [et,if_pos c,List.map_append]; rfl⟩⟩
   ·exact hN _ _ (by omega) ⟨gx.trans gT,by rw [et,if_neg c]⟩
 ·rintro ys H' hyl ⟨gx,rfl⟩ D hD
  refine q D _ (gx.trans (same_new hD _)) (gx.free hD) ?_
  rw [upd_same,List.length_map]
  rfl
set_option maxHeartbeats 16000000 in
theorem ok_beh (F:FunM K mg "known_behind" ["known", "changes"] s_known_behind) (T:Txt mg):Callee P w K mg base 1 "known_behind" ["known", "changes"] (spBeh K):=by
 refine F.ok sc_known_behind (fun vs H Q E h=>?_) (fun f cdv A outer s H vs Q E hr h=>?_)
 ·obtain ⟨kl,c,kn,cs,rfl,_⟩:=h; rfl
 obtain ⟨kl,c,kn,cs,rfl,hS,⟨its,hc,ec,al⟩,bd,lc,ln,q⟩:=h
 refine ⟨_,(pss_cons (ps_set (i:=2) sc_known_behind.nd rfl (Or.inl rfl) (pe_callTy call_list_of rfl T.n_list (by decide +kernel) (pa_cons (pv 0) pa_nil)))
  (pss_cons (ps_for PassesOwn.never rfl (pi_list (pv 1)) (pg_name (i:=3) sc_known_behind.nd rfl (Or.inl rfl))
   (pss_one (ps_asg (pe_ix ix_tup (pv 3) pe_int (fun _ _=>rfl)) (pg_sub (pv 2) (pe_ix ix_tup (pv 3) pe_int (fun _ _=>rfl)) set_list))))
  (pss_one (ps_ret (pv 2))))),?_⟩
 refine ⟨_,rfl,kl,_,rfl,.inl hS,fun b hb=>?_⟩
 have nc:c≠b:=ne_of_none hc hb
 refine ⟨_,rfl,c,rfl,⟨_,SqL.of (same_new hb _ _ _ hc)⟩,for_list (K:=K) (a:=c) (xs:=its.map chV) (D:={ nx:=tRet (tVar 2) { nx:=fun x H'=>Q V.non H',rt:=Q },rt:=Q }) (fun i σ H'=>∃ x3:Option V,σ = [some (.ref kl),some (.ref c),some (.ref b),x3]∧Same H H'∧H' b = some (.lst ((behK kn (cs.take i)).map vO))) ⟨none,rfl,same_new hb _,upd_same⟩ (fun i σ H' _ ⟨_,_,g,_⟩=>SqL.of (g _ _ hc)) ?_ ?_⟩
 ·rintro i y σ H1 hi ⟨x3,rfl,g,hB⟩
  rw [List.getElem?_map] at hi
  cases e:its[i]? with
  | none=>rw [e] at hi; cases hi
  | some p =>
   rw [e] at hi
   cases hi
   have hp:=g _ _ (al p (List.mem_of_getElem? e))
   have ep:cs[i]? = some p.2:=by rw [← ec,List.getElem?_map,e]; rfl
   have bp:=bd p.2 (List.mem_of_getElem? ep)
   have bl:(behK kn (cs.take i)).length = kn.length:=behK_len _ _
   refine ⟨_,rfl,p.1,_,_,_,rfl,rfl,SqT.of hp,atI_nat (j:=1) rfl,_,rfl,_,rfl,p.1,_,_,_,rfl,rfl,SqT.of hp,atI_nat (j:=0) rfl,b,_,_,p.2.1.toNat,rfl,rfl,hB,?_,?_⟩
   ·unfold ixN
    rw [if_pos bp.1,if_pos (by rw [List.length_map,bl]; exact bp.2)]
   ·refine ⟨_,rfl,g.young hb _,?_⟩
    rw [upd_same]
    congr 2
    rw [List.take_add_one,ep]
    unfold behK
    rw [List.foldl_append]
    show _ = List.map vO ((List.foldl _ kn (cs.take i)).set p.2.1.toNat (some p.2.2))
    rw [List.map_set]
    rfl
 ·rintro σ H1 ⟨x3,rfl,g,hB⟩
  have hl:(its.map chV).length = cs.length:=by rw [List.length_map,← ec,List.length_map]
  rw [hl,List.take_length] at hB
  exact ⟨_,rfl,q b H1 g hb hB⟩
set_option maxHeartbeats 32000000 in
theorem ok_chg (F:FunM K mg "changes_by" ["body", "known"] s_changes_by) (T:Txt mg) (C_walked:Callee P w K mg base 44 "walked" ["part", "state", "sure", "known"] (spWalk0 K 40)) (C_signs_that_are:Callee P w K mg base 1 "signs_that_are" ["value", "known"] (spAre K)):Callee P w K mg base 45 "changes_by" ["body", "known"] (spChg K):=by
 refine F.ok sc_changes_by (fun vs H Q E h=>?_) (fun f cdv A outer s H vs Q E hr h=>?_)
 ·obtain ⟨bv,o,kl,kn,rfl,_⟩:=h; rfl
 obtain ⟨bv,o,kl,kn,rfl,ob,hS,ln,ok,q⟩:=h
 refine ⟨_,(pss_cons (ps_set (i:=2) sc_changes_by.nd rfl (Or.inr rfl) (pe_lst pa_nil))
  (pss_cons (ps_set (i:=3) sc_changes_by.nd rfl (Or.inr rfl) (pe_lst pa_nil))
  (pss_cons (ps_if (pt_cmpR op_notN (pv 0) pe_non (nomark _))
   (pss_cons (ps_set (i:=4) sc_changes_by.nd rfl (Or.inl rfl) (pe_callC C_walked hr rfl pass0 (pa_cons (pv 0) (pa_cons pe_non (pa_cons pe_bl (pa_cons (pv 1) pa_nil))))))
  (pss_cons (ps_set (i:=2) sc_changes_by.nd rfl (Or.inr rfl) (pe_ix ix_tup (pv 4) pe_int (fun _ _=>rfl)))
  (pss_one (ps_set (i:=3) sc_changes_by.nd rfl (Or.inr rfl) (pe_ix ix_tup (pv 4) pe_int (fun _ _=>rfl))))))
   pss_nil)
  (pss_cons (ps_set (i:=5) sc_changes_by.nd rfl (Or.inl rfl) (pe_callC C_signs_that_are hr rfl pass0 (pa_cons pe_non (pa_cons (pv 1) pa_nil))))
  (pss_one (ps_ret (pe_comp (g:=(gName 0)) (tc:=(tOr (tTest (tOp (rIn K false) (tVar 0) (tVar 1))) (tTest (tOp (rIn K true) (tVar 0) (tVar 2))))) (te:=(tTup (tCons (tVar 0) (tCons (tOp (rIn K false) (tVar 0) (tVar 1)) tNil)))) ["sign"] [("must", 2),("can", 3)] rfl (compOk (defScope s_changes_by) ["body", "known", "must", "can", "walk", "waiting"] (by decide +kernel)) (pi_list (pv 5)) (fun s2 H2 fp cl C=>pg_name (i:=0) (show List.Nodup [("sign" : Str),("must" : Str),("can" : Str)] from by decide +kernel) rfl (Or.inl rfl)) (gkeep_name (by decide)) (fun s2 H2 fp cl C=>pif_one (PW.pt (pw_or (pt_cmpR op_in_seq (pv 0) (pv 1) (by rfl)) (pw_or1 (pt_cmpR op_notIn_seq (pv 0) (pv 2) (by rfl)))))) (fun s2 H2 fp cl C=>(pe_tup (pa_cons (pv 0) (pa_cons (pe_cmpR op_in_seq (pv 0) (pv 1) (by rfl)) pa_nil))))))))))),?_⟩
 refine ⟨(by show 0≤sizeLine; decide),fun e1 he1=>⟨(by show 0≤sizeLine; decide),fun e2 he2=>?_⟩⟩
 have k1:=same_new he1 (.lst [])
 have k2:=same_new he2 (.lst [])
 have g0:=k1.trans k2
 have h1:=k2 _ _ (upd_same (H:=H) (a:=e1) (o:=.lst []))
 have h2:=upd_same (H:=upd H e1 (.lst [])) (a:=e2) (o:=.lst [])
 generalize (upd (upd H e1 (.lst [])) e2 (.lst [])) = H0 at g0 h1 h2
 cases o with
 | none =>
  have e0:bv = .non:=ob
  subst e0
  refine ⟨_,rfl,rfl,_,rfl,iteF ?_⟩
  obtain ⟨mu,ca,Hx,gx,hmu,hca,eu,ea,ex⟩:∃ mu ca Hx,Same H Hx∧Hx mu = some (.lst ((mcB kn none).1.map V.int))∧Hx ca = some (.lst ((mcB kn none).2.map V.int))∧mu = e1∧ca = e2∧Hx = H0:=⟨e1,e2,H0,g0,h1,h2,rfl,rfl,rfl⟩
  rw [← eu,← ea,← ex]
  generalize (none:Option Pt) = o at hmu hca q
  refine ⟨_,rfl,none,kl,kn,rfl,gx.seq hS,ln,fun wl H5 g5 nw hw=>?_⟩
  have gm:=g5 _ _ hmu
  have gc:=g5 _ _ hca
  have gy:=gx.trans g5
  have wlen:(areL none kn).length≤30:=Nat.le_trans (areL_len none kn) ln
  refine ⟨_,rfl,wl,rfl,⟨_,SqL.of hw⟩,comp_list (K:=K) (xs:=(areL none kn).map V.int) (fun i ys H'=>Same H5 H'∧∃ its:List (Addr× (Int× Bool)),ys = its.map chV∧its.map Prod.snd = (((areL none kn).take i).filter (fun s=>decide (s∈(mcB kn o).1) || !decide (s∈(mcB kn o).2))).map (fun s=>(s,decide (s∈(mcB kn o).1)))∧∀ p∈its,H' p.1 = some (.tup [.int p.2.1,.bl p.2.2])) ⟨Same.refl _,[],rfl,rfl,fun p hp=>by cases hp⟩ (by rw [List.length_map]; exact small (by omega)) (fun i ys H' ⟨g,_⟩=>SqL.of (g _ _ hw)) ?_ ?_⟩
  ·rintro j z ys H' N hj ⟨g6,its,rfl,ei,al⟩ hN hyl
   rw [List.getElem?_map] at hj
   cases ej:(areL none kn)[j]? with
   | none=>rw [ej] at hj; cases hj
   | some x =>
    rw [ej] at hj
    cases hj
    have et:((areL none kn).take (j + 1)).filter (fun s=>decide (s∈(mcB kn o).1) || !decide (s∈(mcB kn o).2)) = ((areL none kn).take j).filter (fun s=>decide (s∈(mcB kn o).1) || !decide (s∈(mcB kn o).2)) ++ [x].filter (fun s=>decide (s∈(mcB kn o).1) || !decide (s∈(mcB kn o).2)):=by
     rw [List.take_add_one,ej,List.filter_append]; rfl
    have skip:¬ (decide (x∈(mcB kn o).1) || !decide (x∈(mcB kn o).2)) = true→N (its.map chV) H':=fun z=>hN _ _ (by omega) ⟨g6,its,rfl,by rw [et,List.filter_cons_of_neg (p:=fun s=>decide (s∈(mcB kn o).1) || !decide (s∈(mcB kn o).2)) z]; simpa using ei,al⟩
    have take:∀ (t:Addr) (b:Bool),b = decide (x∈(mcB kn o).1)→(decide (x∈(mcB kn o).1) || !decide (x∈(mcB kn o).2)) = true→H' t = none→N (its.map chV ++ [.ref t]) (upd H' t (.tup [.int x,.bl b])):=fun t b eb z ht=>by
     have k:=same_new ht (.tup [.int x,.bl b])
     refine hN _ _ (by rw [List.length_append,List.length_singleton]; omega) ⟨g6.trans k,its ++ [(t,(x,b))],by rw [List.map_append]; rfl,?_,fun p hp=>?_⟩
     ·rw [et,List.filter_cons_of_pos (p:=fun s=>decide (s∈(mcB kn o).1) || !decide (s∈(mcB kn o).2)) z,List.map_append,List.map_append,ei,eb]; rfl
     ·rcases List.mem_append.mp hp with h | h
      ·exact k _ _ (al p h)
      ·rcases List.mem_singleton.mp h with rfl
       exact upd_same
    have gm6:=g6 _ _ gm
    have gc6:=g6 _ _ gc
    refine ⟨_,rfl,_,rfl,mu,_,rfl,.inl (SqL.of gm6),rfl,flat_ints _,_,rfl,iteM (fun c=>?_) fun c=>?_⟩
    ·refine iteT ⟨_,rfl,_,rfl,_,rfl,mu,_,rfl,.inl (SqL.of gm6),rfl,flat_ints _,(by show 2≤sizeLine; decide),fun t ht=>take t _ (by rw [if_neg Bool.false_ne_true,inV_ints]) (by simp [c]) ht⟩
    ·refine ⟨_,rfl,_,rfl,ca,_,rfl,.inl (SqL.of gc6),rfl,flat_ints _,_,rfl,?_⟩
     rw [if_pos rfl,inV_ints]
     by_cases d:x∈(mcB kn o).2
     ·rw [decide_eq_true d]
      exact iteF (skip (by simp [c,d]))
     ·rw [decide_eq_false d]
      exact iteT ⟨_,rfl,_,rfl,_,rfl,mu,_,rfl,.inl (SqL.of gm6),rfl,flat_ints _,(by show 2≤sizeLine; decide),fun t ht=>take t _ (by rw [if_neg Bool.false_ne_true,inV_ints]) (by simp [d]) ht⟩
  ·rintro ys H' hyl ⟨g6,its,rfl,ei,al⟩ D hD
   have k:=same_new hD (.lst (its.map chV))
   rw [List.length_map,List.take_length] at ei
   exact q D _ ((gy.trans g6).trans k) ((gy.trans g6).free hD) ⟨its,upd_same,ei,fun p hp=>k _ _ (al p hp)⟩
 | some b =>
  obtain ⟨pb1,hb,sb⟩:=ob
  obtain ⟨a1,e1⟩:∃ a,bv = .ref a:=by cases b <;> (obtain ⟨a,vs,e,_⟩:=PAt.get pb1; exact ⟨a,e⟩)
  subst e1
  refine ⟨_,rfl,rfl,_,rfl,iteT ?_⟩
  refine ⟨_,rfl,_,rfl,.ref a1,b,true,kl,kn,rfl,pb1.mono g0.tp,g0.seq hS,hb,sb,ok,fun t H4 g4 ⟨l1,l2,l3,a2,a3,a4,a5⟩=>?_⟩
  refine ⟨_,rfl,t,_,_,_,rfl,rfl,SqT.of a2,atI_nat (j:=2) rfl,_,rfl,t,_,_,_,rfl,rfl,SqT.of a2,atI_nat (j:=3) rfl,?_⟩
  obtain ⟨mu,ca,Hx,gx,hmu,hca,eu,ea,ex⟩:∃ mu ca Hx,Same H Hx∧Hx mu = some (.lst ((mcB kn (some b)).1.map V.int))∧Hx ca = some (.lst ((mcB kn (some b)).2.map V.int))∧mu = l2∧ca = l3∧Hx = H4:=⟨l2,l3,H4,g0.trans g4,a4,a5,rfl,rfl,rfl⟩
  rw [← eu,← ea,← ex]
  generalize (some b:Option Pt) = o at hmu hca q
  refine ⟨_,rfl,none,kl,kn,rfl,gx.seq hS,ln,fun wl H5 g5 nw hw=>?_⟩
  have gm:=g5 _ _ hmu
  have gc:=g5 _ _ hca
  have gy:=gx.trans g5
  have wlen:(areL none kn).length≤30:=Nat.le_trans (areL_len none kn) ln
  refine ⟨_,rfl,wl,rfl,⟨_,SqL.of hw⟩,comp_list (K:=K) (xs:=(areL none kn).map V.int) (fun i ys H'=>Same H5 H'∧∃ its:List (Addr× (Int× Bool)),ys = its.map chV∧its.map Prod.snd = (((areL none kn).take i).filter (fun s=>decide (s∈(mcB kn o).1) || !decide (s∈(mcB kn o).2))).map (fun s=>(s,decide (s∈(mcB kn o).1)))∧∀ p∈its,H' p.1 = some (.tup [.int p.2.1,.bl p.2.2])) ⟨Same.refl _,[],rfl,rfl,fun p hp=>by cases hp⟩ (by rw [List.length_map]; exact small (by omega)) (fun i ys H' ⟨g,_⟩=>SqL.of (g _ _ hw)) ?_ ?_⟩
  ·rintro j z ys H' N hj ⟨g6,its,rfl,ei,al⟩ hN hyl
   rw [List.getElem?_map] at hj
   cases ej:(areL none kn)[j]? with
   | none=>rw [ej] at hj; cases hj
   | some x =>
    rw [ej] at hj
    cases hj
    have et:((areL none kn).take (j + 1)).filter (fun s=>decide (s∈(mcB kn o).1) || !decide (s∈(mcB kn o).2)) = ((areL none kn).take j).filter (fun s=>decide (s∈(mcB kn o).1) || !decide (s∈(mcB kn o).2)) ++ [x].filter (fun s=>decide (s∈(mcB kn o).1) || !decide (s∈(mcB kn o).2)):=by
     rw [List.take_add_one,ej,List.filter_append]; rfl
    have skip:¬ (decide (x∈(mcB kn o).1) || !decide (x∈(mcB kn o).2)) = true→N (its.map chV) H':=fun z=>hN _ _ (by omega) ⟨g6,its,rfl,by rw [et,List.filter_cons_of_neg (p:=fun s=>decide (s∈(mcB kn o).1) || !decide (s∈(mcB kn o).2)) z]; simpa using ei,al⟩
    have take:∀ (t:Addr) (b:Bool),b = decide (x∈(mcB kn o).1)→(decide (x∈(mcB kn o).1) || !decide (x∈(mcB kn o).2)) = true→H' t = none→N (its.map chV ++ [.ref t]) (upd H' t (.tup [.int x,.bl b])):=fun t b eb z ht=>by
     have k:=same_new ht (.tup [.int x,.bl b])
     refine hN _ _ (by rw [List.length_append,List.length_singleton]; omega) ⟨g6.trans k,its ++ [(t,(x,b))],by rw [List.map_append]; rfl,?_,fun p hp=>?_⟩
     ·rw [et,List.filter_cons_of_pos (p:=fun s=>decide (s∈(mcB kn o).1) || !decide (s∈(mcB kn o).2)) z,List.map_append,List.map_append,ei,eb]; rfl
     ·rcases List.mem_append.mp hp with h | h
      ·exact k _ _ (al p h)
      ·rcases List.mem_singleton.mp h with rfl
       exact upd_same
    have gm6:=g6 _ _ gm
    have gc6:=g6 _ _ gc
    refine ⟨_,rfl,_,rfl,mu,_,rfl,.inl (SqL.of gm6),rfl,flat_ints _,_,rfl,iteM (fun c=>?_) fun c=>?_⟩
    ·refine iteT ⟨_,rfl,_,rfl,_,rfl,mu,_,rfl,.inl (SqL.of gm6),rfl,flat_ints _,(by show 2≤sizeLine; decide),fun t ht=>take t _ (by rw [if_neg Bool.false_ne_true,inV_ints]) (by simp [c]) ht⟩
    ·refine ⟨_,rfl,_,rfl,ca,_,rfl,.inl (SqL.of gc6),rfl,flat_ints _,_,rfl,?_⟩
     rw [if_pos rfl,inV_ints]
     by_cases d:x∈(mcB kn o).2
     ·rw [decide_eq_true d]
      exact iteF (skip (by simp [c,d]))
     ·rw [decide_eq_false d]
      exact iteT ⟨_,rfl,_,rfl,_,rfl,mu,_,rfl,.inl (SqL.of gm6),rfl,flat_ints _,(by show 2≤sizeLine; decide),fun t ht=>take t _ (by rw [if_neg Bool.false_ne_true,inV_ints]) (by simp [d]) ht⟩
  ·rintro ys H' hyl ⟨g6,its,rfl,ei,al⟩ D hD
   have k:=same_new hD (.lst (its.map chV))
   rw [List.length_map,List.take_length] at ei
   exact q D _ ((gy.trans g6).trans k) ((gy.trans g6).free hD) ⟨its,upd_same,ei,fun p hp=>k _ _ (al p hp)⟩
set_option maxHeartbeats 32000000 in
theorem ok_rnd (F:FunM K mg "rounds" ["program", "state", "coming"] s_rounds) (T:Txt mg) (C_body_to_begin:Callee P w K mg base 43 "body_to_begin" ["program", "state"] (spBtb K 40)) (C_known_at_first:Callee P w K mg base 1 "known_at_first" ["program", "coming"] (spFirst K)) (C_known_behind:Callee P w K mg base 1 "known_behind" ["known", "changes"] (spBeh K)) (C_changes_by:Callee P w K mg base 45 "changes_by" ["body", "known"] (spChg K)):Callee P w K mg base 46 "rounds" ["program", "state", "coming"] (spRnd K):=by
 refine F.ok sc_rounds (fun vs H Q E h=>?_) (fun f cdv A outer s H vs Q E hr h=>?_)
 ·obtain ⟨pr,sv,co,n,p,st,cs,rfl,_⟩:=h; rfl
 obtain ⟨pr,sv,co,n,p,st,cs,rfl,pg,hst,hS,q⟩:=h
 obtain ⟨x0,x1,v,hpr,hp⟩:=pg.pa
 have nb:=pg.nb
 have pgr:=pg.rc
 have pgs:=pg.sc
 have pgh:=pg.hg
 refine ⟨_,(pss_cons (ps_set (i:=3) sc_rounds.nd rfl (Or.inl rfl) (pe_callC C_body_to_begin hr rfl pass0 (pa_cons (pv 0) (pa_cons (pv 1) pa_nil))))
  (pss_cons (ps_set (i:=4) sc_rounds.nd rfl (Or.inl rfl) (pe_callC C_known_at_first hr rfl pass0 (pa_cons (pv 0) (pa_cons (pv 2) pa_nil))))
  (pss_cons (ps_set (i:=5) sc_rounds.nd rfl (Or.inl rfl) (pe_lst pa_nil))
  (pss_cons (ps_set (i:=6) sc_rounds.nd rfl (Or.inl rfl) (pe_callC C_changes_by hr rfl pass0 (pa_cons (pv 3) (pa_cons (pv 4) pa_nil))))
  (pss_cons (ps_while PassesOwn.never (pt_truth (pv 6) (fun _=>rfl))
   (pss_cons (ps_expr (pe_bm PySem.F.plainAttrs_list PySem.F.slot_list_append PySem.F.type_list_append mt_append (pv 5) (pa_cons (pv 6) pa_nil)))
  (pss_cons (ps_set (i:=4) sc_rounds.nd rfl (Or.inl rfl) (pe_callC C_known_behind hr rfl pass0 (pa_cons (pv 4) (pa_cons (pv 6) pa_nil))))
  (pss_one (ps_set (i:=6) sc_rounds.nd rfl (Or.inl rfl) (pe_callC C_changes_by hr rfl pass0 (pa_cons (pv 3) (pa_cons (pv 4) pa_nil))))))))
  (pss_one (ps_ret (pv 5)))))))),?_⟩
 refine ⟨_,rfl,_,rfl,pr,x0,x1,.int n,v,p,sv,st,rfl,SqT.of hpr,hp,hst,pg.hg,by omega,fun bv H1 g1 hb=>?_⟩
 have ob:OBd K H1 (bodyO p st) bv:=by
  rcases hb with ⟨ov,rfl⟩ | ⟨ov,P1⟩
  ·rw [bodyO_over.1 ov]; rfl
  ·rw [bodyO_over.2 ov]
   have k1:(pb p st).hg≤p.hg:=by cases st with | none=>exact Nat.le_refl _ | some l=>exact rem_hg l p
   have k2:(pb p st).sc≤p.sc:=by cases st with | none=>exact Nat.le_refl _ | some l=>exact rem_sc l p
   exact ⟨P1,by omega,by omega⟩
 have okb:=okB_body pg.ok st
 refine ⟨_,rfl,_,rfl,pr,co,n,p,cs,rfl,pg.mono g1,g1.seq hS,fun kl H2 g2 nk hk=>?_⟩
 refine ⟨(by show 0≤sizeLine; decide),fun r0 hr0=>?_⟩
 have k3:=same_new hr0 (.lst [])
 have g13:=g2.trans k3
 have g03:=g1.trans g13
 have hk3:=k3 _ _ hk
 have nkr:kl≠r0:=ne_of_none hk hr0
 have h30:=upd_same (H:=H2) (a:=r0) (o:=.lst [])
 have fr0:H r0 = none:=(g1.trans g2).free hr0
 have ob3:=ob.mono g13
 generalize (upd H2 r0 (.lst [])) = H3 at g03 hk3 h30 ob3
 have l0:(firstK n cs).length = n:=by simp [firstK]
 generalize bodyO p st = o at ob3 okb q
 refine ⟨_,rfl,_,rfl,bv,o,kl,firstK n cs,rfl,ob3,SqL.of hk3,by omega,by rw [l0]; exact okb,fun ch H4 g4 nch hch=>?_⟩
 refine ⟨fun m σ H'=>∃ (kl ch:Addr) (kn:List (Option Bool)) (its:List (Addr× List (Int× Bool))),σ = [some (.ref pr),some sv,some (.ref co),some bv,some (.ref kl),some (.ref r0),some (.ref ch)]∧Same H H'∧OBd K H' o bv∧H' kl = some (.lst (kn.map vO))∧kl≠r0∧kn.length = n∧ChAt H' ch (stepK o kn)∧ch≠r0∧H' r0 = some (.lst (its.map rdV))∧its.length + m = n + 1∧(∀ p∈its,ChAt H' p.1 p.2∧p.1≠r0)∧nones kn < m∧its.map Prod.snd ++ rnds o m kn = rnds o (n + 1) (firstK n cs),⟨n + 1,kl,ch,firstK n cs,[],rfl,g03.trans g4,ob3.mono g4,g4 _ _ hk3,nkr,l0,hch,(fun z=>by rw [z,h30] at nch; cases nch),g4 _ _ h30,by simp,(fun p hp=>by cases hp),by have:=nones_len (firstK n cs); omega,rfl⟩,?_⟩
 rintro m σ H5 ⟨kl,ch,kn,its,rfl,g5,ob5,hk5,nkr,ln,hch5,nch5,h50,lm,al,nm,er⟩
 obtain ⟨cit,c1,c2,c3⟩:=id hch5
 refine ⟨_,rfl,_,.inl ⟨_,SqL.of c1,rfl⟩,?_⟩
 by_cases z:stepK o kn = []
 ·have e0:cit = []:=by rw [z] at c2; exact List.map_eq_nil_iff.mp c2
  subst e0
  refine iteF ?_
  obtain ⟨m',rfl⟩:∃ m',m = m' + 1:=⟨m - 1,by omega⟩
  simp only [rnds] at er
  rw [if_pos z,List.append_nil] at er
  exact ⟨_,rfl,q r0 H5 g5 ⟨its,h50,er,fun p hp=>(al p hp).1⟩⟩
 ·obtain ⟨x,r,e0⟩:∃ x r,cit = x :: r:=by
   cases cit with
   | nil=>exact absurd c2.symm z
   | cons x r=>exact ⟨x,r,rfl⟩
  subst e0
  refine iteT ⟨fun σ' H'=>∃ m',m' < m∧∃ (kl ch:Addr) (kn:List (Option Bool)) (its:List (Addr× List (Int× Bool))),σ' = [some (.ref pr),some sv,some (.ref co),some bv,some (.ref kl),some (.ref r0),some (.ref ch)]∧Same H H'∧OBd K H' o bv∧H' kl = some (.lst (kn.map vO))∧kl≠r0∧kn.length = n∧ChAt H' ch (stepK o kn)∧ch≠r0∧H' r0 = some (.lst (its.map rdV))∧its.length + m' = n + 1∧(∀ p∈its,ChAt H' p.1 p.2∧p.1≠r0)∧nones kn < m'∧its.map Prod.snd ++ rnds o m' kn = rnds o (n + 1) (firstK n cs),fun σ' H' h=>h,?_⟩
  refine ⟨_,rfl,.inl ⟨rfl,_,SqL.of h50⟩,_,rfl,r0,_,_,rfl,rfl,h50,by rw [List.length_map]; exact small1000 (by omega),?_⟩
  have g6:=g5.young fr0 (.lst (its.map rdV ++ [.ref ch]))
  have ob6:OBd K (upd H5 r0 (.lst (its.map rdV ++ [.ref ch]))) o bv:=by
   cases o with
   | none=>exact ob5
   | some b=>exact ⟨ob5.1.mono (Tp.lst h50),ob5.2⟩
  have hk6:(upd H5 r0 (.lst (its.map rdV ++ [.ref ch]))) kl = some (.lst (kn.map vO)):=by rw [upd_ne nkr]; exact hk5
  have hch6:=hch5.off (ys:=its.map rdV ++ [.ref ch]) nch5 h50
  have al6:∀ p∈its,ChAt (upd H5 r0 (.lst (its.map rdV ++ [.ref ch]))) p.1 p.2∧p.1≠r0:=fun p hp=>⟨(al p hp).1.off (al p hp).2 h50,(al p hp).2⟩
  have h60:=upd_same (H:=H5) (a:=r0) (o:=.lst (its.map rdV ++ [.ref ch]))
  generalize (upd H5 r0 (.lst (its.map rdV ++ [.ref ch]))) = H6 at g6 ob6 hk6 hch6 al6 h60
  have sb:=stepK_bd o kn
  refine ⟨_,rfl,_,rfl,kl,ch,kn,stepK o kn,rfl,SqL.of hk6,hch6,sb.1,by omega,by omega,fun kl2 H7 g7 nk7 hk7=>?_⟩
  have nkr7:kl2≠r0:=fun y=>by rw [y,h60] at nk7; cases nk7
  have bl:=behK_len (stepK o kn) kn
  refine ⟨_,rfl,_,rfl,bv,o,kl2,behK kn (stepK o kn),rfl,ob6.mono g7,SqL.of hk7,by omega,by rw [bl,ln]; exact okb,fun ch2 H8 g8 nc8 hc8=>?_⟩
  have h70:=g7 _ _ h60
  have nn:=nones_next z
  obtain ⟨m',rfl⟩:∃ m',m = m' + 1:=⟨m - 1,by omega⟩
  refine ⟨m',by omega,kl2,ch2,behK kn (stepK o kn),its ++ [(ch,stepK o kn)],rfl,(g6.trans g7).trans g8,(ob6.mono g7).mono g8,g8 _ _ hk7,nkr7,by omega,hc8,(fun y=>by rw [y,h70] at nc8; cases nc8),?_,by rw [List.length_append,List.length_singleton]; omega,fun p hp=>?_,by omega,?_⟩
  ·rw [g8 _ _ h70,List.map_append]; rfl
  ·rcases List.mem_append.mp hp with h | h
   ·exact ⟨((al6 p h).1.mono g7).mono g8,(al6 p h).2⟩
   ·rcases List.mem_singleton.mp h with rfl
    exact ⟨(hch6.mono g7).mono g8,nch5⟩
  ·rw [← er]
   simp only [rnds]
   rw [if_neg z,List.map_append,List.append_assoc]
   rfl
set_option maxHeartbeats 32000000 in
theorem ok_set (F:FunM K mg "settled" ["program", "state", "coming"] s_settled) (T:Txt mg) (C_known_at_first:Callee P w K mg base 1 "known_at_first" ["program", "coming"] (spFirst K)) (C_known_behind:Callee P w K mg base 1 "known_behind" ["known", "changes"] (spBeh K)) (C_rounds:Callee P w K mg base 46 "rounds" ["program", "state", "coming"] (spRnd K)):Callee P w K mg base 47 "settled" ["program", "state", "coming"] (spSet K):=by
 refine F.ok sc_settled (fun vs H Q E h=>?_) (fun f cdv A outer s H vs Q E hr h=>?_)
 ·obtain ⟨pr,sv,co,n,p,st,cs,rfl,_⟩:=h; rfl
 obtain ⟨pr,sv,co,n,p,st,cs,rfl,pg,hst,hS,q⟩:=h
 have nb:=pg.nb
 refine ⟨_,(pss_cons (ps_set (i:=3) sc_settled.nd rfl (Or.inl rfl) (pe_callC C_known_at_first hr rfl pass0 (pa_cons (pv 0) (pa_cons (pv 2) pa_nil))))
  (pss_cons (ps_for PassesOwn.never rfl (pi_list (pe_callC C_rounds hr rfl pass0 (pa_cons (pv 0) (pa_cons (pv 1) (pa_cons (pv 2) pa_nil))))) (pg_name (i:=4) sc_settled.nd rfl (Or.inl rfl))
   (pss_one (ps_set (i:=3) sc_settled.nd rfl (Or.inl rfl) (pe_callC C_known_behind hr rfl pass0 (pa_cons (pv 3) (pa_cons (pv 4) pa_nil))))))
  (pss_one (ps_ret (pv 3))))),?_⟩
 refine ⟨_,rfl,_,rfl,pr,co,n,p,cs,rfl,pg,hS,fun kl H1 g1 _ hk=>?_⟩
 refine ⟨_,rfl,_,rfl,_,rfl,pr,sv,co,n,p,st,cs,rfl,pg.mono g1,stAt_mono g1 hst,g1.seq hS,fun r H2 g2 ⟨its,h2,e2,al⟩=>?_⟩
 have l0:(firstK n cs).length = n:=by simp [firstK]
 have bd:=rnds_bd (bodyO p st) (n + 1) (firstK n cs)
 unfold setF at q
 rw [← e2] at bd q
 refine ⟨r,rfl,⟨_,SqL.of h2⟩,for_list (K:=K) (a:=r) (xs:=its.map rdV) (D:={ nx:=tRet (tVar 3) { nx:=fun x H'=>Q V.non H',rt:=Q },rt:=Q }) (fun i σ H'=>∃ (kl:Addr) (x4:Option V),σ = [some (.ref pr),some sv,some (.ref co),some (.ref kl),x4]∧Same H2 H'∧H' kl = some (.lst ((((its.map Prod.snd).take i).foldl behK (firstK n cs)).map vO))) ⟨kl,none,rfl,Same.refl _,g2 _ _ hk⟩ (fun i σ H' _ ⟨_,_,_,g,_⟩=>SqL.of (g _ _ h2)) ?_ ?_⟩
 ·rintro i y σ H3 hi ⟨kl,x4,rfl,g3,hk3⟩
  rw [List.getElem?_map] at hi
  cases e:its[i]? with
  | none=>rw [e] at hi; cases hi
  | some it =>
   rw [e] at hi
   cases hi
   have hm:=List.mem_of_getElem? e
   have b:=bd it.2 (List.mem_map_of_mem hm)
   have fl:=foldB_len ((its.map Prod.snd).take i) (firstK n cs)
   refine ⟨_,rfl,_,rfl,kl,it.1,_,it.2,rfl,SqL.of hk3,(al it hm).mono g3,(by rw [fl]; exact b.1),by omega,by omega,fun kl2 H4 g4 _ hk4=>?_⟩
   refine ⟨kl2,_,rfl,g3.trans g4,?_⟩
   rw [hk4,List.take_add_one,List.getElem?_map,e,List.foldl_append]
   rfl
 ·rintro σ H3 ⟨kl,x4,rfl,g3,hk3⟩
  rw [List.length_map,show its.length = (its.map Prod.snd).length from (List.length_map _).symm,List.take_length] at hk3
  exact ⟨_,rfl,q kl H3 ((g1.trans g2).trans g3) hk3⟩
end
end My
end
section
set_option Elab.async false
set_option linter.all false
set_option maxRecDepth 100000
set_option maxHeartbeats 4000000
namespace L2
open PySem PySem.Spec PyProof.Rows
def OL (K:PySem.W.Frag) (H:Hp):Option (List Int)→V→Prop
 | none,v=>v = .non
 | some ns,v=>∃ a,v = .ref a∧SqL K H a (ns.map V.int)
def intV:Value→Option Int
 | .int i _=>some i
 | _=>none
def intsV:List Value→Option (List Int)
 | []=>some []
 | u :: us=>match intV u,intsV us with
  | some i,some r=>some (i :: r)
  | _,_=>none
theorem intsV_of:∀ {ns:List Int} {us:List Value},Vals (ns.map V.int) us→intsV us = some ns
 | [],_,r=>by cases r; rfl
 | n :: ns,_,r=>by
  cases r with
  | cons p t =>
   obtain ⟨tk,rfl⟩:=p
   unfold intsV
   rw [intsV_of t]
   rfl
def readO (h:Heap):Value→Option (Option (List Int))
 | .none=>some none
 | .ref a=>match h.get? a with
  | some o=>match o.data with
   | .seq its _=>(intsV its.toList).map some
   | _=>none
  | none=>none
 | _=>none
section
variable {X:Cx} {pins:List (Addr× Obj)} {σ:St} {H:Hp} {s:Shared}
theorem readO_of (I:Inv X pins σ H s) {o:Option (List Int)} {v:V} {u:Value} (h:OL X.K H o v) (r:RelV v u):readO s.heap u = some o:=by
 cases o with
 | none =>
  cases (show v = .non from h)
  cases r
  rfl
 | some ns =>
  obtain ⟨a,rfl,hs⟩:=h
  cases r
  obtain ⟨us,r1,p1,z1⟩:=I.list hs
  obtain ⟨ob,e1,_,n1,d1⟩:=p1.isList
  unfold readO
  dsimp only
  rw [e1]
  dsimp only
  rw [d1]
  dsimp only
  rw [intsV_of r1]
  rfl
theorem eqO_at (I:Inv X pins σ H s) {o o':Option (List Int)} {v v':V} {u u':Value} (h:OL X.K H o v) (h':OL X.K H o' v') (r:RelV v u) (r':RelV v' u') (A:Around) (hA:A.units + 1 < cLine):SeqAt.EqAt A s u u' (decide (o = o')):=by
 cases o with
 | none =>
  cases (show v = .non from h)
  cases r
  cases o' with
  | none =>
   cases (show v' = .non from h')
   cases r'
   rw [decide_eq_true rfl]
   exact SeqAt.EqAt.same _
  | some ms =>
   obtain ⟨b,rfl,hs⟩:=h'
   cases r'
   obtain ⟨us,r1,p1,z1⟩:=I.list hs
   rw [decide_eq_false (fun z=>nomatch z)]
   exact SeqAt.EqAt.none_list p1.isList (by omega)
 | some ns =>
  obtain ⟨a,rfl,hs⟩:=h
  cases r
  obtain ⟨us,r1,p1,z1⟩:=I.list hs
  cases o' with
  | none =>
   cases (show v' = .non from h')
   cases r'
   rw [decide_eq_false (fun z=>nomatch z)]
   exact SeqAt.EqAt.list_none p1.isList (by omega)
  | some ms =>
   obtain ⟨b,rfl,hs2⟩:=h'
   cases r'
   obtain ⟨ws,r2,p2,z2⟩:=I.list hs2
   have l1:=r1.length
   have l2:=r2.length
   rw [List.length_map] at l1 l2
   have e0:decide (some ns = some ms) = decide (ns = ms):=by
    by_cases z:ns = ms
    ·rw [decide_eq_true z,decide_eq_true (congrArg some z)]
    ·rw [decide_eq_false z,decide_eq_false fun y=>z (Option.some.inj y)]
   rw [e0]
   by_cases hab:a = b
   ·subst hab
    obtain ⟨o1,e1,_,n1,d1⟩:=p1.isList
    obtain ⟨o2,e2,_,n2,d2⟩:=p2.isList
    rw [e1] at e2
    cases e2
    rw [d1] at d2
    have d3:us.toArray = ws.toArray:=by injection d2
    have d4:us = ws:=by simpa using d3
    subst d4
    have:ns = ms:=Option.some.inj ((intsV_of r1).symm.trans (intsV_of r2))
    rw [decide_eq_true this]
    exact SeqAt.EqAt.same _
   ·refine SeqAt.EqAt.of_refs hab ?_
    by_cases e:ns.length = ms.length
    ·have q:=SeqAt.RcAt.lists (A:=A) p1.isList p2.isList (by simp; omega) (by omega) (ints_at (A:=A.in1) (s:=s) r1 r2)
     rw [List.size_toArray,← l1,ints_all e] at q
     exact q
    ·have d:decide (ns = ms) = false:=decide_eq_false fun z=>e (by rw [z])
     rw [d]
     exact SeqAt.RcAt.lists_lengths p1.isList p2.isList (by simp; omega) (by omega)
theorem valsO_back {os:List (Option (List Int))}:∀ {os:List (Option (List Int))} {xs:List V} {us:List Value},PySem.Paired (OL X.K H) os xs→Vals xs us→∀ u∈us,∃ o∈os,∃ x,OL X.K H o x∧RelV x u
 | _,_,_,.nil,.nil,u,h=>by cases h
 | o :: os,x :: xs,v :: us,.cons p t,.cons r t',u,h=>by
  rcases List.mem_cons.mp h with rfl | h
  ·exact ⟨o,List.mem_cons_self,x,p,r⟩
  ·obtain ⟨o',ho,x',hx,hr⟩:=valsO_back (os:=os) t t' u h
   exact ⟨o',List.mem_cons_of_mem _ ho,x',hx,hr⟩
theorem anyO (I:Inv X pins σ H s) {o:Option (List Int)}:∀ {os:List (Option (List Int))} {xs:List V} {us:List Value},PySem.Paired (OL X.K H) os xs→Vals xs us→us.any (fun u=>decide (readO s.heap u = some o)) = decide (o∈os)
 | _,_,_,.nil,.nil=>by simp
 | o' :: os,x :: xs,v :: us,.cons p t,.cons r t'=>by
  rw [List.any_cons,anyO I t t',readO_of I p r]
  by_cases z:o' = o
  ·subst z; simp
  ·rw [decide_eq_false (fun y=>z (Option.some.inj y)),Bool.false_or]
   by_cases w:o∈os
   ·rw [decide_eq_true w,decide_eq_true (List.mem_cons_of_mem _ w)]
   ·rw [decide_eq_false w,decide_eq_false (fun y=>(List.mem_cons.mp y).elim (fun h=>z h.symm) w)]
end
def rInO (K:PySem.W.Frag) (neg:Bool):R2:=fun x y H Q=>∃ p o os xs,y = .ref p∧SqL K H p xs∧OL K H o x∧PySem.Paired (OL K H) os xs∧Q (.bl (if neg then !decide (o∈os) else decide (o∈os))) H
section
variable {X:Cx}
theorem op_inO (hu:X.A.units + 64 < cLine):OpR X (compareOp .In) (rInO X.K false):=by
 intro pins s σ H x y v u Q I rx ry h
 obtain ⟨p,o,os,xs,rfl,hq,hx,hp,q⟩:=h
 cases ry
 obtain ⟨its,r,pl,hz⟩:=I.list hq
 refine SeqAt.in_listAt (fun w=>decide (readO s.heap w = some o)) pl.isList (fun w hw=>?_) ⟨.bl _,H,I,rfl,?_⟩
 ·obtain ⟨o',_,x',hx',rw'⟩:=valsO_back (os:=os) hp r w (by simpa using hw)
  have z:=eqO_at I hx' hx rw' rx X.A.in1 (by show X.A.units + 1 + 1 < cLine; omega)
  have e:decide (readO s.heap w = some o) = decide (o' = o):=by
   rw [readO_of I hx' rw']
   by_cases y:o' = o
   ·rw [decide_eq_true y,decide_eq_true (congrArg some y)]
   ·rw [decide_eq_false y,decide_eq_false fun z=>y (Option.some.inj z)]
  show SeqAt.EqAt X.A.in1 s w v (decide (readO s.heap w = some o))
  rw [e]
  exact z
 ·rw [show its.toArray.any (fun w=>decide (readO s.heap w = some o)) = its.any (fun w=>decide (readO s.heap w = some o)) by simp,anyO I hp r]
  exact q
theorem op_notInO (hu:X.A.units + 64 < cLine):OpR X (compareOp .NotIn) (rInO X.K true):=by
 intro pins s σ H x y v u Q I rx ry h
 obtain ⟨p,o,os,xs,rfl,hq,hx,hp,q⟩:=h
 cases ry
 obtain ⟨its,r,pl,hz⟩:=I.list hq
 refine SeqAt.notIn_listAt (fun w=>decide (readO s.heap w = some o)) pl.isList (fun w hw=>?_) ⟨.bl _,H,I,rfl,?_⟩
 ·obtain ⟨o',_,x',hx',rw'⟩:=valsO_back (os:=os) hp r w (by simpa using hw)
  have z:=eqO_at I hx' hx rw' rx X.A.in1 (by show X.A.units + 1 + 1 < cLine; omega)
  have e:decide (readO s.heap w = some o) = decide (o' = o):=by
   rw [readO_of I hx' rw']
   by_cases y:o' = o
   ·rw [decide_eq_true y,decide_eq_true (congrArg some y)]
   ·rw [decide_eq_false y,decide_eq_false fun z=>y (Option.some.inj z)]
  show SeqAt.EqAt X.A.in1 s w v (decide (readO s.heap w = some o))
  rw [e]
  exact z
 ·rw [show its.toArray.any (fun w=>decide (readO s.heap w = some o)) = its.any (fun w=>decide (readO s.heap w = some o)) by simp,anyO I hp r]
  exact q
end
end L2
end
section
set_option Elab.async false
set_option linter.all false
set_option maxRecDepth 100000
set_option maxHeartbeats 4000000
namespace My
open PySem L2
theorem setF_len (o:Option Pt) (f:Nat) (kn:List (Option Bool)):(setF o f kn).length = kn.length:=by
 unfold setF
 generalize rnds o f kn = l
 induction l generalizing kn with
 | nil=>rfl
 | cons c l ih=>exact (ih _).trans (behK_len c kn)
def knW (p:Pt) (st:Option (List Int)) (n:Nat) (cs:List Int):List (Option Bool):=setF (bodyO p st) (n + 1) (firstK n cs)
theorem knW_len (p:Pt) (st:Option (List Int)) (n:Nat) (cs:List Int):(knW p st n cs).length = n:=by
 unfold knW firstK
 rw [setF_len,List.length_map,List.length_range]
theorem vO_flat (kn:List (Option Bool)):(kn.map vO).all flatV = true:=by
 rw [List.all_eq_true]
 intro v hv
 obtain ⟨o,_,rfl⟩:=List.mem_map.mp hv
 cases o <;> rfl
theorem none_in (kn:List (Option Bool)):inV .non (kn.map vO) = decide (none∈kn):=by
 induction kn with
 | nil=>rfl
 | cons o kn ih =>
  show (eqV (vO o) .non || inV .non (kn.map vO)) = _
  rw [ih]
  cases o with
  | none=>simp [vO,eqV]
  | some b=>simp [vO,eqV]
def KpS (S:List Addr) (H H':Hp):Prop:=∀ b u,b∉S→H b = some u→H' b = some u
theorem KpS.refl (S:List Addr) (H:Hp):KpS S H H:=fun _ _ _ h=>h
theorem KpS.trans {S:List Addr} {H H1 H2:Hp} (a:KpS S H H1) (b:KpS S H1 H2):KpS S H H2:=fun c u h e=>b c u h (a c u h e)
theorem Same.kpS {S:List Addr} {H H':Hp} (g:Same H H'):KpS S H H':=fun b u _ e=>g b u e
theorem KpS.upd {S:List Addr} {r:Addr} {H:Hp} {u:HO} (h:r∈S):KpS S H (L2.upd H r u):=fun b v n e=>by
 have hb:b≠r:=fun z=>n (by rw [z]; exact h)
 rw [upd_ne hb]
 exact e
def Mut (S:List Addr) (H:Hp):Prop:=∀ b∈S,∃ u,H b = some u∧∀ xs,u≠.tup xs
theorem Mut.off {S:List Addr} {H:Hp} (m:Mut S H) {x:Addr} (h:H x = none):x∉S:=fun z=>by
 obtain ⟨u,e,_⟩:=m x z
 rw [h] at e
 cases e
theorem Mut.mono {S:List Addr} {H H':Hp} (m:Mut S H) (g:Same H H'):Mut S H':=fun b hb=>by
 obtain ⟨u,e,n⟩:=m b hb
 exact ⟨u,g _ _ e,n⟩
def comL:Nat→List (List Int)
 | 0=>[[]]
 | n + 1=>comL n ++ (comL n).map (· ++ [(n:Int)])
def rf (p:Addr× List Int):V:=.ref p.1
def IT (H H':Hp) (a:Addr) (p:Addr× List Int):Prop:=p.1≠a∧H p.1 = none∧H' p.1 = some (.lst (p.2.map V.int))
def spCom:Sp:=fun vs H Q _=>∃ c:Nat,vs = [.int c]∧c≤5∧∀ (a:Addr) (its:List (Addr× List Int)) (H':Hp),Same H H'→H' a = some (.lst (its.map rf))→H a = none→its.map Prod.snd = comL c→(∀ p∈its,IT H H' a p)→Q (.ref a) H'
theorem com_len:∀ c:Nat,c≤5→(comL c).length≤32∧([1,2,4,8,16,32]:List Int)[c]? = some ((comL c).length:Int):=by decide +kernel
theorem com_in:∀ c:Nat,c≤5→∀ l∈comL c,l.length≤5:=by decide +kernel
section
variable {P:Program} {w:World} {K:PySem.W.Frag} {mg:Str→Option Value} {base:Heap}
set_option maxHeartbeats 16000000 in
theorem ok_com (F:FunM K mg "comings" ["came"] s_comings) (T:Txt mg):Callee P w K mg base 1 "comings" ["came"] spCom:=by
 refine F.ok sc_comings (fun vs H Q E h=>?_) (fun f cdv A outer s H vs Q E hr h=>?_)
 ·obtain ⟨c,rfl,_⟩:=h
  rfl
 obtain ⟨c,rfl,hc,q⟩:=h
 refine ⟨_,(pss_cons (ps_set (i:=1) sc_comings.nd rfl (Or.inl rfl) (pe_lst (pa_cons (pe_lst pa_nil) pa_nil)))
  (pss_cons (ps_for PassesOwn.never rfl (pi_range1 rfl T.n_range (pa_cons (pv 0) pa_nil)) (pg_name (i:=2) sc_comings.nd rfl (Or.inr rfl))
   (pss_one (ps_set (i:=1) sc_comings.nd rfl (Or.inl rfl) (pe_op op_cat (pv 1) (pe_comp (g:=(gName 0)) (tc:=tAlways) (te:=(tOp rCat (tVar 0) (tLst (tCons (tVar 1) tNil)))) ["coming"] [("sign", 2)] rfl (compOk (defScope s_comings) ["came", "found", "sign"] (by decide +kernel)) (pi_list (pv 1)) (fun s2 H2 fp cl C=>pg_name (i:=0) (show List.Nodup [("coming" : Str),("sign" : Str)] from by decide +kernel) rfl (Or.inl rfl)) (gkeep_name (by decide)) (fun s2 H2 fp cl C=>pif_nil) (fun s2 H2 fp cl C=>(pe_op op_cat (pv 0) (pe_lst (pa_cons (pv 1) pa_nil)))))))))
  (pss_one (ps_ret (pv 1))))),?_⟩
 refine ⟨(by show 0≤sizeLine; decide),fun e he=>⟨(by show 1≤sizeLine; decide),fun f hf=>?_⟩⟩
 have g1:=same_new he (.lst [])
 have g2:=same_new hf (.lst [.ref e])
 have he2:=g2 _ _ (upd_same (H:=H) (a:=e) (o:=.lst []))
 have ne:e≠f:=ne_of_none (upd_same (H:=H) (a:=e) (o:=.lst [])) hf
 have hf0:H f = none:=g1.free hf
 refine ⟨_,rfl,_,rfl,by omega,by omega,?_⟩
 dsimp only
 rw [Int.toNat_natCast]
 refine for_range (n:=c) (D:={ nx:=tRet (tVar 1) { nx:=fun x H'=>Q V.non H',rt:=Q },rt:=Q }) (fun i σ H'=>∃ (f:Addr) (its:List (Addr× List Int)) (x:Option V),σ = [some (.int c),some (.ref f),x]∧Same H H'∧H' f = some (.lst (its.map rf))∧H f = none∧its.map Prod.snd = comL i∧∀ p∈its,IT H H' f p) ?_ ?_ ?_
 ·exact ⟨f,[(e,[])],none,rfl,g1.trans g2,upd_same,hf0,rfl,fun p hp=>by
   rcases List.mem_cons.mp hp with rfl | hp
   ·exact ⟨ne,he,he2⟩
   ·cases hp⟩
 ·rintro i σ H1 hi ⟨f,its,x,rfl,g3,hF,hf0,es,al⟩
  have hlen:its.length = (comL i).length:=by rw [← es,List.length_map]
  have hl32:=(com_len i (by omega)).1
  refine ⟨_,rfl,_,rfl,f,rfl,⟨_,SqL.of hF⟩,?_⟩
  refine comp_list (K:=K) (a:=f) (xs:=its.map rf) (fun j ys H'=>Same H1 H'∧∃ new:List (Addr× List Int),ys = new.map rf∧new.map Prod.snd = ((comL i).take j).map (· ++ [(i:Int)])∧∀ p∈new,H p.1 = none∧H' p.1 = some (.lst (p.2.map V.int))) ⟨Same.refl _,[],rfl,rfl,fun p hp=>by cases hp⟩ (by rw [List.length_map]; exact small (by omega)) (fun j ys H' ⟨g,_⟩=>SqL.of (g _ _ hF)) ?_ ?_
  ·rintro j z ys H2 N hj ⟨g4,new,rfl,en,an⟩ hN hyl
   rw [List.getElem?_map] at hj
   cases ej:its[j]? with
   | none=>rw [ej] at hj; cases hj
   | some p =>
    rw [ej] at hj
    cases hj
    have hp:=al p (List.mem_of_getElem? ej)
    have hc:(comL i)[j]? = some p.2:=by rw [← es,List.getElem?_map,ej]; rfl
    have pl:=com_in i (by omega) p.2 (List.mem_of_getElem? hc)
    refine ⟨_,rfl,_,rfl,(by show 1≤sizeLine; decide),fun s hs=>?_⟩
    have k1:=same_new hs (.lst [.int (0 + (i:Int))])
    refine ⟨p.1,s,_,_,rfl,rfl,k1 _ _ (g4 _ _ hp.2.2),upd_same,?_,fun r hr=>?_⟩
    ·rw [List.length_map]; exact small (by show p.2.length + 1≤1000; omega)
    have k2:=same_new hr (.lst (p.2.map V.int ++ [.int (0 + (i:Int))]))
    refine hN _ _ ?_ ⟨(g4.trans k1).trans k2,new ++ [(r,p.2 ++ [(i:Int)])],?_,?_,?_⟩
    ·rw [List.length_append,List.length_singleton]; omega
    ·rw [List.map_append]; rfl
    ·rw [List.map_append,en,List.take_add_one,hc]; simp
    ·intro p' hp'
     rcases List.mem_append.mp hp' with h | h
     ·have:=an p' h
      exact ⟨this.1,k2 _ _ (k1 _ _ this.2)⟩
     ·rcases List.mem_singleton.mp h with rfl
      refine ⟨(g3.trans (g4.trans k1)).free hr,?_⟩
      show upd _ r _ r = _
      rw [upd_same,List.map_append,Int.zero_add]; rfl
  ·rintro ys H2 hyl ⟨g4,new,rfl,en,an⟩ D hD
   have k1:=same_new hD (.lst (new.map rf))
   have hnl:new.length = its.length:=by
    have:=congrArg List.length en
    rw [List.length_map,List.length_map,List.length_take,List.length_map] at this
    omega
   refine ⟨f,D,_,_,rfl,rfl,k1 _ _ (g4 _ _ hF),upd_same,?_,fun r hr=>?_⟩
   ·rw [List.length_map,List.length_map]; exact small (by omega)
   have k2:=same_new hr (.lst (its.map rf ++ new.map rf))
   have g5:=g4.trans (k1.trans k2)
   refine ⟨r,its ++ new,_,rfl,g3.trans g5,?_,(g3.trans (g4.trans k1)).free hr,?_,?_⟩
   ·rw [upd_same,List.map_append]
   ·rw [List.map_append,es,en,List.length_map,hlen,List.take_length]; rfl
   ·intro p hp
    rcases List.mem_append.mp hp with h | h
    ·have:=al p h
     exact ⟨ne_of_none (k1 _ _ (g4 _ _ this.2.2)) hr,this.2.1,g5 _ _ this.2.2⟩
    ·have:=an p h
     exact ⟨ne_of_none (k1 _ _ this.2) hr,this.1,k2 _ _ (k1 _ _ this.2)⟩
 ·rintro σ H1 ⟨f,its,x,rfl,g3,hF,hf0,es,al⟩
  exact ⟨_,rfl,q f its H1 g3 hF hf0 es al⟩
end
inductive LkR where
 | lt (sts:List (Option (List Int)))
 | rf (way:List (List Int)) (w:List Int)
 | many
def bhW (p:Pt) (n:Nat) (st:Option (List Int)) (cs:List Int):Option (List Int):=some (instD p st (areL (some true) (knW p st n cs))).2.2
abbrev LkS:=List (Option (List Int))× List (List (List Int))
def goC (p:Pt) (n:Nat) (st:Option (List Int)) (way:List (List Int)):List (List Int)→LkS→Sum LkR LkS
 | [],S=>.inr S
 | cs :: r,S=>if none∈knW p st n cs then .inl (.rf (way ++ [cs]) (areL none (knW p st n cs))) else if bhW p n st cs∈S.1 then goC p n st way r S else if S.1.length = 40 then .inl .many else goC p n st way r (S.1 ++ [bhW p n st cs],S.2 ++ [way ++ [cs]])
def goP (p:Pt) (n c:Nat):Nat→Nat→LkS→LkR
 | 0,_,S=>.lt S.1
 | f + 1,i,S=>if i < S.1.length then (match goC p n (S.1.getD i none) (S.2.getD i []) (comL c) S with | .inl r=>r | .inr S'=>goP p n c f (i + 1) S') else .lt S.1
def lookR (p:Pt) (n c:Nat):LkR:=goP p n c 41 0 ([none],[[]])
theorem goC_len {p:Pt} {n:Nat} {st:Option (List Int)} {way:List (List Int)}:∀ {l:List (List Int)} {S S':LkS},goC p n st way l S = .inr S'→S.1.length≤40→S.2.length = S.1.length→S'.1.length≤40∧S'.2.length = S'.1.length
 | [],S,S',h,h1,h2=>by cases h; exact ⟨h1,h2⟩
 | cs :: r,S,S',h,h1,h2=>by
  unfold goC at h
  split at h
  ·cases h
  ·split at h
   ·exact goC_len h h1 h2
   ·split at h
    ·cases h
    ·rename_i z
     refine goC_len h ?_ ?_
     ·show (S.1 ++ [bhW p n st cs]).length≤40
      rw [List.length_append,List.length_singleton]; omega
     ·show (S.2 ++ [way ++ [cs]]).length = (S.1 ++ [bhW p n st cs]).length
      rw [List.length_append,List.length_append,List.length_singleton,List.length_singleton,h2]
def LsF (H0:Hp) (S:List Addr) (H:Hp) (cs:List Int) (v:V):Prop:=∃ r,v = .ref r∧r∉S∧H0 r = none∧H r = some (.lst (cs.map V.int))
def OF (H0:Hp) (S:List Addr) (H:Hp):Option (List Int)→V→Prop
 | none,v=>v = .non
 | some ns,v=>LsF H0 S H ns v
def WyF (H0:Hp) (S:List Addr) (H:Hp) (way:List (List Int)) (v:V):Prop:=∃ a vs,v = .ref a∧a∉S∧H0 a = none∧H a = some (.lst vs)∧PySem.Paired (LsF H0 S H) way vs
theorem LsF.kp {H0:Hp} {S:List Addr} {H H':Hp} {cs:List Int} {v:V} (k:KpS S H H') (h:LsF H0 S H cs v):LsF H0 S H' cs v:=by
 obtain ⟨r,e,n,f,e2⟩:=h
 exact ⟨r,e,n,f,k _ _ n e2⟩
theorem LsF.off {H0:Hp} {S S':List Addr} {H:Hp} {cs:List Int} {v:V} (h:LsF H0 S H cs v) (k:∀ r,v = .ref r→r∉S'):LsF H0 S' H cs v:=by
 obtain ⟨r,e,n,f,e2⟩:=h
 exact ⟨r,e,k r e,f,e2⟩
theorem OF.kp {H0:Hp} {S:List Addr} {H H':Hp} {f:Option (List Int)} {v:V} (k:KpS S H H') (h:OF H0 S H f v):OF H0 S H' f v:=by
 cases f with
 | none=>exact h
 | some ns=>exact LsF.kp k h
theorem WyF.kp {H0:Hp} {S:List Addr} {H H':Hp} {way:List (List Int)} {v:V} (k:KpS S H H') (h:WyF H0 S H way v):WyF H0 S H' way v:=by
 obtain ⟨a,vs,e,n,f,e2,p⟩:=h
 exact ⟨a,vs,e,n,f,k _ _ n e2,Paired.mapP p fun _ _ z=>LsF.kp k z⟩
theorem OF.ol {K:PySem.W.Frag} {H0:Hp} {S:List Addr} {H:Hp} {f:Option (List Int)} {v:V} (h:OF H0 S H f v):OL K H f v:=by
 cases f with
 | none=>exact h
 | some ns=>obtain ⟨r,e,_,_,e2⟩:=h; exact ⟨r,e,SqL.of e2⟩
theorem OF.st {K:PySem.W.Frag} {H0:Hp} {S:List Addr} {H:Hp} {f:Option (List Int)} {v:V} (h:OF H0 S H f v):StAt K H f v:=by
 cases f with
 | none=>exact h
 | some ns=>obtain ⟨r,e,_,_,e2⟩:=h; exact ⟨r,e,SqL.of e2⟩
theorem OF.less {H0:Hp} {S S':List Addr} {H:Hp} {f:Option (List Int)} {v:V} (s:∀ b∈S',b∈S) (h:OF H0 S H f v):OF H0 S' H f v:=by
 cases f with
 | none=>exact h
 | some ns=>obtain ⟨r,e,n,f,e2⟩:=h; exact ⟨r,e,fun z=>n (s _ z),f,e2⟩
inductive LkQ (H:Hp) (Q:VK) (E:XK) (cTM:Addr):LkR→Prop
 | lt (sts:List (Option (List Int))) (h:∀ t sl svs H',Same H H'→H' t = some (.tup [.str "let", .ref sl])→H sl = none→H' sl = some (.lst svs)→PySem.Paired (OF H [sl] H') sts svs→Q (.ref t) H'):LkQ H Q E cTM (.lt sts)
 | rf (way:List (List Int)) (w:List Int) (h:∀ t wa wvs sa H',Same H H'→H' t = some (.tup [.str "refused", .ref wa,.ref sa])→H wa = none→H sa = none→wa≠sa→H' wa = some (.lst wvs)→PySem.Paired (LsF H [wa,sa] H') way wvs→H' sa = some (.lst (w.map V.int))→Q (.ref t) H'):LkQ H Q E cTM (.rf way w)
 | many (h:∀ H',Same H H'→E (.ref cTM) none H'):LkQ H Q E cTM .many
def spAddS (cTM:Addr):Sp:=fun vs H Q E=>∃ (sl:Addr) (svs:List V) (v:V),vs = [.ref sl,v]∧H sl = some (.lst svs)∧svs.length≤40∧((svs.length = 40∧∀ H',Same H H'→E (.ref cTM) none H')∨(svs.length < 40∧Q .non (upd H sl (.lst (svs ++ [v])))))
def spLook (K:PySem.W.Frag) (cTM:Addr):Sp:=fun vs H Q E=>∃ (pr:Addr) (c n:Nat) (p:Pt) (x1 vb:V),vs = [.ref pr]∧PgAt K H pr n p∧H pr = some (.tup [.int c,x1,.int n,vb])∧c≤5∧c≤n∧LkQ H Q E cTM (lookR p n c)
section
variable {P:Program} {w:World} {K:PySem.W.Frag} {mg:Str→Option Value} {base:Heap} {cTM:Addr}
theorem ok_addS (F:FunM K mg "add_state" ["states", "state"] s_add_state) (T:Txt mg) (hTM:mg "TooMany" = some (.ref cTM)) (eTM:ExcC K cTM) (hMS:∃ t,mg "MOST_STATES" = some (.int 40 t)):CalleeX P w K mg base 1 "add_state" ["states", "state"] (spAddS cTM):=by
 refine F.okX sc_add_state (fun vs H Q E h=>?_) (fun f cdv A outer s H vs Q E hr h=>?_)
 ·obtain ⟨sl,svs,v,rfl,_⟩:=h; rfl
 obtain ⟨sl,svs,v,rfl,hs,hl,h⟩:=h
 obtain ⟨tk,hMS⟩:=hMS
 refine ⟨_,(pss_cons (ps_if (pt_cmpR op_eq (pe_callB call_lenK rfl T.n_len PySem.boot_len (pa_cons (pv 0) pa_nil)) (pe_glob (v:=.int 40) rfl hMS ⟨_,rfl⟩) (nomark _))
   (pss_one (ps_raise eTM hTM rfl (pa_cons pe_str pa_nil)))
   pss_nil)
  (pss_one (ps_expr (pe_bm PySem.F.plainAttrs_list PySem.F.slot_list_append PySem.F.type_list_append mt_append (pv 0) (pa_cons (pv 1) pa_nil))))),?_⟩
 refine ⟨_,rfl,sl,_,rfl,.inl (SqL.of hs),rfl,_,rfl,?_⟩
 rcases h with ⟨e,h⟩ | ⟨e,h⟩
 ·rw [decide_eq_true (show V.int (svs.length:Int) = V.int 40 by rw [e]; rfl)]
  exact iteT ⟨by show 1≤sizeLine; decide,h _ (Same.refl _)⟩
 ·rw [decide_eq_false (fun z=>by have:=V.int.inj z; omega)]
  exact iteF ⟨_,rfl,.inl ⟨rfl,_,SqL.of hs⟩,_,rfl,sl,_,_,rfl,rfl,hs,small1000 (by omega),h⟩
end
theorem mut2 {sl wl:Addr} {a b:List V} {H:Hp} (h1:H sl = some (.lst a)) (h2:H wl = some (.lst b)):Mut [sl,wl] H:=fun x hx=>by
 simp only [List.mem_cons,List.not_mem_nil,or_false] at hx
 rcases hx with rfl | rfl
 ·exact ⟨_,h1,fun xs z=>nomatch z⟩
 ·exact ⟨_,h2,fun xs z=>nomatch z⟩
theorem mem2 {a b:Addr}:a∈[a,b]∧b∈[a,b]:=by simp
theorem paired_get {α:Type} {F:α→V→Prop}:∀ {l:List α} {vs:List V} {i:Nat} {a:α},PySem.Paired F l vs→l[i]? = some a→∃ v,vs[i]? = some v∧F a v
 | _,_,_,_,.nil,e=>by simp at e
 | _,_,0,_,.cons (b:=b) f t,e=>⟨b,rfl,by cases e; exact f⟩
 | _,_,i + 1,_,.cons f t,e=>paired_get (i:=i) t e
inductive LkI (H0:Hp) (sl wl:Addr) (S:LkS) (H':Hp):Prop
 | mk (svs wvs:List V) (g:Same H0 H') (es:H' sl = some (.lst svs)) (ew:H' wl = some (.lst wvs)) (ps:PySem.Paired (OF H0 [sl,wl] H') S.1 svs) (pw:PySem.Paired (WyF H0 [sl,wl] H') S.2 wvs) (l40:S.1.length≤40) (le:S.2.length = S.1.length) (wb:∀ (k:Nat) (way:List (List Int)),S.2[k]? = some way→way.length≤k):LkI H0 sl wl S H'
section
variable {P:Program} {w:World} {K:PySem.W.Frag} {mg:Str→Option Value} {base:Heap} {cTM:Addr}
set_option maxHeartbeats 64000000 in
theorem ok_look (F:FunM K mg "looked" ["program"] s_looked) (T:Txt mg) (C_comings:Callee P w K mg base 1 "comings" ["came"] spCom) (C_settled:Callee P w K mg base 47 "settled" ["program", "state", "coming"] (spSet K)) (C_instant:Callee P w K mg base 45 "instant" ["program", "state", "there"] (spInst K 40)) (C_signs_that_are:Callee P w K mg base 1 "signs_that_are" ["value", "known"] (spAre K)) (C_add_state:CalleeX P w K mg base 1 "add_state" ["states", "state"] (spAddS cTM)):CalleeX P w K mg base 48 "looked" ["program"] (spLook K cTM):=by
 refine F.okX sc_looked (fun vs H Q E h=>?_) (fun f cdv A outer s H vs Q E hr h=>?_)
 ·obtain ⟨pr,c,n,p,x1,vb,rfl,_⟩:=h; rfl
 obtain ⟨pr,c,n,p,x1,vb,rfl,hP,hpr,hc5,hcn,hq⟩:=h
 refine ⟨_,(pss_cons (ps_set (i:=1) sc_looked.nd rfl (Or.inl rfl) (pe_lst (pa_cons pe_non pa_nil)))
  (pss_cons (ps_set (i:=2) sc_looked.nd rfl (Or.inl rfl) (pe_lst (pa_cons (pe_lst pa_nil) pa_nil)))
  (pss_cons (ps_set (i:=3) sc_looked.nd rfl (Or.inl rfl) pe_int)
  (pss_cons (ps_while PassesOwn.leaving (pt_cmpR op_lt (pv 3) (pe_callB call_lenK rfl T.n_len PySem.boot_len (pa_cons (pv 1) pa_nil)) (nomark _))
   (pss_cons (ps_for PassesOwn.leaving rfl (pi_list (pe_callC C_comings hr rfl pass0 (pa_cons (pe_ix ix_tup (pv 0) pe_int (fun _ _=>rfl)) pa_nil))) (pg_name (i:=4) sc_looked.nd rfl (Or.inl rfl))
   (pss_cons (ps_set (i:=5) sc_looked.nd rfl (Or.inl rfl) (pe_op op_cat (pe_ix ix_list (pv 2) (pv 3) (fun _ _=>rfl)) (pe_lst (pa_cons (pv 4) pa_nil))))
  (pss_cons (ps_set (i:=6) sc_looked.nd rfl (Or.inl rfl) (pe_callC C_settled hr rfl pass0 (pa_cons (pv 0) (pa_cons (pe_ix ix_list (pv 1) (pv 3) (fun _ _=>rfl)) (pa_cons (pv 4) pa_nil)))))
  (pss_cons (ps_if (pt_cmpR op_in_seq pe_non (pv 6) (by rfl))
   (pss_one (ps_ret (pe_tup (pa_cons pe_str (pa_cons (pv 5) (pa_cons (pe_callC C_signs_that_are hr rfl pass0 (pa_cons pe_non (pa_cons (pv 6) pa_nil))) pa_nil))))))
   pss_nil)
  (pss_cons (ps_set (i:=7) sc_looked.nd rfl (Or.inl rfl) (pe_ix ix_tup (pe_callC C_instant hr rfl pass0 (pa_cons (pv 0) (pa_cons (pe_ix ix_list (pv 1) (pv 3) (fun _ _=>rfl)) (pa_cons (pe_callC C_signs_that_are hr rfl pass0 (pa_cons pe_bl (pa_cons (pv 6) pa_nil))) pa_nil)))) pe_int (fun _ _=>rfl)))
  (pss_one (ps_if (pt_cmpR (op_notInO hr.units) (pv 7) (pv 1) (by rfl))
   (pss_cons (ps_expr (pe_callX C_add_state hr rfl (pa_cons (pv 1) (pa_cons (pv 7) pa_nil))))
  (pss_one (ps_expr (pe_bm PySem.F.plainAttrs_list PySem.F.slot_list_append PySem.F.type_list_append mt_append (pv 2) (pa_cons (pv 5) pa_nil)))))
   pss_nil)))))))
  (pss_one (ps_set (i:=3) sc_looked.nd rfl (Or.inl rfl) (pe_op op_add (pv 3) pe_int)))))
  (pss_one (ps_ret (pe_tup (pa_cons pe_str (pa_cons (pv 1) pa_nil))))))))),?_⟩
 refine ⟨(by show 1≤sizeLine; decide),fun sl hsl=>⟨(by show 0≤sizeLine; decide),fun e0 he0=>⟨(by show 1≤sizeLine; decide),fun wl hwl=>?_⟩⟩⟩
 obtain ⟨g0,es,ee,ew⟩:=new3 (a:=.lst [V.non]) (b:=.lst []) (c:=.lst [.ref e0]) hsl he0 hwl
 have fsl:H sl = none:=hsl
 have fe0:H e0 = none:=(same_new hsl _).free he0
 have fwl:H wl = none:=((same_new hsl _).trans (same_new he0 _)).free hwl
 have e1:=(same_new he0 (.lst [])) _ _ (upd_same (H:=H) (a:=sl) (o:=.lst [V.non]))
 have nsw:sl≠wl:=ne_of_none e1 hwl
 have nse:e0≠sl:=fun z=>by rw [z,upd_same] at he0; cases he0
 have e2:=upd_same (H:=upd H sl (.lst [V.non])) (a:=e0) (o:=.lst [])
 have nwe:e0≠wl:=ne_of_none e2 hwl
 have e0S:e0∉[sl,wl]:=fun z=>by
  simp only [List.mem_cons,List.not_mem_nil,or_false] at z
  exact z.elim nse nwe
 have I0:LkI H sl wl ([none],[[]]) (upd (upd (upd H sl (.lst [V.non])) e0 (.lst [])) wl (.lst [.ref e0])):=⟨[.non],[.ref e0],g0,es,ew,.cons rfl .nil,.cons ⟨e0,[],rfl,e0S,fe0,ee,.nil⟩ .nil,by decide,rfl,fun k way h=>by
  cases k with
  | zero=>cases h; exact Nat.zero_le _
  | succ k=>simp at h⟩
 generalize (upd (upd (upd H sl (.lst [V.non])) e0 (.lst [])) wl (.lst [.ref e0])) = H1 at I0
 clear es ee ew g0
 have hc32:=com_len c hc5
 refine while_by (fun σ H'=>∃ (i:Nat) (S:LkS) (x4 x5 x6 x7:Option V),σ = [some (.ref pr),some (.ref sl),some (.ref wl),some (.int (i:Int)),x4,x5,x6,x7]∧LkI H sl wl S H'∧i≤S.1.length∧goP p n c (41 - i) i S = lookR p n c)
   (fun (σ:St) (H':Hp)=>match σ[3]? with | some (some (V.int i))=>(41 - i).toNat | _=>0) ⟨0,_,none,none,none,none,rfl,I0,Nat.zero_le _,rfl⟩ ?_ ?_
 ·rintro σ H2 ⟨i,S,x4,x5,x6,x7,rfl,I2,hi,eR⟩
  obtain ⟨svs,wvs,g2,es2,ew2,ps2,pw2,l40,le2,wb2⟩:=id I2
  have ls:=PySem.Paired.length ps2
  have lw:=PySem.Paired.length pw2
  refine ⟨_,rfl,_,rfl,sl,_,rfl,.inl (SqL.of es2),_,_,rfl,rfl,_,rfl,ite2 (fun ci=>?_) fun ci=>?_⟩
  ·have ci:i < S.1.length:=by have:=of_decide_eq_true ci; omega
   obtain ⟨st,est⟩:∃ st,S.1[i]? = some st:=⟨_,List.getElem?_eq_getElem ci⟩
   obtain ⟨way,ewy⟩:∃ way,S.2[i]? = some way:=⟨_,List.getElem?_eq_getElem (by omega)⟩
   have eG:(match goC p n st way (comL c) S with | .inl r=>r | .inr S'=>goP p n c (40 - i) (i + 1) S') = lookR p n c:=by
    rw [← eR,show 41 - i = (40 - i) + 1 by omega,goP,if_pos ci,List.getD_eq_getElem?_getD,List.getD_eq_getElem?_getD,est,ewy]
    rfl
   have hpr2:=g2 _ _ hpr
   refine ⟨_,rfl,pr,_,_,_,rfl,rfl,SqT.of hpr2,atI_nat (j:=0) rfl,c,rfl,hc5,fun ca its H3 g3 eca fca ei hit=>?_⟩
   have m2:=mut2 es2 ew2
   have caS:ca∉[sl,wl]:=m2.off fca
   have itS:∀ q∈its,q.1∉[sl,wl]∧H q.1 = none∧H3 q.1 = some (.lst (q.2.map V.int)):=fun q hq=>by
    obtain ⟨_,h1,h2⟩:=hit q hq
    exact ⟨m2.off h1,g2.free h1,h2⟩
   have lits:its.length = (comL c).length:=by rw [← ei,List.length_map]
   have I3:LkI H sl wl S H3:=⟨svs,wvs,g2.trans g3,g3 _ _ es2,g3 _ _ ew2,Paired.mapP ps2 fun _ _ z=>OF.kp (Same.kpS g3) z,Paired.mapP pw2 fun _ _ z=>WyF.kp (Same.kpS g3) z,l40,le2,wb2⟩
   refine ⟨ca,rfl,⟨_,SqL.of eca⟩,for_list (K:=K) (a:=ca) (xs:=its.map rf) (fun j σ H'=>∃ (S':LkS) (y4 y5 y6 y7:Option V),σ = [some (.ref pr),some (.ref sl),some (.ref wl),some (.int (i:Int)),y4,y5,y6,y7]∧LkI H sl wl S' H'∧KpS [sl,wl] H3 H'∧S'.1[i]? = some st∧S'.2[i]? = some way∧goC p n st way ((comL c).drop j) S' = goC p n st way (comL c) S) ⟨S,_,_,_,_,rfl,I3,KpS.refl _ _,est,ewy,rfl⟩ (fun j σ H' _ ⟨_,_,_,_,_,_,_,k,_⟩=>SqL.of (k _ _ caS eca)) ?_ ?_⟩
   ·rintro j y σ H4 hj ⟨S',y4,y5,y6,y7,rfl,I4,k4,est4,ewy4,eC⟩
    obtain ⟨svs4,wvs4,g4,es4,ew4,ps4,pw4,l404,le4,wb4⟩:=id I4
    obtain ⟨q,ej,rfl⟩:∃ q,its[j]? = some q∧y = .ref q.1:=by
     rw [List.getElem?_map] at hj
     cases e:its[j]? with
     | none=>rw [e] at hj; cases hj
     | some q=>rw [e] at hj; exact ⟨q,rfl,(Option.some.inj hj).symm⟩
    have hqm:=itS q (List.mem_of_getElem? ej)
    have eq4:=k4 _ _ hqm.1 hqm.2.2
    have ecs:(comL c)[j]? = some q.2:=by rw [← ei,List.getElem?_map,ej]; rfl
    have jl:j < (comL c).length:=(List.getElem?_eq_some_iff.mp ecs).1
    have eD:(comL c).drop j = q.2 :: (comL c).drop (j + 1):=by
     rw [List.drop_eq_getElem_cons jl]
     congr 1
     exact Option.some.inj ((List.getElem?_eq_getElem jl).symm.trans ecs)
    have m4:=mut2 es4 ew4
    obtain ⟨sv,esv,osv⟩:=paired_get ps4 est4
    obtain ⟨wv,ewv,wyv⟩:=paired_get pw4 ewy4
    obtain ⟨wa0,wys,rfl,wa0S,fwa0,ewa0,pwy⟩:=wyv
    have lwy:=PySem.Paired.length pwy
    have way40:=wb4 i way ewy4
    have hi4:i < S'.1.length:=(List.getElem?_eq_some_iff.mp est4).1
    have hP4:=hP.mono g4
    have ls4:=PySem.Paired.length ps4
    have lw4:=PySem.Paired.length pw4
    refine ⟨_,rfl,_,rfl,wl,_,_,_,rfl,rfl,SqL.of ew4,atI_nat ewv,_,rfl,(by show 1≤sizeLine; decide),fun l1 hl1=>?_⟩
    have k1:=same_new hl1 (.lst [V.ref q.1])
    refine ⟨wa0,l1,_,_,rfl,rfl,k1 _ _ ewa0,upd_same,small (by rw [List.length_singleton]; omega),fun wy hwy=>?_⟩
    have k2:=same_new hwy (.lst (wys ++ [V.ref q.1]))
    have g5:=k1.trans k2
    have fwy:H wy = none:=(g4.trans k1).free hwy
    have wyS:wy∉[sl,wl]:=(m4.mono k1).off hwy
    have ewy5:=upd_same (H:=upd H4 l1 (.lst [V.ref q.1])) (a:=wy) (o:=.lst (wys ++ [V.ref q.1]))
    have eq5:=g5 _ _ eq4
    have es5:=g5 _ _ es4
    have ew5:=g5 _ _ ew4
    have osv5:=OF.kp (Same.kpS g5) osv
    have offw:∀ {r:Addr} {u:HO},H4 r = some u→r∉[sl,wl]→r∉[sl,wl,wy]:=fun {r u} e n z=>by
     simp only [List.mem_cons,List.not_mem_nil,or_false] at z
     rcases z with z | z | z
     ·exact n (by rw [z]; exact mem2.1)
     ·exact n (by rw [z]; exact mem2.2)
     ·exact ne_of_none (k1 _ _ e) hwy z
    have pwy5:PySem.Paired (LsF H [sl,wl,wy] _) (way ++ [q.2]) (wys ++ [V.ref q.1]):=PySem.Paired.snoc (Paired.mapP pwy fun _ _ z=>by
     obtain ⟨r,e,n,f,e2⟩:=z
     exact ⟨r,e,offw e2 n,f,g5 _ _ e2⟩) ⟨q.1,rfl,offw eq4 hqm.1,hqm.2.1,eq5⟩
    generalize (upd (upd H4 l1 (.lst [V.ref q.1])) wy (.lst (wys ++ [V.ref q.1]))) = H5 at g5 ewy5 eq5 es5 ew5 osv5 pwy5
    refine ⟨_,rfl,_,rfl,_,rfl,sl,_,_,_,rfl,rfl,SqL.of es5,atI_nat esv,_,rfl,pr,sv,q.1,n,p,st,q.2,rfl,hP4.mono g5,OF.st osv5,SqL.of eq5,fun kd H6 g6 e6=>?_⟩
    have e6:H6 kd = some (.lst ((knW p st n q.2).map vO)):=e6
    have lkn:(knW p st n q.2).length≤30:=by rw [knW_len]; exact hP.nb
    have m5:=m4.mono g5
    refine ⟨_,rfl,kd,_,rfl,.inl (SqL.of e6),rfl,vO_flat _,_,rfl,?_⟩
    dsimp only
    rw [if_neg Bool.false_ne_true,none_in]
    rw [eD,goC] at eC
    by_cases hn:none∈knW p st n q.2
    ·rw [decide_eq_true hn]
     rw [if_pos hn] at eC
     rw [← eC] at eG
     dsimp only at eG
     rw [← eG] at hq
     cases hq with
     | rf _ _ hq =>
      refine iteT ⟨_,rfl,_,rfl,none,kd,_,rfl,SqL.of e6,lkn,fun sa H7 g7 f7 e7=>⟨(by show 3≤sizeLine; decide),fun t ht=>?_⟩⟩
      have kt:=same_new ht (.tup [.str "refused", .ref wy,.ref sa])
      have g67:=g6.trans g7
      have gall:=(g4.trans g5).trans g67
      have nws:wy≠sa:=fun z=>by have:=g6 _ _ ewy5; rw [z,f7] at this; cases this
      refine hq t wy _ sa _ (gall.trans kt) upd_same fwy (((g4.trans g5).trans g6).free f7) nws (kt _ _ (g67 _ _ ewy5)) (Paired.mapP pwy5 fun cs u z=>?_) (kt _ _ e7)
      have z2:=LsF.kp (Same.kpS (g67.trans kt)) z
      refine LsF.off z2 fun r e hr=>?_
      obtain ⟨r',e',nS,_,er⟩:=z
      rw [e] at e'
      cases e'
      simp only [List.mem_cons,List.not_mem_nil,or_false] at hr
      rcases hr with h | h
      ·exact nS (by rw [h]; simp)
      ·exact ne_of_none (g6 _ _ er) f7 h
    ·rw [decide_eq_false hn]
     rw [if_neg hn] at eC
     refine iteF ?_
     have g56:=g6
     have es6:=g6 _ _ es5
     have ew6:=g6 _ _ ew5
     refine ⟨_,rfl,_,rfl,_,rfl,sl,_,_,_,rfl,rfl,SqL.of es6,atI_nat esv,_,rfl,some true,kd,_,rfl,SqL.of e6,lkn,fun th H7 g7 f7 e7=>?_⟩
     have g57:=g6.trans g7
     obtain ⟨x0',x1',vb',hpr7,hpa7⟩:=((hP4.mono g5).mono g57).pa
     refine ⟨pr,x0',x1',_,vb',p,sv,st,th,_,rfl,SqT.of hpr7,hpa7,OF.st (OF.kp (Same.kpS g57) osv5),SqL.of e7,hP.hg,(by have:=hP.sc; omega),(by have:=hP.rc; omega),fun tB H8 g8 d=>?_⟩
     obtain ⟨m1,bl,d1,d2,d3,u1,u2⟩:=d
     refine ⟨tB,_,_,.ref bl,rfl,rfl,SqT.of d1,atI_nat (j:=2) rfl,?_⟩
     have g58:=g57.trans g8
     have g48:=g5.trans g58
     have es8:=g58 _ _ es5
     have ew8:=g58 _ _ ew5
     have blS:bl∉[sl,wl]:=((m5.mono g57)).off u2
     have fbl:H bl = none:=((g4.trans g5).trans g57).free u2
     have ps8:=Paired.mapP ps4 fun _ _ z=>OF.kp (Same.kpS g48) z
     have pw8:=Paired.mapP pw4 fun _ _ z=>WyF.kp (Same.kpS g48) z
     have obl:OF H [sl,wl] H8 (bhW p n st q.2) (.ref bl):=⟨bl,rfl,blS,fbl,d3⟩
     have wyF8:WyF H [sl,wl] H8 (way ++ [q.2]) (.ref wy):=⟨wy,_,rfl,wyS,fwy,g58 _ _ ewy5,Paired.mapP pwy5 fun _ _ z=>by
      obtain ⟨r,e,n,f,e2⟩:=z
      exact ⟨r,e,fun y=>n (by simp only [List.mem_cons,List.not_mem_nil,or_false] at y ⊢; rcases y with y | y <;> simp [y]),f,g58 _ _ e2⟩⟩
     refine ⟨_,rfl,_,rfl,sl,bhW p n st q.2,S'.1,_,rfl,SqL.of es8,OF.ol obl,Paired.mapP ps8 fun _ _ z=>OF.ol z,_,rfl,?_⟩
     dsimp only
     rw [if_pos rfl]
     by_cases hin:bhW p n st q.2∈S'.1
     ·rw [decide_eq_true hin]
      rw [if_pos hin] at eC
      exact iteF ⟨S',_,_,_,_,rfl,⟨svs4,wvs4,g4.trans g48,es8,ew8,ps8,pw8,l404,le4,wb4⟩,k4.trans (Same.kpS g48),est4,ewy4,eC⟩
     ·rw [decide_eq_false hin]
      rw [if_neg hin] at eC
      refine iteT ⟨_,rfl,_,rfl,sl,svs4,.ref bl,rfl,es8,by omega,?_⟩
      by_cases h40:S'.1.length = 40
      ·rw [if_pos h40] at eC
       rw [← eC] at eG
       dsimp only at eG
       rw [← eG] at hq
       cases hq with
       | many hq=>exact .inl ⟨by omega,fun H9 g9=>hq _ ((g4.trans g48).trans g9)⟩
      ·rw [if_neg h40] at eC
       refine .inr ⟨by omega,?_⟩
       have kA:KpS [sl,wl] H8 (upd H8 sl (.lst (svs4 ++ [V.ref bl]))):=KpS.upd mem2.1
       have ewA:(upd H8 sl (.lst (svs4 ++ [V.ref bl]))) wl = some (.lst wvs4):=by rw [upd_ne (Ne.symm nsw)]; exact ew8
       refine ⟨_,rfl,.inl ⟨rfl,_,SqL.of ewA⟩,_,rfl,wl,_,_,rfl,rfl,ewA,small1000 (by omega),?_⟩
       have kB:KpS [sl,wl] H8 (upd (upd H8 sl (.lst (svs4 ++ [V.ref bl]))) wl (.lst (wvs4 ++ [V.ref wy]))):=kA.trans (KpS.upd mem2.2)
       have gB:Same H (upd (upd H8 sl (.lst (svs4 ++ [V.ref bl]))) wl (.lst (wvs4 ++ [V.ref wy]))):=((g4.trans g48).young fsl _).young fwl _
       refine ⟨(S'.1 ++ [bhW p n st q.2],S'.2 ++ [way ++ [q.2]]),_,_,_,_,rfl,⟨svs4 ++ [V.ref bl],wvs4 ++ [V.ref wy],gB,by rw [upd_ne nsw]; exact upd_same,upd_same,PySem.Paired.snoc (Paired.mapP ps8 fun _ _ z=>OF.kp kB z) (OF.kp kB obl),PySem.Paired.snoc (Paired.mapP pw8 fun _ _ z=>WyF.kp kB z) (WyF.kp kB wyF8),?_,?_,fun k w' hk=>?_⟩,(k4.trans (Same.kpS g48)).trans kB,?_,?_,eC⟩
       ·show (S'.1 ++ [bhW p n st q.2]).length≤40
        rw [List.length_append,List.length_singleton]; omega
       ·show (S'.2 ++ [way ++ [q.2]]).length = (S'.1 ++ [bhW p n st q.2]).length
        rw [List.length_append,List.length_append,List.length_singleton,List.length_singleton,le4]
       ·have hk:(S'.2 ++ [way ++ [q.2]])[k]? = some w':=hk
        rw [List.getElem?_append] at hk
        split at hk
        ·exact wb4 k w' hk
        ·rename_i hk2
         cases hz:k - S'.2.length with
         | zero =>
          rw [hz] at hk
          cases hk
          rw [List.length_append,List.length_singleton]
          omega
         | succ m=>rw [hz] at hk; simp at hk
       ·show (S'.1 ++ [bhW p n st q.2])[i]? = some st
        rw [List.getElem?_append_left hi4]; exact est4
       ·show (S'.2 ++ [way ++ [q.2]])[i]? = some way
        rw [List.getElem?_append_left (by omega)]; exact ewy4
   ·rintro σ H4 ⟨S',y4,y5,y6,y7,rfl,I4,k4,est4,ewy4,eC⟩
    rw [List.length_map,lits,List.drop_length] at eC
    rw [goC] at eC
    rw [← eC] at eG
    refine ⟨_,rfl,_,_,rfl,rfl,⟨i + 1,S',_,_,_,_,rfl,I4,?_,?_⟩,?_⟩
    ·exact (List.getElem?_eq_some_iff.mp est4).1
    ·rw [show 41 - (i + 1) = 40 - i by omega]; exact eG
    ·show (41 - ((i:Int) + 1)).toNat < (41 - (i:Int)).toNat
     omega
  ·have ci:¬ i < S.1.length:=fun z=>ci (decide_eq_true (by omega))
   have eR2:lookR p n c = .lt S.1:=by
    rw [← eR]
    have:41 - i = (40 - i) + 1:=by omega
    rw [this,goP,if_neg ci]
   rw [eR2] at hq
   cases hq with
   | lt _ hq =>
    refine ⟨_,rfl,(by show 2≤sizeLine; decide),fun t ht=>?_⟩
    have kt:=same_new ht (.tup [.str "let", .ref sl])
    exact hq t sl svs _ (g2.trans kt) upd_same fsl (kt _ _ es2) (Paired.mapP ps2 fun o v z=>OF.kp (Same.kpS kt) (OF.less (S':=[sl]) (fun b hb=>by rw [List.mem_singleton.mp hb]; exact mem2.1) z))
 ·rintro σ H Q Q' h ⟨v,e,v2,e',p,xs,e2,s,i,j,e3,e4,k,e5,q⟩
  exact ⟨v,e,v2,e',p,xs,e2,s,i,j,e3,e4,k,e5,h _ _ q⟩
end
end My
end
section
set_option Elab.async false
set_option linter.all false
set_option maxRecDepth 100000
set_option maxHeartbeats 4000000
namespace My
open PySem L2
open Pln (Np Env' upE idx pl okp nothN waitN exit0 weakN)
def plP:Np→Env'→List (Option Str)→Int→Int→Pt
 | .nothing,_,_,_,_=>.nothing
 | .rest,_,_,_,rs=>.rest rs
 | .halt,_,_,_,rs=>.again rs .nothing
 | .send x,e,_,_,_=>.send ((e x).getD 0)
 | .keep x,e,_,_,rs=>.again rs (.send ((e x).getD 0))
 | .await x,e,_,_,rs=>.watch ((e x).getD 0) (.again rs .nothing)
 | .exit x,_,tr,_,_=>.exit (idx x tr)
 | .again p,e,tr,sg,rs=>.again (pl p e tr sg rs).2.2 (plP p e tr sg rs)
 | .hold x p,e,tr,sg,rs=>.hold ((e x).getD 0) (plP p e tr sg rs)
 | .watch x p,e,tr,sg,rs=>.watch ((e x).getD 0) (plP p e tr sg rs)
 | .weak x p,e,tr,sg,rs=>.trap (.bes (.thn (plP p e (none :: tr) sg rs) (.exit 0)) (.thn (.watch ((e x).getD 0) (.again (pl p e (none :: tr) sg rs).2.2 .nothing)) (.exit 0)))
 | .trap x p,e,tr,sg,rs=>.trap (plP p e (some x :: tr) sg rs)
 | .loc x p,e,tr,sg,rs=>plP p (upE e x sg) tr (sg + 1) rs
 | .iff x p q,e,tr,sg,rs=>.iff ((e x).getD 0) (plP p e tr sg rs) (plP q e tr (pl p e tr sg rs).2.1 (pl p e tr sg rs).2.2)
 | .thn p q,e,tr,sg,rs=>.thn (plP p e tr sg rs) (plP q e tr (pl p e tr sg rs).2.1 (pl p e tr sg rs).2.2)
 | .bes p q,e,tr,sg,rs=>.bes (plP p e tr sg rs) (plP q e tr (pl p e tr sg rs).2.1 (pl p e tr sg rs).2.2)
theorem plP_nd (n:Np):∀ e tr sg rs,(plP n e tr sg rs).nd = (pl n e tr sg rs).1:=by
 induction n with
 | nothing=>intro e tr sg rs; rfl
 | rest=>intro e tr sg rs; rfl
 | halt=>intro e tr sg rs; rfl
 | send x=>intro e tr sg rs; rfl
 | keep x=>intro e tr sg rs; rfl
 | await x=>intro e tr sg rs; rfl
 | exit x=>intro e tr sg rs; rfl
 | again p ih=>intro e tr sg rs; simp only [plP,pl,Pt.nd,ih]
 | hold x p ih=>intro e tr sg rs; simp only [plP,pl,Pt.nd,ih]
 | watch x p ih=>intro e tr sg rs; simp only [plP,pl,Pt.nd,ih]
 | weak x p ih=>intro e tr sg rs; simp only [plP,pl,Pt.nd,ih,weakN,waitN,exit0,nothN]
 | trap x p ih=>intro e tr sg rs; simp only [plP,pl,Pt.nd,ih]
 | loc x p ih=>intro e tr sg rs; simp only [plP,pl,ih]
 | iff x p q ih ih2=>intro e tr sg rs; simp only [plP,pl,Pt.nd,ih,ih2]
 | thn p q ih ih2=>intro e tr sg rs; simp only [plP,pl,Pt.nd,ih,ih2]
 | bes p q ih ih2=>intro e tr sg rs; simp only [plP,pl,Pt.nd,ih,ih2]
def hP:Np→Nat
 | .halt=>2
 | .keep _=>2
 | .await _=>3
 | .again p=>hP p + 1
 | .hold _ p=>hP p + 1
 | .watch _ p=>hP p + 1
 | .weak _ p=>max (hP p) 3 + 3
 | .trap _ p=>hP p + 1
 | .loc _ p=>hP p
 | .iff _ p q=>max (hP p) (hP q) + 1
 | .thn p q=>max (hP p) (hP q) + 1
 | .bes p q=>max (hP p) (hP q) + 1
 | _=>1
theorem hP_pos (n:Np):1≤hP n:=by
 induction n <;> simp only [hP] <;> omega
theorem plP_hg (n:Np):∀ e tr sg rs,(plP n e tr sg rs).hg = hP n:=by
 induction n with
 | again p ih=>intro e tr sg rs; simp only [plP,Pt.hg,hP,ih]
 | hold x p ih=>intro e tr sg rs; simp only [plP,Pt.hg,hP,ih]
 | watch x p ih=>intro e tr sg rs; simp only [plP,Pt.hg,hP,ih]
 | weak x p ih =>
  intro e tr sg rs
  have:=hP_pos p
  simp only [plP,Pt.hg,hP,ih]
  omega
 | trap x p ih=>intro e tr sg rs; simp only [plP,Pt.hg,hP,ih]
 | loc x p ih=>intro e tr sg rs; simp only [plP,hP,ih]
 | iff x p q ih ih2=>intro e tr sg rs; simp only [plP,Pt.hg,hP,ih,ih2]
 | thn p q ih ih2=>intro e tr sg rs; simp only [plP,Pt.hg,hP,ih,ih2]
 | bes p q ih ih2=>intro e tr sg rs; simp only [plP,Pt.hg,hP,ih,ih2]
 | _=>intro e tr sg rs; rfl
def lcP:Np→Nat
 | .again p=>lcP p
 | .hold _ p=>lcP p
 | .watch _ p=>lcP p
 | .weak _ p=>lcP p
 | .trap _ p=>lcP p
 | .loc _ p=>lcP p + 1
 | .iff _ p q=>lcP p + lcP q
 | .thn p q=>lcP p + lcP q
 | .bes p q=>lcP p + lcP q
 | _=>0
theorem pl_sg (n:Np):∀ e tr sg rs,(pl n e tr sg rs).2.1 = sg + (lcP n:Int):=by
 induction n with
 | again p ih=>intro e tr sg rs; simp only [pl,lcP,ih]
 | hold x p ih=>intro e tr sg rs; simp only [pl,lcP,ih]
 | watch x p ih=>intro e tr sg rs; simp only [pl,lcP,ih]
 | weak x p ih=>intro e tr sg rs; simp only [pl,lcP,ih]
 | trap x p ih=>intro e tr sg rs; simp only [pl,lcP,ih]
 | loc x p ih=>intro e tr sg rs; simp only [pl,lcP,ih]; omega
 | iff x p q ih ih2=>intro e tr sg rs; simp only [pl,lcP,ih,ih2]; omega
 | thn p q ih ih2=>intro e tr sg rs; simp only [pl,lcP,ih,ih2]; omega
 | bes p q ih ih2=>intro e tr sg rs; simp only [pl,lcP,ih,ih2]; omega
 | _=>intro e tr sg rs; simp [pl,lcP]
def exB:Np→List (Option Str)→Prop
 | .exit x,tr=>idx x tr < 4
 | .again p,tr=>exB p tr
 | .hold _ p,tr=>exB p tr
 | .watch _ p,tr=>exB p tr
 | .weak _ p,tr=>exB p (none :: tr)
 | .trap x p,tr=>exB p (some x :: tr)
 | .loc _ p,tr=>exB p tr
 | .iff _ p q,tr=>exB p tr∧exB q tr
 | .thn p q,tr=>exB p tr∧exB q tr
 | .bes p q,tr=>exB p tr∧exB q tr
 | _,_=>True
def envB (e:Env') (N:Int):Prop:=∀ x v,e x = some v→0≤v∧v < N
theorem envB.get {e:Env'} {N:Int} (h:envB e N) {x:Str} (k:∃ n,e x = some n):0≤(e x).getD 0∧(e x).getD 0 < N:=by
 obtain ⟨n,e1⟩:=k
 rw [e1]
 exact h x n e1
theorem envB.up {e:Env'} {N sg:Int} {x:Str} (h:envB e N) (h0:0≤sg) (h1:sg < N):envB (upE e x sg) N:=fun y v hv=>by
 unfold upE at hv
 split at hv
 ·cases hv; exact ⟨h0,h1⟩
 ·exact h y v hv
theorem plP_ok (n:Np):∀ e tr sg rs N,okp n e tr→exB n tr→envB e N→0≤sg→sg + (lcP n:Int)≤N→okW N (plP n e tr sg rs):=by
 induction n with
 | nothing=>intro e tr sg rs N _ _ _ _ _; trivial
 | rest=>intro e tr sg rs N _ _ _ _ _; trivial
 | halt=>intro e tr sg rs N _ _ _ _ _; trivial
 | send x=>intro e tr sg rs N h _ b _ _; exact b.get h
 | keep x=>intro e tr sg rs N h _ b _ _; exact b.get h
 | await x=>intro e tr sg rs N h _ b _ _; exact ⟨b.get h,trivial⟩
 | exit x=>intro e tr sg rs N h x b _ _; exact ⟨by omega,by have x:_ < 4:=x; omega⟩
 | again p ih=>intro e tr sg rs N h x b h0 hN; exact ih e tr sg rs N h x b h0 hN
 | hold y p ih=>intro e tr sg rs N h x b h0 hN; exact ⟨b.get h.1,ih e tr sg rs N h.2 x b h0 hN⟩
 | watch y p ih=>intro e tr sg rs N h x b h0 hN; exact ⟨b.get h.1,ih e tr sg rs N h.2 x b h0 hN⟩
 | weak y p ih=>intro e tr sg rs N h x b h0 hN; exact ⟨⟨ih e (none :: tr) sg rs N h.2 x b h0 hN,⟨by decide,by decide⟩⟩,⟨b.get h.1,trivial⟩,⟨by decide,by decide⟩⟩
 | trap y p ih=>intro e tr sg rs N h x b h0 hN; exact ih e (some y :: tr) sg rs N h x b h0 hN
 | loc y p ih =>
  intro e tr sg rs N h x b h0 hN
  simp only [lcP] at hN
  exact ih (upE e y sg) tr (sg + 1) rs N (h sg) x (b.up h0 (by omega)) (by omega) (by omega)
 | iff y p q ih ih2 =>
  intro e tr sg rs N h x b h0 hN
  simp only [lcP] at hN
  refine ⟨b.get h.1,ih e tr sg rs N h.2.1 x.1 b h0 (by omega),ih2 e tr _ _ N h.2.2 x.2 b ?_ ?_⟩
  ·rw [pl_sg]; omega
  ·rw [pl_sg]; omega
 | thn p q ih ih2 =>
  intro e tr sg rs N h x b h0 hN
  simp only [lcP] at hN
  refine ⟨ih e tr sg rs N h.1 x.1 b h0 (by omega),ih2 e tr _ _ N h.2 x.2 b ?_ ?_⟩
  ·rw [pl_sg]; omega
  ·rw [pl_sg]; omega
 | bes p q ih ih2 =>
  intro e tr sg rs N h x b h0 hN
  simp only [lcP] at hN
  refine ⟨ih e tr sg rs N h.1 x.1 b h0 (by omega),ih2 e tr _ _ N h.2 x.2 b ?_ ?_⟩
  ·rw [pl_sg]; omega
  ·rw [pl_sg]; omega
end My
end
section
set_option Elab.async false
set_option linter.all false
set_option maxRecDepth 100000
set_option maxHeartbeats 4000000
namespace My
open PySem L2
open Pln (Np Env' upE idx pl okp nothN waitN exit0 weakN okS hgt envOf)
theorem ints_at' {ns:List Int} {i:Nat} {y:V} (h:(ns.map V.int)[i]? = some y):∃ z,ns[i]? = some z∧y = .int z:=by
 rw [List.getElem?_map] at h
 cases e:ns[i]? with
 | none=>rw [e] at h; cases h
 | some z=>rw [e] at h; exact ⟨z,rfl,(Option.some.inj h).symm⟩
def spMixed:Sp:=fun vs H Q _=>∃ c:Int,vs = [.int c]∧∀ m:Int,0≤m→Q (.int m) H
section
variable {P:Program} {w:World} {K:PySem.W.Frag} {mg:Str→Option Value} {base:Heap}
theorem ok_mixed (F:FunM K mg "_law_mixed" ["_law_cell"] s__law_mixed):Callee P w K mg base 1 "_law_mixed" ["_law_cell"] spMixed:=by
 refine F.ok sc__law_mixed (fun vs H Q E h=>?_) (fun f cdv A outer s H vs Q E hr h=>?_)
 ·obtain ⟨c,rfl,_⟩:=h
  rfl
 obtain ⟨c,rfl,q⟩:=h
 refine ⟨_,(pss_one (ps_ret (pe_op op_mod (pe_op op_mul (pe_op op_mul (pe_op op_add (pe_op op_mod (pv 0) pe_int) pe_int) pe_int) pe_int) pe_int))),?_⟩
 refine ⟨_,rfl,_,_,rfl,rfl,(by show (0:Int) < 2147483647; decide),_,_,rfl,rfl,_,_,rfl,rfl,.inr ⟨by decide,by decide⟩,_,_,rfl,rfl,.inr ⟨by decide,by decide⟩,_,_,rfl,rfl,(by show (0:Int) < 2147483629; decide),?_⟩
 exact q _ (Int.emod_nonneg _ (by decide))
end
theorem cut_to (xs:List V) (j:Nat):cutV xs none (some (j:Int)) = xs.take j:=by
 unfold cutV
 rw [HT.sIx_none,HT.sIx_nat,List.drop_zero,Nat.sub_zero]
 rcases Nat.lt_or_ge xs.length j with h | h
 ·rw [Nat.min_eq_right (by omega),List.take_of_length_le (Nat.le_refl _),List.take_of_length_le (by omega)]
 ·rw [Nat.min_eq_left h]
theorem envOf_bd {N:Int}:∀ (a:List Str) (k:Int) (e:Env'),envB e N→0≤k→k + a.length≤N→envB (envOf a k e) N
 | [],k,e,h,_,_=>h
 | x :: a,k,e,h,h0,h1=>by
  rw [List.length_cons] at h1
  exact envOf_bd a (k + 1) (upE e x k) (h.up h0 (by omega)) (by omega) (by omega)
theorem areL_none (kn:List (Option Bool)):areL none kn = []↔none∉kn:=by
 constructor
 ·intro h m
  obtain ⟨i,hi⟩:=List.mem_iff_getElem?.mp m
  have hl:i < kn.length:=(List.getElem?_eq_some_iff.mp hi).1
  have:(i:Int)∈areL none kn:=mem_areL.mpr ⟨⟨by omega,by omega⟩,by rw [Int.toNat_natCast,hi]; rfl⟩
  rw [h] at this
  cases this
 ·intro h
  cases e:areL none kn with
  | nil=>rfl
  | cons x r =>
   have:x∈areL none kn:=by rw [e]; exact List.mem_cons_self
   obtain ⟨⟨h0,h1⟩,h2⟩:=mem_areL.mp this
   have hl:x.toNat < kn.length:=by omega
   rw [List.getElem?_eq_getElem hl] at h2
   exact absurd (List.mem_iff_getElem.mpr ⟨_,hl,h2⟩) h
def Cl (p:Pt) (n:Nat) (cm:List (List Int)) (A B:List (Option (List Int))):Prop:=∀ st∈A,∀ cs∈cm,none∉knW p st n cs∧bhW p n st cs∈B
theorem goC_cl {p:Pt} {n:Nat} {st:Option (List Int)} {way:List (List Int)}:∀ {l:List (List Int)} {S S':LkS},goC p n st way l S = .inr S'→(∀ x∈S.1,x∈S'.1)∧(∃ e,S'.1 = S.1 ++ e)∧∀ cs∈l,none∉knW p st n cs∧bhW p n st cs∈S'.1
 | [],S,S',h=>by cases h; exact ⟨fun _ z=>z,⟨[],(List.append_nil _).symm⟩,fun cs z=>by cases z⟩
 | cs :: r,S,S',h=>by
  unfold goC at h
  split at h
  ·cases h
  ·rename_i hn
   split at h
   ·rename_i hi
    obtain ⟨h1,h2,h3⟩:=goC_cl h
    refine ⟨h1,h2,fun c hc=>?_⟩
    rcases List.mem_cons.mp hc with z | z
    ·rw [z]; exact ⟨hn,h1 _ hi⟩
    ·exact h3 c z
   ·split at h
    ·cases h
    ·obtain ⟨h1,⟨e,h2⟩,h3⟩:=goC_cl h
     refine ⟨fun x hx=>h1 x (List.mem_append_left _ hx),⟨_,h2.trans (List.append_assoc _ _ _)⟩,fun c hc=>?_⟩
     rcases List.mem_cons.mp hc with z | z
     ·rw [z]; exact ⟨hn,h1 _ (List.mem_append_right _ (List.mem_singleton.mpr rfl))⟩
     ·exact h3 c z
theorem goP_cl {p:Pt} {n c:Nat} {sts:List (Option (List Int))}:∀ (f i:Nat) (S:LkS),f + i = 41→S.1.length≤40→S.2.length = S.1.length→i≤S.1.length→none∈S.1→Cl p n (comL c) (S.1.take i) S.1→goP p n c f i S = .lt sts→none∈sts∧Cl p n (comL c) sts sts
 | 0,i,S,hf,h40,hl,hi,h0,hc,e=>by omega
 | f + 1,i,S,hf,h40,hl,hi,h0,hc,e=>by
  unfold goP at e
  split at e
  ·rename_i hi2
   split at e
   ·rename_i r er
    rw [e] at er
    exact absurd er (goC_no_lt _ _ _ _ _ _)
   ·rename_i S' eS
    obtain ⟨h1,⟨ex,h2⟩,h3⟩:=goC_cl eS
    obtain ⟨l1,l2⟩:=goC_len eS h40 hl
    have li:i + 1≤S'.1.length:=by rw [h2,List.length_append]; omega
    refine goP_cl f (i + 1) S' (by omega) l1 l2 li (h1 _ h0) ?_ e
    intro st hst cs hcs
    rw [h2,List.take_append_of_le_length (by omega),List.take_add_one,List.getElem?_eq_getElem hi2] at hst
    rcases List.mem_append.mp hst with z | z
    ·obtain ⟨a,b⟩:=hc st z cs hcs
     exact ⟨a,h1 _ b⟩
    ·have z:st = S.1[i]:=by simpa using z
     have ez:S.1.getD i none = S.1[i]:=by rw [List.getD_eq_getElem?_getD,List.getElem?_eq_getElem hi2]; rfl
     rw [ez] at h3
     rw [z]
     exact h3 cs hcs
  ·rename_i hi2
   cases e
   rw [List.take_of_length_le (by omega)] at hc
   exact ⟨h0,hc⟩
where goC_no_lt:∀ (st:Option (List Int)) (way:List (List Int)) (l:List (List Int)) (S:LkS) (sts:List (Option (List Int))) (p:Pt),goC p n st way l S≠.inl (.lt sts)
 | st,way,[],S,sts,p=>fun h=>by cases h
 | st,way,cs :: r,S,sts,p=>fun h=>by
  unfold goC at h
  split at h
  ·cases h
  ·split at h
   ·exact goC_no_lt _ _ _ _ _ _ h
   ·split at h
    ·cases h
    ·exact goC_no_lt _ _ _ _ _ _ h
theorem look_lt {p:Pt} {n c:Nat} {sts:List (Option (List Int))} (h:lookR p n c = .lt sts):none∈sts∧Cl p n (comL c) sts sts :=
 goP_cl 41 0 ([none],[[]]) rfl (by decide) rfl (Nat.zero_le _) (List.mem_singleton.mpr rfl) (fun st z=>by cases z) h
theorem paired_getG {α β:Type} {F:α→β→Prop}:∀ {l:List α} {m:List β} {i:Nat} {x:α},PySem.Paired F l m→l[i]? = some x→∃ y,m[i]? = some y∧F x y
 | _,_,i,x,.nil,h=>by simp at h
 | _,_,0,x,.cons f t,h=>⟨_,rfl,by cases h; exact f⟩
 | _,_,i + 1,x,.cons f t,h=>paired_getG (i:=i) t h
theorem nodup_le:∀ {l U:List (Option (List Int))},l.Nodup→(∀ x∈l,x∈U)→l.length≤U.length
 | [],U,_,_=>Nat.zero_le _
 | a :: l,U,hn,hs=>by
  have ha:=hs a List.mem_cons_self
  obtain ⟨h1,h2⟩:=List.nodup_cons.mp hn
  have h3:=nodup_le (l:=l) (U:=U.erase a) h2 (fun x hx=>(List.mem_erase_of_ne (fun (z:x = a)=>h1 (z ▸ hx))).mpr (hs x (List.mem_cons_of_mem _ hx)))
  rw [List.length_erase_of_mem ha] at h3
  have:=List.length_pos_of_mem ha
  rw [List.length_cons]
  omega
structure Un (p:Pt) (n c:Nat) (U:List (Option (List Int))):Prop where
 h0:none∈U
 cl:Cl p n (comL c) U U
theorem goC_un {p:Pt} {n c:Nat} {U:List (Option (List Int))} (u:Un p n c U) {st:Option (List Int)} (hs:st∈U) {way:List (List Int)}:∀ {l:List (List Int)} {S:LkS},(∀ x∈l,x∈comL c)→S.1.Nodup→(∀ x∈S.1,x∈U)→(∀ wy w,goC p n st way l S≠.inl (.rf wy w))∧(goC p n st way l S = .inl .many→41≤U.length)∧∀ S',goC p n st way l S = .inr S'→S'.1.Nodup∧(∀ x∈S'.1,x∈U)∧∀ x,S.1[0]? = some x→S'.1[0]? = some x
 | [],S,_,hn,hu=>⟨fun wy w h=>(by cases h),fun h=>(by cases h),fun S' h=>(by cases h; exact ⟨hn,hu,fun x hx=>hx⟩)⟩
 | cs :: r,S,hl,hn,hu=>by
  have hr:∀ x∈r,x∈comL c:=fun x hx=>hl x (List.mem_cons_of_mem _ hx)
  obtain ⟨c1,c0⟩:=u.cl st hs cs (hl cs List.mem_cons_self)
  rw [goC,if_neg c1]
  by_cases c2:bhW p n st cs∈S.1
  ·rw [if_pos c2]
   exact goC_un u hs hr hn hu
  ·rw [if_neg c2]
   have hn2:(S.1 ++ [bhW p n st cs]).Nodup:=by
    rw [List.nodup_append]
    refine ⟨hn,by simp,fun a ha b hb=>?_⟩
    rw [List.mem_singleton.mp hb]
    intro z
    exact c2 (z ▸ ha)
   have hu2:∀ x∈S.1 ++ [bhW p n st cs],x∈U:=fun x hx=>by
    rcases List.mem_append.mp hx with z | z
    ·exact hu x z
    ·rw [List.mem_singleton.mp z]; exact c0
   by_cases c3:S.1.length = 40
   ·rw [if_pos c3]
    refine ⟨fun wy w h=>(by cases h),fun _=>?_,fun S' h=>(by cases h)⟩
    have:=nodup_le hn2 hu2
    rw [List.length_append,List.length_singleton] at this
    omega
   ·rw [if_neg c3]
    obtain ⟨a1,a2,a3⟩:=goC_un u hs hr (S:=(S.1 ++ [bhW p n st cs],S.2 ++ [way ++ [cs]])) hn2 hu2 (way:=way)
    refine ⟨a1,a2,fun S' h=>?_⟩
    obtain ⟨b1,b2,b3⟩:=a3 S' h
    refine ⟨b1,b2,fun x hx=>b3 x ?_⟩
    have l0:=(List.getElem?_eq_some_iff.mp hx).1
    show (S.1 ++ [bhW p n st cs])[0]? = some x
    rw [List.getElem?_append_left l0]
    exact hx
def LtQ (U:List (Option (List Int))):LkR→Prop
 | .lt sts=>sts.Nodup∧(∀ x∈sts,x∈U)∧sts[0]? = some none
 | .rf _ _=>False
 | .many=>41≤U.length
theorem goP_un {p:Pt} {n c:Nat} {U:List (Option (List Int))} (u:Un p n c U):∀ (f i:Nat) (S:LkS),S.1.Nodup→(∀ x∈S.1,x∈U)→S.1[0]? = some none→LtQ U (goP p n c f i S)
 | 0,i,S,hn,hu,h0=>⟨hn,hu,h0⟩
 | f + 1,i,S,hn,hu,h0=>by
  unfold goP
  split
  ·rename_i hi
   have hm:S.1.getD i none∈U:=hu _ (by rw [List.getD_eq_getElem?_getD,List.getElem?_eq_getElem hi]; exact List.getElem_mem hi)
   obtain ⟨h1,h2,h3⟩:=goC_un u hm (way:=S.2.getD i []) (l:=comL c) (S:=S) (fun _ z=>z) hn hu
   split
   ·rename_i r er
    cases r with
    | lt sts=>exact absurd er (goP_cl.goC_no_lt _ _ _ _ _ _)
    | rf wy w=>exact absurd er (h1 wy w)
    | many=>exact h2 er
   ·rename_i S' eS
    obtain ⟨a,b,d⟩:=h3 S' eS
    exact goP_un u f (i + 1) S' a b (d none h0)
  ·exact ⟨hn,hu,h0⟩
theorem look_un {p:Pt} {n c:Nat} {U:List (Option (List Int))} (u:Un p n c U):LtQ U (lookR p n c):=goP_un u 41 0 _ (by simp) (fun x hx=>by rw [List.mem_singleton.mp hx]; exact u.h0) rfl
theorem goP_len {p:Pt} {n c:Nat} {sts:List (Option (List Int))}:∀ (f i:Nat) (S:LkS),S.1.length≤40→S.2.length = S.1.length→goP p n c f i S = .lt sts→sts.length≤40
 | 0,i,S,h,_,e=>by cases e; exact h
 | f + 1,i,S,h,h2,e=>by
  unfold goP at e
  split at e
  ·split at e
   ·rename_i r er
    rw [e] at er
    exact absurd er (goP_cl.goC_no_lt _ _ _ _ _ _)
   ·rename_i S' eS
    obtain ⟨a,b⟩:=goC_len eS h h2
    exact goP_len f (i + 1) S' a b e
  ·cases e; exact h
theorem look_len {p:Pt} {n c:Nat} {sts:List (Option (List Int))} (h:lookR p n c = .lt sts):sts.length≤40:=goP_len 41 0 ([none],[[]]) (by decide) rfl h
def lcs (s f:Int):List Bool→Pt
 | []=>.nothing
 | b :: r=>if b then .thn (.thn (lcs s f r) (.rest (f + r.length))) (.send s) else .thn (lcs s f r) (.rest (f + r.length))
def lop (s f:Int) (l:List Bool):Pt:=.again (f + l.length) (lcs s f l)
structure Pos (st:List Int) (f:Int) (m j:Nat):Prop where
 le:j≤m
 at':f + j∈st
 off:∀ i:Nat,i≤m→i≠j→f + i∉st
theorem lcs_off {st:List Int} {s f:Int}:∀ {l:List Bool},(∀ i:Nat,i < l.length→f + i∉st)→rem st (lcs s f l) = ([],lcs s f l)
 | [],h=>rfl
 | b :: r,h=>by
  have h1:=lcs_off (st:=st) (s:=s) (f:=f) (l:=r) (fun i hi=>h i (by rw [List.length_cons]; omega))
  have h2:f + (r.length:Int)∉st:=h r.length (by rw [List.length_cons]; omega)
  cases b
  ·simp [lcs,rem,h1,h2,lp]
  ·simp [lcs,rem,h1,h2,lp]
def lrm (s f:Int) (j:Nat):List Bool→Pt
 | []=>.nothing
 | b :: r=>if b then .thn (if j = r.length then .nothing else .thn (lrm s f j r) (.rest (f + r.length))) (.send s) else (if j = r.length then .nothing else .thn (lrm s f j r) (.rest (f + r.length)))
theorem lcs_rem {st:List Int} {s f:Int} {j:Nat} (ha:f + j∈st):∀ {l:List Bool},j < l.length→(∀ i:Nat,i < l.length→i≠j→f + i∉st)→rem st (lcs s f l) = ([f + j],lrm s f j l)
 | [],h,_=>absurd h (Nat.not_lt_zero _)
 | b :: r,h,ho=>by
  rw [List.length_cons] at h ho
  by_cases c:j = r.length
  ·subst c
   have h1:=lcs_off (st:=st) (s:=s) (f:=f) (l:=r) (fun i hi=>ho i (by omega) (by omega))
   cases b
   ·simp [lcs,lrm,rem,h1,ha,lp]
   ·simp [lcs,lrm,rem,h1,ha,lp]
  ·have h1:=lcs_rem (s:=s) ha (l:=r) (by omega) (fun i hi=>ho i (by omega))
   have h2:f + (r.length:Int)∉st:=ho r.length (by omega) (fun z=>c z.symm)
   cases b
   ·simp [lcs,lrm,rem,h1,h2,lp,c]
   ·simp [lcs,lrm,rem,h1,h2,lp,c]
def cl2 (d:Dd):Int× List Int:=(d.1,d.2.2)
theorem lcs_beg (th:List Int) (s f:Int):∀ l:List Bool,cl2 (beg th (lcs s f l)) = if l = [] then (0,[]) else (1,[f])
 | []=>rfl
 | b :: r=>by
  have ih:=lcs_beg th s f r
  have h1:cl2 (beg th (.thn (lcs s f r) (.rest (f + r.length)))) = (1,[f]):=by
   rw [beg]
   unfold cl2 at ih ⊢
   cases r with
   | nil =>
    rw [if_pos rfl] at ih
    have e0:(beg th (lcs s f [])).1 = 0:=(Prod.mk.inj ih).1
    rw [if_pos e0]
    simp [turnD,beg]
   | cons b' r' =>
    rw [if_neg (by simp)] at ih
    have e0:(beg th (lcs s f (b' :: r'))).1 = 1:=(Prod.mk.inj ih).1
    rw [if_neg (by rw [e0]; decide)]
    exact ih
  rw [if_neg (by simp)]
  cases b
  ·exact h1
  ·show cl2 (beg th (.thn (.thn (lcs s f r) (.rest (f + r.length))) (.send s))) = _
   rw [beg,if_neg (by rw [show (beg th (.thn (lcs s f r) (.rest (f + r.length)))).1 = 1 from (Prod.mk.inj h1).1]; decide)]
   exact h1
theorem lrm_beg (th:List Int) (s f:Int) (j:Nat):∀ l:List Bool,j < l.length→cl2 (beg th (lrm s f j l)) = if j + 1 = l.length then (0,[]) else (1,[f + ((j + 1:Nat):Int)])
 | [],h=>absurd h (Nat.not_lt_zero _)
 | b :: r,h=>by
  rw [List.length_cons] at h ⊢
  have h1:cl2 (beg th (if j = r.length then .nothing else .thn (lrm s f j r) (.rest (f + r.length)))) = if j + 1 = r.length + 1 then (0,[]) else (1,[f + ((j + 1:Nat):Int)]):=by
   by_cases c:j = r.length
   ·rw [if_pos c,if_pos (by omega)]; rfl
   ·rw [if_neg c,if_neg (by omega)]
    have ih:=lrm_beg th s f j r (by omega)
    rw [beg]
    by_cases c2:j + 1 = r.length
    ·rw [if_pos c2] at ih
     have e0:(beg th (lrm s f j r)).1 = 0:=(Prod.mk.inj ih).1
     rw [if_pos e0]
     show ((1:Int),[f + (r.length:Int)]) = _
     rw [← c2]
    ·rw [if_neg c2] at ih
     have e0:(beg th (lrm s f j r)).1 = 1:=(Prod.mk.inj ih).1
     rw [if_neg (by rw [e0]; decide)]
     exact ih
  cases b
  ·exact h1
  ·show cl2 (beg th (.thn (if j = r.length then .nothing else .thn (lrm s f j r) (.rest (f + r.length))) (.send s))) = _
   rw [beg]
   by_cases c:j + 1 = r.length + 1
   ·rw [if_pos c] at h1 ⊢
    rw [if_pos (Prod.mk.inj h1).1]
    rfl
   ·rw [if_neg c] at h1 ⊢
    rw [if_neg (by rw [(Prod.mk.inj h1).1]; decide)]
    exact h1
theorem rep_cl2 {k:Int} {d:Dd} {x:Int× List Int} (h:cl2 d = x):cl2 (repD k d) = (agC x.1,if x.1 = 0 then [k] else x.2):=by
 subst h
 rfl
theorem lop_beg (th:List Int) (s f:Int) (l:List Bool):cl2 (beg th (lop s f l)) = (1,[f]):=by
 unfold lop
 rw [beg,rep_cl2 (lcs_beg th s f l)]
 by_cases c:l = []
 ·subst c; simp [agC]
 ·rw [if_neg c]; simp [agC]
theorem lop_rem {st:List Int} {s f:Int} {l:List Bool} {j:Nat} (h:Pos st f l.length j):∃ q,rem st (lop s f l) = ([f + j],q)∧∀ th,cl2 (beg th q) = (1,[f + (((j + 1) % (l.length + 1):Nat):Int)]):=by
 by_cases c:j = l.length
 ·subst c
  refine ⟨lop s f l,?_,fun th=>?_⟩
  ·unfold lop
   rw [rem,if_pos h.at',lcs_off (fun i hi=>h.off i (by omega) (by omega))]
   simp
  ·rw [lop_beg,Nat.mod_self]; simp
 ·have jl:j < l.length:=by have:=h.le; omega
  have hk:f + (l.length:Int)∉st:=h.off l.length (Nat.le_refl _) (fun z=>c z.symm)
  have hr:=lcs_rem (s:=s) h.at' jl (fun i hi=>h.off i (by omega))
  refine ⟨.again (f + l.length) (lrm s f j l),?_,fun th=>?_⟩
  ·unfold lop
   rw [rem,if_neg hk,hr]
   simp [lr]
  ·rw [beg,rep_cl2 (lrm_beg th s f j l jl),Nat.mod_eq_of_lt (by omega)]
   by_cases c2:j + 1 = l.length
   ·rw [if_pos c2]; simp [agC,← c2]
   ·rw [if_neg c2]; simp [agC]
def bsd (s:Int):List (Int× List Bool)→Pt
 | []=>.nothing
 | [x]=>lop s x.1 x.2
 | x :: y :: r=>.bes (bsd s (y :: r)) (lop s x.1 x.2)
def PosL (st:List Int):List (Int× List Bool)→List Nat→Prop
 | [],[]=>True
 | x :: r,j :: js=>Pos st x.1 x.2.length j∧PosL st r js
 | _,_=>False
def rstL:List (Int× List Bool)→List Nat→List Int
 | x :: r,j :: js=>rstL r js ++ [x.1 + j]
 | _,_=>[]
def nxtL:List (Int× List Bool)→List Nat→List Nat
 | x :: r,j :: js=>(j + 1) % (x.2.length + 1) :: nxtL r js
 | _,_=>[]
theorem side_cl2 {a b:Dd} {x y:List Int} (h1:cl2 a = (1,x)) (h2:cl2 b = (1,y)):cl2 (sideD a b) = (1,x ++ y):=by
 have a1:a.1 = 1:=(Prod.mk.inj h1).1
 have a2:a.2.2 = x:=(Prod.mk.inj h1).2
 have b1:b.1 = 1:=(Prod.mk.inj h2).1
 have b2:b.2.2 = y:=(Prod.mk.inj h2).2
 simp [cl2,sideD,a1,a2,b1,b2]
theorem bsd_beg (th:List Int) (s:Int):∀ (L:List (Int× List Bool)),L≠[]→cl2 (beg th (bsd s L)) = (1,rstL L (L.map fun _=>0))
 | [],h=>absurd rfl h
 | [x],_=>by rw [bsd,lop_beg]; simp [rstL]
 | x :: y :: r,_=>by
  rw [bsd,beg,side_cl2 (bsd_beg th s (y :: r) (by simp)) (lop_beg th s x.1 x.2)]
  show _ = ((1:Int),rstL (y :: r) ((y :: r).map fun _=>0) ++ [x.1 + ((0:Nat):Int)])
  simp
theorem bsd_rem {st:List Int} (s:Int):∀ (L:List (Int× List Bool)) (js:List Nat),L≠[]→PosL st L js→∃ q,rem st (bsd s L) = (rstL L js,q)∧rstL L js≠[]∧∀ th,cl2 (beg th q) = (1,rstL L (nxtL L js))
 | [],js,h,_=>absurd rfl h
 | [x],[],_,h=>absurd h (by simp [PosL])
 | [x],j :: js,_,h=>by
  obtain ⟨h1,h2⟩:=h
  cases js with
  | cons _ _=>exact absurd h2 (by simp [PosL])
  | nil =>
   obtain ⟨q,e1,e2⟩:=lop_rem (s:=s) h1
   exact ⟨q,by rw [bsd,e1]; rfl,by simp [rstL],fun th=>by rw [e2]; rfl⟩
 | x :: y :: r,[],_,h=>absurd h (by simp [PosL])
 | x :: y :: r,j :: js,_,h=>by
  obtain ⟨h1,h2⟩:=h
  obtain ⟨q,e1,e2⟩:=lop_rem (s:=s) h1
  obtain ⟨q',f1,f2,f3⟩:=bsd_rem s (y :: r) js (by simp) h2
  refine ⟨.bes q' q,?_,by simp [rstL],fun th=>?_⟩
  ·rw [bsd,rem,f1,e1]
   simp [lp,f2,rstL]
  ·rw [beg,side_cl2 (f3 th) (e2 th)]
   rfl
def nif:Pt→Bool
 | .iff _ _ _=>false
 | .thn p q=>nif p && nif q
 | .bes p q=>nif p && nif q
 | .again _ p=>nif p
 | .hold _ p=>nif p
 | .watch _ p=>nif p
 | .trap p=>nif p
 | _=>true
theorem wbeg_nif (kn:List (Option Bool)) (p:Pt):nif p = true→(wbeg kn true p).2.1 = true∧(wbeg kn true p).2.2.1 = (wbeg kn true p).2.2.2:=by
 induction p with
 | iff s p q _ _=>intro h; cases h
 | thn p q ihp ihq =>
  intro h
  obtain ⟨h1,h2⟩:=(Bool.and_eq_true _ _).mp h
  obtain ⟨a1,a2⟩:=ihp h1
  obtain ⟨b1,b2⟩:=ihq h2
  rw [wbeg]
  split
  ·rw [a1]
   exact ⟨b1,by show (wbeg kn true p).2.2.1 ++ (wbeg kn true q).2.2.1 = (wbeg kn true p).2.2.2 ++ (wbeg kn true q).2.2.2; rw [a2,b2]⟩
  ·exact ⟨a1,a2⟩
 | bes p q ihp ihq =>
  intro h
  obtain ⟨h1,h2⟩:=(Bool.and_eq_true _ _).mp h
  obtain ⟨a1,a2⟩:=ihp h1
  obtain ⟨b1,b2⟩:=ihq h2
  rw [wbeg]
  exact ⟨by show ((wbeg kn true p).2.1 && (wbeg kn true q).2.1) = true; rw [a1,b1]; rfl,by show (wbeg kn true p).2.2.1 ++ (wbeg kn true q).2.2.1 = (wbeg kn true p).2.2.2 ++ (wbeg kn true q).2.2.2; rw [a2,b2]⟩
 | again k p ih=>intro h; rw [wbeg]; exact ih h
 | hold s p ih=>intro h; rw [wbeg]; exact ih h
 | watch s p ih=>intro h; rw [wbeg]; exact ih h
 | trap p ih=>intro h; rw [wbeg]; exact ih h
 | nothing=>intro _; exact ⟨rfl,rfl⟩
 | rest k=>intro _; exact ⟨rfl,rfl⟩
 | send s=>intro _; exact ⟨rfl,rfl⟩
 | exit d=>intro _; exact ⟨rfl,rfl⟩
 | stay ks=>intro _; exact ⟨rfl,rfl⟩
def MuC (o:Option Pt):Prop:=∀ kn,(mcB kn o).1 = (mcB kn o).2
theorem muc_of {q:Pt} (h:∀ kn,(wbeg kn true q).2.2.1 = (wbeg kn true q).2.2.2):MuC (some q):=fun kn=>by
 show nub (wbeg kn true q).2.2.1 = nub (wbeg kn true q).2.2.2
 rw [h kn]
theorem tak_all {kn:List (Option Bool)} {mu:List Int}:tak kn mu mu = areL none kn:=by
 unfold tak
 rw [List.filter_eq_self]
 intro s _
 by_cases h:s∈mu <;> simp [h]
theorem step_nil {o:Option Pt} {kn:List (Option Bool)} (h:none∉kn):stepK o kn = []:=by
 unfold stepK chg tak
 rw [(areL_none kn).mpr h]
 rfl
theorem setF_nil {o:Option Pt} {kn:List (Option Bool)} (h:none∉kn) (f:Nat):setF o f kn = kn:=by
 cases f with
 | zero=>rfl
 | succ f=>rw [setF_succ,if_pos (step_nil h)]
theorem beh_none {o:Option Pt} (m:MuC o) (kn:List (Option Bool)):none∉behK kn (stepK o kn):=fun h=>by
 obtain ⟨i,hi⟩:=List.mem_iff_getElem?.mp h
 have hl:i < kn.length:=by have:=(List.getElem?_eq_some_iff.mp hi).1; rw [behK_len] at this; exact this
 have g:((behK kn (stepK o kn))[i]?).getD none = none:=by rw [hi]; rfl
 unfold stepK at g
 rw [nextK_get] at g
 split at g
 ·cases g
 ·rename_i z
  refine z ?_
  rw [m kn,tak_all]
  exact mem_areL.mpr ⟨⟨by omega,by omega⟩,by rw [Int.toNat_natCast]; exact g⟩
theorem set_muc {o:Option Pt} (m:MuC o) (f:Nat) (kn:List (Option Bool)):none∉setF o (f + 1) kn:=by
 rw [setF_succ]
 split
 ·rename_i z
  unfold stepK chg at z
  rw [m kn,tak_all] at z
  exact (areL_none kn).mp (List.map_eq_nil_iff.mp z)
 ·rw [setF_nil (beh_none m kn)]
  exact beh_none m kn
theorem nif_lcs (s f:Int):∀ l:List Bool,nif (lcs s f l) = true
 | []=>rfl
 | b :: r=>by
  have:=nif_lcs s f r
  cases b <;> simp [lcs,nif,this]
theorem nif_lrm (s f:Int) (j:Nat):∀ l:List Bool,nif (lrm s f j l) = true
 | []=>rfl
 | b :: r=>by
  have:=nif_lrm s f j r
  have h2:nif (if j = r.length then .nothing else .thn (lrm s f j r) (.rest (f + r.length))) = true:=by
   split
   ·rfl
   ·simp [nif,this]
  cases b
  ·exact h2
  ·show (nif (if j = r.length then .nothing else .thn (lrm s f j r) (.rest (f + r.length))) && true) = true
   rw [h2]; rfl
theorem nif_bsd (s:Int):∀ L:List (Int× List Bool),nif (bsd s L) = true
 | []=>rfl
 | [x]=>nif_lcs s x.1 x.2
 | x :: y :: r=>by
  show (nif (bsd s (y :: r)) && nif (lcs s x.1 x.2)) = true
  rw [nif_bsd s (y :: r),nif_lcs]; rfl
def tot:List (Int× List Bool)→Int
 | []=>0
 | x :: r=>tot r + x.2.length + 1
def NumL:List (Int× List Bool)→Prop
 | []=>True
 | x :: r=>x.1 = tot r∧NumL r
def LeL:List (Int× List Bool)→List Nat→Prop
 | [],[]=>True
 | x :: r,j :: js=>j≤x.2.length∧LeL r js
 | _,_=>False
theorem tot_nn:∀ L:List (Int× List Bool),0≤tot L
 | []=>Int.le_refl _
 | x :: r=>by have:=tot_nn r; rw [tot]; omega
theorem rstL_lt:∀ (L:List (Int× List Bool)) (js:List Nat),NumL L→LeL L js→∀ e∈rstL L js,0≤e∧e < tot L
 | [],js,_,_,e,he=>by simp [rstL] at he
 | x :: r,[],_,h,e,he=>h.elim
 | x :: r,j :: js,hn,h,e,he=>by
  have t0:=tot_nn r
  have e1:=hn.1
  rw [tot]
  rcases List.mem_append.mp he with z | z
  ·have:=rstL_lt r js hn.2 h.2 e z
   omega
  ·rw [List.mem_singleton.mp z,e1]
   have:=h.1
   omega
theorem posL_of:∀ (L:List (Int× List Bool)) (js:List Nat),NumL L→LeL L js→∀ ext:List Int,(∀ e∈ext,tot L≤e)→PosL (rstL L js ++ ext) L js
 | [],[],_,_,_,_=>trivial
 | [],_ :: _,_,h,_,_=>h.elim
 | x :: r,[],_,h,_,_=>h.elim
 | x :: r,j :: js,hn,h,ext,hx=>by
  have e1:=hn.1
  have hj:=h.1
  rw [tot] at hx
  refine ⟨⟨hj,List.mem_append_left _ (List.mem_append_right _ (List.mem_singleton.mpr rfl)),fun i hi ne hm=>?_⟩,?_⟩
  ·rcases List.mem_append.mp hm with z | z
   ·rcases List.mem_append.mp z with z | z
    ·have:=rstL_lt r js hn.2 h.2 _ z
     omega
    ·have:=List.mem_singleton.mp z
     omega
   ·have:=hx _ z
    omega
  ·have:=posL_of r js hn.2 h.2 ([x.1 + j] ++ ext) (fun e he=>by
    rcases List.mem_append.mp he with z | z
    ·rw [List.mem_singleton.mp z]; omega
    ·have:=hx e z; omega)
   rw [← List.append_assoc] at this
   exact this
theorem rstL_rise:∀ (L:List (Int× List Bool)) (js:List Nat),NumL L→LeL L js→(rstL L js).Pairwise (· < ·)
 | [],js,_,_=>by simp [rstL]
 | x :: r,[],_,h=>h.elim
 | x :: r,j :: js,hn,h=>by
  show (rstL r js ++ [x.1 + j]).Pairwise (· < ·)
  rw [List.pairwise_append]
  refine ⟨rstL_rise r js hn.2 h.2,by simp,fun a ha b hb=>?_⟩
  rw [List.mem_singleton.mp hb,hn.1]
  have:=rstL_lt r js hn.2 h.2 a ha
  omega
def atT (L:List (Int× List Bool)) (t:Nat):List Nat:=L.map fun x=>t % (x.2.length + 1)
def sT (L:List (Int× List Bool)) (t:Nat):List Int:=rstL L (atT L t)
theorem atT_le:∀ (L:List (Int× List Bool)) (t:Nat),LeL L (atT L t)
 | [],t=>trivial
 | x :: r,t=>⟨by have:=Nat.mod_lt t (show 0 < x.2.length + 1 by omega); show t % (x.2.length + 1)≤_; omega,atT_le r t⟩
theorem atT_nxt:∀ (L:List (Int× List Bool)) (t:Nat),nxtL L (atT L t) = atT L (t + 1)
 | [],t=>rfl
 | x :: r,t=>by
  show (t % (x.2.length + 1) + 1) % (x.2.length + 1) :: nxtL r (atT r t) = (t + 1) % (x.2.length + 1) :: atT r (t + 1)
  rw [atT_nxt r t,Nat.mod_add_mod]
theorem atT_zero:∀ (L:List (Int× List Bool)),(L.map fun _=>0) = atT L 0
 | []=>rfl
 | x :: r=>by
  show 0 :: (r.map fun _=>0) = 0 % (x.2.length + 1) :: atT r 0
  rw [atT_zero r,Nat.zero_mod]
theorem sort_id {l:List Int} (h:l.Pairwise (· < ·)):sortI l = l:=(sortI_eq (List.Perm.refl l) (h.imp fun z=>Int.le_of_lt z)).symm
def lcmL:List (Int× List Bool)→Nat
 | []=>1
 | x :: r=>Nat.lcm (lcmL r) (x.2.length + 1)
theorem lcm_pos:∀ L:List (Int× List Bool),0 < lcmL L
 | []=>by decide
 | x :: r=>Nat.lcm_pos (lcm_pos r) (by omega)
theorem sT_per:∀ (L:List (Int× List Bool)) (t k:Nat),lcmL L ∣ k→atT L (t + k) = atT L t
 | [],t,k,_=>rfl
 | x :: r,t,k,h=>by
  show (t + k) % (x.2.length + 1) :: atT r (t + k) = t % (x.2.length + 1) :: atT r t
  have h1:lcmL r ∣ k:=Nat.dvd_trans (Nat.dvd_lcm_left _ _) h
  have h2:x.2.length + 1 ∣ k:=Nat.dvd_trans (Nat.dvd_lcm_right _ _) h
  rw [sT_per r t k h1]
  obtain ⟨c,rfl⟩:=h2
  rw [Nat.add_mul_mod_self_left]
theorem sT_inj:∀ (L:List (Int× List Bool)) (t u:Nat),u≤t→sT L t = sT L u→lcmL L ∣ t - u
 | [],t,u,_,_=>Nat.one_dvd _
 | x :: r,t,u,h,e=>by
  have e:rstL r (atT r t) ++ [x.1 + ((t % (x.2.length + 1):Nat):Int)] = rstL r (atT r u) ++ [x.1 + ((u % (x.2.length + 1):Nat):Int)]:=e
  obtain ⟨e1,e2⟩:=List.append_inj' e rfl
  have e3:t % (x.2.length + 1) = u % (x.2.length + 1):=by
   have:=(List.cons.inj e2).1
   omega
  exact Nat.lcm_dvd (sT_inj r t u h e1) (Nat.dvd_of_mod_eq_zero (Nat.sub_mod_eq_zero_of_mod_eq e3))
theorem sT_ne {L:List (Int× List Bool)} {t u:Nat} (ht:t < lcmL L) (hu:u < lcmL L) (e:sT L t = sT L u):t = u:=by
 rcases Nat.le_total u t with h | h
 ·have:=sT_inj L t u h e
  rcases Nat.eq_zero_or_pos (t - u) with z | z
  ·omega
  ·have:=Nat.le_of_dvd z this; omega
 ·have:=sT_inj L u t h e.symm
  rcases Nat.eq_zero_or_pos (u - t) with z | z
  ·omega
  ·have:=Nat.le_of_dvd z this; omega
theorem sT_wrap (L:List (Int× List Bool)) (t:Nat):sT L (t % lcmL L) = sT L t:=by
 have e:t = t % lcmL L + lcmL L * (t / lcmL L):=(Nat.mod_add_div t (lcmL L)).symm
 unfold sT
 conv=>rhs; rw [e]
 rw [sT_per L _ _ ⟨_,rfl⟩]
theorem p1_none {s:Int} {L:List (Int× List Bool)} (h:L≠[]) (hn:NumL L) (th:List Int):(instD (bsd s L) none th).2.2 = sT L 0:=by
 show sortI (beg th (bsd s L)).2.2 = _
 rw [show (beg th (bsd s L)).2.2 = rstL L (L.map fun _=>0) from (Prod.mk.inj (bsd_beg th s L h)).2,atT_zero]
 exact sort_id (rstL_rise L _ hn (atT_le L 0))
theorem p1_at {s:Int} {L:List (Int× List Bool)} (h:L≠[]) (hn:NumL L) (th:List Int) (t:Nat):(instD (bsd s L) (some (sT L t)) th).2.2 = sT L (t + 1):=by
 have hp:=posL_of L (atT L t) hn (atT_le L t) [] (fun e he=>by cases he)
 rw [List.append_nil] at hp
 obtain ⟨q,e1,e2,e3⟩:=bsd_rem s L (atT L t) h hp
 have e1:rem (sT L t) (bsd s L) = (rstL L (atT L t),q):=e1
 unfold instD
 dsimp only
 rw [e1,if_neg e2]
 show sortI (beg th (rem (sT L t) (bsd s L)).2).2.2 = _
 rw [e1]
 show sortI (beg th q).2.2 = _
 rw [show (beg th q).2.2 = rstL L (nxtL L (atT L t)) from (Prod.mk.inj (e3 th)).2,atT_nxt]
 exact sort_id (rstL_rise L _ hn (atT_le L (t + 1)))
theorem lop_nif {st:List Int} {s f:Int} {l:List Bool} {j:Nat} (h:Pos st f l.length j):nif (rem st (lop s f l)).2 = true:=by
 by_cases c:j = l.length
 ·subst c
  unfold lop
  rw [rem,if_pos h.at']
  exact nif_lcs s f l
 ·have jl:j < l.length:=by have:=h.le; omega
  have hk:f + (l.length:Int)∉st:=h.off l.length (Nat.le_refl _) (fun z=>c z.symm)
  have hr:=lcs_rem (s:=s) h.at' jl (fun i hi=>h.off i (by omega))
  unfold lop
  rw [rem,if_neg hk,hr]
  dsimp only
  simp [lr,nif,nif_lrm]
theorem bsd_nif {st:List Int} (s:Int):∀ (L:List (Int× List Bool)) (js:List Nat),L≠[]→PosL st L js→nif (rem st (bsd s L)).2 = true
 | [],js,h,_=>absurd rfl h
 | [x],[],_,h=>absurd h (by simp [PosL])
 | [x],j :: js,_,h=>lop_nif h.1
 | x :: y :: r,[],_,h=>absurd h (by simp [PosL])
 | x :: y :: r,j :: js,_,h=>by
  obtain ⟨h1,h2⟩:=h
  obtain ⟨q,e1,_⟩:=lop_rem (s:=s) h1
  obtain ⟨q',f1,f2,_⟩:=bsd_rem s (y :: r) js (by simp) h2
  have a:=lop_nif (s:=s) h1
  have b:=bsd_nif s (y :: r) js (by simp) h2
  rw [e1] at a
  rw [f1] at b
  rw [bsd,rem,f1,e1]
  dsimp only
  have a:nif q = true:=a
  have b:nif q' = true:=b
  simp [lp,f2,nif,a,b]
theorem p1_un {s:Int} {L:List (Int× List Bool)} (h:L≠[]) (hn:NumL L) (n c:Nat):Un (bsd s L) n c (none :: (List.range (lcmL L)).map fun t=>some (sT L t)):=by
 have up:∀ t,some (sT L t)∈none :: (List.range (lcmL L)).map fun t=>some (sT L t):=fun t=>List.mem_cons_of_mem _ (List.mem_map.mpr ⟨t % lcmL L,List.mem_range.mpr (Nat.mod_lt _ (lcm_pos L)),by rw [sT_wrap]⟩)
 refine ⟨List.mem_cons_self,fun st hs cs _=>?_⟩
 rcases List.mem_cons.mp hs with rfl | hs
 ·refine ⟨?_,?_⟩
  ·unfold knW
   exact set_muc (muc_of fun kn=>(wbeg_nif kn (bsd s L) (nif_bsd s L)).2) _ _
  ·unfold bhW
   rw [p1_none h hn]
   exact up 0
 ·obtain ⟨t,_,rfl⟩:=List.mem_map.mp hs
  refine ⟨?_,?_⟩
  ·have hp:=posL_of L (atT L t) hn (atT_le L t) [] (fun e he=>by cases he)
   rw [List.append_nil] at hp
   have hf:=bsd_nif s L (atT L t) h hp
   have ho:¬ overP (bsd s L) (some (sT L t)):=by
    obtain ⟨q,e1,e2,_⟩:=bsd_rem s L (atT L t) h hp
    show ¬ (rem (sT L t) (bsd s L)).1 = []
    have e1:rem (sT L t) (bsd s L) = (rstL L (atT L t),q):=e1
    rw [e1]; exact e2
   unfold knW
   rw [bodyO_over.2 ho]
   exact set_muc (muc_of fun kn=>(wbeg_nif kn _ hf).2) _ _
  ·unfold bhW
   rw [p1_at h hn]
   exact up (t + 1)
theorem nodup_map_range {f:Nat→Option (List Int)} (N:Nat) (h:∀ t u,t < N→u < N→f t = f u→t = u):((List.range N).map f).Nodup:=by
 rw [List.nodup_iff_pairwise_ne,List.pairwise_map]
 refine List.Pairwise.imp_of_mem (fun {a b} ha hb hne e=>hne (h a b (List.mem_range.mp ha) (List.mem_range.mp hb) e)) (List.nodup_iff_pairwise_ne.mp List.nodup_range)
def U1 (L:List (Int× List Bool)):List (Option (List Int)):=none :: (List.range (lcmL L)).map fun t=>some (sT L t)
theorem U1_nodup (L:List (Int× List Bool)):(U1 L).Nodup:=by
 unfold U1
 rw [List.nodup_cons]
 refine ⟨fun h=>?_,nodup_map_range _ fun t u ht hu e=>sT_ne ht hu (Option.some.inj e)⟩
 obtain ⟨t,_,e⟩:=List.mem_map.mp h
 cases e
theorem U1_len (L:List (Int× List Bool)):(U1 L).length = 1 + lcmL L:=by
 unfold U1
 rw [List.length_cons,List.length_map,List.length_range]
 omega
theorem p1_look {s:Int} {L:List (Int× List Bool)} (h:L≠[]) (hn:NumL L) (n:Nat):(40 < 1 + lcmL L∧lookR (bsd s L) n 0 = .many)∨(1 + lcmL L≤40∧∃ sts,lookR (bsd s L) n 0 = .lt sts∧sts.length = 1 + lcmL L∧sts.Nodup∧(∀ x∈sts,x∈U1 L)∧sts[0]? = some none):=by
 have u:Un (bsd s L) n 0 (U1 L):=p1_un h hn n 0
 have k:=look_un u
 cases e:lookR (bsd s L) n 0 with
 | many =>
  rw [e] at k
  have k:41≤(U1 L).length:=k
  rw [U1_len] at k
  exact .inl ⟨by omega,rfl⟩
 | rf wy w=>rw [e] at k; exact k.elim
 | lt sts =>
  rw [e] at k
  obtain ⟨k1,k2,k3⟩:=k
  obtain ⟨a0,cl⟩:=look_lt e
  have ac:([]:List Int)∈comL 0:=List.mem_singleton.mpr rfl
  have step:∀ t:Nat,some (sT L t)∈sts:=fun t=>by
   induction t with
   | zero =>
    have:=(cl none a0 _ ac).2
    unfold bhW at this
    rw [p1_none h hn] at this
    exact this
   | succ t ih =>
    have:=(cl _ ih _ ac).2
    unfold bhW at this
    rw [p1_at h hn] at this
    exact this
  have l1:=nodup_le k1 k2
  have l2:(U1 L).length≤sts.length:=nodup_le (U1_nodup L) fun x hx=>by
   rcases List.mem_cons.mp hx with rfl | hx
   ·exact a0
   ·obtain ⟨t,_,rfl⟩:=List.mem_map.mp hx
    exact step t
  have l3:=look_len e
  rw [U1_len] at l1 l2
  exact .inr ⟨by omega,sts,rfl,by omega,k1,k2,k3⟩
def p2 (s:Int) (L:List (Int× List Bool)):Pt:=.bes (bsd s L) (.watch 0 (.again (tot L) .nothing))
def wT (L:List (Int× List Bool)) (t:Nat):List Int:=sT L t ++ [tot L]
theorem wT_rise {L:List (Int× List Bool)} (hn:NumL L) (t:Nat):(wT L t).Pairwise (· < ·):=by
 unfold wT
 rw [List.pairwise_append]
 refine ⟨rstL_rise L _ hn (atT_le L t),by simp,fun a ha b hb=>?_⟩
 rw [List.mem_singleton.mp hb]
 exact (rstL_lt L _ hn (atT_le L t) a ha).2
theorem p2_none {s:Int} {L:List (Int× List Bool)} (h:L≠[]) (hn:NumL L) (th:List Int):(instD (p2 s L) none th).2.2 = wT L 0:=by
 show sortI (beg th (.bes (bsd s L) (.watch 0 (.again (tot L) .nothing)))).2.2 = _
 have e:cl2 (beg th (.bes (bsd s L) (.watch 0 (.again (tot L) .nothing)))) = (1,rstL L (L.map fun _=>0) ++ [tot L]):=by
  rw [beg]
  exact side_cl2 (bsd_beg th s L h) rfl
 rw [show (beg th (.bes (bsd s L) (.watch 0 (.again (tot L) .nothing)))).2.2 = _ from (Prod.mk.inj e).2,atT_zero]
 exact sort_id (wT_rise hn 0)
theorem rem_aw_in {st:List Int} {N:Int} (h:N∈st):rem st (.watch 0 (.again N .nothing)) = ([N],.iff 0 .nothing (.again N .nothing)):=by
 simp [rem,h,lr]
theorem rem_aw_off {st:List Int} {N:Int} (h:N∉st):rem st (.watch 0 (.again N .nothing)) = ([],.watch 0 (.again N .nothing)):=by
 simp [rem,h,lr]
theorem p2_remW {s:Int} {L:List (Int× List Bool)} (h:L≠[]) (hn:NumL L) (t:Nat):∃ q,rem (wT L t) (p2 s L) = (rstL L (atT L t) ++ [tot L],.bes q (.iff 0 .nothing (.again (tot L) .nothing)))∧nif q = true∧∀ th,cl2 (beg th q) = (1,sT L (t + 1)):=by
 have hp:=posL_of L (atT L t) hn (atT_le L t) [tot L] (fun e he=>by rw [List.mem_singleton.mp he]; exact Int.le_refl _)
 obtain ⟨q,e1,e2,e3⟩:=bsd_rem s L (atT L t) h hp
 have e4:=bsd_nif s L (atT L t) h hp
 rw [e1] at e4
 have e1:rem (wT L t) (bsd s L) = (rstL L (atT L t),q):=e1
 have hm:tot L∈wT L t:=List.mem_append_right _ (List.mem_singleton.mpr rfl)
 refine ⟨q,?_,e4,fun th=>by rw [e3,atT_nxt]; rfl⟩
 unfold p2
 rw [rem,e1,rem_aw_in hm]
 simp [lp,e2]
theorem p2_remE {s:Int} {L:List (Int× List Bool)} (h:L≠[]) (hn:NumL L) (t:Nat):∃ q,rem (sT L t) (p2 s L) = (rstL L (atT L t),q)∧rstL L (atT L t)≠[]∧nif q = true∧∀ th,cl2 (beg th q) = (1,sT L (t + 1)):=by
 have hp:=posL_of L (atT L t) hn (atT_le L t) [] (fun e he=>by cases he)
 rw [List.append_nil] at hp
 obtain ⟨q,e1,e2,e3⟩:=bsd_rem s L (atT L t) h hp
 have e4:=bsd_nif s L (atT L t) h hp
 rw [e1] at e4
 have e1:rem (sT L t) (bsd s L) = (rstL L (atT L t),q):=e1
 have hm:tot L∉sT L t:=fun z=>by have:=(rstL_lt L _ hn (atT_le L t) _ z).2; omega
 refine ⟨q,?_,e2,e4,fun th=>by rw [e3,atT_nxt]; rfl⟩
 unfold p2
 rw [rem,e1,rem_aw_off hm]
 simp [lp,e2]
theorem p2_atW {s:Int} {L:List (Int× List Bool)} (h:L≠[]) (hn:NumL L) (th:List Int) (t:Nat):(instD (p2 s L) (some (wT L t)) th).2.2 = if (0:Int)∈th then sT L (t + 1) else wT L (t + 1):=by
 obtain ⟨q,e1,_,e3⟩:=p2_remW (s:=s) h hn t
 unfold instD
 dsimp only
 rw [e1,if_neg (by simp)]
 show sortI (beg th (rem (wT L t) (p2 s L)).2).2.2 = _
 rw [e1]
 show sortI (beg th (.bes q (.iff 0 .nothing (.again (tot L) .nothing)))).2.2 = _
 have q1:=(Prod.mk.inj (e3 th)).1
 have q2:=(Prod.mk.inj (e3 th)).2
 rw [beg,beg]
 by_cases c:(0:Int)∈th
 ·rw [if_pos c,if_pos c]
  have:(sideD (beg th q) (beg th .nothing)).2.2 = sT L (t + 1):=by simp [sideD,beg,q1,q2]
  rw [this]
  exact sort_id (rstL_rise L _ hn (atT_le L (t + 1)))
 ·rw [if_neg c,if_neg c]
  have:=side_cl2 (e3 th) (show cl2 (beg th (.again (tot L) .nothing)) = (1,[tot L]) from rfl)
  rw [show (sideD (beg th q) (beg th (.again (tot L) .nothing))).2.2 = _ from (Prod.mk.inj this).2]
  exact sort_id (wT_rise hn (t + 1))
theorem p2_atE {s:Int} {L:List (Int× List Bool)} (h:L≠[]) (hn:NumL L) (th:List Int) (t:Nat):(instD (p2 s L) (some (sT L t)) th).2.2 = sT L (t + 1):=by
 obtain ⟨q,e1,e2,_,e3⟩:=p2_remE (s:=s) h hn t
 unfold instD
 dsimp only
 rw [e1,if_neg e2]
 show sortI (beg th (rem (sT L t) (p2 s L)).2).2.2 = _
 rw [e1]
 show sortI (beg th q).2.2 = _
 rw [(Prod.mk.inj (e3 th)).2]
 exact sort_id (rstL_rise L _ hn (atT_le L (t + 1)))
def U2 (L:List (Int× List Bool)):List (Option (List Int)):=none :: ((List.range (lcmL L)).map (fun t=>some (wT L t)) ++ (List.range (lcmL L)).map fun t=>some (sT L t))
theorem U2_len (L:List (Int× List Bool)):(U2 L).length = 1 + 2 * lcmL L:=by
 unfold U2
 rw [List.length_cons,List.length_append,List.length_map,List.length_map,List.length_range]
 omega
theorem wT_wrap (L:List (Int× List Bool)) (t:Nat):wT L (t % lcmL L) = wT L t:=by unfold wT; rw [sT_wrap]
theorem U2_s (L:List (Int× List Bool)) (t:Nat):some (sT L t)∈U2 L:=List.mem_cons_of_mem _ (List.mem_append_right _ (List.mem_map.mpr ⟨t % lcmL L,List.mem_range.mpr (Nat.mod_lt _ (lcm_pos L)),by rw [sT_wrap]⟩))
theorem U2_w (L:List (Int× List Bool)) (t:Nat):some (wT L t)∈U2 L:=List.mem_cons_of_mem _ (List.mem_append_left _ (List.mem_map.mpr ⟨t % lcmL L,List.mem_range.mpr (Nat.mod_lt _ (lcm_pos L)),by rw [wT_wrap]⟩))
theorem muc_iff {q:Pt} {N:Int} (h:nif q = true):MuC (some (.bes q (.iff 0 .nothing (.again N .nothing)))):=muc_of fun kn=>by
 have a:=(wbeg_nif kn q h).2
 rw [wbeg]
 show (wbeg kn true q).2.2.1 ++ (wbeg kn true (.iff 0 .nothing (.again N .nothing))).2.2.1 = (wbeg kn true q).2.2.2 ++ (wbeg kn true (.iff 0 .nothing (.again N .nothing))).2.2.2
 have b:(wbeg kn true (.iff 0 .nothing (.again N .nothing))).2.2.1 = (wbeg kn true (.iff 0 .nothing (.again N .nothing))).2.2.2:=by
  rw [wbeg]
  split <;> rfl
 rw [a,b]
theorem p2_un {s:Int} {L:List (Int× List Bool)} (h:L≠[]) (hn:NumL L) (n c:Nat):Un (p2 s L) n c (U2 L):=by
 refine ⟨List.mem_cons_self,fun st hs cs _=>?_⟩
 rcases List.mem_cons.mp hs with rfl | hs
 ·refine ⟨?_,?_⟩
  ·unfold knW
   exact set_muc (muc_of fun kn=>(wbeg_nif kn (p2 s L) (by show (nif (bsd s L) && true) = true; rw [nif_bsd]; rfl)).2) _ _
  ·unfold bhW
   rw [p2_none h hn]
   exact U2_w L 0
 ·rcases List.mem_append.mp hs with hs | hs
  ·obtain ⟨t,_,rfl⟩:=List.mem_map.mp hs
   obtain ⟨q,e1,e2,_⟩:=p2_remW (s:=s) h hn t
   refine ⟨?_,?_⟩
   ·have ho:¬ overP (p2 s L) (some (wT L t)):=by
     show ¬ (rem (wT L t) (p2 s L)).1 = []
     rw [e1]; simp
    unfold knW
    rw [bodyO_over.2 ho]
    show none∉setF (some (rem (wT L t) (p2 s L)).2) _ _
    rw [e1]
    exact set_muc (muc_iff e2) _ _
   ·unfold bhW
    rw [p2_atW h hn]
    split
    ·exact U2_s L _
    ·exact U2_w L _
  ·obtain ⟨t,_,rfl⟩:=List.mem_map.mp hs
   obtain ⟨q,e1,e0,e2,_⟩:=p2_remE (s:=s) h hn t
   refine ⟨?_,?_⟩
   ·have ho:¬ overP (p2 s L) (some (sT L t)):=by
     show ¬ (rem (sT L t) (p2 s L)).1 = []
     rw [e1]; exact e0
    unfold knW
    rw [bodyO_over.2 ho]
    show none∉setF (some (rem (sT L t) (p2 s L)).2) _ _
    rw [e1]
    exact set_muc (muc_of fun kn=>(wbeg_nif kn _ e2).2) _ _
   ·unfold bhW
    rw [p2_atE h hn]
    exact U2_s L _
theorem come_there {p:Pt} {n:Nat} (h1:1≤n) (ok:okW n p) (st:Option (List Int)):(0:Int)∈areL (some true) (knW p st n [0]):=by
 refine mem_areL.mpr ⟨⟨Int.le_refl _,by rw [knW_len]; omega⟩,?_⟩
 exact (SI.set (okB_body ok st) (n + 1) (SI.first n [0] (bodyO p st))).i1 0 (by omega) (List.mem_singleton.mpr rfl)
theorem p2_look {s:Int} {L:List (Int× List Bool)} (h:L≠[]) (hn:NumL L) {n:Nat} (h1:1≤n) (ok:okW n (p2 s L)):(40 < 2 * (1 + lcmL L)∧lookR (p2 s L) n 1 = .many)∨∃ sts,lookR (p2 s L) n 1 = .lt sts∧1 + lcmL L≤sts.length∧sts.length≤2 * (1 + lcmL L):=by
 have u:Un (p2 s L) n 1 (U2 L):=p2_un h hn n 1
 have k:=look_un u
 cases e:lookR (p2 s L) n 1 with
 | many =>
  rw [e] at k
  have k:41≤(U2 L).length:=k
  rw [U2_len] at k
  exact .inl ⟨by omega,rfl⟩
 | rf wy w=>rw [e] at k; exact k.elim
 | lt sts =>
  rw [e] at k
  obtain ⟨k1,k2,k3⟩:=k
  obtain ⟨a0,cl⟩:=look_lt e
  have ac:([0]:List Int)∈comL 1:=by decide
  have w0:some (wT L 0)∈sts:=by
   have:=(cl none a0 _ ac).2
   unfold bhW at this
   rw [p2_none h hn] at this
   exact this
  have step:∀ t:Nat,some (sT L (t + 1))∈sts:=fun t=>by
   induction t with
   | zero =>
    have:=(cl _ w0 _ ac).2
    unfold bhW at this
    rw [p2_atW h hn,if_pos (come_there h1 ok _)] at this
    exact this
   | succ t ih =>
    have:=(cl _ ih _ ac).2
    unfold bhW at this
    rw [p2_atE h hn] at this
    exact this
  have l1:=nodup_le k1 k2
  have l2:(U1 L).length≤sts.length:=nodup_le (U1_nodup L) fun x hx=>by
   rcases List.mem_cons.mp hx with rfl | hx
   ·exact a0
   ·obtain ⟨t,_,rfl⟩:=List.mem_map.mp hx
    have hp:=lcm_pos L
    have:=step (t + lcmL L - 1)
    rw [show t + lcmL L - 1 + 1 = t + lcmL L by omega] at this
    have e2:sT L (t + lcmL L) = sT L t:=by unfold sT; rw [sT_per L t _ (Nat.dvd_refl _)]
    rw [e2] at this
    exact this
  rw [U2_len] at l1
  rw [U1_len] at l2
  exact .inr ⟨sts,rfl,by omega,by omega⟩
inductive NLp:Np→List Bool→Prop
 | nil:NLp .nothing []
 | rest {a:Np} {l:List Bool} (h:NLp a l):NLp (.thn a .rest) (false :: l)
 | send {a:Np} {l:List Bool} (h:NLp a l):NLp (.thn (.thn a .rest) (.send "go")) (true :: l)
theorem NLp.pl {a:Np} {l:List Bool} (h:NLp a l) (e:Env') (tr:List (Option Str)) (sg rs:Int):plP a e tr sg rs = lcs ((e "go").getD 0) rs l∧(pl a e tr sg rs).2.2 = rs + (l.length:Int)∧(pl a e tr sg rs).2.1 = sg:=by
 induction h with
 | nil=>exact ⟨rfl,by simp [Pln.pl],rfl⟩
 | @rest a l h ih =>
  obtain ⟨h1,h2,h3⟩:=ih
  refine ⟨?_,?_,?_⟩
  ·simp only [plP,lcs,h1,h2]; rfl
  ·simp [Pln.pl,h2]; omega
  ·simp [Pln.pl,h3]
 | @send a l h ih =>
  obtain ⟨h1,h2,h3⟩:=ih
  refine ⟨?_,?_,?_⟩
  ·simp only [plP,lcs,h1,h2]; rfl
  ·simp [Pln.pl,h2]; omega
  ·simp [Pln.pl,h3]
structure Np6 (a:Np) (m:Nat):Prop where
 hg:hgt a≤m
 hp:hP a≤m
 lc:lcP a = 0
 ex:∀ tr,exB a tr
 ok:∀ e tr,(∃ n,e "go" = some n)→okp a e tr
theorem NLp.np {a:Np} {l:List Bool} (h:NLp a l):Np6 a (2 * l.length + 1):=by
 induction h with
 | nil=>exact ⟨by decide,by decide,rfl,fun _=>trivial,fun _ _ _=>trivial⟩
 | @rest a l h ih =>
  refine ⟨?_,?_,?_,fun tr=>⟨ih.ex tr,trivial⟩,fun e tr he=>⟨ih.ok e tr he,trivial⟩⟩
  ·have:=ih.hg; simp only [hgt,List.length_cons]; omega
  ·have:=ih.hp; simp only [hP,List.length_cons]; omega
  ·show lcP a + 0 = 0; rw [ih.lc]
 | @send a l h ih =>
  refine ⟨?_,?_,?_,fun tr=>⟨⟨ih.ex tr,trivial⟩,trivial⟩,fun e tr he=>⟨⟨ih.ok e tr he,trivial⟩,he⟩⟩
  ·have:=ih.hg; simp only [hgt,List.length_cons]; omega
  ·have:=ih.hp; simp only [hP,List.length_cons]; omega
  ·show lcP a + 0 + 0 = 0; rw [ih.lc]
def numL:List (List Bool)→List (Int× List Bool)
 | []=>[]
 | l :: r=>(tot (numL r),l) :: numL r
theorem numL_ok:∀ ls:List (List Bool),NumL (numL ls)
 | []=>trivial
 | l :: r=>⟨rfl,numL_ok r⟩
theorem numL_len:∀ ls:List (List Bool),(numL ls).length = ls.length
 | []=>rfl
 | l :: r=>congrArg (· + 1) (numL_len r)
inductive NBl:Np→List (List Bool)→Prop
 | one {a:Np} {l:List Bool} (h:NLp a l):NBl (.again a) [l]
 | more {b a:Np} {l:List Bool} {ls:List (List Bool)} (g:NBl b ls) (h:NLp a l):NBl (.bes b (.again a)) (l :: ls)
theorem NBl.ne {b:Np} {ls:List (List Bool)} (h:NBl b ls):∃ l r,ls = l :: r:=by
 cases h with
 | one h=>exact ⟨_,_,rfl⟩
 | more g h=>exact ⟨_,_,rfl⟩
theorem bsd_cons {s:Int} {x:Int× List Bool}:∀ {L:List (Int× List Bool)},L≠[]→bsd s (x :: L) = .bes (bsd s L) (lop s x.1 x.2)
 | [],h=>absurd rfl h
 | _ :: _,_=>rfl
theorem NBl.pl {b:Np} {ls:List (List Bool)} (h:NBl b ls) (e:Env') (tr:List (Option Str)) (sg:Int):plP b e tr sg 0 = bsd ((e "go").getD 0) (numL ls)∧(pl b e tr sg 0).2.2 = tot (numL ls)∧(pl b e tr sg 0).2.1 = sg:=by
 induction h with
 | @one a l h =>
  obtain ⟨h1,h2,h3⟩:=h.pl e tr sg 0
  refine ⟨?_,?_,?_⟩
  ·simp only [plP,numL,bsd,lop,tot,h1,h2]
  ·simp [Pln.pl,h2,numL,tot]
  ·simp [Pln.pl,h3]
 | @more b a l ls g h ih =>
  obtain ⟨g1,g2,g3⟩:=ih
  obtain ⟨h1,h2,h3⟩:=h.pl e tr sg (tot (numL ls))
  have hne:numL ls≠[]:=by
   obtain ⟨l0,r0,e0⟩:=g.ne
   rw [e0]; simp [numL]
  refine ⟨?_,?_,?_⟩
  ·show _ = bsd _ ((tot (numL ls),l) :: numL ls)
   rw [bsd_cons hne]
   simp only [plP,g1,g2,g3,h1,h2,lop]
  ·show _ = tot (numL ls) + (l.length:Int) + 1
   simp only [Pln.pl,g2,g3,h2]
  ·simp only [Pln.pl,g2,g3,h3]
theorem NBl.np {b:Np} {ls:List (List Bool)} (h:NBl b ls) (h6:∀ l∈ls,l.length≤6):Np6 b (14 + ls.length):=by
 induction h with
 | @one a l h =>
  have z:=h.np
  have l6:=h6 l List.mem_cons_self
  refine ⟨?_,?_,z.lc,z.ex,z.ok⟩
  ·have:=z.hg; simp only [hgt,List.length_cons]; omega
  ·have:=z.hp; simp only [hP,List.length_cons]; omega
 | @more b a l ls g h ih =>
  have i:=ih fun x hx=>h6 x (List.mem_cons_of_mem _ hx)
  have z:=h.np
  have l6:=h6 l List.mem_cons_self
  refine ⟨?_,?_,?_,fun tr=>⟨i.ex tr,z.ex tr⟩,fun e tr he=>⟨i.ok e tr he,z.ok e tr he⟩⟩
  ·have:=z.hg; have:=i.hg; simp only [hgt,List.length_cons]; omega
  ·have:=z.hp; have:=i.hp; simp only [hP,List.length_cons]; omega
  ·show lcP b + lcP a = 0; rw [i.lc,z.lc]
theorem lcs_cnt (s f:Int):∀ l:List Bool,(lcs s f l).rc = l.length∧(lcs s f l).sc≤l.length
 | []=>⟨rfl,Nat.le_refl _⟩
 | b :: r=>by
  obtain ⟨h1,h2⟩:=lcs_cnt s f r
  cases b
  ·simp only [lcs,Pt.rc,Pt.sc,List.length_cons,Bool.false_eq_true,if_false]; omega
  ·simp only [lcs,Pt.rc,Pt.sc,List.length_cons,if_true]; omega
theorem bsd_cnt (s:Int):∀ ls:List (List Bool),(∀ l∈ls,l.length≤6)→(bsd s (numL ls)).rc≤7 * ls.length∧(bsd s (numL ls)).sc≤6 * ls.length
 | [],_=>⟨Nat.zero_le _,Nat.zero_le _⟩
 | [l],h=>by
  obtain ⟨h1,h2⟩:=lcs_cnt s (tot []) l
  have:=h l List.mem_cons_self
  simp only [numL,bsd,lop,Pt.rc,Pt.sc,List.length_cons,List.length_nil]
  omega
 | l :: l' :: r,h=>by
  obtain ⟨h1,h2⟩:=lcs_cnt s (tot (numL (l' :: r))) l
  obtain ⟨g1,g2⟩:=bsd_cnt s (l' :: r) fun x hx=>h x (List.mem_cons_of_mem _ hx)
  have:=h l List.mem_cons_self
  have e:bsd s (numL (l :: l' :: r)) = .bes (bsd s (numL (l' :: r))) (lop s (tot (numL (l' :: r))) l):=rfl
  rw [e]
  simp only [lop,Pt.rc,Pt.sc,List.length_cons] at g1 g2 ⊢
  omega
def e64 (c:Nat):Env':=envOf ((["come"]:List Str).take c ++ (["go"]:List Str)) 0 fun _=>none
theorem e64_0:e64 0 "go" = some 0:=by decide +kernel
theorem e64_1:e64 1 "go" = some 1∧e64 1 "come" = some 0:=by decide +kernel
theorem pg64a {K:PySem.W.Frag} {H:Hp} {t:Addr} {b:Np} {ls:List (List Bool)} {x0 x1 vb:V} (hb:NBl b ls) (h6:∀ l∈ls,l.length≤6) (h4:ls.length≤4)
  (e1:H t = some (.tup [x0,x1,.int (pl b (e64 0) [] (((0:Nat):Int) + (1:Nat)) 0).2.1,vb])) (e2:PAt K H (pl b (e64 0) [] (((0:Nat):Int) + (1:Nat)) 0).1 vb):H t = some (.tup [x0,x1,.int ((1:Nat):Int),vb])∧PgAt K H t 1 (bsd 0 (numL ls)):=by
 obtain ⟨p1,p2,p3⟩:=hb.pl (e64 0) [] (((0:Nat):Int) + (1:Nat))
 have z:=hb.np h6
 obtain ⟨c1,c2⟩:=bsd_cnt 0 ls h6
 rw [e64_0] at p1
 have p1:plP b (e64 0) [] (((0:Nat):Int) + (1:Nat)) 0 = bsd 0 (numL ls):=p1
 rw [p3] at e1
 refine ⟨e1,⟨⟨x0,x1,vb,e1,by rw [← p1,plP_nd]; exact e2⟩,?_,by omega,by omega,?_,by decide⟩⟩
 ·rw [← p1,plP_hg]; have:=z.hp; omega
 ·rw [← p1]
  refine plP_ok _ (e64 0) [] _ 0 _ (z.ok _ _ ⟨_,e64_0⟩) (z.ex _) (fun x v hv=>?_) (by decide) (by rw [z.lc]; decide)
  exact envOf_bd _ _ _ (fun x v z=>by cases z) (Int.le_refl _) (by decide) x v hv
theorem pg64b {K:PySem.W.Frag} {H:Hp} {t:Addr} {b:Np} {ls:List (List Bool)} {x0 x1 vb:V} (hb:NBl b ls) (h6:∀ l∈ls,l.length≤6) (h4:ls.length≤4)
  (e1:H t = some (.tup [x0,x1,.int (pl (.bes b (.await "come")) (e64 1) [] (((1:Nat):Int) + (1:Nat)) 0).2.1,vb])) (e2:PAt K H (pl (.bes b (.await "come")) (e64 1) [] (((1:Nat):Int) + (1:Nat)) 0).1 vb):H t = some (.tup [x0,x1,.int ((2:Nat):Int),vb])∧PgAt K H t 2 (p2 1 (numL ls)):=by
 obtain ⟨p1,q2,q3⟩:=hb.pl (e64 1) [] (((1:Nat):Int) + (1:Nat))
 have z:=hb.np h6
 obtain ⟨c1,c2⟩:=bsd_cnt 1 ls h6
 rw [e64_1.1] at p1
 have hlc:lcP (.bes b (.await "come")) = 0:=by show lcP b + 0 = 0; rw [z.lc]
 have esg:(pl (.bes b (.await "come")) (e64 1) [] (((1:Nat):Int) + (1:Nat)) 0).2.1 = ((2:Nat):Int):=by rw [pl_sg,hlc]; decide
 have eP:plP (.bes b (.await "come")) (e64 1) [] (((1:Nat):Int) + (1:Nat)) 0 = p2 1 (numL ls):=by
  simp only [plP,p1,q2,e64_1.2,p2,Option.getD_some]
 rw [esg] at e1
 refine ⟨e1,⟨⟨x0,x1,vb,e1,by rw [← eP,plP_nd]; exact e2⟩,?_,?_,?_,?_,by decide⟩⟩
 ·rw [← eP,plP_hg]; have:=z.hp; simp only [hP]; omega
 ·show (bsd 1 (numL ls)).sc + 0≤40; omega
 ·show (bsd 1 (numL ls)).rc + (0 + 1)≤40; omega
 ·rw [← eP]
  refine plP_ok _ (e64 1) [] _ 0 _ ⟨z.ok _ _ ⟨_,e64_1.1⟩,⟨_,e64_1.2⟩⟩ ⟨z.ex _,trivial⟩ (fun x v hv=>?_) (by decide) (by rw [hlc]; decide)
  exact envOf_bd _ _ _ (fun x v z=>by cases z) (Int.le_refl _) (by decide) x v hv
def spLoop (K:PySem.W.Frag):Sp:=fun vs H Q _=>∃ (m:Int) (r:Nat),vs = [.int m,.int r]∧r≤6∧∀ v H' (a:Np) (l:List Bool),l.length = r→NLp a l→Same H H'→PAt K H' (Np.again a).nd v→Q v H'
def spDiv:Sp:=fun vs H Q _=>∃ a b:Nat,vs = [.int a,.int b]∧Q (.int (Nat.gcd a b:Nat)) H
def spTog (K:PySem.W.Frag):Sp:=fun vs H Q _=>∃ (s:Addr) (zs:List Nat),vs = [.ref s]∧SqL K H s (zs.map fun (z:Nat)=>V.int z)∧(∀ z∈zs,1≤z∧z≤7)∧Q (.int (zs.foldl Nat.lcm 1:Nat)) H
inductive AsQ (H:Hp) (Q:VK):LkR→Prop
 | lt (sts:List (Option (List Int))) (h:∀ t u sl svs H' H0,Same H H'→H' t = some (.tup [.bl false,.ref u])→H' u = some (.tup [.str "let", .ref sl])→H' sl = some (.lst svs)→PySem.Paired (OF H0 [sl] H') sts svs→Q (.ref t) H'):AsQ H Q (.lt sts)
 | many (h:∀ t H',Same H H'→H' t = some (.tup [.bl true,.non])→Q (.ref t) H'):AsQ H Q .many
def spAsk (K:PySem.W.Frag):Sp:=fun vs H Q _=>∃ (pr:Addr) (c n:Nat) (p:Pt) (x1 vb:V),vs = [.ref pr]∧PgAt K H pr n p∧H pr = some (.tup [.int c,x1,.int n,vb])∧c≤5∧c≤n∧AsQ H Q (lookR p n c)
section
variable {P:Program} {w:World} {K:PySem.W.Frag} {mg:Str→Option Value} {base:Heap} {cTM:Addr}
set_option maxHeartbeats 16000000 in
theorem ok_loop (F:FunM K mg "_law_loop" ["_law_number", "_law_rests"] s__law_loop) (T:Txt mg):Callee P w K mg base 1 "_law_loop" ["_law_number", "_law_rests"] (spLoop K):=by
 refine F.ok sc__law_loop (fun vs H Q E h=>?_) (fun f cdv A outer s H vs Q E hr h=>?_)
 ·obtain ⟨m,r,rfl,_⟩:=h; rfl
 obtain ⟨m,r,rfl,h6,q⟩:=h
 refine ⟨_,(pss_cons (ps_set (i:=2) sc__law_loop.nd rfl (Or.inl rfl) (pe_tup (pa_cons pe_str pa_nil)))
  (pss_cons (ps_for PassesOwn.never rfl (pi_range1 rfl T.n_range (pa_cons (pv 1) pa_nil)) (pg_name (i:=3) sc__law_loop.nd rfl (Or.inl rfl))
   (pss_cons (ps_set (i:=2) sc__law_loop.nd rfl (Or.inl rfl) (pe_tup (pa_cons pe_str (pa_cons (pv 2) (pa_cons (pe_tup (pa_cons pe_str pa_nil)) pa_nil)))))
  (pss_one (ps_if (PW.pt (pw_and (pt_cmpR op_eq (pe_op op_mod (pe_op op_fdiv (pv 0) pe_int) pe_int) pe_int (nomark _)) (pw_and1 (pt_cmpR op_eq (pe_op op_mod (pe_op op_fdiv (pv 0) (pe_op op_add pe_int (pv 3))) pe_int) pe_int (nomark _)))))
   (pss_one (ps_set (i:=2) sc__law_loop.nd rfl (Or.inl rfl) (pe_tup (pa_cons pe_str (pa_cons (pv 2) (pa_cons (pe_tup (pa_cons pe_str (pa_cons pe_str pa_nil))) pa_nil))))))
   pss_nil))))
  (pss_one (ps_ret (pe_tup (pa_cons pe_str (pa_cons (pv 2) pa_nil))))))),?_⟩
 refine ⟨(by show 1≤sizeLine; decide),fun t0 h0=>?_⟩
 refine ⟨_,rfl,_,rfl,by omega,by omega,?_⟩
 dsimp only
 rw [Int.toNat_natCast]
 refine for_range (n:=r) (D:={ nx:=tRet (tTup (tCons (tC (.str "again")) (tCons (tVar 2) tNil))) { nx:=fun x H'=>Q V.non H',rt:=Q },rt:=Q }) (fun i σ H'=>∃ (a:Np) (l:List Bool) (v:V) (x3:Option V),σ = [some (.int m),some (.int r),some v,x3]∧Same H H'∧PAt K H' a.nd v∧NLp a l∧l.length = i) ⟨.nothing,[],.ref t0,none,rfl,same_new h0 _,.t (.inl upd_same) (.cons .s .nil),.nil,rfl⟩ ?_ ?_
 ·rintro i σ H1 hi ⟨a,l,v,x3,rfl,g1,aA,hl,ll⟩
  rw [Int.zero_add]
  refine ⟨_,rfl,(by show 1≤sizeLine; decide),fun u1 h1=>⟨(by show 3≤sizeLine; decide),fun u2 h2=>?_⟩⟩
  obtain ⟨gu,b1,b2⟩:=new2 (a:=.tup [.str "rest"]) (b:=.tup [.str "then", v,.ref u1]) h1 h2
  have aR:PAt K _ (Np.thn a .rest).nd (.ref u2):=.t (.inl b2) (.cons .s (.cons (aA.mono gu.tp) (.cons (.t (.inl b1) (.cons .s .nil)) .nil)))
  have g2:=g1.trans gu
  generalize (upd (upd H1 u1 (.tup [.str "rest"])) u2 (.tup [.str "then", v,.ref u1])) = H2 at aR g2 ⊢
  have no:∃ (a:Np) (l:List Bool) (v':V) (x3:Option V),([some (.int m),some (.int r),some (.ref u2),some (.int i)]:St) = [some (.int m),some (.int r),some v',x3]∧Same H H2∧PAt K H2 a.nd v'∧NLp a l∧l.length = i + 1:=⟨.thn a .rest,false :: l,.ref u2,_,rfl,g2,aR,.rest hl,by rw [List.length_cons,ll]⟩
  refine ⟨_,rfl,_,_,rfl,rfl,⟨by decide,by decide⟩,_,_,rfl,rfl,(by show (0:Int) < 2; decide),rfl,_,rfl,ite2 (fun c=>?_) fun c=>iteF no⟩
  refine ⟨_,rfl,_,rfl,_,_,rfl,rfl,_,_,rfl,rfl,⟨by show (0:Int) < 11 + i; omega,by show (11:Int) + i < 1073741824; omega⟩,_,_,rfl,rfl,(by show (0:Int) < 3; decide),rfl,_,rfl,ite2 (fun c2=>?_) fun c2=>no⟩
  refine ⟨_,rfl,(by show 2≤sizeLine; decide),fun u3 h3=>⟨(by show 3≤sizeLine; decide),fun u4 h4=>?_⟩⟩
  obtain ⟨gv,d1,d2⟩:=new2 (a:=.tup [.str "send", .str "go"]) (b:=.tup [.str "then", .ref u2,.ref u3]) h3 h4
  exact ⟨.thn (.thn a .rest) (.send "go"),true :: l,.ref u4,_,rfl,g2.trans gv,.t (.inl d2) (.cons .s (.cons (aR.mono gv.tp) (.cons (.t (.inl d1) (.cons .s (.cons .s .nil))) .nil))),.send hl,by rw [List.length_cons,ll]⟩
 ·rintro σ H1 ⟨a,l,v,x3,rfl,g1,aA,hl,ll⟩
  refine ⟨_,rfl,(by show 2≤sizeLine; decide),fun t ht=>?_⟩
  have kt:=same_new ht (.tup [.str "again", v])
  exact q _ _ a l ll hl (g1.trans kt) (.t (.inl upd_same) (.cons .s (.cons (aA.mono kt.tp) .nil)))
theorem ok_div (F:FunM K mg "_law_divisor" ["_law_one", "_law_other"] s__law_divisor):Callee P w K mg base 1 "_law_divisor" ["_law_one", "_law_other"] spDiv:=by
 refine F.ok sc__law_divisor (fun vs H Q E h=>?_) (fun f cdv A outer s H vs Q E hr h=>?_)
 ·obtain ⟨a,b,rfl,_⟩:=h; rfl
 obtain ⟨a,b,rfl,q⟩:=h
 refine ⟨_,(pss_cons (ps_while PassesOwn.never (pt_cmpR op_gt (pv 1) pe_int (nomark _))
   (pss_cons (ps_set (i:=2) sc__law_divisor.nd rfl (Or.inl rfl) (pe_op op_mod (pv 0) (pv 1)))
  (pss_cons (ps_set (i:=0) sc__law_divisor.nd rfl (Or.inl rfl) (pv 1))
  (pss_one (ps_set (i:=1) sc__law_divisor.nd rfl (Or.inl rfl) (pv 2))))))
  (pss_one (ps_ret (pv 0)))),?_⟩
 refine while_by (fun σ H'=>H' = H∧∃ (x y:Nat) (z:Option V),σ = [some (.int x),some (.int y),z]∧Nat.gcd x y = Nat.gcd a b)
   (fun (σ:St) (H':Hp)=>match σ[1]? with | some (some (V.int i))=>i.toNat | _=>0) ⟨rfl,a,b,none,rfl,rfl⟩ ?_ ?_
 ·rintro σ H2 ⟨rfl,x,y,z,rfl,eg⟩
  refine ⟨_,rfl,_,_,rfl,rfl,_,rfl,ite2 (fun c=>?_) fun c=>?_⟩
  ·have c:(0:Int) < y:=of_decide_eq_true c
   refine ⟨_,rfl,_,rfl,_,_,rfl,rfl,c,_,rfl,_,rfl,⟨rfl,y,x % y,_,rfl,?_⟩,?_⟩
   ·rw [← eg,Nat.gcd_comm y,← Nat.gcd_rec,Nat.gcd_comm]
   ·show ((x:Int) % (y:Int)).toNat < ((y:Int)).toNat
    have:=Int.emod_lt_of_pos (x:Int) c
    have:=Int.emod_nonneg (x:Int) (b:=(y:Int)) (by omega)
    omega
  ·have c:¬ (0:Int) < y:=fun z=>c (decide_eq_true z)
   have y0:y = 0:=by omega
   subst y0
   rw [Nat.gcd_zero_right] at eg
   refine ⟨_,rfl,?_⟩
   rw [eg]
   exact q
 ·rintro σ H Q Q' h ⟨v,e,i,j,e3,e4,c,e5,q⟩
  exact ⟨v,e,i,j,e3,e4,c,e5,h _ _ q⟩
set_option maxHeartbeats 16000000 in
theorem ok_tog (F:FunM K mg "_law_together" ["_law_sizes"] s__law_together) (C__law_divisor:Callee P w K mg base 1 "_law_divisor" ["_law_one", "_law_other"] spDiv):Callee P w K mg base 2 "_law_together" ["_law_sizes"] (spTog K):=by
 refine F.ok sc__law_together (fun vs H Q E h=>?_) (fun f cdv A outer s H vs Q E hr h=>?_)
 ·obtain ⟨s,zs,rfl,_⟩:=h; rfl
 obtain ⟨sa,zs,rfl,hS,hz,q⟩:=h
 refine ⟨_,(pss_cons (ps_set (i:=1) sc__law_together.nd rfl (Or.inl rfl) pe_int)
  (pss_cons (ps_for PassesOwn.never rfl (pi_list (pv 0)) (pg_name (i:=2) sc__law_together.nd rfl (Or.inl rfl))
   (pss_one (ps_set (i:=1) sc__law_together.nd rfl (Or.inl rfl) (pe_op op_fdiv (pe_op op_mul (pv 1) (pv 2)) (pe_callC C__law_divisor hr rfl pass0 (pa_cons (pv 1) (pa_cons (pv 2) pa_nil)))))))
  (pss_one (ps_ret (pv 1))))),?_⟩
 refine ⟨_,rfl,sa,rfl,⟨_,hS⟩,for_list (K:=K) (a:=sa) (xs:=zs.map fun (z:Nat)=>V.int z) (fun i σ H'=>H' = H∧∃ (x:Option V) (m:Nat),σ = [some (.ref sa),some (.int m),x]∧m = (zs.take i).foldl Nat.lcm 1) ⟨rfl,none,1,rfl,rfl⟩ (fun i σ H' _ ⟨e,_⟩=>by rw [e]; exact hS) ?_ ?_⟩
 ·rintro i y σ H1 hi ⟨rfl,x,m,rfl,em⟩
  obtain ⟨z,hz1,rfl⟩:∃ z,zs[i]? = some z∧y = V.int (z:Nat):=by
   rw [List.getElem?_map] at hi
   cases e:zs[i]? with
   | none=>rw [e] at hi; cases hi
   | some z=>rw [e] at hi; exact ⟨z,rfl,(Option.some.inj hi).symm⟩
  obtain ⟨z1,z7⟩:=hz z (List.mem_of_getElem? hz1)
  have gp:0 < Nat.gcd m z:=Nat.gcd_pos_of_pos_right _ (by omega)
  have gl:Nat.gcd m z≤z:=Nat.le_of_dvd (by omega) (Nat.gcd_dvd_right _ _)
  refine ⟨_,rfl,_,rfl,_,_,rfl,rfl,.inr ⟨by omega,by omega⟩,_,rfl,_,rfl,m,z,rfl,_,_,rfl,rfl,⟨by omega,by omega⟩,rfl,some (.int (z:Nat)),Nat.lcm m z,?_,?_⟩
  ·show ([some (V.ref sa),some (V.int ((m:Int) * (z:Int) / ((Nat.gcd m z:Nat):Int))),some (V.int (z:Nat))]:St) = _
   rw [show (m:Int) * (z:Int) / ((Nat.gcd m z:Nat):Int) = ((Nat.lcm m z:Nat):Int) by rw [Nat.lcm,Int.natCast_ediv,Int.natCast_mul]]
  ·rw [em,List.take_add_one,hz1,List.foldl_append]; rfl
 ·rintro σ H1 ⟨rfl,x,m,rfl,em⟩
  rw [List.length_map,List.take_length] at em
  refine ⟨_,rfl,?_⟩
  rw [em]
  exact q
set_option maxHeartbeats 16000000 in
theorem ok_asked (F:FunM K mg "_law_asked" ["_law_program"] s__law_asked) (hTM:mg "TooMany" = some (.ref cTM)) (eTM:PySem.W.exmOne K (.ref cTM) (.ref cTM) = some true) (C_looked:CalleeX P w K mg base 48 "looked" ["program"] (spLook K cTM)):Callee P w K mg base 49 "_law_asked" ["_law_program"] (spAsk K):=by
 refine F.ok sc__law_asked (fun vs H Q E h=>?_) (fun f cdv A outer s H vs Q E hr h=>?_)
 ·obtain ⟨pr,c,n,p,x1,vb,rfl,_⟩:=h; rfl
 obtain ⟨pr,c,n,p,x1,vb,rfl,hP,hpr,hc5,hcn,hq⟩:=h
 refine ⟨_,(pss_cons (ps_set (i:=1) sc__law_asked.nd rfl (Or.inl rfl) pe_bl)
  (pss_cons (ps_set (i:=2) sc__law_asked.nd rfl (Or.inl rfl) pe_non)
  (pss_cons (ps_try (pxs_set (i:=2) (px_call C_looked hr rfl (pa_cons (pv 0) pa_nil)) sc__law_asked.nd rfl (Or.inl rfl)) (ph_cons hTM rfl (fun u=>pss_one (ps_set (i:=1) sc__law_asked.nd rfl (Or.inl rfl) pe_bl)) ph_nil) rfl rfl)
  (pss_one (ps_ret (pe_tup (pa_cons (pv 1) (pa_cons (pv 2) pa_nil)))))))),?_⟩
 refine ⟨_,rfl,pr,c,n,p,x1,vb,rfl,hP,hpr,hc5,hcn,?_⟩
 generalize lookR p n c = L at hq ⊢
 cases hq with
 | lt sts hq=>exact .lt sts fun t sl svs H' g e1 e2 e3 e4=>⟨_,rfl,_,rfl,(by show 2≤sizeLine; decide),fun u hu=>hq u t sl svs _ H (g.trans (same_new hu _)) upd_same (same_new hu _ _ _ e1) (same_new hu _ _ _ e3) (Paired.mapP e4 fun _ _ z=>OF.kp (Same.kpS (same_new hu _)) z)⟩
 | many hq=>exact .many fun H' g=>⟨cTM,rfl,.inl ⟨eTM,⟨_,rfl,_,rfl,(by show 2≤sizeLine; decide),fun u hu=>hq u _ (g.trans (same_new hu _)) upd_same⟩⟩⟩
end
end My
end
section
set_option Elab.async false
set_option linter.all false
set_option maxRecDepth 100000
set_option maxHeartbeats 4000000
namespace L2
open PySem PySem.Spec PyProof.Rows
end L2
end
section
set_option Elab.async false
set_option linter.all false
set_option maxRecDepth 100000
set_option maxHeartbeats 4000000
namespace My
open PySem L2
open Pln (Np Env' upE idx pl okp nothN waitN exit0 weakN okS hgt envOf)
theorem tot_in:∀ (L:List (Int× List Bool)),NumL L→∀ x∈L,0≤x.1∧x.1 + x.2.length + 1≤tot L
 | [],_,x,h=>by cases h
 | y :: r,hn,x,h=>by
  have t0:=tot_nn r
  rw [tot]
  rcases List.mem_cons.mp h with z | z
  ·rw [z,hn.1]; exact ⟨t0,Int.le_refl _⟩
  ·have:=tot_in r hn.2 x z
   omega
def inR (f z:Int) (r:Int):Bool:=decide (f≤r) && decide (r < f + z)
theorem filt_none {f z:Int}:∀ {l:List Int},(∀ e∈l,inR f z e = false)→(l.filter (inR f z)).length = 0
 | [],_=>rfl
 | a :: l,h=>by
  rw [List.filter_cons,h a List.mem_cons_self]
  exact filt_none fun e he=>h e (List.mem_cons_of_mem _ he)
theorem one_each:∀ (L:List (Int× List Bool)) (js:List Nat),NumL L→LeL L js→∀ x∈L,((rstL L js).filter (inR x.1 ((x.2.length:Int) + 1))).length = 1
 | [],js,_,_,x,h=>by cases h
 | y :: r,[],_,hl,x,h=>hl.elim
 | y :: r,j :: js,hn,hl,x,h=>by
  have e1:=hn.1
  have hj:=hl.1
  show ((rstL r js ++ [y.1 + j]).filter _).length = 1
  rw [List.filter_append,List.length_append]
  rcases List.mem_cons.mp h with z | z
  ·subst z
   rw [filt_none (fun e he=>by
    have:=(rstL_lt r js hn.2 hl.2 e he).2
    unfold inR
    rw [decide_eq_false (by omega)]; rfl)]
   have:inR x.1 ((x.2.length:Int) + 1) (x.1 + j) = true:=by
    unfold inR
    rw [decide_eq_true (by omega),decide_eq_true (by omega)]; rfl
   rw [List.filter_cons,if_pos this]; rfl
  ·have hx:=tot_in r hn.2 x z
   rw [one_each r js hn.2 hl.2 x z]
   have:inR x.1 ((x.2.length:Int) + 1) (y.1 + j) = false:=by
    unfold inR
    rw [decide_eq_false (p:=y.1 + (j:Int) < _) (by omega),Bool.and_false]
   rw [List.filter_cons,if_neg (by rw [this]; exact Bool.false_ne_true)]; rfl
theorem rstL_len:∀ (L:List (Int× List Bool)) (js:List Nat),LeL L js→(rstL L js).length = L.length
 | [],js,_=>by simp [rstL]
 | x :: r,[],h=>h.elim
 | x :: r,j :: js,h=>by
  show (rstL r js ++ [x.1 + (j:Int)]).length = _
  rw [List.length_append,rstL_len r js h.2]; rfl
def fzs (ls:List (List Bool)):List (Int× Nat):=((numL ls).map fun x=>(x.1,x.2.length + 1)).reverse
def szs (ls:List (List Bool)):List Nat:=(ls.map fun l=>l.length + 1).reverse
theorem fzs_snd (ls:List (List Bool)):(fzs ls).map Prod.snd = szs ls:=by
 unfold fzs szs
 rw [List.map_reverse,List.map_map]
 congr 1
 induction ls with
 | nil=>rfl
 | cons l r ih=>show (l.length + 1) :: _ = (l.length + 1) :: _; rw [← ih]
theorem fzs_cons (l:List Bool) (r:List (List Bool)):fzs (l :: r) = fzs r ++ [(tot (numL r),l.length + 1)]:=by
 unfold fzs
 rw [numL,List.map_cons,List.reverse_cons]
theorem tot_szs:∀ ls:List (List Bool),tot (numL ls) = ((szs ls).foldl (fun (a:Int) (z:Nat)=>a + z) 0)
 | []=>rfl
 | l :: r=>by
  show tot (numL r) + (l.length:Int) + 1 = _
  unfold szs
  rw [List.map_cons,List.reverse_cons,List.foldl_append,tot_szs r]
  show _ = _ + ((l.length + 1:Nat):Int)
  unfold szs
  omega
theorem fzs_fst:∀ (ls:List (List Bool)) (i:Nat) (x:Int× Nat),(fzs ls)[i]? = some x→x.1 = ((szs ls).take i).foldl (fun (a:Int) (z:Nat)=>a + z) 0
 | [],i,x,h=>by simp [fzs,numL] at h
 | l :: r,i,x,h=>by
  have e:szs (l :: r) = szs r ++ [l.length + 1]:=by unfold szs; rw [List.map_cons,List.reverse_cons]
  have ll:(fzs r).length = (szs r).length:=by rw [← fzs_snd,List.length_map]
  rw [fzs_cons] at h
  rw [e]
  rcases Nat.lt_or_ge i (fzs r).length with c | c
  ·rw [List.getElem?_append_left c] at h
   rw [List.take_append_of_le_length (by omega)]
   exact fzs_fst r i x h
  ·rw [List.getElem?_append_right c] at h
   have i0:i - (fzs r).length = 0:=by
    cases hz:i - (fzs r).length with
    | zero=>rfl
    | succ k=>rw [hz] at h; simp at h
   rw [i0] at h
   cases h
   rw [show i = (szs r).length by omega,List.take_left,tot_szs]
theorem lcm_szs:∀ ls:List (List Bool),lcmL (numL ls) = (szs ls).foldl Nat.lcm 1
 | []=>rfl
 | l :: r=>by
  show Nat.lcm (lcmL (numL r)) (l.length + 1) = _
  have e:szs (l :: r) = szs r ++ [l.length + 1]:=by unfold szs; rw [List.map_cons,List.reverse_cons]
  rw [e,List.foldl_append,lcm_szs r]
  rfl
theorem st_ok {ls:List (List Bool)} {t:Nat}:(∀ x∈fzs ls,((sT (numL ls) t).filter (inR x.1 x.2)).length = 1)∧(sT (numL ls) t).length = (szs ls).length∧(sT (numL ls) t).Pairwise (· < ·)∧∀ e∈sT (numL ls) t,0≤e∧e < tot (numL ls):=by
 refine ⟨fun x hx=>?_,?_,rstL_rise _ _ (numL_ok ls) (atT_le _ t),rstL_lt _ _ (numL_ok ls) (atT_le _ t)⟩
 ·obtain ⟨y,hy,rfl⟩:=List.mem_map.mp (List.mem_reverse.mp hx)
  exact one_each _ _ (numL_ok ls) (atT_le _ t) y hy
 ·show (rstL _ _).length = _
  rw [rstL_len _ _ (atT_le _ t),numL_len]
  simp [szs]
theorem OL.mono {K:PySem.W.Frag} {H H':Hp} {o:Option (List Int)} {v:V} (g:Same H H') (h:OL K H o v):OL K H' o v:=by
 cases o with
 | none=>exact h
 | some ns=>obtain ⟨r,e,s⟩:=h; exact ⟨r,e,g.seq s⟩
def OLx (H:Hp):Option (List Int)→V→Prop
 | none,v=>v = .non
 | some ns,v=>∃ r,v = .ref r∧H r = some (.lst (ns.map V.int))
theorem OLx.ol {K:PySem.W.Frag} {H:Hp} {o:Option (List Int)} {v:V} (h:OLx H o v):OL K H o v:=by
 cases o with
 | none=>exact h
 | some ns=>obtain ⟨r,e,s⟩:=h; exact ⟨r,e,SqL.of s⟩
theorem paired_take {α β:Type} {F:α→β→Prop}:∀ {l:List α} {m:List β} (k:Nat),PySem.Paired F l m→PySem.Paired F (l.take k) (m.take k)
 | _,_,0,_=>.nil
 | _,_,k + 1,.nil=>.nil
 | _,_,k + 1,.cons f t=>.cons f (paired_take k t)
theorem nodup_take {α:Type}:∀ {l:List α} {k:Nat} {x:α},l.Nodup→l[k]? = some x→x∉l.take k
 | [],k,x,_,h=>by simp at h
 | a :: l,0,x,_,_=>by simp
 | a :: l,k + 1,x,hn,h=>by
  obtain ⟨h1,h2⟩:=List.nodup_cons.mp hn
  have h:l[k]? = some x:=h
  have hx:=List.mem_of_getElem? h
  rw [List.take_succ_cons]
  intro z
  rcases List.mem_cons.mp z with y | y
  ·exact h1 (y ▸ hx)
  ·exact nodup_take h2 h y
def natV (z:Nat):V:=.int z
def spStates (K:PySem.W.Frag):Sp:=fun vs H Q _=>∃ (sa za:Addr) (sts:List (Option (List Int))) (svs:List V) (ls:List (List Bool)),vs = [.ref sa,.ref za]∧H sa = some (.lst svs)∧PySem.Paired (OLx H) sts svs∧SqL K H za ((szs ls).map natV)∧ls.length≤4∧sts.Nodup∧(∀ x∈sts,x∈U1 (numL ls))∧sts[0]? = some none∧sts.length≤40∧∀ H',Same H H'→Q (.bl true) H'
section
variable {P:Program} {w:World} {K:PySem.W.Frag} {mg:Str→Option Value} {base:Heap}
set_option maxHeartbeats 64000000 in
theorem ok_states (F:FunM K mg "_law_states" ["_law_states_here", "_law_sizes"] s__law_states) (T:Txt mg):Callee P w K mg base 1 "_law_states" ["_law_states_here", "_law_sizes"] (spStates K):=by
 refine F.ok sc__law_states (fun vs H Q E h=>?_) (fun f cdv A outer s H vs Q E hr h=>?_)
 ·obtain ⟨sa,za,sts,svs,ls,rfl,_⟩:=h; rfl
 obtain ⟨sa,za,sts,svs,ls,rfl,hsa,hp,hza,h4,hnd,hU,h0,h40,q⟩:=h
 refine ⟨_,(pss_cons (ps_if (PW.pt (pw_or (pt_not (pt_val (pe_callB call_isinstK rfl T.n_isinstance PyProof.Rows.boot_isinstance (pa_cons (pv 0) (pa_cons (pe_bltn rfl T.n_list (by decide +kernel) (v:=.ty "list") rfl) pa_nil))))) (pw_or (pt_cmpR op_eq (pe_callB call_lenK rfl T.n_len PySem.boot_len (pa_cons (pv 0) pa_nil)) pe_int (nomark _)) (pw_or1 (pt_cmpR op_notN (pe_ix ix_list (pv 0) pe_int (fun _ _=>rfl)) pe_non (nomark _))))))
   (pss_one (ps_ret pe_bl))
   pss_nil)
  (pss_cons (ps_set (i:=2) sc__law_states.nd rfl (Or.inl rfl) (pe_lst pa_nil))
  (pss_cons (ps_set (i:=3) sc__law_states.nd rfl (Or.inl rfl) pe_int)
  (pss_cons (ps_for PassesOwn.never rfl (pi_list (pv 1)) (pg_name (i:=4) sc__law_states.nd rfl (Or.inr rfl))
   (pss_cons (ps_expr (pe_bm PySem.F.plainAttrs_list PySem.F.slot_list_append PySem.F.type_list_append mt_append (pv 2) (pa_cons (pv 3) pa_nil)))
  (pss_one (ps_set (i:=3) sc__law_states.nd rfl (Or.inl rfl) (pe_op op_add (pv 3) (pv 4))))))
  (pss_cons (ps_for PassesOwn.never rfl (pi_range2 rfl T.n_range (pa_cons pe_int (pa_cons (pe_callB call_lenK rfl T.n_len PySem.boot_len (pa_cons (pv 0) pa_nil)) pa_nil))) (pg_name (i:=5) sc__law_states.nd rfl (Or.inl rfl))
   (pss_cons (ps_set (i:=6) sc__law_states.nd rfl (Or.inl rfl) (pe_ix ix_list (pv 0) (pv 5) (fun _ _=>rfl)))
  (pss_cons (ps_if (PW.pt (pw_or (pt_not (pt_val (pe_callB call_isinstK rfl T.n_isinstance PyProof.Rows.boot_isinstance (pa_cons (pv 6) (pa_cons (pe_bltn rfl T.n_list (by decide +kernel) (v:=.ty "list") rfl) pa_nil))))) (pw_or1 (pt_cmpR (op_inO hr.units) (pv 6) (pe_slice sl_list (pv 0) po_none (po_some (pv 5))) (by rfl)))))
   (pss_one (ps_ret pe_bl))
   pss_nil)
  (pss_cons (ps_for PassesOwn.never rfl (pi_zip rfl T.n_zip (pa_cons (pv 2) (pa_cons (pv 1) pa_nil))) (pg_tup rfl (pgs_cons (pg_name (i:=7) sc__law_states.nd rfl (Or.inr rfl)) (pgs_cons (pg_name (i:=4) sc__law_states.nd rfl (Or.inr rfl)) pgs_nil)))
   (pss_one (ps_if (pt_cmpR op_ne (pe_callB call_lenK rfl T.n_len PySem.boot_len (pa_cons (pe_comp (g:=(gName 0)) (tc:=(tTest (tChain (rI0 fun i j=>.bl (decide (i≤j))) (rI0 fun i j=>.bl (decide (i < j))) (tVar 1) (tVar 0) (tOp (rI0 fun i j=>.int (i + j)) (tVar 1) (tVar 2))))) (te:=(tVar 0)) ["_law_rest"] [("_law_first", 7),("_law_size", 4)] rfl (compOk (defScope s__law_states) ["_law_states_here", "_law_sizes", "_law_firsts", "_law_count", "_law_size", "_law_k", "_law_state", "_law_first"] (by decide +kernel)) (pi_list (pv 6)) (fun s2 H2 fp cl C=>pg_name (i:=0) (show List.Nodup [("_law_rest" : Str),("_law_first" : Str),("_law_size" : Str)] from by decide +kernel) rfl (Or.inl rfl)) (gkeep_name (by decide)) (fun s2 H2 fp cl C=>pif_one (pt_chain op_le op_lt (pv 1) (pv 0) (pe_op op_add (pv 1) (pv 2)))) (fun s2 H2 fp cl C=>(pv 0))) pa_nil)) pe_int (nomark _))
   (pss_one (ps_ret pe_bl))
   pss_nil)))
  (pss_one (ps_if (PW.pt (pw_or (pt_cmpR op_ne (pe_callB call_lenK rfl T.n_len PySem.boot_len (pa_cons (pv 6) pa_nil)) (pe_callB call_lenK rfl T.n_len PySem.boot_len (pa_cons (pv 1) pa_nil)) (nomark _)) (pw_or1 (pt_cmpR (op_neI hr.units0) (pv 6) (pe_callB call_sorted rfl T.n_sorted (by decide +kernel) (pa_cons (pv 6) pa_nil)) (nomark _)))))
   (pss_one (ps_ret pe_bl))
   pss_nil))))))
  (pss_one (ps_ret pe_bl))))))),?_⟩
 have lsv:=PySem.Paired.length hp
 have l0:0 < sts.length:=(List.getElem?_eq_some_iff.mp h0).1
 obtain ⟨v0,ev0,hv0⟩:=paired_getG hp h0
 cases (show v0 = .non from hv0)
 have lz:(szs ls).length = ls.length:=by simp [szs]
 have lf:(fzs ls).length = ls.length:=by simp [fzs,numL_len]
 refine ⟨_,rfl,_,_,_,_,rfl,.inl (.lst hsa),rfl,_,rfl,iteF ?_⟩
 refine ⟨_,rfl,sa,_,rfl,.inl (SqL.of hsa),rfl,_,rfl,?_⟩
 rw [decide_eq_false (fun z=>by have:=V.int.inj z; omega)]
 refine iteF ?_
 refine ⟨_,rfl,sa,_,_,.non,rfl,rfl,SqL.of hsa,atI_nat (j:=0) ev0,rfl,_,rfl,iteF ?_⟩
 refine ⟨(by show 0≤sizeLine; decide),fun fa hfa=>?_⟩
 have kf:=same_new hfa (.lst [])
 refine ⟨_,rfl,za,rfl,⟨_,kf.seq hza⟩,for_list (K:=K) (a:=za) (xs:=(szs ls).map natV) (fun i σ H'=>∃ x4:Option V,σ = [some (.ref sa),some (.ref za),some (.ref fa),some (.int (((szs ls).take i).foldl (fun (a:Int) (z:Nat)=>a + z) 0)),x4,none,none,none]∧Same H H'∧H' fa = some (.lst (((fzs ls).take i).map fun x=>V.int x.1))) ⟨none,rfl,kf,upd_same⟩ (fun i σ H' _ ⟨_,_,g,_⟩=>g.seq hza) ?_ ?_⟩
 ·rintro i y σ H1 hi ⟨x4,rfl,g1,ef⟩
  have hil:i < (szs ls).length:=by have:=(List.getElem?_eq_some_iff.mp hi).1; rw [List.length_map] at this; exact this
  have ey:y = .int ((szs ls)[i]:Nat):=by
   rw [List.getElem?_map,List.getElem?_eq_getElem hil] at hi
   exact (Option.some.inj hi).symm
  subst ey
  have hfl:i < (fzs ls).length:=by omega
  have e1:=fzs_fst ls i _ (List.getElem?_eq_getElem hfl)
  refine ⟨_,rfl,.inl ⟨rfl,_,SqL.of ef⟩,_,rfl,fa,_,_,rfl,rfl,ef,small1000 (by rw [List.length_map,List.length_take]; omega),?_⟩
  refine ⟨_,rfl,_,rfl,_,_,rfl,rfl,some (.int ((szs ls)[i]:Nat)),?_,g1.young hfa _,?_⟩
  ·have e2:((szs ls).take (i + 1)).foldl (fun (a:Int) (z:Nat)=>a + z) 0 = ((szs ls).take i).foldl (fun (a:Int) (z:Nat)=>a + z) 0 + ((szs ls)[i]:Nat):=by
    rw [List.take_add_one,List.getElem?_eq_getElem hil,List.foldl_append]; rfl
   rw [e2]
   rfl
  ·rw [upd_same,List.take_add_one,List.getElem?_eq_getElem hfl,List.map_append,← e1]; rfl
 ·rintro σ H1 ⟨x4,rfl,g1,ef⟩
  rw [List.length_map,lz,← lf,List.take_length] at ef
  generalize ((szs ls).take (List.map natV (szs ls)).length).foldl (fun (a:Int) (z:Nat)=>a + z) 0 = cnt
  have hsa1:=g1 _ _ hsa
  refine ⟨_,rfl,sa,_,rfl,.inl (SqL.of hsa1),1,(svs.length:Nat),rfl,⟨by decide,by decide,by omega,by omega⟩,?_⟩
  dsimp only
  rw [show ((svs.length:Nat):Int) - 1 = ((svs.length - 1:Nat):Int) by omega,Int.toNat_natCast]
  refine for_range (lo:=1) (n:=svs.length - 1) (D:={ nx:=tRet (tC (.bl true)) { nx:=fun x H'=>Q V.non H',rt:=Q },rt:=Q }) (fun i σ H'=>∃ y4 y5 y6 y7:Option V,σ = [some (.ref sa),some (.ref za),some (.ref fa),some (.int cnt),y4,y5,y6,y7]∧Same H1 H') ⟨_,_,_,_,rfl,Same.refl _⟩ ?_ ?_
  ·rintro i σ H2 hi ⟨y4,y5,y6,y7,rfl,g2⟩
   have g02:=g1.trans g2
   have hsa2:=g2 _ _ hsa1
   have ef2:=g2 _ _ ef
   have hza2:=g02.seq hza
   rw [show (1:Int) + (i:Int) = ((1 + i:Nat):Int) by omega]
   have hk:1 + i < sts.length:=by omega
   have est:=List.getElem?_eq_getElem hk
   have hm:sts[1 + i]∈sts:=List.getElem_mem hk
   obtain ⟨v,ev,hv⟩:=paired_getG hp est
   obtain ⟨t,hst⟩:∃ t,sts[1 + i] = some (sT (numL ls) t):=by
    rcases List.mem_cons.mp (hU _ hm) with z | z
    ·refine absurd ?_ (nodup_take hnd est)
     rw [z]
     exact List.mem_of_getElem? (i:=0) (by rw [List.getElem?_take,if_pos (by omega)]; exact h0)
    ·obtain ⟨t,_,e⟩:=List.mem_map.mp z
     exact ⟨t,e.symm⟩
   rw [hst] at hv
   obtain ⟨ra,rfl,era⟩:=hv
   obtain ⟨k1,k2,k3,k4⟩:=st_ok (ls:=ls) (t:=t)
   generalize hns:sT (numL ls) t = ns at hst era k1 k2 k3 k4
   have era2:=g02 _ _ era
   refine ⟨_,rfl,_,rfl,sa,_,_,.ref ra,rfl,rfl,SqL.of hsa2,atI_nat ev,?_⟩
   refine ⟨_,rfl,_,_,_,_,rfl,.inl (.lst era2),rfl,_,rfl,iteF ?_⟩
   refine ⟨_,rfl,_,rfl,_,rfl,_,rfl,sa,_,rfl,SqL.of hsa2,fun cu hcu=>?_⟩
   have ecu:(upd H2 cu (.lst (cutV svs none (some ((1 + i:Nat):Int))))) cu = some (.lst (svs.take (1 + i))):=by rw [upd_same,cut_to]
   have kc:=same_new hcu (.lst (cutV svs none (some ((1 + i:Nat):Int))))
   have g03:=g02.trans kc
   have g13:=g2.trans kc
   generalize (upd H2 cu (.lst (cutV svs none (some ((1 + i:Nat):Int))))) = H3 at ecu kc g03 g13 ⊢
   have era3:=g03 _ _ era
   refine ⟨cu,some ns,sts.take (1 + i),_,rfl,SqL.of ecu,⟨ra,rfl,SqL.of era3⟩,Paired.mapP (paired_take (1 + i) hp) (fun _ _ z=>OL.mono g03 (OLx.ol z)),_,rfl,?_⟩
   dsimp only
   rw [if_neg Bool.false_ne_true,decide_eq_false (by rw [← hst]; exact nodup_take hnd est)]
   refine iteF ?_
   have hlz:(((fzs ls).map fun x=>V.int x.1)).length = ((szs ls).map natV).length:=by rw [List.length_map,List.length_map,lf,lz]
   refine ⟨_,rfl,_,rfl,fa,za,rfl,⟨_,SqL.of (g13 _ _ ef)⟩,⟨_,g03.seq hza⟩,for_zip (K:=K) (l1:=fa) (l2:=za) (xs:=(fzs ls).map fun x=>V.int x.1) (ys:=(szs ls).map natV) hlz (fun j σ H'=>∃ w4 w7:Option V,σ = [some (.ref sa),some (.ref za),some (.ref fa),some (.int cnt),w4,some (.int ((1 + i:Nat):Int)),some (.ref ra),w7]∧Same H3 H') ⟨_,_,rfl,Same.refl _⟩ (fun j σ H' _ ⟨_,_,_,g⟩=>⟨SqL.of (g _ _ (g13 _ _ ef)),g.seq (g03.seq hza)⟩) ?_ ?_⟩
   ·rintro j x y Tz σ H4 hx hy ⟨w4,w7,rfl,g4⟩ hT
    have hjl:j < (fzs ls).length:=by have:=(List.getElem?_eq_some_iff.mp hx).1; rw [List.length_map] at this; exact this
    have hjz:j < (szs ls).length:=by omega
    have ex:x = .int (fzs ls)[j].1:=by
     rw [List.getElem?_map,List.getElem?_eq_getElem hjl] at hx
     exact (Option.some.inj hx).symm
    have ey:y = .int ((fzs ls)[j].2:Nat):=by
     rw [← fzs_snd,List.map_map,List.getElem?_map,List.getElem?_eq_getElem hjl] at hy
     exact (Option.some.inj hy).symm
    subst ex ey
    have c1:=k1 _ (List.getElem_mem hjl)
    generalize (fzs ls)[j] = fz at c1 hT
    have kT:=same_new hT (.tup [.int fz.1,.int (fz.2:Nat)])
    have g34:=g4.trans kT
    refine ⟨Tz,_,rfl,SqT.of upd_same,rfl,_,_,rfl,_,_,rfl,rfl,?_⟩
    generalize (upd H4 Tz (.tup [.int fz.1,.int (fz.2:Nat)])) = H5 at g34 ⊢
    have era5:=g34 _ _ era3
    have nsl:ns.length≤4:=by rw [k2,lz]; exact h4
    refine ⟨_,rfl,ra,rfl,⟨_,SqL.of era5⟩,comp_list (K:=K) (a:=ra) (xs:=ns.map V.int) (fun k ys H'=>H' = H5∧ys = ((ns.take k).filter (inR fz.1 fz.2)).map V.int) ⟨rfl,rfl⟩ (by rw [List.length_map]; exact small (by omega)) (fun k ys H' ⟨e,_⟩=>by rw [e]; exact SqL.of era5) ?_ ?_⟩
    ·rintro k z ys H6 N hz ⟨rfl,rfl⟩ hN hyl
     obtain ⟨r,er,rfl⟩:=ints_at' hz
     have et:(ns.take (k + 1)).filter (inR fz.1 fz.2) = (ns.take k).filter (inR fz.1 fz.2) ++ (if inR fz.1 fz.2 r = true then [r] else []):=by
      rw [List.take_add_one,er,List.filter_append]
      show _ ++ List.filter _ [r] = _
      rw [List.filter_cons,List.filter_nil]
     refine ⟨_,rfl,_,rfl,_,_,rfl,rfl,_,rfl,?_⟩
     by_cases c:fz.1≤r
     ·rw [decide_eq_true c,if_pos rfl]
      refine ⟨_,rfl,_,rfl,_,_,rfl,rfl,_,_,rfl,rfl,_,rfl,ite2 (fun c2=>?_) fun c2=>?_⟩
      ·have c2:r < fz.1 + (fz.2:Nat):=of_decide_eq_true c2
       refine ⟨_,rfl,hN _ _ (by rw [List.length_append,List.length_singleton]; omega) ⟨rfl,?_⟩⟩
       rw [et,if_pos (by unfold inR; rw [decide_eq_true c,decide_eq_true c2]; rfl),List.map_append]; rfl
      ·have c2:¬ r < fz.1 + (fz.2:Nat):=fun z=>c2 (decide_eq_true z)
       refine hN _ _ (by omega) ⟨rfl,?_⟩
       rw [et,if_neg (by unfold inR; rw [decide_eq_false (p:=r < _) c2,Bool.and_false]; exact Bool.false_ne_true),List.append_nil]
     ·rw [decide_eq_false c,if_neg Bool.false_ne_true]
      refine ⟨_,rfl,iteF (hN _ _ (by omega) ⟨rfl,?_⟩)⟩
      rw [et,if_neg (by unfold inR; rw [decide_eq_false (p:=fz.1≤r) c]; exact Bool.false_ne_true),List.append_nil]
    ·rintro ys H6 hyl ⟨rfl,rfl⟩ D hD
     rw [List.length_map,List.take_length]
     have kD:=same_new hD (.lst ((ns.filter (inR fz.1 fz.2)).map V.int))
     refine ⟨D,_,rfl,.inl (SqL.of upd_same),rfl,_,rfl,?_⟩
     rw [List.length_map,c1]
     exact iteF ⟨_,_,rfl,g34.trans kD⟩
   ·rintro σ H4 ⟨w4,w7,rfl,g4⟩
    have era4:=g4 _ _ era3
    have hza4:=g4.seq (g03.seq hza)
    refine ⟨_,rfl,ra,_,rfl,.inl (SqL.of era4),_,rfl,za,_,rfl,.inl hza4,rfl,_,rfl,?_⟩
    rw [List.length_map,List.length_map,k2,decide_eq_true rfl]
    refine iteF ⟨_,rfl,_,rfl,ra,ns,rfl,SqL.of era4,by rw [k2,lz]; omega,fun r ms hr pm sm=>?_⟩
    have kr:=same_new hr (.lst (ms.map V.int))
    have ems:ms = ns:=sorted_one pm sm (k3.imp fun z=>Int.le_of_lt z)
    refine ⟨ra,r,ns,ms,rfl,rfl,SqL.of (kr _ _ era4),SqL.of upd_same,_,rfl,?_⟩
    rw [if_pos rfl,decide_eq_true ems.symm]
    exact iteF ⟨_,_,_,_,rfl,g13.trans (g4.trans kr)⟩
  ·rintro σ H2 ⟨y4,y5,y6,y7,rfl,g2⟩
   exact q _ (g1.trans g2)
end
def sz7 (n:Int):Nat:=(1 + n % 7).toNat
theorem sz7_ok (n:Int):((sz7 n:Nat):Int) = 1 + n % 7∧1≤sz7 n∧sz7 n≤7:=by
 have h1:0≤n % 7:=Int.emod_nonneg _ (by decide)
 have h2:n % 7 < 7:=Int.emod_lt_of_pos _ (by decide)
 unfold sz7
 omega
theorem szs_cons (l:List Bool) (ls:List (List Bool)):szs (l :: ls) = szs ls ++ [l.length + 1]:=by
 unfold szs
 rw [List.map_cons,List.reverse_cons]
theorem OF.olx {H0:Hp} {S:List Addr} {H:Hp} {f:Option (List Int)} {v:V} (h:OF H0 S H f v):OLx H f v:=by
 cases f with
 | none=>exact h
 | some ns=>obtain ⟨r,e,_,_,e2⟩:=h; exact ⟨r,e,e2⟩
section
variable {P:Program} {w:World} {K:PySem.W.Frag} {mg:Str→Option Value} {base:Heap}
set_option maxHeartbeats 64000000 in
theorem ok_law {f:Addr} {fd:FuncData} (F:Fun K "law" "law" s_law f fd) (T:Txt mg) (C__law_mixed:Callee P w K mg base 1 "_law_mixed" ["_law_cell"] spMixed) (C__law_loop:Callee P w K mg base 1 "_law_loop" ["_law_number", "_law_rests"] (spLoop K)) (C__law_together:Callee P w K mg base 2 "_law_together" ["_law_sizes"] (spTog K)) (C_plain:Callee P w K mg base 101 "plain" ["named"] (Pln.spPlain K))
  (C__law_asked:Callee P w K mg base 49 "_law_asked" ["_law_program"] (spAsk K)) (C__law_states:Callee P w K mg base 1 "_law_states" ["_law_states_here", "_law_sizes"] (spStates K)):FnOk P w K mg base CX0 110 f fd ["_law_script"] (spLaw K):=by
 refine F.ok sc_law (fun vs H Q E h=>?_) (fun cdv A outer s H vs Q E hr h=>?_)
 ·obtain ⟨a,ns,rfl,_⟩:=h; rfl
 obtain ⟨a,ns,rfl,hS,hn,q⟩:=h
 refine ⟨_,(pss_cons (ps_set (i:=1) sc_law.nd rfl (Or.inl rfl) (pe_op op_cat (pe_comp (g:=(gName 0)) (tc:=tAlways) (te:=(tCall spMixed [] E0 (tCons (tVar 0) tNil))) ["_law_cell"] [] rfl (compOk (defScope s_law) ["_law_script", "_law_numbers", "_law_sizes", "_law_block", "_law_k", "_law_many", "_law_more", "_law_found"] (by decide +kernel)) (pi_list (pe_slice sl_list (pv 0) po_none (po_some pe_int))) (fun s2 H2 fp cl C=>pg_name (i:=0) (show List.Nodup [("_law_cell" : Str)] from by decide +kernel) rfl (Or.inl rfl)) (gkeep_name (by decide)) (fun s2 H2 fp cl C=>pif_nil) (fun s2 H2 fp cl C=>(pe_callC C__law_mixed hr rfl pass0 (pa_cons (pv 0) pa_nil)))) (pe_lst (pa_cons (pe_callC C__law_mixed hr rfl pass0 (pa_cons (pe_callB call_lenK rfl T.n_len PySem.boot_len (pa_cons (pv 0) pa_nil)) pa_nil)) pa_nil))))
  (pss_cons (ps_setComp (j:=2) (g:=(gName 0)) (tc:=tAlways) (te:=(tOp (rI0 fun i j=>.int (i + j)) (tC (.int 1)) (tOp (rI (fun _ j=>0 < j) fun i j=>.int (i % j)) (tVar 0) (tC (.int 7))))) ["_law_number"] [] sc_law.nd rfl (Or.inl rfl) rfl (compOk (defScope s_law) ["_law_script", "_law_numbers", "_law_sizes", "_law_block", "_law_k", "_law_many", "_law_more", "_law_found"] (by decide +kernel)) (pi_list (pe_slice sl_list (pv 1) po_none (po_some pe_int))) (fun s2 H2 fp cl C=>pg_name (i:=0) (show List.Nodup [("_law_number" : Str)] from by decide +kernel) rfl (Or.inl rfl)) (gkeep_name (by decide)) (fun s2 H2 fp cl C=>pif_nil) (fun s2 H2 fp cl C=>(pe_op op_add pe_int (pe_op op_mod (pv 0) pe_int))))
  (pss_cons (ps_set (i:=3) sc_law.nd rfl (Or.inl rfl) (pe_callC C__law_loop hr rfl pass0 (pa_cons (pe_ix ix_list (pv 1) pe_int (fun _ _=>rfl)) (pa_cons (pe_op op_sub (pe_ix ix_list (pv 2) pe_int (fun _ _=>rfl)) pe_int) pa_nil))))
  (pss_cons (ps_for PassesOwn.never rfl (pi_range2 rfl T.n_range (pa_cons pe_int (pa_cons (pe_callB call_lenK rfl T.n_len PySem.boot_len (pa_cons (pv 2) pa_nil)) pa_nil))) (pg_name (i:=4) sc_law.nd rfl (Or.inl rfl))
   (pss_one (ps_set (i:=3) sc_law.nd rfl (Or.inl rfl) (pe_tup (pa_cons pe_str (pa_cons (pv 3) (pa_cons (pe_callC C__law_loop hr rfl pass0 (pa_cons (pe_ix ix_list (pv 1) (pv 4) (fun _ _=>rfl)) (pa_cons (pe_op op_sub (pe_ix ix_list (pv 2) (pv 4) (fun _ _=>rfl)) pe_int) pa_nil))) pa_nil)))))))
  (pss_cons (ps_set (i:=5) sc_law.nd rfl (Or.inl rfl) (pe_op op_add pe_int (pe_callC C__law_together hr rfl pass0 (pa_cons (pv 2) pa_nil))))
  (pss_cons (ps_asg (pe_callC C__law_asked hr rfl pass0 (pa_cons (pe_callC C_plain hr rfl pass0 (pa_cons (pe_tup (pa_cons (pe_lst pa_nil) (pa_cons (pe_lst (pa_cons pe_str pa_nil)) (pa_cons (pv 3) pa_nil)))) pa_nil)) pa_nil)) (pg_tup rfl (pgs_cons (pg_name (i:=6) sc_law.nd rfl (Or.inl rfl)) (pgs_cons (pg_name (i:=7) sc_law.nd rfl (Or.inl rfl)) pgs_nil))))
  (pss_cons (ps_if (pt_cmpR op_gt (pv 5) pe_int (nomark _))
   (pss_one (ps_ret (pv 6)))
   pss_nil)
  (pss_cons (ps_if (PW.pt (pw_or (pt_val (pv 6)) (pw_or (pt_not (pt_val (pe_callB call_isinstK rfl T.n_isinstance PyProof.Rows.boot_isinstance (pa_cons (pv 7) (pa_cons (pe_bltn rfl T.n_tuple (by decide +kernel) (v:=.ty "tuple") rfl) pa_nil))))) (pw_or (pt_cmpR op_ne (pe_callB call_lenK rfl T.n_len PySem.boot_len (pa_cons (pv 7) pa_nil)) pe_int (nomark _)) (pw_or1 (pt_cmpR op_ne (pe_ix ix_tup (pv 7) pe_int (fun _ _=>rfl)) pe_str (nomark _)))))))
   (pss_one (ps_ret pe_bl))
   pss_nil)
  (pss_cons (ps_if (PW.pt (pw_or (pt_not (pt_val (pe_callC C__law_states hr rfl pass0 (pa_cons (pe_ix ix_tup (pv 7) pe_int (fun _ _=>rfl)) (pa_cons (pv 2) pa_nil))))) (pw_or1 (pt_cmpR op_ne (pe_callB call_lenK rfl T.n_len PySem.boot_len (pa_cons (pe_ix ix_tup (pv 7) pe_int (fun _ _=>rfl)) pa_nil)) (pv 5) (nomark _)))))
   (pss_one (ps_ret pe_bl))
   pss_nil)
  (pss_cons (ps_if (pt_cmpR op_gt (pe_op op_mod (pe_op op_fdiv (pe_ix ix_list (pv 1) pe_int (fun _ _=>rfl)) pe_int) pe_int) pe_int (nomark _))
   (pss_one (ps_ret pe_bl))
   pss_nil)
  (pss_cons (ps_asg (pe_callC C__law_asked hr rfl pass0 (pa_cons (pe_callC C_plain hr rfl pass0 (pa_cons (pe_tup (pa_cons (pe_lst (pa_cons pe_str pa_nil)) (pa_cons (pe_lst (pa_cons pe_str pa_nil)) (pa_cons (pe_tup (pa_cons pe_str (pa_cons (pv 3) (pa_cons (pe_tup (pa_cons pe_str (pa_cons pe_str pa_nil))) pa_nil)))) pa_nil)))) pa_nil)) pa_nil)) (pg_tup rfl (pgs_cons (pg_name (i:=6) sc_law.nd rfl (Or.inl rfl)) (pgs_cons (pg_name (i:=7) sc_law.nd rfl (Or.inl rfl)) pgs_nil))))
  (pss_cons (ps_if (pt_val (pv 6))
   (pss_one (ps_ret (pe_cmpR op_gt (pe_op op_mul pe_int (pv 5)) pe_int (nomark _))))
   pss_nil)
  (pss_one (ps_ret (pe_and (pe_cmpR op_eq (pe_ix ix_tup (pv 7) pe_int (fun _ _=>rfl)) pe_str (nomark _)) (pe_one (pe_chain op_le op_le (pv 5) (pe_callB call_lenK rfl T.n_len PySem.boot_len (pa_cons (pe_ix ix_tup (pv 7) pe_int (fun _ _=>rfl)) pa_nil)) (pe_op op_mul pe_int (pv 5))))))))))))))))))),?_⟩
 refine ⟨_,rfl,_,rfl,a,_,rfl,hS,fun cb hcb=>?_⟩
 obtain ⟨ms,ems,lms⟩:∃ ms:List Int,cutV (ns.map V.int) none (some 4) = ms.map V.int∧ms.length≤4:=⟨ns.take 4,by rw [show ((4:Int)) = ((4:Nat):Int) from rfl,cut_to,List.map_take],by rw [List.length_take]; omega⟩
 have g1:=same_new hcb (.lst (cutV (ns.map V.int) none (some 4)))
 have ecb:(upd H cb (.lst (cutV (ns.map V.int) none (some 4)))) cb = some (.lst (ms.map V.int)):=by rw [upd_same,ems]
 generalize (upd H cb (.lst (cutV (ns.map V.int) none (some 4)))) = H1 at g1 ecb ⊢
 refine ⟨cb,rfl,⟨_,SqL.of ecb⟩,comp_list (K:=K) (a:=cb) (xs:=ms.map V.int) (fun j ys H'=>H' = H1∧∃ us:List Int,ys = us.map V.int∧us.length = j) ⟨rfl,[],rfl,rfl⟩ (by rw [List.length_map]; exact small (by omega)) (fun j ys H' ⟨e,_⟩=>by rw [e]; exact SqL.of ecb) ?_ ?_⟩
 ·rintro j y ys H' N hj ⟨rfl,us,rfl,lu⟩ hN hyl
  obtain ⟨z,_,rfl⟩:=ints_at' hj
  refine ⟨_,rfl,z,rfl,fun m hm=>hN _ _ (by rw [List.length_append,List.length_singleton]; omega) ⟨rfl,us ++ [m],by rw [List.map_append]; rfl,by rw [List.length_append,List.length_singleton,lu]⟩⟩
 rintro ys H' hyl ⟨rfl,us,rfl,lu⟩ D hD
 rw [List.length_map] at lu
 have g2:=g1.trans (same_new hD (.lst (us.map V.int)))
 have eD:=upd_same (H:=H') (a:=D) (o:=.lst (us.map V.int))
 generalize (upd H' D (.lst (us.map V.int))) = H2 at g2 eD ⊢
 refine ⟨_,rfl,a,_,rfl,.inl (g2.seq hS),_,rfl,fun m0 hm0=>⟨(by show 1≤sizeLine; decide),fun e0 he0=>?_⟩⟩
 have k3:=same_new he0 (.lst [.int m0])
 refine ⟨D,e0,_,_,rfl,rfl,k3 _ _ eD,upd_same,small (by rw [List.length_map]; show us.length + 1≤1000; omega),fun nA hnA=>?_⟩
 have g3:=g2.trans (k3.trans (same_new hnA (.lst (us.map V.int ++ [.int m0]))))
 obtain ⟨N,eN,lN1,lN5⟩:∃ N:List Int,us.map V.int ++ [V.int m0] = N.map V.int∧1≤N.length∧N.length≤5:=⟨us ++ [m0],by rw [List.map_append]; rfl,by simp,by simp; omega⟩
 have enA:(upd (upd H2 e0 (.lst [.int m0])) nA (.lst (us.map V.int ++ [.int m0]))) nA = some (.lst (N.map V.int)):=by rw [upd_same,eN]
 generalize (upd (upd H2 e0 (.lst [.int m0])) nA (.lst (us.map V.int ++ [.int m0]))) = H3 at g3 enA ⊢
 refine ⟨_,rfl,_,rfl,nA,_,rfl,SqL.of enA,fun cc hcc=>?_⟩
 have k4:=same_new hcc (.lst (cutV (N.map V.int) none (some 4)))
 have ecc:(upd H3 cc (.lst (cutV (N.map V.int) none (some 4)))) cc = some (.lst ((N.take 4).map V.int)):=by rw [upd_same,show ((4:Int)) = ((4:Nat):Int) from rfl,cut_to,List.map_take]
 have enA4:=k4 _ _ enA
 have g4:=g3.trans k4
 generalize (upd H3 cc (.lst (cutV (N.map V.int) none (some 4)))) = H4 at k4 ecc enA4 g4 ⊢
 generalize hN4:N.take 4 = N4 at ecc
 have l4:N4.length≤4∧1≤N4.length:=by rw [← hN4,List.length_take]; omega
 refine ⟨cc,rfl,⟨_,SqL.of ecc⟩,comp_list (K:=K) (a:=cc) (xs:=N4.map V.int) (fun j ys H'=>H' = H4∧ys = ((N4.take j).map sz7).map natV) ⟨rfl,rfl⟩ (by rw [List.length_map]; exact small (by omega)) (fun j ys H' ⟨e,_⟩=>by rw [e]; exact SqL.of ecc) ?_ ?_⟩
 ·rintro j y ys H' N' hj ⟨rfl,rfl⟩ hN hyl
  obtain ⟨z,hz,rfl⟩:=ints_at' hj
  refine ⟨_,rfl,_,_,rfl,rfl,(by show (0:Int) < 7; decide),_,_,rfl,rfl,hN _ _ (by rw [List.length_append,List.length_singleton]; omega) ⟨rfl,?_⟩⟩
  rw [List.take_add_one,hz,List.map_append,List.map_append]
  show _ ++ [V.int (1 + z % 7)] = _ ++ [V.int ((sz7 z:Nat):Int)]
  rw [(sz7_ok z).1]
 rintro ys H' hyl ⟨rfl,rfl⟩ zA hzA
 rw [List.length_map,List.take_length]
 have k5:=same_new hzA (.lst ((N4.map sz7).map natV))
 have g5:=g4.trans k5
 have ezA:=upd_same (H:=H') (a:=zA) (o:=.lst ((N4.map sz7).map natV))
 have enA5:=k5 _ _ enA4
 show tSeq _ _ _ _ (upd H' zA (.lst ((N4.map sz7).map natV)))
 generalize (upd H' zA (.lst ((N4.map sz7).map natV))) = H5 at k5 g5 ezA enA5 ⊢
 obtain ⟨zs,hzs⟩:∃ zs,zs = N4.map sz7:=⟨_,rfl⟩
 rw [← hzs] at ezA
 have lz:zs.length = N4.length:=by rw [hzs,List.length_map]
 have hz17:∀ z∈zs,1≤z∧z≤7:=fun z hz=>by
  rw [hzs] at hz
  obtain ⟨n,_,rfl⟩:=List.mem_map.mp hz
  exact (sz7_ok n).2
 have atz:∀ k:Nat,k < zs.length→atI (zs.map natV) (k:Int) = some (.int ((zs.getD k 0:Nat):Int))∧(1≤zs.getD k 0∧zs.getD k 0≤7):=fun k hk=>by
  rw [List.getD_eq_getElem?_getD,List.getElem?_eq_getElem hk]
  exact ⟨atI_nat (by rw [List.getElem?_map,List.getElem?_eq_getElem hk]; rfl),hz17 _ (List.getElem_mem hk)⟩
 have atn:∀ k:Nat,k < zs.length→∃ x:Int,atI (N.map V.int) (k:Int) = some (.int x):=fun k hk=>by
  have hk2:k < N.length:=by rw [lz,← hN4,List.length_take] at hk; omega
  exact ⟨N[k],atI_nat (by rw [List.getElem?_map,List.getElem?_eq_getElem hk2]; rfl)⟩
 have hz1:1≤zs.length:=by omega
 have hz4:zs.length≤4:=by omega
 clear hcb ecb ecc hyl
 obtain ⟨n0,en0⟩:=atn 0 (by omega)
 obtain ⟨ez0,b01,b07⟩:=atz 0 (by omega)
 refine ⟨_,rfl,nA,_,_,.int n0,rfl,rfl,SqL.of enA5,en0,_,rfl,zA,_,_,_,rfl,rfl,SqL.of ezA,ez0,_,_,rfl,rfl,n0,zs.getD 0 0 - 1,?_,by omega,fun vb H6 a0 l0 ll0 hl0 g6 aB=>?_⟩
 ·show [V.int n0,V.int ((zs.getD 0 0:Nat) - 1)] = _
  rw [show (((zs.getD 0 0:Nat):Int) - 1) = ((zs.getD 0 0 - 1:Nat):Int) by omega]
 have g6':=g5.trans g6
 have enA6:=g6 _ _ enA5
 have ezA6:=g6 _ _ ezA
 clear g1 g2 g3 g4 k4 k5 g5 enA4 enA5 ezA g6 hD he0 hnA hcc hzA eD enA
 refine ⟨_,rfl,zA,_,rfl,.inl (SqL.of ezA6),1,(zs.length:Nat),by rw [List.length_map],⟨by decide,by decide,by omega,by omega⟩,?_⟩
 dsimp only
 rw [show ((zs.length:Nat):Int) - 1 = ((zs.length - 1:Nat):Int) by omega,Int.toNat_natCast]
 refine for_range (lo:=1) (n:=zs.length - 1) (D:={ nx:=_,rt:=Q }) (fun i σ H'=>∃ (b:Np) (ls:List (List Bool)) (v:V) (x4:Option V),σ = [some (.ref a),some (.ref nA),some (.ref zA),some v,x4,none,none,none]∧Same H6 H'∧PAt K H' b.nd v∧NBl b ls∧ls.length = i + 1∧szs ls = zs.take (i + 1)∧∀ l∈ls,l.length≤6) ⟨_,[l0],vb,none,rfl,Same.refl _,aB,.one hl0,rfl,?_,?_⟩ ?_ ?_
 ·show [l0.length + 1] = _
  rw [List.take_add_one,List.take_zero,List.getElem?_eq_getElem (by omega)]
  have:zs.getD 0 0 = zs[0]:=by rw [List.getD_eq_getElem?_getD,List.getElem?_eq_getElem (by omega)]; rfl
  show _ = [zs[0]]
  rw [← this]
  congr 1
  omega
 ·intro l hl
  rw [List.mem_singleton.mp hl]
  omega
 ·rintro i σ H7 hi ⟨b,ls,v,x4,rfl,g7,aV,hb,lls,eszs,h6⟩
  have hk:1 + i < zs.length:=by omega
  rw [show (1:Int) + (i:Int) = ((1 + i:Nat):Int) by omega]
  obtain ⟨n1,en1⟩:=atn (1 + i) hk
  obtain ⟨ez1,b1,b7⟩:=atz (1 + i) hk
  refine ⟨_,rfl,_,rfl,_,rfl,nA,_,_,.int n1,rfl,rfl,SqL.of (g7 _ _ enA6),en1,_,rfl,_,rfl,zA,_,_,_,rfl,rfl,SqL.of (g7 _ _ ezA6),ez1,_,_,rfl,rfl,n1,zs.getD (1 + i) 0 - 1,?_,by omega,fun v1 H8 a1 l1 ll1 hl1 g8 aL=>⟨(by show 3≤sizeLine; decide),fun t ht=>?_⟩⟩
  ·show [V.int n1,V.int ((zs.getD (1 + i) 0:Nat) - 1)] = _
   rw [show (((zs.getD (1 + i) 0:Nat):Int) - 1) = ((zs.getD (1 + i) 0 - 1:Nat):Int) by omega]
  have kt:=same_new ht (.tup [.str "beside", v,v1])
  refine ⟨.bes b (.again a1),l1 :: ls,.ref t,_,rfl,(g7.trans g8).trans kt,.t (.inl upd_same) (.cons .s (.cons (aV.mono (g8.trans kt).tp) (.cons (aL.mono kt.tp) .nil))),.more hb hl1,by rw [List.length_cons,lls],?_,fun l hl=>?_⟩
  ·rw [szs_cons,eszs,List.take_add_one (i:=i + 1),List.getElem?_eq_getElem (by omega)]
   have:zs.getD (1 + i) 0 = zs[i + 1]:=by rw [List.getD_eq_getElem?_getD,Nat.add_comm,List.getElem?_eq_getElem (by omega)]; rfl
   show _ = _ ++ [zs[i + 1]]
   rw [← this]
   congr 2
   omega
  ·rcases List.mem_cons.mp hl with z | z
   ·rw [z]; omega
   ·exact h6 l z
 rintro σ H7 ⟨b,ls,v,x4,rfl,g7,aV,hb,lls,eszs,h6⟩
 have lls4:ls.length≤4:=by omega
 rw [show zs.length - 1 + 1 = zs.length by omega,List.take_length] at eszs
 have enA7:=g7 _ _ enA6
 have ezA7:=g7 _ _ ezA6
 have hne:numL ls≠[]:=by
  obtain ⟨l0,r0,e0⟩:=hb.ne
  rw [e0]; simp [numL]
 have z6:=hb.np h6
 refine ⟨_,rfl,zA,zs,rfl,SqL.of ezA7,hz17,_,_,rfl,rfl,?_⟩
 rw [← eszs,← lcm_szs]
 rw [← eszs] at ezA7
 clear enA6 ezA6 atz atn
 refine ⟨(by show 0≤sizeLine; decide),fun l0 h0=>⟨(by show 1≤sizeLine; decide),fun l1 h1=>⟨_,rfl,(by show 3≤sizeLine; decide),fun tp htp=>?_⟩⟩⟩
 obtain ⟨ga,a1,a2⟩:=new2 (a:=.lst []) (b:=.lst [.str "go"]) h0 h1
 have k8:=same_new htp (.tup [.ref l0,.ref l1,v])
 have g8:=ga.trans k8
 refine ⟨tp,l0,l1,[],["go"],v,b,rfl,upd_same,k8 _ _ a1,k8 _ _ a2,aV.mono g8.tp,z6.ok _ _ ⟨_,e64_0⟩,by decide,by have:=z6.hg; omega,fun pr vb2 H9 g9 e9 aP9=>?_⟩
 obtain ⟨e9b,hP⟩:=pg64a hb h6 lls4 e9 aP9
 have g79:=g8.trans g9
 have ezA9:=g79 _ _ ezA7
 have enA9:=g79 _ _ enA7
 have aV9:=aV.mono g79.tp
 refine ⟨pr,0,1,bsd 0 (numL ls),_,vb2,rfl,hP,e9b,by decide,by decide,?_⟩
 rcases p1_look (s:=0) hne (numL_ok ls) 1 with ⟨c40,elk⟩ | ⟨c40,sts,elk,slen,snd,sU,s0⟩
 ·rw [elk]
  refine .many fun t HA gA et=>⟨t,_,rfl,SqT.of et,rfl,_,_,rfl,_,_,rfl,rfl,?_⟩
  refine ⟨_,rfl,_,_,rfl,rfl,_,rfl,?_⟩
  rw [decide_eq_true (show (40:Int) < 1 + (lcmL (numL ls):Nat) by omega)]
  exact iteT ⟨_,rfl,q _⟩
 ·rw [elk]
  refine .lt sts fun t u sl svs HA H0 gA et eu esl psl=>⟨t,_,rfl,SqT.of et,rfl,_,_,rfl,_,_,rfl,rfl,?_⟩
  refine ⟨_,rfl,_,_,rfl,rfl,_,rfl,?_⟩
  rw [decide_eq_false (show ¬ (40:Int) < 1 + (lcmL (numL ls):Nat) by omega)]
  refine iteF ?_
  refine ⟨_,rfl,false,rfl,iteF ?_⟩
  refine ⟨_,rfl,_,_,_,_,rfl,.inl (.tup eu),rfl,_,rfl,iteF ?_⟩
  refine ⟨_,rfl,u,_,rfl,.inr (SqT.of eu),rfl,_,rfl,iteF ?_⟩
  refine ⟨_,rfl,u,_,_,_,rfl,rfl,SqT.of eu,atI_nat (j:=0) rfl,rfl,_,rfl,iteF ?_⟩
  have lsv:=PySem.Paired.length psl
  refine ⟨_,rfl,u,_,_,.ref sl,rfl,rfl,SqT.of eu,atI_nat (j:=1) rfl,_,rfl,sl,zA,sts,svs,ls,rfl,esl,Paired.mapP psl (fun _ _ z=>OF.olx z),SqL.of (gA _ _ ezA9),lls4,snd,sU,s0,by omega,fun HB gB=>⟨true,rfl,iteF ?_⟩⟩
  refine ⟨_,rfl,u,_,_,.ref sl,rfl,rfl,SqT.of (gB _ _ eu),atI_nat (j:=1) rfl,sl,_,rfl,.inl (SqL.of (gB _ _ esl)),_,rfl,rfl,_,rfl,?_⟩
  rw [show ((svs.length:Nat):Int) = 1 + (lcmL (numL ls):Nat) by omega,decide_eq_true rfl]
  refine iteF ?_
  have gAB:=gA.trans gB
  refine ⟨_,rfl,nA,_,_,_,rfl,rfl,SqL.of (gAB _ _ enA9),atI_nat (j:=0) (by rw [List.getElem?_map,List.getElem?_eq_getElem (by omega)]; rfl),_,_,rfl,rfl,⟨by decide,by decide⟩,_,_,rfl,rfl,(by show (0:Int) < 3; decide),_,_,rfl,rfl,_,rfl,ite2 (fun c=>q _) fun c=>?_⟩
  have aVB:=aV9.mono gAB.tp
  refine ⟨(by show 1≤sizeLine; decide),fun l2 h2=>⟨(by show 1≤sizeLine; decide),fun l3 h3=>⟨_,rfl,(by show 2≤sizeLine; decide),fun t1 ht1=>⟨(by show 3≤sizeLine; decide),fun t2 ht2=>⟨(by show 3≤sizeLine; decide),fun tp2 htp2=>?_⟩⟩⟩⟩⟩
  obtain ⟨gc,b1,b2⟩:=new2 (a:=.lst [.str "come"]) (b:=.lst [.str "go"]) h2 h3
  obtain ⟨gd,b3,b4⟩:=new2 (a:=.tup [.str "await", .str "come"]) (b:=.tup [.str "beside", v,.ref t1]) ht1 ht2
  have ke:=same_new htp2 (.tup [.ref l2,.ref l3,.ref t2])
  have gde:=gd.trans ke
  have gce:=gc.trans gde
  refine ⟨tp2,l2,l3,["come"],["go"],.ref t2,.bes b (.await "come"),rfl,upd_same,gde _ _ b1,gde _ _ b2,.t (.inl (ke _ _ b4)) (.cons .s (.cons (aVB.mono gce.tp) (.cons (.t (.inl (ke _ _ b3)) (.cons .s (.cons .s .nil))) .nil))),⟨z6.ok _ _ ⟨_,e64_1.1⟩,⟨_,e64_1.2⟩⟩,by decide,?_,fun pr2 vb3 HC gC eC aPC=>?_⟩
  ·have:=z6.hg
   simp only [hgt]
   omega
  obtain ⟨eC2,hP2⟩:=pg64b hb h6 lls4 eC aPC
  refine ⟨pr2,1,2,p2 1 (numL ls),_,vb3,rfl,hP2,eC2,by decide,by decide,?_⟩
  rcases p2_look hne (numL_ok ls) (n:=2) (by decide) hP2.ok with ⟨d40,elk2⟩ | ⟨sts2,elk2,d1,d2⟩
  ·rw [elk2]
   refine .many fun t' HD gD et'=>⟨t',_,rfl,SqT.of et',rfl,_,_,rfl,_,_,rfl,rfl,?_⟩
   refine ⟨_,rfl,true,rfl,iteT ⟨_,rfl,_,_,rfl,rfl,.inl ⟨by decide,by decide⟩,_,_,rfl,rfl,?_⟩⟩
   show Q (.bl (decide ((40:Int) < 2 * (1 + (lcmL (numL ls):Nat))))) HD
   rw [decide_eq_true (show (40:Int) < 2 * (1 + (lcmL (numL ls):Nat)) by omega)]
   exact q _
  ·rw [elk2]
   refine .lt sts2 fun t' u' sl' svs' HD H0' gD et' eu' esl' psl'=>⟨t',_,rfl,SqT.of et',rfl,_,_,rfl,_,_,rfl,rfl,?_⟩
   have lsv':=PySem.Paired.length psl'
   refine ⟨_,rfl,false,rfl,iteF ?_⟩
   refine ⟨_,rfl,u',_,_,_,rfl,rfl,SqT.of eu',atI_nat (j:=0) rfl,rfl,true,?_,?_⟩
   ·rw [decide_eq_true rfl]
   rw [if_pos rfl]
   refine ⟨_,rfl,_,rfl,u',_,_,.ref sl',rfl,rfl,SqT.of eu',atI_nat (j:=1) rfl,sl',_,rfl,.inl (SqL.of esl'),_,_,rfl,rfl,true,?_,?_⟩
   ·show V.bl (decide ((1 + (lcmL (numL ls):Nat):Int)≤(svs'.length:Nat))) = _
    rw [decide_eq_true (show (1 + (lcmL (numL ls):Nat):Int)≤(svs'.length:Nat) by omega)]
   rw [if_pos rfl]
   refine ⟨_,rfl,_,_,rfl,rfl,.inl ⟨by decide,by decide⟩,_,_,rfl,rfl,?_⟩
   show Q (.bl (decide (((svs'.length:Nat):Int)≤2 * (1 + (lcmL (numL ls):Nat))))) HD
   rw [decide_eq_true (show ((svs'.length:Nat):Int)≤2 * (1 + (lcmL (numL ls):Nat)) by omega)]
   exact q _
end
end My
end
section
set_option Elab.async false
set_option linter.all false
set_option maxRecDepth 100000
set_option maxHeartbeats 4000000
namespace My
open PySem L2
theorem len_1 {α:Type} {Q:List α→Prop} (h:∀ x0,Q [x0]):∀ us:List α,us.length = 1→Q us
 | [x0],_=>h x0
theorem len_2 {α:Type} {Q:List α→Prop} (h:∀ x0 x1,Q [x0,x1]):∀ us:List α,us.length = 2→Q us
 | [x0,x1],_=>h x0 x1
theorem len_3 {α:Type} {Q:List α→Prop} (h:∀ x0 x1 x2,Q [x0,x1,x2]):∀ us:List α,us.length = 3→Q us
 | [x0,x1,x2],_=>h x0 x1 x2
theorem len_4 {α:Type} {Q:List α→Prop} (h:∀ x0 x1 x2 x3,Q [x0,x1,x2,x3]):∀ us:List α,us.length = 4→Q us
 | [x0,x1,x2,x3],_=>h x0 x1 x2 x3
theorem all_mk {l:PySem.W.OpenLaw} {w:World} {K:PySem.W.Frag} {h:Heap} {mg:Str→Option Value} {fa f0 f1 f2 f3 f4 f5 f6 f7 f8 f9 f10 f11 f12 f13 f14 f15 f16 f17 f18 f19 f20 f21 f22 f23 f24 f25 f26 f27 f28 f29 f30 f31 f32 f33 f34 f35 f36 f37 f38 f39 f40 f41 f42 f43 C h0 h1 h2 a_NOTHING_remaining a_NOTHING_plain a_PAIRS a_ROUND c_TooMany  : Addr} (X:K.In h) (G:h.Ns mainGlobals mg) (hfa:mg "law" = some (.ref fa))
  {od0 an0:Option Addr} {sl0:Array (Option Value)} {oc0 kV0 dc0 pm0 cd0 ct0:Value}
  {od1 an1:Option Addr} {sl1:Array (Option Value)} {oc1 kV1 dc1 pm1 cd1 ct1:Value}
  {od2 an2:Option Addr} {sl2:Array (Option Value)} {oc2 kV2 dc2 pm2 cd2 ct2:Value}
  {od3 an3:Option Addr} {sl3:Array (Option Value)} {oc3 kV3 dc3 pm3 cd3 ct3:Value}
  {od4 an4:Option Addr} {sl4:Array (Option Value)} {oc4 kV4 dc4 pm4 cd4 ct4:Value}
  {od5 an5:Option Addr} {sl5:Array (Option Value)} {oc5 kV5 dc5 pm5 cd5 ct5:Value}
  {od6 an6:Option Addr} {sl6:Array (Option Value)} {oc6 kV6 dc6 pm6 cd6 ct6:Value}
  {od7 an7:Option Addr} {sl7:Array (Option Value)} {oc7 kV7 dc7 pm7 cd7 ct7:Value}
  {od8 an8:Option Addr} {sl8:Array (Option Value)} {oc8 kV8 dc8 pm8 cd8 ct8:Value}
  {od9 an9:Option Addr} {sl9:Array (Option Value)} {oc9 kV9 dc9 pm9 cd9 ct9:Value}
  {od10 an10:Option Addr} {sl10:Array (Option Value)} {oc10 kV10 dc10 pm10 cd10 ct10:Value}
  {od11 an11:Option Addr} {sl11:Array (Option Value)} {oc11 kV11 dc11 pm11 cd11 ct11:Value}
  {od12 an12:Option Addr} {sl12:Array (Option Value)} {oc12 kV12 dc12 pm12 cd12 ct12:Value}
  {od13 an13:Option Addr} {sl13:Array (Option Value)} {oc13 kV13 dc13 pm13 cd13 ct13:Value}
  {od14 an14:Option Addr} {sl14:Array (Option Value)} {oc14 kV14 dc14 pm14 cd14 ct14:Value}
  {od15 an15:Option Addr} {sl15:Array (Option Value)} {oc15 kV15 dc15 pm15 cd15 ct15:Value}
  {od16 an16:Option Addr} {sl16:Array (Option Value)} {oc16 kV16 dc16 pm16 cd16 ct16:Value}
  {od17 an17:Option Addr} {sl17:Array (Option Value)} {oc17 kV17 dc17 pm17 cd17 ct17:Value}
  {od18 an18:Option Addr} {sl18:Array (Option Value)} {oc18 kV18 dc18 pm18 cd18 ct18:Value}
  {od19 an19:Option Addr} {sl19:Array (Option Value)} {oc19 kV19 dc19 pm19 cd19 ct19:Value}
  {od20 an20:Option Addr} {sl20:Array (Option Value)} {oc20 kV20 dc20 pm20 cd20 ct20:Value}
  {od21 an21:Option Addr} {sl21:Array (Option Value)} {oc21 kV21 dc21 pm21 cd21 ct21:Value}
  {od22 an22:Option Addr} {sl22:Array (Option Value)} {oc22 kV22 dc22 pm22 cd22 ct22:Value}
  {od23 an23:Option Addr} {sl23:Array (Option Value)} {oc23 kV23 dc23 pm23 cd23 ct23:Value}
  {od24 an24:Option Addr} {sl24:Array (Option Value)} {oc24 kV24 dc24 pm24 cd24 ct24:Value}
  {od25 an25:Option Addr} {sl25:Array (Option Value)} {oc25 kV25 dc25 pm25 cd25 ct25:Value}
  {od26 an26:Option Addr} {sl26:Array (Option Value)} {oc26 kV26 dc26 pm26 cd26 ct26:Value}
  {od27 an27:Option Addr} {sl27:Array (Option Value)} {oc27 kV27 dc27 pm27 cd27 ct27:Value}
  {od28 an28:Option Addr} {sl28:Array (Option Value)} {oc28 kV28 dc28 pm28 cd28 ct28:Value}
  {od29 an29:Option Addr} {sl29:Array (Option Value)} {oc29 kV29 dc29 pm29 cd29 ct29:Value}
  {od30 an30:Option Addr} {sl30:Array (Option Value)} {oc30 kV30 dc30 pm30 cd30 ct30:Value}
  {od31 an31:Option Addr} {sl31:Array (Option Value)} {oc31 kV31 dc31 pm31 cd31 ct31:Value}
  {od32 an32:Option Addr} {sl32:Array (Option Value)} {oc32 kV32 dc32 pm32 cd32 ct32:Value}
  {od33 an33:Option Addr} {sl33:Array (Option Value)} {oc33 kV33 dc33 pm33 cd33 ct33:Value}
  {od34 an34:Option Addr} {sl34:Array (Option Value)} {oc34 kV34 dc34 pm34 cd34 ct34:Value}
  {od35 an35:Option Addr} {sl35:Array (Option Value)} {oc35 kV35 dc35 pm35 cd35 ct35:Value}
  {od36 an36:Option Addr} {sl36:Array (Option Value)} {oc36 kV36 dc36 pm36 cd36 ct36:Value}
  {od37 an37:Option Addr} {sl37:Array (Option Value)} {oc37 kV37 dc37 pm37 cd37 ct37:Value}
  {od38 an38:Option Addr} {sl38:Array (Option Value)} {oc38 kV38 dc38 pm38 cd38 ct38:Value}
  {od39 an39:Option Addr} {sl39:Array (Option Value)} {oc39 kV39 dc39 pm39 cd39 ct39:Value}
  {od40 an40:Option Addr} {sl40:Array (Option Value)} {oc40 kV40 dc40 pm40 cd40 ct40:Value}
  {od41 an41:Option Addr} {sl41:Array (Option Value)} {oc41 kV41 dc41 pm41 cd41 ct41:Value}
  {od42 an42:Option Addr} {sl42:Array (Option Value)} {oc42 kV42 dc42 pm42 cd42 ct42:Value}
  {od43 an43:Option Addr} {sl43:Array (Option Value)} {oc43 kV43 dc43 pm43 cd43 ct43:Value}
  {mod0 man0:Option Addr} {msl0:Array (Option Value)} {moc0 mkV0 mdc0 mpm0 mcd0 mct0:Value}
  {mod1 man1:Option Addr} {msl1:Array (Option Value)} {moc1 mkV1 mdc1 mpm1 mcd1 mct1:Value}
  {mod2 man2:Option Addr} {msl2:Array (Option Value)} {moc2 mkV2 mdc2 mpm2 mcd2 mct2:Value}
  {od_NOTHING_remaining:Option Addr} {it_NOTHING_remaining:Array Value} {n_NOTHING_remaining:Nat} {sl_NOTHING_remaining:Array (Option Value)}
  {od_NOTHING_plain:Option Addr} {it_NOTHING_plain:Array Value} {n_NOTHING_plain:Nat} {sl_NOTHING_plain:Array (Option Value)}
  {od_PAIRS:Option Addr} {it_PAIRS:Array Value} {n_PAIRS:Nat} {sl_PAIRS:Array (Option Value)}
  {od_ROUND:Option Addr} {it_ROUND:Array Value} {n_ROUND:Nat} {sl_ROUND:Array (Option Value)}
  {tk_ENDED:Tok}
  {tk_RESTS:Tok}
  {tk_LEAVES:Tok}
  {tk_MOST_STATES:Tok}
  (a0:PySem.W.nsIn K mainGlobals "leaf_code" = some (some (.ref f0))) (l0:K.lookup f0 = some ⟨oc0,od0,.func (PySem.W.fnOf "leaf_code" "leaf_code" (defArgs s_leaf_code) (defBody s_leaf_code) (defScope s_leaf_code) .none kV0 dc0 pm0 an0 cd0 ct0),sl0⟩) (c0:PySem.W.codeIn K cd0 "leaf_code" = true) (k0:PySem.W.keepIn K (.ref f0) = true)
  (a1:PySem.W.nsIn K mainGlobals "code_of_again" = some (some (.ref f1))) (l1:K.lookup f1 = some ⟨oc1,od1,.func (PySem.W.fnOf "code_of_again" "code_of_again" (defArgs s_code_of_again) (defBody s_code_of_again) (defScope s_code_of_again) .none kV1 dc1 pm1 an1 cd1 ct1),sl1⟩) (c1:PySem.W.codeIn K cd1 "code_of_again" = true) (k1:PySem.W.keepIn K (.ref f1) = true)
  (a2:PySem.W.nsIn K mainGlobals "code_of_trap" = some (some (.ref f2))) (l2:K.lookup f2 = some ⟨oc2,od2,.func (PySem.W.fnOf "code_of_trap" "code_of_trap" (defArgs s_code_of_trap) (defBody s_code_of_trap) (defScope s_code_of_trap) .none kV2 dc2 pm2 an2 cd2 ct2),sl2⟩) (c2:PySem.W.codeIn K cd2 "code_of_trap" = true) (k2:PySem.W.keepIn K (.ref f2) = true)
  (a3:PySem.W.nsIn K mainGlobals "part_to_begin" = some (some (.ref f3))) (l3:K.lookup f3 = some ⟨oc3,od3,.func (PySem.W.fnOf "part_to_begin" "part_to_begin" (defArgs s_part_to_begin) (defBody s_part_to_begin) (defScope s_part_to_begin) .none kV3 dc3 pm3 an3 cd3 ct3),sl3⟩) (c3:PySem.W.codeIn K cd3 "part_to_begin" = true) (k3:PySem.W.keepIn K (.ref f3) = true)
  (a4:PySem.W.nsIn K mainGlobals "remaining" = some (some (.ref f4))) (l4:K.lookup f4 = some ⟨oc4,od4,.func (PySem.W.fnOf "remaining" "remaining" (defArgs s_remaining) (defBody s_remaining) (defScope s_remaining) .none kV4 dc4 pm4 an4 cd4 ct4),sl4⟩) (c4:PySem.W.codeIn K cd4 "remaining" = true) (k4:PySem.W.keepIn K (.ref f4) = true)
  (a5:PySem.W.nsIn K mainGlobals "left_of_pair" = some (some (.ref f5))) (l5:K.lookup f5 = some ⟨oc5,od5,.func (PySem.W.fnOf "left_of_pair" "left_of_pair" (defArgs s_left_of_pair) (defBody s_left_of_pair) (defScope s_left_of_pair) .none kV5 dc5 pm5 an5 cd5 ct5),sl5⟩) (c5:PySem.W.codeIn K cd5 "left_of_pair" = true) (k5:PySem.W.keepIn K (.ref f5) = true)
  (a6:PySem.W.nsIn K mainGlobals "left_of_round" = some (some (.ref f6))) (l6:K.lookup f6 = some ⟨oc6,od6,.func (PySem.W.fnOf "left_of_round" "left_of_round" (defArgs s_left_of_round) (defBody s_left_of_round) (defScope s_left_of_round) .none kV6 dc6 pm6 an6 cd6 ct6),sl6⟩) (c6:PySem.W.codeIn K cd6 "left_of_round" = true) (k6:PySem.W.keepIn K (.ref f6) = true)
  (a7:PySem.W.nsIn K mainGlobals "ran" = some (some (.ref f7))) (l7:K.lookup f7 = some ⟨oc7,od7,.func (PySem.W.fnOf "ran" "ran" (defArgs s_ran) (defBody s_ran) (defScope s_ran) .none kV7 dc7 pm7 an7 cd7 ct7),sl7⟩) (c7:PySem.W.codeIn K cd7 "ran" = true) (k7:PySem.W.keepIn K (.ref f7) = true)
  (a8:PySem.W.nsIn K mainGlobals "begun_instants" = some (some (.ref f8))) (l8:K.lookup f8 = some ⟨oc8,od8,.func (PySem.W.fnOf "begun" "begun" (defArgs s_begun_instants) (defBody s_begun_instants) (defScope s_begun_instants) .none kV8 dc8 pm8 an8 cd8 ct8),sl8⟩) (c8:PySem.W.codeIn K cd8 "begun" = true) (k8:PySem.W.keepIn K (.ref f8) = true)
  (a9:PySem.W.nsIn K mainGlobals "begun_leaf_instants" = some (some (.ref f9))) (l9:K.lookup f9 = some ⟨oc9,od9,.func (PySem.W.fnOf "begun_leaf" "begun_leaf" (defArgs s_begun_leaf_instants) (defBody s_begun_leaf_instants) (defScope s_begun_leaf_instants) .none kV9 dc9 pm9 an9 cd9 ct9),sl9⟩) (c9:PySem.W.codeIn K cd9 "begun_leaf" = true) (k9:PySem.W.keepIn K (.ref f9) = true)
  (a10:PySem.W.nsIn K mainGlobals "rests_left" = some (some (.ref f10))) (l10:K.lookup f10 = some ⟨oc10,od10,.func (PySem.W.fnOf "rests_left" "rests_left" (defArgs s_rests_left) (defBody s_rests_left) (defScope s_rests_left) .none kV10 dc10 pm10 an10 cd10 ct10),sl10⟩) (c10:PySem.W.codeIn K cd10 "rests_left" = true) (k10:PySem.W.keepIn K (.ref f10) = true)
  (a11:PySem.W.nsIn K mainGlobals "in_turn_instants" = some (some (.ref f11))) (l11:K.lookup f11 = some ⟨oc11,od11,.func (PySem.W.fnOf "in_turn" "in_turn" (defArgs s_in_turn_instants) (defBody s_in_turn_instants) (defScope s_in_turn_instants) .none kV11 dc11 pm11 an11 cd11 ct11),sl11⟩) (c11:PySem.W.codeIn K cd11 "in_turn" = true) (k11:PySem.W.keepIn K (.ref f11) = true)
  (a12:PySem.W.nsIn K mainGlobals "side_by_side_instants" = some (some (.ref f12))) (l12:K.lookup f12 = some ⟨oc12,od12,.func (PySem.W.fnOf "side_by_side" "side_by_side" (defArgs s_side_by_side_instants) (defBody s_side_by_side_instants) (defScope s_side_by_side_instants) .none kV12 dc12 pm12 an12 cd12 ct12),sl12⟩) (c12:PySem.W.codeIn K cd12 "side_by_side" = true) (k12:PySem.W.keepIn K (.ref f12) = true)
  (a13:PySem.W.nsIn K mainGlobals "repeated" = some (some (.ref f13))) (l13:K.lookup f13 = some ⟨oc13,od13,.func (PySem.W.fnOf "repeated" "repeated" (defArgs s_repeated) (defBody s_repeated) (defScope s_repeated) .none kV13 dc13 pm13 an13 cd13 ct13),sl13⟩) (c13:PySem.W.codeIn K cd13 "repeated" = true) (k13:PySem.W.keepIn K (.ref f13) = true)
  (a14:PySem.W.nsIn K mainGlobals "walked" = some (some (.ref f14))) (l14:K.lookup f14 = some ⟨oc14,od14,.func (PySem.W.fnOf "walked" "walked" (defArgs s_walked) (defBody s_walked) (defScope s_walked) .none kV14 dc14 pm14 an14 cd14 ct14),sl14⟩) (c14:PySem.W.codeIn K cd14 "walked" = true) (k14:PySem.W.keepIn K (.ref f14) = true)
  (a15:PySem.W.nsIn K mainGlobals "begun_walking" = some (some (.ref f15))) (l15:K.lookup f15 = some ⟨oc15,od15,.func (PySem.W.fnOf "begun" "begun" (defArgs s_begun_walking) (defBody s_begun_walking) (defScope s_begun_walking) .none kV15 dc15 pm15 an15 cd15 ct15),sl15⟩) (c15:PySem.W.codeIn K cd15 "begun" = true) (k15:PySem.W.keepIn K (.ref f15) = true)
  (a16:PySem.W.nsIn K mainGlobals "begun_leaf_walking" = some (some (.ref f16))) (l16:K.lookup f16 = some ⟨oc16,od16,.func (PySem.W.fnOf "begun_leaf" "begun_leaf" (defArgs s_begun_leaf_walking) (defBody s_begun_leaf_walking) (defScope s_begun_leaf_walking) .none kV16 dc16 pm16 an16 cd16 ct16),sl16⟩) (c16:PySem.W.codeIn K cd16 "begun_leaf" = true) (k16:PySem.W.keepIn K (.ref f16) = true)
  (a17:PySem.W.nsIn K mainGlobals "in_turn_walking" = some (some (.ref f17))) (l17:K.lookup f17 = some ⟨oc17,od17,.func (PySem.W.fnOf "in_turn" "in_turn" (defArgs s_in_turn_walking) (defBody s_in_turn_walking) (defScope s_in_turn_walking) .none kV17 dc17 pm17 an17 cd17 ct17),sl17⟩) (c17:PySem.W.codeIn K cd17 "in_turn" = true) (k17:PySem.W.keepIn K (.ref f17) = true)
  (a18:PySem.W.nsIn K mainGlobals "side_by_side_walking" = some (some (.ref f18))) (l18:K.lookup f18 = some ⟨oc18,od18,.func (PySem.W.fnOf "side_by_side" "side_by_side" (defArgs s_side_by_side_walking) (defBody s_side_by_side_walking) (defScope s_side_by_side_walking) .none kV18 dc18 pm18 an18 cd18 ct18),sl18⟩) (c18:PySem.W.codeIn K cd18 "side_by_side" = true) (k18:PySem.W.keepIn K (.ref f18) = true)
  (a19:PySem.W.nsIn K mainGlobals "one_of" = some (some (.ref f19))) (l19:K.lookup f19 = some ⟨oc19,od19,.func (PySem.W.fnOf "one_of" "one_of" (defArgs s_one_of) (defBody s_one_of) (defScope s_one_of) .none kV19 dc19 pm19 an19 cd19 ct19),sl19⟩) (c19:PySem.W.codeIn K cd19 "one_of" = true) (k19:PySem.W.keepIn K (.ref f19) = true)
  (a20:PySem.W.nsIn K mainGlobals "recoded" = some (some (.ref f20))) (l20:K.lookup f20 = some ⟨oc20,od20,.func (PySem.W.fnOf "recoded" "recoded" (defArgs s_recoded) (defBody s_recoded) (defScope s_recoded) .none kV20 dc20 pm20 an20 cd20 ct20),sl20⟩) (c20:PySem.W.codeIn K cd20 "recoded" = true) (k20:PySem.W.keepIn K (.ref f20) = true)
  (a21:PySem.W.nsIn K mainGlobals "body_to_begin" = some (some (.ref f21))) (l21:K.lookup f21 = some ⟨oc21,od21,.func (PySem.W.fnOf "body_to_begin" "body_to_begin" (defArgs s_body_to_begin) (defBody s_body_to_begin) (defScope s_body_to_begin) .none kV21 dc21 pm21 an21 cd21 ct21),sl21⟩) (c21:PySem.W.codeIn K cd21 "body_to_begin" = true) (k21:PySem.W.keepIn K (.ref f21) = true)
  (a22:PySem.W.nsIn K mainGlobals "instant" = some (some (.ref f22))) (l22:K.lookup f22 = some ⟨oc22,od22,.func (PySem.W.fnOf "instant" "instant" (defArgs s_instant) (defBody s_instant) (defScope s_instant) .none kV22 dc22 pm22 an22 cd22 ct22),sl22⟩) (c22:PySem.W.codeIn K cd22 "instant" = true) (k22:PySem.W.keepIn K (.ref f22) = true)
  (a23:PySem.W.nsIn K mainGlobals "rounds" = some (some (.ref f23))) (l23:K.lookup f23 = some ⟨oc23,od23,.func (PySem.W.fnOf "rounds" "rounds" (defArgs s_rounds) (defBody s_rounds) (defScope s_rounds) .none kV23 dc23 pm23 an23 cd23 ct23),sl23⟩) (c23:PySem.W.codeIn K cd23 "rounds" = true) (k23:PySem.W.keepIn K (.ref f23) = true)
  (a24:PySem.W.nsIn K mainGlobals "settled" = some (some (.ref f24))) (l24:K.lookup f24 = some ⟨oc24,od24,.func (PySem.W.fnOf "settled" "settled" (defArgs s_settled) (defBody s_settled) (defScope s_settled) .none kV24 dc24 pm24 an24 cd24 ct24),sl24⟩) (c24:PySem.W.codeIn K cd24 "settled" = true) (k24:PySem.W.keepIn K (.ref f24) = true)
  (a25:PySem.W.nsIn K mainGlobals "signs_that_are" = some (some (.ref f25))) (l25:K.lookup f25 = some ⟨oc25,od25,.func (PySem.W.fnOf "signs_that_are" "signs_that_are" (defArgs s_signs_that_are) (defBody s_signs_that_are) (defScope s_signs_that_are) .none kV25 dc25 pm25 an25 cd25 ct25),sl25⟩) (c25:PySem.W.codeIn K cd25 "signs_that_are" = true) (k25:PySem.W.keepIn K (.ref f25) = true)
  (a26:PySem.W.nsIn K mainGlobals "known_at_first" = some (some (.ref f26))) (l26:K.lookup f26 = some ⟨oc26,od26,.func (PySem.W.fnOf "known_at_first" "known_at_first" (defArgs s_known_at_first) (defBody s_known_at_first) (defScope s_known_at_first) .none kV26 dc26 pm26 an26 cd26 ct26),sl26⟩) (c26:PySem.W.codeIn K cd26 "known_at_first" = true) (k26:PySem.W.keepIn K (.ref f26) = true)
  (a27:PySem.W.nsIn K mainGlobals "known_behind" = some (some (.ref f27))) (l27:K.lookup f27 = some ⟨oc27,od27,.func (PySem.W.fnOf "known_behind" "known_behind" (defArgs s_known_behind) (defBody s_known_behind) (defScope s_known_behind) .none kV27 dc27 pm27 an27 cd27 ct27),sl27⟩) (c27:PySem.W.codeIn K cd27 "known_behind" = true) (k27:PySem.W.keepIn K (.ref f27) = true)
  (a28:PySem.W.nsIn K mainGlobals "changes_by" = some (some (.ref f28))) (l28:K.lookup f28 = some ⟨oc28,od28,.func (PySem.W.fnOf "changes_by" "changes_by" (defArgs s_changes_by) (defBody s_changes_by) (defScope s_changes_by) .none kV28 dc28 pm28 an28 cd28 ct28),sl28⟩) (c28:PySem.W.codeIn K cd28 "changes_by" = true) (k28:PySem.W.keepIn K (.ref f28) = true)
  (a29:PySem.W.nsIn K mainGlobals "comings" = some (some (.ref f29))) (l29:K.lookup f29 = some ⟨oc29,od29,.func (PySem.W.fnOf "comings" "comings" (defArgs s_comings) (defBody s_comings) (defScope s_comings) .none kV29 dc29 pm29 an29 cd29 ct29),sl29⟩) (c29:PySem.W.codeIn K cd29 "comings" = true) (k29:PySem.W.keepIn K (.ref f29) = true)
  (a30:PySem.W.nsIn K mainGlobals "add_state" = some (some (.ref f30))) (l30:K.lookup f30 = some ⟨oc30,od30,.func (PySem.W.fnOf "add_state" "add_state" (defArgs s_add_state) (defBody s_add_state) (defScope s_add_state) .none kV30 dc30 pm30 an30 cd30 ct30),sl30⟩) (c30:PySem.W.codeIn K cd30 "add_state" = true) (k30:PySem.W.keepIn K (.ref f30) = true)
  (a31:PySem.W.nsIn K mainGlobals "looked" = some (some (.ref f31))) (l31:K.lookup f31 = some ⟨oc31,od31,.func (PySem.W.fnOf "looked" "looked" (defArgs s_looked) (defBody s_looked) (defScope s_looked) .none kV31 dc31 pm31 an31 cd31 ct31),sl31⟩) (c31:PySem.W.codeIn K cd31 "looked" = true) (k31:PySem.W.keepIn K (.ref f31) = true)
  (a32:PySem.W.nsIn K mainGlobals "plain" = some (some (.ref f32))) (l32:K.lookup f32 = some ⟨oc32,od32,.func (PySem.W.fnOf "plain" "plain" (defArgs s_plain) (defBody s_plain) (defScope s_plain) .none kV32 dc32 pm32 an32 cd32 ct32),sl32⟩) (c32:PySem.W.codeIn K cd32 "plain" = true) (k32:PySem.W.keepIn K (.ref f32) = true)
  (a33:PySem.W.nsIn K mainGlobals "plain_part" = some (some (.ref f33))) (l33:K.lookup f33 = some ⟨oc33,od33,.func (PySem.W.fnOf "plain_part" "plain_part" (defArgs s_plain_part) (defBody s_plain_part) (defScope s_plain_part) .none kV33 dc33 pm33 an33 cd33 ct33),sl33⟩) (c33:PySem.W.codeIn K cd33 "plain_part" = true) (k33:PySem.W.keepIn K (.ref f33) = true)
  (a34:PySem.W.nsIn K mainGlobals "plain_weak" = some (some (.ref f34))) (l34:K.lookup f34 = some ⟨oc34,od34,.func (PySem.W.fnOf "plain_weak" "plain_weak" (defArgs s_plain_weak) (defBody s_plain_weak) (defScope s_plain_weak) .none kV34 dc34 pm34 an34 cd34 ct34),sl34⟩) (c34:PySem.W.codeIn K cd34 "plain_weak" = true) (k34:PySem.W.keepIn K (.ref f34) = true)
  (a35:PySem.W.nsIn K mainGlobals "awaited" = some (some (.ref f35))) (l35:K.lookup f35 = some ⟨oc35,od35,.func (PySem.W.fnOf "awaited" "awaited" (defArgs s_awaited) (defBody s_awaited) (defScope s_awaited) .none kV35 dc35 pm35 an35 cd35 ct35),sl35⟩) (c35:PySem.W.codeIn K cd35 "awaited" = true) (k35:PySem.W.keepIn K (.ref f35) = true)
  (a36:PySem.W.nsIn K mainGlobals "plain_leaf" = some (some (.ref f36))) (l36:K.lookup f36 = some ⟨oc36,od36,.func (PySem.W.fnOf "plain_leaf" "plain_leaf" (defArgs s_plain_leaf) (defBody s_plain_leaf) (defScope s_plain_leaf) .none kV36 dc36 pm36 an36 cd36 ct36),sl36⟩) (c36:PySem.W.codeIn K cd36 "plain_leaf" = true) (k36:PySem.W.keepIn K (.ref f36) = true)
  (a37:PySem.W.nsIn K mainGlobals "_law_mixed" = some (some (.ref f37))) (l37:K.lookup f37 = some ⟨oc37,od37,.func (PySem.W.fnOf "_law_mixed" "_law_mixed" (defArgs s__law_mixed) (defBody s__law_mixed) (defScope s__law_mixed) .none kV37 dc37 pm37 an37 cd37 ct37),sl37⟩) (c37:PySem.W.codeIn K cd37 "_law_mixed" = true) (k37:PySem.W.keepIn K (.ref f37) = true)
  (a38:PySem.W.nsIn K mainGlobals "_law_loop" = some (some (.ref f38))) (l38:K.lookup f38 = some ⟨oc38,od38,.func (PySem.W.fnOf "_law_loop" "_law_loop" (defArgs s__law_loop) (defBody s__law_loop) (defScope s__law_loop) .none kV38 dc38 pm38 an38 cd38 ct38),sl38⟩) (c38:PySem.W.codeIn K cd38 "_law_loop" = true) (k38:PySem.W.keepIn K (.ref f38) = true)
  (a39:PySem.W.nsIn K mainGlobals "_law_divisor" = some (some (.ref f39))) (l39:K.lookup f39 = some ⟨oc39,od39,.func (PySem.W.fnOf "_law_divisor" "_law_divisor" (defArgs s__law_divisor) (defBody s__law_divisor) (defScope s__law_divisor) .none kV39 dc39 pm39 an39 cd39 ct39),sl39⟩) (c39:PySem.W.codeIn K cd39 "_law_divisor" = true) (k39:PySem.W.keepIn K (.ref f39) = true)
  (a40:PySem.W.nsIn K mainGlobals "_law_together" = some (some (.ref f40))) (l40:K.lookup f40 = some ⟨oc40,od40,.func (PySem.W.fnOf "_law_together" "_law_together" (defArgs s__law_together) (defBody s__law_together) (defScope s__law_together) .none kV40 dc40 pm40 an40 cd40 ct40),sl40⟩) (c40:PySem.W.codeIn K cd40 "_law_together" = true) (k40:PySem.W.keepIn K (.ref f40) = true)
  (a41:PySem.W.nsIn K mainGlobals "_law_asked" = some (some (.ref f41))) (l41:K.lookup f41 = some ⟨oc41,od41,.func (PySem.W.fnOf "_law_asked" "_law_asked" (defArgs s__law_asked) (defBody s__law_asked) (defScope s__law_asked) .none kV41 dc41 pm41 an41 cd41 ct41),sl41⟩) (c41:PySem.W.codeIn K cd41 "_law_asked" = true) (k41:PySem.W.keepIn K (.ref f41) = true)
  (a42:PySem.W.nsIn K mainGlobals "_law_states" = some (some (.ref f42))) (l42:K.lookup f42 = some ⟨oc42,od42,.func (PySem.W.fnOf "_law_states" "_law_states" (defArgs s__law_states) (defBody s__law_states) (defScope s__law_states) .none kV42 dc42 pm42 an42 cd42 ct42),sl42⟩) (c42:PySem.W.codeIn K cd42 "_law_states" = true) (k42:PySem.W.keepIn K (.ref f42) = true)
  (a43:PySem.W.nsIn K mainGlobals "law" = some (some (.ref f43))) (l43:K.lookup f43 = some ⟨oc43,od43,.func (PySem.W.fnOf "law" "law" (defArgs s_law) (defBody s_law) (defScope s_law) .none kV43 dc43 pm43 an43 cd43 ct43),sl43⟩) (c43:PySem.W.codeIn K cd43 "law" = true) (k43:PySem.W.keepIn K (.ref f43) = true)
  (aC:PySem.W.nsIn K mainGlobals "Numbers" = some (some (.ref C)))
  (ma0:PySem.W.findIn K (.ref C) "__init__" = some (some (.ref h0))) (mi0:PySem.W.isFn K (.ref h0) = true) (ml0:K.lookup h0 = some ⟨moc0,mod0,.func (PySem.W.fnOf "__init__" "Numbers.__init__" (defArgs Pln.s_init) (defBody Pln.s_init) (defScope Pln.s_init) .none mkV0 mdc0 mpm0 man0 mcd0 mct0),msl0⟩) (mc0:PySem.W.codeIn K mcd0 "Numbers.__init__" = true) (mk0:PySem.W.keepIn K (.ref h0) = true)
  (ma1:PySem.W.findIn K (.ref C) "new_sign" = some (some (.ref h1))) (mi1:PySem.W.isFn K (.ref h1) = true) (ml1:K.lookup h1 = some ⟨moc1,mod1,.func (PySem.W.fnOf "new_sign" "Numbers.new_sign" (defArgs Pln.s_new_sign) (defBody Pln.s_new_sign) (defScope Pln.s_new_sign) .none mkV1 mdc1 mpm1 man1 mcd1 mct1),msl1⟩) (mc1:PySem.W.codeIn K mcd1 "Numbers.new_sign" = true) (mk1:PySem.W.keepIn K (.ref h1) = true)
  (ma2:PySem.W.findIn K (.ref C) "new_rest" = some (some (.ref h2))) (mi2:PySem.W.isFn K (.ref h2) = true) (ml2:K.lookup h2 = some ⟨moc2,mod2,.func (PySem.W.fnOf "new_rest" "Numbers.new_rest" (defArgs Pln.s_new_rest) (defBody Pln.s_new_rest) (defScope Pln.s_new_rest) .none mkV2 mdc2 mpm2 man2 mcd2 mct2),msl2⟩) (mc2:PySem.W.codeIn K mcd2 "Numbers.new_rest" = true) (mk2:PySem.W.keepIn K (.ref h2) = true)
  (pg:PySem.W.plainGet K C Str.empty = true) (hd:PySem.W.hasDictIn K C = true) (po:PySem.W.plainOver K C = true) (sa:PySem.W.findIn K (.ref C) "__setattr__" = some (some (.builtin "object.__setattr__"))) (mk:PySem.W.makesIn K C = true) (kc:PySem.W.keepIn K (.ref C) = true)
  (nA_signs:PySem.W.findIn K (.ref C) "signs" = some none)
  (nA_rests:PySem.W.findIn K (.ref C) "rests" = some none)
  (ca_NOTHING_remaining:PySem.W.nsIn K mainGlobals "NOTHING_remaining" = some (some (.ref a_NOTHING_remaining))) (cl_NOTHING_remaining:K.lookup a_NOTHING_remaining = some ⟨Value.type "tuple", od_NOTHING_remaining,.seq it_NOTHING_remaining n_NOTHING_remaining,sl_NOTHING_remaining⟩) (cs_NOTHING_remaining:it_NOTHING_remaining.size≤sizeLine) (cv_NOTHING_remaining:Vals [V.str "nothing"] it_NOTHING_remaining.toList)
  (ca_NOTHING_plain:PySem.W.nsIn K mainGlobals "NOTHING_plain" = some (some (.ref a_NOTHING_plain))) (cl_NOTHING_plain:K.lookup a_NOTHING_plain = some ⟨Value.type "tuple", od_NOTHING_plain,.seq it_NOTHING_plain n_NOTHING_plain,sl_NOTHING_plain⟩) (cs_NOTHING_plain:it_NOTHING_plain.size≤sizeLine) (cv_NOTHING_plain:Vals [V.str "nothing"] it_NOTHING_plain.toList)
  (ca_PAIRS:PySem.W.nsIn K mainGlobals "PAIRS" = some (some (.ref a_PAIRS))) (cl_PAIRS:K.lookup a_PAIRS = some ⟨Value.type "tuple", od_PAIRS,.seq it_PAIRS n_PAIRS,sl_PAIRS⟩) (cs_PAIRS:it_PAIRS.size≤sizeLine) (cv_PAIRS:Vals [V.str "then", V.str "if", V.str "beside"] it_PAIRS.toList)
  (ca_ROUND:PySem.W.nsIn K mainGlobals "ROUND" = some (some (.ref a_ROUND))) (cl_ROUND:K.lookup a_ROUND = some ⟨Value.type "tuple", od_ROUND,.seq it_ROUND n_ROUND,sl_ROUND⟩) (cs_ROUND:it_ROUND.size≤sizeLine) (cv_ROUND:Vals [V.str "again", V.str "hold", V.str "watch", V.str "trap"] it_ROUND.toList)
  (cn_ENDED:PySem.W.nsIn K mainGlobals "ENDED" = some (some (.int 0 tk_ENDED)))
  (cn_RESTS:PySem.W.nsIn K mainGlobals "RESTS" = some (some (.int 1 tk_RESTS)))
  (cn_LEAVES:PySem.W.nsIn K mainGlobals "LEAVES" = some (some (.int 2 tk_LEAVES)))
  (cn_MOST_STATES:PySem.W.nsIn K mainGlobals "MOST_STATES" = some (some (.int 40 tk_MOST_STATES)))
  (ea_TooMany:PySem.W.nsIn K mainGlobals "TooMany" = some (some (.ref c_TooMany))) (ex_TooMany:PySem.W.excIn K c_TooMany veM "ValueError.__new__" = true)
  (em_TooMany_TooMany:PySem.W.exmOne K (.ref c_TooMany) (.ref c_TooMany) = some true)
  (z_ValueError:PySem.W.nsIn K mainGlobals "ValueError" = some none)
  (z_dict:PySem.W.nsIn K mainGlobals "dict" = some none)
  (z_enumerate:PySem.W.nsIn K mainGlobals "enumerate" = some none)
  (z_isinstance:PySem.W.nsIn K mainGlobals "isinstance" = some none)
  (z_len:PySem.W.nsIn K mainGlobals "len" = some none)
  (z_list:PySem.W.nsIn K mainGlobals "list" = some none)
  (z_max:PySem.W.nsIn K mainGlobals "max" = some none)
  (z_min:PySem.W.nsIn K mainGlobals "min" = some none)
  (z_range:PySem.W.nsIn K mainGlobals "range" = some none)
  (z_set:PySem.W.nsIn K mainGlobals "set" = some none)
  (z_sorted:PySem.W.nsIn K mainGlobals "sorted" = some none)
  (z_tuple:PySem.W.nsIn K mainGlobals "tuple" = some none)
  (z_zip:PySem.W.nsIn K mainGlobals "zip" = some none)
  : ∃ fd:FuncData,(∀ (s:Shared) (v:Value),BindsTo s fd ⟨[v],[]⟩ [("_law_script", v)])∧∀ base:Heap,K.In base→base.Ns mainGlobals mg→FnOk l.prog w K mg base CX0 110 fa fd ["_law_script"] (spLaw K):=by
 have e:=hfa.symm.trans (PySem.W.mg_of X G a43)
 cases e
 have T:Txt mg:=⟨PySem.W.mg_none_of X G z_ValueError,PySem.W.mg_none_of X G z_dict,PySem.W.mg_none_of X G z_enumerate,PySem.W.mg_none_of X G z_isinstance,PySem.W.mg_none_of X G z_len,PySem.W.mg_none_of X G z_list,PySem.W.mg_none_of X G z_max,PySem.W.mg_none_of X G z_min,PySem.W.mg_none_of X G z_range,PySem.W.mg_none_of X G z_set,PySem.W.mg_none_of X G z_sorted,PySem.W.mg_none_of X G z_tuple,PySem.W.mg_none_of X G z_zip⟩
 have Cl:Cls K C:=⟨pg,hd,po,sa⟩
 have mC:=PySem.W.mg_of X G aC
 have cm_NOTHING_remaining:=PySem.W.mg_of X G ca_NOTHING_remaining
 have cst_NOTHING_remaining:ModT K a_NOTHING_remaining [V.str "nothing"]:=⟨_,_,_,cl_NOTHING_remaining,rfl,rfl,cs_NOTHING_remaining,cv_NOTHING_remaining⟩
 have cm_NOTHING_plain:=PySem.W.mg_of X G ca_NOTHING_plain
 have cst_NOTHING_plain:ModT K a_NOTHING_plain [V.str "nothing"]:=⟨_,_,_,cl_NOTHING_plain,rfl,rfl,cs_NOTHING_plain,cv_NOTHING_plain⟩
 have cm_PAIRS:=PySem.W.mg_of X G ca_PAIRS
 have cst_PAIRS:ModT K a_PAIRS [V.str "then", V.str "if", V.str "beside"]:=⟨_,_,_,cl_PAIRS,rfl,rfl,cs_PAIRS,cv_PAIRS⟩
 have cm_ROUND:=PySem.W.mg_of X G ca_ROUND
 have cst_ROUND:ModT K a_ROUND [V.str "again", V.str "hold", V.str "watch", V.str "trap"]:=⟨_,_,_,cl_ROUND,rfl,rfl,cs_ROUND,cv_ROUND⟩
 have nm_ENDED:=PySem.W.mg_of X G cn_ENDED
 have nm_RESTS:=PySem.W.mg_of X G cn_RESTS
 have nm_LEAVES:=PySem.W.mg_of X G cn_LEAVES
 have nm_MOST_STATES:=PySem.W.mg_of X G cn_MOST_STATES
 have mm_TooMany:=PySem.W.mg_of X G ea_TooMany
 have Fm_init:=fun_mk (st:=Pln.s_init) ml0 mc0 mk0
 have bm_init:=Fm_init.binds (ps:=["self", "signs"]) fun _ _ _ _ _ _ us hl=>len_2 (Q:=fun us=>bindArgs _ ⟨us,[]⟩ = pure (List.zip _ us)) (fun _ _=>rfl) us hl
 have MkC:Mk K C h0:=⟨mk,ma0,mi0,kc⟩
 have Fm_new_sign:=fun_mk (st:=Pln.s_new_sign) ml1 mc1 mk1
 have bm_new_sign:=Fm_new_sign.binds (ps:=["self"]) fun _ _ _ _ _ _ us hl=>len_1 (Q:=fun us=>bindArgs _ ⟨us,[]⟩ = pure (List.zip _ us)) (fun _=>rfl) us hl
 have mm_new_sign:Meth K C "new_sign" h1:=⟨ma1,mi1,mk1⟩
 have Fm_new_rest:=fun_mk (st:=Pln.s_new_rest) ml2 mc2 mk2
 have bm_new_rest:=Fm_new_rest.binds (ps:=["self"]) fun _ _ _ _ _ _ us hl=>len_1 (Q:=fun us=>bindArgs _ ⟨us,[]⟩ = pure (List.zip _ us)) (fun _=>rfl) us hl
 have mm_new_rest:Meth K C "new_rest" h2:=⟨ma2,mi2,mk2⟩
 have F_leaf_code:FunM K mg "leaf_code" ["part"] s_leaf_code:=⟨_,_,fun_mk (st:=s_leaf_code) l0 c0 k0,PySem.W.mg_of X G a0,(fun_mk (st:=s_leaf_code) l0 c0 k0).binds (ps:=["part"]) fun _ _ _ _ _ _ us hl=>len_1 (Q:=fun us=>bindArgs _ ⟨us,[]⟩ = pure (List.zip _ us)) (fun _=>rfl) us hl⟩
 have F_code_of_again:FunM K mg "code_of_again" ["code"] s_code_of_again:=⟨_,_,fun_mk (st:=s_code_of_again) l1 c1 k1,PySem.W.mg_of X G a1,(fun_mk (st:=s_code_of_again) l1 c1 k1).binds (ps:=["code"]) fun _ _ _ _ _ _ us hl=>len_1 (Q:=fun us=>bindArgs _ ⟨us,[]⟩ = pure (List.zip _ us)) (fun _=>rfl) us hl⟩
 have F_code_of_trap:FunM K mg "code_of_trap" ["code"] s_code_of_trap:=⟨_,_,fun_mk (st:=s_code_of_trap) l2 c2 k2,PySem.W.mg_of X G a2,(fun_mk (st:=s_code_of_trap) l2 c2 k2).binds (ps:=["code"]) fun _ _ _ _ _ _ us hl=>len_1 (Q:=fun us=>bindArgs _ ⟨us,[]⟩ = pure (List.zip _ us)) (fun _=>rfl) us hl⟩
 have F_part_to_begin:FunM K mg "part_to_begin" ["part", "state"] s_part_to_begin:=⟨_,_,fun_mk (st:=s_part_to_begin) l3 c3 k3,PySem.W.mg_of X G a3,(fun_mk (st:=s_part_to_begin) l3 c3 k3).binds (ps:=["part", "state"]) fun _ _ _ _ _ _ us hl=>len_2 (Q:=fun us=>bindArgs _ ⟨us,[]⟩ = pure (List.zip _ us)) (fun _ _=>rfl) us hl⟩
 have F_remaining:FunM K mg "remaining" ["part", "state"] s_remaining:=⟨_,_,fun_mk (st:=s_remaining) l4 c4 k4,PySem.W.mg_of X G a4,(fun_mk (st:=s_remaining) l4 c4 k4).binds (ps:=["part", "state"]) fun _ _ _ _ _ _ us hl=>len_2 (Q:=fun us=>bindArgs _ ⟨us,[]⟩ = pure (List.zip _ us)) (fun _ _=>rfl) us hl⟩
 have F_left_of_pair:FunM K mg "left_of_pair" ["part", "first", "second"] s_left_of_pair:=⟨_,_,fun_mk (st:=s_left_of_pair) l5 c5 k5,PySem.W.mg_of X G a5,(fun_mk (st:=s_left_of_pair) l5 c5 k5).binds (ps:=["part", "first", "second"]) fun _ _ _ _ _ _ us hl=>len_3 (Q:=fun us=>bindArgs _ ⟨us,[]⟩ = pure (List.zip _ us)) (fun _ _ _=>rfl) us hl⟩
 have F_left_of_round:FunM K mg "left_of_round" ["part", "inner"] s_left_of_round:=⟨_,_,fun_mk (st:=s_left_of_round) l6 c6 k6,PySem.W.mg_of X G a6,(fun_mk (st:=s_left_of_round) l6 c6 k6).binds (ps:=["part", "inner"]) fun _ _ _ _ _ _ us hl=>len_2 (Q:=fun us=>bindArgs _ ⟨us,[]⟩ = pure (List.zip _ us)) (fun _ _=>rfl) us hl⟩
 have F_ran:FunM K mg "ran" ["part", "state", "there"] s_ran:=⟨_,_,fun_mk (st:=s_ran) l7 c7 k7,PySem.W.mg_of X G a7,(fun_mk (st:=s_ran) l7 c7 k7).binds (ps:=["part", "state", "there"]) fun _ _ _ _ _ _ us hl=>len_3 (Q:=fun us=>bindArgs _ ⟨us,[]⟩ = pure (List.zip _ us)) (fun _ _ _=>rfl) us hl⟩
 have F_begun_instants:FunA K mg "begun_instants" "begun" ["part", "there"] s_begun_instants:=⟨_,_,fun_mk (st:=s_begun_instants) l8 c8 k8,PySem.W.mg_of X G a8,(fun_mk (st:=s_begun_instants) l8 c8 k8).binds (ps:=["part", "there"]) fun _ _ _ _ _ _ us hl=>len_2 (Q:=fun us=>bindArgs _ ⟨us,[]⟩ = pure (List.zip _ us)) (fun _ _=>rfl) us hl⟩
 have F_begun_leaf_instants:FunA K mg "begun_leaf_instants" "begun_leaf" ["part"] s_begun_leaf_instants:=⟨_,_,fun_mk (st:=s_begun_leaf_instants) l9 c9 k9,PySem.W.mg_of X G a9,(fun_mk (st:=s_begun_leaf_instants) l9 c9 k9).binds (ps:=["part"]) fun _ _ _ _ _ _ us hl=>len_1 (Q:=fun us=>bindArgs _ ⟨us,[]⟩ = pure (List.zip _ us)) (fun _=>rfl) us hl⟩
 have F_rests_left:FunM K mg "rests_left" ["part"] s_rests_left:=⟨_,_,fun_mk (st:=s_rests_left) l10 c10 k10,PySem.W.mg_of X G a10,(fun_mk (st:=s_rests_left) l10 c10 k10).binds (ps:=["part"]) fun _ _ _ _ _ _ us hl=>len_1 (Q:=fun us=>bindArgs _ ⟨us,[]⟩ = pure (List.zip _ us)) (fun _=>rfl) us hl⟩
 have F_in_turn_instants:FunA K mg "in_turn_instants" "in_turn" ["first", "second"] s_in_turn_instants:=⟨_,_,fun_mk (st:=s_in_turn_instants) l11 c11 k11,PySem.W.mg_of X G a11,(fun_mk (st:=s_in_turn_instants) l11 c11 k11).binds (ps:=["first", "second"]) fun _ _ _ _ _ _ us hl=>len_2 (Q:=fun us=>bindArgs _ ⟨us,[]⟩ = pure (List.zip _ us)) (fun _ _=>rfl) us hl⟩
 have F_side_by_side_instants:FunA K mg "side_by_side_instants" "side_by_side" ["first", "second"] s_side_by_side_instants:=⟨_,_,fun_mk (st:=s_side_by_side_instants) l12 c12 k12,PySem.W.mg_of X G a12,(fun_mk (st:=s_side_by_side_instants) l12 c12 k12).binds (ps:=["first", "second"]) fun _ _ _ _ _ _ us hl=>len_2 (Q:=fun us=>bindArgs _ ⟨us,[]⟩ = pure (List.zip _ us)) (fun _ _=>rfl) us hl⟩
 have F_repeated:FunM K mg "repeated" ["rest", "inner"] s_repeated:=⟨_,_,fun_mk (st:=s_repeated) l13 c13 k13,PySem.W.mg_of X G a13,(fun_mk (st:=s_repeated) l13 c13 k13).binds (ps:=["rest", "inner"]) fun _ _ _ _ _ _ us hl=>len_2 (Q:=fun us=>bindArgs _ ⟨us,[]⟩ = pure (List.zip _ us)) (fun _ _=>rfl) us hl⟩
 have F_walked:FunM K mg "walked" ["part", "state", "sure", "known"] s_walked:=⟨_,_,fun_mk (st:=s_walked) l14 c14 k14,PySem.W.mg_of X G a14,(fun_mk (st:=s_walked) l14 c14 k14).binds (ps:=["part", "state", "sure", "known"]) fun _ _ _ _ _ _ us hl=>len_4 (Q:=fun us=>bindArgs _ ⟨us,[]⟩ = pure (List.zip _ us)) (fun _ _ _ _=>rfl) us hl⟩
 have F_begun_walking:FunA K mg "begun_walking" "begun" ["part", "sure", "known"] s_begun_walking:=⟨_,_,fun_mk (st:=s_begun_walking) l15 c15 k15,PySem.W.mg_of X G a15,(fun_mk (st:=s_begun_walking) l15 c15 k15).binds (ps:=["part", "sure", "known"]) fun _ _ _ _ _ _ us hl=>len_3 (Q:=fun us=>bindArgs _ ⟨us,[]⟩ = pure (List.zip _ us)) (fun _ _ _=>rfl) us hl⟩
 have F_begun_leaf_walking:FunA K mg "begun_leaf_walking" "begun_leaf" ["part", "sure"] s_begun_leaf_walking:=⟨_,_,fun_mk (st:=s_begun_leaf_walking) l16 c16 k16,PySem.W.mg_of X G a16,(fun_mk (st:=s_begun_leaf_walking) l16 c16 k16).binds (ps:=["part", "sure"]) fun _ _ _ _ _ _ us hl=>len_2 (Q:=fun us=>bindArgs _ ⟨us,[]⟩ = pure (List.zip _ us)) (fun _ _=>rfl) us hl⟩
 have F_in_turn_walking:FunA K mg "in_turn_walking" "in_turn" ["first", "second"] s_in_turn_walking:=⟨_,_,fun_mk (st:=s_in_turn_walking) l17 c17 k17,PySem.W.mg_of X G a17,(fun_mk (st:=s_in_turn_walking) l17 c17 k17).binds (ps:=["first", "second"]) fun _ _ _ _ _ _ us hl=>len_2 (Q:=fun us=>bindArgs _ ⟨us,[]⟩ = pure (List.zip _ us)) (fun _ _=>rfl) us hl⟩
 have F_side_by_side_walking:FunA K mg "side_by_side_walking" "side_by_side" ["first", "second"] s_side_by_side_walking:=⟨_,_,fun_mk (st:=s_side_by_side_walking) l18 c18 k18,PySem.W.mg_of X G a18,(fun_mk (st:=s_side_by_side_walking) l18 c18 k18).binds (ps:=["first", "second"]) fun _ _ _ _ _ _ us hl=>len_2 (Q:=fun us=>bindArgs _ ⟨us,[]⟩ = pure (List.zip _ us)) (fun _ _=>rfl) us hl⟩
 have F_one_of:FunM K mg "one_of" ["first", "second"] s_one_of:=⟨_,_,fun_mk (st:=s_one_of) l19 c19 k19,PySem.W.mg_of X G a19,(fun_mk (st:=s_one_of) l19 c19 k19).binds (ps:=["first", "second"]) fun _ _ _ _ _ _ us hl=>len_2 (Q:=fun us=>bindArgs _ ⟨us,[]⟩ = pure (List.zip _ us)) (fun _ _=>rfl) us hl⟩
 have F_recoded:FunM K mg "recoded" ["inner", "codes"] s_recoded:=⟨_,_,fun_mk (st:=s_recoded) l20 c20 k20,PySem.W.mg_of X G a20,(fun_mk (st:=s_recoded) l20 c20 k20).binds (ps:=["inner", "codes"]) fun _ _ _ _ _ _ us hl=>len_2 (Q:=fun us=>bindArgs _ ⟨us,[]⟩ = pure (List.zip _ us)) (fun _ _=>rfl) us hl⟩
 have F_body_to_begin:FunM K mg "body_to_begin" ["program", "state"] s_body_to_begin:=⟨_,_,fun_mk (st:=s_body_to_begin) l21 c21 k21,PySem.W.mg_of X G a21,(fun_mk (st:=s_body_to_begin) l21 c21 k21).binds (ps:=["program", "state"]) fun _ _ _ _ _ _ us hl=>len_2 (Q:=fun us=>bindArgs _ ⟨us,[]⟩ = pure (List.zip _ us)) (fun _ _=>rfl) us hl⟩
 have F_instant:FunM K mg "instant" ["program", "state", "there"] s_instant:=⟨_,_,fun_mk (st:=s_instant) l22 c22 k22,PySem.W.mg_of X G a22,(fun_mk (st:=s_instant) l22 c22 k22).binds (ps:=["program", "state", "there"]) fun _ _ _ _ _ _ us hl=>len_3 (Q:=fun us=>bindArgs _ ⟨us,[]⟩ = pure (List.zip _ us)) (fun _ _ _=>rfl) us hl⟩
 have F_rounds:FunM K mg "rounds" ["program", "state", "coming"] s_rounds:=⟨_,_,fun_mk (st:=s_rounds) l23 c23 k23,PySem.W.mg_of X G a23,(fun_mk (st:=s_rounds) l23 c23 k23).binds (ps:=["program", "state", "coming"]) fun _ _ _ _ _ _ us hl=>len_3 (Q:=fun us=>bindArgs _ ⟨us,[]⟩ = pure (List.zip _ us)) (fun _ _ _=>rfl) us hl⟩
 have F_settled:FunM K mg "settled" ["program", "state", "coming"] s_settled:=⟨_,_,fun_mk (st:=s_settled) l24 c24 k24,PySem.W.mg_of X G a24,(fun_mk (st:=s_settled) l24 c24 k24).binds (ps:=["program", "state", "coming"]) fun _ _ _ _ _ _ us hl=>len_3 (Q:=fun us=>bindArgs _ ⟨us,[]⟩ = pure (List.zip _ us)) (fun _ _ _=>rfl) us hl⟩
 have F_signs_that_are:FunM K mg "signs_that_are" ["value", "known"] s_signs_that_are:=⟨_,_,fun_mk (st:=s_signs_that_are) l25 c25 k25,PySem.W.mg_of X G a25,(fun_mk (st:=s_signs_that_are) l25 c25 k25).binds (ps:=["value", "known"]) fun _ _ _ _ _ _ us hl=>len_2 (Q:=fun us=>bindArgs _ ⟨us,[]⟩ = pure (List.zip _ us)) (fun _ _=>rfl) us hl⟩
 have F_known_at_first:FunM K mg "known_at_first" ["program", "coming"] s_known_at_first:=⟨_,_,fun_mk (st:=s_known_at_first) l26 c26 k26,PySem.W.mg_of X G a26,(fun_mk (st:=s_known_at_first) l26 c26 k26).binds (ps:=["program", "coming"]) fun _ _ _ _ _ _ us hl=>len_2 (Q:=fun us=>bindArgs _ ⟨us,[]⟩ = pure (List.zip _ us)) (fun _ _=>rfl) us hl⟩
 have F_known_behind:FunM K mg "known_behind" ["known", "changes"] s_known_behind:=⟨_,_,fun_mk (st:=s_known_behind) l27 c27 k27,PySem.W.mg_of X G a27,(fun_mk (st:=s_known_behind) l27 c27 k27).binds (ps:=["known", "changes"]) fun _ _ _ _ _ _ us hl=>len_2 (Q:=fun us=>bindArgs _ ⟨us,[]⟩ = pure (List.zip _ us)) (fun _ _=>rfl) us hl⟩
 have F_changes_by:FunM K mg "changes_by" ["body", "known"] s_changes_by:=⟨_,_,fun_mk (st:=s_changes_by) l28 c28 k28,PySem.W.mg_of X G a28,(fun_mk (st:=s_changes_by) l28 c28 k28).binds (ps:=["body", "known"]) fun _ _ _ _ _ _ us hl=>len_2 (Q:=fun us=>bindArgs _ ⟨us,[]⟩ = pure (List.zip _ us)) (fun _ _=>rfl) us hl⟩
 have F_comings:FunM K mg "comings" ["came"] s_comings:=⟨_,_,fun_mk (st:=s_comings) l29 c29 k29,PySem.W.mg_of X G a29,(fun_mk (st:=s_comings) l29 c29 k29).binds (ps:=["came"]) fun _ _ _ _ _ _ us hl=>len_1 (Q:=fun us=>bindArgs _ ⟨us,[]⟩ = pure (List.zip _ us)) (fun _=>rfl) us hl⟩
 have F_add_state:FunM K mg "add_state" ["states", "state"] s_add_state:=⟨_,_,fun_mk (st:=s_add_state) l30 c30 k30,PySem.W.mg_of X G a30,(fun_mk (st:=s_add_state) l30 c30 k30).binds (ps:=["states", "state"]) fun _ _ _ _ _ _ us hl=>len_2 (Q:=fun us=>bindArgs _ ⟨us,[]⟩ = pure (List.zip _ us)) (fun _ _=>rfl) us hl⟩
 have F_looked:FunM K mg "looked" ["program"] s_looked:=⟨_,_,fun_mk (st:=s_looked) l31 c31 k31,PySem.W.mg_of X G a31,(fun_mk (st:=s_looked) l31 c31 k31).binds (ps:=["program"]) fun _ _ _ _ _ _ us hl=>len_1 (Q:=fun us=>bindArgs _ ⟨us,[]⟩ = pure (List.zip _ us)) (fun _=>rfl) us hl⟩
 have F_plain:FunM K mg "plain" ["named"] s_plain:=⟨_,_,fun_mk (st:=s_plain) l32 c32 k32,PySem.W.mg_of X G a32,(fun_mk (st:=s_plain) l32 c32 k32).binds (ps:=["named"]) fun _ _ _ _ _ _ us hl=>len_1 (Q:=fun us=>bindArgs _ ⟨us,[]⟩ = pure (List.zip _ us)) (fun _=>rfl) us hl⟩
 have F_plain_part:FunM K mg "plain_part" ["part", "signs", "traps", "numbers"] s_plain_part:=⟨_,_,fun_mk (st:=s_plain_part) l33 c33 k33,PySem.W.mg_of X G a33,(fun_mk (st:=s_plain_part) l33 c33 k33).binds (ps:=["part", "signs", "traps", "numbers"]) fun _ _ _ _ _ _ us hl=>len_4 (Q:=fun us=>bindArgs _ ⟨us,[]⟩ = pure (List.zip _ us)) (fun _ _ _ _=>rfl) us hl⟩
 have F_plain_weak:FunM K mg "plain_weak" ["part", "signs", "traps", "numbers"] s_plain_weak:=⟨_,_,fun_mk (st:=s_plain_weak) l34 c34 k34,PySem.W.mg_of X G a34,(fun_mk (st:=s_plain_weak) l34 c34 k34).binds (ps:=["part", "signs", "traps", "numbers"]) fun _ _ _ _ _ _ us hl=>len_4 (Q:=fun us=>bindArgs _ ⟨us,[]⟩ = pure (List.zip _ us)) (fun _ _ _ _=>rfl) us hl⟩
 have F_awaited:FunM K mg "awaited" ["sign", "numbers"] s_awaited:=⟨_,_,fun_mk (st:=s_awaited) l35 c35 k35,PySem.W.mg_of X G a35,(fun_mk (st:=s_awaited) l35 c35 k35).binds (ps:=["sign", "numbers"]) fun _ _ _ _ _ _ us hl=>len_2 (Q:=fun us=>bindArgs _ ⟨us,[]⟩ = pure (List.zip _ us)) (fun _ _=>rfl) us hl⟩
 have F_plain_leaf:FunM K mg "plain_leaf" ["part", "signs", "traps", "numbers"] s_plain_leaf:=⟨_,_,fun_mk (st:=s_plain_leaf) l36 c36 k36,PySem.W.mg_of X G a36,(fun_mk (st:=s_plain_leaf) l36 c36 k36).binds (ps:=["part", "signs", "traps", "numbers"]) fun _ _ _ _ _ _ us hl=>len_4 (Q:=fun us=>bindArgs _ ⟨us,[]⟩ = pure (List.zip _ us)) (fun _ _ _ _=>rfl) us hl⟩
 have F__law_mixed:FunM K mg "_law_mixed" ["_law_cell"] s__law_mixed:=⟨_,_,fun_mk (st:=s__law_mixed) l37 c37 k37,PySem.W.mg_of X G a37,(fun_mk (st:=s__law_mixed) l37 c37 k37).binds (ps:=["_law_cell"]) fun _ _ _ _ _ _ us hl=>len_1 (Q:=fun us=>bindArgs _ ⟨us,[]⟩ = pure (List.zip _ us)) (fun _=>rfl) us hl⟩
 have F__law_loop:FunM K mg "_law_loop" ["_law_number", "_law_rests"] s__law_loop:=⟨_,_,fun_mk (st:=s__law_loop) l38 c38 k38,PySem.W.mg_of X G a38,(fun_mk (st:=s__law_loop) l38 c38 k38).binds (ps:=["_law_number", "_law_rests"]) fun _ _ _ _ _ _ us hl=>len_2 (Q:=fun us=>bindArgs _ ⟨us,[]⟩ = pure (List.zip _ us)) (fun _ _=>rfl) us hl⟩
 have F__law_divisor:FunM K mg "_law_divisor" ["_law_one", "_law_other"] s__law_divisor:=⟨_,_,fun_mk (st:=s__law_divisor) l39 c39 k39,PySem.W.mg_of X G a39,(fun_mk (st:=s__law_divisor) l39 c39 k39).binds (ps:=["_law_one", "_law_other"]) fun _ _ _ _ _ _ us hl=>len_2 (Q:=fun us=>bindArgs _ ⟨us,[]⟩ = pure (List.zip _ us)) (fun _ _=>rfl) us hl⟩
 have F__law_together:FunM K mg "_law_together" ["_law_sizes"] s__law_together:=⟨_,_,fun_mk (st:=s__law_together) l40 c40 k40,PySem.W.mg_of X G a40,(fun_mk (st:=s__law_together) l40 c40 k40).binds (ps:=["_law_sizes"]) fun _ _ _ _ _ _ us hl=>len_1 (Q:=fun us=>bindArgs _ ⟨us,[]⟩ = pure (List.zip _ us)) (fun _=>rfl) us hl⟩
 have F__law_asked:FunM K mg "_law_asked" ["_law_program"] s__law_asked:=⟨_,_,fun_mk (st:=s__law_asked) l41 c41 k41,PySem.W.mg_of X G a41,(fun_mk (st:=s__law_asked) l41 c41 k41).binds (ps:=["_law_program"]) fun _ _ _ _ _ _ us hl=>len_1 (Q:=fun us=>bindArgs _ ⟨us,[]⟩ = pure (List.zip _ us)) (fun _=>rfl) us hl⟩
 have F__law_states:FunM K mg "_law_states" ["_law_states_here", "_law_sizes"] s__law_states:=⟨_,_,fun_mk (st:=s__law_states) l42 c42 k42,PySem.W.mg_of X G a42,(fun_mk (st:=s__law_states) l42 c42 k42).binds (ps:=["_law_states_here", "_law_sizes"]) fun _ _ _ _ _ _ us hl=>len_2 (Q:=fun us=>bindArgs _ ⟨us,[]⟩ = pure (List.zip _ us)) (fun _ _=>rfl) us hl⟩
 have F_law:=fun_mk (st:=s_law) l43 c43 k43
 refine ⟨PySem.W.fnOf "law" "law" (defArgs s_law) (defBody s_law) (defScope s_law) .none kV43 dc43 pm43 an43 cd43 ct43,fun s v=>.of_eq rfl,fun base _ _=>?_⟩
 have nr_ENDED:RelV (.int 0) (Value.int 0 tk_ENDED):=⟨_,rfl⟩
 have nr_RESTS:RelV (.int 1) (Value.int 1 tk_RESTS):=⟨_,rfl⟩
 have nr_LEAVES:RelV (.int 2) (Value.int 2 tk_LEAVES):=⟨_,rfl⟩
 have TR:TxtR K mg a_NOTHING_remaining a_PAIRS a_ROUND (Value.int 0 tk_ENDED) (Value.int 1 tk_RESTS) (Value.int 2 tk_LEAVES):={ toTxt:=T,m_ENDED:=nm_ENDED,r_ENDED:=nr_ENDED,m_RESTS:=nm_RESTS,r_RESTS:=nr_RESTS,m_LEAVES:=nm_LEAVES,r_LEAVES:=nr_LEAVES,m_NOTHING:=cm_NOTHING_remaining,r_NOTHING:=rfl,mN:=cst_NOTHING_remaining,m_PAIRS:=cm_PAIRS,r_PAIRS:=rfl,mP:=cst_PAIRS,m_ROUND:=cm_ROUND,r_ROUND:=rfl,mR:=cst_ROUND }
 have CRem:=rem_all (P:=l.prog) (w:=w) (base:=base) F_remaining TR (ok_LP F_left_of_pair TR) (ok_LR F_left_of_round TR) 40
 have CBeg:=beg_all (P:=l.prog) (w:=w) (base:=base) F_begun_instants TR (ok_bl F_begun_leaf_instants TR (ok_leafCode F_leaf_code TR) (ok_rl F_rests_left TR)) (ok_turn F_in_turn_instants TR) (ok_side F_side_by_side_instants TR) (ok_rep F_repeated TR (ok_agC F_code_of_again TR)) (ok_trC F_code_of_trap TR) 40
 have CPtb:=ok_ptb F_part_to_begin TR CRem
 have CRanG:=ok_ranG F_ran TR CPtb CBeg
 have CMix:=ok_mixed (P:=l.prog) (w:=w) (base:=base) F__law_mixed
 have CWb:=wb_all (P:=l.prog) (w:=w) (base:=base) F_begun_walking TR (ok_leafW F_begun_leaf_walking TR (ok_leafCode F_leaf_code TR)) (ok_turnW F_in_turn_walking TR) (ok_sideW F_side_by_side_walking TR) (ok_oneW F_one_of TR) (ok_recW F_recoded TR) (ok_agC F_code_of_again TR) (ok_trC F_code_of_trap TR) 40
 have CWalkG:=ok_walkG F_walked TR CPtb CWb
 have CWalk:=ok_walk CWalkG
 have CBtb:=ok_btb (P:=l.prog) (w:=w) (base:=base) F_body_to_begin TR CRem
 have CInst:=ok_inst F_instant TR CBtb (ok_ran0 CRanG)
 have CWalk0:=ok_walk0 CWalkG
 have CFirst:=ok_first (P:=l.prog) (w:=w) (base:=base) F_known_at_first T
 have CBeh:=ok_beh (P:=l.prog) (w:=w) (base:=base) F_known_behind T
 have CRnd:=ok_rnd F_rounds T CBtb CFirst CBeh (ok_chg F_changes_by T CWalk0 (ok_are F_signs_that_are T))
 have CSet:=ok_set F_settled T CFirst CBeh CRnd
 have TP:Pln.TxtP K mg C a_NOTHING_plain:={ toTxt:=T,cl:=Cl,nS:=nA_signs,nR:=nA_rests,m_Numbers:=mC,m_NOTHING:=cm_NOTHING_plain,r_NOTHING:=rfl,mN:=cst_NOTHING_plain }
 have GI:=Pln.ok_init (P:=l.prog) (w:=w) (base:=base) Fm_init TP
 have MR:MethM l.prog w K mg base 1 C "new_rest" ["self"] (Pln.spNewR C):=⟨_,_,Pln.ok_newR Fm_new_rest TP,bm_new_rest,mm_new_rest,Cl⟩
 have MS:MethM l.prog w K mg base 1 C "new_sign" ["self"] (Pln.spNewS C):=⟨_,_,Pln.ok_newS Fm_new_sign TP,bm_new_sign,mm_new_sign,Cl⟩
 have CA:=Pln.ok_awaited F_awaited TP MR
 have CL:=Pln.ok_leafP F_plain_leaf TP MR CA
 have CP:=Pln.ok_plain F_plain TP MkC GI bm_init (Pln.part_all F_plain_part F_plain_weak TP CL CA MR MS 100).1
 have M:=ok_mixed (P:=l.prog) (w:=w) (base:=base) F__law_mixed
 have CLook:=ok_look F_looked T (ok_com F_comings T) CSet CInst (ok_are F_signs_that_are T) (ok_addS F_add_state T mm_TooMany ex_TooMany ⟨_,nm_MOST_STATES⟩)
 exact ok_law F_law T M (ok_loop F__law_loop T) (ok_tog F__law_together (ok_div F__law_divisor)) CP (ok_asked F__law_asked mm_TooMany em_TooMany_TooMany CLook) (ok_states F__law_states T)
theorem walk {l:PySem.W.OpenLaw} {q:Program} {loose:List Str} {XP:(Str→Option Value)→Heap→Prop} {YP:World→Heap→Prop} {d:DefRec} {K:Params→PySem.W.Frag} (hn:l.most = some 63) (hdf:d.params.defaults = [])
  (hY:∀ (w:World) (h:Heap),YP w h→(K w.params).In h)
  (F:∀ (w:World) (mg:Str→Option Value) (fa:Addr) (h:Heap),(K w.params).In h→h.Ns mainGlobals mg→mg d.name = some (.ref fa) →
   ∃ fd:FuncData,(∀ (s:Shared) (u:Value),BindsTo s fd ⟨[u],[]⟩ [("_law_script", u)])∧∀ base:Heap,(K w.params).In base→base.Ns mainGlobals mg→FnOk l.prog w (K w.params) mg base CX0 110 fa fd ["_law_script"] (spLaw (K w.params))) :
  PySem.W.WalkO q loose XP YP l.row.toRowW d [] (fun f vs=>PySem.call f vs) :=
 L2.walk_of (n:=63) (k:=110) (x:= "_law_script") (CX:=fun _=>CX0) (sp:=fun w=>spLaw (K w.params)) hn (by decide) hdf ⟨rfl,by decide,by decide⟩ hY F (fun _ _ a ns hl _ hS=>⟨a,ns,rfl,hS,hl,fun _=>rfl⟩) fun _ _ _ _ _ z=>z
end My
end
set_option Elab.async false
open PySem PySem.W PyProof.Rows L2
def PySem.W.Fast.tw13399203350345369601:PySem.Program:=PySem.Challenge.pw_signalwise_k64_too_many
theorem PySem.W.Fast.te13399203350345369601:PySem.Challenge.pw_signalwise_k64_too_many = PySem.W.Fast.tw13399203350345369601:=rfl
def PySem.W.Fast.tw7083735839953942710:Unit:=()
def PySem.W.Fast.tw8633261186694553285:Unit:=()
def PySem.W.Fast.tw12474896904486335552:Unit:=()
def PySem.W.Fast.tw14292954823433542294:Unit:=()
def PySem.W.Fast.tw9850293453656281158:Unit:=()
def PySem.W.Fast.tw10420765524130019057:Unit:=()
def PySem.W.Fast.tw11020531647461570554:Unit:=()
def PySem.W.Fast.tw9252501282826687084:Unit:=()
def PySem.W.Fast.tw4626740604837079198:Unit:=()
def PySem.W.Fast.tw10992692340772224760:Unit:=()
def PySem.W.Fast.tw9036722323576180399:Unit:=()
def PySem.W.Fast.tw17107730971444159873:Unit:=()
def PySem.W.Fast.tw3820456063126124358:Unit:=()
def PySem.W.Fast.tw3168730006717233124:Unit:=()
def PySem.W.Fast.tw15808938482147134889:Unit:=()
def PySem.W.Fast.tw2735051497879809584:Unit:=()
def PySem.W.Fast.tw5688393471987632648:Unit:=()
def PySem.W.Fast.tw4509710321111782919:Unit:=()
def PySem.W.Fast.tw3122952852178008102:Unit:=()
def PySem.W.Fast.tw7768554229493878857:Unit:=()
def PySem.W.Fast.tw9792106973784688905:Unit:=()
def PySem.W.Fast.tw5224389669594301731:Unit:=()
def PySem.W.Fast.tw5547483254050934724:Unit:=()
def PySem.W.Fast.tw2119991936266444394:Unit:=()
def PySem.W.Fast.tw9065537816857574406:Unit:=()
def PySem.W.Fast.tw2327929695302142285:Unit:=()
def PySem.W.Fast.tw15118761008466254879:Unit:=()
def PySem.W.Fast.tw11630783402836084851:Unit:=()
def PySem.W.Fast.tw2332080903889177043:Unit:=()
def PySem.W.Fast.tw5050032396757524761:Unit:=()
def PySem.W.Fast.tw13938331582388863253:Unit:=()
def PySem.W.Fast.tw17203020146243244881:Unit:=()
def PySem.W.Fast.tw12889050513262870482:Unit:=()
def PySem.W.Fast.tw16111709216119956966:Unit:=()
def PySem.W.Fast.tw1327860410881933053:Unit:=()
def PySem.W.Fast.tw17385708514348784078:Unit:=()
def PySem.W.Fast.tw8812681316196020050:Unit:=()
def PySem.W.Fast.tw16327925309375505786:Unit:=()
def PySem.W.Fast.tw6612524797325044036:Unit:=()
def PySem.W.Fast.tw8096833976712013726:Unit:=()
def PySem.W.Fast.tw2948182284062652128:Unit:=()
def PySem.W.Fast.tw12470612957709774823:Unit:=()
def PySem.W.Fast.tw12981252721990124096:Unit:=()
def PySem.W.Fast.tw7113232333729054242:Unit:=()
def PySem.W.Fast.tw7488341551241738681:Unit:=()
def PySem.W.Fast.tw4115089741335007444:Unit:=()
def PySem.W.Fast.tw5489580030397130423:Unit:=()
def PySem.W.Fast.tw17362035029984438833:Unit:=()
def PySem.W.Fast.tw13142980779564752386:Unit:=()
def PySem.W.Fast.tw16093631155697867647:Unit:=()
def PySem.W.Fast.tw820722232428371517:Unit:=()
def PySem.W.Fast.tw4634850789783918339:Unit:=()
def PySem.W.Fast.tw3896396958906404098:Unit:=()
def PySem.W.Fast.tw17606518298868547630:Unit:=()
def PySem.W.Fast.tw16333818546021102628:Unit:=()
def PySem.W.Fast.tw4542341165810588789:Unit:=()
set_option maxRecDepth 100000 in
set_option maxHeartbeats 0 in
theorem PySem.Challenge.cw_signalwise_k64_too_many_holds : PySem.Challenge.rw_signalwise_k64_too_many.Holds := by
 w_on; o_law; k_head; (case hw=>w_witness2)
 k_fill
 refine My.walk (l:=PySem.Challenge.rw_signalwise_k64_too_many) rfl rfl (fun w h Y=>PySem.W.kIn_of Y) ?F
 case F =>
  intro w mg fa h KX G hmg
  refine' My.all_mk KX G hmg ?a0 ?l0 ?c0 ?k0 ?a1 ?l1 ?c1 ?k1 ?a2 ?l2 ?c2 ?k2 ?a3 ?l3 ?c3 ?k3 ?a4 ?l4 ?c4 ?k4 ?a5 ?l5 ?c5 ?k5 ?a6 ?l6 ?c6 ?k6 ?a7 ?l7 ?c7 ?k7 ?a8 ?l8 ?c8 ?k8 ?a9 ?l9 ?c9 ?k9 ?a10 ?l10 ?c10 ?k10 ?a11 ?l11 ?c11 ?k11 ?a12 ?l12 ?c12 ?k12 ?a13 ?l13 ?c13 ?k13 ?a14 ?l14 ?c14 ?k14 ?a15 ?l15 ?c15 ?k15 ?a16 ?l16 ?c16 ?k16 ?a17 ?l17 ?c17 ?k17 ?a18 ?l18 ?c18 ?k18 ?a19 ?l19 ?c19 ?k19 ?a20 ?l20 ?c20 ?k20 ?a21 ?l21 ?c21 ?k21 ?a22 ?l22 ?c22 ?k22 ?a23 ?l23 ?c23 ?k23 ?a24 ?l24 ?c24 ?k24 ?a25 ?l25 ?c25 ?k25 ?a26 ?l26 ?c26 ?k26 ?a27 ?l27 ?c27 ?k27 ?a28 ?l28 ?c28 ?k28 ?a29 ?l29 ?c29 ?k29 ?a30 ?l30 ?c30 ?k30 ?a31 ?l31 ?c31 ?k31 ?a32 ?l32 ?c32 ?k32 ?a33 ?l33 ?c33 ?k33 ?a34 ?l34 ?c34 ?k34 ?a35 ?l35 ?c35 ?k35 ?a36 ?l36 ?c36 ?k36 ?a37 ?l37 ?c37 ?k37 ?a38 ?l38 ?c38 ?k38 ?a39 ?l39 ?c39 ?k39 ?a40 ?l40 ?c40 ?k40 ?a41 ?l41 ?c41 ?k41 ?a42 ?l42 ?c42 ?k42 ?a43 ?l43 ?c43 ?k43 ?aC ?ma0 ?mi0 ?ml0 ?mc0 ?mk0 ?ma1 ?mi1 ?ml1 ?mc1 ?mk1 ?ma2 ?mi2 ?ml2 ?mc2 ?mk2 ?pg ?hd ?po ?sa ?mk ?kc ?nA_signs ?nA_rests ?ca_NOTHING_remaining ?cl_NOTHING_remaining ?cs_NOTHING_remaining ?cv_NOTHING_remaining ?ca_NOTHING_plain ?cl_NOTHING_plain ?cs_NOTHING_plain ?cv_NOTHING_plain ?ca_PAIRS ?cl_PAIRS ?cs_PAIRS ?cv_PAIRS ?ca_ROUND ?cl_ROUND ?cs_ROUND ?cv_ROUND ?cn_ENDED ?cn_RESTS ?cn_LEAVES ?cn_MOST_STATES ?ea_TooMany ?ex_TooMany ?em_TooMany_TooMany ?z_ValueError ?z_dict ?z_enumerate ?z_isinstance ?z_len ?z_list ?z_max ?z_min ?z_range ?z_set ?z_sorted ?z_tuple ?z_zip
  (case a0=>k_is)
  (case l0=>k_is)
  (case c0=>k_is)
  (case k0=>k_is)
  (case a1=>k_is)
  (case l1=>k_is)
  (case c1=>k_is)
  (case k1=>k_is)
  (case a2=>k_is)
  (case l2=>k_is)
  (case c2=>k_is)
  (case k2=>k_is)
  (case a3=>k_is)
  (case l3=>k_is)
  (case c3=>k_is)
  (case k3=>k_is)
  (case a4=>k_is)
  (case l4=>k_is)
  (case c4=>k_is)
  (case k4=>k_is)
  (case a5=>k_is)
  (case l5=>k_is)
  (case c5=>k_is)
  (case k5=>k_is)
  (case a6=>k_is)
  (case l6=>k_is)
  (case c6=>k_is)
  (case k6=>k_is)
  (case a7=>k_is)
  (case l7=>k_is)
  (case c7=>k_is)
  (case k7=>k_is)
  (case a8=>k_is)
  (case l8=>k_is)
  (case c8=>k_is)
  (case k8=>k_is)
  (case a9=>k_is)
  (case l9=>k_is)
  (case c9=>k_is)
  (case k9=>k_is)
  (case a10=>k_is)
  (case l10=>k_is)
  (case c10=>k_is)
  (case k10=>k_is)
  (case a11=>k_is)
  (case l11=>k_is)
  (case c11=>k_is)
  (case k11=>k_is)
  (case a12=>k_is)
  (case l12=>k_is)
  (case c12=>k_is)
  (case k12=>k_is)
  (case a13=>k_is)
  (case l13=>k_is)
  (case c13=>k_is)
  (case k13=>k_is)
  (case a14=>k_is)
  (case l14=>k_is)
  (case c14=>k_is)
  (case k14=>k_is)
  (case a15=>k_is)
  (case l15=>k_is)
  (case c15=>k_is)
  (case k15=>k_is)
  (case a16=>k_is)
  (case l16=>k_is)
  (case c16=>k_is)
  (case k16=>k_is)
  (case a17=>k_is)
  (case l17=>k_is)
  (case c17=>k_is)
  (case k17=>k_is)
  (case a18=>k_is)
  (case l18=>k_is)
  (case c18=>k_is)
  (case k18=>k_is)
  (case a19=>k_is)
  (case l19=>k_is)
  (case c19=>k_is)
  (case k19=>k_is)
  (case a20=>k_is)
  (case l20=>k_is)
  (case c20=>k_is)
  (case k20=>k_is)
  (case a21=>k_is)
  (case l21=>k_is)
  (case c21=>k_is)
  (case k21=>k_is)
  (case a22=>k_is)
  (case l22=>k_is)
  (case c22=>k_is)
  (case k22=>k_is)
  (case a23=>k_is)
  (case l23=>k_is)
  (case c23=>k_is)
  (case k23=>k_is)
  (case a24=>k_is)
  (case l24=>k_is)
  (case c24=>k_is)
  (case k24=>k_is)
  (case a25=>k_is)
  (case l25=>k_is)
  (case c25=>k_is)
  (case k25=>k_is)
  (case a26=>k_is)
  (case l26=>k_is)
  (case c26=>k_is)
  (case k26=>k_is)
  (case a27=>k_is)
  (case l27=>k_is)
  (case c27=>k_is)
  (case k27=>k_is)
  (case a28=>k_is)
  (case l28=>k_is)
  (case c28=>k_is)
  (case k28=>k_is)
  (case a29=>k_is)
  (case l29=>k_is)
  (case c29=>k_is)
  (case k29=>k_is)
  (case a30=>k_is)
  (case l30=>k_is)
  (case c30=>k_is)
  (case k30=>k_is)
  (case a31=>k_is)
  (case l31=>k_is)
  (case c31=>k_is)
  (case k31=>k_is)
  (case a32=>k_is)
  (case l32=>k_is)
  (case c32=>k_is)
  (case k32=>k_is)
  (case a33=>k_is)
  (case l33=>k_is)
  (case c33=>k_is)
  (case k33=>k_is)
  (case a34=>k_is)
  (case l34=>k_is)
  (case c34=>k_is)
  (case k34=>k_is)
  (case a35=>k_is)
  (case l35=>k_is)
  (case c35=>k_is)
  (case k35=>k_is)
  (case a36=>k_is)
  (case l36=>k_is)
  (case c36=>k_is)
  (case k36=>k_is)
  (case a37=>k_is)
  (case l37=>k_is)
  (case c37=>k_is)
  (case k37=>k_is)
  (case a38=>k_is)
  (case l38=>k_is)
  (case c38=>k_is)
  (case k38=>k_is)
  (case a39=>k_is)
  (case l39=>k_is)
  (case c39=>k_is)
  (case k39=>k_is)
  (case a40=>k_is)
  (case l40=>k_is)
  (case c40=>k_is)
  (case k40=>k_is)
  (case a41=>k_is)
  (case l41=>k_is)
  (case c41=>k_is)
  (case k41=>k_is)
  (case a42=>k_is)
  (case l42=>k_is)
  (case c42=>k_is)
  (case k42=>k_is)
  (case a43=>k_is)
  (case l43=>k_is)
  (case c43=>k_is)
  (case k43=>k_is)
  (case aC=>k_is)
  (case ma0=>k_is)
  (case mi0=>k_is)
  (case ml0=>k_is)
  (case mc0=>k_is)
  (case mk0=>k_is)
  (case ma1=>k_is)
  (case mi1=>k_is)
  (case ml1=>k_is)
  (case mc1=>k_is)
  (case mk1=>k_is)
  (case ma2=>k_is)
  (case mi2=>k_is)
  (case ml2=>k_is)
  (case mc2=>k_is)
  (case mk2=>k_is)
  (case pg=>k_is)
  (case hd=>k_is)
  (case po=>k_is)
  (case sa=>k_is)
  (case mk=>k_is)
  (case kc=>k_is)
  (case nA_signs=>k_is)
  (case nA_rests=>k_is)
  (case ca_NOTHING_remaining=>k_is)
  (case cl_NOTHING_remaining=>k_is)
  (case cs_NOTHING_remaining=>decide)
  (case cv_NOTHING_remaining=>exact .cons ⟨_,rfl⟩ (.nil))
  (case ca_NOTHING_plain=>k_is)
  (case cl_NOTHING_plain=>k_is)
  (case cs_NOTHING_plain=>decide)
  (case cv_NOTHING_plain=>exact .cons ⟨_,rfl⟩ (.nil))
  (case ca_PAIRS=>k_is)
  (case cl_PAIRS=>k_is)
  (case cs_PAIRS=>decide)
  (case cv_PAIRS=>exact .cons ⟨_,rfl⟩ (.cons ⟨_,rfl⟩ (.cons ⟨_,rfl⟩ (.nil))))
  (case ca_ROUND=>k_is)
  (case cl_ROUND=>k_is)
  (case cs_ROUND=>decide)
  (case cv_ROUND=>exact .cons ⟨_,rfl⟩ (.cons ⟨_,rfl⟩ (.cons ⟨_,rfl⟩ (.cons ⟨_,rfl⟩ (.nil)))))
  (case cn_ENDED=>k_is)
  (case cn_RESTS=>k_is)
  (case cn_LEAVES=>k_is)
  (case cn_MOST_STATES=>k_is)
  (case ea_TooMany=>k_is)
  (case ex_TooMany=>k_exc)
  (case em_TooMany_TooMany=>kts_exm)
  (case z_ValueError=>k_is)
  (case z_dict=>k_is)
  (case z_enumerate=>k_is)
  (case z_isinstance=>k_is)
  (case z_len=>k_is)
  (case z_list=>k_is)
  (case z_max=>k_is)
  (case z_min=>k_is)
  (case z_range=>k_is)
  (case z_set=>k_is)
  (case z_sorted=>k_is)
  (case z_tuple=>k_is)
  (case z_zip=>k_is)
#print axioms PySem.Challenge.cw_signalwise_k64_too_many_holds
