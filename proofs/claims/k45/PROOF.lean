import PyProof.Rows.All
import Wide.All
import OpenK.AllK
import Wide.FinOn
import Lean
import PyProof.EqAt
import PyProof.EqKinds
import PyProof.TupleCall
import PyProof.NeKinds
import PyProof.EnumMake
import PyProof.Draws
import PyProof.P3Eq
import PyProof.NeData
import PyProof.ReprRoads
import PyProof.CallFns
import PyProof.SliceSyntax
import PyProof.AutoIntG2
import PyProof.SumWalk
import PyProof.ConsumeWalk
import PyProof.Rows.TupIter
import PyProof.DictRoadsH
import PyProof.DictWalks
import KE.KDictList
import KE.KNest
import PySem.Challenge.RW_contactnets_k45_whole_trees
set_option Elab.async false
set_option linter.all false
set_option genSizeOf false
set_option maxRecDepth 100000
set_option maxHeartbeats 1000000
namespace L2
open PySem PySem.Spec PyProof.Rows
noncomputable abbrev Key:=Sum Int Str
noncomputable def keyIs:Key→Value→Bool
 | .inl k,v=>Value.isInt k v
 | .inr x,v=>Value.isStrOf x v
noncomputable def keyH (w:World):Key→Int
 | .inl k=>hashInt k
 | .inr x=>hashStr w x
theorem zAz:∀ {k:Key}{v:Value},keyIs k v=true→(∃ i t,k=Sum.inl i∧v=Value.int i t)∨(∃ x t,k=Sum.inr x∧v=Value.str x t)
 | .inl i,v,h=>by
  obtain ⟨t,e⟩:=Value.isInt_shape (k:=i) (v:=v) h
  exact .inl ⟨i,t,rfl,e⟩
 | .inr x,v,h=>by
  obtain ⟨t,e⟩:=Value.isStrOf_shape (x:=x) (v:=v) h
  exact .inr ⟨x,t,rfl,e⟩
theorem keyIs_int (i:Int) (t:Tok):keyIs (.inl i) (.int i t)=true:=by simp [keyIs,Value.isInt]
theorem keyIs_str (x:Str) (t:Tok):keyIs (.inr x) (.str x t)=true:=by simp [keyIs,Value.isStrOf]
theorem key_ll (a b:Int):decide ((Sum.inl a:Key)=Sum.inl b)=(a == b):=by
 by_cases e:a=b
 ·subst e; simp
 ·have h:¬ (Sum.inl a:Key)=Sum.inl b:=fun q=>e (Sum.inl.inj q)
  rw [decide_eq_false h]
  exact (beq_eq_false_iff_ne.mpr e).symm
theorem key_rr (a b:Str):decide ((Sum.inr a:Key)=Sum.inr b)=decide (a=b):=by
 by_cases e:a=b
 ·subst e; simp
 ·have h:¬ (Sum.inr a:Key)=Sum.inr b:=fun q=>e (Sum.inr.inj q)
  rw [decide_eq_false h,decide_eq_false e]
theorem key_lr (a:Int) (b:Str):decide ((Sum.inl a:Key)=Sum.inr b)=false:=decide_eq_false (fun q=>nomatch q)
theorem key_rl (a:Str) (b:Int):decide ((Sum.inr a:Key)=Sum.inl b)=false:=decide_eq_false (fun q=>nomatch q)
noncomputable def zAF (prog:Program) (w:World):PySem.KeyKind prog w Key where
 is:=keyIs
 hash:=keyH w
 inj:=fun v a b ha hb=>by
  rcases zAz ha with ⟨i,t,rfl,rfl⟩ | ⟨x,t,rfl,rfl⟩
  ·rcases zAz hb with ⟨j,u,rfl,e⟩ | ⟨y,u,rfl,e⟩
   ·injection e with e1 _; rw [e1]
   ·exact nomatch e
  ·rcases zAz hb with ⟨j,u,rfl,e⟩ | ⟨y,u,rfl,e⟩
   ·exact nomatch e
   ·injection e with e1 _; rw [e1]
 byValue:=fun k v h=>by
  rcases zAz h with ⟨i,t,rfl,rfl⟩ | ⟨x,t,rfl,rfl⟩ <;> rfl
 pyHash:=fun hv h=>by
  rcases zAz hv with ⟨i,t,rfl,rfl⟩ | ⟨x,t,rfl,rfl⟩
  ·exact wpAny_pyHash_int h
  ·exact wpAny_pyHash_str h
 eqBool:=fun hu hv h=>by
  rcases zAz hu with ⟨i,t,rfl,rfl⟩ | ⟨x,t,rfl,rfl⟩
  ·rcases zAz hv with ⟨j,u,rfl,rfl⟩ | ⟨y,u,rfl,rfl⟩
   ·rw [key_ll] at h; exact wpAny_eqBool_int h
   ·rw [key_lr] at h; exact SeqAt.EqAt.int_str i t y u _ _ _ _ h
  ·rcases zAz hv with ⟨j,u,rfl,rfl⟩ | ⟨y,u,rfl,rfl⟩
   ·rw [key_rl] at h; exact SeqAt.EqAt.str_int x t j u _ _ _ _ h
   ·rw [key_rr] at h; exact wpAny_eqBool_str h
 «strs»:=fun k x t v h=>by
  rcases zAz h with ⟨i,u,rfl,e⟩ | ⟨y,u,rfl,e⟩
  ·exact nomatch e
  ·injection e with e1 _
   subst e1
   cases v <;> rfl
theorem mixKind_int (prog:Program) (w:World) (i:Int) (t:Tok):(zAF prog w).is (.inl i) (.int i t)=true:=keyIs_int i t
theorem mixKind_str (prog:Program) (w:World) (x:Str) (t:Tok):(zAF prog w).is (.inr x) (.str x t)=true:=keyIs_str x t
inductive V where
 | non | bl (b:Bool) | int (i:Int) | str (x:Str) | byt (b:Array UInt8) | flt (b:UInt64) | ref (a:Addr) | ty (n:String)
 deriving DecidableEq
noncomputable def RelV:V→Value→Prop
 | .non,u=>u=Value.none
 | .bl b,u=>u=Value.bool b
 | .int i,u=>∃ t,u=Value.int i t
 | .str x,u=>∃ t,u=Value.str x t
 | .byt b,u=>∃ t,u=Value.bytes b t
 | .flt b,u=>∃ t,u=Value.float b t
 | .ref a,u=>u=Value.ref a
 | .ty n,u=>u=Value.type n
noncomputable abbrev Vals:List V→List Value→Prop:=Paired RelV
theorem Vals.length {xs:List V}{us:List Value} (r:Vals xs us):xs.length=us.length:=Paired.length r
theorem Vals.get:∀ {xs:List V}{us:List Value}{i:Nat}{x:V},Vals xs us→xs[i]?=some x→∃ u,us[i]?=some u∧RelV x u
 | _,_,_,_,.nil,e=>by simp at e
 | _,_,0,_,.cons r _,e=>by simp at e; subst e; exact ⟨_,rfl,r⟩
 | _,_,i+1,x,.cons _ t,e=>by
  obtain ⟨u,h1,h2⟩:=Vals.get (i:=i) (x:=x) t (by simpa using e)
  exact ⟨u,by simpa using h1,h2⟩
theorem Vals.set {x:V}{u:Value} (r:RelV x u):∀ {xs:List V}{us:List Value} (i:Nat),Vals xs us→Vals (xs.set i x) (us.set i u)
 | _,_,_,.nil=>.nil
 | _,_,0,.cons _ t=>.cons r t
 | _,_,i+1,.cons q t=>.cons q (Vals.set r i t)
theorem Vals.append:∀ {xs ys:List V}{us ws:List Value},Vals xs us→Vals ys ws→Vals (xs++ys) (us++ws)
 | _,_,_,_,.nil,s=>s
 | _,_,_,_,.cons r t,s=>.cons r (Vals.append t s)
theorem Vals.take:∀ {xs:List V}{us:List Value} (n:Nat),Vals xs us→Vals (xs.take n) (us.take n)
 | _,_,0,_=>.nil
 | _,_,_+1,.nil=>.nil
 | _,_,n+1,.cons r t=>.cons r (Vals.take n t)
theorem Vals.drop:∀ {xs:List V}{us:List Value} (n:Nat),Vals xs us→Vals (xs.drop n) (us.drop n)
 | _,_,0,r=>r
 | _,_,_+1,.nil=>.nil
 | _,_,n+1,.cons _ t=>Vals.drop n t
noncomputable def RelO:Option V→Option Value→Prop
 | some v,some u=>RelV v u
 | none,none=>True
 | _,_=>False
noncomputable def KV {κ:Type}:List (κ × V)→List (κ × Value)→Prop:=Paired fun (p:κ × V) (q:κ × Value)=>p.1=q.1∧RelV p.2 q.2
noncomputable def kV:Key→V
 | .inl i=>.int i
 | .inr x=>.str x
inductive HO where
 /-- a list -/
 | lst (xs:List V)
 /-- a tuple (never changes) -/
 | tup (xs:List V)
 /-- a dict whose keys are ints and texts; one whose keys are tuples of ints and texts (the empty one is both) -/
 | dK (kvs:List (Key × V)) | dT (kvs:List (List Key × V))
 /-- a set of ints: its members,its size -/
 | set (S:Int→Bool) (n:Nat)
 /-- an instance of the class at C,its dict at dx,its attributes -/
 | ins (C dx:Addr) (fs:List (Str × V))
 /-- the dict of the instance at x -/
 | own (x:Addr)
 /-- the dict of an exception -/
 | xd (fs:List (Str × V))
 /-- a bound method,f of x -/
 | met (f x:Addr)
 /-- a range object lo,lo+1,.. below hi -/
 | rng (lo hi:Int)
 /-- a thing that is known to the object (the script; a dict while a loop walks it): read,never written while it is so -/
 | frz (o:Obj) (u:HO)
 /-- a code object's table -/
 | tbl (ps:Array Value)
 /-- any other thing,by what is true of its one object (a def of one's own: SetO a S n:=HO.ext fun h=>..) -/
 | ext (φ:Heap→Prop)
noncomputable abbrev Hp:=Addr→Option HO
noncomputable def upd (H:Hp) (a:Addr) (o:HO):Hp:=fun b=>if b=a then some o else H b
theorem zAy {H:Hp}{a:Addr}{o:HO}:upd H a o a=some o:=by unfold upd; rw [if_pos rfl]
theorem zAb {H:Hp}{a b:Addr}{o:HO} (h:b≠a):upd H a o b=H b:=by unfold upd; rw [if_neg h]
theorem ne_of {H:Hp}{a b:Addr}{o u:HO} (h:H a=some o) (h':H b=some u) (d:o≠u):a≠b:=by
 intro e; subst e; rw [h] at h'; exact d (Option.some.inj h')
theorem zAD {H:Hp}{a b:Addr}{o:HO} (h:H a=some o) (h':H b=none):a≠b:=by
 intro e; subst e; rw [h] at h'; cases h'
section
variable (P:Program) (w:World)
noncomputable def ObjOk (H:Hp) (h:Heap) (a:Addr):HO→Prop
 | .lst xs=>xs.length≤sizeLine∧∃ (its:List Value) (n:Nat),Vals xs its∧h.get? a=some { cls:=.type "list",data:=.seq its.toArray n }
 | .tup xs=>xs.length≤sizeLine∧∃ its:List Value,Vals xs its∧IsTup h a its.toArray
 | .dK kvs=>kvs.length≤sizeLine∧(a == sysModules)=false∧∃ vs,KV kvs vs∧h.DictOf (zAF P w) a vs
 | .dT kvs=>kvs.length≤sizeLine∧(a == sysModules)=false∧∃ xs:List (List Key × Addr × Value),
   Paired (fun (p:List Key × V) (q:List Key × Addr × Value)=>p.1=q.1∧H q.2.1=some (.tup (p.1.map kV))∧RelV p.2 q.2.2) kvs xs ∧
   ∃ o es ep,h.get? a=some o∧o.ExactDict∧o.data=.dict es ep∧es.toList=xs.map (entryOfKey (tupleKind (zAF P w)))∧(xs.map (·.1)).Nodup
 | .set S n=>h.SetOf (intKind P w) a S n
 | .ins C dx fs=>H dx=some (.own a)∧fs.length≤1000∧dx≠a∧h.get? a=some (W.instObj C dx) ∧
   ∃ mA,h.Ns1 dx mA∧(∀ f,RelO (fs.lookup f) (mA f))∧PySem.Within mA (fs.map (·.1))
 | .own _=>∃ o,h.get? a=some o
 | .xd fs=>∃ mA,h.Ns1 a mA∧∀ f,RelO (fs.lookup f) (mA f)
 | .rng lo hi=>∃ t u v,h.get? a=some { cls:=.type "range",data:=.fields #[.int lo t,.int hi u,.int 1 v] }
 | .frz o u=>h.get? a=some o∧ObjOk H h a u
 | .tbl ps=>h.get? a=some { cls:=.none,data:=.fields ps }
 | .met f x=>h.get? a=some (W.methodObj (.ref f) (.ref x))
 | .ext φ=>φ h∧(∃ o,h.get? a=some o)∧∀ h1 h2:Heap,φ h1→(∀ o,h1.get? a=some o→h2.get? a=some o)→φ h2
def HOk (H:Hp) (h:Heap):Prop:=∀ a o,H a=some o→ObjOk P w H h a o
end
section
variable {P:Program}{w:World}{H H':Hp}{h h':Heap}{a:Addr}{o:HO}
theorem ObjOk.lt (x:ObjOk P w H h a o):a<h.objs.size:=by
 cases o with
 | lst xs=>obtain ⟨_,_,_,_,e⟩:=x; exact Heap.lt_size e
 | tup xs=>obtain ⟨_,_,_,p⟩:=x; exact p.lt
 | dK kvs=>obtain ⟨_,_,_,_,o,_,_,e,_⟩:=x; exact Heap.lt_size e
 | dT kvs=>obtain ⟨_,_,_,_,o,_,_,e,_⟩:=x; exact Heap.lt_size e
 | set S n=>obtain ⟨o,_,_,_,e,_⟩:=x; exact Heap.lt_size e
 | ins C dx fs=>obtain ⟨_,_,_,e,_⟩:=x; exact Heap.lt_size e
 | own y=>obtain ⟨_,e⟩:=x; exact Heap.lt_size e
 | xd fs=>obtain ⟨_,⟨_,_,_,e,_⟩,_⟩:=x; exact Heap.lt_size e
 | rng lo hi=>obtain ⟨_,_,_,e⟩:=x; exact Heap.lt_size e
 | frz ob u=>obtain ⟨e,_⟩:=x; exact Heap.lt_size e
 | tbl ps=>exact Heap.lt_size (show h.get? a=some _ from x)
 | met f y=>exact Heap.lt_size (show h.get? a=some _ from x)
 | ext φ=>obtain ⟨_,⟨_,e⟩,_⟩:=x; exact Heap.lt_size e
theorem Paired.mapP {α β:Type}{F G:α→β→Prop}:∀ {l₁:List α}{l₂:List β},Paired F l₁ l₂→(∀ a b,F a b→G a b)→Paired G l₁ l₂
 | _,_,.nil,_=>.nil
 | _,_,.cons r t,f=>.cons (f _ _ r) (Paired.mapP t f)
theorem ObjOk.stay (x:ObjOk P w H h a o) (k:∀ b u,(b=a∨H b=some (.own a))→h.get? b=some u→h'.get? b=some u)
  (ho:∀ b,H b=some (.own a)→H' b=some (.own a)) (ht:∀ b xs,H b=some (.tup xs)→H' b=some (.tup xs)):ObjOk P w H' h' a o:=by
 induction o with
 | lst xs=>obtain ⟨z,its,n,r,e⟩:=x; exact ⟨z,its,n,r,k _ _ (.inl rfl) e⟩
 | tup xs=>obtain ⟨z,its,r,ob,e,c⟩:=x; exact ⟨z,its,r,ob,k _ _ (.inl rfl) e,c⟩
 | dK kvs=>obtain ⟨z,y,vs,r,ob,es,ep,e,c⟩:=x; exact ⟨z,y,vs,r,ob,es,ep,k _ _ (.inl rfl) e,c⟩
 | dT kvs =>
  obtain ⟨z,y,xs,r,ob,es,ep,e,c⟩:=x
  exact ⟨z,y,xs,Paired.mapP r fun p q z=>⟨z.1,ht _ _ z.2.1,z.2.2⟩,ob,es,ep,k _ _ (.inl rfl) e,c⟩
 | set S n=>obtain ⟨ob,es,ep,t,e,c⟩:=x; exact ⟨ob,es,ep,t,k _ _ (.inl rfl) e,c⟩
 | ins C dx fs =>
  obtain ⟨d,z,ne,e,mA,⟨od,es,ep,e2,c⟩,r⟩:=x
  exact ⟨ho _ d,z,ne,k _ _ (.inl rfl) e,mA,⟨od,es,ep,k _ _ (.inr d) e2,c⟩,r⟩
 | own y=>obtain ⟨ob,e⟩:=x; exact ⟨ob,k _ _ (.inl rfl) e⟩
 | xd fs=>obtain ⟨mA,⟨od,es,ep,e,c⟩,r⟩:=x; exact ⟨mA,⟨od,es,ep,k _ _ (.inl rfl) e,c⟩,r⟩
 | rng lo hi=>obtain ⟨t,u,v,e⟩:=x; exact ⟨t,u,v,k _ _ (.inl rfl) e⟩
 | frz ob u ih=>obtain ⟨e,q⟩:=x; exact ⟨k _ _ (.inl rfl) e,ih q⟩
 | tbl ps =>
  have e:h.get? a=some { cls:=.none,data:=.fields ps }:=x
  show h'.get? a=some { cls:=.none,data:=.fields ps }
  exact k a _ (.inl rfl) e
 | met f y =>
  have e:h.get? a=some (W.methodObj (.ref f) (.ref y)):=x
  show h'.get? a=some (W.methodObj (.ref f) (.ref y))
  exact k a _ (.inl rfl) e
 | ext φ=>obtain ⟨p,⟨o,e⟩,st⟩:=x; exact ⟨st _ _ p fun o q=>k _ _ (.inl rfl) q,⟨o,k _ _ (.inl rfl) e⟩,st⟩
theorem HOk.lt (x:HOk P w H h) (e:H a=some o):a<h.objs.size:=(x a o e).lt
theorem HOk.fresh (x:HOk P w H h) (e:h.objs.size≤a):H a=none:=by
 cases q:H a with
 | none=>rfl
 | some u=>exact absurd (Nat.lt_of_lt_of_le (x.lt q) e) (Nat.lt_irrefl _)
theorem HOk.kept (x:HOk P w H h) (k:∀ b u,h.get? b=some u→h'.get? b=some u):HOk P w H h':=fun a o e =>
 (x a o e).stay (fun b u _ q=>k b u q) (fun _ q=>q) fun _ _ q=>q
theorem HOk.laid (x:HOk P w H h) (k:∀ b u,h.get? b=some u→h'.get? b=some u) (hp:h.objs.size≤a) (new:ObjOk P w (upd H a o) h' a o):HOk P w (upd H a o) h':=fun b u e=>by
 have hn:=x.fresh hp
 by_cases hb:b=a
 ·subst hb; rw [zAy] at e; cases e; exact new
 ·rw [zAb hb] at e
  exact (x b u e).stay (fun c v _ q=>k c v q) (fun c q=>by rw [zAb (zAD q hn)]; exact q) fun c xs q=>by rw [zAb (zAD q hn)]; exact q
end
def Rd (H:Hp) (a:Addr) (u:HO):Prop:=H a=some u∨∃ o,H a=some (.frz o u)
theorem Rd.ok {P:Program}{w:World}{H:Hp}{h:Heap}{a:Addr}{u:HO} (r:Rd H a u) (x:HOk P w H h):ObjOk P w H h a u:=by
 rcases r with r | ⟨o,r⟩
 ·exact x a u r
 ·obtain ⟨_,q⟩:=x a _ r
  exact q
noncomputable def Mut:Option HO→Prop
 | some (.lst _)=>True
 | some (.dK _)=>True
 | some (.dT _)=>True
 | some (.set _ _)=>True
 | some (.ins _ _ _)=>True
 | some (.ext _)=>True
 | _=>False
section
variable {P:Program}{w:World}{H:Hp}{h h':Heap}{x e:Addr}{o':HO}
theorem HOk.write (ok:HOk P w H h) (mu:Mut (H x)) (he:e=x∨H e=some (.own x)) (k:∀ b u,b≠e→h.get? b=some u→h'.get? b=some u) (heo:∃ u,h'.get? e=some u)
  (new:ObjOk P w (upd H x o') h' x o'):HOk P w (upd H x o') h':=fun b u q=>by
 have nown:∀ c y,H c=some (.own y)→c≠x:=fun c y r z=>by subst z; rw [r] at mu; exact mu
 have ntup:∀ c xs,H c=some (.tup xs)→c≠x:=fun c xs r z=>by subst z; rw [r] at mu; exact mu
 by_cases hb:b=x
 ·subst hb; rw [zAy] at q; cases q; exact new
 ·rw [zAb hb] at q
  by_cases hbe:b=e
  ·have q':H b=some (.own x):=by
    rcases he with z | z
    ·exact absurd (hbe.trans z) hb
    ·rw [hbe]; exact z
   rw [q] at q'; cases q'
   obtain ⟨v,hv⟩:=heo
   exact ⟨v,by rw [hbe]; exact hv⟩
  ·refine (ok b u q).stay (fun c v hc r=>k c v ?_ r) (fun c r=>by rw [zAb (nown c b r)]; exact r) fun c xs r=>by rw [zAb (ntup c xs r)]; exact r
   rcases hc with rfl | hc
   ·exact hbe
   ·rintro rfl
    rcases he with z | z
    ·exact nown c b hc z
    ·rw [hc] at z; cases z; exact hb rfl
end
structure Un (fs ex:List Addr) (H H':Hp) (h h':Heap):Prop where
 keep:∀ b o,h.get? b=some o→H b=none→b∉fs→b∉ex→h'.get? b=some o
 slot:∀ b o,h.get? b=some o→H b=none→b∈fs→b∉ex→∃ sl,h'.get? b=some { o with slots:=sl }
 free:∀ b o,h.get? b=some o→H b=none→b∉ex→H' b=none
 there:∀ b o,h.get? b=some o→b∉ex→∃ o',h'.get? b=some o'
 tups:∀ b xs,H b=some (.tup xs)→H' b=some (.tup xs)
 frzs:∀ b o u,H b=some (.frz o u)→H' b=some (.frz o u)
 tbls:∀ b ps,H b=some (.tbl ps)→∃ more,H' b=some (.tbl (ps++more))
section
variable {fs fs' ex ex':List Addr}{H H1 H2:Hp}{h h1 h2 h':Heap}{a x e:Addr}{o:HO}
theorem Un.any (u:Un fs ex H H1 h h1) {b:Addr}{ob:Obj} (q:h.get? b=some ob) (n:H b=none) (hx:b∉ex):∃ sl,h1.get? b=some { ob with slots:=sl }:=by
 by_cases hb:b∈fs
 ·exact u.slot b ob q n hb hx
 ·exact ⟨ob.slots,u.keep b ob q n hb hx⟩
theorem Un.kept (k:∀ b u,h.get? b=some u→h'.get? b=some u):Un fs ex H H h h' :=
 ⟨fun b ob q _ _ _=>k b ob q,fun b ob q _ _ _=>⟨ob.slots,k b ob q⟩,fun _ _ _ n _=>n,fun b ob q _=>⟨ob,k b ob q⟩,fun _ _ q=>q,fun _ _ _ q=>q,fun _ ps q=>⟨#[],by rw [q]; simp⟩⟩
theorem Un.refl:Un fs ex H H h h:=Un.kept fun _ _ q=>q
theorem Un.laid (k:∀ b u,h.get? b=some u→h'.get? b=some u) (hp:h.objs.size≤a) (hn:H a=none):Un fs ex H (upd H a o) h h' where
 keep:=fun b u q _ _ _=>k b u q
 slot:=fun b u q _ _ _=>⟨u.slots,k b u q⟩
 free:=fun b u q n _=>by rw [zAb (Nat.ne_of_lt (Nat.lt_of_lt_of_le (Heap.lt_size q) hp))]; exact n
 there:=fun b u q _=>⟨u,k b u q⟩
 tups:=fun b xs q=>by rw [zAb (zAD q hn)]; exact q
 frzs:=fun b u xs q=>by rw [zAb (zAD q hn)]; exact q
 tbls:=fun b ps q=>⟨#[],by rw [zAb (zAD q hn),q]; simp⟩
theorem Un.write (mu:Mut (H x)) (he:e=x∨H e=some (.own x)) (k:∀ b u,b≠e→h.get? b=some u→h'.get? b=some u) (heo:∃ u,h'.get? e=some u):Un fs ex H (upd H x o) h h':=by
 have hx:∀ b,H b=none→b≠x:=fun b n z=>by subst z; rw [n] at mu; exact mu
 have hb:∀ b,H b=none→b≠e:=fun b n z=>by
  subst z
  rcases he with r | r
  ·exact hx b n r
  ·rw [n] at r; cases r
 have hm:∀ b u,H b=some u→¬ Mut (some u)→b≠x:=fun b u q nm z=>by subst z; rw [q] at mu; exact nm mu
 refine ⟨fun b u q n _ _=>k b u (hb b n) q,fun b u q n _ _=>⟨u.slots,k b u (hb b n) q⟩,fun b u q n _=>by rw [zAb (hx b n)]; exact n,fun b u q _=>?_,
  fun b xs q=>by rw [zAb (hm b _ q fun z=>z)]; exact q,fun b u xs q=>by rw [zAb (hm b _ q fun z=>z)]; exact q,fun b ps q=>⟨#[],by rw [zAb (hm b _ q fun z=>z),q]; simp⟩⟩
 by_cases hbe:b=e
 ·subst hbe; exact heo
 ·exact ⟨u,k b u hbe q⟩
end
noncomputable def trk (h:Heap) (H:Hp):List Addr:=(List.range h.objs.size).filter fun a=>(H a).isSome
noncomputable def hidT (h:Heap) (H:Hp):Heap:=W.hideAll h (trk h H)
theorem hidT_size (h:Heap) (H:Hp):(hidT h H).objs.size=h.objs.size:=W.hideAll_size _ _
theorem hidT_get {h:Heap}{H:Hp}{b:Addr}{o:Obj} (e:h.get? b=some o) (n:H b=none):(hidT h H).get? b=some o :=
 W.hideAll_get _ e fun hm=>by
  have q:(H b).isSome=true:=(List.mem_filter.mp hm).2
  rw [n] at q; simp at q
theorem of_hidT {h:Heap}{H:Hp}{b:Addr}{o:Obj} (e:(hidT h H).get? b=some o):h.get? b=some o∧H b=none:=by
 have e':h.get? b=some o:=W.of_hideAll (trk h H) e
 refine ⟨e',?_⟩
 cases q:H b with
 | none=>rfl
 | some x =>
  have hm:b∈trk h H:=List.mem_filter.mpr ⟨List.mem_range.mpr (Heap.lt_size e'),by simp [q]⟩
  have z:(hidT h H).get? b=none:=W.hideAll_none (trk h H) hm
  rw [z] at e; cases e
noncomputable def allNews (g h:Heap) (L:Addr):List (Addr × Obj):=(List.range h.objs.size).filterMap fun a=>if a=L∨(g.get? a).isSome=true then none else (h.get? a).map fun o=>(a,o)
noncomputable def rest (g h:Heap) (L d:Addr):List (Addr × Obj):=(allNews g h L).filter fun p=>decide (p.1≠d)
structure Mod (K:W.Frag) (mg:Str→Option Value) (base:Heap):Prop where
 kin:K.In base
 glob:base.Ns mainGlobals mg
 blt:∃ mb,base.Ns builtinsNs mb∧∀ x:Str,x ≠ "__name__"→mb x=bootBuiltins x
 nolimit:base.NoLimit
structure Cx where
 prog:Program
 w:World
 K:W.Frag
 mg:Str→Option Value
 base:Heap
 A:Around
 N:List Str
 s₀:Shared
 H₀:Hp
 env:Env
 outer:List Env
 stack:List Env
 ex:List Addr
 fn:Str→Bool
 calm:Bool
 pn:List (Addr × Obj)
 xe:Value→Shared→Prop
noncomputable def frs (l:List Env):List Addr:=l.filterMap (·.frame)
noncomputable abbrev Cx.fs (X:Cx):List Addr:=frs X.outer
def Vis (sc:Scope) (x:Str):Prop:=sc.names.lookup x=some .local∨sc.names.lookup x=some .cell∨sc.names.lookup x=some .free
def Loc (sc:Scope) (x:Str):Prop:=sc.names.lookup x=some .local∨sc.names.lookup x=some .cell
def Look (env:Env) (h:Heap) (m:Str→Option Value) (x:Str) (u:Value):Prop :=
 (env.kindOf x=some .local∧m x=some u)∨((env.kindOf x=some .cell∨env.kindOf x=some .free)∧∃ c,env.cells.lookup x=some c∧h.IsCell c (some u))
structure Cx.Ok (X:Cx):Prop where
 mod:Mod X.K X.mg X.base
 kind:X.env.scope.kind=.function
 glob:X.env.globals=mainGlobals
 blt:X.env.builtins=builtinsNs
 above:X.s₀.heap.objs.size≤X.env.locals
 inj:∀ x y c,X.env.cells.lookup x=some c→X.env.cells.lookup y=some c→x=y
 has:∀ x,(X.env.kindOf x=some .cell∨X.env.kindOf x=some .free)→∃ c,X.env.cells.lookup x=some c
 cab:∀ x c,X.fn x=true→X.env.cells.lookup x=some c→X.s₀.heap.objs.size≤c
 hd:X.calm=true→X.A.handled=none
 frames:X.A.frames=some X.stack
 stk:X.stack=X.outer∨(X.stack=X.env::X.outer∧X.env.frame=some X.env.locals)
 exf:∀ b∈X.ex,b≠X.env.locals∧∀ x c,X.env.cells.lookup x=some c→c≠b
 bs:∀ b o,X.base.get? b=some o→X.s₀.heap.get? b=some o∧X.H₀ b=none
 bsz:X.base.objs.size≤X.s₀.heap.objs.size
 noex:∀ b o,X.base.get? b=some o→b∉X.ex
 exfs:∀ b∈X.ex,b∉X.fs
 funs:X.s₀.heap.FunFrames X.base X.outer
 frf:∀ b∈X.fs,X.H₀ b=none
structure Inv (X:Cx) (pins:List (Addr × Obj)) (σ:List (Option V)) (H:Hp) (s:Shared):Prop where
 ok:X.Ok
 os:s.os=X.s₀.os
 bare:AllBare s.gens
 base:Un X.fs X.ex X.H₀ H X.s₀.heap s.heap
 loc:∃ m,s.heap.Ns X.env.locals m∧∀ (i:Nat) (x:Str) (v:V),X.N[i]?=some x→σ[i]?=some (some v)→Vis X.env.scope x→∃ u,RelV v u∧Look X.env s.heap m x u
 cell:∀ x c,X.env.cells.lookup x=some c→∃ v,s.heap.IsCell c v
 free:H X.env.locals=none
 freeC:∀ x c,X.env.cells.lookup x=some c→H c=none
 pin:∀ p∈X.pn++pins,s.heap.get? p.1=some p.2∧H p.1=none∧p.1≠X.env.locals∧p.1∉X.fs∧∀ v,p.2.data≠.cell v
 hok:HOk X.prog X.w H s.heap
 len:σ.length=X.N.length
section
variable {X:Cx}{pins:List (Addr × Obj)}{σ:List (Option V)}{H H':Hp}{s:Shared}{h':Heap}
theorem Cx.Ok.nofr (ok:X.Ok) {b:Addr}{o:Obj} (e:X.base.get? b=some o):b∉X.fs:=fun hb=>by
 have:=(ok.funs.mem hb).1
 rw [e] at this; cases this
theorem Inv.bs (I:Inv X pins σ H s):∀ b o,X.base.get? b=some o→s.heap.get? b=some o∧H b=none:=fun b o e =>
 ⟨I.base.keep b o (I.ok.bs b o e).1 (I.ok.bs b o e).2 (I.ok.nofr e) (I.ok.noex b o e),I.base.free b o (I.ok.bs b o e).1 (I.ok.bs b o e).2 (I.ok.noex b o e)⟩
theorem Inv.bk (I:Inv X pins σ H s):∀ b o,X.base.get? b=some o→s.heap.get? b=some o:=fun b o e=>(I.bs b o e).1
theorem Inv.mod (I:Inv X pins σ H s):Mod X.K X.mg X.base:=I.ok.mod
theorem Inv.kIn (I:Inv X pins σ H s):X.K.In s.heap:=I.ok.mod.kin.keeps I.bk
theorem Inv.lt (I:Inv X pins σ H s):X.env.locals<s.heap.objs.size:=let ⟨_,hn,_⟩:=I.loc; hn.lt
theorem Inv.sz (I:Inv X pins σ H s):X.s₀.heap.objs.size≤s.heap.objs.size:=Nat.le_trans I.ok.above (Nat.le_of_lt I.lt)
theorem Inv.nofs (I:Inv X pins σ H s) {a:Addr} (h:s.heap.objs.size≤a):a∉X.fs:=fun hb=>by
 obtain ⟨_,o,ho,_⟩:=I.ok.funs.mem hb
 exact absurd (Nat.lt_of_lt_of_le (Heap.lt_size ho) (Nat.le_trans I.sz h)) (Nat.lt_irrefl _)
theorem Inv.cne (I:Inv X pins σ H s):∀ x c,X.env.cells.lookup x=some c→c≠X.env.locals:=fun x c e z=>by
 obtain ⟨v,o,ho,hd⟩:=I.cell x c e
 obtain ⟨m,⟨o',es,ep,ho',hd',_⟩,_⟩:=I.loc
 rw [z,ho'] at ho; cases ho; rw [hd'] at hd; cases hd
theorem Inv.funs (I:Inv X pins σ H s):s.heap.FunFrames X.base X.outer:=by
 have all:∀ (l:List Env),(∀ b∈frs l,b∈X.fs)→X.s₀.heap.FunFrames X.base l→s.heap.FunFrames X.base l:=by
  intro l
  induction l with
  | nil=>intro _ _; trivial
  | cons env r ih =>
   intro hs hl
   obtain ⟨hk,⟨L,o,hf,hn,ho,hd⟩,hr⟩:=hl
   have hL:L∈X.fs:=hs L (by unfold frs; rw [List.filterMap_cons,hf]; exact List.mem_cons_self)
   obtain ⟨sl,e⟩:=I.base.slot L o ho (I.ok.frf L hL) hL fun z=>I.ok.exfs L z hL
   exact ⟨hk,⟨L,_,hf,hn,e,hd⟩,ih (fun b hb=>hs b (by unfold frs; rw [List.filterMap_cons,hf]; exact List.mem_cons_of_mem _ hb)) hr⟩
 exact all X.outer (fun _ hb=>hb) I.ok.funs
theorem Inv.stack (I:Inv X pins σ H s):s.heap.FunFrames X.base X.stack:=by
 rcases I.ok.stk with e | ⟨e,hf⟩
 ·rw [e]; exact I.funs
 ·rw [e]
  obtain ⟨m,hn,_⟩:=I.loc
  refine .cons (by rw [I.ok.kind]; decide) hf hn ?_ I.funs
  exact Heap.get?_none_of_le (Nat.le_trans I.ok.bsz I.ok.above)
theorem Inv.stkSub (I:Inv X pins σ H s):∀ b∈frs X.stack,b∈X.env.locals::X.fs:=fun b hb=>by
 rcases I.ok.stk with e | ⟨e,hf⟩
 ·rw [e] at hb; exact List.mem_cons_of_mem _ hb
 ·rw [e] at hb
  unfold frs at hb
  rw [List.filterMap_cons,hf] at hb
  exact hb
theorem Inv.stkFree (I:Inv X pins σ H s):∀ b∈frs X.stack,H b=none:=fun b hb=>by
 rcases List.mem_cons.mp (I.stkSub b hb) with e | hb
 ·rw [e]; exact I.free
 ·obtain ⟨_,o,ho,_⟩:=I.ok.funs.mem hb
  exact I.base.free b o ho (I.ok.frf b hb) fun z=>I.ok.exfs b z hb
theorem Inv.step {g':Array GenState}{t':Nat}{d':Drawn}{ch:List Addr} (I:Inv X pins σ H s)
  (hch:∀ b∈ch,(b∈X.ex∨X.s₀.heap.objs.size≤b)∧b≠X.env.locals∧(∀ x c,X.env.cells.lookup x=some c→c≠b)∧∀ p∈X.pn++pins,p.1≠b)
  (keep:∀ b o,b≠X.env.locals→b∉X.fs→b∉ch→s.heap.get? b=some o→H b=none→h'.get? b=some o)
  (slot:∀ b o,b≠X.env.locals→b∈X.fs→b∉ch→s.heap.get? b=some o→H b=none→∃ sl,h'.get? b=some { o with slots:=sl }) (free:∀ b o,b∉ch→s.heap.get? b=some o→H b=none→H' b=none)
  (there:∀ b o,b∉ch→s.heap.get? b=some o→∃ o',h'.get? b=some o')
  (tups:∀ b xs,H b=some (.tup xs)→H' b=some (.tup xs)) (frzs:∀ b o u,H b=some (.frz o u)→H' b=some (.frz o u)) (tbls:∀ b ps,H b=some (.tbl ps)→∃ more,H' b=some (.tbl (ps++more)))
  (ns:∀ m,s.heap.Ns X.env.locals m→h'.Ns X.env.locals m) (hok:HOk X.prog X.w H' h') (hg:AllBare g') :
  Inv X pins σ H' { s with heap:=h',gens:=g',drawn:=d',toks:=t' }:=by
 have neL:∀ b o,X.s₀.heap.get? b=some o→b≠X.env.locals:=fun b o e=>Nat.ne_of_lt (Nat.lt_of_lt_of_le (Heap.lt_size e) I.ok.above)
 have neC:∀ b o,X.s₀.heap.get? b=some o→b∉X.ex→b∉ch:=fun b o e hx hb=>by
  rcases (hch b hb).1 with z | z
  ·exact hx z
  ·exact absurd (Nat.lt_of_lt_of_le (Heap.lt_size e) z) (Nat.lt_irrefl _)
 have cellK:∀ x c,X.env.cells.lookup x=some c→∀ v,s.heap.IsCell c v→h'.IsCell c v:=fun x c e v ⟨o,ho,hd⟩=>by
  have nch:c∉ch:=fun z=>(hch c z).2.2.1 x c e rfl
  by_cases hc:c∈X.fs
  ·obtain ⟨sl,q⟩:=slot c o (I.cne x c e) hc nch ho (I.freeC x c e)
   exact ⟨_,q,hd⟩
  ·exact ⟨o,keep c o (I.cne x c e) hc nch ho (I.freeC x c e),hd⟩
 refine ⟨I.ok,I.os,hg,⟨fun b o e n hb hx=>?_,fun b o e n hb hx=>?_,fun b o e n hx=>?_,fun b o e hx=>?_,fun b xs e=>tups b xs (I.base.tups b xs e),fun b o xs e=>frzs b o xs (I.base.frzs b o xs e),fun b ps e=>?_⟩,?_,fun x c e=>?_,?_,fun x c e=>?_,fun p hp=>?_,hok,I.len⟩
 ·exact keep b o (neL b o e) hb (neC b o e hx) (I.base.keep b o e n hb hx) (I.base.free b o e n hx)
 ·obtain ⟨sl,e1⟩:=I.base.slot b o e n hb hx
  obtain ⟨sl',e2⟩:=slot b _ (neL b o e) hb (neC b o e hx) e1 (I.base.free b o e n hx)
  exact ⟨sl',e2⟩
 ·obtain ⟨o',e1⟩:=I.base.there b o e hx
  exact free b o' (neC b o e hx) e1 (I.base.free b o e n hx)
 ·obtain ⟨o',e1⟩:=I.base.there b o e hx
  exact there b o' (neC b o e hx) e1
 ·obtain ⟨m1,e1⟩:=I.base.tbls b ps e
  obtain ⟨m2,e2⟩:=tbls b _ e1
  exact ⟨m1++m2,by rw [e2,Array.append_assoc]⟩
 ·obtain ⟨m,hn,hl⟩:=I.loc
  refine ⟨m,ns m hn,fun i x v e1 e2 e3=>?_⟩
  obtain ⟨u,r,l⟩:=hl i x v e1 e2 e3
  refine ⟨u,r,?_⟩
  rcases l with l | ⟨k,c,e,z⟩
  ·exact .inl l
  ·exact .inr ⟨k,c,e,cellK x c e _ z⟩
 ·obtain ⟨v,z⟩:=I.cell x c e
  exact ⟨v,cellK x c e v z⟩
 ·obtain ⟨m,⟨o,_,_,ho,_⟩,_⟩:=I.loc
  exact free _ o (fun z=>(hch _ z).2.1 rfl) ho I.free
 ·obtain ⟨v,o,ho,hd⟩:=I.cell x c e
  exact free c o (fun z=>(hch c z).2.2.1 x c e rfl) ho (I.freeC x c e)
 ·obtain ⟨e,n,ne,nf,d⟩:=I.pin p hp
  have nch:p.1∉ch:=fun z=>(hch p.1 z).2.2.2 p hp rfl
  exact ⟨keep p.1 p.2 ne nf nch e n,free p.1 p.2 nch e n,ne,nf,d⟩
theorem Inv.un {t':Nat} (I:Inv X pins σ H s) (u:Un X.fs [] H H' s.heap h') (hok:HOk X.prog X.w H' h'):Inv X pins σ H' { s with heap:=h',toks:=t' }:=by
 obtain ⟨m,⟨o,es,ep,ho,r⟩,_⟩:=id I.loc
 obtain ⟨sl,hL⟩:=u.any ho I.free (by simp)
 exact I.step (g':=s.gens) (d':=s.drawn) (ch:=[]) (fun _ z=>nomatch z) (fun b o _ hb _ e n=>u.keep b o e n hb (by simp)) (fun b o _ hb _ e n=>u.slot b o e n hb (by simp)) (fun b o _ e n=>u.free b o e n (by simp)) (fun b o _ e=>u.there b o e (by simp)) u.tups u.frzs u.tbls (fun m' hm=>by
  obtain ⟨o',es',ep',ho',r'⟩:=hm
  rw [ho] at ho'; cases ho'
  exact ⟨_,es',ep',hL,r'⟩) hok I.bare
theorem Inv.call {g':Array GenState}{t':Nat}{d':Drawn}{ch:List Addr} (I:Inv X pins σ H s) (u:Un (frs X.stack) ch H H' s.heap h') (hok:HOk X.prog X.w H' h') (hg:AllBare g')
  (hch:∀ b∈ch,(b∈X.ex∨X.s₀.heap.objs.size≤b)∧b≠X.env.locals∧(∀ x c,X.env.cells.lookup x=some c→c≠b)∧∀ p∈X.pn++pins,p.1≠b) :
  Inv X pins σ H' { s with heap:=h',gens:=g',drawn:=d',toks:=t' }:=by
 obtain ⟨m,⟨o,es,ep,ho,r⟩,_⟩:=id I.loc
 obtain ⟨sl,hL⟩:=u.any ho I.free fun z=>(hch _ z).2.1 rfl
 exact I.step (ch:=ch) hch (fun b o hL hb hc e n=>u.keep b o e n (fun z=>(List.mem_cons.mp (I.stkSub b z)).elim hL hb) hc) (fun b o _ _ hc e n=>u.any e n hc) (fun b o hc e n=>u.free b o e n hc) (fun b o hc e=>u.there b o e hc) u.tups u.frzs u.tbls (fun m' hm=>by
  obtain ⟨o',es',ep',ho',r'⟩:=hm
  rw [ho] at ho'; cases ho'
  exact ⟨_,es',ep',hL,r'⟩) hok hg
theorem Inv.turned {t':Nat}{it:Addr} (I:Inv X pins σ H s) (k:∀ b o,b≠it→s.heap.get? b=some o→h'.get? b=some o) (hn:H it=none) (hL:it≠X.env.locals)
  (h1:it∈X.ex∨X.s₀.heap.objs.size≤it) (h2:∀ x c,X.env.cells.lookup x=some c→c≠it) (h3:∀ p∈X.pn++pins,p.1≠it):Inv X pins σ H { s with heap:=h',toks:=t' }:=by
 have nit:∀ b u,H b=some u→b≠it:=fun b u e z=>by rw [z,hn] at e; cases e
 refine I.step (g':=s.gens) (d':=s.drawn) (ch:=[it]) (fun b hb=>?_) (fun b o _ _ hc e _=>k b o (fun z=>hc (by simp [z])) e) (fun b o _ _ hc e _=>⟨o.slots,k b o (fun z=>hc (by simp [z])) e⟩) (fun _ _ _ _ n=>n)
  (fun b o hc e=>⟨o,k b o (fun z=>hc (by simp [z])) e⟩) (fun _ _ e=>e) (fun _ _ _ e=>e) (fun b ps e=>⟨#[],by rw [e]; simp⟩) (fun m hm=>?_) (fun b u e=>?_) I.bare
 ·have e:b=it:=by simpa using hb
  subst e
  exact ⟨h1,hL,h2,h3⟩
 ·obtain ⟨o,es,ep,ho,r⟩:=hm
  exact ⟨o,es,ep,k _ o (Ne.symm hL) ho,r⟩
 ·refine (I.hok b u e).stay (fun c v hc q=>k c v ?_ q) (fun _ q=>q) fun _ _ q=>q
  rcases hc with z | z
  ·rw [z]; exact nit b u e
  ·exact nit c _ z
theorem Inv.tok (I:Inv X pins σ H s) (t:Nat):Inv X pins σ H { s with toks:=t }:=I.un (h':=s.heap) (t':=t) Un.refl I.hok
theorem Inv.kept {t':Nat} (I:Inv X pins σ H s) (k:∀ b u,s.heap.get? b=some u→h'.get? b=some u):Inv X pins σ H { s with heap:=h',toks:=t' }:=I.un (Un.kept k) (I.hok.kept k)
theorem Inv.laid {a:Addr}{o:HO}{t':Nat} (I:Inv X pins σ H s) (k:∀ b u,s.heap.get? b=some u→h'.get? b=some u) (hp:s.heap.objs.size≤a) (new:ObjOk X.prog X.w (upd H a o) h' a o) :
  Inv X pins σ (upd H a o) { s with heap:=h',toks:=t' }:=I.un (Un.laid k hp (I.hok.fresh hp)) (I.hok.laid k hp new)
theorem Inv.write {x e:Addr}{o:HO}{t':Nat} (I:Inv X pins σ H s) (mu:Mut (H x)) (he:e=x∨H e=some (.own x)) (k:∀ b u,b≠e→s.heap.get? b=some u→h'.get? b=some u) (heo:∃ u,h'.get? e=some u)
  (new:ObjOk X.prog X.w (upd H x o) h' x o):Inv X pins σ (upd H x o) { s with heap:=h',toks:=t' }:=I.un (Un.write mu he k heo) (I.hok.write mu he k heo new)
theorem Inv.weak {σ':List (Option V)} (I:Inv X pins σ H s) (hl:σ'.length=σ.length) (w:∀ (i:Nat) v,σ'[i]?=some (some v)→σ[i]?=some (some v)):Inv X pins σ' H s :=
 ⟨I.ok,I.os,I.bare,I.base,let ⟨m,hn,hl'⟩:=I.loc; ⟨m,hn,fun i x v e1 e2 e3=>hl' i x v e1 (w i v e2) e3⟩,I.cell,I.free,I.freeC,I.pin,I.hok,hl.trans I.len⟩
theorem Inv.pins_of {pins':List (Addr × Obj)} (I:Inv X pins σ H s) (h:∀ p∈pins',s.heap.get? p.1=some p.2∧H p.1=none∧p.1≠X.env.locals∧p.1∉X.fs∧∀ v,p.2.data≠.cell v):Inv X pins' σ H s :=
 ⟨I.ok,I.os,I.bare,I.base,I.loc,I.cell,I.free,I.freeC,fun p hp=>(List.mem_append.mp hp).elim (fun z=>I.pin p (List.mem_append_left _ z)) (h p),I.hok,I.len⟩
theorem nodup_ix {N:List Str} (hN:N.Nodup) {i j:Nat}{x:Str} (a:N[i]?=some x) (b:N[j]?=some x):i=j:=by
 obtain ⟨h1,e1⟩:=List.getElem?_eq_some_iff.mp a
 obtain ⟨h2,e2⟩:=List.getElem?_eq_some_iff.mp b
 exact (List.getElem_inj hN).mp (e1.trans e2.symm)
theorem store_ok2 {M:Model}{A:Around}{E:Value→Shared→Prop}{i:Nat}{x:Str}{v:V}{u:Value}{Q:Unit→Shared→Prop} (I:Inv X pins σ H s) (hN:X.N.Nodup) (hi:X.N[i]?=some x) (hx:Loc X.env.scope x) (r:RelV v u)
  (h:∀ s',Inv X pins (σ.set i (some v)) H s'→(∃ a,Heap.SameBut a s.heap s'.heap∧(a=X.env.locals∨X.env.cells.lookup x=some a))→Q () s') (hf:X.fn x=true∨X.env.scope.names.lookup x=some .local:=by first | exact .inl rfl | exact .inr rfl | assumption):wpAny M A (storeName X.env x u) Q E s:=by
 obtain ⟨m,hn,hl⟩:=id I.loc
 have hcls:(X.env.scope.kind == .class||(X.env.scope.kind == .module&&X.env.locals != X.env.globals))=false:=by rw [I.ok.kind]; rfl
 have hiσ:i<σ.length:=by rw [I.len]; exact (List.getElem?_eq_some_iff.mp hi).1
 have cne:=I.cne
 have tracked:∀ {a:Addr}{h':Heap},(∃ o,s.heap.get? a=some o∧H a=none)→Heap.SameBut a s.heap h'→HOk X.prog X.w H h':=fun {a h'} ha hs b ob e=>by
  obtain ⟨_,_,hfree⟩:=ha
  refine (I.hok b ob e).stay (fun c w' hc q=>(hs.2 c ?_).trans q) (fun _ q=>q) fun _ _ q=>q
  rintro rfl
  rcases hc with rfl | hc
  ·rw [hfree] at e; cases e
  ·rw [hfree] at hc; cases hc
 rcases hx with hk | hk
 ·refine wpAny_storeName_local hk hn (fun h' hn' hs=>?_) hcls
  obtain ⟨oL,_,_,hoL,_⟩:=id hn
  refine h _ ⟨I.ok,I.os,I.bare,⟨fun b o e n hb hx=>?_,fun b o e n hb hx=>?_,I.base.free,fun b o e hx=>?_,I.base.tups,I.base.frzs,I.base.tbls⟩,⟨_,hn',fun j y v' e1 e2 e3=>?_⟩,fun y c e=>?_,I.free,I.freeC,fun p hp=>?_,tracked ⟨oL,hoL,I.free⟩ hs,by simpa using I.len⟩ ⟨_,hs,.inl rfl⟩
  ·exact (hs.2 b (Nat.ne_of_lt (Nat.lt_of_lt_of_le (Heap.lt_size e) I.ok.above))).trans (I.base.keep b o e n hb hx)
  ·obtain ⟨sl,e1⟩:=I.base.slot b o e n hb hx
   exact ⟨sl,(hs.2 b (Nat.ne_of_lt (Nat.lt_of_lt_of_le (Heap.lt_size e) I.ok.above))).trans e1⟩
  ·obtain ⟨o',e1⟩:=I.base.there b o e hx
   exact ⟨o',(hs.2 b (Nat.ne_of_lt (Nat.lt_of_lt_of_le (Heap.lt_size e) I.ok.above))).trans e1⟩
  ·by_cases hj:j=i
   ·subst hj
    rw [hi] at e1; cases e1
    rw [List.getElem?_set_self hiσ] at e2
    cases e2
    exact ⟨u,r,.inl ⟨hk,by simp⟩⟩
   ·rw [List.getElem?_set_ne (Ne.symm hj)] at e2
    obtain ⟨u',r',q⟩:=hl j y v' e1 e2 e3
    refine ⟨u',r',?_⟩
    rcases q with ⟨k,e⟩ | ⟨k,c,e,z⟩
    ·refine .inl ⟨k,?_⟩
     have:y≠x:=fun e=>hj (nodup_ix hN e1 (e▸hi))
     simp [this,e]
    ·exact .inr ⟨k,c,e,z.sameBut hs (cne y c e)⟩
  ·obtain ⟨w',z⟩:=I.cell y c e
   exact ⟨w',z.sameBut hs (cne y c e)⟩
  ·obtain ⟨e,n,ne,nf,d⟩:=I.pin p hp
   exact ⟨(hs.2 p.1 ne).trans e,n,ne,nf,d⟩
 ·have hfn:X.fn x=true:=by
   rcases hf with z | z
   ·exact z
   ·rw [z] at hk; cases hk
  obtain ⟨c,hc⟩:=I.ok.has x (.inl hk)
  obtain ⟨w',z⟩:=I.cell x c hc
  refine wpAny_storeName_cell I.ok.kind hk hc z (fun h' hc' hs=>?_)
  obtain ⟨oc,hoc,hocd⟩:=id z
  refine h { s with heap:=h' } ⟨I.ok,I.os,I.bare,⟨fun b o e n hb hx=>?_,fun b o e n hb hx=>?_,I.base.free,fun b o e hx=>?_,I.base.tups,I.base.frzs,I.base.tbls⟩,⟨m,hn.sameBut hs (Ne.symm (cne x c hc)),fun j y v' e1 e2 e3=>?_⟩,fun y c' e=>?_,I.free,I.freeC,fun p hp=>?_,tracked ⟨oc,hoc,I.freeC x c hc⟩ hs,by simpa using I.len⟩ ⟨c,hs,.inr hc⟩
  ·exact (hs.2 b (Nat.ne_of_lt (Nat.lt_of_lt_of_le (Heap.lt_size e) (I.ok.cab x c hfn hc)))).trans (I.base.keep b o e n hb hx)
  ·obtain ⟨sl,e1⟩:=I.base.slot b o e n hb hx
   exact ⟨sl,(hs.2 b (Nat.ne_of_lt (Nat.lt_of_lt_of_le (Heap.lt_size e) (I.ok.cab x c hfn hc)))).trans e1⟩
  ·obtain ⟨o',e1⟩:=I.base.there b o e hx
   exact ⟨o',(hs.2 b (Nat.ne_of_lt (Nat.lt_of_lt_of_le (Heap.lt_size e) (I.ok.cab x c hfn hc)))).trans e1⟩
  ·by_cases hj:j=i
   ·subst hj
    rw [hi] at e1; cases e1
    rw [List.getElem?_set_self hiσ] at e2
    cases e2
    exact ⟨u,r,.inr ⟨.inl hk,c,hc,hc'⟩⟩
   ·rw [List.getElem?_set_ne (Ne.symm hj)] at e2
    obtain ⟨u',r',q⟩:=hl j y v' e1 e2 e3
    refine ⟨u',r',?_⟩
    rcases q with q | ⟨k,c',e,z'⟩
    ·exact .inl q
    ·refine .inr ⟨k,c',e,z'.sameBut hs ?_⟩
     rintro rfl
     exact hj (nodup_ix hN e1 (I.ok.inj _ _ _ e hc▸hi))
  ·by_cases hcc:c'=c
   ·subst hcc; exact ⟨_,hc'⟩
   ·obtain ⟨w2,z2⟩:=I.cell y c' e
    exact ⟨w2,z2.sameBut hs hcc⟩
  ·obtain ⟨e,n,ne,nf,d⟩:=I.pin p hp
   refine ⟨(hs.2 p.1 ?_).trans e,n,ne,nf,d⟩
   intro q
   rw [q,hoc] at e
   have q':oc=p.2:=Option.some.inj e
   exact d w' (by rw [← q']; exact hocd)
theorem store_ok {M:Model}{A:Around}{E:Value→Shared→Prop}{i:Nat}{x:Str}{v:V}{u:Value}{Q:Unit→Shared→Prop} (I:Inv X pins σ H s) (hN:X.N.Nodup) (hi:X.N[i]?=some x) (hx:Loc X.env.scope x) (r:RelV v u)
  (h:∀ s',Inv X pins (σ.set i (some v)) H s'→Q () s') (hf:X.fn x=true∨X.env.scope.names.lookup x=some .local:=by first | exact .inl rfl | exact .inr rfl | assumption):wpAny M A (storeName X.env x u) Q E s :=
 store_ok2 I hN hi hx r (fun s' I' _=>h s' I') hf
theorem Inv.call' {s':Shared}{ch:List Addr} (I:Inv X pins σ H s) (ho:s'.os=s.os) (u:Un (frs X.stack) ch H H' s.heap s'.heap) (hok:HOk X.prog X.w H' s'.heap) (hg:AllBare s'.gens)
  (hch:∀ b∈ch,(b∈X.ex∨X.s₀.heap.objs.size≤b)∧b≠X.env.locals∧(∀ x c,X.env.cells.lookup x=some c→c≠b)∧∀ p∈X.pn++pins,p.1≠b):Inv X pins σ H' s':=by
 obtain ⟨h',g',d',t',o'⟩:=s'
 have e:o'=s.os:=ho
 subst e
 exact I.call (g':=g') (t':=t') (d':=d') u hok hg hch
end
noncomputable abbrev XK:=Value→Option Addr→Hp→Prop
noncomputable abbrev St:=List (Option V)
noncomputable abbrev VK:=V→Hp→Prop
noncomputable abbrev TE:=St→Hp→VK→Prop
noncomputable abbrev TT:=St→Hp→(Bool→Hp→Prop)→Prop
noncomputable abbrev TA:=St→Hp→(List V→Hp→Prop)→Prop
structure Ends where
 nx:St→Hp→Prop
 rt:VK
 bk:St→Hp→Prop:=fun _ _=>False
 ct:St→Hp→Prop:=fun _ _=>False
noncomputable abbrev TS:=Ends→St→Hp→Prop
inductive EP (X:Cx) (pins:List (Addr × Obj)) (σ:St) (Q:VK) (u:Value) (s':Shared):Prop
 | mk (v:V) (H':Hp) (I:Inv X pins σ H' s') (r:RelV v u) (q:Q v H')
inductive TP (X:Cx) (pins:List (Addr × Obj)) (σ:St) (Q:Bool→Hp→Prop) (b:Bool) (s':Shared):Prop
 | mk (H':Hp) (I:Inv X pins σ H' s') (q:Q b H')
inductive AP (X:Cx) (pins:List (Addr × Obj)) (σ:St) (Q:List V→Hp→Prop) (us:List Value) (s':Shared):Prop
 | mk (vs:List V) (H':Hp) (I:Inv X pins σ H' s') (r:Vals vs us) (q:Q vs H')
def SP (X:Cx) (pins:List (Addr × Obj)) (D:Ends) (f:Flow) (s':Shared):Prop :=
 match f with
 | .next=>∃ σ' H',Inv X pins σ' H' s'∧D.nx σ' H'
 | .brk=>∃ σ' H',Inv X pins σ' H' s'∧D.bk σ' H'
 | .cont=>∃ σ' H',Inv X pins σ' H' s'∧D.ct σ' H'
 | .ret u=>∃ v σ' H',Inv X pins σ' H' s'∧RelV v u∧D.rt v H'
def PE (X:Cx) (e:Expr) (t:TE):Prop :=
 ∀ (pins:List (Addr × Obj)) (s:Shared) (σ:St) (H:Hp) (Q:VK),Inv X pins σ H s→t σ H Q→wpAny (model X.prog X.w) X.A (eval e X.env) (EP X pins σ Q) X.xe s
def PT (X:Cx) (e:Expr) (t:TT):Prop :=
 ∀ (pins:List (Addr × Obj)) (s:Shared) (σ:St) (H:Hp) (Q:Bool→Hp→Prop),Inv X pins σ H s→t σ H Q→wpAny (model X.prog X.w) X.A (isTrue e X.env (eval e X.env)) (TP X pins σ Q) X.xe s
def PW (X:Cx) (e:Expr) (t:TT):Prop :=
 ∀ (whole:Sem Value) (pins:List (Addr × Obj)) (s:Shared) (σ:St) (H:Hp) (Q:Bool→Hp→Prop),Inv X pins σ H s→t σ H Q→wpAny (model X.prog X.w) X.A (isTrue e X.env whole) (TP X pins σ Q) X.xe s
theorem PW.pt {X:Cx}{e:Expr}{t:TT} (h:PW X e t):PT X e t:=h _
def PA (X:Cx) (es:List Expr) (t:TA):Prop :=
 ∀ (pos:Pos) (pins:List (Addr × Obj)) (s:Shared) (σ:St) (H:Hp) (Q:List V→Hp→Prop),Inv X pins σ H s→t σ H Q→wpAny (model X.prog X.w) X.A (spliced (backTo pos (starEach es X.env))) (AP X pins σ Q) X.xe s
def PS (X:Cx) (st:Stmt) (t:TS):Prop :=
 ∀ (pins:List (Addr × Obj)) (s:Shared) (σ:St) (H:Hp) (D:Ends),Inv X pins σ H s→t D σ H→wpAny (model X.prog X.w) X.A (exec st X.env) (SP X pins D) X.xe s
def PSs (X:Cx) (st:List Stmt) (t:TS):Prop :=
 ∀ (pins:List (Addr × Obj)) (s:Shared) (σ:St) (H:Hp) (D:Ends),Inv X pins σ H s→t D σ H→wpAny (model X.prog X.w) X.A (execs st X.env) (SP X pins D) X.xe s
theorem thn {α:Type}{t:Sem α}{Q Q':α→Shared→Prop}{M:Model}{A:Around}{E:Value→Shared→Prop}{s:Shared} (h:wpAny M A t Q E s) (hQ:∀ a s,Q a s→Q' a s):wpAny M A t Q' E s:=wpAny_mono h hQ fun _ _ x=>x
section
variable {X:Cx}
noncomputable def tVar (i:Nat):TE:=fun σ H Q=>∃ v,σ[i]?=some (some v)∧Q v H
noncomputable def tC (v:V):TE:=fun _ H Q=>Q v H
theorem pe_var {i:Nat}{x:Str}{pos:Pos} (hN:X.N[i]?=some x) (hv:Vis X.env.scope x) (hd:(x == ("__debug__":Str))=false:=by decide) (hcd:(x == ("__classdict__":Str))=false:=by decide):PE X (.Name x pos) (tVar i):=by
 intro pins s σ H Q I h
 obtain ⟨v,e,h⟩:=h
 obtain ⟨m,hn,hl⟩:=I.loc
 obtain ⟨u,r,l⟩:=hl i x v hN e hv
 have fin:EP X pins σ Q u s:=⟨v,H,I,r,h⟩
 rcases l with ⟨hk,hm⟩ | ⟨hk,c,hc,hcell⟩
 ·exact wpAny_Name (wpAny_loadName_local I.ok.kind hk hn hm fin) hd
 ·rcases hk with hk | hk
  ·exact wpAny_Name (wpAny_loadName_cell I.ok.kind hk hc hcell fin) hd
  ·exact wpAny_Name (wpAny_loadName_free I.ok.kind hk hc hcell fin hcd) hd
theorem pe_int {i j pos}:PE X (.Constant (.int i) j pos) (tC (.int i)):=fun _ _ _ H _ I h=>wpAny_Constant_int ⟨.int i,H,I.tok _,⟨_,rfl⟩,h⟩
theorem pe_bl {b j pos}:PE X (.Constant (.bool b) j pos) (tC (.bl b)):=fun _ _ _ H _ I h=>Constant_bool ⟨.bl b,H,I,rfl,h⟩
theorem pe_non {j pos}:PE X (.Constant .none j pos) (tC .non):=fun _ _ _ H _ I h=>Constant_none ⟨.non,H,I,rfl,h⟩
theorem pe_str {x j pos}:PE X (.Constant (.str x) j pos) (tC (.str x)):=fun _ _ _ H _ I h=>Calls.Constant_str ⟨.str x,H,I.tok _,⟨_,rfl⟩,h⟩
def Gl (X:Cx) (x:Str):Prop:=X.env.kindOf x=some .globalImplicit
theorem ld_glob {E:Value→Shared→Prop}{pins:List (Addr × Obj)}{s:Shared}{σ:St}{H:Hp}{x:Str}{u:Value}{pos:Pos}{Q:Value→Shared→Prop} (I:Inv X pins σ H s) (hg:Gl X x) (hm:X.mg x=some u) (h:Q u s)
  (hd:(x == ("__debug__":Str))=false:=by decide):wpAny (model X.prog X.w) X.A (eval (.Name x pos) X.env) Q E s :=
 Calls.Name_function_global I.ok.kind hg (Calls.loadGlobal_global (by rw [I.ok.glob]; exact I.mod.glob.keeps I.bk) hm h) hd
theorem ld_blt {E:Value→Shared→Prop}{pins:List (Addr × Obj)}{s:Shared}{σ:St}{H:Hp}{x:Str}{u:Value}{pos:Pos}{Q:Value→Shared→Prop} (I:Inv X pins σ H s) (hg:Gl X x) (hm:X.mg x=none) (hv:bootBuiltins x=some u) (h:Q u s)
  (hn:x ≠ "__name__":=by decide) (hd:(x == ("__debug__":Str))=false:=by decide):wpAny (model X.prog X.w) X.A (eval (.Name x pos) X.env) Q E s:=by
 obtain ⟨mb,h1,h2⟩:=I.mod.blt
 exact Calls.Name_function_global I.ok.kind hg (Calls.loadGlobal_builtin (by rw [I.ok.glob]; exact I.mod.glob.keeps I.bk) hm (by rw [I.ok.blt]; exact h1.keeps I.bk) ((h2 x hn).trans hv) h) hd
theorem pe_bltn {x:Str}{v:V}{u:Value}{pos:Pos} (hg:Gl X x) (hm:X.mg x=none) (hv:bootBuiltins x=some u) (r:RelV v u) (hn:x ≠ "__name__":=by decide) (hd:(x == ("__debug__":Str))=false:=by decide):PE X (.Name x pos) (tC v) :=
 fun _ _ _ H _ I h=>ld_blt I hg hm hv ⟨v,H,I,r,h⟩ hn hd
variable {a b:Expr}{ta tb:TE}{pos:Pos}
variable {tA tB':TT}{rest:List Expr}
noncomputable def tAnd (t u:TT):TT:=fun σ H Q=>t σ H fun c H1=>if c=true then u σ H1 Q else Q false H1
noncomputable def tOr (t u:TT):TT:=fun σ H Q=>t σ H fun c H1=>if c=true then Q true H1 else u σ H1 Q
noncomputable def tNot (t:TT):TT:=fun σ H Q=>t σ H fun c H1=>Q (!c) H1
theorem pw_and1 (ha:PT X a tA):PW X (.BoolOp .And [a] pos) tA:=by
 intro wh pins s σ H Q I h
 refine isTrue_and (thn (ha pins s σ H Q I h) fun c s1 e=>?_)
 cases c with
 | true=>exact isTrue_and_nil e
 | false=>exact e
theorem pw_or1 (ha:PT X a tA):PW X (.BoolOp .Or [a] pos) tA:=by
 intro wh pins s σ H Q I h
 refine isTrue_or (thn (ha pins s σ H Q I h) fun c s1 e=>?_)
 cases c with
 | false=>exact isTrue_or_nil e
 | true=>exact e
theorem pw_and (ha:PT X a tA) (hb:PW X (.BoolOp .And (b::rest) pos) tB'):PW X (.BoolOp .And (a::b::rest) pos) (tAnd tA tB'):=by
 intro wh pins s σ H Q I h
 refine isTrue_and (thn (ha pins s σ H _ I h) fun c s1 ⟨H1,I1,q1⟩=>?_)
 cases c with
 | true=>exact hb wh pins s1 σ H1 Q I1 q1
 | false=>exact ⟨H1,I1,q1⟩
theorem pw_or (ha:PT X a tA) (hb:PW X (.BoolOp .Or (b::rest) pos) tB'):PW X (.BoolOp .Or (a::b::rest) pos) (tOr tA tB'):=by
 intro wh pins s σ H Q I h
 refine isTrue_or (thn (ha pins s σ H _ I h) fun c s1 ⟨H1,I1,q1⟩=>?_)
 cases c with
 | true=>exact ⟨H1,I1,q1⟩
 | false=>exact hb wh pins s1 σ H1 Q I1 q1
theorem pt_not (ha:PT X a tA):PT X (.UnaryOp .Not a pos) (tNot tA):=by
 intro pins s σ H Q I h
 exact isTrue_not (thn (ha pins s σ H (fun c H1=>Q (!c) H1) I h) fun c s' ⟨H',I',q⟩=>⟨H',I',q⟩)
noncomputable def tAndV (ta tb:TE):TE:=fun σ H Q=>ta σ H fun x H1=>∃ c,x=.bl c∧if c=true then tb σ H1 Q else Q (.bl false) H1
noncomputable def tOrV (ta tb:TE):TE:=fun σ H Q=>ta σ H fun x H1=>∃ c,x=.bl c∧if c=true then Q (.bl true) H1 else tb σ H1 Q
noncomputable def tNotV (ta:TE):TE:=fun σ H Q=>ta σ H fun x H1=>∃ c,x=.bl c∧Q (.bl (!c)) H1
theorem pe_one {op}{t:TE} (h:PE X a t):PE X (.BoolOp op [a] pos) t:=fun pins s σ H Q I hw=>BoolOp_one (h pins s σ H Q I hw)
theorem pe_and (ha:PE X a ta) (hb:PE X (.BoolOp .And (b::rest) pos) tb):PE X (.BoolOp .And (a::b::rest) pos) (tAndV ta tb):=by
 intro pins s σ H Q I h
 refine BoolOp_and (thn (ha pins s σ H _ I h) fun v s1 ⟨x,H1,I1,r1,q1⟩=>?_)
 obtain ⟨c,rfl,q1⟩:=q1
 cases r1
 refine wpAny_truthy_bool ?_
 cases c with
 | true=>exact hb pins s1 σ H1 Q I1 q1
 | false=>exact ⟨.bl false,H1,I1,rfl,q1⟩
theorem pe_or (ha:PE X a ta) (hb:PE X (.BoolOp .Or (b::rest) pos) tb):PE X (.BoolOp .Or (a::b::rest) pos) (tOrV ta tb):=by
 intro pins s σ H Q I h
 refine BoolOp_or (thn (ha pins s σ H _ I h) fun v s1 ⟨x,H1,I1,r1,q1⟩=>?_)
 obtain ⟨c,rfl,q1⟩:=q1
 cases r1
 refine wpAny_truthy_bool ?_
 cases c with
 | false=>exact hb pins s1 σ H1 Q I1 q1
 | true=>exact ⟨.bl true,H1,I1,rfl,q1⟩
theorem pe_not (ha:PE X a ta):PE X (.UnaryOp .Not a pos) (tNotV ta):=by
 intro pins s σ H Q I h
 refine UnaryOp_ (thn (ha pins s σ H _ I h) fun v s1 ⟨x,H1,I1,r1,q1⟩=>?_)
 obtain ⟨c,rfl,q1⟩:=q1
 cases r1
 exact not_of (wpAny_truthy_bool ⟨.bl (!c),H1,I1,rfl,q1⟩)
noncomputable def tIf (t:TT) (ta tb:TE):TE:=fun σ H Q=>t σ H fun c H1=>if c=true then ta σ H1 Q else tb σ H1 Q
theorem pe_ifExp {c:Expr} (hc:PT X c tA) (ha:PE X a ta) (hb:PE X b tb):PE X (.IfExp c a b pos) (tIf tA ta tb):=by
 intro pins s σ H Q I h
 refine wpAny_IfExp (thn (hc pins s σ H _ I h) fun d s1 ⟨H1,I1,q1⟩=>?_)
 cases d with
 | true=>exact ha pins s1 σ H1 Q I1 q1
 | false=>exact hb pins s1 σ H1 Q I1 q1
end
def SqL (K:W.Frag) (H:Hp) (a:Addr) (xs:List V):Prop :=
 Rd H a (.lst xs) ∨
  ∃ (o:Obj) (its:Array Value) (n:Nat),K.lookup a=some o∧o.cls=.type "list"∧o.dict=none∧o.data=.seq its n∧its.size≤sizeLine∧Vals xs its.toList
def SqT (K:W.Frag) (H:Hp) (a:Addr) (xs:List V):Prop :=
 Rd H a (.tup xs) ∨
  ∃ (o:Obj) (its:Array Value) (n:Nat),K.lookup a=some o∧o.cls=.type "tuple"∧o.data=.seq its n∧its.size≤sizeLine∧Vals xs its.toList
noncomputable def absV:Value→Option V
 | .none=>some .non
 | .bool b=>some (.bl b)
 | .int i _=>some (.int i)
 | .str x _=>some (.str x)
 | .bytes b _=>some (.byt b)
 | .float b _=>some (.flt b)
 | .ref a=>some (.ref a)
 | .type n=>some (.ty n)
 | _=>none
theorem RelV.abs {x:V}{u:Value} (r:RelV x u):absV u=some x:=by
 cases x with
 | non=>cases r; rfl
 | bl _=>cases r; rfl
 | int _=>obtain ⟨t,rfl⟩:=r; rfl
 | str _=>obtain ⟨t,rfl⟩:=r; rfl
 | byt _=>obtain ⟨t,rfl⟩:=r; rfl
 | flt _=>obtain ⟨t,rfl⟩:=r; rfl
 | ref _=>cases r; rfl
 | ty _=>cases r; rfl
theorem RelV.inj {x y:V}{u:Value} (r:RelV x u) (q:RelV y u):x=y:=Option.some.inj (r.abs.symm.trans q.abs)
theorem Vals.inj:∀ {xs ys:List V}{us:List Value},Vals xs us→Vals ys us→xs=ys
 | _,_,_,.nil,.nil=>rfl
 | _,_,_,.cons r t,.cons r' t'=>by rw [r.inj r',Vals.inj t t']
section
variable {X:Cx}{pins:List (Addr × Obj)}{σ:St}{H:Hp}{s:Shared}{a:Addr}{xs ys:List V}
theorem SqL.of {K:W.Frag} (h:H a=some (.lst xs)):SqL K H a xs:=.inl (.inl h)
theorem SqT.of {K:W.Frag} (h:H a=some (.tup xs)):SqT K H a xs:=.inl (.inl h)
theorem Inv.list (I:Inv X pins σ H s) (h:SqL X.K H a xs):∃ its:List Value,Vals xs its∧PlainL s.heap a its.toArray∧xs.length≤sizeLine:=by
 rcases h with h | ⟨o,its,n,hk,hc,hd,hs,hz,r⟩
 ·obtain ⟨z,its,n,r,e⟩:=h.ok I.hok
  exact ⟨its,r,⟨_,n,e,rfl,rfl,rfl⟩,z⟩
 ·refine ⟨its.toList,r,⟨o,n,I.kIn a o hk,hc,hd,by simpa using hs⟩,?_⟩
  have e:=r.length
  simp only [Array.length_toList] at e
  omega
theorem Inv.tuple (I:Inv X pins σ H s) (h:SqT X.K H a xs):∃ its:List Value,Vals xs its∧IsTup s.heap a its.toArray∧xs.length≤sizeLine:=by
 rcases h with h | ⟨o,its,n,hk,hc,hs,hz,r⟩
 ·obtain ⟨z,its,r,p⟩:=h.ok I.hok
  exact ⟨its,r,p,z⟩
 ·refine ⟨its.toList,r,⟨o,I.kIn a o hk,hc,n,by simpa using hs⟩,?_⟩
  have e:=r.length
  simp only [Array.length_toList] at e
  omega
theorem Inv.list_inj (I:Inv X pins σ H s) (h:SqL X.K H a xs) (h':SqL X.K H a ys):xs=ys:=by
 obtain ⟨its,r,⟨o,n,e,_,_,d⟩,_⟩:=I.list h
 obtain ⟨its',r',⟨o',n',e',_,_,d'⟩,_⟩:=I.list h'
 rw [e] at e'; cases e'
 rw [d] at d'
 injection d' with d1 _
 have:its=its':=by simpa using congrArg Array.toList d1
 subst this
 exact r.inj r'
theorem Inv.tuple_inj (I:Inv X pins σ H s) (h:SqT X.K H a xs) (h':SqT X.K H a ys):xs=ys:=by
 obtain ⟨its,r,⟨o,e,_,n,d⟩,_⟩:=I.tuple h
 obtain ⟨its',r',⟨o',e',_,n',d'⟩,_⟩:=I.tuple h'
 rw [e] at e'; cases e'
 rw [d] at d'
 injection d' with d1 _
 have:its=its':=by simpa using congrArg Array.toList d1
 subst this
 exact r.inj r'
end
noncomputable abbrev Cx.wish (X:Cx) (E:Value→Shared→Prop):Cx:={ X with xe:=E }
noncomputable abbrev Cx.nox (X:Cx):Cx:=X.wish fun _ _=>False
theorem Cx.Ok.wish {X:Cx} (ok:X.Ok) (E:Value→Shared→Prop):(X.wish E).Ok :=
 ⟨ok.mod,ok.kind,ok.glob,ok.blt,ok.above,ok.inj,ok.has,ok.cab,ok.hd,ok.frames,ok.stk,ok.exf,ok.bs,ok.bsz,ok.noex,ok.exfs,ok.funs,ok.frf⟩
theorem Cx.Ok.unwish {X:Cx}{E:Value→Shared→Prop} (ok:(X.wish E).Ok):X.Ok :=
 ⟨ok.mod,ok.kind,ok.glob,ok.blt,ok.above,ok.inj,ok.has,ok.cab,ok.hd,ok.frames,ok.stk,ok.exf,ok.bs,ok.bsz,ok.noex,ok.exfs,ok.funs,ok.frf⟩
section
variable {X:Cx}{pins:List (Addr × Obj)}{σ:St}{H:Hp}{s:Shared}{E:Value→Shared→Prop}
theorem Inv.wish (I:Inv X pins σ H s) (E:Value→Shared→Prop):Inv (X.wish E) pins σ H s:=⟨I.ok.wish E,I.os,I.bare,I.base,I.loc,I.cell,I.free,I.freeC,I.pin,I.hok,I.len⟩
theorem Inv.unwish (I:Inv (X.wish E) pins σ H s):Inv X pins σ H s:=⟨I.ok.unwish,I.os,I.bare,I.base,I.loc,I.cell,I.free,I.freeC,I.pin,I.hok,I.len⟩
theorem SP.unwish {D:Ends}{f:Flow}{s':Shared} (h:SP (X.wish E) pins D f s'):SP X pins D f s':=by
 cases f with
 | next=>obtain ⟨σ',H',I,q⟩:=h; exact ⟨σ',H',I.unwish,q⟩
 | brk=>obtain ⟨σ',H',I,q⟩:=h; exact ⟨σ',H',I.unwish,q⟩
 | cont=>obtain ⟨σ',H',I,q⟩:=h; exact ⟨σ',H',I.unwish,q⟩
 | ret u=>obtain ⟨v,σ',H',I,r,q⟩:=h; exact ⟨v,σ',H',I.unwish,r,q⟩
theorem PSs.nox {st:List Stmt}{t:TS} (h:PSs X.nox st t):PSs X st t:=fun pins s σ H D I hw =>
 wpAny_mono (h pins s σ H D (I.wish _) hw) (fun _ _ q=>q.unwish) fun _ _ z=>False.elim z
end
section
variable {X:Cx}{st:Stmt}{rest:List Stmt}{t u:TS}{e:Expr}{te:TE}{pos:Pos}
noncomputable def tNext:TS:=fun D σ H=>D.nx σ H
noncomputable def tSeq (t u:TS):TS:=fun D σ H=>t { D with nx:=u D } σ H
theorem pss_nil:PSs X [] tNext:=fun _ _ σ H _ I h=>wpAny_execs_nil ⟨σ,H,I,h⟩
theorem pss_cons (h1:PS X st t) (h2:PSs X rest u):PSs X (st::rest) (tSeq t u):=by
 intro pins s σ H D I h
 refine wpAny_execs_cons (thn (h1 pins s σ H { D with nx:=u D } I h) fun f s1 q=>?_)
 cases f with
 | next =>
  obtain ⟨σ',H',I',q⟩:=q
  exact h2 pins s1 σ' H' D I' q
 | ret v=>exact q
 | brk=>exact q
 | cont=>exact q
noncomputable def tBreak:TS:=fun D σ H=>D.bk σ H
noncomputable def tCont:TS:=fun D σ H=>D.ct σ H
theorem ps_pass:PS X (.Pass pos) tNext:=fun _ _ σ H _ I h=>wpAny_Pass ⟨σ,H,I,h⟩
theorem ps_break:PS X (.Break pos) tBreak:=fun _ _ σ H _ I h=>wpAny_Break ⟨σ,H,I,h⟩
theorem ps_continue:PS X (.Continue pos) tCont:=fun _ _ σ H _ I h=>wpAny_Continue ⟨σ,H,I,h⟩
theorem Inv.quiet {pins:List (Addr × Obj)}{σ:St}{H:Hp}{s:Shared} (I:Inv X pins σ H s):interactive X.env=false:=by simp [interactive,I.ok.kind]
noncomputable def tDrop (te:TE):TS:=fun D σ H=>te σ H fun _ H1=>D.nx σ H1
theorem ps_expr (he:PE X e te) (hs:swapsWith e none pos.line X.env=pure false:=by rfl):PS X (.Expr e pos) (tDrop te):=by
 intro pins s σ H D I h
 exact wpAny_Expr_any (thn (he pins s σ H _ I h) fun v s1 ⟨x,H1,I1,r1,q1⟩=>⟨σ,H1,I1,q1⟩) I.quiet hs
noncomputable def tRet (te:TE):TS:=fun D σ H=>te σ H D.rt
theorem ps_ret (he:PE X e te):PS X (.Return (some e) pos) (tRet te):=by
 intro pins s σ H D I h
 exact wpAny_Return_some (thn (he pins s σ H _ I h) fun v s1 ⟨x,H1,I1,r1,q1⟩=>⟨x,σ,H1,I1,r1,q1⟩)
noncomputable def tRetN:TS:=fun D _ H=>D.rt .non H
theorem ps_retN:PS X (.Return none pos) tRetN:=fun _ _ σ H _ I h=>wpAny_Return_none ⟨.non,σ,H,I,rfl,h⟩
noncomputable def tIfS (c:TT) (t u:TS):TS:=fun D σ H=>c σ H fun b H1=>if b=true then t D σ H1 else u D σ H1
theorem ps_if {c:Expr}{a b:List Stmt}{tc:TT} (hc:PT X c tc) (ha:PSs X a t) (hb:PSs X b u):PS X (.If c a b pos) (tIfS tc t u):=by
 intro pins s σ H D I h
 refine wpAny_If (thn (hc pins s σ H _ I h) fun d s1 ⟨H1,I1,q1⟩=>?_)
 cases d with
 | true=>exact ha pins s1 σ H1 D I1 q1
 | false=>exact hb pins s1 σ H1 D I1 q1
noncomputable def tNever:TS:=fun _ _ _=>False
theorem ps_never:PS X st tNever:=fun _ _ _ _ _ _ h=>h.elim
end
noncomputable abbrev TG:=V→St→Hp→(St→Hp→Prop)→Prop
noncomputable abbrev TGs:=List V→St→Hp→(St→Hp→Prop)→Prop
def PG (X:Cx) (target:Expr) (t:TG):Prop :=
 ∀ (pins:List (Addr × Obj)) (s:Shared) (σ:St) (H:Hp) (v:V) (u:Value) (Q:St→Hp→Prop),Inv X pins σ H s→RelV v u→t v σ H Q →
  wpAny (model X.prog X.w) X.A (assign target X.env u) (fun _ s'=>∃ σ' H',Inv X pins σ' H' s'∧Q σ' H') X.xe s
def PGs (X:Cx) (ts:List Expr) (t:TGs):Prop :=
 ∀ (pins:List (Addr × Obj)) (s:Shared) (σ:St) (H:Hp) (vs:List V) (us:List Value) (Q:St→Hp→Prop),Inv X pins σ H s→Vals vs us→t vs σ H Q →
  wpAny (model X.prog X.w) X.A (assignInOrder ((assignEach ts X.env).map (·.2)) us) (fun _ s'=>∃ σ' H',Inv X pins σ' H' s'∧Q σ' H') X.xe s
noncomputable abbrev TSet:=V→V→V→Hp→(Hp→Prop)→Prop
def PSet (X:Cx) (t:TSet):Prop :=
 ∀ (pins:List (Addr × Obj)) (s:Shared) (σ:St) (H:Hp) (o i v:V) (ov iv u:Value) (Q:Hp→Prop),Inv X pins σ H s→RelV o ov→RelV i iv→RelV v u→t o i v H Q →
  wpAny (model X.prog X.w) X.A (setItem ov iv u) (fun _ s'=>∃ H',Inv X pins σ H' s'∧Q H') X.xe s
section
variable {X:Cx}{pos:Pos}
noncomputable def gName (i:Nat):TG:=fun v σ H Q=>Q (σ.set i (some v)) H
theorem pg_name {i:Nat}{x:Str} (hN:X.N.Nodup) (hi:X.N[i]?=some x) (hx:Loc X.env.scope x) (hf:X.fn x=true∨X.env.scope.names.lookup x=some .local:=by first | exact .inl rfl | exact .inr rfl | assumption):PG X (.Name x pos) (gName i):=by
 intro pins s σ H v u Q I r h
 exact wpAny_assign_Name (store_ok I hN hi hx r (fun s' I'=>⟨_,H,I',h⟩) hf)
noncomputable def gNil:TGs:=fun vs σ H Q=>vs=[]∧Q σ H
noncomputable def gCons (t:TG) (u:TGs):TGs:=fun vs σ H Q=>∃ v r,vs=v::r∧t v σ H fun σ' H'=>u r σ' H' Q
theorem pgs_nil:PGs X [] gNil:=by
 intro pins s σ H vs us Q I r h
 obtain ⟨e,h⟩:=h
 subst e
 cases r
 exact assignInOrder_nil ⟨σ,H,I,h⟩
theorem pgs_cons {e:Expr}{es:List Expr}{t:TG}{u:TGs} (h1:PG X e t) (h2:PGs X es u)
  (hs:(assignEach (e::es) X.env).map (·.2)=assign e X.env::(assignEach es X.env).map (·.2):=by rfl):PGs X (e::es) (gCons t u):=by
 intro pins s σ H vs us Q I r h
 obtain ⟨v,vr,e1,h⟩:=h
 subst e1
 cases r with
 | cons r rr =>
  rw [hs]
  refine assignInOrder_cons (thn (h1 pins s σ H _ _ _ I r h) fun _ s1 ⟨σ1,H1,I1,q1⟩=>?_)
  exact h2 pins s1 σ1 H1 _ _ Q I1 rr q1
noncomputable def gTup (K:W.Frag) (n:Nat) (t:TGs):TG:=fun v σ H Q=>∃ a xs,v=.ref a∧SqT K H a xs∧xs.length=n∧t xs σ H Q
theorem pg_tup {es:List Expr}{k:Nat}{t:TGs}{n:Nat} (hc:X.calm=true) (h:PGs X es t)
  (hn:(assignEach es X.env).length=n:=by rfl) (hst:(assignEach es X.env).findIdx? (·.1)=none:=by rfl):PG X (.Tuple es k pos) (gTup X.K n t):=by
 intro pins s σ H v u Q I r hw
 obtain ⟨a,xs,e1,hq,hl,hw⟩:=hw
 subst e1
 cases r
 obtain ⟨its,rv,ht,hz⟩:=I.tuple hq
 refine assign_Tuple_tuple (I.ok.hd hc) ht (by simp [hn,← hl,rv.length]) hst fun h' hx=>?_
 have I1:Inv X pins σ H { s with heap:=h' }:=I.kept (t':=s.toks) fun b o e=>hx b o (Nat.ne_of_lt (Heap.lt_size e)) e
 exact h pins _ σ H xs _ Q I1 (by simpa using rv) hw
noncomputable def gSub (to ti:TE) (t:TSet):TG:=fun v σ H Q=>to σ H fun o H1=>ti σ H1 fun i H2=>t o i v H2 fun H3=>Q σ H3
theorem pg_sub {o i:Expr}{to ti:TE}{t:TSet} (ho:PE X o to) (hi:PE X i ti) (hs:PSet X t)
  (ha:∀ v,assign (.Subscript o i pos) X.env v=(do
   let ov ← holding [v] (eval o X.env)
   let iv ← holding [v,ov] (eval i X.env)
   standAt pos
   holding [v,ov,iv] (setItem ov iv v)
   release [v,ov,iv] []):=by intro _; rfl):PG X (.Subscript o i pos) (gSub to ti t):=by
 intro pins s σ H v u Q I r h
 rw [ha]
 refine wpAny_bind (wpAny_holding (thn (ho pins s σ H _ I h) fun ov s1 ⟨x,H1,I1,r1,q1⟩=>?_))
 refine wpAny_bind (wpAny_holding (thn (hi pins s1 σ H1 _ I1 q1) fun iv s2 ⟨y,H2,I2,r2,q2⟩=>?_))
 refine wpAny_bind (wpAny_standAt (wpAny_bind (wpAny_holding (thn (hs pins s2 σ H2 x y v ov iv u _ I2 r1 r2 r q2) fun _ s3 ⟨H3,I3,q3⟩=>?_))))
 exact wpAny_release ⟨σ,H3,I3,q3⟩
noncomputable def tAsg (te:TE) (g:TG):TS:=fun D σ H=>te σ H fun x H1=>g x σ H1 D.nx
theorem ps_asg {tg e:Expr}{te:TE}{g:TG} (he:PE X e te) (hg:PG X tg g) (hs:swapsWithSole [tg] e pos.line X.env=pure false:=by rfl) (hw:swappedStores [tg] e X.env=pure none:=by rfl)
  (h1:(assignEach [tg] X.env).map (·.2)=[assign tg X.env]:=by rfl):PS X (.Assign [tg] e pos) (tAsg te g):=by
 intro pins s σ H D I h
 refine wpAny_Assign_stores (thn (he pins s σ H _ I h) fun v s1 ⟨x,H1,I1,r1,q1⟩=>?_) hs hw
 rw [h1]
 exact thn (hg pins s1 σ H1 x v _ I1 r1 q1) fun _ s2 q=>q
end
section
variable {X:Cx}{pos:Pos}
noncomputable def tWhile (c:TT) (tb:TS):TS:=fun D σ H=>∃ W:Nat→St→Hp→Prop,(∃ m,W m σ H)∧∀ m σ H,W m σ H →
 c σ H fun b H1=>if b=true then ∃ N:St→Hp→Prop,(∀ σ' H',N σ' H'→∃ m',m'<m∧W m' σ' H')∧tb { D with nx:=N,ct:=N,bk:=D.nx } σ H1 else D.nx σ H1
theorem ps_while {c:Expr}{body:List Stmt}{tc:TT}{tb:TS} (hp:PassesOwn (model X.prog X.w) X.A X.env X.xe) (hc:PT X c tc) (hb:PSs X body tb):PS X (.While c body [] pos) (tWhile tc tb):=by
 intro pins s σ H D I h
 obtain ⟨W,⟨m0,w0⟩,turn⟩:=h
 refine wpAny_While (codeAny_whileLoop (fun n s'=>∃ σ' H',Inv X pins σ' H' s'∧W n σ' H') ?_ m0 ⟨σ,H,I,w0⟩)
 rintro n s1 ⟨σ1,H1,I1,w1⟩
 refine wpAny_passesOwn hp (thn (hc pins s1 σ1 H1 _ I1 (turn n σ1 H1 w1)) fun b s2 ⟨H2,I2,q2⟩=>?_)
 cases b with
 | true =>
  obtain ⟨N,hN,q2⟩:=q2
  rw [if_pos rfl]
  refine wpAny_passesOwn hp (thn (hb pins s2 σ1 H2 _ I2 q2) fun f s3 q3=>?_)
  cases f with
  | next =>
   obtain ⟨σ3,H3,I3,n3⟩:=q3
   obtain ⟨m',hm,w3⟩:=hN σ3 H3 n3
   exact ⟨m',hm,σ3,H3,I3,w3⟩
  | cont =>
   obtain ⟨σ3,H3,I3,n3⟩:=q3
   obtain ⟨m',hm,w3⟩:=hN σ3 H3 n3
   exact ⟨m',hm,σ3,H3,I3,w3⟩
  | brk=>exact q3
  | ret v=>exact q3
 | false =>
  rw [if_neg Bool.false_ne_true]
  exact wpAny_execs_nil ⟨σ1,H2,I2,q2⟩
end
structure It where
 go:Nat→Hp→Prop
 yld:Nat→Hp→V→Hp→Prop
 stop:Nat→Hp→Prop
def FpOk (X:Cx) (pins:List (Addr × Obj)) (H:Hp) (b:Addr):Prop :=
 H b=none∧b≠X.env.locals∧b∉X.fs∧(b∈X.ex∨X.s₀.heap.objs.size≤b)∧(∀ x c,X.env.cells.lookup x=some c→c≠b)∧∀ p∈X.pn++pins,p.1≠b
theorem Inv.fpOk {X:Cx}{pins:List (Addr × Obj)}{σ:St}{H H':Hp}{s:Shared}{b:Addr} (I:Inv X pins σ H s) (hb:s.heap.objs.size≤b) (hn:H' b=none):FpOk X pins H' b:=by
 refine ⟨hn,Nat.ne_of_gt (Nat.lt_of_lt_of_le I.lt hb),I.nofs hb,.inr (Nat.le_trans I.sz hb),fun x c e z=>?_,fun p hp z=>?_⟩
 ·obtain ⟨v,q⟩:=I.cell x c e
  exact absurd (Nat.lt_of_lt_of_le q.lt (by rw [z]; exact hb)) (Nat.lt_irrefl _)
 ·exact absurd (Nat.lt_of_lt_of_le (Heap.lt_size (I.pin p hp).1) (by rw [z]; exact hb)) (Nat.lt_irrefl _)
structure Turn (P:Program) (w:World) (K:W.Frag) (tg:Expr) (J:It) (fp:List Addr) (it:Addr) (tn:Nat→Heap→Prop):Prop where
 mem:it∈fp
 obj:∀ i h,tn i h→∀ b∈fp,∃ o,h.get? b=some o∧∀ v,o.data≠.cell v
 keep:∀ i h h',tn i h→(∀ b∈fp,∀ o,h.get? b=some o→h'.get? b=some o)→tn i h'
 item:∀ (X:Cx),X.prog=P→X.w=w→X.K=K→X.calm=true→∀ (i:Nat) (pins:List (Addr × Obj)) (s:Shared) (σ:St) (H:Hp) (E:Value→Shared→Prop),Inv X pins σ H s→(∀ b∈fp,FpOk X pins H b)→tn i s.heap→J.go i H →
  wpAny (model P w) X.A (pyNext (.ref it)) (fun r s1=>∃ u,r=some u ∧
   wpAny (model P w) X.A (letOwnedTupleGo tg (.ref it) u) (fun _ s2=>∃ x H',Inv X pins σ H' s2∧RelV x u∧J.yld i H x H'∧tn (i+1) s2.heap∧∀ b∈fp,H' b=none) E s1) E s
 done:∀ (X:Cx),X.prog=P→X.w=w→X.K=K→X.calm=true→∀ (i:Nat) (pins:List (Addr × Obj)) (s:Shared) (σ:St) (H:Hp) (E:Value→Shared→Prop),Inv X pins σ H s→(∀ b∈fp,FpOk X pins H b)→tn i s.heap→J.stop i H →
  wpAny (model P w) X.A (pyNext (.ref it)) (fun r s1=>r=none∧Inv X pins σ H s1) E s
 self:∀ (A:Around) (i:Nat) (s:Shared) (Q:Value→Shared→Prop) (E:Value→Shared→Prop),tn i s.heap→Q (.ref it) s→wpAny (model P w) A (pyIter (.ref it)) Q E s
noncomputable abbrev TI:=St→Hp→(It→Hp→Prop)→Prop
inductive PIE (X:Cx) (pins:List (Addr × Obj)) (σ:St) (tg:Expr) (R:It→Hp→Prop) (itv:Value) (s2:Shared):Prop
 | mk (it:Addr) (fp:List Addr) (tn:Nat→Heap→Prop) (J:It) (H':Hp) (e:itv=.ref it) (I:Inv X pins σ H' s2) (T:Turn X.prog X.w X.K tg J fp it tn) (t0:tn 0 s2.heap) (f:∀ b∈fp,FpOk X pins H' b) (r:R J H')
def PI (X:Cx) (tg iter:Expr) (wi:TI):Prop :=
 ∀ (pins:List (Addr × Obj)) (s:Shared) (σ:St) (H:Hp) (R:It→Hp→Prop),Inv X pins σ H s→wi σ H R →
  wpAny (model X.prog X.w) X.A (eval iter X.env) (fun v s1=>wpAny (model X.prog X.w) X.A (pyIter v) (PIE X pins σ tg R) X.xe s1) X.xe s
theorem go_of {M:Model}{A:Around}{E:Value→Shared→Prop}{s:Shared}{tg:Expr}{it:Addr}{u:Value}{o:Obj}{n:String}{vs:Array Value}{Q:Unit→Shared→Prop} (ho:s.heap.get? it=some o) (hc:o.cls=.type n) (hd:o.data=.fields vs)
    (hn:["enumerate","zip","dict_itemiterator","dict_reverseitemiterator","odict_iterator","itertools.zip_longest","itertools.pairwise"].contains n=false) (hQ:Q () s):wpAny M A (letOwnedTupleGo tg (.ref it) u) Q E s:=by
  unfold letOwnedTupleGo
  cases tg <;> first
    | exact wpAny_pure hQ
    | (cases u <;> first
        | exact wpAny_pure hQ
        | (refine wpAny_bind (wpAny_load ho ?_)
           rw [hc,hd]
           show wpAny M A (if (["enumerate","zip","dict_itemiterator","dict_reverseitemiterator","odict_iterator","itertools.zip_longest","itertools.pairwise"].contains n&&vs[0]? == some (rawInt _))=true then _ else _) Q E s
           rw [if_neg (by intro h; rw [hn,Bool.false_and] at h; cases h)]
           exact wpAny_pure hQ))
noncomputable def Itl (K:W.Frag) (a:Addr):It :=
 ⟨fun i H=>∃ xs x,SqL K H a xs∧xs[i]?=some x,fun i H x H'=>H'=H∧∀ xs,SqL K H a xs→xs[i]?=some x,fun i H=>∃ xs,SqL K H a xs∧xs.length≤i⟩
noncomputable def Itt (K:W.Frag) (a:Addr):It :=
 ⟨fun i H=>∃ xs x,SqT K H a xs∧xs[i]?=some x,fun i H x H'=>H'=H∧∀ xs,SqT K H a xs→xs[i]?=some x,fun i H=>∃ xs,SqT K H a xs∧xs.length≤i⟩
noncomputable def Itr (lo:Int) (n:Nat):It:=⟨fun i _=>i<n,fun i H x H'=>H'=H∧x=.int (lo+i),fun i _=>n≤i⟩
theorem turn_list {P:Program}{w:World}{K:W.Frag}{tg:Expr} (a it:Addr):Turn P w K tg (Itl K a) [it] it (fun i h=>h.IsListIter it a i) where
 mem:=by simp
 obj:=fun i h st b hb=>by
  have e:b=it:=by simpa using hb
  subst e
  obtain ⟨o,e,c,d⟩:=st
  exact ⟨o,e,fun v z=>by rw [d] at z; cases z⟩
 keep:=fun i h h' st k=>st.at fun o e=>k it (by simp) o e
 item:=by
  intro X hP hw hK hc i pins s σ H E I hf st hg
  subst hP hw hK
  obtain ⟨xs,x,hq,hx⟩:=hg
  obtain ⟨its,rv,p,hz⟩:=I.list hq
  obtain ⟨u,hu,ru⟩:=rv.get hx
  obtain ⟨f0,f1,f2,f3,f4,f5⟩:=hf it (by simp)
  refine wpAny_pyNext_list_item st p.isList (x:=u) (by simpa using hu) fun h' st' sb=>?_
  have I1:Inv X pins σ H { s with heap:=h' }:=I.turned (t':=s.toks) (fun b o hb e=>(sb.2 b hb).trans e) f0 f1 f3 f4 f5
  obtain ⟨o,e,c,d⟩:=id st'
  exact ⟨u,rfl,go_of (s:={ s with heap:=h' }) e c d (by decide) ⟨x,H,I1,ru,⟨rfl,fun ys hy=>by rw [I.list_inj hy hq]; exact hx⟩,st',fun b hb=>(hf b hb).1⟩⟩
 done:=by
  intro X hP hw hK hc i pins s σ H E I hf st hg
  subst hP hw hK
  obtain ⟨xs,hq,hx⟩:=hg
  obtain ⟨its,rv,p,hz⟩:=I.list hq
  obtain ⟨f0,f1,f2,f3,f4,f5⟩:=hf it (by simp)
  have hl:=rv.length
  exact wpAny_pyNext_list_end (I.ok.hd hc) st p.isList (by simp; omega) fun h' eb=>⟨rfl,I.turned (t':=s.toks) (fun b o hb e=>eb b o hb e) f0 f1 f3 f4 f5⟩
 self:=fun _ _ _ _ _ st h=>wpAny_pyIter_listiter st h
theorem turn_tuple {P:Program}{w:World}{K:W.Frag}{tg:Expr} (a it:Addr):Turn P w K tg (Itt K a) [it] it (fun i h=>h.IsTupleIter it a i) where
 mem:=by simp
 obj:=fun i h st b hb=>by
  have e:b=it:=by simpa using hb
  subst e
  obtain ⟨o,e,c,d⟩:=st
  exact ⟨o,e,fun v z=>by rw [d] at z; cases z⟩
 keep:=fun i h h' st k=>st.at fun o e=>k it (by simp) o e
 item:=by
  intro X hP hw hK hc i pins s σ H E I hf st hg
  subst hP hw hK
  obtain ⟨xs,x,hq,hx⟩:=hg
  obtain ⟨its,rv,p,hz⟩:=I.tuple hq
  obtain ⟨u,hu,ru⟩:=rv.get hx
  obtain ⟨f0,f1,f2,f3,f4,f5⟩:=hf it (by simp)
  refine wpAny_pyNext_tuple_item st (show s.heap.IsTuple a its.toArray from p) (x:=u) (by simpa using hu) fun h' st' sb=>?_
  have I1:Inv X pins σ H { s with heap:=h' }:=I.turned (t':=s.toks) (fun b o hb e=>(sb.2 b hb).trans e) f0 f1 f3 f4 f5
  obtain ⟨o,e,c,d⟩:=id st'
  exact ⟨u,rfl,go_of (s:={ s with heap:=h' }) e c d (by decide) ⟨x,H,I1,ru,⟨rfl,fun ys hy=>by rw [I.tuple_inj hy hq]; exact hx⟩,st',fun b hb=>(hf b hb).1⟩⟩
 done:=by
  intro X hP hw hK hc i pins s σ H E I hf st hg
  subst hP hw hK
  obtain ⟨xs,hq,hx⟩:=hg
  obtain ⟨its,rv,p,hz⟩:=I.tuple hq
  obtain ⟨f0,f1,f2,f3,f4,f5⟩:=hf it (by simp)
  have hl:=rv.length
  exact wpAny_pyNext_tuple_end (I.ok.hd hc) st (show s.heap.IsTuple a its.toArray from p) (by simp; omega) fun h' eb=>⟨rfl,I.turned (t':=s.toks) (fun b o hb e=>eb b o hb e) f0 f1 f3 f4 f5⟩
 self:=fun _ _ _ _ _ st h=>wpAny_pyIter_tupleiter st h
theorem turn_range {P:Program}{w:World}{K:PySem.W.Frag}{tg:Expr} (it:Addr) (lo:Int) (n:Nat):Turn P w K tg (Itr lo n) [it] it (fun i h=>IsRangeIter h it (lo+(i:Nat)*1) ((n:Int) - (i:Nat)) 1) where
 mem:=by simp
 obj:=fun i h st b hb=>by
  have e:b=it:=by simpa using hb
  subst e
  exact ⟨_,st,fun v z=>by
   have z':Data.fields _=Data.cell v:=z
   cases z'⟩
 keep:=fun i h h' st k=>k it (by simp) _ st
 item:=by
  intro X hP hw hK hc i pins s σ H E I hf st hg
  subst hP hw hK
  obtain ⟨f0,f1,f2,f3,f4,f5⟩:=hf it (by simp)
  have W:=Walks.range (prog:=X.prog) (w:=X.w) (I.ok.hd hc) it lo 1 n
  refine W.item i s _ _ hg st fun v h' tk hv st' kk=>?_
  obtain ⟨t,rfl⟩:=hv
  have I1:Inv X pins σ H { s with heap:=h',toks:=tk }:=I.turned (fun b o hb e=>kk b o (by simpa using hb) e) f0 f1 f3 f4 f5
  refine ⟨_,rfl,go_of (s:={ s with heap:=h',toks:=tk }) (n := "range_iterator") st' rfl rfl (by decide) ⟨.int (lo+i),H,I1,⟨t,?_⟩,⟨rfl,rfl⟩,st',fun b hb=>(hf b hb).1⟩⟩
  rw [Int.mul_one]
 done:=by
  intro X hP hw hK hc i pins s σ H E I hf st hg
  subst hP hw hK
  obtain ⟨f0,f1,f2,f3,f4,f5⟩:=hf it (by simp)
  exact wpAny_pyNext_range_end (I.ok.hd hc) st (by have:n≤i:=hg; omega) fun h' eb=>⟨rfl,I.turned (t':=s.toks) (fun b o hb e=>eb b o hb e) f0 f1 f3 f4 f5⟩
 self:=fun _ _ _ _ _ st h=>wpAny_pyIter_rangeiter st h
section
variable {X:Cx}{tg:Expr}
theorem range_it {pins:List (Addr × Obj)}{σ:St}{H:Hp}{s:Shared}{R:It→Hp→Prop}{E:Value→Shared→Prop}{lo hi:Int}{t u v:Tok}{tk:Nat} (I:Inv X pins σ H s) (h1:-(2 ^ 62)≤lo) (h2:lo<2 ^ 62) (h3:-(2 ^ 62)≤hi) (h4:hi<2 ^ 62)
  (q:R (Itr lo (hi - lo).toNat) H):wpAny (model X.prog X.w) X.A (pyIter (.ref s.heap.objs.size)) (PIE X pins σ tg R) E { s with heap:=s.heap.push { cls:=.type "range",data:=.fields #[.int lo t,.int hi u,.int 1 v] },toks:=tk }:=by
 refine wpAny_pyIter_range (IsRange.new ..) (small_one h1 h2 h3 h4) ?_
 have I1:Inv X pins σ H { s with heap:=s.heap.push { cls:=.type "range",data:=.fields #[.int lo t,.int hi u,.int 1 v] },toks:=tk }:=I.kept fun b o e=>Heap.get?_push_of_some _ e
 refine ⟨(s.heap.push { cls:=.type "range",data:=.fields #[.int lo t,.int hi u,.int 1 v] }).objs.size,[(s.heap.push { cls:=.type "range",data:=.fields #[.int lo t,.int hi u,.int 1 v] }).objs.size],_,_,H,rfl,
  I1.kept (t':=tk) fun b o e=>Heap.get?_push_of_some _ e,turn_range _ lo (hi - lo).toNat,?_,fun b hb=>?_,q⟩
 ·have e1:lo+((0:Nat):Int)*1=lo:=by simp
  have e2:(((hi - lo).toNat:Nat):Int) - ((0:Nat):Int)=Builtin.Range.rangeSize lo hi 1:=by rw [rangeSize_one]; split <;> omega
  show IsRangeIter _ _ (lo+((0:Nat):Int)*1) ((((hi - lo).toNat:Nat):Int) - ((0:Nat):Int)) 1
  rw [e1,e2]
  exact Heap.get?_push_size _ rfl
 ·have e:b=(s.heap.push { cls:=.type "range",data:=.fields #[.int lo t,.int hi u,.int 1 v] }).objs.size:=by simpa using hb
  subst e
  exact I1.fpOk (Nat.le_refl _) (I1.hok.fresh (Nat.le_refl _))
noncomputable def iRng1 (ta:TA):TI:=fun σ H R=>ta σ H fun vs H1=>∃ j:Int,vs=[.int j]∧-(2 ^ 62)≤j∧j<2 ^ 62∧R (Itr 0 j.toNat) H1
noncomputable def iRng2 (ta:TA):TI:=fun σ H R=>ta σ H fun vs H1=>∃ i j:Int,vs=[.int i,.int j]∧(-(2 ^ 62)≤i∧i<2 ^ 62∧-(2 ^ 62)≤j∧j<2 ^ 62)∧R (Itr i (j - i).toNat) H1
theorem pi_range1 {a:Expr}{ta:TA}{p pos:Pos} (hg:Gl X "range") (hm:X.mg "range"=none) (ha:PA X [a] ta) (hs:starEach [a] X.env=[(false,eval a X.env)]:=by rfl):PI X tg (.Call (.Name "range" p) [a] [] pos) (iRng1 ta):=by
 intro pins s σ H R I h
 refine Call_ (ld_blt I hg hm boot_range (PyProof.Rows.callWith_type1 (thn (ha pos pins s σ H _ I h) fun us s1 ⟨vs,H1,I1,r1,q1⟩=>?_) hs rfl))
 obtain ⟨j,e,q1,q2,q⟩:=q1
 subst e
 cases r1 with
 | cons r rr =>
  cases rr
  obtain ⟨t,rfl⟩:=r
  exact call_range_1 (range_it I1 (by omega) (by omega) q1 q2 (by simpa using q))
theorem pi_range2 {a b:Expr}{ta:TA}{p pos:Pos} (hg:Gl X "range") (hm:X.mg "range"=none) (ha:PA X [a,b] ta) (hs:starEach [a,b] X.env=[(false,eval a X.env),(false,eval b X.env)]:=by rfl) (hs2:starEach [b] X.env=[(false,eval b X.env)]:=by rfl) :
  PI X tg (.Call (.Name "range" p) [a,b] [] pos) (iRng2 ta):=by
 intro pins s σ H R I h
 refine Call_ (ld_blt I hg hm boot_range (PyProof.Rows.callWith_type1 (thn (ha pos pins s σ H _ I h) fun us s1 ⟨vs,H1,I1,r1,q1⟩=>?_) (by rw [hs,hs2]) (by rw [hs2]; rfl)))
 obtain ⟨i,j,e,⟨q1,q2,q3,q4⟩,q⟩:=q1
 subst e
 cases r1 with
 | cons r rr =>
  cases rr with
  | cons r' rr =>
   cases rr
   obtain ⟨t,rfl⟩:=r
   obtain ⟨t',rfl⟩:=r'
   exact call_range_2 (range_it I1 q1 q2 q3 q4 q)
noncomputable def tFor (wi:TI) (g:TG) (tb:TS):TS:=fun D σ H=>wi σ H fun J H1=>∃ W:Nat→Nat→St→Hp→Prop,(∃ m,W 0 m σ H1)∧∀ i m σ H,W i m σ H →
 (J.stop i H∧D.nx σ H)∨(J.go i H∧∃ N:St→Hp→Prop,(∀ σ' H',N σ' H'→∃ m',m'<m∧W (i+1) m' σ' H')∧∀ x H',J.yld i H x H'→g x σ H' fun σ2 H2=>tb { D with nx:=N,ct:=N,bk:=D.nx } σ2 H2)
noncomputable def pinsAt (fp:List Addr) (h:Heap):List (Addr × Obj):=fp.filterMap fun b=>(h.get? b).map fun o=>(b,o)
theorem mem_pinsAt {fp:List Addr}{h:Heap}{b:Addr}{o:Obj} (hb:b∈fp) (e:h.get? b=some o):(b,o)∈pinsAt fp h:=List.mem_filterMap.mpr ⟨b,hb,by rw [e]; rfl⟩
theorem of_pinsAt {fp:List Addr}{h:Heap}{p:Addr × Obj} (hp:p∈pinsAt fp h):p.1∈fp∧h.get? p.1=some p.2:=by
 obtain ⟨b,hb,e⟩:=List.mem_filterMap.mp hp
 cases q:h.get? b with
 | none=>rw [q] at e; cases e
 | some o =>
  rw [q] at e
  have e':(b,o)=p:=Option.some.inj e
  subst e'
  exact ⟨hb,q⟩
theorem Inv.pinned {pins:List (Addr × Obj)}{σ:St}{H:Hp}{s:Shared}{fp:List Addr} (I:Inv X pins σ H s) (hf:∀ b∈fp,FpOk X pins H b) (ho:∀ b∈fp,∃ o,s.heap.get? b=some o∧∀ v,o.data≠.cell v):Inv X (pins++pinsAt fp s.heap) σ H s :=
 I.pins_of fun p hp=>(List.mem_append.mp hp).elim (fun z=>I.pin p (List.mem_append_right _ z)) fun z=>by
  obtain ⟨hb,e⟩:=of_pinsAt z
  obtain ⟨f0,f1,f2,_⟩:=hf p.1 hb
  obtain ⟨o,e',d⟩:=ho p.1 hb
  rw [e] at e'; cases e'
  exact ⟨e,f0,f1,f2,d⟩
theorem Inv.unpinned {pins pl:List (Addr × Obj)}{σ:St}{H:Hp}{s:Shared} (I:Inv X (pins++pl) σ H s):Inv X pins σ H s:=I.pins_of fun p hp=>I.pin p (List.mem_append_right _ (List.mem_append_left _ hp))
theorem ps_for {iter:Expr}{body:List Stmt}{wi:TI}{g:TG}{tb:TS}{pos:Pos} (hp:PassesOwn (model X.prog X.w) X.A X.env X.xe) (hc:X.calm=true) (hi:PI X tg iter wi) (hg:PG X tg g) (hb:PSs X body tb)
  (hs:∀ x,foldedSetIterable iter X.env x=pure x:=by intro _; rfl):PS X (.For tg iter body [] pos) (tFor wi g tb):=by
 intro pins s σ H D I h
 refine wpAny_For (thn (hi pins s σ H _ I h) fun v s1 h1=>thn h1 fun itv s2 h2=>?_) hs
 obtain ⟨it,fp,tn,J,H2,e,I2,T,st2,f2,W,⟨m0,w0⟩,turn⟩:=h2
 subst e
 have stat:∀ {H':Hp},(∀ b∈fp,H' b=none)→∀ b∈fp,FpOk X pins H' b:=fun hn b hb=>⟨hn b hb,(f2 b hb).2⟩
 refine codeAny_forLoop_any (fun n s'=>∃ i σ' H',Inv X pins σ' H' s'∧tn i s'.heap∧(∀ b∈fp,H' b=none)∧W i n σ' H') ?_ m0 ⟨0,σ,H2,I2,st2,fun b hb=>(f2 b hb).1,w0⟩
 rintro n s3 ⟨i,σ3,H3,I3,st3,fr3,w3⟩
 rcases turn i n σ3 H3 w3 with ⟨stop,qn⟩ | ⟨go,N,hN,step⟩
 ·refine wpAny_passesOwn hp (thn (T.done X rfl rfl rfl hc i pins s3 σ3 H3 X.xe I3 (stat fr3) st3 stop) fun r s4 ⟨hr,I4⟩=>?_)
  subst hr
  exact wpAny_execs_nil ⟨σ3,H3,I4,qn⟩
 ·refine wpAny_passesOwn hp (thn (T.item X rfl rfl rfl hc i pins s3 σ3 H3 X.xe I3 (stat fr3) st3 go) fun r s4 ⟨u,hr,h4⟩=>?_)
  subst hr
  refine wpAny_passesOwn hp (thn h4 fun _ s5 ⟨x,H5,I5,r5,y5,st5,fr5⟩=>?_)
  have I5':=I5.pinned (stat fr5) (T.obj _ _ st5)
  refine wpAny_passesOwn hp (thn (hg _ s5 σ3 H5 x u _ I5' r5 (step x H5 y5)) fun _ s6 ⟨σ6,H6,I6,q6⟩=>?_)
  refine wpAny_passesOwn hp (thn (hb _ s6 σ6 H6 _ I6 q6) fun f s7 q7=>?_)
  have again:∀ {σ7:St}{H7:Hp},Inv X (pins++pinsAt fp s5.heap) σ7 H7 s7→N σ7 H7→∃ m,m<n∧∃ i σ' H',Inv X pins σ' H' s7∧tn i s7.heap∧(∀ b∈fp,H' b=none)∧W i m σ' H':=fun {σ7 H7} I7 n7=>by
   obtain ⟨m',hm,w7⟩:=hN σ7 H7 n7
   refine ⟨m',hm,i+1,σ7,H7,I7.unpinned,T.keep _ _ _ st5 fun b hb o e=>(I7.pin (b,o) (List.mem_append_right _ (List.mem_append_right _ (mem_pinsAt hb e)))).1,fun b hb=>?_,w7⟩
   obtain ⟨o,e,d⟩:=T.obj _ _ st5 b hb
   exact (I7.pin (b,o) (List.mem_append_right _ (List.mem_append_right _ (mem_pinsAt hb e)))).2.1
  cases f with
  | next=>obtain ⟨σ7,H7,I7,n7⟩:=q7; exact again I7 n7
  | cont=>obtain ⟨σ7,H7,I7,n7⟩:=q7; exact again I7 n7
  | brk=>obtain ⟨σ7,H7,I7,q7⟩:=q7; exact ⟨σ7,H7,I7.unpinned,q7⟩
  | ret v=>obtain ⟨x7,σ7,H7,I7,r7,q7⟩:=q7; exact ⟨x7,σ7,H7,I7.unpinned,r7,q7⟩
end
noncomputable abbrev R2:=V→V→Hp→VK→Prop
def OpR (X:Cx) (f:Value→Value→Sem Value) (r:R2):Prop :=
 ∀ (pins:List (Addr × Obj)) (s:Shared) (σ:St) (H:Hp) (x y:V) (v u:Value) (Q:VK),Inv X pins σ H s→RelV x v→RelV y u→r x y H Q →
  wpAny (model X.prog X.w) X.A (f v u) (EP X pins σ Q) X.xe s
def UnR (X:Cx) (f:Value→Sem Value) (r:V→Hp→VK→Prop):Prop :=
 ∀ (pins:List (Addr × Obj)) (s:Shared) (σ:St) (H:Hp) (x:V) (v:Value) (Q:VK),Inv X pins σ H s→RelV x v→r x H Q →
  wpAny (model X.prog X.w) X.A (f v) (EP X pins σ Q) X.xe s
def CallR (X:Cx) (f:Value) (r:List V→Hp→VK→Prop):Prop :=
 ∀ (pins:List (Addr × Obj)) (s:Shared) (σ:St) (H:Hp) (xs:List V) (us:List Value) (Q:VK),Inv X pins σ H s→Vals xs us→r xs H Q →
  wpAny (model X.prog X.w) X.A (call f us) (EP X pins σ Q) X.xe s
def TruR (X:Cx) (r:V→Hp→(Bool→Hp→Prop)→Prop):Prop :=
 ∀ (pins:List (Addr × Obj)) (s:Shared) (σ:St) (H:Hp) (x:V) (v:Value) (Q:Bool→Hp→Prop),Inv X pins σ H s→RelV x v→r x H Q →
  wpAny (model X.prog X.w) X.A (truthy v) (TP X pins σ Q) X.xe s
noncomputable def tOp (r:R2) (ta tb:TE):TE:=fun σ H Q=>ta σ H fun x H1=>tb σ H1 fun y H2=>r x y H2 Q
noncomputable def tUn (r:V→Hp→VK→Prop) (ta:TE):TE:=fun σ H Q=>ta σ H fun x H1=>r x H1 Q
noncomputable def rI (C:Int→Int→Prop) (g:Int→Int→V):R2:=fun x y H Q=>∃ i j,x=.int i∧y=.int j∧C i j∧Q (g i j) H
noncomputable def rI0 (g:Int→Int→V):R2:=fun x y H Q=>∃ i j,x=.int i∧y=.int j∧Q (g i j) H
noncomputable def rU (g:Int→V):V→Hp→VK→Prop:=fun x H Q=>∃ i,x=.int i∧Q (g i) H
section
variable {X:Cx}{a b c:Expr}{ta tb tc:TE}{pos:Pos}
theorem binT (ha:PE X a ta) (hb:PE X b tb) {pins:List (Addr × Obj)}{s:Shared}{σ:St}{H:Hp}{R:V→V→Hp→Prop} (I:Inv X pins σ H s)
  (h:ta σ H fun x H1=>tb σ H1 fun y H2=>R x y H2) {Q:Value→Shared→Prop}{f:Value→Value→Sem Value}
  (hf:∀ v u s2 x y H2,Inv X pins σ H2 s2→RelV x v→RelV y u→R x y H2→wpAny (model X.prog X.w) X.A (f v u) Q X.xe s2) :
  wpAny (model X.prog X.w) X.A (eval a X.env) (fun v s₁=>wpAny (model X.prog X.w) X.A (eval b X.env) (fun u s₂=>wpAny (model X.prog X.w) X.A (f v u) Q X.xe s₂) X.xe s₁) X.xe s:=by
 refine thn (ha pins s σ H _ I h) fun v s1 ⟨x,H1,I1,r1,q1⟩=>?_
 refine thn (hb pins s1 σ H1 _ I1 q1) fun u s2 ⟨y,H2,I2,r2,q2⟩=>?_
 exact hf v u s2 x y H2 I2 r1 r2 q2
theorem pe_op {op:Operator}{r:R2} (ho:OpR X (binaryOp op) r) (ha:PE X a ta) (hb:PE X b tb):PE X (.BinOp a op b pos) (tOp r ta tb):=by
 intro pins s σ H Q I h
 exact wpAny_BinOp (binT ha hb I h fun v u s2 x y H2 I2 rx ry q=>ho pins s2 σ H2 x y v u Q I2 rx ry q)
theorem pe_un {op:UnaryOp}{r:V→Hp→VK→Prop} (ho:UnR X (unaryOp op) r) (ha:PE X a ta):PE X (.UnaryOp op a pos) (tUn r ta):=by
 intro pins s σ H Q I h
 exact UnaryOp_ (thn (ha pins s σ H _ I h) fun v s1 ⟨x,H1,I1,r1,q1⟩=>ho pins s1 σ H1 x v Q I1 r1 q1)
theorem opI {f:Value→Value→Sem Value}{C:Int→Int→Prop}{g:Int→Int→Int}
  (rule:∀ (i j:Int) (t u:Tok) (s:Shared) (Q:Value→Shared→Prop) (E:Value→Shared→Prop),C i j→Q (.int (g i j) s.toks) { s with toks:=s.toks+1 }→wpAny (model X.prog X.w) X.A (f (.int i t) (.int j u)) Q E s) :
  OpR X f (rI C fun i j=>.int (g i j)):=by
 intro pins s σ H x y v u Q I rx ry h
 obtain ⟨i,j,rfl,rfl,hc,q⟩:=h
 obtain ⟨t,rfl⟩:=rx
 obtain ⟨t',rfl⟩:=ry
 exact rule i j t t' s _ _ hc ⟨.int (g i j),H,I.tok _,⟨_,rfl⟩,q⟩
theorem opI0 {f:Value→Value→Sem Value}{g:Int→Int→Int}
  (rule:∀ (i j:Int) (t u:Tok) (s:Shared) (Q:Value→Shared→Prop) (E:Value→Shared→Prop),Q (.int (g i j) s.toks) { s with toks:=s.toks+1 }→wpAny (model X.prog X.w) X.A (f (.int i t) (.int j u)) Q E s) :
  OpR X f (rI0 fun i j=>.int (g i j)):=by
 intro pins s σ H x y v u Q I rx ry h
 obtain ⟨i,j,rfl,rfl,q⟩:=h
 obtain ⟨t,rfl⟩:=rx
 obtain ⟨t',rfl⟩:=ry
 exact rule i j t t' s _ _ ⟨.int (g i j),H,I.tok _,⟨_,rfl⟩,q⟩
theorem opB0 {f:Value→Value→Sem Value}{g:Int→Int→Bool}
  (rule:∀ (i j:Int) (t u:Tok) (s:Shared) (Q:Value→Shared→Prop) (E:Value→Shared→Prop),Q (.bool (g i j)) s→wpAny (model X.prog X.w) X.A (f (.int i t) (.int j u)) Q E s) :
  OpR X f (rI0 fun i j=>.bl (g i j)):=by
 intro pins s σ H x y v u Q I rx ry h
 obtain ⟨i,j,rfl,rfl,q⟩:=h
 obtain ⟨t,rfl⟩:=rx
 obtain ⟨t',rfl⟩:=ry
 exact rule i j t t' s _ _ ⟨.bl (g i j),H,I,rfl,q⟩
def CDiv (i j:Int):Prop:=0<j∧j<1073741824
def CPow (i j:Int):Prop:=0≤j∧j≤1000000∧i.natAbs<2 ^ 64
def CMul (i j:Int):Prop:=(-(2 ^ 64)<i∧i<2 ^ 64)∨(-(2 ^ 64)<j∧j<2 ^ 64)
theorem CMul.ok {i j:Int} (h:CMul i j):IntMulOk i j:=by
 rcases h with ⟨h1,h2⟩ | ⟨h1,h2⟩
 ·exact .of_left (intBits_le_64 h1 h2)
 ·exact .of_right (intBits_le_64 h1 h2)
theorem two_pow_nn (k:Nat):(0:Int)≤2 ^ k:=by
 rw [two_pow_cast]
 exact Int.natCast_nonneg _
theorem op_add:OpR X (binaryOp .Add) (rI0 fun i j=>.int (i+j)):=opI0 fun _ _ _ _ _ _ _ q=>add_int q
theorem op_sub:OpR X (binaryOp .Sub) (rI0 fun i j=>.int (i - j)):=opI0 fun _ _ _ _ _ _ _ q=>sub_int q
theorem op_mul:OpR X (binaryOp .Mult) (rI CMul fun i j=>.int (i*j)):=opI fun _ _ _ _ _ _ _ hc q=>mul_int q hc.ok
theorem op_fdiv:OpR X (binaryOp .FloorDiv) (rI CDiv fun i j=>.int (i / j)):=opI fun i j _ _ _ _ _ hc q=>by
 have h1:(0:Int)<j:=hc.1
 have h2:j<1073741824:=hc.2
 exact floordiv_int (by omega) (by rw [Int.fdiv_eq_ediv_of_nonneg i (by omega)]; exact q) (.inl (PyProof.noPylong_small (by omega)))
theorem op_mod:OpR X (binaryOp .Mod) (rI (fun _ j=>0<j) fun i j=>.int (i % j)):=opI fun i j _ _ _ _ _ hc q=>by
 have h1:(0:Int)<j:=hc
 exact mod_int' (by omega) (by rw [Int.fmod_eq_emod_of_nonneg i (by omega)]; exact q)
theorem op_pow:OpR X (binaryOp .Pow) (rI CPow fun i j=>.int (i ^ j.toNat)):=opI fun _ _ _ _ _ _ _ hc q=>pow_int_small hc.1 hc.2.1 hc.2.2 q
theorem op_shl:OpR X (binaryOp .LShift) (rI CPow fun i j=>.int (i*2 ^ j.toNat)):=opI fun _ _ _ _ _ _ _ hc q=>lshift_int_small hc.1 hc.2.1 hc.2.2 q
theorem op_shr:OpR X (binaryOp .RShift) (rI (fun _ j=>0≤j) fun i j=>.int (i / 2 ^ j.toNat)):=opI fun i j _ _ _ _ _ hc q =>
 rshift_int hc (by rw [Int.fdiv_eq_ediv_of_nonneg i (two_pow_nn _)]; exact q)
theorem op_and:OpR X (binaryOp .BitAnd) (rI0 fun i j=>.int (Builtin.bitAnd i j)):=opI0 fun _ _ _ _ _ _ _ q=>and_int q
theorem op_or:OpR X (binaryOp .BitOr) (rI0 fun i j=>.int (Builtin.bitOr i j)):=opI0 fun _ _ _ _ _ _ _ q=>or_int q
theorem op_xor:OpR X (binaryOp .BitXor) (rI0 fun i j=>.int (Builtin.bitXor i j)):=opI0 fun _ _ _ _ _ _ _ q=>xor_int q
theorem unI {f:Value→Sem Value}{g:Int→Int}
  (rule:∀ (i:Int) (t:Tok) (s:Shared) (Q:Value→Shared→Prop) (E:Value→Shared→Prop),Q (.int (g i) s.toks) { s with toks:=s.toks+1 }→wpAny (model X.prog X.w) X.A (f (.int i t)) Q E s) :
  UnR X f (rU fun i=>.int (g i)):=by
 intro pins s σ H x v Q I rx h
 obtain ⟨i,rfl,q⟩:=h
 obtain ⟨t,rfl⟩:=rx
 exact rule i t s _ _ ⟨.int (g i),H,I.tok _,⟨_,rfl⟩,q⟩
theorem un_neg:UnR X (unaryOp .USub) (rU fun i=>.int (-i)):=unI fun _ _ _ _ _ q=>neg_int q
end
noncomputable def scal:V→V→Bool
 | .non,.non=>true | .non,.int _=>true | .int _,.non=>true | .non,.bl _=>true | .bl _,.non=>true | .non,.str _=>true | .str _,.non=>true
 | .int _,.int _=>true | .bl _,.bl _=>true | .str _,.str _=>true | .byt _,.byt _=>true
 | .int _,.str _=>true | .str _,.int _=>true | .bl _,.str _=>true | .str _,.bl _=>true
 | _,_=>false
noncomputable def rEq:R2:=fun x y H Q=>scal x y=true∧Q (.bl (decide (x=y))) H
noncomputable def rNe:R2:=fun x y H Q=>scal x y=true∧Q (.bl (!decide (x=y))) H
theorem dec_int {i j:Int}:decide (V.int i=V.int j)=(i == j):=by
 rw [Bool.eq_iff_iff]
 simp
theorem dec_bl {i j:Bool}:decide (V.bl i=V.bl j)=(i == j):=by
 rw [Bool.eq_iff_iff]
 simp
theorem dec_str {i j:Str}:decide (V.str i=V.str j)=(i == j):=by
 rw [Bool.eq_iff_iff]
 simp
theorem dec_byt {i j:Array UInt8}:decide (V.byt i=V.byt j)=(i.toList == j.toList):=by
 rw [Bool.eq_iff_iff]
 cases i
 cases j
 simp
section
variable {X:Cx}{a b c:Expr}{ta tb tc:TE}{pos:Pos}
theorem zAn {pins:List (Addr × Obj)}{σ:St}{H:Hp}{s:Shared}{Q:VK}{k k':Bool} (I:Inv X pins σ H s) (q:Q (.bl k) H) (e:k=k'):EP X pins σ Q (.bool k') s:=by
 subst e
 exact ⟨.bl k,H,I,rfl,q⟩
theorem op_eq:OpR X (compareOp .Eq) rEq:=by
 intro pins s σ H x y v u Q I rx ry h
 obtain ⟨hs,q⟩:=h
 cases x with
 | non =>
  cases rx
  cases y with
  | non=>cases ry; exact PySem.EqNone.eq_none_none (zAn I q (by simp))
  | bl j=>cases ry; exact PySem.EqNone.eq_none_bool (zAn I q (by simp))
  | int j=>obtain ⟨t',rfl⟩:=ry; exact PySem.EqNone.eq_none_int (zAn I q (by simp))
  | str j=>obtain ⟨t',rfl⟩:=ry; exact PySem.EqNone.eq_none_str (zAn I q (by simp))
  | _=>exact absurd (show false=true from hs) Bool.false_ne_true
 | bl i =>
  cases rx
  cases y with
  | non=>cases ry; exact PySem.EqNone.eq_bool_none (zAn I q (by simp))
  | bl j=>cases ry; exact eq_bool (zAn I q dec_bl)
  | str j=>obtain ⟨t',rfl⟩:=ry; exact PySem.EqMixed.eq_bool_str (zAn I q (by simp))
  | _=>exact absurd (show false=true from hs) Bool.false_ne_true
 | int i =>
  obtain ⟨t,rfl⟩:=rx
  cases y with
  | non=>cases ry; exact PySem.EqNone.eq_int_none (zAn I q (by simp))
  | int j=>obtain ⟨t',rfl⟩:=ry; exact eq_int (zAn I q dec_int)
  | str j=>obtain ⟨t',rfl⟩:=ry; exact PySem.EqMixed.eq_int_str (zAn I q (by simp))
  | _=>exact absurd (show false=true from hs) Bool.false_ne_true
 | str i =>
  obtain ⟨t,rfl⟩:=rx
  cases y with
  | non=>cases ry; exact PySem.EqNone.eq_str_none (zAn I q (by simp))
  | bl j=>cases ry; exact PySem.EqMixed.eq_str_bool (zAn I q (by simp))
  | int j=>obtain ⟨t',rfl⟩:=ry; exact PySem.EqMixed.eq_str_int (zAn I q (by simp))
  | str j=>obtain ⟨t',rfl⟩:=ry; exact eq_str (zAn I q dec_str)
  | _=>exact absurd (show false=true from hs) Bool.false_ne_true
 | byt i =>
  obtain ⟨t,rfl⟩:=rx
  cases y with
  | byt j=>obtain ⟨t',rfl⟩:=ry; exact W.eq_bytes (zAn I q dec_byt)
  | _=>exact absurd (show false=true from hs) Bool.false_ne_true
 | _=>cases y <;> exact absurd (show false=true from hs) Bool.false_ne_true
theorem op_ne:OpR X (compareOp .NotEq) rNe:=by
 intro pins s σ H x y v u Q I rx ry h
 obtain ⟨hs,q⟩:=h
 cases x with
 | non =>
  cases rx
  cases y with
  | non=>cases ry; exact PySem.EqNone.ne_none_none (zAn I q (by simp))
  | bl j=>cases ry; exact PySem.EqNone.ne_none_bool (zAn I q (by simp))
  | int j=>obtain ⟨t',rfl⟩:=ry; exact PySem.EqNone.ne_none_int (zAn I q (by simp))
  | str j=>obtain ⟨t',rfl⟩:=ry; exact PySem.EqNone.ne_none_str (zAn I q (by simp))
  | _=>exact absurd (show false=true from hs) Bool.false_ne_true
 | bl i =>
  cases rx
  cases y with
  | non=>cases ry; exact PySem.EqNone.ne_bool_none (zAn I q (by simp))
  | bl j=>cases ry; exact ne_bool (zAn I q (congrArg not dec_bl))
  | str j=>obtain ⟨t',rfl⟩:=ry; exact PySem.EqMixed.ne_bool_str (zAn I q (by simp))
  | _=>exact absurd (show false=true from hs) Bool.false_ne_true
 | int i =>
  obtain ⟨t,rfl⟩:=rx
  cases y with
  | non=>cases ry; exact PySem.EqNone.ne_int_none (zAn I q (by simp))
  | int j=>obtain ⟨t',rfl⟩:=ry; exact ne_int (zAn I q (congrArg not dec_int))
  | str j=>obtain ⟨t',rfl⟩:=ry; exact PySem.EqMixed.ne_int_str (zAn I q (by simp))
  | _=>exact absurd (show false=true from hs) Bool.false_ne_true
 | str i =>
  obtain ⟨t,rfl⟩:=rx
  cases y with
  | non=>cases ry; exact PySem.EqNone.ne_str_none (zAn I q (by simp))
  | bl j=>cases ry; exact PySem.EqMixed.ne_str_bool (zAn I q (by simp))
  | int j=>obtain ⟨t',rfl⟩:=ry; exact PySem.EqMixed.ne_str_int (zAn I q (by simp))
  | str j=>obtain ⟨t',rfl⟩:=ry; exact ne_str (zAn I q (congrArg not dec_str))
  | _=>exact absurd (show false=true from hs) Bool.false_ne_true
 | byt i =>
  obtain ⟨t,rfl⟩:=rx
  cases y with
  | byt j=>obtain ⟨t',rfl⟩:=ry; exact W.ne_bytes (zAn I q (congrArg not dec_byt))
  | _=>exact absurd (show false=true from hs) Bool.false_ne_true
 | _=>cases y <;> exact absurd (show false=true from hs) Bool.false_ne_true
theorem op_lt:OpR X (compareOp .Lt) (rI0 fun i j=>.bl (decide (i<j))):=opB0 fun _ _ _ _ _ _ _ q=>lt_int q
theorem op_le:OpR X (compareOp .LtE) (rI0 fun i j=>.bl (decide (i≤j))):=opB0 fun _ _ _ _ _ _ _ q=>le_int q
theorem op_gt:OpR X (compareOp .Gt) (rI0 fun i j=>.bl (decide (j<i))):=opB0 fun _ _ _ _ _ _ _ q=>gt_int q
theorem op_ge:OpR X (compareOp .GtE) (rI0 fun i j=>.bl (decide (j≤i))):=opB0 fun _ _ _ _ _ _ _ q=>ge_int q
theorem op_isN:OpR X (compareOp .Is) (fun x y H Q=>y=.non∧Q (.bl (decide (x=.non))) H):=by
 intro pins s σ H x y v u Q I rx ry h
 obtain ⟨rfl,q⟩:=h
 cases ry
 refine is_none_gen (zAn I q ?_)
 cases x <;> first
  | (cases rx; rfl)
  | (obtain ⟨t,rfl⟩:=rx; rfl)
theorem op_notN:OpR X (compareOp .IsNot) (fun x y H Q=>y=.non∧Q (.bl (!decide (x=.non))) H):=by
 intro pins s σ H x y v u Q I rx ry h
 obtain ⟨rfl,q⟩:=h
 cases ry
 refine isnot_none_gen (zAn I q ?_)
 cases x <;> first
  | (cases rx; rfl)
  | (obtain ⟨t,rfl⟩:=rx; rfl)
theorem pe_cmpR {op:CmpOp}{r:R2} (ho:OpR X (compareOp op) r) (ha:PE X a ta) (hb:PE X b tb) (hm:behindInMarks op b=false):PE X (.Compare a [op] [b] pos) (tOp r ta tb):=by
 intro pins s σ H Q I h
 exact wpAny_Compare1 (binT ha hb I h fun v u s2 x y H2 I2 rx ry q=>ho pins s2 σ H2 x y v u Q I2 rx ry q) hm
noncomputable def tTest (t:TE):TT:=fun σ H Q=>t σ H fun x H'=>∃ k,x=.bl k∧Q k H'
theorem pt_cmpR {op:CmpOp}{r:R2} (ho:OpR X (compareOp op) r) (ha:PE X a ta) (hb:PE X b tb) (hm:behindInMarks op b=false):PT X (.Compare a [op] [b] pos) (tTest (tOp r ta tb)):=by
 intro pins s σ H Q I h
 refine wpAny_isTrue_Compare1 (thn (ha pins s σ H _ I h) fun v s1 ⟨x,H1,I1,r1,q1⟩=>thn (hb pins s1 σ H1 _ I1 q1) fun u s2 ⟨y,H2,I2,r2,q2⟩ =>
  thn (ho pins s2 σ H2 x y v u _ I2 r1 r2 q2) fun c s3 ⟨z,H3,I3,r3,k,e,q3⟩=>?_) hm
 subst e
 cases r3
 exact wpAny_truthy_bool ⟨H3,I3,q3⟩
noncomputable def tChain (r r':R2) (ta tb tc:TE):TE:=fun σ H Q=>ta σ H fun x H1=>tb σ H1 fun y H2=>r x y H2 fun z H3=>∃ k,z=.bl k ∧
 (if k=true then tc σ H3 fun w' H4=>r' y w' H4 Q else Q (.bl false) H3)
theorem pe_chain {op op':CmpOp}{r r':R2} (ho:OpR X (compareOp op) r) (ho':OpR X (compareOp op') r') (ha:PE X a ta) (hb:PE X b tb) (hc:PE X c tc)
  (hm:lastMarks [op,op'] [b,c]=false:=by with_unfolding_all rfl):PE X (.Compare a [op,op'] [b,c] pos) (tChain r r' ta tb tc):=by
 intro pins s σ H Q I h
 refine Compare_chain (thn (ha pins s σ H _ I h) fun v s1 ⟨x,H1,I1,r1,q1⟩=>chain_link (thn (hb pins s1 σ H1 _ I1 q1) fun u s2 ⟨y,H2,I2,r2,q2⟩ =>
  thn (ho pins s2 σ H2 x y v u _ I2 r1 r2 q2) fun d s3 ⟨z,H3,I3,r3,k,e,q3⟩=>?_)) hm
 subst e
 cases r3
 refine wpAny_truthy_bool ?_
 cases k with
 | false=>exact ite_ff ⟨.bl false,H3,I3,rfl,q3⟩
 | true=>exact ite_tt (chain_last (thn (hc pins s3 σ H3 _ I3 q3) fun w' s4 ⟨z',H4,I4,r4,q4⟩=>ho' pins s4 σ H4 y z' u w' Q I4 r2 r4 q4))
theorem pt_chain {op op':CmpOp}{r r':R2} (ho:OpR X (compareOp op) r) (ho':OpR X (compareOp op') r') (ha:PE X a ta) (hb:PE X b tb) (hc:PE X c tc)
  (hm:lastMarks [op,op'] [b,c]=false:=by with_unfolding_all rfl):PT X (.Compare a [op,op'] [b,c] pos) (tTest (tChain r r' ta tb tc)):=by
 intro pins s σ H Q I h
 refine isTrue_chain (thn (ha pins s σ H _ I h) fun v s1 ⟨x,H1,I1,r1,q1⟩=>test_link (thn (hb pins s1 σ H1 _ I1 q1) fun u s2 ⟨y,H2,I2,r2,q2⟩ =>
  thn (ho pins s2 σ H2 x y v u _ I2 r1 r2 q2) fun d s3 ⟨z,H3,I3,r3,k,e,q3⟩=>?_)) hm
 subst e
 cases r3
 refine wpAny_truthy_bool ?_
 cases k with
 | false =>
  obtain ⟨k',e',q'⟩:=q3
  cases e'
  exact ite_ff ⟨H3,I3,q'⟩
 | true =>
  refine ite_tt (test_last (thn (hc pins s3 σ H3 _ I3 q3) fun w' s4 ⟨z',H4,I4,r4,q4⟩=>thn (ho' pins s4 σ H4 y z' u w' _ I4 r2 r4 q4) fun d' s5 ⟨z2,H5,I5,r5,k2,e2,q5⟩=>?_))
  subst e2
  cases r5
  exact wpAny_truthy_bool ⟨H5,I5,q5⟩
def TruV (K:W.Frag) (x:V) (H:Hp) (k:Bool):Prop :=
 match x with
 | .non=>k=false
 | .bl b=>k=b
 | .int i=>k=(i != 0)
 | .str y=>y.length≤sizeLine∧k=((y.length:Int) != 0)
 | .byt y=>y.size≤sizeLine∧k=((y.size:Int) != 0)
 | .ref p=>(∃ xs,SqL K H p xs∧k=!xs.isEmpty)∨(∃ xs,SqT K H p xs∧k=!xs.isEmpty)∨∃ kvs,H p=some (.dK kvs)∧k=!kvs.isEmpty
 | _=>False
theorem isEmpty_kv {κ:Type}{kvs:List (κ × V)}{vs:List (κ × Value)} (r:KV kvs vs):(!vs.isEmpty)=!kvs.isEmpty:=by
 cases r <;> rfl
theorem isEmpty_of {xs:List V}{its:List Value} (r:Vals xs its):(!its.toArray.isEmpty)=!xs.isEmpty:=by
 cases r <;> simp
theorem line63:(sizeLine:Nat)<2 ^ 63:=by rw [sizeLine_eq]; decide
theorem tru_ok:TruR X (fun x H Q=>∃ k,TruV X.K x H k∧Q k H):=by
 intro pins s σ H x v Q I rx h
 obtain ⟨k,e,q⟩:=h
 have hl:=line63
 have hs:sizeLine=16777216:=sizeLine_eq
 cases x with
 | non =>
  cases rx
  have e':k=false:=e
  subst e'
  exact truthy_none ⟨H,I,q⟩
 | bl b =>
  cases rx
  have e':k=b:=e
  subst e'
  exact wpAny_truthy_bool ⟨H,I,q⟩
 | int i =>
  obtain ⟨t,rfl⟩:=rx
  have e':k=(i != 0):=e
  subst e'
  exact PySem.P.truthy_int ⟨H,I,q⟩
 | str y =>
  obtain ⟨t,rfl⟩:=rx
  obtain ⟨hy,e'⟩:y.length≤sizeLine∧k=((y.length:Int) != 0):=e
  subst e'
  exact PySem.P.truthy_str (by omega) ⟨H,I.tok _,q⟩
 | byt y =>
  obtain ⟨t,rfl⟩:=rx
  obtain ⟨hy,e'⟩:y.size≤sizeLine∧k=((y.size:Int) != 0):=e
  subst e'
  exact W.truthy_bytes (by omega) ⟨H,I.tok _,q⟩
 | ref p =>
  cases rx
  have e':(∃ xs,SqL X.K H p xs∧k=!xs.isEmpty)∨(∃ xs,SqT X.K H p xs∧k=!xs.isEmpty)∨∃ kvs,H p=some (.dK kvs)∧k=!kvs.isEmpty:=e
  rcases e' with ⟨xs,hx,e'⟩ | ⟨xs,hx,e'⟩ | ⟨kvs,hx,e'⟩
  ·subst e'
   obtain ⟨its,r,pl,hz⟩:=I.list hx
   have hlen:=r.length
   exact wpAny_truthy_list pl.isList (by simp only [List.size_toArray]; omega) ⟨H,I.tok _,by rw [isEmpty_of r]; exact q⟩
  ·subst e'
   obtain ⟨its,r,pl,hz⟩:=I.tuple hx
   have hlen:=r.length
   exact truthy_tuple pl (by simp only [List.size_toArray]; omega) ⟨H,I.tok _,by rw [isEmpty_of r]; exact q⟩
  ·subst e'
   obtain ⟨hz,hS,vs,r,m⟩:kvs.length≤sizeLine∧(p == sysModules)=false∧∃ vs,KV kvs vs∧s.heap.DictOf (zAF X.prog X.w) p vs:=I.hok p _ hx
   have hlen:kvs.length=vs.length:=Paired.length r
   exact wpAny_truthy_dict hS m (by omega) ⟨H,I.tok _,by rw [isEmpty_kv r]; exact q⟩
 | _=>exact (show False from e).elim
theorem pt_truth (ha:PE X a ta) (he:∀ whole,isTrue a X.env whole=(do let v ← whole; standAt a.pos; holding [v] (truthy v))) :
  PT X a (fun σ H Q=>ta σ H fun x H'=>∃ k,TruV X.K x H' k∧Q k H'):=by
 intro pins s σ H Q I h
 exact isTrue_plain (thn (ha pins s σ H _ I h) fun v s1 ⟨x,H1,I1,r1,q1⟩=>tru_ok pins s1 σ H1 x v Q I1 r1 q1) (he _)
theorem op_add_str:OpR X (binaryOp .Add) (fun x y H Q=>∃ i j,x=.str i∧y=.str j∧i.length+j.length≤sizeLine∧Q (.str (i++j)) H):=by
 intro pins s σ H x y v u Q I rx ry h
 obtain ⟨i,j,rfl,rfl,hz,q⟩:=h
 obtain ⟨t,rfl⟩:=rx
 obtain ⟨t',rfl⟩:=ry
 exact add_str (fun t' tk=>⟨.str (i++j),H,I.tok _,⟨_,rfl⟩,q⟩) hz
theorem vals1 {x:V}{us:List Value} (r:Vals [x] us):∃ u,us=[u]∧RelV x u:=by
 cases r with
 | cons r1 r2=>cases r2; exact ⟨_,rfl,r1⟩
theorem vals2 {x y:V}{us:List Value} (r:Vals [x,y] us):∃ u w',us=[u,w']∧RelV x u∧RelV y w':=by
 cases r with
 | cons r1 r2 =>
  cases r2 with
  | cons r3 r4=>cases r4; exact ⟨_,_,rfl,r1,r3⟩
theorem call_max2 (hc:X.calm=true):CallR X (.builtin "max") (fun xs H Q=>∃ i j,xs=[.int i,.int j]∧Q (.int (if j>i then j else i)) H):=by
 intro pins s σ H xs us Q I r h
 obtain ⟨i,j,rfl,q⟩:=h
 obtain ⟨u,w',rfl,⟨t,rfl⟩,⟨t',rfl⟩⟩:=vals2 r
 refine max_two_ints (I.ok.hd hc) fun h' tk k=>⟨_,H,I.kept k,?_,q⟩
 by_cases hj:j>i
 ·rw [if_pos hj,if_pos hj]; exact ⟨_,rfl⟩
 ·rw [if_neg hj,if_neg hj]; exact ⟨_,rfl⟩
theorem call_min2 (hc:X.calm=true):CallR X (.builtin "min") (fun xs H Q=>∃ i j,xs=[.int i,.int j]∧Q (.int (if j<i then j else i)) H):=by
 intro pins s σ H xs us Q I r h
 obtain ⟨i,j,rfl,q⟩:=h
 obtain ⟨u,w',rfl,⟨t,rfl⟩,⟨t',rfl⟩⟩:=vals2 r
 refine min_two_ints (I.ok.hd hc) fun h' tk k=>⟨_,H,I.kept k,?_,q⟩
 by_cases hj:j<i
 ·rw [if_pos hj,if_pos hj]; exact ⟨_,rfl⟩
 ·rw [if_neg hj,if_neg hj]; exact ⟨_,rfl⟩
theorem call_int1:CallR X (.type "int") (fun xs H Q=>(∃ i,xs=[.int i]∧Q (.int i) H)∨∃ k,xs=[.bl k]∧Q (.int (if k then 1 else 0)) H):=by
 intro pins s σ H xs us Q I r h
 rcases h with ⟨i,rfl,q⟩ | ⟨k,rfl,q⟩
 ·obtain ⟨u,rfl,t,rfl⟩:=vals1 r
  exact call_int_int ⟨.int i,H,I,⟨_,rfl⟩,q⟩
 ·obtain ⟨u,rfl,r1⟩:=vals1 r
  cases r1
  exact call_int_bool ⟨.int (if k then 1 else 0),H,I.tok _,⟨_,rfl⟩,q⟩
end
structure ObjM (h:Heap) (x dx C:Addr) (mA:Str→Option Value):Prop where
 obj:h.get? x=some (W.instObj C dx)
 ns:h.Ns1 dx mA
 ne:dx≠x
theorem RelO.some_of {v:V}{o:Option Value} (r:RelO (some v) o):∃ u,o=some u∧RelV v u:=by
 cases o with
 | none=>exact (show False from r).elim
 | some u=>exact ⟨u,rfl,r⟩
structure Cls (K:W.Frag) (C:Addr):Prop where
 pg:W.plainGet K C Str.empty=true
 hd:W.hasDictIn K C=true
 po:W.plainOver K C=true
 sa:W.findIn K (.ref C) "__setattr__"=some (some (.builtin "object.__setattr__"))
structure Con (K:W.Frag) (C:Addr) (f:Str) (v:V) (u:Value):Prop where
 at_:W.findIn K (.ref C) f=some (some u)
 rel:RelV v u
 get:W.specialIn K u "__get__"=some none
 cp:W.copiedNames.contains f=false
structure Meth (K:W.Frag) (C:Addr) (m:Str) (f:Addr):Prop where
 at_:W.findIn K (.ref C) m=some (some (.ref f))
 fn:W.isFn K (.ref f)=true
 kp:W.keepIn K (.ref f)=true
section
variable {X:Cx}{pins:List (Addr × Obj)}{σ:St}{H:Hp}{s:Shared}{A:Around}{E:Value→Shared→Prop}{Q:Value→Shared→Prop}{c:Value}{b:Bool}
inductive TyOf (K:W.Frag) (H:Hp):V→Value→Prop where
 | non:TyOf K H .non (.type "NoneType")
 | bl (x:Bool):TyOf K H (.bl x) (.type "bool")
 | int (i:Int):TyOf K H (.int i) (.type "int")
 | str (x:Str):TyOf K H (.str x) (.type "str")
 | flt (x:UInt64):TyOf K H (.flt x) (.type "float")
 | lst {a:Addr}{xs:List V} (e:H a=some (.lst xs)):TyOf K H (.ref a) (.type "list")
 | frz {a:Addr}{o:Obj}{xs:List V} (e:H a=some (.frz o (.lst xs))):TyOf K H (.ref a) (.type "list")
 | tup {a:Addr}{xs:List V} (e:H a=some (.tup xs)):TyOf K H (.ref a) (.type "tuple")
 | dK {a:Addr}{kvs:List (Key × V)} (e:H a=some (.dK kvs)):TyOf K H (.ref a) (.type "dict")
 | dT {a:Addr}{kvs:List (List Key × V)} (e:H a=some (.dT kvs)):TyOf K H (.ref a) (.type "dict")
 | ins {a C dx:Addr}{fs:List (Str × V)} (e:H a=some (.ins C dx fs)) (cl:Cls K C) (ha:W.findIn K (.ref C) "__class__"=some (some (.builtin "object.__class__")))
   (hn:W.specialIn K (.builtin "object.__class__") "__get__"=some (some (.builtin "getset_descriptor.__get__"))) (htk:W.takesIn K (.builtin "object.__class__")=some true)
   (hm:W.mroIn K C (.type "object")=some true):TyOf K H (.ref a) (.ref C)
end
structure Room (k:Nat) (A:Around):Prop where
 hd:A.handled=none
 dp:A.depth+3*k+5<recursionLimit
 un:A.units+16*k+200<cLine
 gd:A.guards=some []
theorem Room.mono {j k:Nat}{A:Around} (r:Room k A) (h:j≤k):Room j A:=⟨r.hd,by have:=r.dp; omega,by have:=r.un; omega,r.gd⟩
theorem Room.deeper {k:Nat}{A:Around} (r:Room (k+1) A) (env:Env):Room k (A.deeper env) :=
 ⟨r.hd,by have:=r.dp; show A.depth+1+3*k+5<_; omega,by have:=r.un; show A.units+3+16*k+200<_; omega,r.gd⟩
theorem Room.depth {k:Nat}{A:Around} (r:Room k A):A.depth<recursionLimit:=by have:=r.dp; omega
theorem Room.units {k:Nat}{A:Around} (r:Room k A):A.units+64<cLine:=by have:=r.un; omega
theorem Room.units0 {k:Nat}{A:Around} (r:Room k A):A.units<cLine:=by have:=r.un; omega
noncomputable def tNil:TA:=fun _ H Q=>Q [] H
noncomputable def tCons (ta:TE) (tr:TA):TA:=fun σ H Q=>ta σ H fun x H1=>tr σ H1 fun xs H2=>Q (x::xs) H2
section
variable {X:Cx}{e:Expr}{es:List Expr}{te:TE}{t:TA}{pos:Pos}
theorem pa_nil:PA X [] tNil:=fun _ _ _ _ H Q I h=>Calls.spliced_nil ⟨[],H,I,.nil,h⟩
theorem pa_cons (ha:PE X e te) (hr:PA X es t) (hs:starEach (e::es) X.env=(false,eval e X.env)::starEach es X.env:=by rfl):PA X (e::es) (tCons te t):=by
 intro pos pins s σ H Q I h
 rw [hs]
 show wpAny _ _ (spliced ((false,eval e X.env)::backTo pos (starEach es X.env))) _ _ s
 refine Calls.spliced_cons (thn (ha pins s σ H _ I h) fun u s1 ⟨x,H1,I1,r1,q1⟩=>?_)
 exact thn (hr pos pins s1 σ H1 _ I1 q1) fun us s2 ⟨xs,H2,I2,r2,q2⟩=>⟨x::xs,H2,I2,.cons r1 r2,q2⟩
noncomputable def tTup (t:TA):TE:=fun σ H Q=>t σ H fun xs H1=>xs.length≤sizeLine∧∀ p,H1 p=none→Q (.ref p) (upd H1 p (.tup xs))
noncomputable def tLst (t:TA):TE:=fun σ H Q=>t σ H fun xs H1=>xs.length≤sizeLine∧∀ p,H1 p=none→Q (.ref p) (upd H1 p (.lst xs))
theorem pe_tup {x1} (h:PA X es t):PE X (.Tuple es x1 pos) (tTup t):=by
 intro pins s σ H Q I hq
 refine wpAny_Tuple_spliced (thn (h pos pins s σ H _ I hq) fun us s1 ⟨xs,H1,I1,r,z,q⟩=>⟨by rw [← r.length]; exact z,?_⟩)
 have hf:H1 s1.heap.objs.size=none:=I1.hok.fresh (Nat.le_refl _)
 refine ⟨.ref s1.heap.objs.size,upd H1 s1.heap.objs.size (.tup xs),I1.laid (t':=s1.toks) (fun b u e=>Heap.get?_push_of_some _ e) (Nat.le_refl _) ?_,rfl,q _ hf⟩
 exact ⟨z,us,r,⟨_,Heap.get?_push_size _ rfl,rfl,_,rfl⟩⟩
theorem pe_lst (h:PA X es t):PE X (.List es pos) (tLst t):=by
 intro pins s σ H Q I hq
 refine wpAny_List_spliced (thn (h pos pins s σ H _ I hq) fun us s1 ⟨xs,H1,I1,r,z,q⟩=>⟨by rw [← r.length]; exact z,?_⟩)
 have hf:H1 s1.heap.objs.size=none:=I1.hok.fresh (Nat.le_refl _)
 refine ⟨.ref s1.heap.objs.size,upd H1 s1.heap.objs.size (.lst xs),I1.laid (t':=s1.toks) (fun b u e=>Heap.get?_push_of_some _ e) (Nat.le_refl _) ?_,rfl,q _ hf⟩
 exact ⟨z,us,0,r,Heap.get?_push_size _ rfl⟩
end
noncomputable abbrev Sp:=List V→Hp→VK→XK→Prop
noncomputable abbrev CXT:=List Env→Hp→Shared→XK→Value→Shared→Prop
structure Env0 (P:Program) (w:World) (K:W.Frag) (mg:Str→Option Value) (base:Heap) (A:Around) (outer:List Env) (s:Shared) (H:Hp):Prop where
 frames:A.frames=some outer
 mod:Mod K mg base
 bs:∀ b o,base.get? b=some o→s.heap.get? b=some o∧H b=none
 bsz:base.objs.size≤s.heap.objs.size
 funs:s.heap.FunFrames base outer
 frf:∀ b∈frs outer,H b=none
 hok:HOk P w H s.heap
 bare:AllBare s.gens
def CE (outer:List Env) (P:Program) (w:World) (H:Hp) (s:Shared) (Q:VK) (u:Value) (s':Shared):Prop :=
 ∃ v H',s'.os=s.os∧AllBare s'.gens∧Un (frs outer) [] H H' s.heap s'.heap∧HOk P w H' s'.heap∧RelV v u∧Q v H'
def CR (CX:CXT) (outer:List Env) (P:Program) (w:World) (H:Hp) (s:Shared) (Q:VK) (E:XK) (r:Result) (s':Shared):Prop :=
 match r with
 | .ok (.ret u)=>CE outer P w H s Q u s'
 | .ok _=>False
 | .error e=>CX outer H s E e s'
structure FnOk (P:Program) (w:World) (K:W.Frag) (mg:Str→Option Value) (base:Heap) (CX:CXT) (k:Nat) (f:Addr) (fd:FuncData) (ps:List Str) (sp:Sp):Prop where
 len:∀ vs H Q E,sp vs H Q E→vs.length=ps.length
 run:∀ (A:Around) (outer:List Env) (s:Shared) (H:Hp) (args:Args) (us:List Value) (vs:List V) (Q:VK) (E:XK),Room k A→Env0 P w K mg base A outer s H→BindsTo s fd args (ps.zip us)→Vals vs us→sp vs H Q E →
  codeAny (model P w) A (.call (.ref f) args) (CR CX outer P w H s Q E) s
theorem FnOk.imp {P:Program}{w:World}{K:W.Frag}{mg:Str→Option Value}{base:Heap}{CX:CXT}{k:Nat}{f:Addr}{fd:FuncData}{ps:List Str}{sp sp':Sp} (F:FnOk P w K mg base CX k f fd ps sp)
  (h:∀ vs H Q E,sp' vs H Q E→sp vs H Q E):FnOk P w K mg base CX k f fd ps sp' :=
 ⟨fun vs H Q E q=>F.len vs H Q E (h _ _ _ _ q),fun A outer s H args us vs Q E hr he hb hv hs=>F.run A outer s H args us vs Q E hr he hb hv (h _ _ _ _ hs)⟩
section
variable {X:Cx}{pins:List (Addr × Obj)}{σ:St}{H:Hp}{s s':Shared}
theorem Inv.env0 (I:Inv X pins σ H s):Env0 X.prog X.w X.K X.mg X.base X.A X.stack s H :=
 ⟨I.ok.frames,I.ok.mod,I.bs,Nat.le_trans I.ok.bsz I.sz,I.stack,I.stkFree,I.hok,I.bare⟩
theorem Inv.after {Q:VK}{u:Value} (I:Inv X pins σ H s) (h:CE X.stack X.prog X.w H s Q u s'):EP X pins σ Q u s':=by
 obtain ⟨v,H',os,bare,un,hok,r,q⟩:=h
 obtain ⟨hh,g,d,t,os'⟩:=s'
 obtain rfl:os'=s.os:=os
 exact ⟨v,H',I.call (h':=hh) (g':=g) (d':=d) (t':=t) (ch:=[]) un hok bare (fun b z=>absurd z (by simp)),r,q⟩
end
noncomputable def tCall (sp:Sp) (dvs:List V) (E:XK) (t:TA):TE:=fun σ H Q=>t σ H fun vs H1=>sp (vs++dvs) H1 Q E
def Binds (K:W.Frag) (fd:FuncData) (ps:List Str) (ds:List Value):Prop :=
 ∀ (s:Shared) (us:List Value),K.In s.heap→(us++ds).length=ps.length→BindsTo s fd ⟨us,[]⟩ (ps.zip (us++ds))
theorem Binds.all {K:W.Frag}{fd:FuncData}{ps:List Str} (h:∀ us:List Value,us.length=ps.length→bindArgs fd ⟨us,[]⟩=pure (ps.zip us)):Binds K fd ps []:=fun s us _ hl=>by
 rw [List.append_nil] at hl ⊢
 exact .of_eq (h us hl)
def Passes (CX:CXT) (X:Cx) (E:XK):Prop:=∀ (pins:List (Addr × Obj)) (σ:St) (H:Hp) (s:Shared) (e:Value) (s':Shared),Inv X pins σ H s→CX X.stack H s E e s'→X.xe e s'
section
variable {X:Cx}{CX:CXT}{k:Nat}{f C:Addr}{fd:FuncData}{ps:List Str}{sp:Sp}{dvs:List V}{ds:List Value}{E:XK}{x m:Str}{p pos apos:Pos}{e o:Expr}{es:List Expr}{ta:TE}{t:TA}
theorem run_fn {pins:List (Addr × Obj)}{σ:St}{H:Hp}{s:Shared}{Q:VK}{us:List Value}{vs:List V} (F:FnOk X.prog X.w X.K X.mg X.base CX k f fd ps sp) (hr:Room k X.A) (hb:Binds X.K fd ps ds) (hd:Vals dvs ds) (hx:Passes CX X E)
  (I:Inv X pins σ H s) (r:Vals vs us) (h:sp (vs++dvs) H Q E):wpAny (model X.prog X.w) X.A (call (.ref f) us) (EP X pins σ Q) X.xe s:=by
 have r2:Vals (vs++dvs) (us++ds):=r.append hd
 have hl:(us++ds).length=ps.length:=by rw [← r2.length]; exact F.len _ _ _ _ h
 refine wpAny_call (codeAny_mono (F.run X.A X.stack s H ⟨us,[]⟩ (us++ds) (vs++dvs) Q E hr I.env0 (hb s us I.kIn hl) r2 h) fun r s' hq=>?_)
 cases r with
 | error e=>exact hx pins σ H s e s' I hq
 | ok fl =>
  cases fl with
  | ret u=>exact I.after hq
  | next=>exact False.elim hq
  | brk=>exact False.elim hq
  | cont=>exact False.elim hq
theorem pe_call (F:FnOk X.prog X.w X.K X.mg X.base CX k f fd ps sp) (hr:Room k X.A) (hg:Gl X x) (hm:X.mg x=some (.ref f)) (hk:W.keepIn X.K (.ref f)=true) (hb:Binds X.K fd ps ds) (hd:Vals dvs ds) (hx:Passes CX X E)
  (ha:PA X (e::es) t) (hdb:(x == ("__debug__":Str))=false:=by decide) (he:starEach (e::es) X.env=(false,eval e X.env)::starEach es X.env:=by rfl) (hpl:(backTo pos (starEach es X.env)).any (·.1)=false:=by rfl) :
  PE X (.Call (.Name x p) (e::es) [] pos) (tCall sp dvs E t):=by
 intro pins s σ H Q I h
 refine wpAny_Call_Name_kw (ld_glob I hg hm ?_ hdb)
 refine W.callWith_K (h₀:=X.base) I.ok.mod.kin hk (thn (ha pos pins s σ H _ I h) fun us s1 ⟨vs,H1,I1,r,q⟩=>⟨I1.kIn,?_⟩) he hpl
 exact run_fn F hr hb hd hx I1 r q
structure Mk (K:W.Frag) (C f:Addr):Prop where
 makes:W.makesIn K C=true
 init:W.findIn K (.ref C) "__init__"=some (some (.ref f))
 fn:W.isFn K (.ref f)=true
 kp:W.keepIn K (.ref C)=true
end
section
variable {X:Cx}{CX:CXT}{k:Nat}{f C:Addr}{fd:FuncData}{ps ks:List Str}{sp:Sp}{E:XK}{x m:Str}{p pos apos kpos:Pos}{e o:Expr}{es:List Expr}{kws:List Keyword}{te ta:TE}{t tk:TA}{nm:Option Str}
structure KBinds (K:W.Frag) (fd:FuncData) (ps ks:List Str) (g:List Value→List Value→List Value) (gV:List V→List V→List V):Prop where
 to:∀ (s:Shared) (us ws:List Value),K.In s.heap→(g us ws).length=ps.length→BindsTo s fd ⟨us,ks.zip ws⟩ (ps.zip (g us ws))
 rel:∀ {vs:List V}{us:List Value}{zs:List V}{ws:List Value},Vals vs us→Vals zs ws→Vals (gV vs zs) (g us ws)
variable {g:List Value→List Value→List Value}{gV:List V→List V→List V}
end
structure FnScope (N P:List Str) (sc:Scope):Prop where
 kind:sc.kind=.function
 co:sc.isCoroutine=false
 gen:sc.isGenerator=false
 nd:N.Nodup
 pre:N.take P.length=P
 par:∀ x∈P,sc.names.lookup x=some .local∨sc.names.lookup x=some .cell
 nofree:∀ y∈sc.names,y.2≠.free
theorem bindL_out {kindOf:Str→Option NameKind}{x:Str}:∀ {binds:List (Str × Value)}{m:Str→Option Value},(∀ v,(x,v)∉binds)→bindL kindOf binds m x=m x
 | [],_,_=>rfl
 | (n,v)::r,m,h=>by
  unfold bindL
  rw [bindL_out fun w hw=>h w (List.mem_cons_of_mem _ hw)]
  split
  ·have:x≠n:=by rintro rfl; exact h v List.mem_cons_self
   simp [this]
  ·rfl
theorem bindC_out {kindOf:Str→Option NameKind}{x:Str}:∀ {binds:List (Str × Value)}{m:Str→Option Value},(∀ v,(x,v)∉binds)→bindC kindOf binds m x=m x
 | [],_,_=>rfl
 | (n,v)::r,m,h=>by
  unfold bindC
  rw [bindC_out fun w hw=>h w (List.mem_cons_of_mem _ hw)]
  split
  ·rfl
  ·have:x≠n:=by rintro rfl; exact h v List.mem_cons_self
   simp [this]
theorem bindL_get {kindOf:Str→Option NameKind}{x:Str}{v:Value}:∀ {P:List Str}{vs:List Value}{i:Nat}{m:Str→Option Value},P.Nodup→P[i]?=some x→vs[i]?=some v→kindOf x=some .local →
  bindL kindOf (P.zip vs) m x=some v
 | [],_,_,_,_,h,_,_=>by simp at h
 | _::_,[],_,_,_,_,h,_=>by simp at h
 | p::P,w::vs,0,m,nd,h1,h2,hk=>by
  simp at h1 h2; subst h1; subst h2
  show bindL kindOf ((p,w)::P.zip vs) m p=_
  unfold bindL
  rw [bindL_out fun v hv=>(List.nodup_cons.mp nd).1 (List.of_mem_zip hv).1,if_pos hk]
  simp
 | p::P,w::vs,i+1,m,nd,h1,h2,hk=>by
  show bindL kindOf ((p,w)::P.zip vs) m x=_
  unfold bindL
  exact bindL_get (i:=i) (List.nodup_cons.mp nd).2 (by simpa using h1) (by simpa using h2) hk
theorem bindC_get {kindOf:Str→Option NameKind}{x:Str}{v:Value}:∀ {P:List Str}{vs:List Value}{i:Nat}{m:Str→Option Value},P.Nodup→P[i]?=some x→vs[i]?=some v→kindOf x≠some .local →
  bindC kindOf (P.zip vs) m x=some v
 | [],_,_,_,_,h,_,_=>by simp at h
 | _::_,[],_,_,_,_,h,_=>by simp at h
 | p::P,w::vs,0,m,nd,h1,h2,hk=>by
  simp at h1 h2; subst h1; subst h2
  show bindC kindOf ((p,w)::P.zip vs) m p=_
  unfold bindC
  rw [bindC_out fun v hv=>(List.nodup_cons.mp nd).1 (List.of_mem_zip hv).1,if_neg hk]
  simp
 | p::P,w::vs,i+1,m,nd,h1,h2,hk=>by
  show bindC kindOf ((p,w)::P.zip vs) m x=_
  unfold bindC
  exact bindC_get (i:=i) (List.nodup_cons.mp nd).2 (by simpa using h1) (by simpa using h2) hk
noncomputable def start (N:List Str) (vs:List V):St:=vs.map some++List.replicate (N.length - vs.length) none
noncomputable def cxOf (CX:CXT) (P:Program) (w:World) (K:W.Frag) (mg:Str→Option Value) (base:Heap) (N:List Str) (qual:Str) (scope:Scope) (f:Addr) (cd:Value) (A:Around) (outer:List Env) (s:Shared) (H:Hp) (E:XK):Cx where
 prog:=P
 w:=w
 K:=K
 mg:=mg
 base:=base
 A:=A.deeper (envOfC qual scope s.heap.objs.size f cd)
 N:=N
 s₀:=s
 H₀:=H
 env:=envOfC qual scope s.heap.objs.size f cd
 outer:=outer
 stack:=envOfC qual scope s.heap.objs.size f cd::outer
 ex:=[]
 calm:=true
 fn:=fun _=>true
 pn:=[]
 xe:=fun e s'=>wpAny (model P w) (A.deeper (envOfC qual scope s.heap.objs.size f cd)) (leaving (envOfC qual scope s.heap.objs.size f cd) e) (fun _ s''=>CX outer H s E e s'') (fun e' s''=>CX outer H s E e' s'') s'
theorem cell_has {sc:Scope}{n:Nat}{x:Str} (h:sc.names.lookup x=some .cell):∃ c,(cellsFrom n sc.names []).lookup x=some c:=by
 have q:=W.cellsFrom_some sc.names n [] (.inl h)
 exact Option.isSome_iff_exists.mp q
theorem inv_start {CX:CXT}{P:Program}{w:World}{K:W.Frag}{mg:Str→Option Value}{base:Heap}{N ps:List Str}{qual:Str}{scope:Scope}{f:Addr}{cd:Value}{A:Around}{outer:List Env}{s s1:Shared}{H:Hp}{E:XK}{us:List Value}{vs:List V}
  (S:FnScope N ps scope) (hd:A.handled=none) (e0:Env0 P w K mg base A outer s H) (hl:vs.length=ps.length) (r:Vals vs us)
  (x:InCallC s s.heap.objs.size (bindL (envOfC qual scope s.heap.objs.size f cd).kindOf (ps.zip us) fun _=>none) (cellsFrom (s.heap.objs.size+1) scope.names []) (bindC (envOfC qual scope s.heap.objs.size f cd).kindOf (ps.zip us) fun _=>none) s1) :
  Inv (cxOf CX P w K mg base N qual scope f cd A outer s H E) [] (start N vs) H s1:=by
 have hpl:ps.length≤N.length:=by have:=congrArg List.length S.pre; rw [List.length_take] at this; omega
 obtain ⟨h1,tk,rfl,hk⟩:=x.done
 have noA:∀ b:Addr,b∉(cxOf CX P w K mg base N qual scope f cd A outer s H E).ex:=fun b z=>absurd (show b∈([]:List Addr) from z) (by simp)
 refine ⟨⟨e0.mod,S.kind,rfl,rfl,Nat.le_refl _,fun y z c h1 h2=>?_,fun y hy=>?_,fun y c _ h=>?_,fun _=>hd,Around.frames_deeper e0.frames,.inr ⟨rfl,rfl⟩,fun b z=>absurd z (noA b),e0.bs,e0.bsz,fun b _ _=>noA b,fun b z=>absurd z (noA b),e0.funs,e0.frf⟩,
  rfl,e0.bare,Un.kept hk,⟨_,x.toInCall.ns,fun i y v h1 h2 h3=>?_⟩,fun y c h=>⟨_,x.cell y c h⟩,e0.hok.fresh (Nat.le_refl _),fun y c h=>?_,fun p hp=>absurd (show p∈([]:List (Addr × Obj)) from hp) (by simp),e0.hok.kept hk,?_⟩
 ·exact name_of_addr x.apart (PySem.mem_of_lookup h1) (PySem.mem_of_lookup h2)
 ·have hy:scope.names.lookup y=some .cell∨scope.names.lookup y=some .free:=hy
  rcases hy with hy | hy
  ·exact cell_has hy
  ·exact absurd rfl (S.nofree _ (PySem.mem_of_lookup hy))
 ·exact Nat.le_of_lt (x.above y c (PySem.mem_of_lookup h))
 ·have hi:i<vs.length:=by
   unfold start at h2
   by_cases hi:i<vs.length
   ·exact hi
   ·rw [List.getElem?_append_right (by simpa using hi)] at h2
    rw [List.getElem?_replicate] at h2
    split at h2 <;> cases h2
  have ha:vs[i]?=some v:=by
   unfold start at h2
   rw [List.getElem?_append_left (by simpa using hi),List.getElem?_map] at h2
   cases e:vs[i]? with
   | none=>rw [e] at h2; cases h2
   | some a=>rw [e] at h2; cases h2; rfl
  obtain ⟨u,hu,rv⟩:=r.get ha
  have hp:ps[i]?=some y:=by
   rw [← S.pre,List.getElem?_take_of_lt (by omega)]; exact h1
  have ndP:ps.Nodup:=by rw [← S.pre]; exact S.nd.sublist (List.take_sublist _ _)
  refine ⟨u,rv,?_⟩
  rcases S.par y (List.mem_of_getElem? hp) with k | k
  ·exact .inl ⟨k,bindL_get ndP hp hu k⟩
  ·obtain ⟨c,e⟩:=cell_has (n:=s.heap.objs.size+1) k
   refine .inr ⟨.inl k,c,e,?_⟩
   have q:=x.cell y c e
   rw [bindC_get ndP hp hu (by show scope.names.lookup y≠_; rw [k]; decide)] at q
   exact q
 ·exact e0.hok.fresh (Nat.le_of_lt (x.above y c (PySem.mem_of_lookup h)))
 ·unfold start
  show _=N.length
  rw [List.length_append,List.length_map,List.length_replicate]
  omega
theorem fn_of {CX:CXT}{P:Program}{w:World}{K:W.Frag}{mg:Str→Option Value}{base:Heap}{k:Nat}{f:Addr}{name qual:Str}{params:Arguments}{body:List Stmt}{scope:Scope}{dV kV doc pm cdv ct oc:Value}{an od:Option Addr}
  {osl:Array (Option Value)}{N ps:List Str}{sp:Sp} (lk:K.lookup f=some ⟨oc,od,.func (W.fnOf name qual params body scope dV kV doc pm an cdv ct),osl⟩) (hcd:W.codeIn K cdv qual=true) (S:FnScope N ps scope)
  (len:∀ vs H Q E,sp vs H Q E→vs.length=ps.length)
  (hbody:∀ (A:Around) (outer:List Env) (s:Shared) (H:Hp) (vs:List V) (Q:VK) (E:XK),Room k (A.deeper (envOfC qual scope s.heap.objs.size f cdv))→sp vs H Q E →
   ∃ t,PSs (cxOf CX P w K mg base N qual scope f cdv A outer s H E) body t∧t { nx:=fun _ H'=>Q .non H',rt:=Q } (start N vs) H) :
  FnOk P w K mg base CX (k+1) f (W.fnOf name qual params body scope dV kV doc pm an cdv ct) ps sp:=by
 refine ⟨len,fun A outer s H args us vs Q E hr e0 hb r hsp=>?_⟩
 have hl:=len _ _ _ _ hsp
 have KX:K.In s.heap:=e0.mod.kin.keeps fun b o e=>(e0.bs b o e).1
 have lim:s.heap.NoLimit:=e0.mod.nolimit.keeps fun b o e=>(e0.bs b o e).1
 have hkind:∀ y∈ps.zip us,scope.names.lookup y.1=some .local∨(scope.names.lookup y.1=some .cell∧((cellsFrom (s.heap.objs.size+1) scope.names []).lookup y.1).isSome=true):=fun ⟨n,v⟩ hy=>by
  rcases S.par n (List.of_mem_zip hy).1 with q | q
  ·exact .inl q
  ·exact .inr ⟨q,W.cellsFrom_some _ _ _ (.inl q)⟩
 refine codeAny_call_function hr.depth (KX _ _ lk) rfl S.co S.gen rfl (W.codeRec_of KX hcd) (hb _ _ _ _ ?_)
 refine wpAny_newFunctionEnv_cells S.kind hkind fun env he s1 x=>?_
 subst he
 refine ⟨lim.keeps x.toInCall.keep,codeAny_func ?_⟩
 obtain ⟨t,ht,hq⟩:=hbody A outer s H vs Q E (hr.deeper _) hsp
 have I:Inv (cxOf CX P w K mg base N qual scope f cdv A outer s H E) [] (start N vs) H s1:=inv_start S hr.hd e0 hl r x
 refine wpAny_mono (ht [] s1 (start N vs) H _ I hq) (fun fl s' hs=>?_) fun e s' hs=>hs
 have fin:∀ {σ':St}{H':Hp}{v:V}{u:Value},Inv (cxOf CX P w K mg base N qual scope f cdv A outer s H E) [] σ' H' s'→RelV v u→Q v H'→CE outer P w H s Q u s' :=
  fun {σ' H' v u} J rv q=>⟨v,H',J.os,J.bare,J.base,J.hok,rv,q⟩
 cases fl with
 | ret u =>
  obtain ⟨v,σ',H',J,rv,q⟩:=hs
  exact fin J rv q
 | next =>
  obtain ⟨σ',H',J,q⟩:=hs
  exact fin (v:=V.non) (u:=Value.none) J rfl q
 | brk =>
  obtain ⟨_,_,_,q⟩:=hs
  exact False.elim q
 | cont =>
  obtain ⟨_,_,_,q⟩:=hs
  exact False.elim q
section
variable {X:Cx}{x:Str}{p pos:Pos}{e:Expr}{es:List Expr}{t:TA}{id T:String}{r:List V→Hp→VK→Prop}
noncomputable def tCB (r:List V→Hp→VK→Prop) (t:TA):TE:=fun σ H Q=>t σ H fun vs H1=>r vs H1 Q
theorem pe_callB (hc:CallR X (.builtin id) r) (hg:Gl X x) (hm:X.mg x=none) (hv:bootBuiltins x=some (.builtin id)) (ha:PA X (e::es) t) (hn:x ≠ "__name__":=by decide) (hdb:(x == ("__debug__":Str))=false:=by decide)
  (he:starEach (e::es) X.env=(false,eval e X.env)::starEach es X.env:=by rfl) (hpl:(backTo pos (starEach es X.env)).any (·.1)=false:=by rfl):PE X (.Call (.Name x p) (e::es) [] pos) (tCB r t):=by
 intro pins s σ H Q I h
 refine wpAny_Call_Name_kw (ld_blt I hg hm hv ?_ hn hdb)
 exact PyProof.Rows.callWith_builtin1 (thn (ha pos pins s σ H _ I h) fun us s1 ⟨vs,H1,I1,r1,q1⟩=>hc pins s1 σ H1 vs us Q I1 r1 q1) he hpl
theorem pe_callTy (hc:CallR X (.type T) r) (hg:Gl X x) (hm:X.mg x=none) (hv:bootBuiltins x=some (.type T)) (ha:PA X (e::es) t) (hn:x ≠ "__name__":=by decide) (hdb:(x == ("__debug__":Str))=false:=by decide)
  (he:starEach (e::es) X.env=(false,eval e X.env)::starEach es X.env:=by rfl) (hpl:(backTo pos (starEach es X.env)).any (·.1)=false:=by rfl):PE X (.Call (.Name x p) (e::es) [] pos) (tCB r t):=by
 intro pins s σ H Q I h
 refine wpAny_Call_Name_kw (ld_blt I hg hm hv ?_ hn hdb)
 exact PyProof.Rows.callWith_type1 (thn (ha pos pins s σ H _ I h) fun us s1 ⟨vs,H1,I1,r1,q1⟩=>hc pins s1 σ H1 vs us Q I1 r1 q1) he hpl
end
end L2
namespace HT
open PySem PyProof.Rows
section
variable {prog:Program}{w:World}{A:Around}{E:Value→Shared→Prop}{s:Shared}
theorem cat_tup {t b:Addr}{vs ws:List Value}{Q:Value→Shared→Prop} (ht:IsTup s.heap t vs.toArray) (hb:IsTup s.heap b ws.toArray) (hv:vs≠[])
  (h1:ws=[]→Q (.ref t) s) (h2:ws≠[]→Q (.ref s.heap.objs.size) { s with heap:=s.heap.push { cls:=.type "tuple",data:=.seq (vs++ws).toArray } })
  (hsz:vs.length+ws.length≤sizeLine):wpAny (model prog w) A (binaryOp .Add (.ref t) (.ref b)) Q E s:=by
 obtain ⟨⟨cls,dd,data,sl⟩,ho,hc,n,hd⟩:=id ht
 obtain ⟨⟨cls2,dd2,data2,sl2⟩,ho2,hc2,n2,hd2⟩:=id hb
 simp only at hc hd hc2 hd2
 subst hc hd hc2 hd2
 have e:vs.toArray++ws.toArray=(vs++ws).toArray:=by simp
 by_cases hw:ws=[]
 ·exact concat_meets ⟨_,ho,rfl⟩ ⟨_,ho2,rfl⟩ noFill_tuple_add seq_tuple_add PySem.F.slot_tuple_add PySem.F.entry_tuple_add (PySem.F.args_tuple_add_2 _ _)
   (tuple_addW1 t b vs.toArray ws.toArray n n2 dd dd2 sl sl2 (by simpa using hv) (by simp [hw])) ⟨ho,ho2,h1 hw⟩
 ·refine concat_meets ⟨_,ho,rfl⟩ ⟨_,ho2,rfl⟩ noFill_tuple_add seq_tuple_add PySem.F.slot_tuple_add PySem.F.entry_tuple_add (PySem.F.args_tuple_add_2 _ _)
   (tuple_addW2 t b vs.toArray ws.toArray n n2 dd dd2 sl sl2 (by simpa using hv) (by simpa using hw) (by rw [List.size_toArray,List.size_toArray]; exact hsz)) ⟨ho,ho2,?_⟩
  rw [e]
  exact h2 hw
noncomputable def sIx (n d:Nat):Option Int→Nat
 | none=>d
 | some v=>if v<0 then (v+(n:Int)).toNat else min v.toNat n
theorem sIx_none (n d:Nat):sIx n d none=d:=rfl
theorem sIx_nat (n d k:Nat):sIx n d (some (k:Int))=min k n:=by
 show (if (k:Int)<0 then ((k:Int)+(n:Int)).toNat else min (k:Int).toNat n)=min k n
 rw [if_neg (by omega),Int.toNat_natCast]
theorem sIx_le (n d:Nat) (hd:d≤n) (o:Option Int):sIx n d o≤n:=by
 cases o with
 | none=>exact hd
 | some v =>
  show (if v<0 then (v+(n:Int)).toNat else min v.toNat n)≤n
  by_cases hv:v<0
  ·rw [if_pos hv]; omega
  ·rw [if_neg hv]; exact Nat.min_le_right _ _
theorem clip_eq (v:Int) (n d:Nat):(if v<0 then max (v+(n:Int)) 0 else min v (n:Int))=((sIx n d (some v):Nat):Int):=by
 show (if v<0 then max (v+(n:Int)) 0 else min v (n:Int))=(((if v<0 then (v+(n:Int)).toNat else min v.toNat n):Nat):Int)
 by_cases hv:v<0
 ·simp only [if_pos hv]; omega
 ·simp only [if_neg hv]; omega
theorem adjust_gen (lo hi:Option Int) (n:Nat):Builtin.Slice.sliceAdjust lo hi 1 (n:Int)=(((sIx n 0 lo:Nat):Int),((sIx n n hi:Nat):Int)):=by
 have h1:¬ ((1:Int)<0):=by omega
 unfold Builtin.Slice.sliceAdjust
 simp only [h1,if_false]
 refine Prod.ext ?_ ?_
 ·cases lo with
  | none=>rfl
  | some v=>exact clip_eq v n 0
 ·cases hi with
  | none=>rfl
  | some v=>exact clip_eq v n n
theorem places_gen (i j:Nat):Builtin.Slice.slicePlaces (i:Int) (j:Int) 1=j - i:=by
 unfold Builtin.Slice.slicePlaces
 have h1:(1:Int)>0:=by omega
 simp only [h1,if_true,Int.ediv_one]
 split <;> omega
theorem slicePart_ {v:Value}{o:Option Int}{Q:Option Int→Shared→Prop} (p:IsPart v o) (h:Q o s):wpAny (model prog w) A (Builtin.Slice.slicePartIndex v) Q E s:=by
 cases p with
 | none=>exact slicePart_none h
 | int i t=>exact slicePart_int h
theorem sliceApplied_gen {sl:Addr}{vl vu:Value}{lo hi:Option Int}{n:Nat}{Q:Int × Int × Nat→Shared→Prop} (hs:s.heap.IsSliceOf sl vl vu .none) (pl:IsPart vl lo) (pu:IsPart vu hi)
  (h:Q (((sIx n 0 lo:Nat):Int),1,sIx n n hi - sIx n 0 lo) s):wpAny (model prog w) A (Builtin.Slice.sliceApplied (.ref sl) (pure (n:Int))) Q E s:=by
 obtain ⟨os,hos,hcs,hds⟩:=id hs
 unfold Builtin.Slice.sliceApplied Builtin.Slice.sliceFields
 refine wpAny_bind (wpAny_bind (wpAny_field hos hds (x:=vl) rfl (wpAny_bind (wpAny_field hos hds (x:=vu) rfl (wpAny_bind (wpAny_field hos hds (x:=.none) rfl (wpAny_pure ?_)))))))
 refine wpAny_bind (slicePart_none ?_)
 show wpAny _ _ (if ((1:Int) == 0)=true then _ else _) _ _ s
 rw [if_neg (by decide)]
 refine wpAny_bind (slicePart_ pl (wpAny_bind (slicePart_ pu (wpAny_bind (wpAny_pure ?_)))))
 show wpAny _ _ (match Builtin.Slice.sliceAdjust lo hi 1 (n:Int) with | (lo,hi)=>pure (lo,(1:Int),Builtin.Slice.slicePlaces lo hi 1)) _ _ s
 rw [adjust_gen lo hi n]
 show wpAny _ _ (pure (((sIx n 0 lo:Nat):Int),(1:Int),Builtin.Slice.slicePlaces ((sIx n 0 lo:Nat):Int) ((sIx n n hi:Nat):Int) 1)) _ _ s
 rw [places_gen]
 exact wpAny_pure h
theorem pick_gen (xs:Array Value) (i k:Nat):((List.range k).filterMap fun (m:Nat)=>xs[((i:Int)+(m:Int)*1).toNat]?).toArray=((xs.toList.drop i).take k).toArray:=by
 have e:(fun (m:Nat)=>xs[((i:Int)+(m:Int)*1).toNat]?)=fun m=>xs[i+m]?:=by
  funext m
  have:((i:Int)+(m:Int)*1).toNat=i+m:=by omega
  rw [this]
 rw [e]
 have:=pick_run xs i k
 rw [List.filterMap_map] at this
 have e2:((fun x=>xs[x]?)∘fun x=>i+x)=fun m=>xs[i+m]?:=rfl
 rw [e2] at this
 rw [this]
theorem getItem_tuple_cut {t sl:Addr}{items:Array Value}{vl vu:Value}{lo hi:Option Int}{Q:Value→Shared→Prop} (ht:IsTup s.heap t items) (hs:s.heap.IsSliceOf sl vl vu .none) (pl:IsPart vl lo) (pu:IsPart vu hi)
  (hw:¬ (sIx items.size 0 lo=0∧sIx items.size items.size hi=items.size))
  (h:Q (.ref s.heap.objs.size) { s with heap:=s.heap.push { cls:=.type "tuple",data:=.seq ((items.toList.drop (sIx items.size 0 lo)).take (sIx items.size items.size hi - sIx items.size 0 lo)).toArray } })
  (hsz:items.size≤sizeLine):wpAny (model prog w) A (getItem (.ref t) (.ref sl)) Q E s:=by
 have htake:sizeOk (.seq ((items.toList.drop (sIx items.size 0 lo)).take (sIx items.size items.size hi - sIx items.size 0 lo)).toArray):=by
  show ((items.toList.drop (sIx items.size 0 lo)).take (sIx items.size items.size hi - sIx items.size 0 lo)).toArray.size≤sizeLine
  rw [List.size_toArray,List.length_take,List.length_drop,Array.length_toList]
  omega
 have hj:sIx items.size items.size hi≤items.size:=sIx_le _ _ (Nat.le_refl _) hi
 obtain ⟨os,hos,hcs,hds⟩:=id hs
 have hTs:s.TypeIs (.ref sl) "slice":=⟨os,hos,hcs⟩
 unfold getItem
 try with_reducible refine wpAny_holding ?_
 first | refine wpAny_bind (wpAny_pure ?_) | skip
 refine wpAny_bind (wpAny_sequenceKey ht.typeIs (by decide) ?_)
 refine wpAny_bind (wpAny_callSpecial?_slot (name:=Str.ofString "__getitem__") ht.typeIs PyProof.Rows.slot_tuple_getitem
  (wpAny_call_entry PyProof.Rows.slot_tuple_getitem ht.typeIs entry_tuple_getitem ?_ (args_tuple_getitem _ _)))
 show wpAny _ _ (Builtin.Tuple.tupleItemsOf (.ref t) >>= _) _ _ s
 refine wpAny_bind (tupleItemsOf_ ht ?_)
 refine wpAny_bind (wpAny_typeOf hTs ?_)
 rw [if_pos (by decide)]
 refine wpAny_bind (sliceApplied_gen hs pl pu ?_)
 have hno:¬ ((((sIx items.size 0 lo:Nat):Int) == 0&&(1:Int) == 1&&(sIx items.size items.size hi - sIx items.size 0 lo) == items.size)=true):=by
  intro q
  rw [Bool.and_eq_true,Bool.and_eq_true] at q
  have q1:((sIx items.size 0 lo:Nat):Int)=0:=eq_of_beq q.1.1
  have q2:sIx items.size items.size hi - sIx items.size 0 lo=items.size:=eq_of_beq q.2
  exact hw ⟨by omega,by omega⟩
 show wpAny _ _ (if (((sIx items.size 0 lo:Nat):Int) == 0&&(1:Int) == 1&&(sIx items.size items.size hi - sIx items.size 0 lo) == items.size)=true then _ else _) _ _ s
 rw [if_neg hno,pick_gen]
 first
  | exact wpAny_bind (m:=Builtin.Tuple.tupleExact _) (wpAny_newObj_type (wpAny_pure ⟨_,rfl,wpAny_pure h⟩) htake)
  | exact wpAny_bind (m:=Builtin.Tuple.tupleExact _) (wpAny_newObj_type (wpAny_bind (wpAny_pure (wpAny_pure ⟨_,rfl,wpAny_pure h⟩))) htake)
  | exact wpAny_bind (wpAny_bind (m:=Builtin.Tuple.tupleExact _) (wpAny_newObj_type (wpAny_pure (wpAny_pure ⟨_,rfl,wpAny_pure h⟩)) htake))
  | exact wpAny_bind (wpAny_bind (m:=Builtin.Tuple.tupleExact _) (wpAny_newObj_type (wpAny_pure ⟨_,rfl,wpAny_pure h⟩) htake))
end
end HT
namespace L2
open PySem PySem.Spec PyProof.Rows
noncomputable abbrev TO:=St→Hp→(Option Int→Hp→Prop)→Prop
def PO (X:Cx) (e:Option Expr) (t:TO):Prop :=
 ∀ (pins:List (Addr × Obj)) (s:Shared) (σ:St) (H:Hp) (Q:Option Int→Hp→Prop),Inv X pins σ H s→t σ H Q →
  wpAny (model X.prog X.w) X.A (evalPart e X.env) (fun u s'=>∃ o H',Inv X pins σ H' s'∧IsPart u o∧Q o H') X.xe s
noncomputable def tNoPart:TO:=fun _ H Q=>Q none H
noncomputable def tPart (t:TE):TO:=fun σ H Q=>t σ H fun x H1=>∃ i,x=.int i∧Q (some i) H1
theorem intsAre_of {ns:List Int}:∀ {us:List Value},Vals (ns.map V.int) us→IntsAre us ns:=by
 induction ns with
 | nil=>intro us r; rw [List.map_nil] at r; cases r; exact .nil
 | cons n ns ih =>
  intro us r
  rw [List.map_cons] at r
  cases r with
  | cons r1 r2 =>
   obtain ⟨t,e⟩:=r1
   subst e
   exact .cons n t (ih r2)
section
variable {X:Cx}{e:Expr}{te:TE}{lo hi:Option Expr}{tl th:TO}{pos p2:Pos}
theorem po_none:PO X none tNoPart:=by
 intro pins s σ H Q I h
 rw [evalPart_none]
 exact wpAny_pure ⟨none,H,I,.none,h⟩
theorem po_some (h:PE X e te):PO X (some e) (tPart te):=by
 intro pins s σ H Q I hw
 rw [evalPart_some]
 refine thn (h pins s σ H _ I hw) fun u s1 ⟨x,H1,I1,r1,q1⟩=>?_
 obtain ⟨i,rfl,q⟩:=q1
 obtain ⟨t,rfl⟩:=r1
 exact ⟨some i,H1,I1,.int i t,q⟩
def SlR (X:Cx) (r:V→Option Int→Option Int→Hp→VK→Prop):Prop :=
 ∀ (pins:List (Addr × Obj)) (s:Shared) (σ:St) (H:Hp) (x:V) (v vl vu:Value) (lo hi:Option Int) (sl:Addr) (Q:VK),Inv X pins σ H s→RelV x v→s.heap.IsSliceOf sl vl vu .none→IsPart vl lo→IsPart vu hi→r x lo hi H Q →
  ∃ T id,typeLookup (.type T) "__getitem__"=pure (some (.builtin id))∧s.TypeIs v T∧wpAny (model X.prog X.w) X.A (getItem v (.ref sl)) (EP X pins σ Q) X.xe s
noncomputable def tSl (r:V→Option Int→Option Int→Hp→VK→Prop) (te:TE) (tl th:TO):TE:=fun σ H Q=>te σ H fun x H1=>tl σ H1 fun l H2=>th σ H2 fun u H3=>r x l u H3 Q
theorem pe_slice {r:V→Option Int→Option Int→Hp→VK→Prop} (hr:SlR X r) (he:PE X e te) (hl:PO X lo tl) (hu:PO X hi th):PE X (.Subscript e (.Slice lo hi none p2) pos) (tSl r te tl th):=by
 intro pins s σ H Q I h
 refine Subscript_ (thn (he pins s σ H _ I h) fun v s1 ⟨x,H1,I1,r1,q1⟩=>?_)
 refine wpAny_Slice (thn (hl pins s1 σ H1 _ I1 q1) fun vl s2 ⟨l,H2,I2,pl,q2⟩=>thn (hu pins s2 σ H2 _ I2 q2) fun vu s3 ⟨u,H3,I3,pu,q3⟩=>?_)
 rw [evalPart_none]
 refine wpAny_pure ?_
 have I4:Inv X pins σ H3 { s3 with heap:=s3.heap.push { cls:=.type "slice",data:=.fields #[vl,vu,.none] } }:=I3.kept (t':=s3.toks) fun b ob q=>Heap.get?_push_of_some _ q
 obtain ⟨T,id,hT,ht,hg⟩:=hr pins { s3 with heap:=s3.heap.push { cls:=.type "slice",data:=.fields #[vl,vu,.none] } } σ H3 x v vl vu l u s3.heap.objs.size Q I4 r1 (Heap.IsSliceOf.new ..) pl pu q3
 show wpAny (model X.prog X.w) X.A (subscriptTail e (.Slice lo hi none p2) v (.ref s3.heap.objs.size)) (EP X pins σ Q) X.xe { s3 with heap:=s3.heap.push { cls:=.type "slice",data:=.fields #[vl,vu,.none] } }
 exact tail_any (ops:=[.ref s3.heap.objs.size,v]) ht hT hg (by with_unfolding_all rfl)
noncomputable def cutV (xs:List V) (lo hi:Option Int):List V:=(xs.drop (HT.sIx xs.length 0 lo)).take (HT.sIx xs.length xs.length hi - HT.sIx xs.length 0 lo)
theorem cutV_length (xs:List V) (lo hi:Option Int):(cutV xs lo hi).length≤xs.length:=by
 unfold cutV
 rw [List.length_take,List.length_drop]
 omega
noncomputable def rSlT (K:W.Frag):V→Option Int→Option Int→Hp→VK→Prop:=fun x lo hi H Q=>∃ a xs,x=.ref a∧SqT K H a xs ∧
 ¬ (HT.sIx xs.length 0 lo=0∧HT.sIx xs.length xs.length hi=xs.length)∧∀ p,H p=none→Q (.ref p) (upd H p (.tup (cutV xs lo hi)))
theorem sl_tup:SlR X (rSlT X.K):=by
 intro pins s σ H x v vl vu lo hi sl Q I rx hs pl pu h
 obtain ⟨a,xs,rfl,hx,hw,q⟩:=h
 cases rx
 obtain ⟨its,r,ht,hz⟩:=I.tuple hx
 have hlen:its.toArray.size=xs.length:=by rw [List.size_toArray]; exact r.length.symm
 refine ⟨"tuple",_,PyProof.Rows.slot_tuple_getitem.lookup,ht.typeIs,?_⟩
 refine HT.getItem_tuple_cut ht hs pl pu (by rw [hlen]; exact hw) ?_ (by rw [hlen]; exact hz)
 rw [hlen]
 refine ⟨.ref s.heap.objs.size,_,I.laid (t':=s.toks) (o:=.tup (cutV xs lo hi)) (fun b ob q=>Heap.get?_push_of_some _ q) (Nat.le_refl _) ?_,rfl,q _ (I.hok.fresh (Nat.le_refl _))⟩
 exact ⟨Nat.le_trans (cutV_length xs lo hi) hz,_,(r.drop (HT.sIx xs.length 0 lo)).take (HT.sIx xs.length xs.length hi - HT.sIx xs.length 0 lo),IsTup.new _ _⟩
noncomputable def rCatT (K:W.Frag):R2:=fun x y H Q=>∃ a b xs ys,x=.ref a∧y=.ref b∧SqT K H a xs∧SqT K H b ys∧xs≠[]∧xs.length+ys.length≤sizeLine ∧
 (ys=[]→Q (.ref a) H)∧(ys≠[]→∀ p,H p=none→Q (.ref p) (upd H p (.tup (xs++ys))))
theorem Vals.nil_iff {xs:List V}{us:List Value} (r:Vals xs us):us=[]↔xs=[]:=by
 cases r with
 | nil=>simp
 | cons _ _=>simp
theorem op_catT:OpR X (binaryOp .Add) (rCatT X.K):=by
 intro pins s σ H x y v u Q I rx ry h
 obtain ⟨a,b,xs,ys,rfl,rfl,ha,hb,hx,hz,q1,q2⟩:=h
 cases rx
 cases ry
 obtain ⟨its,r1,p1,_⟩:=I.tuple ha
 obtain ⟨its2,r2,p2,_⟩:=I.tuple hb
 refine HT.cat_tup p1 p2 (fun z=>hx (r1.nil_iff.mp z)) (fun z=>⟨.ref a,H,I,rfl,q1 (r2.nil_iff.mp z)⟩) (fun z=>?_) (by rw [← r1.length,← r2.length]; exact hz)
 refine ⟨.ref s.heap.objs.size,_,I.laid (t':=s.toks) (o:=.tup (xs++ys)) (fun b ob q=>Heap.get?_push_of_some _ q) (Nat.le_refl _) ?_,rfl,q2 (fun w=>z (r2.nil_iff.mpr w)) _ (I.hok.fresh (Nat.le_refl _))⟩
 exact ⟨by rw [List.length_append]; exact hz,_,r1.append r2,IsTup.new _ _⟩
end
noncomputable def ixN (n:Nat) (i:Int):Option Nat:=if 0≤i then (if i<n then some i.toNat else none) else if -(n:Int)≤i then some (i+n).toNat else none
noncomputable def atI {α:Type} (xs:List α) (i:Int):Option α:=(ixN xs.length i).bind fun j=>xs[j]?
theorem ixN_seq {n:Nat}{i:Int}{j:Nat} (h:ixN n i=some j):seqIndex? i n=some j∧j<n∧-(n:Int)≤i∧i<n:=by
 unfold ixN at h
 by_cases h0:0≤i
 ·rw [if_pos h0] at h
  by_cases h1:i<n
  ·rw [if_pos h1] at h
   have e:i.toNat=j:=Option.some.inj h
   exact ⟨by rw [seqIndex_of h0 h1,e],by omega,by omega,h1⟩
  ·rw [if_neg h1] at h; cases h
 ·rw [if_neg h0] at h
  by_cases h1:-(n:Int)≤i
  ·rw [if_pos h1] at h
   have e:(i+n).toNat=j:=Option.some.inj h
   exact ⟨by rw [seqIndex_neg (by omega) h1,e],by omega,h1,by omega⟩
  ·rw [if_neg h1] at h; cases h
theorem atI_get {α:Type}{xs:List α}{i:Int}{v:α} (h:atI xs i=some v):∃ j,seqIndex? i xs.length=some j∧xs[j]?=some v∧j<xs.length∧-(xs.length:Int)≤i∧i<xs.length:=by
 unfold atI at h
 cases e:ixN xs.length i with
 | none=>rw [e] at h; cases h
 | some j =>
  rw [e] at h
  obtain ⟨h1,h2,h3,h4⟩:=ixN_seq e
  exact ⟨j,h1,h,h2,h3,h4⟩
theorem atI_nat {α:Type}{xs:List α}{j:Nat}{v:α} (h:xs[j]?=some v):atI xs (j:Int)=some v:=by
 have hj:j<xs.length:=(List.getElem?_eq_some_iff.mp h).1
 have e:ixN xs.length (j:Int)=some j:=by
  unfold ixN
  rw [if_pos (by omega),if_pos (by omega)]; simp
 unfold atI; rw [e]; exact h
def PlainIx (b:Expr):Prop:=∀ o i,subscripted b false o i=operate [o,i] (getItem o i)
def IxR (X:Cx) (r:R2):Prop :=
 ∀ (value slice:Expr) (pins:List (Addr × Obj)) (s:Shared) (σ:St) (H:Hp) (x y:V) (v u:Value) (Q:VK),Inv X pins σ H s→RelV x v→RelV y u→r x y H Q →
  subscripted slice false v u=operate [v,u] (getItem v u)→wpAny (model X.prog X.w) X.A (subscriptTail value slice v u) (EP X pins σ Q) X.xe s
def MtR (X:Cx) (id:String) (r:V→List V→Hp→VK→Prop):Prop :=
 ∀ (pins:List (Addr × Obj)) (s:Shared) (σ:St) (H:Hp) (x:V) (xs:List V) (v:Value) (us:List Value) (Q:VK),Inv X pins σ H s→RelV x v→Vals xs us→r x xs H Q →
  wpAny (model X.prog X.w) X.A (call (.builtin id) (v::us)) (EP X pins σ Q) X.xe s
section
variable {X:Cx}{a b:Expr}{ta tb:TE}{pos:Pos}
theorem pe_ix {r:R2} (hr:IxR X r) (ha:PE X a ta) (hb:PE X b tb) (hs:PlainIx b):PE X (.Subscript a b pos) (tOp r ta tb):=by
 intro pins s σ H Q I h
 exact Subscript_ (binT ha hb I h fun v u s2 x y H2 I2 rx ry q=>hr a b pins s2 σ H2 x y v u Q I2 rx ry q (hs _ _))
noncomputable def rIxL (K:W.Frag):R2:=fun x y H Q=>∃ p xs i v,x=.ref p∧y=.int i∧SqL K H p xs∧atI xs i=some v∧Q v H
noncomputable def rIxT (K:W.Frag):R2:=fun x y H Q=>∃ p xs i v,x=.ref p∧y=.int i∧SqT K H p xs∧atI xs i=some v∧Q v H
theorem ix_list:IxR X (rIxL X.K):=by
 intro value slice pins s σ H x y v u Q I rx ry h hs
 obtain ⟨p,xs,i,z,rfl,rfl,hq,he,q⟩:=h
 cases rx
 obtain ⟨t,rfl⟩:=ry
 obtain ⟨its,r,pl,hz⟩:=I.list hq
 obtain ⟨j,h1,h2,h3,h4,h5⟩:=atI_get he
 obtain ⟨w,ew,rw'⟩:=r.get h2
 have hl:=r.length
 have hn:=line63
 have fin:EP X pins σ Q w s:=⟨z,H,I,rw',q⟩
 by_cases h0:0≤i
 ·have hj:i.toNat=j:=by
   rw [seqIndex_of h0 h5] at h1
   exact Option.some.inj h1
  exact item_listR pl.isList h0 (by omega) (by rw [hj]; simpa using ew) fin hs
 ·have hj:(i+(its.toArray.size:Int)).toNat=j:=by
   rw [seqIndex_neg (by omega) h4] at h1
   rw [List.size_toArray,← hl]
   exact Option.some.inj h1
  exact subscriptTail_builtinR (x:=w) pl.isList.typeIs slot_list_getitem.lookup
   (wpAny_getItem_list_neg (Q:=fun r s'=>r=w∧EP X pins σ Q r s') pl.isList (by omega) (by rw [List.size_toArray] <;> omega) (by omega) (by rw [hj]; simpa using ew) ⟨rfl,fin⟩) hs
theorem ix_tup:IxR X (rIxT X.K):=by
 intro value slice pins s σ H x y v u Q I rx ry h hs
 obtain ⟨p,xs,i,z,rfl,rfl,hq,he,q⟩:=h
 cases rx
 obtain ⟨t,rfl⟩:=ry
 obtain ⟨its,r,pl,hz⟩:=I.tuple hq
 obtain ⟨j,h1,h2,h3,h4,h5⟩:=atI_get he
 obtain ⟨w,ew,rw'⟩:=r.get h2
 have hl:=r.length
 have hn:=line63
 have fin:EP X pins σ Q w s:=⟨z,H,I,rw',q⟩
 exact subscriptTail_builtinR (x:=w) pl.typeIs slot_tuple_getitem.lookup
  (getItem_tuple (j:=j) (Q:=fun r s'=>r=w∧EP X pins σ Q r s') pl (by omega) (by omega) (by rw [List.size_toArray,← hl]; exact h1) (by simpa using ew) ⟨rfl,fin⟩) hs
theorem mapSeq_set (its:List Value) (n j:Nat) (u:Value):Obj.mapSeq (·.setIfInBounds j u) { cls:=.type "list",data:=.seq its.toArray n }={ cls:=.type "list",data:=.seq (its.set j u).toArray n }:=by
 simp [Obj.mapSeq]
theorem Inv.lst {pins:List (Addr × Obj)}{σ:St}{H:Hp}{s:Shared}{p:Addr}{xs:List V} (I:Inv X pins σ H s) (h:H p=some (.lst xs)) :
  ∃ (its:List Value) (n:Nat),Vals xs its∧s.heap.get? p=some { cls:=.type "list",data:=.seq its.toArray n }∧xs.length≤sizeLine:=by
 obtain ⟨z,its,n,r,e⟩:=I.hok p _ h
 exact ⟨its,n,r,e,z⟩
theorem Inv.lstUpd {pins:List (Addr × Obj)}{σ:St}{H:Hp}{s:Shared}{p:Addr}{xs ys:List V}{its its':List Value}{n n':Nat}{f:Obj→Obj} (I:Inv X pins σ H s) (h:H p=some (.lst xs))
  (ho:s.heap.get? p=some { cls:=.type "list",data:=.seq its.toArray n }) (hf:f { cls:=.type "list",data:=.seq its.toArray n }={ cls:=.type "list",data:=.seq its'.toArray n' }) (r:Vals ys its') (hz:ys.length≤sizeLine) (t:Nat) :
  Inv X pins σ (upd H p (.lst ys)) { s with heap:=s.heap.update p f,toks:=t }:=by
 have e:(s.heap.update p f).get? p=some { cls:=.type "list",data:=.seq its'.toArray n' }:=by
  rw [Heap.get?_update_self f ho (by rw [hf] <;> rfl),hf]
 refine I.write (x:=p) (e:=p) (by rw [h]; trivial) (.inl rfl) (fun b u hb q=>(Heap.get?_update_other _ _ (Ne.symm hb)).trans q) ⟨_,e⟩ ?_
 exact ⟨hz,its',n',r,e⟩
noncomputable def rSetL:V→V→V→Hp→(Hp→Prop)→Prop:=fun o i v H Q=>∃ p xs k j,o=.ref p∧i=.int k∧H p=some (.lst xs)∧ixN xs.length k=some j∧Q (upd H p (.lst (xs.set j v)))
theorem set_list:PSet X rSetL:=by
 intro pins s σ H o i v ov iv u Q I ro ri rv h
 obtain ⟨p,xs,k,j,rfl,rfl,hp,hj,q⟩:=h
 cases ro
 obtain ⟨t,rfl⟩:=ri
 obtain ⟨its,n,r,ho,hz⟩:=I.lst hp
 obtain ⟨h1,h2,h3,h4⟩:=ixN_seq hj
 have hl:=r.length
 have hn:=line63
 have I':Inv X pins σ (upd H p (.lst (xs.set j v))) { s with heap:=s.heap.update p (Obj.mapSeq (·.setIfInBounds j u)) } :=
  I.lstUpd hp ho (mapSeq_set its n j u) (r.set rv j) (by rw [List.length_set]; exact hz) s.toks
 by_cases h0:0≤k
 ·have hk:k.toNat=j:=by
   rw [seqIndex_of h0 h4] at h1
   exact Option.some.inj h1
  exact W.ki_setAt ho h0 (by omega) (by rw [List.size_toArray,← hl]; exact h4) (by rw [hk]; exact ⟨_,I',q⟩)
 ·have hk:(k+(its.toArray.size:Int)).toNat=j:=by
   rw [seqIndex_neg (by omega) h3] at h1
   rw [List.size_toArray,← hl]
   exact Option.some.inj h1
  exact W.ki_setBack ho (by omega) (by rw [List.size_toArray,← hl]; exact h3) (by omega) (by rw [hk]; exact ⟨_,I',q⟩)
theorem slice_bounds (lo hi:Option Int) (n:Nat):(sliceBounds lo hi none n).1=((HT.sIx n 0 lo:Nat):Int)∧(sliceBounds lo hi none n).2.1=((HT.sIx n n hi:Nat):Int)∧(sliceBounds lo hi none n).2.2=1:=by
 refine ⟨?_,?_,rfl⟩
 ·cases lo with
  | none=>simp [sliceBounds,HT.sIx]
  | some i =>
   simp only [sliceBounds,HT.sIx,Option.getD_none,show (1:Int)>0 by decide,if_true]
   by_cases h:i<0
   ·simp only [h,if_true] <;> omega
   ·simp only [h,if_false] <;> omega
 ·cases hi with
  | none=>simp [sliceBounds,HT.sIx]
  | some i =>
   simp only [sliceBounds,HT.sIx,Option.getD_none,show (1:Int)>0 by decide,if_true]
   by_cases h:i<0
   ·simp only [h,if_true] <;> omega
   ·simp only [h,if_false] <;> omega
theorem slicePick_cut (its:List Value) (lo hi:Option Int):slicePick its.toArray lo hi none=((its.drop (HT.sIx its.length 0 lo)).take (HT.sIx its.length its.length hi - HT.sIx its.length 0 lo)).toArray:=by
 obtain ⟨h1,h2,h3⟩:=slice_bounds lo hi its.toArray.size
 unfold slicePick
 rw [h1,h2,h3]
 simp only [sliceRange_one,pick_run,List.size_toArray] <;> rfl
noncomputable def rSlL (K:W.Frag):V→Option Int→Option Int→Hp→VK→Prop:=fun x lo hi H Q=>∃ a xs,x=.ref a∧SqL K H a xs∧∀ p,H p=none→Q (.ref p) (upd H p (.lst (cutV xs lo hi)))
theorem sl_list:SlR X (rSlL X.K):=by
 intro pins s σ H x v vl vu lo hi sl Q I rx hs pl pu h
 obtain ⟨a,xs,rfl,hx,q⟩:=h
 cases rx
 obtain ⟨its,r,ht,hz⟩:=I.list hx
 have hlen:=r.length
 refine ⟨"list",_,slot_list_getitem.lookup,ht.isList.typeIs,?_⟩
 refine wpAny_getItem_list_slice ht.isList hs pl pu .none (by simp) ?_ (by rw [List.size_toArray] <;> omega)
 rw [slicePick_cut,← hlen]
 refine ⟨.ref s.heap.objs.size,_,I.laid (t':=s.toks) (o:=.lst (cutV xs lo hi)) (fun b ob q=>Heap.get?_push_of_some _ q) (Nat.le_refl _) ?_,rfl,q _ (I.hok.fresh (Nat.le_refl _))⟩
 exact ⟨Nat.le_trans (cutV_length xs lo hi) hz,_,0,(r.drop (HT.sIx xs.length 0 lo)).take (HT.sIx xs.length xs.length hi - HT.sIx xs.length 0 lo),Heap.get?_push_size _ rfl⟩
noncomputable def flatV:V→Bool
 | .non=>true
 | .bl _=>true
 | .int _=>true
 | .str _=>true
 | _=>false
noncomputable def eqV:V→V→Bool
 | .non,.non=>true
 | .bl a,.bl b=>a == b
 | .bl a,.int b=>(if a then 1 else 0) == b
 | .int a,.bl b=>a == (if b then 1 else 0)
 | .int a,.int b=>a == b
 | .str a,.str b=>a == b
 | _,_=>false
theorem eqAt_V {A:Around}{s:Shared}{y x:V}{u v:Value} (ry:RelV y u) (rx:RelV x v) (fy:flatV y=true) (fx:flatV x=true):SeqAt.EqAt A s u v (eqV y x):=by
 cases y with
 | non =>
  cases ry
  cases x with
  | non=>cases rx; exact SeqAt.EqAt.same _
  | bl b=>cases rx; exact SeqAt.EqAt.none_bool b
  | int b=>obtain ⟨t,rfl⟩:=rx; exact SeqAt.EqAt.none_int b t
  | str b=>obtain ⟨t,rfl⟩:=rx; exact SeqAt.EqAt.none_str b t
  | _=>exact absurd (show false=true from fx) Bool.false_ne_true
 | bl a =>
  cases ry
  cases x with
  | non=>cases rx; exact SeqAt.EqAt.bool_none a
  | bl b=>cases rx; exact SeqAt.EqAt.bool_bool a b
  | int b=>obtain ⟨t,rfl⟩:=rx; exact SeqAt.EqAt.bool_int a b t
  | str b=>obtain ⟨t,rfl⟩:=rx; exact SeqAt.EqAt.bool_str a b t
  | _=>exact absurd (show false=true from fx) Bool.false_ne_true
 | int a =>
  obtain ⟨t',rfl⟩:=ry
  cases x with
  | non=>cases rx; exact SeqAt.EqAt.int_none a t'
  | bl b=>cases rx; exact SeqAt.EqAt.int_bool a t' b
  | int b=>obtain ⟨t,rfl⟩:=rx; exact SeqAt.EqAt.int_int a t' b t
  | str b=>obtain ⟨t,rfl⟩:=rx; exact SeqAt.EqAt.int_str a t' b t
  | _=>exact absurd (show false=true from fx) Bool.false_ne_true
 | str a =>
  obtain ⟨t',rfl⟩:=ry
  cases x with
  | non=>cases rx; exact SeqAt.EqAt.str_none a t'
  | bl b=>cases rx; exact SeqAt.EqAt.str_bool a t' b
  | int b=>obtain ⟨t,rfl⟩:=rx; exact SeqAt.EqAt.str_int a t' b t
  | str b=>obtain ⟨t,rfl⟩:=rx; exact SeqAt.EqAt.str_str a t' b t
  | _=>exact absurd (show false=true from fx) Bool.false_ne_true
 | _=>exact absurd (show false=true from fy) Bool.false_ne_true
noncomputable def eqU (x:V) (u:Value):Bool:=match u with
 | .none=>eqV .non x
 | .bool b=>eqV (.bl b) x
 | .int i _=>eqV (.int i) x
 | .str z _=>eqV (.str z) x
 | _=>false
theorem eqU_of {x y:V}{u:Value} (r:RelV y u) (f:flatV y=true):eqU x u=eqV y x:=by
 cases y with
 | non=>cases r; rfl
 | bl b=>cases r; rfl
 | int i=>obtain ⟨t,rfl⟩:=r; rfl
 | str z=>obtain ⟨t,rfl⟩:=r; rfl
 | _=>exact absurd (show false=true from f) Bool.false_ne_true
theorem any_eqU {x:V}:∀ {xs:List V}{us:List Value},Vals xs us→xs.all flatV=true→us.any (eqU x)=xs.any fun y=>eqV y x
 | _,_,.nil,_=>rfl
 | y::xs,u::us,.cons r t,f=>by
  rw [List.all_cons,Bool.and_eq_true] at f
  rw [List.any_cons,List.any_cons,eqU_of r f.1,any_eqU t f.2]
theorem mem_eqAt {A:Around}{s:Shared}{x:V}{v:Value} (rx:RelV x v) (fx:flatV x=true):∀ {xs:List V}{us:List Value},Vals xs us→xs.all flatV=true→∀ u∈us,SeqAt.EqAt A s u v (eqU x u)
 | _,_,.nil,_=>fun u hu=>by cases hu
 | y::xs,u::us,.cons r t,f=>fun u' hu=>by
  rw [List.all_cons,Bool.and_eq_true] at f
  rcases List.mem_cons.mp hu with rfl | hu
  ·rw [eqU_of r f.1]; exact eqAt_V r rx f.1 fx
  ·exact mem_eqAt rx fx t f.2 u' hu
noncomputable def inV (x:V) (xs:List V):Bool:=xs.any fun y=>eqV y x
noncomputable def rIn (K:W.Frag) (neg:Bool):R2:=fun x y H Q=>∃ p xs,y=.ref p∧(SqL K H p xs∨SqT K H p xs)∧flatV x=true∧xs.all flatV=true∧Q (.bl (if neg then !inV x xs else inV x xs)) H
theorem op_in_seq:OpR X (compareOp .In) (rIn X.K false):=by
 intro pins s σ H x y v u Q I rx ry h
 obtain ⟨p,xs,rfl,hq,fx,fs,q⟩:=h
 cases ry
 rcases hq with hq | hq
 ·obtain ⟨its,r,pl,hz⟩:=I.list hq
  refine SeqAt.in_listAt (eqU x) pl.isList (fun w hw=>mem_eqAt rx fx r fs w (by simpa using hw)) ⟨.bl _,H,I,rfl,?_⟩
  rw [show its.toArray.any (eqU x)=its.any (eqU x) by simp,any_eqU r fs]
  exact q
 ·obtain ⟨its,r,pl,hz⟩:=I.tuple hq
  refine SeqAt.in_tupleAt (eqU x) pl (fun w hw=>mem_eqAt rx fx r fs w (by simpa using hw)) ⟨.bl _,H,I,rfl,?_⟩
  rw [show its.toArray.any (eqU x)=its.any (eqU x) by simp,any_eqU r fs]
  exact q
theorem op_notIn_seq:OpR X (compareOp .NotIn) (rIn X.K true):=by
 intro pins s σ H x y v u Q I rx ry h
 obtain ⟨p,xs,rfl,hq,fx,fs,q⟩:=h
 cases ry
 rcases hq with hq | hq
 ·obtain ⟨its,r,pl,hz⟩:=I.list hq
  refine SeqAt.notIn_listAt (eqU x) pl.isList (fun w hw=>mem_eqAt rx fx r fs w (by simpa using hw)) ⟨.bl _,H,I,rfl,?_⟩
  rw [show its.toArray.any (eqU x)=its.any (eqU x) by simp,any_eqU r fs]
  exact q
 ·obtain ⟨its,r,pl,hz⟩:=I.tuple hq
  refine SeqAt.notIn_tupleAt (eqU x) pl (fun w hw=>mem_eqAt rx fx r fs w (by simpa using hw)) ⟨.bl _,H,I,rfl,?_⟩
  rw [show its.toArray.any (eqU x)=its.any (eqU x) by simp,any_eqU r fs]
  exact q
theorem call_len_seq:CallR X (.builtin "len") (fun xs H Q=>∃ p ys,xs=[.ref p]∧(SqL X.K H p ys∨SqT X.K H p ys)∧Q (.int ys.length) H):=by
 intro pins s σ H xs us Q I r h
 obtain ⟨p,ys,rfl,hq,q⟩:=h
 obtain ⟨u,rfl,rx⟩:=vals1 r
 cases rx
 have hn:=line63
 rcases hq with hq | hq
 ·obtain ⟨its,r',pl,hz⟩:=I.list hq
  have hlen:=r'.length
  exact Calls.call_len_list pl.isList (by simp only [List.size_toArray] <;> omega) ⟨.int ys.length,H,I.tok _,⟨s.toks+1,by rw [List.size_toArray,hlen]⟩,q⟩
 ·obtain ⟨its,r',pl,hz⟩:=I.tuple hq
  have hlen:=r'.length
  exact len_tuple pl (by simp only [List.size_toArray] <;> omega) ⟨.int ys.length,H,I.tok _,⟨s.toks+1,by rw [List.size_toArray,hlen]⟩,q⟩
theorem call_len_str:CallR X (.builtin "len") (fun xs H Q=>∃ z,xs=[.str z]∧z.length≤sizeLine∧Q (.int z.length) H):=by
 intro pins s σ H xs us Q I r h
 obtain ⟨z,rfl,hz,q⟩:=h
 obtain ⟨u,rfl,t,rfl⟩:=vals1 r
 have hn:=line63
 exact len_str (by omega) ⟨.int z.length,H,I.tok _,⟨_,rfl⟩,q⟩
theorem call_list_of:CallR X (.type "list") (fun xs H Q=>∃ p ys,xs=[.ref p]∧(SqL X.K H p ys∨SqT X.K H p ys)∧∀ l,H l=none→Q (.ref l) (upd H l (.lst ys))):=by
 intro pins s σ H xs us Q I r h
 obtain ⟨p,ys,rfl,hq,q⟩:=h
 obtain ⟨u,rfl,rx⟩:=vals1 r
 cases rx
 have fin:∀ (its:List Value),Vals ys its→ys.length≤sizeLine→∀ (h':Heap) (c':Nat),(∀ b o',s.heap.get? b=some o'→h'.get? b=some o') →
   h'.get? s.heap.objs.size=some { cls:=.type "list",dict:=none,data:=.seq its.toArray c',slots:=#[] }→EP X pins σ Q (.ref s.heap.objs.size) { s with heap:=h' }:=fun its r' hz h' c' kp e =>
  ⟨.ref s.heap.objs.size,_,I.laid (t':=s.toks) kp (Nat.le_refl _) (show ObjOk X.prog X.w _ h' _ (.lst ys) from ⟨hz,its,c',r',e⟩),rfl,q _ (I.hok.fresh (Nat.le_refl _))⟩
 rcases hq with hq | hq
 ·obtain ⟨its,r',pl,hz⟩:=I.list hq
  have hlen:=r'.length
  obtain ⟨o,ho,hc,n,hd⟩:=pl.isList
  exact call_list_seq p (.inl rfl) ho hc hd (fun h' c' kp e=>fin its r' hz h' c' kp e) (by simp only [List.size_toArray] <;> omega)
 ·obtain ⟨its,r',pl,hz⟩:=I.tuple hq
  have hlen:=r'.length
  obtain ⟨o,ho,hc,n,hd⟩:=pl
  exact call_list_seq p (.inr rfl) ho hc hd (fun h' c' kp e=>fin its r' hz h' c' kp e) (by simp only [List.size_toArray] <;> omega)
theorem call_tuple_of:CallR X (.type "tuple") (fun xs H Q=>∃ p ys,xs=[.ref p]∧((SqL X.K H p ys∧∀ l,H l=none→Q (.ref l) (upd H l (.tup ys)))∨(SqT X.K H p ys∧Q (.ref p) H))):=by
 intro pins s σ H xs us Q I r h
 obtain ⟨p,ys,rfl,h⟩:=h
 obtain ⟨u,rfl,rx⟩:=vals1 r
 cases rx
 rcases h with ⟨hq,q⟩ | ⟨hq,q⟩
 ·obtain ⟨its,r',pl,hz⟩:=I.list hq
  have hlen:=r'.length
  refine call_tuple_list pl.isList (fun h' kp=>?_) (by simp only [List.size_toArray] <;> omega)
  have I1:Inv X pins σ H { s with heap:=h' }:=I.kept (t':=s.toks) kp
  have I2:Inv X pins σ (upd H h'.objs.size (.tup ys)) { s with heap:=h'.push { cls:=.type "tuple",data:=.seq its.toArray } } :=
   I1.laid (t':=s.toks) (fun b o e=>Heap.get?_push_of_some _ e) (Nat.le_refl _) (show ObjOk X.prog X.w _ _ _ (.tup ys) from ⟨hz,its,r',IsTup.new _ _⟩)
  exact ⟨.ref h'.objs.size,_,I2,rfl,q _ (I1.hok.fresh (Nat.le_refl _))⟩
 ·obtain ⟨its,r',pl,hz⟩:=I.tuple hq
  exact call_tuple_same pl ⟨.ref p,H,I,rfl,q⟩
def tyV (K:W.Frag) (T:String) (x:V) (H:Hp):Prop:=match x with
 | .str _=>T = "str"
 | .int _=>T = "int"
 | .ref p=>(T = "list"∧∃ xs,SqL K H p xs)∨(T = "tuple"∧∃ o,K.lookup p=some o∧o.cls=.type "tuple"∧o.dict=none) ∨
   (T = "dict"∧((∃ kvs,H p=some (.dK kvs))∨∃ kvs,H p=some (.dT kvs)))∨(T = "set"∧∃ S n,H p=some (.set S n))
 | _=>False
theorem tyV_is {pins:List (Addr × Obj)}{σ:St}{H:Hp}{s:Shared}{T:String}{x:V}{v:Value} (I:Inv X pins σ H s) (r:RelV x v) (ty:tyV X.K T x H) :
  s.TypeIs v T∧∀ a,v=.ref a→∃ ob,s.heap.get? a=some ob∧ob.dict=none:=by
 cases x with
 | str z =>
  obtain ⟨t,rfl⟩:=r
  cases (show T = "str" from ty)
  exact ⟨typeIs_str s z t,fun _ e=>nomatch e⟩
 | int i =>
  obtain ⟨t,rfl⟩:=r
  cases (show T = "int" from ty)
  exact ⟨typeIs_int s i t,fun _ e=>nomatch e⟩
 | ref p =>
  cases r
  rcases ty with ⟨rfl,xs,hq⟩ | ⟨rfl,o,hk,hc,hd⟩ | ⟨rfl,hk⟩ | ⟨rfl,S,n,hk⟩
  ·obtain ⟨its,_,pl,_⟩:=I.list hq
   refine ⟨pl.isList.typeIs,fun a e=>?_⟩
   cases e
   obtain ⟨o,n,e,c,hd,_⟩:=pl
   exact ⟨o,e,hd⟩
  ·refine ⟨⟨o,I.kIn p o hk,hc⟩,fun a e=>?_⟩
   cases e
   exact ⟨o,I.kIn _ o hk,hd⟩
  ·have z:∃ o,s.heap.get? p=some o∧o.ExactDict:=by
    rcases hk with ⟨kvs,hk⟩ | ⟨kvs,hk⟩
    ·obtain ⟨_,_,_,_,o,_,_,e,ex,_⟩:=I.hok p _ hk
     exact ⟨o,e,ex⟩
    ·obtain ⟨_,_,_,_,o,_,_,e,ex,_⟩:=I.hok p _ hk
     exact ⟨o,e,ex⟩
   obtain ⟨o,e,ex⟩:=z
   refine ⟨⟨o,e,ex.1⟩,fun a e2=>?_⟩
   cases e2
   exact ⟨o,e,ex.2.1⟩
  ·obtain ⟨o,_,_,_,e,ex,_⟩:=I.hok p _ hk
   refine ⟨⟨o,e,ex.1⟩,fun a e2=>?_⟩
   cases e2
   exact ⟨o,e,ex.2.1⟩
 | _=>exact False.elim ty
noncomputable def tBM0 (K:W.Frag) (T:String) (r:V→List V→Hp→VK→Prop) (to:TE):TE:=fun σ H Q=>to σ H fun x H1=>tyV K T x H1∧r x [] H1 Q
noncomputable def tBM (K:W.Frag) (T:String) (r:V→List V→Hp→VK→Prop) (to:TE) (t:TA):TE:=fun σ H Q=>to σ H fun x H1=>tyV K T x H1∧t σ H1 fun xs H2=>r x xs H2 Q
variable {o e:Expr}{es:List Expr}{to:TE}{t:TA}{name:Str}{apos cpos:Pos}{T id:String}{r:V→List V→Hp→VK→Prop}
theorem pe_bm0 (pa:PlainAttrs T) (slot:Slot T name id) (hty:typeOf (.builtin id)=pure (.type "method_descriptor")) (hm:MtR X id r) (ho:PE X o to)
  (hbase:attributeBase o name X.env (eval o X.env)=eval o X.env:=by rfl) (hline:(apos.endLine == cpos.line)=true:=by rfl):PE X (.Call (.Attribute o name apos) [] [] cpos) (tBM0 X.K T r to):=by
 intro pins s σ H Q I h
 refine wpAny_Call_method0_late hbase hline (thn (ho pins s σ H _ I h) fun v s1 ⟨x,H1,I1,r1,ty,q1⟩=>?_)
 obtain ⟨h1,h2⟩:=tyV_is I1 r1 ty
 exact ⟨T,id,pa,slot,hty,h1,h2,Calls.callWith_builtin rfl (PySem.evalArgs_none (hm pins s1 σ H1 x [] v [] Q I1 r1 .nil q1))⟩
theorem pe_bm (pa:PlainAttrs T) (slot:Slot T name id) (hty:typeOf (.builtin id)=pure (.type "method_descriptor")) (hm:MtR X id r) (ho:PE X o to) (ha:PA X (e::es) t)
  (hbase:attributeBase o name X.env (eval o X.env)=eval o X.env:=by rfl)
  (hfew:((backTo cpos (starEach (e::es) X.env)).all (fun x=>!x.1)&&(backToKw cpos (keywordEach [] X.env)).all (fun x=>x.1.isSome)
   && decide ((e::es).length+([]:List Keyword).length+(if ([]:List Keyword).isEmpty then 0 else 1)<30))=true:=by rfl)
  (hline:(apos.endLine == cpos.line)=true:=by rfl) (hs:starEach (e::es) X.env=(false,eval e X.env)::starEach es X.env:=by rfl) (hplain:(backTo cpos (starEach es X.env)).any (·.1)=false:=by rfl) :
  PE X (.Call (.Attribute o name apos) (e::es) [] cpos) (tBM X.K T r to t):=by
 intro pins s σ H Q I h
 refine wpAny_Call_method_late hbase hfew hline rfl (thn (ho pins s σ H _ I h) fun v s1 ⟨x,H1,I1,r1,ty,q1⟩=>?_)
 obtain ⟨h1,h2⟩:=tyV_is I1 r1 ty
 refine ⟨T,id,pa,slot,hty,h1,h2,?_⟩
 have hA:=ha cpos pins s1 σ H1 _ I1 q1
 rw [hs] at hA ⊢
 refine Calls.callWith_builtin (by show (false||(backTo cpos (starEach es X.env)).any (·.1))=false; rw [hplain] <;> rfl) (Calls.evalArgs_plain ?_)
 exact thn hA fun us s2 ⟨vs,H2,I2,r2,q2⟩=>hm pins s2 σ H2 x vs v us Q I2 r1 r2 q2
end
def MtM (X:Cx) (id:String) (r:V→List V→Hp→VK→Prop):Prop :=
 ∀ (pins:List (Addr × Obj)) (s:Shared) (σ:St) (H:Hp) (x:V) (xs:List V) (v:Value) (us:List Value) (Q:VK),Inv X pins σ H s→RelV x v→Vals xs us→r x xs H Q →
  wpAny (model X.prog X.w) X.A (call (.builtin id) (v::us)) (EP X pins σ Q) X.xe s
theorem Vals.cinv {x:V}{xs:List V}:∀ {us:List Value},Vals (x::xs) us→∃ u r,us=u::r∧RelV x u∧Vals xs r
 | _,.cons r t=>⟨_,_,rfl,r,t⟩
theorem Vals.ninv:∀ {us:List Value},Vals [] us→us=[]
 | _,.nil=>rfl
theorem Vals.one {x:V}{us:List Value} (h:Vals [x] us):∃ u,us=[u]∧RelV x u:=by
 obtain ⟨u,r,rfl,a,t⟩:=h.cinv
 rw [t.ninv]
 exact ⟨u,rfl,a⟩
theorem Vals.two {x y:V}{us:List Value} (h:Vals [x,y] us):∃ u v,us=[u,v]∧RelV x u∧RelV y v:=by
 obtain ⟨u,r,rfl,a,t⟩:=h.cinv
 obtain ⟨v,rfl,b⟩:=t.one
 exact ⟨u,v,rfl,a,b⟩
theorem Vals.zero:∀ {us:List Value},Vals [] us→us=[]
 | _,.nil=>rfl
theorem Vals.dropLast {xs:List V}{us:List Value} (h:Vals xs us):Vals xs.dropLast us.dropLast:=by
 induction h with
 | nil=>exact .nil
 | cons r t ih =>
  cases t with
  | nil=>exact .nil
  | cons q t'=>exact .cons r ih
theorem erase_last {α:Type} (l:List α):l.eraseIdx (l.length - 1)=l.dropLast:=by
 induction l with
 | nil=>rfl
 | cons a r ih =>
  cases r with
  | nil=>rfl
  | cons b r =>
   have e:(a::b::r).length - 1=((b::r).length - 1)+1:=by
    have h1:(a::b::r).length=r.length+2:=rfl
    have h2:(b::r).length=r.length+1:=rfl
    omega
   rw [e,List.eraseIdx_cons_succ,ih]
   all_goals rfl
section
variable {X:Cx}{pins:List (Addr × Obj)}{σ:St}{H:Hp}{s:Shared}{l b:Addr}{xs ys zs:List V}
theorem Inv.lset {its its':List Value}{n:Nat}{f:Array Value→Array Value}{t':Nat} (I:Inv X pins σ H s) (hH:H l=some (.lst xs))
  (e:s.heap.get? l=some { cls:=.type "list",data:=.seq its.toArray n }) (hf:f its.toArray=its'.toArray) (hv:Vals ys its') (hz:ys.length≤sizeLine) :
  Inv X pins σ (upd H l (.lst ys)) { s with heap:=s.heap.update l (Obj.mapSeq f),toks:=t' }:=by
 have q:=PySem.IsL.update e f
 rw [hf] at q
 refine I.write (x:=l) (e:=l) (by rw [hH]; exact trivial) (.inl rfl) (fun b' u hb hu=>(Heap.get?_update_other s.heap (Obj.mapSeq f) (Ne.symm hb)).trans hu) ⟨_,q⟩ ?_
 exact ⟨hz,its',_,hv,q⟩
theorem Inv.lnew {its:List Value}{t':Nat} (I:Inv X pins σ H s) (hv:Vals ys its) (hz:ys.length≤sizeLine) :
  Inv X pins σ (upd H s.heap.objs.size (.lst ys)) { s with heap:=s.heap.push { cls:=.type "list",data:=.seq its.toArray },toks:=t' } :=
 I.laid (fun _ _ q=>Heap.get?_push_of_some _ q) (Nat.le_refl _) ⟨hz,its,0,hv,Heap.get?_push_size _ rfl⟩
theorem Inv.fresh (I:Inv X pins σ H s):H s.heap.objs.size=none:=I.hok.fresh (Nat.le_refl _)
theorem Inv.lstM (I:Inv X pins σ H s) (hH:H l=some (.lst xs)):xs.length≤sizeLine∧∃ (its:List Value) (n:Nat),Vals xs its∧xs.length=its.length∧s.heap.get? l=some { cls:=.type "list",data:=.seq its.toArray n }:=by
 obtain ⟨z,its,n,r,e⟩:=I.hok l _ hH
 exact ⟨z,its,n,r,r.length,e⟩
theorem notLongL {n:Nat} (h:n≤sizeLine):Builtin.List.listTooLong n=false:=by
 unfold Builtin.List.listTooLong
 exact decide_eq_false (by omega)
end
section
variable {X:Cx}
noncomputable def rAppend:V→List V→Hp→VK→Prop:=fun x vs H Q=>∃ l xs y,x=.ref l∧vs=[y]∧H l=some (.lst xs)∧xs.length<sizeLine∧Q .non (upd H l (.lst (xs++[y])))
theorem mt_append:MtM X "list.append" rAppend:=by
 intro pins s σ H x vs v us Q I rx rv h
 obtain ⟨l,xs,y,rfl,rfl,hH,hz,q⟩:=h
 cases rx
 obtain ⟨u,rfl,ru⟩:=rv.one
 obtain ⟨z,its,n,r,hl,e⟩:=I.lstM hH
 refine call_meets F.slot_list_append ⟨_,e,rfl⟩ F.entry_list_append (F.args_list_append_2 _ _) (PySem.list_append l its.toArray n u (by rw [List.size_toArray]; omega)) ⟨e,?_⟩
 refine ⟨.non,_,I.lset (its':=its++[u]) hH e (by simp) (r.append (.cons ru .nil)) ?_,rfl,q⟩
 rw [List.length_append,List.length_singleton]
 omega
noncomputable def rExtend:V→List V→Hp→VK→Prop:=fun x vs H Q=>∃ l b xs zs,x=.ref l∧vs=[.ref b]∧H l=some (.lst xs)∧H b=some (.lst zs)∧xs.length+zs.length≤sizeLine∧Q .non (upd H l (.lst (xs++zs)))
theorem mt_extend:MtM X "list.extend" rExtend:=by
 intro pins s σ H x vs v us Q I rx rv h
 obtain ⟨l,b,xs,zs,rfl,rfl,hH,hB,hz,q⟩:=h
 cases rx
 obtain ⟨u,rfl,ru⟩:=rv.one
 cases ru
 obtain ⟨z,its,n,r,hl,e⟩:=I.lstM hH
 obtain ⟨z2,its2,n2,r2,hl2,e2⟩:=I.lstM hB
 have hsz:its.toArray.size+its2.toArray.size≤sizeLine:=by rw [List.size_toArray,List.size_toArray]; omega
 have hlong:¬ (!its.toArray.isEmpty&&Builtin.List.listTooLong (its.toArray.size+its2.toArray.size))=true:=by
  rw [notLongL hsz,Bool.and_false]
  exact Bool.false_ne_true
 refine call_meets F.slot_list_extend ⟨_,e,rfl⟩ F.entry_list_extend (F.args_list_extend_2 _ _)
  (AutoSeq1.list_extend_list_list_0 l its.toArray n b its2.toArray n2 hlong (by rw [List.size_toArray]; omega) (by omega)) ⟨e,e2,?_⟩
 refine ⟨.non,_,I.lset (its':=its++its2) hH e (by simp) (r.append r2) ?_,rfl,q⟩
 rw [List.length_append]
 omega
noncomputable def rPop:V→List V→Hp→VK→Prop:=fun x vs H Q=>∃ l xs y,x=.ref l∧vs=[]∧H l=some (.lst xs)∧xs[xs.length - 1]?=some y∧Q y (upd H l (.lst xs.dropLast))
theorem mt_pop:MtM X "list.pop" rPop:=by
 intro pins s σ H x vs v us Q I rx rv h
 obtain ⟨l,xs,y,rfl,rfl,hH,hy,q⟩:=h
 cases rx
 have hus:=rv.zero
 subst hus
 obtain ⟨z,its,n,r,hl,e⟩:=I.lstM hH
 obtain ⟨u,hu,ru⟩:=r.get hy
 have hy':its.toArray[its.toArray.size - 1]?=some u:=by
  show its.toArray[its.length - 1]?=some u
  rw [← Array.getElem?_toList,← hl]
  exact hu
 refine call_meets F.slot_list_pop ⟨_,e,rfl⟩ F.entry_list_pop (F.args_list_pop_1 _) (MeetsSeq.list_pop_last l its.toArray n u hy' (by rw [List.size_toArray]; omega)) ⟨e,?_⟩
 refine ⟨y,_,I.lset (its':=its.dropLast) hH e ?_ r.dropLast ?_,ru,q⟩
 ·show its.toArray.eraseIdxIfInBounds (its.toArray.size - 1)=its.dropLast.toArray
  rw [List.size_toArray,List.eraseIdxIfInBounds_toArray,erase_last]
 ·rw [List.length_dropLast]
  omega
noncomputable def rCat:R2:=fun x y H Q=>∃ l b xs zs,x=.ref l∧y=.ref b∧H l=some (.lst xs)∧H b=some (.lst zs)∧xs.length+zs.length≤sizeLine∧∀ p,H p=none→Q (.ref p) (upd H p (.lst (xs++zs)))
theorem op_cat:OpR X (binaryOp .Add) rCat:=by
 intro pins s σ H x y v u Q I rx ry h
 obtain ⟨l,b,xs,zs,rfl,rfl,hH,hB,hz,q⟩:=h
 cases rx
 cases ry
 obtain ⟨z,its,n,r,hl,e⟩:=I.lstM hH
 obtain ⟨z2,its2,n2,r2,hl2,e2⟩:=I.lstM hB
 refine PySem.P.add_list e e2 ?_ (by rw [List.size_toArray,List.size_toArray]; omega)
 have ea:its.toArray++its2.toArray=(its++its2).toArray:=by simp
 rw [ea]
 exact ⟨.ref _,_,I.lnew (t':=s.toks) (r.append r2) (by rw [List.length_append]; omega),rfl,q _ I.fresh⟩
end
end L2
namespace Att
open PySem PySem.W PySem.Calls PyProof.Rows
theorem ints_of_wellAll {P:Params}{h:Heap}:∀ (ns:List Int) (vs:List Value),WellAll P h vs (ns.map WData.int)→IntsAre vs ns:=by
 intro ns
 induction ns with
 | nil =>
  intro vs w
  rw [List.map_nil] at w
  cases w
  exact .nil
 | cons n ns ih =>
  intro vs w
  rw [List.map_cons] at w
  cases w with
  | cons a b =>
   cases a
   exact .cons _ _ (ih _ b)
theorem script_of {l:OpenLaw}{n:Nat} (hn:l.most=some n) {P:Params}{h:Heap}{args:List WData}{vals:List Value}
  (hpre:l.row.toRowW.claim.pre args=true) (hwl:WellAll P h vals args) :
  ∃ a vs ns,vals=[Value.ref a]∧args=[WData.list (ns.map WData.int)]∧h.get? a=some { cls:=.type "list",data:=.seq vs.toArray }∧IntsAre vs ns∧ns.length≤n:=by
 have hsh:WShape.hasAll [] args [.list .int]=true:=(pre_splitW hpre).1
 have hc:l.pre.holds [] { args:=args }=true:=(pre_splitW hpre).2
 obtain ⟨d,r,rfl,h1,h2⟩:=hasAllW_cons hsh
 obtain rfl:=hasAllW_nil h2
 obtain ⟨xs,rfl,h3⟩:=hasW_list h1
 obtain ⟨ns,rfl⟩:=items_int h3
 have hlen:ns.length≤n:=by
  unfold OpenLaw.pre at hc
  have h4:(WTm.not (.lt (.lit (.int (n:Int))) (.len (.arg 0)))).holds [] { args:=[.list (ns.map .int)] }=true:=by
   have h4:=(holds_andW hc).1
   rw [hn] at h4
   exact h4
  have h5:=condW_of h4 (w_not (w_lt w_lit (w_len_list (w_arg rfl))))
  rw [List.length_map] at h5
  refine Nat.le_of_not_lt fun q=>?_
  have q':(n:Int)<((ns.length:Nat):Int):=by omega
  first
   | (rw [decide_eq_true q'] at h5; exact absurd h5 (by decide))
   | (simp at h5; omega)
 cases hwl with
 | cons w1 w2 =>
  cases w2
  cases w1 with
  | list ho hall=>exact ⟨_,_,ns,rfl,rfl,ho,ints_of_wellAll ns _ hall,hlen⟩
theorem post_true (l:OpenLaw) (args:List WData):l.row.toRowW.claim.post args (.bool true) args=true :=
 postW_of (r:=l.row.toRowW) (X:=(true == true))
  (show WShape.has [] (.bool true) .bool=true by first | rfl | decide | simp [WShape.has,WShape.arms,WShape.armsAll])
  (show (WTm.eq .res (.lit (.bool true))).value [] { args:=args,res:=some (.bool true),after:=args }=some (.bool (true == true)) from w_eq_bool (w_res rfl) w_lit) rfl
theorem attach_call {l:OpenLaw}{n:Nat}{q:Program}{loose:List Str}{XP:(Str→Option Value)→Heap→Prop}{YP:World→Heap→Prop}{d:DefRec}
  (hn:l.most=some n) (hdf:d.params.defaults=[])
  (call:∀ (w:World) (s₀ s₁:Shared) (mg mb:Str→Option Value) (fa:Addr) (o:Obj) (pm cd doc:Value) (a:Addr) (vs:List Value) (ns:List Int),
   Ground q loose [] XP w s₀ mg mb s₁.heap→YP w s₁.heap →
   s₁.heap.get? fa=some o→o.data=.func (docDef d.name d.params d.body d.scope pm cd doc)→s₁.heap.CodeRec cd d.name→mg d.name=some (.ref fa) →
   s₁.heap.get? a=some { cls:=.type "list",data:=.seq vs.toArray }→IntsAre vs ns→ns.length≤n→s₁.gens=#[] →
   codeAny (model l.prog w) callerA (.call (.ref fa) ⟨[.ref a],[]⟩) (fun r s'=>r=.ok (.ret (.bool true))∧OldK s₁.heap s'.heap∧s'.os=s₁.os∧AllBare s'.gens) s₁) :
  WalkO q loose XP YP l.row.toRowW d [] (fun f vs=>PySem.call f vs):=by
 intro w s₀ s₁ mg mb G Y fa o pm cd doc dV kV ho hd hcd hD hmg hg args vals as hpre hlay hrd hwl hlo
 obtain rfl:dV=.none:=Dflts.none hD hdf
 obtain rfl:kV=.none:=Dflts.noKw hD
 obtain ⟨a,vs,ns,rfl,rfl,hobj,hints,hlen⟩:=script_of hn hpre hwl
 refine enter_call (codeAny_mono (call w s₀ s₁ mg mb fa o pm cd doc a vs ns G Y ho (fd_plain hd) hcd hmg hobj hints hlen hg) fun r s' hq=>?_)
 obtain ⟨rfl,h2,h3,h4⟩:=hq
 exact ⟨.inl ⟨.bool true,.bool true,[],rfl,fun _=>rfl,.bool true,post_true l _,fun _=>⟨List.Pairwise.nil,fun _ hm=>(nomatch hm)⟩⟩,h2,h3,h4⟩
end Att
namespace L2
open PySem PySem.Spec PyProof.Rows
theorem vals_ints:∀ {vs:List Value}{ns:List Int},IntsAre vs ns→Vals (ns.map V.int) vs
 | _,_,.nil=>.nil
 | _,_,.cons n t h=>.cons ⟨t,rfl⟩ (vals_ints h)
def Only (H:Hp):Prop:=∀ b,H b=none∨∃ o xs,H b=some (.frz o (.lst xs))
theorem law_call {P:Program}{w:World}{K:W.Frag}{mg mb:Str→Option Value}{CX:CXT}{k:Nat}{fa a:Addr}{fd:FuncData}{x:Str}{sp:Sp}{s₁:Shared}{vs:List Value}{ns:List Int}
  (KX:K.In s₁.heap) (hns:s₁.heap.Ns mainGlobals mg) (hb:s₁.heap.Ns builtinsNs mb) (hbb:∀ x:Str,x ≠ "__name__"→mb x=bootBuiltins x) (hlim:s₁.heap.NoLimit) (hg:s₁.gens=#[])
  (ha:s₁.heap.get? a=some { cls:=.type "list",data:=.seq vs.toArray }) (hi:IntsAre vs ns) (hl:ns.length≤sizeLine) (hr:Room k callerA)
  (F:∀ base:Heap,K.In base→base.Ns mainGlobals mg→FnOk P w K mg base CX k fa fd [x] sp) (hbind:∀ (s:Shared) (u:Value),BindsTo s fd ⟨[u],[]⟩ [(x,u)])
  (hsp:∀ H:Hp,Only H→SqL K H a (ns.map V.int)→sp [.ref a] H (fun v _=>v=.bl true) fun _ _ _=>False)
  (hCX:∀ H e s',CX [] H s₁ (fun _ _ _=>False) e s'→False) :
  codeAny (model P w) callerA (.call (.ref fa) ⟨[.ref a],[]⟩) (fun r s'=>r=.ok (.ret (.bool true))∧OldK s₁.heap s'.heap∧s'.os=s₁.os∧AllBare s'.gens) s₁:=by
 have rv:=vals_ints hi
 have lenV:=hi.length
 have core:∀ H:Hp,Only H→SqL K H a (ns.map V.int)→HOk P w H s₁.heap→(∀ b,H b≠none→b=a)→(H a≠none→K.lookup a=none) →
   codeAny (model P w) callerA (.call (.ref fa) ⟨[.ref a],[]⟩) (fun r s'=>r=.ok (.ret (.bool true))∧OldK s₁.heap s'.heap∧s'.os=s₁.os∧AllBare s'.gens) s₁:=by
  intro H hO hS hok hA hK
  have base_of:∀ {b:Addr}{o:Obj},s₁.heap.get? b=some o→H b=none→(hidT s₁.heap H).get? b=some o:=fun e n=>hidT_get e n
  have noA:∀ {b:Addr}{o:Obj}{es:Array DictEntry}{ep:Nat},s₁.heap.get? b=some o→o.data=.dict es ep→H b=none:=fun {b o es ep} e d=>by
   cases q:H b with
   | none=>rfl
   | some u =>
    have e':b=a:=hA b (by rw [q]; simp)
    subst e'
    rw [ha] at e; cases e
    have d':Data.seq vs.toArray _=Data.dict es ep:=d
    cases d'
  have nsK:∀ {b:Addr}{m:Str→Option Value},s₁.heap.Ns b m→(hidT s₁.heap H).Ns b m:=fun {b m} ⟨o,es,ep,e,d,r⟩=>⟨o,es,ep,base_of e (noA e d),d,r⟩
  have hKb:K.In (hidT s₁.heap H):=fun b o e=>base_of (KX b o e) (by
   cases q:H b with
   | none=>rfl
   | some u =>
    have e':b=a:=hA b (by rw [q]; simp)
    subst e'
    rw [hK (by rw [q]; simp)] at e; cases e)
  have hM:Mod K mg (hidT s₁.heap H):=⟨hKb,nsK hns,⟨mb,nsK hb,hbb⟩,let ⟨mc,h1,h2⟩:=hlim; ⟨mc,nsK h1,h2⟩⟩
  have e0:Env0 P w K mg (hidT s₁.heap H) callerA [] s₁ H:=⟨rfl,hM,fun b o e=>of_hidT e,Nat.le_of_eq (hidT_size _ _),trivial,fun b hb=>absurd (show b∈([]:List Addr) from hb) (by simp),hok,.of_eq hg⟩
  refine codeAny_mono ((F _ hKb (nsK hns)).run callerA [] s₁ H ⟨[.ref a],[]⟩ [.ref a] [.ref a] _ _ hr e0 (hbind s₁ (.ref a)) (.cons rfl .nil) (hsp H hO hS)) fun r s' h=>?_
  cases r with
  | error e=>exact (hCX H e s' h).elim
  | ok fl =>
   cases fl with
   | next=>exact False.elim h
   | brk=>exact False.elim h
   | cont=>exact False.elim h
   | ret u =>
    obtain ⟨v,H',os,bare,un,hok',r',q⟩:=h
    have q':v=.bl true:=q
    subst q'
    obtain rfl:u=Value.bool true:=r'
    refine ⟨rfl,OldK.of_keep fun b o e=>?_,os,bare⟩
    cases q:H b with
    | none=>exact un.keep b o e q (by intro z; exact absurd (show b∈([]:List Addr) from z) (by simp)) (by simp)
    | some u =>
     rcases hO b with z | ⟨ob,xs,z⟩
     ·rw [q] at z; cases z
     ·have z2:=un.frzs b ob _ z
      obtain ⟨e1,_⟩:=hok b _ z
      obtain ⟨e2,_⟩:=hok' b _ z2
      rw [e] at e1; cases e1
      exact e2
 cases hk:K.lookup a with
 | some o =>
  have e:=KX a o hk
  rw [ha] at e
  cases e
  refine core (fun _=>none) (fun _=>.inl rfl) (.inr ⟨_,vs.toArray,_,hk,rfl,rfl,rfl,by rw [List.size_toArray,lenV]; exact hl,by simpa using rv⟩) (fun b u z=>by have z':(none:Option HO)=some u:=z; cases z') (fun b z=>absurd rfl z) fun z=>absurd rfl z
 | none =>
  refine core (fun b=>if b=a then some (.frz { cls:=.type "list",data:=.seq vs.toArray } (.lst (ns.map V.int))) else none) (fun b=>?_) (.inl (.inr ⟨{ cls:=.type "list",data:=.seq vs.toArray },if_pos rfl⟩)) (fun b u z=>?_) (fun b z=>?_) fun _=>hk
  ·by_cases hb:b=a
   ·exact .inr ⟨_,_,if_pos hb⟩
   ·exact .inl (if_neg hb)
  ·by_cases hb:b=a
   ·have z':=(if_pos hb).symm.trans z
    cases z'
    subst hb
    exact ⟨ha,by rw [List.length_map]; exact hl,vs,_,rv,ha⟩
   ·have z':=(if_neg hb).symm.trans z
    cases z'
  ·by_cases hb:b=a
   ·exact hb
   ·exact absurd (if_neg hb) z
theorem walk_of {l:W.OpenLaw}{n k:Nat}{q:Program}{loose:List Str}{XP:(Str→Option Value)→Heap→Prop}{YP:World→Heap→Prop}{d:DefRec}{K:Params→W.Frag}{CX:World→CXT}{sp:World→Sp}{x:Str}
  (hn:l.most=some n) (hn2:n≤sizeLine) (hdf:d.params.defaults=[]) (hr:Room k callerA)
  (hY:∀ (w:World) (h:Heap),YP w h→(K w.params).In h)
  (F:∀ (w:World) (mg:Str→Option Value) (fa:Addr) (h:Heap),(K w.params).In h→h.Ns mainGlobals mg→mg d.name=some (.ref fa) →
   ∃ fd:FuncData,(∀ (s:Shared) (u:Value),BindsTo s fd ⟨[u],[]⟩ [(x,u)]) ∧
    ∀ base:Heap,(K w.params).In base→base.Ns mainGlobals mg→FnOk l.prog w (K w.params) mg base (CX w) k fa fd [x] (sp w))
  (hsp:∀ (w:World) (H:Hp) (a:Addr) (ns:List Int),ns.length≤n→Only H→SqL (K w.params) H a (ns.map V.int)→sp w [.ref a] H (fun v _=>v=.bl true) fun _ _ _=>False)
  (hCX:∀ (w:World) (H:Hp) (s:Shared) (e:Value) (s':Shared),CX w [] H s (fun _ _ _=>False) e s'→False) :
  W.WalkO q loose XP YP l.row.toRowW d [] (fun f vs=>PySem.call f vs):=by
 refine Att.attach_call hn hdf fun w s₀ s₁ mg mb fa o pm cd doc a vs ns G Y ho hd hcd hmg hobj hints hlen hg=>?_
 have KX:=hY w _ Y
 obtain ⟨fd,hb,hF⟩:=F w mg fa _ KX G.T.g hmg
 exact law_call KX G.T.g G.T.b G.T.builtins G.T.nolimit hg hobj hints (Nat.le_trans hlen hn2) hr hF hb (fun H hO hS=>hsp w H a ns hlen hO hS) fun H e s'=>hCX w H s₁ e s'
noncomputable def defArgs (s:Stmt):Arguments:=match s with
 | .FunctionDef _ a _ _ _ _ _ _ _ _=>a
 | _=>{ posonlyargs:=[],args:=[],vararg:=none,kwonlyargs:=[],kw_defaults:=[],kwarg:=none,defaults:=[] }
noncomputable def zAN (s:Stmt):List Stmt:=match s with
 | .FunctionDef _ _ b _ _ _ _ _ _ _=>b
 | _=>[]
noncomputable def zA3 (s:Stmt):Scope:=match s with
 | .FunctionDef _ _ _ _ _ _ sc _ _ _=>sc
 | _=>{ kind:=.function,names:=[],isGenerator:=false,isCoroutine:=false }
noncomputable abbrev CX0:CXT:=fun _ _ _ _ _ _=>False
noncomputable abbrev E0:XK:=fun _ _ _=>False
theorem pass0 {X:Cx}:Passes CX0 X E0:=fun _ _ _ _ _ _ _ h=>h.elim
structure Fun (K:W.Frag) (x qual:Str) (st:Stmt) (f:Addr) (fd:FuncData):Prop where
 ex:∃ (oc:Value) (od:Option Addr) (kV doc pm:Value) (an:Option Addr) (cdv ct:Value) (osl:Array (Option Value)),
  fd=W.fnOf x qual (defArgs st) (zAN st) (zA3 st) .none kV doc pm an cdv ct∧K.lookup f=some ⟨oc,od,.func fd,osl⟩∧W.codeIn K cdv qual=true
 kp:W.keepIn K (.ref f)=true
section
variable {P:Program}{w:World}{K:W.Frag}{mg:Str→Option Value}{base:Heap}
theorem Fun.ok {x qual:Str}{st:Stmt}{f:Addr}{fd:FuncData}{N ps:List Str}{k:Nat}{sp:Sp} (F:Fun K x qual st f fd) (S:FnScope N ps (zA3 st)) (len:∀ vs H Q E,sp vs H Q E→vs.length=ps.length)
  (hbody:∀ (cdv:Value) (A:Around) (outer:List Env) (s:Shared) (H:Hp) (vs:List V) (Q:VK) (E:XK),Room k (A.deeper (envOfC qual (zA3 st) s.heap.objs.size f cdv))→sp vs H Q E →
   ∃ t,PSs (cxOf CX0 P w K mg base N qual (zA3 st) f cdv A outer s H E).nox (zAN st) t∧t { nx:=fun _ H'=>Q .non H',rt:=Q } (start N vs) H):FnOk P w K mg base CX0 (k+1) f fd ps sp:=by
 obtain ⟨oc,od,kV,doc,pm,an,cdv,ct,osl,rfl,lk,hcd⟩:=F.ex
 refine fn_of lk hcd S len fun A outer s H vs Q E hr hsp=>?_
 obtain ⟨t,h,q⟩:=hbody cdv A outer s H vs Q E hr hsp
 exact ⟨t,h.nox,q⟩
theorem Fun.binds {x qual:Str}{st:Stmt}{f:Addr}{fd:FuncData}{ps:List Str} (F:Fun K x qual st f fd)
  (h:∀ (kV doc pm:Value) (an:Option Addr) (cdv ct:Value) (us:List Value),us.length=ps.length→bindArgs (W.fnOf x qual (defArgs st) (zAN st) (zA3 st) .none kV doc pm an cdv ct) ⟨us,[]⟩=pure (ps.zip us)):Binds K fd ps []:=by
 obtain ⟨oc,od,kV,doc,pm,an,cdv,ct,osl,rfl,lk,hcd⟩:=F.ex
 exact .all (h kV doc pm an cdv ct)
theorem fun_mk {x qual:Str}{st:Stmt}{f:Addr}{oc:Value}{od an:Option Addr}{osl:Array (Option Value)}{kV doc pm cdv ct:Value} (l:K.lookup f=some ⟨oc,od,.func (W.fnOf x qual (defArgs st) (zAN st) (zA3 st) .none kV doc pm an cdv ct),osl⟩)
  (c:W.codeIn K cdv qual=true) (k:W.keepIn K (.ref f)=true):Fun K x qual st f (W.fnOf x qual (defArgs st) (zAN st) (zA3 st) .none kV doc pm an cdv ct):=⟨⟨oc,od,kV,doc,pm,an,cdv,ct,osl,rfl,l,c⟩,k⟩
end
theorem hu_of {A:Around}{k:Nat} (hr:Room k A):A.units+1<cLine:=Nat.lt_of_le_of_lt (Nat.add_le_add_left (by decide:1≤64) _) hr.units
theorem small1000 {n:Nat} (h:n≤1000):n<sizeLine:=Nat.lt_of_le_of_lt h (by decide)
def Same (H H':Hp):Prop:=∀ b o,H b=some o→H' b=some o
theorem Same.refl (H:Hp):Same H H:=fun _ _ h=>h
section
variable {κ:Type} [DecidableEq κ]
noncomputable def valV (kvs:List (κ × V)) (k:κ):Option V:=(kvs.find? fun kv=>decide (kv.1=k)).map (·.2)
noncomputable def putK (kvs:List (κ × V)) (k:κ) (v:V):List (κ × V) :=
 if (kvs.any fun kv=>decide (kv.1=k))=true then kvs.map (fun kv=>if kv.1=k then (kv.1,v) else kv) else kvs++[(k,v)]
theorem valV_pos {p:κ × V}{r:List (κ × V)}{k:κ} (e:p.1=k):valV (p::r) k=some p.2:=by simp [valV,List.find?_cons,e]
theorem valV_neg {p:κ × V}{r:List (κ × V)}{k:κ} (e:¬ p.1=k):valV (p::r) k=valV r k:=by simp [valV,List.find?_cons,e]
theorem valV_any (k:κ):∀ kvs:List (κ × V),(kvs.any fun kv=>decide (kv.1=k))=(valV kvs k).isSome
 | []=>rfl
 | p::r=>by
  rw [List.any_cons]
  by_cases e:p.1=k
  ·simp only [valV_pos e,decide_eq_true e,Bool.true_or,Option.isSome_some]
  ·rw [valV_neg e,decide_eq_false e,Bool.false_or]; exact valV_any k r
theorem length_putK (kvs:List (κ × V)) (k:κ) (v:V):(putK kvs k v).length≤kvs.length+1:=by
 unfold putK
 split
 ·rw [List.length_map]; omega
 ·rw [List.length_append,List.length_cons,List.length_nil]; omega
theorem RelO.isSome_eq {o:Option V}{u:Option Value} (r:RelO o u):o.isSome=u.isSome:=by
 cases o with
 | none=>cases u with
  | none=>rfl
  | some _=>exact (show False from r).elim
 | some _=>cases u with
  | none=>exact (show False from r).elim
  | some _=>rfl
theorem KV.val {kvs:List (κ × V)}{vs:List (κ × Value)} (r:KV kvs vs) (k:κ):RelO (valV kvs k) (valueAt vs k):=by
 unfold KV at r
 induction r with
 | nil=>exact True.intro
 | @cons p q ps qs h t ih =>
  obtain ⟨h1,h2⟩:=h
  by_cases e:p.1=k
  ·have e':q.1=k:=h1.symm.trans e
   have b:valueAt (q::qs) k=some q.2:=by simp [valueAt,List.find?_cons,e']
   rw [valV_pos e,b]; exact h2
  ·have e':¬ q.1=k:=fun z=>e (h1.trans z)
   have b:valueAt (q::qs) k=valueAt qs k:=by simp [valueAt,List.find?_cons,e']
   rw [valV_neg e,b]; exact ih
theorem KV.any {kvs:List (κ × V)}{vs:List (κ × Value)} (r:KV kvs vs) (k:κ):(kvs.any fun kv=>decide (kv.1=k))=vs.any fun kv=>decide (kv.1=k):=by
 unfold KV at r
 induction r with
 | nil=>rfl
 | cons h t ih=>rw [List.any_cons,List.any_cons,ih,h.1]
theorem KV.repl {kvs:List (κ × V)}{vs:List (κ × Value)} (r:KV kvs vs) (k:κ) {y:V}{u:Value} (ry:RelV y u) :
  KV (kvs.map fun kv=>if kv.1=k then (kv.1,y) else kv) (vs.map fun kv=>if kv.1=k then (kv.1,u) else kv):=by
 unfold KV at r ⊢
 induction r with
 | nil=>exact .nil
 | @cons p q ps qs h t ih =>
  rw [List.map_cons,List.map_cons]
  refine .cons ?_ ih
  obtain ⟨h1,h2⟩:=h
  by_cases e:p.1=k
  ·rw [if_pos e,if_pos (h1.symm.trans e)]; exact ⟨h1,ry⟩
  ·rw [if_neg e,if_neg (fun z=>e (h1.trans z))]; exact ⟨h1,h2⟩
theorem KV.put {kvs:List (κ × V)}{vs:List (κ × Value)} (r:KV kvs vs) (k:κ) {y:V}{u:Value} (ry:RelV y u):KV (putK kvs k y) (stored vs k u):=by
 unfold putK stored
 rw [r.any k]
 by_cases e:(vs.any fun kv=>decide (kv.1=k))=true
 ·rw [if_pos e,if_pos e]; exact r.repl k ry
 ·rw [if_neg e,if_neg e]; exact Paired.snoc r ⟨rfl,ry⟩
theorem KV.length {kvs:List (κ × V)}{vs:List (κ × Value)} (r:KV kvs vs):kvs.length=vs.length:=Paired.length r
end
theorem kV_is {P:Program}{w:World}{k:Key}{u:Value} (r:RelV (kV k) u):(zAF P w).is k u=true:=by
 cases k with
 | inl i=>obtain ⟨t,e⟩:=(show ∃ t,u=Value.int i t from r); subst e; exact mixKind_int P w i t
 | inr x=>obtain ⟨t,e⟩:=(show ∃ t,u=Value.str x t from r); subst e; exact mixKind_str P w x t
theorem items_are {P:Program}{w:World}:∀ {ks:List Key}{us:List Value},Vals (ks.map kV) us→ItemsAre (zAF P w) ks us
 | [],_,r=>by rw [List.map_nil] at r; cases r; exact .nil
 | k::ks,_,r=>by
  rw [List.map_cons] at r
  cases r with
  | cons h t=>exact .cons (kV_is h) (items_are t)
noncomputable abbrev KT (H:Hp):List (List Key × V)→List (List Key × Addr × Value)→Prop:=Paired fun p q=>p.1=q.1∧H q.2.1=some (.tup (p.1.map kV))∧RelV p.2 q.2.2
theorem KT.val {H:Hp}{kvs:List (List Key × V)}{xs:List (List Key × Addr × Value)} (r:KT H kvs xs) (k:List Key):RelO (valV kvs k) ((atKey xs k).map (·.2)):=by
 induction r with
 | nil=>exact True.intro
 | @cons p q ps qs h t ih =>
  obtain ⟨h1,_,h2⟩:=h
  by_cases e:p.1=k
  ·have e':q.1=k:=h1.symm.trans e
   have b:atKey (q::qs) k=some q.2:=by simp [atKey,List.find?_cons,e']
   rw [valV_pos e,b]; exact h2
  ·have e':¬ q.1=k:=fun z=>e (h1.trans z)
   have b:atKey (q::qs) k=atKey qs k:=by simp [atKey,List.find?_cons,e']
   rw [valV_neg e,b]; exact ih
theorem KT.repl {H:Hp}{kvs:List (List Key × V)}{xs:List (List Key × Addr × Value)} (r:KT H kvs xs) (k:List Key) {y:V}{u:Value} (ry:RelV y u) :
  KT H (kvs.map fun kv=>if kv.1=k then (kv.1,y) else kv) (xs.map (putAt k u)):=by
 induction r with
 | nil=>exact .nil
 | @cons p q ps qs h t ih =>
  rw [List.map_cons,List.map_cons]
  refine .cons ?_ ih
  obtain ⟨h1,h2,h3⟩:=h
  unfold putAt
  by_cases e:p.1=k
  ·rw [if_pos e,if_pos (h1.symm.trans e)]; exact ⟨h1,h2,ry⟩
  ·rw [if_neg e,if_neg (fun z=>e (h1.trans z))]; exact ⟨h1,h2,h3⟩
theorem KT.put {H:Hp}{kvs:List (List Key × V)}{xs:List (List Key × Addr × Value)} (r:KT H kvs xs) (k:List Key) {b:Addr}{y:V}{u:Value} (hb:H b=some (.tup (k.map kV))) (ry:RelV y u) :
  KT H (putK kvs k y) (storedH xs k b u):=by
 have e:(kvs.any fun kv=>decide (kv.1=k))=(atKey xs k).isSome:=by
  rw [valV_any,(r.val k).isSome_eq,Option.isSome_map]
 unfold putK storedH
 rw [e]
 by_cases q:(atKey xs k).isSome=true
 ·rw [if_pos q,if_pos q]; exact r.repl k ry
 ·rw [if_neg q,if_neg q]; exact Paired.snoc r ⟨rfl,hb,ry⟩
theorem KT.keeps {H H':Hp}{kvs:List (List Key × V)}{xs:List (List Key × Addr × Value)} (r:KT H kvs xs) (ht:∀ b ys,H b=some (.tup ys)→H' b=some (.tup ys)):KT H' kvs xs :=
 Paired.mapP r fun _ _ z=>⟨z.1,ht _ _ z.2.1,z.2.2⟩
section
variable {P:Program}{w:World}{H:Hp}{h:Heap}{a:Addr}
theorem rd_of {u:HO} (ok:HOk P w H h) (e:Rd H a u):ObjOk P w H h a u:=e.ok ok
theorem dk_rd {kvs:List (Key × V)} (ok:HOk P w H h) (e:Rd H a (.dK kvs)):kvs.length≤sizeLine∧(a == sysModules)=false∧∃ vs,KV kvs vs∧h.DictOf (zAF P w) a vs :=
 show ObjOk P w H h a (.dK kvs) from rd_of ok e
theorem dk_of {kvs:List (Key × V)} (ok:HOk P w H h) (e:H a=some (.dK kvs)):kvs.length≤sizeLine∧(a == sysModules)=false∧∃ vs,KV kvs vs∧h.DictOf (zAF P w) a vs:=dk_rd ok (.inl e)
theorem key_of {ks:List Key} (ok:HOk P w H h) (e:H a=some (.tup (ks.map kV))):(tupleKind (zAF P w)).is h ks a:=by
 obtain ⟨_,its,r,o,h1,h2,n,h3⟩:=(show ObjOk P w H h a (.tup (ks.map kV)) from ok a _ e)
 exact ⟨o,its.toArray,n,h1,h2,h3,by simpa using items_are r⟩
theorem dt_rd {kvs:List (List Key × V)} (ok:HOk P w H h) (e:Rd H a (.dT kvs)):kvs.length≤sizeLine∧(a == sysModules)=false ∧
  ∃ xs,KT H kvs xs∧h.DictOfH (tupleKind (zAF P w)) a xs:=by
 obtain ⟨z,y,xs,r,o,es,ep,h1,h2,h3,h4,h5⟩:=(show ObjOk P w H h a (.dT kvs) from rd_of ok e)
 refine ⟨z,y,xs,r,o,es,ep,h1,h2,h3,h4,fun x hx=>?_,h5⟩
 have all:∀ {l:List (List Key × V)}{m:List (List Key × Addr × Value)},KT H l m→∀ x∈m,(tupleKind (zAF P w)).is h x.1 x.2.1:=by
  intro l m q
  induction q with
  | nil=>intro x hx; exact nomatch hx
  | @cons p q ps qs hq t ih =>
   intro x hx
   rcases List.mem_cons.mp hx with e | hx
   ·subst e
    exact key_of ok (by rw [← hq.1]; exact hq.2.1)
   ·exact ih x hx
 exact all r x hx
theorem dt_of {kvs:List (List Key × V)} (ok:HOk P w H h) (e:H a=some (.dT kvs)):kvs.length≤sizeLine∧(a == sysModules)=false ∧
  ∃ xs,KT H kvs xs∧h.DictOfH (tupleKind (zAF P w)) a xs:=dt_rd ok (.inl e)
end
def DGet (H:Hp) (a:Addr) (y:V) (r:Option V):Prop :=
 (∃ kvs k,Rd H a (.dK kvs)∧y=kV k∧r=valV kvs k)∨∃ kvs k b,Rd H a (.dT kvs)∧y=.ref b∧H b=some (.tup (k.map kV))∧r=valV kvs k
def DPut (H:Hp) (a:Addr) (y v:V) (H':Hp):Prop :=
 (∃ kvs k,H a=some (.dK kvs)∧y=kV k∧kvs.length<sizeLine∧H'=upd H a (.dK (putK kvs k v))) ∨
 ∃ kvs k b,H a=some (.dT kvs)∧y=.ref b∧H b=some (.tup (k.map kV))∧kvs.length<sizeLine∧H'=upd H a (.dT (putK kvs k v))
theorem DGet.k {H:Hp}{a:Addr}{kvs:List (Key × V)}{k:Key} (e:H a=some (.dK kvs)):DGet H a (kV k) (valV kvs k):=.inl ⟨kvs,k,.inl e,rfl,rfl⟩
theorem DGet.t {H:Hp}{a b:Addr}{kvs:List (List Key × V)}{k:List Key} (e:H a=some (.dT kvs)) (eb:H b=some (.tup (k.map kV))):DGet H a (.ref b) (valV kvs k):=.inr ⟨kvs,k,b,.inl e,rfl,eb,rfl⟩
theorem DPut.k {H:Hp}{a:Addr}{kvs:List (Key × V)}{k:Key}{v:V} (e:H a=some (.dK kvs)) (hl:kvs.length<sizeLine):DPut H a (kV k) v (upd H a (.dK (putK kvs k v))):=.inl ⟨kvs,k,e,rfl,hl,rfl⟩
section
variable {X:Cx}{pins:List (Addr × Obj)}{σ:St}{H:Hp}{s:Shared}{a:Addr}{y v:V}{u r:Value}{o:Option V}{A:Around}{E:Value→Shared→Prop}
theorem Inv.big (I:Inv X pins σ H s):sysModules<s.heap.objs.size:=by
 have h:mainGlobals<s.heap.objs.size:=(I.mod.glob.keeps I.bk).lt
 exact Nat.lt_trans (by decide) h
theorem d_getItem {Q:Value→Shared→Prop} (hu:A.units+1<cLine) (I:Inv X pins σ H s) (g:DGet H a y (some v)) (ry:RelV y u) (h:∀ w' s',Inv X pins σ H s'→RelV v w'→Q w' s') :
  wpAny (model X.prog X.w) A (getItem (.ref a) u) Q E s:=by
 rcases g with ⟨kvs,k,e,ey,l⟩ | ⟨kvs,k,b,e,ey,eb,l⟩
 ·subst ey
  obtain ⟨z,hd,vs,rel,dd⟩:=dk_rd I.hok e
  obtain ⟨w',hw,rw'⟩:=RelO.some_of (v:=v) (o:=valueAt vs k) (by rw [l]; exact rel.val k)
  exact wpAny_getItem_of (kV_is ry) dd.mapOf hw (h w' _ (I.tok _) rw')
 ·subst ey
  cases (show u=Value.ref b from ry)
  obtain ⟨z,hd,xs,rel,dd⟩:=dt_rd I.hok e
  obtain ⟨w',hw,rw'⟩:=RelO.some_of (v:=v) (o:=(atKey xs k).map (·.2)) (by rw [l]; exact rel.val k)
  obtain ⟨p,hp,hp2⟩:=Option.map_eq_some_iff.mp hw
  refine wpAny_getItem_heap (tupleKind_room_in1 hu) (key_of I.hok eb) dd hp ?_
  rw [hp2]
  exact h w' _ (I.tok _) rw'
theorem d_in {Q:Value→Shared→Prop} (hu:A.units+1<cLine) (I:Inv X pins σ H s) (g:DGet H a y o) (ry:RelV y u) (h:∀ s',Inv X pins σ H s'→Q (.bool o.isSome) s') :
  wpAny (model X.prog X.w) A (compareOp .In u (.ref a)) Q E s:=by
 rcases g with ⟨kvs,k,e,ey,l⟩ | ⟨kvs,k,b,e,ey,eb,l⟩
 ·subst ey
  obtain ⟨z,hd,vs,rel,dd⟩:=dk_rd I.hok e
  refine wpAny_in_of (kV_is ry) hd dd.mapOf ?_
  rw [← (rel.val k).isSome_eq,← l]
  exact h _ (I.tok _)
 ·subst ey
  cases (show u=Value.ref b from ry)
  obtain ⟨z,hd,xs,rel,dd⟩:=dt_rd I.hok e
  refine wpAny_in_heap (tupleKind_room_in1 hu) (key_of I.hok eb) hd dd ?_
  have q:=(rel.val k).isSome_eq
  rw [Option.isSome_map] at q
  rw [← q,← l]
  exact h _ (I.tok _)
theorem d_notIn {Q:Value→Shared→Prop} (hu:A.units+1<cLine) (I:Inv X pins σ H s) (g:DGet H a y o) (ry:RelV y u) (h:∀ s',Inv X pins σ H s'→Q (.bool (!o.isSome)) s') :
  wpAny (model X.prog X.w) A (compareOp .NotIn u (.ref a)) Q E s:=by
 rcases g with ⟨kvs,k,e,ey,l⟩ | ⟨kvs,k,b,e,ey,eb,l⟩
 ·subst ey
  obtain ⟨z,hd,vs,rel,dd⟩:=dk_rd I.hok e
  refine wpAny_notIn_of (kV_is ry) hd dd.mapOf ?_
  rw [← (rel.val k).isSome_eq,← l]
  exact h _ (I.tok _)
 ·subst ey
  cases (show u=Value.ref b from ry)
  obtain ⟨z,hd,xs,rel,dd⟩:=dt_rd I.hok e
  refine wpAny_notIn_heap (tupleKind_room_in1 hu) (key_of I.hok eb) hd dd ?_
  have q:=(rel.val k).isSome_eq
  rw [Option.isSome_map] at q
  rw [← q,← l]
  exact h _ (I.tok _)
theorem d_write {h':Heap}{t':Nat}{ob:HO} (I:Inv X pins σ H s) (mu:Mut (H a)) (hs:Heap.SameBut a s.heap h') (he:∃ q,h'.get? a=some q) (new:ObjOk X.prog X.w (upd H a ob) h' a ob) :
  Inv X pins σ (upd H a ob) { s with heap:=h',toks:=t' } :=
 I.write (x:=a) (e:=a) mu (.inl rfl) (fun b q hb z=>(hs.2 b hb).trans z) he new
theorem dk_new {P:Program}{w:World}{H':Hp}{h':Heap}{kvs:List (Key × V)}{vs:List (Key × Value)} (z:kvs.length≤sizeLine) (hd:(a == sysModules)=false) (rel:KV kvs vs) (dd:h'.DictOf (zAF P w) a vs) :
  ObjOk P w H' h' a (.dK kvs):=⟨z,hd,vs,rel,dd⟩
theorem d_setItem {H':Hp}{Q:Unit→Shared→Prop} (hu:A.units+1<cLine) (I:Inv X pins σ H s) (g:DPut H a y v H') (ry:RelV y u) (rv:RelV v r) (h:∀ s',Inv X pins σ H' s'→Q () s') :
  wpAny (model X.prog X.w) A (setItem (.ref a) u r) Q E s:=by
 rcases g with ⟨kvs,k,e,ey,l,eH⟩ | ⟨kvs,k,b,e,ey,eb,l,eH⟩
 ·subst ey eH
  obtain ⟨z,hd,vs,rel,dd⟩:=dk_of I.hok e
  have hz:vs.length≤sizeLine:=by rw [← rel.length]; exact z
  have hl:(putK kvs k v).length≤sizeLine:=by have:=length_putK kvs k v; omega
  refine wpAny_setItem_pairs (hsz:=hz) (kV_is ry) dd fun h' dd' hs=>h _ ?_
  have he:∃ q,h'.get? a=some q:=let ⟨q,_,_,hq,_⟩:=dd'; ⟨q,hq⟩
  exact d_write I (by rw [e]; exact True.intro) hs he (dk_new hl hd (rel.put k rv) dd')
 ·subst ey eH
  cases (show u=Value.ref b from ry)
  obtain ⟨z,hd,xs,rel,dd⟩:=dt_of I.hok e
  have hz:xs.length≤sizeLine:=by rw [← Paired.length rel]; exact z
  have hl:(putK kvs k v).length≤sizeLine:=by have:=length_putK kvs k v; omega
  refine wpAny_setItem_heap (hsz:=hz) (tupleKind_room_in1 hu) (key_of I.hok eb) dd fun h' dd' hs=>h _ ?_
  obtain ⟨q,es,ep,hq,h2,h3,h4,_,h5⟩:=dd'
  refine d_write I (by rw [e]; exact True.intro) hs ⟨q,hq⟩ ⟨hl,hd,_,(rel.put k eb rv).keeps fun c ys ec=>?_,q,es,ep,hq,h2,h3,h4,h5⟩
  rw [zAb (ne_of ec e (fun z=>nomatch z))]
  exact ec
end
theorem dict_typeIs {X:Cx}{pins:List (Addr × Obj)}{σ:St}{H:Hp}{s:Shared}{a:Addr}{y:V}{o:Option V} (I:Inv X pins σ H s) (g:DGet H a y o):s.TypeIs (.ref a) "dict":=by
 rcases g with ⟨kvs,k,e,_,_⟩ | ⟨kvs,k,b,e,_,_,_⟩
 ·obtain ⟨_,_,vs,_,dd⟩:=dk_rd I.hok e
  exact dd.typeIs
 ·obtain ⟨_,_,xs,_,dd⟩:=dt_rd I.hok e
  exact dd.typeIs
theorem dk_empty {P:Program}{w:World}{H:Hp} (h:Heap) (hb:sysModules<h.objs.size):ObjOk P w H (h.push { cls:=.type "dict",data:=.dict #[] }) h.objs.size (.dK []) :=
 ⟨Nat.zero_le _,beq_eq_false_iff_ne.mpr (Ne.symm (Nat.ne_of_lt hb)),[],.nil,Heap.DictOf.new h⟩
noncomputable def tDNewK:TE:=fun _ H Q=>∀ p,H p=none→Q (.ref p) (upd H p (.dK []))
section
variable {X:Cx}{pos:Pos}
theorem pe_dnewK:PE X (.Dict [] [] pos) tDNewK:=fun pins s σ H Q I h =>
 wpAny_Dict_empty ⟨.ref s.heap.objs.size,_,I.laid (a:=s.heap.objs.size) (o:=.dK []) (t':=s.toks) (fun _ _ q=>Heap.get?_push_of_some _ q) (Nat.le_refl _) (dk_empty s.heap I.big),rfl,h _ (I.hok.fresh (Nat.le_refl _))⟩
end
noncomputable def tPairs:List (TE × TE)→St→Hp→(List (V × V)→Hp→Prop)→Prop
 | [],_,H,Q=>Q [] H
 | (tk,tv)::r,σ,H,Q=>tk σ H fun x H1=>tv σ H1 fun y H2=>tPairs r σ H2 fun ps H3=>Q ((x,y)::ps) H3
noncomputable abbrev VV:List (V × V)→List (Value × Value)→Prop:=Paired fun p q=>RelV p.1 q.1∧RelV p.2 q.2
def PPs (X:Cx) (pos:Pos) (keys:List (Option Expr)) (values:List Expr) (trs:List (TE × TE)):Prop :=
 ∀ (pins:List (Addr × Obj)) (s:Shared) (σ:St) (H:Hp) (Q:List (V × V)→Hp→Prop),Inv X pins σ H s→tPairs trs σ H Q →
  wpAny (model X.prog X.w) X.A (evalPairs (pairTrees keys values X.env pos)) (fun vs s'=>∃ ps H',Inv X pins σ H' s'∧VV ps vs∧Q ps H') X.xe s
theorem pps_nil {X:Cx}{pos:Pos}:PPs X pos [] [] []:=fun pins s σ H Q I h=>pairTrees_nil_walk ⟨[],H,I,.nil,h⟩
theorem pps_cons {X:Cx}{pos:Pos}{k v:Expr}{ks:List (Option Expr)}{vs:List Expr}{tk tv:TE}{trs:List (TE × TE)} (hk:PE X k tk) (hv:PE X v tv) (hr:PPs X pos ks vs trs) :
  PPs X pos (some k::ks) (v::vs) ((tk,tv)::trs):=fun pins s σ H Q I h =>
 pairTrees_cons_walk (thn (hk pins s σ H _ I h) fun u s1 ⟨x,H1,I1,rx,q1⟩=>thn (hv pins s1 σ H1 _ I1 q1) fun w2 s2 ⟨y,H2,I2,ry,q2⟩ =>
  thn (hr pins s2 σ H2 _ I2 q2) fun ws s3 ⟨ps,H3,I3,rel,q3⟩=>⟨(x,y)::ps,H3,I3,.cons ⟨rx,ry⟩ rel,q3⟩)
noncomputable def mergeK (kvs more:List (Key × V)):List (Key × V):=more.foldl (fun acc kv=>putK acc kv.1 kv.2) kvs
theorem KV.merge:∀ {more:List (Key × V)}{rs:List (Key × Value)}{kvs:List (Key × V)}{vs:List (Key × Value)},KV more rs→KV kvs vs→KV (mergeK kvs more) (merged vs rs):=by
 intro more rs kvs vs r
 unfold KV at r
 induction r generalizing kvs vs with
 | nil=>intro q; exact q
 | @cons p q ps qs h t ih =>
  intro r0
  have e:KV (putK kvs p.1 p.2) (stored vs q.1 q.2):=by
   have:=r0.put p.1 h.2
   rw [← h.1]; exact this
  exact ih e
theorem length_mergeK:∀ (more kvs:List (Key × V)),(mergeK kvs more).length≤kvs.length+more.length
 | [],kvs=>by show kvs.length≤kvs.length+0; omega
 | p::r,kvs=>by
  have h1:=length_mergeK r (putK kvs p.1 p.2)
  have h2:=length_putK kvs p.1 p.2
  show (mergeK (putK kvs p.1 p.2) r).length≤_
  rw [List.length_cons]; omega
theorem carries_of {P:Program}{w:World}:∀ {kvs:List (Key × V)}{ws:List (Value × Value)},VV (kvs.map fun kv=>(kV kv.1,kv.2)) ws→∃ rs,Carries (zAF P w) ws rs∧KV kvs rs
 | [],_,r=>by rw [List.map_nil] at r; cases r; exact ⟨[],True.intro,.nil⟩
 | p::kvs,_,r=>by
  rw [List.map_cons] at r
  cases r with
  | @cons a b as bs h t =>
   obtain ⟨rs,c,q⟩:=carries_of (P:=P) (w:=w) t
   obtain ⟨b1,b2⟩:=b
   exact ⟨(p.1,b2)::rs,⟨kV_is h.1,rfl,c⟩,.cons ⟨rfl,h.2⟩ q⟩
noncomputable def tDisp (trs:List (TE × TE)):TE:=fun σ H Q=>∀ p,H p=none→tPairs trs σ (upd H p (.dK [])) fun ps H2=>H2 p=some (.dK [])∧∃ kvs:List (Key × V),ps=kvs.map (fun kv=>(kV kv.1,kv.2))∧kvs.length≤15∧Q (.ref p) (upd H2 p (.dK (mergeK [] kvs)))
theorem pe_disp {X:Cx}{pos:Pos}{keys:List (Option Expr)}{values:List Expr}{trs:List (TE × TE)} (h:PPs X pos keys values trs) (hall:keys.all (·.isSome)=true) (hl:keys.length=values.length) (h0:keys≠[])
  (h15:keys.length≤15):PE X (.Dict keys values pos) (tDisp trs):=by
 intro pins s σ H Q I q
 have hn:=I.hok.fresh (Nat.le_refl s.heap.objs.size)
 have I1:=I.laid (a:=s.heap.objs.size) (o:=.dK []) (h':=s.heap.push { cls:=.type "dict",data:=.dict #[] }) (t':=s.toks) (fun _ _ q=>Heap.get?_push_of_some _ q) (Nat.le_refl _) (dk_empty s.heap I.big)
 refine wpAny_Dict_walk (knd:=zAF X.prog X.w) hall hl h0 h15 (thn (h pins _ σ _ _ I1 (q _ hn)) fun ws s2 ⟨ps,H2,I2,rel,e,kvs,ep,lk,q2⟩=>?_)
 subst ep
 obtain ⟨rs,c,rk⟩:=carries_of (P:=X.prog) (w:=X.w) rel
 obtain ⟨z,hd,vs0,r0,dd⟩:=dk_of I2.hok e
 cases r0
 refine ⟨rs,c,dd,fun h' dd' hs=>⟨.ref s.heap.objs.size,_,?_,rfl,q2⟩⟩
 have hz:(mergeK [] kvs).length≤sizeLine:=by
  have h1:=length_mergeK kvs []
  rw [List.length_nil] at h1
  rw [sizeLine_eq]; omega
 have he:∃ q,h'.get? s.heap.objs.size=some q:=let ⟨q,_,_,hq,_⟩:=dd'; ⟨q,hq⟩
 exact d_write I2 (by rw [e]; exact True.intro) hs he (dk_new hz hd (rk.merge .nil) dd')
structure M1 (X:Cx) (o:Expr) (m:Str) (apos:Pos) (e:Expr) (cpos:Pos):Prop where
 base:attributeBase o m X.env (eval o X.env)=eval o X.env
 few:((backTo cpos (starEach [e] X.env)).all (fun x=>!x.1)&&(backToKw cpos (keywordEach [] X.env)).all (fun x=>x.1.isSome)
  && decide (([e]:List Expr).length+([]:List Keyword).length+(if ([]:List Keyword).isEmpty then 0 else 1)<30))=true
 line:(apos.endLine == cpos.line)=true
 trees:backTo cpos (starEach [e] X.env)=[(false,eval e X.env)]
structure M2 (X:Cx) (o:Expr) (m:Str) (apos:Pos) (e f:Expr) (cpos:Pos):Prop where
 base:attributeBase o m X.env (eval o X.env)=eval o X.env
 few:((backTo cpos (starEach [e,f] X.env)).all (fun x=>!x.1)&&(backToKw cpos (keywordEach [] X.env)).all (fun x=>x.1.isSome)
  && decide (([e,f]:List Expr).length+([]:List Keyword).length+(if ([]:List Keyword).isEmpty then 0 else 1)<30))=true
 line:(apos.endLine == cpos.line)=true
 trees:backTo cpos (starEach [e,f] X.env)=[(false,eval e X.env),(false,eval f X.env)]
def WeakS (st st2:St):Prop:=st.length=st2.length∧∀ (i:Nat) v,st[i]?=some (some v)→st2[i]?=some (some v)
noncomputable def cxComp (X:Cx) (scope:Scope) (N:List Str) (cl:List (Str × Addr)) (s:Shared) (H:Hp) (C:Addr) (ex:List Addr):Cx where
 prog:=X.prog
 w:=X.w
 K:=X.K
 mg:=X.mg
 base:=X.base
 A:=X.A
 N:=N
 s₀:=s
 H₀:=H
 env:=compEnvC scope cl C X.env
 outer:=X.stack
 stack:=X.stack
 ex:=ex
 fn:=fun x=>decide ((x,NameKind.cell)∈scope.names)
 calm:=X.calm
 pn:=[]
 xe:=fun _ _=>False
noncomputable def clOf (env:Env):List (Str × NameKind)→List (Str × Addr)→List (Str × Addr)
 | [],acc=>acc
 | (n,k)::r,acc=>if k == .free then (match env.cells.lookup n with | some c=>clOf env r ((n,c)::acc) | none=>clOf env r acc) else clOf env r acc
theorem clOf_sub {env:Env}:∀ (ns:List (Str × NameKind)) (acc:List (Str × Addr)),(∀ x c,acc.lookup x=some c→env.cells.lookup x=some c)→∀ x c,(clOf env ns acc).lookup x=some c→env.cells.lookup x=some c
 | [],_,h=>h
 | (n,k)::r,acc,h=>by
  unfold clOf
  split
  ·split
   ·rename_i c hc
    refine clOf_sub r _ fun x d e=>?_
    rw [List.lookup_cons] at e
    cases hx:x == n with
    | true =>
     rw [hx] at e
     have:x=n:=by simpa using hx
     subst this
     cases e
     exact hc
    | false =>
     rw [hx] at e
     exact h x d e
   ·exact clOf_sub r _ h
  ·exact clOf_sub r _ h
theorem clOf_has {env:Env}:∀ (ns:List (Str × NameKind)) (acc:List (Str × Addr)) (x:Str),((∃ c,acc.lookup x=some c)∨((x,NameKind.free)∈ns∧∃ c,env.cells.lookup x=some c))→∃ c,(clOf env ns acc).lookup x=some c
 | [],acc,x,h=>by
  rcases h with h | ⟨h,_⟩
  ·exact h
  ·cases h
 | (n,k)::r,acc,x,h=>by
  unfold clOf
  split
  ·rename_i hk
   split
   ·rename_i c hc
    refine clOf_has r _ x ?_
    by_cases hx:x=n
    ·subst hx
     exact .inl ⟨c,by rw [List.lookup_cons]; simp⟩
    ·have hb:(x == n)=false:=by simpa using hx
     rcases h with ⟨d,h⟩ | ⟨h,d⟩
     ·exact .inl ⟨d,by rw [List.lookup_cons,hb]; exact h⟩
     ·rcases List.mem_cons.mp h with h | h
      ·cases h; exact absurd rfl hx
      ·exact .inr ⟨h,d⟩
   ·rename_i hc
    refine clOf_has r _ x ?_
    rcases h with h | ⟨h,d,hd⟩
    ·exact .inl h
    ·rcases List.mem_cons.mp h with h | h
     ·cases h
      rw [hc] at hd; cases hd
     ·exact .inr ⟨h,d,hd⟩
  ·rename_i hk
   refine clOf_has r _ x ?_
   rcases h with h | ⟨h,d⟩
   ·exact .inl h
   ·rcases List.mem_cons.mp h with h | h
    ·cases h
     exact absurd rfl hk
    ·exact .inr ⟨h,d⟩
theorem cellOf_ok {env:Env}{x:Str}{c:Addr} (h:env.cells.lookup x=some c):cellOf env x=pure c:=by
 unfold cellOf
 rw [h]
theorem closure_ok {env:Env}:∀ (ns:List (Str × NameKind)) (acc:List (Str × Addr)),(∀ x,(x,NameKind.free)∈ns→∃ c,env.cells.lookup x=some c) →
  (forIn ns acc fun (x:Str × NameKind) (r:List (Str × Addr))=>(match x with
   | (name,kind)=>if kind == NameKind.free then (do let c ← cellOf env name; pure (ForInStep.yield ((name,c)::r))) else pure (ForInStep.yield r):Sem (ForInStep (List (Str × Addr)))))=pure (clOf env ns acc)
 | [],acc,_=>rfl
 | (n,k)::r,acc,h=>by
  rw [List.forIn_cons]
  unfold clOf
  have hr:∀ x,(x,NameKind.free)∈r→∃ c,env.cells.lookup x=some c:=fun x hx=>h x (List.mem_cons_of_mem _ hx)
  by_cases hk:k=.free
  ·subst hk
   obtain ⟨c,hc⟩:=h n (List.mem_cons_self ..)
   dsimp only
   rw [hc,cellOf_ok hc]
   simp only [beq_self_eq_true,if_true,pure_bind]
   exact closure_ok r _ hr
  ·have hb:(k == NameKind.free)=false:=by simpa using hk
   simp only [hb,Bool.false_eq_true,if_false,pure_bind]
   exact closure_ok r _ hr
theorem closureFor_ok {scope:Scope}{env:Env} (h:∀ x,(x,NameKind.free)∈scope.names→∃ c,env.cells.lookup x=some c):closureFor scope env=pure (clOf env scope.names []):=by
 unfold closureFor
 have q:=closure_ok (env:=env) scope.names [] h
 simp only [bind_pure]
 refine Eq.trans ?_ q
 congr 1
theorem mem_of_look {ns:List (Str × NameKind)}{x:Str}{k:NameKind} (h:ns.lookup x=some k):(x,k)∈ns:=by
 induction ns with
 | nil=>cases h
 | cons a r ih =>
  obtain ⟨n,k'⟩:=a
  rw [List.lookup_cons] at h
  cases hx:x == n with
  | true =>
   rw [hx] at h
   have e:x=n:=by simpa using hx
   subst e
   cases h
   exact List.mem_cons_self ..
  | false =>
   rw [hx] at h
   exact List.mem_cons_of_mem _ (ih h)
theorem relabel_mem {scope:Scope}{env:Env}{x:Str}{k:NameKind} (h:(relabel scope env).names.lookup x=some k) (hc:k=.cell∨k=.free):(x,NameKind.free)∈scope.names∨(x,NameKind.cell)∈scope.names:=by
 have m:=mem_of_look h
 obtain ⟨⟨n,k'⟩,hm,e⟩:=List.mem_map.mp m
 dsimp only at e
 split at e
 ·rename_i hq
  cases e
  have:k'=.free:=by
   simp only [Bool.and_eq_true,beq_iff_eq] at hq
   exact hq.1.1
  subst this
  exact .inl hm
 ·cases e
  rcases hc with rfl | rfl
  ·exact .inr hm
  ·exact .inl hm
theorem cells_look:∀ (ns:List (Str × NameKind)) (h:Heap) (acc:List (Str × Addr)) {x:Str}{c:Addr},(cellsFrom h.objs.size ns acc).lookup x=some c →
  ((x,NameKind.cell)∈ns∧h.objs.size≤c∧(pushCells h ns).IsCell c none)∨((x,NameKind.cell)∉ns∧acc.lookup x=some c)
 | [],h,acc,x,c,e=>.inr ⟨by simp,e⟩
 | (n,k)::r,h,acc,x,c,e=>by
  unfold cellsFrom at e
  unfold pushCells
  by_cases hk:(k == NameKind.cell)=true
  ·rw [if_pos hk] at e ⊢
   have hk':k=.cell:=by simpa using hk
   rw [← Heap.size_push h { cls:=.type "cell",data:=.cell none }] at e
   rcases cells_look r _ _ e with ⟨q1,q2,q3⟩ | ⟨q1,q2⟩
   ·exact .inl ⟨List.mem_cons_of_mem _ q1,by rw [Heap.size_push] at q2; omega,q3⟩
   ·rw [List.lookup_cons] at q2
    cases hx:x == n with
    | true =>
     rw [hx] at q2
     cases q2
     have:x=n:=by simpa using hx
     subst this
     subst hk'
     exact .inl ⟨List.mem_cons_self ..,Nat.le_refl _,_,pushCells_keeps _ _ _ _ (Heap.get?_push_size _ rfl),rfl⟩
    | false =>
     rw [hx] at q2
     refine .inr ⟨fun z=>?_,q2⟩
     rcases List.mem_cons.mp z with z | z
     ·cases z; simp at hx
     ·exact q1 z
  ·rw [if_neg hk] at e ⊢
   rcases cells_look r h acc e with ⟨q1,q2,q3⟩ | ⟨q1,q2⟩
   ·exact .inl ⟨List.mem_cons_of_mem _ q1,q2,q3⟩
   ·refine .inr ⟨fun z=>?_,q2⟩
    rcases List.mem_cons.mp z with z | z
    ·cases z; exact hk rfl
    ·exact q1 z
theorem cells_inj:∀ (ns:List (Str × NameKind)) (n:Nat) (acc:List (Str × Addr)),(∀ x c,acc.lookup x=some c→c<n)→(∀ x y c,acc.lookup x=some c→acc.lookup y=some c→x=y) →
  ∀ x y c,(cellsFrom n ns acc).lookup x=some c→(cellsFrom n ns acc).lookup y=some c→x=y
 | [],n,acc,hb,hi=>hi
 | (m,k)::r,n,acc,hb,hi=>by
  unfold cellsFrom
  split
  ·refine cells_inj r (n+1) _ (fun x c e=>?_) fun x y c e1 e2=>?_
   ·rw [List.lookup_cons] at e
    cases hx:x == m with
    | true=>rw [hx] at e; cases e; exact Nat.lt_succ_self _
    | false=>rw [hx] at e; exact Nat.lt_succ_of_lt (hb x c e)
   ·rw [List.lookup_cons] at e1 e2
    cases hx:x == m with
    | true =>
     rw [hx] at e1
     cases e1
     cases hy:y == m with
     | true=>rw [show x=m by simpa using hx,show y=m by simpa using hy]
     | false=>rw [hy] at e2; exact absurd (hb y _ e2) (Nat.lt_irrefl _)
    | false =>
     rw [hx] at e1
     cases hy:y == m with
     | true=>rw [hy] at e2; cases e2; exact absurd (hb x _ e1) (Nat.lt_irrefl _)
     | false=>rw [hy] at e2; exact hi x y c e1 e2
  ·exact cells_inj r n acc hb hi
theorem cells_some:∀ (ns:List (Str × NameKind)) (n:Nat) (acc:List (Str × Addr)) {x:Str},((x,NameKind.cell)∈ns∨∃ c,acc.lookup x=some c)→∃ c,(cellsFrom n ns acc).lookup x=some c
 | [],n,acc,x,h=>by
  rcases h with h | h
  ·cases h
  ·exact h
 | (m,k)::r,n,acc,x,h=>by
  unfold cellsFrom
  split
  ·refine cells_some r _ _ ?_
   by_cases hx:x=m
   ·subst hx
    exact .inr ⟨n,by rw [List.lookup_cons]; simp⟩
   ·have hb:(x == m)=false:=by simpa using hx
    rcases h with h | ⟨c,h⟩
    ·rcases List.mem_cons.mp h with h | h
     ·cases h; exact absurd rfl hx
     ·exact .inl h
    ·exact .inr ⟨c,by rw [List.lookup_cons,hb]; exact h⟩
  ·rename_i hk
   refine cells_some r _ _ ?_
   rcases h with h | h
   ·rcases List.mem_cons.mp h with h | h
    ·cases h; exact absurd rfl hk
    ·exact .inl h
   ·exact .inr h
theorem wpAny_blockEnv {M:Model}{A:Around}{E:Value→Shared→Prop}{s:Shared}{scope:Scope}{globals:Addr}{closure:List (Str × Addr)}{qual:Str}{outer:Env}{Q:Env→Shared→Prop}
  (hQ:Q (newEnv scope s.heap.objs.size globals (cellsFrom (s.heap.push { cls:=.type "dict",data:=.dict #[] }).objs.size scope.names closure) qual none .none (some outer) builtinsNs) { s with heap:=pushCells (s.heap.push { cls:=.type "dict",data:=.dict #[] }) scope.names }) :
  wpAny M A (newFunctionEnv scope globals closure [] qual none .none (some outer)) Q E s:=by
 simp only [newFunctionEnv,Option.isSome_some,if_true]
 refine wpAny_bind (wpAny_alloc ?_)
 refine wpAny_bind (wpAny_layCells _ (fun name kind cells=>by cases hkc:kind == NameKind.cell <;> simp [hkc]) _ _ _ _ ?_)
 rw [List.forIn_nil]
 exact wpAny_bind (wpAny_pure (wpAny_pure hQ))
section
variable {X:Cx}{pins:List (Addr × Obj)}{σ:St}{H:Hp}{s:Shared}{scope:Scope}{N:List Str}{C:Addr}{ex:List Addr}
structure CompH (X:Cx) (scope:Scope) (N:List Str) (k:Nat) (js:List Nat):Prop where
 calm:X.calm=true
 kind:scope.kind=.function
 cell:∀ x,(x,NameKind.cell)∈scope.names→scope.names.lookup x=some .cell
 free:∀ x,(x,NameKind.free)∈scope.names→(X.env.kindOf x=some .cell∨X.env.kindOf x=some .free)
 names:∀ x∈scope.names,x.2=.local→scope.names.lookup x.1=some .local
 len:N.length=k+js.length
 js:∀ i j,js[i]?=some j→∃ x,N[k+i]?=some x∧X.N[j]?=some x∧scope.names.lookup x=some .free∧Vis X.env.scope x
theorem clSub {env:Env}{ns:List (Str × NameKind)}{x:Str}{c:Addr} (h:(clOf env ns []).lookup x=some c):env.cells.lookup x=some c:=clOf_sub _ _ (fun _ _ z=>by cases z) x c h
theorem Inv.compOk (I:Inv X pins σ H s) (hk:scope.kind=.function) (hf:∀ x,(x,NameKind.free)∈scope.names→∃ c,X.env.cells.lookup x=some c) {h:Heap} (hh:h.objs.size=C+1) (hC:s.heap.objs.size≤C) (hex:∀ b∈ex,FpOk X pins H b) (hxs:∀ b∈ex,b<s.heap.objs.size) :
  (cxComp X scope N (cellsFrom h.objs.size scope.names (clOf X.env scope.names [])) s H C ex).Ok where
 mod:=I.ok.mod
 kind:=hk
 glob:=I.ok.glob
 blt:=I.ok.blt
 above:=hC
 inj:=cells_inj _ _ _ (fun x c e=>by
  obtain ⟨v,q⟩:=I.cell x c (clSub e)
  rw [hh]; exact Nat.lt_succ_of_lt (Nat.lt_of_lt_of_le q.lt hC)) fun x y c e1 e2=>I.ok.inj x y c (clSub e1) (clSub e2)
 has:=fun x h=>by
  have m:=relabel_mem (scope:=scope) (env:=X.env) (x:=x) (k:=.cell)
  have m2:=relabel_mem (scope:=scope) (env:=X.env) (x:=x) (k:=.free)
  have q:(x,NameKind.free)∈scope.names∨(x,NameKind.cell)∈scope.names:=by
   rcases h with h | h
   ·exact m h (.inl rfl)
   ·exact m2 h (.inr rfl)
  refine cells_some _ _ _ ?_
  rcases q with q | q
  ·exact .inr (clOf_has _ _ x (.inr ⟨q,hf x q⟩))
  ·exact .inl q
 cab:=fun x c h e=>by
  rcases cells_look _ _ _ e with ⟨_,q,_⟩ | ⟨q,_⟩
  ·show s.heap.objs.size≤c; omega
  ·exact absurd (of_decide_eq_true h) q
 hd:=I.ok.hd
 frames:=I.ok.frames
 stk:=.inl rfl
 exf:=fun b hb=>⟨fun z=>by
   have z':b=C:=z
   exact Nat.lt_irrefl _ (Nat.lt_of_lt_of_le (hxs b hb) (by rw [z']; exact hC)),fun x c e=>by
   rcases cells_look _ _ _ e with ⟨_,q,_⟩ | ⟨_,q⟩
   ·exact Nat.ne_of_gt (Nat.lt_of_lt_of_le (hxs b hb) (Nat.le_trans hC (Nat.le_of_lt (Nat.lt_of_lt_of_le (by rw [hh]; exact Nat.lt_succ_self C) q))))
   ·exact (hex b hb).2.2.2.2.1 x c (clSub q)⟩
 bs:=I.bs
 bsz:=Nat.le_trans I.ok.bsz I.sz
 noex:=fun b o e hb=>by
  rcases (hex b hb).2.2.2.1 with z | z
  ·exact I.ok.noex b o e z
  ·exact Nat.lt_irrefl _ (Nat.lt_of_lt_of_le (Heap.lt_size e) (Nat.le_trans I.ok.bsz z))
 exfs:=fun b hb z=>by
  rcases List.mem_cons.mp (I.stkSub b z) with q | q
  ·exact (hex b hb).2.1 q
  ·exact (hex b hb).2.2.1 q
 funs:=I.stack
 frf:=I.stkFree
theorem compLoop_go {prog:Program}{w:World}{A:Around}{R:Result→Shared→Prop}{elt target iter:Expr}{ifs:List Expr}{scope:Scope}{pos:Pos}{it acc:Value}{env:Env}{s:Shared} (J:Nat→Shared→Prop)
  (turn:∀ n s,J n s→wpAny (model prog w) A (pyNext it) (fun r s1=>match r with
   | none=>R (.ok .next) s1
   | some v=>wpAny (model prog w) A (letOwnedTupleGo target it v) (fun _ s1'=>wpAny (model prog w) A (assign target env v) (fun _ s2 =>
     wpAny (model prog w) A (forIn ifs true fun c r=>if r=true then do let ok ← isTrue c env (eval c env); pure (ForInStep.yield ok) else pure (ForInStep.yield r)) (fun ok s3 =>
      if ok=true then wpAny (model prog w) A (eval elt env) (fun x s4 =>
       wpAny (model prog w) A (call (.builtin "list.append") [acc,x]) (fun _ s5=>∃ m,m<n∧J m s5) (notedBy (model prog w) A env fun e s'=>R (.error e) s') s4) (notedBy (model prog w) A env fun e s'=>R (.error e) s') s3
      else ∃ m,m<n∧J m s3) (notedBy (model prog w) A env fun e s'=>R (.error e) s') s2) (notedBy (model prog w) A env fun e s'=>R (.error e) s') s1') (notedBy (model prog w) A env fun e s'=>R (.error e) s') s1) (notedBy (model prog w) A env fun e s'=>R (.error e) s') s)
  (n:Nat) (h:J n s) :
  codeAny (model prog w) A (.compLoop (.ListComp elt [⟨target,iter,ifs,0⟩] scope pos) 0 it acc env) R s:=by
 refine codeAny_loop rfl J (fun n s hI=>?_) n h
 show wpAny _ A ((compTurn (.ListComp elt [⟨target,iter,ifs,0⟩] scope pos) 0 it acc env).onRaise (fun x=>do noteFrame x env; theTreesLotGoes x)) _ _ s
 refine wpAny_noted ?_
 rw [compTurn_list]
 refine wpAny_bind (wpAny_standAt (wpAny_bind (wpAny_mono (turn n s hI) (fun r s1 h1=>?_) fun _ _ h'=>h')))
 cases r with
 | none=>exact wpAny_pure h1
 | some v =>
  refine wpAny_bind (wpAny_mono h1 (fun _ s1' h1'=>?_) fun _ _ h'=>h')
  refine wpAny_bind (wpAny_mono h1' (fun _ s2 h2=>wpAny_bind (wpAny_mono h2 (fun ok s3 h3=>?_) fun _ _ h'=>h')) fun _ _ h'=>h')
  cases ok with
  | false=>exact wpAny_pure ⟨rfl,h3⟩
  | true =>
   exact wpAny_bind (wpAny_bind (wpAny_mono h3 (fun x s4 h4=>wpAny_bind (wpAny_mono h4 (fun _ s5 h5=>wpAny_pure (wpAny_pure ⟨rfl,h5⟩)) fun _ _ h'=>h')) fun _ _ h'=>h'))
def PTs (X:Cx) (ifs:List Expr) (t:TT):Prop :=
 ∀ (pins:List (Addr × Obj)) (s:Shared) (σ:St) (H:Hp) (Q:Bool→Hp→Prop),Inv X pins σ H s→t σ H Q →
  wpAny (model X.prog X.w) X.A (forIn ifs true fun c r=>if r=true then do let ok ← isTrue c X.env (eval c X.env); pure (ForInStep.yield ok) else pure (ForInStep.yield r)) (TP X pins σ Q) X.xe s
noncomputable def tYes:TT:=fun _ H Q=>Q true H
theorem pts_nil {X:Cx}:PTs X [] tYes:=fun pins s σ H Q I h=>wpAny_tests_nil ⟨H,I,h⟩
theorem pts_one {X:Cx}{c:Expr}{t:TT} (h:PT X c t):PTs X [c] t:=fun pins s σ H Q I hw=>wpAny_tests_one (h pins s σ H Q I hw)
def CTurn (J:It) (D:Addr) (W:Nat→Nat→List V→Hp→Prop) (Q:Hp→Prop) (g:TG) (tc:TT) (te:TE) (σ0:St) (i m:Nat) (ys:List V) (H2:Hp):Prop :=
 H2 D=some (.lst ys)∧((J.stop i H2∧Q H2)∨(J.go i H2∧ys.length<sizeLine∧∀ x H3,J.yld i H2 x H3→g x σ0 H3 fun σ4 H4=>WeakS σ0 σ4∧tc σ4 H4 fun b H5 =>
   if b=true then te σ4 H5 fun y H6=>H6 D=some (.lst ys)∧∃ m',m'<m∧W (i+1) m' (ys++[y]) (upd H6 D (.lst (ys++[y]))) else ∃ m',m'<m∧W (i+1) m' ys H5))
noncomputable def stC (k:Nat) (js:List Nat) (σ:St):St:=List.replicate k Option.none++js.map fun j=>(σ[j]?).getD Option.none
noncomputable def tComp (wi:TI) (k:Nat) (js:List Nat) (g:TG) (tc:TT) (te:TE):TE:=fun σ H Q =>
 wi σ H fun J H1=>∀ D,H1 D=none→∃ W:Nat→Nat→List V→Hp→Prop,(∃ m,W 0 m [] (upd H1 D (.lst [])))∧∀ i m ys H2,W i m ys H2→CTurn J D W (Q (.ref D)) g tc te (stC k js σ) i m ys H2
theorem stC_get {k:Nat}{js:List Nat}{σ:St}{i:Nat}{v:V} (h:(stC k js σ)[i]?=some (some v)):∃ j,k≤i∧js[i - k]?=some j∧σ[j]?=some (some v):=by
 unfold stC at h
 by_cases hi:i<k
 ·rw [List.getElem?_append_left (by simpa using hi),List.getElem?_replicate] at h
  simp [hi] at h
 ·rw [List.getElem?_append_right (by simpa using hi),List.length_replicate,List.getElem?_map] at h
  cases e:js[i - k]? with
  | none=>rw [e] at h; simp at h
  | some j =>
   rw [e] at h
   simp only [Option.map_some,Option.some.injEq] at h
   refine ⟨j,by omega,rfl,?_⟩
   cases q:σ[j]? with
   | none=>rw [q] at h; simp at h
   | some z =>
    rw [q] at h
    simp at h
    rw [h]
theorem relabel_free {scope:Scope}{env:Env}{x:Str} (h:scope.names.lookup x=some .free):(relabel scope env).names.lookup x=some .cell∨(relabel scope env).names.lookup x=some .free:=by
 unfold relabel
 dsimp only
 generalize scope.names=ns at h
 induction ns with
 | nil=>cases h
 | cons a r ih =>
  obtain ⟨n,k⟩:=a
  rw [List.lookup_cons] at h
  rw [List.map_cons]
  cases hx:x == n with
  | true =>
   rw [hx] at h
   cases h
   dsimp only
   split
   ·exact .inl (by rw [List.lookup_cons,hx])
   ·exact .inr (by rw [List.lookup_cons,hx])
  | false =>
   rw [hx] at h
   dsimp only
   split
   ·rw [List.lookup_cons,hx]; exact ih h
   ·rw [List.lookup_cons,hx]; exact ih h
inductive CInv (Y:Cx) (σ0:St) (tn:Nat→Heap→Prop) (fp:List Addr) (W:Nat→Nat→List V→Hp→Prop) (n:Nat) (s:Shared):Prop
 | mk (i:Nat) (ys:List V) (H:Hp) (I:Inv Y [] σ0 H s) (st:tn i s.heap) (fr:∀ b∈fp,H b=none) (w:W i n ys H)
theorem comp_loop {Y:Cx}{elt iter tg:Expr}{ifs:List Expr}{scope:Scope}{pos:Pos}{g:TG}{tc:TT}{te:TE}{J:It}{fp:List Addr}{it D:Addr}{tn:Nat→Heap→Prop}{σ0:St}{W:Nat→Nat→List V→Hp→Prop}{Q:Hp→Prop}{R:Result→Shared→Prop}
  (hc:Y.calm=true) (hx:Y.xe=fun _ _=>False) (T:Turn Y.prog Y.w Y.K tg J fp it tn) (stat:∀ H',(∀ b∈fp,H' b=none)→∀ b∈fp,FpOk Y [] H' b)
  (hg:PG Y tg g) (htc:PTs Y ifs tc) (hte:PE Y elt te) (turn:∀ i m ys H2,W i m ys H2→CTurn J D W Q g tc te σ0 i m ys H2) (fin:∀ H4 s5,Inv Y [] σ0 H4 s5→Q H4→R (.ok .next) s5)
  {s:Shared}{n:Nat} (h0:CInv Y σ0 tn fp W n s) (st3:tn 0 s.heap):codeAny (model Y.prog Y.w) Y.A (.compStart (.ListComp elt [⟨tg,iter,ifs,0⟩] scope pos) 0 (.ref it) (.ref D) Y.env) R s:=by
 have loop:codeAny (model Y.prog Y.w) Y.A (.compLoop (.ListComp elt [⟨tg,iter,ifs,0⟩] scope pos) 0 (.ref it) (.ref D) Y.env) R s:=by
  refine compLoop_go (CInv Y σ0 tn fp W) ?_ n h0
  rintro n s4 ⟨i,ys,H4,I4,st4,fr4,w4⟩
  obtain ⟨hD4,hd⟩:=turn i n ys H4 w4
  rcases hd with ⟨stop,q⟩ | ⟨go,hz,step⟩
  ·refine thn (T.done Y rfl rfl rfl hc i [] s4 _ H4 _ I4 (stat _ fr4) st4 stop) fun r s5 ⟨hr,I5⟩=>?_
   subst hr
   exact fin H4 s5 I5 q
  ·refine thn (T.item Y rfl rfl rfl hc i [] s4 _ H4 _ I4 (stat _ fr4) st4 go) fun r s5 ⟨u,hr,h5⟩=>?_
   subst hr
   refine thn h5 fun _ s6 ⟨x,H6,I6,r6,y6,st6,fr6⟩=>?_
   have I6':=I6.pinned (stat _ fr6) (T.obj _ _ st6)
   have back:∀ {σ7:St}{H7:Hp}{s7:Shared}{m:Nat}{zs:List V},Inv Y ([]++pinsAt fp s6.heap) σ7 H7 s7→WeakS σ0 σ7→W (i+1) m zs H7→CInv Y σ0 tn fp W m s7:=fun {σ7 H7 s7 m zs} I7 hw w7=>by
    refine ⟨i+1,zs,H7,I7.unpinned.weak hw.1 hw.2,T.keep _ _ _ st6 fun b hb o e=>(I7.pin (b,o) (List.mem_append_right _ (List.mem_append_right _ (mem_pinsAt hb e)))).1,fun b hb=>?_,w7⟩
    obtain ⟨o,e,d⟩:=T.obj _ _ st6 b hb
    exact (I7.pin (b,o) (List.mem_append_right _ (List.mem_append_right _ (mem_pinsAt hb e)))).2.1
   have no:∀ {E:Value→Shared→Prop} (e:Value) (s':Shared),Y.xe e s'→E e s':=fun e s' z=>by rw [hx] at z; exact z.elim
   refine wpAny_mono (hg _ s6 _ H6 x u _ I6' r6 (step x H6 y6)) (fun _ s7 ⟨σ7,H7,I7,hw7,q7⟩=>?_) no
   refine wpAny_mono (htc _ s7 σ7 H7 _ I7 q7) (fun b s8 ⟨H8,I8,q8⟩=>?_) no
   cases b with
   | false =>
    obtain ⟨m',hm,w8⟩:=(show ∃ m',m'<n∧W (i+1) m' ys H8 by simpa using q8)
    rw [if_neg (by decide)]
    exact ⟨m',hm,back I8 hw7 w8⟩
   | true =>
    rw [if_pos rfl] at q8
    rw [if_pos rfl]
    refine wpAny_mono (hte _ s8 σ7 H8 _ I8 q8) (fun y s9 ⟨vy,H9,I9,r9,q9⟩=>?_) no
    obtain ⟨hD9,m',hm,w9⟩:=q9
    refine wpAny_mono (mt_append (X:=Y) _ s9 σ7 H9 (.ref D) [vy] (.ref D) [y] (fun _ H'=>W (i+1) m' (ys++[vy]) H') I9 rfl (.cons r9 .nil) ⟨_,ys,vy,rfl,rfl,hD9,hz,w9⟩) (fun z s10 ⟨_,H10,I10,_,q10⟩=>?_) no
    exact ⟨m',hm,back I10 hw7 q10⟩
 exact codeAny_compStart_list loop (T.self _ 0 _ _ _ st3 loop)
theorem comp_enter {elt iter tg:Expr}{ifs:List Expr}{pos:Pos}{k:Nat}{js:List Nat}{J:It}{fp:List Addr}{it:Addr}{tn:Nat→Heap→Prop}{H2:Hp}{s2:Shared}{RR:Value→Addr→Result→Shared→Prop}
  (B:CompH X scope N k js) (I2:Inv X pins σ H2 s2) (T:Turn X.prog X.w X.K tg J fp it tn) (st2:tn 0 s2.heap) (f2:∀ b∈fp,FpOk X pins H2 b)
  (h:∀ (cl:List (Str × Addr)) (C:Addr) (s4:Shared),s2.heap.objs.size≤C→s2.heap.objs.size≠C→Inv (cxComp X scope N cl s2 H2 C fp) [] (stC k js σ) (upd H2 s2.heap.objs.size (.lst [])) s4→tn 0 s4.heap →
   codeAny (model X.prog X.w) X.A (.compStart (.ListComp elt [⟨tg,iter,ifs,0⟩] scope pos) 0 (.ref it) (.ref s2.heap.objs.size) (compEnvC scope cl C X.env)) (RR (.ref s2.heap.objs.size) C) s4) :
  wpAny (model X.prog X.w) X.A (newList []) (fun acc s3=>wpAny (model X.prog X.w) X.A (newFunctionEnv scope X.env.globals (clOf X.env scope.names []) [] X.env.qual none .none (some X.env)) (fun cenv s4 =>
   codeAny (model X.prog X.w) X.A (.compStart (.ListComp elt [⟨tg,iter,ifs,0⟩] scope pos) 0 (.ref it) acc { cenv with scope:=relabel scope X.env }) (RR acc cenv.locals) s4) X.xe s3) X.xe s2:=by
 have hcell:∀ x,(x,NameKind.free)∈scope.names→∃ c,X.env.cells.lookup x=some c:=fun x hx=>I2.ok.has x (B.free x hx)
 refine wpAny_newObj_type (wpAny_blockEnv ?_)
 dsimp only
 generalize hP:s2.heap.push { cls:=.type "list",dict:=none,data:=.seq ([]:List Value).toArray }=P
 have hPs:P.objs.size=s2.heap.objs.size+1:=by rw [← hP,Heap.size_push]
 have hDC:s2.heap.objs.size≠P.objs.size:=by rw [hPs]; exact Nat.ne_of_lt (Nat.lt_succ_self _)
 have hCle:s2.heap.objs.size≤P.objs.size:=by rw [hPs]; exact Nat.le_succ _
 generalize hP2:P.push { cls:=.type "dict",data:=.dict #[] }=P2
 have hP2s:P2.objs.size=P.objs.size+1:=by rw [← hP2,Heap.size_push]
 have hns1:(pushCells P2 scope.names).Ns P.objs.size (fun _=>none):=(hP2▸Heap.Ns.new P (.type "dict")).keeps (pushCells_keeps _ _)
 have old:∀ b o,s2.heap.get? b=some o→(pushCells P2 scope.names).get? b=some o:=fun b o e=>pushCells_keeps _ _ _ _ (hP2▸Heap.get?_push_of_some _ (hP▸Heap.get?_push_of_some _ e))
 have hacc:(pushCells P2 scope.names).get? s2.heap.objs.size=some { cls:=.type "list",dict:=none,data:=.seq ([]:List Value).toArray }:=pushCells_keeps _ _ _ _ (hP2▸Heap.get?_push_of_some _ (hP▸Heap.get?_push_size _ rfl))
 have hfx:∀ b∈fp,b<s2.heap.objs.size:=fun b hb=>by
  obtain ⟨o,e,_⟩:=T.obj _ _ st2 b hb
  exact Heap.lt_size e
 have ok:=I2.compOk (N:=N) (C:=P.objs.size) (ex:=fp) B.kind hcell hP2s hCle f2 hfx
 refine h (cellsFrom P2.objs.size scope.names (clOf X.env scope.names [])) P.objs.size _ hCle hDC ?_ (T.keep _ _ _ st2 fun b _ o e=>old b o e)
 refine ⟨ok,rfl,I2.bare,Un.laid old (Nat.le_refl _) (I2.hok.fresh (Nat.le_refl _)),⟨_,hns1,fun i x v e1 e2 e3=>?_⟩,fun x c e=>?_,?_,fun x c e=>?_,fun p hp=>(by cases hp),I2.hok.laid old (Nat.le_refl _) ?_,?_⟩
 ·obtain ⟨j,hki,hj,hv⟩:=stC_get e2
  obtain ⟨y,n1,n2,n3,n4⟩:=B.js _ j hj
  have ei:k+(i - k)=i:=by omega
  rw [ei] at n1
  have e1':N[i]?=some x:=e1
  rw [n1] at e1'
  cases e1'
  obtain ⟨m,hn,hl⟩:=I2.loc
  obtain ⟨u,r,lk⟩:=hl j x v n2 hv n4
  refine ⟨u,r,?_⟩
  have mem:=mem_of_look n3
  rcases lk with ⟨kk,_⟩ | ⟨kk,c,ec,ce⟩
  ·rcases B.free x mem with z | z
   ·rw [z] at kk; cases kk
   ·rw [z] at kk; cases kk
  ·obtain ⟨c0,ec0⟩:=cells_some scope.names P2.objs.size _ (.inr (clOf_has (env:=X.env) scope.names [] x (.inr ⟨mem,c,ec⟩)))
   have hc0:c0=c:=by
    rcases cells_look _ _ _ ec0 with ⟨q,_⟩ | ⟨_,q⟩
    ·have:=B.cell x q; rw [n3] at this; cases this
    ·have:=clSub q; rw [ec] at this; cases this; rfl
   subst hc0
   refine .inr ⟨relabel_free n3,c0,ec0,?_⟩
   obtain ⟨o,ho,hd⟩:=ce
   exact ⟨o,old _ _ ho,hd⟩
 ·rcases cells_look _ _ _ e with ⟨_,_,q⟩ | ⟨_,q⟩
  ·exact ⟨_,q⟩
  ·obtain ⟨v,o,ho,hd⟩:=I2.cell x c (clSub q)
   exact ⟨v,o,old _ _ ho,hd⟩
 ·show upd H2 s2.heap.objs.size (.lst []) P.objs.size=none
  rw [zAb (Ne.symm hDC)]
  exact I2.hok.fresh hCle
 ·rcases cells_look _ _ _ e with ⟨_,q,_⟩ | ⟨_,q⟩
  ·have hlt:s2.heap.objs.size<c:=Nat.lt_of_lt_of_le (by rw [hP2s,hPs]; omega) q
   rw [zAb (Nat.ne_of_gt hlt)]
   exact I2.hok.fresh (Nat.le_of_lt hlt)
  ·obtain ⟨v,o,ho,hd⟩:=I2.cell x c (clSub q)
   rw [zAb (Nat.ne_of_lt (Heap.lt_size ho))]
   exact I2.freeC x c (clSub q)
 ·exact ⟨Nat.zero_le _,[],_,.nil,hacc⟩
 ·unfold stC
  rw [List.length_append,List.length_replicate,List.length_map]
  exact B.len.symm
theorem comp_run {elt iter tg:Expr}{ifs:List Expr}{pos:Pos}{k:Nat}{js:List Nat}{g:TG}{tc:TT}{te:TE}{J:It}{fp:List Addr}{it:Addr}{tn:Nat→Heap→Prop}{H2:Hp}{s2:Shared}{RR:Value→Addr→Result→Shared→Prop}{Q:V→Hp→Prop}
  (B:CompH X scope N k js) (I2:Inv X pins σ H2 s2) (T:Turn X.prog X.w X.K tg J fp it tn) (st2:tn 0 s2.heap) (f2:∀ b∈fp,FpOk X pins H2 b)
  (hg:∀ cl s H C ex,PG (cxComp X scope N cl s H C ex) tg g) (htc:∀ cl s H C ex,PTs (cxComp X scope N cl s H C ex) ifs tc) (hte:∀ cl s H C ex,PE (cxComp X scope N cl s H C ex) elt te)
  (hW:∀ D,H2 D=none→∃ W:Nat→Nat→List V→Hp→Prop,(∃ m,W 0 m [] (upd H2 D (.lst [])))∧∀ i m ys H2,W i m ys H2→CTurn J D W (Q (.ref D)) g tc te (stC k js σ) i m ys H2)
  (fin:∀ cl C H4 s5,s2.heap.objs.size≤C→s2.heap.objs.size≠C→Inv (cxComp X scope N cl s2 H2 C fp) [] (stC k js σ) H4 s5→Q (.ref s2.heap.objs.size) H4→RR (.ref s2.heap.objs.size) C (.ok .next) s5) :
  wpAny (model X.prog X.w) X.A (newList []) (fun acc s3=>wpAny (model X.prog X.w) X.A (newFunctionEnv scope X.env.globals (clOf X.env scope.names []) [] X.env.qual none .none (some X.env)) (fun cenv s4 =>
   codeAny (model X.prog X.w) X.A (.compStart (.ListComp elt [⟨tg,iter,ifs,0⟩] scope pos) 0 (.ref it) acc { cenv with scope:=relabel scope X.env }) (RR acc cenv.locals) s4) X.xe s3) X.xe s2:=by
 obtain ⟨W,⟨m0,w0⟩,turn⟩:=hW s2.heap.objs.size (I2.hok.fresh (Nat.le_refl _))
 refine comp_enter B I2 T st2 f2 fun cl C s4 h1 h2 I4 st4=>?_
 refine comp_loop (Y:=cxComp X scope N cl s2 H2 C fp) B.calm rfl T (fun H' hn b hb=>⟨hn b hb,(I4.ok.exf b hb).1,I4.ok.exfs b hb,.inl hb,(I4.ok.exf b hb).2,fun p hp=>by cases hp⟩) (hg _ _ _ _ _) (htc _ _ _ _ _) (hte _ _ _ _ _) turn (fun H4 s5 I5 q=>fin cl C H4 s5 h1 h2 I5 q) (n:=m0) ⟨0,[],_,I4,st4,fun b hb=>?_,w0⟩ st4
 obtain ⟨o,e,_⟩:=T.obj _ _ st2 b hb
 rw [zAb (Nat.ne_of_lt (Heap.lt_size e))]
 exact (f2 b hb).1
theorem pe_comp {elt iter tg:Expr}{ifs:List Expr}{pos:Pos}{wi:TI}{g:TG}{tc:TT}{te:TE}{k:Nat}{js:List Nat} (B:CompH X scope N k js) (hi:PI X tg iter wi)
  (hg:∀ cl s H C ex,PG (cxComp X scope N cl s H C ex) tg g) (htc:∀ cl s H C ex,PTs (cxComp X scope N cl s H C ex) ifs tc) (hte:∀ cl s H C ex,PE (cxComp X scope N cl s H C ex) elt te)
  (hs:∀ x,foldedSetIterable iter X.env x=pure x:=by intro _; rfl):PE X (.ListComp elt [⟨tg,iter,ifs,0⟩] scope pos) (tComp wi k js g tc te):=by
 intro pins s σ H Q I h
 rw [eval_ListComp]
 refine wpAny_comprehension_free (use:=none) rfl hs (closureFor_ok fun x hx=>I.ok.has x (B.free x hx)) B.kind B.names (thn (hi pins s σ H _ I h) fun v s1 h1=>thn h1 fun itv s2 h2=>?_)
 obtain ⟨it,fp,tn,J,H2,e,I2,T,st2,f2,hW⟩:=h2
 subst e
 refine comp_run B I2 T st2 f2 hg htc hte hW fun cl C H4 s5 hCle hDC I5 q=>?_
 obtain ⟨m,hn,_⟩:=id I5.loc
 have hC4:H4 C=none:=I5.free
 refine ⟨m,hn,fun h' hs'=>⟨.ref s2.heap.objs.size,H4,?_,rfl,q⟩⟩
 have bl:∀ b o,s2.heap.get? b=some o→b≠C:=fun b o e=>Nat.ne_of_lt (Nat.lt_of_lt_of_le (Heap.lt_size e) hCle)
 refine I2.call' (s':={ s5 with heap:=h' }) (ch:=fp) I5.os ?_ (fun b u e=>?_) I5.bare (fun b hb=>⟨(f2 b hb).2.2.2.1,(f2 b hb).2.1,(f2 b hb).2.2.2.2.1,(f2 b hb).2.2.2.2.2⟩)
 ·have U:=I5.base
  exact ⟨fun b o e n hb hx=>(hs'.2 b (bl b o e)).trans (U.keep b o e n hb hx),fun b o e n hb hx=>by
    obtain ⟨sl,z⟩:=U.slot b o e n hb hx
    exact ⟨sl,(hs'.2 b (bl b o e)).trans z⟩,U.free,fun b o e hx=>by
    obtain ⟨o',z⟩:=U.there b o e hx
    exact ⟨o',(hs'.2 b (bl b o e)).trans z⟩,U.tups,U.frzs,U.tbls⟩
 ·refine (I5.hok b u e).stay (fun c w' hcc q'=>(hs'.2 c ?_).trans q') (fun _ q'=>q') fun _ _ q'=>q'
  rintro rfl
  rcases hcc with rfl | hcc
  ·rw [hC4] at e; cases e
  ·rw [hC4] at hcc; cases hcc
end
theorem same_new {H:Hp}{p:Addr} (h:H p=none) (o:HO):Same H (upd H p o):=fun b u q=>by rw [zAb (zAD q h)]; exact q
theorem Same.tup {K:W.Frag}{H H':Hp}{a:Addr}{xs:List V} (e:Same H H') (h:SqT K H a xs):SqT K H' a xs:=by
 rcases h with (h | ⟨o,h⟩) | h
 ·exact .inl (.inl (e _ _ h))
 ·exact .inl (.inr ⟨o,e _ _ h⟩)
 ·exact .inr h
section
variable {X:Cx}{pins:List (Addr × Obj)}{σ:St}{H:Hp}{s:Shared}
theorem Inv.yields {wr:List Addr}{h':Heap}{tk:Nat}{T:Addr}{xs:List V}{its:List Value} (I:Inv X pins σ H s) (hf:∀ b∈wr,FpOk X pins H b) (k:∀ b o,b∉wr→s.heap.get? b=some o→h'.get? b=some o)
  (hT:s.heap.objs.size≤T) (r:Vals xs its) (hz:xs.length≤sizeLine) (ht:IsTup h' T its.toArray):Inv X pins σ (upd H T (.tup xs)) { s with heap:=h',toks:=tk }:=by
 have nT:∀ b o,s.heap.get? b=some o→b≠T:=fun b o e=>Nat.ne_of_lt (Nat.lt_of_lt_of_le (Heap.lt_size e) hT)
 have hH:∀ b u,H b=some u→b≠T:=fun b u e=>Nat.ne_of_lt (Nat.lt_of_lt_of_le (I.hok.lt e) hT)
 have nw:∀ b u,H b=some u→b∉wr:=fun b u e hb=>by rw [(hf b hb).1] at e; cases e
 refine I.call' (s':={ s with heap:=h',toks:=tk }) (ch:=wr) rfl ⟨fun b o e n _ hx=>k b o hx e,fun b o e n _ hx=>⟨o.slots,k b o hx e⟩,fun b o e n _=>?_,fun b o e hx=>⟨o,k b o hx e⟩,fun b ys e=>?_,fun b o u e=>?_,fun b ps e=>⟨#[],?_⟩⟩ (fun b u e=>?_) I.bare
  (fun b hb=>⟨(hf b hb).2.2.2.1,(hf b hb).2.1,(hf b hb).2.2.2.2.1,(hf b hb).2.2.2.2.2⟩)
 ·rw [zAb (nT b o e)]; exact n
 ·rw [zAb (hH b _ e)]; exact e
 ·rw [zAb (hH b _ e)]; exact e
 ·rw [zAb (hH b _ e),e]; simp
 ·by_cases hb:b=T
  ·subst hb
   rw [zAy] at e
   cases e
   exact ⟨hz,its,r,ht⟩
  ·rw [zAb hb] at e
   refine (I.hok b u e).stay (fun c v hc q=>k c v ?_ q) (fun c q=>?_) fun c ys q=>?_
   ·rcases hc with rfl | hc
    ·exact nw _ _ e
    ·exact nw _ _ hc
   ·rw [zAb (hH c _ q)]; exact q
   ·rw [zAb (hH c _ q)]; exact q
theorem Inv.turnedL {wr:List Addr}{h':Heap}{tk:Nat} (I:Inv X pins σ H s) (hf:∀ b∈wr,FpOk X pins H b) (k:∀ b o,b∉wr→s.heap.get? b=some o→h'.get? b=some o):Inv X pins σ H { s with heap:=h',toks:=tk }:=by
 have nw:∀ b u,H b=some u→b∉wr:=fun b u e hb=>by rw [(hf b hb).1] at e; cases e
 refine I.call' (s':={ s with heap:=h',toks:=tk }) (ch:=wr) rfl ⟨fun b o e n _ hx=>k b o hx e,fun b o e n _ hx=>⟨o.slots,k b o hx e⟩,fun b o e n _=>n,fun b o e hx=>⟨o,k b o hx e⟩,fun b ys e=>e,fun b o u e=>e,fun b ps e=>⟨#[],by rw [e]; simp⟩⟩ (fun b u e=>?_) I.bare
  (fun b hb=>⟨(hf b hb).2.2.2.1,(hf b hb).2.1,(hf b hb).2.2.2.2.1,(hf b hb).2.2.2.2.2⟩)
 refine (I.hok b u e).stay (fun c v hc q=>k c v ?_ q) (fun c q=>q) fun c ys q=>q
 rcases hc with rfl | hc
 ·exact nw _ _ e
 ·exact nw _ _ hc
end
section
variable {X:Cx}
theorem call_range2:CallR X (.type "range") (fun vs H Q=>∃ i j:Int,vs=[.int i,.int j]∧∀ p,H p=none→Q (.ref p) (upd H p (.rng i j))):=by
 intro pins s σ H xs us Q I r h
 obtain ⟨i,j,rfl,q⟩:=h
 obtain ⟨u,v,rfl,ru,rv⟩:=vals2 r
 obtain ⟨t,rfl⟩:=ru
 obtain ⟨t',rfl⟩:=rv
 refine call_range_2 ⟨.ref s.heap.objs.size,_,I.laid (o:=.rng i j) (fun b o e=>Heap.get?_push_of_some _ e) (Nat.le_refl _) ?_,rfl,q _ (I.hok.fresh (Nat.le_refl _))⟩
 exact ⟨_,_,_,Heap.get?_push_size _ rfl⟩
theorem call_range1:CallR X (.type "range") (fun vs H Q=>∃ j:Int,vs=[.int j]∧∀ p,H p=none→Q (.ref p) (upd H p (.rng 0 j))):=by
 intro pins s σ H xs us Q I r h
 obtain ⟨j,rfl,q⟩:=h
 obtain ⟨u,rfl,ru⟩:=vals1 r
 obtain ⟨t,rfl⟩:=ru
 refine call_range_1 ⟨.ref s.heap.objs.size,_,I.laid (o:=.rng 0 j) (fun b o e=>Heap.get?_push_of_some _ e) (Nat.le_refl _) ?_,rfl,q _ (I.hok.fresh (Nat.le_refl _))⟩
 exact ⟨_,_,_,Heap.get?_push_size _ rfl⟩
noncomputable def upV (lo:Int) (n:Nat):List V:=(List.range n).map fun k=>V.int (lo+(k:Nat))
theorem vals_up {lo:Int}{n:Nat}{acc:Array Value} (h:ItemsOf (fun i v=>∃ t,v=.int (lo+i*1) t) acc n):Vals (upV lo n) acc.toList:=by
 obtain ⟨hs,h⟩:=h
 have key:∀ (k:Nat) (us:List Value) (lo:Int),us.length=k→(∀ (i:Nat) (v:Value),us[i]?=some v→∃ t,v=Value.int (lo+(i:Nat)) t)→Vals ((List.range k).map fun j=>V.int (lo+(j:Nat))) us:=by
  intro k
  induction k with
  | zero=>intro us lo hl _; cases us with
   | nil=>exact .nil
   | cons a r=>simp at hl
  | succ k ih =>
   intro us lo hl hh
   cases us with
   | nil=>simp at hl
   | cons a r =>
    rw [List.range_succ_eq_map,List.map_cons,List.map_map]
    refine .cons ?_ ?_
    ·obtain ⟨t,e⟩:=hh 0 a rfl
     exact ⟨t,e⟩
    ·have:=ih r (lo+1) (by simpa using hl) fun i v e=>by
      obtain ⟨t,q⟩:=hh (i+1) v (by simpa using e)
      exact ⟨t,by rw [q]; congr 1; omega⟩
     have e:((fun (j:Nat)=>V.int (lo+(j:Nat)))∘Nat.succ)=fun (j:Nat)=>V.int (lo+1+(j:Nat)):=by
      funext j
      simp only [Function.comp]
      congr 1
      omega
     rw [e]
     exact this
 exact key n acc.toList lo (by simpa using hs) fun i v e=>by
  obtain ⟨t,q⟩:=h i v (by simpa using e)
  exact ⟨t,by rw [q,Int.mul_one]⟩
theorem call_list_rng (hc:X.calm=true):CallR X (.type "list") (fun vs H Q=>∃ p i j,vs=[.ref p]∧H p=some (.rng i j)∧-(2 ^ 62)≤i∧i<2 ^ 62∧-(2 ^ 62)≤j∧j<2 ^ 62∧(j - i).toNat≤1000∧∀ l,H l=none→Q (.ref l) (upd H l (.lst (upV i (j - i).toNat)))):=by
 intro pins s σ H xs us Q I r h
 obtain ⟨p,i,j,rfl,hp,b1,b2,b3,b4,hn,q⟩:=h
 obtain ⟨u,rfl,ru⟩:=vals1 r
 cases ru
 obtain ⟨t,u,v,e⟩:=(show ObjOk X.prog X.w H s.heap p (.rng i j) from I.hok _ _ hp)
 refine call_list_range (n:=(j - i).toNat) (I.ok.hd hc) (show IsRange s.heap p i j 1 t u v from e) (small_one b1 b2 b3 b4) (by rw [rangeSize_one]; split <;> omega) (Nat.le_trans hn (by decide)) fun h' tk acc' c' hk he hi=>?_
 have hv:=vals_up hi
 refine ⟨.ref s.heap.objs.size,_,I.laid (o:=.lst (upV i (j - i).toNat)) hk (Nat.le_refl _) ⟨?_,acc'.toList,c',hv,by simpa using he⟩,rfl,q _ (I.hok.fresh (Nat.le_refl _))⟩
 unfold upV
 rw [List.length_map,List.length_range]
 exact Nat.le_trans hn (by decide)
noncomputable def rInsert:V→List V→Hp→VK→Prop:=fun x vs H Q=>∃ (l:Addr) (xs:List V) (i:Nat) (y:V),x=.ref l∧vs=[.int i,y]∧H l=some (.lst xs)∧xs.length<1000∧i≤xs.length∧Q .non (upd H l (.lst (xs.take i++y::xs.drop i)))
theorem mt_insert:MtM X "list.insert" rInsert:=by
 intro pins s σ H x vs v us Q I rx rv h
 obtain ⟨l,xs,i,y,rfl,rfl,hH,hz,hi,q⟩:=h
 cases rx
 obtain ⟨u1,u2,rfl,r1,r2⟩:=rv.two
 obtain ⟨t,rfl⟩:=r1
 obtain ⟨z,its,n,r,hl,e⟩:=I.lstM hH
 generalize hx:((i:Nat):Int)=x
 have hx0:0≤x:=by omega
 have hx1:x.toNat=i:=by omega
 have hfit:¬ (!Builtin.List.listFitsIndex x)=true:=by
  rw [fitsIndex_both (by omega) (by omega)]
  exact Bool.false_ne_true
 have hsz:its.toArray.size≤sizeLine:=by rw [List.size_toArray,← hl]; exact z
 refine call_meets F.slot_list_insert ⟨_,e,rfl⟩ F.entry_list_insert (F.args_list_insert_3 _ _ _) (PySem.AutoSeq1.list_insert_list_int_val_1 l _ n x t u2 hfit hsz) ⟨e,?_⟩
 refine ⟨.non,_,I.lset (its':=its.take i++u2::its.drop i) hH e ?_ ((r.take i).append (.cons r2 (r.drop i))) ?_,rfl,q⟩
 ·have hk:(if x<0 then (x+((its.toArray.size:Nat):Int)).toNat else min x.toNat its.toArray.size)=i:=by
   rw [if_neg (by omega),List.size_toArray]
   omega
  show (its.toArray.extract 0 (if x<0 then (x+((its.toArray.size:Nat):Int)).toNat else min x.toNat its.toArray.size)).push u2++its.toArray.extract (if x<0 then (x+((its.toArray.size:Nat):Int)).toNat else min x.toNat its.toArray.size)=_
  rw [hk]
  apply Array.ext'
  simp
  exact List.take_of_length_le (by rw [List.length_drop]; exact Nat.le_refl _)
 ·rw [List.length_append,List.length_cons,List.length_take,List.length_drop]
  have:(1000:Nat)≤sizeLine:=by decide
  omega
theorem truth_bools {A:Around}{prog:Program}{w:World}{bs:List Bool}{its:List Value} (r:Vals (bs.map V.bl) its):TruthOf prog w A (fun i v=>its.toArray[i]?=some v) (fun i=>bs.getD i false):=by
 intro i v s Q E hv hq
 have hv':its[i]?=some v:=by simpa using hv
 have hl:i<bs.length:=by
  have h1:=(List.getElem?_eq_some_iff.mp hv').1
  have h2:=r.length
  rw [List.length_map] at h2
  omega
 obtain ⟨u,e,ru⟩:=Vals.get r (i:=i) (x:=.bl bs[i]) (by rw [List.getElem?_map,List.getElem?_eq_getElem hl]; rfl)
 rw [e] at hv'
 cases hv'
 have ru':v=Value.bool bs[i]:=ru
 subst ru'
 have eq:bs.getD i false=bs[i]:=by simp [List.getD,hl]
 have hq':Q (bs.getD i false) s:=hq
 rw [eq] at hq'
 exact wpAny_truthy_bool hq'
theorem range_all (bs:List Bool):(List.range bs.length).all (fun i=>bs.getD i false)=bs.all id:=by
 induction bs with
 | nil=>rfl
 | cons b r ih =>
  rw [List.length_cons,List.range_succ_eq_map,List.all_cons,List.all_map,List.all_cons]
  show (b&&(List.range r.length).all ((fun i=>(b::r).getD i false)∘Nat.succ))=(b&&r.all id)
  rw [← ih]
  rfl
theorem range_any (bs:List Bool):(List.range bs.length).any (fun i=>bs.getD i false)=bs.any id:=by
 induction bs with
 | nil=>rfl
 | cons b r ih =>
  rw [List.length_cons,List.range_succ_eq_map,List.any_cons,List.any_map,List.any_cons]
  show (b||(List.range r.length).any ((fun i=>(b::r).getD i false)∘Nat.succ))=(b||r.any id)
  rw [← ih]
  rfl
theorem call_allL (hc:X.calm=true):CallR X (.builtin "all") (fun vs H Q=>∃ (p:Addr) (bs:List Bool),vs=[.ref p]∧SqL X.K H p (bs.map V.bl)∧Q (.bl (bs.all id)) H):=by
 intro pins s σ H xs us Q I r h
 obtain ⟨p,bs,rfl,hq,q⟩:=h
 obtain ⟨u,rfl,ru⟩:=vals1 r
 cases ru
 obtain ⟨its,rv,pl,hz⟩:=I.list hq
 have hlt:p<s.heap.objs.size:=by obtain ⟨_,e,_⟩:=pl.isList; exact Heap.lt_size e
 have hlen:=rv.length
 rw [List.length_map] at hlen
 refine call_all_walk (wpAny_pyIter_list pl.isList ?_)
 refine ⟨s.heap.objs.size,_,[s.heap.objs.size],_,_,_,_,rfl,Walks.list (A:=X.A.in1) (show X.A.in1.handled=none from I.ok.hd hc) s.heap.objs.size p (Nat.ne_of_lt hlt) its.toArray,⟨⟨_,Heap.get?_push_size _ rfl,rfl,rfl⟩,pl.isList.push _⟩,truth_bools rv,fun h' tk kk=>?_⟩
 have e:(List.range its.toArray.size).all (fun i=>bs.getD i false)=bs.all id:=by rw [List.size_toArray,← hlen]; exact range_all bs
 rw [e]
 refine ⟨.bl (bs.all id),H,?_,rfl,q⟩
 exact I.kept (t':=tk) fun b o eb=>kk b o (by simp only [List.mem_singleton]; exact Nat.ne_of_lt (Heap.lt_size eb)) (Heap.get?_push_of_some _ eb)
theorem call_anyL (hc:X.calm=true):CallR X (.builtin "any") (fun vs H Q=>∃ (p:Addr) (bs:List Bool),vs=[.ref p]∧SqL X.K H p (bs.map V.bl)∧Q (.bl (bs.any id)) H):=by
 intro pins s σ H xs us Q I r h
 obtain ⟨p,bs,rfl,hq,q⟩:=h
 obtain ⟨u,rfl,ru⟩:=vals1 r
 cases ru
 obtain ⟨its,rv,pl,hz⟩:=I.list hq
 have hlt:p<s.heap.objs.size:=by obtain ⟨_,e,_⟩:=pl.isList; exact Heap.lt_size e
 have hlen:=rv.length
 rw [List.length_map] at hlen
 refine call_any_walk (wpAny_pyIter_list pl.isList ?_)
 refine ⟨s.heap.objs.size,_,[s.heap.objs.size],_,_,_,_,rfl,Walks.list (A:=X.A.in1) (show X.A.in1.handled=none from I.ok.hd hc) s.heap.objs.size p (Nat.ne_of_lt hlt) its.toArray,⟨⟨_,Heap.get?_push_size _ rfl,rfl,rfl⟩,pl.isList.push _⟩,truth_bools rv,fun h' tk kk=>?_⟩
 have e:(List.range its.toArray.size).any (fun i=>bs.getD i false)=bs.any id:=by rw [List.size_toArray,← hlen]; exact range_any bs
 rw [e]
 refine ⟨.bl (bs.any id),H,?_,rfl,q⟩
 exact I.kept (t':=tk) fun b o eb=>kk b o (by simp only [List.mem_singleton]; exact Nat.ne_of_lt (Heap.lt_size eb)) (Heap.get?_push_of_some _ eb)
theorem op_is_bl:OpR X (compareOp .Is) (fun x y H Q=>∃ a b,x=.bl a∧y=.bl b∧Q (.bl (a == b)) H):=by
 intro pins s σ H x y v u Q I rx ry h
 obtain ⟨a,b,rfl,rfl,q⟩:=h
 cases rx
 cases ry
 exact is_bool ⟨.bl (a == b),H,I,rfl,q⟩
theorem op_isnot_bl:OpR X (compareOp .IsNot) (fun x y H Q=>∃ a b,x=.bl a∧y=.bl b∧Q (.bl (a != b)) H):=by
 intro pins s σ H x y v u Q I rx ry h
 obtain ⟨a,b,rfl,rfl,q⟩:=h
 cases rx
 cases ry
 exact isnot_bool ⟨.bl (a != b),H,I,rfl,q⟩
end
section
variable {X:Cx}
noncomputable def rCatT2 (K:W.Frag):R2:=fun x y H Q=>∃ a b xs ys,x=.ref a∧y=.ref b∧H a=some (.tup xs)∧H b=some (.tup ys)∧xs.length+ys.length≤sizeLine∧∀ p H1,Same H H1→H1 p=some (.tup (xs++ys))→Q (.ref p) H1
theorem op_catT2:OpR X (binaryOp .Add) (rCatT2 X.K):=by
 intro pins s σ H x y v u Q I rx ry h
 obtain ⟨a,b,xs,ys,rfl,rfl,ha,hb,hz,q⟩:=h
 by_cases hx:xs=[]
 ·subst hx
  cases rx
  cases ry
  obtain ⟨its,r1,p1,_⟩:=I.tuple (SqT.of ha)
  obtain ⟨its2,r2,p2,_⟩:=I.tuple (SqT.of hb)
  have e:its=[]:=(r1.nil_iff).mpr rfl
  subst e
  obtain ⟨⟨cls,dd,data,sl⟩,ho,hc,n,hd⟩:=id p1
  obtain ⟨⟨cls2,dd2,data2,sl2⟩,ho2,hc2,n2,hd2⟩:=id p2
  simp only at hc hd hc2 hd2
  subst hc hd hc2 hd2
  exact concat_meets ⟨_,ho,rfl⟩ ⟨_,ho2,rfl⟩ noFill_tuple_add seq_tuple_add PySem.F.slot_tuple_add PySem.F.entry_tuple_add (PySem.F.args_tuple_add_2 _ _)
   (tuple_addW0 a b ([]:List Value).toArray its2.toArray n n2 dd dd2 sl sl2 (by simp)) ⟨ho,ho2,⟨.ref b,H,I,rfl,q b H (Same.refl H) hb⟩⟩
 ·refine op_catT pins s σ H (.ref a) (.ref b) v u Q I rx ry ⟨a,b,xs,ys,rfl,rfl,SqT.of ha,SqT.of hb,hx,hz,fun e=>?_,fun _ p hp=>q p _ (same_new hp _) zAy⟩
  subst e
  exact q a H (Same.refl H) (by rw [List.append_nil]; exact ha)
theorem cutV_whole (xs:List V) (lo hi:Option Int) (h:HT.sIx xs.length 0 lo=0∧HT.sIx xs.length xs.length hi=xs.length):cutV xs lo hi=xs:=by
 unfold cutV
 rw [h.1,h.2,List.drop_zero,Nat.sub_zero,List.take_length]
theorem getItem_tuple_whole {prog:Program}{w:World}{A:Around}{E:Value→Shared→Prop}{s:Shared}{t sl:Addr}{items:Array Value}{vl vu:Value}{lo hi:Option Int}{Q:Value→Shared→Prop} (ht:IsTup s.heap t items) (hs:s.heap.IsSliceOf sl vl vu .none) (pl:IsPart vl lo) (pu:IsPart vu hi)
  (hw:HT.sIx items.size 0 lo=0∧HT.sIx items.size items.size hi=items.size)
  (h:Q (.ref t) s):wpAny (model prog w) A (getItem (.ref t) (.ref sl)) Q E s:=by
 obtain ⟨os,hos,hcs,hds⟩:=id hs
 have hTs:s.TypeIs (.ref sl) "slice":=⟨os,hos,hcs⟩
 unfold getItem
 try with_reducible refine wpAny_holding ?_
 first | refine wpAny_bind (wpAny_pure ?_) | skip
 refine wpAny_bind (wpAny_sequenceKey ht.typeIs (by decide) ?_)
 refine wpAny_bind (wpAny_callSpecial?_slot (name:=Str.ofString "__getitem__") ht.typeIs PyProof.Rows.slot_tuple_getitem
  (wpAny_call_entry PyProof.Rows.slot_tuple_getitem ht.typeIs entry_tuple_getitem ?_ (args_tuple_getitem _ _)))
 show wpAny _ _ (Builtin.Tuple.tupleItemsOf (.ref t) >>= _) _ _ s
 refine wpAny_bind (tupleItemsOf_ ht ?_)
 refine wpAny_bind (wpAny_typeOf hTs ?_)
 rw [if_pos (by decide)]
 refine wpAny_bind (HT.sliceApplied_gen hs pl pu ?_)
 have hyes:(((HT.sIx items.size 0 lo:Nat):Int) == 0&&(1:Int) == 1&&(HT.sIx items.size items.size hi - HT.sIx items.size 0 lo) == items.size)=true:=by
  rw [hw.1,hw.2]
  simp
 show wpAny _ _ (if (((HT.sIx items.size 0 lo:Nat):Int) == 0&&(1:Int) == 1&&(HT.sIx items.size items.size hi - HT.sIx items.size 0 lo) == items.size)=true then _ else _) _ _ s
 rw [if_pos hyes]
 have hEx:Builtin.Tuple.tupleIsExact (Value.ref t)=(typeOf (Value.ref t) >>= fun c=>pure (c == .type "tuple")):=rfl
 rw [hEx]
 refine wpAny_bind (wpAny_bind (wpAny_typeOf ht.typeIs (wpAny_pure ?_)))
 rw [if_pos (by decide)]
 exact wpAny_bind (wpAny_rule (wpAny_pure ⟨_,rfl,wpAny_pure h⟩))
noncomputable def rSlT2 (K:W.Frag):V→Option Int→Option Int→Hp→VK→Prop:=fun x lo hi H Q=>∃ a xs,x=.ref a∧H a=some (.tup xs)∧∀ p H1,Same H H1→H1 p=some (.tup (cutV xs lo hi))→Q (.ref p) H1
theorem sl_tup2:SlR X (rSlT2 X.K):=by
 intro pins s σ H x v vl vu lo hi sl Q I rx hs pl pu h
 obtain ⟨a,xs,rfl,hx,q⟩:=h
 by_cases hw:HT.sIx xs.length 0 lo=0∧HT.sIx xs.length xs.length hi=xs.length
 ·cases rx
  obtain ⟨its,r,ht,hz⟩:=I.tuple (SqT.of hx)
  have hlen:its.toArray.size=xs.length:=by rw [List.size_toArray]; exact r.length.symm
  refine ⟨"tuple",_,PyProof.Rows.slot_tuple_getitem.lookup,ht.typeIs,?_⟩
  exact getItem_tuple_whole ht hs pl pu (by rw [hlen]; exact hw) ⟨.ref a,H,I,rfl,q a H (Same.refl H) (by rw [cutV_whole xs lo hi hw]; exact hx)⟩
 ·exact sl_tup pins s σ H (.ref a) v vl vu lo hi sl Q I rx hs pl pu ⟨a,xs,rfl,SqT.of hx,hw,fun p hp=>q p _ (same_new hp _) zAy⟩
end
structure Callee (P:Program) (w:World) (K:W.Frag) (mg:Str→Option Value) (base:Heap) (x:Str) (ps:List Str) (k:Nat) (sp:Sp):Prop where
 ex:∃ f fd,FnOk P w K mg base CX0 k f fd ps sp∧Binds K fd ps []∧W.keepIn K (.ref f)=true∧mg x=some (.ref f)
section
variable {X:Cx}{a b c d:Expr}{ta tb tc td:TE}{pos:Pos}
theorem pe_callC {x:Str}{ps:List Str}{k k':Nat}{sp:Sp}{e:Expr}{es:List Expr}{t:TA}{p:Pos} (C:Callee X.prog X.w X.K X.mg X.base x ps k sp) (hr:Room k' X.A) (hg:Gl X x) (ha:PA X (e::es) t) (hk:k≤k':=by decide) (hdb:(x == ("__debug__":Str))=false:=by decide)
  (h1:starEach (e::es) X.env=(false,eval e X.env)::starEach es X.env:=by rfl) (h2:(backTo pos (starEach es X.env)).any (·.1)=false:=by rfl) :
  PE X (.Call (.Name x p) (e::es) [] pos) (tCall sp [] E0 t):=by
 obtain ⟨f,fd,F,hb,hkp,hm⟩:=C.ex
 exact pe_call (hdb:=hdb) (he:=h1) (hpl:=h2) F (hr.mono hk) hg hm hkp hb .nil pass0 ha
theorem pt_chain3 {op op' op2:CmpOp}{r r' r2:R2} (ho:OpR X (compareOp op) r) (ho':OpR X (compareOp op') r') (ho2:OpR X (compareOp op2) r2) (ha:PE X a ta) (hb:PE X b tb) (hc:PE X c tc) (hd:PE X d td)
  (hm:lastMarks [op,op',op2] [b,c,d]=false:=by with_unfolding_all rfl):PT X (.Compare a [op,op',op2] [b,c,d] pos) (fun σ H Q=>ta σ H fun x H1=>tb σ H1 fun y H2=>r x y H2 fun z H3=>∃ k,z=.bl k ∧
   (if k=true then tc σ H3 fun w' H4=>r' y w' H4 fun z2 H5=>∃ k2,z2=.bl k2∧(if k2=true then td σ H5 fun v' H6=>r2 w' v' H6 fun z3 H7=>∃ k3,z3=.bl k3∧Q k3 H7 else Q false H5) else Q false H3)):=by
 intro pins s σ H Q I h
 refine isTrue_chain (thn (ha pins s σ H _ I h) fun v s1 ⟨x,H1,I1,r1,q1⟩=>test_link (thn (hb pins s1 σ H1 _ I1 q1) fun u s2 ⟨y,H2,I2,r2,q2⟩ =>
  thn (ho pins s2 σ H2 x y v u _ I2 r1 r2 q2) fun d s3 ⟨z,H3,I3,r3,k,e,q3⟩=>?_)) hm
 subst e
 cases r3
 refine wpAny_truthy_bool ?_
 cases k with
 | false=>exact ite_ff ⟨H3,I3,q3⟩
 | true =>
  refine ite_tt (test_link (thn (hc pins s3 σ H3 _ I3 q3) fun w' s4 ⟨z',H4,I4,r4,q4⟩=>thn (ho' pins s4 σ H4 y z' u w' _ I4 r2 r4 q4) fun d' s5 ⟨z2,H5,I5,r5,k2,e2,q5⟩=>?_))
  subst e2
  cases r5
  refine wpAny_truthy_bool ?_
  cases k2 with
  | false=>exact ite_ff ⟨H5,I5,q5⟩
  | true =>
   refine ite_tt (test_last (thn (hd pins s5 σ H5 _ I5 q5) fun w2 s6 ⟨z6,H6,I6,r6,q6⟩=>thn (ho2 pins s6 σ H6 z' z6 w' w2 _ I6 r4 r6 q6) fun d2 s7 ⟨z7,H7,I7,r7,k3,e3,q7⟩=>?_))
   subst e3
   cases r7
   exact wpAny_truthy_bool ⟨H7,I7,q7⟩
end
def Keep (a0:Addr) (H H':Hp):Prop:=∀ b o,H b=some o→H' b=some o∨(b=a0∧∃ xs ys,o=.lst xs∧H' b=some (.lst ys))
def TK (K:W.Frag) (H H':Hp):Prop:=∀ p xs,SqT K H p xs→SqT K H' p xs
theorem TK.refl (K:W.Frag) (H:Hp):TK K H H:=fun _ _ h=>h
theorem TK.trans {K:W.Frag}{H H1 H2:Hp} (a:TK K H H1) (b:TK K H1 H2):TK K H H2:=fun p xs h=>b p xs (a p xs h)
def StAt (H:Hp) (a:Addr):Prop:=∃ s b,H a=some (.lst [.int s,.bl b])∧(b=false→0≤s∧s<2147483647)
theorem dT {p:Prop} [Decidable p] (h:p):decide p=true:=decide_eq_true h
theorem bt_len:bootBuiltins "len"=some (.builtin "len"):=by decide +kernel
theorem bt_range:bootBuiltins "range"=some (.type "range"):=by decide +kernel
theorem bt_list:bootBuiltins "list"=some (.type "list"):=by decide +kernel
theorem bt_tuple:bootBuiltins "tuple"=some (.type "tuple"):=by decide +kernel
theorem bt_min:bootBuiltins "min"=some (.builtin "min"):=by decide +kernel
theorem bt_max:bootBuiltins "max"=some (.builtin "max"):=by decide +kernel
theorem bt_zip:bootBuiltins "zip"=some (.type "zip"):=by decide +kernel
theorem bt_isinstance:bootBuiltins "isinstance"=some (.builtin "isinstance"):=by decide +kernel
theorem bt_all:bootBuiltins "all"=some (.builtin "all"):=by decide +kernel
theorem bt_any:bootBuiltins "any"=some (.builtin "any"):=by decide +kernel
theorem bt_int:bootBuiltins "int"=some (.type "int"):=by decide +kernel
theorem bt_bool:bootBuiltins "bool"=some (.type "bool"):=by decide +kernel
theorem bt_enumerate:bootBuiltins "enumerate"=some (.type "enumerate"):=by decide +kernel
theorem bt_str:bootBuiltins "str"=some (.type "str"):=by decide +kernel
structure C4 where
 a:Int
 b:Int
 k:Int
 o:Int
noncomputable def C4.vs (c:C4):List V:=[.int c.a,.int c.b,.int c.k,.int c.o]
def C4.ok (sw pl:Int) (c:C4):Prop:=0≤c.a∧c.a<c.b∧c.b<pl∧0≤c.k∧c.k<sw∧0≤c.o∧c.o<2
def CtAt (K:W.Frag) (H:Hp) (v:V) (c:C4):Prop:=∃ p,v=.ref p∧SqT K H p c.vs
def CtsAt (K:W.Frag) (H:Hp) (xs:List V) (cs:List C4):Prop:=Paired (CtAt K H) xs cs
structure NetOk (ms mp mc:Int) (sw pl:Int) (cs:List C4):Prop where
 s1:1≤sw
 s2:sw≤ms
 p1:2≤pl
 p2:pl≤mp
 c1:(cs.length:Int)≤mc
 c2:∀ c∈cs,c.ok sw pl
structure RowsAt (K:W.Frag) (H0 H:Hp) (a l:Addr) (sw pl:Int) (xs:List V) (cs:List C4):Prop where
 kp:Keep a H0 H
 st:StAt H a
 at':H l=some (.lst xs)
 ct:CtsAt K H xs cs
 ok:∀ c∈cs,c.ok sw pl
inductive Ty2 (K:W.Frag) (H:Hp):V→String→Prop where
 | non:Ty2 K H .non "NoneType"
 | bl (x:Bool):Ty2 K H (.bl x) "bool"
 | int (i:Int):Ty2 K H (.int i) "int"
 | str (x:Str):Ty2 K H (.str x) "str"
 | tup {a:Addr}{xs:List V} (e:SqT K H a xs):Ty2 K H (.ref a) "tuple"
 | lst {a:Addr}{xs:List V} (e:SqL K H a xs):Ty2 K H (.ref a) "list"
 | dk {a:Addr}{kvs:List (Key × V)} (e:H a=some (.dK kvs)):Ty2 K H (.ref a) "dict"
noncomputable def kOf (t T:String):Bool:=t == T||(t == "bool"&&T == "int")
section
variable {X:Cx}
theorem isinst2_ok {A:Around}{E:Value→Shared→Prop}{pins:List (Addr × Obj)}{σ:St}{H:Hp}{s:Shared}{Q:Value→Shared→Prop}{c:Value}{b:Bool}{x:V}{u:Value}{t:String} (I:Inv X pins σ H s) (rx:RelV x u) (ty:Ty2 X.K H x t) (e:W.kitOne X.K (.type t) c=some b) (h:∀ tk,Q (.bool b) { s with toks:=tk }) :
  wpAny (model X.prog X.w) A (call (.builtin "isinstance") [u,c]) Q E s:=by
 cases ty with
 | non=>cases (show u=Value.none from rx); exact W.kia_one W.kitx_none I.kIn True.intro e (fun z=>nomatch z) h
 | bl y=>cases (show u=Value.bool y from rx); exact W.kia_one W.kitx_bool I.kIn True.intro e (fun z=>nomatch z) h
 | int i=>obtain ⟨t,q⟩:=(show ∃ t,u=Value.int i t from rx); cases q; exact W.kia_one W.kitx_int I.kIn True.intro e (fun z=>nomatch z) h
 | str y=>obtain ⟨t,q⟩:=(show ∃ t,u=Value.str y t from rx); cases q; exact W.kia_one W.kitx_str I.kIn True.intro e (fun z=>nomatch z) h
 | @lst a xs ea =>
  cases (show u=Value.ref a from rx)
  obtain ⟨its,_,pl,_⟩:=I.list ea
  obtain ⟨o,h1,h2,_⟩:=pl.isList
  exact W.kia_one W.kitx_list I.kIn ⟨o,h1,h2⟩ e (fun z=>nomatch z) h
 | @tup a xs ea =>
  cases (show u=Value.ref a from rx)
  obtain ⟨its,_,pl,_⟩:=I.tuple ea
  obtain ⟨o,h1,h2,_⟩:=pl
  exact W.kia_one W.kitx_tuple I.kIn ⟨o,h1,h2⟩ e (fun z=>nomatch z) h
 | @dk a kvs ea =>
  cases (show u=Value.ref a from rx)
  obtain ⟨_,_,vs,_,p⟩:=(show ObjOk X.prog X.w H s.heap a (.dK kvs) from I.hok a _ ea)
  obtain ⟨o,es,ep,h1,h2,_⟩:=p
  exact W.kia_one W.kitx_dict I.kIn ⟨o,h1,h2.1⟩ e (fun z=>nomatch z) h
theorem call_isinst2:CallR X (.builtin "isinstance") (fun vs H Q=>∃ x t T b,vs=[x,.ty T]∧Ty2 X.K H x t∧W.kitOne X.K (.type t) (.type T)=some b∧Q (.bl b) H):=by
 intro pins s σ H xs us Q I r h
 obtain ⟨x,t,T,b,rfl,ty,e,q⟩:=h
 obtain ⟨u,v,rfl,ru,rv⟩:=vals2 r
 cases rv
 exact isinst2_ok I ru ty e fun tk=>⟨.bl b,H,I.tok tk,rfl,q⟩
end
theorem kit_all2 (K:W.Frag):(∀ t∈["NoneType","bool","int","str","tuple","list","dict"],∀ T∈["bool","int","tuple","list","str","dict"],W.kitOne K (.type t) (.type T)=some (kOf t T)):=by
 intro t ht T hT
 simp only [List.mem_cons,List.not_mem_nil,or_false] at ht hT
 rcases ht with rfl | rfl | rfl | rfl | rfl | rfl | rfl <;> rcases hT with rfl | rfl | rfl | rfl | rfl | rfl <;> rfl
mutual
inductive Rp (K:W.Frag) (H:Hp) (a0:Addr→Prop):V→PyData→Prop where
 | non:Rp K H a0 .non .none
 | bl (b:Bool):Rp K H a0 (.bl b) (.bool b)
 | int (i:Int):Rp K H a0 (.int i) (.int i)
 | str (x:Str):Rp K H a0 (.str x) (.str x)
 | tup {p:Addr}{xs:List V}{ds:List PyData} (h:SqT K H p xs) (r:RpL K H a0 xs ds):Rp K H a0 (.ref p) (.tuple ds)
 | lst {p:Addr}{xs:List V}{ds:List PyData} (n:a0 p) (h:SqL K H p xs) (r:RpL K H a0 xs ds):Rp K H a0 (.ref p) (.list ds)
inductive RpL (K:W.Frag) (H:Hp) (a0:Addr→Prop):List V→List PyData→Prop where
 | nil:RpL K H a0 [] []
 | cons {x:V}{xs:List V}{d:PyData}{ds:List PyData} (h:Rp K H a0 x d) (t:RpL K H a0 xs ds):RpL K H a0 (x::xs) (d::ds)
end
noncomputable def C4.d (c:C4):PyData:=.tuple [.int c.a,.int c.b,.int c.k,.int c.o]
open PySem PySem.Spec PyProof.Rows
section
variable {prog:Program}{w:World}{A:Around}{E:Value→Shared→Prop}{s:Shared}
theorem tupNext_item {j t:Addr}{n:Nat}{vs:Array Value}{v:Value}{Q:Value→Shared→Prop} (hj:s.heap.IsTupleIter j t n) (ht:s.heap.IsTuple t vs) (hv:vs[n]?=some v)
  (q:∀ h',h'.IsTupleIter j t (n+1)→Heap.SameBut j s.heap h'→Q v { s with heap:=h' }):wpAny (model prog w) A (Builtin.SmallTypes.nextOf (.ref j)) Q E s:=by
 obtain ⟨oj,e1,c1,d1⟩:=id hj
 obtain ⟨ot,e2,_,m,d2⟩:=ht
 unfold Builtin.SmallTypes.nextOf
 refine wpAny_bind (wpAny_callSpecial?_slot (name:=Str.ofString "__next__") hj.typeIs F.slot_tuple_iterator_next (wpAny_call_entry F.slot_tuple_iterator_next hj.typeIs F.entry_tuple_iterator_next ?_ (F.args_tuple_iterator_next_1 _)))
 show wpAny _ _ (field (.ref j) 0 >>= _) _ _ s
 refine wpAny_bind (wpAny_field e1 d1 (x:=.ref t) rfl ?_)
 show wpAny _ _ (if (Value.ref t == Value.none)=true then _ else _) _ _ s
 rw [if_neg (show ¬ ((Value.ref t == Value.none)=true) from fun z=>Bool.false_ne_true z)]
 show wpAny _ _ (field (.ref j) 1 >>= _) _ _ s
 refine wpAny_bind (wpAny_field e1 d1 (x:=.int n 0) rfl ?_)
 show wpAny _ _ (seqItems? (.ref t) >>= _) _ _ s
 refine wpAny_bind (wpAny_seqItems e2 d2 ?_)
 simp only [hv,Int.toNat_natCast]
 refine wpAny_bind (wpAny_setField e1 d1 (by simp) (wpAny_pure ⟨v,rfl,wpAny_pure (q _ ?_ (Heap.SameBut.update ..))⟩))
 refine ⟨_,Heap.get?_update_self _ e1 (Obj.isFreed_of_fields (Obj.data_mapFields d1 _)),(Obj.cls_mapFields ..).trans c1,?_⟩
 rw [Obj.data_mapFields d1]
 simp [rawInt]
theorem tupNext_end {j t:Addr}{n:Nat}{vs:Array Value}{Q:Value→Shared→Prop} (hh:A.handled=none) (hj:s.heap.IsTupleIter j t n) (ht:s.heap.IsTuple t vs) (hv:vs[n]?=none)
  (q:∀ h' e,Heap.ExtBut j s.heap h'→(∃ o,h'.get? e=some o∧o.cls=.type "StopIteration")→E (.ref e) { s with heap:=h' }):wpAny (model prog w) A (Builtin.SmallTypes.nextOf (.ref j)) Q E s:=by
 obtain ⟨oj,e1,c1,d1⟩:=id hj
 obtain ⟨ot,e2,_,m,d2⟩:=ht
 unfold Builtin.SmallTypes.nextOf
 refine wpAny_bind (wpAny_callSpecial?_slot (name:=Str.ofString "__next__") hj.typeIs F.slot_tuple_iterator_next (wpAny_call_entry F.slot_tuple_iterator_next hj.typeIs F.entry_tuple_iterator_next ?_ (F.args_tuple_iterator_next_1 _)))
 show wpAny _ _ (field (.ref j) 0 >>= _) _ _ s
 refine wpAny_bind (wpAny_field e1 d1 (x:=.ref t) rfl ?_)
 show wpAny _ _ (if (Value.ref t == Value.none)=true then _ else _) _ _ s
 rw [if_neg (show ¬ ((Value.ref t == Value.none)=true) from fun z=>Bool.false_ne_true z)]
 show wpAny _ _ (field (.ref j) 1 >>= _) _ _ s
 refine wpAny_bind (wpAny_field e1 d1 (x:=.int n 0) rfl ?_)
 show wpAny _ _ (seqItems? (.ref t) >>= _) _ _ s
 refine wpAny_bind (wpAny_seqItems e2 d2 ?_)
 simp only [hv,Int.toNat_natCast]
 refine wpAny_bind (wpAny_rule (wpAny_bind (wpAny_setField e1 d1 (by simp) ?_)))
 refine wpAny_bind (m:=newExc (.type "StopIteration") []) ?_
 simp only [newTuple,newExc]
 refine wpAny_bind (wpAny_newObj_type ?_ (by size_fits))
 refine wpAny_bind (m:=firstArgMember _ _) (wpAny_of_eq (a:=Value.none) (by first | (simp only [firstArgMember]; rfl) | rfl) ?_)
 refine wpAny_newObj_type ?_ (by size_fits)
 simp only [raiseNew]
 refine wpAny_bind (wpAny_handled ?_)
 first | rw [hh] | rw [show A.in1.handled=none from hh]
 refine wpAny_bind (wpAny_pure (wpAny_throw ?_))
 exact q _ _ (((Heap.SameBut.update ..).extBut.push _).push _) ⟨_,Heap.get?_push_size _ rfl,rfl⟩
end
theorem drawsTuple {prog:Program}{w:World}{A:Around} (hh:A.handled=none) (j t:Addr) (hne:t≠j) (vs:Array Value) :
  Draws prog w A j [j,t] vs.size (fun i v=>vs[i]?=some v) (fun i h=>h.IsTupleIter j t i∧h.IsTuple t vs) where
 live:=fun _ _ st=>let ⟨o,ho,_⟩:=st.1; ⟨o,ho⟩
 frame:=fun _ _ _ st kk=>⟨st.1.at fun o e=>kk j (by simp) o e,let ⟨o,ho,r⟩:=st.2; ⟨o,kk t (by simp) o ho,r⟩⟩
 item:=fun i s Q E hi st hQ=>tupNext_item st.1 st.2 (v:=vs[i]) (by simp [hi]) fun h' h1 h2=>hQ _ h' s.toks (by simp [hi]) ⟨h1,st.2.extBut h2.extBut hne⟩ h2
 done:=fun s Q E st hE=>tupNext_end hh st.1 st.2 (by simp) hE
theorem enumNewT (l:Addr) (items:Array Value) (n:Nat) (dct:Option Addr) (sl:Array (Option Value)) :
  Meets (Builtin.«enumerate.__new__» ⟨[.type "enumerate",.ref l],[]⟩) (fun _ R s=>s.heap.get? l=some { cls:=.type "tuple",dict:=dct,data:=.seq items n,slots:=sl } ∧
   R (.ok (.ret (.ref (s.heap.push { cls:=.type "tuple_iterator",data:=.fields #[.ref l,.int 0 0] }).objs.size)))
    { s with heap:=(s.heap.push { cls:=.type "tuple_iterator",data:=.fields #[.ref l,.int 0 0] }).push { cls:=.type "enumerate",data:=.fields #[.none,.bool false,.ref s.heap.objs.size,rawInt 0,.none,.none] } }) :=
 .of_wp fun prog w A R s h=>by
  obtain ⟨hp,g,d,tk,os⟩:=s; obtain ⟨hl,h⟩:=h
  have hsub:=sub_enumerate
  have hT:Heap.IsTuple (Shared.heap ⟨hp,g,d,tk,os⟩) l items:=⟨_,hl,rfl,n,rfl⟩
  wp_walk using AutoSeq1.wpAny_loadPart' hl
  refine wpAny_stack_any fun st=>wpAny_pure ?_
  split
  ·rename_i c _ _ _ _ _
   cases (c == Value.type "enumerate") <;> (wp_walk using AutoSeq1.wpAny_loadPart' hl,wpAny_pyIter_tuple hT; exact ⟨_,rfl,h⟩)
  ·wp_walk using AutoSeq1.wpAny_loadPart' hl,wpAny_pyIter_tuple hT
   exact ⟨_,rfl,h⟩
open PySem PySem.Spec PyProof.Rows
section
variable {X:Cx}{pins:List (Addr × Obj)}{σ:St}{H:Hp}{s:Shared}
mutual
theorem Inv.reads (I:Inv X pins σ H s) {a0:Addr→Prop}:∀ {x:V}{d:PyData}{u:Value},Rp X.K H a0 x d→RelV x u→∃ as,Reads s.heap u d as
 | _,_,u,.non,r=>by cases (show u=Value.none from r); exact ⟨_,.none⟩
 | _,_,u,.bl b,r=>by cases (show u=Value.bool b from r); exact ⟨_,.bool b⟩
 | _,_,u,.int i,r=>by obtain ⟨t,q⟩:=(show ∃ t,u=Value.int i t from r); cases q; exact ⟨_,.int i t⟩
 | _,_,u,.str y,r=>by obtain ⟨t,q⟩:=(show ∃ t,u=Value.str y t from r); cases q; exact ⟨_,.str y t⟩
 | _,_,u,.tup (p:=p) h rr,r=>by
  cases (show u=Value.ref p from r)
  obtain ⟨its,rv,⟨o,h1,h2,n,h3⟩,_⟩:=I.tuple h
  obtain ⟨as,ra⟩:=I.readsL rr rv
  exact ⟨_,.tuple h1 h2 h3 (by simpa using ra)⟩
 | _,_,u,.lst (p:=p) _ h rr,r=>by
  cases (show u=Value.ref p from r)
  obtain ⟨its,rv,pl,_⟩:=I.list h
  obtain ⟨o,h1,h2,n,h3⟩:=pl.isList
  obtain ⟨as,ra⟩:=I.readsL rr rv
  exact ⟨_,.list h1 h2 h3 (by simpa using ra)⟩
theorem Inv.readsL (I:Inv X pins σ H s) {a0:Addr→Prop}:∀ {xs:List V}{ds:List PyData}{us:List Value},RpL X.K H a0 xs ds→Vals xs us→∃ as,ReadsAll s.heap us ds as
 | _,_,_,.nil,.nil=>⟨_,.nil⟩
 | _,_,_,.cons h t,.cons r rr=>by
  obtain ⟨a1,q1⟩:=I.reads h r
  obtain ⟨a2,q2⟩:=I.readsL t rr
  exact ⟨_,.cons q1 q2⟩
end
def okD (d:PyData):Prop:=d.canLay0=true∧d.depth≤60
theorem op_eqD (hu:X.A.units+64<cLine):OpR X (compareOp .Eq) (fun x y H Q=>∃ (N N':Addr→Prop) (da db:PyData),Rp X.K H N x da∧Rp X.K H N' y db∧okD da∧okD db∧Q (.bl (PyData.eqv da db)) H):=by
 intro pins s σ H x y v u Q I rx ry h
 obtain ⟨N,N',da,db,hx,hy,o1,o2,q⟩:=h
 obtain ⟨as,ra⟩:=I.reads hx rx
 obtain ⟨bs,rb⟩:=I.reads hy ry
 exact SeqAt.compareEq_reads ra rb o1.1 o2.1 (by have:=o1.2; omega) ⟨.bl _,H,I,rfl,q⟩
theorem op_neD (hu:X.A.units+64<cLine):OpR X (compareOp .NotEq) (fun x y H Q=>∃ (N N':Addr→Prop) (da db:PyData),Rp X.K H N x da∧Rp X.K H N' y db∧okD da∧okD db∧Q (.bl (!PyData.eqv da db)) H):=by
 intro pins s σ H x y v u Q I rx ry h
 obtain ⟨N,N',da,db,hx,hy,o1,o2,q⟩:=h
 obtain ⟨as,ra⟩:=I.reads hx rx
 obtain ⟨bs,rb⟩:=I.reads hy ry
 exact SeqAt.compareNe_reads ra rb o1.1 o2.1 (by have:=o1.2; omega) ⟨.bl _,H,I,rfl,q⟩
end
open PySem PySem.Spec PyProof.Rows
def SqX (b:Bool) (K:W.Frag) (H:Hp) (a:Addr) (xs:List V):Prop:=match b with
 | true=>SqT K H a xs
 | false=>SqL K H a xs
def IsX (b:Bool) (h:Heap) (a:Addr) (vs:Array Value):Prop:=match b with
 | true=>h.IsTuple a vs
 | false=>h.IsList a vs
def ItX (b:Bool) (h:Heap) (j a:Addr) (i:Nat):Prop:=match b with
 | true=>h.IsTupleIter j a i
 | false=>h.IsListIter j a i
theorem ItX.obj {b:Bool}{h:Heap}{j a:Addr}{i:Nat} (x:ItX b h j a i):∃ o,h.get? j=some o∧∀ v,o.data≠.cell v:=by
 cases b with
 | true=>obtain ⟨o,h1,_,h2⟩:=(x:h.IsTupleIter j a i); exact ⟨o,h1,fun v q=>by rw [h2] at q; cases q⟩
 | false=>obtain ⟨o,h1,_,h2⟩:=(x:h.IsListIter j a i); exact ⟨o,h1,fun v q=>by rw [h2] at q; cases q⟩
theorem ItX.keep {b:Bool}{h h':Heap}{j a:Addr}{i:Nat} (x:ItX b h j a i) (e:∀ o,h.get? j=some o→h'.get? j=some o):ItX b h' j a i:=by
 cases b with
 | true=>exact Heap.IsTupleIter.at x e
 | false=>exact Heap.IsListIter.at x e
theorem IsX.lt {b:Bool}{h:Heap}{a:Addr}{vs:Array Value} (x:IsX b h a vs):a<h.objs.size:=by
 cases b with
 | true=>obtain ⟨_,e,_⟩:=(x:h.IsTuple a vs); exact Heap.lt_size e
 | false=>obtain ⟨_,e,_⟩:=(x:h.IsList a vs); exact Heap.lt_size e
theorem drawsX {prog:Program}{w:World}{A:Around} (b:Bool) (hh:A.handled=none) (j t:Addr) (hne:t≠j) (vs:Array Value) :
  Draws prog w A j [j,t] vs.size (fun i v=>vs[i]?=some v) (fun i h=>ItX b h j t i∧IsX b h t vs):=by
 cases b with
 | true=>exact drawsTuple hh j t hne vs
 | false=>exact Draws.list hh j t hne vs
section
variable {X:Cx}{pins:List (Addr × Obj)}{σ:St}{H:Hp}{s:Shared}
theorem Inv.sqX (I:Inv X pins σ H s) {b:Bool}{a:Addr}{xs:List V} (h:SqX b X.K H a xs):∃ its,Vals xs its∧IsX b s.heap a its.toArray:=by
 cases b with
 | true=>obtain ⟨its,r,p,_⟩:=I.tuple h; exact ⟨its,r,p⟩
 | false=>obtain ⟨its,r,p,_⟩:=I.list h; exact ⟨its,r,p.isList⟩
theorem Inv.sqX_inj (I:Inv X pins σ H s) {b:Bool}{a:Addr}{xs ys:List V} (h:SqX b X.K H a xs) (h':SqX b X.K H a ys):xs=ys:=by
 cases b with
 | true=>exact I.tuple_inj h h'
 | false=>exact I.list_inj h h'
end
noncomputable def IteX (b:Bool) (K:W.Frag) (a:Addr):It :=
  ⟨fun i H=>∃ xs x,SqX b K H a xs∧xs[i]?=some x,
   fun i H v H'=>∃ T,H T=none∧v=.ref T∧∀ xs x,SqX b K H a xs→xs[i]?=some x→H'=upd H T (.tup [.int i,x]),
   fun i H=>∃ xs,SqX b K H a xs∧i=xs.length⟩
theorem allN {P:Addr→Prop}:∀ x∈([]:List Addr),P x:=fun _ h=>by cases h
theorem allC {P:Addr→Prop}{a:Addr}{l:List Addr} (h:P a) (t:∀ x∈l,P x):∀ x∈a::l,P x:=fun x hx=>(List.mem_cons.mp hx).elim (fun e=>e▸h) (t x)
theorem fp_upd {X:Cx}{pins:List (Addr × Obj)}{H:Hp}{T:Addr}{o:HO}{ws:List Addr} (h:∀ b∈ws,FpOk X pins H b) (n:∀ b∈ws,b≠T):∀ b∈ws,FpOk X pins (upd H T o) b:=fun b hb=>⟨by rw [zAb (n b hb)]; exact (h b hb).1,(h b hb).2⟩
structure EsX (b:Bool) (e it a:Addr) (i:Nat) (h:Heap):Prop where
 a1:∃ old,IsEnum h e it (i:Nat) old
 a2:ItX b h it a i
theorem EsX.obj {b:Bool}{e it a:Addr}{i:Nat}{h:Heap} (st:EsX b e it a i h):∀ c∈[e,it],∃ o,h.get? c=some o∧∀ v,o.data≠.cell v:=by
 obtain ⟨_,a1⟩:=st.a1
 exact allC ⟨_,a1,fun v q=>by cases q⟩ (allC st.a2.obj allN)
theorem EsX.ne {b:Bool}{e it a:Addr}{i:Nat}{h:Heap} (st:EsX b e it a i h) {T:Addr} (hT:h.objs.size≤T):∀ c∈[e,it],c≠T:=fun c hc=>by
 obtain ⟨o,z,_⟩:=st.obj c hc
 exact Nat.ne_of_lt (Nat.lt_of_lt_of_le (Heap.lt_size z) hT)
theorem zyE {b:Bool}{a:Addr}{i:Nat}{X:Cx}{pins:List (Addr × Obj)}{σ:St}{H:Hp}{s:Shared} (I:Inv X pins σ H s) {xs:List V}{x:V} (q1:SqX b X.K H a xs) (ex:xs[i]?=some x) {T:Addr} (xs':List V) (x':V) (s1:SqX b X.K H a xs') (t1:xs'[i]?=some x'):upd H T (.tup [.int i,x])=upd H T (.tup [.int i,x']):=by
 have h1:=I.sqX_inj q1 s1
 subst h1
 rw [ex] at t1
 cases t1; rfl
theorem zvE {t1:List Value}{u1:Value}{i:Nat}{vals:Array Value} (e1:t1[i]?=some u1) (hv:∃ tt v,t1.toArray[i]?=some v∧vals=#[.int (i:Nat) tt,v]):∃ tt,vals=#[.int (i:Nat) tt,u1]:=by
 obtain ⟨tt,v,g,rfl⟩:=hv
 rw [List.getElem?_toArray,e1] at g
 cases g; exact ⟨tt,rfl⟩
theorem turn_enumX {P:Program}{w:World}{K:PySem.W.Frag}{elts:List Expr}{k:Nat}{pos:Pos} (b:Bool) (e it a:Addr) (hei:e≠it) (hea:e≠a) (hai:a≠it) :
  Turn P w K (.Tuple elts k pos) (IteX b K a) [e,it] e (EsX b e it a) where
 mem:=by simp
 obj:=fun i h st=>st.obj
 keep:=fun i h h' ⟨⟨old,h1⟩,h2⟩ kk=>⟨⟨old,kk e (by simp) _ h1⟩,h2.keep fun o z=>kk it (by simp) o z⟩
 item:=by
  intro X hP hw hK hc i pins s σ H E I hf st hg
  subst hP hw hK
  obtain ⟨xs,x,q1,ex⟩:=hg
  obtain ⟨its1,r1,p1⟩:=I.sqX q1
  obtain ⟨u1,e1,ru1⟩:=r1.get ex
  have D:=drawsX (prog:=X.prog) (w:=X.w) (A:=X.A.in1) b (show X.A.in1.handled=none from I.ok.hd hc) it a hai its1.toArray
  have W:=WalksT.enumerateD (A:=X.A) D e hei (by simp [hei,hea]) (by simp)
  have hl1:i<its1.length:=(List.getElem?_eq_some_iff.mp e1).1
  refine W.item i s _ _ (by simp only [List.size_toArray]; omega) ⟨st.1,st.2,p1⟩ fun T vals h' tk hv hT hIs hM kk=>?_
  obtain ⟨tt,hvv⟩:=zvE e1 hv
  subst hvv
  have nT:=st.ne hT
  refine ⟨_,rfl,W.go _ _ _ i T { s with heap:=h',toks:=tk } _ _ hM fun h2 st2 kk2=>?_⟩
  have I1:Inv X pins σ (upd H T (.tup [.int i,x])) { s with heap:=h',toks:=tk }:=I.yields (its:=[.int i tt,u1]) hf kk hT (.cons ⟨tt,rfl⟩ (.cons ru1 .nil)) (by show 2≤sizeLine; decide) hIs
  exact ⟨.ref T,_,I1.turnedL (tk:=tk) (fp_upd hf nT) kk2,rfl,⟨T,I.hok.fresh hT,rfl,zyE I q1 ex⟩,⟨st2.1,st2.2.1⟩,fun c hc=>by rw [zAb (nT c hc)]; exact (hf c hc).1⟩
 done:=by
  intro X hP hw hK hc i pins s σ H E I hf st hg
  subst hP hw hK
  obtain ⟨xs,q1,ei⟩:=hg
  obtain ⟨its1,r1,p1⟩:=I.sqX q1
  have D:=drawsX (prog:=X.prog) (w:=X.w) (A:=X.A.in1) b (show X.A.in1.handled=none from I.ok.hd hc) it a hai its1.toArray
  have W:=WalksT.enumerateD (A:=X.A) D e hei (by simp [hei,hea]) (by simp)
  have en:i=its1.toArray.size:=by rw [List.size_toArray,← r1.length]; exact ei
  refine W.done s _ _ (by rw [← en]; exact ⟨st.1,st.2,p1⟩) fun h' tk kk=>?_
  exact ⟨rfl,I.turnedL hf kk⟩
 self:=fun _ _ _ _ _ st h=>let ⟨⟨_,z⟩,_⟩:=st; wpAny_pyIter_enum z h
section
variable {X:Cx}
noncomputable def iEnumL (K:W.Frag) (ta:TA):TI:=fun σ H R=>ta σ H fun vs H1=>∃ a,vs=[.ref a]∧((∃ xs,SqT K H1 a xs)∧R (IteX true K a) H1∨(∃ xs,SqL K H1 a xs)∧R (IteX false K a) H1)
theorem pi_enumL {elts:List Expr}{k:Nat}{tpos:Pos}{a:Expr}{ta:TA}{p pos:Pos} (hg:Gl X "enumerate") (hm:X.mg "enumerate"=none) (ha:PA X [a] ta) (hs:starEach [a] X.env=[(false,eval a X.env)]:=by rfl) :
  PI X (.Tuple elts k tpos) (.Call (.Name "enumerate" p) [a] [] pos) (iEnumL X.K ta):=by
 intro pins s σ H R I h
 refine Call_ (ld_blt I hg hm bt_enumerate (PyProof.Rows.callWith_type1 (thn (ha pos pins s σ H _ I h) fun us s1 ⟨vs,H1,I1,r1,q1⟩=>?_) (by rw [hs]; rfl) (by rfl)))
 obtain ⟨t,e,q⟩:=q1
 subst e
 rcases q with ⟨⟨xs,h1⟩,q⟩ | ⟨⟨xs,h1⟩,q⟩
 ·cases r1 with
  | cons r rr =>
   cases rr
   cases r
   obtain ⟨its1,v1,p1,z1⟩:=I1.tuple h1
   obtain ⟨⟨c,dct,dt,sl⟩,hl,hc,n,hd⟩:=id p1
   replace hc:c=.type "tuple":=hc
   replace hd:dt=.seq its1.toArray n:=hd
   subst hc hd
   have hlt:t<s1.heap.objs.size:=Heap.lt_size hl
   refine callType_new PySem.F.called_enumerate (by decide) (PySem.F.typeCall_enumerate_1 _) (PySem.F.newCall_enumerate_1 _) (fun obj=>PySem.F.args_object_init_2 obj _) PySem.F.entry_enumerate_new (enumNewT t its1.toArray n dct sl) ⟨hl,?_⟩
   have hz:(s1.heap.push { cls:=.type "tuple_iterator",data:=.fields #[.ref t,.int 0 0] }).objs.size=s1.heap.objs.size+1:=Heap.size_push ..
   show _∧_
   rw [hz]
   have he:IsEnum ((s1.heap.push { cls:=.type "tuple_iterator",data:=.fields #[.ref t,.int 0 0] }).push { cls:=.type "enumerate",data:=.fields #[.none,.bool false,.ref s1.heap.objs.size,rawInt 0,.none,.none] }) (s1.heap.objs.size+1) s1.heap.objs.size 0 .none:=by
    have z:=Heap.get?_push_size (s1.heap.push { cls:=.type "tuple_iterator",data:=.fields #[.ref t,.int 0 0] }) (o:={ cls:=.type "enumerate",data:=.fields #[.none,.bool false,.ref s1.heap.objs.size,rawInt 0,.none,.none] }) rfl
    rw [hz] at z
    exact z
   refine ⟨⟨_,he,rfl⟩,?_⟩
   refine wpAny_pyIter_enum he ?_
   have kp:∀ b o,s1.heap.get? b=some o→((s1.heap.push { cls:=.type "tuple_iterator",data:=.fields #[.ref t,.int 0 0] }).push { cls:=.type "enumerate",data:=.fields #[.none,.bool false,.ref s1.heap.objs.size,rawInt 0,.none,.none] }).get? b=some o:=fun b o x=>Heap.get?_push_of_some _ (Heap.get?_push_of_some _ x)
   refine ⟨_,_,_,_,H1,rfl,I1.kept (t':=s1.toks) kp,turn_enumX true (s1.heap.objs.size+1) s1.heap.objs.size t (Nat.succ_ne_self _) (Nat.ne_of_gt (Nat.lt_succ_of_lt hlt)) (Nat.ne_of_lt hlt),⟨⟨_,he⟩,⟨_,Heap.get?_push_of_some _ (Heap.get?_push_size _ rfl),rfl,rfl⟩⟩,fun b hb=>?_,q⟩
   have hle:s1.heap.objs.size≤b:=by
    simp only [List.mem_cons,List.not_mem_nil,or_false] at hb
    rcases hb with rfl | rfl
    ·exact Nat.le_succ _
    ·exact Nat.le_refl _
   exact I1.fpOk hle (I1.hok.fresh hle)
 ·cases r1 with
  | cons r rr =>
   cases rr
   cases r
   obtain ⟨its1,v1,p1,z1⟩:=I1.list h1
   have hlt:t<s1.heap.objs.size:=by obtain ⟨_,e,_⟩:=p1.isList; exact Heap.lt_size e
   refine call_enumerate_list p1.isList fun h' he hi hsz hk=>?_
   refine wpAny_pyIter_enum he ?_
   refine ⟨_,_,_,_,H1,rfl,I1.kept (t':=s1.toks) hk,turn_enumX false (s1.heap.objs.size+1) s1.heap.objs.size t (Nat.succ_ne_self _) (Nat.ne_of_gt (Nat.lt_succ_of_lt hlt)) (Nat.ne_of_lt hlt),⟨⟨_,he⟩,hi⟩,fun b hb=>?_,q⟩
   have hle:s1.heap.objs.size≤b:=by
    simp only [List.mem_cons,List.not_mem_nil,or_false] at hb
    rcases hb with rfl | rfl
    ·exact Nat.le_succ _
    ·exact Nat.le_refl _
   exact I1.fpOk hle (I1.hok.fresh hle)
end
section
variable {X:Cx}
theorem readsAll_get {h:Heap}:∀ {ds:List PyData}{us:List Value}{as:List Addr}{i:Nat}{u:Value},ReadsAll h us ds as→us[i]?=some u→∃ d bs,ds[i]?=some d∧Reads h u d bs
 | _,_,_,i,u,.nil,e=>by simp at e
 | _,_,_,0,u,.cons r rr,e=>by simp at e; subst e; exact ⟨_,_,rfl,r⟩
 | _,_,_,i+1,u,.cons r rr,e=>by
  rw [List.getElem?_cons_succ] at e
  obtain ⟨d,bs,h1,h2⟩:=readsAll_get rr e
  exact ⟨d,bs,by rw [List.getElem?_cons_succ]; exact h1,h2⟩
open Classical in
noncomputable def eqW (h:Heap) (dx:PyData) (y:Value):Bool:=decide (∃ d as,Reads h y d as∧d.canLay0=true∧PyData.eqv d dx=true)
theorem eqW_is {h:Heap}{dx d:PyData}{y:Value}{as:List Addr} (r:Reads h y d as) (c:d.canLay0=true):eqW h dx y=PyData.eqv d dx:=by
 classical
 unfold eqW
 cases q:PyData.eqv d dx with
 | true=>exact decide_eq_true ⟨d,as,r,c,q⟩
 | false =>
  refine decide_eq_false ?_
  rintro ⟨d',as',r',c',q'⟩
  have:=SeqAt.Reads.unique d d' y as as' c r r'
  subst this
  rw [q] at q'; cases q'
end
open PySem PySem.Spec PyProof.Rows
structure ZAp (z TI TO i1 i2:Addr) (f1 f2:List Addr):Prop where
 TIz:TI≠z
 TOz:TO≠z
 i1z:i1≠z
 i2z:i2≠z
 TITO:TI≠TO
 TIi1:TI≠i1
 TIi2:TI≠i2
 TOi1:TO≠i1
 TOi2:TO≠i2
 i12:i1≠i2
 z1:z∉f1
 z2:z∉f2
 O1:TO∉f1
 O2:TO∉f2
 j1:i2∉f1
 j2:i1∉f2
section
variable {prog:Program}{w:World}{A:Around}{E:Value→Shared→Prop}{s:Shared}
variable {z TI TO i1 i2:Addr}{f1 f2:List Addr}{n1 n2 k:Nat}{P1 P2:Nat→Value→Prop}{S1 S2:Nat→Heap→Prop}
theorem Draws.sb {j c:Addr}{fp:List Addr}{n i:Nat}{P:Nat→Value→Prop}{St:Nat→Heap→Prop}{h h':Heap} (D:Draws prog w A j fp n P St) (st:St i h) (sb:Heap.SameBut c h h') (hc:c∉fp):St i h' :=
 D.frame _ _ _ st fun b hb o e=>sb.extBut b o (fun q=>hc (q▸hb)) e
theorem zip_open {Q:Fin→Shared→Prop}{a b:Value} (hz:IsZip s.heap z TI TO .none) (hTI:IsPair s.heap TI (.ref i1) (.ref i2)) (hTO:IsPair s.heap TO a b) (hh:A.handled=none)
  (D1:∀ A:Around,A.handled=none→Draws prog w A i1 f1 n1 P1 S1) (D2:∀ A:Around,A.handled=none→Draws prog w A i2 f2 n2 P2 S2) (ap:ZAp z TI TO i1 i2 f1 f2) (h1:S1 k s.heap) (h2:S2 k s.heap)
  (hQ:k<n1→k<n2→∀ x y h' tk,P1 k x→P2 k y→IsZip h' z TI TO (rawInt s.heap.objs.size)→IsPair h' TO x y→S1 (k+1) h'→S2 (k+1) h'→IsPair h' s.heap.objs.size x y→h'.objs.size=s.heap.objs.size+1 →
   (∀ c o,c≠z→c≠TO→c≠i1→c≠i2→s.heap.get? c=some o→h'.get? c=some o)→Q (.done (.ret (.ref s.heap.objs.size))) { s with heap:=h',toks:=tk })
  (hE:(k=n1∨k=n2)→∀ h' e tk,(∀ c o,c≠z→c≠TO→c≠i1→c≠i2→s.heap.get? c=some o→h'.get? c=some o)→(∃ o,h'.get? e=some o∧o.cls=.type "StopIteration")→E (.ref e) { s with heap:=h',toks:=tk })
  (hk1:k≤n1) (hk2:k≤n2):wpAny (model prog w) A (Builtin.«zip.__next__» ⟨[.ref z],[]⟩) Q E s:=by
 show wpAny _ _ (field (.ref z) 2 >>= _) _ _ _
 refine wpAny_bind (wpAny_field hz rfl (x:=.bool false) rfl ?_)
 show wpAny _ _ (field (.ref z) 3 >>= _) _ _ _
 refine wpAny_bind (wpAny_field hz rfl (x:=.ref TI) rfl ?_)
 refine wpAny_bind (wpAny_seqItems hTI rfl ?_)
 show wpAny _ _ (Builtin.SmallTypes.ownedTupleIsFree (.ref z) >>= _) _ _ _
 refine wpAny_bind ?_
 unfold Builtin.SmallTypes.ownedTupleIsFree
 refine wpAny_bind (wpAny_field hz rfl (x:=.none) rfl (wpAny_pure ?_))
 simp only [if_true]
 refine wpAny_bind (wpAny_rule ?_)
 refine wpAny_bind (wpAny_field hz rfl (x:=.ref TO) rfl ?_)
 refine wpAny_bind (wpAny_setField_rec hz (by simp) fun ha za sa=>?_)
 replace za:IsZip ha z TI TO .ellipsis:=za
 have s1a:S1 k ha:=Draws.sb (D1 A hh) h1 sa ap.z1
 have s2a:S2 k ha:=Draws.sb (D2 A hh) h2 sa ap.z2
 have oa:IsPair ha TO a b:=sa.extBut _ _ ap.TOz hTO
 refine wpAny_bind ?_
 simp only [List.zipIdx_cons,List.zipIdx_nil,List.forIn_cons,List.forIn_nil]
 refine wpAny_bind (wpAny_bind (wpAny_onRaise ?_))
 show wpAny _ _ (Builtin.SmallTypes.nextOf (.ref i1) >>= _) _ _ _
 by_cases l1:k<n1
 ·refine wpAny_bind ((D1 _ hh).item k _ _ _ l1 s1a fun x hb tb px s1b sb=>wpAny_pure ?_)
  have ob:IsPair hb TO a b:=sb.extBut _ _ ap.TOi1 oa
  have s2b:S2 k hb:=Draws.sb (D2 A hh) s2a sb ap.j2
  have zb:IsZip hb z TI TO .ellipsis:=sb.extBut _ _ ap.i1z.symm za
  refine wpAny_bind (wpAny_seqItems ob rfl ?_)
  refine wpAny_bind (wpAny_updateSeq_pair ob fun hc oc sc=>?_)
  replace oc:IsPair hc TO x b:=oc
  have s1c:S1 (k+1) hc:=Draws.sb (D1 A hh) s1b sc ap.O1
  have s2c:S2 k hc:=Draws.sb (D2 A hh) s2b sc ap.O2
  have zc:IsZip hc z TI TO .ellipsis:=sc.extBut _ _ ap.TOz.symm zb
  refine wpAny_bind (wpAny_letGo (wpAny_pure ?_))
  refine wpAny_bind (wpAny_bind (wpAny_onRaise ?_))
  show wpAny _ _ (Builtin.SmallTypes.nextOf (.ref i2) >>= _) _ _ _
  by_cases l2:k<n2
  ·refine wpAny_bind ((D2 _ hh).item k _ _ _ l2 s2c fun y hd td py s2d sd=>wpAny_pure ?_)
   have od:IsPair hd TO x b:=sd.extBut _ _ ap.TOi2 oc
   have s1d:S1 (k+1) hd:=Draws.sb (D1 A hh) s1c sd ap.j1
   have zd:IsZip hd z TI TO .ellipsis:=sd.extBut _ _ ap.i2z.symm zc
   refine wpAny_bind (wpAny_seqItems od rfl ?_)
   refine wpAny_bind (wpAny_updateSeq_pair od fun he oe se=>?_)
   replace oe:IsPair he TO x y:=oe
   have s1e:S1 (k+1) he:=Draws.sb (D1 A hh) s1d se ap.O1
   have s2e:S2 (k+1) he:=Draws.sb (D2 A hh) s2d se ap.O2
   have ze:IsZip he z TI TO .ellipsis:=se.extBut _ _ ap.TOz.symm zd
   refine wpAny_bind (wpAny_letGo (wpAny_pure (wpAny_pure ?_)))
   refine wpAny_bind (wpAny_seqItems oe rfl ?_)
   refine wpAny_bind (wpAny_newTuple ?_)
   have hsz:he.objs.size=s.heap.objs.size:=by rw [se.1,sd.1,sc.1,sb.1,sa.1]
   have kp:∀ c o,c≠z→c≠TO→c≠i1→c≠i2→s.heap.get? c=some o→he.get? c=some o:=fun c o c1 c2 c3 c4 e =>
    se.extBut _ _ c2 (sd.extBut _ _ c4 (sc.extBut _ _ c2 (sb.extBut _ _ c3 (sa.extBut _ _ c1 e))))
   have zlt:z<he.objs.size:=Heap.lt_size ze
   show wpAny _ _ (Builtin.SmallTypes.ownedTupleHandOut (.ref z) (.ref he.objs.size) >>= _) _ _ _
   refine wpAny_bind ?_
   unfold Builtin.SmallTypes.ownedTupleHandOut
   have zf:IsZip (he.push { cls:=.type "tuple",data:=.seq #[x,y] }) z TI TO .ellipsis:=Heap.get?_push_of_some _ ze
   refine wpAny_bind (wpAny_setField_rec zf (by simp) fun hg zg sg=>?_)
   replace zg:IsZip hg z TI TO (rawInt he.objs.size):=zg
   refine wpAny_setField_rec zg (by simp) fun hi zi si=>?_
   replace zi:IsZip hi z TI TO (rawInt he.objs.size):=zi
   have up:∀ c o,c≠z→he.get? c=some o→hi.get? c=some o:=fun c o c1 e=>si.extBut _ _ c1 (sg.extBut _ _ c1 (Heap.get?_push_of_some _ e))
   have tz:IsPair hi he.objs.size x y:=si.extBut _ _ (Nat.ne_of_gt zlt) (sg.extBut _ _ (Nat.ne_of_gt zlt) (Heap.get?_push_size _ rfl))
   have zz:hi.objs.size=he.objs.size+1:=by rw [si.1,sg.1,Heap.size_push]
   have s1i:S1 (k+1) hi:=(D1 A hh).frame _ _ _ s1e fun b hb o e=>up b o (fun q=>ap.z1 (q▸hb)) e
   have s2i:S2 (k+1) hi:=(D2 A hh).frame _ _ _ s2e fun b hb o e=>up b o (fun q=>ap.z2 (q▸hb)) e
   rw [hsz] at zi tz zz
   refine wpAny_pure ?_
   show Q (.done (.ret (.ref he.objs.size))) _
   rw [hsz]
   exact hQ l1 l2 x y hi td px py zi (up _ _ ap.TOz oe) s1i s2i tz zz fun c o c1 c2 c3 c4 e=>up c o c1 (kp c o c1 c2 c3 c4 e)
  ·have e2:k=n2:=Nat.le_antisymm hk2 (Nat.le_of_not_lt l2)
   refine wpAny_bind ((D2 _ hh).done _ _ _ (e2▸s2c) fun hd e sd he=>?_)
   obtain ⟨oe,hoe,hce⟩:=he
   have zd:IsZip hd z TI TO .ellipsis:=sd _ _ ap.i2z.symm zc
   have hez:e≠z:=fun q=>by subst q; rw [zd] at hoe; cases hoe; simp at hce
   refine wpAny_setField_rec zd (by simp) fun hf _ sf=>hE (.inr e2) hf e tb (fun c o c1 c2 c3 c4 q=>sf.extBut _ _ c1 (sd _ _ c4 (sc.extBut _ _ c2 (sb.extBut _ _ c3 (sa.extBut _ _ c1 q))))) ⟨oe,sf.extBut _ _ hez hoe,hce⟩
 ·have e1:k=n1:=Nat.le_antisymm hk1 (Nat.le_of_not_lt l1)
  refine wpAny_bind ((D1 _ hh).done _ _ _ (e1▸s1a) fun hd e sd he=>?_)
  obtain ⟨oe,hoe,hce⟩:=he
  have zd:IsZip hd z TI TO .ellipsis:=sd _ _ ap.i1z.symm za
  have hez:e≠z:=fun q=>by subst q; rw [zd] at hoe; cases hoe; simp at hce
  exact wpAny_setField_rec zd (by simp) fun hf _ sf=>hE (.inl e1) hf e s.toks (fun c o c1 _ c3 _ q=>sf.extBut _ _ c1 (sd _ _ c3 (sa.extBut _ _ c1 q))) ⟨oe,sf.extBut _ _ hez hoe,hce⟩
theorem WalksT.zipD (hh:A.handled=none) (D1:∀ A:Around,A.handled=none→Draws prog w A i1 f1 n1 P1 S1) (D2:∀ A:Around,A.handled=none→Draws prog w A i2 f2 n2 P2 S2) (ap:ZAp z TI TO i1 i2 f1 f2) (m1:i1∈f1) (m2:i2∈f2) :
  WalksT prog w A z (z::TI::TO::f1++f2) [z,TO,i1,i2] (min n1 n2) (fun i vals=>∃ x y,P1 i x∧P2 i y∧vals=#[x,y])
   (fun i h=>IsZip h z TI TO .none∧IsPair h TI (.ref i1) (.ref i2)∧(∃ a b,IsPair h TO a b)∧S1 i h∧S2 i h)
   (fun i T h=>IsZip h z TI TO (rawInt T)∧IsPair h TI (.ref i1) (.ref i2)∧(∃ a b,IsPair h TO a b)∧S1 (i+1) h∧S2 (i+1) h∧T≠z∧T≠TO∧T≠i1∧T≠i2) where
 sub:=fun c hc=>by simp at hc ⊢; rcases hc with rfl | rfl | rfl | rfl <;> simp [m1,m2]
 frame:=fun i h h' hst hk=>by
  obtain ⟨hz,hTI,⟨a,b,hTO⟩,h1,h2⟩:=hst
  exact ⟨hk z (by simp) _ hz,hk TI (by simp) _ hTI,⟨a,b,hk TO (by simp) _ hTO⟩,(D1 A hh).frame _ _ _ h1 fun b hb o e=>hk b (by simp [hb]) o e,(D2 A hh).frame _ _ _ h2 fun b hb o e=>hk b (by simp [hb]) o e⟩
 item:=fun i s Q E hi hst hQ=>by
  obtain ⟨hz,hTI,⟨a,b,hTO⟩,h1,h2⟩:=hst
  have hT:s.TypeIs (.ref z) "zip":=⟨_,hz,rfl⟩
  have lt:∀ {c o},s.heap.get? c=some o→s.heap.objs.size≠c:=fun e=>Nat.ne_of_gt (Heap.lt_size e)
  unfold pyNext
  refine wpAny_bind (wpAny_attempt (wpAny_callSpecial?_slot (name:=Str.ofString "__next__") hT F.slot_zip_next
   (wpAny_call_entry F.slot_zip_next hT F.entry_zip_next (zip_open hz hTI hTO hh D1 D2 ap h1 h2 (fun _ _ x y h' tk px py a1 a2 a3 a4 a5 a6 hk=>⟨_,rfl,wpAny_pure ?_⟩) (fun q=>by omega) (by omega) (by omega)) (F.args_zip_next_1 _))))
  refine hQ s.heap.objs.size #[x,y] h' tk ⟨x,y,px,py,rfl⟩ (Nat.le_refl _) ⟨_,a5,rfl,_,rfl⟩ ⟨a1,hk _ _ ap.TIz ap.TITO ap.TIi1 ap.TIi2 hTI,⟨_,_,a2⟩,a3,a4,lt hz,lt hTO,?_,?_⟩
   fun c o hc e=>hk c o (fun x=>hc (by simp [x])) (fun x=>hc (by simp [x])) (fun x=>hc (by simp [x])) (fun x=>hc (by simp [x])) e
  ·obtain ⟨_,e⟩:=(D1 A hh).live _ _ h1; exact lt e
  ·obtain ⟨_,e⟩:=(D2 A hh).live _ _ h2; exact lt e
 go:=fun elts k pos i T s Q E hm hQ=>by
  obtain ⟨hz,hTI,⟨a,b,hTO⟩,h1,h2,_⟩:=hm
  refine wpAny_letOwnedTupleGo_zip hz fun h' hz' hs'=>hQ h' ⟨hz',hs'.extBut _ _ ap.TIz hTI,⟨a,b,hs'.extBut _ _ ap.TOz hTO⟩,Draws.sb (D1 A hh) h1 hs' ap.z1,Draws.sb (D2 A hh) h2 hs' ap.z2⟩ fun c o hc e=>hs'.extBut _ _ (fun x=>hc (by simp [x])) e
 apart:=fun i T h hm hT=>by
  obtain ⟨_,_,_,_,_,t1,t2,t3,t4⟩:=hm
  simp at hT
  rcases hT with rfl | rfl | rfl | rfl
  ·exact t1 rfl
  ·exact t2 rfl
  ·exact t3 rfl
  ·exact t4 rfl
 done:=fun s Q E hst hQ=>by
  obtain ⟨hz,hTI,⟨a,b,hTO⟩,h1,h2⟩:=hst
  have hT:s.TypeIs (.ref z) "zip":=⟨_,hz,rfl⟩
  unfold pyNext
  refine wpAny_bind (wpAny_attempt (wpAny_callSpecial?_slot (name:=Str.ofString "__next__") hT F.slot_zip_next
   (wpAny_call_entry F.slot_zip_next hT F.entry_zip_next (zip_open hz hTI hTO hh D1 D2 ap h1 h2 (fun q1 q2=>by omega) (fun _ h' e tk hk he=>?_) (by omega) (by omega)) (F.args_zip_next_1 _))))
  obtain ⟨o,ho,hc⟩:=he
  refine wpAny_bind (wpAny_isInstance (T := "StopIteration") (b:=true) ⟨o,ho,hc⟩ isSubtype_stop ?_)
  exact wpAny_pure (hQ _ _ fun c o hc e=>hk c o (fun x=>hc (by simp [x])) (fun x=>hc (by simp [x])) (fun x=>hc (by simp [x])) (fun x=>hc (by simp [x])) e)
 self:=fun i s Q E hst hQ=>wpAny_pyIter_zip hst.1 hQ
end
open PySem PySem.Spec PyProof.Rows
noncomputable def itO (b:Bool) (l:Addr):Obj:={ cls:=.type (if b then "tuple_iterator" else "list_iterator"),data:=.fields #[.ref l,.int 0 0] }
noncomputable abbrev zq2 (h:Heap) (b1 b2:Bool) (l1 l2:Addr):Heap:=(h.push (itO b1 l1)).push (itO b2 l2)
noncomputable abbrev zq3 (h:Heap) (b1 b2:Bool) (l1 l2:Addr):Heap:=(zq2 h b1 b2 l1 l2).push { cls:=.type "tuple",data:=.seq #[.ref h.objs.size,.ref (h.push (itO b1 l1)).objs.size] }
noncomputable abbrev zq4 (h:Heap) (b1 b2:Bool) (l1 l2:Addr):Heap:=(zq3 h b1 b2 l1 l2).push { cls:=.type "tuple",data:=.seq #[.none,.none] }
noncomputable abbrev zq5 (h:Heap) (b1 b2:Bool) (l1 l2:Addr):Heap:=(zq4 h b1 b2 l1 l2).push { cls:=.type "zip",data:=.fields #[.none,.bool false,.bool false,.ref (zq2 h b1 b2 l1 l2).objs.size,.ref (zq3 h b1 b2 l1 l2).objs.size] }
theorem zip_newTT (l1 l2:Addr) (xs ys:Array Value) :
  Meets (Builtin.«zip.__new__» ⟨[.type "zip",.ref l1,.ref l2],[]⟩) (fun _ R s=>s.heap.IsTuple l1 xs∧s.heap.IsTuple l2 ys ∧
   R (.ok (.ret (.ref (zq4 s.heap true true l1 l2).objs.size))) { s with heap:=zq5 s.heap true true l1 l2 }) :=
 .of_wp fun prog w A R s h=>by
  obtain ⟨hp,g,d,tk,os⟩:=s; obtain ⟨hl1,hl2,h⟩:=h
  have hsub:=sub_zip
  have hL1:Heap.IsTuple (Shared.heap ⟨hp,g,d,tk,os⟩) l1 xs:=hl1
  have hL2:Heap.IsTuple (Shared.heap ⟨hp.push { cls:=.type "tuple_iterator",data:=.fields #[.ref l1,.int 0 0] },g,d,tk,os⟩) l2 ys:=Heap.IsTuple.push hl2 _
  wp_walk using wpAny_pyIter_tuple hL1,wpAny_pyIter_tuple hL2
  exact ⟨_,rfl,h⟩
theorem zip_newTL (l1 l2:Addr) (xs ys:Array Value) :
  Meets (Builtin.«zip.__new__» ⟨[.type "zip",.ref l1,.ref l2],[]⟩) (fun _ R s=>s.heap.IsTuple l1 xs∧s.heap.IsList l2 ys ∧
   R (.ok (.ret (.ref (zq4 s.heap true false l1 l2).objs.size))) { s with heap:=zq5 s.heap true false l1 l2 }) :=
 .of_wp fun prog w A R s h=>by
  obtain ⟨hp,g,d,tk,os⟩:=s; obtain ⟨hl1,hl2,h⟩:=h
  have hsub:=sub_zip
  have hL1:Heap.IsTuple (Shared.heap ⟨hp,g,d,tk,os⟩) l1 xs:=hl1
  have hL2:Heap.IsList (Shared.heap ⟨hp.push { cls:=.type "tuple_iterator",data:=.fields #[.ref l1,.int 0 0] },g,d,tk,os⟩) l2 ys:=Heap.IsList.push hl2 _
  wp_walk using wpAny_pyIter_tuple hL1,wpAny_pyIter_list hL2
  exact ⟨_,rfl,h⟩
theorem zip_newLT (l1 l2:Addr) (xs ys:Array Value) :
  Meets (Builtin.«zip.__new__» ⟨[.type "zip",.ref l1,.ref l2],[]⟩) (fun _ R s=>s.heap.IsList l1 xs∧s.heap.IsTuple l2 ys ∧
   R (.ok (.ret (.ref (zq4 s.heap false true l1 l2).objs.size))) { s with heap:=zq5 s.heap false true l1 l2 }) :=
 .of_wp fun prog w A R s h=>by
  obtain ⟨hp,g,d,tk,os⟩:=s; obtain ⟨hl1,hl2,h⟩:=h
  have hsub:=sub_zip
  have hL1:Heap.IsList (Shared.heap ⟨hp,g,d,tk,os⟩) l1 xs:=hl1
  have hL2:Heap.IsTuple (Shared.heap ⟨hp.push { cls:=.type "list_iterator",data:=.fields #[.ref l1,.int 0 0] },g,d,tk,os⟩) l2 ys:=Heap.IsTuple.push hl2 _
  wp_walk using wpAny_pyIter_list hL1,wpAny_pyIter_tuple hL2
  exact ⟨_,rfl,h⟩
theorem zip_newLL (l1 l2:Addr) (xs ys:Array Value) :
  Meets (Builtin.«zip.__new__» ⟨[.type "zip",.ref l1,.ref l2],[]⟩) (fun _ R s=>s.heap.IsList l1 xs∧s.heap.IsList l2 ys ∧
   R (.ok (.ret (.ref (zq4 s.heap false false l1 l2).objs.size))) { s with heap:=zq5 s.heap false false l1 l2 }) :=
 .of_wp fun prog w A R s h=>by
  obtain ⟨hp,g,d,tk,os⟩:=s; obtain ⟨hl1,hl2,h⟩:=h
  have hsub:=sub_zip
  have hL1:Heap.IsList (Shared.heap ⟨hp,g,d,tk,os⟩) l1 xs:=hl1
  have hL2:Heap.IsList (Shared.heap ⟨hp.push { cls:=.type "list_iterator",data:=.fields #[.ref l1,.int 0 0] },g,d,tk,os⟩) l2 ys:=Heap.IsList.push hl2 _
  wp_walk using wpAny_pyIter_list hL1,wpAny_pyIter_list hL2
  exact ⟨_,rfl,h⟩
theorem zip_newX (b1 b2:Bool) (l1 l2:Addr) (xs ys:Array Value) :
  Meets (Builtin.«zip.__new__» ⟨[.type "zip",.ref l1,.ref l2],[]⟩) (fun _ R s=>IsX b1 s.heap l1 xs∧IsX b2 s.heap l2 ys ∧
   R (.ok (.ret (.ref (zq4 s.heap b1 b2 l1 l2).objs.size))) { s with heap:=zq5 s.heap b1 b2 l1 l2 }):=by
 cases b1 with
 | true=>cases b2 with
  | true=>exact zip_newTT l1 l2 xs ys
  | false=>exact zip_newTL l1 l2 xs ys
 | false=>cases b2 with
  | true=>exact zip_newLT l1 l2 xs ys
  | false=>exact zip_newLL l1 l2 xs ys
theorem itX_new {b:Bool}{h:Heap}{j l:Addr} (e:h.get? j=some (itO b l)):ItX b h j l 0:=by
 cases b with
 | true=>exact ⟨_,e,rfl,rfl⟩
 | false=>exact ⟨_,e,rfl,rfl⟩
theorem itO_live (b:Bool) (l:Addr):(itO b l).isFreed=false:=by cases b <;> rfl
section
variable {prog:Program}{w:World}{A:Around}{E:Value→Shared→Prop}{s:Shared}
theorem call_zipX {b1 b2:Bool}{l1 l2:Addr}{xs ys:Array Value}{Q:Value→Shared→Prop} (hl1:IsX b1 s.heap l1 xs) (hl2:IsX b2 s.heap l2 ys)
  (h:∀ h',IsZip h' (s.heap.objs.size+4) (s.heap.objs.size+2) (s.heap.objs.size+3) .none→IsPair h' (s.heap.objs.size+2) (.ref s.heap.objs.size) (.ref (s.heap.objs.size+1)) →
   IsPair h' (s.heap.objs.size+3) .none .none→ItX b1 h' s.heap.objs.size l1 0→ItX b2 h' (s.heap.objs.size+1) l2 0 →
   (∀ c o,s.heap.get? c=some o→h'.get? c=some o)→Q (.ref (s.heap.objs.size+4)) { s with heap:=h' }) :
  wpAny (model prog w) A (call (.type "zip") [.ref l1,.ref l2]) Q E s:=by
 refine callType_new F.called_zip (by decide) (F.typeCall_zip_2 _ _) (F.newCall_zip_2 _ _) (fun obj=>F.args_object_init_3 obj _ _) F.entry_zip_new (zip_newX b1 b2 l1 l2 xs ys) ⟨hl1,hl2,?_⟩
 have z1:(s.heap.push (itO b1 l1)).objs.size=s.heap.objs.size+1:=Heap.size_push ..
 have z2:(zq2 s.heap b1 b2 l1 l2).objs.size=s.heap.objs.size+2:=by rw [Heap.size_push,z1]
 have z3:(zq3 s.heap b1 b2 l1 l2).objs.size=s.heap.objs.size+3:=by rw [Heap.size_push,z2]
 have z4:(zq4 s.heap b1 b2 l1 l2).objs.size=s.heap.objs.size+4:=by rw [Heap.size_push,z3]
 have g5:(zq5 s.heap b1 b2 l1 l2).get? (zq4 s.heap b1 b2 l1 l2).objs.size=some _:=Heap.get?_push_size _ rfl
 have g4:(zq5 s.heap b1 b2 l1 l2).get? (zq3 s.heap b1 b2 l1 l2).objs.size=some _:=Heap.get?_push_of_some _ (Heap.get?_push_size _ rfl)
 have g3:(zq5 s.heap b1 b2 l1 l2).get? (zq2 s.heap b1 b2 l1 l2).objs.size=some _:=Heap.get?_push_of_some _ (Heap.get?_push_of_some _ (Heap.get?_push_size _ rfl))
 have g2:(zq5 s.heap b1 b2 l1 l2).get? (s.heap.push (itO b1 l1)).objs.size=some (itO b2 l2):=Heap.get?_push_of_some _ (Heap.get?_push_of_some _ (Heap.get?_push_of_some _ (Heap.get?_push_size _ (itO_live _ _))))
 have g1:(zq5 s.heap b1 b2 l1 l2).get? s.heap.objs.size=some (itO b1 l1):=Heap.get?_push_of_some _ (Heap.get?_push_of_some _ (Heap.get?_push_of_some _ (Heap.get?_push_of_some _ (Heap.get?_push_size _ (itO_live _ _)))))
 show _∧_
 rw [z2,z3,z4] at g5
 rw [z1,z2] at g3
 rw [z3] at g4
 rw [z1] at g2
 rw [z4]
 exact ⟨⟨_,g5,rfl⟩,h _ g5 g3 g4 (itX_new g1) (itX_new g2) fun c o x =>
  Heap.get?_push_of_some _ (Heap.get?_push_of_some _ (Heap.get?_push_of_some _ (Heap.get?_push_of_some _ (Heap.get?_push_of_some _ x))))⟩
end
theorem zap_new {n l1 l2:Addr} (h1:l1<n) (h2:l2<n):ZAp (n+4) (n+2) (n+3) n (n+1) [n,l1] [n+1,l2]:=by
 constructor <;> (try simp only [List.mem_cons,List.not_mem_nil,or_false,not_or]) <;> (try refine ⟨?_,?_⟩) <;> (show ¬ ((_:Nat)=_)) <;> (simp only [Addr] at *; omega)
inductive ZgoX (b1 b2:Bool) (K:W.Frag) (H:Hp) (a b:Addr) (i:Nat):Prop
 | mk (xs ys:List V) (x y:V) (q1:SqX b1 K H a xs) (q2:SqX b2 K H b ys) (ex:xs[i]?=some x) (ey:ys[i]?=some y)
inductive ZstX (b1 b2:Bool) (K:W.Frag) (H:Hp) (a b:Addr) (i:Nat):Prop
 | mk (xs ys:List V) (q1:SqX b1 K H a xs) (q2:SqX b2 K H b ys) (ei:i=min xs.length ys.length)
noncomputable def ItzX (b1 b2:Bool) (K:W.Frag) (a b:Addr):It :=
  ⟨fun i H=>ZgoX b1 b2 K H a b i,
   fun i H v H'=>∃ T,H T=none∧v=.ref T∧∀ xs ys x y,SqX b1 K H a xs→SqX b2 K H b ys→xs[i]?=some x→ys[i]?=some y→H'=upd H T (.tup [x,y]),
   fun i H=>ZstX b1 b2 K H a b i⟩
structure ZsX (b1 b2:Bool) (z TI TO i1 i2 l1 l2:Addr) (i:Nat) (h:Heap):Prop where
 a1:IsZip h z TI TO .none
 a2:IsPair h TI (.ref i1) (.ref i2)
 a3:∃ a b,IsPair h TO a b
 a4:ItX b1 h i1 l1 i
 a5:ItX b2 h i2 l2 i
section
variable {b1 b2:Bool}{z TI TO i1 i2 l1 l2:Addr}{i:Nat}{h:Heap}
theorem ZsX.obj (st:ZsX b1 b2 z TI TO i1 i2 l1 l2 i h):∀ b∈[z,TI,TO,i1,i2],∃ o,h.get? b=some o∧∀ v,o.data≠.cell v:=by
 obtain ⟨_,_,a3⟩:=st.a3
 exact allC ⟨_,st.a1,fun v q=>by cases q⟩ (allC ⟨_,st.a2,fun v q=>by cases q⟩ (allC ⟨_,a3,fun v q=>by cases q⟩ (allC st.a4.obj (allC st.a5.obj allN))))
theorem ZsX.ne (st:ZsX b1 b2 z TI TO i1 i2 l1 l2 i h) {T:Addr} (hT:h.objs.size≤T):∀ b∈[z,TI,TO,i1,i2],b≠T:=fun b hb=>by
 obtain ⟨o,e,_⟩:=st.obj b hb
 exact Nat.ne_of_lt (Nat.lt_of_lt_of_le (Heap.lt_size e) hT)
theorem zsub:∀ b∈[z,TO,i1,i2],b∈[z,TI,TO,i1,i2]:=allC (by simp) (allC (by simp) (allC (by simp) (allC (by simp) allN)))
inductive ZFX (b1 b2:Bool) (X:Cx) (s:Shared) (H:Hp) (l1 l2:Addr) (i:Nat):Prop
 | mk (xs ys:List V) (x y:V) (t1 t2:List Value) (u1 u2:Value) (q1:SqX b1 X.K H l1 xs) (q2:SqX b2 X.K H l2 ys) (ex:xs[i]?=some x) (ey:ys[i]?=some y) (p1:IsX b1 s.heap l1 t1.toArray) (p2:IsX b2 s.heap l2 t2.toArray)
  (e1:t1[i]?=some u1) (e2:t2[i]?=some u2) (r1:RelV x u1) (r2:RelV y u2)
variable {X:Cx}{pins:List (Addr × Obj)}{σ:St}{H:Hp}{s:Shared}
theorem zfX (I:Inv X pins σ H s) (hg:ZgoX b1 b2 X.K H l1 l2 i):ZFX b1 b2 X s H l1 l2 i:=by
 obtain ⟨xs,ys,x,y,q1,q2,ex,ey⟩:=hg
 obtain ⟨its1,r1,p1⟩:=I.sqX q1
 obtain ⟨its2,r2,p2⟩:=I.sqX q2
 obtain ⟨u1,e1,ru1⟩:=r1.get ex
 obtain ⟨u2,e2,ru2⟩:=r2.get ey
 exact ⟨xs,ys,x,y,its1,its2,u1,u2,q1,q2,ex,ey,p1,p2,e1,e2,ru1,ru2⟩
theorem zvX {t1 t2:List Value}{u1 u2:Value}{vals:Array Value} (e1:t1[i]?=some u1) (e2:t2[i]?=some u2) (hv:∃ v1 v2,t1.toArray[i]?=some v1∧t2.toArray[i]?=some v2∧vals=#[v1,v2]):vals=#[u1,u2]:=by
 obtain ⟨v1,v2,g1,g2,rfl⟩:=hv
 rw [List.getElem?_toArray,e1] at g1
 rw [List.getElem?_toArray,e2] at g2
 cases g1; cases g2; rfl
theorem zyX (I:Inv X pins σ H s) {xs ys:List V}{x y:V} (q1:SqX b1 X.K H l1 xs) (q2:SqX b2 X.K H l2 ys) (ex:xs[i]?=some x) (ey:ys[i]?=some y) {T:Addr} (xs' ys':List V) (x' y':V) (s1:SqX b1 X.K H l1 xs') (s2:SqX b2 X.K H l2 ys') (t1:xs'[i]?=some x') (t2:ys'[i]?=some y'):upd H T (.tup [x,y])=upd H T (.tup [x',y']):=by
 have h1:=I.sqX_inj q1 s1
 have h2:=I.sqX_inj q2 s2
 subst h1 h2
 rw [ex] at t1; rw [ey] at t2
 cases t1; cases t2; rfl
end
theorem turn_zipX {P:Program}{w:World}{K:PySem.W.Frag}{elts:List Expr}{k:Nat}{pos:Pos} (b1 b2:Bool) (z TI TO i1 i2 l1 l2:Addr) (D:ZAp z TI TO i1 i2 [i1,l1] [i2,l2]) (d1:l1≠i1) (d2:l2≠i2) :
  Turn P w K (.Tuple elts k pos) (ItzX b1 b2 K l1 l2) [z,TI,TO,i1,i2] z (ZsX b1 b2 z TI TO i1 i2 l1 l2) where
 mem:=by simp
 obj:=fun i h st=>st.obj
 keep:=fun i h h' ⟨a1,a2,⟨x,y,a3⟩,a4,a5⟩ kk =>
  ⟨kk z (by simp) _ a1,kk TI (by simp) _ a2,⟨x,y,kk TO (by simp) _ a3⟩,a4.keep fun o e=>kk i1 (by simp) o e,a5.keep fun o e=>kk i2 (by simp) o e⟩
 item:=by
  intro X hP hw hK hc i pins s σ H E I hf st hg
  subst hP hw hK
  obtain ⟨xs,ys,x,y,its1,its2,u1,u2,q1,q2,ex,ey,p1,p2,e1,e2,ru1,ru2⟩:=zfX I hg
  have W:=WalksT.zipD (prog:=X.prog) (w:=X.w) (I.ok.hd hc) (fun A hh=>drawsX b1 hh i1 l1 d1 its1.toArray) (fun A hh=>drawsX b2 hh i2 l2 d2 its2.toArray) D (by simp) (by simp)
  have hl1:i<its1.length:=(List.getElem?_eq_some_iff.mp e1).1
  have hl2:i<its2.length:=(List.getElem?_eq_some_iff.mp e2).1
  have hwr:∀ b∈[z,TO,i1,i2],FpOk X pins H b:=fun b hb=>hf b (zsub b hb)
  refine W.item i s _ _ (by simp only [List.size_toArray]; omega) ⟨st.a1,st.a2,st.a3,⟨st.a4,p1⟩,st.a5,p2⟩ fun T vals h' tk hv hT hIs hM kk=>?_
  have hvv:=zvX e1 e2 hv
  subst hvv
  have nT:=st.ne hT
  refine ⟨_,rfl,W.go _ _ _ i T { s with heap:=h',toks:=tk } _ _ hM fun h2 st2 kk2=>?_⟩
  have I1:Inv X pins σ (upd H T (.tup [x,y])) { s with heap:=h',toks:=tk }:=I.yields (its:=[u1,u2]) hwr kk hT (.cons ru1 (.cons ru2 .nil)) (by show 2≤sizeLine; decide) hIs
  have I2:=I1.turnedL (tk:=tk) (fp_upd hwr fun b hb=>nT b (zsub b hb)) kk2
  exact ⟨.ref T,_,I2,rfl,⟨T,I.hok.fresh hT,rfl,zyX I q1 q2 ex ey⟩,⟨st2.1,st2.2.1,st2.2.2.1,st2.2.2.2.1.1,st2.2.2.2.2.1⟩,fun b hb=>by rw [zAb (nT b hb)]; exact (hf b hb).1⟩
 done:=by
  intro X hP hw hK hc i pins s σ H E I hf st hg
  subst hP hw hK
  obtain ⟨xs,ys,q1,q2,ei⟩:=hg
  obtain ⟨its1,r1,p1⟩:=I.sqX q1
  obtain ⟨its2,r2,p2⟩:=I.sqX q2
  have W:=WalksT.zipD (prog:=X.prog) (w:=X.w) (I.ok.hd hc) (fun A hh=>drawsX b1 hh i1 l1 d1 its1.toArray) (fun A hh=>drawsX b2 hh i2 l2 d2 its2.toArray) D (by simp) (by simp)
  have en:i=min its1.toArray.size its2.toArray.size:=by simp only [List.size_toArray,← r1.length,← r2.length]; exact ei
  refine W.done s _ _ (by rw [← en]; exact ⟨st.a1,st.a2,st.a3,⟨st.a4,p1⟩,st.a5,p2⟩) fun h' tk kk=>?_
  exact ⟨rfl,I.turnedL (fun b hb=>hf b (zsub b hb)) kk⟩
 self:=fun _ _ _ _ _ st h=>wpAny_pyIter_zip st.a1 h
section
variable {X:Cx}
noncomputable def iZipX (K:W.Frag) (ta:TA):TI:=fun σ H R=>ta σ H fun vs H1=>∃ a b b1 b2,vs=[.ref a,.ref b]∧(∃ xs,SqX b1 K H1 a xs)∧(∃ ys,SqX b2 K H1 b ys)∧R (ItzX b1 b2 K a b) H1
theorem pi_zipX {elts:List Expr}{k:Nat}{tpos:Pos}{a b:Expr}{ta:TA}{p pos:Pos} (hg:Gl X "zip") (hm:X.mg "zip"=none) (ha:PA X [a,b] ta) (hs:starEach [a,b] X.env=[(false,eval a X.env),(false,eval b X.env)]:=by rfl) (hs2:starEach [b] X.env=[(false,eval b X.env)]:=by rfl) :
  PI X (.Tuple elts k tpos) (.Call (.Name "zip" p) [a,b] [] pos) (iZipX X.K ta):=by
 intro pins s σ H R I h
 refine Call_ (ld_blt I hg hm bt_zip (PyProof.Rows.callWith_type1 (thn (ha pos pins s σ H _ I h) fun us s1 ⟨vs,H1,I1,r1,q1⟩=>?_) (by rw [hs,hs2]) (by rw [hs2]; rfl)))
 obtain ⟨l1,l2,b1,b2,e,⟨xs,h1⟩,⟨ys,h2⟩,q⟩:=q1
 subst e
 cases r1 with
 | cons r rr =>
  cases rr with
  | cons r' rr =>
   cases rr
   cases r
   cases r'
   obtain ⟨its1,v1,p1⟩:=I1.sqX h1
   obtain ⟨its2,v2,p2⟩:=I1.sqX h2
   refine call_zipX p1 p2 fun h' hz hTI hTO hi1 hi2 hk=>?_
   refine wpAny_pyIter_zip hz ?_
   have I2:Inv X pins σ H1 { s1 with heap:=h' }:=I1.kept (t':=s1.toks) hk
   refine ⟨_,_,_,_,H1,rfl,I2,turn_zipX b1 b2 _ _ _ _ _ l1 l2 (zap_new p1.lt p2.lt) (Nat.ne_of_lt p1.lt) (Nat.ne_of_lt (Nat.lt_succ_of_lt p2.lt)),⟨hz,hTI,⟨_,_,hTO⟩,hi1,hi2⟩,fun b hb=>?_,q⟩
   have hle:s1.heap.objs.size≤b:=by
    simp only [List.mem_cons,List.not_mem_nil,or_false] at hb
    rcases hb with rfl | rfl | rfl | rfl | rfl
    ·exact Nat.le_add_right _ _
    ·exact Nat.le_add_right _ _
    ·exact Nat.le_add_right _ _
    ·exact Nat.le_refl _
    ·exact Nat.le_add_right _ _
   exact I1.fpOk hle (I1.hok.fresh hle)
end
open PySem PySem.Spec PyProof.Rows
section
variable {X:Cx}{pins:List (Addr × Obj)}{σ:St}{H:Hp}{s:Shared}{scope:Scope}{N:List Str}{C:Addr}{ex:List Addr}
theorem ps_compSet {elt iter tg:Expr}{ifs:List Expr}{pos pos' spos:Pos}{y0:Str}{go:TG} (hgo:PG X (.Name y0 pos') go) (hsw:swapsWith (.ListComp elt [⟨tg,iter,ifs,0⟩] scope pos) (some (.Name y0 pos')) spos.line X.env=pure true) {wi:TI}{g:TG}{tc:TT}{te:TE}{k:Nat}{js:List Nat}
  (B:CompH X scope N k js) (hi:PI X tg iter wi)
  (hg:∀ cl s H C ex,PG (cxComp X scope N cl s H C ex) tg g) (htc:∀ cl s H C ex,PTs (cxComp X scope N cl s H C ex) ifs tc) (hte:∀ cl s H C ex,PE (cxComp X scope N cl s H C ex) elt te)
  (hs:∀ x,foldedSetIterable iter X.env x=pure x:=by intro _; rfl):PS X (.Assign [.Name y0 pos'] (.ListComp elt [⟨tg,iter,ifs,0⟩] scope pos) spos) (tAsg (tComp wi k js g tc te) go):=by
 intro pins s σ H D0 I h
 rw [exec_Assign_Name_used _ _ _ _ hsw]
 refine wpAny_bind (wpAny_standAt (wpAny_bind ?_))
 show wpAny _ X.A (do let _ ← comprehension (.ListComp elt [⟨tg,iter,ifs,0⟩] scope pos) scope X.env _ (newList []) false (eval iter X.env) (some (assign (.Name y0 pos') X.env))) _ _ s
 refine wpAny_bind (wpAny_mono (wpAny_comprehension_free (use:=some (assign (.Name y0 pos') X.env)) (Q:=fun _ s'=>SP X pins D0 .next s') rfl hs (closureFor_ok fun x hx=>I.ok.has x (B.free x hx)) B.kind B.names (thn (hi pins s σ H _ I h) fun v s1 h1=>thn h1 fun itv s2 h2=>?_)) (fun _ s' hq=>wpAny_pure (wpAny_pure hq)) fun _ _ e=>e)
 obtain ⟨it,fp,tn,J,H2,e,I2,T,st2,f2,hW⟩:=h2
 subst e
 refine comp_run (Q:=fun x H1=>go x σ H1 D0.nx) B I2 T st2 f2 hg htc hte hW fun cl C H4 s5 hCle hDC I5 q=>?_
 obtain ⟨m,hn,_⟩:=id I5.loc
 have hC4:H4 C=none:=I5.free
 have IA:Inv X pins σ H4 s5:=I2.call' (s':=s5) (ch:=fp) I5.os I5.base I5.hok I5.bare (fun b hb=>⟨(f2 b hb).2.2.2.1,(f2 b hb).2.1,(f2 b hb).2.2.2.2.1,(f2 b hb).2.2.2.2.2⟩)
 have fC:∀ {H':Hp},H' C=none→∀ b∈[C],FpOk X pins H' b:=fun hn b hb=>by
  have:b=C:=by simpa using hb
  subst this
  exact I2.fpOk hCle hn
 have oC:∀ b∈[C],∃ o,s5.heap.get? b=some o∧∀ v,o.data≠.cell v:=fun b hb=>by
  have:b=C:=by simpa using hb
  subst this
  obtain ⟨o,_,_,ho,hd,_⟩:=id hn
  exact ⟨o,ho,fun v z=>by rw [hd] at z; cases z⟩
 have IB:=IA.pinned (fC hC4) oC
 refine thn (hgo _ s5 σ H4 (.ref s2.heap.objs.size) (.ref s2.heap.objs.size) _ IB rfl q) fun _ s6 ⟨σ6,H6,I6,q6⟩=>?_
 obtain ⟨oc,hoc,_⟩:=oC C (by simp)
 have hp6:=I6.pin (C,oc) (List.mem_append_right _ (List.mem_append_right _ (mem_pinsAt (by simp) hoc)))
 refine ⟨m,hn.at' fun o e=>?_,fun h' hs'=>⟨σ6,H6,?_,q6⟩⟩
 ·have e':s5.heap.get? C=some o:=e
  rw [hoc] at e'; cases e'; exact hp6.1
 ·exact I6.unpinned.turnedL (wr:=[C]) (tk:=s6.toks) (fC hp6.2.1) fun b o nb e=>hs'.extBut b o (by simpa using nb) e
end
open PySem PySem.Spec PyProof.Rows
section
variable {X:Cx}
open AutoSeq1 in
theorem extTup (l:Addr) (items:Array Value) (n:Nat) (b:Addr) (items2:Array Value) (n2:Nat) (dct:Option Addr) (sl:Array (Option Value)) (h0:¬(!items.isEmpty&&Builtin.List.listTooLong (items.size+items2.size))=true) (h1:items.size≤sizeLine) (h2:items.size+items2.size≤sizeLine+1) :
  Meets (Builtin.«list.extend» ⟨[.ref l,.ref b],[]⟩) (fun _ R s=>s.heap.get? l=some { cls:=.type "list",dict:=none,data:=.seq items n,slots:=#[] }∧s.heap.get? b=some { cls:=.type "tuple",dict:=dct,data:=.seq items2 n2,slots:=sl } ∧
   R (.ok (.ret Value.none)) { s with heap:=s.heap.update l (Obj.mapSeq fun x=>x++items2),toks:=s.toks }) :=
 .of_wp fun prog w A R s h=>by
  obtain ⟨hp,g,d,tk,os⟩:=s; obtain ⟨hl,hb,h⟩:=h
  have a1:=idx_int
  have a2:=AutoSeq1.sub_tuple_tuple
  have a3:=AutoSeq1.sub_list_list
  have a4:=AutoSeq1.sub_tuple_list
  have a5:=AutoSeq1.sub_list_tuple
  have hz:(items++items2).size≤sizeLine+1:=by rw [Array.size_append]; exact h2
  wp_walk using (wpAny_updateSeq hl rfl (hz:=h1) (_hz':=hz)),wpAny_loadPart' hl,wpAny_loadPart' hb
  exact ⟨_,rfl,h⟩
noncomputable def rExtT (K:W.Frag):V→List V→Hp→VK→Prop:=fun x vs H Q=>∃ l b xs zs,x=.ref l∧vs=[.ref b]∧H l=some (.lst xs)∧SqT K H b zs∧xs.length+zs.length≤sizeLine∧Q .non (upd H l (.lst (xs++zs)))
theorem mt_extT:MtM X "list.extend" (rExtT X.K):=by
 intro pins s σ H x vs v us Q I rx rv h
 obtain ⟨l,b,xs,zs,rfl,rfl,hH,hB,hz,q⟩:=h
 cases rx
 obtain ⟨u,rfl,ru⟩:=rv.one
 cases ru
 obtain ⟨z,its,n,r,hl,e⟩:=I.lstM hH
 obtain ⟨its2,r2,⟨⟨c,dct,dt,sl⟩,e2,hc,n2,hd⟩,_⟩:=I.tuple hB
 replace hc:c=.type "tuple":=hc
 replace hd:dt=.seq its2.toArray n2:=hd
 subst hc hd
 have l2:zs.length=its2.length:=r2.length
 have hsz:its.toArray.size+its2.toArray.size≤sizeLine:=by rw [List.size_toArray,List.size_toArray]; omega
 have hlong:¬ (!its.toArray.isEmpty&&Builtin.List.listTooLong (its.toArray.size+its2.toArray.size))=true:=by
  rw [notLongL hsz,Bool.and_false]
  exact Bool.false_ne_true
 refine call_meets PySem.F.slot_list_extend ⟨_,e,rfl⟩ PySem.F.entry_list_extend (PySem.F.args_list_extend_2 _ _)
  (extTup l its.toArray n b its2.toArray n2 dct sl hlong (by rw [List.size_toArray]; omega) (by omega)) ⟨e,e2,?_⟩
 refine ⟨.non,_,I.lset (its':=its++its2) hH e (by simp) (r.append r2) ?_,rfl,q⟩
 rw [List.length_append]
 omega
end
open PySem PySem.Spec PyProof.Rows
abbrev IsTri (h:Heap) (T:Addr) (a b c:Value):Prop:=h.get? T=some { cls:=.type "tuple",data:=.seq #[a,b,c] }
structure ZAp3 (z TI TO i1 i2 i3:Addr) (f1 f2 f3:List Addr):Prop where
 TIz:TI≠z
 TOz:TO≠z
 i1z:i1≠z
 i2z:i2≠z
 i3z:i3≠z
 TITO:TI≠TO
 TIi1:TI≠i1
 TIi2:TI≠i2
 TIi3:TI≠i3
 TOi1:TO≠i1
 TOi2:TO≠i2
 TOi3:TO≠i3
 z1:z∉f1
 z2:z∉f2
 z3:z∉f3
 O1:TO∉f1
 O2:TO∉f2
 O3:TO∉f3
 a12:i1∉f2
 a13:i1∉f3
 a21:i2∉f1
 a23:i2∉f3
 a31:i3∉f1
 a32:i3∉f2
inductive Zgo3 (K:W.Frag) (H:Hp) (a b c:Addr) (i:Nat):Prop
 | mk (xs ys us:List V) (x y u:V) (q1:SqL K H a xs) (q2:SqT K H b ys) (q3:SqT K H c us) (ex:xs[i]?=some x) (ey:ys[i]?=some y) (eu:us[i]?=some u)
inductive Zst3 (K:W.Frag) (H:Hp) (a b c:Addr) (i:Nat):Prop
 | mk (xs ys us:List V) (q1:SqL K H a xs) (q2:SqT K H b ys) (q3:SqT K H c us) (ei:i=min xs.length (min ys.length us.length))
structure Zs3 (z TI TO i1 i2 i3 l1 l2 l3:Addr) (i:Nat) (h:Heap):Prop where
 a1:IsZip h z TI TO .none
 a2:IsTri h TI (.ref i1) (.ref i2) (.ref i3)
 a3:∃ a b c,IsTri h TO a b c
 a4:ItX false h i1 l1 i
 a5:ItX true h i2 l2 i
 a6:ItX true h i3 l3 i
section
variable {z TI TO i1 i2 i3 l1 l2 l3:Addr}{i:Nat}{h:Heap}
theorem Zs3.obj (st:Zs3 z TI TO i1 i2 i3 l1 l2 l3 i h):∀ b∈[z,TI,TO,i1,i2,i3],∃ o,h.get? b=some o∧∀ v,o.data≠.cell v:=by
 obtain ⟨_,_,_,a3⟩:=st.a3
 exact allC ⟨_,st.a1,fun v q=>by cases q⟩ (allC ⟨_,st.a2,fun v q=>by cases q⟩ (allC ⟨_,a3,fun v q=>by cases q⟩ (allC st.a4.obj (allC st.a5.obj (allC st.a6.obj allN)))))
theorem Zs3.ne (st:Zs3 z TI TO i1 i2 i3 l1 l2 l3 i h) {T:Addr} (hT:h.objs.size≤T):∀ b∈[z,TI,TO,i1,i2,i3],b≠T:=fun b hb=>by
 obtain ⟨o,e,_⟩:=st.obj b hb
 exact Nat.ne_of_lt (Nat.lt_of_lt_of_le (Heap.lt_size e) hT)
inductive ZF3 (X:Cx) (s:Shared) (H:Hp) (l1 l2 l3:Addr) (i:Nat):Prop
 | mk (xs ys us:List V) (x y u:V) (t1 t2 t3:List Value) (u1 u2 u3:Value) (q1:SqL X.K H l1 xs) (q2:SqT X.K H l2 ys) (q3:SqT X.K H l3 us) (ex:xs[i]?=some x) (ey:ys[i]?=some y) (eu:us[i]?=some u)
  (p1:IsX false s.heap l1 t1.toArray) (p2:IsX true s.heap l2 t2.toArray) (p3:IsX true s.heap l3 t3.toArray) (e1:t1[i]?=some u1) (e2:t2[i]?=some u2) (e3:t3[i]?=some u3) (r1:RelV x u1) (r2:RelV y u2) (r3:RelV u u3)
variable {X:Cx}{pins:List (Addr × Obj)}{σ:St}{H:Hp}{s:Shared}
end
open PySem PySem.Spec PyProof.Rows
theorem sliceApplied_rev {prog:Program}{w:World}{A:Around}{E:Value→Shared→Prop}{s:Shared}{sl:Addr}{t:Tok}{n:Nat}{Q:Int × Int × Nat→Shared→Prop} (hs:s.heap.IsSliceOf sl .none .none (.int (-1) t))
  (h:Q ((n:Int) - 1,-1,n) s):wpAny (model prog w) A (Builtin.Slice.sliceApplied (.ref sl) (pure (n:Int))) Q E s:=by
 obtain ⟨os,hos,hcs,hds⟩:=id hs
 unfold Builtin.Slice.sliceApplied Builtin.Slice.sliceFields
 refine wpAny_bind (wpAny_bind (wpAny_field hos hds (x:=.none) rfl (wpAny_bind (wpAny_field hos hds (x:=.none) rfl (wpAny_bind (wpAny_field hos hds (x:=.int (-1) t) rfl (wpAny_pure ?_)))))))
 refine wpAny_bind (HT.slicePart_ (.int (-1) t) ?_)
 show wpAny _ _ (if ((-1:Int) == 0)=true then _ else _) _ _ s
 rw [if_neg (by decide)]
 refine wpAny_bind (HT.slicePart_ .none (wpAny_bind (HT.slicePart_ .none (wpAny_bind (wpAny_pure ?_)))))
 show wpAny _ _ (match Builtin.Slice.sliceAdjust none none (-1) (n:Int) with | (lo,hi)=>pure (lo,(-1:Int),Builtin.Slice.slicePlaces lo hi (-1))) _ _ s
 have e1:Builtin.Slice.sliceAdjust none none (-1) (n:Int)=((n:Int) - 1,-1):=by
  unfold Builtin.Slice.sliceAdjust
  rfl
 rw [e1]
 have e2:Builtin.Slice.slicePlaces ((n:Int) - 1) (-1) (-1)=n:=by
  unfold Builtin.Slice.slicePlaces
  have h1:¬ ((-1:Int)>0):=by decide
  simp only [h1,if_false]
  split
  ·have e3:(- -1:Int)=1:=rfl
   rw [e3,Int.ediv_one]
   omega
  ·omega
 show wpAny _ _ (pure ((n:Int) - 1,(-1:Int),Builtin.Slice.slicePlaces ((n:Int) - 1) (-1) (-1))) _ _ s
 rw [e2]
 exact wpAny_pure h
theorem pick_rev (xs:Array Value):((List.range xs.size).filterMap fun (m:Nat)=>xs[(((xs.size:Int) - 1)+(m:Int)*-1).toNat]?).toArray=xs.toList.reverse.toArray:=by
 congr 1
 have key:∀ k,k≤xs.size→((List.range k).filterMap fun (m:Nat)=>xs[(((xs.size:Int) - 1)+(m:Int)*-1).toNat]?)=xs.toList.reverse.take k:=by
  intro k
  induction k with
  | zero=>intro _; simp
  | succ k ih =>
   intro hk
   rw [List.range_succ,List.filterMap_append,ih (by omega),List.take_add_one]
   congr 1
   have e2:(((xs.size:Int) - 1)+(k:Int)*-1).toNat=xs.size - 1 - k:=by omega
   rw [List.getElem?_reverse (by rw [Array.length_toList]; omega),Array.length_toList]
   simp only [List.filterMap_cons,List.filterMap_nil,e2]
   rw [Array.getElem?_toList]
   rw [Array.getElem?_eq_getElem (by omega)]
   rfl
 rw [key _ (Nat.le_refl _),List.take_of_length_le (by simp)]
theorem getItem_tuple_rev {prog:Program}{w:World}{A:Around}{E:Value→Shared→Prop}{s:Shared}{t sl:Addr}{items:Array Value}{tk:Tok}{Q:Value→Shared→Prop} (ht:IsTup s.heap t items) (hs:s.heap.IsSliceOf sl .none .none (.int (-1) tk))
  (h:Q (.ref s.heap.objs.size) { s with heap:=s.heap.push { cls:=.type "tuple",data:=.seq items.toList.reverse.toArray } }) (hsz:items.size≤sizeLine):wpAny (model prog w) A (getItem (.ref t) (.ref sl)) Q E s:=by
 have htake:sizeOk (.seq items.toList.reverse.toArray):=by
  show items.toList.reverse.toArray.size≤sizeLine
  simpa using hsz
 obtain ⟨os,hos,hcs,hds⟩:=id hs
 have hTs:s.TypeIs (.ref sl) "slice":=⟨os,hos,hcs⟩
 unfold getItem
 try with_reducible refine wpAny_holding ?_
 first | refine wpAny_bind (wpAny_pure ?_) | skip
 refine wpAny_bind (wpAny_sequenceKey ht.typeIs (by decide) ?_)
 refine wpAny_bind (wpAny_callSpecial?_slot (name:=Str.ofString "__getitem__") ht.typeIs PyProof.Rows.slot_tuple_getitem
  (wpAny_call_entry PyProof.Rows.slot_tuple_getitem ht.typeIs entry_tuple_getitem ?_ (args_tuple_getitem _ _)))
 show wpAny _ _ (Builtin.Tuple.tupleItemsOf (.ref t) >>= _) _ _ s
 refine wpAny_bind (tupleItemsOf_ ht ?_)
 refine wpAny_bind (wpAny_typeOf hTs ?_)
 rw [if_pos (by decide)]
 refine wpAny_bind (sliceApplied_rev hs ?_)
 show wpAny _ _ (if ((((items.size:Int) - 1)) == 0&&(-1:Int) == 1&&items.size == items.size)=true then _ else _) _ _ s
 rw [if_neg (by simp),pick_rev]
 first
  | exact wpAny_bind (m:=Builtin.Tuple.tupleExact _) (wpAny_newObj_type (wpAny_pure ⟨_,rfl,wpAny_pure h⟩) htake)
  | exact wpAny_bind (m:=Builtin.Tuple.tupleExact _) (wpAny_newObj_type (wpAny_bind (wpAny_pure (wpAny_pure ⟨_,rfl,wpAny_pure h⟩))) htake)
  | exact wpAny_bind (wpAny_bind (m:=Builtin.Tuple.tupleExact _) (wpAny_newObj_type (wpAny_pure (wpAny_pure ⟨_,rfl,wpAny_pure h⟩)) htake))
  | exact wpAny_bind (wpAny_bind (m:=Builtin.Tuple.tupleExact _) (wpAny_newObj_type (wpAny_pure ⟨_,rfl,wpAny_pure h⟩) htake))
section
variable {X:Cx}
noncomputable def tRev (K:W.Frag) (te ts:TE):TE:=fun σ H Q=>te σ H fun x H1=>ts σ H1 fun y H2=>y=.int (-1)∧∃ a xs,x=.ref a∧SqT K H2 a xs∧∀ p,H2 p=none→Q (.ref p) (upd H2 p (.tup xs.reverse))
theorem Vals.rev {xs:List V}{us:List Value} (r:Vals xs us):Vals xs.reverse us.reverse:=by
 induction r with
 | nil=>exact .nil
 | cons r t ih=>rw [List.reverse_cons,List.reverse_cons]; exact ih.append (.cons r .nil)
theorem pe_rev {e st:Expr}{te ts:TE}{p2 pos:Pos} (he:PE X e te) (hst:PE X st ts):PE X (.Subscript e (.Slice none none (some st) p2) pos) (tRev X.K te ts):=by
 intro pins s σ H Q I h
 refine Subscript_ (thn (he pins s σ H _ I h) fun v s1 ⟨x,H1,I1,r1,q1⟩=>?_)
 refine wpAny_Slice ?_
 rw [evalPart_none,evalPart_some]
 refine wpAny_pure (wpAny_pure (thn (hst pins s1 σ H1 _ I1 q1) fun vs s3 ⟨y,H3,I3,ry,q3⟩=>?_))
 obtain ⟨rfl,a,xs,rfl,hx,q⟩:=q3
 obtain ⟨tk,rfl⟩:=ry
 cases r1
 have I4:Inv X pins σ H3 { s3 with heap:=s3.heap.push { cls:=.type "slice",data:=.fields #[.none,.none,.int (-1) tk] } }:=I3.kept (t':=s3.toks) fun b ob q=>Heap.get?_push_of_some _ q
 obtain ⟨its,r,ht,hz⟩:=I4.tuple hx
 have hlen:its.toArray.size=xs.length:=by rw [List.size_toArray]; exact r.length.symm
 show wpAny (model X.prog X.w) X.A (subscriptTail e (.Slice none none (some st) p2) (.ref a) (.ref s3.heap.objs.size)) (EP X pins σ Q) X.xe { s3 with heap:=s3.heap.push { cls:=.type "slice",data:=.fields #[.none,.none,.int (-1) tk] } }
 refine tail_any (ops:=[.ref a,.ref s3.heap.objs.size]) ht.typeIs PyProof.Rows.slot_tuple_getitem.lookup ?_ (by with_unfolding_all rfl)
 refine getItem_tuple_rev ht (Heap.IsSliceOf.new ..) ?_ (by rw [hlen]; exact hz)
 refine ⟨.ref _,_,I4.laid (t':=s3.toks) (o:=.tup xs.reverse) (fun b ob q=>Heap.get?_push_of_some _ q) (Nat.le_refl _) ?_,rfl,q _ (I4.hok.fresh (Nat.le_refl _))⟩
 exact ⟨by rw [List.length_reverse]; exact hz,_,r.rev,IsTup.new _ _⟩
theorem ints_vals:∀ {us:List Value}{ns:List Int},IntsAre us ns→Vals (ns.map V.int) us
 | _,_,h=>by
  induction h with
  | nil=>exact .nil
  | cons _ _ _ ih=>exact .cons ⟨_,rfl⟩ ih
theorem call_sortedL:CallR X (.builtin "sorted") (fun vs H Q=>∃ (p:Addr) (ns:List Int),vs=[.ref p]∧SqL X.K H p (ns.map V.int)∧ns.length<64∧∀ (l:Addr) (ms:List Int),H l=none→ms.Perm ns→ms.Pairwise (·≤·)→Q (.ref l) (upd H l (.lst (ms.map V.int)))):=by
 intro pins s σ H xs us Q I r h
 obtain ⟨p,ns,rfl,hq,hn,q⟩:=h
 obtain ⟨u,rfl,ru⟩:=vals1 r
 cases ru
 obtain ⟨its,rv,pl,hz⟩:=I.list hq
 have hlen:=rv.length
 rw [List.length_map] at hlen
 refine sorted_ints pl.isList (intsAre_of rv) (by omega) fun out ns' h1 h2 h3=>?_
 obtain ⟨e,he⟩:=sortedAll_at s.heap its out
 have hl:ns'.length=ns.length:=h2.length_eq
 refine ⟨.ref (s.heap.objs.size+1),_,I.laid (t':=s.toks) (o:=.lst (ns'.map V.int)) (fun b o e=>sortedAll_old e) (Nat.le_succ _) ?_,rfl,q _ _ (I.hok.fresh (Nat.le_succ _)) h2 h3⟩
 exact ⟨by rw [List.length_map,hl]; exact Nat.le_trans (Nat.le_of_lt hn) (by decide),out.toList,e,ints_vals h1,by simpa [seqObj] using he⟩
theorem preSum_eq (ns:List Int):∀ k,k≤ns.length→preSum (fun i=>ns.getD i 0) k=(ns.take k).sum
 | 0,_=>by simp [preSum]
 | k+1,h=>by
  rw [List.take_add_one,List.getElem?_eq_getElem (by omega),List.sum_append]
  show preSum (fun i=>ns.getD i 0) k+ns.getD k 0=_
  rw [preSum_eq ns k (by omega)]
  have:k<ns.length:=by omega
  simp [List.getD,this]
theorem call_sumL (hc:X.calm=true):CallR X (.builtin "sum") (fun vs H Q=>∃ (p:Addr) (ns:List Int),vs=[.ref p]∧SqL X.K H p (ns.map V.int)∧(∀ n∈ns,0≤n∧n≤1000000)∧ns.length≤1000000∧Q (.int ns.sum) H):=by
 intro pins s σ H xs us Q I r h
 obtain ⟨p,ns,rfl,hq,hn,hl,q⟩:=h
 obtain ⟨u,rfl,ru⟩:=vals1 r
 cases ru
 obtain ⟨its,rv,pl,hz⟩:=I.list hq
 have hlt:p<s.heap.objs.size:=by obtain ⟨_,e,_⟩:=pl.isList; exact Heap.lt_size e
 have hlen:=rv.length
 rw [List.length_map] at hlen
 have b0:∀ k,k≤ns.length→0≤preSum (fun i=>ns.getD i 0) k∧preSum (fun i=>ns.getD i 0) k≤1000000*(k:Int):=by
  intro k
  induction k with
  | zero=>intro _; simp [preSum]
  | succ k ih =>
   intro hk
   have h1:=ih (by omega)
   have h2:=hn (ns.getD k 0) (by simp only [List.getD]; rw [List.getElem?_eq_getElem (by omega)]; exact List.getElem_mem _)
   show 0≤preSum _ k+ns.getD k 0∧preSum _ k+ns.getD k 0≤_
   omega
 refine call_sum_walk (wpAny_pyIter_list pl.isList ?_)
 refine ⟨s.heap.objs.size,_,[s.heap.objs.size],_,_,_,fun i=>ns.getD i 0,rfl,Walks.list (A:=X.A.in1) (show X.A.in1.handled=none from I.ok.hd hc) s.heap.objs.size p (Nat.ne_of_lt hlt) its.toArray,⟨⟨_,Heap.get?_push_size _ rfl,rfl,rfl⟩,pl.isList.push _⟩,fun b hb=>?_,fun i v hv=>?_,fun j hj=>?_,fun h' tk t' kk=>?_⟩
 ·rw [size_push']
  simp only [List.mem_cons,List.not_mem_nil,or_false] at hb
  rcases hb with rfl | rfl
  ·exact Nat.lt_succ_self _
  ·exact Nat.lt_succ_of_lt hlt
 ·have hv':its[i]?=some v:=by simpa using hv
  have hi:i<ns.length:=by have:=(List.getElem?_eq_some_iff.mp hv').1; omega
  obtain ⟨u,e,ru⟩:=Vals.get rv (i:=i) (x:=.int ns[i]) (by rw [List.getElem?_map,List.getElem?_eq_getElem hi]; rfl)
  rw [e] at hv'; cases hv'
  obtain ⟨t,rfl⟩:=ru
  exact ⟨t,by simp [List.getD,hi]⟩
 ·have hj':j<ns.length:=by rw [List.size_toArray] at hj; omega
  have h1:=b0 (j+1) (by omega)
  have h2:=hn (ns.getD j 0) (by simp only [List.getD]; rw [List.getElem?_eq_getElem hj']; exact List.getElem_mem _)
  have h3:((j+1:Nat):Int)≤1000000:=by omega
  have h4:preSum (fun i=>ns.getD i 0) (j+1)≤1000000000000:=by omega
  dsimp only
  generalize preSum (fun i=>ns.getD i 0) (j+1)=P at *
  generalize ns.getD j 0=G at *
  refine ⟨?_,?_⟩ <;> (unfold InLong; omega)
 ·have e:preSum (fun i=>ns.getD i 0) its.toArray.size=ns.sum:=by rw [List.size_toArray,← hlen,preSum_eq ns _ (Nat.le_refl _),List.take_length]
  rw [e]
  refine ⟨.int ns.sum,H,?_,⟨_,rfl⟩,q⟩
  exact I.kept (t':=tk) fun b o eb=>kk b o (by simp only [List.mem_singleton]; exact Nat.ne_of_lt (Heap.lt_size eb)) (Heap.get?_push_of_some _ eb)
theorem truth_ints {A:Around}{prog:Program}{w:World}{ns:List Int}{its:List Value} (r:Vals (ns.map V.int) its):TruthOf prog w A (fun i v=>its.toArray[i]?=some v) (fun i=>(ns.map (· != 0)).getD i false):=by
 intro i v s Q E hv hq
 have hv':its[i]?=some v:=by simpa using hv
 have hl:i<ns.length:=by
  have h1:=(List.getElem?_eq_some_iff.mp hv').1
  have h2:=r.length
  rw [List.length_map] at h2
  omega
 obtain ⟨u,e,ru⟩:=Vals.get r (i:=i) (x:=.int ns[i]) (by rw [List.getElem?_map,List.getElem?_eq_getElem hl]; rfl)
 rw [e] at hv'
 cases hv'
 obtain ⟨t,rfl⟩:=ru
 have eq:(ns.map (· != 0)).getD i false=(ns[i] != 0):=by simp [List.getD,hl]
 have hq':Q ((ns.map (· != 0)).getD i false) s:=hq
 rw [eq] at hq'
 exact PyProof.Rows.truthy_int hq'
theorem call_allT (hc:X.calm=true):CallR X (.builtin "all") (fun vs H Q=>∃ (p:Addr) (ns:List Int),vs=[.ref p]∧SqT X.K H p (ns.map V.int)∧Q (.bl (ns.all (· != 0))) H):=by
 intro pins s σ H xs us Q I r h
 obtain ⟨p,ns,rfl,hq,q⟩:=h
 obtain ⟨u,rfl,ru⟩:=vals1 r
 cases ru
 obtain ⟨its,rv,pl,hz⟩:=I.tuple hq
 have pl':s.heap.IsTuple p its.toArray:=pl
 have hlt:p<s.heap.objs.size:=by obtain ⟨_,e,_⟩:=pl'; exact Heap.lt_size e
 have hlen:=rv.length
 rw [List.length_map] at hlen
 refine call_all_walk (wpAny_pyIter_tuple pl' ?_)
 refine ⟨s.heap.objs.size,_,[s.heap.objs.size],_,_,_,_,rfl,Walks.tuple (A:=X.A.in1) (show X.A.in1.handled=none from I.ok.hd hc) s.heap.objs.size p (Nat.ne_of_lt hlt) its.toArray,⟨⟨_,Heap.get?_push_size _ rfl,rfl,rfl⟩,pl'.push _⟩,truth_ints rv,fun h' tk kk=>?_⟩
 have e:(List.range its.toArray.size).all (fun i=>(ns.map (· != 0)).getD i false)=ns.all (· != 0):=by rw [List.size_toArray,← hlen,show ns.length=(ns.map (· != 0)).length by simp,range_all,List.all_map]; rfl
 rw [e]
 refine ⟨.bl (ns.all (· != 0)),H,?_,rfl,q⟩
 exact I.kept (t':=tk) fun b o eb=>kk b o (by simp only [List.mem_singleton]; exact Nat.ne_of_lt (Heap.lt_size eb)) (Heap.get?_push_of_some _ eb)
theorem call_anyT (hc:X.calm=true):CallR X (.builtin "any") (fun vs H Q=>∃ (p:Addr) (ns:List Int),vs=[.ref p]∧SqT X.K H p (ns.map V.int)∧Q (.bl (ns.any (· != 0))) H):=by
 intro pins s σ H xs us Q I r h
 obtain ⟨p,ns,rfl,hq,q⟩:=h
 obtain ⟨u,rfl,ru⟩:=vals1 r
 cases ru
 obtain ⟨its,rv,pl,hz⟩:=I.tuple hq
 have pl':s.heap.IsTuple p its.toArray:=pl
 have hlt:p<s.heap.objs.size:=by obtain ⟨_,e,_⟩:=pl'; exact Heap.lt_size e
 have hlen:=rv.length
 rw [List.length_map] at hlen
 refine call_any_walk (wpAny_pyIter_tuple pl' ?_)
 refine ⟨s.heap.objs.size,_,[s.heap.objs.size],_,_,_,_,rfl,Walks.tuple (A:=X.A.in1) (show X.A.in1.handled=none from I.ok.hd hc) s.heap.objs.size p (Nat.ne_of_lt hlt) its.toArray,⟨⟨_,Heap.get?_push_size _ rfl,rfl,rfl⟩,pl'.push _⟩,truth_ints rv,fun h' tk kk=>?_⟩
 have e:(List.range its.toArray.size).any (fun i=>(ns.map (· != 0)).getD i false)=ns.any (· != 0):=by rw [List.size_toArray,← hlen,show ns.length=(ns.map (· != 0)).length by simp,range_any,List.any_map]; rfl
 rw [e]
 refine ⟨.bl (ns.any (· != 0)),H,?_,rfl,q⟩
 exact I.kept (t':=tk) fun b o eb=>kk b o (by simp only [List.mem_singleton]; exact Nat.ne_of_lt (Heap.lt_size eb)) (Heap.get?_push_of_some _ eb)
end
open PySem PySem.Spec PyProof.Rows
section
variable {X:Cx}
noncomputable def rInG (K:W.Frag) (neg:Bool):R2:=fun x y H Q=>∃ (p:Addr) (xs:List V) (N N':Addr→Prop) (dx:PyData) (ds:List PyData),
 y=.ref p∧(SqL K H p xs∨SqT K H p xs)∧Rp K H N x dx∧okD dx∧RpL K H N' xs ds∧(∀ d∈ds,okD d)∧Q (.bl (if neg then !(ds.any fun d=>PyData.eqv d dx) else ds.any fun d=>PyData.eqv d dx)) H
theorem any_eqW {h:Heap}{dx:PyData}:∀ {ds:List PyData}{us:List Value}{as:List Addr},ReadsAll h us ds as→(∀ d∈ds,okD d)→us.any (eqW h dx)=ds.any fun d=>PyData.eqv d dx
 | _,_,_,.nil,_=>rfl
 | _,_,_,.cons r rr,o=>by
  rw [List.any_cons,List.any_cons,eqW_is r (o _ (List.mem_cons_self ..)).1,any_eqW rr fun d hd=>o d (List.mem_cons_of_mem _ hd)]
theorem mem_eqW {A:Around}{s:Shared}{dx:PyData}{u:Value}{bs:List Addr} (hu:A.units+64<cLine) (rb:Reads s.heap u dx bs) (oy:okD dx):∀ {ds:List PyData}{us:List Value}{as:List Addr},ReadsAll s.heap us ds as→(∀ d∈ds,okD d)→∀ w∈us,SeqAt.EqAt A.in1 s w u (eqW s.heap dx w):=fun {ds us as} ra ods w hw=>by
 obtain ⟨m,hm,rfl⟩:=List.getElem_of_mem hw
 obtain ⟨d,cs,h1,h2⟩:=readsAll_get ra (List.getElem?_eq_getElem hm)
 have od:=ods d (List.mem_of_getElem? h1)
 rw [eqW_is h2 od.1]
 refine SeqAt.eqAt_reads d dx _ s _ _ _ _ h2 rb od.1 oy.1 ?_
 have:=od.2
 show A.units+1+min d.depth dx.depth<cLine
 omega
theorem op_inG (hu:X.A.units+64<cLine):OpR X (compareOp .In) (rInG X.K false):=by
 intro pins s σ H x y v u Q I rx ry h
 obtain ⟨p,xs,N,N',dx,ds,rfl,hq,hx,ox,hxs,ods,q⟩:=h
 cases ry
 obtain ⟨bs,rb⟩:=I.reads hx rx
 rcases hq with hq | hq
 ·obtain ⟨its,r,pl,hz⟩:=I.list hq
  obtain ⟨as,ra⟩:=I.readsL hxs r
  refine SeqAt.in_listAt (eqW s.heap dx) pl.isList (fun w hw=>mem_eqW hu rb ox ra ods w (by simpa using hw)) ⟨.bl _,H,I,rfl,?_⟩
  rw [show its.toArray.any (eqW s.heap dx)=its.any (eqW s.heap dx) by simp,any_eqW ra ods]
  exact q
 ·obtain ⟨its,r,pl,hz⟩:=I.tuple hq
  obtain ⟨as,ra⟩:=I.readsL hxs r
  refine SeqAt.in_tupleAt (eqW s.heap dx) pl (fun w hw=>mem_eqW hu rb ox ra ods w (by simpa using hw)) ⟨.bl _,H,I,rfl,?_⟩
  rw [show its.toArray.any (eqW s.heap dx)=its.any (eqW s.heap dx) by simp,any_eqW ra ods]
  exact q
theorem op_notInG (hu:X.A.units+64<cLine):OpR X (compareOp .NotIn) (rInG X.K true):=by
 intro pins s σ H x y v u Q I rx ry h
 obtain ⟨p,xs,N,N',dx,ds,rfl,hq,hx,ox,hxs,ods,q⟩:=h
 cases ry
 obtain ⟨bs,rb⟩:=I.reads hx rx
 rcases hq with hq | hq
 ·obtain ⟨its,r,pl,hz⟩:=I.list hq
  obtain ⟨as,ra⟩:=I.readsL hxs r
  refine SeqAt.notIn_listAt (eqW s.heap dx) pl.isList (fun w hw=>mem_eqW hu rb ox ra ods w (by simpa using hw)) ⟨.bl _,H,I,rfl,?_⟩
  rw [show its.toArray.any (eqW s.heap dx)=its.any (eqW s.heap dx) by simp,any_eqW ra ods]
  exact q
 ·obtain ⟨its,r,pl,hz⟩:=I.tuple hq
  obtain ⟨as,ra⟩:=I.readsL hxs r
  refine SeqAt.notIn_tupleAt (eqW s.heap dx) pl (fun w hw=>mem_eqW hu rb ox ra ods w (by simpa using hw)) ⟨.bl _,H,I,rfl,?_⟩
  rw [show its.toArray.any (eqW s.heap dx)=its.any (eqW s.heap dx) by simp,any_eqW ra ods]
  exact q
end
open PySem PySem.Spec PyProof.Rows
def Raw (h:Heap) (d:Addr) (es:Array DictEntry) (ep:Nat):Prop:=∃ o,h.get? d=some o∧o.cls=.type "dict"∧o.data=.dict es ep
theorem Raw.at {h h':Heap}{d:Addr}{es:Array DictEntry}{ep:Nat} (x:Raw h d es ep) (e:∀ o,h.get? d=some o→h'.get? d=some o):Raw h' d es ep:=let ⟨o,ho,r⟩:=x; ⟨o,e o ho,r⟩
theorem Raw.lt {h:Heap}{d:Addr}{es:Array DictEntry}{ep:Nat} (x:Raw h d es ep):d<h.objs.size:=let ⟨_,ho,_⟩:=x; Heap.lt_size ho
open PySem PySem.Spec PyProof.Rows
section
variable {prog:Program}{w:World}{A:Around}{E:Value→Shared→Prop}{s:Shared}{z TI TO i1 i2:Addr}{f1 f2:List Addr}{n1 n2 k:Nat}{P1 P2:Nat→Value→Prop}{S1 S2:Nat→Heap→Prop}
abbrev IsZipB (h:Heap) (z TI TO T:Addr) (b:Bool):Prop:=h.get? z=some { cls:=.type "zip",data:=.fields #[rawInt T,.bool b,.bool false,.ref TI,.ref TO] }
inductive ZWay (z TI TO:Addr) (h:Heap):Prop
 | fresh (e:IsZip h z TI TO .none)
 | busy (T:Addr) (oT:Obj) (b:Bool) (e:IsZipB h z TI TO T b) (a:h.get? T=some oT) (nz:T≠z) (n1:T≠TO)
structure ZRun (z TI TO i1 i2:Addr) (S1 S2:Nat→Heap→Prop) (k:Nat) (h:Heap):Prop where
 way:ZWay z TI TO h
 ti:IsPair h TI (.ref i1) (.ref i2)
 to:∃ a b,IsPair h TO a b
 s1:S1 k h
 s2:S2 k h
end
open PySem PySem.Spec PyProof.Rows
section
variable {prog:Program}{w:World}{A:Around}{z TI TO i1 i2 d:Addr}{f1 f2:List Addr}{n1 n2:Nat}{P1 P2:Nat→Value→Prop}{S1 S2:Nat→Heap→Prop}
noncomputable abbrev TK2 (prog:Program) (w:World):=tupleKind (zAF prog w)
def DRaw (prog:Program) (w:World) (h:Heap) (d:Addr) (xs:List (List Key × Addr × Value)):Prop:=∃ o es ep,h.get? d=some o∧o.ExactDict∧o.data=.dict es ep∧es.toList=xs.map (entryOfKey (TK2 prog w))∧(xs.map (·.1)).Nodup
theorem DRaw.of {h:Heap}{xs:List (List Key × Addr × Value)} (x:h.DictOfH (TK2 prog w) d xs):DRaw prog w h d xs:=let ⟨o,es,ep,a,b,c,e,_,f⟩:=x; ⟨o,es,ep,a,b,c,e,f⟩
theorem DRaw.at {h h':Heap}{xs:List (List Key × Addr × Value)} (x:DRaw prog w h d xs) (e:∀ o,h.get? d=some o→h'.get? d=some o):DRaw prog w h' d xs:=let ⟨o,es,ep,a,r⟩:=x; ⟨o,es,ep,e o a,r⟩
theorem ZRun.frame {h h':Heap}{k:Nat} (r:ZRun z TI TO i1 i2 S1 S2 k h) (D1:Draws prog w A i1 f1 n1 P1 S1) (D2:Draws prog w A i2 f2 n2 P2 S2) (e:∀ c o,c≠d→h.get? c=some o→h'.get? c=some o) (hd:∃ o,h'.get? d=some o) (nz:d≠z) (ni:d≠TI) (no:d≠TO) (m1:d∉f1) (m2:d∉f2):ZRun z TI TO i1 i2 S1 S2 k h':=by
 obtain ⟨way,ti,⟨a,b,to⟩,s1,s2⟩:=r
 refine ⟨?_,e _ _ ni.symm ti,⟨a,b,e _ _ no.symm to⟩,D1.frame _ _ _ s1 fun c hc o q=>e c o (fun z=>m1 (z▸hc)) q,D2.frame _ _ _ s2 fun c hc o q=>e c o (fun z=>m2 (z▸hc)) q⟩
 rcases way with hz | ⟨T,oT,bb,hz,hT,n1,n2⟩
 ·exact .fresh (e _ _ nz.symm hz)
 ·by_cases q:T=d
  ·subst q
   obtain ⟨o,ho⟩:=hd
   exact .busy T o bb (e _ _ nz.symm hz) ho n1 n2
  ·exact .busy T oT bb (e _ _ nz.symm hz) (e _ _ q hT) n1 n2
structure ZAll (prog:Program) (w:World) (z TI TO i1 i2 d:Addr) (f1 f2:List Addr) (n1 n2:Nat) (P1 P2:Nat→Value→Prop) (S1 S2:Nat→Heap→Prop) (ks:List (List Key × Addr × Value)) (h0:Heap):Prop where
 D1:∀ A:Around,A.handled=none→Draws prog w A i1 f1 n1 P1 S1
 D2:∀ A:Around,A.handled=none→Draws prog w A i2 f2 n2 P2 S2
 ap:ZAp z TI TO i1 i2 f1 f2
 m1:i1∈f1
 m2:i2∈f2
 n:ks.length=min n1 n2
 p1:∀ i x q,P1 i x→ks[i]?=some q→x=.ref q.2.1
 p2:∀ i y q,P2 i y→ks[i]?=some q→y=q.2.2
 key:∀ q∈ks,(TK2 prog w).is h0 q.1 q.2.1
 fr:∀ c o,h0.get? c=some o→c≠z∧c≠TO∧c≠i1∧c≠i2∧c≠d
 nz:d≠z
 ni:d≠TI
 no:d≠TO
 d1:d∉f1
 d2:d∉f2
end
open PySem PySem.Spec PyProof.Rows
noncomputable def KRw (H:Hp):List (List Key)→List V→Prop:=Paired fun k v=>∃ a,v=.ref a∧H a=some (.tup (k.map kV))
noncomputable def foldP (kvs ps:List (List Key × V)):List (List Key × V):=ps.foldl (fun acc q=>putK acc q.1 q.2) kvs
noncomputable def stoF (zs ks:List (List Key × Addr × Value)):List (List Key × Addr × Value):=ks.foldl (fun a q=>storedH a q.1 q.2.1 q.2.2) zs
inductive KFold (H:Hp) (kvs:List (List Key × V)) (zs:List (List Key × Addr × Value)) (ps:List (List Key × V)) (u1 u2:List Value):Prop
 | mk (ks:List (List Key × Addr × Value)) (r:KT H (foldP kvs ps) (stoF zs ks)) (n:ks.length=min u1.length u2.length) (p1:∀ (i:Nat) (x:Value) (q:List Key × Addr × Value),u1[i]?=some x→ks[i]?=some q→x=.ref q.2.1) (p2:∀ (i:Nat) (y:Value) (q:List Key × Addr × Value),u2[i]?=some y→ks[i]?=some q→y=q.2.2) (k:∀ q∈ks,H q.2.1=some (.tup (q.1.map kV)))
section
variable {X:Cx}{a b:Expr}{ta:TA}{p p2 pos pos2:Pos}
theorem KRw.length {H:Hp}{kks:List (List Key)}{xs:List V} (r:KRw H kks xs):kks.length=xs.length:=Paired.length r
end
open PySem PySem.Spec PyProof.Rows
inductive FzD (X:Cx) (H:Hp) (h:Heap) (a:Addr) (o:Obj) (kvs:List (List Key × V)):Prop
 | mk (es:Array DictEntry) (ep:Nat) (xs:List (List Key × Addr × Value)) (g:h.get? a=some o) (c:o.cls=.type "dict") (d:o.data=.dict es ep) (r:KT H kvs xs) (e:es.toList=xs.map (entryOfKey (tupleKind (zAF X.prog X.w)))) (lo:(a == sysModules)=false) (z:kvs.length≤sizeLine)
open PySem PySem.Spec PyProof.Rows
def Rs (xs:Array Nat):Prop:=xs.toList.Pairwise (·<·)
theorem Rs.get {xs:Array Nat} (h:Rs xs) {i j a b:Nat} (ha:xs[i]?=some a) (hb:xs[j]?=some b) (l:i<j):a<b:=by
 rw [← Array.getElem?_toList] at ha hb
 obtain ⟨hi,rfl⟩:=List.getElem?_eq_some_iff.mp ha
 obtain ⟨hj,rfl⟩:=List.getElem?_eq_some_iff.mp hb
 exact List.pairwise_iff_getElem.mp h i j hi hj l
def Bl (xs:Array Nat) (j r:Nat):Prop:=r≤xs.size∧(∀ i a,xs[i]?=some a→i<r→a<j)∧∀ i a,xs[i]?=some a→r≤i→j≤a
theorem below_go {xs:Array Nat} (h:Rs xs) (j:Nat):∀ (n lo hi:Nat),hi - lo≤n→lo≤hi→hi≤xs.size→(∀ i a,xs[i]?=some a→i<lo→a<j)→(∀ i a,xs[i]?=some a→hi≤i→j≤a)→Bl xs j (SetTable.below.go xs j n lo hi)
 | 0,lo,hi,h1,h2,h3,h4,h5=>by
  have e:lo=hi:=by omega
  subst e
  exact ⟨h3,h4,h5⟩
 | n+1,lo,hi,h1,h2,h3,h4,h5=>by
  unfold SetTable.below.go
  split
  ·rename_i hl
   have hm:(lo+hi) / 2<xs.size:=by omega
   have hx:xs[(lo+hi) / 2]?=some xs[(lo+hi) / 2]:=Array.getElem?_eq_getElem hm
   have hg:xs.getD ((lo+hi) / 2) j=xs[(lo+hi) / 2]:=by simp [Array.getD,hm]
   simp only [hg]
   split
   ·rename_i hs
    refine below_go h j n _ hi (by omega) (by omega) h3 (fun i a ha hi2=>?_) h5
    by_cases e:i=(lo+hi) / 2
    ·subst e
     rw [hx] at ha
     cases ha
     exact hs
    ·exact Nat.lt_trans (h.get ha hx (by omega)) hs
   ·rename_i hs
    refine below_go h j n lo _ (by omega) (by omega) (by omega) h4 (fun i a ha hi2=>?_)
    by_cases e:i=(lo+hi) / 2
    ·subst e
     rw [hx] at ha
     cases ha
     omega
    ·have:=h.get hx ha (by omega)
     omega
  ·have e:lo=hi:=by omega
   subst e
   exact ⟨h3,h4,h5⟩
theorem below_bl {xs:Array Nat} (h:Rs xs) (j:Nat):Bl xs j (SetTable.below xs j):=by
 refine below_go h j _ 0 xs.size (by omega) (by omega) (Nat.le_refl _) (fun i a _ l=>absurd l (Nat.not_lt_zero _)) fun i a ha l=>?_
 have:i<xs.size:=by
  rcases Nat.lt_or_ge i xs.size with g | g
  ·exact g
  ·rw [Array.getElem?_eq_none g] at ha; cases ha
 omega
theorem Rs.insert {xs:Array Nat} (h:Rs xs) {j:Nat} (hn:xs[SetTable.below xs j]?≠some j):Rs (SetTable.insertAt xs (SetTable.below xs j) j):=by
 obtain ⟨b1,b2,b3⟩:=below_bl h j
 unfold Rs
 rw [SetTable.toList_insertAt]
 have e:xs.toList=xs.toList.take (SetTable.below xs j)++xs.toList.drop (SetTable.below xs j):=(List.take_append_drop _ _).symm
 have h':=h
 unfold Rs at h'
 rw [e,List.pairwise_append] at h'
 obtain ⟨p1,p2,p3⟩:=h'
 have q1:∀ a∈xs.toList.take (SetTable.below xs j),a<j:=fun a ha=>by
  obtain ⟨i,hi,rfl⟩:=List.getElem_of_mem ha
  rw [List.length_take] at hi
  refine b2 i _ ?_ (by omega)
  rw [← Array.getElem?_toList,List.getElem_take]
  exact List.getElem?_eq_getElem _
 have q2:∀ a∈xs.toList.drop (SetTable.below xs j),j<a:=fun a ha=>by
  obtain ⟨i,hi,rfl⟩:=List.getElem_of_mem ha
  rw [List.length_drop] at hi
  have g:xs[SetTable.below xs j+i]?=some ((xs.toList.drop (SetTable.below xs j))[i]):=by
   rw [← Array.getElem?_toList,List.getElem_drop]
   exact List.getElem?_eq_getElem _
  have l:=b3 _ _ g (by omega)
  rcases Nat.lt_or_eq_of_le l with l | l
  ·exact l
  ·exfalso
   by_cases e0:i=0
   ·subst e0
    rw [← l] at g
    exact hn g
   ·have hlt:SetTable.below xs j<xs.size:=by rw [Array.length_toList] at hi; omega
    have hr:xs[SetTable.below xs j]?=some xs[SetTable.below xs j]:=Array.getElem?_eq_getElem hlt
    have:=h.get hr g (by omega)
    have:=b3 _ _ hr (Nat.le_refl _)
    omega
 rw [List.pairwise_append,List.pairwise_cons]
 refine ⟨p1,⟨q2,p2⟩,fun a ha b hb=>?_⟩
 rcases List.mem_cons.mp hb with rfl | hb
 ·exact q1 a ha
 ·exact p3 a ha b hb
theorem slot_free {t:SetTable}{j:Nat} (h:(∃ i,t.slot j=.live i)→False):t.place[SetTable.below t.place j]?≠some j:=by
 intro e
 refine h ⟨SetTable.below t.place j,?_⟩
 unfold SetTable.slot
 simp only [e,beq_self_eq_true,if_true]
theorem probe_go {t:SetTable}{f:Nat→Int}{h:Int}:∀ (n:Nat) (p:SetTable.Probe) {j:Nat}{d:Option Nat},(∀ x,p.dummy=some x→t.place[SetTable.below t.place x]?≠some x)→SetTable.probe.go t f h n p=some (.empty j d)→t.place[SetTable.below t.place (d.getD j)]?≠some (d.getD j)
 | 0,p,j,d,hp,e=>by cases e
 | n+1,p,j,d,hp,e=>by
  unfold SetTable.probe.go at e
  have adv:∀ q:SetTable.Probe,(t.advance q).dummy=q.dummy:=fun q=>by
   unfold SetTable.advance
   split <;> rfl
  split at e
  ·rename_i hs
   cases e
   cases hd:p.dummy with
   | none=>exact slot_free fun ⟨i,hi⟩=>by rw [show (none:Option Nat).getD p.j=p.j from rfl,hs] at hi; cases hi
   | some x=>exact hp x hd
  ·rename_i hs
   refine probe_go n _ (fun x hx=>?_) e
   rw [adv] at hx
   cases hx
   exact slot_free fun ⟨i,hi⟩=>by rw [hs] at hi; cases hi
  ·split at e
   ·cases e
   ·exact probe_go n _ (fun x hx=>hp x (by rw [adv] at hx; exact hx)) e
theorem freeSlot_free {t:SetTable}{h:Int}{j:Nat}{b:Bool} (e:t.freeSlot h=some (j,b)):t.place[SetTable.below t.place j]?≠some j:=by
 unfold SetTable.freeSlot at e
 split at e
 ·rename_i j' d he
  cases e
  exact probe_go _ _ (fun x hx=>by simp [SetTable.probeStart] at hx) he
 ·cases e
structure TOk (bt:Bool) (t:SetTable):Prop where
 led:t.led=!bt
 up:t.plain=true→Rs t.place
theorem TOk.fresh (bt:Bool):TOk bt (.fresh 0 0 (!bt)):=⟨rfl,fun _=>by simp [SetTable.fresh,Rs]⟩
theorem TOk.standIn {bt:Bool}{t:SetTable} (h:TOk bt t) (n:Nat):TOk bt (t.standIn n):=⟨h.led,fun e=>by cases e⟩
theorem TOk.layNew {bt:Bool}{t:SetTable} (k:TOk bt t) (es:Array (Int × Value)) (h:Int) (x:Value):TOk bt (layNew t es h x).2.1:=by
 unfold PySem.layNew
 split
 ·rename_i j b e
  show TOk bt (SetTable.orStandIn (t.put j).1 _)
  have k1:TOk bt (t.put j).1:=⟨k.led,fun p=>(k.up p).insert (freeSlot_free e)⟩
  unfold SetTable.orStandIn
  split
  ·exact k1
  ·exact k1.standIn _
 ·exact k.standIn _
theorem laid_up {m f v:Nat}{l p:Bool}{hs:Array Int}{t:SetTable}{o:Array Nat} (e:SetTable.laid m f v l p hs=some (t,o)):t.led=l∧t.plain=p∧Rs t.place:=by
 unfold SetTable.laid at e
 obtain ⟨ow,_,e⟩:=Option.bind_eq_some_iff.mp e
 cases e
 refine ⟨rfl,rfl,?_⟩
 have e2:∀ ks:List Nat,(ks.filterMap fun j=>(ow.getD j none).map (j,·)).map (·.1)=ks.filter fun j=>(ow.getD j none).isSome:=by
  intro ks
  induction ks with
  | nil=>rfl
  | cons a ks ih =>
   cases h:ow.getD a none with
   | none=>rw [List.filterMap_cons_none (by rw [h]; rfl),List.filter_cons_of_neg (by rw [h]; exact Bool.false_ne_true),ih]
   | some b=>rw [List.filterMap_cons_some (b:=(a,b)) (by rw [h]; rfl),List.filter_cons_of_pos (by rw [h]; rfl),List.map_cons,ih]
 show List.Pairwise (·<·) (((List.range (m+1)).filterMap fun j=>(ow.getD j none).map (j,·)).map (·.1))
 rw [e2]
 exact List.Pairwise.filter _ List.pairwise_lt_range
theorem TOk.relayAll {bt:Bool}{t:SetTable} (k:TOk bt t) (es:Array (Int × Value)) (n:Nat):TOk bt (relayAll t es n).2.1:=by
 unfold PySem.relayAll
 split
 ·rename_i t' o e
  obtain ⟨h1,h2,h3⟩:=laid_up e
  dsimp only
  split
  ·exact ⟨h1.trans k.led,fun _=>h3⟩
  ·exact k.standIn _
 ·exact k.standIn _
open PySem PySem.Spec PyProof.Rows
noncomputable def iV:Value→Int
 | .int z _=>z
 | _=>0
noncomputable def iE (e:Int × Value):Int:=iV e.2
def EI (es:List (Int × Value)):Prop:=∀ e∈es,∃ z tk,e=(hashInt z,Value.int z tk)
theorem EI.elems {prog:Program}{w:World}{es:List (Int × Value)} (h:EI es):ElemsOf (intKind prog w) es:=fun e he=>by
 obtain ⟨z,tk,rfl⟩:=h e he
 exact ⟨⟨z,intKind_is prog w z tk,rfl⟩,rfl⟩
theorem EI.perm {a b:List (Int × Value)} (h:EI a) (p:b.Perm a):EI b:=fun e he=>h e (p.mem_iff.mp he)
inductive StI (bt:Bool) (h:Heap) (a:Addr) (zs:List Int):Prop
 | mk (o:Obj) (es:Array (Int × Value)) (ep:Nat) (t:SetTable) (g:h.get? a=some o) (x:o.ExactSet) (d:o.data=.set es ep t) (k:TOk bt t) (f:t.fits es.size=true) (b:es.size<scanBound) (e:EI es.toList) (p:(es.toList.map iE).Perm zs)
theorem StI.at {bt:Bool}{h h':Heap}{a:Addr}{zs:List Int} (S:StI bt h a zs) (k:∀ o,h.get? a=some o→h'.get? a=some o):StI bt h' a zs:=by
 obtain ⟨o,es,ep,t,g,r⟩:=S
 exact ⟨o,es,ep,t,k o g,‹_›,‹_›,‹_›,‹_›,‹_›,‹_›,‹_›⟩
theorem StI.stored {bt:Bool}{h:Heap}{a:Addr}{o:Obj}{es es':Array (Int × Value)}{ep:Nat}{t t':SetTable}{zs:List Int} (g:h.get? a=some o) (x:o.ExactSet) (d:o.data=.set es ep t)
  (k:TOk bt t') (f:t'.fits es'.size=true) (b:es'.size<scanBound) (e:EI es'.toList) (p:(es'.toList.map iE).Perm zs) :
  (h.update a (Obj.putSet es' t')).get? a=some { o with data:=.set es' (ep+1) t' }∧StI bt (h.update a (Obj.putSet es' t')) a zs:=by
 have hg:(h.update a (Obj.putSet es' t')).get? a=some { o with data:=.set es' (ep+1) t' }:=by
  have:=Heap.get?_update_self (Obj.putSet es' t') g (by rw [putSet_of es' t' d]; rfl)
  rw [putSet_of es' t' d] at this
  exact this
 exact ⟨hg,_,es',ep+1,t',hg,x,rfl,k,f,b,e,p⟩
noncomputable def one (zs:List Int) (z:Int):List Int:=if z∈zs then zs else z::zs
section
variable {prog:Program}{w:World}{A:Around}{E:Value→Shared→Prop}{s:Shared}{bt:Bool}{a:Addr}{zs:List Int}
theorem add_int {z:Int}{tk:Tok}{Q:Bool→Shared→Prop} (S:StI bt s.heap a zs) (room:zs.length+1<scanBound)
  (h:∀ (b:Bool) (h':Heap),Heap.SameBut a s.heap h'→StI bt h' a (one zs z)→Q b { s with heap:=h' }) :
  wpAny (model prog w) A (setAddHashed a (.int z tk) (hashInt z)) Q E s:=by
 obtain ⟨o,es,ep,t,g,x,d,k,f,b,e,p⟩:=S
 have hl:es.size=zs.length:=by rw [← p.length_eq,List.length_map,Array.length_toList]
 unfold setAddHashed setAddHashedIn
 refine wpAny_holding (wpAny_bind (wpAny_setState_of g d f ?_))
 dsimp only
 rw [byScan_of (knd:=intKind prog w) rfl b e.elems,if_pos rfl]
 unfold setAddByScan
 refine wpAny_bind (wpAny_bind (wpAny_rule (wpAny_bind (wpAny_setScan_of (knd:=intKind prog w) (k:=z) (intKind_is prog w z tk) g d f e.elems ?_))))
 cases hr:es.toList.findIdx? (fun q=>(intKind prog w).is z q.2) with
 | some j =>
  obtain ⟨hj,hp,_⟩:=List.findIdx?_eq_some_iff_getElem.mp hr
  have hm:z∈zs:=by
   obtain ⟨z',tk',e1⟩:=e _ (List.getElem_mem hj)
   rw [e1] at hp
   have hz:z'=z:=by simpa [intKind,Value.isInt] using hp
   rw [← hz]
   refine p.mem_iff.mp (List.mem_map.mpr ⟨_,List.getElem_mem hj,?_⟩)
   rw [e1]
   rfl
  refine wpAny_pure (wpAny_pure ?_)
  have:=h false s.heap (Heap.SameBut.refl ..) ⟨o,es,ep,t,g,x,d,k,f,b,e,by rw [one,if_pos hm]; exact p⟩
  cases s
  exact this
 | none =>
  have hm:z∉zs:=fun hz=>by
   obtain ⟨q,hq,e2⟩:=List.mem_map.mp (p.mem_iff.mpr hz)
   have:=List.findIdx?_eq_none_iff.mp hr q hq
   obtain ⟨z',tk',e1⟩:=e q hq
   rw [e1] at this e2
   have hz':z'=z:=e2
   subst hz'
   exact absurd (intKind_is prog w z' tk') (by rw [this]; exact Bool.false_ne_true)
  have p1:=layNew_perm t es (hashInt z) (.int z tk)
  have f1:=layNew_fits t es (hashInt z) (.int z tk)
  have k1:=k.layNew es (hashInt z) (.int z tk)
  dsimp only
  generalize hL:layNew t es (hashInt z) (.int z tk)=L at p1 f1 k1 ⊢
  obtain ⟨es1,t1,wd,gv⟩:=L
  dsimp only at p1 f1 k1 ⊢
  have e1:EI es1.toList:=EI.perm (fun q hq=>by
   rw [Array.toList_push] at hq
   rcases List.mem_append.mp hq with hq | hq
   ·exact e q hq
   ·exact ⟨z,tk,List.mem_singleton.mp hq⟩) p1
  have q1:(es1.toList.map iE).Perm (one zs z):=by
   refine (p1.map iE).trans ?_
   rw [Array.toList_push,List.map_append,one,if_neg hm]
   exact (List.Perm.append_right _ p).trans (List.perm_append_singleton z zs)
  have z1:es1.size=es.size+1:=by rw [← Array.length_toList,p1.length_eq,Array.length_toList,Array.size_push]
  have b1:es1.size<scanBound:=by omega
  have tail:∀ (t2:SetTable) (G:Bool→Sem Unit) (hG:∀ (b:Bool) (s₁:Shared) (Q':Unit→Shared→Prop),Q' () s₁→wpAny (model prog w) A (G b) Q' E s₁),TOk bt t2→t2.fits es1.size=true →
    wpAny (model prog w) A (do
     storeSet a es1 t2
     if (!wd&&t2.tooFull)=true then do
       G (relayAll t2 es1 (SetTable.grown es1.size)).2.2
       storeSet a (relayAll t2 es1 (SetTable.grown es1.size)).1 (relayAll t2 es1 (SetTable.grown es1.size)).2.1
       pure (some true)
      else pure (some true)) (fun r s'=>wpAny (model prog w) A (match r with | some added=>pure added | none=>setAddHashedIn a (.int z tk) (hashInt z) 99999) Q E s') E s:=by
   intro t2 G hG k2 f2
   refine wpAny_bind (wpAny_storeSet_of g d ?_ (fits_of_scanBound b1))
   obtain ⟨g3,S3⟩:=StI.stored g x d k2 f2 b1 e1 q1
   split
   ·have p4:=relayAll_perm t2 es1 (SetTable.grown es1.size)
    have f4:=relayAll_fits t2 es1 (SetTable.grown es1.size)
    have k4:=k2.relayAll es1 (SetTable.grown es1.size)
    generalize relayAll t2 es1 (SetTable.grown es1.size)=M at p4 f4 k4 ⊢
    obtain ⟨es2,t3,gv2⟩:=M
    dsimp only at p4 f4 k4 ⊢
    have z4:es2.size=es1.size:=by rw [← Array.length_toList,p4.length_eq,Array.length_toList]
    have b4:es2.size<scanBound:=by omega
    refine wpAny_bind (hG _ _ _ (wpAny_bind (wpAny_storeSet_of g3 rfl ?_ (fits_of_scanBound b4))))
    refine wpAny_pure (wpAny_pure (h true _ ((Heap.SameBut.update s.heap a _).trans (Heap.SameBut.update _ a _)) ?_))
    exact (StI.stored g3 x rfl k4 f4 b4 (e1.perm p4) ((p4.map iE).trans q1)).2
   ·exact wpAny_pure (wpAny_pure (h true _ (Heap.SameBut.update s.heap a _) S3))
  have hgw:∀ (b:Bool) (s₁:Shared) (Q':Unit→Shared→Prop),Q' () s₁→wpAny (model prog w) A (match b with | true=>rule "set.scan.the-table-gave-way" | false=>pure ()) Q' E s₁ :=
   fun b s₁ Q' hq=>by cases b <;> first | exact wpAny_pure hq | exact wpAny_rule hq
  refine wpAny_bind (hgw _ _ _ ?_)
  split
  ·refine wpAny_bind ?_
   rw [hashByValue_scannable 8 rfl]
   refine wpAny_pure ?_
   exact tail _ _ hgw k1 f1
  ·refine wpAny_bind (wpAny_pure ?_)
   exact tail _ _ hgw k1 f1
end
open PySem PySem.Spec PyProof.Rows
def IsSI (h:Heap) (it S:Addr) (f:Value) (i n ep:Nat):Prop:=∃ o,h.get? it=some o∧o.cls=.type "set_iterator"∧o.data=.fields #[f,.int (i:Int) 0,.ref S,.int (n:Int) 0,.int (ep:Int) 0]
section
variable {prog:Program}{w:World}{A:Around}{E:Value→Shared→Prop}{s:Shared}{it S:Addr}{f:Value}{i n ep:Nat}
theorem IsSI.ty (h:IsSI s.heap it S f i n ep):s.TypeIs (.ref it) "set_iterator":=let ⟨o,g,c,_⟩:=h; ⟨o,g,c⟩
theorem IsSI.at {h h':Heap} (x:IsSI h it S f i n ep) (e:∀ o,h.get? it=some o→h'.get? it=some o):IsSI h' it S f i n ep:=let ⟨o,g,r⟩:=x; ⟨o,e _ g,r⟩
end
open PySem PySem.Spec PyProof.Rows
section
variable {prog:Program}{w:World}{A:Around}{E:Value→Shared→Prop}{s:Shared}{S I T:Addr}{ep:Nat}{es:Array (Int × Value)}{t:SetTable}{o:Obj}{vs:List Value}
inductive SIt (prog:Program) (w:World) (A:Around) (h0:Heap) (S I:Addr) (h':Heap) (n:Nat) (vs:List Value):Prop
 | mk (fp:List Addr) (St:Nat→Heap→Prop) (vals:List Value) (p:vals.Perm vs) (W:Walks prog w A I fp [I] n (fun i v=>vals[i]?=some v) St) (st:St 0 h') (f:∀ b∈fp,b=S∨h0.objs.size≤b) (i:h0.objs.size≤I)
end
open PySem PySem.Spec PyProof.Rows
theorem Inv.dr {X:Cx}{pins:List (Addr × Obj)}{σ:St}{H:Hp}{s:Shared} (I:Inv X pins σ H s) (d:Drawn):Inv X pins σ H { s with drawn:=d } :=
 ⟨I.ok,I.os,I.bare,I.base,I.loc,I.cell,I.free,I.freeC,I.pin,I.hok,I.len⟩
open PySem PySem.Spec PyProof.Rows
inductive D where
 | non | bl (b:Bool) | int (i:Int) | str (x:Str) | ty (n:String) | tup (xs:List D) | lst (n:Nat) | dct (n:Nat) | rol (xs:List D)
inductive O where
 | lst (xs:List D) | dk (kvs:List (Key × D)) | dt (kvs:List (List Key × D))
noncomputable abbrev zA1:=List O
noncomputable abbrev Env1:=List (Option D)
def SqF (K:W.Frag) (H:Hp) (a:Addr) (xs:List V):Prop:=(∃ o,H a=some (.frz o (.lst xs))) ∨
  ∃ (o:Obj) (its:Array Value) (n:Nat),K.lookup a=some o∧o.cls=.type "list"∧o.dict=none∧o.data=.seq its n∧its.size≤sizeLine∧Vals xs its.toList
theorem SqF.sq {K:W.Frag}{H:Hp}{a:Addr}{xs:List V} (h:SqF K H a xs):SqL K H a xs:=by
 rcases h with ⟨o,h⟩ | h
 ·exact .inl (.inr ⟨o,h⟩)
 ·exact .inr h
structure TF (K:W.Frag) (H H':Hp):Prop where
 t:TK K H H'
 f:∀ a xs,SqF K H a xs→SqF K H' a xs
 u:∀ a xs,H a=some (.tup xs)→H' a=some (.tup xs)
theorem TF.refl (K:W.Frag) (H:Hp):TF K H H:=⟨TK.refl K H,fun _ _ h=>h,fun _ _ h=>h⟩
theorem TF.trans {K:W.Frag}{H H1 H2:Hp} (a:TF K H H1) (b:TF K H1 H2):TF K H H2:=⟨a.t.trans b.t,fun p xs h=>b.f p xs (a.f p xs h),fun p xs h=>b.u p xs (a.u p xs h)⟩
theorem tf_of {K:W.Frag}{H H':Hp}{p:Addr} (h:∀ q o,q≠p→H q=some o→H' q=some o) (nt:∀ xs,H p≠some (.tup xs)) (nf:∀ x y,H p≠some (.frz x y)):TF K H H':=by
 refine ⟨fun q ys e=>?_,fun q ys e=>?_,fun q ys e=>h _ _ (fun z=>nt _ (z▸e)) e⟩
 ·rcases e with (e | ⟨w,e⟩) | e
  ·exact .inl (.inl (h _ _ (fun z=>nt _ (z▸e)) e))
  ·exact .inl (.inr ⟨w,h _ _ (fun z=>nf _ _ (z▸e)) e⟩)
  ·exact .inr e
 ·rcases e with ⟨w,e⟩ | e
  ·exact .inl ⟨w,h _ _ (fun z=>nf _ _ (z▸e)) e⟩
  ·exact .inr e
theorem tf_upd {K:W.Frag}{H:Hp}{p:Addr}{u o:HO} (e:H p=some u) (nt:∀ xs,u≠.tup xs) (nf:∀ x y,u≠.frz x y):TF K H (upd H p o) :=
 tf_of (p:=p) (fun q v hq h=>by rw [zAb hq]; exact h) (fun xs h=>by rw [e] at h; exact nt xs (Option.some.inj h)) (fun x y h=>by rw [e] at h; exact nf x y (Option.some.inj h))
theorem tf_lst {K:W.Frag}{H:Hp}{p:Addr}{xs:List V}{o:HO} (e:H p=some (.lst xs)):TF K H (upd H p o):=tf_upd e (fun _ z=>by cases z) (fun _ _ z=>by cases z)
theorem tf_same {K:W.Frag}{H H':Hp} (h:Same H H'):TF K H H':=⟨fun p xs e=>h.tup e,fun q ys e=>by
 rcases e with ⟨w,e⟩ | e
 ·exact .inl ⟨w,h _ _ e⟩
 ·exact .inr e,fun _ _ e=>h _ _ e⟩
mutual
noncomputable def RV (K:W.Frag) (H:Hp) (μ:List Addr):D→V→Prop
 | .non,v=>v=.non
 | .bl b,v=>v=.bl b
 | .int i,v=>v=.int i
 | .str x,v=>v=.str x
 | .ty n,v=>v=.ty n
 | .tup xs,v=>∃ p vs,v=.ref p∧H p=some (.tup vs)∧RVs K H μ xs vs
 | .lst n,v=>∃ a,v=.ref a∧μ[n]?=some a
 | .dct n,v=>∃ a,v=.ref a∧μ[n]?=some a
 | .rol xs,v=>∃ p vs,v=.ref p∧SqF K H p vs∧RVs K H μ xs vs
noncomputable def RVs (K:W.Frag) (H:Hp) (μ:List Addr):List D→List V→Prop
 | [],vs=>vs=[]
 | d::ds,vs=>∃ v ws,vs=v::ws∧RV K H μ d v∧RVs K H μ ds ws
end
def RKs {κ:Type} (K:W.Frag) (H:Hp) (μ:List Addr) (kvs:List (κ × D)) (ws:List (κ × V)):Prop:=kvs.map (·.1)=ws.map (·.1)∧RVs K H μ (kvs.map (·.2)) (ws.map (·.2))
noncomputable def OR (K:W.Frag) (H:Hp) (μ:List Addr) (a:Addr):O→Prop
 | .lst xs=>∃ vs,H a=some (.lst vs)∧RVs K H μ xs vs
 | .dk kvs=>∃ ws,H a=some (.dK ws)∧RKs K H μ kvs ws
 | .dt kvs=>∃ ws,H a=some (.dT ws)∧RKs K H μ kvs ws
structure SR (K:W.Frag) (μ:List Addr) (S:zA1) (H:Hp):Prop where
 len:μ.length=S.length
 nd:μ.Nodup
 obj:∀ (n:Nat) (a:Addr) (o:O),μ[n]?=some a→S[n]?=some o→OR K H μ a o
structure Step (K:W.Frag) (μ μ':List Addr) (H H':Hp):Prop where
 pre:∃ ν,μ'=μ++ν∧∀ b∈ν,H b=none
 fr:∀ b o,b∉μ→H b=some o→H' b=some o
 tk:TF K H H'
section
variable {K:W.Frag}{H H' H1 H2:Hp}{μ μ' μ1 μ2:List Addr}{S S':zA1}
mutual
theorem RV.up (tk:TF K H H') (pre:∃ ν,μ'=μ++ν):∀ (d:D) (v:V),RV K H μ d v→RV K H' μ' d v
 | .non,v,h=>by simpa [RV] using h
 | .bl b,v,h=>by simpa [RV] using h
 | .int i,v,h=>by simpa [RV] using h
 | .str x,v,h=>by simpa [RV] using h
 | .ty n,v,h=>by simpa [RV] using h
 | .tup xs,v,h=>by
  unfold RV at h ⊢
  obtain ⟨p,vs,e,q,r⟩:=h
  exact ⟨p,vs,e,tk.u p vs q,RVs.up tk pre xs vs r⟩
 | .lst n,v,h=>by
  unfold RV at h ⊢
  obtain ⟨a,e,q⟩:=h
  obtain ⟨ν,rfl⟩:=pre
  exact ⟨a,e,by rw [List.getElem?_append_left (List.getElem?_eq_some_iff.mp q).1]; exact q⟩
 | .dct n,v,h=>by
  unfold RV at h ⊢
  obtain ⟨a,e,q⟩:=h
  obtain ⟨ν,rfl⟩:=pre
  exact ⟨a,e,by rw [List.getElem?_append_left (List.getElem?_eq_some_iff.mp q).1]; exact q⟩
 | .rol xs,v,h=>by
  unfold RV at h ⊢
  obtain ⟨p,vs,e,q,r⟩:=h
  exact ⟨p,vs,e,tk.f p vs q,RVs.up tk pre xs vs r⟩
theorem RVs.up (tk:TF K H H') (pre:∃ ν,μ'=μ++ν):∀ (ds:List D) (vs:List V),RVs K H μ ds vs→RVs K H' μ' ds vs
 | [],vs,h=>by simpa [RVs] using h
 | d::ds,vs,h=>by
  unfold RVs at h ⊢
  obtain ⟨v,ws,e,r,q⟩:=h
  exact ⟨v,ws,e,RV.up tk pre d v r,RVs.up tk pre ds ws q⟩
end
theorem RVs.len:∀ {ds:List D}{vs:List V},RVs K H μ ds vs→ds.length=vs.length
 | [],vs,h=>by unfold RVs at h; subst h; rfl
 | d::ds,vs,h=>by
  unfold RVs at h
  obtain ⟨v,ws,rfl,_,q⟩:=h
  rw [List.length_cons,List.length_cons,RVs.len q]
theorem RVs.nil:RVs K H μ [] []:=by unfold RVs; rfl
theorem RVs.cons {d:D}{v:V}{ds:List D}{vs:List V} (h:RV K H μ d v) (t:RVs K H μ ds vs):RVs K H μ (d::ds) (v::vs):=by
 unfold RVs; exact ⟨v,vs,rfl,h,t⟩
theorem RVs.get:∀ {ds:List D}{vs:List V}{i:Nat}{d:D},RVs K H μ ds vs→ds[i]?=some d→∃ v,vs[i]?=some v∧RV K H μ d v
 | [],vs,i,d,h,e=>by simp at e
 | x::ds,vs,0,d,h,e=>by
  unfold RVs at h
  obtain ⟨v,ws,rfl,r,q⟩:=h
  simp at e; subst e
  exact ⟨v,rfl,r⟩
 | x::ds,vs,i+1,d,h,e=>by
  unfold RVs at h
  obtain ⟨v,ws,rfl,r,q⟩:=h
  obtain ⟨u,e1,e2⟩:=RVs.get (i:=i) (d:=d) q (by simpa using e)
  exact ⟨u,by simpa using e1,e2⟩
theorem RVs.append:∀ {ds es:List D}{vs us:List V},RVs K H μ ds vs→RVs K H μ es us→RVs K H μ (ds++es) (vs++us)
 | [],es,vs,us,h,g=>by unfold RVs at h; subst h; exact g
 | d::ds,es,vs,us,h,g=>by
  unfold RVs at h
  obtain ⟨v,ws,rfl,r,q⟩:=h
  exact .cons r (RVs.append q g)
theorem RVs.take:∀ {ds:List D}{vs:List V} (n:Nat),RVs K H μ ds vs→RVs K H μ (ds.take n) (vs.take n)
 | _,_,0,_=>by simp; exact .nil
 | [],vs,n+1,h=>by unfold RVs at h; subst h; exact .nil
 | d::ds,vs,n+1,h=>by
  unfold RVs at h
  obtain ⟨v,ws,rfl,r,q⟩:=h
  exact .cons r (RVs.take n q)
theorem RVs.drop:∀ {ds:List D}{vs:List V} (n:Nat),RVs K H μ ds vs→RVs K H μ (ds.drop n) (vs.drop n)
 | _,_,0,h=>by simpa using h
 | [],vs,n+1,h=>by unfold RVs at h; subst h; exact .nil
 | d::ds,vs,n+1,h=>by
  unfold RVs at h
  obtain ⟨v,ws,rfl,r,q⟩:=h
  exact RVs.drop n q
theorem RVs.set {d:D}{v:V} (g:RV K H μ d v):∀ {ds:List D}{vs:List V} (n:Nat),RVs K H μ ds vs→RVs K H μ (ds.set n d) (vs.set n v)
 | [],vs,n,h=>by unfold RVs at h; subst h; exact .nil
 | x::ds,vs,0,h=>by
  unfold RVs at h
  obtain ⟨u,ws,rfl,r,q⟩:=h
  exact .cons g q
 | x::ds,vs,n+1,h=>by
  unfold RVs at h
  obtain ⟨u,ws,rfl,r,q⟩:=h
  exact .cons r (RVs.set g n q)
theorem RVs.ints {ns:List Int}:RVs K H μ (ns.map D.int) (ns.map V.int):=by
 induction ns with
 | nil=>exact .nil
 | cons a r ih=>exact .cons (by unfold RV; rfl) ih
theorem RKs.up {κ:Type} (tk:TF K H H') (pre:∃ ν,μ'=μ++ν) {kvs:List (κ × D)}{ws:List (κ × V)} (h:RKs K H μ kvs ws):RKs K H' μ' kvs ws:=⟨h.1,RVs.up tk pre _ _ h.2⟩
theorem SR.isS (sr:SR K μ S H) {a:Addr} (h:a∈μ):∃ o,H a=some o:=by
 obtain ⟨n,hn⟩:=List.getElem?_of_mem h
 have hl:n<S.length:=by rw [← sr.len]; exact (List.getElem?_eq_some_iff.mp hn).1
 have q:=sr.obj n a S[n] hn (List.getElem?_eq_getElem hl)
 revert q
 generalize S[n]=o
 intro q
 cases o with
 | lst xs=>obtain ⟨vs,e,_⟩:=q; exact ⟨_,e⟩
 | dk kvs=>obtain ⟨vs,e,_⟩:=q; exact ⟨_,e⟩
 | dt kvs=>obtain ⟨vs,e,_⟩:=q; exact ⟨_,e⟩
theorem SR.out (sr:SR K μ S H) {a:Addr} (h:H a=none):a∉μ:=fun m=>by
 obtain ⟨o,e⟩:=sr.isS m
 rw [h] at e
 cases e
theorem Step.refl (K:W.Frag) (μ:List Addr) (H:Hp):Step K μ μ H H:=⟨⟨[],by simp,by simp⟩,fun _ _ _ h=>h,TF.refl K H⟩
theorem Step.mem (st:Step K μ μ' H H') {a:Addr} (h:a∈μ):a∈μ':=by
 obtain ⟨ν,rfl,_⟩:=st.pre
 exact List.mem_append_left _ h
theorem Step.ext (st:Step K μ μ' H H'):∃ ν,μ'=μ++ν:=let ⟨ν,e,_⟩:=st.pre; ⟨ν,e⟩
theorem Step.trans (a:Step K μ μ1 H H1) (b:Step K μ1 μ2 H1 H2) (nd:μ2.Nodup):Step K μ μ2 H H2:=by
 obtain ⟨ν,e,n1⟩:=a.pre
 obtain ⟨ν',e',n2⟩:=b.pre
 have nd':(μ++ν++ν').Nodup:=by rw [← e,← e']; exact nd
 refine ⟨⟨ν++ν',by rw [e',e,List.append_assoc],fun c hc=>?_⟩,fun c o hc h=>?_,a.tk.trans b.tk⟩
 ·rcases List.mem_append.mp hc with h | h
  ·exact n1 c h
  ·have hn:=n2 c h
   cases q:H c with
   | none=>rfl
   | some o =>
    have:c∉μ:=fun hm=>by
     have:=(List.nodup_append.mp nd').2.2 c (List.mem_append_left _ hm) c h
     exact this rfl
    rw [a.fr c o this q] at hn
    cases hn
 ·refine b.fr c o (fun hm=>?_) (a.fr c o hc h)
  rw [e] at hm
  rcases List.mem_append.mp hm with h' | h'
  ·exact hc h'
  ·rw [n1 c h'] at h; cases h
theorem OR.up (tk:TF K H H') (pre:∃ ν,μ'=μ++ν) {a:Addr} (e:H' a=H a):∀ {o:O},OR K H μ a o→OR K H' μ' a o
 | .lst xs,⟨vs,h,r⟩=>⟨vs,by rw [e]; exact h,RVs.up tk pre _ _ r⟩
 | .dk kvs,⟨ws,h,r⟩=>⟨ws,by rw [e]; exact h,r.up tk pre⟩
 | .dt kvs,⟨ws,h,r⟩=>⟨ws,by rw [e]; exact h,r.up tk pre⟩
theorem tk_new {p:Addr}{o:HO} (h:H p=none):TF K H (upd H p o):=tf_same (same_new h o)
theorem SR.other (sr:SR K μ S H) {p:Addr}{o:HO} (h:H p=none):SR K μ S (upd H p o)∧Step K μ μ H (upd H p o):=by
 have hp:=sr.out h
 refine ⟨⟨sr.len,sr.nd,fun n a o' e1 e2=>?_⟩,⟨⟨[],by simp,by simp⟩,fun b u hb e=>?_,tk_new h⟩⟩
 ·have hm:a∈μ:=List.mem_of_getElem? e1
  have ne:a≠p:=fun z=>hp (z▸hm)
  exact (sr.obj n a o' e1 e2).up (tk_new h) ⟨[],by simp⟩ (zAb ne)
 ·rw [zAb (zAD e h)]; exact e
theorem SR.push (sr:SR K μ S H) {p:Addr}{o:HO}{o':O} (h:H p=none) (ho:OR K (upd H p o) (μ++[p]) p o'):SR K (μ++[p]) (S++[o']) (upd H p o)∧Step K μ (μ++[p]) H (upd H p o):=by
 have hp:=sr.out h
 refine ⟨⟨by simp [sr.len],?_,fun n a u e1 e2=>?_⟩,⟨⟨[p],rfl,fun b hb=>?_⟩,fun b u hb e=>?_,tk_new h⟩⟩
 ·rw [List.nodup_append]
  refine ⟨sr.nd,by simp,fun a ha b hb=>?_⟩
  simp at hb; subst hb
  exact fun z=>hp (z▸ha)
 ·by_cases hn:n<μ.length
  ·rw [List.getElem?_append_left hn] at e1
   rw [List.getElem?_append_left (by rw [← sr.len]; exact hn)] at e2
   have hm:a∈μ:=List.mem_of_getElem? e1
   have ne:a≠p:=fun z=>hp (z▸hm)
   exact (sr.obj n a u e1 e2).up (tk_new h) ⟨[p],rfl⟩ (zAb ne)
  ·rw [List.getElem?_append_right (by omega)] at e1
   rw [List.getElem?_append_right (by rw [← sr.len]; omega)] at e2
   have h1:n - μ.length=0:=by
    have:=(List.getElem?_eq_some_iff.mp e1).1
    simp at this; omega
   rw [h1] at e1
   rw [← sr.len,h1] at e2
   simp at e1 e2
   subst e1 e2
   exact ho
 ·simp at hb; subst hb; exact h
 ·rw [zAb (zAD e h)]; exact e
theorem SR.put (sr:SR K μ S H) {n:Nat}{p:Addr}{o u:HO}{o':O} (hn:μ[n]?=some p) (hp:H p=some u) (nt:∀ xs,u≠.tup xs) (nf:∀ x y,u≠.frz x y) (ho:OR K (upd H p o) μ p o'):SR K μ (S.set n o') (upd H p o)∧Step K μ μ H (upd H p o):=by
 have tk:TF K H (upd H p o):=tf_upd hp nt nf
 have hmem:p∈μ:=List.mem_of_getElem? hn
 refine ⟨⟨by simp [sr.len],sr.nd,fun m a w e1 e2=>?_⟩,⟨⟨[],by simp,by simp⟩,fun b w hb e=>?_,tk⟩⟩
 ·by_cases hm:m=n
  ·subst hm
   rw [hn] at e1; cases e1
   have hl:m<S.length:=by rw [← sr.len]; exact (List.getElem?_eq_some_iff.mp hn).1
   rw [List.getElem?_set_self hl] at e2
   cases e2
   exact ho
  ·rw [List.getElem?_set_ne (fun z=>hm z.symm)] at e2
   have ne:a≠p:=fun z=>by
    subst z
    exact hm ((List.getElem?_inj (List.getElem?_eq_some_iff.mp e1).1 sr.nd).mp (e1.trans hn.symm))
   exact (sr.obj m a w e1 e2).up tk ⟨[],by simp⟩ (zAb ne)
 ·have ne:b≠p:=fun z=>hb (z▸hmem)
  rw [zAb ne]; exact e
end
open PySem PySem.Spec PyProof.Rows
inductive R (α:Type) where
 | bad | ok (a:α) (S:zA1) | er (c:Str) (S:zA1)
noncomputable abbrev M (α:Type):=zA1→R α
noncomputable def bnd {α β:Type} (m:M α) (f:α→M β):M β:=fun S=>match m S with
 | .bad=>.bad
 | .er c S'=>.er c S'
 | .ok a S'=>f a S'
noncomputable def ret {α:Type} (a:α):M α:=fun S=>.ok a S
noncomputable def bad {α:Type}:M α:=fun _=>.bad
inductive BndOk {α β:Type} (m:M α) (f:α→M β) (S:zA1) (b:β) (S2:zA1):Prop
 | mk (a:α) (S1:zA1) (e:m S=.ok a S1) (g:f a S1=.ok b S2)
theorem zA8 {α β:Type}{m:M α}{f:α→M β}{S S2:zA1}{b:β} (h:bnd m f S=.ok b S2):BndOk m f S b S2:=by
 unfold bnd at h
 cases e:m S with
 | bad=>rw [e] at h; cases h
 | er c S'=>rw [e] at h; cases h
 | ok a S'=>rw [e] at h; exact ⟨a,S',e,h⟩
theorem zAi {α:Type}{a b:α}{S S':zA1} (h:ret a S=.ok b S'):b=a∧S'=S:=by
 unfold ret at h; cases h; exact ⟨rfl,rfl⟩
noncomputable abbrev C:=Env1→M D
noncomputable abbrev CT:=Env1→M Bool
noncomputable abbrev CA:=Env1→M (List D)
def RE (K:W.Frag) (H:Hp) (μ:List Addr) (ρ:Env1) (σ:St):Prop:=ρ.length=σ.length∧∀ (i:Nat) (d:D),ρ[i]?=some (some d)→∃ v,σ[i]?=some (some v)∧RV K H μ d v
section
variable {K:W.Frag}{H H':Hp}{μ μ':List Addr}{ρ:Env1}{σ:St}
theorem RE.up (h:RE K H μ ρ σ) (st:Step K μ μ' H H'):RE K H' μ' ρ σ:=⟨h.1,fun i d e=>let ⟨v,q,r⟩:=h.2 i d e; ⟨v,q,RV.up st.tk st.ext d v r⟩⟩
theorem RE.set (h:RE K H μ ρ σ) {d:D}{v:V} (r:RV K H μ d v) (i:Nat):RE K H μ (ρ.set i (some d)) (σ.set i (some v)):=by
 refine ⟨by simp [h.1],fun j d' e=>?_⟩
 by_cases hj:i=j
 ·subst hj
  have hl:i<ρ.length:=by
   have:=(List.getElem?_eq_some_iff.mp e).1
   simpa using this
  rw [List.getElem?_set_self hl] at e
  cases e
  exact ⟨v,by rw [List.getElem?_set_self (by rw [← h.1]; exact hl)],r⟩
 ·rw [List.getElem?_set_ne hj] at e ⊢
  exact h.2 j d' e
end
def Yld (K:W.Frag) (μ:List Addr) (H:Hp) (d:D) (S':zA1) (Q:VK):Prop:=∀ v H' μ',SR K μ' S' H'→Step K μ μ' H H'→RV K H' μ' d v→Q v H'
def YldA (K:W.Frag) (μ:List Addr) (H:Hp) (ds:List D) (S':zA1) (Q:List V→Hp→Prop):Prop:=∀ vs H' μ',SR K μ' S' H'→Step K μ μ' H H'→RVs K H' μ' ds vs→Q vs H'
def YldT (K:W.Frag) (μ:List Addr) (H:Hp) (b:Bool) (S':zA1) (Q:Bool→Hp→Prop):Prop:=∀ H' μ',SR K μ' S' H'→Step K μ μ' H H'→Q b H'
inductive tOf (K:W.Frag) (c:C) (σ:St) (H:Hp) (Q:VK):Prop
 | mk (μ:List Addr) (ρ:Env1) (S:zA1) (d:D) (S':zA1) (sr:SR K μ S H) (re:RE K H μ ρ σ) (e:c ρ S=.ok d S') (y:Yld K μ H d S' Q)
inductive tOfA (K:W.Frag) (c:CA) (σ:St) (H:Hp) (Q:List V→Hp→Prop):Prop
 | mk (μ:List Addr) (ρ:Env1) (S:zA1) (d:List D) (S':zA1) (sr:SR K μ S H) (re:RE K H μ ρ σ) (e:c ρ S=.ok d S') (y:YldA K μ H d S' Q)
inductive tOfT (K:W.Frag) (c:CT) (σ:St) (H:Hp) (Q:Bool→Hp→Prop):Prop
 | mk (μ:List Addr) (ρ:Env1) (S:zA1) (d:Bool) (S':zA1) (sr:SR K μ S H) (re:RE K H μ ρ σ) (e:c ρ S=.ok d S') (y:YldT K μ H d S' Q)
theorem Yld.self {K:W.Frag}{μ:List Addr}{H:Hp}{d:D}{S:zA1}{Q:VK} (h:Yld K μ H d S Q) (sr:SR K μ S H) {v:V} (r:RV K H μ d v):Q v H:=h v H μ sr (Step.refl K μ H) r
theorem Yld.shift {K:W.Frag}{μ μ1:List Addr}{H H1:Hp}{d:D}{S:zA1}{Q:VK} (h:Yld K μ H d S Q) (st:Step K μ μ1 H H1):Yld K μ1 H1 d S Q:=fun v H' μ' sr s2 r=>h v H' μ' sr (st.trans s2 sr.nd) r
theorem YldT.shift {K:W.Frag}{μ μ1:List Addr}{H H1:Hp}{d:Bool}{S:zA1}{Q:Bool→Hp→Prop} (h:YldT K μ H d S Q) (st:Step K μ μ1 H H1):YldT K μ1 H1 d S Q:=fun H' μ' sr s2=>h H' μ' sr (st.trans s2 sr.nd)
theorem PE.weak {X:Cx}{e:Expr}{t t':TE} (h:PE X e t) (w:∀ σ H Q,t' σ H Q→t σ H Q):PE X e t':=fun pins s σ H Q I q=>h pins s σ H Q I (w σ H Q q)
theorem PT.weak {X:Cx}{e:Expr}{t t':TT} (h:PT X e t) (w:∀ σ H Q,t' σ H Q→t σ H Q):PT X e t':=fun pins s σ H Q I q=>h pins s σ H Q I (w σ H Q q)
theorem PW.weak {X:Cx}{e:Expr}{t t':TT} (h:PW X e t) (w:∀ σ H Q,t' σ H Q→t σ H Q):PW X e t':=fun wh pins s σ H Q I q=>h wh pins s σ H Q I (w σ H Q q)
theorem PA.weak {X:Cx}{e:List Expr}{t t':TA} (h:PA X e t) (w:∀ σ H Q,t' σ H Q→t σ H Q):PA X e t':=fun pos pins s σ H Q I q=>h pos pins s σ H Q I (w σ H Q q)
theorem PS.weak {X:Cx}{e:Stmt}{t t':TS} (h:PS X e t) (w:∀ D σ H,t' D σ H→t D σ H):PS X e t':=fun pins s σ H D I q=>h pins s σ H D I (w D σ H q)
theorem PSs.weak {X:Cx}{e:List Stmt}{t t':TS} (h:PSs X e t) (w:∀ D σ H,t' D σ H→t D σ H):PSs X e t':=fun pins s σ H D I q=>h pins s σ H D I (w D σ H q)
noncomputable def rAny (X:Cx) (f:Value→Value→Sem Value):R2:=fun v u H Q=>∃ r,OpR X f r∧r v u H Q
theorem opAny {X:Cx}{f:Value→Value→Sem Value}:OpR X f (rAny X f):=fun pins s σ H x y v u Q I rx ry ⟨r,ho,q⟩=>ho pins s σ H x y v u Q I rx ry q
noncomputable def uAny (X:Cx) (f:Value→Sem Value):V→Hp→VK→Prop:=fun v H Q=>∃ r,UnR X f r∧r v H Q
theorem unAny {X:Cx}{f:Value→Sem Value}:UnR X f (uAny X f):=fun pins s σ H x v Q I rx ⟨r,ho,q⟩=>ho pins s σ H x v Q I rx q
noncomputable def cAny (X:Cx) (f:Value):List V→Hp→VK→Prop:=fun vs H Q=>∃ r,CallR X f r∧r vs H Q
theorem callAny {X:Cx}{f:Value}:CallR X f (cAny X f):=fun pins s σ H x v Q I rx ⟨r,ho,q⟩=>ho pins s σ H x v Q I rx q
noncomputable def ixAnyR (X:Cx):R2:=fun v u H Q=>∃ r,IxR X r∧r v u H Q
theorem ixAny {X:Cx}:IxR X (ixAnyR X):=fun va sl pins s σ H x y v u Q I rx ry ⟨r,ho,q⟩ hs=>ho va sl pins s σ H x y v u Q I rx ry q hs
noncomputable def slAnyR (X:Cx):V→Option Int→Option Int→Hp→VK→Prop:=fun v lo hi H Q=>∃ r,SlR X r∧r v lo hi H Q
theorem slAny {X:Cx}:SlR X (slAnyR X):=fun pins s σ H x v vl vu lo hi sl Q I rx a b c ⟨r,ho,q⟩=>ho pins s σ H x v vl vu lo hi sl Q I rx a b c q
noncomputable def mtAnyR (X:Cx) (id:String):V→List V→Hp→VK→Prop:=fun v vs H Q=>∃ r,MtR X id r∧r v vs H Q
theorem mtAny {X:Cx}{id:String}:MtR X id (mtAnyR X id):=fun pins s σ H x xs v us Q I rx rs ⟨r,ho,q⟩=>ho pins s σ H x xs v us Q I rx rs q
noncomputable def setAnyR (X:Cx):TSet:=fun o i v H Q=>∃ r,PSet X r∧r o i v H Q
theorem setAny {X:Cx}:PSet X (setAnyR X):=fun pins s σ H o i v ov iv u Q I r1 r2 r3 ⟨r,ho,q⟩=>ho pins s σ H o i v ov iv u Q I r1 r2 r3 q
noncomputable def cVar (i:Nat):C:=fun ρ S=>match ρ[i]? with
 | some (some d)=>.ok d S
 | _=>.bad
noncomputable def cCon (d:D):C:=fun _ S=>.ok d S
noncomputable def cBin (o:D→D→M D) (a b:C):C:=fun ρ=>bnd (a ρ) fun x=>bnd (b ρ) fun y=>o x y
noncomputable def cUn (o:D→M D) (a:C):C:=fun ρ=>bnd (a ρ) o
noncomputable def zA0:List C→CA
 | []=>fun _=>ret []
 | c::cs=>fun ρ=>bnd (c ρ) fun x=>bnd (zA0 cs ρ) fun xs=>ret (x::xs)
noncomputable def cApp (o:List D→M D) (a:CA):C:=fun ρ=>bnd (a ρ) o
noncomputable def cTup (a:CA):C:=cApp (fun xs=>ret (.tup xs)) a
noncomputable def cLst (a:CA):C:=cApp (fun xs S=>.ok (.lst S.length) (S++[.lst xs])) a
noncomputable def cIf (t:CT) (a b:C):C:=fun ρ=>bnd (t ρ) fun k=>if k then a ρ else b ρ
noncomputable def zA9 (a:C):CT:=fun ρ=>bnd (a ρ) fun x=>match x with
 | .bl b=>ret b
 | _=>bad
noncomputable def cAndV (a b:C):C:=fun ρ=>bnd (zA9 a ρ) fun k=>if k then b ρ else ret (.bl false)
noncomputable def cOrV (a b:C):C:=fun ρ=>bnd (zA9 a ρ) fun k=>if k then ret (.bl true) else b ρ
noncomputable def cNotV (a:C):C:=fun ρ=>bnd (zA9 a ρ) fun k=>ret (.bl (!k))
noncomputable def cAndT (a b:CT):CT:=fun ρ=>bnd (a ρ) fun k=>if k then b ρ else ret false
noncomputable def cOrT (a b:CT):CT:=fun ρ=>bnd (a ρ) fun k=>if k then ret true else b ρ
noncomputable def zB6 (a:CT):CT:=fun ρ=>bnd (a ρ) fun k=>ret (!k)
noncomputable def dB (x:D):M Bool:=match x with
 | .bl b=>ret b
 | _=>bad
noncomputable def cChain (o o':D→D→M D) (a b c:C):C:=fun ρ=>bnd (a ρ) fun x=>bnd (b ρ) fun y=>bnd (o x y) fun z=>bnd (dB z) fun k=>if k then bnd (c ρ) fun w=>o' y w else ret (.bl false)
noncomputable def cChain3 (o o' o2:D→D→M D) (a b c d:C):CT:=fun ρ=>bnd (a ρ) fun x=>bnd (b ρ) fun y=>bnd (o x y) fun z=>bnd (dB z) fun k =>
 if k then bnd (c ρ) fun w=>bnd (o' y w) fun z2=>bnd (dB z2) fun k2=>if k2 then bnd (d ρ) fun w2=>bnd (o2 w w2) dB else ret false else ret false
section
variable {X:Cx}{a b c d:Expr}{ca cb cc cd:C}{pos:Pos}
theorem se_var {i:Nat}{x:Str} (h:PE X (.Name x pos) (tVar i)):PE X (.Name x pos) (tOf X.K (cVar i)):=h.weak fun σ H Q ⟨μ,ρ,S,d,S',sr,re,e,y⟩=>by
 unfold cVar at e
 split at e
 ·rename_i d' hd
  cases e
  obtain ⟨v,q,r⟩:=re.2 i _ hd
  exact ⟨v,q,y.self sr r⟩
 ·cases e
theorem se_con {e:Expr}{v:V}{d:D} (h:PE X e (tC v)) (hd:∀ K H μ,RV K H μ d v):PE X e (tOf X.K (cCon d)):=h.weak fun σ H Q ⟨μ,ρ,S,d',S',sr,re,e,y⟩=>by
 unfold cCon at e
 cases e
 exact y.self sr (hd _ _ _)
def OpS (K:W.Frag) (r:R2) (o:D→D→M D):Prop:=∀ x y S d S' H μ v u Q,o x y S=.ok d S'→SR K μ S H→RV K H μ x v→RV K H μ y u→Yld K μ H d S' Q→r v u H Q
theorem of_bin {r:R2}{o:D→D→M D} (ho:OpS X.K r o):∀ σ H Q,tOf X.K (cBin o ca cb) σ H Q→tOp r (tOf X.K ca) (tOf X.K cb) σ H Q:=by
 rintro σ H Q ⟨μ,ρ,S,d,S',sr,re,e,y⟩
 obtain ⟨x,S1,e1,e⟩:=zA8 e
 obtain ⟨z,S2,e2,e⟩:=zA8 e
 refine ⟨μ,ρ,S,x,S1,sr,re,e1,fun v H1 μ1 sr1 st1 r1=>⟨μ1,ρ,S1,z,S2,sr1,re.up st1,e2,fun u H2 μ2 sr2 st2 r2=>?_⟩⟩
 exact ho x z S2 d S' H2 μ2 v u Q e sr2 (RV.up st2.tk st2.ext _ _ r1) r2 (y.shift (st1.trans st2 sr2.nd))
theorem se_bin {op:Operator}{o:D→D→M D} (ho:OpS X.K (rAny X (binaryOp op)) o) (ha:PE X a (tOf X.K ca)) (hb:PE X b (tOf X.K cb)):PE X (.BinOp a op b pos) (tOf X.K (cBin o ca cb)):=(pe_op opAny ha hb).weak (of_bin ho)
theorem se_cmp {op:CmpOp}{o:D→D→M D} (ho:OpS X.K (rAny X (compareOp op)) o) (ha:PE X a (tOf X.K ca)) (hb:PE X b (tOf X.K cb)) (hm:behindInMarks op b=false):PE X (.Compare a [op] [b] pos) (tOf X.K (cBin o ca cb)):=(pe_cmpR opAny ha hb hm).weak (of_bin ho)
theorem of_test {t:TE}{c:C} (h:∀ σ H Q,tOf X.K c σ H Q→t σ H Q):∀ σ H Q,tOfT X.K (zA9 c) σ H Q→tTest t σ H Q:=by
 rintro σ H Q ⟨μ,ρ,S,d,S',sr,re,e,y⟩
 obtain ⟨x,S1,e1,e⟩:=zA8 e
 refine h σ H _ ⟨μ,ρ,S,x,S1,sr,re,e1,fun v H1 μ1 sr1 st1 r1=>?_⟩
 cases x with
 | bl k =>
  obtain ⟨rfl,rfl⟩:=zAi e
  unfold RV at r1
  exact ⟨_,r1,y H1 μ1 sr1 st1⟩
 | _=>cases e
theorem st_cmp {op:CmpOp}{o:D→D→M D} (ho:OpS X.K (rAny X (compareOp op)) o) (ha:PE X a (tOf X.K ca)) (hb:PE X b (tOf X.K cb)) (hm:behindInMarks op b=false):PT X (.Compare a [op] [b] pos) (tOfT X.K (zA9 (cBin o ca cb))):=(pt_cmpR opAny ha hb hm).weak (of_test (of_bin ho))
theorem of_chain {r r':R2}{o o':D→D→M D} (ho:OpS X.K r o) (ho':OpS X.K r' o'):∀ σ H Q,tOf X.K (cChain o o' ca cb cc) σ H Q→tChain r r' (tOf X.K ca) (tOf X.K cb) (tOf X.K cc) σ H Q:=by
 rintro σ H Q ⟨μ,ρ,S,d,S',sr,re,e,y⟩
 obtain ⟨x,S1,e1,f1⟩:=zA8 e
 obtain ⟨z,S2,e2,f2⟩:=zA8 f1
 obtain ⟨t,S3,e3,f3⟩:=zA8 f2
 obtain ⟨k,S4,e4,f4⟩:=zA8 f3
 refine ⟨μ,ρ,S,x,S1,sr,re,e1,fun v H1 μ1 sr1 st1 r1=>⟨μ1,ρ,S1,z,S2,sr1,re.up st1,e2,fun u H2 μ2 sr2 st2 r2=>?_⟩⟩
 have st12:=st1.trans st2 sr2.nd
 refine ho x z S2 t S3 H2 μ2 v u _ e3 sr2 (RV.up st2.tk st2.ext _ _ r1) r2 fun v3 H3 μ3 sr3 st3 r3=>?_
 have st13:=st12.trans st3 sr3.nd
 cases t with
 | bl k' =>
  obtain ⟨rfl,rfl⟩:=zAi e4
  unfold RV at r3
  refine ⟨_,r3,?_⟩
  cases k with
  | true =>
   rw [if_pos rfl] at f4 ⊢
   obtain ⟨w,S5,e5,f5⟩:=zA8 f4
   refine ⟨μ3,ρ,_,w,S5,sr3,re.up st13,e5,fun v5 H5 μ5 sr5 st5 r5=>?_⟩
   exact ho' z w S5 d S' H5 μ5 u v5 Q f5 sr5 (RV.up st5.tk st5.ext _ _ (RV.up st3.tk st3.ext _ _ r2)) r5 (y.shift (st13.trans st5 sr5.nd))
  | false =>
   rw [if_neg Bool.false_ne_true] at f4 ⊢
   obtain ⟨rfl,rfl⟩:=zAi f4
   exact y _ H3 μ3 sr3 st13 (by unfold RV; rfl)
 | _=>cases e4
theorem se_chain {op op':CmpOp}{o o':D→D→M D} (ho:OpS X.K (rAny X (compareOp op)) o) (ho':OpS X.K (rAny X (compareOp op')) o') (ha:PE X a (tOf X.K ca)) (hb:PE X b (tOf X.K cb)) (hc:PE X c (tOf X.K cc)) (hm:lastMarks [op,op'] [b,c]=false) :
  PE X (.Compare a [op,op'] [b,c] pos) (tOf X.K (cChain o o' ca cb cc)):=(pe_chain opAny opAny ha hb hc hm).weak (of_chain ho ho')
theorem st_chain {op op':CmpOp}{o o':D→D→M D} (ho:OpS X.K (rAny X (compareOp op)) o) (ho':OpS X.K (rAny X (compareOp op')) o') (ha:PE X a (tOf X.K ca)) (hb:PE X b (tOf X.K cb)) (hc:PE X c (tOf X.K cc)) (hm:lastMarks [op,op'] [b,c]=false) :
  PT X (.Compare a [op,op'] [b,c] pos) (tOfT X.K (zA9 (cChain o o' ca cb cc))):=(pt_chain opAny opAny ha hb hc hm).weak (of_test (of_chain ho ho'))
theorem st_chain3 {op op' op2:CmpOp}{o o' o2:D→D→M D} (ho:OpS X.K (rAny X (compareOp op)) o) (ho':OpS X.K (rAny X (compareOp op')) o') (ho2:OpS X.K (rAny X (compareOp op2)) o2) (ha:PE X a (tOf X.K ca)) (hb:PE X b (tOf X.K cb)) (hc:PE X c (tOf X.K cc)) (hd:PE X d (tOf X.K cd))
  (hm:lastMarks [op,op',op2] [b,c,d]=false):PT X (.Compare a [op,op',op2] [b,c,d] pos) (tOfT X.K (cChain3 o o' o2 ca cb cc cd)):=by
 refine (pt_chain3 opAny opAny opAny ha hb hc hd hm).weak ?_
 rintro σ H Q ⟨μ,ρ,S,d,S',sr,re,e,y⟩
 obtain ⟨x,S1,e1,f1⟩:=zA8 e
 obtain ⟨z,S2,e2,f2⟩:=zA8 f1
 obtain ⟨t,S3,e3,f3⟩:=zA8 f2
 obtain ⟨k,S4,e4,f4⟩:=zA8 f3
 refine ⟨μ,ρ,S,x,S1,sr,re,e1,fun v H1 μ1 sr1 st1 r1=>⟨μ1,ρ,S1,z,S2,sr1,re.up st1,e2,fun u H2 μ2 sr2 st2 r2=>?_⟩⟩
 have st12:=st1.trans st2 sr2.nd
 refine ho x z S2 t S3 H2 μ2 v u _ e3 sr2 (RV.up st2.tk st2.ext _ _ r1) r2 fun v3 H3 μ3 sr3 st3 r3=>?_
 have st13:=st12.trans st3 sr3.nd
 cases t with
 | bl k' =>
  obtain ⟨rfl,rfl⟩:=zAi e4
  unfold RV at r3
  refine ⟨_,r3,?_⟩
  cases k with
  | true =>
   rw [if_pos rfl] at f4 ⊢
   obtain ⟨w,S5,e5,f5⟩:=zA8 f4
   obtain ⟨t2,S6,e6,f6⟩:=zA8 f5
   obtain ⟨k2,S7,e7,f7⟩:=zA8 f6
   refine ⟨μ3,ρ,_,w,S5,sr3,re.up st13,e5,fun v5 H5 μ5 sr5 st5 r5=>?_⟩
   have st15:=st13.trans st5 sr5.nd
   refine ho' z w S5 t2 S6 H5 μ5 u v5 _ e6 sr5 (RV.up st5.tk st5.ext _ _ (RV.up st3.tk st3.ext _ _ r2)) r5 fun v6 H6 μ6 sr6 st6 r6=>?_
   have st16:=st15.trans st6 sr6.nd
   cases t2 with
   | bl k3 =>
    obtain ⟨rfl,rfl⟩:=zAi e7
    unfold RV at r6
    refine ⟨_,r6,?_⟩
    cases k2 with
    | true =>
     rw [if_pos rfl] at f7 ⊢
     obtain ⟨w2,S8,e8,f8⟩:=zA8 f7
     obtain ⟨t3,S9,e9,f9⟩:=zA8 f8
     refine ⟨μ6,ρ,_,w2,S8,sr6,re.up st16,e8,fun v8 H8 μ8 sr8 st8 r8=>?_⟩
     have st18:=st16.trans st8 sr8.nd
     refine ho2 w w2 S8 t3 S9 H8 μ8 v5 v8 _ e9 sr8 (RV.up st8.tk st8.ext _ _ (RV.up st6.tk st6.ext _ _ r5)) r8 fun v9 H9 μ9 sr9 st9 r9=>?_
     cases t3 with
     | bl k4 =>
      obtain ⟨rfl,rfl⟩:=zAi f9
      unfold RV at r9
      exact ⟨_,r9,y H9 μ9 sr9 (st18.trans st9 sr9.nd)⟩
     | _=>cases f9
    | false =>
     rw [if_neg Bool.false_ne_true] at f7 ⊢
     obtain ⟨rfl,rfl⟩:=zAi f7
     exact y H6 μ6 sr6 st16
   | _=>cases e7
  | false =>
   rw [if_neg Bool.false_ne_true] at f4 ⊢
   obtain ⟨rfl,rfl⟩:=zAi f4
   exact y H3 μ3 sr3 st13
 | _=>cases e4
def UnS (K:W.Frag) (r:V→Hp→VK→Prop) (o:D→M D):Prop:=∀ x S d S' H μ v Q,o x S=.ok d S'→SR K μ S H→RV K H μ x v→Yld K μ H d S' Q→r v H Q
theorem se_un {op:UnaryOp}{o:D→M D} (ho:UnS X.K (uAny X (unaryOp op)) o) (ha:PE X a (tOf X.K ca)):PE X (.UnaryOp op a pos) (tOf X.K (cUn o ca)):=(pe_un unAny ha).weak (by
 rintro σ H Q ⟨μ,ρ,S,d,S',sr,re,e,y⟩
 obtain ⟨x,S1,e1,e⟩:=zA8 e
 exact ⟨μ,ρ,S,x,S1,sr,re,e1,fun v H1 μ1 sr1 st1 r1=>ho x S1 d S' H1 μ1 v Q e sr1 r1 (y.shift st1)⟩)
theorem of_bool {σ:St}{H:Hp}{μ:List Addr}{ρ:Env1}{S S':zA1}{k:Bool} (sr:SR X.K μ S H) (re:RE X.K H μ ρ σ) (e:zA9 ca ρ S=.ok k S') {Q:VK} (h:∀ H1 μ1,SR X.K μ1 S' H1→Step X.K μ μ1 H H1→Q (.bl k) H1):tOf X.K ca σ H Q:=by
 obtain ⟨x,S1,e1,e⟩:=zA8 e
 refine ⟨μ,ρ,S,x,S1,sr,re,e1,fun v H1 μ1 sr1 st1 r1=>?_⟩
 cases x with
 | bl k' =>
  obtain ⟨rfl,rfl⟩:=zAi e
  unfold RV at r1
  subst r1
  exact h H1 μ1 sr1 st1
 | _=>cases e
theorem se_and {rest:List Expr} (ha:PE X a (tOf X.K ca)) (hb:PE X (.BoolOp .And (b::rest) pos) (tOf X.K cb)):PE X (.BoolOp .And (a::b::rest) pos) (tOf X.K (cAndV ca cb)):=(pe_and ha hb).weak (by
 rintro σ H Q ⟨μ,ρ,S,d,S',sr,re,e,y⟩
 obtain ⟨k,S1,e1,e⟩:=zA8 e
 refine of_bool sr re e1 fun H1 μ1 sr1 st1=>⟨k,rfl,?_⟩
 cases k with
 | true=>rw [if_pos rfl] at e ⊢; exact ⟨μ1,ρ,S1,d,S',sr1,re.up st1,e,y.shift st1⟩
 | false=>rw [if_neg Bool.false_ne_true] at e ⊢; obtain ⟨rfl,rfl⟩:=zAi e; exact y _ H1 μ1 sr1 st1 (by unfold RV; rfl))
theorem se_or {rest:List Expr} (ha:PE X a (tOf X.K ca)) (hb:PE X (.BoolOp .Or (b::rest) pos) (tOf X.K cb)):PE X (.BoolOp .Or (a::b::rest) pos) (tOf X.K (cOrV ca cb)):=(pe_or ha hb).weak (by
 rintro σ H Q ⟨μ,ρ,S,d,S',sr,re,e,y⟩
 obtain ⟨k,S1,e1,e⟩:=zA8 e
 refine of_bool sr re e1 fun H1 μ1 sr1 st1=>⟨k,rfl,?_⟩
 cases k with
 | false=>rw [if_neg Bool.false_ne_true] at e ⊢; exact ⟨μ1,ρ,S1,d,S',sr1,re.up st1,e,y.shift st1⟩
 | true=>rw [if_pos rfl] at e ⊢; obtain ⟨rfl,rfl⟩:=zAi e; exact y _ H1 μ1 sr1 st1 (by unfold RV; rfl))
theorem se_not (ha:PE X a (tOf X.K ca)):PE X (.UnaryOp .Not a pos) (tOf X.K (cNotV ca)):=(pe_not ha).weak (by
 rintro σ H Q ⟨μ,ρ,S,d,S',sr,re,e,y⟩
 obtain ⟨k,S1,e1,e⟩:=zA8 e
 obtain ⟨rfl,rfl⟩:=zAi e
 exact of_bool sr re e1 fun H1 μ1 sr1 st1=>⟨k,rfl,y _ H1 μ1 sr1 st1 (by unfold RV; rfl)⟩)
theorem se_ifExp {t:Expr}{ct:CT} (ht:PT X t (tOfT X.K ct)) (ha:PE X a (tOf X.K ca)) (hb:PE X b (tOf X.K cb)):PE X (.IfExp t a b pos) (tOf X.K (cIf ct ca cb)):=(pe_ifExp ht ha hb).weak (by
 rintro σ H Q ⟨μ,ρ,S,d,S',sr,re,e,y⟩
 obtain ⟨k,S1,e1,e⟩:=zA8 e
 refine ⟨μ,ρ,S,k,S1,sr,re,e1,fun H1 μ1 sr1 st1=>?_⟩
 cases k with
 | true=>rw [if_pos rfl] at e ⊢; exact ⟨μ1,ρ,S1,d,S',sr1,re.up st1,e,y.shift st1⟩
 | false=>rw [if_neg Bool.false_ne_true] at e ⊢; exact ⟨μ1,ρ,S1,d,S',sr1,re.up st1,e,y.shift st1⟩)
variable {ta tb:CT}
theorem sw_and {rest:List Expr} (ha:PT X a (tOfT X.K ta)) (hb:PW X (.BoolOp .And (b::rest) pos) (tOfT X.K tb)):PW X (.BoolOp .And (a::b::rest) pos) (tOfT X.K (cAndT ta tb)):=(pw_and ha hb).weak (by
 rintro σ H Q ⟨μ,ρ,S,d,S',sr,re,e,y⟩
 obtain ⟨k,S1,e1,e⟩:=zA8 e
 refine ⟨μ,ρ,S,k,S1,sr,re,e1,fun H1 μ1 sr1 st1=>?_⟩
 cases k with
 | true=>rw [if_pos rfl] at e ⊢; exact ⟨μ1,ρ,S1,d,S',sr1,re.up st1,e,y.shift st1⟩
 | false=>rw [if_neg Bool.false_ne_true] at e ⊢; obtain ⟨rfl,rfl⟩:=zAi e; exact y H1 μ1 sr1 st1)
theorem sw_or {rest:List Expr} (ha:PT X a (tOfT X.K ta)) (hb:PW X (.BoolOp .Or (b::rest) pos) (tOfT X.K tb)):PW X (.BoolOp .Or (a::b::rest) pos) (tOfT X.K (cOrT ta tb)):=(pw_or ha hb).weak (by
 rintro σ H Q ⟨μ,ρ,S,d,S',sr,re,e,y⟩
 obtain ⟨k,S1,e1,e⟩:=zA8 e
 refine ⟨μ,ρ,S,k,S1,sr,re,e1,fun H1 μ1 sr1 st1=>?_⟩
 cases k with
 | false=>rw [if_neg Bool.false_ne_true] at e ⊢; exact ⟨μ1,ρ,S1,d,S',sr1,re.up st1,e,y.shift st1⟩
 | true=>rw [if_pos rfl] at e ⊢; obtain ⟨rfl,rfl⟩:=zAi e; exact y H1 μ1 sr1 st1)
theorem st_not (ha:PT X a (tOfT X.K ta)):PT X (.UnaryOp .Not a pos) (tOfT X.K (zB6 ta)):=(pt_not ha).weak (by
 rintro σ H Q ⟨μ,ρ,S,d,S',sr,re,e,y⟩
 obtain ⟨k,S1,e1,e⟩:=zA8 e
 obtain ⟨rfl,rfl⟩:=zAi e
 exact ⟨μ,ρ,S,k,_,sr,re,e1,fun H1 μ1 sr1 st1=>y H1 μ1 sr1 st1⟩)
noncomputable def dTru (x:D):M Bool:=fun S=>match x with
 | .non=>.ok false S
 | .bl b=>.ok b S
 | .int i=>.ok (i != 0) S
 | .str y=>if y.length≤sizeLine then .ok ((y.length:Int) != 0) S else .bad
 | .tup xs=>.ok (!xs.isEmpty) S
 | .lst n=>match S[n]? with
  | some (.lst xs)=>.ok (!xs.isEmpty) S
  | _=>.bad
 | .dct n=>match S[n]? with
  | some (.dk kvs)=>.ok (!kvs.isEmpty) S
  | _=>.bad
 | .ty _=>.bad
 | .rol xs=>.ok (!xs.isEmpty) S
noncomputable def cTru (a:C):CT:=fun ρ=>bnd (a ρ) dTru
theorem emp_of {K:W.Frag}{H:Hp}{μ:List Addr}{ds:List D}{vs:List V} (h:RVs K H μ ds vs):ds.isEmpty=vs.isEmpty:=by
 cases ds with
 | nil=>unfold RVs at h; subst h; rfl
 | cons d ds=>unfold RVs at h; obtain ⟨v,ws,rfl,_⟩:=h; rfl
theorem SR.get {K:W.Frag}{H:Hp}{μ:List Addr}{S:zA1} (sr:SR K μ S H) {n:Nat}{a:Addr}{o:O} (h:μ[n]?=some a) (ho:S[n]?=some o):OR K H μ a o:=sr.obj n a o h ho
theorem dTru_ok {K:W.Frag}{H:Hp}{μ:List Addr}{S S':zA1}{x:D}{v:V}{k:Bool} (e:dTru x S=.ok k S') (sr:SR K μ S H) (r:RV K H μ x v):S'=S∧TruV K v H k:=by
 unfold dTru at e
 cases x with
 | non=>cases e; unfold RV at r; subst r; exact ⟨rfl,rfl⟩
 | bl b=>cases e; unfold RV at r; subst r; exact ⟨rfl,rfl⟩
 | int i=>cases e; unfold RV at r; subst r; exact ⟨rfl,rfl⟩
 | str y =>
  unfold RV at r; subst r
  dsimp only at e
  split at e
  ·rename_i hl; cases e; exact ⟨rfl,hl,rfl⟩
  ·cases e
 | tup xs =>
  cases e; unfold RV at r; obtain ⟨p,vs,rfl,q,rr⟩:=r
  exact ⟨rfl,.inr (.inl ⟨vs,SqT.of q,by rw [emp_of rr]⟩)⟩
 | lst n =>
  unfold RV at r; obtain ⟨a,rfl,hm⟩:=r
  dsimp only at e
  split at e
  ·rename_i xs ho
   cases e
   obtain ⟨vs,hq,rr⟩:=sr.get hm ho
   exact ⟨rfl,.inl ⟨vs,SqL.of hq,by rw [emp_of rr]⟩⟩
  ·cases e
 | dct n =>
  unfold RV at r; obtain ⟨a,rfl,hm⟩:=r
  dsimp only at e
  split at e
  ·rename_i kvs ho
   cases e
   obtain ⟨ws,hq,rr⟩:=sr.get hm ho
   refine ⟨rfl,.inr (.inr ⟨ws,hq,?_⟩)⟩
   have:=emp_of rr.2
   rw [List.isEmpty_map,List.isEmpty_map] at this
   rw [this]
  ·cases e
 | ty _=>cases e
 | rol xs =>
  cases e; unfold RV at r; obtain ⟨p,vs,rfl,q,rr⟩:=r
  exact ⟨rfl,.inl ⟨vs,q.sq,by rw [emp_of rr]⟩⟩
theorem st_tru (ha:PE X a (tOf X.K ca)) (he:∀ whole,isTrue a X.env whole=(do let v ← whole; standAt a.pos; holding [v] (truthy v))):PT X a (tOfT X.K (cTru ca)):=(pt_truth ha he).weak (by
 rintro σ H Q ⟨μ,ρ,S,d,S',sr,re,e,y⟩
 obtain ⟨x,S1,e1,e⟩:=zA8 e
 refine ⟨μ,ρ,S,x,S1,sr,re,e1,fun v H1 μ1 sr1 st1 r1=>?_⟩
 obtain ⟨rfl,tv⟩:=dTru_ok e sr1 r1
 exact ⟨d,tv,y H1 μ1 sr1 st1⟩)
variable {es:List Expr}{cs:List C}
theorem sa_nil:PA X [] (tOfA X.K (zA0 [])):=pa_nil.weak (by
 rintro σ H Q ⟨μ,ρ,S,d,S',sr,re,e,y⟩
 obtain ⟨rfl,rfl⟩:=zAi e
 exact y [] H μ sr (Step.refl _ _ _) RVs.nil)
theorem sa_cons (ha:PE X a (tOf X.K ca)) (hr:PA X es (tOfA X.K (zA0 cs))) (hs:starEach (a::es) X.env=(false,eval a X.env)::starEach es X.env):PA X (a::es) (tOfA X.K (zA0 (ca::cs))):=(pa_cons ha hr hs).weak (by
 rintro σ H Q ⟨μ,ρ,S,d,S',sr,re,e,y⟩
 obtain ⟨x,S1,e1,e⟩:=zA8 e
 obtain ⟨xs,S2,e2,e⟩:=zA8 e
 obtain ⟨rfl,rfl⟩:=zAi e
 exact ⟨μ,ρ,S,x,S1,sr,re,e1,fun v H1 μ1 sr1 st1 r1=>⟨μ1,ρ,S1,xs,S',sr1,re.up st1,e2,fun vs H2 μ2 sr2 st2 r2=>y (v::vs) H2 μ2 sr2 (st1.trans st2 sr2.nd) (.cons (RV.up st2.tk st2.ext _ _ r1) r2)⟩⟩)
theorem cArgs_len {ρ:Env1}:∀ {cs:List C}{S S':zA1}{xs:List D},zA0 cs ρ S=.ok xs S'→xs.length=cs.length
 | [],S,S',xs,e=>by obtain ⟨rfl,rfl⟩:=zAi e; rfl
 | c::cs,S,S',xs,e=>by
  obtain ⟨x,S1,e1,e⟩:=zA8 e
  obtain ⟨ys,S2,e2,e⟩:=zA8 e
  obtain ⟨rfl,rfl⟩:=zAi e
  rw [List.length_cons,List.length_cons,cArgs_len e2]
theorem new_tup {K:W.Frag}{H:Hp}{μ:List Addr}{S:zA1}{ds:List D}{vs:List V}{p:Addr} (sr:SR K μ S H) (h:H p=none) (r:RVs K H μ ds vs):SR K μ S (upd H p (.tup vs))∧Step K μ μ H (upd H p (.tup vs))∧RV K (upd H p (.tup vs)) μ (.tup ds) (.ref p):=by
 obtain ⟨s1,s2⟩:=sr.other (o:=.tup vs) h
 exact ⟨s1,s2,by unfold RV; exact ⟨p,vs,rfl,zAy,RVs.up s2.tk s2.ext _ _ r⟩⟩
theorem new_lst {K:W.Frag}{H:Hp}{μ:List Addr}{S:zA1}{ds:List D}{vs:List V}{p:Addr} (sr:SR K μ S H) (h:H p=none) (r:RVs K H μ ds vs):SR K (μ++[p]) (S++[.lst ds]) (upd H p (.lst vs))∧Step K μ (μ++[p]) H (upd H p (.lst vs))∧RV K (upd H p (.lst vs)) (μ++[p]) (.lst S.length) (.ref p):=by
 obtain ⟨s1,s2⟩:=sr.push (o:=.lst vs) (o':=.lst ds) h ⟨vs,zAy,RVs.up (tk_new h) ⟨[p],rfl⟩ _ _ r⟩
 exact ⟨s1,s2,by unfold RV; exact ⟨p,rfl,by rw [← sr.len,List.getElem?_append_right (Nat.le_refl _),Nat.sub_self]; rfl⟩⟩
theorem Yld.newL {K:W.Frag}{H:Hp}{μ:List Addr}{S:zA1}{ds:List D}{vs:List V}{p:Addr}{Q:VK} (y:Yld K μ H (.lst S.length) (S++[.lst ds]) Q) (sr:SR K μ S H) (h:H p=none) (r:RVs K H μ ds vs):Q (.ref p) (upd H p (.lst vs)):=by
 obtain ⟨s1,s2,s3⟩:=new_lst sr h r
 exact y _ _ _ s1 s2 s3
theorem Yld.newT {K:W.Frag}{H:Hp}{μ:List Addr}{S:zA1}{ds:List D}{vs:List V}{p:Addr}{Q:VK} (y:Yld K μ H (.tup ds) S Q) (sr:SR K μ S H) (h:H p=none) (r:RVs K H μ ds vs):Q (.ref p) (upd H p (.tup vs)):=by
 obtain ⟨s1,s2,s3⟩:=new_tup sr h r
 exact y _ _ _ s1 s2 s3
theorem se_tup {x1} (h:PA X es (tOfA X.K (zA0 cs))) (hl:cs.length≤1000):PE X (.Tuple es x1 pos) (tOf X.K (cTup (zA0 cs))):=(pe_tup h).weak (by
 rintro σ H Q ⟨μ,ρ,S,d,S',sr,re,e,y⟩
 obtain ⟨xs,S1,e1,e⟩:=zA8 e
 obtain ⟨rfl,rfl⟩:=zAi e
 refine ⟨μ,ρ,S,xs,S',sr,re,e1,fun vs H1 μ1 sr1 st1 r1=>⟨?_,fun p hp=>(y.shift st1).newT sr1 hp r1⟩⟩
 have h1:=cArgs_len e1
 have h2:=r1.len
 exact Nat.le_of_lt (small1000 (by omega)))
theorem se_lst (h:PA X es (tOfA X.K (zA0 cs))) (hl:cs.length≤1000):PE X (.List es pos) (tOf X.K (cLst (zA0 cs))):=(pe_lst h).weak (by
 rintro σ H Q ⟨μ,ρ,S,d,S',sr,re,e,y⟩
 obtain ⟨xs,S1,e1,e⟩:=zA8 e
 cases e
 refine ⟨μ,ρ,S,xs,S1,sr,re,e1,fun vs H1 μ1 sr1 st1 r1=>⟨?_,fun p hp=>(y.shift st1).newL sr1 hp r1⟩⟩
 have h1:=cArgs_len e1
 have h2:=r1.len
 exact Nat.le_of_lt (small1000 (by omega)))
theorem se_ix {o:D→D→M D} (ho:OpS X.K (ixAnyR X) o) (ha:PE X a (tOf X.K ca)) (hb:PE X b (tOf X.K cb)) (hs:PlainIx b):PE X (.Subscript a b pos) (tOf X.K (cBin o ca cb)):=(pe_ix ixAny ha hb hs).weak (of_bin ho)
noncomputable def CO:=Env1→M (Option Int)
noncomputable def zAa:CO:=fun _=>ret none
noncomputable def dInt (x:D):M Int:=match x with
 | .int i=>ret i
 | _=>bad
noncomputable def zAs (a:C):CO:=fun ρ=>bnd (a ρ) fun x=>bnd (dInt x) fun i=>ret (some i)
def YldO (K:W.Frag) (μ:List Addr) (H:Hp) (b:Option Int) (S':zA1) (Q:Option Int→Hp→Prop):Prop:=∀ H' μ',SR K μ' S' H'→Step K μ μ' H H'→Q b H'
inductive tOfO (K:W.Frag) (c:CO) (σ:St) (H:Hp) (Q:Option Int→Hp→Prop):Prop
 | mk (μ:List Addr) (ρ:Env1) (S:zA1) (d:Option Int) (S':zA1) (sr:SR K μ S H) (re:RE K H μ ρ σ) (e:c ρ S=.ok d S') (y:YldO K μ H d S' Q)
theorem PO.weak {e:Option Expr}{t t':TO} (h:PO X e t) (w:∀ σ H Q,t' σ H Q→t σ H Q):PO X e t':=fun pins s σ H Q I q=>h pins s σ H Q I (w σ H Q q)
theorem so_none:PO X none (tOfO X.K zAa):=po_none.weak (by
 rintro σ H Q ⟨μ,ρ,S,d,S',sr,re,e,y⟩
 obtain ⟨rfl,rfl⟩:=zAi e
 exact y H μ sr (Step.refl _ _ _))
theorem so_some (ha:PE X a (tOf X.K ca)):PO X (some a) (tOfO X.K (zAs ca)):=(po_some ha).weak (by
 rintro σ H Q ⟨μ,ρ,S,d,S',sr,re,e,y⟩
 obtain ⟨x,S1,e1,e⟩:=zA8 e
 obtain ⟨i,S2,e2,e⟩:=zA8 e
 obtain ⟨rfl,rfl⟩:=zAi e
 refine ⟨μ,ρ,S,x,S1,sr,re,e1,fun v H1 μ1 sr1 st1 r1=>?_⟩
 cases x with
 | int j =>
  obtain ⟨rfl,rfl⟩:=zAi e2
  unfold RV at r1
  exact ⟨_,r1,y H1 μ1 sr1 st1⟩
 | _=>cases e2)
noncomputable def cSl (o:D→Option Int→Option Int→M D) (a:C) (lo hi:CO):C:=fun ρ=>bnd (a ρ) fun x=>bnd (lo ρ) fun l=>bnd (hi ρ) fun h=>o x l h
def SlS (K:W.Frag) (r:V→Option Int→Option Int→Hp→VK→Prop) (o:D→Option Int→Option Int→M D):Prop:=∀ x l h S d S' H μ v Q,o x l h S=.ok d S'→SR K μ S H→RV K H μ x v→Yld K μ H d S' Q→r v l h H Q
theorem se_slice {lo hi:Option Expr}{cl ch:CO}{p2:Pos}{o:D→Option Int→Option Int→M D} (ho:SlS X.K (slAnyR X) o) (ha:PE X a (tOf X.K ca)) (hl:PO X lo (tOfO X.K cl)) (hh:PO X hi (tOfO X.K ch)):PE X (.Subscript a (.Slice lo hi none p2) pos) (tOf X.K (cSl o ca cl ch)):=(pe_slice slAny ha hl hh).weak (by
 rintro σ H Q ⟨μ,ρ,S,d,S',sr,re,e,y⟩
 obtain ⟨x,S1,e1,e⟩:=zA8 e
 obtain ⟨l,S2,e2,e⟩:=zA8 e
 obtain ⟨h,S3,e3,e⟩:=zA8 e
 refine ⟨μ,ρ,S,x,S1,sr,re,e1,fun v H1 μ1 sr1 st1 r1=>⟨μ1,ρ,S1,l,S2,sr1,re.up st1,e2,fun H2 μ2 sr2 st2=>?_⟩⟩
 have st12:=st1.trans st2 sr2.nd
 refine ⟨μ2,ρ,S2,h,S3,sr2,re.up st12,e3,fun H3 μ3 sr3 st3=>?_⟩
 exact ho x l h S3 d S' H3 μ3 v Q e sr3 (RV.up st3.tk st3.ext _ _ (RV.up st2.tk st2.ext _ _ r1)) (y.shift (st12.trans st3 sr3.nd)))
def CallS (K:W.Frag) (r:List V→Hp→VK→Prop) (o:List D→M D):Prop:=∀ xs S d S' H μ vs Q,o xs S=.ok d S'→SR K μ S H→RVs K H μ xs vs→Yld K μ H d S' Q→r vs H Q
variable {ca':CA}
theorem of_app {r:List V→Hp→VK→Prop}{o:List D→M D} (ho:CallS X.K r o):∀ σ H Q,tOf X.K (cApp o ca') σ H Q→tCB r (tOfA X.K ca') σ H Q:=by
 rintro σ H Q ⟨μ,ρ,S,d,S',sr,re,e,y⟩
 obtain ⟨xs,S1,e1,e⟩:=zA8 e
 exact ⟨μ,ρ,S,xs,S1,sr,re,e1,fun vs H1 μ1 sr1 st1 r1=>ho xs S1 d S' H1 μ1 vs Q e sr1 r1 (y.shift st1)⟩
noncomputable def spOf (K:W.Frag) (φ:List D→M D) (n:Nat):Sp:=fun vs H Q E=>vs.length=n∧∃ μ ds S d S',SR K μ S H∧RVs K H μ ds vs∧φ ds S=.ok d S'∧Yld K μ H d S' Q
theorem of_call {φ:List D→M D}{n:Nat} (hn:∀ ds S d S',φ ds S=.ok d S'→ds.length=n):∀ σ H Q,tOf X.K (cApp φ ca') σ H Q→tCall (spOf X.K φ n) [] E0 (tOfA X.K ca') σ H Q:=by
 rintro σ H Q ⟨μ,ρ,S,d,S',sr,re,e,y⟩
 obtain ⟨xs,S1,e1,e⟩:=zA8 e
 refine ⟨μ,ρ,S,xs,S1,sr,re,e1,fun vs H1 μ1 sr1 st1 r1=>?_⟩
 rw [List.append_nil]
 exact ⟨by rw [← r1.len]; exact hn _ _ _ _ e,μ1,xs,S1,d,S',sr1,r1,e,y.shift st1⟩
end
open PySem PySem.Spec PyProof.Rows
noncomputable def lim:Nat:=1048576
theorem lim_le {n:Nat} (h:n≤lim):n≤sizeLine:=Nat.le_trans h (by decide)
theorem lim_lt {n:Nat} (h:n<lim):n<sizeLine:=Nat.lt_of_lt_of_le h (by decide)
section
variable {K:W.Frag}{H H' H1:Hp}{μ:List Addr}{S:zA1}
theorem SR.same (sr:SR K μ S H) (sm:Same H H1):SR K μ S H1∧Step K μ μ H H1:=by
 have tk:TF K H H1:=tf_same sm
 refine ⟨⟨sr.len,sr.nd,fun n a o e1 e2=>?_⟩,⟨⟨[],by simp,by simp⟩,fun b o _ h=>sm b o h,tk⟩⟩
 obtain ⟨u,hu⟩:=sr.isS (List.mem_of_getElem? e1)
 exact (sr.obj n a o e1 e2).up tk ⟨[],by simp⟩ (by rw [hu]; exact sm _ _ hu)
theorem Yld.oldT {ds:List D}{vs:List V}{p:Addr}{Q:VK} (y:Yld K μ H (.tup ds) S Q) (sr:SR K μ S H) (sm:Same H H1) (h:H1 p=some (.tup vs)) (r:RVs K H μ ds vs):Q (.ref p) H1:=by
 obtain ⟨s1,s2⟩:=sr.same sm
 exact y _ _ _ s1 s2 (by unfold RV; exact ⟨p,vs,rfl,h,RVs.up s2.tk s2.ext _ _ r⟩)
theorem zB1 {i:Int}:RV K H μ (.int i) (.int i):=by unfold RV; rfl
theorem rv_bl {i:Bool}:RV K H μ (.bl i) (.bl i):=by unfold RV; rfl
theorem rv_non:RV K H μ .non .non:=by unfold RV; rfl
theorem rv_str {i:Str}:RV K H μ (.str i) (.str i):=by unfold RV; rfl
theorem SR.lst (sr:SR K μ S H) {n:Nat}{a:Addr}{xs:List D} (h:μ[n]?=some a) (ho:S[n]?=some (.lst xs)):∃ vs,H a=some (.lst vs)∧RVs K H μ xs vs:=sr.obj n a _ h ho
noncomputable def zA5 (S:zA1) (n:Nat):Option (List D):=match S[n]? with
 | some (.lst xs)=>some xs
 | _=>none
theorem SR.sq (sr:SR K μ S H) {n:Nat}{a:Addr}{xs:List D} (h:μ[n]?=some a) (ho:zA5 S n=some xs):∃ vs,SqL K H a vs∧RVs K H μ xs vs:=by
 unfold zA5 at ho
 split at ho
 ·rename_i ys e; cases ho
  obtain ⟨vs,q,r⟩:=sr.get h e
  exact ⟨vs,SqL.of q,r⟩
 ·cases ho
noncomputable def seqAt (S:zA1):D→Option (List D)
 | .tup xs=>some xs
 | .lst n=>zA5 S n
 | .rol xs=>some xs
 | _=>none
theorem SR.seq (sr:SR K μ S H) {x:D}{v:V}{xs:List D} (r:RV K H μ x v) (ho:seqAt S x=some xs):∃ a vs,v=.ref a∧(SqL K H a vs∨SqT K H a vs)∧RVs K H μ xs vs:=by
 unfold seqAt at ho
 split at ho
 ·cases ho
  unfold RV at r; obtain ⟨p,vs,rfl,q,rr⟩:=r
  exact ⟨p,vs,rfl,.inr (SqT.of q),rr⟩
 ·unfold RV at r; obtain ⟨a,rfl,hm⟩:=r
  obtain ⟨vs,q,rr⟩:=sr.sq hm ho
  exact ⟨a,vs,rfl,.inl q,rr⟩
 ·cases ho
  unfold RV at r; obtain ⟨p,vs,rfl,q,rr⟩:=r
  exact ⟨p,vs,rfl,.inl q.sq,rr⟩
 ·cases ho
theorem RVs.cons_inv {d:D}{ds:List D}{vs:List V} (h:RVs K H μ (d::ds) vs):∃ v ws,vs=v::ws∧RV K H μ d v∧RVs K H μ ds ws:=by unfold RVs at h; exact h
theorem RVs.nil_inv {vs:List V} (h:RVs K H μ [] vs):vs=[]:=by unfold RVs at h; exact h
end
noncomputable def oInt (g:Int→Int→Int):D→D→M D
 | .int i,.int j=>ret (.int (g i j))
 | _,_=>bad
noncomputable def oAdd:D→D→M D
 | .int i,.int j=>ret (.int (i+j))
 | .tup xs,.tup ys=>fun S=>if xs.length+ys.length≤lim then .ok (.tup (xs++ys)) S else .bad
 | .lst n,.lst m=>fun S=>match S[n]?,S[m]? with
  | some (.lst xs),some (.lst ys)=>if xs.length+ys.length≤lim then .ok (.lst S.length) (S++[.lst (xs++ys)]) else .bad
  | _,_=>.bad
 | .str x,.str y=>fun S=>if x.length+y.length≤lim then .ok (.str (x++y)) S else .bad
 | _,_=>bad
noncomputable def mulOk (i j:Int):Bool:=(decide (-18446744073709551616<i)&&decide (i<18446744073709551616))||(decide (-18446744073709551616<j)&&decide (j<18446744073709551616))
noncomputable def oMul:D→D→M D
 | .int i,.int j=>fun S=>if mulOk i j then .ok (.int (i*j)) S else .bad
 | _,_=>bad
noncomputable def oMod:D→D→M D
 | .int i,.int j=>fun S=>if 0<j then .ok (.int (i % j)) S else .bad
 | _,_=>bad
noncomputable def oDiv:D→D→M D
 | .int i,.int j=>fun S=>if 0<j∧j<1073741824 then .ok (.int (i / j)) S else .bad
 | _,_=>bad
noncomputable def oPow:D→D→M D
 | .int i,.int j=>fun S=>if 0≤j∧j≤1000000∧i.natAbs<18446744073709551616 then .ok (.int (i ^ j.toNat)) S else .bad
 | _,_=>bad
noncomputable def oShl:D→D→M D
 | .int i,.int j=>fun S=>if 0≤j∧j≤1000000∧i.natAbs<18446744073709551616 then .ok (.int (i*2 ^ j.toNat)) S else .bad
 | _,_=>bad
noncomputable def oShr:D→D→M D
 | .int i,.int j=>fun S=>if 0≤j then .ok (.int (i / 2 ^ j.toNat)) S else .bad
 | _,_=>bad
noncomputable def oNeg:D→M D
 | .int i=>ret (.int (-i))
 | _=>bad
section
variable {X:Cx}
theorem os_int {op:Operator}{g:Int→Int→Int} (h:OpR X (binaryOp op) (rI0 fun i j=>.int (g i j))):OpS X.K (rAny X (binaryOp op)) (oInt g):=by
 intro x y S d S' H μ v u Q e sr rx ry h'
 unfold oInt at e
 split at e
 ·obtain ⟨rfl,rfl⟩:=zAi e
  unfold RV at rx ry; subst rx ry
  exact ⟨_,h,_,_,rfl,rfl,h'.self sr zB1⟩
 ·cases e
theorem os_sub:OpS X.K (rAny X (binaryOp .Sub)) (oInt fun i j=>i - j):=os_int op_sub
theorem os_and:OpS X.K (rAny X (binaryOp .BitAnd)) (oInt Builtin.bitAnd):=os_int op_and
theorem os_or:OpS X.K (rAny X (binaryOp .BitOr)) (oInt Builtin.bitOr):=os_int op_or
theorem os_xor:OpS X.K (rAny X (binaryOp .BitXor)) (oInt Builtin.bitXor):=os_int op_xor
theorem os_add:OpS X.K (rAny X (binaryOp .Add)) oAdd:=by
 intro x y S d S' H μ v u Q e sr rx ry h
 unfold oAdd at e
 split at e
 ·obtain ⟨rfl,rfl⟩:=zAi e
  unfold RV at rx ry; subst rx ry
  exact ⟨_,op_add,_,_,rfl,rfl,h.self sr zB1⟩
 ·try dsimp only at e
  split at e
  ·rename_i hl; cases e
   unfold RV at rx ry
   obtain ⟨p,vs,rfl,q1,r1⟩:=rx
   obtain ⟨p2,ws,rfl,q2,r2⟩:=ry
   exact ⟨_,op_catT2,p,p2,vs,ws,rfl,rfl,q1,q2,by rw [← r1.len,← r2.len]; exact lim_le hl,fun p3 H1 sm sq=>h.oldT sr sm sq (r1.append r2)⟩
  ·cases e
 ·try dsimp only at e
  unfold RV at rx ry
  obtain ⟨p,rfl,m1⟩:=rx
  obtain ⟨p2,rfl,m2⟩:=ry
  split at e
  ·rename_i xs ys o1 o2
   split at e
   ·rename_i hl; cases e
    obtain ⟨vs,q1,r1⟩:=sr.lst m1 o1
    obtain ⟨ws,q2,r2⟩:=sr.lst m2 o2
    exact ⟨_,op_cat,p,p2,vs,ws,rfl,rfl,q1,q2,by rw [← r1.len,← r2.len]; exact lim_le hl,fun p3 hp=>h.newL sr hp (r1.append r2)⟩
   ·cases e
  ·cases e
 ·try dsimp only at e
  split at e
  ·rename_i hl; cases e
   unfold RV at rx ry; subst rx ry
   exact ⟨_,op_add_str,_,_,rfl,rfl,lim_le hl,h.self sr rv_str⟩
  ·cases e
 ·cases e
theorem mulOk_c {i j:Int} (h:mulOk i j=true):CMul i j:=by
 unfold mulOk at h
 simp only [Bool.or_eq_true,Bool.and_eq_true,decide_eq_true_eq] at h
 exact h
theorem os_mul:OpS X.K (rAny X (binaryOp .Mult)) oMul:=by
 intro x y S d S' H μ v u Q e sr rx ry h
 unfold oMul at e
 split at e
 ·try dsimp only at e
  split at e
  ·rename_i hl; cases e
   unfold RV at rx ry; subst rx ry
   exact ⟨_,op_mul,_,_,rfl,rfl,mulOk_c hl,h.self sr zB1⟩
  ·cases e
 ·cases e
theorem os_mod:OpS X.K (rAny X (binaryOp .Mod)) oMod:=by
 intro x y S d S' H μ v u Q e sr rx ry h
 unfold oMod at e
 split at e
 ·try dsimp only at e
  split at e
  ·rename_i hl; cases e
   unfold RV at rx ry; subst rx ry
   exact ⟨_,op_mod,_,_,rfl,rfl,hl,h.self sr zB1⟩
  ·cases e
 ·cases e
theorem os_div:OpS X.K (rAny X (binaryOp .FloorDiv)) oDiv:=by
 intro x y S d S' H μ v u Q e sr rx ry h
 unfold oDiv at e
 split at e
 ·try dsimp only at e
  split at e
  ·rename_i hl; cases e
   unfold RV at rx ry; subst rx ry
   exact ⟨_,op_fdiv,_,_,rfl,rfl,hl,h.self sr zB1⟩
  ·cases e
 ·cases e
theorem os_pow:OpS X.K (rAny X (binaryOp .Pow)) oPow:=by
 intro x y S d S' H μ v u Q e sr rx ry h
 unfold oPow at e
 split at e
 ·try dsimp only at e
  split at e
  ·rename_i hl; cases e
   unfold RV at rx ry; subst rx ry
   exact ⟨_,op_pow,_,_,rfl,rfl,hl,h.self sr zB1⟩
  ·cases e
 ·cases e
theorem os_shl:OpS X.K (rAny X (binaryOp .LShift)) oShl:=by
 intro x y S d S' H μ v u Q e sr rx ry h
 unfold oShl at e
 split at e
 ·try dsimp only at e
  split at e
  ·rename_i hl; cases e
   unfold RV at rx ry; subst rx ry
   exact ⟨_,op_shl,_,_,rfl,rfl,hl,h.self sr zB1⟩
  ·cases e
 ·cases e
theorem os_shr:OpS X.K (rAny X (binaryOp .RShift)) oShr:=by
 intro x y S d S' H μ v u Q e sr rx ry h
 unfold oShr at e
 split at e
 ·try dsimp only at e
  split at e
  ·rename_i hl; cases e
   unfold RV at rx ry; subst rx ry
   exact ⟨_,op_shr,_,_,rfl,rfl,hl,h.self sr zB1⟩
  ·cases e
 ·cases e
theorem us_neg:UnS X.K (uAny X (unaryOp .USub)) oNeg:=by
 intro x S d S' H μ v Q e sr rx h
 unfold oNeg at e
 split at e
 ·obtain ⟨rfl,rfl⟩:=zAi e
  unfold RV at rx; subst rx
  exact ⟨_,un_neg,_,rfl,h.self sr zB1⟩
 ·cases e
noncomputable def oCmp (g:Int→Int→Bool):D→D→M D
 | .int i,.int j=>ret (.bl (g i j))
 | _,_=>bad
theorem os_cmp {op:CmpOp}{g:Int→Int→Bool} (h:OpR X (compareOp op) (rI0 fun i j=>.bl (g i j))):OpS X.K (rAny X (compareOp op)) (oCmp g):=by
 intro x y S d S' H μ v u Q e sr rx ry h'
 unfold oCmp at e
 split at e
 ·obtain ⟨rfl,rfl⟩:=zAi e
  unfold RV at rx ry; subst rx ry
  exact ⟨_,h,_,_,rfl,rfl,h'.self sr rv_bl⟩
 ·cases e
theorem os_le:OpS X.K (rAny X (compareOp .LtE)) (oCmp fun i j=>decide (i≤j)):=os_cmp op_le
theorem os_gt:OpS X.K (rAny X (compareOp .Gt)) (oCmp fun i j=>decide (j<i)):=os_cmp op_gt
theorem os_ge:OpS X.K (rAny X (compareOp .GtE)) (oCmp fun i j=>decide (j≤i)):=os_cmp op_ge
noncomputable def intsOf:List D→Option (List Int)
 | []=>some []
 | .int i::r=>(intsOf r).map (i::·)
 | _::_=>none
theorem intsOf_vs {K:W.Frag}{H:Hp}{μ:List Addr}:∀ {ds:List D}{ns:List Int}{vs:List V},intsOf ds=some ns→RVs K H μ ds vs→vs=ns.map V.int
 | [],ns,vs,e,r=>by cases e; rw [r.nil_inv]; rfl
 | .int i::ds,ns,vs,e,r=>by
  obtain ⟨v,ws,rfl,r1,r2⟩:=r.cons_inv
  unfold intsOf at e
  cases q:intsOf ds with
  | none=>rw [q] at e; cases e
  | some ms =>
   rw [q] at e; cases e
   unfold RV at r1; subst r1
   rw [intsOf_vs q r2]; rfl
 | .non::ds,ns,vs,e,r=>by cases e
 | .bl _::ds,ns,vs,e,r=>by cases e
 | .str _::ds,ns,vs,e,r=>by cases e
 | .ty _::ds,ns,vs,e,r=>by cases e
 | .tup _::ds,ns,vs,e,r=>by cases e
 | .lst _::ds,ns,vs,e,r=>by cases e
 | .dct _::ds,ns,vs,e,r=>by cases e
 | .rol _::ds,ns,vs,e,r=>by cases e
noncomputable def oLt:D→D→M D
 | .int i,.int j=>ret (.bl (decide (i<j)))
 | _,_=>bad
theorem os_lt (hu:X.A.units<cLine):OpS X.K (rAny X (compareOp .Lt)) oLt:=by
 intro x y S d S' H μ v u Q e sr rx ry h
 unfold oLt at e
 split at e
 ·obtain ⟨rfl,rfl⟩:=zAi e
  unfold RV at rx ry; subst rx ry
  exact ⟨_,op_lt,_,_,rfl,rfl,h.self sr rv_bl⟩
 ·cases e
noncomputable def snap:Nat→zA1→D→Option PyData
 | 0,_,_=>none
 | n+1,S,d=>match d with
  | .non=>some .none
  | .bl b=>some (.bool b)
  | .int i=>some (.int i)
  | .str x=>if PyData.strOk x then some (.str x) else none
  | .tup xs=>(xs.mapM (snap n S)).map .tuple
  | .lst k=>match zA5 S k with
   | some xs=>(xs.mapM (snap n S)).map .list
   | none=>none
  | _=>none
theorem snapL {K:W.Frag}{H:Hp}{μ:List Addr}{S:zA1}{n:Nat} (ih:∀ d v p,snap n S d=some p→RV K H μ d v→Rp K H (fun _=>True) v p∧p.canLay0=true∧p.depth≤n):∀ (xs:List D) (vs:List V) (ps:List PyData),xs.mapM (snap n S)=some ps→RVs K H μ xs vs→RpL K H (fun _=>True) vs ps∧PyData.canLayAll0 ps=true∧PyData.depthAll ps≤n
 | [],vs,ps,e,r=>by
  simp at e; subst e
  rw [r.nil_inv]
  exact ⟨.nil,rfl,Nat.zero_le _⟩
 | d::ds,vs,ps,e,r=>by
  obtain ⟨v,ws,rfl,r1,r2⟩:=r.cons_inv
  rw [List.mapM_cons] at e
  cases q:snap n S d with
  | none=>rw [q] at e; cases e
  | some p =>
   cases q2:ds.mapM (snap n S) with
   | none=>rw [q,q2] at e; cases e
   | some ps' =>
    rw [q,q2] at e
    cases e
    obtain ⟨a1,a2,a3⟩:=ih d v p q r1
    obtain ⟨b1,b2,b3⟩:=snapL ih ds ws ps' q2 r2
    refine ⟨.cons a1 b1,?_,?_⟩
    ·show (PyData.canLay0 p&&PyData.canLayAll0 ps')=true
     rw [a2,b2]; rfl
    ·show max p.depth (PyData.depthAll ps')≤n
     omega
theorem snap_ok {K:W.Frag}{H:Hp}{μ:List Addr}{S:zA1} (sr:SR K μ S H):∀ (n:Nat) (d:D) (v:V) (p:PyData),snap n S d=some p→RV K H μ d v→Rp K H (fun _=>True) v p∧p.canLay0=true∧p.depth≤n
 | 0,d,v,p,e,r=>by cases e
 | n+1,d,v,p,e,r=>by
  unfold snap at e
  cases d with
  | non=>cases e; unfold RV at r; subst r; exact ⟨.non,rfl,Nat.zero_le _⟩
  | bl b=>cases e; unfold RV at r; subst r; exact ⟨.bl b,rfl,Nat.zero_le _⟩
  | int i=>cases e; unfold RV at r; subst r; exact ⟨.int i,rfl,Nat.zero_le _⟩
  | str x =>
   dsimp only at e
   split at e
   ·rename_i hs; cases e; unfold RV at r; subst r; exact ⟨.str x,hs,Nat.zero_le _⟩
   ·cases e
  | tup xs =>
   dsimp only at e
   cases q:xs.mapM (snap n S) with
   | none=>rw [q] at e; cases e
   | some ps =>
    rw [q] at e; cases e
    unfold RV at r; obtain ⟨a,vs,rfl,hq,rr⟩:=r
    obtain ⟨b1,b2,b3⟩:=snapL (fun d v p e r=>snap_ok sr n d v p e r) xs vs ps q rr
    exact ⟨.tup (SqT.of hq) b1,b2,Nat.succ_le_succ b3⟩
  | lst k =>
   dsimp only at e
   split at e
   ·rename_i xs hx
    cases q:xs.mapM (snap n S) with
    | none=>rw [q] at e; cases e
    | some ps =>
     rw [q] at e; cases e
     unfold RV at r; obtain ⟨a,rfl,hm⟩:=r
     obtain ⟨vs,hq,rr⟩:=sr.sq hm hx
     obtain ⟨b1,b2,b3⟩:=snapL (fun d v p e r=>snap_ok sr n d v p e r) xs vs ps q rr
     exact ⟨.lst True.intro hq b1,b2,Nat.succ_le_succ b3⟩
   ·cases e
  | dct k=>cases e
  | ty k=>cases e
  | rol k=>cases e
noncomputable def oEq:D→D→M D:=fun x y S=>match x,y with
 | .str a,.str b=>.ok (.bl (decide (a=b))) S
 | _,_=>match snap 40 S x,snap 40 S y with
  | some p,some q=>.ok (.bl (PyData.eqv p q)) S
  | _,_=>.bad
noncomputable def oNe:D→D→M D:=fun x y S=>match x,y with
 | .str a,.str b=>.ok (.bl (!decide (a=b))) S
 | _,_=>match snap 40 S x,snap 40 S y with
  | some p,some q=>.ok (.bl (!PyData.eqv p q)) S
  | _,_=>.bad
theorem os_eq (hu:X.A.units+64<cLine):OpS X.K (rAny X (compareOp .Eq)) oEq:=by
 intro x y S d S' H μ v u Q e sr rx ry h
 unfold oEq at e
 split at e
 ·rename_i a b
  cases e
  unfold RV at rx ry; subst rx ry
  refine ⟨_,op_eq,rfl,?_⟩
  have z:decide (V.str a=V.str b)=decide (a=b):=by simp
  rw [z]
  exact h.self sr rv_bl
 ·split at e
  ·rename_i p q e1 e2
   cases e
   obtain ⟨a1,a2,a3⟩:=snap_ok sr 40 x v p e1 rx
   obtain ⟨b1,b2,b3⟩:=snap_ok sr 40 y u q e2 ry
   exact ⟨_,op_eqD hu,_,_,p,q,a1,b1,⟨a2,by omega⟩,⟨b2,by omega⟩,h.self sr rv_bl⟩
  ·cases e
theorem os_ne (hu:X.A.units+64<cLine):OpS X.K (rAny X (compareOp .NotEq)) oNe:=by
 intro x y S d S' H μ v u Q e sr rx ry h
 unfold oNe at e
 split at e
 ·rename_i a b
  cases e
  unfold RV at rx ry; subst rx ry
  refine ⟨_,op_ne,rfl,?_⟩
  have z:decide (V.str a=V.str b)=decide (a=b):=by simp
  rw [z]
  exact h.self sr rv_bl
 ·split at e
  ·rename_i p q e1 e2
   cases e
   obtain ⟨a1,a2,a3⟩:=snap_ok sr 40 x v p e1 rx
   obtain ⟨b1,b2,b3⟩:=snap_ok sr 40 y u q e2 ry
   exact ⟨_,op_neD hu,_,_,p,q,a1,b1,⟨a2,by omega⟩,⟨b2,by omega⟩,h.self sr rv_bl⟩
  ·cases e
noncomputable def D.isNon:D→Bool
 | .non=>true
 | _=>false
theorem isNon_v {K:W.Frag}{H:Hp}{μ:List Addr}{x:D}{v:V} (r:RV K H μ x v):decide (v=.non)=x.isNon:=by
 cases x with
 | non=>unfold RV at r; subst r; rfl
 | bl _=>unfold RV at r; subst r; rfl
 | int _=>unfold RV at r; subst r; rfl
 | str _=>unfold RV at r; subst r; rfl
 | ty _=>unfold RV at r; subst r; rfl
 | tup _=>unfold RV at r; obtain ⟨_,_,rfl,_⟩:=r; rfl
 | lst _=>unfold RV at r; obtain ⟨_,rfl,_⟩:=r; rfl
 | dct _=>unfold RV at r; obtain ⟨_,rfl,_⟩:=r; rfl
 | rol _=>unfold RV at r; obtain ⟨_,_,rfl,_⟩:=r; rfl
noncomputable def oIs:D→D→M D
 | x,.non=>ret (.bl x.isNon)
 | .bl a,.bl b=>ret (.bl (a == b))
 | _,_=>bad
noncomputable def oIsNot:D→D→M D
 | x,.non=>ret (.bl (!x.isNon))
 | .bl a,.bl b=>ret (.bl (a != b))
 | _,_=>bad
theorem os_is:OpS X.K (rAny X (compareOp .Is)) oIs:=by
 intro x y S d S' H μ v u Q e sr rx ry h
 unfold oIs at e
 split at e
 ·obtain ⟨rfl,rfl⟩:=zAi e
  unfold RV at ry
  exact ⟨_,op_isN,ry,by rw [isNon_v rx]; exact h.self sr rv_bl⟩
 ·obtain ⟨rfl,rfl⟩:=zAi e
  unfold RV at rx ry; subst rx ry
  exact ⟨_,op_is_bl,_,_,rfl,rfl,h.self sr rv_bl⟩
 ·cases e
theorem os_isNot:OpS X.K (rAny X (compareOp .IsNot)) oIsNot:=by
 intro x y S d S' H μ v u Q e sr rx ry h
 unfold oIsNot at e
 split at e
 ·obtain ⟨rfl,rfl⟩:=zAi e
  unfold RV at ry
  exact ⟨_,op_notN,ry,by rw [isNon_v rx]; exact h.self sr rv_bl⟩
 ·obtain ⟨rfl,rfl⟩:=zAi e
  unfold RV at rx ry; subst rx ry
  exact ⟨_,op_isnot_bl,_,_,rfl,rfl,h.self sr rv_bl⟩
 ·cases e
noncomputable def flat:D→Option V
 | .non=>some .non
 | .bl b=>some (.bl b)
 | .int i=>some (.int i)
 | .str x=>some (.str x)
 | _=>none
theorem flat_v {K:W.Frag}{H:Hp}{μ:List Addr}{x:D}{v w:V} (e:flat x=some w) (r:RV K H μ x v):v=w:=by
 cases x with
 | non=>cases e; unfold RV at r; exact r
 | bl _=>cases e; unfold RV at r; exact r
 | int _=>cases e; unfold RV at r; exact r
 | str _=>cases e; unfold RV at r; exact r
 | _=>cases e
theorem flats_v {K:W.Frag}{H:Hp}{μ:List Addr}:∀ {ds:List D}{vs ws:List V},ds.mapM flat=some ws→RVs K H μ ds vs→vs=ws
 | [],vs,ws,e,r=>by simp at e; subst e; exact r.nil_inv
 | d::ds,vs,ws,e,r=>by
  obtain ⟨v,us,rfl,r1,r2⟩:=r.cons_inv
  rw [List.mapM_cons] at e
  cases q:flat d with
  | none=>rw [q] at e; cases e
  | some w =>
   cases q2:ds.mapM flat with
   | none=>rw [q,q2] at e; cases e
   | some ws' =>
    rw [q,q2] at e; cases e
    rw [flat_v q r1,flats_v q2 r2]
noncomputable def keyOf:D→Option Key
 | .int i=>some (.inl i)
 | .str x=>some (.inr x)
 | _=>none
theorem keyOf_v {K:W.Frag}{H:Hp}{μ:List Addr}{x:D}{v:V}{k:Key} (e:keyOf x=some k) (r:RV K H μ x v):v=kV k:=by
 cases x with
 | int _=>cases e; unfold RV at r; exact r
 | str _=>cases e; unfold RV at r; exact r
 | _=>cases e
noncomputable def valD {κ:Type} [DecidableEq κ] (kvs:List (κ × D)) (k:κ):Option D:=(kvs.find? fun kv=>decide (kv.1=k)).map (·.2)
noncomputable def putD {κ:Type} [DecidableEq κ] (kvs:List (κ × D)) (k:κ) (v:D):List (κ × D) :=
 if (kvs.any fun kv=>decide (kv.1=k))=true then kvs.map (fun kv=>if kv.1=k then (kv.1,v) else kv) else kvs++[(k,v)]
section
variable {κ:Type} [DecidableEq κ] {K:W.Frag}{H:Hp}{μ:List Addr}
theorem RKs.cons_inv {p:κ × D}{kvs:List (κ × D)}{ws:List (κ × V)} (h:RKs K H μ (p::kvs) ws):∃ q us,ws=q::us∧p.1=q.1∧RV K H μ p.2 q.2∧RKs K H μ kvs us:=by
 obtain ⟨h1,h2⟩:=h
 rw [List.map_cons] at h1 h2
 obtain ⟨v,vs,e,r1,r2⟩:=h2.cons_inv
 cases ws with
 | nil=>simp at h1
 | cons q us =>
  rw [List.map_cons] at h1 e
  cases e
  rw [List.cons.injEq] at h1
  exact ⟨q,us,rfl,h1.1,r1,h1.2,r2⟩
theorem RKs.val {k:κ}:∀ {kvs:List (κ × D)}{ws:List (κ × V)},RKs K H μ kvs ws→(∀ d,valD kvs k=some d→∃ v,valV ws k=some v∧RV K H μ d v)∧(valD kvs k=none→valV ws k=none)
 | [],ws,h=>by
  have:ws=[]:=by have:=h.1; cases ws with | nil=>rfl | cons a b=>simp at this
  subst this
  exact ⟨fun d e=>(by cases e),fun _=>rfl⟩
 | p::kvs,ws,h=>by
  obtain ⟨q,us,rfl,e1,r1,r2⟩:=h.cons_inv
  obtain ⟨i1,i2⟩:=RKs.val (k:=k) r2
  by_cases hk:p.1=k
  ·have e2:valD (p::kvs) k=some p.2:=by simp [valD,List.find?_cons,hk]
   rw [e2,valV_pos (e1▸hk)]
   exact ⟨fun d e=>by cases e; exact ⟨_,rfl,r1⟩,fun e=>by cases e⟩
  ·have e2:valD (p::kvs) k=valD kvs k:=by simp [valD,List.find?_cons,hk]
   rw [e2,valV_neg (e1▸hk)]
   exact ⟨i1,i2⟩
theorem RKs.nil:RKs K H μ ([]:List (κ × D)) []:=⟨rfl,RVs.nil⟩
theorem RKs.cons {k:κ}{d:D}{v:V}{kvs:List (κ × D)}{ws:List (κ × V)} (r:RV K H μ d v) (h:RKs K H μ kvs ws):RKs K H μ ((k,d)::kvs) ((k,v)::ws):=⟨by rw [List.map_cons,List.map_cons,h.1],by rw [List.map_cons,List.map_cons]; exact .cons r h.2⟩
theorem RKs.any {k:κ}:∀ {kvs:List (κ × D)}{ws:List (κ × V)},RKs K H μ kvs ws→(kvs.any fun kv=>decide (kv.1=k))=(ws.any fun kv=>decide (kv.1=k))
 | [],ws,h=>by
  have:ws=[]:=by have:=h.1; cases ws with | nil=>rfl | cons a b=>simp at this
  subst this; rfl
 | p::kvs,ws,h=>by
  obtain ⟨q,us,rfl,e1,r1,r2⟩:=h.cons_inv
  rw [List.any_cons,List.any_cons,RKs.any r2,e1]
theorem RKs.mapSet {k:κ}{d:D}{v:V} (rv:RV K H μ d v):∀ {kvs:List (κ × D)}{ws:List (κ × V)},RKs K H μ kvs ws→RKs K H μ (kvs.map (fun kv=>if kv.1=k then (kv.1,d) else kv)) (ws.map (fun kv=>if kv.1=k then (kv.1,v) else kv))
 | [],ws,h=>by
  have:ws=[]:=by have:=h.1; cases ws with | nil=>rfl | cons a b=>simp at this
  subst this; exact .nil
 | p::kvs,ws,h=>by
  obtain ⟨q,us,rfl,e1,r1,r2⟩:=h.cons_inv
  rw [List.map_cons,List.map_cons]
  obtain ⟨p1,p2⟩:=p
  obtain ⟨q1,q2⟩:=q
  dsimp only at e1 r1 ⊢
  subst e1
  by_cases hk:p1=k
  ·rw [if_pos hk,if_pos hk]; exact .cons rv (RKs.mapSet rv r2)
  ·rw [if_neg hk,if_neg hk]; exact .cons r1 (RKs.mapSet rv r2)
theorem RKs.append {as:List (κ × D)}{bs:List (κ × V)}{cs:List (κ × D)}{ds:List (κ × V)} (h:RKs K H μ as bs) (g:RKs K H μ cs ds):RKs K H μ (as++cs) (bs++ds):=⟨by rw [List.map_append,List.map_append,h.1,g.1],by rw [List.map_append,List.map_append]; exact h.2.append g.2⟩
theorem RKs.put {k:κ}{d:D}{v:V} (rv:RV K H μ d v) {kvs:List (κ × D)}{ws:List (κ × V)} (h:RKs K H μ kvs ws):RKs K H μ (putD kvs k d) (putK ws k v):=by
 unfold putD putK
 rw [h.any (k:=k)]
 by_cases hc:(ws.any fun kv=>decide (kv.1=k))=true
 ·rw [if_pos hc,if_pos hc]; exact h.mapSet rv
 ·rw [if_neg hc,if_neg hc]; exact h.append (.cons rv .nil)
theorem RKs.len {kvs:List (κ × D)}{ws:List (κ × V)} (h:RKs K H μ kvs ws):kvs.length=ws.length:=by
 have:=congrArg List.length h.1
 simpa using this
end
noncomputable def dictAt (S:zA1) (n:Nat) (x:D):Option (Option D):=match S[n]? with
 | some (.dk kvs)=>(keyOf x).map fun k=>valD kvs k
 | _=>none
theorem dictAt_ok {K:W.Frag}{H:Hp}{μ:List Addr}{S:zA1}{n:Nat}{x:D}{v:V}{a:Addr}{r:Option D} (sr:SR K μ S H) (e:dictAt S n x=some r) (hm:μ[n]?=some a) (rx:RV K H μ x v):∃ o,DGet H a v o∧(∀ d,r=some d→∃ w,o=some w∧RV K H μ d w)∧(r=none→o=none):=by
 unfold dictAt at e
 split at e
 ·rename_i kvs ho
  cases q:keyOf x with
  | none=>rw [q] at e; cases e
  | some k =>
   rw [q] at e; cases e
   obtain ⟨ws,hw,rr⟩:=sr.get hm ho
   have:=keyOf_v q rx
   subst this
   exact ⟨valV ws k,DGet.k hw,(rr.val (k:=k)).1,(rr.val (k:=k)).2⟩
 ·cases e
noncomputable def oIn (neg:Bool):D→D→M D:=fun x y S=>match y with
 | .dct n=>match dictAt S n x with
  | some o=>.ok (.bl (if neg then !o.isSome else o.isSome)) S
  | none=>.bad
 | _=>match seqAt S y,flat x with
  | some ys,some v=>match ys.mapM flat with
   | some vs=>.ok (.bl (if neg then !inV v vs else inV v vs)) S
   | none=>.bad
  | some ys,none=>match snap 40 S x,ys.mapM (snap 40 S) with
   | some p,some ps=>.ok (.bl (if neg then !(ps.any fun d=>PyData.eqv d p) else ps.any fun d=>PyData.eqv d p)) S
   | _,_=>.bad
  | _,_=>.bad
theorem flat_flatV {x:D}{v:V} (h:flat x=some v):flatV v=true:=by
 cases x <;> first | (cases h; rfl) | cases h
theorem flats_flatV:∀ {ds:List D}{vs:List V},ds.mapM flat=some vs→vs.all flatV=true
 | [],vs,e=>by simp at e; subst e; rfl
 | d::ds,vs,e=>by
  rw [List.mapM_cons] at e
  cases q:flat d with
  | none=>rw [q] at e; cases e
  | some w =>
   cases q2:ds.mapM flat with
   | none=>rw [q,q2] at e; cases e
   | some ws' =>
    rw [q,q2] at e; cases e
    rw [List.all_cons,flat_flatV q,flats_flatV q2]; rfl
theorem op_din (hu:X.A.units+1<cLine):OpR X (compareOp .In) (fun y x H Q=>∃ a o,x=.ref a∧DGet H a y o∧Q (.bl o.isSome) H):=by
 intro pins s σ H y x v u Q I ry rx h
 obtain ⟨a,o,rfl,g,q⟩:=h
 obtain rfl:u=Value.ref a:=rx
 exact d_in hu I g ry fun s3 I3=>⟨.bl o.isSome,H,I3,rfl,q⟩
theorem op_dnotin (hu:X.A.units+1<cLine):OpR X (compareOp .NotIn) (fun y x H Q=>∃ a o,x=.ref a∧DGet H a y o∧Q (.bl (!o.isSome)) H):=by
 intro pins s σ H y x v u Q I ry rx h
 obtain ⟨a,o,rfl,g,q⟩:=h
 obtain rfl:u=Value.ref a:=rx
 exact d_notIn hu I g ry fun s3 I3=>⟨.bl (!o.isSome),H,I3,rfl,q⟩
theorem okAll {n:Nat}:∀ {ps:List PyData},PyData.canLayAll0 ps=true→PyData.depthAll ps≤n→∀ d∈ps,d.canLay0=true∧d.depth≤n
 | [],_,_,d,h=>by cases h
 | p::ps,h1,h2,d,h=>by
  replace h1:(PyData.canLay0 p&&PyData.canLayAll0 ps)=true:=h1
  replace h2:max p.depth (PyData.depthAll ps)≤n:=h2
  rw [Bool.and_eq_true] at h1
  rcases List.mem_cons.mp h with rfl | h
  ·exact ⟨h1.1,by omega⟩
  ·exact okAll h1.2 (by omega) d h
theorem os_in_core {neg:Bool}{op:CmpOp} (h1:OpR X (compareOp op) (rIn X.K neg)) (h2:OpR X (compareOp op) (fun y x H Q=>∃ a o,x=.ref a∧DGet H a y o∧Q (.bl (if neg then !o.isSome else o.isSome)) H))
  (h3:OpR X (compareOp op) (rInG X.K neg))
  : OpS X.K (rAny X (compareOp op)) (oIn neg):=by
 intro x y S d S' H μ v u Q e sr rx ry h
 unfold oIn at e
 split at e
 ·rename_i n
  split at e
  ·rename_i o ho
   cases e
   unfold RV at ry
   obtain ⟨a,rfl,hm⟩:=ry
   obtain ⟨o',g,g1,g2⟩:=dictAt_ok sr ho hm rx
   have e2:o'.isSome=o.isSome:=by
    cases o with
    | none=>simp [g2 rfl]
    | some d=>obtain ⟨w,rfl,_⟩:=g1 d rfl; rfl
   exact ⟨_,h2,a,o',rfl,g,by rw [e2]; exact h.self sr rv_bl⟩
  ·cases e
 ·split at e
  ·rename_i ys w e1 e2
   split at e
   ·rename_i ws e3
    cases e
    obtain ⟨a,vs,rfl,hq,rr⟩:=sr.seq ry e1
    have z1:=flat_v e2 rx
    have z2:=flats_v e3 rr
    subst z1 z2
    exact ⟨_,h1,a,vs,rfl,hq,flat_flatV e2,flats_flatV e3,h.self sr rv_bl⟩
   ·cases e
  ·rename_i ys e1 e2
   split at e
   ·rename_i p ps hp hps
    cases e
    obtain ⟨a,vs,rfl,hq,rr⟩:=sr.seq ry e1
    obtain ⟨a1,a2,a3⟩:=snap_ok sr 40 x v p hp rx
    obtain ⟨b1,b2,b3⟩:=snapL (fun d v p e r=>snap_ok sr 40 d v p e r) ys vs ps hps rr
    exact ⟨_,h3,a,vs,_,_,p,ps,rfl,hq,a1,⟨a2,by omega⟩,b1,fun d hd=>⟨(okAll b2 b3 d hd).1,by have:=(okAll b2 b3 d hd).2; omega⟩,h.self sr rv_bl⟩
   ·cases e
  ·cases e
theorem os_in (hu:X.A.units+64<cLine):OpS X.K (rAny X (compareOp .In)) (oIn false):=os_in_core op_in_seq (op_din (by omega))
 (op_inG hu)
theorem os_notIn (hu:X.A.units+64<cLine):OpS X.K (rAny X (compareOp .NotIn)) (oIn true):=os_in_core op_notIn_seq (op_dnotin (by omega))
 (op_notInG hu)
end
open PySem PySem.Spec PyProof.Rows
section
variable {X:Cx}
theorem ix_dict (hu:X.A.units+1<cLine):IxR X (fun x y H Q=>∃ a v,x=.ref a∧DGet H a y (some v)∧Q v H):=by
 intro value slice pins s σ H x y v u Q I rx ry h hs
 obtain ⟨a,z,rfl,g,q⟩:=h
 obtain rfl:v=Value.ref a:=rx
 have hT:=dict_typeIs I g
 have h₂:wpAny (model X.prog X.w) X.A (getItem (.ref a) u) (EP X pins σ Q) X.xe s:=d_getItem hu I g ry fun w' s3 I3 rw'=>⟨z,H,I3,rw',q⟩
 unfold subscriptTail
 refine wpAny_bind ?_
 rw [getitemInPython_of_ne hT.not_modules]
 refine wpAny_bind (wpAny_specialOf hT PySem.F.slot_dict_getitem.lookup ?_)
 have fin:wpAny (model X.prog X.w) X.A (subscripted slice false (.ref a) u) (fun r s₃=>wpAny (model X.prog X.w) X.A (letTemporaryGo value (.ref a) r >>= fun _=>pure r) (EP X pins σ Q) X.xe s₃) X.xe s:=by
  rw [hs]
  exact wpAny_operating (wpAny_mono h₂ (fun r s₃ h₃=>wpAny_bind (wpAny_letTemporaryGo (wpAny_pure h₃))) fun _ _ x=>x)
 exact wpAny_pure (wpAny_bind fin)
noncomputable def oIx:D→D→M D:=fun x i S=>match x with
 | .dct n=>match dictAt S n i with
  | some (some d)=>.ok d S
  | _=>.bad
 | _=>match seqAt S x,i with
  | some xs,.int j=>match atI xs j with
   | some d=>.ok d S
   | none=>.bad
  | _,_=>.bad
theorem RVs.at {K:W.Frag}{H:Hp}{μ:List Addr}{ds:List D}{vs:List V}{i:Int}{d:D} (r:RVs K H μ ds vs) (e:atI ds i=some d):∃ v,atI vs i=some v∧RV K H μ d v:=by
 unfold atI at e ⊢
 rw [← r.len]
 cases q:ixN ds.length i with
 | none=>rw [q] at e; cases e
 | some j =>
  rw [q] at e
  obtain ⟨v,e1,e2⟩:=r.get (i:=j) (d:=d) e
  exact ⟨v,e1,e2⟩
theorem os_ix (hu:X.A.units+1<cLine):OpS X.K (ixAnyR X) oIx:=by
 intro x y S d S' H μ v u Q e sr rx ry h
 unfold oIx at e
 split at e
 ·rename_i n
  split at e
  ·rename_i d' ho
   cases e
   unfold RV at rx
   obtain ⟨a,rfl,hm⟩:=rx
   obtain ⟨o,g,g1,_⟩:=dictAt_ok sr ho hm ry
   obtain ⟨w,rfl,rw'⟩:=g1 _ rfl
   exact ⟨_,ix_dict hu,a,w,rfl,g,h.self sr rw'⟩
  ·cases e
 ·split at e
  ·rename_i xs j e1
   split at e
   ·rename_i d' e2
    cases e
    obtain ⟨a,vs,rfl,hq,rr⟩:=sr.seq rx e1
    obtain ⟨w,e3,rw'⟩:=rr.at e2
    unfold RV at ry
    subst ry
    rcases hq with hq | hq
    ·exact ⟨_,ix_list,a,vs,j,w,rfl,rfl,hq,e3,h.self sr rw'⟩
    ·exact ⟨_,ix_tup,a,vs,j,w,rfl,rfl,hq,e3,h.self sr rw'⟩
   ·cases e
  ·cases e
noncomputable def cutD (xs:List D) (lo hi:Option Int):List D:=(xs.drop (HT.sIx xs.length 0 lo)).take (HT.sIx xs.length xs.length hi - HT.sIx xs.length 0 lo)
noncomputable def oSl:D→Option Int→Option Int→M D:=fun x lo hi S=>match x with
 | .tup xs=>.ok (.tup (cutD xs lo hi)) S
 | .lst n=>match zA5 S n with
  | some xs=>.ok (.lst S.length) (S++[.lst (cutD xs lo hi)])
  | none=>.bad
 | _=>.bad
theorem RVs.cut {K:W.Frag}{H:Hp}{μ:List Addr}{ds:List D}{vs:List V} (r:RVs K H μ ds vs) (lo hi:Option Int):RVs K H μ (cutD ds lo hi) (cutV vs lo hi):=by
 unfold cutD cutV
 rw [r.len]
 exact (r.drop _).take _
theorem ss_sl:SlS X.K (slAnyR X) oSl:=by
 intro x lo hi S d S' H μ v Q e sr rx h
 unfold oSl at e
 split at e
 ·cases e
  unfold RV at rx
  obtain ⟨p,vs,rfl,q,rr⟩:=rx
  exact ⟨_,sl_tup2,p,vs,rfl,q,fun p2 H1 sm sq=>h.oldT sr sm sq (rr.cut lo hi)⟩
 ·split at e
  ·rename_i xs e1
   cases e
   unfold RV at rx
   obtain ⟨a,rfl,hm⟩:=rx
   obtain ⟨vs,q,rr⟩:=sr.sq hm e1
   exact ⟨_,sl_list,a,vs,rfl,q,fun p hp=>h.newL sr hp (rr.cut lo hi)⟩
  ·cases e
 ·cases e
noncomputable def oRev:D→D→M D:=fun x y S=>match x,y with
 | .tup xs,.int j=>if j=-1 then .ok (.tup xs.reverse) S else .bad
 | _,_=>.bad
theorem RVs.reverse {K:W.Frag}{H:Hp}{μ:List Addr}:∀ {ds:List D}{vs:List V},RVs K H μ ds vs→RVs K H μ ds.reverse vs.reverse
 | [],vs,r=>by rw [r.nil_inv]; exact .nil
 | d::ds,vs,r=>by
  obtain ⟨v,ws,rfl,r1,r2⟩:=r.cons_inv
  rw [List.reverse_cons,List.reverse_cons]
  exact r2.reverse.append (.cons r1 .nil)
theorem se_rev {a b:Expr}{ca cb:C}{p2 pos:Pos} (ha:PE X a (tOf X.K ca)) (hb:PE X b (tOf X.K cb)):PE X (.Subscript a (.Slice none none (some b) p2) pos) (tOf X.K (cBin oRev ca cb)):=(pe_rev ha hb).weak (by
 rintro σ H Q ⟨μ,ρ,S,d,S',sr,re,e,y⟩
 obtain ⟨x,S1,e1,e⟩:=zA8 e
 obtain ⟨z,S2,e2,e⟩:=zA8 e
 refine ⟨μ,ρ,S,x,S1,sr,re,e1,fun v H1 μ1 sr1 st1 r1=>⟨μ1,ρ,S1,z,S2,sr1,re.up st1,e2,fun u H2 μ2 sr2 st2 r2=>?_⟩⟩
 unfold oRev at e
 split at e
 ·split at e
  ·rename_i hj
   cases e
   have rx:=RV.up st2.tk st2.ext _ _ r1
   unfold RV at rx r2
   obtain ⟨a,xs,rfl,q,rr⟩:=rx
   subst r2 hj
   exact ⟨rfl,a,xs,rfl,SqT.of q,fun p hp=>(y.shift (st1.trans st2 sr2.nd)).newT sr2 hp rr.reverse⟩
  ·cases e
 ·cases e)
noncomputable def fLen:List D→M D:=fun xs S=>match xs with
 | [.str x]=>if x.length≤lim then .ok (.int x.length) S else .bad
 | [.dct n]=>.bad
 | [x]=>match seqAt S x with
  | some ys=>.ok (.int ys.length) S
  | none=>.bad
 | _=>.bad
theorem RVs.one {K:W.Frag}{H:Hp}{μ:List Addr}{d:D}{vs:List V} (h:RVs K H μ [d] vs):∃ v,vs=[v]∧RV K H μ d v:=by
 obtain ⟨v,ws,rfl,r1,r2⟩:=h.cons_inv
 rw [r2.nil_inv]
 exact ⟨v,rfl,r1⟩
theorem RVs.two {K:W.Frag}{H:Hp}{μ:List Addr}{d e:D}{vs:List V} (h:RVs K H μ [d,e] vs):∃ v u,vs=[v,u]∧RV K H μ d v∧RV K H μ e u:=by
 obtain ⟨v,ws,rfl,r1,r2⟩:=h.cons_inv
 obtain ⟨u,rfl,r3⟩:=r2.one
 exact ⟨v,u,rfl,r1,r3⟩
noncomputable def fRepr:List D→M D:=fun xs S=>match xs with
 | [.int i]=>if i.natAbs<1000000000000000000 then .ok (.str (toString i)) S else .bad
 | [.tup ys]=>match snap 40 S (.tup ys) with
  | some p=>if p.showable=true∧p.hasDict=false∧p.shown.length≤sizeLine then .ok (.str p.shown) S else .bad
  | none=>.bad
 | [.lst k]=>match snap 40 S (.lst k) with
  | some p=>if p.showable=true∧p.hasDict=false∧p.shown.length≤sizeLine then .ok (.str p.shown) S else .bad
  | none=>.bad
 | _=>.bad
theorem cs_len:CallS X.K (cAny X (.builtin "len")) fLen:=by
 intro xs S d S' H μ vs Q e sr rx h
 unfold fLen at e
 split at e
 ·split at e
  ·rename_i hl; cases e
   obtain ⟨v,rfl,r⟩:=rx.one
   unfold RV at r; subst r
   exact ⟨_,call_len_str,_,rfl,lim_le hl,h.self sr zB1⟩
  ·cases e
 ·cases e
 ·split at e
  ·rename_i ys e1
   cases e
   obtain ⟨v,rfl,r⟩:=rx.one
   obtain ⟨a,vs,rfl,hq,rr⟩:=sr.seq r e1
   exact ⟨_,call_len_seq,a,vs,rfl,hq,by rw [← rr.len]; exact h.self sr zB1⟩
  ·cases e
 ·cases e
noncomputable def fMin:List D→M D:=fun xs S=>match xs with
 | [.int i,.int j]=>.ok (.int (if j<i then j else i)) S
 | _=>.bad
noncomputable def fMax:List D→M D:=fun xs S=>match xs with
 | [.int i,.int j]=>.ok (.int (if j>i then j else i)) S
 | _=>.bad
theorem cs_min (hc:X.calm=true):CallS X.K (cAny X (.builtin "min")) fMin:=by
 intro xs S d S' H μ vs Q e sr rx h
 unfold fMin at e
 split at e
 ·cases e
  obtain ⟨v,u,rfl,r1,r2⟩:=rx.two
  unfold RV at r1 r2; subst r1 r2
  exact ⟨_,call_min2 hc,_,_,rfl,h.self sr zB1⟩
 ·cases e
theorem cs_max (hc:X.calm=true):CallS X.K (cAny X (.builtin "max")) fMax:=by
 intro xs S d S' H μ vs Q e sr rx h
 unfold fMax at e
 split at e
 ·cases e
  obtain ⟨v,u,rfl,r1,r2⟩:=rx.two
  unfold RV at r1 r2; subst r1 r2
  exact ⟨_,call_max2 hc,_,_,rfl,h.self sr zB1⟩
 ·cases e
noncomputable def fList:List D→M D:=fun xs S=>match xs with
 | [x]=>match seqAt S x with
  | some ys=>.ok (.lst S.length) (S++[.lst ys])
  | none=>.bad
 | _=>.bad
theorem cs_list:CallS X.K (cAny X (.type "list")) fList:=by
 intro xs S d S' H μ vs Q e sr rx h
 unfold fList at e
 split at e
 ·split at e
  ·rename_i ys e1
   cases e
   obtain ⟨v,rfl,r⟩:=rx.one
   obtain ⟨a,vs,rfl,hq,rr⟩:=sr.seq r e1
   exact ⟨_,call_list_of,a,vs,rfl,hq,fun l hl=>h.newL sr hl rr⟩
  ·cases e
 ·cases e
noncomputable def zAe:List D→M D:=fun xs S=>match xs with
 | [.tup ys]=>.ok (.tup ys) S
 | [.lst n]=>match zA5 S n with
  | some ys=>.ok (.tup ys) S
  | none=>.bad
 | _=>.bad
theorem cs_tuple:CallS X.K (cAny X (.type "tuple")) zAe:=by
 intro xs S d S' H μ vs Q e sr rx h
 unfold zAe at e
 split at e
 ·cases e
  obtain ⟨v,rfl,r⟩:=rx.one
  have r':=r
  unfold RV at r'; obtain ⟨p,ws,rfl,q,rr⟩:=r'
  exact ⟨_,call_tuple_of,p,ws,rfl,.inr ⟨SqT.of q,h.self sr r⟩⟩
 ·split at e
  ·rename_i ys e1
   cases e
   obtain ⟨v,rfl,r⟩:=rx.one
   unfold RV at r; obtain ⟨a,rfl,hm⟩:=r
   obtain ⟨ws,q,rr⟩:=sr.sq hm e1
   exact ⟨_,call_tuple_of,a,ws,rfl,.inl ⟨q,fun l hl=>h.newT sr hl rr⟩⟩
  ·cases e
 ·cases e
noncomputable def fInt:List D→M D:=fun xs S=>match xs with
 | [.int i]=>.ok (.int i) S
 | [.bl b]=>.ok (.int (if b then 1 else 0)) S
 | _=>.bad
theorem cs_int:CallS X.K (cAny X (.type "int")) fInt:=by
 intro xs S d S' H μ vs Q e sr rx h
 unfold fInt at e
 split at e
 ·cases e
  obtain ⟨v,rfl,r⟩:=rx.one
  unfold RV at r; subst r
  exact ⟨_,call_int1,.inl ⟨_,rfl,h.self sr zB1⟩⟩
 ·cases e
  obtain ⟨v,rfl,r⟩:=rx.one
  unfold RV at r; subst r
  exact ⟨_,call_int1,.inr ⟨_,rfl,h.self sr zB1⟩⟩
 ·cases e
noncomputable def dictK (S:zA1) (n:Nat):Option String:=match S[n]? with
 | some (.dk _)=>some "dict"
 | _=>none
noncomputable def kindD (S:zA1):D→Option String
 | .non=>some "NoneType"
 | .bl _=>some "bool"
 | .int _=>some "int"
 | .str _=>some "str"
 | .tup _=>some "tuple"
 | .lst n=>if (zA5 S n).isSome then some "list" else none
 | .dct n=>dictK S n
 | _=>none
noncomputable def zAp:List D→M D:=fun xs S=>match xs with
 | [x,.ty T]=>match kindD S x with
  | some t=>if T∈["bool","int","tuple","list","str","dict"] then .ok (.bl (kOf t T)) S else .bad
  | none=>.bad
 | _=>.bad
theorem kind_ok {K:W.Frag}{H:Hp}{μ:List Addr}{S:zA1}{x:D}{v:V}{t:String} (sr:SR K μ S H) (e:kindD S x=some t) (r:RV K H μ x v):Ty2 K H v t∧t∈["NoneType","bool","int","str","tuple","list","dict"]:=by
 cases x with
 | non=>cases e; unfold RV at r; subst r; exact ⟨.non,by decide⟩
 | bl b=>cases e; unfold RV at r; subst r; exact ⟨.bl b,by decide⟩
 | int i=>cases e; unfold RV at r; subst r; exact ⟨.int i,by decide⟩
 | str i=>cases e; unfold RV at r; subst r; exact ⟨.str i,by decide⟩
 | tup xs=>cases e; unfold RV at r; obtain ⟨p,vs,rfl,q,_⟩:=r; exact ⟨.tup (SqT.of q),by decide⟩
 | lst n =>
  have e:(if (zA5 S n).isSome then some "list" else none)=some t:=e
  split at e
  ·rename_i hs
   cases e
   obtain ⟨xs,hx⟩:=Option.isSome_iff_exists.mp hs
   unfold RV at r; obtain ⟨a,rfl,hm⟩:=r
   obtain ⟨vs,q,_⟩:=sr.sq hm hx
   exact ⟨.lst q,by decide⟩
  ·cases e
 | dct n =>
  have e:dictK S n=some t:=e
  unfold dictK at e
  split at e
  ·rename_i kvs ho
   cases e
   unfold RV at r; obtain ⟨a,rfl,hm⟩:=r
   obtain ⟨ws,hw,_⟩:=sr.get hm ho
   exact ⟨.dk hw,by decide⟩
  ·cases e
 | ty n=>cases e
 | rol n=>cases e
theorem cs_inst:CallS X.K (cAny X (.builtin "isinstance")) zAp:=by
 intro xs S d S' H μ vs Q e sr rx h
 unfold zAp at e
 split at e
 ·rename_i x T
  split at e
  ·rename_i t e1
   split at e
   ·rename_i hT
    cases e
    obtain ⟨v,u,rfl,r1,r2⟩:=rx.two
    unfold RV at r2; subst r2
    obtain ⟨k1,k2⟩:=kind_ok sr e1 r1
    exact ⟨_,call_isinst2,v,t,T,_,rfl,k1,kit_all2 X.K t k2 T hT,h.self sr rv_bl⟩
   ·cases e
  ·cases e
 ·cases e
noncomputable def boolsOf:List D→Option (List Bool)
 | []=>some []
 | .bl b::r=>(boolsOf r).map (b::·)
 | _::_=>none
theorem boolsOf_vs {K:W.Frag}{H:Hp}{μ:List Addr}:∀ {ds:List D}{ns:List Bool}{vs:List V},boolsOf ds=some ns→RVs K H μ ds vs→vs=ns.map V.bl
 | [],ns,vs,e,r=>by cases e; rw [r.nil_inv]; rfl
 | .bl i::ds,ns,vs,e,r=>by
  obtain ⟨v,ws,rfl,r1,r2⟩:=r.cons_inv
  unfold boolsOf at e
  cases q:boolsOf ds with
  | none=>rw [q] at e; cases e
  | some ms =>
   rw [q] at e; cases e
   unfold RV at r1; subst r1
   rw [boolsOf_vs q r2]; rfl
 | .non::ds,ns,vs,e,r=>by cases e
 | .int _::ds,ns,vs,e,r=>by cases e
 | .str _::ds,ns,vs,e,r=>by cases e
 | .ty _::ds,ns,vs,e,r=>by cases e
 | .tup _::ds,ns,vs,e,r=>by cases e
 | .lst _::ds,ns,vs,e,r=>by cases e
 | .dct _::ds,ns,vs,e,r=>by cases e
 | .rol _::ds,ns,vs,e,r=>by cases e
noncomputable def fBools (g:List Bool→Bool):List D→M D:=fun xs S=>match xs with
 | [.tup ys]=>match intsOf ys with
  | some ns=>.ok (.bl (g (ns.map (· != 0)))) S
  | none=>.bad
 | [.lst n]=>match (zA5 S n).bind boolsOf with
  | some bs=>.ok (.bl (g bs)) S
  | none=>.bad
 | _=>.bad
theorem cs_bools {id:String}{g:List Bool→Bool} (hr:CallR X (.builtin id) (fun vs H Q=>∃ (p:Addr) (bs:List Bool),vs=[.ref p]∧SqL X.K H p (bs.map V.bl)∧Q (.bl (g bs)) H)) (hr2:CallR X (.builtin id) (fun vs H Q=>∃ (p:Addr) (ns:List Int),vs=[.ref p]∧SqT X.K H p (ns.map V.int)∧Q (.bl (g (ns.map (· != 0)))) H)):CallS X.K (cAny X (.builtin id)) (fBools g):=by
 intro xs S d S' H μ vs Q e sr rx h
 unfold fBools at e
 split at e
 ·split at e
  ·rename_i ns e1
   cases e
   obtain ⟨v,rfl,r⟩:=rx.one
   unfold RV at r; obtain ⟨a,ws,rfl,q,rr⟩:=r
   have z:=intsOf_vs e1 rr
   subst z
   exact ⟨_,hr2,a,ns,rfl,SqT.of q,h.self sr rv_bl⟩
  ·cases e
 ·split at e
  ·rename_i bs e1
   cases e
   obtain ⟨ys,e2,e3⟩:=Option.bind_eq_some_iff.mp e1
   obtain ⟨v,rfl,r⟩:=rx.one
   unfold RV at r; obtain ⟨a,rfl,hm⟩:=r
   obtain ⟨ws,q,rr⟩:=sr.sq hm e2
   have z:=boolsOf_vs e3 rr
   subst z
   exact ⟨_,hr,a,bs,rfl,q,h.self sr rv_bl⟩
  ·cases e
 ·cases e
theorem CallR.imp {f:Value}{r r':List V→Hp→VK→Prop} (h:CallR X f r) (w:∀ vs H Q,r' vs H Q→r vs H Q):CallR X f r':=fun pins s σ H xs us Q I rv q=>h pins s σ H xs us Q I rv (w _ _ _ q)
theorem cs_all (hc:X.calm=true):CallS X.K (cAny X (.builtin "all")) (fBools fun bs=>bs.all id):=cs_bools (call_allL hc) ((call_allT hc).imp fun vs H Q ⟨p,ns,h1,h2,h3⟩=>⟨p,ns,h1,h2,by rw [List.all_map] at h3; exact h3⟩)
theorem cs_any (hc:X.calm=true):CallS X.K (cAny X (.builtin "any")) (fBools fun bs=>bs.any id):=cs_bools (call_anyL hc) ((call_anyT hc).imp fun vs H Q ⟨p,ns,h1,h2,h3⟩=>⟨p,ns,h1,h2,by rw [List.any_map] at h3; exact h3⟩)
noncomputable def insI (a:Int):List Int→List Int
 | []=>[a]
 | b::r=>if a≤b then a::b::r else b::insI a r
noncomputable def isort:List Int→List Int
 | []=>[]
 | a::r=>insI a (isort r)
theorem insI_perm (a:Int):∀ l,(insI a l).Perm (a::l)
 | []=>.refl _
 | b::r=>by
  unfold insI
  split
  ·exact .refl _
  ·exact ((insI_perm a r).cons b).trans (.swap _ _ _)
theorem isort_perm:∀ l,(isort l).Perm l
 | []=>.refl _
 | a::r=>(insI_perm a _).trans ((isort_perm r).cons a)
theorem insI_sorted (a:Int):∀ l:List Int,l.Pairwise (·≤·)→(insI a l).Pairwise (·≤·)
 | [],_=>by simp [insI]
 | b::r,h=>by
  have h':=List.pairwise_cons.mp h
  unfold insI
  split
  ·rename_i hab
   refine List.pairwise_cons.mpr ⟨fun c hc=>?_,h⟩
   rcases List.mem_cons.mp hc with rfl | hc
   ·exact hab
   ·exact Int.le_trans hab (h'.1 c hc)
  ·rename_i hab
   refine List.pairwise_cons.mpr ⟨fun c hc=>?_,insI_sorted a r h'.2⟩
   rcases List.mem_cons.mp ((insI_perm a r).mem_iff.mp hc) with rfl | hc
   ·omega
   ·exact h'.1 c hc
theorem isort_sorted:∀ l:List Int,(isort l).Pairwise (·≤·)
 | []=>.nil
 | a::r=>insI_sorted a _ (isort_sorted r)
theorem isort_of {l m:List Int} (h:m.Perm l) (s:m.Pairwise (·≤·)):m=isort l :=
 (h.trans (isort_perm l).symm).eq_of_pairwise (fun a b _ _ h1 h2=>Int.le_antisymm h1 h2) s (isort_sorted l)
noncomputable def fSorted:List D→M D:=fun xs S=>match xs with
 | [.lst n]=>match (zA5 S n).bind intsOf with
  | some ns=>if ns.length<64 then .ok (.lst S.length) (S++[.lst ((isort ns).map D.int)]) else .bad
  | none=>.bad
 | _=>.bad
theorem cs_sorted (hc:X.calm=true):CallS X.K (cAny X (.builtin "sorted")) fSorted:=by
 intro xs S d S' H μ vs Q e sr rx h
 unfold fSorted at e
 split at e
 ·split at e
  ·rename_i ns e1
   split at e
   ·rename_i hl
    cases e
    obtain ⟨ys,e2,e3⟩:=Option.bind_eq_some_iff.mp e1
    obtain ⟨v,rfl,r⟩:=rx.one
    unfold RV at r; obtain ⟨a,rfl,hm⟩:=r
    obtain ⟨ws,q,rr⟩:=sr.sq hm e2
    have z:=intsOf_vs e3 rr
    subst z
    refine ⟨_,call_sortedL,a,ns,rfl,q,hl,fun l ms hl hp hs=>?_⟩
    rw [isort_of hp hs]
    exact h.newL sr hl RVs.ints
   ·cases e
  ·cases e
 ·cases e
noncomputable def fSum:List D→M D:=fun xs S=>match xs with
 | [.lst n]=>match (zA5 S n).bind intsOf with
  | some ns=>if (ns.all fun i=>decide (0≤i)&&decide (i≤1000000))=true∧ns.length≤1000000 then .ok (.int ns.sum) S else .bad
  | none=>.bad
 | _=>.bad
theorem cs_sum (hc:X.calm=true):CallS X.K (cAny X (.builtin "sum")) fSum:=by
 intro xs S d S' H μ vs Q e sr rx h
 unfold fSum at e
 split at e
 ·split at e
  ·rename_i ns e1
   split at e
   ·rename_i hl
    cases e
    obtain ⟨ys,e2,e3⟩:=Option.bind_eq_some_iff.mp e1
    obtain ⟨v,rfl,r⟩:=rx.one
    unfold RV at r; obtain ⟨a,rfl,hm⟩:=r
    obtain ⟨ws,q,rr⟩:=sr.sq hm e2
    have z:=intsOf_vs e3 rr
    subst z
    refine ⟨_,call_sumL hc,a,ns,rfl,q,fun n hn=>?_,hl.2,h.self sr zB1⟩
    have:=List.all_eq_true.mp hl.1 n hn
    simpa using this
   ·cases e
  ·cases e
 ·cases e
def MtS (K:W.Frag) (T:String) (r:V→List V→Hp→VK→Prop) (o:D→List D→M D):Prop:=∀ x xs S d S' H μ v vs Q,o x xs S=.ok d S'→SR K μ S H→RV K H μ x v→RVs K H μ xs vs→Yld K μ H d S' Q→r v vs H Q
noncomputable def tyOk (T:String) (x:D) (S:zA1):Bool:=match x with
 | .lst n=>decide (T = "list")&&(zA5 S n).isSome
 | .dct n=>decide (T = "dict")&&(match S[n]? with | some (.dk _)=>true | some (.dt _)=>true | _=>false)
 | .int _=>decide (T = "int")
 | .str _=>decide (T = "str")
 | _=>false
theorem tyOk_v {K:W.Frag}{H:Hp}{μ:List Addr}{S:zA1}{T:String}{x:D}{v:V} (sr:SR K μ S H) (h:tyOk T x S=true) (r:RV K H μ x v):tyV K T v H:=by
 unfold tyOk at h
 split at h
 ·simp only [Bool.and_eq_true,decide_eq_true_eq] at h
  obtain ⟨h1,h2⟩:=h
  obtain ⟨xs,hx⟩:=Option.isSome_iff_exists.mp h2
  unfold RV at r; obtain ⟨a,rfl,hm⟩:=r
  obtain ⟨vs,q,_⟩:=sr.sq hm hx
  exact .inl ⟨h1,vs,q⟩
 ·simp only [Bool.and_eq_true,decide_eq_true_eq] at h
  obtain ⟨h1,h2⟩:=h
  unfold RV at r; obtain ⟨a,rfl,hm⟩:=r
  split at h2
  ·rename_i kvs ho
   obtain ⟨ws,q,_⟩:=sr.get hm ho
   exact .inr (.inr (.inl ⟨h1,.inl ⟨ws,q⟩⟩))
  ·rename_i kvs ho
   obtain ⟨ws,q,_⟩:=sr.get hm ho
   exact .inr (.inr (.inl ⟨h1,.inr ⟨ws,q⟩⟩))
  ·cases h2
 ·unfold RV at r; subst r
  exact (of_decide_eq_true h:T = "int")
 ·unfold RV at r; subst r
  exact (of_decide_eq_true h:T = "str")
 ·cases h
noncomputable def cMeth (T:String) (o:D→List D→M D) (a:C) (as:CA):C:=fun ρ=>bnd (a ρ) fun x S=>if tyOk T x S then bnd (as ρ) (fun xs=>o x xs) S else .bad
variable {o e:Expr}{es:List Expr}{co:C}{ca:CA}{name:Str}{apos cpos:Pos}{T id:String}{m:D→List D→M D}
theorem se_meth (pa:PlainAttrs T) (slot:Slot T name id) (hty:typeOf (.builtin id)=pure (.type "method_descriptor")) (hm:MtS X.K T (mtAnyR X id) m) (ho:PE X o (tOf X.K co)) (ha:PA X (e::es) (tOfA X.K ca))
  (hbase:attributeBase o name X.env (eval o X.env)=eval o X.env)
  (hfew:((backTo cpos (starEach (e::es) X.env)).all (fun x=>!x.1)&&(backToKw cpos (keywordEach [] X.env)).all (fun x=>x.1.isSome)
   && decide ((e::es).length+([]:List Keyword).length+(if ([]:List Keyword).isEmpty then 0 else 1)<30))=true)
  (hline:(apos.endLine == cpos.line)=true) (hs:starEach (e::es) X.env=(false,eval e X.env)::starEach es X.env) (hplain:(backTo cpos (starEach es X.env)).any (·.1)=false) :
  PE X (.Call (.Attribute o name apos) (e::es) [] cpos) (tOf X.K (cMeth T m co ca)):=(pe_bm pa slot hty mtAny ho ha hbase hfew hline hs hplain).weak (by
 rintro σ H Q ⟨μ,ρ,S,d,S',sr,re,e,y⟩
 obtain ⟨x,S1,e1,e⟩:=zA8 e
 split at e
 ·rename_i hk
  obtain ⟨xs,S2,e2,e⟩:=zA8 e
  refine ⟨μ,ρ,S,x,S1,sr,re,e1,fun v H1 μ1 sr1 st1 r1=>⟨tyOk_v sr1 hk r1,μ1,ρ,S1,xs,S2,sr1,re.up st1,e2,fun vs H2 μ2 sr2 st2 r2=>?_⟩⟩
  exact hm x xs S2 d S' H2 μ2 v vs Q e sr2 (RV.up st2.tk st2.ext _ _ r1) r2 (y.shift (st1.trans st2 sr2.nd))
 ·cases e)
noncomputable def cMeth0 (T:String) (o:D→List D→M D) (a:C):C:=fun ρ=>bnd (a ρ) fun x S=>if tyOk T x S then o x [] S else .bad
theorem se_meth0 (pa:PlainAttrs T) (slot:Slot T name id) (hty:typeOf (.builtin id)=pure (.type "method_descriptor")) (hm:MtS X.K T (mtAnyR X id) m) (ho:PE X o (tOf X.K co))
  (hbase:attributeBase o name X.env (eval o X.env)=eval o X.env) (hline:(apos.endLine == cpos.line)=true):PE X (.Call (.Attribute o name apos) [] [] cpos) (tOf X.K (cMeth0 T m co)):=(pe_bm0 pa slot hty mtAny ho hbase hline).weak (by
 rintro σ H Q ⟨μ,ρ,S,d,S',sr,re,e,y⟩
 obtain ⟨x,S1,e1,e⟩:=zA8 e
 split at e
 ·rename_i hk
  exact ⟨μ,ρ,S,x,S1,sr,re,e1,fun v H1 μ1 sr1 st1 r1=>⟨tyOk_v sr1 hk r1,hm x [] S1 d S' H1 μ1 v [] Q e sr1 r1 RVs.nil (y.shift st1)⟩⟩
 ·cases e)
noncomputable def mList (g:List D→List D→Option (List D × D)):D→List D→M D:=fun x xs S=>match x with
 | .lst n=>match S[n]? with
  | some (.lst ys)=>match g ys xs with
   | some (zs,d)=>.ok d (S.set n (.lst zs))
   | none=>.bad
  | _=>.bad
 | _=>.bad
theorem SR.putL {K:W.Frag}{H:Hp}{μ:List Addr}{S:zA1}{n:Nat}{p:Addr}{vs ws:List V}{zs:List D} (sr:SR K μ S H) (hn:μ[n]?=some p) (hp:H p=some (.lst vs)) (r:RVs K H μ zs ws):SR K μ (S.set n (.lst zs)) (upd H p (.lst ws))∧Step K μ μ H (upd H p (.lst ws)) :=
 sr.put hn hp (fun _ z=>by cases z) (fun _ _ z=>by cases z) ⟨ws,zAy,RVs.up (tf_lst hp) ⟨[],by simp⟩ _ _ r⟩
theorem ms_list {g:List D→List D→Option (List D × D)}
  (h:∀ (K:W.Frag) H μ ys xs zs d vs us,g ys xs=some (zs,d)→RVs K H μ ys vs→RVs K H μ xs us→∃ ws w,RVs K H μ zs ws∧RV K H μ d w∧∀ (p:Addr) (Q:VK),H p=some (.lst vs)→Q w (upd H p (.lst ws))→mtAnyR X id (.ref p) us H Q):MtS X.K "list" (mtAnyR X id) (mList g):=by
 intro x xs S d S' H μ v us Q e sr rx rs y
 unfold mList at e
 split at e
 ·rename_i n
  split at e
  ·rename_i ys ho
   split at e
   ·rename_i zs d' hg
    cases e
    unfold RV at rx; obtain ⟨p,rfl,hm⟩:=rx
    obtain ⟨vs,hp,rr⟩:=sr.lst hm ho
    obtain ⟨ws,w,r1,r2,fin⟩:=h X.K H μ ys xs zs d vs us hg rr rs
    obtain ⟨s1,s2⟩:=sr.putL hm hp r1
    exact fin p Q hp (y w _ μ s1 s2 (RV.up s2.tk s2.ext _ _ r2))
   ·cases e
  ·cases e
 ·cases e
noncomputable def gAppend:List D→List D→Option (List D × D):=fun ys xs=>match xs with
 | [x]=>if ys.length<lim then some (ys++[x],.non) else none
 | _=>none
theorem ms_append:MtS X.K "list" (mtAnyR X "list.append") (mList gAppend):=ms_list fun K H μ ys xs zs d vs us e r1 r2=>by
 unfold gAppend at e
 split at e
 ·split at e
  ·rename_i hl; cases e
   obtain ⟨v,rfl,r3⟩:=r2.one
   exact ⟨vs++[v],.non,r1.append (.cons r3 .nil),rv_non,fun p Q hp q=>⟨_,mt_append,p,vs,v,rfl,rfl,hp,by rw [← r1.len]; exact lim_lt hl,q⟩⟩
  ·cases e
 ·cases e
noncomputable def gInsert:List D→List D→Option (List D × D):=fun ys xs=>match xs with
 | [.int i,x]=>if ys.length<1000∧0≤i∧i.toNat≤ys.length then some (ys.take i.toNat++x::ys.drop i.toNat,.non) else none
 | _=>none
theorem ms_insert:MtS X.K "list" (mtAnyR X "list.insert") (mList gInsert):=ms_list fun K H μ ys xs zs d vs us e r1 r2=>by
 unfold gInsert at e
 split at e
 ·rename_i i x
  split at e
  ·rename_i hl; cases e
   obtain ⟨h1,h2,h3⟩:=hl
   obtain ⟨v,u,rfl,r3,r4⟩:=r2.two
   unfold RV at r3; subst r3
   have ei:i=((i.toNat:Nat):Int):=by omega
   exact ⟨vs.take i.toNat++u::vs.drop i.toNat,.non,(r1.take _).append (.cons r4 (r1.drop _)),rv_non,fun p Q hp q=>⟨_,mt_insert,p,vs,i.toNat,u,rfl,by rw [← ei],hp,by rw [← r1.len]; exact h1,by rw [← r1.len]; exact h3,q⟩⟩
  ·cases e
 ·cases e
noncomputable def gPop:List D→List D→Option (List D × D):=fun ys xs=>match xs with
 | []=>match ys[ys.length - 1]? with
  | some y=>some (ys.dropLast,y)
  | none=>none
 | _=>none
theorem RVs.dropLast {K:W.Frag}{H:Hp}{μ:List Addr}{ds:List D}{vs:List V} (r:RVs K H μ ds vs):RVs K H μ ds.dropLast vs.dropLast:=by
 rw [List.dropLast_eq_take,List.dropLast_eq_take,r.len]
 exact r.take _
theorem ms_pop:MtS X.K "list" (mtAnyR X "list.pop") (mList gPop):=ms_list fun K H μ ys xs zs d vs us e r1 r2=>by
 unfold gPop at e
 split at e
 ·split at e
  ·rename_i y hy; cases e
   have:=r2.nil_inv
   subst this
   obtain ⟨v,e1,r3⟩:=r1.get hy
   exact ⟨vs.dropLast,v,r1.dropLast,r3,fun p Q hp q=>⟨_,mt_pop,p,vs,v,rfl,rfl,hp,by rw [← r1.len]; exact e1,q⟩⟩
  ·cases e
 ·cases e
noncomputable def mExtend:D→List D→M D:=fun x xs S=>match x,xs with
 | .lst n,[.lst k]=>match S[n]?,S[k]? with
  | some (.lst ys),some (.lst zs)=>if ys.length+zs.length≤lim then .ok .non (S.set n (.lst (ys++zs))) else .bad
  | _,_=>.bad
 | .lst n,[.tup zs]=>match S[n]? with
  | some (.lst ys)=>if ys.length+zs.length≤lim then .ok .non (S.set n (.lst (ys++zs))) else .bad
  | _=>.bad
 | _,_=>.bad
theorem ms_extend:MtS X.K "list" (mtAnyR X "list.extend") mExtend:=by
 intro x xs S d S' H μ v us Q e sr rx rs y
 unfold mExtend at e
 split at e
 ·split at e
  ·rename_i ys zs o1 o2
   split at e
   ·rename_i hl
    cases e
    unfold RV at rx; obtain ⟨p,rfl,m1⟩:=rx
    obtain ⟨u,rfl,r2⟩:=rs.one
    unfold RV at r2; obtain ⟨p2,rfl,m2⟩:=r2
    obtain ⟨vs,h1,r1⟩:=sr.lst m1 o1
    obtain ⟨ws,h2,r3⟩:=sr.lst m2 o2
    obtain ⟨s1,s2⟩:=sr.putL m1 h1 (r1.append r3)
    exact ⟨_,mt_extend,p,p2,vs,ws,rfl,rfl,h1,h2,by rw [← r1.len,← r3.len]; exact lim_le hl,y _ _ μ s1 s2 rv_non⟩
   ·cases e
  ·cases e
 ·split at e
  ·rename_i ys o1
   split at e
   ·rename_i hl
    cases e
    unfold RV at rx; obtain ⟨p,rfl,m1⟩:=rx
    obtain ⟨u,rfl,r2⟩:=rs.one
    unfold RV at r2; obtain ⟨p2,ws,rfl,h2,r3⟩:=r2
    obtain ⟨vs,h1,r1⟩:=sr.lst m1 o1
    obtain ⟨s1,s2⟩:=sr.putL m1 h1 (r1.append r3)
    exact ⟨_,mt_extT,p,p2,vs,ws,rfl,rfl,h1,SqT.of h2,by rw [← r1.len,← r3.len]; exact lim_le hl,y _ _ μ s1 s2 rv_non⟩
   ·cases e
  ·cases e
 ·cases e
noncomputable def oSet:D→D→D→zA1→Option zA1:=fun x i v S=>match x with
 | .lst n=>match S[n]?,i with
  | some (.lst ys),.int k=>match ixN ys.length k with
   | some j=>some (S.set n (.lst (ys.set j v)))
   | none=>none
  | _,_=>none
 | .dct n=>match S[n]?,keyOf i with
  | some (.dk kvs),some k=>if kvs.length<lim then some (S.set n (.dk (putD kvs k v))) else none
  | _,_=>none
 | _=>none
theorem set_dict (hu:X.A.units+1<cLine):PSet X (fun o i v H Q=>∃ a H4,o=.ref a∧DPut H a i v H4∧Q H4):=by
 intro pins s σ H o i v ov iv u Q I ro ri rv h
 obtain ⟨a,H4,rfl,g,q⟩:=h
 obtain rfl:ov=Value.ref a:=ro
 exact d_setItem hu I g ri rv fun s4 I4=>⟨H4,I4,q⟩
theorem ps_sets (hu:X.A.units+1<cLine) {x i v:D}{S S':zA1}{H:Hp}{μ:List Addr}{ov iv vv:V}{Q:Hp→Prop} (e:oSet x i v S=some S') (sr:SR X.K μ S H) (rx:RV X.K H μ x ov) (ri:RV X.K H μ i iv) (rv:RV X.K H μ v vv) (y:∀ H' ,SR X.K μ S' H'→Step X.K μ μ H H'→Q H'):setAnyR X ov iv vv H Q:=by
 unfold oSet at e
 split at e
 ·split at e
  ·rename_i ys k ho
   split at e
   ·rename_i j hj
    cases e
    unfold RV at rx ri; obtain ⟨p,rfl,hm⟩:=rx; subst ri
    obtain ⟨vs,hp,rr⟩:=sr.lst hm ho
    obtain ⟨s1,s2⟩:=sr.putL hm hp (rr.set rv j)
    exact ⟨_,set_list,p,vs,k,j,rfl,rfl,hp,by rw [← rr.len]; exact hj,y _ s1 s2⟩
   ·cases e
  ·cases e
 ·split at e
  ·rename_i kvs k ho hk
   split at e
   ·rename_i hl
    cases e
    unfold RV at rx; obtain ⟨p,rfl,hm⟩:=rx
    obtain ⟨ws,hp,rr⟩:=sr.get hm ho
    have z:=keyOf_v hk ri
    subst z
    have tk:TF X.K H (upd H p (.dK (putK ws k vv))):=tf_upd hp (fun _ z=>by cases z) (fun _ _ z=>by cases z)
    obtain ⟨s1,s2⟩:=sr.put (o:=.dK (putK ws k vv)) (o':=.dk (putD kvs k v)) hm hp (fun _ z=>by cases z) (fun _ _ z=>by cases z) ⟨_,zAy,(rr.put rv).up tk ⟨[],by simp⟩⟩
    exact ⟨_,set_dict hu,p,_,rfl,DPut.k hp (by rw [← rr.len]; exact lim_lt hl),y _ s1 s2⟩
   ·cases e
  ·cases e
 ·cases e
end
open PySem PySem.Spec PyProof.Rows
inductive RS where
 | bad | nx (ρ:Env1) (S:zA1) | rt (d:D) (S:zA1) | bk (ρ:Env1) (S:zA1) | ct (ρ:Env1) (S:zA1) | er (c:Str) (S:zA1)
noncomputable abbrev CS:=Env1→zA1→RS
noncomputable def PostS (X:Cx) (μ:List Addr) (H:Hp) (E:Ends):RS→Prop
 | .bad=>False
 | .er _ _=>False
 | .nx ρ' S'=>∀ σ' H' μ',SR X.K μ' S' H'→Step X.K μ μ' H H'→RE X.K H' μ' ρ' σ'→E.nx σ' H'
 | .bk ρ' S'=>∀ σ' H' μ',SR X.K μ' S' H'→Step X.K μ μ' H H'→RE X.K H' μ' ρ' σ'→E.bk σ' H'
 | .ct ρ' S'=>∀ σ' H' μ',SR X.K μ' S' H'→Step X.K μ μ' H H'→RE X.K H' μ' ρ' σ'→E.ct σ' H'
 | .rt d S'=>Yld X.K μ H d S' E.rt
inductive tOfS (X:Cx) (c:CS) (E:Ends) (σ:St) (H:Hp):Prop
 | mk (μ:List Addr) (ρ:Env1) (S:zA1) (sr:SR X.K μ S H) (re:RE X.K H μ ρ σ) (y:PostS X μ H E (c ρ S))
theorem PostS.shift {X:Cx}{μ μ1:List Addr}{H H1:Hp}{E:Ends}{r:RS} (h:PostS X μ H E r) (st:Step X.K μ μ1 H H1):PostS X μ1 H1 E r:=by
 cases r with
 | bad=>exact h
 | er _ _=>exact h
 | nx ρ S=>exact fun σ' H' μ' sr s2 re=>h σ' H' μ' sr (st.trans s2 sr.nd) re
 | bk ρ S=>exact fun σ' H' μ' sr s2 re=>h σ' H' μ' sr (st.trans s2 sr.nd) re
 | ct ρ S=>exact fun σ' H' μ' sr s2 re=>h σ' H' μ' sr (st.trans s2 sr.nd) re
 | rt d S=>exact Yld.shift h st
noncomputable def zA2:CS:=fun ρ S=>.nx ρ S
noncomputable def sBrk:CS:=fun ρ S=>.bk ρ S
noncomputable def sCnt:CS:=fun ρ S=>.ct ρ S
noncomputable def sBad:CS:=fun _ _=>.bad
noncomputable def sRetN:CS:=fun _ S=>.rt .non S
noncomputable def sRet (c:C):CS:=fun ρ S=>match c ρ S with
 | .ok d S'=>.rt d S'
 | .bad=>.bad
 | .er _ _=>.bad
noncomputable def sExpr (c:C):CS:=fun ρ S=>match c ρ S with
 | .ok _ S'=>.nx ρ S'
 | .bad=>.bad
 | .er _ _=>.bad
noncomputable def sSeq (a b:CS):CS:=fun ρ S=>match a ρ S with
 | .nx ρ' S'=>b ρ' S'
 | r=>r
noncomputable def sIf (t:CT) (a b:CS):CS:=fun ρ S=>match t ρ S with
 | .ok k S'=>if k then a ρ S' else b ρ S'
 | .bad=>.bad
 | .er _ _=>.bad
noncomputable abbrev G:=D→Env1→M Env1
noncomputable def sAsg (c:C) (g:G):CS:=fun ρ S=>match c ρ S with
 | .ok d S'=>match g d ρ S' with
  | .ok ρ' S2=>.nx ρ' S2
  | .bad=>.bad
  | .er _ _=>.bad
 | .bad=>.bad
 | .er _ _=>.bad
section
variable {X:Cx}{e a b tg:Expr}{ce ca cb:C}{pos:Pos}
theorem ss_pass:PS X (.Pass pos) (tOfS X zA2):=ps_pass.weak fun E σ H ⟨μ,ρ,S,sr,re,p⟩=>p σ H μ sr (Step.refl _ _ _) re
theorem ss_brk:PS X (.Break pos) (tOfS X sBrk):=ps_break.weak fun E σ H ⟨μ,ρ,S,sr,re,p⟩=>p σ H μ sr (Step.refl _ _ _) re
theorem ss_cnt:PS X (.Continue pos) (tOfS X sCnt):=ps_continue.weak fun E σ H ⟨μ,ρ,S,sr,re,p⟩=>p σ H μ sr (Step.refl _ _ _) re
theorem ss_bad {st:Stmt}:PS X st (tOfS X sBad):=ps_never.weak fun E σ H ⟨μ,ρ,S,sr,re,p⟩=>p
theorem ss_retN:PS X (.Return none pos) (tOfS X sRetN):=ps_retN.weak fun E σ H ⟨μ,ρ,S,sr,re,p⟩=>p _ H μ sr (Step.refl _ _ _) rv_non
theorem ss_ret (he:PE X e (tOf X.K ce)):PS X (.Return (some e) pos) (tOfS X (sRet ce)):=(ps_ret he).weak (by
 rintro E σ H ⟨μ,ρ,S,sr,re,p⟩
 unfold sRet at p
 split at p
 ·rename_i d S' h
  exact ⟨μ,ρ,S,d,S',sr,re,h,p⟩
 ·exact False.elim p
 ·exact False.elim p)
theorem ss_expr (he:PE X e (tOf X.K ce)) (hs:swapsWith e none pos.line X.env=pure false):PS X (.Expr e pos) (tOfS X (sExpr ce)):=(ps_expr he hs).weak (by
 rintro E σ H ⟨μ,ρ,S,sr,re,p⟩
 unfold sExpr at p
 split at p
 ·rename_i d S' h
  exact ⟨μ,ρ,S,d,S',sr,re,h,fun v H1 μ1 sr1 st1 r1=>p σ H1 μ1 sr1 st1 (re.up st1)⟩
 ·exact False.elim p
 ·exact False.elim p)
theorem sss_nil:PSs X [] (tOfS X zA2):=pss_nil.weak fun E σ H ⟨μ,ρ,S,sr,re,p⟩=>p σ H μ sr (Step.refl _ _ _) re
theorem sss_cons {st:Stmt}{rest:List Stmt}{c1 c2:CS} (h1:PS X st (tOfS X c1)) (h2:PSs X rest (tOfS X c2)):PSs X (st::rest) (tOfS X (sSeq c1 c2)):=(pss_cons h1 h2).weak (by
 rintro E σ H ⟨μ,ρ,S,sr,re,p⟩
 refine ⟨μ,ρ,S,sr,re,?_⟩
 unfold sSeq at p
 revert p
 cases c1 ρ S with
 | nx ρ' S'=>exact fun p σ' H' μ' sr' st' re'=>⟨μ',ρ',S',sr',re',p.shift st'⟩
 | bad=>exact fun p=>p
 | er _ _=>exact fun p=>p
 | rt _ _=>exact fun p=>p
 | bk _ _=>exact fun p=>p
 | ct _ _=>exact fun p=>p)
theorem ss_if {t:Expr}{ct:CT}{as bs:List Stmt}{c1 c2:CS} (ht:PT X t (tOfT X.K ct)) (h1:PSs X as (tOfS X c1)) (h2:PSs X bs (tOfS X c2)):PS X (.If t as bs pos) (tOfS X (sIf ct c1 c2)):=(ps_if ht h1 h2).weak (by
 rintro E σ H ⟨μ,ρ,S,sr,re,p⟩
 unfold sIf at p
 split at p
 ·rename_i k S' h
  refine ⟨μ,ρ,S,k,S',sr,re,h,fun H1 μ1 sr1 st1=>?_⟩
  cases k with
  | true=>rw [if_pos rfl] at p ⊢; exact ⟨μ1,ρ,S',sr1,re.up st1,p.shift st1⟩
  | false=>rw [if_neg Bool.false_ne_true] at p ⊢; exact ⟨μ1,ρ,S',sr1,re.up st1,p.shift st1⟩
 ·exact False.elim p
 ·exact False.elim p)
inductive tOfG (K:W.Frag) (g:G) (v:V) (σ:St) (H:Hp) (Q:St→Hp→Prop):Prop
 | mk (μ:List Addr) (ρ:Env1) (S:zA1) (d:D) (ρ':Env1) (S':zA1) (sr:SR K μ S H) (re:RE K H μ ρ σ) (rv:RV K H μ d v) (e:g d ρ S=.ok ρ' S') (y:∀ σ' H' μ',SR K μ' S' H'→Step K μ μ' H H'→RE K H' μ' ρ' σ'→Q σ' H')
theorem PG.weak {t t':TG} (h:PG X tg t) (w:∀ v σ H Q,t' v σ H Q→t v σ H Q):PG X tg t':=fun pins s σ H v u Q I r q=>h pins s σ H v u Q I r (w v σ H Q q)
noncomputable def gN (i:Nat):G:=fun d ρ S=>.ok (ρ.set i (some d)) S
theorem sg_name {i:Nat}{x:Str} (h:PG X (.Name x pos) (gName i)):PG X (.Name x pos) (tOfG X.K (gN i)):=h.weak (by
 rintro v σ H Q ⟨μ,ρ,S,d,ρ',S',sr,re,rv,e,y⟩
 unfold gN at e; cases e
 exact y _ H μ sr (Step.refl _ _ _) (re.set rv i))
noncomputable def gS (co ci:C):G:=fun d ρ=>bnd (co ρ) fun o=>bnd (ci ρ) fun i S=>match oSet o i d S with
 | some S'=>.ok ρ S'
 | none=>.bad
theorem sg_sub (hu:X.A.units+1<cLine) (ho:PE X a (tOf X.K ca)) (hi:PE X b (tOf X.K cb)) (ha:∀ v,assign (.Subscript a b pos) X.env v=(do
   let ov ← holding [v] (eval a X.env)
   let iv ← holding [v,ov] (eval b X.env)
   standAt pos
   holding [v,ov,iv] (setItem ov iv v)
   release [v,ov,iv] [])):PG X (.Subscript a b pos) (tOfG X.K (gS ca cb)):=(pg_sub ho hi setAny ha).weak (by
 rintro v σ H Q ⟨μ,ρ,S,d,ρ',S',sr,re,rv,e,y⟩
 obtain ⟨x,S1,e1,e⟩:=zA8 e
 obtain ⟨z,S2,e2,e⟩:=zA8 e
 split at e
 ·rename_i S3 e3
  cases e
  refine ⟨μ,ρ,S,x,S1,sr,re,e1,fun ov H1 μ1 sr1 st1 r1=>⟨μ1,ρ,S1,z,S2,sr1,re.up st1,e2,fun iv H2 μ2 sr2 st2 r2=>?_⟩⟩
  have st12:=st1.trans st2 sr2.nd
  refine ps_sets hu e3 sr2 (RV.up st2.tk st2.ext _ _ r1) r2 (RV.up st12.tk st12.ext _ _ rv) fun H3 sr3 st3=>?_
  exact y σ H3 μ2 sr3 (st12.trans st3 sr3.nd) (re.up (st12.trans st3 sr3.nd))
 ·cases e)
noncomputable def gTs:List G→List D→Env1→M Env1
 | [],[]=>fun ρ=>ret ρ
 | g::gs,d::ds=>fun ρ=>bnd (g d ρ) fun ρ1=>gTs gs ds ρ1
 | _,_=>fun _=>bad
noncomputable def gT (gs:List G):G:=fun d ρ=>match d with
 | .tup xs=>gTs gs xs ρ
 | _=>bad
inductive tOfGs (K:W.Frag) (gs:List G) (vs:List V) (σ:St) (H:Hp) (Q:St→Hp→Prop):Prop
 | mk (μ:List Addr) (ρ:Env1) (S:zA1) (ds:List D) (ρ':Env1) (S':zA1) (sr:SR K μ S H) (re:RE K H μ ρ σ) (rv:RVs K H μ ds vs) (e:gTs gs ds ρ S=.ok ρ' S') (y:∀ σ' H' μ',SR K μ' S' H'→Step K μ μ' H H'→RE K H' μ' ρ' σ'→Q σ' H')
theorem PGs.weak {es:List Expr}{t t':TGs} (h:PGs X es t) (w:∀ v σ H Q,t' v σ H Q→t v σ H Q):PGs X es t':=fun pins s σ H v u Q I r q=>h pins s σ H v u Q I r (w v σ H Q q)
theorem sgs_nil:PGs X [] (tOfGs X.K []):=pgs_nil.weak (by
 rintro v σ H Q ⟨μ,ρ,S,ds,ρ',S',sr,re,rv,e,y⟩
 cases ds with
 | nil =>
  obtain ⟨rfl,rfl⟩:=zAi e
  exact ⟨rv.nil_inv,y σ H μ sr (Step.refl _ _ _) re⟩
 | cons d ds=>cases e)
theorem sgs_cons {es:List Expr}{g:G}{gs:List G} (h1:PG X e (tOfG X.K g)) (h2:PGs X es (tOfGs X.K gs)) (hs:(assignEach (e::es) X.env).map (·.2)=assign e X.env::(assignEach es X.env).map (·.2)):PGs X (e::es) (tOfGs X.K (g::gs)):=(pgs_cons h1 h2 hs).weak (by
 rintro v σ H Q ⟨μ,ρ,S,ds,ρ',S',sr,re,rv,e,y⟩
 cases ds with
 | nil=>cases e
 | cons d ds =>
  obtain ⟨ρ1,S1,e1,e⟩:=zA8 e
  obtain ⟨u,us,rfl,r1,r2⟩:=rv.cons_inv
  refine ⟨u,us,rfl,μ,ρ,S,d,ρ1,S1,sr,re,r1,e1,fun σ1 H1 μ1 sr1 st1 re1=>?_⟩
  exact ⟨μ1,ρ1,S1,ds,ρ',S',sr1,re1,RVs.up st1.tk st1.ext _ _ r2,e,fun σ2 H2 μ2 sr2 st2 re2=>y σ2 H2 μ2 sr2 (st1.trans st2 sr2.nd) re2⟩)
theorem gTs_len {gs:List G}:∀ {ds:List D}{ρ ρ':Env1}{S S':zA1},gTs gs ds ρ S=.ok ρ' S'→ds.length=gs.length:=by
 induction gs with
 | nil=>intro ds ρ ρ' S S' e; cases ds with | nil=>rfl | cons _ _=>cases e
 | cons g gs ih =>
  intro ds ρ ρ' S S' e
  cases ds with
  | nil=>cases e
  | cons d ds =>
   obtain ⟨ρ1,S1,e1,e⟩:=zA8 e
   rw [List.length_cons,List.length_cons,ih e]
theorem sg_tup {es:List Expr}{k:Nat}{gs:List G} (hc:X.calm=true) (h:PGs X es (tOfGs X.K gs)) (hn:(assignEach es X.env).length=gs.length) (hst:(assignEach es X.env).findIdx? (·.1)=none):PG X (.Tuple es k pos) (tOfG X.K (gT gs)) :=
 (pg_tup hc h hn hst).weak (by
 rintro v σ H Q ⟨μ,ρ,S,d,ρ',S',sr,re,rv,e,y⟩
 unfold gT at e
 split at e
 ·rename_i xs
  unfold RV at rv
  obtain ⟨p,vs,rfl,q,rr⟩:=rv
  exact ⟨p,vs,rfl,SqT.of q,by rw [← rr.len]; exact gTs_len e,μ,ρ,S,xs,ρ',S',sr,re,rr,e,y⟩
 ·cases e)
theorem ss_asg {g:G} (he:PE X e (tOf X.K ce)) (hg:PG X tg (tOfG X.K g)) (hs:swapsWithSole [tg] e pos.line X.env=pure false) (hw:swappedStores [tg] e X.env=pure none) (h1:(assignEach [tg] X.env).map (·.2)=[assign tg X.env]):PS X (.Assign [tg] e pos) (tOfS X (sAsg ce g)):=(ps_asg he hg hs hw h1).weak (by
 rintro E σ H ⟨μ,ρ,S,sr,re,p⟩
 unfold sAsg at p
 split at p
 ·rename_i d S' h
  split at p
  ·rename_i ρ' S2 h2
   refine ⟨μ,ρ,S,d,S',sr,re,h,fun v H1 μ1 sr1 st1 r1=>⟨μ1,ρ,S',d,ρ',S2,sr1,re.up st1,r1,h2,fun σ2 H2 μ2 sr2 st2 re2=>?_⟩⟩
   exact p σ2 H2 μ2 sr2 (st1.trans st2 sr2.nd) re2
  ·exact False.elim p
  ·exact False.elim p
 ·exact False.elim p
 ·exact False.elim p)
theorem ss_set {i:Nat}{x:Str}{pos':Pos} (h:PS X (.Assign [.Name x pos'] e pos) (tAsg (tOf X.K ce) (gName i))):PS X (.Assign [.Name x pos'] e pos) (tOfS X (sAsg ce (gN i))):=h.weak (by
 rintro E σ H ⟨μ,ρ,S,sr,re,p⟩
 unfold sAsg at p
 split at p
 ·rename_i d S' h
  have e2:gN i d ρ S'=.ok (ρ.set i (some d)) S':=rfl
  rw [e2] at p
  exact ⟨μ,ρ,S,d,S',sr,re,h,fun v H1 μ1 sr1 st1 r1=>p _ H1 μ1 sr1 st1 ((re.up st1).set r1 i)⟩
 ·exact False.elim p
 ·exact False.elim p)
noncomputable def whileS:Nat→CT→CS→CS
 | 0,_,_=>fun _ _=>.bad
 | k+1,t,b=>fun ρ S=>match t ρ S with
  | .ok true S1=>match b ρ S1 with
   | .nx ρ2 S2=>whileS k t b ρ2 S2
   | .ct ρ2 S2=>whileS k t b ρ2 S2
   | .bk ρ2 S2=>.nx ρ2 S2
   | r=>r
  | .ok false S1=>.nx ρ S1
  | .bad=>.bad
  | .er _ _=>.bad
theorem ss_while {t:Expr}{ct:CT}{body:List Stmt}{cb:CS} (k:Nat) (hp:PassesOwn (model X.prog X.w) X.A X.env X.xe) (ht:PT X t (tOfT X.K ct)) (hb:PSs X body (tOfS X cb)):PS X (.While t body [] pos) (tOfS X (whileS k ct cb)):=(ps_while hp ht hb).weak (by
 rintro E σ0 H0 ⟨μ0,ρ0,S0,sr0,re0,p0⟩
 refine ⟨fun m σ H=>∃ μ ρ S,SR X.K μ S H∧Step X.K μ0 μ H0 H∧RE X.K H μ ρ σ∧PostS X μ H E (whileS m ct cb ρ S),⟨k,μ0,ρ0,S0,sr0,Step.refl _ _ _,re0,p0⟩,?_⟩
 rintro m σ H ⟨μ,ρ,S,sr,st,re,p⟩
 cases m with
 | zero=>exact False.elim p
 | succ m =>
  unfold whileS at p
  split at p
  ·rename_i S1 h
   refine ⟨μ,ρ,S,true,S1,sr,re,h,fun H1 μ1 sr1 st1=>?_⟩
   dsimp only
   rw [if_pos rfl]
   refine ⟨fun σ' H'=>∃ μ ρ S,SR X.K μ S H'∧Step X.K μ0 μ H0 H'∧RE X.K H' μ ρ σ'∧PostS X μ H' E (whileS m ct cb ρ S),fun σ' H' h=>⟨m,Nat.lt_succ_self m,h⟩,μ1,ρ,S1,sr1,re.up st1,?_⟩
   have st01:=st.trans st1 sr1.nd
   revert p
   cases cb ρ S1 with
   | nx ρ2 S2=>exact fun p σ2 H2 μ2 sr2 st2 re2=>⟨μ2,ρ2,S2,sr2,st01.trans st2 sr2.nd,re2,p.shift (st1.trans st2 sr2.nd)⟩
   | ct ρ2 S2=>exact fun p σ2 H2 μ2 sr2 st2 re2=>⟨μ2,ρ2,S2,sr2,st01.trans st2 sr2.nd,re2,p.shift (st1.trans st2 sr2.nd)⟩
   | bk ρ2 S2=>exact fun p σ2 H2 μ2 sr2 st2 re2=>p σ2 H2 μ2 sr2 (st1.trans st2 sr2.nd) re2
   | rt d S2=>exact fun p=>Yld.shift p st1
   | bad=>exact fun p=>p
   | er _ _=>exact fun p=>p
  ·rename_i S1 h
   refine ⟨μ,ρ,S,false,S1,sr,re,h,fun H1 μ1 sr1 st1=>?_⟩
   dsimp only
   rw [if_neg Bool.false_ne_true]
   exact p σ H1 μ1 sr1 st1 (re.up st1)
  ·exact False.elim p
  ·exact False.elim p)
noncomputable abbrev Watch:=List (Nat × List D)
def okW (w:Watch) (S:zA1):Prop:=∀ p∈w,zA5 S p.1=some p.2
noncomputable abbrev CI:=Env1→M (List D × Watch)
structure ItOk (K:W.Frag) (J:It) (items:List D) (w:Watch) (μ0:List Addr) (H0:Hp):Prop where
 go:∀ (i:Nat) H μ S,SR K μ S H→Step K μ0 μ H0 H→okW w S→i<items.length→J.go i H
 yld:∀ (i:Nat) H μ S x H',SR K μ S H→Step K μ0 μ H0 H→okW w S→i<items.length→J.yld i H x H'→∃ d,items[i]?=some d∧SR K μ S H'∧Step K μ μ H H'∧RV K H' μ d x
 stop:∀ H μ S,SR K μ S H→Step K μ0 μ H0 H→okW w S→J.stop items.length H
inductive tOfI (K:W.Frag) (it:CI) (σ:St) (H:Hp) (R:It→Hp→Prop):Prop
 | mk (μ:List Addr) (ρ:Env1) (S:zA1) (items:List D) (w:Watch) (S':zA1) (sr:SR K μ S H) (re:RE K H μ ρ σ) (e:it ρ S=.ok (items,w) S') (y:∀ J H' μ',SR K μ' S' H'→Step K μ μ' H H'→ItOk K J items w μ' H'→R J H')
theorem PI.weak {iter:Expr}{t t':TI} (h:PI X tg iter t) (w:∀ σ H R,t' σ H R→t σ H R):PI X tg iter t':=fun pins s σ H R I q=>h pins s σ H R I (w σ H R q)
theorem Step.at {K:W.Frag}{μ μ':List Addr}{H H':Hp} (st:Step K μ μ' H H') {n:Nat}{a:Addr} (h:μ[n]?=some a):μ'[n]?=some a:=by
 obtain ⟨ν,rfl⟩:=st.ext
 rw [List.getElem?_append_left (List.getElem?_eq_some_iff.mp h).1]; exact h
open Classical in
noncomputable def zAA (w:Watch) (g:G) (b:CS):List D→CS
 | []=>fun ρ S=>if okW w S then .nx ρ S else .bad
 | d::ds=>fun ρ S=>if okW w S then (match g d ρ S with
  | .ok ρ1 S1=>match b ρ1 S1 with
   | .nx ρ2 S2=>zAA w g b ds ρ2 S2
   | .ct ρ2 S2=>zAA w g b ds ρ2 S2
   | .bk ρ2 S2=>.nx ρ2 S2
   | r=>r
  | .bad=>.bad
  | .er _ _=>.bad) else .bad
noncomputable def sFor (it:CI) (g:G) (b:CS):CS:=fun ρ S=>match it ρ S with
 | .ok (items,w) S1=>zAA w g b items ρ S1
 | .bad=>.bad
 | .er _ _=>.bad
theorem ss_for {iter:Expr}{body:List Stmt}{it:CI}{g:G}{cb:CS} (hp:PassesOwn (model X.prog X.w) X.A X.env X.xe) (hc:X.calm=true) (hi:PI X tg iter (tOfI X.K it)) (hg:PG X tg (tOfG X.K g)) (hb:PSs X body (tOfS X cb))
  (hs:∀ x,foldedSetIterable iter X.env x=pure x):PS X (.For tg iter body [] pos) (tOfS X (sFor it g cb)):=(ps_for hp hc hi hg hb hs).weak (by
 rintro E σ H ⟨μ,ρ,S,sr,re,p⟩
 unfold sFor at p
 split at p
 ·rename_i items w S0 h0
  refine ⟨μ,ρ,S,items,w,S0,sr,re,h0,fun J H0 μ0 sr0 st0 io=>?_⟩
  refine ⟨fun i m σ H=>i+m=items.length∧∃ μ ρ S,SR X.K μ S H∧Step X.K μ0 μ H0 H∧RE X.K H μ ρ σ∧PostS X μ H E (zAA w g cb (items.drop i) ρ S),⟨items.length,by simp,μ0,ρ,S0,sr0,Step.refl _ _ _,re.up st0,by rw [List.drop_zero]; exact p.shift st0⟩,?_⟩
  rintro i m σ1 H1 ⟨him,μ1,ρ1,S1,sr1,st1,re1,p1⟩
  by_cases hi:i<items.length
  ·rw [List.drop_eq_getElem_cons hi] at p1
   unfold zAA at p1
   split at p1
   ·rename_i hw
    refine .inr ⟨io.go i H1 μ1 S1 sr1 st1 hw hi,fun σ' H'=>i+1+(m - 1)=items.length∧∃ μ ρ S,SR X.K μ S H'∧Step X.K μ0 μ H0 H'∧RE X.K H' μ ρ σ'∧PostS X μ H' E (zAA w g cb (items.drop (i+1)) ρ S),fun σ' H' z=>⟨m - 1,by omega,z⟩,fun x H2 hy=>?_⟩
    obtain ⟨d,hd,sr2,st2,rv⟩:=io.yld i H1 μ1 S1 x H2 sr1 st1 hw hi hy
    have ed:items[i]=d:=by rw [List.getElem?_eq_getElem hi] at hd; exact Option.some.inj hd
    rw [ed] at p1
    split at p1
    ·rename_i ρ3 S3 h3
     refine ⟨μ1,ρ1,S1,d,ρ3,S3,sr2,re1.up st2,rv,h3,fun σ3 H3 μ3 sr3 st3 re3=>⟨μ3,ρ3,S3,sr3,re3,?_⟩⟩
     have st23:=st2.trans st3 sr3.nd
     have st03:=st1.trans st23 sr3.nd
     revert p1
     cases cb ρ3 S3 with
     | nx ρ4 S4=>exact fun p σ4 H4 μ4 sr4 st4 re4=>⟨by omega,μ4,ρ4,S4,sr4,st03.trans st4 sr4.nd,re4,p.shift (st23.trans st4 sr4.nd)⟩
     | ct ρ4 S4=>exact fun p σ4 H4 μ4 sr4 st4 re4=>⟨by omega,μ4,ρ4,S4,sr4,st03.trans st4 sr4.nd,re4,p.shift (st23.trans st4 sr4.nd)⟩
     | bk ρ4 S4=>exact fun p σ4 H4 μ4 sr4 st4 re4=>p σ4 H4 μ4 sr4 (st23.trans st4 sr4.nd) re4
     | rt d S4=>exact fun p=>Yld.shift p st23
     | bad=>exact fun p=>p
     | er _ _=>exact fun p=>p
    ·exact False.elim p1
    ·exact False.elim p1
   ·exact False.elim p1
  ·have e:i=items.length:=by omega
   subst e
   rw [List.drop_length] at p1
   unfold zAA at p1
   split at p1
   ·rename_i hw
    exact .inl ⟨io.stop H1 μ1 S1 sr1 st1 hw,p1 σ1 H1 μ1 sr1 (Step.refl _ _ _) re1⟩
   ·exact False.elim p1
 ·exact False.elim p
 ·exact False.elim p)
end
open PySem PySem.Spec PyProof.Rows
section
variable {X:Cx}{tg e:Expr}{ce:C}{pos:Pos}
noncomputable def iSeq (c:C):CI:=fun ρ=>bnd (c ρ) fun x S=>match x with
 | .tup xs=>.ok (xs,[]) S
 | .lst n=>match zA5 S n with
  | some xs=>.ok (xs,[(n,xs)]) S
  | none=>.bad
 | _=>.bad
theorem it_tup {K:W.Frag}{H0:Hp}{μ0:List Addr}{a:Addr}{xs:List D}{vs:List V} (q:SqT K H0 a vs) (r:RVs K H0 μ0 xs vs):ItOk K (Itt K a) xs [] μ0 H0 where
 go:=fun i H μ S sr st _ hi=>by
  obtain ⟨v,e,_⟩:=r.get (List.getElem?_eq_getElem hi)
  exact ⟨vs,v,st.tk.t _ _ q,e⟩
 yld:=fun i H μ S x H' sr st _ hi y=>by
  obtain ⟨rfl,y⟩:=y
  obtain ⟨v,e,rv⟩:=r.get (List.getElem?_eq_getElem hi)
  have:=y vs (st.tk.t _ _ q)
  rw [e] at this; cases this
  exact ⟨xs[i],List.getElem?_eq_getElem hi,sr,Step.refl _ _ _,RV.up st.tk st.ext _ _ rv⟩
 stop:=fun H μ S sr st _=>⟨vs,st.tk.t _ _ q,by rw [r.len]; exact Nat.le_refl _⟩
theorem it_lst {K:W.Frag}{H0:Hp}{μ0:List Addr}{a:Addr}{n:Nat}{xs:List D} (hm:μ0[n]?=some a):ItOk K (Itl K a) xs [(n,xs)] μ0 H0 where
 go:=fun i H μ S sr st w hi=>by
  obtain ⟨vs,q,r⟩:=sr.sq (st.at hm) (w (n,xs) (by simp))
  obtain ⟨v,e,_⟩:=r.get (List.getElem?_eq_getElem hi)
  exact ⟨vs,v,q,e⟩
 yld:=fun i H μ S x H' sr st w hi y=>by
  obtain ⟨rfl,y⟩:=y
  obtain ⟨vs,q,r⟩:=sr.sq (st.at hm) (w (n,xs) (by simp))
  obtain ⟨v,e,rv⟩:=r.get (List.getElem?_eq_getElem hi)
  have:=y vs q
  rw [e] at this; cases this
  exact ⟨xs[i],List.getElem?_eq_getElem hi,sr,Step.refl _ _ _,rv⟩
 stop:=fun H μ S sr st w=>by
  obtain ⟨vs,q,r⟩:=sr.sq (st.at hm) (w (n,xs) (by simp))
  exact ⟨vs,q,by rw [r.len]; exact Nat.le_refl _⟩
theorem pi_seq {tl:TE} (hl:PE X e tl):PI X tg e (fun σ H R=>tl σ H fun x H1=>∃ a,x=.ref a∧((∃ xs,SqL X.K H1 a xs)∧R (Itl X.K a) H1∨(∃ xs,SqT X.K H1 a xs)∧R (Itt X.K a) H1
  )):=by
 intro pins s σ H R I h
 refine thn (hl pins s σ H _ I h) fun v s1 ⟨x,H1,I1,r1,q1⟩=>?_
 obtain ⟨a,e,q⟩:=q1
 subst e
 cases r1
 rcases q with ⟨⟨xs,hq⟩,q⟩ | ⟨⟨xs,hq⟩,q⟩
 ·obtain ⟨its,rv,p,hz⟩:=I1.list hq
  refine wpAny_pyIter_list p.isList ?_
  refine ⟨s1.heap.objs.size,[s1.heap.objs.size],_,_,H1,rfl,I1.kept (t':=s1.toks) fun b o e=>Heap.get?_push_of_some _ e,turn_list a _,⟨_,Heap.get?_push_size _ rfl,rfl,rfl⟩,fun b hb=>?_,q⟩
  have e:b=s1.heap.objs.size:=by simpa using hb
  subst e
  exact I1.fpOk (Nat.le_refl _) (I1.hok.fresh (Nat.le_refl _))
 ·obtain ⟨its,rv,p,hz⟩:=I1.tuple hq
  refine wpAny_pyIter_tuple (show s1.heap.IsTuple a its.toArray from p) ?_
  refine ⟨s1.heap.objs.size,[s1.heap.objs.size],_,_,H1,rfl,I1.kept (t':=s1.toks) fun b o e=>Heap.get?_push_of_some _ e,turn_tuple a _,⟨_,Heap.get?_push_size _ rfl,rfl,rfl⟩,fun b hb=>?_,q⟩
  have e:b=s1.heap.objs.size:=by simpa using hb
  subst e
  exact I1.fpOk (Nat.le_refl _) (I1.hok.fresh (Nat.le_refl _))
theorem si_seq (he:PE X e (tOf X.K ce)):PI X tg e (tOfI X.K (iSeq ce)):=(pi_seq he).weak (by
 rintro σ H R ⟨μ,ρ,S,items,w,S',sr,re,e,y⟩
 obtain ⟨x,S1,e1,e⟩:=zA8 e
 refine ⟨μ,ρ,S,x,S1,sr,re,e1,fun v H1 μ1 sr1 st1 r1=>?_⟩
 try dsimp only at e
 split at e
 ·rename_i xs
  cases e
  have r1':=r1
  unfold RV at r1'; obtain ⟨a,vs,rfl,q,rr⟩:=r1'
  exact ⟨a,rfl,.inr ⟨⟨vs,SqT.of q⟩,y _ H1 μ1 sr1 st1 (it_tup (SqT.of q) rr)⟩⟩
 ·rename_i n
  split at e
  ·rename_i xs hx
   cases e
   unfold RV at r1; obtain ⟨a,rfl,hm⟩:=r1
   obtain ⟨vs,q,rr⟩:=sr1.sq hm hx
   exact ⟨a,rfl,.inl ⟨⟨vs,q⟩,y _ H1 μ1 sr1 st1 (it_lst hm)⟩⟩
  ·cases e
 ·cases e)
noncomputable def upD (lo:Int) (n:Nat):List D:=(List.range n).map fun k=>D.int (lo+(k:Nat))
theorem it_rng {K:W.Frag}{H0:Hp}{μ0:List Addr}{lo:Int}{n:Nat}:ItOk K (Itr lo n) (upD lo n) [] μ0 H0 where
 go:=fun i H μ S sr st _ hi=>by
  unfold upD at hi; simp at hi; exact hi
 yld:=fun i H μ S x H' sr st _ hi y=>by
  obtain ⟨rfl,rfl⟩:=y
  have hi':i<n:=by unfold upD at hi; simp at hi; exact hi
  exact ⟨.int (lo+i),by unfold upD; rw [List.getElem?_map,List.getElem?_range hi']; rfl,sr,Step.refl _ _ _,zB1⟩
 stop:=fun H μ S sr st _=>by
  show n≤(upD lo n).length
  unfold upD; simp
noncomputable def zAj (a:CA):CI:=fun ρ=>bnd (a ρ) fun xs S=>match xs with
 | [.int j]=>if -4611686018427387904≤j∧j<4611686018427387904 then .ok (upD 0 j.toNat,[]) S else .bad
 | _=>.bad
noncomputable def iRange2 (a:CA):CI:=fun ρ=>bnd (a ρ) fun xs S=>match xs with
 | [.int i,.int j]=>if -4611686018427387904≤i∧i<4611686018427387904∧-4611686018427387904≤j∧j<4611686018427387904 then .ok (upD i (j - i).toNat,[]) S else .bad
 | _=>.bad
variable {a b:Expr}{ca:CA}
theorem si_range1 {p:Pos} (h:PI X tg (.Call (.Name "range" p) [a] [] pos) (iRng1 (tOfA X.K ca))):PI X tg (.Call (.Name "range" p) [a] [] pos) (tOfI X.K (zAj ca)):=h.weak (by
 rintro σ H R ⟨μ,ρ,S,items,w,S',sr,re,e,y⟩
 obtain ⟨xs,S1,e1,e⟩:=zA8 e
 refine ⟨μ,ρ,S,xs,S1,sr,re,e1,fun vs H1 μ1 sr1 st1 r1=>?_⟩
 try dsimp only at e
 split at e
 ·rename_i j
  split at e
  ·rename_i hl
   cases e
   obtain ⟨v,rfl,r2⟩:=r1.one
   unfold RV at r2; subst r2
   exact ⟨j,rfl,hl.1,hl.2,y _ H1 μ1 sr1 st1 it_rng⟩
  ·cases e
 ·cases e)
theorem si_range2 {p:Pos} (h:PI X tg (.Call (.Name "range" p) [a,b] [] pos) (iRng2 (tOfA X.K ca))):PI X tg (.Call (.Name "range" p) [a,b] [] pos) (tOfI X.K (iRange2 ca)):=h.weak (by
 rintro σ H R ⟨μ,ρ,S,items,w,S',sr,re,e,y⟩
 obtain ⟨xs,S1,e1,e⟩:=zA8 e
 refine ⟨μ,ρ,S,xs,S1,sr,re,e1,fun vs H1 μ1 sr1 st1 r1=>?_⟩
 try dsimp only at e
 split at e
 ·rename_i i j
  split at e
  ·rename_i hl
   cases e
   obtain ⟨v,u,rfl,r2,r3⟩:=r1.two
   unfold RV at r2 r3; subst r2 r3
   exact ⟨i,j,rfl,hl,y _ H1 μ1 sr1 st1 it_rng⟩
  ·cases e
 ·cases e)
theorem zip_get {α β:Type}{xs:List α}{ys:List β}{i:Nat} (h:i<(xs.zip ys).length):∃ x y,xs[i]?=some x∧ys[i]?=some y∧(xs.zip ys)[i]?=some (x,y):=by
 rw [List.length_zip] at h
 have h1:i<xs.length:=by omega
 have h2:i<ys.length:=by omega
 exact ⟨xs[i],ys[i],List.getElem?_eq_getElem h1,List.getElem?_eq_getElem h2,by rw [List.getElem?_zip_eq_some]; exact ⟨List.getElem?_eq_getElem h1,List.getElem?_eq_getElem h2⟩⟩
noncomputable def zipD (xs ys:List D):List D:=(xs.zip ys).map fun p=>.tup [p.1,p.2]
noncomputable def zsAt (S:zA1):D→Option (List D)
 | .tup xs=>some xs
 | .lst n=>zA5 S n
 | _=>none
noncomputable def watchOf (x:D) (xs:List D):Watch:=match x with
 | .lst n=>[(n,xs)]
 | _=>[]
theorem sqX_of {K:W.Frag}{μ:List Addr}{S:zA1}{H:Hp}{x:D}{v:V}{xs:List D} (sr:SR K μ S H) (r:RV K H μ x v) (ho:zsAt S x=some xs):∃ a b,v=.ref a∧(∃ vs,SqX b K H a vs) ∧
  ∀ H1 μ1 S1,SR K μ1 S1 H1→Step K μ μ1 H H1→okW (watchOf x xs) S1→∃ vs,SqX b K H1 a vs∧RVs K H1 μ1 xs vs:=by
 unfold zsAt at ho
 split at ho
 ·rename_i ys
  cases ho
  unfold RV at r; obtain ⟨a,vs,rfl,q,rr⟩:=r
  exact ⟨a,true,rfl,⟨vs,SqT.of q⟩,fun H1 μ1 S1 sr1 st1 _=>⟨vs,st1.tk.t _ _ (SqT.of q),RVs.up st1.tk st1.ext _ _ rr⟩⟩
 ·rename_i n
  unfold RV at r; obtain ⟨a,rfl,hm⟩:=r
  obtain ⟨vs,q,rr⟩:=sr.sq hm ho
  exact ⟨a,false,rfl,⟨vs,q⟩,fun H1 μ1 S1 sr1 st1 w=>sr1.sq (st1.at hm) (w (n,xs) (by simp [watchOf]))⟩
 ·cases ho
theorem okW_app {w1 w2:Watch}{S:zA1}:okW (w1++w2) S↔okW w1 S∧okW w2 S:=by
 unfold okW
 simp only [List.mem_append]
 exact ⟨fun h=>⟨fun p hp=>h p (.inl hp),fun p hp=>h p (.inr hp)⟩,fun h p hp=>hp.elim (h.1 p) (h.2 p)⟩
theorem it_zipX {K:W.Frag}{H0:Hp}{μ0:List Addr}{a b:Addr}{b1 b2:Bool}{w1 w2:Watch}{xs ys:List D}
  (g1:∀ H1 μ1 S1,SR K μ1 S1 H1→Step K μ0 μ1 H0 H1→okW w1 S1→∃ vs,SqX b1 K H1 a vs∧RVs K H1 μ1 xs vs) (g2:∀ H1 μ1 S1,SR K μ1 S1 H1→Step K μ0 μ1 H0 H1→okW w2 S1→∃ vs,SqX b2 K H1 b vs∧RVs K H1 μ1 ys vs) :
  ItOk K (ItzX b1 b2 K a b) (zipD xs ys) (w1++w2) μ0 H0 where
 go:=fun i H μ S sr st w hi=>by
  obtain ⟨vs,q,r⟩:=g1 H μ S sr st (okW_app.mp w).1
  obtain ⟨us,q2,r2⟩:=g2 H μ S sr st (okW_app.mp w).2
  obtain ⟨x,y,e1,e2,_⟩:=zip_get (xs:=xs) (ys:=ys) (i:=i) (by unfold zipD at hi; simpa using hi)
  obtain ⟨v,g1,_⟩:=r.get e1
  obtain ⟨u,g2,_⟩:=r2.get e2
  exact ⟨vs,us,v,u,q,q2,g1,g2⟩
 yld:=fun i H μ S x H' sr st w hi y=>by
  obtain ⟨T,hT,rfl,y⟩:=y
  obtain ⟨vs,q,r⟩:=g1 H μ S sr st (okW_app.mp w).1
  obtain ⟨us,q2,r2⟩:=g2 H μ S sr st (okW_app.mp w).2
  obtain ⟨x,y',e1,e2,e3⟩:=zip_get (xs:=xs) (ys:=ys) (i:=i) (by unfold zipD at hi; simpa using hi)
  obtain ⟨v,g1,rv⟩:=r.get e1
  obtain ⟨u,g2,ru⟩:=r2.get e2
  have:=y vs us v u q q2 g1 g2
  subst this
  obtain ⟨s1,s2,s3⟩:=new_tup (p:=T) sr hT (.cons rv (.cons ru .nil))
  exact ⟨.tup [x,y'],by unfold zipD; rw [List.getElem?_map,e3]; rfl,s1,s2,s3⟩
 stop:=fun H μ S sr st w=>by
  obtain ⟨vs,q,r⟩:=g1 H μ S sr st (okW_app.mp w).1
  obtain ⟨us,q2,r2⟩:=g2 H μ S sr st (okW_app.mp w).2
  exact ⟨vs,us,q,q2,by unfold zipD; rw [List.length_map,List.length_zip,r.len,r2.len]⟩
noncomputable def iZipL (a:CA):CI:=fun ρ=>bnd (a ρ) fun xs S=>match xs with
 | [x,y]=>match zsAt S x,zsAt S y with
  | some ys,some zs=>.ok (zipD ys zs,watchOf x ys++watchOf y zs) S
  | _,_=>.bad
 | _=>.bad
theorem si_zip {elts:List Expr}{k:Nat}{tpos p:Pos} (h:PI X (.Tuple elts k tpos) (.Call (.Name "zip" p) [a,b] [] pos) (iZipX X.K (tOfA X.K ca))):PI X (.Tuple elts k tpos) (.Call (.Name "zip" p) [a,b] [] pos) (tOfI X.K (iZipL ca)):=h.weak (by
 rintro σ H R ⟨μ,ρ,S,items,w,S',sr,re,e,y⟩
 obtain ⟨xs,S1,e1,e⟩:=zA8 e
 refine ⟨μ,ρ,S,xs,S1,sr,re,e1,fun vs H1 μ1 sr1 st1 r1=>?_⟩
 try dsimp only at e
 split at e
 ·rename_i x1 x2
  split at e
  ·rename_i ys zs h1 h2
   cases e
   obtain ⟨v,u,rfl,r2,r3⟩:=r1.two
   obtain ⟨a,b1,rfl,q1,g1⟩:=sqX_of sr1 r2 h1
   obtain ⟨b,b2,rfl,q2,g2⟩:=sqX_of sr1 r3 h2
   exact ⟨a,b,b1,b2,rfl,q1,q2,y _ H1 μ1 sr1 st1 (it_zipX g1 g2)⟩
  ·cases e
 ·cases e)
noncomputable def zipD3 (xs ys us:List D):List D:=(xs.zip (ys.zip us)).map fun p=>.tup [p.1,p.2.1,p.2.2]
noncomputable def iZip3L (a:CA):CI:=fun ρ=>bnd (a ρ) fun xs S=>match xs with
 | [.lst n,.tup ys,.tup us]=>match zA5 S n with
  | some xs=>.ok (zipD3 xs ys us,[(n,xs)]) S
  | none=>.bad
 | _=>.bad
noncomputable def enumD (xs:List D):List D:=((List.range xs.length).zip xs).map fun p=>.tup [.int (p.1:Nat),p.2]
theorem enum_get {xs:List D}{i:Nat} (h:i<xs.length):(enumD xs)[i]?=some (.tup [.int (i:Nat),xs[i]]):=by
 unfold enumD
 rw [List.getElem?_map]
 have:((List.range xs.length).zip xs)[i]?=some (i,xs[i]):=by
  rw [List.getElem?_zip_eq_some]
  exact ⟨List.getElem?_range h,List.getElem?_eq_getElem h⟩
 rw [this]; rfl
theorem enum_len (xs:List D):(enumD xs).length=xs.length:=by unfold enumD; simp
theorem it_enumT {K:W.Frag}{H0:Hp}{μ0:List Addr}{a:Addr}{xs:List D}{vs:List V} (q:SqT K H0 a vs) (r:RVs K H0 μ0 xs vs):ItOk K (IteX true K a) (enumD xs) [] μ0 H0 where
 go:=fun i H μ S sr st _ hi=>by
  rw [enum_len] at hi
  obtain ⟨v,e,_⟩:=r.get (List.getElem?_eq_getElem hi)
  exact ⟨vs,v,st.tk.t _ _ q,e⟩
 yld:=fun i H μ S x H' sr st _ hi y=>by
  rw [enum_len] at hi
  obtain ⟨T,hT,rfl,y⟩:=y
  obtain ⟨v,e,rv⟩:=r.get (List.getElem?_eq_getElem hi)
  have:=y vs v (st.tk.t _ _ q) e
  subst this
  obtain ⟨s1,s2,s3⟩:=new_tup (p:=T) sr hT (.cons zB1 (.cons (RV.up st.tk st.ext _ _ rv) .nil))
  exact ⟨_,enum_get hi,s1,s2,s3⟩
 stop:=fun H μ S sr st _=>⟨vs,st.tk.t _ _ q,by rw [enum_len,r.len]⟩
theorem it_enumL {K:W.Frag}{H0:Hp}{μ0:List Addr}{a:Addr}{n:Nat}{xs:List D} (hm:μ0[n]?=some a):ItOk K (IteX false K a) (enumD xs) [(n,xs)] μ0 H0 where
 go:=fun i H μ S sr st w hi=>by
  rw [enum_len] at hi
  obtain ⟨vs,q,r⟩:=sr.sq (st.at hm) (w (n,xs) (by simp))
  obtain ⟨v,e,_⟩:=r.get (List.getElem?_eq_getElem hi)
  exact ⟨vs,v,q,e⟩
 yld:=fun i H μ S x H' sr st w hi y=>by
  rw [enum_len] at hi
  obtain ⟨T,hT,rfl,y⟩:=y
  obtain ⟨vs,q,r⟩:=sr.sq (st.at hm) (w (n,xs) (by simp))
  obtain ⟨v,e,rv⟩:=r.get (List.getElem?_eq_getElem hi)
  have:=y vs v q e
  subst this
  obtain ⟨s1,s2,s3⟩:=new_tup (p:=T) sr hT (.cons zB1 (.cons rv .nil))
  exact ⟨_,enum_get hi,s1,s2,s3⟩
 stop:=fun H μ S sr st w=>by
  obtain ⟨vs,q,r⟩:=sr.sq (st.at hm) (w (n,xs) (by simp))
  exact ⟨vs,q,by rw [enum_len,r.len]⟩
noncomputable def iEnumT (a:CA):CI:=fun ρ=>bnd (a ρ) fun xs S=>match xs with
 | [.tup ys]=>.ok (enumD ys,[]) S
 | [.lst n]=>match zA5 S n with
  | some ys=>.ok (enumD ys,[(n,ys)]) S
  | none=>.bad
 | _=>.bad
theorem si_enum {elts:List Expr}{k:Nat}{tpos p:Pos} (h:PI X (.Tuple elts k tpos) (.Call (.Name "enumerate" p) [a] [] pos) (iEnumL X.K (tOfA X.K ca))):PI X (.Tuple elts k tpos) (.Call (.Name "enumerate" p) [a] [] pos) (tOfI X.K (iEnumT ca)):=h.weak (by
 rintro σ H R ⟨μ,ρ,S,items,w,S',sr,re,e,y⟩
 obtain ⟨xs,S1,e1,e⟩:=zA8 e
 refine ⟨μ,ρ,S,xs,S1,sr,re,e1,fun vs H1 μ1 sr1 st1 r1=>?_⟩
 try dsimp only at e
 split at e
 ·rename_i ys
  cases e
  obtain ⟨v,rfl,r2⟩:=r1.one
  unfold RV at r2
  obtain ⟨a,vs,rfl,q,rr⟩:=r2
  exact ⟨a,rfl,.inl ⟨⟨vs,SqT.of q⟩,y _ H1 μ1 sr1 st1 (it_enumT (SqT.of q) rr)⟩⟩
 ·rename_i n
  split at e
  ·rename_i ys ho
   cases e
   obtain ⟨v,rfl,r2⟩:=r1.one
   unfold RV at r2
   obtain ⟨a,rfl,hm⟩:=r2
   obtain ⟨vs,q,_⟩:=sr1.sq hm ho
   exact ⟨a,rfl,.inr ⟨⟨vs,q⟩,y _ H1 μ1 sr1 st1 (it_enumL hm)⟩⟩
  ·cases e
 ·cases e)
noncomputable def stE (k:Nat) (js:List Nat) (ρ:Env1):Env1:=List.replicate k none++js.map fun j=>(ρ[j]?).getD none
theorem RE.comp {K:W.Frag}{H:Hp}{μ:List Addr}{ρ:Env1}{σ:St} (re:RE K H μ ρ σ) (k:Nat) (js:List Nat):RE K H μ (stE k js ρ) (stC k js σ):=by
 refine ⟨by unfold stE stC; simp,fun i d e=>?_⟩
 unfold stE at e
 unfold stC
 by_cases hi:i<k
 ·rw [List.getElem?_append_left (by simpa using hi),List.getElem?_replicate] at e
  simp [hi] at e
 ·rw [List.getElem?_append_right (by simpa using hi),List.length_replicate,List.getElem?_map] at e
  rw [List.getElem?_append_right (by simpa using hi),List.length_replicate,List.getElem?_map]
  cases q:js[i - k]? with
  | none=>rw [q] at e; simp at e
  | some j =>
   rw [q] at e
   simp only [Option.map_some,Option.some.injEq] at e
   cases q2:ρ[j]? with
   | none=>rw [q2] at e; simp at e
   | some z =>
    rw [q2] at e
    simp at e
    subst e
    obtain ⟨v,e1,r1⟩:=re.2 j d q2
    exact ⟨v,by simp [e1],r1⟩
inductive Tgt where
 | one | many (k:Nat)
noncomputable def setAll:Env1→Nat→List D→Env1
 | ρ,_,[]=>ρ
 | ρ,s,x::xs=>setAll (ρ.set s (some x)) (s+1) xs
noncomputable def bindT (t:Tgt) (d:D) (ρ:Env1):Option Env1:=match t with
 | .one=>some (ρ.set 0 (some d))
 | .many k=>match d with
  | .tup xs=>if xs.length=k then some (setAll ρ 0 xs) else none
  | _=>none
noncomputable def gNames:Nat→Nat→TGs
 | _,0=>gNil
 | s,n+1=>gCons (gName s) (gNames (s+1) n)
noncomputable def tgtK:Tgt→Nat
 | .one=>1
 | .many k=>k
noncomputable def tOfT' (K:W.Frag):Tgt→TG
 | .one=>gName 0
 | .many k=>gTup K k (gNames 0 k)
theorem weak_set {k:Nat}{js:List Nat}{σ σ1:St} (h:WeakS (stC k js σ) σ1) {i:Nat} (hi:i<k) (v:V):WeakS (stC k js σ) (σ1.set i (some v)):=by
 refine ⟨by rw [List.length_set]; exact h.1,fun j u e=>?_⟩
 by_cases hj:i=j
 ·subst hj
  obtain ⟨_,h1,_⟩:=stC_get e
  omega
 ·rw [List.getElem?_set_ne hj]
  exact h.2 j u e
theorem weak_refl (σ:St):WeakS σ σ:=⟨rfl,fun _ _ h=>h⟩
theorem names_ok {K:W.Frag}{H:Hp}{μ:List Addr}{k:Nat}{js:List Nat}{σ:St}{Q:St→Hp→Prop}:∀ {n s:Nat}{xs:List D}{vs:List V}{ρ1:Env1}{σ1:St},RVs K H μ xs vs→xs.length=n→s+n≤k→RE K H μ ρ1 σ1→WeakS (stC k js σ) σ1→(∀ σ4,RE K H μ (setAll ρ1 s xs) σ4→WeakS (stC k js σ) σ4→Q σ4 H)→gNames s n vs σ1 H Q
 | 0,s,xs,vs,ρ1,σ1,r,hl,hk,re,w,h=>by
  have:xs=[]:=List.length_eq_zero_iff.mp hl
  subst this
  exact ⟨r.nil_inv,h σ1 re w⟩
 | n+1,s,[],vs,ρ1,σ1,r,hl,hk,re,w,h=>by simp at hl
 | n+1,s,x::xs,vs,ρ1,σ1,r,hl,hk,re,w,h=>by
  obtain ⟨v,us,rfl,r1,r2⟩:=r.cons_inv
  exact ⟨v,us,rfl,names_ok r2 (by simpa using hl) (by omega) (re.set r1 s) (weak_set w (by omega) v) h⟩
theorem bind_ok {K:W.Frag}{H:Hp}{μ:List Addr}{k:Nat}{js:List Nat}{σ:St}{ρ ρ4:Env1}{t:Tgt}{d:D}{x:V}{Q:St→Hp→Prop} (ht:tgtK t≤k) (re:RE K H μ (stE k js ρ) (stC k js σ)) (rv:RV K H μ d x) (e:bindT t d (stE k js ρ)=some ρ4) (h:∀ σ4,RE K H μ ρ4 σ4→WeakS (stC k js σ) σ4→Q σ4 H) (h1:1≤k):tOfT' K t x (stC k js σ) H Q:=by
 cases t with
 | one =>
  cases e
  exact h _ (re.set rv 0) (weak_set (weak_refl _) h1 x)
 | many n =>
  unfold bindT at e
  dsimp only at e
  split at e
  ·rename_i xs
   split at e
   ·rename_i hl
    cases e
    unfold RV at rv
    obtain ⟨p,vs,rfl,q,rr⟩:=rv
    exact ⟨p,vs,rfl,SqT.of q,by rw [← rr.len]; exact hl,names_ok rr hl (by have:n≤k:=ht; omega) re (weak_refl _) h⟩
   ·cases e
  ·cases e
open Classical in
noncomputable def loopC (w:Watch) (t:Tgt) (tc:CT) (c:C) (ρ0:Env1):List D→M (List D)
 | []=>fun S=>if okW w S then .ok [] S else .bad
 | d::ds=>fun S=>if okW w S then (match bindT t d ρ0 with
  | some ρ1=>bnd (tc ρ1) (fun k=>if k then bnd (c ρ1) fun y=>bnd (loopC w t tc c ρ0 ds) fun ys=>ret (y::ys) else loopC w t tc c ρ0 ds) S
  | none=>.bad) else .bad
noncomputable def zAm (it:CI) (k:Nat) (js:List Nat) (t:Tgt) (tc:CT) (c:C):C:=fun ρ=>bnd (it ρ) fun p S=>if p.1.length<lim then
  bnd (loopC p.2 t tc c (stE k js ρ) p.1) (fun ys S'=>.ok (.lst S'.length) (S'++[.lst ys])) S
 else .bad
theorem SR.acc {K:W.Frag}{H:Hp}{μ:List Addr}{S:zA1}{A:Addr}{us ws:List V} (sr:SR K μ S H) (hA:A∉μ) (h:H A=some (.lst us)):SR K μ S (upd H A (.lst ws)) :=
 ⟨sr.len,sr.nd,fun n a o e1 e2=>(sr.obj n a o e1 e2).up (tf_lst h) ⟨[],by simp⟩ (zAb fun z=>hA (z▸List.mem_of_getElem? e1))⟩
theorem Step.acc {K:W.Frag}{H0 H:Hp}{μ0 μ:List Addr}{A:Addr}{us ws:List V} (st:Step K μ0 μ H0 H) (h0:H0 A=none) (h:H A=some (.lst us)):Step K μ0 μ H0 (upd H A (.lst ws)) :=
 ⟨st.pre,fun b o hb e=>by rw [zAb (zAD e h0)]; exact st.fr b o hb e,st.tk.trans (tf_lst h)⟩
theorem SR.adopt {K:W.Frag}{H:Hp}{μ:List Addr}{S:zA1}{A:Addr}{us:List V}{acc:List D} (sr:SR K μ S H) (hA:A∉μ) (h:H A=some (.lst us)) (r:RVs K H μ acc us):SR K (μ++[A]) (S++[.lst acc]) H:=by
 refine ⟨by simp [sr.len],?_,fun n a u e1 e2=>?_⟩
 ·rw [List.nodup_append]
  refine ⟨sr.nd,by simp,fun a ha b hb=>?_⟩
  simp at hb; subst hb
  exact fun z=>hA (z▸ha)
 ·by_cases hn:n<μ.length
  ·rw [List.getElem?_append_left hn] at e1
   rw [List.getElem?_append_left (by rw [← sr.len]; exact hn)] at e2
   exact (sr.obj n a u e1 e2).up (TF.refl _ _) ⟨[A],rfl⟩ rfl
  ·rw [List.getElem?_append_right (by omega)] at e1
   rw [List.getElem?_append_right (by rw [← sr.len]; omega)] at e2
   have h1:n - μ.length=0:=by
    have:=(List.getElem?_eq_some_iff.mp e1).1
    simp at this; omega
   rw [h1] at e1
   rw [← sr.len,h1] at e2
   simp at e1 e2
   subst e1 e2
   exact ⟨us,h,RVs.up (TF.refl _ _) ⟨[A],rfl⟩ _ _ r⟩
theorem Step.adopt {K:W.Frag}{H0 H:Hp}{μ0 μ:List Addr}{A:Addr} (st:Step K μ0 μ H0 H) (h0:H0 A=none):Step K μ0 (μ++[A]) H0 H:=by
 obtain ⟨ν,e,n⟩:=st.pre
 refine ⟨⟨ν++[A],by rw [e,List.append_assoc],fun b hb=>?_⟩,st.fr,st.tk⟩
 rcases List.mem_append.mp hb with h | h
 ·exact n b h
 ·simp at h; subst h; exact h0
theorem Step.notIn {K:W.Frag}{H H':Hp}{μ μ':List Addr}{A:Addr}{o:HO} (st:Step K μ μ' H H') (hA:A∉μ) (h:H A=some o):A∉μ':=fun z=>by
 obtain ⟨ν,rfl,n⟩:=st.pre
 rcases List.mem_append.mp z with q | q
 ·exact hA q
 ·rw [n A q] at h; cases h
inductive CompW (K:W.Frag) (items:List D) (w:Watch) (t:Tgt) (tc:CT) (c:C) (ρ0:Env1) (μ0:List Addr) (H0:Hp) (A:Addr) (S1:zA1) (ys:List D) (i m:Nat) (us:List V) (H2:Hp):Prop
 | mk (him:i+m=items.length) (hus:us.length≤i) (μ2:List Addr) (S2:zA1) (acc rest:List D) (sr:SR K μ2 S2 H2) (st:Step K μ0 μ2 H0 H2) (nA:A∉μ2) (hA:H2 A=some (.lst us)) (ra:RVs K H2 μ2 acc us) (el:loopC w t tc c ρ0 (items.drop i) S2=.ok rest S1) (eys:acc++rest=ys)
theorem of_comp {σ:St}{H:Hp}{Q:VK}{it:CI}{k:Nat}{js:List Nat}{t:Tgt}{tc:CT}{c:C} (ht:tgtK t≤k) (h1:1≤k) (h:tOf X.K (zAm it k js t tc c) σ H Q):tComp (tOfI X.K it) k js (tOfT' X.K t) (tOfT X.K tc) (tOf X.K c) σ H Q:=by
 obtain ⟨μ,ρ,S,d,S',sr,re,e,y⟩:=h
 obtain ⟨⟨items,w⟩,S0,e0,f0⟩:=zA8 e
 dsimp only at f0
 split at f0
 ·rename_i hlim
  obtain ⟨ys,S1,e1,f1⟩:=zA8 f0
  cases f1
  refine ⟨μ,ρ,S,items,w,S0,sr,re,e0,fun J H0 μ0 sr0 st0 io A hA=>?_⟩
  have reC:=(re.up st0).comp k js
  obtain ⟨srA,stA⟩:=sr0.other (o:=.lst []) hA
  have nA:A∉μ0:=sr0.out hA
  refine ⟨CompW X.K items w t tc c (stE k js ρ) μ0 H0 A S1 ys,
   ⟨items.length,⟨by simp,Nat.zero_le _,μ0,S0,[],ys,srA,stA,nA,zAy,RVs.nil,by rw [List.drop_zero]; exact e1,rfl⟩⟩,?_⟩
  rintro i m us H2 ⟨him,hus,μ2,S2,acc,rest,sr2,st2,nA2,hA2,racc,el,eys⟩
  refine And.intro hA2 ?_
  by_cases hi:i<items.length
  ·rw [List.drop_eq_getElem_cons hi] at el
   unfold loopC at el
   split at el
   ·rename_i hw
    refine .inr ⟨io.go i H2 μ2 S2 sr2 st2 hw hi,lim_lt (by omega),fun x H3 hy=>?_⟩
    obtain ⟨d,hd,sr3,st3,rv⟩:=io.yld i H2 μ2 S2 x H3 sr2 st2 hw hi hy
    have ed:items[i]=d:=by rw [List.getElem?_eq_getElem hi] at hd; exact Option.some.inj hd
    rw [ed] at el
    have hA3:H3 A=some (.lst us):=st3.fr A _ nA2 hA2
    have st03:=st2.trans st3 sr3.nd
    split at el
    ·rename_i ρ4 h4
     refine bind_ok ht (reC.up st03) rv h4 (fun σ4 re4 wk=>⟨wk,?_⟩) h1
     obtain ⟨kb,S3,e3,f3⟩:=zA8 el
     refine ⟨μ2,ρ4,S2,kb,S3,sr3,re4,e3,fun H5 μ5 sr5 st5=>?_⟩
     have hA5:H5 A=some (.lst us):=st5.fr A _ nA2 hA3
     have nA5:=st5.notIn nA2 hA3
     have st05:=st03.trans st5 sr5.nd
     have st25:=st3.trans st5 sr5.nd
     cases kb with
     | true =>
      rw [if_pos rfl] at f3 ⊢
      obtain ⟨z,S4,e4,f4⟩:=zA8 f3
      obtain ⟨zs,S5,e5,f5⟩:=zA8 f4
      obtain ⟨rfl,rfl⟩:=zAi f5
      refine ⟨μ5,ρ4,S3,z,S4,sr5,re4.up st5,e4,fun v H6 μ6 sr6 st6 rv6=>?_⟩
      have hA6:H6 A=some (.lst us):=st6.fr A _ nA5 hA5
      have nA6:=st6.notIn nA5 hA5
      have st26:=st25.trans st6 sr6.nd
      have tku:TF X.K H6 (upd H6 A (.lst (us++[v]))):=tf_lst hA6
      refine ⟨hA6,m - 1,by omega,⟨by omega,by rw [List.length_append]; show us.length+1≤i+1; omega,μ6,S4,acc++[z],zs,sr6.acc nA6 hA6,(st05.trans st6 sr6.nd).acc hA hA6,nA6,zAy,?_,e5,by rw [List.append_assoc]; exact eys⟩⟩
      exact RVs.up tku ⟨[],by simp⟩ _ _ ((RVs.up st26.tk st26.ext _ _ racc).append (.cons rv6 .nil))
     | false =>
      rw [if_neg Bool.false_ne_true] at f3 ⊢
      exact ⟨m - 1,by omega,⟨by omega,by omega,μ5,S3,acc,rest,sr5,st05,nA5,hA5,RVs.up st25.tk st25.ext _ _ racc,f3,eys⟩⟩
    ·cases el
   ·cases el
  ·have ei:i=items.length:=by omega
   subst ei
   rw [List.drop_length] at el
   unfold loopC at el
   split at el
   ·rename_i hw
    cases el
    rw [List.append_nil] at eys
    subst eys
    refine .inl ⟨io.stop H2 μ2 _ sr2 st2 hw,?_⟩
    have hA0:H A=none:=by
     cases q:H A with
     | none=>rfl
     | some o =>
      by_cases hm:A∈μ
      ·exact absurd (st0.mem hm) nA
      ·rw [st0.fr A o hm q] at hA; cases hA
    have sr3:=sr2.adopt nA2 hA2 racc
    refine y (.ref A) H2 (μ2++[A]) sr3 ((st0.trans st2 sr2.nd).adopt hA0) ?_
    unfold RV
    exact ⟨A,rfl,by rw [← sr2.len,List.getElem?_append_right (Nat.le_refl _),Nat.sub_self]; rfl⟩
   ·cases el
 ·cases f0
end
open PySem PySem.Spec PyProof.Rows
structure Sc where
 N:List Str
 names:List (Str × NameKind)
 fn:Option Str
structure XOk (X:Cx) (sc:Sc) (ar:Str→Option Nat) (cl:Str→List D→M D) (k:Nat):Prop where
 calm:X.calm=true
 N:X.N=sc.N
 nd:sc.N.Nodup
 gl:∀ x,sc.names.lookup x=some .globalImplicit→Gl X x
 loc:∀ x,sc.names.lookup x=some .local→X.env.scope.names.lookup x=some .local
 cel:∀ x,sc.names.lookup x=some .cell→X.env.scope.names.lookup x=some .cell
 fre:∀ x,sc.names.lookup x=some .free→X.env.scope.names.lookup x=some .cell∨X.env.scope.names.lookup x=some .free
 fnn:sc.fn.isSome=true→∀ x,X.fn x=true
 room:Room k X.A
 xe:X.xe=fun _ _=>False
 blt:∀ x:Str,x∈(["len","range","list","tuple","min","max","zip","isinstance","all","any","int","bool","enumerate","str","sorted","dict","sum","repr","set","abs"]:List Str)→ar x=none→X.mg x=none
 fns:∀ x n,ar x=some n→(∃ ps,Callee X.prog X.w X.K X.mg X.base x ps k (spOf X.K (cl x) n))∧∀ ds S d S',cl x ds S=.ok d S'→ds.length=n
section
variable {X:Cx}{sc:Sc}{ar:Str→Option Nat}{cl:Str→List D→M D}{k:Nat}
theorem XOk.vis (h:XOk X sc ar cl k) {x:Str} (hv:sc.names.lookup x=some .local∨sc.names.lookup x=some .cell∨sc.names.lookup x=some .free):Vis X.env.scope x:=by
 rcases hv with q | q | q
 ·exact .inl (h.loc x q)
 ·exact .inr (.inl (h.cel x q))
 ·exact .inr (h.fre x q)
noncomputable def isVis (o:Option NameKind):Bool:=o == some .local||o == some .cell||o == some .free
theorem isVis_or {o:Option NameKind} (h:isVis o=true):o=some .local∨o=some .cell∨o=some .free:=by
 unfold isVis at h
 simp only [Bool.or_eq_true,beq_iff_eq] at h
 rcases h with (h | h) | h
 ·exact .inl h
 ·exact .inr (.inl h)
 ·exact .inr (.inr h)
noncomputable def slotOf:List Str→Str→Nat→Option Nat
 | [],_,_=>none
 | y::r,x,i=>if y=x then some i else slotOf r x (i+1)
theorem slotOf_get:∀ {N:List Str}{x:Str}{i j:Nat},slotOf N x i=some j→i≤j∧N[j - i]?=some x
 | [],_,_,_,h=>by cases h
 | y::r,x,i,j,h=>by
  unfold slotOf at h
  split at h
  ·rename_i e; cases h; subst e; exact ⟨Nat.le_refl _,by simp⟩
  ·obtain ⟨h1,h2⟩:=slotOf_get h
   refine ⟨by omega,?_⟩
   have e:j - i=(j - (i+1))+1:=by omega
   rw [e,List.getElem?_cons_succ]; exact h2
noncomputable def cName (sc:Sc) (ar:Str→Option Nat) (x:Str):Option C:=match slotOf sc.N x 0 with
 | some i=>if isVis (sc.names.lookup x)&&!(x == ("__debug__":Str))&&!(x == ("__classdict__":Str)) then some (cVar i) else none
 | none=>if sc.names.lookup x=some .globalImplicit∧ar x=none then
   (if x=("int":Str) then some (cCon (.ty "int")) else if x=("bool":Str) then some (cCon (.ty "bool")) else if x=("tuple":Str) then some (cCon (.ty "tuple"))
    else if x=("list":Str) then some (cCon (.ty "list")) else if x=("str":Str) then some (cCon (.ty "str")) else none)
  else none
theorem s_name (h:XOk X sc ar cl k) {x:Str}{pos:Pos}{c:C} (e:cName sc ar x=some c):PE X (.Name x pos) (tOf X.K c):=by
 unfold cName at e
 split at e
 ·rename_i i hi
  split at e
  ·rename_i hv
   cases e
   simp only [Bool.and_eq_true,Bool.not_eq_true'] at hv
   obtain ⟨⟨h1,h2⟩,h3⟩:=hv
   have:=(slotOf_get hi).2
   exact se_var (pe_var (by rw [h.N]; exact this) (h.vis (isVis_or h1)) h2 h3)
  ·cases e
 ·split at e
  ·rename_i hg
   have g:=h.gl x hg.1
   have ty:∀ (n:String) (b:bootBuiltins x=some (.type n)) (hn:x ≠ "__name__") (hd:(x == ("__debug__":Str))=false) (hm:X.mg x=none),PE X (.Name x pos) (tOf X.K (cCon (.ty n))):=fun n b hn hd hm =>
    se_con (pe_bltn (v:=.ty n) g hm b rfl hn hd) fun K H μ=>by unfold RV; rfl
   split at e
   ·rename_i q; subst q; cases e
    exact ty "int" bt_int (by decide +kernel) (by decide +kernel) (h.blt _ (by decide +kernel) hg.2)
   ·split at e
    ·rename_i q; subst q; cases e
     exact ty "bool" bt_bool (by decide +kernel) (by decide +kernel) (h.blt _ (by decide +kernel) hg.2)
    ·split at e
     ·rename_i q; subst q; cases e
      exact ty "tuple" bt_tuple (by decide +kernel) (by decide +kernel) (h.blt _ (by decide +kernel) hg.2)
     ·split at e
      ·rename_i q; subst q; cases e
       exact ty "list" bt_list (by decide +kernel) (by decide +kernel) (h.blt _ (by decide +kernel) hg.2)
      ·split at e
       ·rename_i q; subst q; cases e
        exact ty "str" bt_str (by decide +kernel) (by decide +kernel) (h.blt _ (by decide +kernel) hg.2)
       ·cases e
  ·cases e
noncomputable def cConst:Const→Option C
 | .none=>some (cCon .non)
 | .bool b=>some (cCon (.bl b))
 | .int i=>some (cCon (.int i))
 | .str x=>some (cCon (.str x))
 | _=>none
theorem s_const {v:Const}{j:Nat}{pos:Pos}{c:C} (e:cConst v=some c):PE X (.Constant v j pos) (tOf X.K c):=by
 cases v with
 | none=>cases e; exact se_con pe_non fun _ _ _=>rv_non
 | bool b=>cases e; exact se_con pe_bl fun _ _ _=>rv_bl
 | int i=>cases e; exact se_con pe_int fun _ _ _=>zB1
 | str x=>cases e; exact se_con pe_str fun _ _ _=>rv_str
 | _=>cases e
noncomputable def opBin:Operator→Option (D→D→M D)
 | .Add=>some oAdd
 | .Sub=>some (oInt fun i j=>i - j)
 | .Mult=>some oMul
 | .Mod=>some oMod
 | .FloorDiv=>some oDiv
 | .Pow=>some oPow
 | .LShift=>some oShl
 | .RShift=>some oShr
 | .BitAnd=>some (oInt Builtin.bitAnd)
 | .BitOr=>some (oInt Builtin.bitOr)
 | .BitXor=>some (oInt Builtin.bitXor)
 | _=>none
theorem s_op {op:Operator}{o:D→D→M D} (e:opBin op=some o):OpS X.K (rAny X (binaryOp op)) o:=by
 cases op with
 | Add=>cases e; exact os_add
 | Sub=>cases e; exact os_sub
 | Mult=>cases e; exact os_mul
 | Mod=>cases e; exact os_mod
 | FloorDiv=>cases e; exact os_div
 | Pow=>cases e; exact os_pow
 | LShift=>cases e; exact os_shl
 | RShift=>cases e; exact os_shr
 | BitAnd=>cases e; exact os_and
 | BitOr=>cases e; exact os_or
 | BitXor=>cases e; exact os_xor
 | _=>cases e
noncomputable def opCmp:CmpOp→Option (D→D→M D)
 | .Eq=>some oEq
 | .NotEq=>some oNe
 | .Lt=>some oLt
 | .LtE=>some (oCmp fun i j=>decide (i≤j))
 | .Gt=>some (oCmp fun i j=>decide (j<i))
 | .GtE=>some (oCmp fun i j=>decide (j≤i))
 | .Is=>some oIs
 | .IsNot=>some oIsNot
 | .In=>some (oIn false)
 | .NotIn=>some (oIn true)
theorem s_cmp (h:Room k X.A) {op:CmpOp}{o:D→D→M D} (e:opCmp op=some o):OpS X.K (rAny X (compareOp op)) o:=by
 have h1:=h.units
 have h2:=h.units0
 have h3:X.A.units+1<cLine:=hu_of h
 cases op with
 | Eq=>cases e; exact os_eq h1
 | NotEq=>cases e; exact os_ne h1
 | Lt=>cases e; exact os_lt h2
 | LtE=>cases e; exact os_le
 | Gt=>cases e; exact os_gt
 | GtE=>cases e; exact os_ge
 | Is=>cases e; exact os_is
 | IsNot=>cases e; exact os_isNot
 | In=>cases e; exact os_in h1
 | NotIn=>cases e; exact os_notIn h1
noncomputable def zAW:Expr→Bool
 | .Starred _ _=>false
 | _=>true
theorem zAl {a:Expr}{es:List Expr}{env:Env} (h:zAW a=true):starEach (a::es) env=(false,eval a env)::starEach es env:=by
 cases a <;> first | rfl | cases h
noncomputable def zA0? (f:Expr→Option C):List Expr→Option (List C)
 | []=>some []
 | e::es=>if zAW e then (f e).bind fun c=>(zA0? f es).map (c::·) else none
def Keeps (X:Cx) (f:Expr→Option C):Prop:=∀ e c,f e=some c→PE X e (tOf X.K c)
variable {f:Expr→Option C}
theorem s_args (hf:Keeps X f):∀ {es:List Expr}{cs:List C},zA0? f es=some cs→PA X es (tOfA X.K (zA0 cs))∧(∀ e∈es,zAW e=true)
 | [],cs,e=>by cases e; exact ⟨sa_nil,by simp⟩
 | a::es,cs,e=>by
  unfold zA0? at e
  split at e
  ·rename_i hs
   obtain ⟨c,e1,e⟩:=Option.bind_eq_some_iff.mp e
   obtain ⟨cs',e2,e⟩:=Option.map_eq_some_iff.mp e
   subst e
   obtain ⟨h1,h2⟩:=s_args hf e2
   exact ⟨sa_cons (hf a c e1) h1 (zAl hs),fun e he=>by
    rcases List.mem_cons.mp he with rfl | he
    ·exact hs
    ·exact h2 e he⟩
  ·cases e
theorem noStar_any {es:List Expr}{env:Env}{pos:Pos} (h:∀ e∈es,zAW e=true):(backTo pos (starEach es env)).any (·.1)=false:=by
 induction es with
 | nil=>rfl
 | cons a es ih =>
  rw [zAl (h a (by simp))]
  show (false||(backTo pos (starEach es env)).any (·.1))=false
  rw [ih fun e he=>h e (by simp [he])]; rfl
noncomputable def isSlice:Expr→Bool
 | .Slice _ _ _ _=>true
 | _=>false
theorem plainIx {b:Expr} (h:isSlice b=false):PlainIx b:=by
 cases b <;> first | (intro o i; rfl) | cases h
noncomputable def zAs? (f:Expr→Option C):Option Expr→Option CO
 | none=>some zAa
 | some e=>(f e).map zAs
theorem s_part (hf:Keeps X f) {e:Option Expr}{c:CO} (h:zAs? f e=some c):PO X e (tOfO X.K c):=by
 cases e with
 | none=>cases h; exact so_none
 | some a =>
  obtain ⟨ca,e1,e2⟩:=Option.map_eq_some_iff.mp h
  subst e2
  exact so_some (hf a ca e1)
noncomputable def cSub (f:Expr→Option C) (a b:Expr):Option C:=match b with
 | .Slice lo hi none _=>(f a).bind fun ca=>(zAs? f lo).bind fun cl=>(zAs? f hi).map fun ch=>cSl oSl ca cl ch
 | .Slice none none (some st) _=>(f a).bind fun ca=>(f st).map fun cs=>cBin oRev ca cs
 | _=>if isSlice b then none else (f a).bind fun ca=>(f b).map fun cb=>cBin oIx ca cb
theorem s_sub (h:Room k X.A) (hf:Keeps X f) {a b:Expr}{pos:Pos}{c:C} (e:cSub f a b=some c):PE X (.Subscript a b pos) (tOf X.K c):=by
 unfold cSub at e
 split at e
 ·obtain ⟨ca,e1,e⟩:=Option.bind_eq_some_iff.mp e
  obtain ⟨cl,e2,e⟩:=Option.bind_eq_some_iff.mp e
  obtain ⟨ch,e3,e⟩:=Option.map_eq_some_iff.mp e
  subst e
  exact se_slice ss_sl (hf a ca e1) (s_part hf e2) (s_part hf e3)
 ·obtain ⟨ca,e1,e⟩:=Option.bind_eq_some_iff.mp e
  obtain ⟨cs,e2,e⟩:=Option.map_eq_some_iff.mp e
  subst e
  exact se_rev (hf _ _ e1) (hf _ _ e2)
 ·split at e
  ·cases e
  ·rename_i hs
   obtain ⟨ca,e1,e⟩:=Option.bind_eq_some_iff.mp e
   obtain ⟨cb,e2,e⟩:=Option.map_eq_some_iff.mp e
   subst e
   exact se_ix (os_ix (hu_of h)) (hf a ca e1) (hf b cb e2) (plainIx (by simpa using hs))
noncomputable def cCompare (f:Expr→Option C) (a:Expr) (ops:List CmpOp) (bs:List Expr):Option C:=match ops,bs with
 | [op],[b]=>if behindInMarks op b then none else (opCmp op).bind fun o=>(f a).bind fun ca=>(f b).map fun cb=>cBin o ca cb
 | [op,op'],[b,c]=>if lastMarks [op,op'] [b,c] then none else (opCmp op).bind fun o=>(opCmp op').bind fun o'=>(f a).bind fun ca=>(f b).bind fun cb=>(f c).map fun cc=>cChain o o' ca cb cc
 | _,_=>none
theorem s_compare (h:Room k X.A) (hf:Keeps X f) {a:Expr}{ops:List CmpOp}{bs:List Expr}{pos:Pos}{c:C} (e:cCompare f a ops bs=some c):PE X (.Compare a ops bs pos) (tOf X.K c):=by
 unfold cCompare at e
 split at e
 ·rename_i op b
  split at e
  ·cases e
  ·rename_i hm
   obtain ⟨o,e0,e⟩:=Option.bind_eq_some_iff.mp e
   obtain ⟨ca,e1,e⟩:=Option.bind_eq_some_iff.mp e
   obtain ⟨cb,e2,e⟩:=Option.map_eq_some_iff.mp e
   subst e
   exact se_cmp (s_cmp h e0) (hf a ca e1) (hf b cb e2) (by simpa using hm)
 ·rename_i op op' b c
  split at e
  ·cases e
  ·rename_i hm
   obtain ⟨o,e0,e⟩:=Option.bind_eq_some_iff.mp e
   obtain ⟨o',e0',e⟩:=Option.bind_eq_some_iff.mp e
   obtain ⟨ca,e1,e⟩:=Option.bind_eq_some_iff.mp e
   obtain ⟨cb,e2,e⟩:=Option.bind_eq_some_iff.mp e
   obtain ⟨cc,e3,e⟩:=Option.map_eq_some_iff.mp e
   subst e
   exact se_chain (s_cmp h e0) (s_cmp h e0') (hf a ca e1) (hf b cb e2) (hf c cc e3) (by simpa using hm)
 ·cases e
noncomputable def tCompare (f:Expr→Option C) (a:Expr) (ops:List CmpOp) (bs:List Expr):Option CT:=match ops,bs with
 | [op,op',op2],[b,c,d]=>if lastMarks [op,op',op2] [b,c,d] then none else (opCmp op).bind fun o=>(opCmp op').bind fun o'=>(opCmp op2).bind fun o2=>(f a).bind fun ca=>(f b).bind fun cb=>(f c).bind fun cc=>(f d).map fun cd=>cChain3 o o' o2 ca cb cc cd
 | ops,bs=>(cCompare f a ops bs).map zA9
theorem s_tcompare (h:Room k X.A) (hf:Keeps X f) {a:Expr}{ops:List CmpOp}{bs:List Expr}{pos:Pos}{c:CT} (e:tCompare f a ops bs=some c):PT X (.Compare a ops bs pos) (tOfT X.K c):=by
 unfold tCompare at e
 split at e
 ·rename_i op op' op2 b c d
  split at e
  ·cases e
  ·rename_i hm
   obtain ⟨o,e0,e⟩:=Option.bind_eq_some_iff.mp e
   obtain ⟨o',e0',e⟩:=Option.bind_eq_some_iff.mp e
   obtain ⟨o2,e02,e⟩:=Option.bind_eq_some_iff.mp e
   obtain ⟨ca,e1,e⟩:=Option.bind_eq_some_iff.mp e
   obtain ⟨cb,e2,e⟩:=Option.bind_eq_some_iff.mp e
   obtain ⟨cc,e3,e⟩:=Option.bind_eq_some_iff.mp e
   obtain ⟨cd,e4,e⟩:=Option.map_eq_some_iff.mp e
   subst e
   exact st_chain3 (s_cmp h e0) (s_cmp h e0') (s_cmp h e02) (hf a ca e1) (hf b cb e2) (hf c cc e3) (hf d cd e4) (by simpa using hm)
 ·obtain ⟨cc,e1,e⟩:=Option.map_eq_some_iff.mp e
  subst e
  unfold cCompare at e1
  split at e1
  ·split at e1
   ·cases e1
   ·rename_i hm
    obtain ⟨o,e0,e⟩:=Option.bind_eq_some_iff.mp e1
    obtain ⟨ca,g1,e⟩:=Option.bind_eq_some_iff.mp e
    obtain ⟨cb,e2,e⟩:=Option.map_eq_some_iff.mp e
    subst e
    exact st_cmp (s_cmp h e0) (hf _ ca g1) (hf _ cb e2) (by simpa using hm)
  ·split at e1
   ·cases e1
   ·rename_i hm
    obtain ⟨o,e0,e⟩:=Option.bind_eq_some_iff.mp e1
    obtain ⟨o',e0',e⟩:=Option.bind_eq_some_iff.mp e
    obtain ⟨ca,g1,e⟩:=Option.bind_eq_some_iff.mp e
    obtain ⟨cb,e2,e⟩:=Option.bind_eq_some_iff.mp e
    obtain ⟨cc,e3,e⟩:=Option.map_eq_some_iff.mp e
    subst e
    exact st_chain (s_cmp h e0) (s_cmp h e0') (hf _ ca g1) (hf _ cb e2) (hf _ cc e3) (by simpa using hm)
  ·cases e1
noncomputable def plainRecv:Expr→Bool
 | .Name _ _=>true
 | .Subscript _ _ _=>true
 | .Call _ (_::_) _ _=>true
 | _=>false
theorem base_ok {o:Expr}{name:Str}{env:Env} (h:plainRecv o=true):attributeBase o name env (eval o env)=eval o env:=by
 cases o with
 | Call f args kw pos =>
  cases args with
  | nil=>cases h
  | cons a r=>cases f <;> rfl
 | _=>first | rfl | cases h
noncomputable def bltOf (x:Str):Option (List D→M D) :=
 if x=("len":Str) then some fLen else
 if x=("isinstance":Str) then some zAp else
 if x=("tuple":Str) then some zAe else
 if x=("list":Str) then some fList else
 if x=("min":Str) then some fMin else
 if x=("max":Str) then some fMax else
 if x=("all":Str) then some (fBools fun bs=>bs.all id) else
 if x=("any":Str) then some (fBools fun bs=>bs.any id) else
 if x=("int":Str) then some fInt else
 if x=("sorted":Str) then some fSorted else
 if x=("sum":Str) then some fSum else
 none
noncomputable def rangeArgs:Expr→Option (List Expr)
 | .Call (.Name x _) as [] _=>if x=("range":Str) then some as else none
 | _=>none
noncomputable def fListR:List D→M D:=fun xs S=>match xs with
 | [.int j]=>if -4611686018427387904≤j∧j<4611686018427387904∧j≤1000 then .ok (.lst S.length) (S++[.lst (upD 0 j.toNat)]) else .bad
 | [.int i,.int j]=>if -4611686018427387904≤i∧i<4611686018427387904∧-4611686018427387904≤j∧j<4611686018427387904∧j - i≤1000 then .ok (.lst S.length) (S++[.lst (upD i (j - i).toNat)]) else .bad
 | _=>.bad
noncomputable def cCallN (sc:Sc) (ar:Str→Option Nat) (cl:Str→List D→M D) (f:Expr→Option C) (x:Str) (es:List Expr):Option C :=
 if sc.names.lookup x=some .globalImplicit then
  match ar x with
  | some n=>if es.length=n∧es≠[]∧(x == ("__debug__":Str))=false then (zA0? f es).map fun cs=>cApp (cl x) (zA0 cs) else none
  | none=>match es with
   | [e] =>
    match rangeArgs e with
    | some as=>if x=("list":Str)∧ar "range"=none∧sc.names.lookup ("range":Str)=some .globalImplicit∧(as.length=1∨as.length=2) then (zA0? f as).map fun cs=>cApp fListR (zA0 cs) else none
    | none=>(bltOf x).bind fun o=>(zA0? f es).map fun cs=>cApp o (zA0 cs)
   | _::_=>(bltOf x).bind fun o=>(zA0? f es).map fun cs=>cApp o (zA0 cs)
   | []=>none
 else none
theorem vals_upD {K:W.Frag}{H:Hp}{μ:List Addr} (lo:Int) (n:Nat):RVs K H μ (upD lo n) (upV lo n):=by
 unfold upD upV
 generalize List.range n=l
 induction l with
 | nil=>exact .nil
 | cons a r ih=>exact .cons zB1 ih
set_option maxHeartbeats 2000000 in
theorem s_blt (h:XOk X sc ar cl k) {x:Str} (hx:sc.names.lookup x=some .globalImplicit) (hn:ar x=none) {o:List D→M D} (eo:bltOf x=some o) {e:Expr}{es:List Expr}{cs:List C} (ha:PA X (e::es) (tOfA X.K (zA0 cs))) (hs:∀ a∈e::es,zAW a=true) {p pos:Pos}:PE X (.Call (.Name x p) (e::es) [] pos) (tOf X.K (cApp o (zA0 cs))):=by
 have g:=h.gl x hx
 have s1:=zAl (es:=es) (env:=X.env) (hs e (by simp))
 have s2:(backTo pos (starEach es X.env)).any (·.1)=false:=noStar_any fun a ha=>hs a (by simp [ha])
 unfold bltOf at eo
 have B:∀ (id:String) (hb:bootBuiltins x=some (.builtin id)) (hm:X.mg x=none) (hne:x ≠ "__name__") (hd:(x == ("__debug__":Str))=false) (o:List D→M D),CallS X.K (cAny X (.builtin id)) o→PE X (.Call (.Name x p) (e::es) [] pos) (tOf X.K (cApp o (zA0 cs))):=fun id hb hm hne hd o ho =>
  (pe_callB callAny g hm hb ha hne hd s1 s2).weak (of_app ho)
 have T:∀ (id:String) (hb:bootBuiltins x=some (.type id)) (hm:X.mg x=none) (hne:x ≠ "__name__") (hd:(x == ("__debug__":Str))=false) (o:List D→M D),CallS X.K (cAny X (.type id)) o→PE X (.Call (.Name x p) (e::es) [] pos) (tOf X.K (cApp o (zA0 cs))):=fun id hb hm hne hd o ho =>
  (pe_callTy callAny g hm hb ha hne hd s1 s2).weak (of_app ho)
 split at eo
 ·rename_i q; subst q; cases eo; exact B "len" bt_len (h.blt _ (by decide +kernel) hn) (by decide +kernel) (by decide +kernel) _ cs_len
 split at eo
 ·rename_i q; subst q; cases eo; exact B "isinstance" bt_isinstance (h.blt _ (by decide +kernel) hn) (by decide +kernel) (by decide +kernel) _ cs_inst
 split at eo
 ·rename_i q; subst q; cases eo; exact T "tuple" bt_tuple (h.blt _ (by decide +kernel) hn) (by decide +kernel) (by decide +kernel) _ cs_tuple
 split at eo
 ·rename_i q; subst q; cases eo; exact T "list" bt_list (h.blt _ (by decide +kernel) hn) (by decide +kernel) (by decide +kernel) _ cs_list
 split at eo
 ·rename_i q; subst q; cases eo; exact B "min" bt_min (h.blt _ (by decide +kernel) hn) (by decide +kernel) (by decide +kernel) _ (cs_min h.calm)
 split at eo
 ·rename_i q; subst q; cases eo; exact B "max" bt_max (h.blt _ (by decide +kernel) hn) (by decide +kernel) (by decide +kernel) _ (cs_max h.calm)
 split at eo
 ·rename_i q; subst q; cases eo; exact B "all" bt_all (h.blt _ (by decide +kernel) hn) (by decide +kernel) (by decide +kernel) _ (cs_all h.calm)
 split at eo
 ·rename_i q; subst q; cases eo; exact B "any" bt_any (h.blt _ (by decide +kernel) hn) (by decide +kernel) (by decide +kernel) _ (cs_any h.calm)
 split at eo
 ·rename_i q; subst q; cases eo; exact T "int" bt_int (h.blt _ (by decide +kernel) hn) (by decide +kernel) (by decide +kernel) _ cs_int
 split at eo
 ·rename_i q; subst q; cases eo; exact B "sorted" (by decide +kernel) (h.blt _ (by decide +kernel) hn) (by decide +kernel) (by decide +kernel) _ (cs_sorted h.calm)
 split at eo
 ·rename_i q; subst q; cases eo; exact B "sum" (by decide +kernel) (h.blt _ (by decide +kernel) hn) (by decide +kernel) (by decide +kernel) _ (cs_sum h.calm)
 cases eo
theorem s_listR (h:XOk X sc ar cl k) (hx:sc.names.lookup ("list":Str)=some .globalImplicit) (hn:ar "list"=none) (hr:sc.names.lookup ("range":Str)=some .globalImplicit) (hnr:ar "range"=none) {as:List Expr}{cs:List C} (ha:PA X as (tOfA X.K (zA0 cs))) (hs:∀ a∈as,zAW a=true) (hl:as.length=1∨as.length=2) {p pos p2 pos2:Pos} :
  PE X (.Call (.Name "list" p) [.Call (.Name "range" p2) as [] pos2] [] pos) (tOf X.K (cApp fListR (zA0 cs))):=by
 have g1:=h.gl _ hx
 have g2:=h.gl _ hr
 have R:PE X (.Call (.Name "range" p2) as [] pos2) (tCB (cAny X (.type "range")) (tOfA X.K (zA0 cs))):=by
  cases as with
  | nil=>simp at hl
  | cons e es=>exact pe_callTy callAny g2 (h.blt _ (by decide +kernel) hnr) bt_range ha (by decide +kernel) (by decide +kernel) (zAl (hs e (by simp))) (noStar_any fun a ha=>hs a (by simp [ha]))
 have L:=pe_callTy (p:=p) (pos:=pos) (callAny (X:=X) (f:=.type "list")) g1 (h.blt _ (by decide +kernel) hn) bt_list (pa_cons R pa_nil rfl) (by decide +kernel) (by decide +kernel) rfl rfl
 refine L.weak ?_
 rintro σ H Q ⟨μ,ρ,S,d,S',sr,re,e,y⟩
 obtain ⟨xs,S1,e1,e⟩:=zA8 e
 refine ⟨μ,ρ,S,xs,S1,sr,re,e1,fun vs H1 μ1 sr1 st1 r1=>?_⟩
 have y1:=y.shift st1
 have fin:∀ (i j:Int),-4611686018427387904≤i→i<4611686018427387904→-4611686018427387904≤j→j<4611686018427387904→j - i≤1000→Yld X.K μ1 H1 (.lst S1.length) (S1++[.lst (upD i (j - i).toNat)]) Q→∀ q,H1 q=none→cAny X (.type "list") [.ref q] (upd H1 q (.rng i j)) Q:=by
  intro i j b1 b2 b3 b4 b5 y1 q hq
  obtain ⟨sr2,st2⟩:=sr1.other (o:=.rng i j) hq
  exact ⟨_,call_list_rng h.calm,q,i,j,rfl,zAy,b1,b2,b3,b4,by omega,fun l hl=>(y1.shift st2).newL sr2 hl (vals_upD _ _)⟩
 unfold fListR at e
 split at e
 ·rename_i j
  split at e
  ·rename_i hb
   cases e
   obtain ⟨v,rfl,r⟩:=r1.one
   unfold RV at r; subst r
   refine ⟨_,call_range1,j,rfl,fun q hq=>?_⟩
   have:=fin 0 j (by decide) (by decide) hb.1 hb.2.1 (by omega) (by rw [Int.sub_zero]; exact y1) q hq
   exact this
  ·cases e
 ·rename_i i j
  split at e
  ·rename_i hb
   cases e
   obtain ⟨v,u,rfl,r,r'⟩:=r1.two
   unfold RV at r r'; subst r r'
   exact ⟨_,call_range2,i,j,rfl,fun q hq=>fin i j hb.1 hb.2.1 hb.2.2.1 hb.2.2.2.1 hb.2.2.2.2 y1 q hq⟩
  ·cases e
 ·cases e
theorem s_callN (h:XOk X sc ar cl k) (hf:Keeps X f) {x:Str}{es:List Expr}{c:C}{p pos:Pos} (e:cCallN sc ar cl f x es=some c):PE X (.Call (.Name x p) es [] pos) (tOf X.K c):=by
 unfold cCallN at e
 split at e
 ·rename_i hx
  split at e
  ·rename_i n hn
   split at e
   ·rename_i hc
    obtain ⟨hl,hne,hd⟩:=hc
    obtain ⟨cs,e1,e⟩:=Option.map_eq_some_iff.mp e
    subst e
    obtain ⟨h1,h2⟩:=s_args hf e1
    obtain ⟨⟨ps,Ca⟩,hlen⟩:=h.fns x n hn
    cases es with
    | nil=>exact absurd rfl hne
    | cons a es =>
     exact (pe_callC (p:=p) (pos:=pos) Ca h.room (h.gl x hx) h1 (Nat.le_refl _) hd (zAl (h2 a (by simp))) (noStar_any fun b hb=>h2 b (by simp [hb]))).weak (of_call hlen)
   ·cases e
  ·rename_i hn
   split at e
   ·rename_i a
    split at e
    ·rename_i as ha
     split at e
     ·rename_i hc
      obtain ⟨rfl,hnr,hr,hl⟩:=hc
      obtain ⟨cs,e1,e⟩:=Option.map_eq_some_iff.mp e
      subst e
      obtain ⟨h1,h2⟩:=s_args hf e1
      unfold rangeArgs at ha
      split at ha
      ·rename_i x' p' as' pos'
       split at ha
       ·rename_i q; subst q; cases ha
        exact s_listR h hx hn hr hnr h1 h2 hl
       ·cases ha
      ·cases ha
     ·cases e
    ·obtain ⟨o,e0,e⟩:=Option.bind_eq_some_iff.mp e
     obtain ⟨cs,e1,e⟩:=Option.map_eq_some_iff.mp e
     subst e
     obtain ⟨h1,h2⟩:=s_args hf e1
     exact s_blt h hx hn e0 h1 h2
   ·obtain ⟨o,e0,e⟩:=Option.bind_eq_some_iff.mp e
    obtain ⟨cs,e1,e⟩:=Option.map_eq_some_iff.mp e
    subst e
    obtain ⟨h1,h2⟩:=s_args hf e1
    exact s_blt h hx hn e0 h1 h2
   ·cases e
 ·cases e
end
open PySem PySem.Spec PyProof.Rows
section
variable {X:Cx}{sc:Sc}{ar:Str→Option Nat}{cl:Str→List D→M D}{k:Nat}{f:Expr→Option C}
noncomputable def meth0 (m:Str) (co:C):Option C :=
 if m=("pop":Str) then some (cMeth0 "list" (mList gPop) co) else
 none
noncomputable def meth1 (m:Str) (co ca:C):Option C :=
 if m=("append":Str) then some (cMeth "list" (mList gAppend) co (zA0 [ca])) else
 if m=("extend":Str) then some (cMeth "list" mExtend co (zA0 [ca])) else
 none
noncomputable def meth2 (m:Str) (co ca cb:C):Option C :=
 if m=("insert":Str) then some (cMeth "list" (mList gInsert) co (zA0 [ca,cb])) else
 none
noncomputable def cMethod (f:Expr→Option C) (o:Expr) (m:Str) (es:List Expr) (apos cpos:Pos):Option C :=
 if plainRecv o&&(apos.endLine == cpos.line) then (f o).bind fun co=>match es with
  | []=>meth0 m co
  | [a]=>if zAW a then (f a).bind fun ca=>meth1 m co ca else none
  | [a,b]=>if zAW a&&zAW b then (f a).bind fun ca=>(f b).bind fun cb=>meth2 m co ca cb else none
  | _=>none
 else none
theorem s_method (hr0:Room k X.A) (hf:Keeps X f) {o:Expr}{m:Str}{es:List Expr}{apos cpos:Pos}{c:C} (e:cMethod f o m es apos cpos=some c):PE X (.Call (.Attribute o m apos) es [] cpos) (tOf X.K c):=by
 unfold cMethod at e
 split at e
 ·rename_i hc
  rw [Bool.and_eq_true] at hc
  obtain ⟨hr,hl⟩:=hc
  obtain ⟨co,e0,g⟩:=Option.bind_eq_some_iff.mp e
  clear e
  have hb:∀ name,attributeBase o name X.env (eval o X.env)=eval o X.env:=fun name=>base_ok hr
  split at g
  ·unfold meth0 at g
   split at g
   ·rename_i q; subst q; cases g
    exact se_meth0 PySem.F.plainAttrs_list PySem.F.slot_list_pop PySem.F.type_list_pop ms_pop (hf o co e0) (hb _) hl
   cases g
  ·rename_i a
   split at g
   ·rename_i hs
    obtain ⟨ca,e1,g'⟩:=Option.bind_eq_some_iff.mp g
    clear g
    have s1:=zAl (es:=[]) (env:=X.env) hs
    have hA:PA X [a] (tOfA X.K (zA0 [ca])):=sa_cons (hf a ca e1) sa_nil s1
    have hfew:((backTo cpos (starEach [a] X.env)).all (fun x=>!x.1)&&(backToKw cpos (keywordEach [] X.env)).all (fun x=>x.1.isSome)
     && decide ([a].length+([]:List Keyword).length+(if ([]:List Keyword).isEmpty then 0 else 1)<30))=true:=by rw [s1]; rfl
    unfold meth1 at g'
    split at g'
    ·rename_i q; subst q; cases g'
     exact se_meth PySem.F.plainAttrs_list PySem.F.slot_list_append PySem.F.type_list_append ms_append (hf o co e0) hA (hb _) hfew hl s1 rfl
    split at g'
    ·rename_i q; subst q; cases g'
     exact se_meth PySem.F.plainAttrs_list PySem.F.slot_list_extend PySem.F.type_list_extend ms_extend (hf o co e0) hA (hb _) hfew hl s1 rfl
    cases g'
   ·cases g
  ·rename_i a b
   split at g
   ·rename_i hs
    rw [Bool.and_eq_true] at hs
    obtain ⟨ca,e1,g1⟩:=Option.bind_eq_some_iff.mp g
    obtain ⟨cb,e2,g'⟩:=Option.bind_eq_some_iff.mp g1
    clear g g1
    have s2:=zAl (es:=[]) (env:=X.env) hs.2
    have s1:=zAl (es:=[b]) (env:=X.env) hs.1
    have hA:PA X [a,b] (tOfA X.K (zA0 [ca,cb])):=sa_cons (hf a ca e1) (sa_cons (hf b cb e2) sa_nil s2) s1
    have hfew:((backTo cpos (starEach [a,b] X.env)).all (fun x=>!x.1)&&(backToKw cpos (keywordEach [] X.env)).all (fun x=>x.1.isSome)
     && decide ([a,b].length+([]:List Keyword).length+(if ([]:List Keyword).isEmpty then 0 else 1)<30))=true:=by rw [s1,s2]; rfl
    unfold meth2 at g'
    split at g'
    ·rename_i q; subst q; cases g'
     exact se_meth PySem.F.plainAttrs_list PySem.F.slot_list_insert PySem.F.type_list_insert ms_insert (hf o co e0) hA (hb _) hfew hl s1 (by rw [s2]; rfl)
    cases g'
   ·cases g
  ·cases g
 ·cases e
noncomputable def cDNew:C:=fun _ S=>.ok (.dct S.length) (S++[.dk []])
theorem se_dnew {pos:Pos}:PE X (.Dict [] [] pos) (tOf X.K cDNew):=pe_dnewK.weak (by
 rintro σ H Q ⟨μ,ρ,S,d,S',sr,re,e,y⟩
 unfold cDNew at e
 cases e
 intro p hp
 obtain ⟨s1,s2⟩:=sr.push (o:=.dK []) (o':=.dk []) hp ⟨[],zAy,RKs.nil⟩
 exact y _ _ _ s1 s2 (by unfold RV; exact ⟨p,rfl,by rw [← sr.len,List.getElem?_append_right (Nat.le_refl _),Nat.sub_self]; rfl⟩))
noncomputable def cDOne (a b:C):C:=fun ρ=>bnd (a ρ) fun x=>bnd (b ρ) fun y S=>match keyOf x with
 | some k=>.ok (.dct S.length) (S++[.dk [(k,y)]])
 | none=>.bad
theorem se_done {a b:Expr}{ca cb:C}{pos:Pos} (ha:PE X a (tOf X.K ca)) (hb:PE X b (tOf X.K cb)):PE X (.Dict [some a] [b] pos) (tOf X.K (cDOne ca cb)):=(pe_disp (pps_cons ha hb pps_nil) rfl rfl (by simp) (by simp)).weak (by
 rintro σ H Q ⟨μ,ρ,S,d,S',sr,re,e,y⟩
 obtain ⟨x,S1,e1,f1⟩:=zA8 e
 obtain ⟨z,S2,e2,f2⟩:=zA8 f1
 split at f2
 ·rename_i key hk
  cases f2
  intro p hp
  obtain ⟨s1,s2⟩:=sr.other (o:=.dK []) hp
  refine ⟨μ,ρ,S,x,S1,s1,re.up s2,e1,fun v H1 μ1 sr1 st1 r1=>⟨μ1,ρ,S1,z,S2,sr1,(re.up s2).up st1,e2,fun u H2 μ2 sr2 st2 r2=>?_⟩⟩
  have n0:p∉μ:=sr.out hp
  have q0:upd H p (.dK []) p=some (.dK []):=zAy
  have q1:=st1.fr p _ n0 q0
  have n1:=st1.notIn n0 q0
  have q2:=st2.fr p _ n1 q1
  have n2:=st2.notIn n1 q1
  have ev:=keyOf_v hk r1
  subst ev
  refine ⟨q2,[(key,u)],rfl,by simp,?_⟩
  have e3:mergeK [] [(key,u)]=[(key,u)]:=by simp [mergeK,putK]
  rw [e3]
  have tk:TF X.K H2 (upd H2 p (.dK [(key,u)])):=tf_upd q2 (fun _ z=>by cases z) (fun _ _ z=>by cases z)
  have st12:=st1.trans st2 sr2.nd
  have st02:Step X.K μ μ2 H H2:=s2.trans st12 sr2.nd
  have sr3:SR X.K (μ2++[p]) (S2++[.dk [(key,z)]]) (upd H2 p (.dK [(key,u)])):=by
   refine ⟨by simp [sr2.len],?_,fun n a w g1 g2=>?_⟩
   ·rw [List.nodup_append]
    refine ⟨sr2.nd,by simp,fun a ha b hb=>?_⟩
    simp at hb; subst hb
    exact fun z=>n2 (z▸ha)
   ·by_cases hn:n<μ2.length
    ·rw [List.getElem?_append_left hn] at g1
     rw [List.getElem?_append_left (by rw [← sr2.len]; exact hn)] at g2
     exact (sr2.obj n a w g1 g2).up tk ⟨[p],rfl⟩ (zAb fun z=>n2 (z▸List.mem_of_getElem? g1))
    ·rw [List.getElem?_append_right (by omega)] at g1
     rw [List.getElem?_append_right (by rw [← sr2.len]; omega)] at g2
     have h1:n - μ2.length=0:=by
      have:=(List.getElem?_eq_some_iff.mp g1).1
      simp at this; omega
     rw [h1] at g1
     rw [← sr2.len,h1] at g2
     simp at g1 g2
     subst g1 g2
     exact ⟨[(key,u)],zAy,RKs.cons (RV.up tk ⟨[p],rfl⟩ _ _ r2) .nil⟩
  have st3:Step X.K μ (μ2++[p]) H (upd H2 p (.dK [(key,u)])):=by
   obtain ⟨ν,e4,n⟩:=st02.pre
   refine ⟨⟨ν++[p],by rw [e4,List.append_assoc],fun b hb=>?_⟩,fun b o hb q=>by rw [zAb (zAD q hp)]; exact st02.fr b o hb q,st02.tk.trans tk⟩
   rcases List.mem_append.mp hb with h | h
   ·exact n b h
   ·simp at h; subst h; exact hp
  exact y _ _ _ sr3 st3 (by unfold RV; exact ⟨p,rfl,by rw [← sr2.len,List.getElem?_append_right (Nat.le_refl _),Nat.sub_self]; rfl⟩)
 ·cases f2)
noncomputable def cDict (f:Expr→Option C) (ks:List (Option Expr)) (vs:List Expr):Option C:=match ks,vs with
 | [],[]=>some cDNew
 | [some a],[b]=>(f a).bind fun ca=>(f b).map fun cb=>cDOne ca cb
 | _,_=>none
theorem s_dict (hf:Keeps X f) {ks:List (Option Expr)}{vs:List Expr}{pos:Pos}{c:C} (e:cDict f ks vs=some c):PE X (.Dict ks vs pos) (tOf X.K c):=by
 unfold cDict at e
 split at e
 ·cases e; exact se_dnew
 ·obtain ⟨ca,e1,e⟩:=Option.bind_eq_some_iff.mp e
  obtain ⟨cb,e2,e⟩:=Option.map_eq_some_iff.mp e
  subst e
  exact se_done (hf _ _ e1) (hf _ _ e2)
 ·cases e
noncomputable def cBoolV (op:BoolOp) (f:Expr→Option C):List Expr→Option C
 | []=>none
 | [a]=>f a
 | a::b::r=>(f a).bind fun ca=>(cBoolV op f (b::r)).map fun cb=>match op with
  | .And=>cAndV ca cb
  | .Or=>cOrV ca cb
theorem s_boolV (hf:Keeps X f) {op:BoolOp}{pos:Pos}:∀ {vs:List Expr}{c:C},cBoolV op f vs=some c→PE X (.BoolOp op vs pos) (tOf X.K c)
 | [],c,e=>by cases e
 | [a],c,e=>pe_one (hf a c e)
 | a::b::r,c,e=>by
  unfold cBoolV at e
  obtain ⟨ca,e1,e⟩:=Option.bind_eq_some_iff.mp e
  obtain ⟨cb,e2,e⟩:=Option.map_eq_some_iff.mp e
  subst e
  cases op with
  | And=>exact se_and (hf a ca e1) (s_boolV hf e2)
  | Or=>exact se_or (hf a ca e1) (s_boolV hf e2)
def KeepsT (X:Cx) (t:Expr→Option CT):Prop:=∀ e c,t e=some c→PT X e (tOfT X.K c)
variable {t:Expr→Option CT}
noncomputable def cBoolT (op:BoolOp) (t:Expr→Option CT):List Expr→Option CT
 | []=>none
 | [a]=>t a
 | a::b::r=>(t a).bind fun ca=>(cBoolT op t (b::r)).map fun cb=>match op with
  | .And=>cAndT ca cb
  | .Or=>cOrT ca cb
theorem s_boolT (ht:KeepsT X t) {op:BoolOp}{pos:Pos}:∀ {vs:List Expr}{c:CT},cBoolT op t vs=some c→PW X (.BoolOp op vs pos) (tOfT X.K c)
 | [],c,e=>by cases e
 | [a],c,e=>by
  cases op with
  | And=>exact pw_and1 (ht a c e)
  | Or=>exact pw_or1 (ht a c e)
 | a::b::r,c,e=>by
  unfold cBoolT at e
  obtain ⟨ca,e1,e⟩:=Option.bind_eq_some_iff.mp e
  obtain ⟨cb,e2,e⟩:=Option.map_eq_some_iff.mp e
  subst e
  cases op with
  | And=>exact sw_and (ht a ca e1) (s_boolT ht e2)
  | Or=>exact sw_or (ht a ca e1) (s_boolT ht e2)
noncomputable def zAX:Expr→Bool
 | .Tuple _ _ _=>true
 | _=>false
noncomputable def isSet:Expr→Bool
 | .Set _ _ _=>true
 | _=>false
theorem folded_ok {iter:Expr}{env:Env} (h:isSet iter=false):∀ x,foldedSetIterable iter env x=pure x:=by
 cases iter <;> first | (intro x; rfl) | cases h
noncomputable def cRangeI (o:Option (List C)) (es:List Expr):Option CI:=o.bind fun cs=>match es with
 | [_]=>some (zAj (zA0 cs))
 | [_,_]=>some (iRange2 (zA0 cs))
 | _=>none
noncomputable def cZipI (t:Bool) (o:Option (List C)) (es:List Expr):Option CI:=if t=true then o.bind fun cs=>match es with
  | [_,_]=>some (iZipL (zA0 cs))
  | _=>none
 else none
noncomputable def cEnumI (t:Bool) (o:Option (List C)) (es:List Expr):Option CI:=if t=true then o.bind fun cs=>match es with
  | [_]=>some (iEnumT (zA0 cs))
  | _=>none
 else none
noncomputable def cIter (sc:Sc) (ar:Str→Option Nat) (f:Expr→Option C) (tg iter:Expr):Option CI:=if isSet iter then none else match iter with
 | .Call (.Name x _) es [] _=>if sc.names.lookup x=some .globalImplicit∧ar x=none then
   (if x=("range":Str) then cRangeI (zA0? f es) es else
    if x=("zip":Str) then cZipI (zAX tg) (zA0? f es) es else
    if x=("enumerate":Str) then cEnumI (zAX tg) (zA0? f es) es else
    (f iter).map iSeq)
  else (f iter).map iSeq
 | _=>(f iter).map iSeq
theorem s_rangeI (hf:Keeps X f) {tg:Expr}{es:List Expr}{c:CI}{p pos:Pos} (g:Gl X "range") (hm:X.mg "range"=none) (e:cRangeI (zA0? f es) es=some c):PI X tg (.Call (.Name "range" p) es [] pos) (tOfI X.K c):=by
 obtain ⟨cs,e1,e2⟩:=Option.bind_eq_some_iff.mp e
 clear e
 obtain ⟨h1,h2⟩:=s_args hf e1
 match es,h1,h2,e2 with
 | [a],h1,h2,e2 =>
  cases e2
  exact si_range1 (pi_range1 g hm h1 (by rw [zAl (h2 a (by simp))]; rfl))
 | [a,b],h1,h2,e2 =>
  cases e2
  exact si_range2 (pi_range2 g hm h1 (by rw [zAl (h2 a (by simp)),zAl (h2 b (by simp))]; rfl) (by rw [zAl (h2 b (by simp))]; rfl))
 | [],h1,h2,e2=>cases e2
 | _::_::_::_,h1,h2,e2=>cases e2
theorem is_tup {tg:Expr} (h:zAX tg=true):∃ es k pos,tg=.Tuple es k pos:=by
 cases tg <;> first | exact ⟨_,_,_,rfl⟩ | cases h
theorem s_zipI (hf:Keeps X f) {tg:Expr}{es:List Expr}{c:CI}{p pos:Pos} (g:Gl X "zip") (hm:X.mg "zip"=none) (e:cZipI (zAX tg) (zA0? f es) es=some c):PI X tg (.Call (.Name "zip" p) es [] pos) (tOfI X.K c):=by
 unfold cZipI at e
 by_cases ht:zAX tg=true
 ·rw [if_pos ht] at e
  obtain ⟨ts,kt,pt,rfl⟩:=is_tup ht
  obtain ⟨cs,e1,e2⟩:=Option.bind_eq_some_iff.mp e
  clear e ht
  obtain ⟨h1,h2⟩:=s_args hf e1
  match es,h1,h2,e2 with
  | [a,b],h1,h2,e2 =>
   cases e2
   exact si_zip (pi_zipX g hm h1 (by rw [zAl (h2 a (by simp)),zAl (h2 b (by simp))]; rfl) (by rw [zAl (h2 b (by simp))]; rfl))
  | _::_::_::_,h1,h2,e2=>cases e2
  | [],h1,h2,e2=>cases e2
  | [_],h1,h2,e2=>cases e2
 ·rw [if_neg ht] at e; cases e
theorem s_enumI (hf:Keeps X f) {tg:Expr}{es:List Expr}{c:CI}{p pos:Pos} (g:Gl X "enumerate") (hm:X.mg "enumerate"=none) (e:cEnumI (zAX tg) (zA0? f es) es=some c):PI X tg (.Call (.Name "enumerate" p) es [] pos) (tOfI X.K c):=by
 unfold cEnumI at e
 by_cases ht:zAX tg=true
 ·rw [if_pos ht] at e
  obtain ⟨ts,kt,pt,rfl⟩:=is_tup ht
  obtain ⟨cs,e1,e2⟩:=Option.bind_eq_some_iff.mp e
  clear e ht
  obtain ⟨h1,h2⟩:=s_args hf e1
  match es,h1,h2,e2 with
  | [a],h1,h2,e2 =>
   cases e2
   exact si_enum (pi_enumL g hm h1 (by rw [zAl (h2 a (by simp))]; rfl))
  | [],h1,h2,e2=>cases e2
  | _::_::_,h1,h2,e2=>cases e2
 ·rw [if_neg ht] at e; cases e
theorem s_iter (h:XOk X sc ar cl k) (hf:Keeps X f) {tg iter:Expr}{c:CI} (e:cIter sc ar f tg iter=some c):PI X tg iter (tOfI X.K c)∧isSet iter=false:=by
 unfold cIter at e
 split at e
 ·cases e
 rename_i hset
 refine ⟨?_,by simpa using hset⟩
 have dflt:∀ {c},(f iter).map iSeq=some c→PI X tg iter (tOfI X.K c):=fun e=>by
  obtain ⟨ca,e1,e⟩:=Option.map_eq_some_iff.mp e
  subst e
  exact si_seq (hf _ _ e1)
 split at e
 ·rename_i x p es pos
  split at e
  ·rename_i hx
   have g:=h.gl x hx.1
   split at e
   ·rename_i q; subst q
    exact s_rangeI hf g (h.blt _ (by decide +kernel) hx.2) e
   split at e
   ·rename_i q; subst q
    exact s_zipI hf g (h.blt _ (by decide +kernel) hx.2) e
   split at e
   ·rename_i q; subst q
    exact s_enumI hf g (h.blt _ (by decide +kernel) hx.2) e
   exact dflt e
  ·exact dflt e
 ·exact dflt e
noncomputable def namesOf:List Expr→Option (List Str)
 | []=>some []
 | .Name x _::r=>(namesOf r).map (x::·)
 | _::_=>none
noncomputable def tgtOf:Expr→Option (Tgt × List Str)
 | .Name x _=>some (.one,[x])
 | .Tuple es _ _=>(namesOf es).map fun xs=>(.many xs.length,xs)
 | _=>none
noncomputable def zAY (ns:List (Str × NameKind)):List Str:=(ns.filter fun y=>y.2 == .free).map (·.1)
noncomputable def slots (N:List Str):List Str→Option (List Nat)
 | []=>some []
 | x::r=>(slotOf N x 0).bind fun j=>(slots N r).map (j::·)
noncomputable def compSc (xs:List Str) (scope:Scope):Sc:=⟨xs++zAY scope.names,scope.names,none⟩
noncomputable def compOk (sc:Sc) (xs:List Str) (scope:Scope):Bool :=
 decide (scope.kind=.function)&&scope.names.all (fun y=>y.2 != .cell||scope.names.lookup y.1 == some .cell)&&scope.names.all (fun y=>y.2 != .local||scope.names.lookup y.1 == some .local)
 && decide ((xs++zAY scope.names).Nodup)&&xs.all (fun x=>scope.names.lookup x == some .local||scope.names.lookup x == some .cell)&&decide (1≤xs.length)
 && (zAY scope.names).all (fun x=>(sc.names.lookup x == some .cell||sc.names.lookup x == some .free)&&scope.names.lookup x == some .free)
noncomputable def cCompr (sc:Sc) (it:Option CI) (fe:Sc→Expr→Option C) (ft:Sc→Expr→Option CT) (tg elt:Expr) (ifs:List Expr) (scope:Scope):Option C :=
 (tgtOf tg).bind fun p=>if compOk sc p.2 scope then (slots sc.N (zAY scope.names)).bind fun js=>it.bind fun ci=>(fe (compSc p.2 scope) elt).bind fun ce=>match ifs with
  | []=>some (zAm ci p.2.length js p.1 (fun _=>ret true) ce)
  | [q]=>(ft (compSc p.2 scope) q).map fun ct=>zAm ci p.2.length js p.1 ct ce
  | _=>none
 else none
theorem slots_get {N:List Str}:∀ {xs:List Str}{js:List Nat},slots N xs=some js→js.length=xs.length∧∀ (i j:Nat),js[i]?=some j→∃ x,xs[i]?=some x∧N[j]?=some x
 | [],js,e=>by cases e; exact ⟨rfl,fun i j h=>by simp at h⟩
 | x::r,js,e=>by
  unfold slots at e
  obtain ⟨j0,e1,e⟩:=Option.bind_eq_some_iff.mp e
  obtain ⟨js',e2,e⟩:=Option.map_eq_some_iff.mp e
  subst e
  obtain ⟨h1,h2⟩:=slots_get e2
  refine ⟨by simp [h1],fun i j h=>?_⟩
  cases i with
  | zero=>simp at h; subst h; exact ⟨x,rfl,(slotOf_get e1).2⟩
  | succ i =>
   rw [List.getElem?_cons_succ] at h
   obtain ⟨y,g1,g2⟩:=h2 i j h
   exact ⟨y,by rw [List.getElem?_cons_succ]; exact g1,g2⟩
theorem relabel_glob {env:Env}:∀ {names:List (Str × NameKind)}{x:Str}{k:NameKind},k≠.free→names.lookup x=some k →
  (names.map fun (n,k)=>if (k == NameKind.free&&env.scope.kind == .function&&env.kindOf n == some .cell) then (n,NameKind.cell) else (n,k)).lookup x=some k
 | [],_,_,_,h=>by simp at h
 | (n,k')::r,x,k,nf,h=>by
  have ih:=@relabel_glob env r x k nf
  show List.lookup x ((if (k' == NameKind.free&&env.scope.kind == .function&&env.kindOf n == some .cell)=true then (n,NameKind.cell) else (n,k'))::_)=_
  cases hx:x == n with
  | true =>
   simp only [List.lookup_cons,hx] at h
   cases h
   have e:(k' == NameKind.free)=false:=by simpa using nf
   simp [List.lookup_cons,hx,e]
  | false =>
   simp only [List.lookup_cons,hx] at h
   by_cases hc:(k' == NameKind.free&&env.scope.kind == .function&&env.kindOf n == some .cell)=true
   ·rw [if_pos hc]; simp only [List.lookup_cons,hx]; exact ih h
   ·rw [if_neg hc]; simp only [List.lookup_cons,hx]; exact ih h
theorem look_mem {ns:List (Str × NameKind)}{x:Str}{k:NameKind} (h:ns.lookup x=some k):(x,k)∈ns:=mem_of_look h
theorem XOk.comp (h:XOk X sc ar cl k) {xs:List Str}{scope:Scope} (hc:compOk sc xs scope=true) (cl':List (Str × Addr)) (s:Shared) (H:Hp) (C:Addr) (ex:List Addr):XOk (cxComp X scope (xs++zAY scope.names) cl' s H C ex) (compSc xs scope) ar cl k:=by
 unfold compOk at hc
 simp only [Bool.and_eq_true,decide_eq_true_eq] at hc
 obtain ⟨⟨⟨⟨⟨⟨c1,c2⟩,c3⟩,c4⟩,c5⟩,c6⟩,c7⟩:=hc
 exact {
  calm:=h.calm
  N:=rfl
  nd:=c4
  gl:=fun x hx=>relabel_glob (by decide) hx
  loc:=fun x hx=>relabel_glob (by decide) hx
  cel:=fun x hx=>relabel_glob (by decide) hx
  fre:=fun x hx=>relabel_free hx
  fnn:=fun z=>by cases z
  room:=h.room
  xe:=rfl
  blt:=h.blt
  fns:=h.fns }
theorem namesOf_get:∀ {es:List Expr}{xs:List Str},namesOf es=some xs→es.length=xs.length∧∀ (i:Nat) (e:Expr),es[i]?=some e→∃ x pos,e=.Name x pos∧xs[i]?=some x
 | [],xs,h=>by cases h; exact ⟨rfl,fun i e h=>by simp at h⟩
 | a::r,xs,h=>by
  cases a with
  | Name x pos =>
   unfold namesOf at h
   obtain ⟨ys,e1,e⟩:=Option.map_eq_some_iff.mp h
   subst e
   obtain ⟨h1,h2⟩:=namesOf_get e1
   refine ⟨by simp [h1],fun i e he=>?_⟩
   cases i with
   | zero=>simp at he; subst he; exact ⟨x,pos,rfl,rfl⟩
   | succ i =>
    rw [List.getElem?_cons_succ] at he
    obtain ⟨y,p,g1,g2⟩:=h2 i e he
    exact ⟨y,p,g1,by rw [List.getElem?_cons_succ]; exact g2⟩
  | _=>cases h
theorem assignEach_name {x:Str}{pos:Pos}{es:List Expr}{env:Env}:assignEach (.Name x pos::es) env=(false,assign (.Name x pos) env)::assignEach es env:=rfl
theorem pgs_names:∀ {es:List Expr}{s:Nat},(∀ (i:Nat) (e:Expr),es[i]?=some e→∃ x pos,e=.Name x pos∧X.N[s+i]?=some x∧Loc X.env.scope x∧(X.fn x=true∨X.env.scope.names.lookup x=some .local))→X.N.Nodup→PGs X es (gNames s es.length)
 | [],s,h,nd=>pgs_nil
 | a::r,s,h,nd=>by
  obtain ⟨x,pos,rfl,g1,g2,g3⟩:=h 0 a rfl
  refine pgs_cons (pg_name nd (by simpa using g1) g2 g3) (pgs_names (s:=s+1) (fun i e he=>?_) nd) rfl
  obtain ⟨y,p,q1,q2,q3⟩:=h (i+1) e (by rw [List.getElem?_cons_succ]; exact he)
  exact ⟨y,p,q1,by rw [show s+1+i=s+(i+1) by omega]; exact q2,q3⟩
theorem assignEach_names {env:Env}:∀ {es:List Expr}{xs:List Str},namesOf es=some xs→(assignEach es env).length=xs.length∧(assignEach es env).findIdx? (·.1)=none
 | [],xs,h=>by cases h; exact ⟨rfl,rfl⟩
 | a::r,xs,h=>by
  cases a with
  | Name x pos =>
   unfold namesOf at h
   obtain ⟨ys,e1,e⟩:=Option.map_eq_some_iff.mp h
   subst e
   obtain ⟨h1,h2⟩:=assignEach_names (env:=env) e1
   rw [assignEach_name]
   exact ⟨by simp [h1],by rw [List.findIdx?_cons]; simp [h2]⟩
  | _=>cases h
theorem tgt_len {tg:Expr}{t:Tgt}{xs:List Str} (e:tgtOf tg=some (t,xs)):tgtK t=xs.length:=by
 cases tg with
 | Name x pos=>cases e; rfl
 | Tuple es n pos =>
  unfold tgtOf at e
  obtain ⟨ys,e1,e⟩:=Option.map_eq_some_iff.mp e
  cases e
  rfl
 | _=>cases e
theorem tgt_kind {X':Cx}{sc':Sc} (h:XOk X' sc' ar cl k) {x:Str} (g:sc'.names.lookup x=some .local∨sc'.names.lookup x=some .cell∧X'.fn x=true):Loc X'.env.scope x∧(X'.fn x=true∨X'.env.scope.names.lookup x=some .local):=by
 rcases g with g | ⟨g,f⟩
 ·exact ⟨.inl (h.loc x g),.inr (h.loc x g)⟩
 ·exact ⟨.inr (h.cel x g),.inl f⟩
theorem s_tgt {X':Cx}{sc':Sc} (h:XOk X' sc' ar cl k) {tg:Expr}{t:Tgt}{xs:List Str} (e:tgtOf tg=some (t,xs)) (hN:∀ (i:Nat) (x:Str),xs[i]?=some x→sc'.N[i]?=some x∧(sc'.names.lookup x=some .local∨sc'.names.lookup x=some .cell∧X'.fn x=true)):PG X' tg (tOfT' X'.K t)∧tgtK t=xs.length:=by
 have nd:X'.N.Nodup:=by rw [h.N]; exact h.nd
 cases tg with
 | Name x pos =>
  cases e
  obtain ⟨g1,g2⟩:=hN 0 x rfl
  obtain ⟨l1,l2⟩:=tgt_kind h g2
  exact ⟨pg_name nd (by rw [h.N]; exact g1) l1 l2,rfl⟩
 | Tuple es n pos =>
  unfold tgtOf at e
  obtain ⟨ys,e1,e⟩:=Option.map_eq_some_iff.mp e
  cases e
  obtain ⟨a1,a2⟩:=assignEach_names (env:=X'.env) e1
  obtain ⟨n1,n2⟩:=namesOf_get e1
  refine ⟨?_,rfl⟩
  have:=pgs_names (X:=X') (es:=es) (s:=0) (fun i e he=>by
   obtain ⟨x,pos,rfl,g⟩:=n2 i e he
   obtain ⟨g1,g2⟩:=hN i x g
   obtain ⟨l1,l2⟩:=tgt_kind h g2
   exact ⟨x,pos,rfl,by rw [h.N,Nat.zero_add]; exact g1,l1,l2⟩) nd
  rw [n1] at this
  exact pg_tup h.calm this a1 a2
 | _=>cases e
theorem comp_h (h:XOk X sc ar cl k) {xs:List Str}{scope:Scope}{js:List Nat} (hc:compOk sc xs scope=true) (e1:slots sc.N (zAY scope.names)=some js):CompH X scope (xs++zAY scope.names) xs.length js:=by
 obtain ⟨l1,l2⟩:=slots_get e1
 unfold compOk at hc
 simp only [Bool.and_eq_true,decide_eq_true_eq] at hc
 obtain ⟨⟨⟨⟨⟨⟨c1,c2⟩,c3⟩,c4⟩,c5⟩,c6⟩,c7⟩:=hc
 have hf7:∀ x,(x,NameKind.free)∈scope.names→(sc.names.lookup x=some .cell∨sc.names.lookup x=some .free)∧scope.names.lookup x=some .free:=fun x hx=>by
  have hm:x∈zAY scope.names:=by
   unfold zAY
   rw [List.mem_map]
   exact ⟨(x,.free),by rw [List.mem_filter]; exact ⟨hx,by simp⟩,rfl⟩
  have:=List.all_eq_true.mp c7 x hm
  simpa using this
 refine ⟨h.calm,c1,fun x hx=>?_,fun x hx=>?_,fun x hx hxl=>?_,?_,fun i j hj=>?_⟩
 ·have:=List.all_eq_true.mp c2 _ hx
  simpa using this
 ·rcases (hf7 x hx).1 with q | q
  ·exact .inl (h.cel x q)
  ·exact h.fre x q
 ·have:=List.all_eq_true.mp c3 x hx
  simp only [Bool.or_eq_true,bne_iff_ne,ne_eq,beq_iff_eq] at this
  rcases this with z | z
  ·exact absurd hxl z
  ·exact z
 ·rw [List.length_append,l1]
 ·obtain ⟨x,g1,g2⟩:=l2 i j hj
  have hm:(x,NameKind.free)∈scope.names:=by
   have:=List.mem_of_getElem? g1
   unfold zAY at this
   rw [List.mem_map] at this
   obtain ⟨⟨y,ky⟩,m1,m2⟩:=this
   rw [List.mem_filter] at m1
   dsimp only at m2
   subst m2
   have:ky=.free:=by simpa using m1.2
   subst this
   exact m1.1
  obtain ⟨v1,v2⟩:=hf7 x hm
  refine ⟨x,?_,by rw [h.N]; exact g2,v2,h.vis (.inr v1)⟩
  rw [List.getElem?_append_right (by omega),Nat.add_sub_cancel_left]; exact g1
theorem comp_t (h:XOk X sc ar cl k) {xs:List Str}{scope:Scope}{tg:Expr}{t:Tgt} (hc:compOk sc xs scope=true) (e0:tgtOf tg=some (t,xs)) (cl':List (Str × Addr)) (s:Shared) (H:Hp) (C:Addr) (ex:List Addr):PG (cxComp X scope (xs++zAY scope.names) cl' s H C ex) tg (tOfT' X.K t) :=
 (s_tgt (h.comp hc cl' s H C ex) e0 fun i x hx=>by
  unfold compOk at hc
  simp only [Bool.and_eq_true,decide_eq_true_eq] at hc
  have c5:=hc.1.1.2
  have hl:=(List.getElem?_eq_some_iff.mp hx).1
  refine ⟨?_,?_⟩
  ·show (xs++zAY scope.names)[i]?=some x
   rw [List.getElem?_append_left hl]; exact hx
  ·have:=List.all_eq_true.mp c5 x (List.mem_of_getElem? hx)
   rw [Bool.or_eq_true,beq_iff_eq,beq_iff_eq] at this
   rcases this with z | z
   ·exact .inl z
   ·exact .inr ⟨z,decide_eq_true (look_mem z)⟩).1
inductive ComprE (X:Cx) (sc:Sc) (tg iter elt:Expr) (ifs:List Expr) (scope:Scope) (c:C):Prop
 | mk (t:Tgt) (xs:List Str) (js:List Nat) (ci:CI) (ct:CT) (ce:C) (B:CompH X scope (xs++zAY scope.names) xs.length js) (hi:PI X tg iter (tOfI X.K ci)) (hs:isSet iter=false)
  (hg:∀ cl' s H C ex,PG (cxComp X scope (xs++zAY scope.names) cl' s H C ex) tg (tOfT' X.K t)) (hT:∀ cl' s H C ex,PTs (cxComp X scope (xs++zAY scope.names) cl' s H C ex) ifs (tOfT X.K ct))
  (hE:∀ cl' s H C ex,PE (cxComp X scope (xs++zAY scope.names) cl' s H C ex) elt (tOf X.K ce)) (ht:tgtK t≤xs.length) (h1:1≤xs.length) (hc:c=zAm ci xs.length js t ct ce)
theorem compr_e (h:XOk X sc ar cl k) {it:Option CI}{fe:Sc→Expr→Option C}{ft:Sc→Expr→Option CT}{tg iter elt:Expr}{ifs:List Expr}{scope:Scope}{c:C} (e:cCompr sc it fe ft tg elt ifs scope=some c)
  (hi:∀ ci,it=some ci→PI X tg iter (tOfI X.K ci)∧isSet iter=false) (hfe:∀ X' sc',XOk X' sc' ar cl k→Keeps X' (fe sc')) (hft:∀ X' sc',XOk X' sc' ar cl k→KeepsT X' (ft sc')):ComprE X sc tg iter elt ifs scope c:=by
 unfold cCompr at e
 obtain ⟨⟨t,xs⟩,e0,e⟩:=Option.bind_eq_some_iff.mp e
 dsimp only at e
 by_cases hc:compOk sc xs scope=true
 ·rw [if_pos hc] at e
  obtain ⟨js,e1,u1⟩:=Option.bind_eq_some_iff.mp e
  obtain ⟨ci,e2,u2⟩:=Option.bind_eq_some_iff.mp u1
  obtain ⟨ce,e3,u3⟩:=Option.bind_eq_some_iff.mp u2
  clear e u1 u2
  obtain ⟨i1,i2⟩:=hi ci e2
  have c6:1≤xs.length:=by
   have hc':=hc
   unfold compOk at hc'
   simp only [Bool.and_eq_true,decide_eq_true_eq] at hc'
   exact hc'.1.2
  have hE:=fun cl' s H C ex=>hfe _ _ (h.comp hc cl' s H C ex) elt ce e3
  have ht:tgtK t≤xs.length:=by rw [tgt_len e0]; exact Nat.le_refl _
  cases ifs with
  | nil =>
   cases u3
   exact ⟨t,xs,js,ci,_,ce,comp_h h hc e1,i1,i2,comp_t h hc e0,fun cl' s H C ex pins s' σ H' Q I ⟨μ,ρ,S,d,S',sr,re,e,y⟩=>pts_nil pins s' σ H' Q I (by obtain ⟨rfl,rfl⟩:=zAi e; exact y H' μ sr (Step.refl _ _ _)),hE,ht,c6,rfl⟩
  | cons q r =>
   cases r with
   | nil =>
    obtain ⟨ct,e4,u4⟩:=Option.map_eq_some_iff.mp u3
    exact ⟨t,xs,js,ci,ct,ce,comp_h h hc e1,i1,i2,comp_t h hc e0,fun cl' s H C ex=>pts_one (hft _ _ (h.comp hc cl' s H C ex) q ct e4),hE,ht,c6,u4.symm⟩
   | cons _ _=>cases u3
 ·rw [if_neg hc] at e; cases e
theorem s_compr (h:XOk X sc ar cl k) {it:Option CI}{fe:Sc→Expr→Option C}{ft:Sc→Expr→Option CT}{tg iter elt:Expr}{ifs:List Expr}{scope:Scope}{pos:Pos}{c:C} (e:cCompr sc it fe ft tg elt ifs scope=some c)
  (hi:∀ ci,it=some ci→PI X tg iter (tOfI X.K ci)∧isSet iter=false) (hfe:∀ X' sc',XOk X' sc' ar cl k→Keeps X' (fe sc')) (hft:∀ X' sc',XOk X' sc' ar cl k→KeepsT X' (ft sc')):PE X (.ListComp elt [⟨tg,iter,ifs,0⟩] scope pos) (tOf X.K c):=by
 obtain ⟨t,xs,js,ci,ct,ce,B,i1,i2,hg,hT,hE,ht,h1,rfl⟩:=compr_e h e hi hfe hft
 exact (pe_comp B i1 hg hT hE (folded_ok i2)).weak fun σ H Q q=>of_comp ht h1 q
theorem s_comprU (h:XOk X sc ar cl k) {it:Option CI}{fe:Sc→Expr→Option C}{ft:Sc→Expr→Option CT}{tg iter elt:Expr}{ifs:List Expr}{scope:Scope}{pos pos' spos:Pos}{y0:Str}{go:TG} (hgo:PG X (.Name y0 pos') go) (hsw:swapsWith (.ListComp elt [⟨tg,iter,ifs,0⟩] scope pos) (some (.Name y0 pos')) spos.line X.env=pure true) {c:C} (e:cCompr sc it fe ft tg elt ifs scope=some c)
  (hi:∀ ci,it=some ci→PI X tg iter (tOfI X.K ci)∧isSet iter=false) (hfe:∀ X' sc',XOk X' sc' ar cl k→Keeps X' (fe sc')) (hft:∀ X' sc',XOk X' sc' ar cl k→KeepsT X' (ft sc')):PS X (.Assign [.Name y0 pos'] (.ListComp elt [⟨tg,iter,ifs,0⟩] scope pos) spos) (tAsg (tOf X.K c) go):=by
 obtain ⟨t,xs,js,ci,ct,ce,B,i1,i2,hg,hT,hE,ht,h1,rfl⟩:=compr_e h e hi hfe hft
 exact (ps_compSet hgo hsw B i1 hg hT hE (folded_ok i2)).weak fun D σ H q=>of_comp ht h1 q
end
open PySem PySem.Spec PyProof.Rows
section
variable (ar:Str→Option Nat) (cl:Str→List D→M D)
mutual
noncomputable def cE:Nat→Sc→Expr→Option C
 | 0,_,_=>none
 | n+1,sc,e=>match e with
  | .Constant v _ _=>cConst v
  | .Name x _=>cName sc ar x
  | .BinOp a op b _=>(opBin op).bind fun o=>(cE n sc a).bind fun ca=>(cE n sc b).map fun cb=>cBin o ca cb
  | .UnaryOp op a _=>match op with
   | .USub=>(cE n sc a).map fun ca=>cUn oNeg ca
   | .Not=>(cE n sc a).map fun ca=>cNotV ca
   | _=>none
  | .BoolOp op vs _=>cBoolV op (cE n sc) vs
  | .IfExp t a b _=>(cT n sc t).bind fun ct=>(cE n sc a).bind fun ca=>(cE n sc b).map fun cb=>cIf ct ca cb
  | .Compare a ops bs _=>cCompare (cE n sc) a ops bs
  | .Tuple es _ _=>(zA0? (cE n sc) es).bind fun cs=>if cs.length≤1000 then some (cTup (zA0 cs)) else none
  | .List es _=>(zA0? (cE n sc) es).bind fun cs=>if cs.length≤1000 then some (cLst (zA0 cs)) else none
  | .Subscript a b _=>cSub (cE n sc) a b
  | .Dict ks vs _=>cDict (cE n sc) ks vs
  | .Call fn es kw cpos=>match kw with
   | []=>match fn with
    | .Name x _=>cCallN sc ar cl (cE n sc) x es
    | .Attribute o m apos=>cMethod (cE n sc) o m es apos cpos
    | _=>none
   | _::_=>none
  | .ListComp elt gens scope _=>match gens with
   | [⟨tg,iter,ifs,ia⟩]=>if ia=0 then cCompr sc (cIter sc ar (cE n sc) tg iter) (cE n) (cT n) tg elt ifs scope else none
   | _=>none
  | _=>none
noncomputable def cT:Nat→Sc→Expr→Option CT
 | 0,_,_=>none
 | n+1,sc,e=>match e with
  | .UnaryOp op a _=>match op with
   | .Not=>(cT n sc a).map fun ca=>zB6 ca
   | _=>(cE n sc e).map cTru
  | .BoolOp op vs _=>cBoolT op (cT n sc) vs
  | .IfExp _ _ _ _=>none
  | .Compare a ops bs _=>tCompare (cE n sc) a ops bs
  | _=>(cE n sc e).map cTru
end
end
section
variable {X:Cx}{sc:Sc}{ar:Str→Option Nat}{cl:Str→List D→M D}{k:Nat}
theorem s_all:∀ n:Nat,(∀ X sc,XOk X sc ar cl k→Keeps X (cE ar cl n sc))∧(∀ X sc,XOk X sc ar cl k→KeepsT X (cT ar cl n sc))
 | 0=>⟨fun X sc h e c q=>(by cases q),fun X sc h e c q=>(by cases q)⟩
 | n+1=>by
  obtain ⟨ihE,ihT⟩:=s_all n
  refine ⟨fun X sc h e c q=>?_,fun X sc h e c q=>?_⟩
  ·have hf:=ihE X sc h
   have ht:=ihT X sc h
   cases e with
   | Constant v j pos=>exact s_const q
   | Name x pos=>exact s_name h q
   | BinOp a op b pos =>
    obtain ⟨o,e0,q1⟩:=Option.bind_eq_some_iff.mp q
    obtain ⟨ca,e1,q2⟩:=Option.bind_eq_some_iff.mp q1
    obtain ⟨cb,e2,q3⟩:=Option.map_eq_some_iff.mp q2
    subst q3
    exact se_bin (s_op e0) (hf _ _ e1) (hf _ _ e2)
   | UnaryOp op a pos =>
    cases op with
    | USub =>
     obtain ⟨ca,e1,q2⟩:=Option.map_eq_some_iff.mp q
     subst q2
     exact se_un us_neg (hf _ _ e1)
    | Not =>
     obtain ⟨ca,e1,q2⟩:=Option.map_eq_some_iff.mp q
     subst q2
     exact se_not (hf _ _ e1)
    | _=>cases q
   | BoolOp op vs pos=>exact s_boolV hf q
   | IfExp t a b pos =>
    obtain ⟨ct,e0,q1⟩:=Option.bind_eq_some_iff.mp q
    obtain ⟨ca,e1,q2⟩:=Option.bind_eq_some_iff.mp q1
    obtain ⟨cb,e2,q3⟩:=Option.map_eq_some_iff.mp q2
    subst q3
    exact se_ifExp (ht _ _ e0) (hf _ _ e1) (hf _ _ e2)
   | Compare a ops bs pos=>exact s_compare h.room hf q
   | Tuple es j pos =>
    obtain ⟨cs,e1,q1⟩:=Option.bind_eq_some_iff.mp q
    split at q1
    ·rename_i hl; cases q1; exact se_tup (s_args hf e1).1 hl
    ·cases q1
   | List es pos =>
    obtain ⟨cs,e1,q1⟩:=Option.bind_eq_some_iff.mp q
    split at q1
    ·rename_i hl; cases q1; exact se_lst (s_args hf e1).1 hl
    ·cases q1
   | Subscript a b pos=>exact s_sub h.room hf q
   | Dict ks vs pos=>exact s_dict hf q
   | Call fn es kw cpos =>
    cases kw with
    | cons _ _=>cases q
    | nil =>
     cases fn with
     | Name x p=>exact s_callN h hf q
     | Attribute o m apos=>exact s_method h.room hf q
     | _=>cases q
   | ListComp elt gens scope pos =>
    cases gens with
    | nil=>cases q
    | cons g gs =>
     obtain ⟨tg,iter,ifs,ia⟩:=g
     cases gs with
     | cons _ _=>cases q
     | nil =>
      change (if ia=0 then cCompr sc (cIter sc ar (cE ar cl n sc) tg iter) (cE ar cl n) (cT ar cl n) tg elt ifs scope else none)=some c at q
      split at q
      ·rename_i hz
       subst hz
       exact s_compr h q (fun ci e=>s_iter h hf e) (fun X' sc' h'=>ihE X' sc' h') (fun X' sc' h'=>ihT X' sc' h')
      ·cases q
   | _=>cases q
  ·have hf:=ihE X sc h
   have ht:=ihT X sc h
   have dflt:∀ {c:CT},(cE ar cl n sc e).map cTru=some c→(∀ whole,isTrue e X.env whole=(do let v ← whole; standAt e.pos; holding [v] (truthy v)))→PT X e (tOfT X.K c):=fun {c} q he=>by
    obtain ⟨ca,e1,q2⟩:=Option.map_eq_some_iff.mp q
    subst q2
    exact st_tru (hf _ _ e1) he
   cases e with
   | UnaryOp op a pos =>
    cases op with
    | Not =>
     obtain ⟨ca,e1,q2⟩:=Option.map_eq_some_iff.mp q
     subst q2
     exact st_not (ht _ _ e1)
    | USub=>exact dflt q fun _=>rfl
    | UAdd=>exact dflt q fun _=>rfl
    | Invert=>exact dflt q fun _=>rfl
   | BoolOp op vs pos=>exact (s_boolT ht q).pt
   | IfExp t a b pos=>cases q
   | Compare a ops bs pos=>exact s_tcompare h.room hf q
   | _=>exact dflt q fun _=>rfl
section
variable (ar:Str→Option Nat) (cl:Str→List D→M D)
noncomputable def cTg (sc:Sc) (x:Str):Option G:=(slotOf sc.N x 0).bind fun i=>if sc.names.lookup x=some .local∨(sc.fn.isSome=true∧sc.names.lookup x=some .cell) then some (gN i) else none
mutual
noncomputable def cG:Nat→Sc→Expr→Option G
 | 0,_,_=>none
 | n+1,sc,e=>match e with
  | .Name x _=>cTg sc x
  | .Subscript a b _=>match b with
   | _=>if isSlice b then none else (cE ar cl n sc a).bind fun ca=>(cE ar cl n sc b).map fun cb=>gS ca cb
  | .Tuple es _ _=>(cGs n sc es).map fun gs=>gT gs
  | _=>none
noncomputable def cGs:Nat→Sc→List Expr→Option (List G)
 | 0,_,_=>none
 | n+1,sc,es=>match es with
  | []=>some []
  | e::r=>if zAW e then (cG n sc e).bind fun g=>(cGs n sc r).map fun gs=>g::gs else none
end
end
theorem XOk.nd' (h:XOk X sc ar cl k):X.N.Nodup:=by rw [h.N]; exact h.nd
theorem s_tg (h:XOk X sc ar cl k) {x:Str}{g:G} (e:cTg sc x=some g):∃ i,g=gN i∧X.N[i]?=some x∧Loc X.env.scope x∧(X.fn x=true∨X.env.scope.names.lookup x=some .local):=by
 unfold cTg at e
 obtain ⟨i,e1,e2⟩:=Option.bind_eq_some_iff.mp e
 split at e2
 ·rename_i hc
  cases e2
  refine ⟨i,rfl,by rw [h.N]; exact (slotOf_get e1).2,?_⟩
  rcases hc with q | ⟨q1,q2⟩
  ·exact ⟨.inl (h.loc x q),.inr (h.loc x q)⟩
  ·exact ⟨.inr (h.cel x q2),.inl (h.fnn q1 x)⟩
 ·cases e2
theorem assign_sub {a b:Expr}{pos:Pos}{env:Env} (h:isSlice b=false):∀ v,assign (.Subscript a b pos) env v=(do
   let ov ← holding [v] (eval a env)
   let iv ← holding [v,ov] (eval b env)
   standAt pos
   holding [v,ov,iv] (setItem ov iv v)
   release [v,ov,iv] []):=by
 cases b <;> first | (intro v; rfl) | cases h
theorem assignEach_cons {e:Expr}{es:List Expr}{env:Env} (h:zAW e=true):assignEach (e::es) env=(false,assign e env)::assignEach es env:=by
 cases e <;> first | rfl | cases h
theorem s_G:∀ n:Nat,(∀ X sc,XOk X sc ar cl k→∀ e g,cG ar cl n sc e=some g→PG X e (tOfG X.K g))∧(∀ X sc,XOk X sc ar cl k→∀ es gs,cGs ar cl n sc es=some gs→PGs X es (tOfGs X.K gs)∧(assignEach es X.env).length=gs.length∧(assignEach es X.env).findIdx? (·.1)=none)
 | 0=>⟨fun X sc h e c q=>(by cases q),fun X sc h e c q=>(by cases q)⟩
 | n+1=>by
  obtain ⟨ih,ihs⟩:=s_G n
  refine ⟨fun X sc h e g q=>?_,fun X sc h es gs q=>?_⟩
  ·cases e with
   | Name x pos =>
    obtain ⟨i,rfl,h1,h2,h3⟩:=s_tg h q
    exact sg_name (pg_name h.nd' h1 h2 h3)
   | Subscript a b pos =>
    change (if isSlice b then none else (cE ar cl n sc a).bind fun ca=>(cE ar cl n sc b).map fun cb=>gS ca cb)=_ at q
    split at q
    ·cases q
    ·rename_i hs
     obtain ⟨ca,e1,q1⟩:=Option.bind_eq_some_iff.mp q
     obtain ⟨cb,e2,q2⟩:=Option.map_eq_some_iff.mp q1
     subst q2
     exact sg_sub (hu_of h.room) ((s_all n).1 X sc h _ _ e1) ((s_all n).1 X sc h _ _ e2) (assign_sub (by simpa using hs))
   | Tuple es j pos =>
    obtain ⟨gs,e1,q1⟩:=Option.map_eq_some_iff.mp q
    subst q1
    obtain ⟨h1,h2,h3⟩:=ihs X sc h es gs e1
    exact sg_tup h.calm h1 h2 h3
   | _=>cases q
  ·cases es with
   | nil=>cases q; exact ⟨sgs_nil,rfl,rfl⟩
   | cons e r =>
    change (if zAW e=true then (cG ar cl n sc e).bind fun g=>(cGs ar cl n sc r).map fun gs=>g::gs else none)=_ at q
    split at q
    ·rename_i hs
     obtain ⟨g,e1,q1⟩:=Option.bind_eq_some_iff.mp q
     obtain ⟨gs',e2,q2⟩:=Option.map_eq_some_iff.mp q1
     subst q2
     obtain ⟨h1,h2,h3⟩:=ihs X sc h r gs' e2
     have ha:=assignEach_cons (es:=r) (env:=X.env) hs
     refine ⟨sgs_cons (ih X sc h e g e1) h1 (by rw [ha]; rfl),by rw [ha]; simp [h2],by rw [ha,List.findIdx?_cons]; simp [h3]⟩
    ·cases q
noncomputable def isComp:Expr→Bool
 | .ListComp _ _ _ _=>true
 | .SetComp _ _ _ _=>true
 | .DictComp _ _ _ _ _=>true
 | _=>false
theorem swaps_no {e:Expr}{t:Option Expr}{n:Nat}{env:Env} (h:isComp e=false):swapsWith e t n env=pure false:=by
 cases e <;> first | rfl | cases h
noncomputable def compBad:Expr→Expr→Bool
 | .Name _ _,.ListComp _ _ _ _=>false
 | .Tuple _ _ _,.ListComp _ _ _ _=>false
 | _,e=>isComp e
theorem s_compSet (h:XOk X sc ar cl k):∀ {n:Nat}{elt:Expr}{gens:List Comprehension}{scope:Scope}{pos pos' spos:Pos}{x:Str}{c:C}{i:Nat} (q:cE ar cl n sc (.ListComp elt gens scope pos)=some c) (hgo:PG X (.Name x pos') (gName i))
  (hsw:swapsWith (.ListComp elt gens scope pos) (some (.Name x pos')) spos.line X.env=pure true),PS X (.Assign [.Name x pos'] (.ListComp elt gens scope pos) spos) (tAsg (tOf X.K c) (gName i))
 | 0,_,_,_,_,_,_,_,_,_,q,_,_=>by cases q
 | n+1,elt,gens,scope,pos,pos',spos,x,c,i,q,hgo,hsw=>by
  obtain ⟨ihE,ihT⟩:=s_all (ar:=ar) (cl:=cl) (k:=k) n
  cases gens with
  | nil=>cases q
  | cons g gs =>
   obtain ⟨tg,iter,ifs,ia⟩:=g
   cases gs with
   | cons _ _=>cases q
   | nil =>
    change (if ia=0 then cCompr sc (cIter sc ar (cE ar cl n sc) tg iter) (cE ar cl n) (cT ar cl n) tg elt ifs scope else none)=some c at q
    split at q
    ·rename_i hz
     subst hz
     exact s_comprU h hgo hsw q (fun ci e=>s_iter h (ihE X sc h) e) (fun X' sc' h'=>ihE X' sc' h') (fun X' sc' h'=>ihT X' sc' h')
    ·cases q
theorem swaps_comp {elt:Expr}{gens:List Comprehension}{scope:Scope}{pos pos':Pos}{x:Str}{line:Nat}{env:Env}:∃ b:Bool,swapsWith (.ListComp elt gens scope pos) (some (.Name x pos')) line env=pure b:=⟨_,rfl⟩
inductive CB (tg e:Expr):Prop
 | no (h:∀ n env,swapsWith e (some tg) n env=pure false)
 | yes (x:Str) (pos':Pos) (elt:Expr) (gens:List Comprehension) (scope:Scope) (pos:Pos) (h1:tg=.Name x pos') (h2:e=.ListComp elt gens scope pos)
theorem CB.of {tg e:Expr} (h:isComp e=false):CB tg e:=.no fun _ _=>swaps_no h
theorem compBad_or {tg e:Expr} (h:compBad tg e=false):CB tg e:=by
 cases tg with
 | Name x pos' =>
  cases e with
  | ListComp elt gens scope pos=>exact .yes x pos' elt gens scope pos rfl rfl
  | _=>exact .of h
 | Tuple es k pos =>
  cases e with
  | ListComp elt gens scope pos=>exact .no fun _ _=>rfl
  | _=>exact .of h
 | _=>exact .of h
noncomputable def isLst:Expr→Bool
 | .List _ _=>true
 | _=>false
theorem swapped_no {tg e:Expr}{env:Env} (h:(zAX tg&&zAX e)=false) (hl:isLst tg=false):swappedStores [tg] e env=pure none:=by
 cases tg with
 | Tuple es n pos=>cases e <;> first | rfl | cases h
 | List es pos=>cases hl
 | _=>rfl
noncomputable def tupCell (sc:Sc):Expr→Bool
 | .Tuple [.Name x _,.Name y _] _ _=>sc.names.lookup x == some .cell||sc.names.lookup y == some .cell
 | _=>false
theorem tupCell_inv {tg:Expr} (h:tupCell sc tg=true):∃ x px y py k pos,tg=.Tuple [.Name x px,.Name y py] k pos∧(sc.names.lookup x=some .cell∨sc.names.lookup y=some .cell):=by
 unfold tupCell at h
 split at h
 ·rename_i x px y py k pos
  simp only [Bool.or_eq_true,beq_iff_eq] at h
  exact ⟨x,px,y,py,k,pos,rfl,h⟩
 ·cases h
theorem swapped_cell {x y:Str}{px py pos pos2:Pos}{k k2:Nat}{vs:List Expr}{env:Env} (h:env.scope.names.lookup x=some .cell∨env.scope.names.lookup y=some .cell):swappedStores [.Tuple [.Name x px,.Name y py] k pos] (.Tuple vs k2 pos2) env=pure none:=by
 have hn:(([Expr.Name x px,Expr.Name y py].filterMap fun e=>match e with
  | .Name id p=>if (env.kindOf id == some NameKind.local&&p.line == (([Expr.Name x px,Expr.Name y py].head?.map (·.pos.line)).getD 0))=true then some id else none
  | _=>none).length != 2)=true:=by
  have kx:env.kindOf x=env.scope.names.lookup x:=rfl
  have ky:env.kindOf y=env.scope.names.lookup y:=rfl
  have hc:(some NameKind.cell == some NameKind.local)=false:=by decide
  rcases h with h | h
  ·simp only [List.filterMap_cons,List.filterMap_nil,kx,h,hc,Bool.false_and,Bool.false_eq_true,if_false]
   split <;> rfl
  ·simp only [List.filterMap_cons,List.filterMap_nil,ky,h,hc,Bool.false_and,Bool.false_eq_true,if_false]
   split <;> rfl
 unfold swappedStores
 simp only [pure_bind]
 split
 ·rfl
 ·split
  ·rfl
  ·rw [if_pos]
   show (_||_)=true
   rw [Bool.or_eq_true]
   exact .inl hn
theorem swapped_no2 (h:XOk X sc ar cl k) {tg e:Expr} (c2:(zAX tg&&zAX e&&!tupCell sc tg)=false) (c3:isLst tg=false):swappedStores [tg] e X.env=pure none:=by
 cases hc:tupCell sc tg with
 | false =>
  rw [hc] at c2
  exact swapped_no (by simpa using c2) c3
 | true =>
  obtain ⟨x,px,y,py,kk,pos,rfl,hxy⟩:=tupCell_inv hc
  cases he:zAX e with
  | false=>exact swapped_no (by rw [he]; rfl) c3
  | true =>
   obtain ⟨vs,k2,pt2,rfl⟩:=is_tup he
   exact swapped_cell (hxy.imp (h.cel x) (h.cel y))
noncomputable def parIn (sc:Sc) (t v:Expr × Expr) (n:Str × Str):Option (Nat × Nat × Expr × Expr) :=
 if n.1≠n.2∧sc.names.lookup n.1=some .local∧sc.names.lookup n.2=some .local∧t.1.pos.line=t.2.pos.line∧zAW v.1=true∧zAW v.2=true∧([v.1,v.2].all (foldedForSure 8))=false∧([v.1,v.2].all (constantsAlone 8))=false then
  (slotOf sc.N n.1 0).bind fun i=>(slotOf sc.N n.2 0).map fun j=>(i,j,v.1,v.2)
 else none
noncomputable def wfuel:Nat:=100000
section
variable (ar:Str→Option Nat) (cl:Str→List D→M D)
mutual
noncomputable def cSt:Nat→Sc→Stmt→Option CS
 | 0,_,_=>none
 | n+1,sc,s=>match s with
  | .Return v _=>match v with
   | none=>some sRetN
   | some e=>(cE ar cl n sc e).map fun c=>sRet c
  | .Expr e _=>if isComp e then none else (cE ar cl n sc e).map fun c=>sExpr c
  | .Assign tgs e _=>match tgs with
   | [tg] =>
    if compBad tg e||(zAX tg&&zAX e&&!tupCell sc tg)||isLst tg||!zAW tg then none else (cE ar cl n sc e).bind fun c=>(cG ar cl n sc tg).map fun g=>sAsg c g
   | _=>none
  | .If t a b _=>(cT ar cl n sc t).bind fun ct=>(cSts n sc a).bind fun ca=>(cSts n sc b).map fun cb=>sIf ct ca cb
  | .For tg it body els _=>match els with
   | []=>(cIter sc ar (cE ar cl n sc) tg it).bind fun ci=>(cG ar cl n sc tg).bind fun g=>(cSts n sc body).map fun cb=>sFor ci g cb
   | _::_=>none
  | .While t body els _=>match els with
   | []=>(cT ar cl n sc t).bind fun ct=>(cSts n sc body).map fun cb=>whileS wfuel ct cb
   | _::_=>none
  | .Pass _=>some zA2
  | .Break _=>some sBrk
  | .Continue _=>some sCnt
  | .Raise _ _ _=>some sBad
  | _=>none
noncomputable def cSts:Nat→Sc→List Stmt→Option CS
 | 0,_,_=>none
 | n+1,sc,ss=>match ss with
  | []=>some zA2
  | s::r=>(cSt n sc s).bind fun c=>(cSts n sc r).map fun d=>sSeq c d
end
end
inductive ParE (sc:Sc) (tg e:Expr) (r:Nat × Nat × Expr × Expr):Prop
 | mk (x y:Str) (px py pt pt2:Pos) (kt k2:Nat) (v1 v2:Expr) (h1:tg=.Tuple [.Name x px,.Name y py] kt pt) (h2:e=.Tuple [v1,v2] k2 pt2) (hp:parIn sc (.Name x px,.Name y py) (v1,v2) (x,y)=some r)
theorem pass_no (h:XOk X sc ar cl k):PassesOwn (model X.prog X.w) X.A X.env X.xe:=by rw [h.xe]; exact PassesOwn.never
theorem s_St:∀ n:Nat,(∀ X sc,XOk X sc ar cl k→∀ s c,cSt ar cl n sc s=some c→PS X s (tOfS X c))∧(∀ X sc,XOk X sc ar cl k→∀ s c,cSts ar cl n sc s=some c→PSs X s (tOfS X c))
 | 0=>⟨fun X sc h e c q=>(by cases q),fun X sc h e c q=>(by cases q)⟩
 | n+1=>by
  obtain ⟨ih,ihs⟩:=s_St n
  refine ⟨fun X sc h s c q=>?_,fun X sc h ss c q=>?_⟩
  ·have hf:=(s_all (ar:=ar) (cl:=cl) (k:=k) n).1 X sc h
   have ht:=(s_all (ar:=ar) (cl:=cl) (k:=k) n).2 X sc h
   have hg:=(s_G (ar:=ar) (cl:=cl) (k:=k) n).1 X sc h
   cases s with
   | Return v pos =>
    cases v with
    | none=>cases q; exact ss_retN
    | some e =>
     obtain ⟨ce,e1,q1⟩:=Option.map_eq_some_iff.mp q
     subst q1
     exact ss_ret (hf _ _ e1)
   | Expr e pos =>
    change (if isComp e=true then none else (cE ar cl n sc e).map fun c=>sExpr c)=some c at q
    split at q
    ·cases q
    ·rename_i hc
     obtain ⟨ce,e1,q1⟩:=Option.map_eq_some_iff.mp q
     subst q1
     exact ss_expr (hf _ _ e1) (swaps_no (by simpa using hc))
   | Assign tgs e pos =>
    cases tgs with
    | nil=>cases q
    | cons tg r =>
     cases r with
     | cons _ _=>cases q
     | nil =>
      change (if compBad tg e||(zAX tg&&zAX e&&!tupCell sc tg)||isLst tg||!zAW tg then none else (cE ar cl n sc e).bind fun c=>(cG ar cl n sc tg).map fun g=>sAsg c g)=some c at q
      split at q
      ·cases q
      ·rename_i hc
       simp only [Bool.or_eq_true,not_or,Bool.not_eq_true,Bool.not_eq_true',Bool.not_eq_false] at hc
       obtain ⟨⟨⟨c1,c2⟩,c3⟩,c4⟩:=hc
       obtain ⟨ce,e1,q1⟩:=Option.bind_eq_some_iff.mp q
       obtain ⟨g,e2,q2⟩:=Option.map_eq_some_iff.mp q1
       subst q2
       rcases compBad_or c1 with c1 | ⟨x,px,elt,gens,scope,pc,rfl,rfl⟩
       ·refine ss_asg (hf _ _ e1) (hg _ _ e2) (c1 _ _) (swapped_no2 h c2 c3) ?_
        rw [assignEach_cons (by simpa using c4)]; rfl
       ·obtain ⟨b,hb⟩:=swaps_comp (elt:=elt) (gens:=gens) (scope:=scope) (pos:=pc) (pos':=px) (x:=x) (line:=pos.line) (env:=X.env)
        cases b with
        | false=>exact ss_asg (hf _ _ e1) (hg _ _ e2) hb (swapped_no2 h c2 c3) (by rw [assignEach_cons (by simpa using c4)]; rfl)
        | true =>
         cases n with
         | zero=>cases e2
         | succ n =>
          obtain ⟨i,rfl,h1,h2,h3⟩:=s_tg h e2
          exact ss_set (s_compSet h e1 (pg_name h.nd' h1 h2 h3) hb)
   | If t a b pos =>
    obtain ⟨ct,e0,q1⟩:=Option.bind_eq_some_iff.mp q
    obtain ⟨ca,e1,q2⟩:=Option.bind_eq_some_iff.mp q1
    obtain ⟨cb,e2,q3⟩:=Option.map_eq_some_iff.mp q2
    subst q3
    exact ss_if (ht _ _ e0) (ihs X sc h _ _ e1) (ihs X sc h _ _ e2)
   | For tg it body els pos =>
    cases els with
    | cons _ _=>cases q
    | nil =>
     obtain ⟨ci,e0,q1⟩:=Option.bind_eq_some_iff.mp q
     obtain ⟨g,e1,q2⟩:=Option.bind_eq_some_iff.mp q1
     obtain ⟨cb,e2,q3⟩:=Option.map_eq_some_iff.mp q2
     subst q3
     obtain ⟨i1,i2⟩:=s_iter h hf e0
     exact ss_for (pass_no h) h.calm i1 (hg _ _ e1) (ihs X sc h _ _ e2) (folded_ok i2)
   | While t body els pos =>
    cases els with
    | cons _ _=>cases q
    | nil =>
     obtain ⟨ct,e0,q1⟩:=Option.bind_eq_some_iff.mp q
     obtain ⟨cb,e2,q3⟩:=Option.map_eq_some_iff.mp q1
     subst q3
     exact ss_while wfuel (pass_no h) (ht _ _ e0) (ihs X sc h _ _ e2)
   | Pass pos=>cases q; exact ss_pass
   | Break pos=>cases q; exact ss_brk
   | Continue pos=>cases q; exact ss_cnt
   | Raise a b pos=>cases q; exact ss_bad
   | _=>cases q
  ·cases ss with
   | nil=>cases q; exact sss_nil
   | cons s r =>
    obtain ⟨c1,e1,q1⟩:=Option.bind_eq_some_iff.mp q
    obtain ⟨c2,e2,q2⟩:=Option.map_eq_some_iff.mp q1
    subst q2
    exact sss_cons (ih X sc h _ _ e1) (ihs X sc h _ _ e2)
noncomputable def zA6 (n:Nat) (ds:List D):Env1:=ds.map some++List.replicate (n - ds.length) none
noncomputable def runF (np nN:Nat) (b:CS):List D→M D:=fun ds S=>if ds.length=np then (match b (zA6 nN ds) S with
 | .nx _ S'=>.ok .non S'
 | .rt d S'=>.ok d S'
 | .er c S'=>.er c S'
 | _=>.bad) else .bad
theorem RVs.begins {K:W.Frag}{H:Hp}{μ:List Addr}{N:List Str}{ds:List D}{vs:List V} (r:RVs K H μ ds vs):RE K H μ (zA6 N.length ds) (start N vs):=by
 unfold zA6 start
 refine ⟨by simp [r.len],fun i d e=>?_⟩
 by_cases hi:i<ds.length
 ·rw [List.getElem?_append_left (by simpa using hi),List.getElem?_map] at e
  rw [List.getElem?_append_left (by rw [List.length_map,← r.len]; exact hi),List.getElem?_map]
  cases q:ds[i]? with
  | none=>rw [q] at e; cases e
  | some d' =>
   rw [q] at e; cases e
   obtain ⟨v,e1,e2⟩:=r.get q
   exact ⟨v,by rw [e1]; rfl,e2⟩
 ·rw [List.getElem?_append_right (by simpa using hi),List.getElem?_replicate] at e
  split at e <;> cases e
noncomputable def fnOk (N ps:List Str) (scope:Scope):Bool :=
 decide (scope.kind=.function)&&!scope.isCoroutine&&!scope.isGenerator&&decide N.Nodup&&decide (N.take ps.length=ps)&&ps.all (fun x=>scope.names.lookup x == some .local||scope.names.lookup x == some .cell)&&scope.names.all (fun y=>y.2 != .free)
theorem fnOk_scope {N ps:List Str}{scope:Scope} (h:fnOk N ps scope=true):FnScope N ps scope:=by
 unfold fnOk at h
 simp only [Bool.and_eq_true,decide_eq_true_eq,Bool.not_eq_true'] at h
 obtain ⟨⟨⟨⟨⟨⟨c1,c2⟩,c3⟩,c4⟩,c5⟩,c6⟩,c7⟩:=h
 refine ⟨c1,c2,c3,c4,c5,fun x hx=>?_,fun y hy=>?_⟩
 ·have:=List.all_eq_true.mp c6 x hx
  simpa using this
 ·have:=List.all_eq_true.mp c7 y hy
  simpa using this
noncomputable def bltL:List Str:=["len","range","list","tuple","min","max","zip","isinstance","all","any","int","bool","enumerate","str","sorted","dict","sum","repr","set","abs"]
theorem s_fn {P:Program}{w:World}{K:W.Frag}{mg:Str→Option Value}{base:Heap}{x:Str}{st:Stmt}{fa:Addr}{fd:FuncData}{N ps:List Str}{fuel:Nat}{b:CS} (F:Fun K x x st fa fd)
  (hs:fnOk N ps (zA3 st)=true) (hc:cSts ar cl fuel ⟨N,(zA3 st).names,some x⟩ (zAN st)=some b)
  (hB:∀ y:Str,y∈bltL→ar y=none→mg y=none)
  (ih:∀ y n,ar y=some n→(∃ ps,Callee P w K mg base y ps k (spOf K (cl y) n))∧∀ ds S d S',cl y ds S=.ok d S'→ds.length=n):FnOk P w K mg base CX0 (k+1) fa fd ps (spOf K (runF ps.length N.length b) ps.length):=by
 have S:=fnOk_scope hs
 refine F.ok (k:=k) S (fun vs H Q E h=>h.1) (fun cdv A outer s H vs Q E hr h=>?_)
 obtain ⟨hl,μ,ds,S0,d,S',sr,rv,e,y⟩:=h
 have hX:XOk (cxOf CX0 P w K mg base N x (zA3 st) fa cdv A outer s H E).nox ⟨N,(zA3 st).names,some x⟩ ar cl k:={
  calm:=rfl
  N:=rfl
  nd:=S.nd
  gl:=fun x hx=>hx
  loc:=fun x hx=>hx
  cel:=fun x hx=>hx
  fre:=fun x hx=>.inr hx
  fnn:=fun _ x=>rfl
  room:=hr
  xe:=rfl
  blt:=hB
  fns:=ih }
 refine ⟨_,(s_St fuel).2 _ _ hX _ _ hc,μ,zA6 N.length ds,S0,sr,rv.begins,?_⟩
 unfold runF at e
 split at e
 ·split at e
  ·rename_i ρ S2 he
   cases e
   rw [he]
   exact fun σ' H' μ' sr' st' re'=>y _ H' μ' sr' st' rv_non
  ·rename_i d' S2 he
   cases e
   rw [he]
   exact y
  ·cases e
  ·cases e
 ·cases e
theorem s_def {P:Program}{w:World}{K:W.Frag}{mg:Str→Option Value}{base:Heap}{x:Str}{st:Stmt}{fa:Addr}{fd:FuncData}{N ps:List Str}{fuel:Nat}{b:CS} (F:Fun K x x st fa fd) (m:mg x=some (.ref fa)) (hb:Binds K fd ps [])
  (hs:fnOk N ps (zA3 st)=true) (hc:cSts ar cl fuel ⟨N,(zA3 st).names,some x⟩ (zAN st)=some b)
  (hB:∀ y:Str,y∈bltL→ar y=none→mg y=none)
  (ih:∀ y n,ar y=some n→(∃ ps,Callee P w K mg base y ps k (spOf K (cl y) n))∧∀ ds S d S',cl y ds S=.ok d S'→ds.length=n):Callee P w K mg base x ps (k+1) (spOf K (runF ps.length N.length b) ps.length) :=
 ⟨fa,fd,s_fn F hs hc hB ih,hb,F.kp,m⟩
end
open PySem PySem.Spec PyProof.Rows
noncomputable abbrev CLL:=Str→List D→M D
noncomputable abbrev Tbl:=List (Str × (Nat × Nat × (CLL→CS)))
noncomputable def arT (tbl:Tbl) (x:Str):Option Nat:=(tbl.lookup x).map (·.1)
noncomputable def zAg (tbl:Tbl):Nat→CLL
 | 0,_=>fun _ _=>.bad
 | n+1,x=>match tbl.lookup x with
  | some p=>runF p.1 p.2.1 (p.2.2 (zAg tbl n))
  | none=>fun _ _=>.bad
structure DefIn (K:W.Frag) (mg:Str→Option Value) (ar:Str→Option Nat) (x:Str) (p:Nat × Nat × (CLL→CS)):Prop where
 ex:∃ (st:Stmt) (fa:Addr) (fd:FuncData) (N ps:List Str) (fuel:Nat),Fun K x x st fa fd∧mg x=some (.ref fa)∧Binds K fd ps []∧fnOk N ps (zA3 st)=true∧ps.length=p.1∧N.length=p.2.1 ∧
  ∀ cl:CLL,cSts ar cl fuel ⟨N,(zA3 st).names,some x⟩ (zAN st)=some (p.2.2 cl)
theorem runF_len {np nN:Nat}{b:CS}{ds:List D}{S S':zA1}{d:D} (h:runF np nN b ds S=.ok d S'):ds.length=np:=by
 unfold runF at h
 split at h
 ·assumption
 ·cases h
theorem lookup_mem {α:Type}{tbl:List (Str × α)}{x:Str}{p:α} (h:tbl.lookup x=some p):(x,p)∈tbl:=by
 induction tbl with
 | nil=>cases h
 | cons y r ih =>
  obtain ⟨y1,y2⟩:=y
  rw [List.lookup_cons] at h
  split at h
  ·rename_i e
   cases h
   have:x=y1:=by simpa using e
   subst this
   simp
  ·exact List.mem_cons_of_mem _ (ih h)
theorem tbl_ok {P:Program}{w:World}{K:W.Frag}{mg:Str→Option Value}{base:Heap}{tbl:Tbl} (hd:∀ x p,tbl.lookup x=some p→DefIn K mg (arT tbl) x p) (hB:∀ y:Str,y∈bltL→arT tbl y=none→mg y=none) :
  ∀ (k:Nat) (x:Str) (n:Nat),arT tbl x=some n→(∃ ps,Callee P w K mg base x ps k (spOf K (zAg tbl k x) n))∧∀ ds S d S',zAg tbl k x ds S=.ok d S'→ds.length=n
 | 0,x,n,h=>by
  obtain ⟨p,hp,rfl⟩:=Option.map_eq_some_iff.mp h
  obtain ⟨st,fa,fd,N,ps,fuel,F,m,hb,_⟩:=(hd x p hp).ex
  have no:∀ ds S d S',zAg tbl 0 x ds S=.ok d S'→False:=fun ds S d S' e=>by unfold zAg at e; cases e
  refine ⟨⟨ps,fa,fd,⟨fun vs H Q E h=>?_,fun A outer s H args us vs Q E _ _ _ _ h=>?_⟩,hb,F.kp,m⟩,fun ds S d S' e=>(no _ _ _ _ e).elim⟩
  ·obtain ⟨_,μ,ds,S,d,S',_,_,e,_⟩:=h; exact (no _ _ _ _ e).elim
  ·obtain ⟨_,μ,ds,S,d,S',_,_,e,_⟩:=h; exact (no _ _ _ _ e).elim
 | k+1,x,n,h=>by
  obtain ⟨p,hp,rfl⟩:=Option.map_eq_some_iff.mp h
  obtain ⟨st,fa,fd,N,ps,fuel,F,m,hb,hs,e1,e2,hc⟩:=(hd x p hp).ex
  have ih:=tbl_ok (P:=P) (w:=w) (base:=base) hd hB k
  have q:=s_def (P:=P) (w:=w) (base:=base) (k:=k) F m hb hs (hc (zAg tbl k)) hB ih
  have e3:zAg tbl (k+1) x=runF p.1 p.2.1 (p.2.2 (zAg tbl k)):=by
   show (match tbl.lookup x with | some p=>runF p.1 p.2.1 (p.2.2 (zAg tbl k)) | none=>fun _ _=>.bad)=_
   rw [hp]
  rw [e1,e2] at q
  rw [e3]
  exact ⟨⟨ps,q⟩,fun ds S d S' e=>runF_len e⟩
noncomputable def spL (K:W.Frag):Sp:=fun vs H Q _=>∃ (a:Addr) (ns:List Int),vs=[.ref a]∧SqF K H a (ns.map V.int)∧ns.length≤63∧∀ H',Q (.bl true) H'
theorem sqF_of {K:W.Frag}{H:Hp}{a:Addr}{xs:List V} (o:Only H) (h:SqL K H a xs):SqF K H a xs:=by
 rcases h with (h | ⟨w,h⟩) | h
 ·rcases o a with q | ⟨w,ys,q⟩
  ·rw [h] at q; cases q
  ·rw [h] at q; cases q
 ·exact .inl ⟨w,h⟩
 ·exact .inr h
theorem law_ok {P:Program}{w:World}{K:W.Frag}{mg:Str→Option Value}{base:Heap}{tbl:Tbl}{fa:Addr}{fd:FuncData}{st:Stmt}{L nN fuel:Nat}{N:List Str}{b:CLL→CS} (hd:∀ x p,tbl.lookup x=some p→DefIn K mg (arT tbl) x p) (hB:∀ y:Str,y∈bltL→arT tbl y=none→mg y=none)
  (hl:tbl.lookup ("law":Str)=some (1,nN,b)) (F:Fun K "law" "law" st fa fd) (hs:fnOk N ["_law_script"] (zA3 st)=true) (hN:N.length=nN) (hc:∀ cl:CLL,cSts (arT tbl) cl fuel ⟨N,(zA3 st).names,some "law"⟩ (zAN st)=some (b cl))
  (hlaw:∀ ns:List Int,ns.length≤63→∃ S',zAg tbl (L+1) "law" [.rol (ns.map D.int)] []=.ok (.bl true) S') :
  FnOk P w K mg base CX0 (L+1) fa fd ["_law_script"] (spL K):=by
 have q:=s_fn (P:=P) (w:=w) (base:=base) (k:=L) F hs (hc (zAg tbl L)) hB (tbl_ok (P:=P) (w:=w) (base:=base) hd hB L)
 refine q.imp fun vs H Q E h=>?_
 obtain ⟨a,ns,rfl,hS,hn,hQ⟩:=h
 obtain ⟨S',e⟩:=hlaw ns hn
 have e3:zAg tbl (L+1) "law"=runF 1 nN (b (zAg tbl L)):=by
  show (match tbl.lookup ("law":Str) with | some p=>runF p.1 p.2.1 (p.2.2 (zAg tbl L)) | none=>fun _ _=>.bad)=_
  rw [hl]
 rw [e3] at e
 refine ⟨rfl,[],[.rol (ns.map D.int)],[],.bl true,S',⟨rfl,List.nodup_nil,fun n a o h=>by simp at h⟩,.cons (by unfold RV; exact ⟨a,_,rfl,hS,RVs.ints⟩) .nil,by rw [hN]; exact e,fun v H' μ' _ _ r=>?_⟩
 unfold RV at r
 subst r
 exact hQ H'
theorem walk_ev {l:W.OpenLaw}{q:Program}{loose:List Str}{XP:(Str→Option Value)→Heap→Prop}{YP:World→Heap→Prop}{d:DefRec}{K:Params→W.Frag}{L:Nat} (hn:l.most=some 63) (hdf:d.params.defaults=[]) (hr:Room L callerA)
  (hY:∀ (w:World) (h:Heap),YP w h→(K w.params).In h)
  (F:∀ (w:World) (mg:Str→Option Value) (fa:Addr) (h:Heap),(K w.params).In h→h.Ns mainGlobals mg→mg d.name=some (.ref fa) →
   ∃ fd:FuncData,(∀ (s:Shared) (u:Value),BindsTo s fd ⟨[u],[]⟩ [("_law_script",u)])∧∀ base:Heap,(K w.params).In base→base.Ns mainGlobals mg→FnOk l.prog w (K w.params) mg base CX0 L fa fd ["_law_script"] (spL (K w.params))) :
  W.WalkO q loose XP YP l.row.toRowW d [] (fun f vs=>PySem.call f vs) :=
 L2.walk_of (n:=63) (k:=L) (x := "_law_script") (CX:=fun _=>CX0) (sp:=fun w=>spL (K w.params)) hn (by decide) hdf hr hY F (fun _ _ a ns hl o hS=>⟨a,ns,rfl,sqF_of o hS,hl,fun _=>rfl⟩) fun _ _ _ _ _ z=>z
open PySem
noncomputable def AllIn (K:W.Frag) (mg:Str→Option Value) (ar:Str→Option Nat):Tbl→Prop
 | []=>True
 | e::r=>DefIn K mg ar e.1 e.2∧AllIn K mg ar r
theorem AllIn.mem {K:W.Frag}{mg:Str→Option Value}{ar:Str→Option Nat}:∀ {t:Tbl},AllIn K mg ar t→∀ x p,(x,p)∈t→DefIn K mg ar x p
 | [],_,x,p,h=>by cases h
 | e::r,⟨a,b⟩,x,p,h=>by
  rcases List.mem_cons.mp h with q | q
  ·subst q; exact a
  ·exact b.mem x p q
theorem AllIn.look {K:W.Frag}{mg:Str→Option Value}{ar:Str→Option Nat}{t:Tbl} (h:AllIn K mg ar t) (x:Str) (p:Nat × Nat × (CLL→CS)) (e:t.lookup x=some p):DefIn K mg ar x p:=h.mem x p (lookup_mem e)
theorem def_in {K:W.Frag}{mg:Str→Option Value}{ar:Str→Option Nat}{x:Str}{st:Stmt}{fa:Addr}{fd:FuncData}{N ps:List Str}{fuel np nN:Nat}{b:CLL→CS} (F:Fun K x x st fa fd) (m:mg x=some (.ref fa)) (hb:Binds K fd ps []) (hs:fnOk N ps (zA3 st)=true)
  (hc:(fun cl:CLL=>cSts ar cl fuel ⟨N,(zA3 st).names,some x⟩ (zAN st))=fun cl=>some (b cl)) (h1:ps.length=np:=by rfl) (h2:N.length=nN:=by rfl):DefIn K mg ar x (np,nN,b) :=
 ⟨st,fa,fd,N,ps,fuel,F,m,hb,hs,h1,h2,fun cl=>congrFun hc cl⟩
noncomputable def AllNone (mg:Str→Option Value):List Str→Prop
 | []=>True
 | x::r=>mg x=none∧AllNone mg r
theorem AllNone.mem {mg:Str→Option Value}:∀ {l:List Str},AllNone mg l→∀ x∈l,mg x=none
 | [],_,x,h=>by cases h
 | e::r,⟨a,b⟩,x,h=>by
  rcases List.mem_cons.mp h with q | q
  ·subst q; exact a
  ·exact b.mem x q
open PySem
inductive Tg {γ:Type} (f:γ):Type where
 | mk
noncomputable def rbnd {α β:Type} (r:R α) (f:α→zA1→R β) (_:Tg f):R β:=match r with
 | .bad=>.bad
 | .er c S=>.er c S
 | .ok a S=>f a S
@[simp] theorem rbnd_ok {α β:Type} (a:α) (S:zA1) (f:α→zA1→R β):rbnd (.ok a S) f .mk=f a S:=rfl
@[simp] theorem rbnd_bad {α β:Type} (f:α→zA1→R β):rbnd .bad f .mk=.bad:=rfl
@[simp] theorem bnd_ev {α β:Type} (m:M α) (f:α→M β) (S:zA1):bnd m f S=rbnd (m S) f .mk:=rfl
@[simp] theorem ret_ev {α:Type} (a:α) (S:zA1):ret a S=.ok a S:=rfl
@[simp] theorem bad_ev {α:Type} (S:zA1):(bad:M α) S=.bad:=rfl
noncomputable def rs {α:Type} (r:R α) (f:α→zA1→RS) (_:Tg f):RS:=match r with
 | .bad=>.bad
 | .er _ _=>.bad
 | .ok a S=>f a S
@[simp] theorem rs_ok {α:Type} (a:α) (S:zA1) (f:α→zA1→RS):rs (.ok a S) f .mk=f a S:=rfl
@[simp] theorem rs_bad {α:Type} (f:α→zA1→RS):rs .bad f .mk=.bad:=rfl
noncomputable def sb (r:RS) (f:CS) (_:Tg f):RS:=match r with
 | .nx ρ S=>f ρ S
 | r=>r
@[simp] theorem sb_nx (ρ:Env1) (S:zA1) (f:CS):sb (.nx ρ S) f .mk=f ρ S:=rfl
@[simp] theorem sb_rt (d:D) (S:zA1) (f:CS):sb (.rt d S) f .mk=.rt d S:=rfl
@[simp] theorem sb_bk (ρ:Env1) (S:zA1) (f:CS):sb (.bk ρ S) f .mk=.bk ρ S:=rfl
@[simp] theorem sb_ct (ρ:Env1) (S:zA1) (f:CS):sb (.ct ρ S) f .mk=.ct ρ S:=rfl
@[simp] theorem sSeq_ev (a b:CS) (ρ:Env1) (S:zA1):sSeq a b ρ S=sb (a ρ S) b .mk:=by
 unfold sSeq sb; cases a ρ S <;> rfl
@[simp] theorem sPass_ev (ρ:Env1) (S:zA1):zA2 ρ S=.nx ρ S:=rfl
@[simp] theorem sBrk_ev (ρ:Env1) (S:zA1):sBrk ρ S=.bk ρ S:=rfl
@[simp] theorem sCnt_ev (ρ:Env1) (S:zA1):sCnt ρ S=.ct ρ S:=rfl
@[simp] theorem sRetN_ev (ρ:Env1) (S:zA1):sRetN ρ S=.rt .non S:=rfl
@[simp] theorem sRet_ev (c:C) (ρ:Env1) (S:zA1):sRet c ρ S=rs (c ρ S) (fun d S'=>.rt d S') .mk:=by
 unfold sRet rs; cases c ρ S <;> rfl
@[simp] theorem sExpr_ev (c:C) (ρ:Env1) (S:zA1):sExpr c ρ S=rs (c ρ S) (fun _ S'=>.nx ρ S') .mk:=by
 unfold sExpr rs; cases c ρ S <;> rfl
@[simp] theorem sAsg_ev (c:C) (g:G) (ρ:Env1) (S:zA1):sAsg c g ρ S=rs (c ρ S) (fun d S1=>rs (g d ρ S1) (fun ρ' S2=>.nx ρ' S2) .mk) .mk:=by
 unfold sAsg rs
 cases c ρ S with
 | ok d S1=>dsimp only; cases g d ρ S1 <;> rfl
 | _=>rfl
@[simp] theorem sIf_ev (t:CT) (a b:CS) (ρ:Env1) (S:zA1):sIf t a b ρ S=rs (t ρ S) (fun k S'=>if k then a ρ S' else b ρ S') .mk:=by
 unfold sIf rs; cases t ρ S <;> rfl
@[simp] theorem sFor_ev (it:CI) (g:G) (b:CS) (ρ:Env1) (S:zA1):sFor it g b ρ S=rs (it ρ S) (fun p S1=>zAA p.2 g b p.1 ρ S1) .mk:=by
 unfold sFor rs
 cases it ρ S with
 | ok p S1=>obtain ⟨a,b⟩:=p; rfl
 | _=>rfl
@[simp] theorem gN_ev (i:Nat) (d:D) (ρ:Env1) (S:zA1):gN i d ρ S=.ok (ρ.set i (some d)) S:=rfl
noncomputable def mo {α:Type} (o:Option α) (S':α→zA1) (ρ:Env1):R Env1:=match o with
 | some x=>.ok ρ (S' x)
 | none=>.bad
@[simp] theorem gS_ev (co ci:C) (d:D) (ρ:Env1) (S:zA1):gS co ci d ρ S=rbnd (co ρ S) (fun o S1=>rbnd (ci ρ S1) (fun i S2=>mo (oSet o i d S2) (fun x=>x) ρ) .mk) .mk:=by
 unfold gS
 rw [bnd_ev]
 cases co ρ S with
 | bad=>rfl
 | er _ _=>rfl
 | ok o S1 =>
  rw [rbnd_ok,rbnd_ok,bnd_ev]
  cases ci ρ S1 with
  | bad=>rfl
  | er _ _=>rfl
  | ok i S2 =>
   rw [rbnd_ok,rbnd_ok]
   cases h:oSet o i d S2 <;> rfl
@[simp] theorem mo_some {α:Type} (x:α) (f:α→zA1) (ρ:Env1):mo (some x) f ρ=.ok ρ (f x):=rfl
@[simp] theorem gT_ev (gs:List G) (xs:List D) (ρ:Env1) (S:zA1):gT gs (.tup xs) ρ S=gTs gs xs ρ S:=rfl
@[simp] theorem gTs_nil (ρ:Env1) (S:zA1):gTs [] [] ρ S=.ok ρ S:=rfl
@[simp] theorem gTs_cons (g:G) (gs:List G) (x:D) (xs:List D) (ρ:Env1) (S:zA1):gTs (g::gs) (x::xs) ρ S=rbnd (g x ρ S) (fun ρ1 S1=>gTs gs xs ρ1 S1) .mk:=rfl
@[simp] theorem cVar_ev (i:Nat) (ρ:Env1) (S:zA1):cVar i ρ S=match ρ[i]? with | some (some d)=>.ok d S | _=>.bad:=rfl
@[simp] theorem cCon_ev (d:D) (ρ:Env1) (S:zA1):cCon d ρ S=.ok d S:=rfl
@[simp] theorem cBin_ev (o:D→D→M D) (a b:C) (ρ:Env1) (S:zA1):cBin o a b ρ S=rbnd (a ρ S) (fun x S1=>rbnd (b ρ S1) (fun y S2=>o x y S2) .mk) .mk:=rfl
@[simp] theorem cUn_ev (o:D→M D) (a:C) (ρ:Env1) (S:zA1):cUn o a ρ S=rbnd (a ρ S) o .mk:=rfl
@[simp] theorem cArgs_nil (ρ:Env1) (S:zA1):zA0 [] ρ S=.ok [] S:=rfl
@[simp] theorem cArgs_cons (c:C) (cs:List C) (ρ:Env1) (S:zA1):zA0 (c::cs) ρ S=rbnd (c ρ S) (fun x S1=>rbnd (zA0 cs ρ S1) (fun xs S2=>.ok (x::xs) S2) .mk) .mk:=rfl
@[simp] theorem cApp_ev (o:List D→M D) (a:CA) (ρ:Env1) (S:zA1):cApp o a ρ S=rbnd (a ρ S) o .mk:=rfl
@[simp] theorem cTup_ev (a:CA) (ρ:Env1) (S:zA1):cTup a ρ S=rbnd (a ρ S) (fun xs S1=>.ok (.tup xs) S1) .mk:=rfl
@[simp] theorem cLst_ev (a:CA) (ρ:Env1) (S:zA1):cLst a ρ S=rbnd (a ρ S) (fun xs S1=>.ok (.lst S1.length) (S1++[.lst xs])) .mk:=rfl
@[simp] theorem cIf_ev (t:CT) (a b:C) (ρ:Env1) (S:zA1):cIf t a b ρ S=rbnd (t ρ S) (fun k S1=>if k then a ρ S1 else b ρ S1) .mk:=by
 unfold cIf; rw [bnd_ev]
 cases t ρ S with
 | ok k S1=>cases k <;> rfl
 | bad=>rfl
 | er _ _=>rfl
@[simp] theorem cBool_ev (a:C) (ρ:Env1) (S:zA1):zA9 a ρ S=rbnd (a ρ S) (fun x S1=>dB x S1) .mk:=rfl
@[simp] theorem dB_ev (b:Bool) (S:zA1):dB (.bl b) S=.ok b S:=rfl
@[simp] theorem cAndV_ev (a b:C) (ρ:Env1) (S:zA1):cAndV a b ρ S=rbnd (zA9 a ρ S) (fun k S1=>if k then b ρ S1 else .ok (.bl false) S1) .mk:=by
 unfold cAndV; rw [bnd_ev]
 cases zA9 a ρ S with
 | ok k S1=>cases k <;> rfl
 | bad=>rfl
 | er _ _=>rfl
@[simp] theorem cOrV_ev (a b:C) (ρ:Env1) (S:zA1):cOrV a b ρ S=rbnd (zA9 a ρ S) (fun k S1=>if k then .ok (.bl true) S1 else b ρ S1) .mk:=by
 unfold cOrV; rw [bnd_ev]
 cases zA9 a ρ S with
 | ok k S1=>cases k <;> rfl
 | bad=>rfl
 | er _ _=>rfl
@[simp] theorem cNotV_ev (a:C) (ρ:Env1) (S:zA1):cNotV a ρ S=rbnd (zA9 a ρ S) (fun k S1=>.ok (.bl (!k)) S1) .mk:=rfl
@[simp] theorem cAndT_ev (a b:CT) (ρ:Env1) (S:zA1):cAndT a b ρ S=rbnd (a ρ S) (fun k S1=>if k then b ρ S1 else .ok false S1) .mk:=by
 unfold cAndT; rw [bnd_ev]
 cases a ρ S with
 | ok k S1=>cases k <;> rfl
 | bad=>rfl
 | er _ _=>rfl
@[simp] theorem cOrT_ev (a b:CT) (ρ:Env1) (S:zA1):cOrT a b ρ S=rbnd (a ρ S) (fun k S1=>if k then .ok true S1 else b ρ S1) .mk:=by
 unfold cOrT; rw [bnd_ev]
 cases a ρ S with
 | ok k S1=>cases k <;> rfl
 | bad=>rfl
 | er _ _=>rfl
@[simp] theorem cNotT_ev (a:CT) (ρ:Env1) (S:zA1):zB6 a ρ S=rbnd (a ρ S) (fun k S1=>.ok (!k) S1) .mk:=rfl
@[simp] theorem cChain_ev (o o':D→D→M D) (a b c:C) (ρ:Env1) (S:zA1):cChain o o' a b c ρ S=rbnd (a ρ S) (fun x S1=>rbnd (b ρ S1) (fun y S2=>rbnd (o x y S2) (fun z S3=>rbnd (dB z S3) (fun k S4=>if k then rbnd (c ρ S4) (fun w S5=>o' y w S5) .mk else .ok (.bl false) S4) .mk) .mk) .mk) .mk:=by
 unfold cChain
 rw [bnd_ev]
 cases a ρ S with
 | bad=>rfl
 | er _ _=>rfl
 | ok x S1 =>
  rw [rbnd_ok,rbnd_ok,bnd_ev]
  cases b ρ S1 with
  | bad=>rfl
  | er _ _=>rfl
  | ok y S2 =>
   rw [rbnd_ok,rbnd_ok,bnd_ev]
   cases o x y S2 with
   | bad=>rfl
   | er _ _=>rfl
   | ok z S3 =>
    rw [rbnd_ok,rbnd_ok,bnd_ev]
    cases dB z S3 with
    | bad=>rfl
    | er _ _=>rfl
    | ok k S4=>cases k <;> rfl
@[simp] theorem cTru_ev (a:C) (ρ:Env1) (S:zA1):cTru a ρ S=rbnd (a ρ S) (fun x S1=>dTru x S1) .mk:=rfl
@[simp] theorem dTru_bl (b:Bool) (S:zA1):dTru (.bl b) S=.ok b S:=rfl
@[simp] theorem dTru_int (i:Int) (S:zA1):dTru (.int i) S=.ok (i != 0) S:=rfl
@[simp] theorem dTru_tup (xs:List D) (S:zA1):dTru (.tup xs) S=.ok (!xs.isEmpty) S:=rfl
@[simp] theorem cNoPart_ev (ρ:Env1) (S:zA1):zAa ρ S=.ok none S:=rfl
@[simp] theorem cPart_ev (a:C) (ρ:Env1) (S:zA1):zAs a ρ S=rbnd (a ρ S) (fun x S1=>rbnd (dInt x S1) (fun i S2=>.ok (some i) S2) .mk) .mk:=rfl
@[simp] theorem dInt_ev (i:Int) (S:zA1):dInt (.int i) S=.ok i S:=rfl
@[simp] theorem cSl_ev (o:D→Option Int→Option Int→M D) (a:C) (lo hi:CO) (ρ:Env1) (S:zA1):cSl o a lo hi ρ S=rbnd (a ρ S) (fun x S1=>rbnd (lo ρ S1) (fun l S2=>rbnd (hi ρ S2) (fun h S3=>o x l h S3) .mk) .mk) .mk:=rfl
@[simp] theorem cMeth_ev (T:String) (o:D→List D→M D) (a:C) (as:CA) (ρ:Env1) (S:zA1):cMeth T o a as ρ S=rbnd (a ρ S) (fun x S1=>if tyOk T x S1 then rbnd (as ρ S1) (fun xs S2=>o x xs S2) .mk else .bad) .mk:=rfl
@[simp] theorem cMeth0_ev (T:String) (o:D→List D→M D) (a:C) (ρ:Env1) (S:zA1):cMeth0 T o a ρ S=rbnd (a ρ S) (fun x S1=>if tyOk T x S1 then o x [] S1 else .bad) .mk:=rfl
@[simp] theorem iSeq_ev (c:C) (ρ:Env1) (S:zA1):iSeq c ρ S=rbnd (c ρ S) (fun x S1=>match x with
 | .tup xs=>.ok (xs,[]) S1
 | .lst n=>match zA5 S1 n with
  | some xs=>.ok (xs,[(n,xs)]) S1
  | none=>.bad
 | _=>.bad) .mk:=rfl
@[simp] theorem iRange1_ev (a:CA) (ρ:Env1) (S:zA1):zAj a ρ S=rbnd (a ρ S) (fun xs S1=>match xs with
 | [.int j]=>if -4611686018427387904≤j∧j<4611686018427387904 then .ok (upD 0 j.toNat,[]) S1 else .bad
 | _=>.bad) .mk:=rfl
@[simp] theorem iRange2_ev (a:CA) (ρ:Env1) (S:zA1):iRange2 a ρ S=rbnd (a ρ S) (fun xs S1=>match xs with
 | [.int i,.int j]=>if -4611686018427387904≤i∧i<4611686018427387904∧-4611686018427387904≤j∧j<4611686018427387904 then .ok (upD i (j - i).toNat,[]) S1 else .bad
 | _=>.bad) .mk:=rfl
@[simp] theorem iZipL_ev (a:CA) (ρ:Env1) (S:zA1):iZipL a ρ S=rbnd (a ρ S) (fun xs S1=>match xs with
 | [x,y]=>match zsAt S1 x,zsAt S1 y with
  | some ys,some zs=>.ok (zipD ys zs,watchOf x ys++watchOf y zs) S1
  | _,_=>.bad
 | _=>.bad) .mk:=rfl
@[simp] theorem watchOf_lst (n:Nat) (xs:List D):watchOf (.lst n) xs=[(n,xs)]:=rfl
@[simp] theorem watchOf_tup (ys:List D) (xs:List D):watchOf (.tup ys) xs=[]:=rfl
@[simp] theorem zsAt_lst (S:zA1) (n:Nat):zsAt S (.lst n)=zA5 S n:=rfl
@[simp] theorem zsAt_tup (S:zA1) (xs:List D):zsAt S (.tup xs)=some xs:=rfl
@[simp] theorem iEnumT_ev (a:CA) (ρ:Env1) (S:zA1):iEnumT a ρ S=rbnd (a ρ S) (fun xs S1=>match xs with
 | [.tup ys]=>.ok (enumD ys,[]) S1
 | [.lst n]=>match zA5 S1 n with
  | some ys=>.ok (enumD ys,[(n,ys)]) S1
  | none=>.bad
 | _=>.bad) .mk:=rfl
@[simp] theorem cComp_ev (it:CI) (k:Nat) (js:List Nat) (t:Tgt) (tc:CT) (c:C) (ρ:Env1) (S:zA1):zAm it k js t tc c ρ S=rbnd (it ρ S) (fun p S1=>if p.1.length<lim then rbnd (loopC p.2 t tc c (stE k js ρ) p.1 S1) (fun ys S'=>.ok (.lst S'.length) (S'++[.lst ys])) .mk else .bad) .mk:=rfl
@[simp] theorem cDNew_ev (ρ:Env1) (S:zA1):cDNew ρ S=.ok (.dct S.length) (S++[.dk []]):=rfl
@[simp] theorem cDOne_ev (a b:C) (ρ:Env1) (S:zA1):cDOne a b ρ S=rbnd (a ρ S) (fun x S1=>rbnd (b ρ S1) (fun y S2=>match keyOf x with
 | some k=>.ok (.dct S2.length) (S2++[.dk [(k,y)]])
 | none=>.bad) .mk) .mk:=rfl
@[simp] theorem oAdd_int (i j:Int) (S:zA1):oAdd (.int i) (.int j) S=.ok (.int (i+j)) S:=rfl
@[simp] theorem oAdd_tup (xs ys:List D) (S:zA1):oAdd (.tup xs) (.tup ys) S=if xs.length+ys.length≤lim then .ok (.tup (xs++ys)) S else .bad:=rfl
@[simp] theorem oInt_ev (g:Int→Int→Int) (i j:Int) (S:zA1):oInt g (.int i) (.int j) S=.ok (.int (g i j)) S:=rfl
@[simp] theorem oMul_int (i j:Int) (S:zA1):oMul (.int i) (.int j) S=if mulOk i j then .ok (.int (i*j)) S else .bad:=rfl
@[simp] theorem oMod_int (i j:Int) (S:zA1):oMod (.int i) (.int j) S=if 0<j then .ok (.int (i % j)) S else .bad:=rfl
@[simp] theorem oDiv_int (i j:Int) (S:zA1):oDiv (.int i) (.int j) S=if 0<j∧j<1073741824 then .ok (.int (i / j)) S else .bad:=rfl
@[simp] theorem oPow_int (i j:Int) (S:zA1):oPow (.int i) (.int j) S=if 0≤j∧j≤1000000∧i.natAbs<18446744073709551616 then .ok (.int (i ^ j.toNat)) S else .bad:=rfl
@[simp] theorem oShl_int (i j:Int) (S:zA1):oShl (.int i) (.int j) S=if 0≤j∧j≤1000000∧i.natAbs<18446744073709551616 then .ok (.int (i*2 ^ j.toNat)) S else .bad:=rfl
@[simp] theorem oShr_int (i j:Int) (S:zA1):oShr (.int i) (.int j) S=if 0≤j then .ok (.int (i / 2 ^ j.toNat)) S else .bad:=rfl
@[simp] theorem oNeg_int (i:Int) (S:zA1):oNeg (.int i) S=.ok (.int (-i)) S:=rfl
@[simp] theorem oCmp_int (g:Int→Int→Bool) (i j:Int) (S:zA1):oCmp g (.int i) (.int j) S=.ok (.bl (g i j)) S:=rfl
@[simp] theorem oLt_int (i j:Int) (S:zA1):oLt (.int i) (.int j) S=.ok (.bl (decide (i<j))) S:=rfl
theorem eqv_int (i j:Int):PyData.eqv (.int i) (.int j)=decide (i=j):=by
 show (i == j)=decide (i=j)
 rfl
@[simp] theorem oEq_int (i j:Int) (S:zA1):oEq (.int i) (.int j) S=.ok (.bl (decide (i=j))) S:=by
 show R.ok (D.bl (PyData.eqv (.int i) (.int j))) S=_
 rw [eqv_int]
@[simp] theorem oNe_int (i j:Int) (S:zA1):oNe (.int i) (.int j) S=.ok (.bl (!decide (i=j))) S:=by
 show R.ok (D.bl (!PyData.eqv (.int i) (.int j))) S=_
 rw [eqv_int]
@[simp] theorem oEq_bl (i j:Bool) (S:zA1):oEq (.bl i) (.bl j) S=.ok (.bl (i == j)) S:=by
 show R.ok (D.bl (PyData.eqv (.bool i) (.bool j))) S=_
 cases i <;> cases j <;> rfl
@[simp] theorem oNe_bl (i j:Bool) (S:zA1):oNe (.bl i) (.bl j) S=.ok (.bl (i != j)) S:=by
 show R.ok (D.bl (!PyData.eqv (.bool i) (.bool j))) S=_
 cases i <;> cases j <;> rfl
@[simp] theorem oIs_non (x:D) (S:zA1):oIs x .non S=.ok (.bl x.isNon) S:=by cases x <;> rfl
@[simp] theorem oIsNot_non (x:D) (S:zA1):oIsNot x .non S=.ok (.bl (!x.isNon)) S:=by cases x <;> rfl
@[simp] theorem oIs_bl (a b:Bool) (S:zA1):oIs (.bl a) (.bl b) S=.ok (.bl (a == b)) S:=rfl
@[simp] theorem oIsNot_bl (a b:Bool) (S:zA1):oIsNot (.bl a) (.bl b) S=.ok (.bl (a != b)) S:=rfl
@[simp] theorem fMin_ev (i j:Int) (S:zA1):fMin [.int i,.int j] S=.ok (.int (if j<i then j else i)) S:=rfl
@[simp] theorem fMax_ev (i j:Int) (S:zA1):fMax [.int i,.int j] S=.ok (.int (if j>i then j else i)) S:=rfl
@[simp] theorem fInt_int (i:Int) (S:zA1):fInt [.int i] S=.ok (.int i) S:=rfl
@[simp] theorem fInt_bl (b:Bool) (S:zA1):fInt [.bl b] S=.ok (.int (if b then 1 else 0)) S:=rfl
@[simp] theorem fTuple_tup (xs:List D) (S:zA1):zAe [.tup xs] S=.ok (.tup xs) S:=rfl
theorem zAE {n:Nat}{xs:List D}{S:zA1} (h:zA5 S n=some xs):zAe [.lst n] S=.ok (.tup xs) S:=by
 show (match zA5 S n with | some ys=>R.ok (D.tup ys) S | none=>.bad)=_
 rw [h]
@[simp] theorem fLen_tup (xs:List D) (S:zA1):fLen [.tup xs] S=.ok (.int xs.length) S:=rfl
@[simp] theorem fLen_rol (xs:List D) (S:zA1):fLen [.rol xs] S=.ok (.int xs.length) S:=rfl
theorem fLen_lst {n:Nat}{xs:List D}{S:zA1} (h:zA5 S n=some xs):fLen [.lst n] S=.ok (.int xs.length) S:=by
 show (match seqAt S (.lst n) with | some ys=>R.ok (D.int ys.length) S | none=>.bad)=_
 show (match zA5 S n with | some ys=>R.ok (D.int ys.length) S | none=>.bad)=_
 rw [h]
@[simp] theorem fList_tup (xs:List D) (S:zA1):fList [.tup xs] S=.ok (.lst S.length) (S++[.lst xs]):=rfl
@[simp] theorem oIx_tup (xs:List D) (j:Int) (S:zA1):oIx (.tup xs) (.int j) S=match atI xs j with | some d=>.ok d S | none=>.bad:=rfl
@[simp] theorem oIx_rol (xs:List D) (j:Int) (S:zA1):oIx (.rol xs) (.int j) S=match atI xs j with | some d=>.ok d S | none=>.bad:=rfl
theorem oIx_lst {n:Nat}{xs:List D}{S:zA1} (h:zA5 S n=some xs) (j:Int):oIx (.lst n) (.int j) S=match atI xs j with | some d=>.ok d S | none=>.bad:=by
 show (match zA5 S n,D.int j with | some xs,.int j=>(match atI xs j with | some d=>R.ok d S | none=>.bad) | _,_=>.bad)=_
 rw [h]
@[simp] theorem oSl_tup (xs:List D) (lo hi:Option Int) (S:zA1):oSl (.tup xs) lo hi S=.ok (.tup (cutD xs lo hi)) S:=rfl
theorem oSl_lst {n:Nat}{xs:List D}{S:zA1} (h:zA5 S n=some xs) (lo hi:Option Int):oSl (.lst n) lo hi S=.ok (.lst S.length) (S++[.lst (cutD xs lo hi)]):=by
 show (match zA5 S n with | some xs=>R.ok (D.lst S.length) (S++[O.lst (cutD xs lo hi)]) | none=>.bad)=_
 rw [h]
@[simp] theorem atI_0 {α:Type} (x:α) (xs:List α):atI (x::xs) 0=some x:=atI_nat (j:=0) rfl
@[simp] theorem atI_1 {α:Type} (x y:α) (xs:List α):atI (x::y::xs) 1=some y:=atI_nat (j:=1) rfl
@[simp] theorem atI_2 {α:Type} (x y z:α) (xs:List α):atI (x::y::z::xs) 2=some z:=atI_nat (j:=2) rfl
@[simp] theorem atI_3 {α:Type} (x y z w:α) (xs:List α):atI (x::y::z::w::xs) 3=some w:=atI_nat (j:=3) rfl
structure Kp (P:Nat→Prop) (S S':zA1):Prop where
 le:S.length≤S'.length
 eq:∀ j,j<S.length→¬ P j→S'[j]?=S[j]?
noncomputable abbrev Ex:zA1→zA1→Prop:=Kp fun _=>False
inductive Spc {α:Type} (m:R α) (r:α) (S:zA1):Prop
 | mk (S1:zA1) (e:m=.ok r S1) (x:Ex S S1)
theorem Kp.refl (P:Nat→Prop) (S:zA1):Kp P S S:=⟨Nat.le_refl _,fun _ _ _=>rfl⟩
theorem Kp.trans {P:Nat→Prop}{S S1 S2:zA1} (a:Kp P S S1) (b:Kp P S1 S2):Kp P S S2:=⟨Nat.le_trans a.le b.le,fun j h n=>(b.eq j (Nat.lt_of_lt_of_le h a.le) n).trans (a.eq j h n)⟩
theorem Ex.kp {P:Nat→Prop}{S S':zA1} (h:Ex S S'):Kp P S S':=⟨h.le,fun j hj _=>h.eq j hj (fun z=>z)⟩
theorem Kp.mono {P Q:Nat→Prop}{S S':zA1} (h:Kp P S S') (m:∀ j,j<S.length→P j→Q j):Kp Q S S':=⟨h.le,fun j hj n=>h.eq j hj fun z=>n (m j hj z)⟩
theorem zAc (S T:zA1):Ex S (S++T):=⟨by simp,fun j h _=>List.getElem?_append_left h⟩
theorem kp_set {i:Nat} (S:zA1) (o:O):Kp (·=i) S (S.set i o):=⟨by simp,fun j h n=>List.getElem?_set_ne fun z=>n z.symm⟩
theorem Kp.at {P:Nat→Prop}{S S':zA1} (h:Kp P S S') {j:Nat}{o:O} (e:S[j]?=some o) (n:¬ P j):S'[j]?=some o:=by
 rw [h.eq j (List.getElem?_eq_some_iff.mp e).1 n]; exact e
theorem zAU {S:zA1}{n:Nat}{xs:List D} (h:zA5 S n=some xs):S[n]?=some (.lst xs):=by
 unfold zA5 at h
 split at h
 ·rename_i ys e; cases h; exact e
 ·cases h
theorem lstAt_of {S:zA1}{n:Nat}{xs:List D} (h:S[n]?=some (.lst xs)):zA5 S n=some xs:=by unfold zA5; rw [h]
theorem Kp.lst {P:Nat→Prop}{S S':zA1} (h:Kp P S S') {j:Nat}{xs:List D} (e:zA5 S j=some xs) (n:¬ P j):zA5 S' j=some xs:=lstAt_of (h.at (zAU e) n)
theorem lstAt_lt {S:zA1}{n:Nat}{xs:List D} (h:zA5 S n=some xs):n<S.length:=(List.getElem?_eq_some_iff.mp (zAU h)).1
@[simp] theorem zA4 (S:zA1) (xs:List D):zA5 (S++[.lst xs]) S.length=some xs:=lstAt_of (by rw [List.getElem?_append_right (Nat.le_refl _),Nat.sub_self]; rfl)
theorem lstAt_app {S T:zA1}{n:Nat}{xs:List D} (h:zA5 S n=some xs):zA5 (S++T) n=some xs:=(zAc S T).lst h fun z=>z
theorem lstAt_set {S:zA1}{n:Nat}{xs ys:List D} (h:zA5 S n=some xs):zA5 (S.set n (.lst ys)) n=some ys:=lstAt_of (List.getElem?_set_self (lstAt_lt h))
theorem tyOk_lst {S:zA1}{n:Nat}{xs:List D} (h:zA5 S n=some xs):tyOk "list" (.lst n) S=true:=by
 show (decide ("list" = "list")&&(zA5 S n).isSome)=true
 rw [h]; rfl
theorem mList_ev {S:zA1}{n:Nat}{ys:List D} (h:zA5 S n=some ys) (g:List D→List D→Option (List D × D)) (xs:List D):mList g (.lst n) xs S=match g ys xs with | some p=>.ok p.2 (S.set n (.lst p.1)) | none=>.bad:=by
 unfold mList
 dsimp only
 rw [zAU h]
 dsimp only
 cases g ys xs with
 | none=>rfl
 | some p=>rfl
@[simp] theorem gAppend_ev (ys:List D) (x:D):gAppend ys [x]=if ys.length<lim then some (ys++[x],.non) else none:=rfl
@[simp] theorem gInsert_ev (ys:List D) (i:Int) (x:D):gInsert ys [.int i,x]=if ys.length<1000∧0≤i∧i.toNat≤ys.length then some (ys.take i.toNat++x::ys.drop i.toNat,.non) else none:=rfl
theorem oSet_lst {S:zA1}{n:Nat}{ys:List D} (h:zA5 S n=some ys) (k:Int) (v:D):oSet (.lst n) (.int k) v S=match ixN ys.length k with | some j=>some (S.set n (.lst (ys.set j v))) | none=>none:=by
 unfold oSet
 dsimp only
 rw [zAU h]
 all_goals (dsimp only; cases ixN ys.length k <;> rfl)
theorem zAv (S:zA1):okW [] S:=fun p h=>by cases h
theorem okW_one {S:zA1}{n:Nat}{xs:List D} (h:zA5 S n=some xs):okW [(n,xs)] S:=fun p hp=>by
 simp at hp; subst hp; exact h
theorem loop_go {w:Watch}{g:G}{b:CS}:∀ (items:List D) (P:Nat→Env1→zA1→Prop) {ρ:Env1}{S:zA1} (k:Nat),(∀ i ρ S,P i ρ S→okW w S)→P k ρ S →
  (∀ i d ρ S,items[i]?=some d→P (k+i) ρ S→∃ ρ1 S1,g d ρ S=.ok ρ1 S1∧∃ ρ2 S2,(b ρ1 S1=.nx ρ2 S2∨b ρ1 S1=.ct ρ2 S2)∧P (k+i+1) ρ2 S2)→∃ ρ' S',zAA w g b items ρ S=.nx ρ' S'∧P (k+items.length) ρ' S'
 | [],P,ρ,S,k,hw,h0,hs=>⟨ρ,S,by unfold zAA; rw [if_pos (hw k ρ S h0)],by simpa using h0⟩
 | d::ds,P,ρ,S,k,hw,h0,hs=>by
  obtain ⟨ρ1,S1,e1,ρ2,S2,e2,p2⟩:=hs 0 d ρ S rfl (by simpa using h0)
  obtain ⟨ρ',S',e3,p3⟩:=loop_go ds P (k+1) hw (by simpa using p2) (fun i d' ρ S hi hp=>by
   obtain ⟨ρ1,S1,q1,ρ2,S2,q2,q3⟩:=hs (i+1) d' ρ S (by rw [List.getElem?_cons_succ]; exact hi) (by rw [show k+(i+1)=k+1+i by omega]; exact hp)
   exact ⟨ρ1,S1,q1,ρ2,S2,q2,by rw [show k+1+i+1=k+(i+1)+1 by omega]; exact q3⟩)
  refine ⟨ρ',S',?_,by rw [List.length_cons,show k+(ds.length+1)=k+1+ds.length by omega]; exact p3⟩
  unfold zAA
  rw [if_pos (hw k ρ S h0),e1]
  dsimp only
  rcases e2 with e2 | e2
  ·rw [e2]; exact e3
  ·rw [e2]; exact e3
inductive TurnE (r:RS) (P:Env1→zA1→Prop):Prop
 | mk (ρ2:Env1) (S2:zA1) (h:r=.nx ρ2 S2∨r=.ct ρ2 S2) (p:P ρ2 S2)
inductive TurnR (g:G) (b:CS) (d:D) (ρ:Env1) (S:zA1) (P:Env1→zA1→Prop):Prop
 | mk (ρ1:Env1) (S1:zA1) (e:g d ρ S=.ok ρ1 S1) (t:TurnE (b ρ1 S1) P)
inductive LoopR (r:RS) (P:Env1→zA1→Prop):Prop
 | mk (ρ':Env1) (S':zA1) (e:r=.nx ρ' S') (p:P ρ' S')
theorem loop_inv {w:Watch}{g:G}{b:CS}{items:List D} (P:Nat→Env1→zA1→Prop) {ρ:Env1}{S:zA1} (hw:∀ i ρ S,P i ρ S→okW w S) (h0:P 0 ρ S)
  (hs:∀ i d ρ S,items[i]?=some d→P i ρ S→TurnR g b d ρ S (P (i+1))):LoopR (zAA w g b items ρ S) (P items.length):=by
 obtain ⟨ρ',S',e,p⟩:=loop_go items P 0 hw h0 (fun i d ρ S hi hp=>by
  obtain ⟨ρ1,S1,q1,ρ2,S2,q2,q3⟩:=hs i d ρ S hi (by simpa using hp)
  exact ⟨ρ1,S1,q1,ρ2,S2,q2,by simpa using q3⟩)
 exact ⟨ρ',S',e,by simpa using p⟩
inductive CompR (m:R (List D)) (r:List D) (P:zA1→Prop):Prop
 | mk (S':zA1) (e:m=.ok r S') (p:P S')
theorem comp_goM {α:Type} (e:α→D) {w:Watch}{t:Tgt}{tc:CT}{c:C}{ρ0:Env1} (P:zA1→Prop) (hw:∀ S,P S→okW w S) (p:α→Bool) (f:α→D):∀ (l:List α) {S:zA1},P S →
  (∀ a∈l,∀ S,P S→∃ ρ1,bindT t (e a) ρ0=some ρ1∧∃ S1,tc ρ1 S=.ok (p a) S1∧(p a=false→P S1)∧(p a=true→∃ S2,c ρ1 S1=.ok (f a) S2∧P S2))→CompR (loopC w t tc c ρ0 (l.map e) S) ((l.filter p).map f) P
 | [],S,h0,hs=>⟨S,by rw [List.map_nil]; unfold loopC; rw [if_pos (hw S h0)]; rfl,h0⟩
 | d::ds,S,h0,hs=>by
  obtain ⟨ρ1,e1,S1,e2,hf,ht⟩:=hs d (by simp) S h0
  rw [List.map_cons]
  unfold loopC
  rw [if_pos (hw S h0),e1]
  dsimp only
  rw [bnd_ev,e2,rbnd_ok]
  cases hp:p d with
  | false =>
   obtain ⟨S',e3,h3⟩:=comp_goM e P hw p f ds (hf hp) fun d' hd=>hs d' (by simp [hd])
   exact ⟨S',by rw [if_neg Bool.false_ne_true,e3,List.filter_cons,hp]; rfl,h3⟩
  | true =>
   obtain ⟨S2,e4,h4⟩:=ht hp
   obtain ⟨S',e3,h3⟩:=comp_goM e P hw p f ds h4 fun d' hd=>hs d' (by simp [hd])
   exact ⟨S',by rw [if_pos rfl,bnd_ev,e4,rbnd_ok,bnd_ev,e3,rbnd_ok,List.filter_cons,hp]; rfl,h3⟩
theorem comp_mapM {α:Type} (e:α→D) {w:Watch}{t:Tgt}{c:C}{ρ0:Env1} (P:zA1→Prop) (hw:∀ S,P S→okW w S) (f:α→D) (l:List α) {S:zA1} (h0:P S)
  (hs:∀ a∈l,∀ S,P S→∃ ρ1,bindT t (e a) ρ0=some ρ1∧∃ S2,c ρ1 S=.ok (f a) S2∧P S2):CompR (loopC w t (fun _=>ret true) c ρ0 (l.map e) S) (l.map f) P:=by
 obtain ⟨S',e,h⟩:=comp_goM e (w:=w) (t:=t) (tc:=fun _=>ret true) (c:=c) (ρ0:=ρ0) P hw (fun _=>true) f l h0 (fun d hd S h=>by
  obtain ⟨ρ1,e1,S2,e2,h2⟩:=hs d hd S h
  exact ⟨ρ1,e1,S,rfl,(fun z=>by cases z),fun _=>⟨S2,e2,h2⟩⟩)
 exact ⟨S',by rw [e,List.filter_eq_self.mpr (by simp)],h⟩
theorem comp_pure {α:Type} (e:α→D) {w:Watch}{t:Tgt}{tc:CT}{c:C}{ρ0:Env1}{S:zA1} (hw:okW w S) (p:α→Bool) (f:α→D) (l:List α)
  (hs:∀ a∈l,∃ ρ1,bindT t (e a) ρ0=some ρ1∧tc ρ1 S=.ok (p a) S∧(p a=true→c ρ1 S=.ok (f a) S)):loopC w t tc c ρ0 (l.map e) S=.ok ((l.filter p).map f) S:=by
 obtain ⟨S',e1,h⟩:=comp_goM e (w:=w) (t:=t) (tc:=tc) (c:=c) (ρ0:=ρ0) (fun S'=>S'=S) (fun S' z=>z▸hw) p f l rfl (fun a ha S' z=>by
  subst z
  obtain ⟨ρ1,q1,q2,q3⟩:=hs a ha
  exact ⟨ρ1,q1,S',q2,fun _=>rfl,fun z=>⟨S',q3 z,rfl⟩⟩)
 rw [e1,h]
theorem comp_pureM {α:Type} (e:α→D) {w:Watch}{t:Tgt}{c:C}{ρ0:Env1}{S:zA1} (hw:okW w S) (f:α→D) (l:List α)
  (hs:∀ a∈l,∃ ρ1,bindT t (e a) ρ0=some ρ1∧c ρ1 S=.ok (f a) S):loopC w t (fun _=>ret true) c ρ0 (l.map e) S=.ok (l.map f) S:=by
 have:=comp_pure e (tc:=fun _=>ret true) (c:=c) hw (fun _=>true) f l (fun a ha=>by
  obtain ⟨ρ1,q1,q2⟩:=hs a ha
  exact ⟨ρ1,q1,rfl,fun _=>q2⟩)
 rw [this,List.filter_eq_self.mpr (by simp)]
theorem while_go {t:CT}{b:CS} (P:Nat→Env1→zA1→Prop) (Q:Env1→zA1→Prop) (hs:∀ m ρ S,P m ρ S→(∃ S1,t ρ S=.ok false S1∧Q ρ S1)∨∃ S1,t ρ S=.ok true S1∧∃ ρ2 S2,(b ρ S1=.nx ρ2 S2∨b ρ S1=.ct ρ2 S2)∧∃ m',m'<m∧P m' ρ2 S2) :
  ∀ (k m:Nat) (ρ:Env1) (S:zA1),m<k→P m ρ S→∃ ρ' S',whileS k t b ρ S=.nx ρ' S'∧Q ρ' S'
 | 0,m,ρ,S,hk,h=>absurd hk (Nat.not_lt_zero _)
 | k+1,m,ρ,S,hk,h=>by
  unfold whileS
  rcases hs m ρ S h with ⟨S1,e,q⟩ | ⟨S1,e,ρ2,S2,e2,m',hm,p2⟩
  ·rw [e]; exact ⟨ρ,S1,rfl,q⟩
  ·obtain ⟨ρ',S',e3,q⟩:=while_go P Q hs k m' ρ2 S2 (by omega) p2
   rw [e]
   dsimp only
   rcases e2 with e2 | e2
   ·rw [e2]; exact ⟨ρ',S',e3,q⟩
   ·rw [e2]; exact ⟨ρ',S',e3,q⟩
noncomputable def dkOf (fs:List Int):List (Key × D):=fs.map fun x=>((Sum.inl x:Key),D.bl true)
noncomputable def addK (fs:List Int) (a:Int):List Int:=if a∈fs then fs else fs++[a]
theorem dk_any (fs:List Int) (a:Int):((dkOf fs).any fun kv=>decide (kv.1=(Sum.inl a:Key)))=decide (a∈fs):=by
 induction fs with
 | nil=>rfl
 | cons x r ih =>
  show (decide ((Sum.inl x:Key)=Sum.inl a)||(dkOf r).any _)=_
  rw [ih]
  by_cases h:x=a
  ·subst h; simp
  ·have:(Sum.inl x:Key)≠Sum.inl a:=fun z=>h (Sum.inl.inj z)
   simp [this,Ne.symm h]
theorem dk_put (fs:List Int) (a:Int):putD (dkOf fs) (.inl a) (.bl true)=dkOf (addK fs a):=by
 unfold putD addK
 rw [dk_any]
 by_cases h:a∈fs
 ·rw [if_pos (by simpa using h),if_pos h]
  unfold dkOf
  rw [List.map_map]
  refine List.map_congr_left fun x _=>?_
  show (if (Sum.inl x:Key)=Sum.inl a then ((Sum.inl x:Key),D.bl true) else (Sum.inl x,D.bl true))=_
  split <;> rfl
 ·rw [if_neg (by simpa using h),if_neg h]
  unfold dkOf
  simp
theorem dk_val (fs:List Int) (a:Int):valD (dkOf fs) (.inl a)=if a∈fs then some (.bl true) else none:=by
 unfold valD
 induction fs with
 | nil=>rfl
 | cons x r ih =>
  show Option.map _ (List.find? _ (((Sum.inl x:Key),D.bl true)::dkOf r))=_
  rw [List.find?_cons]
  by_cases h:x=a
  ·subst h; simp
  ·have:(Sum.inl x:Key)≠Sum.inl a:=fun z=>h (Sum.inl.inj z)
   simp only [this,decide_false]
   rw [ih]
   simp [Ne.symm h]
theorem oIn_dk {S:zA1}{m:Nat}{fs:List Int} (h:S[m]?=some (.dk (dkOf fs))) (neg:Bool) (a:Int):oIn neg (.int a) (.dct m) S=.ok (.bl (if neg then !decide (a∈fs) else decide (a∈fs))) S:=by
 have e:dictAt S m (.int a)=some (if a∈fs then some (.bl true) else none):=by
  unfold dictAt
  rw [h]
  show some (valD (dkOf fs) (.inl a))=_
  rw [dk_val]
 show (match dictAt S m (.int a) with | some o=>R.ok (D.bl (if neg then !o.isSome else o.isSome)) S | none=>.bad)=_
 rw [e]
 by_cases hm:a∈fs
 ·simp [hm]
 ·simp [hm]
theorem oSet_dk {S:zA1}{m:Nat}{fs:List Int} (h:S[m]?=some (.dk (dkOf fs))) (hl:fs.length<lim) (a:Int):oSet (.dct m) (.int a) (.bl true) S=some (S.set m (.dk (dkOf (addK fs a)))):=by
 unfold oSet
 dsimp only
 rw [h]
 show (if (dkOf fs).length<lim then some (S.set m (.dk (putD (dkOf fs) (.inl a) (.bl true)))) else none)=_
 rw [if_pos (by unfold dkOf; rw [List.length_map]; exact hl),dk_put]
theorem mem_addK {fs:List Int}{a x:Int}:x∈addK fs a↔x∈fs∨x=a:=by
 unfold addK
 split
 ·rename_i h
  exact ⟨.inl,fun z=>z.elim id fun e=>e▸h⟩
 ·simp
@[simp] theorem bindT_one (d:D) (ρ:Env1):bindT .one d ρ=some (ρ.set 0 (some d)):=rfl
@[simp] theorem bindT_two (x y:D) (ρ:Env1):bindT (.many 2) (.tup [x,y]) ρ=some ((ρ.set 0 (some x)).set 1 (some y)):=rfl
@[simp] theorem stE_ev (k:Nat) (js:List Nat) (ρ:Env1):stE k js ρ=List.replicate k none++js.map fun j=>(ρ[j]?).getD none:=rfl
theorem runF_ev {np nN:Nat}{b:CS}{ds:List D}{S:zA1} (h:ds.length=np):runF np nN b ds S=match b (zA6 nN ds) S with
 | .nx _ S'=>.ok .non S'
 | .rt d S'=>.ok d S'
 | .er c S'=>.er c S'
 | _=>.bad:=by
 unfold runF
 rw [if_pos h]
 all_goals (cases b (zA6 nN ds) S <;> rfl)
theorem zA7 {np nN:Nat}{b:CS}{ds:List D}{S S':zA1}{d:D} (h:ds.length=np) (e:b (zA6 nN ds) S=.rt d S'):runF np nN b ds S=.ok d S':=by rw [runF_ev h,e]
open PySem
noncomputable def plain:Nat→D→Bool
 | 0,_=>false
 | n+1,d=>match d with
  | .int _=>true
  | .non=>true
  | .str x=>PyData.strOk x
  | .tup xs=>xs.all (plain n)
  | _=>false
noncomputable def pdat:Nat→D→PyData
 | 0,_=>.none
 | n+1,d=>match d with
  | .int i=>.int i
  | .str x=>.str x
  | .tup xs=>.tuple (xs.map (pdat n))
  | _=>.none
theorem mapM_some {α β:Type}{f:α→Option β}{g:α→β}{l:List α} (h:∀ x∈l,f x=some (g x)):l.mapM f=some (l.map g):=by
 induction l with
 | nil=>rfl
 | cons a r ih =>
  rw [List.mapM_cons,h a (by simp),ih fun x hx=>h x (by simp [hx])]
  rfl
theorem snap_plain:∀ {n:Nat}{d:D} (S:zA1),plain n d=true→snap n S d=some (pdat n d)
 | 0,d,S,h=>by cases h
 | n+1,d,S,h=>by
  unfold plain at h
  unfold snap pdat
  cases d with
  | int i=>rfl
  | non=>rfl
  | str x=>dsimp only at h ⊢; rw [if_pos h]
  | tup xs =>
   dsimp only at h ⊢
   rw [mapM_some (g:=pdat n) fun x hx=>snap_plain S (List.all_eq_true.mp h x hx)]
   rfl
  | _=>cases h
theorem eqvAll_iff {n:Nat} (ih:∀ d e,plain n d=true→plain n e=true→(PyData.eqv (pdat n d) (pdat n e)=true↔d=e)):∀ (xs ys:List D),xs.all (plain n)=true→ys.all (plain n)=true→(PyData.eqvAll (xs.map (pdat n)) (ys.map (pdat n))=true↔xs=ys)
 | [],[],_,_=>by simp [PyData.eqvAll]
 | [],y::ys,_,_=>by simp [PyData.eqvAll]
 | x::xs,[],_,_=>by simp [PyData.eqvAll]
 | x::xs,y::ys,h1,h2=>by
  rw [List.all_cons,Bool.and_eq_true] at h1 h2
  rw [List.map_cons,List.map_cons]
  show (PyData.eqv (pdat n x) (pdat n y)&&PyData.eqvAll (xs.map (pdat n)) (ys.map (pdat n)))=true↔_
  rw [Bool.and_eq_true,ih x y h1.1 h2.1,eqvAll_iff ih xs ys h1.2 h2.2,List.cons.injEq]
theorem eqv_plain:∀ (n:Nat) (d e:D),plain n d=true→plain n e=true→(PyData.eqv (pdat n d) (pdat n e)=true↔d=e)
 | 0,d,e,h,_=>by cases h
 | n+1,d,e,h1,h2=>by
  unfold plain at h1 h2
  unfold pdat
  cases d with
  | int i =>
   cases e with
   | int j=>simp [PyData.eqv]
   | non=>simp [PyData.eqv]
   | str y=>simp [PyData.eqv]
   | tup ys=>simp [PyData.eqv]
   | _=>cases h2
  | non =>
   cases e with
   | int j=>simp [PyData.eqv]
   | non=>simp [PyData.eqv]
   | str y=>simp [PyData.eqv]
   | tup ys=>simp [PyData.eqv]
   | _=>cases h2
  | str x =>
   cases e with
   | int j=>simp [PyData.eqv]
   | non=>simp [PyData.eqv]
   | str y=>simp [PyData.eqv]
   | tup ys=>simp [PyData.eqv]
   | _=>cases h2
  | tup xs =>
   cases e with
   | int j=>simp [PyData.eqv]
   | non=>simp [PyData.eqv]
   | str y=>simp [PyData.eqv]
   | tup ys =>
    show PyData.eqvAll (xs.map (pdat n)) (ys.map (pdat n))=true↔_
    rw [eqvAll_iff (eqv_plain n) xs ys h1 h2]
    simp
   | _=>cases h2
  | _=>cases h1
noncomputable def eqB {α:Type} (x y:α):Bool:=@decide (x=y) (Classical.propDecidable _)
theorem eqB_iff {α:Type}{x y:α}:eqB x y=true↔x=y:=@decide_eq_true_iff _ (Classical.propDecidable _)
@[simp] theorem eqB_self {α:Type} (x:α):eqB x x=true:=eqB_iff.mpr rfl
theorem bool_ext {a b:Bool} (h:a=true↔b=true):a=b:=by cases a <;> cases b <;> simp at h ⊢
theorem oEq_plain {x y:D} (S:zA1) (h1:plain 40 x=true) (h2:plain 40 y=true):oEq x y S=.ok (.bl (eqB x y)) S:=by
 unfold oEq
 split
 ·rename_i a b
  rw [bool_ext (a:=decide (a=b)) (b:=eqB (D.str a) (D.str b)) (by rw [eqB_iff,decide_eq_true_iff]; exact ⟨fun q=>by rw [q],fun q=>by injection q⟩)]
 ·rw [snap_plain S h1,snap_plain S h2]
  dsimp only
  rw [bool_ext ((eqv_plain 40 x y h1 h2).trans eqB_iff.symm)]
theorem oNe_plain {x y:D} (S:zA1) (h1:plain 40 x=true) (h2:plain 40 y=true):oNe x y S=.ok (.bl (!eqB x y)) S:=by
 unfold oNe
 split
 ·rename_i a b
  rw [bool_ext (a:=decide (a=b)) (b:=eqB (D.str a) (D.str b)) (by rw [eqB_iff,decide_eq_true_iff]; exact ⟨fun q=>by rw [q],fun q=>by injection q⟩)]
 ·rw [snap_plain S h1,snap_plain S h2]
  dsimp only
  rw [bool_ext ((eqv_plain 40 x y h1 h2).trans eqB_iff.symm)]
theorem plain_int {n:Nat} (h:0<n) (i:Int):plain n (.int i)=true:=by
 cases n with
 | zero=>cases h
 | succ n=>rfl
theorem plain_tup {n:Nat}{xs:List D} (h:∀ x∈xs,plain n x=true):plain (n+1) (.tup xs)=true:=List.all_eq_true.mpr h
theorem plain_ints {n:Nat} (h:0<n) (l:List Int):∀ x∈l.map D.int,plain n x=true:=fun x hx=>by
 obtain ⟨i,_,rfl⟩:=List.mem_map.mp hx
 exact plain_int h i
theorem inst_tup (xs:List D) (S:zA1):zAp [.tup xs,.ty "tuple"] S=.ok (.bl true) S:=rfl
@[simp] theorem inst_int_bool (i:Int) (S:zA1):zAp [.int i,.ty "bool"] S=.ok (.bl false) S:=rfl
@[simp] theorem inst_int_int (i:Int) (S:zA1):zAp [.int i,.ty "int"] S=.ok (.bl true) S:=rfl
@[simp] theorem inst_int_tuple (i:Int) (S:zA1):zAp [.int i,.ty "tuple"] S=.ok (.bl false) S:=rfl
@[simp] theorem inst_int_list (i:Int) (S:zA1):zAp [.int i,.ty "list"] S=.ok (.bl false) S:=rfl
@[simp] theorem inst_bool_bool (b:Bool) (S:zA1):zAp [.bl b,.ty "bool"] S=.ok (.bl true) S:=rfl
@[simp] theorem inst_bool_int (b:Bool) (S:zA1):zAp [.bl b,.ty "int"] S=.ok (.bl true) S:=rfl
@[simp] theorem inst_bool_tuple (b:Bool) (S:zA1):zAp [.bl b,.ty "tuple"] S=.ok (.bl false) S:=rfl
@[simp] theorem inst_bool_list (b:Bool) (S:zA1):zAp [.bl b,.ty "list"] S=.ok (.bl false) S:=rfl
@[simp] theorem inst_NoneType_bool  (S:zA1):zAp [.non,.ty "bool"] S=.ok (.bl false) S:=rfl
@[simp] theorem inst_NoneType_int  (S:zA1):zAp [.non,.ty "int"] S=.ok (.bl false) S:=rfl
@[simp] theorem inst_NoneType_tuple  (S:zA1):zAp [.non,.ty "tuple"] S=.ok (.bl false) S:=rfl
@[simp] theorem inst_NoneType_list  (S:zA1):zAp [.non,.ty "list"] S=.ok (.bl false) S:=rfl
@[simp] theorem inst_str_bool (x:Str) (S:zA1):zAp [.str x,.ty "bool"] S=.ok (.bl false) S:=rfl
@[simp] theorem inst_str_int (x:Str) (S:zA1):zAp [.str x,.ty "int"] S=.ok (.bl false) S:=rfl
@[simp] theorem inst_str_tuple (x:Str) (S:zA1):zAp [.str x,.ty "tuple"] S=.ok (.bl false) S:=rfl
@[simp] theorem inst_str_list (x:Str) (S:zA1):zAp [.str x,.ty "list"] S=.ok (.bl false) S:=rfl
@[simp] theorem inst_tuple_bool (xs:List D) (S:zA1):zAp [.tup xs,.ty "bool"] S=.ok (.bl false) S:=rfl
@[simp] theorem inst_tuple_int (xs:List D) (S:zA1):zAp [.tup xs,.ty "int"] S=.ok (.bl false) S:=rfl
@[simp] theorem inst_tuple_tuple (xs:List D) (S:zA1):zAp [.tup xs,.ty "tuple"] S=.ok (.bl true) S:=rfl
@[simp] theorem inst_tuple_list (xs:List D) (S:zA1):zAp [.tup xs,.ty "list"] S=.ok (.bl false) S:=rfl
open PySem
@[simp] theorem oRev_ev (xs:List D) (S:zA1):oRev (.tup xs) (.int (-1)) S=.ok (.tup xs.reverse) S:=rfl
theorem intsOf_map (ns:List Int):intsOf (ns.map D.int)=some ns:=by
 induction ns with
 | nil=>rfl
 | cons a r ih=>show (intsOf (r.map D.int)).map (a::·)=_; rw [ih]; rfl
theorem fSorted_lst {n:Nat}{ns:List Int}{S:zA1} (h:zA5 S n=some (ns.map D.int)) (hl:ns.length<64):fSorted [.lst n] S=.ok (.lst S.length) (S++[.lst ((isort ns).map D.int)]):=by
 unfold fSorted
 simp only [h,Option.bind_some,intsOf_map,if_pos hl]
theorem fSum_lst {n:Nat}{ns:List Int}{S:zA1} (h:zA5 S n=some (ns.map D.int)) (h1:∀ i∈ns,0≤i∧i≤1000000) (hl:ns.length≤1000000):fSum [.lst n] S=.ok (.int ns.sum) S:=by
 unfold fSum
 have:(ns.all fun i=>decide (0≤i)&&decide (i≤1000000))=true:=List.all_eq_true.mpr fun i hi=>by simpa using h1 i hi
 simp only [h,Option.bind_some,intsOf_map,this,hl,and_self,if_true]
theorem cutD_take (xs:List D) {k:Int} (h0:0≤k):cutD xs none (some k)=xs.take k.toNat:=by
 unfold cutD
 rw [show k=((k.toNat:Nat):Int) by omega,HT.sIx_nat,HT.sIx_none,Nat.sub_zero,List.drop_zero,Int.toNat_natCast]
 by_cases h:k.toNat≤xs.length
 ·rw [Nat.min_eq_left h]
 ·rw [Nat.min_eq_right (by omega),List.take_length,List.take_of_length_le (by omega)]
theorem cutD_drop (xs:List D) {k:Int} (h0:0≤k):cutD xs (some k) none=xs.drop k.toNat:=by
 unfold cutD
 rw [show k=((k.toNat:Nat):Int) by omega,HT.sIx_nat,HT.sIx_none,Int.toNat_natCast]
 by_cases h:k.toNat≤xs.length
 ·rw [Nat.min_eq_left h,List.take_of_length_le (by simp)]
 ·rw [Nat.min_eq_right (by omega),Nat.sub_self,List.take_zero,List.drop_of_length_le (by omega)]
end L2
namespace My
open PySem L2
noncomputable def zB7 (cl:CLL):CS :=
 (sSeq (sRet (cAndV (cApp zAp (zA0 [(cVar 0),(cCon (.ty "int"))])) (cNotV (cApp zAp (zA0 [(cVar 0),(cCon (.ty "bool"))])))))
  zA2)
def zAk (cl:Nat→CLL):Prop:=∀ n,cl (n+1) "is_whole"=runF 1 1 (zB7 (cl n))
noncomputable def b_is_bit (cl:CLL):CS :=
 (sSeq (sRet (cAndV (cApp (cl "is_whole") (zA0 [(cVar 0)])) (cChain (oCmp fun i j=>decide (i≤j)) (oCmp fun i j=>decide (i≤j)) (cCon (.int 0)) (cVar 0) (cCon (.int 1)))))
  zA2)
def Hs_is_bit (cl:Nat→CLL):Prop:=∀ n,cl (n+1) "is_bit"=runF 1 1 (b_is_bit (cl n))
noncomputable def is_contact_e1 (cl:CLL):C :=
 (cApp (cl "is_whole") (zA0 [(cVar 0)]))
noncomputable def b_is_contact (cl:CLL):CS :=
 (sSeq (sIf (cOrT (zB6 (cTru (cApp zAp (zA0 [(cVar 2),(cCon (.ty "tuple"))])))) (zA9 (cBin oNe (cApp fLen (zA0 [(cVar 2)])) (cCon (.int 4))))) (sSeq (sRet (cCon (.bl false)))
  zA2) zA2)
  (sSeq (sIf (zB6 (cTru (cApp (fBools fun bs=>bs.all id) (zA0 [(zAm (iSeq (cVar 2)) 1 [] .one (fun _=>ret true) (is_contact_e1 cl))])))) (sSeq (sRet (cCon (.bl false)))
  zA2) zA2)
  (sSeq (sIf (zB6 (cChain3 (oCmp fun i j=>decide (i≤j)) oLt oLt (cCon (.int 0)) (cBin oIx (cVar 2) (cCon (.int 0))) (cBin oIx (cVar 2) (cCon (.int 1))) (cVar 1))) (sSeq (sRet (cCon (.bl false)))
  zA2) zA2)
  (sSeq (sRet (cAndV (cChain (oCmp fun i j=>decide (i≤j)) oLt (cCon (.int 0)) (cBin oIx (cVar 2) (cCon (.int 2))) (cVar 0)) (cApp (cl "is_bit") (zA0 [(cBin oIx (cVar 2) (cCon (.int 3)))]))))
  zA2))))
def Hs_is_contact (cl:Nat→CLL):Prop:=∀ n,cl (n+1) "is_contact"=runF 3 3 (b_is_contact (cl n))
noncomputable def is_net_e1 (cl:CLL):C :=
 (cApp (cl "is_contact") (zA0 [(cVar 1),(cVar 2),(cVar 0)]))
noncomputable def b_is_net (cl:CLL):CS :=
 (sSeq (sIf (cOrT (zB6 (cTru (cApp zAp (zA0 [(cVar 0),(cCon (.ty "tuple"))])))) (zA9 (cBin oNe (cApp fLen (zA0 [(cVar 0)])) (cCon (.int 3))))) (sSeq (sRet (cCon (.bl false)))
  zA2) zA2)
  (sSeq (sAsg (cBin oIx (cVar 0) (cCon (.int 0))) (gN 1))
  (sSeq (sAsg (cBin oIx (cVar 0) (cCon (.int 1))) (gN 2))
  (sSeq (sAsg (cBin oIx (cVar 0) (cCon (.int 2))) (gN 3))
  (sSeq (sIf (cOrT (zB6 (cTru (cApp (cl "is_whole") (zA0 [(cVar 1)])))) (zB6 (zA9 (cChain (oCmp fun i j=>decide (i≤j)) (oCmp fun i j=>decide (i≤j)) (cCon (.int 1)) (cVar 1) (cCon (.int 4)))))) (sSeq (sRet (cCon (.bl false)))
  zA2) zA2)
  (sSeq (sIf (cOrT (zB6 (cTru (cApp (cl "is_whole") (zA0 [(cVar 2)])))) (zB6 (zA9 (cChain (oCmp fun i j=>decide (i≤j)) (oCmp fun i j=>decide (i≤j)) (cCon (.int 2)) (cVar 2) (cCon (.int 7)))))) (sSeq (sRet (cCon (.bl false)))
  zA2) zA2)
  (sSeq (sIf (cOrT (zB6 (cTru (cApp zAp (zA0 [(cVar 3),(cCon (.ty "tuple"))])))) (zA9 (cBin (oCmp fun i j=>decide (j<i)) (cApp fLen (zA0 [(cVar 3)])) (cCon (.int 16))))) (sSeq (sRet (cCon (.bl false)))
  zA2) zA2)
  (sSeq (sRet (cApp (fBools fun bs=>bs.all id) (zA0 [(zAm (iSeq (cVar 3)) 1 [1,2] .one (fun _=>ret true) (is_net_e1 cl))])))
  zA2))))))))
def Hs_is_net (cl:Nat→CLL):Prop:=∀ n,cl (n+1) "is_net"=runF 1 4 (b_is_net (cl n))
noncomputable def settings_e1 (cl:CLL):C :=
 (cBin oAdd (cTup (zA0 [(cCon (.int 0))])) (cVar 0))
noncomputable def settings_e2 (cl:CLL):C :=
 (cBin oAdd (cTup (zA0 [(cCon (.int 1))])) (cVar 0))
noncomputable def settings_l1 (cl:CLL):CS :=
 (sSeq (sAsg (cBin oAdd (zAm (iSeq (cVar 1)) 1 [] .one (fun _=>ret true) (settings_e1 cl)) (zAm (iSeq (cVar 1)) 1 [] .one (fun _=>ret true) (settings_e2 cl))) (gN 1))
  zA2)
noncomputable def b_settings (cl:CLL):CS :=
 (sSeq (sAsg (cLst (zA0 [(cTup (zA0 []))])) (gN 1))
  (sSeq (sFor (zAj (zA0 [(cVar 0)])) (gN 2) (settings_l1 cl))
  (sSeq (sRet (cVar 1))
  zA2)))
def Hs_settings (cl:Nat→CLL):Prop:=∀ n,cl (n+1) "settings"=runF 1 3 (b_settings (cl n))
noncomputable def b_is_shut (cl:CLL):CS :=
 (sSeq (sRet (cBin oEq (cBin oIx (cVar 1) (cBin oIx (cVar 0) (cCon (.int 2)))) (cBin oIx (cVar 0) (cCon (.int 3)))))
  zA2)
def Hs_is_shut (cl:Nat→CLL):Prop:=∀ n,cl (n+1) "is_shut"=runF 2 2 (b_is_shut (cl n))
noncomputable def places_from_l2 (cl:CLL):CS :=
 (sSeq (sIf (zA9 (cBin oNe (cBin (oIn false) (cBin oIx (cVar 4) (cCon (.int 0))) (cVar 2)) (cBin (oIn false) (cBin oIx (cVar 4) (cCon (.int 1))) (cVar 2)))) (sSeq (sAsg (cCon (.bl true)) (gS (cVar 2) (cBin oIx (cVar 4) (cCon (.int 0)))))
  (sSeq (sAsg (cCon (.bl true)) (gS (cVar 2) (cBin oIx (cVar 4) (cCon (.int 1)))))
  (sSeq (sAsg (cCon (.bl true)) (gN 3))
  zA2))) zA2)
  zA2)
noncomputable def places_from_l1 (cl:CLL):CS :=
 (sSeq (sAsg (cCon (.bl false)) (gN 3))
  (sSeq (sFor (iSeq (cVar 1)) (gN 4) (places_from_l2 cl))
  zA2))
noncomputable def b_places_from (cl:CLL):CS :=
 (sSeq (sAsg (cDOne (cVar 0) (cCon (.bl true))) (gN 2))
  (sSeq (sAsg (cCon (.bl true)) (gN 3))
  (sSeq (whileS wfuel (cTru (cVar 3)) (places_from_l1 cl))
  (sSeq (sRet (cVar 2))
  zA2))))
def zAt (cl:Nat→CLL):Prop:=∀ n,cl (n+1) "places_from"=runF 2 5 (b_places_from (cl n))
noncomputable def b_joins (cl:CLL):CS :=
 (sSeq (sRet (cBin (oIn false) (cCon (.int 1)) (cApp (cl "places_from") (zA0 [(cCon (.int 0)),(cVar 0)]))))
  zA2)
def Hs_joins (cl:Nat→CLL):Prop:=∀ n,cl (n+1) "joins"=runF 1 1 (b_joins (cl n))
noncomputable def shut_contacts_t1 (cl:CLL):CT :=
 (cTru (cApp (cl "is_shut") (zA0 [(cVar 0),(cVar 1)])))
noncomputable def shut_contacts_e1 (cl:CLL):C :=
 (cVar 0)
noncomputable def zBg (cl:CLL):CS :=
 (sSeq (sRet (zAm (iSeq (cBin oIx (cVar 0) (cCon (.int 2)))) 1 [1] .one (shut_contacts_t1 cl) (shut_contacts_e1 cl)))
  zA2)
def zAB (cl:Nat→CLL):Prop:=∀ n,cl (n+1) "shut_contacts"=runF 2 2 (zBg (cl n))
noncomputable def b_lets (cl:CLL):CS :=
 (sSeq (sRet (cApp (cl "joins") (zA0 [(cApp (cl "shut_contacts") (zA0 [(cVar 0),(cVar 1)]))])))
  zA2)
def Hs_lets (cl:Nat→CLL):Prop:=∀ n,cl (n+1) "lets"=runF 2 2 (b_lets (cl n))
noncomputable def function_of_e1 (cl:CLL):C :=
 (cIf (cTru (cApp (cl "lets") (zA0 [(cVar 1),(cVar 0)]))) (cCon (.int 1)) (cCon (.int 0)))
noncomputable def b_function_of (cl:CLL):CS :=
 (sSeq (sRet (cApp zAe (zA0 [(zAm (iSeq (cApp (cl "settings") (zA0 [(cBin oIx (cVar 0) (cCon (.int 0)))]))) 1 [0] .one (fun _=>ret true) (function_of_e1 cl))])))
  zA2)
def Hs_function_of (cl:Nat→CLL):Prop:=∀ n,cl (n+1) "function_of"=runF 1 1 (b_function_of (cl n))
noncomputable def where_both_e1 (cl:CLL):C :=
 (cBin (oInt Builtin.bitAnd) (cVar 0) (cVar 1))
noncomputable def b_where_both (cl:CLL):CS :=
 (sSeq (sRet (cApp zAe (zA0 [(zAm (iZipL (zA0 [(cVar 0),(cVar 1)])) 2 [] (.many 2) (fun _=>ret true) (where_both_e1 cl))])))
  zA2)
def Hs_where_both (cl:Nat→CLL):Prop:=∀ n,cl (n+1) "where_both"=runF 2 2 (b_where_both (cl n))
noncomputable def zB8 (cl:CLL):C :=
 (cBin (oInt Builtin.bitOr) (cVar 0) (cVar 1))
noncomputable def b_where_either (cl:CLL):CS :=
 (sSeq (sRet (cApp zAe (zA0 [(zAm (iZipL (zA0 [(cVar 0),(cVar 1)])) 2 [] (.many 2) (fun _=>ret true) (zB8 cl))])))
  zA2)
def Hs_where_either (cl:Nat→CLL):Prop:=∀ n,cl (n+1) "where_either"=runF 2 2 (b_where_either (cl n))
noncomputable def zBh (cl:CLL):CS :=
 (sSeq (sRet (cBin oAdd (cApp zAe (zA0 [(cApp fSorted (zA0 [(cLst (zA0 [(cBin oIx (cVar 1) (cBin oIx (cVar 0) (cCon (.int 0)))),(cBin oIx (cVar 1) (cBin oIx (cVar 0) (cCon (.int 1))))]))]))])) (cSl oSl (cVar 0) (zAs (cCon (.int 2))) zAa)))
  zA2)
def zAC (cl:Nat→CLL):Prop:=∀ n,cl (n+1) "moved_contact"=runF 2 2 (zBh (cl n))
noncomputable def moved_e1 (cl:CLL):C :=
 (cApp (cl "moved_contact") (zA0 [(cVar 0),(cVar 1)]))
noncomputable def b_moved (cl:CLL):CS :=
 (sSeq (sRet (cApp zAe (zA0 [(zAm (iSeq (cVar 0)) 1 [1] .one (fun _=>ret true) (moved_e1 cl))])))
  zA2)
def Hs_moved (cl:Nat→CLL):Prop:=∀ n,cl (n+1) "moved"=runF 2 2 (b_moved (cl n))
noncomputable def b_net_within (cl:CLL):CS :=
 (sSeq (sIf (zA9 (cBin (oCmp fun i j=>decide (j<i)) (cVar 1) (cCon (.int 7)))) (sSeq sBad
  zA2) zA2)
  (sSeq (sIf (zA9 (cBin (oCmp fun i j=>decide (j<i)) (cApp fLen (zA0 [(cVar 2)])) (cCon (.int 16)))) (sSeq sBad
  zA2) zA2)
  (sSeq (sRet (cTup (zA0 [(cVar 0),(cVar 1),(cVar 2)])))
  zA2)))
def Hs_net_within (cl:Nat→CLL):Prop:=∀ n,cl (n+1) "net_within"=runF 3 3 (b_net_within (cl n))
noncomputable def b_in_row (cl:CLL):CS :=
 (sSeq (sAsg (cBin (oInt fun i j=>i - j) (cBin oAdd (cBin oIx (cVar 0) (cCon (.int 1))) (cBin oIx (cVar 1) (cCon (.int 1)))) (cCon (.int 2))) (gN 2))
  (sSeq (sAsg (cApp (cl "moved") (zA0 [(cBin oIx (cVar 0) (cCon (.int 2))),(cBin oAdd (cLst (zA0 [(cCon (.int 0)),(cVar 2)])) (cApp fListR (zA0 [(cCon (.int 2)),(cBin oIx (cVar 0) (cCon (.int 1)))])))])) (gN 3))
  (sSeq (sAsg (cApp (cl "moved") (zA0 [(cBin oIx (cVar 1) (cCon (.int 2))),(cBin oAdd (cLst (zA0 [(cVar 2),(cCon (.int 1))])) (cApp fListR (zA0 [(cBin oIx (cVar 0) (cCon (.int 1))),(cVar 2)])))])) (gN 4))
  (sSeq (sRet (cApp (cl "net_within") (zA0 [(cBin oIx (cVar 0) (cCon (.int 0))),(cBin oAdd (cVar 2) (cCon (.int 1))),(cBin oAdd (cVar 3) (cVar 4))])))
  zA2))))
def Hs_in_row (cl:Nat→CLL):Prop:=∀ n,cl (n+1) "in_row"=runF 2 5 (b_in_row (cl n))
noncomputable def zB2 (cl:CLL):CS :=
 (sSeq (sAsg (cBin (oInt fun i j=>i - j) (cBin oAdd (cBin oIx (cVar 0) (cCon (.int 1))) (cBin oIx (cVar 1) (cCon (.int 1)))) (cCon (.int 2))) (gN 2))
  (sSeq (sAsg (cApp (cl "moved") (zA0 [(cBin oIx (cVar 1) (cCon (.int 2))),(cBin oAdd (cLst (zA0 [(cCon (.int 0)),(cCon (.int 1))])) (cApp fListR (zA0 [(cBin oIx (cVar 0) (cCon (.int 1))),(cVar 2)])))])) (gN 3))
  (sSeq (sRet (cApp (cl "net_within") (zA0 [(cBin oIx (cVar 0) (cCon (.int 0))),(cVar 2),(cBin oAdd (cBin oIx (cVar 0) (cCon (.int 2))) (cVar 3))])))
  zA2)))
def Hs_side_by_side (cl:Nat→CLL):Prop:=∀ n,cl (n+1) "side_by_side"=runF 2 4 (zB2 (cl n))
noncomputable def b_is_lone (cl:CLL):CS :=
 (sSeq (sIf (cOrT (zB6 (cTru (cApp zAp (zA0 [(cVar 1),(cCon (.ty "tuple"))])))) (cOrT (zA9 (cBin oNe (cApp fLen (zA0 [(cVar 1)])) (cCon (.int 3)))) (zA9 (cBin oNe (cBin oIx (cVar 1) (cCon (.int 0))) (cCon (.str (Str.ofString "at"))))))) (sSeq (sRet (cCon (.bl false)))
  zA2) zA2)
  (sSeq (sRet (cAndV (cApp (cl "is_whole") (zA0 [(cBin oIx (cVar 1) (cCon (.int 1)))])) (cAndV (cChain (oCmp fun i j=>decide (i≤j)) oLt (cCon (.int 0)) (cBin oIx (cVar 1) (cCon (.int 1))) (cVar 0)) (cApp (cl "is_bit") (zA0 [(cBin oIx (cVar 1) (cCon (.int 2)))])))))
  zA2))
def Hs_is_lone (cl:Nat→CLL):Prop:=∀ n,cl (n+1) "is_lone"=runF 2 2 (b_is_lone (cl n))
noncomputable def zAS (cl:CLL):CS :=
 (sSeq (sIf (cOrT (zB6 (cTru (cApp zAp (zA0 [(cVar 0),(cCon (.ty "tuple"))])))) (cOrT (zA9 (cBin oNe (cApp fLen (zA0 [(cVar 0)])) (cCon (.int 2)))) (zA9 (cBin (oIn true) (cBin oIx (cVar 0) (cCon (.int 0))) (cTup (zA0 [(cCon (.str (Str.ofString "row"))),(cCon (.str (Str.ofString "side")))])))))) (sSeq (sRet (cCon (.bl false)))
  zA2) zA2)
  (sSeq (sRet (cAndV (cApp zAp (zA0 [(cBin oIx (cVar 0) (cCon (.int 1))),(cCon (.ty "tuple"))])) (cBin (oCmp fun i j=>decide (j≤i)) (cApp fLen (zA0 [(cBin oIx (cVar 0) (cCon (.int 1)))])) (cCon (.int 2)))))
  zA2))
def Hs_has_parts (cl:Nat→CLL):Prop:=∀ n,cl (n+1) "has_parts"=runF 1 1 (zAS (cl n))
noncomputable def is_tree_l1 (cl:CLL):CS :=
 (sSeq (sIf (zA9 (cBin (oCmp fun i j=>decide (j<i)) (cBin oAdd (cVar 3) (cApp fLen (zA0 [(cVar 2)]))) (cCon (.int 16)))) (sSeq (sRet (cCon (.bl false)))
  zA2) zA2)
  (sSeq (sAsg (cMeth0 "list" (mList gPop) (cVar 2)) (gN 4))
  (sSeq (sIf (cTru (cApp (cl "is_lone") (zA0 [(cVar 0),(cVar 4)]))) (sSeq (sAsg (cBin oAdd (cVar 3) (cCon (.int 1))) (gN 3))
  zA2) (sSeq (sIf (cTru (cApp (cl "has_parts") (zA0 [(cVar 4)]))) (sSeq (sExpr (cMeth "list" mExtend (cVar 2) (zA0 [(cBin oIx (cVar 4) (cCon (.int 1)))])))
  zA2) (sSeq (sRet (cCon (.bl false)))
  zA2))
  zA2))
  zA2)))
noncomputable def b_is_tree (cl:CLL):CS :=
 (sSeq (sAsg (cLst (zA0 [(cVar 1)])) (gN 2))
  (sSeq (sAsg (cCon (.int 0)) (gN 3))
  (sSeq (whileS wfuel (cTru (cVar 2)) (is_tree_l1 cl))
  (sSeq (sRet (cCon (.bl true)))
  zA2))))
def Hs_is_tree (cl:Nat→CLL):Prop:=∀ n,cl (n+1) "is_tree"=runF 2 5 (b_is_tree (cl n))
noncomputable def contacts_of_e1 (cl:CLL):C :=
 (cApp (cl "contacts_of") (zA0 [(cVar 0)]))
noncomputable def zAV (cl:CLL):CS :=
 (sSeq (sIf (zA9 (cBin oEq (cBin oIx (cVar 0) (cCon (.int 0))) (cCon (.str (Str.ofString "at"))))) (sSeq (sRet (cCon (.int 1)))
  zA2) zA2)
  (sSeq (sRet (cApp fSum (zA0 [(zAm (iSeq (cBin oIx (cVar 0) (cCon (.int 1)))) 1 [] .one (fun _=>ret true) (contacts_of_e1 cl))])))
  zA2))
def Hs_contacts_of (cl:Nat→CLL):Prop:=∀ n,cl (n+1) "contacts_of"=runF 1 1 (zAV (cl n))
noncomputable def b_lone_net (cl:CLL):CS :=
 (sSeq (sRet (cTup (zA0 [(cVar 0),(cCon (.int 2)),(cTup (zA0 [(cTup (zA0 [(cCon (.int 0)),(cCon (.int 1)),(cBin oIx (cVar 1) (cCon (.int 1))),(cBin oIx (cVar 1) (cCon (.int 2)))]))]))])))
  zA2)
def Hs_lone_net (cl:Nat→CLL):Prop:=∀ n,cl (n+1) "lone_net"=runF 2 2 (b_lone_net (cl n))
noncomputable def zAq (cl:CLL):CS :=
 (sSeq (sAsg (cApp (cl "tree_function") (zA0 [(cVar 0),(cVar 3)])) (gN 4))
  (sSeq (sAsg (cIf (zA9 (cBin oEq (cBin oIx (cVar 1) (cCon (.int 0))) (cCon (.str (Str.ofString "row"))))) (cApp (cl "where_both") (zA0 [(cVar 2),(cVar 4)])) (cApp (cl "where_either") (zA0 [(cVar 2),(cVar 4)]))) (gN 2))
  zA2))
noncomputable def zAo (cl:CLL):CS :=
 (sSeq (sIf (zA9 (cBin oEq (cBin oIx (cVar 1) (cCon (.int 0))) (cCon (.str (Str.ofString "at"))))) (sSeq (sRet (cApp (cl "function_of") (zA0 [(cApp (cl "lone_net") (zA0 [(cVar 0),(cVar 1)]))])))
  zA2) zA2)
  (sSeq (sAsg (cApp (cl "tree_function") (zA0 [(cVar 0),(cBin oIx (cBin oIx (cVar 1) (cCon (.int 1))) (cCon (.int 0)))])) (gN 2))
  (sSeq (sFor (iSeq (cSl oSl (cBin oIx (cVar 1) (cCon (.int 1))) (zAs (cCon (.int 1))) zAa)) (gN 3) (zAq cl))
  (sSeq (sRet (cVar 2))
  zA2))))
def Hs_tree_function (cl:Nat→CLL):Prop:=∀ n,cl (n+1) "tree_function"=runF 2 5 (zAo (cl n))
noncomputable def net_of_l1 (cl:CLL):CS :=
 (sSeq (sAsg (cApp (cl "net_of") (zA0 [(cVar 0),(cVar 3)])) (gN 4))
  (sSeq (sAsg (cIf (zA9 (cBin oEq (cBin oIx (cVar 1) (cCon (.int 0))) (cCon (.str (Str.ofString "row"))))) (cApp (cl "in_row") (zA0 [(cVar 2),(cVar 4)])) (cApp (cl "side_by_side") (zA0 [(cVar 2),(cVar 4)]))) (gN 2))
  zA2))
noncomputable def b_net_of (cl:CLL):CS :=
 (sSeq (sIf (zA9 (cBin oEq (cBin oIx (cVar 1) (cCon (.int 0))) (cCon (.str (Str.ofString "at"))))) (sSeq (sRet (cApp (cl "lone_net") (zA0 [(cVar 0),(cVar 1)])))
  zA2) zA2)
  (sSeq (sAsg (cApp (cl "net_of") (zA0 [(cVar 0),(cBin oIx (cBin oIx (cVar 1) (cCon (.int 1))) (cCon (.int 0)))])) (gN 2))
  (sSeq (sFor (iSeq (cSl oSl (cBin oIx (cVar 1) (cCon (.int 1))) (zAs (cCon (.int 1))) zAa)) (gN 3) (net_of_l1 cl))
  (sSeq (sRet (cVar 2))
  zA2))))
def Hs_net_of (cl:Nat→CLL):Prop:=∀ n,cl (n+1) "net_of"=runF 2 5 (b_net_of (cl n))
noncomputable def inside_out_e1 (cl:CLL):C :=
 (cApp (cl "inside_out") (zA0 [(cVar 0)]))
noncomputable def zAR (cl:CLL):CS :=
 (sSeq (sIf (zA9 (cBin oEq (cBin oIx (cVar 0) (cCon (.int 0))) (cCon (.str (Str.ofString "at"))))) (sSeq (sRet (cVar 0))
  zA2) zA2)
  (sSeq (sAsg (cIf (zA9 (cBin oEq (cBin oIx (cVar 0) (cCon (.int 0))) (cCon (.str (Str.ofString "row"))))) (cCon (.str (Str.ofString "side"))) (cCon (.str (Str.ofString "row")))) (gN 1))
  (sSeq (sRet (cTup (zA0 [(cVar 1),(cApp zAe (zA0 [(zAm (iSeq (cBin oIx (cVar 0) (cCon (.int 1)))) 1 [] .one (fun _=>ret true) (inside_out_e1 cl))]))])))
  zA2)))
def Hs_inside_out (cl:Nat→CLL):Prop:=∀ n,cl (n+1) "inside_out"=runF 1 2 (zAR (cl n))
noncomputable def other_ons_e1 (cl:CLL):C :=
 (cApp (cl "other_ons") (zA0 [(cVar 0)]))
noncomputable def b_other_ons (cl:CLL):CS :=
 (sSeq (sIf (zA9 (cBin oEq (cBin oIx (cVar 0) (cCon (.int 0))) (cCon (.str (Str.ofString "at"))))) (sSeq (sRet (cTup (zA0 [(cCon (.str (Str.ofString "at"))),(cBin oIx (cVar 0) (cCon (.int 1))),(cBin (oInt fun i j=>i - j) (cCon (.int 1)) (cBin oIx (cVar 0) (cCon (.int 2))))])))
  zA2) zA2)
  (sSeq (sRet (cTup (zA0 [(cBin oIx (cVar 0) (cCon (.int 0))),(cApp zAe (zA0 [(zAm (iSeq (cBin oIx (cVar 0) (cCon (.int 1)))) 1 [] .one (fun _=>ret true) (other_ons_e1 cl))]))])))
  zA2))
def Hs_other_ons (cl:Nat→CLL):Prop:=∀ n,cl (n+1) "other_ons"=runF 1 1 (b_other_ons (cl n))
noncomputable def b_against (cl:CLL):CS :=
 (sSeq (sRet (cApp (cl "other_ons") (zA0 [(cApp (cl "inside_out") (zA0 [(cVar 0)]))])))
  zA2)
def Hs_against (cl:Nat→CLL):Prop:=∀ n,cl (n+1) "against"=runF 1 1 (b_against (cl n))
noncomputable def made_flat_l1 (cl:CLL):CS :=
 (sSeq (sAsg (cApp (cl "made_flat") (zA0 [(cVar 2)])) (gN 3))
  (sSeq (sIf (zA9 (cBin oEq (cBin oIx (cVar 3) (cCon (.int 0))) (cBin oIx (cVar 0) (cCon (.int 0))))) (sSeq (sExpr (cMeth "list" mExtend (cVar 1) (zA0 [(cBin oIx (cVar 3) (cCon (.int 1)))])))
  zA2) (sSeq (sExpr (cMeth "list" (mList gAppend) (cVar 1) (zA0 [(cVar 3)])))
  zA2))
  zA2))
noncomputable def b_made_flat (cl:CLL):CS :=
 (sSeq (sIf (zA9 (cBin oEq (cBin oIx (cVar 0) (cCon (.int 0))) (cCon (.str (Str.ofString "at"))))) (sSeq (sRet (cVar 0))
  zA2) zA2)
  (sSeq (sAsg (cLst (zA0 [])) (gN 1))
  (sSeq (sFor (iSeq (cBin oIx (cVar 0) (cCon (.int 1)))) (gN 2) (made_flat_l1 cl))
  (sSeq (sRet (cTup (zA0 [(cBin oIx (cVar 0) (cCon (.int 0))),(cApp zAe (zA0 [(cVar 1)]))])))
  zA2))))
def Hs_made_flat (cl:Nat→CLL):Prop:=∀ n,cl (n+1) "made_flat"=runF 1 4 (b_made_flat (cl n))
noncomputable def bonds_of_e1 (cl:CLL):C :=
 (cTup (zA0 [(cBin oIx (cVar 0) (cCon (.int 0))),(cBin oIx (cVar 0) (cCon (.int 1))),(cTup (zA0 [(cCon (.str (Str.ofString "at"))),(cBin oIx (cVar 0) (cCon (.int 2))),(cBin oIx (cVar 0) (cCon (.int 3)))]))]))
noncomputable def b_bonds_of (cl:CLL):CS :=
 (sSeq (sRet (zAm (iSeq (cBin oIx (cVar 0) (cCon (.int 2)))) 1 [] .one (fun _=>ret true) (bonds_of_e1 cl)))
  zA2)
def Hs_bonds_of (cl:Nat→CLL):Prop:=∀ n,cl (n+1) "bonds_of"=runF 1 1 (b_bonds_of (cl n))
noncomputable def may_vanish_t1 (cl:CLL):CT :=
 (zA9 (cBin (oIn false) (cVar 1) (cSl oSl (cVar 0) zAa (zAs (cCon (.int 2))))))
noncomputable def may_vanish_e1 (cl:CLL):C :=
 (cVar 0)
noncomputable def zAP (cl:CLL):CS :=
 (sSeq (sRet (cAndV (cBin (oCmp fun i j=>decide (j≤i)) (cVar 0) (cCon (.int 2))) (cBin oEq (cApp fLen (zA0 [(zAm (iSeq (cVar 1)) 1 [0] .one (may_vanish_t1 cl) (may_vanish_e1 cl))])) (cCon (.int 2)))))
  zA2)
def Hs_may_vanish (cl:Nat→CLL):Prop:=∀ n,cl (n+1) "may_vanish"=runF 2 2 (zAP (cl n))
noncomputable def drawn_pair_t1 (cl:CLL):CT :=
 (zA9 (cBin oNe (cVar 0) (cVar 1)))
noncomputable def drawn_pair_e1 (cl:CLL):C :=
 (cVar 0)
noncomputable def zAd (cl:CLL):CS :=
 (sSeq (sIf (cAndT (zA9 (cBin (oIn false) (cVar 3) (cSl oSl (cVar 1) zAa (zAs (cCon (.int 2)))))) (cTru (cApp (cl "may_vanish") (zA0 [(cVar 3),(cVar 2)])))) (sSeq (sAsg (cApp fSorted (zA0 [(zAm (iSeq (cBin oAdd (cSl oSl (cVar 0) zAa (zAs (cCon (.int 2)))) (cSl oSl (cVar 1) zAa (zAs (cCon (.int 2)))))) 1 [3] .one (drawn_pair_t1 cl) (drawn_pair_e1 cl))])) (gN 4))
  (sSeq (sRet (cTup (zA0 [(cBin oIx (cVar 4) (cCon (.int 0))),(cBin oIx (cVar 4) (cCon (.int 1))),(cTup (zA0 [(cCon (.str (Str.ofString "row"))),(cTup (zA0 [(cBin oIx (cVar 0) (cCon (.int 2))),(cBin oIx (cVar 1) (cCon (.int 2)))]))]))])))
  zA2)) zA2)
  zA2)
noncomputable def zAx (cl:CLL):CS :=
 (sSeq (sIf (zA9 (cBin oEq (cSl oSl (cVar 0) zAa (zAs (cCon (.int 2)))) (cSl oSl (cVar 1) zAa (zAs (cCon (.int 2)))))) (sSeq (sRet (cBin oAdd (cSl oSl (cVar 0) zAa (zAs (cCon (.int 2)))) (cTup (zA0 [(cTup (zA0 [(cCon (.str (Str.ofString "side"))),(cTup (zA0 [(cBin oIx (cVar 0) (cCon (.int 2))),(cBin oIx (cVar 1) (cCon (.int 2)))]))]))]))))
  zA2) zA2)
  (sSeq (sFor (iSeq (cSl oSl (cVar 0) zAa (zAs (cCon (.int 2))))) (gN 3) (zAd cl))
  (sSeq (sRet (cCon .non))
  zA2)))
def Hs_drawn_pair (cl:Nat→CLL):Prop:=∀ n,cl (n+1) "drawn_pair"=runF 3 5 (zAx (cl n))
noncomputable def zAh (cl:CLL):CS :=
 (sSeq (sAsg (cApp (cl "drawn_pair") (zA0 [(cBin oIx (cVar 0) (cVar 3)),(cVar 2),(cVar 0)])) (gN 4))
  (sSeq (sIf (zA9 (cBin oIsNot (cVar 4) (cCon .non))) (sSeq (sRet (cBin oAdd (cBin oAdd (cBin oAdd (cSl oSl (cVar 0) zAa (zAs (cVar 3))) (cLst (zA0 [(cVar 4)]))) (cSl oSl (cVar 0) (zAs (cBin oAdd (cVar 3) (cCon (.int 1)))) (zAs (cVar 1)))) (cSl oSl (cVar 0) (zAs (cBin oAdd (cVar 1) (cCon (.int 1)))) zAa)))
  zA2) zA2)
  zA2))
noncomputable def zAr (cl:CLL):CS :=
 (sSeq (sFor (zAj (zA0 [(cVar 1)])) (gN 3) (zAh cl))
  zA2)
noncomputable def zAT (cl:CLL):CS :=
 (sSeq (sFor (iEnumT (zA0 [(cVar 0)])) (gT [(gN 1),(gN 2)]) (zAr cl))
  (sSeq (sRet (cCon .non))
  zA2))
def Hs_drawn_once (cl:Nat→CLL):Prop:=∀ n,cl (n+1) "drawn_once"=runF 1 5 (zAT (cl n))
noncomputable def tree_of_l1 (cl:CLL):CS :=
 (sSeq (sAsg (cVar 2) (gN 1))
  (sSeq (sAsg (cApp (cl "drawn_once") (zA0 [(cVar 1)])) (gN 2))
  zA2))
noncomputable def b_tree_of (cl:CLL):CS :=
 (sSeq (sAsg (cApp (cl "bonds_of") (zA0 [(cVar 0)])) (gN 1))
  (sSeq (sAsg (cApp (cl "drawn_once") (zA0 [(cVar 1)])) (gN 2))
  (sSeq (whileS wfuel (zA9 (cBin oIsNot (cVar 2) (cCon .non))) (tree_of_l1 cl))
  (sSeq (sIf (cAndT (zA9 (cBin oEq (cApp fLen (zA0 [(cVar 1)])) (cCon (.int 1)))) (zA9 (cBin oEq (cSl oSl (cBin oIx (cVar 1) (cCon (.int 0))) zAa (zAs (cCon (.int 2)))) (cTup (zA0 [(cCon (.int 0)),(cCon (.int 1))]))))) (sSeq (sRet (cBin oIx (cBin oIx (cVar 1) (cCon (.int 0))) (cCon (.int 2))))
  zA2) zA2)
  (sSeq (sRet (cCon .non))
  zA2)))))
def Hs_tree_of (cl:Nat→CLL):Prop:=∀ n,cl (n+1) "tree_of"=runF 1 3 (b_tree_of (cl n))
noncomputable def b_law_cell_at (cl:CLL):CS :=
 (sSeq (sIf (zA9 (cBin oLt (cVar 1) (cApp fLen (zA0 [(cVar 0)])))) (sSeq (sRet (cBin oIx (cVar 0) (cVar 1)))
  zA2) zA2)
  (sSeq (sRet (cCon (.int 0)))
  zA2))
def zB3 (cl:Nat→CLL):Prop:=∀ n,cl (n+1) "_law_cell_at"=runF 2 2 (b_law_cell_at (cl n))
noncomputable def b_law_state (cl:CLL):CS :=
 (sSeq (sAsg (cApp (cl "_law_cell_at") (zA0 [(cVar 0),(cVar 1)])) (gN 2))
  (sSeq (sIf (zA9 (cBin (oCmp fun i j=>decide (j≤i)) (cVar 2) (cBin oPow (cCon (.int 10)) (cCon (.int 18))))) (sSeq (sRet (cLst (zA0 [(cBin (oInt fun i j=>i - j) (cVar 2) (cBin oPow (cCon (.int 10)) (cCon (.int 18)))),(cCon (.bl true))])))
  zA2) zA2)
  (sSeq (sRet (cLst (zA0 [(cBin oMod (cVar 2) (cCon (.int 2147483647))),(cCon (.bl false))])))
  zA2)))
def Hs_law_state (cl:Nat→CLL):Prop:=∀ n,cl (n+1) "_law_state"=runF 2 3 (b_law_state (cl n))
noncomputable def b_law_take (cl:CLL):CS :=
 (sSeq (sIf (cTru (cBin oIx (cVar 0) (cCon (.int 1)))) (sSeq (sAsg (cBin oMod (cBin oIx (cVar 0) (cCon (.int 0))) (cVar 1)) (gN 2))
  (sSeq (sAsg (cBin oDiv (cBin oIx (cVar 0) (cCon (.int 0))) (cVar 1)) (gS (cVar 0) (cCon (.int 0))))
  (sSeq (sRet (cVar 2))
  zA2))) zA2)
  (sSeq (sAsg (cBin oMod (cBin oAdd (cBin oMul (cBin oIx (cVar 0) (cCon (.int 0))) (cCon (.int 48271))) (cCon (.int 29))) (cCon (.int 2147483647))) (gS (cVar 0) (cCon (.int 0))))
  (sSeq (sAsg (cBin oMod (cBin oAdd (cBin oAdd (cBin oMul (cBin oIx (cVar 0) (cCon (.int 0))) (cBin oIx (cVar 0) (cCon (.int 0)))) (cBin oMul (cCon (.int 39373)) (cBin oIx (cVar 0) (cCon (.int 0))))) (cCon (.int 7))) (cCon (.int 2147483629))) (gN 3))
  (sSeq (sAsg (cBin oMod (cBin oAdd (cBin oMul (cVar 3) (cVar 3)) (cBin oMul (cCon (.int 16807)) (cVar 3))) (cCon (.int 2147483587))) (gN 3))
  (sSeq (sRet (cBin oMod (cBin oDiv (cVar 3) (cCon (.int 8))) (cVar 1)))
  zA2)))))
def Hs_law_take (cl:Nat→CLL):Prop:=∀ n,cl (n+1) "_law_take"=runF 2 4 (b_law_take (cl n))
noncomputable def b_law_tree (cl:CLL):CS :=
 (sSeq (sIf (cOrT (zA9 (cBin oLt (cVar 2) (cCon (.int 2)))) (zA9 (cBin oEq (cApp (cl "_law_take") (zA0 [(cVar 0),(cCon (.int 5))])) (cCon (.int 0))))) (sSeq (sRet (cTup (zA0 [(cCon (.str (Str.ofString "at"))),(cApp (cl "_law_take") (zA0 [(cVar 0),(cVar 1)])),(cApp (cl "_law_take") (zA0 [(cVar 0),(cCon (.int 2))]))])))
  zA2) zA2)
  (sSeq (sAsg (cBin oAdd (cCon (.int 1)) (cApp (cl "_law_take") (zA0 [(cVar 0),(cBin (oInt fun i j=>i - j) (cVar 2) (cCon (.int 1)))]))) (gN 3))
  (sSeq (sAsg (cLst (zA0 [(cApp (cl "_law_tree") (zA0 [(cVar 0),(cVar 1),(cVar 3)])),(cApp (cl "_law_tree") (zA0 [(cVar 0),(cVar 1),(cBin (oInt fun i j=>i - j) (cVar 2) (cVar 3))]))])) (gN 4))
  (sSeq (sIf (cAndT (zA9 (cBin (oCmp fun i j=>decide (j<i)) (cVar 3) (cCon (.int 1)))) (zA9 (cBin oEq (cApp (cl "_law_take") (zA0 [(cVar 0),(cCon (.int 3))])) (cCon (.int 0))))) (sSeq (sAsg (cBin oAdd (cCon (.int 1)) (cApp (cl "_law_take") (zA0 [(cVar 0),(cBin (oInt fun i j=>i - j) (cVar 3) (cCon (.int 1)))]))) (gN 5))
  (sSeq (sAsg (cApp (cl "_law_tree") (zA0 [(cVar 0),(cVar 1),(cVar 5)])) (gS (cVar 4) (cCon (.int 0))))
  (sSeq (sExpr (cMeth "list" (mList gInsert) (cVar 4) (zA0 [(cCon (.int 1)),(cApp (cl "_law_tree") (zA0 [(cVar 0),(cVar 1),(cBin (oInt fun i j=>i - j) (cVar 3) (cVar 5))]))])))
  zA2))) zA2)
  (sSeq (sRet (cTup (zA0 [(cBin oIx (cLst (zA0 [(cCon (.str (Str.ofString "row"))),(cCon (.str (Str.ofString "side")))])) (cApp (cl "_law_take") (zA0 [(cVar 0),(cCon (.int 2))]))),(cApp zAe (zA0 [(cVar 4)]))])))
  zA2)))))
def Hs_law_tree (cl:Nat→CLL):Prop:=∀ n,cl (n+1) "_law_tree"=runF 3 6 (b_law_tree (cl n))
noncomputable def zAI (cl:CLL):C :=
 (cBin (oInt fun i j=>i - j) (cCon (.int 1)) (cVar 0))
noncomputable def zAH (cl:CLL):C :=
 (cBin (oInt fun i j=>i - j) (cCon (.int 1)) (cVar 0))
noncomputable def zAw (cl:CLL):CS :=
 (sSeq (sAsg (cApp (cl "tree_function") (zA0 [(cVar 0),(cVar 1)])) (gN 2))
  (sSeq (sIf (zA9 (cBin oNe (cApp (cl "tree_function") (zA0 [(cVar 0),(cApp (cl "against") (zA0 [(cVar 1)]))])) (cApp zAe (zA0 [(zAm (iSeq (cVar 2)) 1 [] .one (fun _=>ret true) (zAH cl))])))) (sSeq (sRet (cCon (.bl false)))
  zA2) zA2)
  (sSeq (sIf (zA9 (cBin oNe (cApp (cl "tree_function") (zA0 [(cVar 0),(cApp (cl "inside_out") (zA0 [(cVar 1)]))])) (cApp zAe (zA0 [(zAm (iSeq (cBin oRev (cVar 2) (cUn oNeg (cCon (.int 1))))) 1 [] .one (fun _=>ret true) (zAI cl))])))) (sSeq (sRet (cCon (.bl false)))
  zA2) zA2)
  (sSeq (sIf (cOrT (zA9 (cBin oNe (cApp (cl "against") (zA0 [(cApp (cl "against") (zA0 [(cVar 1)]))])) (cVar 1))) (zA9 (cBin oNe (cApp (cl "inside_out") (zA0 [(cApp (cl "inside_out") (zA0 [(cVar 1)]))])) (cVar 1)))) (sSeq (sRet (cCon (.bl false)))
  zA2) zA2)
  (sSeq (sAsg (cApp (cl "made_flat") (zA0 [(cVar 1)])) (gN 3))
  (sSeq (sIf (cOrT (zB6 (cTru (cApp (cl "is_tree") (zA0 [(cVar 0),(cVar 3)])))) (cOrT (zA9 (cBin oNe (cApp (cl "tree_function") (zA0 [(cVar 0),(cVar 3)])) (cVar 2))) (zA9 (cBin oNe (cApp (cl "made_flat") (zA0 [(cVar 3)])) (cVar 3))))) (sSeq (sRet (cCon (.bl false)))
  zA2) zA2)
  (sSeq (sRet (cAndV (cBin oEq (cApp (cl "contacts_of") (zA0 [(cVar 3)])) (cApp (cl "contacts_of") (zA0 [(cVar 1)]))) (cBin oEq (cApp (cl "made_flat") (zA0 [(cApp (cl "against") (zA0 [(cVar 1)]))])) (cApp (cl "against") (zA0 [(cVar 3)])))))
  zA2)))))))
def Hs_law_turns_right (cl:Nat→CLL):Prop:=∀ n,cl (n+1) "_law_turns_right"=runF 2 4 (zAw (cl n))
noncomputable def zAQ (cl:CLL):CS :=
 (sSeq (sAsg (cApp (cl "net_of") (zA0 [(cVar 0),(cVar 1)])) (gN 2))
  (sSeq (sIf (cOrT (zB6 (cTru (cApp (cl "is_net") (zA0 [(cVar 2)])))) (cOrT (zA9 (cBin oNe (cApp (cl "function_of") (zA0 [(cVar 2)])) (cApp (cl "tree_function") (zA0 [(cVar 0),(cVar 1)])))) (zA9 (cBin oNe (cApp fLen (zA0 [(cBin oIx (cVar 2) (cCon (.int 2)))])) (cApp (cl "contacts_of") (zA0 [(cVar 1)])))))) (sSeq (sRet (cCon (.bl false)))
  zA2) zA2)
  (sSeq (sAsg (cApp (cl "tree_of") (zA0 [(cVar 2)])) (gN 3))
  (sSeq (sIf (cOrT (zA9 (cBin oIs (cVar 3) (cCon .non))) (cOrT (zB6 (cTru (cApp (cl "is_tree") (zA0 [(cVar 0),(cVar 3)])))) (zA9 (cBin oNe (cApp (cl "contacts_of") (zA0 [(cVar 3)])) (cApp (cl "contacts_of") (zA0 [(cVar 1)])))))) (sSeq (sRet (cCon (.bl false)))
  zA2) zA2)
  (sSeq (sRet (cBin oEq (cApp (cl "tree_function") (zA0 [(cVar 0),(cVar 3)])) (cApp (cl "function_of") (zA0 [(cVar 2)]))))
  zA2)))))
def Hs_law_net_right (cl:Nat→CLL):Prop:=∀ n,cl (n+1) "_law_net_right"=runF 2 4 (zAQ (cl n))
noncomputable def law_v17_l2 (cl:CLL):CS :=
 (sSeq (sIf (zB6 (cTru (cApp (cl "_law_net_right") (zA0 [(cVar 3),(cVar 6)])))) (sSeq (sRet (cCon (.bl false)))
  zA2) zA2)
  zA2)
noncomputable def law_v17_l1 (cl:CLL):CS :=
 (sSeq (sAsg (cApp (cl "_law_state") (zA0 [(cVar 0),(cVar 1)])) (gN 2))
  (sSeq (sAsg (cBin oAdd (cCon (.int 1)) (cApp (cl "_law_take") (zA0 [(cVar 2),(cCon (.int 4))]))) (gN 3))
  (sSeq (sIf (zB6 (cTru (cApp (cl "_law_turns_right") (zA0 [(cVar 3),(cApp (cl "_law_tree") (zA0 [(cVar 2),(cVar 3),(cCon (.int 12))]))])))) (sSeq (sRet (cCon (.bl false)))
  zA2) zA2)
  (sSeq (sAsg (cApp (cl "_law_tree") (zA0 [(cVar 2),(cVar 3),(cCon (.int 3))])) (gN 4))
  (sSeq (sAsg (cApp (cl "_law_tree") (zA0 [(cVar 2),(cVar 3),(cCon (.int 3))])) (gN 5))
  (sSeq (sFor (iSeq (cLst (zA0 [(cVar 4),(cVar 5),(cTup (zA0 [(cCon (.str (Str.ofString "row"))),(cTup (zA0 [(cVar 4),(cVar 5)]))])),(cTup (zA0 [(cCon (.str (Str.ofString "side"))),(cTup (zA0 [(cVar 5),(cVar 4)]))]))]))) (gN 6) (law_v17_l2 cl))
  (sSeq (sIf (zA9 (cBin oNe (cApp (cl "net_of") (zA0 [(cVar 3),(cTup (zA0 [(cCon (.str (Str.ofString "row"))),(cTup (zA0 [(cVar 4),(cVar 5)]))]))])) (cApp (cl "in_row") (zA0 [(cApp (cl "net_of") (zA0 [(cVar 3),(cVar 4)])),(cApp (cl "net_of") (zA0 [(cVar 3),(cVar 5)]))])))) (sSeq (sRet (cCon (.bl false)))
  zA2) zA2)
  (sSeq (sIf (zA9 (cBin oNe (cApp (cl "net_of") (zA0 [(cVar 3),(cTup (zA0 [(cCon (.str (Str.ofString "side"))),(cTup (zA0 [(cVar 4),(cVar 5)]))]))])) (cApp (cl "side_by_side") (zA0 [(cApp (cl "net_of") (zA0 [(cVar 3),(cVar 4)])),(cApp (cl "net_of") (zA0 [(cVar 3),(cVar 5)]))])))) (sSeq (sRet (cCon (.bl false)))
  zA2) zA2)
  (sSeq (sIf (zA9 (cBin oNe (cApp fLen (zA0 [(cApp (cl "settings") (zA0 [(cVar 3)]))])) (cApp fLen (zA0 [(cApp (cl "tree_function") (zA0 [(cVar 3),(cVar 4)]))])))) (sSeq (sRet (cCon (.bl false)))
  zA2) zA2)
  zA2)))))))))
noncomputable def b_law_v17 (cl:CLL):CS :=
 (sSeq (sFor (zAj (zA0 [(cApp fMax (zA0 [(cCon (.int 1)),(cApp fMin (zA0 [(cApp fLen (zA0 [(cVar 0)])),(cCon (.int 6))]))]))])) (gN 1) (law_v17_l1 cl))
  (sSeq (sRet (cCon (.bl true)))
  zA2))
def Hs_law_v17 (cl:Nat→CLL):Prop:=∀ n,cl (n+1) "law"=runF 1 7 (b_law_v17 (cl n))
noncomputable def b_law_ends (cl:CLL):CS :=
 (sSeq (sAsg (cBin oAdd (cBin oAdd (cLst (zA0 [(cCon (.int 0))])) (cApp fListR (zA0 [(cCon (.int 2)),(cVar 1)]))) (cLst (zA0 [(cCon (.int 1))]))) (gN 2))
  (sSeq (sAsg (cApp (cl "_law_take") (zA0 [(cVar 0),(cBin (oInt fun i j=>i - j) (cVar 1) (cCon (.int 1)))])) (gN 3))
  (sSeq (sAsg (cBin oAdd (cVar 3) (cCon (.int 1))) (gN 4))
  (sSeq (sIf (zA9 (cBin oEq (cApp (cl "_law_take") (zA0 [(cVar 0),(cCon (.int 3))])) (cCon (.int 0)))) (sSeq (sAsg (cBin oAdd (cBin oAdd (cVar 3) (cCon (.int 1))) (cApp (cl "_law_take") (zA0 [(cVar 0),(cBin (oInt fun i j=>i - j) (cBin (oInt fun i j=>i - j) (cVar 1) (cCon (.int 1))) (cVar 3))]))) (gN 4))
  zA2) zA2)
  (sSeq (sRet (cTup (zA0 [(cApp fMin (zA0 [(cBin oIx (cVar 2) (cVar 3)),(cBin oIx (cVar 2) (cVar 4))])),(cApp fMax (zA0 [(cBin oIx (cVar 2) (cVar 3)),(cBin oIx (cVar 2) (cVar 4))]))])))
  zA2)))))
def Hs_law_ends (cl:Nat→CLL):Prop:=∀ n,cl (n+1) "_law_ends"=runF 2 5 (b_law_ends (cl n))
noncomputable def law_net_l1 (cl:CLL):CS :=
 (sSeq (sExpr (cMeth "list" (mList gInsert) (cVar 11) (zA0 [(cApp (cl "_law_take") (zA0 [(cVar 0),(cBin oAdd (cApp fLen (zA0 [(cVar 11)])) (cCon (.int 1)))])),(cVar 12)])))
  zA2)
noncomputable def law_net_l2 (cl:CLL):CS :=
 (sSeq (sExpr (cMeth "list" (mList gAppend) (cVar 6) (zA0 [(cBin oAdd (cApp (cl "_law_ends") (zA0 [(cVar 0),(cVar 5)])) (cTup (zA0 [(cApp (cl "_law_take") (zA0 [(cVar 0),(cVar 4)])),(cApp (cl "_law_take") (zA0 [(cVar 0),(cCon (.int 2))]))])))])))
  zA2)
noncomputable def law_net_l3 (cl:CLL):CS :=
 (sSeq (sExpr (cMeth "list" (mList gAppend) (cVar 6) (zA0 [(cTup (zA0 [(cApp fMin (zA0 [(cVar 8),(cVar 9)])),(cApp fMax (zA0 [(cVar 8),(cVar 9)])),(cApp (cl "_law_take") (zA0 [(cVar 0),(cVar 4)])),(cApp (cl "_law_take") (zA0 [(cVar 0),(cCon (.int 2))]))]))])))
  zA2)
noncomputable def b_law_net (cl:CLL):CS :=
 (sSeq (sAsg (cBin oAdd (cCon (.int 1)) (cApp (cl "_law_take") (zA0 [(cVar 0),(cVar 1)]))) (gN 4))
  (sSeq (sAsg (cBin oAdd (cCon (.int 2)) (cApp (cl "_law_take") (zA0 [(cVar 0),(cBin (oInt fun i j=>i - j) (cVar 2) (cCon (.int 1)))]))) (gN 5))
  (sSeq (sAsg (cLst (zA0 [])) (gN 6))
  (sSeq (sAsg (cBin oAdd (cBin oAdd (cLst (zA0 [(cCon (.int 0))])) (cApp fListR (zA0 [(cCon (.int 2)),(cVar 5)]))) (cLst (zA0 [(cCon (.int 1))]))) (gN 7))
  (sSeq (sIf (cAndT (zA9 (cBin oEq (cApp (cl "_law_take") (zA0 [(cVar 0),(cCon (.int 2))])) (cCon (.int 0)))) (zA9 (cBin (oCmp fun i j=>decide (i≤j)) (cBin (oInt fun i j=>i - j) (cVar 5) (cCon (.int 1))) (cVar 3)))) (sSeq (sFor (iZipL (zA0 [(cVar 7),(cSl oSl (cVar 7) (zAs (cCon (.int 1))) zAa)])) (gT [(gN 8),(gN 9)]) (law_net_l3 cl))
  zA2) zA2)
  (sSeq (sFor (zAj (zA0 [(cApp (cl "_law_take") (zA0 [(cVar 0),(cBin oAdd (cBin (oInt fun i j=>i - j) (cVar 3) (cApp fLen (zA0 [(cVar 6)]))) (cCon (.int 1)))]))])) (gN 10) (law_net_l2 cl))
  (sSeq (sAsg (cLst (zA0 [])) (gN 11))
  (sSeq (sFor (iSeq (cVar 6)) (gN 12) (law_net_l1 cl))
  (sSeq (sRet (cTup (zA0 [(cVar 4),(cVar 5),(cApp zAe (zA0 [(cVar 11)]))])))
  zA2)))))))))
def Hs_law_net (cl:Nat→CLL):Prop:=∀ n,cl (n+1) "_law_net"=runF 4 13 (b_law_net (cl n))
noncomputable def law_shut_t1 (cl:CLL):CT :=
 (zA9 (cBin oEq (cBin oIx (cVar 2) (cBin oIx (cVar 1) (cCon (.int 2)))) (cBin oIx (cVar 1) (cCon (.int 3)))))
noncomputable def law_shut_e1 (cl:CLL):C :=
 (cVar 0)
noncomputable def b_law_shut (cl:CLL):CS :=
 (sSeq (sRet (zAm (iEnumT (zA0 [(cBin oIx (cVar 0) (cCon (.int 2)))])) 2 [1] (.many 2) (law_shut_t1 cl) (law_shut_e1 cl)))
  zA2)
def Hs_law_shut (cl:Nat→CLL):Prop:=∀ n,cl (n+1) "_law_shut"=runF 2 2 (b_law_shut (cl n))
noncomputable def law_marks_l2 (cl:CLL):CS :=
 (sSeq (sAsg (cSl oSl (cBin oIx (cBin oIx (cVar 0) (cCon (.int 2))) (cVar 4)) zAa (zAs (cCon (.int 2)))) (gT [(gN 5),(gN 6)]))
  (sSeq (sAsg (cApp fMin (zA0 [(cBin oIx (cVar 2) (cVar 5)),(cBin oIx (cVar 2) (cVar 6))])) (gN 7))
  (sSeq (sAsg (cVar 7) (gS (cVar 2) (cVar 5)))
  (sSeq (sAsg (cVar 7) (gS (cVar 2) (cVar 6)))
  zA2))))
noncomputable def law_marks_l1 (cl:CLL):CS :=
 (sSeq (sFor (iSeq (cVar 1)) (gN 4) (law_marks_l2 cl))
  zA2)
noncomputable def b_law_marks (cl:CLL):CS :=
 (sSeq (sAsg (cApp fListR (zA0 [(cBin oIx (cVar 0) (cCon (.int 1)))])) (gN 2))
  (sSeq (sFor (zAj (zA0 [(cBin oIx (cVar 0) (cCon (.int 1)))])) (gN 3) (law_marks_l1 cl))
  (sSeq (sRet (cVar 2))
  zA2)))
def Hs_law_marks (cl:Nat→CLL):Prop:=∀ n,cl (n+1) "_law_marks"=runF 2 8 (b_law_marks (cl n))
noncomputable def b_law_lets (cl:CLL):CS :=
 (sSeq (sRet (cBin oEq (cBin oIx (cApp (cl "_law_marks") (zA0 [(cVar 0),(cApp (cl "_law_shut") (zA0 [(cVar 0),(cVar 1)]))])) (cCon (.int 1))) (cCon (.int 0))))
  zA2)
def Hs_law_lets (cl:Nat→CLL):Prop:=∀ n,cl (n+1) "_law_lets"=runF 2 2 (b_law_lets (cl n))
noncomputable def law_settings_e1 (cl:CLL):C :=
 (cBin (oInt Builtin.bitAnd) (cBin oShr (cVar 1) (cBin (oInt fun i j=>i - j) (cBin (oInt fun i j=>i - j) (cVar 2) (cCon (.int 1))) (cVar 0))) (cCon (.int 1)))
noncomputable def law_settings_l1 (cl:CLL):CS :=
 (sSeq (sExpr (cMeth "list" (mList gAppend) (cVar 1) (zA0 [(cApp zAe (zA0 [(zAm (zAj (zA0 [(cVar 0)])) 1 [2,0] .one (fun _=>ret true) (law_settings_e1 cl))]))])))
  zA2)
noncomputable def b_law_settings (cl:CLL):CS :=
 (sSeq (sAsg (cLst (zA0 [])) (gN 1))
  (sSeq (sFor (zAj (zA0 [(cBin oShl (cCon (.int 1)) (cVar 0))])) (gN 2) (law_settings_l1 cl))
  (sSeq (sRet (cVar 1))
  zA2)))
def Hs_law_settings (cl:Nat→CLL):Prop:=∀ n,cl (n+1) "_law_settings"=runF 1 3 (b_law_settings (cl n))
noncomputable def law_function_e1 (cl:CLL):C :=
 (cApp fInt (zA0 [(cApp (cl "_law_lets") (zA0 [(cVar 1),(cVar 0)]))]))
noncomputable def b_law_function (cl:CLL):CS :=
 (sSeq (sRet (cApp zAe (zA0 [(zAm (iSeq (cApp (cl "_law_settings") (zA0 [(cBin oIx (cVar 0) (cCon (.int 0)))]))) 1 [0] .one (fun _=>ret true) (law_function_e1 cl))])))
  zA2)
def Hs_law_function (cl:Nat→CLL):Prop:=∀ n,cl (n+1) "_law_function"=runF 1 1 (b_law_function (cl n))
noncomputable def is_function_e1 (cl:CLL):C :=
 (cApp (cl "is_bit") (zA0 [(cVar 0)]))
noncomputable def b_is_function (cl:CLL):CS :=
 (sSeq (sIf (cOrT (zB6 (cTru (cApp zAp (zA0 [(cVar 1),(cCon (.ty "tuple"))])))) (zA9 (cBin oNe (cApp fLen (zA0 [(cVar 1)])) (cApp fLen (zA0 [(cApp (cl "settings") (zA0 [(cVar 0)]))]))))) (sSeq (sRet (cCon (.bl false)))
  zA2) zA2)
  (sSeq (sRet (cApp (fBools fun bs=>bs.all id) (zA0 [(zAm (iSeq (cVar 1)) 1 [] .one (fun _=>ret true) (is_function_e1 cl))])))
  zA2))
def Hs_is_function (cl:Nat→CLL):Prop:=∀ n,cl (n+1) "is_function"=runF 2 2 (b_is_function (cl n))
noncomputable def first_unlike_l1 (cl:CLL):CS :=
 (sSeq (sIf (zA9 (cBin oNe (cVar 3) (cVar 4))) (sSeq (sRet (cVar 2))
  zA2) zA2)
  zA2)
noncomputable def b_first_unlike (cl:CLL):CS :=
 (sSeq (sFor (iZip3L (zA0 [(cApp (cl "settings") (zA0 [(cBin oIx (cVar 0) (cCon (.int 0)))])),(cApp (cl "function_of") (zA0 [(cVar 0)])),(cApp (cl "function_of") (zA0 [(cVar 1)]))])) (gT [(gN 2),(gN 3),(gN 4)]) (first_unlike_l1 cl))
  (sSeq (sRet (cCon .non))
  zA2))
def Hs_first_unlike (cl:Nat→CLL):Prop:=∀ n,cl (n+1) "first_unlike"=runF 2 5 (b_first_unlike (cl n))
noncomputable def b_refuse_no_contact (cl:CLL):CS :=
 (sSeq (sIf (cOrT (zB6 (cTru (cApp (cl "is_whole") (zA0 [(cVar 1)])))) (zB6 (zA9 (cChain (oCmp fun i j=>decide (i≤j)) oLt (cCon (.int 0)) (cVar 1) (cApp fLen (zA0 [(cBin oIx (cVar 0) (cCon (.int 2)))])))))) (sSeq sBad
  zA2) zA2)
  zA2)
def Hs_refuse_no_contact (cl:Nat→CLL):Prop:=∀ n,cl (n+1) "refuse_no_contact"=runF 2 2 (b_refuse_no_contact (cl n))
noncomputable def b_cut (cl:CLL):CS :=
 (sSeq (sExpr (cApp (cl "refuse_no_contact") (zA0 [(cVar 0),(cVar 1)])))
  (sSeq (sRet (cTup (zA0 [(cBin oIx (cVar 0) (cCon (.int 0))),(cBin oIx (cVar 0) (cCon (.int 1))),(cBin oAdd (cSl oSl (cBin oIx (cVar 0) (cCon (.int 2))) zAa (zAs (cVar 1))) (cSl oSl (cBin oIx (cVar 0) (cCon (.int 2))) (zAs (cBin oAdd (cVar 1) (cCon (.int 1)))) zAa))])))
  zA2))
def Hs_cut (cl:Nat→CLL):Prop:=∀ n,cl (n+1) "cut"=runF 2 2 (b_cut (cl n))
noncomputable def bridged_t1 (cl:CLL):CT :=
 (zA9 (cBin oNe (cBin oIx (cVar 1) (cBin oIx (cVar 0) (cCon (.int 0)))) (cBin oIx (cVar 1) (cBin oIx (cVar 0) (cCon (.int 1))))))
noncomputable def bridged_e1 (cl:CLL):C :=
 (cVar 0)
noncomputable def b_bridged (cl:CLL):CS :=
 (sSeq (sExpr (cApp (cl "refuse_no_contact") (zA0 [(cVar 0),(cVar 1)])))
  (sSeq (sAsg (cBin oIx (cBin oIx (cBin oIx (cVar 0) (cCon (.int 2))) (cVar 1)) (cCon (.int 0))) (gN 2))
  (sSeq (sAsg (cBin oIx (cBin oIx (cBin oIx (cVar 0) (cCon (.int 2))) (cVar 1)) (cCon (.int 1))) (gN 3))
  (sSeq (sIf (zA9 (cBin oEq (cVar 3) (cCon (.int 1)))) (sSeq sBad
  zA2) zA2)
  (sSeq (sAsg (cBin oAdd (cBin oAdd (cApp fListR (zA0 [(cVar 3)])) (cLst (zA0 [(cVar 2)]))) (cApp fListR (zA0 [(cVar 3),(cBin (oInt fun i j=>i - j) (cBin oIx (cVar 0) (cCon (.int 1))) (cCon (.int 1)))]))) (gN 4))
  (sSeq (sAsg (zAm (iSeq (cBin oIx (cVar 0) (cCon (.int 2)))) 1 [4] .one (bridged_t1 cl) (bridged_e1 cl)) (gN 5))
  (sSeq (sRet (cTup (zA0 [(cBin oIx (cVar 0) (cCon (.int 0))),(cBin (oInt fun i j=>i - j) (cBin oIx (cVar 0) (cCon (.int 1))) (cCon (.int 1))),(cApp (cl "moved") (zA0 [(cVar 5),(cVar 4)]))])))
  zA2)))))))
def Hs_bridged (cl:Nat→CLL):Prop:=∀ n,cl (n+1) "bridged"=runF 2 6 (b_bridged (cl n))
noncomputable def b_are_alike (cl:CLL):CS :=
 (sSeq (sRet (cBin oIs (cApp (cl "first_unlike") (zA0 [(cVar 0),(cVar 1)])) (cCon .non)))
  zA2)
def Hs_are_alike (cl:Nat→CLL):Prop:=∀ n,cl (n+1) "are_alike"=runF 2 2 (b_are_alike (cl n))
noncomputable def b_is_idle (cl:CLL):CS :=
 (sSeq (sRet (cApp (cl "are_alike") (zA0 [(cApp (cl "cut") (zA0 [(cVar 0),(cVar 1)])),(cVar 0)])))
  zA2)
def Hs_is_idle (cl:Nat→CLL):Prop:=∀ n,cl (n+1) "is_idle"=runF 2 2 (b_is_idle (cl n))
noncomputable def idle_t1 (cl:CLL):CT :=
 (cTru (cApp (cl "is_idle") (zA0 [(cVar 1),(cVar 0)])))
noncomputable def idle_e1 (cl:CLL):C :=
 (cVar 0)
noncomputable def b_idle (cl:CLL):CS :=
 (sSeq (sRet (cApp zAe (zA0 [(zAm (zAj (zA0 [(cApp fLen (zA0 [(cBin oIx (cVar 0) (cCon (.int 2)))]))])) 1 [0] .one (idle_t1 cl) (idle_e1 cl))])))
  zA2)
def Hs_idle (cl:Nat→CLL):Prop:=∀ n,cl (n+1) "idle"=runF 1 1 (b_idle (cl n))
noncomputable def b_law_same (cl:CLL):CS :=
 (sSeq (sRet (cBin oEq (cApp fRepr (zA0 [(cVar 0)])) (cApp fRepr (zA0 [(cVar 1)]))))
  zA2)
def Hs_law_same (cl:Nat→CLL):Prop:=∀ n,cl (n+1) "_law_same"=runF 2 2 (b_law_same (cl n))
noncomputable def b_law_whole (cl:CLL):CS :=
 (sSeq (sRet (cAndV (cApp zAp (zA0 [(cVar 0),(cCon (.ty "int"))])) (cAndV (cNotV (cApp zAp (zA0 [(cVar 0),(cCon (.ty "bool"))]))) (cChain (oCmp fun i j=>decide (i≤j)) oLt (cVar 1) (cVar 0) (cVar 2)))))
  zA2)
def Hs_law_whole (cl:Nat→CLL):Prop:=∀ n,cl (n+1) "_law_whole"=runF 3 3 (b_law_whole (cl n))
noncomputable def is_row_e1 (cl:CLL):C :=
 (cApp (cl "is_function") (zA0 [(cVar 1),(cVar 0)]))
noncomputable def b_is_row (cl:CLL):CS :=
 (sSeq (sIf (cOrT (zB6 (cTru (cApp zAp (zA0 [(cVar 2),(cCon (.ty "tuple"))])))) (zA9 (cBin oNe (cApp fLen (zA0 [(cVar 2)])) (cVar 1)))) (sSeq (sRet (cCon (.bl false)))
  zA2) zA2)
  (sSeq (sRet (cApp (fBools fun bs=>bs.all id) (zA0 [(zAm (iSeq (cVar 2)) 1 [0] .one (fun _=>ret true) (is_row_e1 cl))])))
  zA2))
def Hs_is_row (cl:Nat→CLL):Prop:=∀ n,cl (n+1) "is_row"=runF 3 3 (b_is_row (cl n))
noncomputable def same_both_ways_l2 (cl:CLL):CS :=
 (sSeq (sIf (zA9 (cBin oNe (cBin oIx (cBin oIx (cVar 0) (cVar 1)) (cVar 2)) (cBin oIx (cBin oIx (cVar 0) (cVar 2)) (cVar 1)))) (sSeq (sRet (cCon (.bl false)))
  zA2) zA2)
  zA2)
noncomputable def same_both_ways_l1 (cl:CLL):CS :=
 (sSeq (sFor (zAj (zA0 [(cVar 1)])) (gN 2) (same_both_ways_l2 cl))
  zA2)
noncomputable def b_same_both_ways (cl:CLL):CS :=
 (sSeq (sFor (zAj (zA0 [(cApp fLen (zA0 [(cVar 0)]))])) (gN 1) (same_both_ways_l1 cl))
  (sSeq (sRet (cCon (.bl true)))
  zA2))
def Hs_same_both_ways (cl:Nat→CLL):Prop:=∀ n,cl (n+1) "same_both_ways"=runF 1 3 (b_same_both_ways (cl n))
noncomputable def is_table_e1 (cl:CLL):C :=
 (cApp (fBools fun bs=>bs.all id) (zA0 [(cBin oIx (cVar 1) (cVar 0))]))
noncomputable def is_table_e2 (cl:CLL):C :=
 (cApp (cl "is_row") (zA0 [(cVar 1),(cApp fLen (zA0 [(cVar 2)])),(cVar 0)]))
noncomputable def b_is_table (cl:CLL):CS :=
 (sSeq (sIf (cOrT (zB6 (cTru (cApp zAp (zA0 [(cVar 1),(cCon (.ty "tuple"))])))) (zB6 (zA9 (cChain (oCmp fun i j=>decide (i≤j)) (oCmp fun i j=>decide (i≤j)) (cCon (.int 2)) (cApp fLen (zA0 [(cVar 1)])) (cCon (.int 7)))))) (sSeq (sRet (cCon (.bl false)))
  zA2) zA2)
  (sSeq (sIf (zB6 (cTru (cApp (fBools fun bs=>bs.all id) (zA0 [(zAm (iSeq (cVar 1)) 1 [0,1] .one (fun _=>ret true) (is_table_e2 cl))])))) (sSeq (sRet (cCon (.bl false)))
  zA2) zA2)
  (sSeq (sRet (cAndV (cApp (fBools fun bs=>bs.all id) (zA0 [(zAm (iEnumT (zA0 [(cVar 1)])) 2 [] (.many 2) (fun _=>ret true) (is_table_e1 cl))])) (cApp (cl "same_both_ways") (zA0 [(cVar 1)]))))
  zA2)))
def Hs_is_table (cl:Nat→CLL):Prop:=∀ n,cl (n+1) "is_table"=runF 2 2 (b_is_table (cl n))
noncomputable def law_is_table_t1 (cl:CLL):CT :=
 (zA9 (cBin oNe (cBin oIx (cBin oIx (cVar 1) (cVar 2)) (cVar 0)) (cBin oIx (cBin oIx (cVar 1) (cVar 0)) (cVar 2))))
noncomputable def law_is_table_e1 (cl:CLL):C :=
 (cVar 0)
noncomputable def law_is_table_l1 (cl:CLL):CS :=
 (sSeq (sIf (zA9 (cBin (oIn false) (cCon (.int 0)) (cBin oIx (cBin oIx (cVar 1) (cVar 4)) (cVar 4)))) (sSeq (sRet (cCon (.bl false)))
  zA2) zA2)
  (sSeq (sIf (zA9 (cBin oNe (zAm (zAj (zA0 [(cVar 4)])) 1 [1,4] .one (law_is_table_t1 cl) (law_is_table_e1 cl)) (cLst (zA0 [])))) (sSeq (sRet (cCon (.bl false)))
  zA2) zA2)
  zA2))
noncomputable def law_is_table_e2 (cl:CLL):C :=
 (cApp (cl "_law_whole") (zA0 [(cVar 0),(cCon (.int 0)),(cCon (.int 2))]))
noncomputable def law_is_table_l3 (cl:CLL):CS :=
 (sSeq (sIf (cOrT (zB6 (cTru (cApp zAp (zA0 [(cVar 3),(cCon (.ty "tuple"))])))) (zA9 (cBin oNe (cApp fLen (zA0 [(cVar 3)])) (cBin oShl (cCon (.int 1)) (cVar 0))))) (sSeq (sRet (cCon (.bl false)))
  zA2) zA2)
  (sSeq (sIf (zB6 (cTru (cApp (fBools fun bs=>bs.all id) (zA0 [(zAm (iSeq (cVar 3)) 1 [] .one (fun _=>ret true) (law_is_table_e2 cl))])))) (sSeq (sRet (cCon (.bl false)))
  zA2) zA2)
  zA2))
noncomputable def law_is_table_l2 (cl:CLL):CS :=
 (sSeq (sIf (cOrT (zB6 (cTru (cApp zAp (zA0 [(cVar 2),(cCon (.ty "tuple"))])))) (zA9 (cBin oNe (cApp fLen (zA0 [(cVar 2)])) (cApp fLen (zA0 [(cVar 1)]))))) (sSeq (sRet (cCon (.bl false)))
  zA2) zA2)
  (sSeq (sFor (iSeq (cVar 2)) (gN 3) (law_is_table_l3 cl))
  zA2))
noncomputable def b_law_is_table (cl:CLL):CS :=
 (sSeq (sIf (cOrT (zB6 (cTru (cApp zAp (zA0 [(cVar 1),(cCon (.ty "tuple"))])))) (zB6 (zA9 (cChain (oCmp fun i j=>decide (i≤j)) (oCmp fun i j=>decide (i≤j)) (cCon (.int 2)) (cApp fLen (zA0 [(cVar 1)])) (cCon (.int 7)))))) (sSeq (sRet (cCon (.bl false)))
  zA2) zA2)
  (sSeq (sFor (iSeq (cVar 1)) (gN 2) (law_is_table_l2 cl))
  (sSeq (sFor (zAj (zA0 [(cApp fLen (zA0 [(cVar 1)]))])) (gN 4) (law_is_table_l1 cl))
  (sSeq (sRet (cCon (.bl true)))
  zA2))))
def Hs_law_is_table (cl:Nat→CLL):Prop:=∀ n,cl (n+1) "_law_is_table"=runF 2 5 (b_law_is_table (cl n))
noncomputable def law_table_e1 (cl:CLL):C :=
 (cApp zAe (zA0 [(cVar 0)]))
noncomputable def law_table_e2 (cl:CLL):C :=
 (cApp fInt (zA0 [(cBin (oCmp fun i j=>decide (j<i)) (cApp (cl "_law_take") (zA0 [(cVar 1),(cCon (.int 5))])) (cCon (.int 2)))]))
noncomputable def law_table_l2 (cl:CLL):CS :=
 (sSeq (sAsg (cApp zAe (zA0 [(zAm (zAj (zA0 [(cVar 3)])) 1 [0] .one (fun _=>ret true) (law_table_e2 cl))])) (gS (cBin oIx (cVar 4) (cVar 5)) (cVar 6)))
  (sSeq (sAsg (cBin oIx (cBin oIx (cVar 4) (cVar 5)) (cVar 6)) (gS (cBin oIx (cVar 4) (cVar 6)) (cVar 5)))
  zA2))
noncomputable def law_table_l1 (cl:CLL):CS :=
 (sSeq (sFor (zAj (zA0 [(cVar 5)])) (gN 6) (law_table_l2 cl))
  zA2)
noncomputable def law_table_e4 (cl:CLL):C :=
 (cBin oMul (cTup (zA0 [(cCon (.int 1))])) (cVar 1))
noncomputable def law_table_e3 (cl:CLL):C :=
 (zAm (zAj (zA0 [(cVar 1)])) 1 [2] .one (fun _=>ret true) (law_table_e4 cl))
noncomputable def b_law_table (cl:CLL):CS :=
 (sSeq (sAsg (cBin oShl (cCon (.int 1)) (cVar 1)) (gN 3))
  (sSeq (sAsg (zAm (zAj (zA0 [(cVar 2)])) 1 [2,3] .one (fun _=>ret true) (law_table_e3 cl)) (gN 4))
  (sSeq (sFor (zAj (zA0 [(cVar 2)])) (gN 5) (law_table_l1 cl))
  (sSeq (sRet (cApp zAe (zA0 [(zAm (iSeq (cVar 4)) 1 [] .one (fun _=>ret true) (law_table_e1 cl))])))
  zA2))))
def Hs_law_table (cl:Nat→CLL):Prop:=∀ n,cl (n+1) "_law_table"=runF 3 7 (b_law_table (cl n))
noncomputable def tied_t1 (cl:CLL):CT :=
 (zA9 (cBin oEq (cSl oSl (cVar 0) zAa (zAs (cCon (.int 2)))) (cVar 1)))
noncomputable def tied_e1 (cl:CLL):C :=
 (cBin oAdd (cTup (zA0 [(cCon (.int 0)),(cCon (.int 1))])) (cSl oSl (cVar 0) (zAs (cCon (.int 2))) zAa))
noncomputable def b_tied (cl:CLL):CS :=
 (sSeq (sIf (zA9 (cBin oEq (cVar 1) (cVar 2))) (sSeq (sRet (cBin oMul (cTup (zA0 [(cCon (.int 1))])) (cApp fLen (zA0 [(cApp (cl "settings") (zA0 [(cBin oIx (cVar 0) (cCon (.int 0)))]))]))))
  zA2) zA2)
  (sSeq (sAsg (cTup (zA0 [(cApp fMin (zA0 [(cVar 1),(cVar 2)])),(cApp fMax (zA0 [(cVar 1),(cVar 2)]))])) (gN 3))
  (sSeq (sAsg (zAm (iSeq (cBin oIx (cVar 0) (cCon (.int 2)))) 1 [3] .one (tied_t1 cl) (tied_e1 cl)) (gN 4))
  (sSeq (sRet (cApp (cl "function_of") (zA0 [(cTup (zA0 [(cBin oIx (cVar 0) (cCon (.int 0))),(cCon (.int 2)),(cApp zAe (zA0 [(cVar 4)]))]))])))
  zA2))))
def Hs_tied (cl:Nat→CLL):Prop:=∀ n,cl (n+1) "tied"=runF 3 5 (b_tied (cl n))
noncomputable def tied_row_e1 (cl:CLL):C :=
 (cApp (cl "tied") (zA0 [(cVar 1),(cVar 2),(cVar 0)]))
noncomputable def b_tied_row (cl:CLL):CS :=
 (sSeq (sRet (cApp zAe (zA0 [(zAm (zAj (zA0 [(cBin oIx (cVar 0) (cCon (.int 1)))])) 1 [0,1] .one (fun _=>ret true) (tied_row_e1 cl))])))
  zA2)
def Hs_tied_row (cl:Nat→CLL):Prop:=∀ n,cl (n+1) "tied_row"=runF 2 2 (b_tied_row (cl n))
noncomputable def table_of_e1 (cl:CLL):C :=
 (cApp (cl "tied_row") (zA0 [(cVar 1),(cVar 0)]))
noncomputable def b_table_of (cl:CLL):CS :=
 (sSeq (sRet (cApp zAe (zA0 [(zAm (zAj (zA0 [(cBin oIx (cVar 0) (cCon (.int 1)))])) 1 [0] .one (fun _=>ret true) (table_of_e1 cl))])))
  zA2)
def Hs_table_of (cl:Nat→CLL):Prop:=∀ n,cl (n+1) "table_of"=runF 1 1 (b_table_of (cl n))
noncomputable def law_either_e1 (cl:CLL):C :=
 (cApp fInt (zA0 [(cBin (oCmp fun i j=>decide (j<i)) (cBin oAdd (cVar 0) (cVar 1)) (cCon (.int 0)))]))
noncomputable def b_law_either (cl:CLL):CS :=
 (sSeq (sRet (cApp zAe (zA0 [(zAm (iZipL (zA0 [(cVar 0),(cVar 1)])) 2 [] (.many 2) (fun _=>ret true) (law_either_e1 cl))])))
  zA2)
def Hs_law_either (cl:Nat→CLL):Prop:=∀ n,cl (n+1) "_law_either"=runF 2 2 (b_law_either (cl n))
noncomputable def law_direct_e1 (cl:CLL):C :=
 (cApp zAe (zA0 [(cVar 0)]))
noncomputable def law_direct_e2 (cl:CLL):C :=
 (cApp fInt (zA0 [(cBin oEq (cBin oIx (cVar 0) (cVar 1)) (cVar 2))]))
noncomputable def law_direct_l1 (cl:CLL):CS :=
 (sSeq (sAsg (cApp zAe (zA0 [(zAm (iSeq (cApp (cl "_law_settings") (zA0 [(cBin oIx (cVar 0) (cCon (.int 0)))]))) 1 [5,6] .one (fun _=>ret true) (law_direct_e2 cl))])) (gN 7))
  (sSeq (sAsg (cApp (cl "_law_either") (zA0 [(cBin oIx (cBin oIx (cVar 2) (cVar 3)) (cVar 4)),(cVar 7)])) (gS (cBin oIx (cVar 2) (cVar 3)) (cVar 4)))
  (sSeq (sAsg (cBin oIx (cBin oIx (cVar 2) (cVar 3)) (cVar 4)) (gS (cBin oIx (cVar 2) (cVar 4)) (cVar 3)))
  zA2)))
noncomputable def law_direct_e4 (cl:CLL):C :=
 (cBin oMul (cTup (zA0 [(cApp fInt (zA0 [(cBin oEq (cVar 1) (cVar 0))]))])) (cVar 2))
noncomputable def law_direct_e3 (cl:CLL):C :=
 (zAm (zAj (zA0 [(cBin oIx (cVar 1) (cCon (.int 1)))])) 1 [0,2] .one (fun _=>ret true) (law_direct_e4 cl))
noncomputable def b_law_direct (cl:CLL):CS :=
 (sSeq (sAsg (cBin oShl (cCon (.int 1)) (cBin oIx (cVar 0) (cCon (.int 0)))) (gN 1))
  (sSeq (sAsg (zAm (zAj (zA0 [(cBin oIx (cVar 0) (cCon (.int 1)))])) 1 [0,1] .one (fun _=>ret true) (law_direct_e3 cl)) (gN 2))
  (sSeq (sFor (iSeq (cBin oIx (cVar 0) (cCon (.int 2)))) (gT [(gN 3),(gN 4),(gN 5),(gN 6)]) (law_direct_l1 cl))
  (sSeq (sRet (cApp zAe (zA0 [(zAm (iSeq (cVar 2)) 1 [] .one (fun _=>ret true) (law_direct_e1 cl))])))
  zA2))))
def Hs_law_direct (cl:Nat→CLL):Prop:=∀ n,cl (n+1) "_law_direct"=runF 1 8 (b_law_direct (cl n))
noncomputable def b_law_put_v2 (cl:CLL):CS :=
 (sSeq (sAsg (cBin oAdd (cBin oAdd (cSl oSl (cBin oIx (cVar 0) (cVar 1)) zAa (zAs (cVar 2))) (cTup (zA0 [(cVar 3)]))) (cSl oSl (cBin oIx (cVar 0) (cVar 1)) (zAs (cBin oAdd (cVar 2) (cCon (.int 1)))) zAa)) (gN 4))
  (sSeq (sRet (cBin oAdd (cBin oAdd (cSl oSl (cVar 0) zAa (zAs (cVar 1))) (cTup (zA0 [(cVar 4)]))) (cSl oSl (cVar 0) (zAs (cBin oAdd (cVar 1) (cCon (.int 1)))) zAa)))
  zA2))
def Hs_law_put_v2 (cl:Nat→CLL):Prop:=∀ n,cl (n+1) "_law_put"=runF 4 5 (b_law_put_v2 (cl n))
noncomputable def law_bent_v7_e1 (cl:CLL):C :=
 (cSl oSl (cVar 0) zAa (zAs (cUn oNeg (cCon (.int 1)))))
noncomputable def law_bent_v7_e2 (cl:CLL):C :=
 (cApp (cl "_law_take") (zA0 [(cVar 1),(cApp fLen (zA0 [(cVar 2)]))]))
noncomputable def b_law_bent_v7 (cl:CLL):CS :=
 (sSeq (sAsg (zAm (zAj (zA0 [(cCon (.int 2))])) 1 [0,1] .one (fun _=>ret true) (law_bent_v7_e2 cl)) (gT [(gN 2),(gN 3)]))
  (sSeq (sAsg (cBin oIx (cBin oIx (cVar 1) (cVar 2)) (cVar 3)) (gN 4))
  (sSeq (sAsg (cApp (cl "_law_take") (zA0 [(cVar 0),(cApp fLen (zA0 [(cVar 4)]))])) (gN 5))
  (sSeq (sAsg (cBin oIx (cLst (zA0 [(cBin (oInt fun i j=>i - j) (cCon (.int 1)) (cBin oIx (cVar 4) (cVar 5))),(cCon (.int 2)),(cCon (.bl true)),(cCon .non),(cUn oNeg (cCon (.int 1))),(cCon (.str (Str.ofString "1")))])) (cApp (cl "_law_take") (zA0 [(cVar 0),(cCon (.int 6))]))) (gN 6))
  (sSeq (sAsg (cLst (zA0 [(cBin oAdd (cBin oAdd (cSl oSl (cVar 4) zAa (zAs (cVar 5))) (cTup (zA0 [(cVar 6)]))) (cSl oSl (cVar 4) (zAs (cBin oAdd (cVar 5) (cCon (.int 1)))) zAa)),(cSl oSl (cVar 4) (zAs (cCon (.int 1))) zAa),(cBin oAdd (cVar 4) (cTup (zA0 [(cCon (.int 1))]))),(cApp fList (zA0 [(cVar 4)])),(cCon .non),(cBin oRev (cVar 4) (cUn oNeg (cCon (.int 1))))])) (gN 7))
  (sSeq (sAsg (cBin oIx (cVar 7) (cApp (cl "_law_take") (zA0 [(cVar 0),(cCon (.int 6))]))) (gN 8))
  (sSeq (sAsg (cApp (cl "_law_put") (zA0 [(cVar 1),(cVar 2),(cVar 3),(cVar 8)])) (gN 9))
  (sSeq (sAsg (cLst (zA0 [(cVar 9),(cApp (cl "_law_put") (zA0 [(cVar 9),(cVar 3),(cVar 2),(cVar 8)])),(cVar 9),(cSl oSl (cVar 1) (zAs (cCon (.int 1))) zAa),(cBin oAdd (cVar 1) (cSl oSl (cVar 1) zAa (zAs (cCon (.int 1))))),(cApp fList (zA0 [(cVar 1)])),(cBin oAdd (cTup (zA0 [(cBin oIx (cVar 1) (cCon (.int 0)))])) (cSl oSl (cVar 1) zAa (zAs (cUn oNeg (cCon (.int 1))))))])) (gN 10))
  (sSeq (sAsg (cBin oAdd (cVar 10) (cLst (zA0 [(cBin oAdd (cBin oAdd (cSl oSl (cVar 1) zAa (zAs (cVar 2))) (cTup (zA0 [(cApp fList (zA0 [(cBin oIx (cVar 1) (cVar 2))]))]))) (cSl oSl (cVar 1) (zAs (cBin oAdd (cVar 2) (cCon (.int 1)))) zAa)),(cApp zAe (zA0 [(zAm (iSeq (cVar 1)) 1 [] .one (fun _=>ret true) (law_bent_v7_e1 cl))])),(cTup (zA0 [(cVar 1)]))]))) (gN 10))
  (sSeq (sRet (cBin oIx (cVar 10) (cApp (cl "_law_take") (zA0 [(cVar 0),(cCon (.int 10))]))))
  zA2))))))))))
def Hs_law_bent_v7 (cl:Nat→CLL):Prop:=∀ n,cl (n+1) "_law_bent"=runF 2 11 (b_law_bent_v7 (cl n))
noncomputable def b_law_odd_v3 (cl:CLL):CS :=
 (sSeq (sAsg (cLst (zA0 [(cCon .non),(cCon (.bl true)),(cCon (.bl false)),(cUn oNeg (cCon (.int 1))),(cCon (.str (Str.ofString ""))),(cCon (.str (Str.ofString "at"))),(cTup (zA0 [])),(cLst (zA0 [])),(cTup (zA0 [(cCon (.bl true))])),(cLst (zA0 [(cCon (.int 0))])),(cDOne (cCon (.int 0)) (cCon (.int 1))),(cTup (zA0 [(cCon .non)])),(cTup (zA0 [(cUn oNeg (cCon (.int 1)))])),(cTup (zA0 [(cCon (.str (Str.ofString "at")))])),(cBin oPow (cCon (.int 10)) (cCon (.int 29))),(cTup (zA0 [(cCon (.int 0)),(cCon (.int 0))]))])) (gN 1))
  (sSeq (sRet (cBin oIx (cVar 1) (cApp (cl "_law_take") (zA0 [(cVar 0),(cCon (.int 16))]))))
  zA2))
def Hs_law_odd_v3 (cl:Nat→CLL):Prop:=∀ n,cl (n+1) "_law_odd"=runF 1 2 (b_law_odd_v3 (cl n))
noncomputable def b_is_plain (cl:CLL):CS :=
 (sSeq (sIf (zA9 (cBin oEq (cSl oSl (cBin oIx (cBin oIx (cVar 0) (cCon (.int 2))) (cVar 1)) zAa (zAs (cCon (.int 2)))) (cTup (zA0 [(cCon (.int 0)),(cCon (.int 1))])))) (sSeq (sRet (cCon (.bl false)))
  zA2) zA2)
  (sSeq (sRet (cApp (cl "are_alike") (zA0 [(cApp (cl "bridged") (zA0 [(cVar 0),(cVar 1)])),(cVar 0)])))
  zA2))
def Hs_is_plain (cl:Nat→CLL):Prop:=∀ n,cl (n+1) "is_plain"=runF 2 2 (b_is_plain (cl n))
noncomputable def plain_t1 (cl:CLL):CT :=
 (cTru (cApp (cl "is_plain") (zA0 [(cVar 1),(cVar 0)])))
noncomputable def plain_e1 (cl:CLL):C :=
 (cVar 0)
noncomputable def b_plain (cl:CLL):CS :=
 (sSeq (sRet (cApp zAe (zA0 [(zAm (zAj (zA0 [(cApp fLen (zA0 [(cBin oIx (cVar 0) (cCon (.int 2)))]))])) 1 [0] .one (plain_t1 cl) (plain_e1 cl))])))
  zA2)
def Hs_plain (cl:Nat→CLL):Prop:=∀ n,cl (n+1) "plain"=runF 1 1 (b_plain (cl n))
variable {cl:Nat→CLL}
theorem cell_spec (h:zB3 cl) (n:Nat) (ns:List Int) (k:Int) (hk:0≤k) (S:zA1):∃ c,cl (n+1) "_law_cell_at" [.rol (ns.map D.int),.int k] S=.ok (.int c) S:=by
 by_cases hl:k<ns.length
 ·refine ⟨ns[k.toNat]'(by omega),?_⟩
  have e:atI (ns.map D.int) k=some (.int (ns[k.toNat]'(by omega))):=by
   have q:=atI_nat (xs:=ns.map D.int) (j:=k.toNat) (v:=.int (ns[k.toNat]'(by omega))) (by rw [List.getElem?_map,List.getElem?_eq_getElem (by omega)]; rfl)
   rw [show ((k.toNat:Nat):Int)=k by omega] at q
   exact q
  rw [h]
  refine zA7 rfl ?_
  simp [b_law_cell_at,zA6,hl,e]
 ·refine ⟨0,?_⟩
  rw [h]
  refine zA7 rfl ?_
  simp [b_law_cell_at,zA6,hl]
def StOk (S:zA1) (i:Nat):Prop:=∃ s b,zA5 S i=some [.int s,.bl b]∧(b=false→0≤s∧s<2147483647)
theorem StOk.lt {S:zA1}{i:Nat} (h:StOk S i):i<S.length:=by
 obtain ⟨s,b,e,_⟩:=h
 exact lstAt_lt e
theorem StOk.ex {S S':zA1}{i:Nat} (h:StOk S i) (e:Ex S S'):StOk S' i:=by
 obtain ⟨s,b,q,r⟩:=h
 exact ⟨s,b,e.lst q (fun z=>z),r⟩
theorem StOk.kp {P:Nat→Prop}{S S':zA1}{i:Nat} (h:StOk S i) (e:Kp P S S') (n:¬ P i):StOk S' i:=by
 obtain ⟨s,b,q,r⟩:=h
 exact ⟨s,b,e.lst q n,r⟩
theorem state_spec (h:Hs_law_state cl) (hc:zB3 cl) (n:Nat) (ns:List Int) (k:Int) (hk:0≤k) (S:zA1):∃ S1,cl (n+2) "_law_state" [.rol (ns.map D.int),.int k] S=.ok (.lst S.length) S1∧Ex S S1∧StOk S1 S.length:=by
 obtain ⟨c,ec⟩:=cell_spec hc n ns k hk S
 rw [show n+2=(n+1)+1 from rfl,h]
 by_cases hb:(1000000000000000000:Int)≤c
 ·refine ⟨S++[.lst [.int (c - 1000000000000000000),.bl true]],zA7 rfl ?_,zAc _ _,_,_,zA4 _ _,fun z=>by cases z⟩
  simp [b_law_state,zA6,ec,hb]
 ·refine ⟨S++[.lst [.int (c % 2147483647),.bl false]],zA7 rfl ?_,zAc _ _,_,_,zA4 _ _,fun _=>⟨Int.emod_nonneg _ (by decide),Int.emod_lt_of_pos _ (by decide)⟩⟩
  simp [b_law_state,zA6,ec,hb]
theorem mulOk_r {i j:Int} (h1:-18446744073709551616<j) (h2:j<18446744073709551616):mulOk i j=true:=by
 unfold mulOk; simp [h1,h2]
@[simp] theorem ixN_two0:ixN 2 0=some 0:=rfl
inductive TakeR (c:CLL) (S:zA1) (i:Nat) (m:Int):Prop
 | mk (r:Int) (S1:zA1) (e:c "_law_take" [.lst i,.int m] S=.ok (.int r) S1) (a:0≤r) (b:r<m) (k:Kp (·=i) S S1) (l:S1.length=S.length) (st:StOk S1 i)
theorem take_spec (h:Hs_law_take cl) (n:Nat) {S:zA1}{i:Nat} (hS:StOk S i) {m:Int} (m0:0<m) (m1:m<1073741824):TakeR (cl (n+1)) S i m:=by
 obtain ⟨s,b,hs,hb⟩:=hS
 have e0:=oIx_lst hs
 cases b with
 | true =>
  refine ⟨s % m,S.set i (.lst [.int (s / m),.bl true]),?_,Int.emod_nonneg _ (by omega),Int.emod_lt_of_pos _ m0,kp_set _ _,by simp,⟨_,_,lstAt_set hs,fun z=>by cases z⟩⟩
  rw [h]
  refine zA7 rfl ?_
  simp [b_law_take,zA6,e0,m0,m1,oSet_lst hs]
 | false =>
  obtain ⟨s0,s1⟩:=hb rfl
  generalize hz:(s*48271+29) % 2147483647=z
  have z0:0≤z:=by rw [← hz]; exact Int.emod_nonneg _ (by decide)
  have z1:z<2147483647:=by rw [← hz]; exact Int.emod_lt_of_pos _ (by decide)
  generalize hy:(z*z+39373*z+7) % 2147483629=y
  have y0:0≤y:=by rw [← hy]; exact Int.emod_nonneg _ (by decide)
  have y1:y<2147483629:=by rw [← hy]; exact Int.emod_lt_of_pos _ (by decide)
  generalize hx:(y*y+16807*y) % 2147483587=x
  refine ⟨x / 8 % m,S.set i (.lst [.int z,.bl false]),?_,Int.emod_nonneg _ (by omega),Int.emod_lt_of_pos _ m0,kp_set _ _,by simp,⟨_,_,lstAt_set hs,fun _=>⟨z0,z1⟩⟩⟩
  rw [h]
  refine zA7 rfl ?_
  have e1:=oIx_lst (lstAt_set (ys:=[.int z,.bl false]) hs)
  have k1:mulOk s 48271=true:=mulOk_r (by decide) (by decide)
  have k2:mulOk z z=true:=mulOk_r (by omega) (by omega)
  have k3:mulOk 39373 z=true:=mulOk_r (by omega) (by omega)
  have k4:mulOk y y=true:=mulOk_r (by omega) (by omega)
  have k5:mulOk 16807 y=true:=mulOk_r (by omega) (by omega)
  simp [b_law_take,zA6,e0,oSet_lst hs,k1,hz,e1,k2,k3,hy,k4,k5,hx,m0]
structure Ct where
 a:Int
 b:Int
 k:Int
 o:Int
 deriving DecidableEq
noncomputable def Ct.d (c:Ct):D:=.tup [.int c.a,.int c.b,.int c.k,.int c.o]
def Ct.ok (sw pl:Int) (c:Ct):Prop:=0≤c.a∧c.a<c.b∧c.b<pl∧0≤c.k∧c.k<sw∧0≤c.o∧c.o<2
structure Net where
 sw:Int
 pl:Int
 cs:List Ct
noncomputable def Net.d (n:Net):D:=.tup [.int n.sw,.int n.pl,.tup (n.cs.map Ct.d)]
structure Net.ok (ms mp mc:Int) (n:Net):Prop where
 s1:1≤n.sw
 s2:n.sw≤ms
 p1:2≤n.pl
 p2:n.pl≤mp
 c1:(n.cs.length:Int)≤mc
 c2:∀ c∈n.cs,c.ok n.sw n.pl
theorem oAdd_lst {S:zA1}{n m:Nat}{xs ys:List D} (h1:zA5 S n=some xs) (h2:zA5 S m=some ys) (h:xs.length+ys.length≤lim):oAdd (.lst n) (.lst m) S=.ok (.lst S.length) (S++[.lst (xs++ys)]):=by
 show (match S[n]?,S[m]? with | some (O.lst xs),some (O.lst ys)=>(if xs.length+ys.length≤lim then R.ok (D.lst S.length) (S++[O.lst (xs++ys)]) else .bad) | _,_=>.bad)=_
 rw [zAU h1,zAU h2]
 dsimp only
 rw [if_pos h]
noncomputable def rowL (n:Int):List Int:=[0]++((List.range (n - 2).toNat).map fun (k:Nat)=>(2:Int)+(k:Nat))++[1]
theorem upD_len (lo:Int) (n:Nat):(upD lo n).length=n:=by unfold upD; simp
theorem zBd:lim=1048576:=rfl
inductive EndsR (c:CLL) (S:zA1) (i:Nat) (pl:Int):Prop
 | mk (x y:Int) (S1:zA1) (e:c "_law_ends" [.lst i,.int pl] S=.ok (.tup [.int x,.int y]) S1) (h0:0≤x) (h1:x<y) (h2:y<pl) (k:Kp (·=i) S S1) (st:StOk S1 i)
theorem _root_.L2.Kp.setNew {P:Nat→Prop}{S0 S:zA1}{l:Nat}{o:O} (h:Kp P S0 S) (hl:S0.length≤l):Kp P S0 (S.set l o) :=
 ⟨by rw [List.length_set]; exact h.le,fun j hj n=>by rw [List.getElem?_set_ne (by omega)]; exact h.eq j hj n⟩
@[simp] theorem upD_get {lo:Int}{n i:Nat}{d:D}:(upD lo n)[i]?=some d↔i<n∧d=.int (lo+i):=by
 unfold upD
 rw [List.getElem?_map]
 by_cases h:i<n
 ·rw [List.getElem?_range h]; simp [h,eq_comm]
 ·rw [List.getElem?_eq_none (by simpa using h)]; simp [h]
structure Rows (S0 S:zA1) (i l:Nat) (sw pl:Int) (cs:List Ct):Prop where
 at':zA5 S l=some (cs.map Ct.d)
 ok:∀ c∈cs,c.ok sw pl
 st:StOk S i
 kp:Kp (·=i) S0 S
 ge:S0.length≤l
 ne:l≠i
noncomputable def nE (i:Nat) (ms mp mc sw pl:Int) (l:Nat) (a b c d e f:Option D):Env1:=[some (.lst i),some (.int ms),some (.int mp),some (.int mc),some (.int sw),some (.int pl),some (.lst l),a,b,c,d,e,f]
inductive NetP (S:zA1) (i:Nat) (ms mp mc:Int) (N:Net) (S1:zA1):Prop
 | mk (ok:N.ok ms mp mc) (k:Kp (·=i) S S1) (st:StOk S1 i)
inductive NetRt (r:RS) (S:zA1) (i:Nat) (ms mp mc:Int):Prop
 | mk (N:Net) (S1:zA1) (e:r=.rt N.d S1) (p:NetP S i ms mp mc N S1)
inductive NetOk (r:R D) (S:zA1) (i:Nat) (ms mp mc:Int):Prop
 | mk (N:Net) (S1:zA1) (e:r=.ok N.d S1) (ok:N.ok ms mp mc) (k:Kp (·=i) S S1) (st:StOk S1 i)
inductive NetI1 (S0:zA1) (i l:Nat) (ms mp mc sw pl:Int) (v7 v8 v9 v10:Option D) (m:Nat) (cs:List Ct) (j:Nat) (ρ:Env1) (S':zA1):Prop
 | mk (v12:Option D) (ds:List Ct) (e:ρ=nE i ms mp mc sw pl l v7 v8 v9 v10 (some (.lst m)) v12) (Rl:Rows S0 S' i l sw pl cs) (Rd:Rows S0 S' i m sw pl ds) (h:ds.length=j)
inductive NetI2 (S0:zA1) (i l:Nat) (ms mp mc sw pl:Int) (v7 v8 v9:Option D) (n0:Nat) (j:Nat) (ρ:Env1) (S':zA1):Prop
 | mk (v10:Option D) (ds:List Ct) (e:ρ=nE i ms mp mc sw pl l v7 v8 v9 v10 none none) (R:Rows S0 S' i l sw pl ds) (h:ds.length=n0+j)
inductive NetI3 (S0:zA1) (i l:Nat) (ms mp mc sw pl:Int) (kr t:Nat) (j:Nat) (ρ:Env1) (S':zA1):Prop
 | mk (v8 v9:Option D) (ds:List Ct) (e:ρ=nE i ms mp mc sw pl l (some (.lst kr)) v8 v9 none none none) (R:Rows S0 S' i l sw pl ds) (h:ds.length=j) (q1:zA5 S' kr=some ((rowL pl).map D.int)) (q2:zA5 S' t=some (((rowL pl).drop 1).map D.int))
end My
namespace Mt
def Joined (es:List (Int × Int)):Prop:=∀ C:Int→Prop,C 0→(∀ e∈es,(C e.1↔C e.2))→C 1
structure Reached (es:List (Int × Int)) (s:Int) (F:Int→Prop):Prop where
 start:F s
 closed:∀ e∈es,(F e.1↔F e.2)
 least:∀ C:Int→Prop,C s→(∀ e∈es,(C e.1↔C e.2))→∀ x,F x→C x
theorem Reached.joined {es:List (Int × Int)}{F:Int→Prop} (h:Reached es 0 F):F 1↔Joined es:=⟨fun f C c0 cc=>h.least C c0 cc 1 f,fun j=>j F h.start h.closed⟩
theorem filter_lt {α:Type}{p q:α→Bool}{l:List α} (h:∀ x,p x=true→q x=true) {a:α} (ha:a∈l) (h1:q a=true) (h2:p a=false):(l.filter p).length<(l.filter q).length:=by
 induction l with
 | nil=>cases ha
 | cons x r ih =>
  have le:(r.filter p).length≤(r.filter q).length:=by
   clear ih ha
   induction r with
   | nil=>simp
   | cons y r ih =>
    rw [List.filter_cons,List.filter_cons]
    cases hp:p y with
    | true=>rw [h y hp]; simpa using ih
    | false =>
     cases q y with
     | true=>simp; omega
     | false=>simpa using ih
  rw [List.filter_cons,List.filter_cons]
  rcases List.mem_cons.mp ha with e | e
  ·subst e
   rw [h1,h2]; simp; omega
  ·have:=ih e
   cases hp:p x with
   | true=>rw [h x hp]; simpa using this
   | false =>
    cases q x with
    | true=>simp; omega
    | false=>simpa using this
structure MOk (pl:Int) (ms:List Int):Prop where
 len:(ms.length:Int)=pl
 pos:∀ (i:Nat) x,ms[i]?=some x→0≤x
end Mt
namespace My
open PySem L2 Mt
variable {cl:Nat→CLL}
noncomputable def zAf (st:List Int):D:=.tup (st.map D.int)
noncomputable def shutB (c:Ct) (st:List Int):Bool:=decide (st.getD c.k.toNat 0=c.o)
theorem atI_ints {l:List Int}{k:Int} (h0:0≤k) (h1:k<l.length):atI (l.map D.int) k=some (.int (l.getD k.toNat 0)):=by
 have e:l[k.toNat]?=some (l.getD k.toNat 0):=by rw [List.getD,List.getElem?_eq_getElem (by omega)]; rfl
 have q:=atI_nat (xs:=l.map D.int) (j:=k.toNat) (v:=.int (l.getD k.toNat 0)) (by rw [List.getElem?_map,e]; rfl)
 rw [show ((k.toNat:Nat):Int)=k by omega] at q
 exact q
theorem is_shut_spec (h:Hs_is_shut cl) (n:Nat) (c:Ct) (st:List Int) (h0:0≤c.k) (h1:c.k<st.length) (S:zA1):cl (n+1) "is_shut" [c.d,zAf st] S=.ok (.bl (shutB c st)) S:=by
 rw [h]
 refine zA7 rfl ?_
 simp [b_is_shut,zA6,Ct.d,zAf,atI_ints h0 h1,shutB]
noncomputable def enumP {α:Type} (l:List α):List (Nat × α):=(List.range l.length).zip l
theorem enumD_map {α:Type} (e:α→D) (l:List α):enumD (l.map e)=(enumP l).map fun q=>.tup [.int (q.1:Nat),e q.2]:=by
 unfold enumD enumP
 rw [List.length_map,List.zip_map_right,List.map_map]
 rfl
theorem enumP_mem {α:Type}{l:List α}{q:Nat × α} (h:q∈enumP l):l[q.1]?=some q.2:=by
 unfold enumP at h
 obtain ⟨i,hi⟩:=List.getElem?_of_mem h
 rw [List.getElem?_zip_eq_some] at hi
 obtain ⟨h1,h2⟩:=hi
 have:=List.getElem?_eq_some_iff.mp h1
 obtain ⟨h3,h4⟩:=this
 simp at h4
 rw [← h4]; exact h2
noncomputable def natsD (l:List Nat):List D:=l.map fun (k:Nat)=>D.int (k:Nat)
theorem lim_big:(1000:Nat)<lim:=by decide
noncomputable def ends (cs:List Ct):List (Int × Int):=cs.map fun c=>(c.a,c.b)
noncomputable def cntF (B:Nat) (fs:List Int):Nat:=((List.range B).filter fun (v:Nat)=>decide ((v:Int)∈fs)).length
theorem cntF_le (B:Nat) (fs:List Int):cntF B fs≤B:=by
 unfold cntF
 have:=List.length_filter_le (fun (v:Nat)=>decide ((v:Int)∈fs)) (List.range B)
 simpa using this
theorem cntF_lt {B:Nat}{fs gs:List Int} (h:∀ x,x∈fs→x∈gs) {x:Int} (hx:x∈gs) (hn:x∉fs) (h0:0≤x) (hB:x<B):cntF B fs<cntF B gs:=by
 unfold cntF
 refine filter_lt (a:=x.toNat) (fun v hv=>?_) ?_ ?_ ?_
 ·simp only [decide_eq_true_eq] at hv ⊢; exact h _ hv
 ·rw [List.mem_range]; omega
 ·simp only [decide_eq_true_eq]; rw [show ((x.toNat:Nat):Int)=x by omega]; exact hx
 ·simp only [decide_eq_false_iff_not]; rw [show ((x.toNat:Nat):Int)=x by omega]; exact hn
theorem addK_len (fs:List Int) (a:Int):(addK fs a).length≤fs.length+1:=by unfold addK; split <;> simp
noncomputable def pE (s:Int) (k l:Nat) (g:Bool) (v:Option D):Env1:=[some (.int s),some (.lst k),some (.dct l),some (.bl g),v]
def Clo (cs:List Ct) (s:Int) (fs:List Int):Prop:=∀ C:Int→Prop,C s→(∀ e∈ends cs,(C e.1↔C e.2))→∀ x∈fs,C x
inductive PlW (cs:List Ct) (s:Int) (k:Nat) (S:zA1) (m:Nat) (ρ:Env1) (S':zA1):Prop
 | mk (fs:List Int) (g:Bool) (v4:Option D) (e:ρ=pE s k S.length g v4) (kp:Kp (·=S.length) (S++[.dk (dkOf [s])]) S') (hf:S'[S.length]?=some (.dk (dkOf fs))) (r1:s∈fs) (r2:Clo cs s fs) (r3:g=false→∀ e∈ends cs,(e.1∈fs↔e.2∈fs)) (r4:g=true→m+cntF 7 fs=9) (r5:fs.length+200*m≤2000) (nd:fs.Nodup)
inductive PlQ (cs:List Ct) (s:Int) (k:Nat) (S:zA1) (ρ:Env1) (S':zA1):Prop
 | mk (fs:List Int) (v4:Option D) (e:ρ=pE s k S.length false v4) (kp:Kp (·=S.length) (S++[.dk (dkOf [s])]) S') (hf:S'[S.length]?=some (.dk (dkOf fs))) (r1:s∈fs) (r2:Clo cs s fs) (r3:∀ e∈ends cs,(e.1∈fs↔e.2∈fs)) (nd:fs.Nodup)
inductive PlL (cs:List Ct) (s:Int) (k:Nat) (S:zA1) (fs:List Int) (j:Nat) (ρ:Env1) (S2:zA1):Prop
 | mk (fs2:List Int) (g2:Bool) (v4:Option D) (e:ρ=pE s k S.length g2 v4) (kp:Kp (·=S.length) (S++[.dk (dkOf [s])]) S2) (hf:S2[S.length]?=some (.dk (dkOf fs2))) (q1:∀ x∈fs,x∈fs2) (q2:Clo cs s fs2)
  (q3:g2=false→fs2=fs∧∀ i c,i<j→cs[i]?=some c→(c.a∈fs↔c.b∈fs)) (q4:g2=true→cntF 7 fs<cntF 7 fs2) (q5:fs2.length≤fs.length+2*j) (nd:fs2.Nodup)
theorem addK_nd {fs:List Int} (h:fs.Nodup) (a:Int):(addK fs a).Nodup:=by
 unfold addK
 split
 ·exact h
 ·rename_i ha
  exact List.nodup_append.mpr ⟨h,by simp,fun x hx y hy e=>ha (by rw [List.mem_singleton] at hy; subst hy; subst e; exact hx)⟩
theorem places_nd (h:zAt cl) (n:Nat) (cs:List Ct) (s:Int) (hs:0≤s∧s<7) (hc:cs.length≤100) (hb:∀ c∈cs,(0≤c.a∧c.a<7)∧0≤c.b∧c.b<7) {S:zA1}{k:Nat} (hk:zA5 S k=some (cs.map Ct.d)) :
  ∃ m S1 fs,cl (n+1) "places_from" [.int s,.lst k] S=.ok (.dct m) S1∧Ex S S1∧S1[m]?=some (.dk (dkOf fs))∧Reached (ends cs) s (·∈fs)∧fs.Nodup:=by
 have km:k≠S.length:=by have:=lstAt_lt hk; omega
 obtain ⟨ρ',S',e,fs,v4,rfl,kp,hfs,r1,r2,r3,nd⟩:=while_go (t:=cTru (cVar 3)) (b:=places_from_l1 (cl n)) (PlW cs s k S) (PlQ cs s k S)
  (fun m ρ S' hp=>by
   obtain ⟨fs,g,v4,rfl,kp,hfs,r1,r2,r3,r4,r5,nd⟩:=hp
   cases g with
   | false=>exact .inl ⟨S',by simp [pE],⟨fs,v4,rfl,kp,hfs,r1,r2,r3 rfl,nd⟩⟩
   | true =>
    refine .inr ⟨S',by simp [pE],?_⟩
    have hl:zA5 S' k=some (cs.map Ct.d):=kp.lst (lstAt_app hk) km
    obtain ⟨ρ2,S2,e2,fs2,g2,v4',rfl,kp2,hfs2,q1,q2,q3,q4,q5,nd2⟩:=loop_inv (w:=[(k,cs.map Ct.d)]) (g:=gN 4) (b:=places_from_l2 (cl n)) (items:=cs.map Ct.d)
     (PlL cs s k S fs) (ρ:=pE s k S.length false v4) (S:=S')
     (fun j ρ S2 hp=>by
      obtain ⟨_,_,_,_,kp⟩:=hp
      exact okW_one (kp.lst (lstAt_app hk) km))
     ⟨fs,false,v4,rfl,kp,hfs,fun x hx=>hx,r2,fun _=>⟨rfl,fun i c hi=>by omega⟩,(fun z=>by cases z),by omega,nd⟩
     (fun j d ρ S2 hd hp=>by
      obtain ⟨fs2,g2,v4,rfl,kp2,hf2,q1,q2,q3,q4,q5,nd2⟩:=hp
      rw [List.getElem?_map] at hd
      obtain ⟨c,hcj,rfl⟩:=Option.map_eq_some_iff.mp hd
      have hm:c∈cs:=List.mem_of_getElem? hcj
      have hj:j<cs.length:=(List.getElem?_eq_some_iff.mp hcj).1
      obtain ⟨ba,bb⟩:=hb c hm
      have he:(c.a,c.b)∈ends cs:=List.mem_map.mpr ⟨c,hm,rfl⟩
      refine ⟨_,_,rfl,?_⟩
      have i1:=oIn_dk hf2 false c.a
      have i2:=oIn_dk hf2 false c.b
      have hlim:fs2.length+2<lim:=by have:=lim_big; rw [zBd]; omega
      by_cases hne:(c.a∈fs2↔c.b∈fs2)
      ·refine ⟨_,S2,.inl ?_,⟨fs2,g2,some c.d,rfl,kp2,hf2,q1,q2,fun hg=>⟨(q3 hg).1,fun i c' hi hc'=>?_⟩,q4,by omega,nd2⟩⟩
       ·have:(decide (c.a∈fs2) != decide (c.b∈fs2))=false:=by simp [hne]
        simp [pE,places_from_l2,Ct.d,i1,i2,this]
       ·by_cases hij:i=j
        ·subst hij; rw [hcj] at hc'; cases hc'
         rw [(q3 hg).1] at hne; exact hne
        ·exact (q3 hg).2 i c' (by omega) hc'
      ·have s1:=oSet_dk hf2 (by omega) c.a
       have f3:(S2.set S.length (.dk (dkOf (addK fs2 c.a))))[S.length]?=some (.dk (dkOf (addK fs2 c.a))):=List.getElem?_set_self (List.getElem?_eq_some_iff.mp hf2).1
       have s2:=oSet_dk f3 (by have:=addK_len fs2 c.a; omega) c.b
       have f4:((S2.set S.length (.dk (dkOf (addK fs2 c.a)))).set S.length (.dk (dkOf (addK (addK fs2 c.a) c.b))))[S.length]?=some (.dk (dkOf (addK (addK fs2 c.a) c.b))):=List.getElem?_set_self (List.getElem?_eq_some_iff.mp f3).1
       have mem:∀ x,x∈addK (addK fs2 c.a) c.b↔x∈fs2∨x=c.a∨x=c.b:=fun x=>by rw [mem_addK,mem_addK,or_assoc]
       refine ⟨_,_,.inl ?_,⟨addK (addK fs2 c.a) c.b,true,some c.d,rfl,(kp2.trans (kp_set _ _)).trans (kp_set _ _),f4,fun x hx=>(mem x).mpr (.inl (q1 x hx)),fun C c0 cc x hx=>?_,(fun z=>by cases z),fun _=>?_,by have:=addK_len fs2 c.a; have:=addK_len (addK fs2 c.a) c.b; omega,addK_nd (addK_nd nd2 _) _⟩⟩
       ·have:(decide (c.a∈fs2) != decide (c.b∈fs2))=true:=by
         by_cases h1:c.a∈fs2 <;> by_cases h2:c.b∈fs2 <;> simp [h1,h2] at hne ⊢
        simp [pE,places_from_l2,Ct.d,i1,i2,this,s1,s2]
       ·have ca:=q2 C c0 cc
        have hcc:=cc _ he
        dsimp only at hcc
        have one:C c.a∧C c.b:=by
         by_cases h1:c.a∈fs2
         ·exact ⟨ca _ h1,hcc.mp (ca _ h1)⟩
         ·by_cases h2:c.b∈fs2
          ·exact ⟨hcc.mpr (ca _ h2),ca _ h2⟩
          ·exact absurd (iff_of_false h1 h2) hne
        rcases (mem x).mp hx with z | z | z
        ·exact ca x z
        ·subst z; exact one.1
        ·subst z; exact one.2
       ·have lt:cntF 7 fs2<cntF 7 (addK (addK fs2 c.a) c.b):=by
         by_cases h1:c.a∈fs2
         ·have h2:c.b∉fs2:=fun z=>hne (iff_of_true h1 z)
          exact cntF_lt (fun x hx=>(mem x).mpr (.inl hx)) ((mem c.b).mpr (.inr (.inr rfl))) h2 bb.1 bb.2
         ·exact cntF_lt (fun x hx=>(mem x).mpr (.inl hx)) ((mem c.a).mpr (.inr (.inl rfl))) h1 ba.1 ba.2
        cases g2 with
        | true=>have:=q4 rfl; omega
        | false=>rw [(q3 rfl).1] at lt ⊢; exact lt)
    have c0:=cntF_le 7 fs
    have c1:=r4 rfl
    rw [List.length_map] at q5
    have step:places_from_l1 (cl n) (pE s k S.length true v4) S'=.nx (pE s k S.length g2 v4') S2:=by unfold pE at e2 ⊢; simp [places_from_l1,hl,e2]
    cases g2 with
    | true =>
     have c2:=cntF_le 7 fs2
     have c3:=q4 rfl
     exact ⟨_,S2,.inl step,9 - cntF 7 fs2,by omega,⟨fs2,true,v4',rfl,kp2,hfs2,q1 s r1,q2,(fun z=>by cases z),fun _=>by omega,by omega,nd2⟩⟩
    | false =>
     refine ⟨_,S2,.inl step,0,by omega,⟨fs2,false,v4',rfl,kp2,hfs2,q1 s r1,q2,fun hg e he=>?_,(fun z=>by cases z),by omega,nd2⟩⟩
     obtain ⟨c,hc1,rfl⟩:=List.mem_map.mp he
     obtain ⟨i,hi⟩:=List.getElem?_of_mem hc1
     rw [(q3 hg).1]
     exact (q3 hg).2 i c (by rw [List.length_map]; exact (List.getElem?_eq_some_iff.mp hi).1) hi)
  wfuel (9 - cntF 7 [s]) (pE s k S.length true none) (S++[.dk (dkOf [s])]) (Nat.lt_of_le_of_lt (Nat.sub_le _ _) (by decide))
   ⟨[s],true,none,rfl,Kp.refl _ _,by rw [List.getElem?_append_right (Nat.le_refl _),Nat.sub_self]; rfl,by simp,fun C c0 _ x hx=>(by simp at hx; subst hx; exact c0),(fun z=>by cases z),fun _=>(by have:=cntF_le 7 [s]; omega),by simp; omega,by simp⟩
 refine ⟨S.length,S',fs,?_,⟨?_,fun j hj _=>?_⟩,hfs,⟨r1,r3,fun C c0 cc x hx=>r2 C c0 cc x hx⟩,nd⟩
 ·rw [h]
  refine zA7 rfl ?_
  have e0:(S++[O.dk [((Sum.inl s:Key),D.bl true)]])=S++[O.dk (dkOf [s])]:=rfl
  unfold pE at e
  simp [b_places_from,zA6,keyOf,e0,e]
 ·have:=kp.le; simp at this; omega
 ·rw [kp.eq j (by simp; omega) (by omega),List.getElem?_append_left hj]
theorem places_spec (h:zAt cl) (n:Nat) (cs:List Ct) (s:Int) (hs:0≤s∧s<7) (hc:cs.length≤100) (hb:∀ c∈cs,(0≤c.a∧c.a<7)∧0≤c.b∧c.b<7) {S:zA1}{k:Nat} (hk:zA5 S k=some (cs.map Ct.d)) :
  ∃ m S1 fs,cl (n+1) "places_from" [.int s,.lst k] S=.ok (.dct m) S1∧Ex S S1∧S1[m]?=some (.dk (dkOf fs))∧Reached (ends cs) s (·∈fs):=by
 obtain ⟨m,S1,fs,a,b,c,d,_⟩:=places_nd h n cs s hs hc hb hk
 exact ⟨m,S1,fs,a,b,c,d⟩
noncomputable def jB (es:List (Int × Int)):Bool:=@decide (Joined es) (Classical.propDecidable _)
theorem jB_iff {es:List (Int × Int)}:jB es=true↔Joined es:=by
 exact @decide_eq_true_iff _ (Classical.propDecidable _)
theorem jB_of {es:List (Int × Int)}{b:Bool} (h:b=true↔Joined es):b=jB es:=by
 cases b with
 | true=>exact (jB_iff.mpr (h.mp rfl)).symm
 | false =>
  cases q:jB es with
  | false=>rfl
  | true=>exact absurd (h.mpr (jB_iff.mp q)) Bool.false_ne_true
def In7 (cs:List Ct):Prop:=∀ c∈cs,(0≤c.a∧c.a<7)∧0≤c.b∧c.b<7
theorem joins_spec (h:Hs_joins cl) (hp:zAt cl) (n:Nat) (cs:List Ct) (hc:cs.length≤100) (hb:In7 cs) {S:zA1}{k:Nat} (hk:zA5 S k=some (cs.map Ct.d)):Spc (cl (n+2) "joins" [.lst k] S) ((.bl (jB (ends cs)))) S:=by
 obtain ⟨m,S1,fs,e,x,hf,r⟩:=places_spec hp n cs 0 (by decide) hc hb hk
 refine ⟨S1,?_,x⟩
 rw [show n+2=(n+1)+1 from rfl,h]
 refine zA7 rfl ?_
 have q:=oIn_dk hf false 1
 have e2:decide ((1:Int)∈fs)=jB (ends cs):=jB_of (by rw [decide_eq_true_eq]; exact r.joined)
 simp [b_joins,zA6,e,q,e2]
noncomputable def zBe (N:Net) (st:List Int):Bool:=jB (ends (N.cs.filter fun c=>shutB c st))
structure SetOk (N:Net) (st:List Int):Prop where
 len:(st.length:Int)=N.sw
theorem Net.ok.in7 {ms mp mc:Int}{N:Net} (h:N.ok ms mp mc) (hm:mp≤7):In7 N.cs:=fun c hc=>by
 obtain ⟨h1,h2,h3,_⟩:=h.c2 c hc
 have:=h.p2
 omega
theorem In7.filter {cs:List Ct} (h:In7 cs) (p:Ct→Bool):In7 (cs.filter p):=fun c hc=>h c (List.mem_filter.mp hc).1
theorem Net.ok.len {ms mp mc:Int}{N:Net} (h:N.ok ms mp mc) (hm:mc≤16):N.cs.length≤100:=by have:=h.c1; omega
theorem shut_contacts_spec (h:zAB cl) (hi:Hs_is_shut cl) (n:Nat) (N:Net) (st:List Int) (hc:N.cs.length≤100) (hk:∀ c∈N.cs,0≤c.k∧c.k<st.length) (S:zA1):cl (n+2) "shut_contacts" [N.d,zAf st] S=.ok (.lst S.length) (S++[.lst ((N.cs.filter fun c=>shutB c st).map Ct.d)]):=by
 have e1:loopC [] .one (shut_contacts_t1 (cl (n+1))) (shut_contacts_e1 (cl (n+1))) [none,some (zAf st)] (N.cs.map Ct.d) S=.ok ((N.cs.filter fun c=>shutB c st).map Ct.d) S:=by
  refine comp_pure Ct.d (zAv S) _ _ _ fun c hm=>⟨_,rfl,?_,fun _=>?_⟩
  ·have:=is_shut_spec hi n c st (hk _ hm).1 (hk _ hm).2 S
   simp [shut_contacts_t1,this]
  ·simp [shut_contacts_e1]
 rw [show n+2=(n+1)+1 from rfl,h]
 refine zA7 rfl ?_
 have e4:N.cs.length<lim:=by have:=lim_big; omega
 generalize (N.cs.filter fun c=>shutB c st).map Ct.d=F at e1
 simp [zBg,zA6,Net.d,e1,e4]
theorem lets_spec (h:Hs_lets cl) (hj:Hs_joins cl) (hp:zAt cl) (hs:zAB cl) (hi:Hs_is_shut cl) (n:Nat) {N:Net}{st:List Int} (hc:N.cs.length≤100) (h7:In7 N.cs) (hk:∀ c∈N.cs,0≤c.k∧c.k<st.length) (S:zA1):Spc (cl (n+3) "lets" [N.d,zAf st] S) ((.bl (zBe N st))) S:=by
 have e1:=shut_contacts_spec hs hi n N st hc hk S
 have fl:(N.cs.filter fun c=>shutB c st).length≤100:=Nat.le_trans (List.length_filter_le _ _) hc
 obtain ⟨S2,e4,x2⟩:=joins_spec hj hp n _ fl (h7.filter _) (zA4 S ((N.cs.filter fun c=>shutB c st).map Ct.d))
 refine ⟨S2,?_,(zAc _ _).trans x2⟩
 rw [show n+3=(n+2)+1 from rfl,h]
 refine zA7 rfl ?_
 simp [b_lets,zA6,e1,e4,zBe]
@[simp] theorem cutD_two (w x y z:D):cutD [w,x,y,z] none (some 2)=[w,x]:=rfl
def SeqD (S:zA1) (x:D) (l:List D):Prop:=x=.tup l∨∃ k,x=.lst k∧zA5 S k=some l
inductive MkO (nd x:D) (k:Nat) (S0:zA1) (ms:List Int) (ρ:Env1) (S':zA1):Prop
 | mk (v3 v4 v5 v6 v7:Option D) (e:ρ=[some nd,some x,some (.lst k),v3,v4,v5,v6,v7]) (kp:Kp (·=k) S0 S') (hm:zA5 S' k=some (ms.map D.int))
inductive MkI (nd x d:D) (k:Nat) (S0:zA1) (ms:List Int) (ρ:Env1) (S':zA1):Prop
 | mk (v4 v5 v6 v7:Option D) (e:ρ=[some nd,some x,some (.lst k),some d,v4,v5,v6,v7]) (kp:Kp (·=k) S0 S') (hm:zA5 S' k=some (ms.map D.int))
noncomputable def sett:Nat→List (List Int)
 | 0=>[[]]
 | n+1=>(sett n).map (0::·)++(sett n).map (1::·)
theorem sett_len:∀ n,(sett n).length=2 ^ n
 | 0=>rfl
 | n+1=>by unfold sett; rw [List.length_append,List.length_map,List.length_map,sett_len n,Nat.pow_succ]; omega
theorem sett_each:∀ n,∀ st∈sett n,st.length=n∧∀ b∈st,b=0∨b=1
 | 0,st,h=>by simp [sett] at h; subst h; simp
 | n+1,st,h=>by
  unfold sett at h
  rcases List.mem_append.mp h with q | q
  ·obtain ⟨t,ht,rfl⟩:=List.mem_map.mp q
   obtain ⟨h1,h2⟩:=sett_each n t ht
   exact ⟨by simp [h1],fun b hb=>by rcases List.mem_cons.mp hb with z | z; exact .inl z; exact h2 b z⟩
  ·obtain ⟨t,ht,rfl⟩:=List.mem_map.mp q
   obtain ⟨h1,h2⟩:=sett_each n t ht
   exact ⟨by simp [h1],fun b hb=>by rcases List.mem_cons.mp hb with z | z; exact .inr z; exact h2 b z⟩
theorem pow_small {j:Nat} (h:j≤4):2 ^ j≤16:=Nat.le_trans (Nat.pow_le_pow_right (by decide) h) (by decide)
theorem settings_spec (h:Hs_settings cl) (n:Nat) {sw:Int} (h0:0≤sw) (h4:sw≤4) (S:zA1):∃ k S1,cl (n+1) "settings" [.int sw] S=.ok (.lst k) S1∧Ex S S1∧S.length≤k∧zA5 S1 k=some ((sett sw.toNat).map zAf):=by
 obtain ⟨ρ',S1,e1,k,v2,rfl,x1,hk,l1⟩:=loop_inv (w:=[]) (g:=gN 2) (b:=settings_l1 (cl n)) (items:=upD 0 sw.toNat)
  (fun j ρ S'=>∃ k v2,ρ=[some (.int sw),some (.lst k),v2]∧Ex S S'∧S.length≤k∧zA5 S' k=some ((sett j).map zAf))
  (ρ:=[some (.int sw),some (.lst S.length),none]) (S:=S++[.lst [.tup []]])
  (fun j ρ S' hp=>zAv _) ⟨S.length,none,rfl,zAc _ _,Nat.le_refl _,by rw [zA4]; rfl⟩
  (fun j d ρ S' hd hp=>by
   obtain ⟨k,v2,rfl,x1,hk,l1⟩:=hp
   rw [upD_get] at hd
   have hj:j<sw.toNat:=hd.1
   have lj:(sett j).length≤16:=by rw [sett_len]; exact pow_small (by omega)
   have comp:∀ (b:Int) (e:C) (he:∀ xs ρ S,e (some (.tup xs)::ρ) S=if 1+xs.length≤lim then .ok (.tup (.int b::xs)) S else .bad) (S2:zA1),zA5 S2 k=some ((sett j).map zAf)→loopC [(k,(sett j).map zAf)] .one (fun _=>ret true) e [none] ((sett j).map zAf) S2=.ok (((sett j).map (b::·)).map zAf) S2:=by
    intro b e he S2 l2
    rw [List.map_map]
    refine comp_pureM zAf (okW_one l2) _ _ fun st hst=>⟨_,rfl,?_⟩
    have:=(sett_each j st hst).1
    show e [some (zAf st)] S2=_
    unfold zAf
    rw [he,if_pos (by rw [List.length_map,zBd]; omega)]
    rfl
   have c1:=comp 0 (settings_e1 (cl n)) (fun xs ρ S=>by simp [settings_e1]) S' l1
   have l2:=(zAc S' [.lst (((sett j).map (0::·)).map zAf)]).lst l1 (fun z=>z)
   have c2:=comp 1 (settings_e2 (cl n)) (fun xs ρ S=>by simp [settings_e2]) (S'++[.lst (((sett j).map (0::·)).map zAf)]) l2
   generalize hA:S'++[O.lst (((sett j).map (0::·)).map zAf)]=A at c2 l2
   generalize hX0:((sett j).map (0::·)).map zAf=X0 at c1 hA
   generalize hX1:((sett j).map (1::·)).map zAf=X1 at c2
   have a1:zA5 (A++[.lst X1]) S'.length=some X0:=by rw [← hA]; exact lstAt_app (zA4 _ _)
   have n0:X0.length≤16:=by rw [← hX0]; simpa using lj
   have n1:X1.length≤16:=by rw [← hX1]; simpa using lj
   have ad:=oAdd_lst a1 (zA4 A X1) (by rw [zBd]; omega)
   refine ⟨_,_,rfl,_,A++[.lst X1]++[.lst (X0++X1)],.inl ?_,(A++[O.lst X1]).length,some d,rfl,?_,?_,?_⟩
   ·have ll:((sett j).map zAf).length<lim:=by rw [List.length_map,zBd]; omega
    generalize hB:(sett j).map zAf=B at l1 l2 c1 c2 ll
    simp [settings_l1,l1,c1,hA,l2,c2,ll,ad]
   ·rw [← hA]; exact ((x1.trans (zAc _ _)).trans (zAc _ _)).trans (zAc _ _)
   ·rw [← hA]; have:=x1.le; simp; omega
   ·rw [zA4,← hX0,← hX1,show sett (j+1)=(sett j).map (0::·)++(sett j).map (1::·) from rfl,List.map_append])
 rw [upD_len] at l1
 refine ⟨k,S1,?_,x1,hk,l1⟩
 rw [h]
 refine zA7 rfl ?_
 have f2:-4611686018427387904≤sw∧sw<4611686018427387904:=by omega
 simp [b_settings,zA6,f2,e1]
theorem plain_bits {n:Nat} (h:0<n) (st:List Int):plain (n+1) (zAf st)=true:=plain_tup (plain_ints h st)
noncomputable def funP (N:Net):List Int:=(sett N.sw.toNat).map fun st=>if zBe N st then 1 else 0
theorem sett_small {sw:Int} (h4:sw≤4):((sett sw.toNat).map zAf).length<lim:=by rw [List.length_map,sett_len,zBd]; have:=pow_small (j:=sw.toNat) (by omega); omega
theorem function_of_spec (h:Hs_function_of cl) (hle:Hs_lets cl) (hj:Hs_joins cl) (hp:zAt cl) (hs:zAB cl) (hi:Hs_is_shut cl) (hse:Hs_settings cl) (n:Nat) {N:Net} (w1:0≤N.sw) (w2:N.sw≤4) (hc:N.cs.length≤100) (h7:In7 N.cs) (hk:∀ c∈N.cs,0≤c.k∧c.k<N.sw) (S:zA1) :
  Spc (cl (n+4) "function_of" [N.d] S) ((zAf (funP N))) S:=by
 obtain ⟨k,S1,e1,x1,_,l1⟩:=settings_spec hse (n+2) (sw:=N.sw) w1 w2 S
 obtain ⟨S2,e2,x2⟩:=comp_mapM zAf (w:=[(k,(sett N.sw.toNat).map zAf)]) (t:=.one) (c:=function_of_e1 (cl (n+3))) (ρ0:=[none,some N.d]) (fun S'=>Ex S1 S') (fun S' x=>okW_one (x.lst l1 fun z=>z)) (fun st=>.int (if zBe N st then 1 else 0)) (sett N.sw.toNat) (Kp.refl _ _)
  (fun st hst S' x=>by
   have hl:=(sett_each _ st hst).1
   obtain ⟨S3,e3,x3⟩:=lets_spec hle hj hp hs hi n hc h7 (st:=st) (fun c hc=>by have:=hk c hc; rw [hl]; omega) S'
   refine ⟨_,rfl,S3,?_,x.trans x3⟩
   cases hb:zBe N st <;> simp [function_of_e1,e3,hb])
 have e4:(sett N.sw.toNat).map (fun st=>D.int (if zBe N st then 1 else 0))=(funP N).map D.int:=by unfold funP; rw [List.map_map]; rfl
 rw [e4] at e2
 refine ⟨_,?_,(x1.trans x2).trans (zAc S2 [.lst ((funP N).map D.int)])⟩
 rw [show n+4=(n+3)+1 from rfl,h]
 refine zA7 rfl ?_
 have ll:=sett_small w2
 have t1:=zAE (zA4 S2 ((funP N).map D.int))
 have o0:oIx N.d (.int 0) S=.ok (.int N.sw) S:=by simp [Net.d]
 generalize (sett N.sw.toNat).map zAf=B at *
 simp [b_function_of,zA6,o0,e1,l1,ll,e2,t1,zAf]
noncomputable def isBitD:D→Bool
 | .int i=>decide (0≤i)&&decide (i≤1)
 | _=>false
noncomputable def isIntD:D→Bool
 | .int _=>true
 | _=>false
def Scal (d:D):Prop:=(flat d).isSome=true
theorem is_whole_spec (h:zAk cl) (n:Nat) {d:D} (hd:Scal d) (S:zA1):cl (n+1) "is_whole" [d] S=.ok (.bl (isIntD d)) S:=by
 rw [h]
 refine zA7 rfl ?_
 cases d with
 | int i=>simp [zB7,zA6,isIntD]
 | bl b=>simp [zB7,zA6,isIntD]
 | non=>simp [zB7,zA6,isIntD]
 | str x=>simp [zB7,zA6,isIntD]
 | _=>cases hd
theorem is_bit_spec (h:Hs_is_bit cl) (hw:zAk cl) (n:Nat) {d:D} (hd:Scal d) (S:zA1):cl (n+2) "is_bit" [d] S=.ok (.bl (isBitD d)) S:=by
 have e:=is_whole_spec hw n hd S
 rw [show n+2=(n+1)+1 from rfl,h]
 refine zA7 rfl ?_
 cases d with
 | int i =>
  by_cases h0:0≤i
  ·simp [b_is_bit,zA6,e,isIntD,isBitD,h0]
  ·simp [b_is_bit,zA6,e,isIntD,isBitD,h0]
 | bl b=>simp [b_is_bit,zA6,e,isIntD,isBitD]
 | non=>simp [b_is_bit,zA6,e,isIntD,isBitD]
 | str x=>simp [b_is_bit,zA6,e,isIntD,isBitD]
 | _=>cases hd
theorem boolsOf_map:∀ l:List Bool,boolsOf (l.map D.bl)=some l
 | []=>rfl
 | b::r=>by
  show (boolsOf (r.map D.bl)).map (b::·)=_
  rw [boolsOf_map r]; rfl
theorem fAll_ev {S:zA1}{k:Nat}{l:List Bool} (h:zA5 S k=some (l.map D.bl)) (g:List Bool→Bool):fBools g [.lst k] S=.ok (.bl (g l)) S:=by
 show (match (zA5 S k).bind boolsOf with | some bs=>R.ok (D.bl (g bs)) S | none=>.bad)=_
 rw [h]
 show (match boolsOf (l.map D.bl) with | some bs=>R.ok (D.bl (g bs)) S | none=>.bad)=_
 rw [boolsOf_map]
theorem inV_ints (a:Int) (l:List Int):inV (.int a) (l.map V.int)=decide (a∈l):=by
 unfold inV
 induction l with
 | nil=>rfl
 | cons x r ih =>
  rw [List.map_cons,List.any_cons,ih]
  by_cases h:x=a
  ·subst h; simp [eqV]
  ·have h2:¬ a=x:=fun z=>h z.symm
   simp [eqV,h,h2]
theorem flats_ints (l:List Int):(l.map D.int).mapM flat=some (l.map V.int):=by
 induction l with
 | nil=>rfl
 | cons x r ih=>rw [List.map_cons,List.mapM_cons,ih]; rfl
theorem oIn_ints (neg:Bool) (a:Int) (l:List Int) (S:zA1):oIn neg (.int a) (.tup (l.map D.int)) S=.ok (.bl (if neg then !decide (a∈l) else decide (a∈l))) S:=by
 show (match (l.map D.int).mapM flat with | some vs=>R.ok (D.bl (if neg then !inV (.int a) vs else inV (.int a) vs)) S | none=>.bad)=_
 rw [flats_ints]
 dsimp only
 rw [inV_ints]
@[simp] theorem cutD_three (w x y z:D):cutD [w,x,y,z] none (some 3)=[w,x,y]:=rfl
theorem scal_int (i:Int):Scal (.int i):=rfl
structure HD (cl:Nat→CLL):Prop where
 st:Hs_law_state cl
 ce:zB3 cl
 ta:Hs_law_take cl
 en:Hs_law_ends cl
 ne:Hs_law_net cl
structure HF (cl:Nat→CLL):Prop where
 se:Hs_settings cl
 is:Hs_is_shut cl
 pf:zAt cl
 jo:Hs_joins cl
 sc:zAB cl
 le:Hs_lets cl
 fo:Hs_function_of cl
structure HLf (cl:Nat→CLL):Prop where
 ls:Hs_law_settings cl
 sh:Hs_law_shut cl
 ma:Hs_law_marks cl
 le:Hs_law_lets cl
 fu:Hs_law_function cl
abbrev Net.g (N:Net):Prop:=N.ok 4 7 16
theorem Net.ok.k2 {ms mp mc:Int}{N:Net} (h:N.ok ms mp mc):∀ c∈N.cs,0≤c.k∧c.k<N.sw:=fun c hc=>by obtain ⟨_,_,_,a,b,_⟩:=h.c2 c hc; exact ⟨a,b⟩
theorem HF.fun (F:HF cl) (n:Nat) {N:Net} (ok:N.g) (S:zA1):Spc (cl (n+4) "function_of" [N.d] S) ((zAf (funP N))) S :=
 function_of_spec F.fo F.le F.jo F.pf F.sc F.is F.se n (by have:=ok.s1; omega) ok.s2 (ok.len (by decide)) (ok.in7 (by decide)) ok.k2 S
noncomputable def b1 (b:Bool):Int:=if b then 1 else 0
noncomputable def unlike (N M:Net):Option (List Int):=(sett N.sw.toNat).find? fun st=>zBe N st != zBe M st
theorem Net.d_eq (N:Net):N.d=.tup [.int N.sw,.int N.pl,.tup (N.cs.map Ct.d)]:=rfl
theorem plain_net (N:Net):plain 40 N.d=true:=by
 have:(N.cs.map Ct.d).all (plain 38)=true:=List.all_eq_true.mpr fun x hx=>by
  obtain ⟨c,_,rfl⟩:=List.mem_map.mp hx
  rfl
 show (true&&(true&&((N.cs.map Ct.d).all (plain 38)&&true)))=true
 rw [this]; rfl
noncomputable def Ct.mv (f:Int→Int) (c:Ct):Ct:=⟨if f c.b<f c.a then f c.b else f c.a,if f c.b>f c.a then f c.b else f c.a,c.k,c.o⟩
noncomputable def nlF (nl:List Int) (p:Int):Int:=nl.getD p.toNat 0
theorem isort_two (x y:Int):isort [x,y]=[if y<x then y else x,if y>x then y else x]:=by
 show insI x (insI y [])=_
 show insI x [y]=_
 unfold insI
 by_cases h:x≤y
 ·rw [if_pos h,if_neg (by omega)]
  by_cases h2:y>x
  ·rw [if_pos h2]
  ·rw [if_neg h2]; have:x=y:=by omega
   subst this; rfl
 ·rw [if_neg h,if_pos (by omega),if_neg (by omega)]; rfl
theorem cut_rest (c:Ct):cutD [.int c.a,.int c.b,.int c.k,.int c.o] (some 2) none=[.int c.k,.int c.o]:=rfl
def InL (nl:List Int) (c:Ct):Prop:=(0≤c.a∧c.a<nl.length)∧0≤c.b∧c.b<nl.length
theorem moved_contact_spec (h:zAC cl) (n:Nat) {c:Ct}{nl:List Int} (hc:InL nl c) {S:zA1}{j:Nat} (hj:zA5 S j=some (nl.map D.int)):Spc (cl (n+1) "moved_contact" [c.d,.lst j] S) ((c.mv (nlF nl)).d) S:=by
 have g1:=oIx_lst hj c.a
 have g2:=oIx_lst hj c.b
 rw [atI_ints hc.1.1 hc.1.2] at g1
 rw [atI_ints hc.2.1 hc.2.2] at g2
 have x1:=zAc S [.lst [.int (nlF nl c.a),.int (nlF nl c.b)]]
 have s1:=fSorted_lst (ns:=[nlF nl c.a,nlF nl c.b]) (zA4 S [.int (nlF nl c.a),.int (nlF nl c.b)]) (by show 2<64; decide)
 rw [isort_two] at s1
 have t1:=zAE (zA4 (S++[.lst [.int (nlF nl c.a),.int (nlF nl c.b)]]) (([if nlF nl c.b<nlF nl c.a then nlF nl c.b else nlF nl c.a,if nlF nl c.b>nlF nl c.a then nlF nl c.b else nlF nl c.a]:List Int).map D.int))
 refine ⟨_,?_,x1.trans (zAc _ [.lst (([if nlF nl c.b<nlF nl c.a then nlF nl c.b else nlF nl c.a,if nlF nl c.b>nlF nl c.a then nlF nl c.b else nlF nl c.a]:List Int).map D.int)])⟩
 rw [h]
 refine zA7 rfl ?_
 have l4:(2+2:Nat)≤lim:=by decide
 unfold Ct.mv Ct.d
 dsimp only
 change oIx (.lst j) (.int c.a) S=.ok (.int (nlF nl c.a)) S at g1
 change oIx (.lst j) (.int c.b) S=.ok (.int (nlF nl c.b)) S at g2
 generalize nlF nl c.a=A at *
 generalize nlF nl c.b=B at *
 generalize (if B<A then B else A)=mi at *
 generalize (if B>A then B else A)=ma at *
 generalize hS1:S++[O.lst [.int A,.int B]]=S1 at *
 simp only [List.map_cons,List.map_nil] at s1 t1
 simp [zBh,zA6,g1,g2,hS1,s1,t1,cut_rest,l4]
theorem moved_spec (h:Hs_moved cl) (hm:zAC cl) (n:Nat) {cs:List Ct} (hl:cs.length≤100) {nl:List Int} (hc:∀ c∈cs,InL nl c) {S:zA1}{j:Nat} (hj:zA5 S j=some (nl.map D.int)) {x:D} (hx:SeqD S x (cs.map Ct.d)) :
  Spc (cl (n+2) "moved" [x,.lst j] S) ((.tup ((cs.map (Ct.mv (nlF nl))).map Ct.d))) S:=by
 obtain ⟨w,hw,hW⟩:∃ w,iSeq (cVar 0) [some x,some (.lst j)] S=.ok (cs.map Ct.d,w) S∧∀ S',Ex S S'→okW w S':=by
  rcases hx with rfl | ⟨k,rfl,hk⟩
  ·exact ⟨[],by simp,fun S' _=>zAv _⟩
  ·exact ⟨[(k,cs.map Ct.d)],by simp [hk],fun S' x=>okW_one (x.lst hk fun z=>z)⟩
 obtain ⟨S2,e2,x2⟩:=comp_mapM Ct.d (w:=w) (t:=.one) (c:=moved_e1 (cl (n+1))) (ρ0:=[none,some (.lst j)]) (fun S'=>Ex S S') hW (fun c=>(c.mv (nlF nl)).d) cs (Kp.refl _ _)
  (fun c hcm S' x=>by
   obtain ⟨S3,e3,x3⟩:=moved_contact_spec hm n (hc c hcm) (x.lst hj fun z=>z)
   exact ⟨_,rfl,S3,by simp [moved_e1,e3],x.trans x3⟩)
 have e4:cs.map (fun c=>(c.mv (nlF nl)).d)=(cs.map (Ct.mv (nlF nl))).map Ct.d:=by rw [List.map_map]; rfl
 rw [e4] at e2
 have t1:=zAE (zA4 S2 ((cs.map (Ct.mv (nlF nl))).map Ct.d))
 have ll:(cs.map Ct.d).length<lim:=by rw [List.length_map]; have:=lim_big; omega
 refine ⟨_,?_,x2.trans (zAc S2 [.lst ((cs.map (Ct.mv (nlF nl))).map Ct.d)])⟩
 rw [show n+2=(n+1)+1 from rfl,h]
 refine zA7 rfl ?_
 generalize (cs.map (Ct.mv (nlF nl))).map Ct.d=R1 at *
 generalize cs.map Ct.d=R at *
 simp only [b_moved,zA6,List.map_cons,List.map_nil,List.length_cons,List.length_nil,List.replicate,List.append_nil,sSeq_ev,sRet_ev,cApp_ev,cArgs_cons,cArgs_nil,cComp_ev]
 rw [show ([some x,some (D.lst j)]++List.replicate (2 - (0+1+1)) none:Env1)=[some x,some (.lst j)] from rfl,hw]
 simp [ll,e2,t1,stE]
noncomputable def Net.cutN (N:Net) (i:Nat):Net:=⟨N.sw,N.pl,N.cs.take i++N.cs.drop (i+1)⟩
noncomputable def nmB (c:Ct) (p:Int):Int:=if p<c.b then p else if p=c.b then c.a else p - 1
noncomputable def Net.brN (N:Net) (c:Ct):Net:=⟨N.sw,N.pl - 1,(N.cs.filter fun d=>nmB c d.a != nmB c d.b).map (Ct.mv (nmB c))⟩
theorem mv_ok {f:Int→Int}{sw pl pl':Int}{d:Ct} (hd:d.ok sw pl) (hf:∀ p,0≤p→p<pl→0≤f p∧f p<pl') (hne:f d.a≠f d.b):(d.mv f).ok sw pl':=by
 obtain ⟨a0,ab,bp,k0,k1,o0,o1⟩:=hd
 have ha:=hf d.a a0 (by omega)
 have hb:=hf d.b (by omega) bp
 refine ⟨?_,?_,?_,k0,k1,o0,o1⟩
 ·show 0≤(if f d.b<f d.a then f d.b else f d.a)
  split <;> omega
 ·show (if f d.b<f d.a then f d.b else f d.a)<(if f d.b>f d.a then f d.b else f d.a)
  split <;> split <;> omega
 ·show (if f d.b>f d.a then f d.b else f d.a)<pl'
  split <;> omega
theorem mv_congr {f g:Int→Int}{d:Ct} (ha:f d.a=g d.a) (hb:f d.b=g d.b):d.mv f=d.mv g:=by unfold Ct.mv; rw [ha,hb]
noncomputable def alikeB (M N:Net):Bool:=(unlike M N).isNone
structure HI (cl:Nat→CLL):Prop where
 F:HF cl
 fu:Hs_first_unlike cl
 al:Hs_are_alike cl
 wh:zAk cl
 rc:Hs_refuse_no_contact cl
 cu:Hs_cut cl
 ii:Hs_is_idle cl
 id:Hs_idle cl
theorem zB4 {N:Net}{st:List Int}:zBe N st=true↔∀ C:Int→Prop,C 0→(∀ c∈N.cs,shutB c st=true→(C c.a↔C c.b))→C 1:=by
 unfold zBe
 rw [jB_iff]
 unfold Joined ends
 constructor
 ·intro h C c0 cc
  refine h C c0 fun e he=>?_
  obtain ⟨c,hc,rfl⟩:=List.mem_map.mp he
  rw [List.mem_filter] at hc
  exact cc c hc.1 hc.2
 ·intro h C c0 cc
  refine h C c0 fun c hc hs=>?_
  exact cc (c.a,c.b) (List.mem_map.mpr ⟨c,List.mem_filter.mpr ⟨hc,hs⟩,rfl⟩)
theorem lets_false {N:Net}{st:List Int} (h:zBe N st=false):∃ C:Int→Prop,C 0∧(∀ c∈N.cs,shutB c st=true→(C c.a↔C c.b))∧¬ C 1:=by
 refine Classical.byContradiction fun hn=>?_
 have:zBe N st=true:=zB4.mpr fun C c0 cc=>Classical.byContradiction fun n1=>hn ⟨C,c0,cc,n1⟩
 rw [h] at this; cases this
theorem mv_iff (f:Int→Int) (c:Ct) (C:Int→Prop):(C (c.mv f).a↔C (c.mv f).b)↔(C (f c.a)↔C (f c.b)):=by
 show (C (if f c.b<f c.a then f c.b else f c.a)↔C (if f c.b>f c.a then f c.b else f c.a))↔_
 by_cases h:f c.b<f c.a
 ·rw [if_pos h,if_neg (by omega)]; exact ⟨fun z=>z.symm,fun z=>z.symm⟩
 ·rw [if_neg h]
  by_cases h2:f c.b>f c.a
  ·rw [if_pos h2]
  ·rw [if_neg h2]
   have:f c.a=f c.b:=by omega
   rw [this]
noncomputable def rowF1 (mid:Int) (p:Int):Int:=if p=1 then mid else p
noncomputable def rowF2 (p1 mid:Int) (k:Int):Int:=if k=0 then mid else if k=1 then 1 else k+p1 - 2
noncomputable def sideF (p1:Int) (k:Int):Int:=if k=0 then 0 else if k=1 then 1 else k+p1 - 2
noncomputable def Net.row (N M:Net):Net:=⟨N.sw,N.pl+M.pl - 2+1,N.cs.map (Ct.mv (rowF1 (N.pl+M.pl - 2)))++M.cs.map (Ct.mv (rowF2 N.pl (N.pl+M.pl - 2)))⟩
noncomputable def Net.side (N M:Net):Net:=⟨N.sw,N.pl+M.pl - 2,N.cs++M.cs.map (Ct.mv (sideF N.pl))⟩
theorem row_lets {N M:Net} (okN:N.g) (okM:M.g) (st:List Int):zBe (N.row M) st=(zBe N st&&zBe M st):=by
 have p1:=okN.p1
 have p1':=okM.p1
 refine bool_ext ?_
 rw [Bool.and_eq_true]
 have cc:∀ C:Int→Prop,(∀ c∈(N.row M).cs,shutB c st=true→(C c.a↔C c.b))↔(∀ c∈N.cs,shutB c st=true→(C (rowF1 (N.pl+M.pl - 2) c.a)↔C (rowF1 (N.pl+M.pl - 2) c.b)))∧(∀ c∈M.cs,shutB c st=true→(C (rowF2 N.pl (N.pl+M.pl - 2) c.a)↔C (rowF2 N.pl (N.pl+M.pl - 2) c.b))):=by
  intro C
  show (∀ c∈N.cs.map _++M.cs.map _,_)↔_
  constructor
  ·intro h
   exact ⟨fun c hc hs=>(mv_iff _ c C).mp (h _ (List.mem_append_left _ (List.mem_map.mpr ⟨c,hc,rfl⟩)) hs),fun c hc hs=>(mv_iff _ c C).mp (h _ (List.mem_append_right _ (List.mem_map.mpr ⟨c,hc,rfl⟩)) hs)⟩
  ·intro h c hc hs
   rcases List.mem_append.mp hc with q | q
   ·obtain ⟨d,hd,rfl⟩:=List.mem_map.mp q
    exact (mv_iff _ d C).mpr (h.1 d hd hs)
   ·obtain ⟨d,hd,rfl⟩:=List.mem_map.mp q
    exact (mv_iff _ d C).mpr (h.2 d hd hs)
 constructor
 ·intro h
  refine ⟨?_,?_⟩
  ·refine Classical.byContradiction fun hn=>?_
   obtain ⟨C1,c0,c1,n1⟩:=lets_false (by simpa using hn)
   have:=zB4.mp h (fun x=>x≠1∧x<N.pl∧C1 x) ⟨by decide,by omega,c0⟩ ((cc (fun x=>x≠1∧x<N.pl∧C1 x)).mpr ⟨fun c hc hs=>?_,fun c hc hs=>?_⟩)
   ·exact this.1 rfl
   ·obtain ⟨a0,ab,bp,_⟩:=okN.c2 c hc
    have e:=c1 c hc hs
    have key:∀ x,0≤x→x<N.pl→((rowF1 (N.pl+M.pl - 2) x≠1∧rowF1 (N.pl+M.pl - 2) x<N.pl∧C1 (rowF1 (N.pl+M.pl - 2) x))↔C1 x):=fun x x0 xp=>by
     unfold rowF1
     by_cases hx:x=1
     ·rw [if_pos hx,hx]; exact ⟨fun z=>by omega,fun z=>absurd z n1⟩
     ·rw [if_neg hx]; exact ⟨fun z=>z.2.2,fun z=>⟨hx,xp,z⟩⟩
    rw [key c.a a0 (by omega),key c.b (by omega) bp]; exact e
   ·obtain ⟨a0,ab,bp,_⟩:=okM.c2 c hc
    have key:∀ x,0≤x→¬ (rowF2 N.pl (N.pl+M.pl - 2) x≠1∧rowF2 N.pl (N.pl+M.pl - 2) x<N.pl∧C1 (rowF2 N.pl (N.pl+M.pl - 2) x)):=fun x x0 z=>by
     unfold rowF2 at z
     by_cases h0:x=0
     ·rw [if_pos h0] at z; omega
     ·rw [if_neg h0] at z
      by_cases h1:x=1
      ·rw [if_pos h1] at z; exact z.1 rfl
      ·rw [if_neg h1] at z; omega
    exact iff_of_false (key _ a0) (key _ (by omega))
  ·refine Classical.byContradiction fun hn=>?_
   obtain ⟨C2,c0,c1,n1⟩:=lets_false (by simpa using hn)
   have:=zB4.mp h (fun x=>x≠1∧(x<N.pl∨x=N.pl+M.pl - 2∨C2 (x - N.pl+2))) ⟨by decide,.inl (by omega)⟩ ((cc (fun x=>x≠1∧(x<N.pl∨x=N.pl+M.pl - 2∨C2 (x - N.pl+2)))).mpr ⟨fun c hc hs=>?_,fun c hc hs=>?_⟩)
   ·exact this.1 rfl
   ·obtain ⟨a0,ab,bp,_⟩:=okN.c2 c hc
    have key:∀ x,0≤x→x<N.pl→(rowF1 (N.pl+M.pl - 2) x≠1∧(rowF1 (N.pl+M.pl - 2) x<N.pl∨rowF1 (N.pl+M.pl - 2) x=N.pl+M.pl - 2∨C2 (rowF1 (N.pl+M.pl - 2) x - N.pl+2))):=fun x x0 xp=>by
     unfold rowF1
     by_cases hx:x=1
     ·rw [if_pos hx]; exact ⟨by omega,.inr (.inl rfl)⟩
     ·rw [if_neg hx]; exact ⟨hx,.inl xp⟩
    exact iff_of_true (key _ a0 (by omega)) (key _ (by omega) bp)
   ·obtain ⟨a0,ab,bp,_⟩:=okM.c2 c hc
    have e:=c1 c hc hs
    have key:∀ x,0≤x→x<M.pl→((rowF2 N.pl (N.pl+M.pl - 2) x≠1∧(rowF2 N.pl (N.pl+M.pl - 2) x<N.pl∨rowF2 N.pl (N.pl+M.pl - 2) x=N.pl+M.pl - 2∨C2 (rowF2 N.pl (N.pl+M.pl - 2) x - N.pl+2)))↔C2 x):=fun x x0 xp=>by
     unfold rowF2
     by_cases h0:x=0
     ·rw [if_pos h0,h0]; exact iff_of_true ⟨by omega,.inr (.inl rfl)⟩ c0
     ·rw [if_neg h0]
      by_cases h1:x=1
      ·rw [if_pos h1,h1]; exact iff_of_false (fun z=>z.1 rfl) n1
      ·rw [if_neg h1,show x+N.pl - 2 - N.pl+2=x by omega]
       exact ⟨fun z=>by rcases z.2 with z | z | z; omega; omega; exact z,fun z=>⟨by omega,.inr (.inr z)⟩⟩
    rw [key c.a a0 (by omega),key c.b (by omega) bp]; exact e
 ·intro ⟨h1,h2⟩
  refine zB4.mpr fun C c0 hC=>?_
  obtain ⟨hN,hM⟩:=(cc C).mp hC
  have m1:C (rowF1 (N.pl+M.pl - 2) 1):=zB4.mp h1 (fun x=>C (rowF1 (N.pl+M.pl - 2) x)) (by show C (rowF1 _ 0); unfold rowF1; rw [if_neg (by decide)]; exact c0) hN
  have m2:C (rowF2 N.pl (N.pl+M.pl - 2) 1):=zB4.mp h2 (fun x=>C (rowF2 N.pl (N.pl+M.pl - 2) x)) (by show C (rowF2 _ _ 0); unfold rowF2; rw [if_pos rfl]; unfold rowF1 at m1; rw [if_pos rfl] at m1; exact m1) hM
  unfold rowF2 at m2
  rw [if_neg (by decide),if_pos rfl] at m2
  exact m2
theorem side_lets {N M:Net} (okN:N.g) (okM:M.g) (st:List Int):zBe (N.side M) st=(zBe N st||zBe M st):=by
 have p1:=okN.p1
 have p1':=okM.p1
 refine bool_ext ?_
 rw [Bool.or_eq_true]
 have cc:∀ C:Int→Prop,(∀ c∈(N.side M).cs,shutB c st=true→(C c.a↔C c.b))↔(∀ c∈N.cs,shutB c st=true→(C c.a↔C c.b))∧(∀ c∈M.cs,shutB c st=true→(C (sideF N.pl c.a)↔C (sideF N.pl c.b))):=by
  intro C
  show (∀ c∈N.cs++M.cs.map _,_)↔_
  constructor
  ·intro h
   exact ⟨fun c hc hs=>h _ (List.mem_append_left _ hc) hs,fun c hc hs=>(mv_iff _ c C).mp (h _ (List.mem_append_right _ (List.mem_map.mpr ⟨c,hc,rfl⟩)) hs)⟩
  ·intro h c hc hs
   rcases List.mem_append.mp hc with q | q
   ·exact h.1 c q hs
   ·obtain ⟨d,hd,rfl⟩:=List.mem_map.mp q
    exact (mv_iff _ d C).mpr (h.2 d hd hs)
 constructor
 ·intro h
  refine Classical.byContradiction fun hn=>?_
  rw [not_or] at hn
  obtain ⟨C1,c0,c1,n1⟩:=lets_false (show zBe N st=false by simpa using hn.1)
  obtain ⟨C2,d0,d1,m1⟩:=lets_false (show zBe M st=false by simpa using hn.2)
  have:=zB4.mp h (fun x=>(x<N.pl∧C1 x)∨(N.pl≤x∧C2 (x - N.pl+2))) (.inl ⟨by omega,c0⟩) ((cc (fun x=>(x<N.pl∧C1 x)∨(N.pl≤x∧C2 (x - N.pl+2)))).mpr ⟨fun c hc hs=>?_,fun c hc hs=>?_⟩)
  ·rcases this with z | z
   ·exact n1 z.2
   ·omega
  ·obtain ⟨a0,ab,bp,_⟩:=okN.c2 c hc
   have e:=c1 c hc hs
   have key:∀ x,x<N.pl→(((x<N.pl∧C1 x)∨(N.pl≤x∧C2 (x - N.pl+2)))↔C1 x):=fun x xp=>⟨fun z=>by rcases z with z | z; exact z.2; omega,fun z=>.inl ⟨xp,z⟩⟩
   rw [key c.a (by omega),key c.b bp]; exact e
  ·obtain ⟨a0,ab,bp,_⟩:=okM.c2 c hc
   have e:=d1 c hc hs
   have key:∀ x,0≤x→(((sideF N.pl x<N.pl∧C1 (sideF N.pl x))∨(N.pl≤sideF N.pl x∧C2 (sideF N.pl x - N.pl+2)))↔C2 x):=fun x x0=>by
    unfold sideF
    by_cases h0:x=0
    ·rw [if_pos h0,h0]; exact iff_of_true (.inl ⟨by omega,c0⟩) d0
    ·rw [if_neg h0]
     by_cases h1:x=1
     ·rw [if_pos h1,h1]; exact iff_of_false (fun z=>by rcases z with z | z; exact n1 z.2; omega) m1
     ·rw [if_neg h1,show x+N.pl - 2 - N.pl+2=x by omega]
      exact ⟨fun z=>by rcases z with z | z; omega; exact z.2,fun z=>.inr ⟨by omega,z⟩⟩
   rw [key c.a a0,key c.b (by omega)]; exact e
 ·intro h
  refine zB4.mpr fun C c0 hC=>?_
  obtain ⟨hN,hM⟩:=(cc C).mp hC
  rcases h with h | h
  ·exact zB4.mp h C c0 hN
  ·have:=zB4.mp h (fun x=>C (sideF N.pl x)) c0 hM
   exact this
theorem is_contact_spec (h:Hs_is_contact cl) (hb:Hs_is_bit cl) (hw:zAk cl) (n:Nat) {sw pl:Int}{c:Ct} (ok:c.ok sw pl) (S:zA1):Spc (cl (n+3) "is_contact" [.int sw,.int pl,c.d] S) ((.bl true)) S:=by
 obtain ⟨a0,ab,bp,k0,k1,o0,o1⟩:=ok
 have e2:loopC [] .one (fun _=>ret true) (is_contact_e1 (cl (n+2))) [none] ([c.a,c.b,c.k,c.o].map D.int) S=.ok ([c.a,c.b,c.k,c.o].map fun _=>D.bl true) S:=by
  refine comp_pureM D.int (zAv _) _ _ fun y hy=>⟨_,rfl,?_⟩
  have:=is_whole_spec hw (n+1) (scal_int y) S
  simp [is_contact_e1,this,isIntD]
 have e2':loopC [] .one (fun _=>ret true) (is_contact_e1 (cl (n+2))) [none] [.int c.a,.int c.b,.int c.k,.int c.o] S=.ok [.bl true,.bl true,.bl true,.bl true] S:=e2
 have a1:fBools (fun bs=>bs.all id) [.lst S.length] (S++[.lst [.bl true,.bl true,.bl true,.bl true]])=.ok (.bl true) (S++[.lst [.bl true,.bl true,.bl true,.bl true]]):=fAll_ev (l:=[true,true,true,true]) (zA4 S _) _
 have x1:=zAc S [O.lst [.bl true,.bl true,.bl true,.bl true]]
 generalize hS1:S++[O.lst [.bl true,.bl true,.bl true,.bl true]]=S1 at a1 x1
 have b1:=is_bit_spec hb hw n (scal_int c.o) S1
 have b2:isBitD (.int c.o)=true:=by simp [isBitD]; omega
 rw [b2] at b1
 have q4:4<lim:=by decide
 have hch:cChain3 (oCmp fun i j=>decide (i≤j)) oLt oLt (cCon (.int 0)) (cBin oIx (cVar 2) (cCon (.int 0))) (cBin oIx (cVar 2) (cCon (.int 1))) (cVar 1) [some (.int sw),some (.int pl),some (.tup [.int c.a,.int c.b,.int c.k,.int c.o])] S1=.ok true S1:=by
  unfold cChain3
  simp [bnd_ev,a0,ab,bp,ret_ev]
 refine ⟨S1,?_,x1⟩
 rw [show n+3=(n+2)+1 from rfl,h]
 refine zA7 rfl ?_
 simp [b_is_contact,zA6,Ct.d,e2',q4,hS1,a1,hch,k0,k1,b1]
theorem is_net_spec (h:Hs_is_net cl) (hc:Hs_is_contact cl) (hb:Hs_is_bit cl) (hw:zAk cl) (n:Nat) {N:Net} (ok:N.ok 4 7 16) (S:zA1):Spc (cl (n+4) "is_net" [N.d] S) ((.bl true)) S:=by
 have s1:=ok.s1
 have s2:=ok.s2
 have p1:=ok.p1
 have p2:=ok.p2
 have c1:=ok.c1
 have w1:=is_whole_spec hw (n+2) (scal_int N.sw) S
 have w2:=is_whole_spec hw (n+2) (scal_int N.pl) S
 obtain ⟨S2,e2,x2⟩:=comp_mapM Ct.d (w:=[]) (t:=.one) (c:=is_net_e1 (cl (n+3))) (ρ0:=[none,some (.int N.sw),some (.int N.pl)]) (fun S'=>Ex S S') (fun S' x=>zAv _) (fun _=>.bl true) N.cs (Kp.refl _ _)
  (fun c hcm S' x=>by
   obtain ⟨S3,e3,x3⟩:=is_contact_spec hc hb hw n (ok.c2 c hcm) S'
   refine ⟨_,rfl,S3,?_,x.trans x3⟩
   simp [is_net_e1,e3])
 have e4:N.cs.map (fun _=>D.bl true)=(N.cs.map fun _=>true).map D.bl:=by rw [List.map_map]; rfl
 rw [e4] at e2
 have a1:=fAll_ev (zA4 S2 ((N.cs.map fun _=>true).map D.bl)) (fun bs=>bs.all id)
 have q2:((N.cs.map fun _=>true).all id)=true:=by rw [List.all_map]; simp
 rw [q2] at a1
 have x3:=zAc S2 [O.lst ((N.cs.map fun _=>true).map D.bl)]
 generalize hS3:S2++[O.lst ((N.cs.map fun _=>true).map D.bl)]=S3 at a1 x3
 have hl:(N.cs.map Ct.d).length<lim:=by rw [List.length_map,zBd]; omega
 have hl2:¬ ((16:Int)<((N.cs.map Ct.d).length:Nat)):=by rw [List.length_map]; omega
 have hi:=inst_tup (N.cs.map Ct.d) S
 refine ⟨S3,?_,x2.trans x3⟩
 rw [show n+4=(n+3)+1 from rfl,h]
 refine zA7 rfl ?_
 unfold Net.d
 generalize N.cs.map Ct.d=CS at *
 simp only [isIntD] at w1 w2
 generalize (N.cs.map fun _=>true).map D.bl=B at *
 simp [b_is_net,zA6,w1,w2,s1,s2,p1,p2,hl2,hl,e2,hS3,a1]
theorem newNames {S:zA1}{x y lo hi:Int} (h1:lo≤hi) (h2:hi - lo≤100) (h3:-1000≤lo∧hi≤1000) :
  ∃ S1,fListR [.int lo,.int hi] (S++[.lst [.int x,.int y]])=.ok (.lst (S.length+1)) (S++[.lst [.int x,.int y]]++[.lst (upD lo (hi - lo).toNat)])∧oAdd (.lst S.length) (.lst (S.length+1)) (S++[.lst [.int x,.int y]]++[.lst (upD lo (hi - lo).toNat)])=.ok (.lst (S.length+2)) S1∧Ex S S1 ∧
   zA5 S1 (S.length+2)=some (([x,y]++(List.range (hi - lo).toNat).map fun (k:Nat)=>lo+(k:Int)).map D.int):=by
 have e:([x,y]++(List.range (hi - lo).toNat).map fun (k:Nat)=>lo+(k:Int)).map D.int=[.int x,.int y]++upD lo (hi - lo).toNat:=by
  rw [List.map_append,List.map_map]; rfl
 have l1:zA5 (S++[.lst [.int x,.int y]]++[.lst (upD lo (hi - lo).toNat)]) S.length=some [.int x,.int y]:=lstAt_app (zA4 _ _)
 have l2:zA5 (S++[.lst [.int x,.int y]]++[.lst (upD lo (hi - lo).toNat)]) (S.length+1)=some (upD lo (hi - lo).toNat):=by
  have:=zA4 (S++[.lst [.int x,.int y]]) (upD lo (hi - lo).toNat)
  rw [show (S++[O.lst [.int x,.int y]]).length=S.length+1 by simp] at this
  exact this
 have ad:=oAdd_lst l1 l2 (by rw [upD_len,zBd]; show 2+_≤_; omega)
 have len:(S++[O.lst [.int x,.int y]]++[O.lst (upD lo (hi - lo).toNat)]).length=S.length+2:=by simp
 rw [len] at ad
 refine ⟨_,?_,ad,((zAc _ _).trans (zAc _ _)).trans (zAc _ _),?_⟩
 ·unfold fListR; dsimp only
  rw [if_pos (by omega),show (S++[O.lst [.int x,.int y]]).length=S.length+1 by simp]
 ·rw [← len,zA4,e]
theorem nl_get {x y lo:Int}{n:Nat}{p:Int} (p0:0≤p) (pn:p<n+2):nlF ([x,y]++(List.range n).map fun (k:Nat)=>lo+(k:Int)) p=if p=0 then x else if p=1 then y else lo+(p - 2):=by
 unfold nlF
 by_cases h0:p=0
 ·subst h0; rfl
 ·rw [if_neg h0]
  by_cases h1:p=1
  ·subst h1; rfl
  ·rw [if_neg h1,List.getD,List.getElem?_append_right (by show 2≤p.toNat; omega),List.getElem?_map,List.getElem?_range (by show p.toNat - 2<n; omega)]
   show lo+((p.toNat - 2:Nat):Int)=_
   omega
theorem nl_len (x y lo:Int) (n:Nat):([x,y]++(List.range n).map fun (k:Nat)=>lo+(k:Int)).length=n+2:=by simp
theorem rowF1_n (mid p:Int):rowF1 mid p=if p=0 then 0 else if p=1 then mid else 2+(p - 2):=by
 unfold rowF1
 by_cases h0:p=0
 ·subst h0; rfl
 ·rw [if_neg h0]
  by_cases h1:p=1
  ·rw [if_pos h1,if_pos h1]
  ·rw [if_neg h1,if_neg h1]; omega
theorem rowF2_n (p1 mid p:Int):rowF2 p1 mid p=if p=0 then mid else if p=1 then 1 else p1+(p - 2):=by
 unfold rowF2
 by_cases h0:p=0
 ·rw [if_pos h0,if_pos h0]
 ·rw [if_neg h0,if_neg h0]
  by_cases h1:p=1
  ·rw [if_pos h1,if_pos h1]
  ·rw [if_neg h1,if_neg h1]; omega
theorem sideF_n (p1 p:Int):sideF p1 p=if p=0 then 0 else if p=1 then 1 else p1+(p - 2):=by
 unfold sideF
 by_cases h0:p=0
 ·rw [if_pos h0,if_pos h0]
 ·rw [if_neg h0,if_neg h0]
  by_cases h1:p=1
  ·rw [if_pos h1,if_pos h1]
  ·rw [if_neg h1,if_neg h1]; omega
structure HM (cl:Nat→CLL):Prop where
 mo:Hs_moved cl
 mc:zAC cl
theorem moved_by (M:HM cl) (n:Nat) {cs:List Ct} (hl:cs.length≤100) {pl x y lo:Int} (hpl:2≤pl) {sw:Int} (hc:∀ c∈cs,c.ok sw pl) (f:Int→Int) (hf:∀ p,0≤p→p<pl→f p=if p=0 then x else if p=1 then y else lo+(p - 2)) {S:zA1}{j:Nat}
  (hj:zA5 S j=some (([x,y]++(List.range (pl - 2).toNat).map fun (k:Nat)=>lo+(k:Int)).map D.int)):Spc (cl (n+2) "moved" [.tup (cs.map Ct.d),.lst j] S) ((.tup ((cs.map (Ct.mv f)).map Ct.d))) S:=by
 obtain ⟨S1,e,x1⟩:=moved_spec M.mo M.mc n hl (fun c hc'=>by
  obtain ⟨a0,ab,bp,_⟩:=hc c hc'
  refine ⟨⟨a0,?_⟩,by omega,?_⟩ <;> (rw [nl_len]; omega)) hj (.inl rfl)
 refine ⟨S1,?_,x1⟩
 have em:cs.map (Ct.mv (nlF ([x,y]++(List.range (pl - 2).toNat).map fun (k:Nat)=>lo+(k:Int))))=cs.map (Ct.mv f):=List.map_congr_left fun c hc'=>by
  obtain ⟨a0,ab,bp,_⟩:=hc c hc'
  exact mv_congr (by rw [nl_get a0 (by omega),hf _ a0 (by omega)]) (by rw [nl_get (by omega) (by omega),hf _ (by omega) bp])
 rw [em] at e
 exact e
theorem within_spec (h:Hs_net_within cl) (n:Nat) {sw pl:Int}{R:List D} (hp:pl≤7) (hR:R.length≤16) (S:zA1):cl (n+1) "net_within" [.int sw,.int pl,.tup R] S=.ok (.tup [.int sw,.int pl,.tup R]) S:=by
 rw [h]
 refine zA7 rfl ?_
 have h1:¬ (7:Int)<pl:=by omega
 have h2:¬ (16:Int)<(R.length:Int):=by omega
 simp [b_net_within,zA6,h1,h2]
theorem row_run (c:CLL) {N M nd md:D}{sw p q:Int}{R1 R2 Z1 Z2:List D}{w:D}{S A B C T:zA1}{B1 B2:zA1}{k1 k2:Nat} (hN:N=.tup [.int sw,.int p,.tup R1]) (q2:∀ T,oIx M (.int 1) T=.ok (.int q) T) (q3:∀ T,oIx M (.int 2) T=.ok (.tup R2) T)
  (f1:fListR [.int 2,.int p] (S++[.lst [.int 0,.int (p+q - 2)]])=.ok (.lst (S.length+1)) A) (a1:oAdd (.lst S.length) (.lst (S.length+1)) A=.ok (.lst k1) B) (m1:c "moved" [.tup R1,.lst k1] B=.ok (.tup Z1) B1)
  (f2:fListR [.int p,.int (p+q - 2)] (B1++[.lst [.int (p+q - 2),.int 1]])=.ok (.lst (B1.length+1)) C) (a2:oAdd (.lst B1.length) (.lst (B1.length+1)) C=.ok (.lst k2) T) (m2:c "moved" [.tup R2,.lst k2] T=.ok (.tup Z2) B2)
  (hl:Z1.length+Z2.length≤lim) (e:c "net_within" [.int sw,.int (p+q - 2+1),.tup (Z1++Z2)] B2=.ok w B2):b_in_row c (zA6 5 [N,M]) S=.rt w B2:=by
 subst hN
 simp [b_in_row,zA6,q2,q3,f1,a1,m1,f2,a2,m2,hl,e]
theorem side_run (c:CLL) {N M:D}{sw p q:Int}{R1 R2 Z2:List D}{w:D}{S C T B2:zA1}{k2:Nat} (hN:N=.tup [.int sw,.int p,.tup R1]) (q2:∀ T,oIx M (.int 1) T=.ok (.int q) T) (q3:∀ T,oIx M (.int 2) T=.ok (.tup R2) T)
  (f2:fListR [.int p,.int (p+q - 2)] (S++[.lst [.int 0,.int 1]])=.ok (.lst (S.length+1)) C) (a2:oAdd (.lst S.length) (.lst (S.length+1)) C=.ok (.lst k2) T) (m2:c "moved" [.tup R2,.lst k2] T=.ok (.tup Z2) B2)
  (hl:R1.length+Z2.length≤lim) (e:c "net_within" [.int sw,.int (p+q - 2),.tup (R1++Z2)] B2=.ok w B2):zB2 c (zA6 4 [N,M]) S=.rt w B2:=by
 subst hN
 simp [zB2,zA6,q2,q3,f2,a2,m2,hl,e]
theorem in_row_spec (h:Hs_in_row cl) (hw:Hs_net_within cl) (M:HM cl) (n:Nat) {N N2:Net} (ok:N.g) (ok2:N2.g) (okR:(N.row N2).g) (S:zA1):Spc (cl (n+3) "in_row" [N.d,N2.d] S) ((N.row N2).d) S:=by
 have a:=ok.p1; have b:=ok.p2; have c:=ok2.p1; have d:=ok2.p2; have e:=ok.c1; have f:=ok2.c1
 obtain ⟨B,f1,a1,xB,lB⟩:=newNames (S:=S) (x:=0) (y:=N.pl+N2.pl - 2) (lo:=2) (hi:=N.pl) (by omega) (by omega) (by omega)
 obtain ⟨B1,m1,xB1⟩:=moved_by M n (ok.len (by decide)) a ok.c2 (rowF1 (N.pl+N2.pl - 2)) (fun p _ _=>rowF1_n _ p) lB
 obtain ⟨T,f2,a2,xT,lT⟩:=newNames (S:=B1) (x:=N.pl+N2.pl - 2) (y:=1) (lo:=N.pl) (hi:=N.pl+N2.pl - 2) (by omega) (by omega) (by omega)
 rw [show N.pl+N2.pl - 2 - N.pl=N2.pl - 2 by omega] at lT f2 a2
 obtain ⟨B2,m2,xB2⟩:=moved_by M n (ok2.len (by decide)) c ok2.c2 (rowF2 N.pl (N.pl+N2.pl - 2)) (fun p _ _=>rowF2_n _ _ p) lT
 have hR:=okR.c1
 have hP:=okR.p2
 have hl:(N.row N2).cs.length=N.cs.length+N2.cs.length:=by show (_++_:List Ct).length=_; rw [List.length_append,List.length_map,List.length_map]
 have hw':=within_spec hw (n+1) (sw:=N.sw) (pl:=N.pl+N2.pl - 2+1) (R:=(N.cs.map (Ct.mv (rowF1 (N.pl+N2.pl - 2)))).map Ct.d++(N2.cs.map (Ct.mv (rowF2 N.pl (N.pl+N2.pl - 2)))).map Ct.d) (by exact hP) (by rw [List.length_append,List.length_map,List.length_map,List.length_map,List.length_map]; omega) B2
 refine ⟨B2,?_,((xB.trans xB1).trans xT).trans xB2⟩
 have hd:(N.row N2).d=.tup [.int N.sw,.int (N.pl+N2.pl - 2+1),.tup ((N.cs.map (Ct.mv (rowF1 (N.pl+N2.pl - 2)))).map Ct.d++(N2.cs.map (Ct.mv (rowF2 N.pl (N.pl+N2.pl - 2)))).map Ct.d)]:=by
  show D.tup [.int N.sw,.int (N.pl+N2.pl - 2+1),.tup ((_++_:List Ct).map Ct.d)]=_
  rw [List.map_append]
 rw [show n+3=(n+2)+1 from rfl,h,hd]
 exact zA7 rfl (row_run _ (nd:=.non) (md:=.non) rfl (fun _=>rfl) (fun _=>rfl) f1 a1 m1 f2 a2 m2 (by rw [List.length_map,List.length_map,List.length_map,List.length_map,zBd]; omega) hw')
theorem side_spec (h:Hs_side_by_side cl) (hw:Hs_net_within cl) (M:HM cl) (n:Nat) {N N2:Net} (ok:N.g) (ok2:N2.g) (okR:(N.side N2).g) (S:zA1):Spc (cl (n+3) "side_by_side" [N.d,N2.d] S) ((N.side N2).d) S:=by
 have a:=ok.p1; have b:=ok.p2; have c:=ok2.p1; have d:=ok2.p2; have e:=ok.c1; have f:=ok2.c1
 obtain ⟨T,f2,a2,xT,lT⟩:=newNames (S:=S) (x:=0) (y:=1) (lo:=N.pl) (hi:=N.pl+N2.pl - 2) (by omega) (by omega) (by omega)
 rw [show N.pl+N2.pl - 2 - N.pl=N2.pl - 2 by omega] at lT f2 a2
 obtain ⟨B2,m2,xB2⟩:=moved_by M n (ok2.len (by decide)) c ok2.c2 (sideF N.pl) (fun p _ _=>sideF_n _ p) lT
 have hR:=okR.c1
 have hP:=okR.p2
 have hl:(N.side N2).cs.length=N.cs.length+N2.cs.length:=by show (_++_:List Ct).length=_; rw [List.length_append,List.length_map]
 have hw':=within_spec hw (n+1) (sw:=N.sw) (pl:=N.pl+N2.pl - 2) (R:=N.cs.map Ct.d++(N2.cs.map (Ct.mv (sideF N.pl))).map Ct.d) (by exact hP) (by rw [List.length_append,List.length_map,List.length_map,List.length_map]; omega) B2
 refine ⟨B2,?_,xT.trans xB2⟩
 have hd:(N.side N2).d=.tup [.int N.sw,.int (N.pl+N2.pl - 2),.tup (N.cs.map Ct.d++(N2.cs.map (Ct.mv (sideF N.pl))).map Ct.d)]:=by
  show D.tup [.int N.sw,.int (N.pl+N2.pl - 2),.tup ((_++_:List Ct).map Ct.d)]=_
  rw [List.map_append]
 rw [show n+3=(n+2)+1 from rfl,h,hd]
 exact zA7 rfl (side_run _ rfl (fun _=>rfl) (fun _=>rfl) f2 a2 m2 (by rw [List.length_map,List.length_map,List.length_map,zBd]; omega) hw')
theorem funP_b1 (N:Net):funP N=(sett N.sw.toNat).map fun st=>b1 (zBe N st):=rfl
open PySem L2
inductive Tr where
 | lf (k o:Int)
 | nd (r:Bool) (ps:List Tr)
noncomputable def kw (r:Bool):Str:=if r then Str.ofString "row" else Str.ofString "side"
mutual
noncomputable def Tr.d:Tr→D
 | .lf k o=>.tup [.str (Str.ofString "at"),.int k,.int o]
 | .nd r ps=>.tup [.str (kw r),.tup (Tr.ds ps)]
noncomputable def Tr.ds:List Tr→List D
 | []=>[]
 | t::r=>t.d::Tr.ds r
end
mutual
noncomputable def Tr.ht:Tr→Nat
 | .lf _ _=>0
 | .nd _ ps=>Tr.hts ps+1
noncomputable def Tr.hts:List Tr→Nat
 | []=>0
 | t::r=>max t.ht (Tr.hts r)
end
mutual
noncomputable def Tr.sz:Tr→Nat
 | .lf _ _=>1
 | .nd _ ps=>Tr.szs ps+1
noncomputable def Tr.szs:List Tr→Nat
 | []=>0
 | t::r=>t.sz+Tr.szs r
end
mutual
noncomputable def Tr.inv:Tr→Tr
 | .lf k o=>.lf k o
 | .nd r ps=>.nd (!r) (Tr.invs ps)
noncomputable def Tr.invs:List Tr→List Tr
 | []=>[]
 | t::r=>t.inv::Tr.invs r
end
mutual
noncomputable def Tr.ons:Tr→Tr
 | .lf k o=>.lf k (1 - o)
 | .nd r ps=>.nd r (Tr.onss ps)
noncomputable def Tr.onss:List Tr→List Tr
 | []=>[]
 | t::r=>t.ons::Tr.onss r
end
mutual
noncomputable def Tr.tun (b:Bool):Tr→Tr
 | .lf k o=>.lf k (if b then 1 - o else o)
 | .nd r ps=>.nd (!r) (Tr.tuns b ps)
noncomputable def Tr.tuns (b:Bool):List Tr→List Tr
 | []=>[]
 | t::r=>t.tun b::Tr.tuns b r
end
theorem ds_map:∀ ps,Tr.ds ps=ps.map Tr.d
 | []=>rfl
 | t::r=>by show t.d::Tr.ds r=_; rw [ds_map r]; rfl
theorem invs_map:∀ ps,Tr.invs ps=ps.map Tr.inv
 | []=>rfl
 | t::r=>by show t.inv::Tr.invs r=_; rw [invs_map r]; rfl
theorem onss_map:∀ ps,Tr.onss ps=ps.map Tr.ons
 | []=>rfl
 | t::r=>by show t.ons::Tr.onss r=_; rw [onss_map r]; rfl
theorem tuns_map (b:Bool):∀ ps,Tr.tuns b ps=ps.map (Tr.tun b)
 | []=>rfl
 | t::r=>by show t.tun b::Tr.tuns b r=_; rw [tuns_map b r]; rfl
theorem zBf:∀ {ps:List Tr}{t:Tr},t∈ps→t.ht≤Tr.hts ps
 | p::r,t,h=>by
  show t.ht≤max p.ht (Tr.hts r)
  rcases List.mem_cons.mp h with rfl | h
  ·omega
  ·have:=zBf h; omega
theorem sz_pos:∀ t:Tr,1≤t.sz
 | .lf _ _=>Nat.le_refl _
 | .nd _ ps=>by show 1≤Tr.szs ps+1; omega
theorem szs_mem:∀ {ps:List Tr}{t:Tr},t∈ps→t.sz≤Tr.szs ps
 | p::r,t,h=>by
  show t.sz≤p.sz+Tr.szs r
  rcases List.mem_cons.mp h with rfl | h
  ·omega
  ·have:=szs_mem h; omega
theorem szs_len:∀ ps:List Tr,ps.length≤Tr.szs ps
 | []=>Nat.le_refl _
 | p::r=>by
  show r.length+1≤p.sz+Tr.szs r
  have:=szs_len r
  have:=sz_pos p
  omega
mutual
theorem tun_ons:∀ t:Tr,t.tun true=t.inv.ons
 | .lf k o=>rfl
 | .nd r ps=>by show Tr.nd (!r) (Tr.tuns true ps)=.nd (!r) (Tr.onss (Tr.invs ps)); rw [tuns_onss ps]
theorem tuns_onss:∀ ps:List Tr,Tr.tuns true ps=Tr.onss (Tr.invs ps)
 | []=>rfl
 | t::r=>by show t.tun true::Tr.tuns true r=t.inv.ons::Tr.onss (Tr.invs r); rw [tun_ons t,tuns_onss r]
end
mutual
theorem inv_ht:∀ t:Tr,t.inv.ht=t.ht∧t.inv.sz=t.sz
 | .lf k o=>⟨rfl,rfl⟩
 | .nd r ps=>by
  have:=invs_ht ps
  exact ⟨by show Tr.hts (Tr.invs ps)+1=Tr.hts ps+1; rw [this.1],by show Tr.szs (Tr.invs ps)+1=Tr.szs ps+1; rw [this.2]⟩
theorem invs_ht:∀ ps:List Tr,Tr.hts (Tr.invs ps)=Tr.hts ps∧Tr.szs (Tr.invs ps)=Tr.szs ps
 | []=>⟨rfl,rfl⟩
 | t::r=>by
  have h1:=inv_ht t
  have h2:=invs_ht r
  exact ⟨by show max t.inv.ht (Tr.hts (Tr.invs r))=max t.ht (Tr.hts r); rw [h1.1,h2.1],by show t.inv.sz+Tr.szs (Tr.invs r)=t.sz+Tr.szs r; rw [h1.2,h2.2]⟩
end
theorem kw_at (r:Bool):(kw r=Str.ofString "at")=False:=by cases r <;> simp only [eq_iff_iff,iff_false] <;> decide +kernel
theorem kw_row (r:Bool):(kw r=Str.ofString "row")=(r=true):=by
 cases r
 ·simp only [eq_iff_iff]; constructor <;> intro h <;> revert h <;> decide +kernel
 ·simp only [eq_iff_iff]; constructor <;> intro h <;> first | rfl | trivial
theorem kw_not (r:Bool):(if r=true then Str.ofString "side" else Str.ofString "row")=kw (!r):=by cases r <;> rfl
theorem kw_inj {r r':Bool}:(kw r=kw r')=(r=r'):=by
 cases r <;> cases r' <;> simp only [eq_iff_iff] <;> constructor <;> intro h <;> first | rfl | (revert h; decide +kernel)
@[simp] theorem oEq_str (a b:Str) (S:zA1):oEq (.str a) (.str b) S=.ok (.bl (decide (a=b))) S:=rfl
theorem inside_out_spec (h:Hs_inside_out cl):∀ (H:Nat) (t:Tr),t.ht≤H→t.sz≤1000→∀ (n:Nat) (S:zA1),Spc (cl (n+H+1) "inside_out" [t.d] S) (t.inv.d) S:=by
 intro H
 induction H with
 | zero =>
  intro t ht hs n S
  cases t with
  | lf k o=>exact ⟨S,by rw [h]; exact zA7 rfl (by simp [zAR,zA6,Tr.d,Tr.inv]),Kp.refl _ _⟩
  | nd r ps=>simp [Tr.ht] at ht
 | succ H ih =>
  intro t ht hs n S
  cases t with
  | lf k o=>exact ⟨S,by rw [h]; exact zA7 rfl (by simp [zAR,zA6,Tr.d,Tr.inv]),Kp.refl _ _⟩
  | nd r ps =>
   have ht':Tr.hts ps+1≤H+1:=ht
   have hs':Tr.szs ps+1≤1000:=hs
   obtain ⟨S2,e2,x2⟩:=comp_mapM Tr.d (w:=[]) (t:=.one) (c:=inside_out_e1 (cl (n+(H+1)))) (ρ0:=[none]) (fun S'=>Ex S S') (fun S' x=>zAv _) (fun t=>t.inv.d) ps (Kp.refl _ _)
    (fun t hm S' x=>by
     obtain ⟨S3,e3,x3⟩:=ih t (by have:=zBf hm; omega) (by have:=szs_mem hm; omega) n S'
     exact ⟨_,rfl,S3,by simp [inside_out_e1]; exact e3,x.trans x3⟩)
   have e4:ps.map (fun t=>t.inv.d)=(ps.map Tr.inv).map Tr.d:=by rw [List.map_map]; rfl
   rw [e4] at e2
   have t1:=zAE (zA4 S2 ((ps.map Tr.inv).map Tr.d))
   have hl:(ps.map Tr.d).length<lim:=by rw [List.length_map,zBd]; have:=szs_len ps; omega
   refine ⟨_,?_,x2.trans (zAc S2 [.lst ((ps.map Tr.inv).map Tr.d)])⟩
   rw [h]
   refine zA7 rfl ?_
   have ek:=kw_not r
   simp only [Tr.d,Tr.inv,invs_map,ds_map]
   generalize (ps.map Tr.inv).map Tr.d=B at *
   generalize ps.map Tr.d=A at *
   cases r
   ·simp [zAR,zA6,kw_at,kw_row,hl,e2,t1]; exact ek
   ·simp [zAR,zA6,kw_at,kw_row,hl,e2,t1]; exact ek
open PySem L2
variable {cl:Nat→CLL}
theorem other_ons_spec (h:Hs_other_ons cl):∀ (H:Nat) (t:Tr),t.ht≤H→t.sz≤1000→∀ (n:Nat) (S:zA1),Spc (cl (n+H+1) "other_ons" [t.d] S) (t.ons.d) S:=by
 intro H
 induction H with
 | zero =>
  intro t ht hs n S
  cases t with
  | lf k o=>exact ⟨S,by rw [h]; exact zA7 rfl (by simp [b_other_ons,zA6,Tr.d,Tr.ons]),Kp.refl _ _⟩
  | nd r ps=>simp [Tr.ht] at ht
 | succ H ih =>
  intro t ht hs n S
  cases t with
  | lf k o=>exact ⟨S,by rw [h]; exact zA7 rfl (by simp [b_other_ons,zA6,Tr.d,Tr.ons]),Kp.refl _ _⟩
  | nd r ps =>
   have ht':Tr.hts ps+1≤H+1:=ht
   have hs':Tr.szs ps+1≤1000:=hs
   obtain ⟨S2,e2,x2⟩:=comp_mapM Tr.d (w:=[]) (t:=.one) (c:=other_ons_e1 (cl (n+(H+1)))) (ρ0:=[none]) (fun S'=>Ex S S') (fun S' x=>zAv _) (fun t=>t.ons.d) ps (Kp.refl _ _)
    (fun t hm S' x=>by
     obtain ⟨S3,e3,x3⟩:=ih t (by have:=zBf hm; omega) (by have:=szs_mem hm; omega) n S'
     exact ⟨_,rfl,S3,by simp [other_ons_e1]; exact e3,x.trans x3⟩)
   have e4:ps.map (fun t=>t.ons.d)=(ps.map Tr.ons).map Tr.d:=by rw [List.map_map]; rfl
   rw [e4] at e2
   have t1:=zAE (zA4 S2 ((ps.map Tr.ons).map Tr.d))
   have hl:(ps.map Tr.d).length<lim:=by rw [List.length_map,zBd]; have:=szs_len ps; omega
   refine ⟨_,?_,x2.trans (zAc S2 [.lst ((ps.map Tr.ons).map Tr.d)])⟩
   rw [h]
   refine zA7 rfl ?_
   simp only [Tr.d,Tr.ons,onss_map,ds_map]
   generalize (ps.map Tr.ons).map Tr.d=B at *
   generalize ps.map Tr.d=A at *
   simp [b_other_ons,zA6,kw_at,hl,e2,t1]
theorem against_spec (h:Hs_against cl) (hi:Hs_inside_out cl) (ho:Hs_other_ons cl) (H:Nat) (t:Tr) (ht:t.ht≤H) (hs:t.sz≤1000) (n:Nat) (S:zA1):Spc (cl (n+H+2) "against" [t.d] S) (t.inv.ons.d) S:=by
 obtain ⟨S1,e1,x1⟩:=inside_out_spec hi H t ht hs n S
 have hh:=inv_ht t
 obtain ⟨S2,e2,x2⟩:=other_ons_spec ho H t.inv (by omega) (by omega) n S1
 refine ⟨S2,?_,x1.trans x2⟩
 rw [show n+H+2=(n+H+1)+1 from rfl,h]
 refine zA7 rfl ?_
 generalize t.d=T0 at *
 generalize t.inv.d=T1 at *
 simp [b_against,zA6,e1,e2]
noncomputable def Tr.un (r:Bool):Tr→List Tr
 | .nd r' qs=>if r'=r then qs else [.nd r' qs]
 | .lf k o=>[.lf k o]
mutual
noncomputable def Tr.flat:Tr→Tr
 | .lf k o=>.lf k o
 | .nd r ps=>.nd r (Tr.flats r ps)
noncomputable def Tr.flats (r:Bool):List Tr→List Tr
 | []=>[]
 | t::q=>Tr.un r t.flat++Tr.flats r q
end
noncomputable def isNd (r:Bool):Tr→Bool
 | .nd r' _=>r' == r
 | .lf _ _=>false
theorem flats_map (r:Bool):∀ ps,Tr.flats r ps=(ps.map Tr.flat).flatMap (Tr.un r)
 | []=>rfl
 | t::q=>by show Tr.un r t.flat++Tr.flats r q=_; rw [flats_map r q]; rfl
theorem flats_snoc (r:Bool) (ps:List Tr) (t:Tr):Tr.flats r (ps++[t])=Tr.flats r ps++Tr.un r t.flat:=by
 rw [flats_map,flats_map,List.map_append,List.flatMap_append]; simp
theorem szs_app:∀ a b:List Tr,Tr.szs (a++b)=Tr.szs a+Tr.szs b
 | [],b=>by show Tr.szs b=0+Tr.szs b; omega
 | t::r,b=>by show t.sz+Tr.szs (r++b)=t.sz+Tr.szs r+Tr.szs b; rw [szs_app r b]; omega
theorem un_sz (r:Bool):∀ t:Tr,Tr.szs (Tr.un r t)≤t.sz
 | .lf k o=>by show Tr.szs [.lf k o]≤1; simp [Tr.szs,Tr.sz]
 | .nd r' qs=>by
  show Tr.szs (if r'=r then qs else [.nd r' qs])≤Tr.szs qs+1
  split
  ·omega
  ·simp [Tr.szs,Tr.sz]
mutual
theorem flat_sz:∀ t:Tr,t.flat.sz≤t.sz
 | .lf k o=>Nat.le_refl _
 | .nd r ps=>by show Tr.szs (Tr.flats r ps)+1≤Tr.szs ps+1; have:=flats_sz r ps; omega
theorem flats_sz (r:Bool):∀ ps:List Tr,Tr.szs (Tr.flats r ps)≤Tr.szs ps
 | []=>Nat.le_refl _
 | t::q=>by
  show Tr.szs (Tr.un r t.flat++Tr.flats r q)≤t.sz+Tr.szs q
  rw [szs_app]
  have:=un_sz r t.flat
  have:=flat_sz t
  have:=flats_sz r q
  omega
end
mutual
theorem flat_no:∀ (t:Tr) (r:Bool) (qs:List Tr),t.flat=.nd r qs→∀ q∈qs,isNd r q=false
 | .lf k o,r,qs,e=>by cases e
 | .nd r' ps,r,qs,e=>by
  have e':Tr.nd r' (Tr.flats r' ps)=.nd r qs:=e
  injection e' with e1 e2
  subst e1 e2
  exact flats_no r' ps
theorem flats_no (r:Bool):∀ (ps:List Tr),∀ q∈Tr.flats r ps,isNd r q=false
 | [],q,h=>by cases h
 | t::ts,q,h=>by
  have h':q∈Tr.un r t.flat++Tr.flats r ts:=h
  rcases List.mem_append.mp h' with h1 | h1
  ·cases e:t.flat with
   | lf k o=>rw [e] at h1; simp [Tr.un] at h1; subst h1; rfl
   | nd r2 qs =>
    rw [e] at h1
    have h2:q∈(if r2=r then qs else [Tr.nd r2 qs]):=h1
    by_cases hr:r2=r
    ·rw [if_pos hr] at h2; subst hr; exact flat_no t r2 qs e q h2
    ·rw [if_neg hr] at h2; simp at h2; subst h2; show (r2 == r)=false; simpa using hr
  ·exact flats_no r ts q h1
end
open PySem L2
variable {cl:Nat→CLL}
theorem at_kw (r:Bool):(Str.ofString "at"=kw r)=False:=by cases r <;> simp only [eq_iff_iff,iff_false] <;> decide +kernel
theorem mExtend_tup {S:zA1}{k:Nat}{ys:List D} (h:zA5 S k=some ys) (zs:List D):mExtend (.lst k) [.tup zs] S=if ys.length+zs.length≤lim then .ok .non (S.set k (.lst (ys++zs))) else .bad:=by
 unfold mExtend
 simp only [zAU h]
theorem made_flat_spec (h:Hs_made_flat cl):∀ (H:Nat) (t:Tr),t.ht≤H→t.sz≤1000→∀ (n:Nat) (S:zA1),Spc (cl (n+H+1) "made_flat" [t.d] S) (t.flat.d) S:=by
 intro H
 induction H with
 | zero =>
  intro t ht hs n S
  cases t with
  | lf k o=>exact ⟨S,by rw [h]; exact zA7 rfl (by simp [b_made_flat,zA6,Tr.d,Tr.flat]),Kp.refl _ _⟩
  | nd r ps=>simp [Tr.ht] at ht
 | succ H ih =>
  intro t ht hs n S
  cases t with
  | lf k o=>exact ⟨S,by rw [h]; exact zA7 rfl (by simp [b_made_flat,zA6,Tr.d,Tr.flat]),Kp.refl _ _⟩
  | nd r ps =>
   have ht':Tr.hts ps+1≤H+1:=ht
   have hs':Tr.szs ps+1≤1000:=hs
   obtain ⟨T0,hT0⟩:∃ T0:D,T0=.tup [.str (kw r),.tup (ps.map Tr.d)]:=⟨_,rfl⟩
   obtain ⟨ρ',S1,e1,v2,v3,rfl,l1,x1⟩:=loop_inv (w:=[]) (g:=gN 2) (b:=made_flat_l1 (cl (n+(H+1)))) (items:=ps.map Tr.d)
    (fun i ρ S'=>∃ v2 v3,ρ=[some T0,some (.lst S.length),v2,v3]∧zA5 S' S.length=some ((Tr.flats r (ps.take i)).map Tr.d)∧Ex S S')
    (ρ:=[some T0,some (.lst S.length),none,none]) (S:=S++[.lst []])
    (fun i ρ S' hp=>zAv _) ⟨none,none,rfl,zA4 _ _,zAc _ _⟩
    (fun i d ρ S' hd hp=>by
     obtain ⟨v2,v3,rfl,lr,xr⟩:=hp
     rw [List.getElem?_map] at hd
     obtain ⟨p,hpi,rfl⟩:=Option.map_eq_some_iff.mp hd
     have hm:=List.mem_of_getElem? hpi
     have hz:=szs_mem hm
     obtain ⟨S2,e2,x2⟩:=ih p (by have:=zBf hm; omega) (by omega) n S'
     have e2':cl (n+(H+1)) "made_flat" [p.d] S'=.ok p.flat.d S2:=e2
     have lr2:=x2.lst lr fun z=>z
     have htk:ps.take (i+1)=ps.take i++[p]:=by rw [List.take_add_one,hpi]; rfl
     have q1:=tyOk_lst lr2
     have len1:(Tr.flats r (ps.take (i+1))).length≤1000:=by
      have a:=szs_len (Tr.flats r (ps.take (i+1)))
      have b:=flats_sz r (ps.take (i+1))
      have c:Tr.szs (ps.take (i+1))≤Tr.szs ps:=by
       have:=szs_app (ps.take (i+1)) (ps.drop (i+1))
       rw [List.take_append_drop] at this
       omega
      omega
     rw [htk,flats_snoc] at len1 ⊢
     rw [List.length_append] at len1
     have o0:∀ S,oIx T0 (.int 0) S=.ok (.str (kw r)) S:=fun S=>by rw [hT0]; simp
     refine ⟨[some T0,some (.lst S.length),some p.d,v3],S',rfl,[some T0,some (.lst S.length),some p.d,some p.flat.d],S2.set S.length (.lst ((Tr.flats r (ps.take i)++Tr.un r p.flat).map Tr.d)),.inl ?_,some p.d,some p.flat.d,rfl,lstAt_set lr2,(xr.trans x2).setNew (Nat.le_refl _)⟩
     rw [List.map_append]
     cases e:p.flat with
     | lf k o =>
      rw [e] at e2' len1
      have q2:=mList_ev lr2 gAppend [(Tr.lf k o).d]
      have q3:((Tr.flats r (ps.take i)).map Tr.d).length<lim:=by rw [List.length_map,zBd]; omega
      rw [gAppend_ev,if_pos q3] at q2
      dsimp only at q2
      have hu:(Tr.un r (.lf k o)).map Tr.d=[(Tr.lf k o).d]:=rfl
      rw [hu]
      have a0:∀ S,oIx (Tr.lf k o).d (.int 0) S=.ok (.str (Str.ofString "at")) S:=fun S=>by simp [Tr.d]
      generalize (Tr.flats r (ps.take i)).map Tr.d=B at *
      generalize (Tr.lf k o).d=F at *
      generalize p.d=P at *
      simp [made_flat_l1,e2',a0,o0,at_kw,q1,q2]
     | nd r' qs =>
      rw [e] at e2' len1
      have a0:∀ S,oIx (Tr.nd r' qs).d (.int 0) S=.ok (.str (kw r')) S:=fun S=>by simp [Tr.d]
      have a1:∀ S,oIx (Tr.nd r' qs).d (.int 1) S=.ok (.tup (qs.map Tr.d)) S:=fun S=>by simp [Tr.d,ds_map]
      by_cases hr:r'=r
      ·have hu:Tr.un r (.nd r' qs)=qs:=by show (if r'=r then qs else _)=_; rw [if_pos hr]
       rw [hu] at len1 ⊢
       have q2:=mExtend_tup lr2 (qs.map Tr.d)
       have q3:((Tr.flats r (ps.take i)).map Tr.d).length+(qs.map Tr.d).length≤lim:=by rw [List.length_map,List.length_map,zBd]; omega
       rw [if_pos q3] at q2
       generalize (Tr.flats r (ps.take i)).map Tr.d=B at *
       generalize (Tr.nd r' qs).d=F at *
       generalize qs.map Tr.d=Q at *
       generalize p.d=P at *
       simp [made_flat_l1,e2',a0,a1,o0,kw_inj,hr,q1,q2]
      ·have hu:Tr.un r (.nd r' qs)=[.nd r' qs]:=by show (if r'=r then qs else _)=_; rw [if_neg hr]
       rw [hu] at len1 ⊢
       have q2:=mList_ev lr2 gAppend [(Tr.nd r' qs).d]
       have q3:((Tr.flats r (ps.take i)).map Tr.d).length<lim:=by rw [List.length_map,zBd]; omega
       rw [gAppend_ev,if_pos q3] at q2
       dsimp only at q2
       have hv:[Tr.nd r' qs].map Tr.d=[(Tr.nd r' qs).d]:=rfl
       rw [hv]
       generalize (Tr.flats r (ps.take i)).map Tr.d=B at *
       generalize (Tr.nd r' qs).d=F at *
       generalize p.d=P at *
       simp [made_flat_l1,e2',a0,o0,kw_inj,hr,q1,q2])
   rw [List.length_map,List.take_length] at l1
   have t1:=zAE l1
   refine ⟨S1,?_,x1⟩
   rw [h]
   refine zA7 rfl ?_
   simp only [Tr.d,Tr.flat,ds_map]
   rw [← hT0]
   have o0:∀ S,oIx T0 (.int 0) S=.ok (.str (kw r)) S:=fun S=>by rw [hT0]; simp
   have o1:∀ S,oIx T0 (.int 1) S=.ok (.tup (ps.map Tr.d)) S:=fun S=>by rw [hT0]; simp
   generalize (Tr.flats r ps).map Tr.d=B at *
   generalize ps.map Tr.d=A at *
   simp [b_made_flat,zA6,o0,o1,kw_at,e1,t1]
open PySem L2
variable {cl:Nat→CLL}
theorem strOk_at:PyData.strOk (Str.ofString "at")=true:=by decide +kernel
theorem strOk_kw (r:Bool):PyData.strOk (kw r)=true:=by cases r <;> decide +kernel
theorem plain_tr:∀ (H:Nat) (t:Tr) (c:Nat),t.ht≤H→plain (2*H+2+c) t.d=true:=by
 intro H
 induction H with
 | zero =>
  intro t c ht
  cases t with
  | lf k o =>
   rw [show 2*0+2+c=(c+1)+1 by omega]
   refine plain_tup fun x hx=>?_
   simp only [List.mem_cons,List.not_mem_nil,or_false] at hx
   rcases hx with rfl | rfl | rfl
   ·exact strOk_at
   ·exact plain_int (by omega) _
   ·exact plain_int (by omega) _
  | nd r ps=>simp [Tr.ht] at ht
 | succ H ih =>
  intro t c ht
  cases t with
  | lf k o =>
   rw [show 2*(H+1)+2+c=(2*H+2+c+1)+1 by omega]
   refine plain_tup fun x hx=>?_
   simp only [List.mem_cons,List.not_mem_nil,or_false] at hx
   rcases hx with rfl | rfl | rfl
   ·exact strOk_at
   ·exact plain_int (by omega) _
   ·exact plain_int (by omega) _
  | nd r ps =>
   have ht':Tr.hts ps+1≤H+1:=ht
   rw [show 2*(H+1)+2+c=((2*H+2+c)+1)+1 by omega]
   show plain _ (.tup [.str (kw r),.tup (Tr.ds ps)])=true
   refine plain_tup fun x hx=>?_
   simp only [List.mem_cons,List.not_mem_nil,or_false] at hx
   rcases hx with rfl | rfl
   ·exact strOk_kw r
   ·refine plain_tup fun y hy=>?_
    rw [ds_map] at hy
    obtain ⟨t,hm,rfl⟩:=List.mem_map.mp hy
    exact ih t c (by have:=zBf hm; omega)
structure FlOk (r:Bool) (T L:List Tr):Prop where
 fm:L.flatMap (Tr.un r)=T
 no:∀ qs,Tr.nd r qs∈L→∀ q∈qs,isNd r q=false
 sz:Tr.szs L≤1000
 ht:Tr.hts L≤17
end My
namespace L2
open PySem
structure ShOk (B:Nat) (p:PyData) (z:Nat):Prop where
 can:p.canLay0=true
 dep:p.depth≤B
 sh:p.showable=true
 ish:p.intsShort 13=true
 w:p.weight≤41*z+40
end L2
namespace My
open PySem L2
variable {cl:Nat→CLL}
mutual
noncomputable def Tr.lv:Tr→Nat
 | .lf _ _=>1
 | .nd _ ps=>Tr.lvs ps
noncomputable def Tr.lvs:List Tr→Nat
 | []=>0
 | t::r=>t.lv+Tr.lvs r
end
mutual
noncomputable def Tr.wf (sw:Int):Tr→Prop
 | .lf k o=>0≤k∧k<sw∧0≤o∧o<2
 | .nd _ ps=>2≤ps.length∧Tr.wfs sw ps
noncomputable def Tr.wfs (sw:Int):List Tr→Prop
 | []=>True
 | t::r=>t.wf sw∧Tr.wfs sw r
end
theorem wfs_mem {sw:Int}:∀ {ps:List Tr},Tr.wfs sw ps→∀ t∈ps,t.wf sw
 | p::r,h,t,ht=>by
  rcases List.mem_cons.mp ht with rfl | ht
  ·exact h.1
  ·exact wfs_mem h.2 t ht
mutual
theorem lv_pos {sw:Int}:∀ t:Tr,t.wf sw→1≤t.lv
 | .lf _ _,_=>Nat.le_refl _
 | .nd r ps,h=>by have:=lvs_len ps h.2; have:=h.1; show 1≤Tr.lvs ps; omega
theorem lvs_len {sw:Int}:∀ ps:List Tr,Tr.wfs sw ps→ps.length≤Tr.lvs ps
 | [],_=>Nat.le_refl _
 | t::r,h=>by
  have:=lv_pos t h.1
  have:=lvs_len r h.2
  show r.length+1≤t.lv+Tr.lvs r
  omega
end
mutual
theorem sz_lv {sw:Int}:∀ t:Tr,t.wf sw→t.sz+1≤2*t.lv
 | .lf _ _,_=>Nat.le_refl _
 | .nd r ps,h=>by
  have:=szs_lv ps h.2
  have:=h.1
  show Tr.szs ps+1+1≤2*Tr.lvs ps
  omega
theorem szs_lv {sw:Int}:∀ ps:List Tr,Tr.wfs sw ps→Tr.szs ps+ps.length≤2*Tr.lvs ps
 | [],_=>Nat.le_refl _
 | t::r,h=>by
  have:=sz_lv t h.1
  have:=szs_lv r h.2
  show t.sz+Tr.szs r+(r.length+1)≤2*(t.lv+Tr.lvs r)
  omega
end
theorem row_side (T:zA1) (r:Int) (h0:0≤r) (h1:r<2):∃ b,oIx (.lst T.length) (.int r) (T++[.lst [.str (Str.ofString "row"),.str (Str.ofString "side")]])=.ok (.str (kw b)) (T++[.lst [.str (Str.ofString "row"),.str (Str.ofString "side")]]):=by
 have e:=oIx_lst (zA4 T [.str (Str.ofString "row"),.str (Str.ofString "side")]) r
 have:r=0∨r=1:=by omega
 rcases this with rfl | rfl
 ·exact ⟨true,by rw [e]; rfl⟩
 ·exact ⟨false,by rw [e]; rfl⟩
noncomputable def ltTail (cl:CLL):CS:=(sSeq (sRet (cTup (zA0 [(cBin oIx (cLst (zA0 [(cCon (.str (Str.ofString "row"))),(cCon (.str (Str.ofString "side")))])) (cApp (cl "_law_take") (zA0 [(cVar 0),(cCon (.int 2))]))),(cApp zAe (zA0 [(cVar 4)]))])))
  zA2)
theorem lt_eq (cl:CLL):b_law_tree cl=(sSeq (sIf (cOrT (zA9 (cBin oLt (cVar 2) (cCon (.int 2)))) (zA9 (cBin oEq (cApp (cl "_law_take") (zA0 [(cVar 0),(cCon (.int 5))])) (cCon (.int 0))))) (sSeq (sRet (cTup (zA0 [(cCon (.str (Str.ofString "at"))),(cApp (cl "_law_take") (zA0 [(cVar 0),(cVar 1)])),(cApp (cl "_law_take") (zA0 [(cVar 0),(cCon (.int 2))]))])))
  zA2) zA2)
  (sSeq (sAsg (cBin oAdd (cCon (.int 1)) (cApp (cl "_law_take") (zA0 [(cVar 0),(cBin (oInt fun i j=>i - j) (cVar 2) (cCon (.int 1)))]))) (gN 3))
  (sSeq (sAsg (cLst (zA0 [(cApp (cl "_law_tree") (zA0 [(cVar 0),(cVar 1),(cVar 3)])),(cApp (cl "_law_tree") (zA0 [(cVar 0),(cVar 1),(cBin (oInt fun i j=>i - j) (cVar 2) (cVar 3))]))])) (gN 4))
  (sSeq (sIf (cAndT (zA9 (cBin (oCmp fun i j=>decide (j<i)) (cVar 3) (cCon (.int 1)))) (zA9 (cBin oEq (cApp (cl "_law_take") (zA0 [(cVar 0),(cCon (.int 3))])) (cCon (.int 0))))) (sSeq (sAsg (cBin oAdd (cCon (.int 1)) (cApp (cl "_law_take") (zA0 [(cVar 0),(cBin (oInt fun i j=>i - j) (cVar 3) (cCon (.int 1)))]))) (gN 5))
  (sSeq (sAsg (cApp (cl "_law_tree") (zA0 [(cVar 0),(cVar 1),(cVar 5)])) (gS (cVar 4) (cCon (.int 0))))
  (sSeq (sExpr (cMeth "list" (mList gInsert) (cVar 4) (zA0 [(cCon (.int 1)),(cApp (cl "_law_tree") (zA0 [(cVar 0),(cVar 1),(cBin (oInt fun i j=>i - j) (cVar 3) (cVar 5))]))])))
  zA2))) zA2)
  (ltTail cl))))):=rfl
theorem law_tree_spec (h:Hs_law_tree cl) (ht:Hs_law_take cl) {sw:Int} (s1:1≤sw) (s4:sw≤4):∀ (H:Nat) (m:Int),1≤m→m≤H+1→H≤100→∀ (n:Nat) (S:zA1) (i:Nat),StOk S i→∃ (t:Tr) (S1:zA1),cl (n+H+2) "_law_tree" [.lst i,.int sw,.int m] S=.ok t.d S1∧t.wf sw∧(t.lv:Int)≤m∧t.ht≤H∧Kp (·=i) S S1∧StOk S1 i:=by
 have leaf:∀ (H:Nat) (n:Nat) (S:zA1) (i:Nat),StOk S i→∃ (k o:Int) (S1 S2:zA1),cl (n+H+1) "_law_take" [.lst i,.int sw] S=.ok (.int k) S1∧cl (n+H+1) "_law_take" [.lst i,.int 2] S1=.ok (.int o) S2∧(Tr.lf k o).wf sw∧Kp (·=i) S S2∧StOk S2 i:=fun H n S i st=>by
  obtain ⟨k,S1,e1,a1,a2,k1,_,st1⟩:=take_spec ht (n+H) st (m:=sw) (by omega) (by omega)
  obtain ⟨o,S2,e2,b1,b2,k2,_,st2⟩:=take_spec ht (n+H) st1 (m:=2) (by decide) (by decide)
  exact ⟨k,o,S1,S2,e1,e2,⟨a1,a2,b1,b2⟩,k1.trans k2,st2⟩
 intro H
 induction H with
 | zero =>
  intro m m1 m2 hH n S i st
  have:m=1:=by omega
  subst this
  obtain ⟨k,o,S1,S2,e1,e2,wf,k2,st2⟩:=leaf 0 n S i st
  refine ⟨.lf k o,S2,?_,wf,Int.le_refl _,Nat.le_refl _,k2,st2⟩
  rw [show n+0+2=(n+0+1)+1 from rfl,h]
  refine zA7 rfl ?_
  simp only [Nat.add_zero] at e1 e2
  simp [b_law_tree,zA6,e1,e2,Tr.d]
 | succ H ih =>
  intro m m1 m2 hH n S i st
  rw [show n+(H+1)+2=(n+(H+1)+1)+1 from rfl,h]
  by_cases hm:m<2
  ·obtain ⟨k,o,S1,S2,e1,e2,wf,k2,st2⟩:=leaf (H+1) n S i st
   refine ⟨.lf k o,S2,zA7 rfl ?_,wf,by show ((1:Nat):Int)≤m; omega,Nat.zero_le _,k2,st2⟩
   simp [b_law_tree,zA6,hm,e1,e2,Tr.d]
  obtain ⟨r5,S1,e1,_,_,k1,_,st1⟩:=take_spec ht (n+(H+1)) st (m:=5) (by decide) (by decide)
  by_cases h5:r5=0
  ·subst h5
   obtain ⟨k,o,S2,S3,e2,e3,wf,k2,st2⟩:=leaf (H+1) n S1 i st1
   refine ⟨.lf k o,S3,zA7 rfl ?_,wf,by show ((1:Nat):Int)≤m; omega,Nat.zero_le _,k1.trans k2,st2⟩
   simp [b_law_tree,zA6,hm,e1,e2,e3,Tr.d]
  obtain ⟨f,S2,e2,f0,f1,k2,_,st2⟩:=take_spec ht (n+(H+1)) st1 (m:=m - 1) (by omega) (by omega)
  generalize hfew:1+f=few at *
  obtain ⟨t1,S3,e3,wf1,lv1,ht1,k3,st3⟩:=ih few (by omega) (by omega) (by omega) n S2 i st2
  obtain ⟨t2,S4,e4,wf2,lv2,ht2,k4,st4⟩:=ih (m - few) (by omega) (by omega) (by omega) n S3 i st3
  rw [show n+H+2=n+(H+1)+1 from rfl] at e3 e4
  have k14:=((k1.trans k2).trans k3).trans k4
  have hi4:=st4.lt
  obtain ⟨p,hp⟩:∃ p,S4.length=p:=⟨_,rfl⟩
  have x5:=zAc S4 [.lst [t1.d,t2.d]]
  have l5:zA5 (S4++[.lst [t1.d,t2.d]]) p=some [t1.d,t2.d]:=by rw [← hp]; exact zA4 _ _
  have st5:=st4.ex x5
  have pi:p≠i:=by omega
  generalize hS5:S4++[O.lst [t1.d,t2.d]]=S5 at x5 l5 st5
  have fin:∀ (ts:List Tr) (S6:zA1) (v5:Option D),2≤ts.length→ts.length≤3→Tr.wfs sw ts→(Tr.lvs ts:Int)≤m→Tr.hts ts≤H→zA5 S6 p=some (ts.map Tr.d)→Kp (·=i) S S6→StOk S6 i →
    ∃ (t:Tr) (S7:zA1),ltTail (cl (n+(H+1)+1)) [some (.lst i),some (.int sw),some (.int m),some (.int few),some (.lst p),v5] S6=.rt t.d S7∧t.wf sw∧(t.lv:Int)≤m∧t.ht≤H+1∧Kp (·=i) S S7∧StOk S7 i:=by
   intro ts S6 v5 l2 l3 wf lv hts lp kk st6
   have x7:=zAc S6 [.lst [.str (Str.ofString "row"),.str (Str.ofString "side")]]
   obtain ⟨r,S8,e8,r0,r1,k8,n8,st8⟩:=take_spec ht (n+(H+1)) (st6.ex x7) (m:=2) (by decide) (by decide)
   obtain ⟨b,hb⟩:=row_side S6 r r0 r1
   have lq:zA5 S8 S6.length=some [.str (Str.ofString "row"),.str (Str.ofString "side")]:=k8.lst (zA4 _ _) (by have:=st6.lt; omega)
   have hb8:oIx (.lst S6.length) (.int r) S8=.ok (.str (kw b)) S8:=by
    have e:=oIx_lst lq r
    rw [oIx_lst (zA4 _ _)] at hb
    rw [e]
    revert hb
    cases atI [D.str (Str.ofString "row"),.str (Str.ofString "side")] r with
    | none=>intro hb; cases hb
    | some d=>intro hb; cases hb; rfl
   have lp8:zA5 S8 p=some (ts.map Tr.d):=k8.lst (x7.lst lp fun z=>z) pi
   have t1:=zAE lp8
   refine ⟨.nd b ts,S8,?_,⟨l2,wf⟩,lv,by show Tr.hts ts+1≤H+1; omega,(kk.trans x7.kp).trans k8,st8⟩
   show _=RS.rt (.tup [.str (kw b),.tup (Tr.ds ts)]) S8
   rw [ds_map]
   generalize ts.map Tr.d=R at *
   simp [ltTail,e8,hb8,t1]
  by_cases hf:few>1
  ·obtain ⟨r3,S6,e6,_,_,k6,_,st6⟩:=take_spec ht (n+(H+1)) st5 (m:=3) (by decide) (by decide)
   by_cases h3:r3=0
   ·subst h3
    obtain ⟨g,S7,e7,g0,g1,k7,_,st7⟩:=take_spec ht (n+(H+1)) st6 (m:=few - 1) (by omega) (by omega)
    generalize hless:1+g=less at *
    obtain ⟨t3,S8,e8,wf3,lv3,ht3,k8,st8⟩:=ih less (by omega) (by omega) (by omega) n S7 i st7
    rw [show n+H+2=n+(H+1)+1 from rfl] at e8
    have l8:zA5 S8 p=some [t1.d,t2.d]:=k8.lst (k7.lst (k6.lst l5 pi) pi) pi
    have s8:=oSet_lst l8 0 t3.d
    have l9:=lstAt_set (ys:=[t3.d,t2.d]) l8
    have k9:=kp_set (i:=p) S8 (.lst [t3.d,t2.d])
    have st9:StOk (S8.set p (.lst [t3.d,t2.d])) i:=st8.kp k9 (fun z=>pi z.symm)
    obtain ⟨t4,S10,e10,wf4,lv4,ht4,k10,st10⟩:=ih (few - less) (by omega) (by omega) (by omega) n _ i st9
    rw [show n+H+2=n+(H+1)+1 from rfl] at e10
    have l10:zA5 S10 p=some [t3.d,t2.d]:=k10.lst l9 pi
    have q9:=tyOk_lst l9
    have a10:=mList_ev l10 gInsert [.int 1,t4.d]
    have l11:=lstAt_set (ys:=[t3.d,t4.d,t2.d]) l10
    have k11:=kp_set (i:=p) S10 (.lst [t3.d,t4.d,t2.d])
    have st11:StOk (S10.set p (.lst [t3.d,t4.d,t2.d])) i:=st10.kp k11 (fun z=>pi z.symm)
    have kAll:Kp (·=i) S (S10.set p (.lst [t3.d,t4.d,t2.d])):=by
     have pS:S.length≤p:=by have:=k14.le; omega
     have kk:Kp (fun j=>j=i∨j=p) S (S10.set p (.lst [t3.d,t4.d,t2.d])) :=
      ((((((k14.trans x5.kp).trans k6).trans k7).trans k8).mono fun j _ z=>.inl z).trans ((k9.mono fun j _ z=>.inr z).trans ((k10.mono fun j _ z=>.inl z).trans (k11.mono fun j _ z=>.inr z))))
     exact ⟨kk.le,fun j hj nj=>kk.eq j hj fun z=>z.elim nj fun z=>by omega⟩
    obtain ⟨t,S12,e12,wf,lv,hh,kk,stt⟩:=fin [t3,t4,t2] (S10.set p (.lst [t3.d,t4.d,t2.d])) (some (.int less)) (by show 2≤3; decide) (by show 3≤3; decide) ⟨wf3,wf4,wf2,trivial⟩ (by show ((t3.lv+(t4.lv+(t2.lv+0)):Nat):Int)≤m; omega) (by show max t3.ht (max t4.ht (max t2.ht 0))≤H; omega) l11 kAll st11
    refine ⟨t,S12,zA7 rfl ?_,wf,lv,hh,kk,stt⟩
    have s8':oSet (.lst p) (.int 0) t3.d S8=some (S8.set p (.lst [t3.d,t2.d])):=s8
    have a10':mList gInsert (.lst p) [.int 1,t4.d] S10=.ok .non (S10.set p (.lst [t3.d,t4.d,t2.d])):=by rw [a10]; rfl
    generalize t1.d=d1 at *
    generalize t2.d=d2 at *
    generalize t3.d=d3 at *
    generalize t4.d=d4 at *
    generalize hSa:S8.set p (.lst [d3,d2])=Sa at *
    generalize hSb:S10.set p (.lst [d3,d4,d2])=Sb at *
    have hf':(1:Int)<few:=hf
    simp only [lt_eq,zA6]
    simp [hm,e1,h5,e2,hfew,e3,e4,hp,hS5,hf',e6,e7,hless,e8,s8',q9,e10,a10',e12]
   ·obtain ⟨t,S12,e12,wf,lv,hh,kk,stt⟩:=fin [t1,t2] S6 none (by show 2≤2; decide) (by show 2≤3; decide) ⟨wf1,wf2,trivial⟩ (by show ((t1.lv+(t2.lv+0):Nat):Int)≤m; omega) (by show max t1.ht (max t2.ht 0)≤H; omega) (k6.lst l5 pi) ((k14.trans x5.kp).trans k6) st6
    refine ⟨t,S12,zA7 rfl ?_,wf,lv,hh,kk,stt⟩
    generalize t1.d=d1 at *
    generalize t2.d=d2 at *
    have hf':(1:Int)<few:=hf
    simp only [lt_eq,zA6]
    simp [hm,e1,h5,e2,hfew,e3,e4,hp,hS5,hf',e6,h3,e12]
  ·obtain ⟨t,S12,e12,wf,lv,hh,kk,stt⟩:=fin [t1,t2] S5 none (by show 2≤2; decide) (by show 2≤3; decide) ⟨wf1,wf2,trivial⟩ (by show ((t1.lv+(t2.lv+0):Nat):Int)≤m; omega) (by show max t1.ht (max t2.ht 0)≤H; omega) l5 (k14.trans x5.kp) st5
   refine ⟨t,S12,zA7 rfl ?_,wf,lv,hh,kk,stt⟩
   generalize t1.d=d1 at *
   generalize t2.d=d2 at *
   have hf':¬ (1:Int)<few:=hf
   simp only [lt_eq,zA6]
   simp [hm,e1,h5,e2,hfew,e3,e4,hp,hS5,hf',e12]
open PySem L2
variable {cl:Nat→CLL}
theorem while_rt {t:CT}{b:CS} (P:Nat→Env1→zA1→Prop) (Q:Env1→zA1→Prop) (R:D→zA1→Prop) (hs:∀ m ρ S,P m ρ S→(∃ S1,t ρ S=.ok false S1∧Q ρ S1)∨∃ S1,t ρ S=.ok true S1∧((∃ d S2,b ρ S1=.rt d S2∧R d S2)∨∃ ρ2 S2,(b ρ S1=.nx ρ2 S2∨b ρ S1=.ct ρ2 S2)∧∃ m',m'<m∧P m' ρ2 S2)) :
  ∀ (k m:Nat) (ρ:Env1) (S:zA1),m<k→P m ρ S→(∃ ρ' S',whileS k t b ρ S=.nx ρ' S'∧Q ρ' S')∨∃ d S',whileS k t b ρ S=.rt d S'∧R d S'
 | 0,m,ρ,S,hk,h=>absurd hk (Nat.not_lt_zero _)
 | k+1,m,ρ,S,hk,h=>by
  unfold whileS
  rcases hs m ρ S h with ⟨S1,e,q⟩ | ⟨S1,e,⟨d,S2,e2,r⟩ | ⟨ρ2,S2,e2,m',hm,p2⟩⟩
  ·rw [e]; exact .inl ⟨ρ,S1,rfl,q⟩
  ·rw [e]; dsimp only; rw [e2]; exact .inr ⟨d,S2,rfl,r⟩
  ·rw [e]
   dsimp only
   rcases while_rt P Q R hs k m' ρ2 S2 (by omega) p2 with ⟨ρ',S',e3,q⟩ | ⟨d,S',e3,q⟩
   ·rcases e2 with e2 | e2
    ·rw [e2]; exact .inl ⟨ρ',S',e3,q⟩
    ·rw [e2]; exact .inl ⟨ρ',S',e3,q⟩
   ·rcases e2 with e2 | e2
    ·rw [e2]; exact .inr ⟨d,S',e3,q⟩
    ·rw [e2]; exact .inr ⟨d,S',e3,q⟩
def kd (S:zA1) (d:D):Prop:=∃ t,kindD S d=some t
noncomputable def isT:D→Bool | .tup _=>true | _=>false
noncomputable def isI:D→Bool | .int _=>true | .bl _=>true | _=>false
noncomputable def isB:D→Bool | .bl _=>true | _=>false
noncomputable def isS:D→Bool | .str _=>true | _=>false
theorem kd_int (S:zA1) (i:Int):kd S (.int i):=⟨_,rfl⟩
theorem kd_tup (S:zA1) (xs:List D):kd S (.tup xs):=⟨_,rfl⟩
theorem kd_lst {S:zA1}{k:Nat} (h:(zA5 S k).isSome):kd S (.lst k):=⟨"list",by show (if (zA5 S k).isSome then some "list" else none)=_; rw [if_pos h]⟩
theorem lst_kd {S:zA1}{k:Nat} (h:kd S (.lst k)):kindD S (.lst k)=some "list":=by
 obtain ⟨t,h⟩:=h
 have h':(if (zA5 S k).isSome then some "list" else none)=some t:=h
 show (if (zA5 S k).isSome then some "list" else none)=_
 split at h'
 ·rename_i hh; rw [if_pos hh]
 ·cases h'
theorem dct_kd {S:zA1}{k:Nat} (h:kd S (.dct k)):kindD S (.dct k)=some "dict":=by
 obtain ⟨t,h⟩:=h
 have h':dictK S k=some t:=h
 show dictK S k=_
 unfold dictK at h'
 split at h'
 ·rename_i kvs e
  unfold dictK
  rw [e]
 ·cases h'
theorem inst_of {S:zA1}{x:D}{t T:String} (h:kindD S x=some t) (hT:T∈["bool","int","tuple","list","str","dict"]):zAp [x,.ty T] S=.ok (.bl (kOf t T)) S:=by
 unfold zAp
 dsimp only
 rw [h]
 dsimp only
 rw [if_pos hT]
theorem inst_T {S:zA1}{x:D} (h:kd S x):zAp [x,.ty "tuple"] S=.ok (.bl (isT x)) S:=by
 cases x with
 | lst k=>rw [inst_of (lst_kd h) (by decide)]; rfl
 | dct k=>rw [inst_of (dct_kd h) (by decide)]; rfl
 | ty k=>obtain ⟨t,h⟩:=h; cases h
 | rol k=>obtain ⟨t,h⟩:=h; cases h
 | _=>rw [inst_of rfl (by decide)]; rfl
theorem inst_I {S:zA1}{x:D} (h:kd S x):zAp [x,.ty "int"] S=.ok (.bl (isI x)) S:=by
 cases x with
 | lst k=>rw [inst_of (lst_kd h) (by decide)]; rfl
 | dct k=>rw [inst_of (dct_kd h) (by decide)]; rfl
 | ty k=>obtain ⟨t,h⟩:=h; cases h
 | rol k=>obtain ⟨t,h⟩:=h; cases h
 | _=>rw [inst_of rfl (by decide)]; rfl
theorem inst_B {S:zA1}{x:D} (h:kd S x):zAp [x,.ty "bool"] S=.ok (.bl (isB x)) S:=by
 cases x with
 | lst k=>rw [inst_of (lst_kd h) (by decide)]; rfl
 | dct k=>rw [inst_of (dct_kd h) (by decide)]; rfl
 | ty k=>obtain ⟨t,h⟩:=h; cases h
 | rol k=>obtain ⟨t,h⟩:=h; cases h
 | _=>rw [inst_of rfl (by decide)]; rfl
noncomputable def whD (lo hi:Int):D→Bool
 | .int i=>decide (lo≤i)&&decide (i<hi)
 | _=>false
noncomputable def isW:D→Bool
 | .int _=>true
 | _=>false
theorem is_whole_any (h:zAk cl) (n:Nat) {S:zA1}{x:D} (hk:kd S x):cl (n+1) "is_whole" [x] S=.ok (.bl (isW x)) S:=by
 rw [h]
 refine zA7 rfl ?_
 have e1:=inst_I hk
 have e2:=inst_B hk
 have z:isW x=(if isI x=true then !isB x else false):=by cases x <;> rfl
 rw [z]
 cases hb:isI x <;> cases hc:isB x <;> rw [hb] at e1 <;> rw [hc] at e2 <;> simp [zB7,zA6,e1,e2]
theorem is_bit_any (h:Hs_is_bit cl) (hw:zAk cl) (n:Nat) {S:zA1}{x:D} (hk:kd S x):cl (n+2) "is_bit" [x] S=.ok (.bl (whD 0 2 x)) S:=by
 rw [show n+2=(n+1)+1 from rfl,h]
 refine zA7 rfl ?_
 have e1:=is_whole_any hw n hk
 cases x with
 | int i =>
  have e1':cl (n+1) "is_whole" [.int i] S=.ok (.bl true) S:=e1
  have:whD 0 2 (.int i)=(decide (0≤i)&&decide (i≤1)):=by
   show (decide (0≤i)&&decide (i<2))=_
   congr 1
   exact decide_eq_decide.mpr (by omega)
  rw [this]
  by_cases h0:0≤i <;> by_cases h1:i≤1 <;> simp [b_is_bit,zA6,e1',h0,h1]
 | _=>simp [b_is_bit,zA6,e1,isW,whD]
def Kd (S S1:zA1):Prop:=∀ d,kd S d→kd S1 d
theorem kd_ex {S S1:zA1} (h:Ex S S1):Kd S S1:=fun d hd=>by
 cases d with
 | lst k =>
  refine kd_lst ?_
  have hk:(zA5 S k).isSome:=by
   obtain ⟨t,e⟩:=hd
   have e':(if (zA5 S k).isSome then some "list" else none)=some t:=e
   split at e'
   ·assumption
   ·cases e'
  obtain ⟨xs,hx⟩:=Option.isSome_iff_exists.mp hk
  rw [h.lst hx fun z=>z]; rfl
 | dct k =>
  obtain ⟨t,e⟩:=hd
  have e:dictK S k=some t:=e
  unfold dictK at e
  split at e
  ·rename_i kvs ho
   exact ⟨"dict",by show dictK S1 k=_; unfold dictK; rw [h.at ho fun z=>z]⟩
  ·cases e
 | ty k=>obtain ⟨t,e⟩:=hd; cases e
 | rol k=>obtain ⟨t,e⟩:=hd; cases e
 | _=>exact ⟨_,rfl⟩
theorem dTru_lst {S:zA1}{k:Nat}{xs:List D} (h:zA5 S k=some xs):dTru (.lst k) S=.ok (!xs.isEmpty) S:=by
 unfold dTru; dsimp only
 rw [zAU h]
open PySem L2 Mt
variable {cl:Nat→CLL}
def okF (sw:Int) (l:List Int):Prop:=l.length=2 ^ sw.toNat∧∀ i∈l,0≤i∧i<2
structure HB (cl:Nat→CLL):Prop where
 se:Hs_settings cl
 wh:zAk cl
 bi:Hs_is_bit cl
 fn:Hs_is_function cl
open PySem L2 Mt
variable {cl:Nat→CLL}
def okR (sw:Int) (p:Nat) (r:List (List Int)):Prop:=r.length=p∧∀ l∈r,okF sw l
noncomputable abbrev Tb:=List (List (List Int))
def okT (sw:Int) (T:Tb):Prop:=2≤T.length∧T.length≤7∧∀ r∈T,okR sw T.length r
noncomputable def ent (T:Tb) (a b:Nat):List Int:=(T.getD a []).getD b []
def gdT (T:Tb):Prop:=(∀ a,a<T.length→0∉ent T a a)∧∀ a,a<T.length→∀ b,b<a→ent T a b=ent T b a
open PySem L2 Mt
variable {cl:Nat→CLL}
structure Grid (S:zA1) (k:Nat) (rs:List Nat) (T:Tb):Prop where
 out:zA5 S k=some (rs.map D.lst)
 len:rs.length=T.length
 nd:rs.Nodup
 nk:k∉rs
 row:∀ (a r:Nat),rs[a]?=some r→zA5 S r=some ((T.getD a []).map zAf)
open PySem L2 Mt
variable {cl:Nat→CLL}
def TOk (S0:zA1) (i k:Nat) (rs:List Nat) (sw:Int) (p:Nat) (S:zA1):Prop:=∃ T,Grid S k rs T∧okT sw T∧gdT T∧T.length=p∧Kp (·=i) S0 S∧StOk S i
open PySem L2 Mt
variable {cl:Nat→CLL}
noncomputable def orL (l m:List Int):List Int:=(l.zip m).map fun p=>if 0<p.1+p.2 then 1 else 0
open PySem L2
variable {cl:Nat→CLL}
noncomputable def sE (x:Str):D→Bool
 | .str y=>decide (y=x)
 | _=>false
def Sn (d:D):Prop:=∃ p,(∀ S,snap 40 S d=some p)∧(∀ x,p=.str x→d=.str x)∧(isS d=false→flat d=none→∃ xs,d=.tup xs)
theorem eqv_str_no {p:PyData}{x:Str} (h:∀ y,p≠.str y):PyData.eqv p (.str x)=false∧PyData.eqv (.str x) p=false:=by
 cases p with
 | str y=>exact absurd rfl (h y)
 | _=>exact ⟨rfl,rfl⟩
theorem ne_str {d:D}{x:Str} (h:Sn d) (hx:PyData.strOk x=true) (S:zA1):oEq d (.str x) S=.ok (.bl (sE x d)) S∧oNe d (.str x) S=.ok (.bl (!sE x d)) S:=by
 obtain ⟨p,h1,h2,_⟩:=h
 cases d with
 | str y=>exact ⟨rfl,rfl⟩
 | _ =>
  have hp:∀ y,p≠.str y:=fun y e=>by have:=h2 y e; cases this
  have hs:snap 40 S (.str x)=some (.str x):=by unfold snap; dsimp only; rw [if_pos hx]
  have:=(eqv_str_no (x:=x) hp).1
  unfold oEq oNe
  dsimp only
  rw [h1 S,hs]
  dsimp only
  rw [this]
  exact ⟨rfl,rfl⟩
theorem in_strs {d:D}{x y:Str} (h:Sn d) (hx:PyData.strOk x=true) (hy:PyData.strOk y=true) (S:zA1):oIn true d (.tup [.str x,.str y]) S=.ok (.bl (!(sE x d||sE y d))) S:=by
 obtain ⟨p,h1,h2,h3⟩:=h
 have hs:∀ z,PyData.strOk z=true→snap 40 S (.str z)=some (.str z):=fun z hz=>by unfold snap; dsimp only; rw [if_pos hz]
 have hm:[D.str x,D.str y].mapM flat=some [V.str x,V.str y]:=rfl
 have hm2:[D.str x,D.str y].mapM (snap 40 S)=some [.str x,.str y]:=by rw [List.mapM_cons,hs x hx,List.mapM_cons,hs y hy]; rfl
 have sq:seqAt S (.tup [.str x,.str y])=some [.str x,.str y]:=rfl
 cases d with
 | str z =>
  have e1:∀ a b:Str,(a == b)=decide (b=a):=fun a b=>by
   rw [Bool.eq_iff_iff,beq_iff_eq,decide_eq_true_eq]
   exact eq_comm
  show R.ok (D.bl (!((x == z)||((y == z)||false)))) S=_
  rw [e1,e1,Bool.or_false]; rfl
 | non=>rfl
 | bl b=>rfl
 | int i=>rfl
 | tup xs =>
  have hp:∀ y,p≠.str y:=fun y e=>by have:=h2 y e; cases this
  have e1:=(eqv_str_no (x:=x) hp).2
  have e2:=(eqv_str_no (x:=y) hp).2
  unfold oIn
  dsimp only
  rw [sq]
  show (match snap 40 S (.tup xs),[D.str x,D.str y].mapM (snap 40 S) with | some p,some ps=>R.ok (D.bl (if true then !(ps.any fun d=>PyData.eqv d p) else ps.any fun d=>PyData.eqv d p)) S | _,_=>.bad)=_
  rw [h1 S,hm2]
  show R.ok (D.bl (!(PyData.eqv (.str x) p||(PyData.eqv (.str y) p||false)))) S=_
  rw [e1,e2]; rfl
 | lst k=>obtain ⟨xs,e⟩:=h3 rfl rfl; cases e
 | dct k=>obtain ⟨xs,e⟩:=h3 rfl rfl; cases e
 | ty k=>obtain ⟨xs,e⟩:=h3 rfl rfl; cases e
 | rol k=>obtain ⟨xs,e⟩:=h3 rfl rfl; cases e
theorem sn_str {x:Str} (h:PyData.strOk x=true):Sn (.str x):=⟨.str x,fun S=>by unfold snap; dsimp only; rw [if_pos h],fun y e=>(by cases e; rfl),fun a b=>(by cases b)⟩
noncomputable def Gd (S:zA1):Nat→D→Prop
 | 0,d=>kd S d∧isT d=false
 | n+1,d=>kd S d∧∀ h r,d=.tup (h::r)→Sn h∧(∀ x∈r,kd S x)∧∀ ps,r=[.tup ps]→ps.length≤1000∧∀ x∈ps,Gd S n x
theorem Gd.k {S:zA1}{n:Nat}{d:D} (h:Gd S n d):kd S d:=by cases n <;> exact h.1
theorem Gd.up {S:zA1}:∀ {n:Nat}{d:D},Gd S n d→Gd S (n+1) d
 | 0,d,h=>⟨h.1,fun a r e=>by subst e; cases h.2⟩
 | n+1,d,h=>⟨h.1,fun a r e=>⟨(h.2 a r e).1,(h.2 a r e).2.1,fun ps hp=>⟨((h.2 a r e).2.2 ps hp).1,fun x hx=>(((h.2 a r e).2.2 ps hp).2 x hx).up⟩⟩⟩
theorem Gd.kd {S S1:zA1} (h:Kd S S1):∀ {n:Nat}{d:D},Gd S n d→Gd S1 n d
 | 0,d,g=>⟨h d g.1,g.2⟩
 | n+1,d,g=>⟨h d g.1,fun a r e=>⟨(g.2 a r e).1,fun x hx=>h x ((g.2 a r e).2.1 x hx),fun ps hp=>⟨((g.2 a r e).2.2 ps hp).1,fun x hx=>Gd.kd h (((g.2 a r e).2.2 ps hp).2 x hx)⟩⟩⟩
noncomputable abbrev sAt:Str:=Str.ofString "at"
noncomputable abbrev sRow:Str:=Str.ofString "row"
noncomputable abbrev sSide:Str:=Str.ofString "side"
theorem ok_at:PyData.strOk sAt=true:=by decide +kernel
theorem ok_row:PyData.strOk sRow=true:=by decide +kernel
theorem ok_side:PyData.strOk sSide=true:=by decide +kernel
noncomputable def loneD (sw:Int):D→Bool
 | .tup [h,a,b]=>sE sAt h&&(whD 0 sw a&&whD 0 2 b)
 | _=>false
noncomputable def partD:D→Option (List D)
 | .tup [h,.tup ps]=>if (sE sRow h||sE sSide h)=true∧2≤ps.length then some ps else none
 | _=>none
noncomputable def tot (l:List Nat):Nat:=if 0∈l then 0 else l.sum
noncomputable def cnt (sw:Int):Nat→D→Nat
 | 0,_=>0
 | n+1,d=>if loneD sw d then 1 else match partD d with
  | some ps=>tot (ps.map (cnt sw n))
  | none=>0
theorem len3 {α:Type} (xs:List α):(∃ a b c,xs=[a,b,c])∨xs.length≠3:=by
 match xs with
 | []=>exact .inr (by simp)
 | [_]=>exact .inr (by simp)
 | [_,_]=>exact .inr (by simp)
 | [a,b,c]=>exact .inl ⟨a,b,c,rfl⟩
 | _::_::_::_::_=>exact .inr (by simp)
theorem len2 {α:Type} (xs:List α):(∃ a b,xs=[a,b])∨xs.length≠2:=by
 match xs with
 | []=>exact .inr (by simp)
 | [_]=>exact .inr (by simp)
 | [a,b]=>exact .inl ⟨a,b,rfl⟩
 | _::_::_::_=>exact .inr (by simp)
theorem loneD_no {sw:Int}{xs:List D} (h:xs.length≠3):loneD sw (.tup xs)=false:=by
 match xs,h with
 | [],_=>rfl
 | [_],_=>rfl
 | [_,_],_=>rfl
 | _::_::_::_::_,_=>rfl
theorem partD_no {xs:List D} (h:xs.length≠2):partD (.tup xs)=none:=by
 unfold partD
 split
 ·rename_i e
  cases e
  simp at h
 ·rfl
theorem partD_eq (h:D) (ps:List D):partD (.tup [h,.tup ps])=if (sE sRow h||sE sSide h)=true∧2≤ps.length then some ps else none:=rfl
theorem is_lone_spec (h:Hs_is_lone cl) (hw:zAk cl) (hb:Hs_is_bit cl) (n:Nat) (sw:Int) {S:zA1}{m:Nat}{d:D} (g:Gd S (m+1) d):cl (n+3) "is_lone" [.int sw,d] S=.ok (.bl (loneD sw d)) S:=by
 rw [show n+3=(n+2)+1 from rfl,h]
 refine zA7 rfl ?_
 have e1:=inst_T g.k
 cases d with
 | tup xs =>
  rcases len3 xs with ⟨a,b,c,rfl⟩ | hl
  ·obtain ⟨sn,kds,_⟩:=g.2 a [b,c] rfl
   have ne:=(ne_str sn ok_at S).2
   have kb:kd S b:=kds b (by simp)
   have kc:kd S c:=kds c (by simp)
   have w1:=is_whole_any hw (n+1) kb
   have w2:=is_bit_any hb hw n kc
   show _=RS.rt (.bl (sE sAt a&&(whD 0 sw b&&whD 0 2 c))) S
   cases q:sE sAt a with
   | false=>rw [q] at ne; simp [b_is_lone,zA6,e1,isT,ne]
   | true =>
    rw [q] at ne
    cases b with
    | int i =>
     have w1':cl (n+2) "is_whole" [.int i] S=.ok (.bl true) S:=w1
     have z:whD 0 sw (.int i)=(decide (0≤i)&&decide (i<sw)):=rfl
     rw [z]
     by_cases h0:0≤i <;> by_cases h1:i<sw <;> simp [b_is_lone,zA6,e1,isT,ne,w1',h0,h1,w2]
    | _=>simp [b_is_lone,zA6,e1,isT,ne,w1,isW,whD]
  ·rw [loneD_no hl]
   have:¬ ((xs.length:Int)=3):=by omega
   simp [b_is_lone,zA6,e1,isT,this]
 | _=>simp [b_is_lone,zA6,e1,isT,loneD]
theorem has_parts_spec (h:Hs_has_parts cl) (n:Nat) {S:zA1}{m:Nat}{d:D} (g:Gd S (m+1) d):cl (n+1) "has_parts" [d] S=.ok (.bl (partD d).isSome) S:=by
 rw [h]
 refine zA7 rfl ?_
 have e1:=inst_T g.k
 cases d with
 | tup xs =>
  rcases len2 xs with ⟨a,b,rfl⟩ | hl
  ·obtain ⟨sn,kds,_⟩:=g.2 a [b] rfl
   have ne:=in_strs sn ok_row ok_side S
   have kb:kd S b:=kds b (by simp)
   have w1:=inst_T kb
   cases q:(sE sRow a||sE sSide a) with
   | false =>
    rw [q] at ne
    have:partD (.tup [a,b])=none:=by cases b <;> first | rfl | (rw [partD_eq,if_neg (by rw [q]; simp)])
    rw [this]
    simp [zAS,zA6,e1,isT,ne]
   | true =>
    rw [q] at ne
    cases b with
    | tup ps =>
     have z:(partD (.tup [a,.tup ps])).isSome=decide (2≤ps.length):=by
      rw [partD_eq,q]
      by_cases h2:2≤ps.length <;> simp [h2]
     rw [z]
     generalize hq:(ps.length:Int)=q at *
     have z2:decide (2≤ps.length)=decide (2≤q):=decide_eq_decide.mpr (by omega)
     rw [z2]
     simp [zAS,zA6,e1,isT,ne,hq]
    | _=>simp [zAS,zA6,e1,isT,ne,w1,partD]
  ·rw [partD_no hl]
   have:¬ ((xs.length:Int)=2):=by omega
   simp [zAS,zA6,e1,isT,this]
 | _=>simp [zAS,zA6,e1,isT,partD]
open PySem L2
variable {cl:Nat→CLL}
theorem cnt_mono {S:zA1} (sw:Int):∀ {n:Nat}{d:D},Gd S n d→∀ m,n≤m→cnt sw (m+1) d=cnt sw (n+1) d
 | 0,d,g,m,hm=>by
  have hp:partD d=none:=by
   have:=g.2
   cases d <;> first | rfl | cases this
  show (if loneD sw d then 1 else match partD d with | some ps=>_ | none=>0)=(if loneD sw d then 1 else match partD d with | some ps=>_ | none=>0)
  rw [hp]
 | n+1,d,g,m,hm=>by
  obtain ⟨k,rfl⟩:∃ k,m=k+1:=⟨m - 1,by omega⟩
  show (if loneD sw d then 1 else match partD d with | some ps=>tot (ps.map (cnt sw (k+1))) | none=>0)=(if loneD sw d then 1 else match partD d with | some ps=>tot (ps.map (cnt sw (n+1))) | none=>0)
  cases q:partD d with
  | none=>rfl
  | some ps =>
   have:∀ x∈ps,Gd S n x:=fun x hx=>by
    unfold partD at q
    split at q
    ·rename_i h qs
     split at q
     ·cases q; exact ((g.2 h [.tup ps] rfl).2.2 ps rfl).2 x hx
     ·cases q
    ·cases q
   dsimp only
   rw [List.map_congr_left fun x hx=>cnt_mono sw (this x hx) k (by omega)]
theorem Gd.parts {S:zA1}{n:Nat}{d:D}{ps:List D} (g:Gd S (n+1) d) (q:partD d=some ps):(∀ x∈ps,Gd S n x)∧ps.length≤1000∧2≤ps.length∧∃ h,d=.tup [h,.tup ps]:=by
 unfold partD at q
 split at q
 ·rename_i h qs
  split at q
  ·rename_i hc
   cases q; exact ⟨fun x hx=>((g.2 h [.tup ps] rfl).2.2 ps rfl).2 x hx,((g.2 h [.tup ps] rfl).2.2 ps rfl).1,hc.2,h,rfl⟩
  ·cases q
 ·cases q
theorem partD_lone {sw:Int}{d:D}{ps:List D} (q:partD d=some ps):loneD sw d=false:=by
 unfold partD at q
 split at q
 ·rfl
 ·cases q
theorem cnt_parts {S:zA1}{N:Nat}{sw:Int}{d:D}{ps:List D} (g:Gd S N d) (q:partD d=some ps):cnt sw (N+1) d=tot (ps.map (cnt sw (N+1))):=by
 cases N with
 | zero =>
  obtain ⟨_,_,_,h,rfl⟩:=g.up.parts q
  cases g.2
 | succ N =>
  show (if loneD sw d then 1 else match partD d with | some ps=>tot (ps.map (cnt sw (N+1))) | none=>0)=_
  rw [partD_lone q,q]
  dsimp only
  rw [if_neg Bool.false_ne_true,List.map_congr_left fun x hx=>(cnt_mono sw ((g.parts q).1 x hx) (N+1) (by omega)).symm]
theorem cnt_lone {N:Nat}{sw:Int}{d:D} (q:loneD sw d=true):cnt sw (N+1) d=1:=by
 show (if loneD sw d then 1 else _)=1
 rw [if_pos q]
theorem cnt_none {N:Nat}{sw:Int}{d:D} (q:loneD sw d=false) (p:partD d=none):cnt sw (N+1) d=0:=by
 show (if loneD sw d then 1 else match partD d with | some ps=>_ | none=>0)=0
 rw [q,p]; rfl
def fits (f:D→Nat) (c:Nat) (W:List D):Prop:=(∀ d∈W,f d≠0)∧c+(W.map f).sum≤16
theorem sum_ge {f:D→Nat}:∀ {W:List D},(∀ d∈W,f d≠0)→W.length≤(W.map f).sum
 | [],_=>Nat.le_refl _
 | d::W,h=>by
  have:=sum_ge (W:=W) fun x hx=>h x (by simp [hx])
  have:=h d (by simp)
  rw [List.map_cons,List.sum_cons,List.length_cons]; omega
theorem fits_many {f:D→Nat}{c:Nat}{W:List D} (h:16<c+W.length):¬ fits f c W:=fun z=>by have:=sum_ge z.1; have:=z.2; omega
theorem fits_lone {f:D→Nat}{c:Nat}{W:List D}{d:D} (h:f d=1):fits f c (W++[d])↔fits f (c+1) W:=by
 unfold fits
 rw [List.map_append,List.sum_append]
 constructor
 ·rintro ⟨a,b⟩
  refine ⟨fun x hx=>a x (by simp [hx]),?_⟩
  simp [h] at b; omega
 ·rintro ⟨a,b⟩
  refine ⟨fun x hx=>?_,by simp [h]; omega⟩
  rcases List.mem_append.mp hx with hx | hx
  ·exact a x hx
  ·rw [List.mem_singleton.mp hx,h]; decide
theorem fits_parts {f:D→Nat}{c:Nat}{W ps:List D}{d:D} (h:f d=tot (ps.map f)) (h2:2≤ps.length):fits f c (W++[d])↔fits f c (W++ps):=by
 unfold fits
 rw [List.map_append,List.sum_append,List.map_append,List.sum_append]
 have hs:(List.map f [d]).sum=f d:=by simp
 rw [hs,h]
 unfold tot
 constructor
 ·rintro ⟨a,b⟩
  have hd:=a d (by simp)
  rw [h] at hd
  unfold tot at hd
  split at hd
  ·exact absurd rfl hd
  ·rename_i h0
   rw [if_neg h0] at b
   refine ⟨fun x hx=>?_,b⟩
   rcases List.mem_append.mp hx with hx | hx
   ·exact a x (by simp [hx])
   ·exact fun z=>h0 (z▸List.mem_map_of_mem hx)
 ·rintro ⟨a,b⟩
  have h0:0∉ps.map f:=fun z=>by
   obtain ⟨x,hx,e⟩:=List.mem_map.mp z
   exact a x (by simp [hx]) e
  rw [if_neg h0]
  refine ⟨fun x hx=>?_,b⟩
  rcases List.mem_append.mp hx with hx | hx
  ·exact a x (by simp [hx])
  ·rw [List.mem_singleton.mp hx,h]
   unfold tot
   rw [if_neg h0]
   have:=sum_ge (f:=f) (W:=ps) fun y hy=>a y (by simp [hy])
   omega
theorem fits_none {f:D→Nat}{c:Nat}{W:List D}{d:D} (h:f d=0):¬ fits f c (W++[d]):=fun z=>z.1 d (by simp) h
theorem fits_one {f:D→Nat}{d:D}:fits f 0 [d]↔f d≠0∧f d≤16:=by
 unfold fits
 simp
noncomputable def twM (c w:Nat):Nat:=if 16<c+w then 0 else (17 - (c+w))*20+w
theorem is_tree_spec (h:Hs_is_tree cl) (hl:Hs_is_lone cl) (hp:Hs_has_parts cl) (hw:zAk cl) (hb:Hs_is_bit cl) (n:Nat) (sw:Int) {S:zA1}{N:Nat}{d:D} (g:Gd S N d) :
  ∃ b S1,cl (n+4) "is_tree" [.int sw,d] S=.ok (.bl b) S1∧Ex S S1∧(b=true↔cnt sw (N+1) d≠0∧cnt sw (N+1) d≤16):=by
 rw [show n+4=(n+3)+1 from rfl,h]
 obtain ⟨k,hk⟩:∃ k,S.length=k:=⟨_,rfl⟩
 let f:=cnt sw (N+1)
 let P:Nat→Env1→zA1→Prop:=fun m ρ S'=>∃ (W:List D) (c:Nat) (v4:Option D),ρ=[some (.int sw),some d,some (.lst k),some (.int (c:Nat)),v4]∧Ex S S'∧zA5 S' k=some W∧(∀ x∈W,Gd S N x)∧(fits f 0 [d]↔fits f c W)∧(W=[]→c≤16)∧W.length≤2000∧m=twM c W.length
 have step:=while_rt (t:=cTru (cVar 2)) (b:=is_tree_l1 (cl (n+3))) P (fun ρ S'=>∃ v1 v2 v3 v4 v0,ρ=[v0,v1,v2,v3,v4]∧Ex S S'∧fits f 0 [d]) (fun r S'=>r=.bl false∧Ex S S'∧¬ fits f 0 [d])
  (fun m ρ S' hP=>by
   obtain ⟨W,c,v4,rfl,x1,lk,gw,ff,w0,wl,rfl⟩:=hP
   have klt:=lstAt_lt lk
   have tr:dTru (.lst k) S'=.ok (!W.isEmpty) S':=dTru_lst lk
   rcases List.eq_nil_or_concat W with rfl | ⟨W',y,rfl⟩
   ·refine .inl ⟨S',by simp [tr],_,_,_,_,_,rfl,x1,ff.mpr ⟨fun _ hd=>(by cases hd),?_⟩⟩
    have:=w0 rfl
    simpa using this
   ·refine .inr ⟨S',by simp [tr],?_⟩
    rw [List.concat_eq_append] at *
    have e1:=fLen_lst lk
    generalize hq:((W'++[y]).length:Int)=q at *
    have hq':q=(W'.length:Int)+1:=by rw [← hq]; simp
    by_cases h16:16<(c:Int)+q
    ·refine .inl ⟨_,S',by simp [is_tree_l1,e1,h16],rfl,x1,fun z=>fits_many ?_ (ff.mp z)⟩
     simp; omega
    ·have gy:Gd S N y:=gw y (by simp)
     have tl:=tyOk_lst lk
     have po:mList gPop (.lst k) [] S'=.ok y (S'.set k (.lst W')):=by
      rw [mList_ev lk]
      have:gPop (W'++[y]) []=some (W',y):=by
       unfold gPop
       dsimp only
       have e:(W'++[y])[(W'++[y]).length - 1]?=some y:=by simp
       rw [e]
       simp
      rw [this]
     have lk2:zA5 (S'.set k (.lst W')) k=some W':=lstAt_set lk
     have x2:Ex S (S'.set k (.lst W')):=x1.setNew (by omega)
     generalize hS2:S'.set k (.lst W')=S2 at *
     have gy2:Gd S2 (N+1) y:=Gd.kd (kd_ex x2) gy.up
     have l1:=is_lone_spec hl hw hb n sw gy2
     have l2:=has_parts_spec hp (n+2) gy2
     cases q1:loneD sw y with
     | true =>
      rw [q1] at l1
      refine .inr ⟨[some (.int sw),some d,some (.lst k),some (.int ((c+1:Nat):Nat)),some y],S2,.inl ?_,twM (c+1) W'.length,?_,W',c+1,_,rfl,x2,lk2,fun x hx=>gw x (by simp [hx]),ff.trans (fits_lone (cnt_lone q1)),fun _=>?_,?_,rfl⟩
      ·simp [is_tree_l1,e1,h16,tl,po,l1]
      ·unfold twM
       simp only [List.length_append,List.length_cons,List.length_nil]
       rw [if_neg (by omega),if_neg (by omega)]
       omega
      ·omega
      ·simp at wl; omega
     | false =>
      rw [q1] at l1
      cases q2:partD y with
      | none =>
       rw [q2] at l2
       refine .inl ⟨_,S2,?_,rfl,x2,fun z=>fits_none (cnt_none q1 q2) (ff.mp z)⟩
       simp [is_tree_l1,e1,h16,tl,po,l1,l2]
      | some ps =>
       rw [q2] at l2
       obtain ⟨gp,pl,p2,hh,rfl⟩:=gy.up.parts q2
       have ext:mExtend (.lst k) [.tup ps] S2=.ok .non (S2.set k (.lst (W'++ps))):=by
        unfold mExtend
        dsimp only
        rw [zAU lk2]
        dsimp only
        rw [if_pos (by rw [zBd]; simp at wl; omega)]
       refine .inr ⟨[some (.int sw),some d,some (.lst k),some (.int (c:Nat)),some (.tup [hh,.tup ps])],S2.set k (.lst (W'++ps)),.inl ?_,twM c (W'++ps).length,?_,W'++ps,c,_,rfl,x2.setNew (by omega),lstAt_set lk2,?_,ff.trans (fits_parts (cnt_parts gy q2) p2),?_,?_,rfl⟩
       ·have tl2:=tyOk_lst lk2
        simp [is_tree_l1,e1,h16,tl,po,l1,l2,tl2,ext]
       ·unfold twM
        simp only [List.length_append,List.length_cons,List.length_nil]
        split
        ·rw [if_neg (by omega)]; omega
        ·rw [if_neg (by omega)]; omega
       ·intro x hx
        rcases List.mem_append.mp hx with hx | hx
        ·exact gw x (by simp [hx])
        ·exact gp x hx
       ·intro z
        have:=congrArg List.length z
        simp at this
        omega
       ·simp; omega)
  wfuel (twM 0 1) [some (.int sw),some d,some (.lst k),some (.int ((0:Nat):Nat)),none] (S++[.lst [d]]) (by decide)
  ⟨[d],0,none,rfl,zAc _ _,by rw [← hk]; exact zA4 _ _,fun x hx=>by rw [List.mem_singleton.mp hx]; exact g,Iff.rfl,fun z=>(by cases z),(by show 1≤2000; decide),rfl⟩
 rcases step with ⟨ρ',S',e,v1,v2,v3,v4,v0,rfl,x,ft⟩ | ⟨r,S',e,rfl,x,ft⟩
 ·refine ⟨true,S',zA7 rfl ?_,x,⟨fun _=>fits_one.mp ft,fun _=>rfl⟩⟩
  simp [b_is_tree,zA6,hk]
  rw [show (0:Int)=((0:Nat):Int) from rfl,e]
  simp
 ·refine ⟨false,S',zA7 rfl ?_,x,⟨fun z=>(by cases z),fun z=>absurd (fits_one.mpr z) ft⟩⟩
  simp [b_is_tree,zA6,hk]
  rw [show (0:Int)=((0:Nat):Int) from rfl,e]
  simp
open PySem L2
variable {cl:Nat→CLL}
mutual
theorem lv_sz:∀ t:Tr,t.lv≤t.sz
 | .lf _ _=>Nat.le_refl _
 | .nd r ps=>Nat.le_succ_of_le (lvs_szs ps)
theorem lvs_szs:∀ ps:List Tr,Tr.lvs ps≤Tr.szs ps
 | []=>Nat.le_refl _
 | t::r=>Nat.add_le_add (lv_sz t) (lvs_szs r)
end
theorem lvs_sum:∀ ps:List Tr,(ps.map fun t=>((t.lv:Nat):Int)).sum=(Tr.lvs ps:Nat)
 | []=>rfl
 | t::r=>by
  rw [List.map_cons,List.sum_cons,lvs_sum r]
  show _=((t.lv+Tr.lvs r:Nat):Int)
  omega
theorem zB5 (h:Hs_contacts_of cl):∀ (H:Nat) (t:Tr),t.ht≤H→t.sz≤1000→∀ (n:Nat) (S:zA1),Spc (cl (n+H+1) "contacts_of" [t.d] S) ((.int (t.lv:Nat))) S:=by
 intro H
 induction H with
 | zero =>
  intro t ht hs n S
  cases t with
  | lf k o=>exact ⟨S,by rw [h]; exact zA7 rfl (by simp [zAV,zA6,Tr.d,Tr.lv]),Kp.refl _ _⟩
  | nd r ps=>simp [Tr.ht] at ht
 | succ H ih =>
  intro t ht hs n S
  cases t with
  | lf k o=>exact ⟨S,by rw [h]; exact zA7 rfl (by simp [zAV,zA6,Tr.d,Tr.lv]),Kp.refl _ _⟩
  | nd r ps =>
   have ht':Tr.hts ps+1≤H+1:=ht
   have hs':Tr.szs ps+1≤1000:=hs
   obtain ⟨S2,e2,x2⟩:=comp_mapM Tr.d (w:=[]) (t:=.one) (c:=contacts_of_e1 (cl (n+(H+1)))) (ρ0:=[none]) (fun S'=>Ex S S') (fun S' x=>zAv _) (fun t=>D.int (t.lv:Nat)) ps (Kp.refl _ _)
    (fun t hm S' x=>by
     obtain ⟨S3,e3,x3⟩:=ih t (by have:=zBf hm; omega) (by have:=szs_mem hm; omega) n S'
     exact ⟨_,rfl,S3,by simp [contacts_of_e1]; exact e3,x.trans x3⟩)
   have e4:ps.map (fun t=>D.int (t.lv:Nat))=(ps.map fun t=>((t.lv:Nat):Int)).map D.int:=by rw [List.map_map]; rfl
   rw [e4] at e2
   have hb:∀ i∈(ps.map fun t=>((t.lv:Nat):Int)),0≤i∧i≤1000000:=fun i hi=>by
    obtain ⟨t,hm,rfl⟩:=List.mem_map.mp hi
    have:=szs_mem hm
    have:=lv_sz t
    omega
   have t1:=fSum_lst (zA4 S2 ((ps.map fun t=>((t.lv:Nat):Int)).map D.int)) hb (by rw [List.length_map]; have:=szs_len ps; omega)
   rw [lvs_sum] at t1
   have hl:(ps.map Tr.d).length<lim:=by rw [List.length_map,zBd]; have:=szs_len ps; omega
   refine ⟨_,?_,x2.trans (zAc S2 [.lst ((ps.map fun t=>((t.lv:Nat):Int)).map D.int)])⟩
   rw [h]
   refine zA7 rfl ?_
   show _=RS.rt (.int (Tr.lvs ps:Nat)) _
   simp only [Tr.d,ds_map]
   generalize (ps.map fun t=>((t.lv:Nat):Int)).map D.int=B at *
   generalize ps.map Tr.d=A at *
   simp [zAV,zA6,kw_at,hl,e2,t1]
theorem gd_tr (S:zA1):∀ (H:Nat) (t:Tr),t.ht≤H→t.sz≤1000→Gd S (H+1) t.d:=by
 have leaf:∀ (n:Nat) (k o:Int),Gd S (n+1) (Tr.lf k o).d:=fun n k o=>⟨kd_tup _ _,fun h r e=>by
  have e':D.tup [.str (Str.ofString "at"),.int k,.int o]=.tup (h::r):=e
  cases e'
  exact ⟨sn_str ok_at,fun x hx=>by simp at hx; rcases hx with rfl | rfl <;> exact kd_int _ _,fun ps e=>by simp at e⟩⟩
 intro H
 induction H with
 | zero =>
  intro t ht hs
  cases t with
  | lf k o=>exact leaf 0 k o
  | nd r ps=>simp [Tr.ht] at ht
 | succ H ih =>
  intro t ht hs
  cases t with
  | lf k o=>exact leaf (H+1) k o
  | nd r ps =>
   have ht':Tr.hts ps+1≤H+1:=ht
   have hs':Tr.szs ps+1≤1000:=hs
   refine ⟨kd_tup _ _,fun h q e=>?_⟩
   have e':D.tup [.str (kw r),.tup (Tr.ds ps)]=.tup (h::q):=e
   cases e'
   refine ⟨sn_str (strOk_kw r),fun x hx=>by rw [List.mem_singleton.mp hx]; exact kd_tup _ _,fun qs e=>?_⟩
   cases e
   rw [ds_map]
   refine ⟨by rw [List.length_map]; have:=szs_len ps; omega,fun x hx=>?_⟩
   obtain ⟨t,hm,rfl⟩:=List.mem_map.mp hx
   exact ih t (by have:=zBf hm; omega) (by have:=szs_mem hm; omega)
open PySem L2 Mt
variable {cl:Nat→CLL}
structure HTb (cl:Nat→CLL):Prop where
 b:HB cl
 it:Hs_is_table cl
 ir:Hs_is_row cl
 sb:Hs_same_both_ways cl
 lt:Hs_law_is_table cl
 lw:Hs_law_whole cl
structure HR (cl:Nat→CLL):Prop where
 d:HD cl
 f:HF cl
 to:Hs_table_of cl
 tr:Hs_tied_row cl
 ti:Hs_tied cl
 di:Hs_law_direct cl
 ls:Hs_law_settings cl
 ei:Hs_law_either cl
 sa:Hs_law_same cl
 ta:Hs_law_table cl
 od:Hs_law_odd_v3 cl
 be:Hs_law_bent_v7 cl
 pu:Hs_law_put_v2 cl
open PySem L2 Mt
variable {cl:Nat→CLL}
noncomputable def andL (l m:List Int):List Int:=(l.zip m).map fun p=>p.1*p.2
theorem bit_or {x:Int} (h:0≤x∧x<2):x=0∨x=1:=by omega
theorem and_e (c:CLL) {x y:Int} (hx:x=0∨x=1) (hy:y=0∨y=1) (S:zA1):where_both_e1 c [some (.int x),some (.int y)] S=.ok (.int (x*y)) S:=by
 rcases hx with rfl | rfl <;> rcases hy with rfl | rfl <;> simp [where_both_e1] <;> rfl
theorem or_e (c:CLL) {x y:Int} (hx:x=0∨x=1) (hy:y=0∨y=1) (S:zA1):zB8 c [some (.int x),some (.int y)] S=.ok (.int (if 0<x+y then 1 else 0)) S:=by
 rcases hx with rfl | rfl <;> rcases hy with rfl | rfl <;> simp [zB8] <;> rfl
theorem zp_run {e:C}{X Y R:List D}{S S1:zA1} (hl:(zipD X Y).length<lim) (e1:loopC [] (.many 2) (fun _=>ret true) e [none,none] (zipD X Y) S=.ok R S) (h1:S++[.lst R]=S1) (t:zAe [.lst S.length] S1=.ok (.tup R) S1) :
  (sSeq (sRet (cApp zAe (zA0 [(zAm (iZipL (zA0 [(cVar 0),(cVar 1)])) 2 [] (.many 2) (fun _=>ret true) e)]))) zA2) [some (.tup X),some (.tup Y)] S=.rt (.tup R) S1:=by
 simp [hl,e1,h1,t]
theorem zp_spec {e:C} (f:Int→Int→Int) (l m:List Int) (hl:l.length≤16) (S:zA1) (he:∀ p∈l.zip m,e [some (.int p.1),some (.int p.2)] S=.ok (.int (f p.1 p.2)) S) :
  ∃ S1,(sSeq (sRet (cApp zAe (zA0 [(zAm (iZipL (zA0 [(cVar 0),(cVar 1)])) 2 [] (.many 2) (fun _=>ret true) e)]))) zA2) [some (zAf l),some (zAf m)] S=.rt (zAf ((l.zip m).map fun p=>f p.1 p.2)) S1∧Ex S S1:=by
 have z:zipD (l.map D.int) (m.map D.int)=(l.zip m).map fun p=>.tup [.int p.1,.int p.2]:=by
  unfold zipD
  rw [List.zip_map,List.map_map]; rfl
 have e1:loopC [] (.many 2) (fun _=>ret true) e [none,none] (zipD (l.map D.int) (m.map D.int)) S=.ok (((l.zip m).map fun p=>f p.1 p.2).map D.int) S:=by
  rw [z,List.map_map]
  exact comp_pureM (fun (p:Int × Int)=>D.tup [.int p.1,.int p.2]) (zAv _) _ _ fun p hp=>⟨[some (.int p.1),some (.int p.2)],rfl,he p hp⟩
 obtain ⟨S1,h1⟩:∃ S1,S++[O.lst (((l.zip m).map fun p=>f p.1 p.2).map D.int)]=S1:=⟨_,rfl⟩
 refine ⟨S1,zp_run ?_ e1 h1 (by rw [← h1]; exact zAE (zA4 _ _)),by rw [← h1]; exact zAc _ _⟩
 rw [z,List.length_map,List.length_zip,zBd]; omega
def bts (l:List Int):Prop:=∀ i∈l,0≤i∧i<2
theorem zip_bts {l m:List Int} (hl:bts l) (hm:bts m) {p:Int × Int} (hp:p∈l.zip m):(p.1=0∨p.1=1)∧(p.2=0∨p.2=1):=by
 have:=List.of_mem_zip (a:=p.1) (b:=p.2) hp
 exact ⟨bit_or (hl _ this.1),bit_or (hm _ this.2)⟩
theorem where_both_spec (h:Hs_where_both cl) (n:Nat) {l m:List Int} (hl:l.length≤16) (bl:bts l) (bm:bts m) (S:zA1):Spc (cl (n+1) "where_both" [zAf l,zAf m] S) (zAf (andL l m)) S:=by
 obtain ⟨S1,e,x⟩:=zp_spec (e:=where_both_e1 (cl n)) (fun x y=>x*y) l m hl S fun p hp=>and_e _ (zip_bts bl bm hp).1 (zip_bts bl bm hp).2 S
 exact ⟨S1,by rw [h]; exact zA7 rfl e,x⟩
theorem where_either_spec (h:Hs_where_either cl) (n:Nat) {l m:List Int} (hl:l.length≤16) (bl:bts l) (bm:bts m) (S:zA1):Spc (cl (n+1) "where_either" [zAf l,zAf m] S) (zAf (orL l m)) S:=by
 obtain ⟨S1,e,x⟩:=zp_spec (e:=zB8 (cl n)) (fun x y=>if 0<x+y then 1 else 0) l m hl S fun p hp=>or_e _ (zip_bts bl bm hp).1 (zip_bts bl bm hp).2 S
 exact ⟨S1,by rw [h]; exact zA7 rfl e,x⟩
open PySem L2 Mt
variable {cl:Nat→CLL}
mutual
noncomputable def Tr.on (st:List Int):Tr→Bool
 | .lf k o=>decide (st.getD k.toNat 0=o)
 | .nd r ps=>if r then Tr.onA st ps else Tr.onO st ps
noncomputable def Tr.onA (st:List Int):List Tr→Bool
 | []=>true
 | t::r=>t.on st&&Tr.onA st r
noncomputable def Tr.onO (st:List Int):List Tr→Bool
 | []=>false
 | t::r=>t.on st||Tr.onO st r
end
noncomputable def zAO (sw:Int) (t:Tr):List Int:=(sett sw.toNat).map fun st=>b1 (t.on st)
noncomputable def cmb (r:Bool) (a b:Bool):Bool:=if r then a&&b else a||b
noncomputable def onF (r:Bool) (st:List Int):Bool→List Tr→Bool
 | a,[]=>a
 | a,t::ps=>onF r st (cmb r a (t.on st)) ps
theorem onF_eq (r:Bool) (st:List Int):∀ (ps:List Tr) (a:Bool),onF r st a ps=cmb r a (if r then Tr.onA st ps else Tr.onO st ps)
 | [],a=>by cases r <;> cases a <;> rfl
 | t::ps,a=>by
  show onF r st (cmb r a (t.on st)) ps=_
  rw [onF_eq r st ps]
  cases r <;> simp [cmb,Tr.onA,Tr.onO,Bool.and_assoc,Bool.or_assoc]
theorem onF_nd (r:Bool) (st:List Int) (t:Tr) (ps:List Tr):(Tr.nd r (t::ps)).on st=onF r st (t.on st) ps:=by
 rw [onF_eq]
 cases r <;> simp [Tr.on,Tr.onA,Tr.onO,cmb]
theorem and_b1 (l:List (List Int)) (f g:List Int→Bool):andL (l.map fun st=>b1 (f st)) (l.map fun st=>b1 (g st))=l.map fun st=>b1 (f st&&g st):=by
 unfold andL
 induction l with
 | nil=>rfl
 | cons a l ih =>
  simp only [List.map_cons,List.zip_cons_cons] at ih ⊢
  rw [ih]
  cases f a <;> cases g a <;> rfl
theorem or_b1 (l:List (List Int)) (f g:List Int→Bool):orL (l.map fun st=>b1 (f st)) (l.map fun st=>b1 (g st))=l.map fun st=>b1 (f st||g st):=by
 unfold orL
 induction l with
 | nil=>rfl
 | cons a l ih =>
  simp only [List.map_cons,List.zip_cons_cons] at ih ⊢
  rw [ih]
  cases f a <;> cases g a <;> rfl
theorem cmb_b1 (r:Bool) (l:List (List Int)) (f g:List Int→Bool):(if r then andL (l.map fun st=>b1 (f st)) (l.map fun st=>b1 (g st)) else orL (l.map fun st=>b1 (f st)) (l.map fun st=>b1 (g st)))=l.map fun st=>b1 (cmb r (f st) (g st)):=by
 cases r
 ·rw [if_neg Bool.false_ne_true,or_b1]; rfl
 ·rw [if_pos rfl,and_b1]; rfl
noncomputable def lone (sw k o:Int):Net:=⟨sw,2,[⟨0,1,k,o⟩]⟩
theorem lone_ok {sw k o:Int} (s1:1≤sw) (s4:sw≤4) (h:(Tr.lf k o).wf sw):(lone sw k o).g:=by
 obtain ⟨h1,h2,h3,h4⟩:=h
 refine ⟨s1,s4,by show (2:Int)≤2; decide,by show (2:Int)≤7; decide,by simp [lone],fun c hc=>?_⟩
 simp only [lone,List.mem_cons,List.not_mem_nil,or_false] at hc
 subst hc
 exact ⟨by show (0:Int)≤0; decide,by show (0:Int)<1; decide,by show (1:Int)<2; decide,h1,h2,h3,h4⟩
theorem lone_lets (sw k o:Int) (st:List Int):zBe (lone sw k o) st=(Tr.lf k o).on st:=by
 have e:(Tr.lf k o).on st=shutB ⟨0,1,k,o⟩ st:=rfl
 rw [e,Bool.eq_iff_iff,zB4]
 constructor
 ·intro h
  refine Classical.byContradiction fun n=>?_
  have:=h (fun x=>x=0) rfl fun c hc hs=>by
   simp only [lone,List.mem_cons,List.not_mem_nil,or_false] at hc
   subst hc
   exact absurd hs n
  cases this
 ·intro h C c0 cc
  exact (cc ⟨0,1,k,o⟩ (by simp [lone]) h).mp c0
theorem lone_fun (sw k o:Int):funP (lone sw k o)=zAO sw (.lf k o):=by
 rw [funP_b1]
 unfold zAO
 exact List.map_congr_left fun st _=>by rw [lone_lets]
theorem bitsT_len {sw:Int} (h4:sw≤4) (t:Tr):(zAO sw t).length≤16:=by
 unfold zAO
 rw [List.length_map,sett_len]
 have:=pow_small (j:=sw.toNat) (by omega)
 omega
theorem b1_bts (l:List (List Int)) (f:List Int→Bool):bts (l.map fun st=>b1 (f st)):=fun i hi=>by
 obtain ⟨st,_,rfl⟩:=List.mem_map.mp hi
 unfold b1
 split <;> decide
structure HTf (cl:Nat→CLL):Prop where
 f:HF cl
 ln:Hs_lone_net cl
 tf:Hs_tree_function cl
 wb:Hs_where_both cl
 we:Hs_where_either cl
theorem tf_leaf (c:CLL) {sw k o:Int}{nd fd:D}{S S1:zA1} (e1:c "lone_net" [.int sw,.tup [.str (Str.ofString "at"),.int k,.int o]] S=.ok nd S) (e2:c "function_of" [nd] S=.ok fd S1):zAo c [some (.int sw),some (.tup [.str (Str.ofString "at"),.int k,.int o]),none,none,none] S=.rt fd S1:=by
 simp [zAo,e1,e2]
theorem lone_spec (h:Hs_lone_net cl) (n:Nat) (sw k o:Int) (S:zA1):cl (n+1) "lone_net" [.int sw,(Tr.lf k o).d] S=.ok (lone sw k o).d S:=by
 rw [h]
 exact zA7 rfl (by simp [b_lone_net,zA6,Tr.d,lone,Net.d,Ct.d])
theorem tf_l (c:CLL) {r:Bool}{sw:D}{X:List D}{a p b d:D}{w4:Option D}{S S1 S2:zA1} (e1:c "tree_function" [sw,p] S=.ok b S1) (e2:c (if r then "where_both" else "where_either") [a,b] S1=.ok d S2):zAq c [some sw,some (.tup [.str (kw r),.tup X]),some a,some p,w4] S=.nx [some sw,some (.tup [.str (kw r),.tup X]),some d,some p,some b] S2:=by
 cases r
 ·rw [if_neg Bool.false_ne_true] at e2
  simp [zAq,e1,kw_row,e2]
 ·rw [if_pos rfl] at e2
  simp [zAq,e1,kw_row,e2]
theorem tf_node (c:CLL) {r:Bool}{sw p0 a d:D}{ps:List D}{w3 w4:Option D}{S S1 S2:zA1} (cd:cutD (p0::ps) (some 1) none=ps) (hl:ps.length<lim) (e0:c "tree_function" [sw,p0] S=.ok a S1) (e:zAA [] (gN 3) (zAq c) ps [some sw,some (.tup [.str (kw r),.tup (p0::ps)]),some a,none,none] S1=.nx [some sw,some (.tup [.str (kw r),.tup (p0::ps)]),some d,w3,w4] S2) :
  zAo c [some sw,some (.tup [.str (kw r),.tup (p0::ps)]),none,none,none] S=.rt d S2:=by
 have i0:atI (p0::ps) 0=some p0:=atI_nat (j:=0) rfl
 simp [zAo,kw_at,i0,e0,cd,hl,e]
inductive TfI (sw:Int) (r:Bool) (X:List D) (t0:Tr) (ps:List Tr) (S0:zA1) (j:Nat) (ρ:Env1) (S:zA1):Prop
 | mk (w3 w4:Option D) (e:ρ=[some (.int sw),some (.tup [.str (kw r),.tup X]),some (zAf ((sett sw.toNat).map fun st=>b1 (onF r st (t0.on st) (ps.take j)))),w3,w4]) (x:Ex S0 S)
theorem onF_snoc (r:Bool) (st:List Int):∀ (ps:List Tr) (a:Bool) (t:Tr),onF r st a (ps++[t])=cmb r (onF r st a ps) (t.on st)
 | [],_,_=>rfl
 | p::ps,a,t=>onF_snoc r st ps (cmb r a (p.on st)) t
theorem zAG (H:HTf cl) {sw:Int} (s1:1≤sw) (s4:sw≤4):∀ (K:Nat) (t:Tr),t.ht≤K→t.wf sw→t.sz≤1000→∀ (n:Nat) (S:zA1),Spc (cl (n+K+5) "tree_function" [.int sw,t.d] S) (zAf (zAO sw t)) S:=by
 have leaf:∀ (k o:Int),(Tr.lf k o).wf sw→∀ (n:Nat) (S:zA1),Spc (cl (n+5) "tree_function" [.int sw,(Tr.lf k o).d] S) (zAf (zAO sw (.lf k o))) S:=fun k o hw n S=>by
  obtain ⟨S1,e1,x1⟩:=H.f.fun n (lone_ok s1 s4 hw) S
  rw [lone_fun] at e1
  refine ⟨S1,?_,x1⟩
  rw [show n+5=(n+4)+1 from rfl,H.tf]
  exact zA7 rfl (tf_leaf _ (lone_spec H.ln (n+3) sw k o S) e1)
 intro K
 induction K with
 | zero =>
  intro t ht hw hs n S
  cases t with
  | lf k o=>exact leaf k o hw n S
  | nd r ps=>simp [Tr.ht] at ht
 | succ K ih =>
  intro t ht hw hs n S
  cases t with
  | lf k o=>exact leaf k o hw (n+(K+1)) S
  | nd r ps =>
   have ht':Tr.hts ps+1≤K+1:=ht
   have hs':Tr.szs ps+1≤1000:=hs
   have hw':2≤ps.length∧Tr.wfs sw ps:=hw
   cases ps with
   | nil=>simp at hw'
   | cons t0 ps =>
    have each:∀ t∈t0::ps,∀ S,Spc (cl (n+K+5) "tree_function" [.int sw,t.d] S) (zAf (zAO sw t)) S:=fun t hm S=>ih t (by have:=zBf hm; omega) (wfs_mem hw'.2 t hm) (by have:=szs_mem hm; omega) n S
    obtain ⟨S1,e1,x1⟩:=each t0 (by simp) S
    obtain ⟨ρ',S2,e2,w3,w4,hρ,x2⟩:=loop_inv (w:=[]) (g:=gN 3) (b:=zAq (cl (n+K+5))) (items:=ps.map Tr.d) (TfI sw r (t0.d::ps.map Tr.d) t0 ps S1) (ρ:=[some (.int sw),some (.tup [.str (kw r),.tup (t0.d::ps.map Tr.d)]),some (zAf (zAO sw t0)),none,none]) (S:=S1)
     (fun _ _ _ _=>zAv _) ⟨_,_,rfl,Kp.refl _ _⟩
     (fun j d ρ S' hd hp=>by
      obtain ⟨w3,w4,rfl,x⟩:=hp
      rw [List.getElem?_map] at hd
      obtain ⟨t,hj,rfl⟩:=Option.map_eq_some_iff.mp hd
      obtain ⟨S3,e3,x3⟩:=each t (List.mem_cons_of_mem _ (List.mem_of_getElem? hj)) S'
      have tj:ps.take (j+1)=ps.take j++[t]:=by rw [List.take_add_one,hj]; rfl
      have la:((sett sw.toNat).map fun st=>b1 (onF r st (t0.on st) (ps.take j))).length≤16:=by
       rw [List.length_map,sett_len]
       have:=pow_small (j:=sw.toNat) (by omega)
       omega
      have ew:∃ S4,cl (n+K+5) (if r then "where_both" else "where_either") [zAf ((sett sw.toNat).map fun st=>b1 (onF r st (t0.on st) (ps.take j))),zAf (zAO sw t)] S3=.ok (zAf ((sett sw.toNat).map fun st=>b1 (onF r st (t0.on st) (ps.take (j+1))))) S4∧Ex S3 S4:=by
       have q:=cmb_b1 r (sett sw.toNat) (fun st=>onF r st (t0.on st) (ps.take j)) (fun st=>t.on st)
       have q2:((sett sw.toNat).map fun st=>b1 (onF r st (t0.on st) (ps.take (j+1))))=(sett sw.toNat).map fun st=>b1 (cmb r (onF r st (t0.on st) (ps.take j)) (t.on st)):=List.map_congr_left fun st _=>by rw [tj,onF_snoc]
       rw [q2,← q]
       cases r
       ·obtain ⟨S4,e4,x4⟩:=where_either_spec H.we (n+K+4) la (b1_bts _ _) (b1_bts (sett sw.toNat) fun st=>t.on st) S3
        exact ⟨S4,e4,x4⟩
       ·obtain ⟨S4,e4,x4⟩:=where_both_spec H.wb (n+K+4) la (b1_bts _ _) (b1_bts (sett sw.toNat) fun st=>t.on st) S3
        exact ⟨S4,e4,x4⟩
      obtain ⟨S4,e4,x4⟩:=ew
      exact ⟨_,_,rfl,_,S4,.inl (tf_l _ e3 e4),⟨_,_,rfl,(x.trans x3).trans x4⟩⟩)
    rw [List.length_map,List.take_length] at hρ
    subst hρ
    have hd:(Tr.nd r (t0::ps)).d=.tup [.str (kw r),.tup (t0.d::ps.map Tr.d)]:=by simp [Tr.d,Tr.ds,ds_map]
    have hb:zAO sw (.nd r (t0::ps))=(sett sw.toNat).map fun st=>b1 (onF r st (t0.on st) ps):=by
     unfold zAO
     exact List.map_congr_left fun st _=>by rw [onF_nd]
    have cd:cutD (t0.d::ps.map Tr.d) (some 1) none=ps.map Tr.d:=by rw [cutD_drop _ (by decide)]; rfl
    refine ⟨S2,?_,x1.trans x2⟩
    rw [show n+(K+1)+5=(n+K+5)+1 by omega,H.tf,hd,hb]
    exact zA7 rfl (tf_node _ cd (by rw [List.length_map,zBd]; have:=szs_len (t0::ps); simp at this; omega) e1 e2)
open PySem L2 Mt
variable {cl:Nat→CLL}
structure HP (cl:Nat→CLL):Prop where
 I:HI cl
 br:Hs_bridged cl
 mo:Hs_moved cl
 mc:zAC cl
 ip:Hs_is_plain cl
 pl:Hs_plain cl
noncomputable def plainB (N:Net) (c:Ct):Bool:=if c.b=1 then false else alikeB (N.brN c) N
noncomputable def trimF:Nat→Net→Nat→Net
 | 0,M,_=>M
 | m+1,M,i=>if alikeB (M.cutN i) M then trimF m (M.cutN i) i else trimF m M (i+1)
noncomputable def Net.trim (N:Net):Net:=trimF N.cs.length N 0
open PySem L2 Mt
variable {cl:Nat→CLL}
noncomputable def Net.sub (N:Net) (l:List Nat):Net:=⟨N.sw,N.pl,l.map fun i=>N.cs.getD i ⟨0,0,0,0⟩⟩
inductive TrI (N:Net) (S2:zA1) (m:Nat) (ρ:Env1) (S':zA1):Prop
 | mk (l:Nat) (A:List Nat) (v3 v4:Option D) (e:ρ=[some N.d,some (zAf (funP N)),some (.lst l),v3,v4]) (x:Ex S2 S') (lL:zA5 S' l=some (natsD (A++List.range' m (N.cs.length - m)))) (h1:∀ a∈A,a<m) (h2:A.length≤m) (hf:funP (N.sub (A++List.range' m (N.cs.length - m)))=funP N) (ht:trimF (N.cs.length - m) (N.sub (A++List.range' m (N.cs.length - m))) A.length=N.trim)
inductive E10 (sc:D) (ρ:Env1):Prop
 | mk (v1 v2 v3 v4 v5 v6 v7 v8 v9:Option D) (e:ρ=[some sc,v1,v2,v3,v4,v5,v6,v7,v8,v9])
inductive PlI (N:Net) (sc:D) (jj:Int) (i0 k4:Nat) (S4b:zA1) (v9:Option D) (m:Nat) (ρ:Env1) (S':zA1):Prop
 | mk (w7 w8:Option D) (e:ρ=[some sc,some (.int jj),some (.lst i0),some N.d,some (zAf (funP N)),some (.lst k4),some (.lst S4b.length),w7,w8,v9]) (kp:Kp (·=S4b.length) (S4b++[.lst []]) S') (lL:zA5 S' S4b.length=some (natsD ((List.range m).filter fun i=>plainB N (N.cs.getD i ⟨0,0,0,0⟩))))
open PySem L2 Mt
variable {cl:Nat→CLL}
noncomputable def jn (r:Bool) (N M:Net):Net:=if r then N.row M else N.side M
mutual
noncomputable def Tr.lay (sw:Int):Tr→Net
 | .lf k o=>lone sw k o
 | .nd r ps=>match Tr.lays sw ps with
  | []=>lone sw 0 0
  | N::Ns=>Ns.foldl (jn r) N
noncomputable def Tr.lays (sw:Int):List Tr→List Net
 | []=>[]
 | t::r=>t.lay sw::Tr.lays sw r
end
theorem lays_map (sw:Int):∀ ps:List Tr,Tr.lays sw ps=ps.map (Tr.lay sw)
 | []=>rfl
 | t::r=>by rw [List.map_cons,← lays_map sw r]; rfl
theorem lay_nd (sw:Int) (r:Bool) (t:Tr) (ps:List Tr):(Tr.nd r (t::ps)).lay sw=(ps.map (Tr.lay sw)).foldl (jn r) (t.lay sw):=by
 show (match Tr.lays sw (t::ps) with | []=>lone sw 0 0 | N::Ns=>Ns.foldl (jn r) N)=_
 rw [lays_map]
 rfl
structure NOk (sw:Int) (p c:Nat) (N:Net):Prop where
 s:N.sw=sw
 p1:2≤N.pl
 p2:N.pl≤p
 c1:N.cs.length≤c
 c2:∀ x∈N.cs,x.ok sw N.pl
theorem NOk.up {sw:Int}{p c p' c':Nat}{N:Net} (h:NOk sw p c N) (hp:p≤p') (hc:c≤c'):NOk sw p' c' N:=⟨h.s,h.p1,by have:=h.p2; omega,by have:=h.c1; omega,h.c2⟩
theorem jn_ok {sw:Int}{p c p' c':Nat}{N M:Net} (r:Bool) (okN:NOk sw p c N) (okM:NOk sw p' c' M):NOk sw (p+p' - 1) (c+c') (jn r N M)∧N.pl≤(jn r N M).pl∧M.pl≤(jn r N M).pl:=by
 have a:=okN.p1; have b:=okN.p2; have e:=okM.p1; have d:=okM.p2; have f:=okN.c1; have g:=okM.c1
 cases r with
 | true =>
  refine ⟨⟨okN.s,by show 2≤N.pl+M.pl - 2+1; omega,by show N.pl+M.pl - 2+1≤_; omega,by show (_++_:List Ct).length≤_; rw [List.length_append,List.length_map,List.length_map]; omega,fun x hx=>?_⟩,by show N.pl≤N.pl+M.pl - 2+1; omega,by show M.pl≤N.pl+M.pl - 2+1; omega⟩
  have hx':x∈(N.row M).cs:=hx
  rcases List.mem_append.mp hx' with q | q
  ·obtain ⟨y,hy,rfl⟩:=List.mem_map.mp q
   obtain ⟨a0,ab,bp,_⟩:=okN.c2 y hy
   refine mv_ok (okN.c2 y hy) (fun p p0 pp=>?_) (fun z=>?_)
   ·show 0≤rowF1 _ p∧rowF1 _ p<N.pl+M.pl - 2+1
    unfold rowF1; split <;> omega
   ·unfold rowF1 at z; split at z <;> split at z <;> omega
  ·obtain ⟨y,hy,rfl⟩:=List.mem_map.mp q
   obtain ⟨a0,ab,bp,_⟩:=okM.c2 y hy
   refine mv_ok (okM.c2 y hy) (fun p p0 pp=>?_) (fun z=>?_)
   ·show 0≤rowF2 _ _ p∧rowF2 _ _ p<N.pl+M.pl - 2+1
    unfold rowF2; split
    ·omega
    ·split <;> omega
   ·unfold rowF2 at z; repeat' split at z
    all_goals omega
 | false =>
  refine ⟨⟨okN.s,by show 2≤N.pl+M.pl - 2; omega,by show N.pl+M.pl - 2≤_; omega,by show (_++_:List Ct).length≤_; rw [List.length_append,List.length_map]; omega,fun x hx=>?_⟩,by show N.pl≤N.pl+M.pl - 2; omega,by show M.pl≤N.pl+M.pl - 2; omega⟩
  have hx':x∈(N.side M).cs:=hx
  rcases List.mem_append.mp hx' with q | q
  ·obtain ⟨a0,ab,bp,r⟩:=okN.c2 x q
   exact ⟨a0,ab,by show x.b<N.pl+M.pl - 2; omega,r⟩
  ·obtain ⟨y,hy,rfl⟩:=List.mem_map.mp q
   obtain ⟨a0,ab,bp,_⟩:=okM.c2 y hy
   refine mv_ok (okM.c2 y hy) (fun p p0 pp=>?_) (fun z=>?_)
   ·show 0≤sideF _ p∧sideF _ p<N.pl+M.pl - 2
    unfold sideF; split
    ·omega
    ·split <;> omega
   ·unfold sideF at z; repeat' split at z
    all_goals omega
theorem fold_ok {sw:Int}{r:Bool}:∀ (ts:List Tr) {N:Net}{p c:Nat},(∀ t∈ts,NOk sw (t.lv+1) t.lv (t.lay sw))→NOk sw (p+1) c N→NOk sw (p+Tr.lvs ts+1) (c+Tr.lvs ts) ((ts.map (Tr.lay sw)).foldl (jn r) N)∧N.pl≤((ts.map (Tr.lay sw)).foldl (jn r) N).pl
 | [],N,p,c,_,h=>⟨h,Int.le_refl _⟩
 | t::ts,N,p,c,ht,h=>by
  obtain ⟨o,l1,_⟩:=jn_ok r h (ht t (by simp))
  obtain ⟨o2,l2⟩:=fold_ok (r:=r) ts (N:=jn r N (t.lay sw)) (p:=p+t.lv) (c:=c+t.lv) (fun t' h'=>ht t' (by simp [h'])) (o.up (by omega) (Nat.le_refl _))
  rw [List.map_cons,List.foldl_cons]
  refine ⟨o2.up ?_ ?_,Int.le_trans l1 l2⟩
  ·show p+t.lv+Tr.lvs ts+1≤p+(t.lv+Tr.lvs ts)+1; omega
  ·show c+t.lv+Tr.lvs ts≤c+(t.lv+Tr.lvs ts); omega
theorem lay_ok {sw:Int}:∀ (K:Nat) (t:Tr),t.ht≤K→t.wf sw→NOk sw (t.lv+1) t.lv (t.lay sw):=by
 have leaf:∀ k o,(Tr.lf k o).wf sw→NOk sw ((Tr.lf k o).lv+1) (Tr.lf k o).lv ((Tr.lf k o).lay sw):=fun k o hw=>by
  obtain ⟨h1,h2,h3,h4⟩:=hw
  refine ⟨rfl,by show (2:Int)≤2; decide,by show (2:Int)≤2; decide,by show 1≤1; decide,fun c hc=>?_⟩
  have hc:c∈[(⟨0,1,k,o⟩:Ct)]:=hc
  simp only [List.mem_cons,List.not_mem_nil,or_false] at hc
  subst hc
  exact ⟨by show (0:Int)≤0; decide,by show (0:Int)<1; decide,by show (1:Int)<2; decide,h1,h2,h3,h4⟩
 intro K
 induction K with
 | zero =>
  intro t ht hw
  cases t with
  | lf k o=>exact leaf k o hw
  | nd r ps=>simp [Tr.ht] at ht
 | succ K ih =>
  intro t ht hw
  cases t with
  | lf k o=>exact leaf k o hw
  | nd r ps =>
   have ht':Tr.hts ps+1≤K+1:=ht
   have hw':2≤ps.length∧Tr.wfs sw ps:=hw
   cases ps with
   | nil=>simp at hw'
   | cons t0 ts =>
    have each:∀ t∈t0::ts,NOk sw (t.lv+1) t.lv (t.lay sw):=fun t hm=>ih t (by have:=zBf hm; omega) (wfs_mem hw'.2 t hm)
    rw [lay_nd]
    exact (fold_ok ts (fun t hm=>each t (List.mem_cons_of_mem _ hm)) (each t0 (by simp))).1
open PySem L2 Mt
variable {cl:Nat→CLL}
noncomputable def flipA (st:List Int):List Int:=st.map fun b=>1 - b
theorem flipA_getD (st:List Int) {i:Nat} (h:i<st.length):(flipA st).getD i 0=1 - st.getD i 0:=by
 unfold flipA
 simp [List.getD_eq_getElem?_getD,List.getElem?_map,h]
theorem bit_at {st:List Int} (hb:∀ b∈st,b=0∨b=1) {i:Nat} (h:i<st.length):st.getD i 0=0∨st.getD i 0=1:=by
 rw [List.getD_eq_getElem?_getD,List.getElem?_eq_getElem h]
 exact hb _ (List.getElem_mem h)
section
variable {sw:Int}{st:List Int} (hl:(st.length:Int)=sw) (hb:∀ b∈st,b=0∨b=1)
include hl hb
theorem lf_flip {k o:Int} (h:(Tr.lf k o).wf sw):decide (st.getD k.toNat 0=1 - o)=!decide (st.getD k.toNat 0=o):=by
 obtain ⟨h1,h2,h3,h4⟩:=h
 have ho:o=0∨o=1:=by omega
 rcases bit_at hb (i:=k.toNat) (by omega) with q | q <;> rcases ho with rfl | rfl <;> rw [q] <;> decide
mutual
theorem agn_on:∀ t:Tr,t.wf sw→t.inv.ons.on st=!t.on st
 | .lf k o,h=>lf_flip hl hb h
 | .nd r ps,h=>by
  obtain ⟨a,o⟩:=agns_on ps h.2
  show (if !r then Tr.onA st (Tr.onss (Tr.invs ps)) else Tr.onO st (Tr.onss (Tr.invs ps)))=!(if r then Tr.onA st ps else Tr.onO st ps)
  cases r
  ·exact a
  ·exact o
theorem agns_on:∀ ps:List Tr,Tr.wfs sw ps→Tr.onA st (Tr.onss (Tr.invs ps))=(!Tr.onO st ps)∧Tr.onO st (Tr.onss (Tr.invs ps))=!Tr.onA st ps
 | [],_=>⟨rfl,rfl⟩
 | t::q,h=>by
  obtain ⟨a,o⟩:=agns_on q h.2
  have e:=agn_on t h.1
  constructor
  ·show (t.inv.ons.on st&&Tr.onA st (Tr.onss (Tr.invs q)))=!(t.on st||Tr.onO st q)
   rw [e,a]; simp
  ·show (t.inv.ons.on st||Tr.onO st (Tr.onss (Tr.invs q)))=!(t.on st&&Tr.onA st q)
   rw [e,o]; simp
end
mutual
theorem inv_on:∀ t:Tr,t.wf sw→t.inv.on st=!t.on (flipA st)
 | .lf k o,h=>by
  have e:=lf_flip hl hb h
  obtain ⟨h1,h2,h3,h4⟩:=h
  show decide (st.getD k.toNat 0=o)=!decide ((flipA st).getD k.toNat 0=o)
  rw [flipA_getD st (by omega)]
  have:(1 - st.getD k.toNat 0=o)↔(st.getD k.toNat 0=1 - o):=by omega
  rw [decide_eq_decide.mpr this,e,Bool.not_not]
 | .nd r ps,h=>by
  obtain ⟨a,o⟩:=invs_on ps h.2
  show (if !r then Tr.onA st (Tr.invs ps) else Tr.onO st (Tr.invs ps))=!(if r then Tr.onA (flipA st) ps else Tr.onO (flipA st) ps)
  cases r
  ·exact a
  ·exact o
theorem invs_on:∀ ps:List Tr,Tr.wfs sw ps→Tr.onA st (Tr.invs ps)=(!Tr.onO (flipA st) ps)∧Tr.onO st (Tr.invs ps)=!Tr.onA (flipA st) ps
 | [],_=>⟨rfl,rfl⟩
 | t::q,h=>by
  obtain ⟨a,o⟩:=invs_on q h.2
  have e:=inv_on t h.1
  constructor
  ·show (t.inv.on st&&Tr.onA st (Tr.invs q))=!(t.on (flipA st)||Tr.onO (flipA st) q)
   rw [e,a]; simp
  ·show (t.inv.on st||Tr.onO st (Tr.invs q))=!(t.on (flipA st)&&Tr.onA (flipA st) q)
   rw [e,o]; simp
end
end
theorem sett_rev:∀ n,(sett n).reverse=(sett n).map flipA
 | 0=>rfl
 | n+1=>by
  unfold sett
  rw [List.reverse_append,List.map_append,← List.map_reverse,← List.map_reverse,sett_rev n]
  simp only [List.map_map]
  rfl
theorem sett_ok {sw:Int} (h:1≤sw) {st:List Int} (hs:st∈sett sw.toNat):(st.length:Int)=sw∧∀ b∈st,b=0∨b=1:=by
 obtain ⟨a,b⟩:=sett_each _ st hs
 exact ⟨by omega,b⟩
theorem one_b1 (b:Bool):1 - b1 b=b1 (!b):=by cases b <;> rfl
theorem bits_agn {sw:Int} (s1:1≤sw) {t:Tr} (h:t.wf sw):zAO sw t.inv.ons=(zAO sw t).map fun b=>1 - b:=by
 unfold zAO
 rw [List.map_map]
 refine List.map_congr_left fun st hs=>?_
 obtain ⟨a,b⟩:=sett_ok s1 hs
 show b1 _=1 - b1 _
 rw [one_b1,agn_on a b t h]
theorem bits_inv {sw:Int} (s1:1≤sw) {t:Tr} (h:t.wf sw):zAO sw t.inv=(zAO sw t).reverse.map fun b=>1 - b:=by
 unfold zAO
 rw [← List.map_reverse,sett_rev,List.map_map,List.map_map]
 refine List.map_congr_left fun st hs=>?_
 obtain ⟨a,b⟩:=sett_ok s1 hs
 show b1 _=1 - b1 _
 rw [one_b1,inv_on a b t h]
mutual
theorem inv_inv:∀ t:Tr,t.inv.inv=t
 | .lf k o=>rfl
 | .nd r ps=>by show Tr.nd (!!r) (Tr.invs (Tr.invs ps))=_; rw [invs_invs ps,Bool.not_not]
theorem invs_invs:∀ ps:List Tr,Tr.invs (Tr.invs ps)=ps
 | []=>rfl
 | t::q=>by show t.inv.inv::Tr.invs (Tr.invs q)=_; rw [inv_inv t,invs_invs q]
end
mutual
theorem ons_ons:∀ t:Tr,t.ons.ons=t
 | .lf k o=>by show Tr.lf k (1 - (1 - o))=_; rw [show 1 - (1 - o)=o by omega]
 | .nd r ps=>by show Tr.nd r (Tr.onss (Tr.onss ps))=_; rw [onss_onss ps]
theorem onss_onss:∀ ps:List Tr,Tr.onss (Tr.onss ps)=ps
 | []=>rfl
 | t::q=>by show t.ons.ons::Tr.onss (Tr.onss q)=_; rw [ons_ons t,onss_onss q]
end
mutual
theorem ons_inv:∀ t:Tr,t.ons.inv=t.inv.ons
 | .lf k o=>rfl
 | .nd r ps=>by show Tr.nd (!r) (Tr.invs (Tr.onss ps))=Tr.nd (!r) (Tr.onss (Tr.invs ps)); rw [onss_invs ps]
theorem onss_invs:∀ ps:List Tr,Tr.invs (Tr.onss ps)=Tr.onss (Tr.invs ps)
 | []=>rfl
 | t::q=>by show t.ons.inv::Tr.invs (Tr.onss q)=t.inv.ons::Tr.onss (Tr.invs q); rw [ons_inv t,onss_invs q]
end
theorem agn_agn (t:Tr):t.inv.ons.inv.ons=t:=by rw [ons_inv,inv_inv,ons_ons]
mutual
theorem inv_wf {sw:Int}:∀ t:Tr,t.wf sw→t.inv.wf sw∧t.inv.lv=t.lv
 | .lf k o,h=>⟨h,rfl⟩
 | .nd r ps,h=>by
  obtain ⟨a,b,c⟩:=invs_wf ps h.2
  exact ⟨⟨by rw [c]; exact h.1,a⟩,b⟩
theorem invs_wf {sw:Int}:∀ ps:List Tr,Tr.wfs sw ps→Tr.wfs sw (Tr.invs ps)∧Tr.lvs (Tr.invs ps)=Tr.lvs ps∧(Tr.invs ps).length=ps.length
 | [],_=>⟨trivial,rfl,rfl⟩
 | t::q,h=>by
  obtain ⟨a,b,c⟩:=invs_wf q h.2
  obtain ⟨d,e⟩:=inv_wf t h.1
  exact ⟨⟨d,a⟩,by show t.inv.lv+Tr.lvs (Tr.invs q)=t.lv+Tr.lvs q; rw [e,b],by show (Tr.invs q).length+1=q.length+1; rw [c]⟩
end
mutual
theorem ons_wf {sw:Int}:∀ t:Tr,t.wf sw→t.ons.wf sw∧t.ons.lv=t.lv
 | .lf k o,⟨h1,h2,h3,h4⟩=>⟨⟨h1,h2,by omega,by omega⟩,rfl⟩
 | .nd r ps,h=>by
  obtain ⟨a,b,c⟩:=onss_wf ps h.2
  exact ⟨⟨by rw [c]; exact h.1,a⟩,b⟩
theorem onss_wf {sw:Int}:∀ ps:List Tr,Tr.wfs sw ps→Tr.wfs sw (Tr.onss ps)∧Tr.lvs (Tr.onss ps)=Tr.lvs ps∧(Tr.onss ps).length=ps.length
 | [],_=>⟨trivial,rfl,rfl⟩
 | t::q,h=>by
  obtain ⟨a,b,c⟩:=onss_wf q h.2
  obtain ⟨d,e⟩:=ons_wf t h.1
  exact ⟨⟨d,a⟩,by show t.ons.lv+Tr.lvs (Tr.onss q)=t.lv+Tr.lvs q; rw [e,b],by show (Tr.onss q).length+1=q.length+1; rw [c]⟩
end
theorem lvs_app:∀ a b:List Tr,Tr.lvs (a++b)=Tr.lvs a+Tr.lvs b
 | [],b=>by show Tr.lvs b=0+Tr.lvs b; omega
 | t::r,b=>by show t.lv+Tr.lvs (r++b)=t.lv+Tr.lvs r+Tr.lvs b; rw [lvs_app r b]; omega
theorem wfs_app {sw:Int}:∀ {a b:List Tr},Tr.wfs sw a→Tr.wfs sw b→Tr.wfs sw (a++b)
 | [],_,_,h=>h
 | t::r,b,h1,h2=>⟨h1.1,wfs_app h1.2 h2⟩
theorem onA_app (st:List Int):∀ a b:List Tr,Tr.onA st (a++b)=(Tr.onA st a&&Tr.onA st b)
 | [],b=>by show Tr.onA st b=(true&&Tr.onA st b); simp
 | t::r,b=>by show (t.on st&&Tr.onA st (r++b))=((t.on st&&Tr.onA st r)&&Tr.onA st b); rw [onA_app st r b,Bool.and_assoc]
theorem onO_app (st:List Int):∀ a b:List Tr,Tr.onO st (a++b)=(Tr.onO st a||Tr.onO st b)
 | [],b=>by show Tr.onO st b=(false||Tr.onO st b); simp
 | t::r,b=>by show (t.on st||Tr.onO st (r++b))=((t.on st||Tr.onO st r)||Tr.onO st b); rw [onO_app st r b,Bool.or_assoc]
theorem un_nd {r r':Bool}{qs:List Tr}:Tr.un r (.nd r' qs)=if r'=r then qs else [.nd r' qs]:=rfl
theorem un_ok {sw:Int} (r:Bool) (t:Tr) (h:t.wf sw):Tr.wfs sw (Tr.un r t)∧Tr.lvs (Tr.un r t)=t.lv∧1≤(Tr.un r t).length:=by
 cases t with
 | lf k o=>exact ⟨⟨h,trivial⟩,rfl,Nat.le_refl _⟩
 | nd r' qs =>
  rw [un_nd]
  split
  ·exact ⟨h.2,rfl,by have:=h.1; omega⟩
  ·exact ⟨⟨h,trivial⟩,by show Tr.lvs qs+0=Tr.lvs qs; omega,Nat.le_refl _⟩
theorem un_on (r:Bool) (st:List Int) (t:Tr):(if r then Tr.onA st (Tr.un r t) else Tr.onO st (Tr.un r t))=t.on st:=by
 cases t with
 | lf k o=>cases r <;> simp [Tr.un,Tr.onA,Tr.onO]
 | nd r' qs =>
  rw [un_nd]
  by_cases h:r'=r
  ·rw [if_pos h]; subst h; cases r' <;> rfl
  ·rw [if_neg h]; cases r <;> simp [Tr.onA,Tr.onO]
mutual
theorem flat_ok {sw:Int}:∀ t:Tr,t.wf sw→t.flat.wf sw∧t.flat.lv=t.lv
 | .lf k o,h=>⟨h,rfl⟩
 | .nd r ps,h=>by
  obtain ⟨a,b,c⟩:=flats_ok r ps h.2
  exact ⟨⟨by have:=h.1; omega,a⟩,b⟩
theorem flats_ok {sw:Int} (r:Bool):∀ ps:List Tr,Tr.wfs sw ps→Tr.wfs sw (Tr.flats r ps)∧Tr.lvs (Tr.flats r ps)=Tr.lvs ps∧ps.length≤(Tr.flats r ps).length
 | [],_=>⟨trivial,rfl,Nat.le_refl _⟩
 | t::q,h=>by
  obtain ⟨a,b,c⟩:=flats_ok r q h.2
  obtain ⟨d,e⟩:=flat_ok t h.1
  obtain ⟨f,g,i⟩:=un_ok r t.flat d
  exact ⟨wfs_app f a,by show Tr.lvs (Tr.un r t.flat++Tr.flats r q)=t.lv+Tr.lvs q; rw [lvs_app,g,e,b],by show q.length+1≤(Tr.un r t.flat++Tr.flats r q).length; rw [List.length_append]; omega⟩
end
mutual
theorem flat_on (st:List Int):∀ t:Tr,t.flat.on st=t.on st
 | .lf k o=>rfl
 | .nd r ps=>by
  show (if r then Tr.onA st (Tr.flats r ps) else Tr.onO st (Tr.flats r ps))=_
  exact flats_on st r ps
theorem flats_on (st:List Int) (r:Bool):∀ ps:List Tr,(if r then Tr.onA st (Tr.flats r ps) else Tr.onO st (Tr.flats r ps))=if r then Tr.onA st ps else Tr.onO st ps
 | []=>rfl
 | t::q=>by
  have e1:=flats_on st r q
  have e2:=un_on r st t.flat
  rw [flat_on st t] at e2
  cases r
  ·show Tr.onO st (Tr.un false t.flat++Tr.flats false q)=(t.on st||Tr.onO st q)
   rw [onO_app]
   have e1':Tr.onO st (Tr.flats false q)=Tr.onO st q:=e1
   have e2':Tr.onO st (Tr.un false t.flat)=t.on st:=e2
   rw [e1',e2']
  ·show Tr.onA st (Tr.un true t.flat++Tr.flats true q)=(t.on st&&Tr.onA st q)
   rw [onA_app]
   have e1':Tr.onA st (Tr.flats true q)=Tr.onA st q:=e1
   have e2':Tr.onA st (Tr.un true t.flat)=t.on st:=e2
   rw [e1',e2']
end
theorem bits_flat (sw:Int) (t:Tr):zAO sw t.flat=zAO sw t:=by
 unfold zAO
 exact List.map_congr_left fun st _=>by rw [flat_on]
theorem flats_id {r:Bool}:∀ {qs:List Tr},(∀ q∈qs,q.flat=q∧isNd r q=false)→Tr.flats r qs=qs
 | [],_=>rfl
 | t::q,h=>by
  obtain ⟨a,b⟩:=h t (by simp)
  show Tr.un r t.flat++Tr.flats r q=_
  rw [a,flats_id fun x hx=>h x (by simp [hx])]
  cases t with
  | lf k o=>rfl
  | nd r' ps =>
   have b':(r' == r)=false:=b
   rw [un_nd,if_neg (by simpa using b')]; rfl
mutual
theorem flat_parts:∀ (t:Tr) (r:Bool) (qs:List Tr),t.flat=.nd r qs→∀ q∈qs,q.flat=q
 | .lf k o,r,qs,e=>by cases e
 | .nd r' ps,r,qs,e=>by
  have e':Tr.nd r' (Tr.flats r' ps)=.nd r qs:=e
  injection e' with e1 e2
  subst e1 e2
  exact flats_parts r' ps
theorem flats_parts (r:Bool):∀ (ps:List Tr),∀ q∈Tr.flats r ps,q.flat=q
 | [],q,h=>by cases h
 | t::ts,q,h=>by
  have h':q∈Tr.un r t.flat++Tr.flats r ts:=h
  rcases List.mem_append.mp h' with h1 | h1
  ·cases e:t.flat with
   | lf k o=>rw [e] at h1; simp [Tr.un] at h1; subst h1; rfl
   | nd r2 qs =>
    have hp:=flat_parts t r2 qs e
    rw [e,un_nd] at h1
    by_cases hr:r2=r
    ·rw [if_pos hr] at h1; exact hp q h1
    ·rw [if_neg hr] at h1
     simp at h1
     subst h1
     show Tr.nd r2 (Tr.flats r2 qs)=_
     rw [flats_id fun x hx=>⟨hp x hx,flat_no t r2 qs e x hx⟩]
  ·exact flats_parts r ts q h1
end
theorem flat_flat (t:Tr):t.flat.flat=t.flat:=by
 cases e:t.flat with
 | lf k o=>rfl
 | nd r qs =>
  show Tr.nd r (Tr.flats r qs)=_
  rw [flats_id fun x hx=>⟨flat_parts t r qs e x hx,flat_no t r qs e x hx⟩]
theorem tuns_app (b:Bool) (x y:List Tr):Tr.tuns b (x++y)=Tr.tuns b x++Tr.tuns b y:=by rw [tuns_map,tuns_map,tuns_map,List.map_append]
theorem un_tun (b r:Bool) (t:Tr):Tr.un (!r) (t.tun b)=Tr.tuns b (Tr.un r t):=by
 cases t with
 | lf k o=>rfl
 | nd r' qs =>
  show Tr.un (!r) (.nd (!r') (Tr.tuns b qs))=_
  rw [un_nd,un_nd]
  by_cases h:r'=r
  ·rw [if_pos h,if_pos (by rw [h])]
  ·rw [if_neg h,if_neg (by cases r <;> cases r' <;> simp at h ⊢)]; rfl
mutual
theorem flat_tun (b:Bool):∀ t:Tr,(t.tun b).flat=t.flat.tun b
 | .lf k o=>rfl
 | .nd r ps=>by show Tr.nd (!r) (Tr.flats (!r) (Tr.tuns b ps))=Tr.nd (!r) (Tr.tuns b (Tr.flats r ps)); rw [flats_tun b r ps]
theorem flats_tun (b r:Bool):∀ ps:List Tr,Tr.flats (!r) (Tr.tuns b ps)=Tr.tuns b (Tr.flats r ps)
 | []=>rfl
 | t::q=>by
  show Tr.un (!r) (t.tun b).flat++Tr.flats (!r) (Tr.tuns b q)=Tr.tuns b (Tr.un r t.flat++Tr.flats r q)
  rw [flat_tun b t,un_tun,flats_tun b r q,tuns_app]
end
theorem flat_agn (t:Tr):t.inv.ons.flat=t.flat.inv.ons:=by rw [← tun_ons,← tun_ons,flat_tun]
mutual
theorem ht_lv {sw:Int}:∀ t:Tr,t.wf sw→t.ht+1≤t.lv
 | .lf _ _,_=>Nat.le_refl _
 | .nd r ps,h=>by
  have a:=hts_lvs ps h.2
  have b:=h.1
  show Tr.hts ps+1+1≤Tr.lvs ps
  omega
theorem hts_lvs {sw:Int}:∀ ps:List Tr,Tr.wfs sw ps→Tr.hts ps+ps.length≤Tr.lvs ps
 | [],_=>Nat.le_refl _
 | t::q,h=>by
  have a:=ht_lv t h.1
  have b:=hts_lvs q h.2
  have c:=lvs_len q h.2
  show max t.ht (Tr.hts q)+(q.length+1)≤t.lv+Tr.lvs q
  omega
end
open PySem L2 Mt
structure Bd (α:Type) where
 a:Int
 b:Int
 t:α
section
variable {α β:Type}
noncomputable def Bd.has (x:Bd α) (p:Int):Bool:=decide (p=x.a)||decide (p=x.b)
noncomputable def mayV (p:Int) (bs:List (Bd α)):Bool:=decide (2≤p)&&decide ((bs.filter fun x=>x.has p).length=2)
noncomputable def Bd.far (x:Bd α) (p:Int):Int:=if x.a=p then x.b else x.a
noncomputable def rowB (rw:α→α→α) (x y:Bd α) (p:Int):Bd α:=⟨if y.far p<x.far p then y.far p else x.far p,if y.far p>x.far p then y.far p else x.far p,rw x.t y.t⟩
noncomputable def pairB (sd rw:α→α→α) (x y:Bd α) (bs:List (Bd α)):Option (Bd α) :=
 if x.a=y.a∧x.b=y.b then some ⟨x.a,x.b,sd x.t y.t⟩
 else if y.has x.a&&mayV x.a bs then some (rowB rw x y x.a)
 else if y.has x.b&&mayV x.b bs then some (rowB rw x y x.b)
 else none
noncomputable def inB (sd rw:α→α→α) (bs:List (Bd α)) (y:Bd α):List Nat→Option (Nat × Bd α)
 | []=>none
 | i::r=>match bs[i]? with
  | none=>none
  | some x=>match pairB sd rw x y bs with
   | some b=>some (i,b)
   | none=>inB sd rw bs y r
noncomputable def outB (sd rw:α→α→α) (bs:List (Bd α)):List (Nat × Bd α)→Option (Nat × Nat × Bd α)
 | []=>none
 | (j,y)::r=>match inB sd rw bs y (List.range j) with
  | some (i,b)=>some (i,j,b)
  | none=>outB sd rw bs r
noncomputable def putB (bs:List (Bd α)) (i j:Nat) (b:Bd α):List (Bd α):=bs.take i++[b]++(bs.drop (i+1)).take (j - (i+1))++bs.drop (j+1)
noncomputable def onceB (sd rw:α→α→α) (bs:List (Bd α)):Option (List (Bd α)):=(outB sd rw bs (enumP bs)).map fun q=>putB bs q.1 q.2.1 q.2.2
noncomputable def drawL (sd rw:α→α→α):Nat→List (Bd α)→List (Bd α)
 | 0,bs=>bs
 | n+1,bs=>match onceB sd rw bs with
  | some bs'=>drawL sd rw n bs'
  | none=>bs
noncomputable def Bd.mp (f:α→β) (x:Bd α):Bd β:=⟨x.a,x.b,f x.t⟩
theorem has_mp (f:α→β) (x:Bd α) (p:Int):(x.mp f).has p=x.has p:=rfl
theorem mayV_mp (f:α→β) (p:Int) (bs:List (Bd α)):mayV p (bs.map (Bd.mp f))=mayV p bs:=by
 unfold mayV
 rw [List.filter_map,List.length_map]
 rfl
section
variable {sd rw:α→α→α}{sd' rw':β→β→β}{f:α→β} (hs:∀ s t,f (sd s t)=sd' (f s) (f t)) (hr:∀ s t,f (rw s t)=rw' (f s) (f t))
include hs hr
theorem pairB_mp (x y:Bd α) (bs:List (Bd α)):pairB sd' rw' (x.mp f) (y.mp f) (bs.map (Bd.mp f))=(pairB sd rw x y bs).map (Bd.mp f):=by
 unfold pairB
 rw [mayV_mp,mayV_mp,has_mp,has_mp]
 have e1:(⟨x.a,x.b,sd' (f x.t) (f y.t)⟩:Bd β)=Bd.mp f ⟨x.a,x.b,sd x.t y.t⟩:=by unfold Bd.mp; rw [hs]
 have e2:∀ p,rowB rw' (x.mp f) (y.mp f) p=Bd.mp f (rowB rw x y p):=fun p=>by unfold Bd.mp rowB; rw [hr]; rfl
 by_cases c1:x.a=y.a∧x.b=y.b
 ·rw [if_pos c1,if_pos (show (x.mp f).a=(y.mp f).a∧(x.mp f).b=(y.mp f).b from c1)]
  exact congrArg some e1
 ·rw [if_neg c1,if_neg (show ¬ ((x.mp f).a=(y.mp f).a∧(x.mp f).b=(y.mp f).b) from c1),e2,e2]
  show (if (y.has x.a&&mayV x.a bs)=true then some (Bd.mp f (rowB rw x y x.a)) else if (y.has x.b&&mayV x.b bs)=true then some (Bd.mp f (rowB rw x y x.b)) else none)=_
  split
  ·rfl
  ·split <;> rfl
theorem inB_mp (bs:List (Bd α)) (y:Bd α):∀ is:List Nat,inB sd' rw' (bs.map (Bd.mp f)) (y.mp f) is=(inB sd rw bs y is).map fun q=>(q.1,q.2.mp f)
 | []=>rfl
 | i::r=>by
  unfold inB
  rw [List.getElem?_map]
  cases bs[i]? with
  | none=>rfl
  | some x =>
   show (match pairB sd' rw' (x.mp f) (y.mp f) (bs.map (Bd.mp f)) with | some b=>some (i,b) | none=>inB sd' rw' (bs.map (Bd.mp f)) (y.mp f) r)=Option.map _ (match pairB sd rw x y bs with | some b=>some (i,b) | none=>inB sd rw bs y r)
   rw [pairB_mp hs hr]
   cases pairB sd rw x y bs with
   | none=>exact inB_mp bs y r
   | some b=>rfl
theorem outB_mp (bs:List (Bd α)):∀ l:List (Nat × Bd α),outB sd' rw' (bs.map (Bd.mp f)) (l.map fun q=>(q.1,q.2.mp f))=(outB sd rw bs l).map fun q=>(q.1,q.2.1,q.2.2.mp f)
 | []=>rfl
 | (j,y)::r=>by
  show (match inB sd' rw' (bs.map (Bd.mp f)) (y.mp f) (List.range j) with | some (i,b)=>some (i,j,b) | none=>outB sd' rw' (bs.map (Bd.mp f)) (r.map _))=Option.map _ (match inB sd rw bs y (List.range j) with | some (i,b)=>some (i,j,b) | none=>outB sd rw bs r)
  rw [inB_mp hs hr]
  cases inB sd rw bs y (List.range j) with
  | none=>exact outB_mp bs r
  | some q=>rfl
theorem onceB_mp (bs:List (Bd α)):onceB sd' rw' (bs.map (Bd.mp f))=(onceB sd rw bs).map (List.map (Bd.mp f)):=by
 unfold onceB
 have e:enumP (bs.map (Bd.mp f))=(enumP bs).map fun q=>(q.1,q.2.mp f):=by
  unfold enumP
  rw [List.length_map]
  refine List.ext_getElem? fun i=>?_
  simp only [List.getElem?_map,List.getElem?_zip_eq_some,List.zip,List.getElem?_zipWith]
  cases (List.range bs.length)[i]? <;> cases bs[i]? <;> rfl
 rw [e,outB_mp hs hr]
 cases outB sd rw bs (enumP bs) with
 | none=>rfl
 | some q =>
  show some (putB (bs.map (Bd.mp f)) q.1 q.2.1 (q.2.2.mp f))=some ((putB bs q.1 q.2.1 q.2.2).map (Bd.mp f))
  unfold putB
  simp [List.map_append,List.map_take,List.map_drop]
theorem drawL_mp:∀ (n:Nat) (bs:List (Bd α)),drawL sd' rw' n (bs.map (Bd.mp f))=(drawL sd rw n bs).map (Bd.mp f)
 | 0,_=>rfl
 | n+1,bs=>by
  unfold drawL
  rw [onceB_mp hs hr]
  cases onceB sd rw bs with
  | none=>rfl
  | some bs'=>exact drawL_mp n bs'
end
theorem inB_some {sd rw:α→α→α}{bs:List (Bd α)}{y:Bd α}{i:Nat}{b:Bd α}:∀ {is:List Nat},inB sd rw bs y is=some (i,b)→i∈is∧∃ x,bs[i]?=some x∧pairB sd rw x y bs=some b
 | [],h=>by cases h
 | k::r,h=>by
  unfold inB at h
  split at h
  ·cases h
  ·rename_i x hx
   split at h
   ·rename_i b' hb
    cases h
    exact ⟨by simp,x,hx,hb⟩
   ·obtain ⟨m,q⟩:=inB_some h
    exact ⟨List.mem_cons_of_mem _ m,q⟩
theorem outB_some {sd rw:α→α→α}{bs:List (Bd α)}{i j:Nat}{b:Bd α}:∀ {l:List (Nat × Bd α)},outB sd rw bs l=some (i,j,b)→∃ y,(j,y)∈l∧i<j∧∃ x,bs[i]?=some x∧pairB sd rw x y bs=some b
 | [],h=>by cases h
 | (k,y)::r,h=>by
  unfold outB at h
  split at h
  ·rename_i i' b' hi
   cases h
   obtain ⟨m,x,hx,hp⟩:=inB_some hi
   exact ⟨y,by simp,List.mem_range.mp m,x,hx,hp⟩
  ·obtain ⟨y',m,q⟩:=outB_some h
   exact ⟨y',List.mem_cons_of_mem _ m,q⟩
theorem split_at {l:List α}{i:Nat}{x:α} (h:l[i]?=some x):l=l.take i++x::l.drop (i+1):=by
 obtain ⟨hi,rfl⟩:=List.getElem?_eq_some_iff.mp h
 rw [← List.drop_eq_getElem_cons hi,List.take_append_drop]
theorem onceB_some {sd rw:α→α→α}{bs bs':List (Bd α)} (h:onceB sd rw bs=some bs'):∃ A x B y C b,bs=A++x::(B++y::C)∧pairB sd rw x y bs=some b∧bs'=A++b::(B++C):=by
 unfold onceB at h
 obtain ⟨⟨i,j,b⟩,hq,rfl⟩:=Option.map_eq_some_iff.mp h
 obtain ⟨y,my,ij,x,hx,hp⟩:=outB_some hq
 have hy:=enumP_mem my
 have e1:=split_at hx
 have hy2:(bs.drop (i+1))[j - (i+1)]?=some y:=by
  rw [List.getElem?_drop,show i+1+(j - (i+1))=j by omega]; exact hy
 have e2:=split_at hy2
 rw [List.drop_drop,show i+1+(j - (i+1)+1)=j+1 by omega] at e2
 refine ⟨bs.take i,x,(bs.drop (i+1)).take (j - (i+1)),y,bs.drop (j+1),b,?_,hp,?_⟩
 ·rw [← e2]; exact e1
 ·show bs.take i++[b]++(bs.drop (i+1)).take (j - (i+1))++bs.drop (j+1)=_
  simp
theorem onceB_len {sd rw:α→α→α}{bs bs':List (Bd α)} (h:onceB sd rw bs=some bs'):bs'.length+1=bs.length:=by
 obtain ⟨A,x,B,y,C,b,rfl,_,rfl⟩:=onceB_some h
 simp; omega
end
noncomputable def sdT (s t:Tr):Tr:=.nd false [s,t]
noncomputable def rwT (s t:Tr):Tr:=.nd true [s,t]
def JBs (bs:List (Bd Tr)) (st:List Int):Prop:=∀ C:Int→Prop,C 0→(∀ e∈bs,e.t.on st=true→(C e.a↔C e.b))→C 1
structure BOk (sw:Int) (bs:List (Bd Tr)):Prop where
 e:∀ x∈bs,0≤x.a∧x.a<x.b∧x.b<7
 w:∀ x∈bs,x.t.wf sw
theorem sdT_on (s t:Tr) (st:List Int):(sdT s t).on st=(s.on st||t.on st):=by simp [sdT,Tr.on,Tr.onO]
theorem rwT_on (s t:Tr) (st:List Int):(rwT s t).on st=(s.on st&&t.on st):=by simp [rwT,Tr.on,Tr.onA]
theorem has_far {x:(Bd Tr)}{p:Int} (h:x.has p=true) (C:Int→Prop):(C x.a↔C x.b)↔(C p↔C (x.far p)):=by
 unfold Bd.has at h
 simp only [Bool.or_eq_true,decide_eq_true_eq] at h
 unfold Bd.far
 by_cases q:x.a=p
 ·rw [if_pos q,q]
 ·rw [if_neg q]
  rcases h with h | h
  ·exact absurd h.symm q
  ·rw [← h]; exact ⟨fun z=>z.symm,fun z=>z.symm⟩
theorem far_ne {x:(Bd Tr)}{p:Int} (h:x.has p=true) (hl:x.a<x.b):x.far p≠p∧((x.far p=x.a∧p=x.b)∨(x.far p=x.b∧p=x.a)):=by
 unfold Bd.has at h
 simp only [Bool.or_eq_true,decide_eq_true_eq] at h
 unfold Bd.far
 split <;> omega
theorem row_step {sw:Int}{A B C:List (Bd Tr)}{x y:(Bd Tr)}{p:Int} (ok:BOk sw (A++x::(B++y::C))) (hx:x.has p=true) (hy:y.has p=true) (hp:mayV p (A++x::(B++y::C))=true) (hn:¬ (x.a=y.a∧x.b=y.b)) :
  BOk sw (A++rowB rwT x y p::(B++C))∧∀ st,JBs (A++x::(B++y::C)) st↔JBs (A++rowB rwT x y p::(B++C)) st:=by
 unfold mayV at hp
 simp only [Bool.and_eq_true,decide_eq_true_eq] at hp
 obtain ⟨p2,hc⟩:=hp
 have no:∀ e,e∈A∨e∈B∨e∈C→e.has p=false:=by
  rw [List.filter_append,List.filter_cons,if_pos hx,List.filter_append,List.filter_cons,if_pos hy] at hc
  simp only [List.length_append,List.length_cons] at hc
  have a0:(A.filter fun e=>e.has p)=[]:=List.length_eq_zero_iff.mp (by omega)
  have b0:(B.filter fun e=>e.has p)=[]:=List.length_eq_zero_iff.mp (by omega)
  have c0:(C.filter fun e=>e.has p)=[]:=List.length_eq_zero_iff.mp (by omega)
  rintro e (h | h | h)
  ·simpa using List.filter_eq_nil_iff.mp a0 e h
  ·simpa using List.filter_eq_nil_iff.mp b0 e h
  ·simpa using List.filter_eq_nil_iff.mp c0 e h
 have ex:=ok.e x (by simp)
 have ey:=ok.e y (by simp)
 obtain ⟨nx,fx⟩:=far_ne hx ex.2.1
 obtain ⟨ny,fy⟩:=far_ne hy ey.2.1
 have ne:x.far p≠y.far p:=fun z=>hn (by omega)
 refine ⟨⟨fun e he=>?_,fun e he=>?_⟩,fun st=>?_⟩
 ·simp only [List.mem_append,List.mem_cons] at he
  rcases he with h | rfl | h | h
  ·exact ok.e e (by simp [h])
  ·show 0≤(if y.far p<x.far p then y.far p else x.far p)∧(if y.far p<x.far p then y.far p else x.far p)<(if y.far p>x.far p then y.far p else x.far p)∧(if y.far p>x.far p then y.far p else x.far p)<7
   split <;> split <;> omega
  ·exact ok.e e (by simp [h])
  ·exact ok.e e (by simp [h])
 ·simp only [List.mem_append,List.mem_cons] at he
  rcases he with h | rfl | h | h
  ·exact ok.w e (by simp [h])
  ·exact ⟨Nat.le_refl _,ok.w x (by simp),ok.w y (by simp),trivial⟩
  ·exact ok.w e (by simp [h])
  ·exact ok.w e (by simp [h])
 ·have bC:∀ D:Int→Prop,(D (rowB rwT x y p).a↔D (rowB rwT x y p).b)↔(D (x.far p)↔D (y.far p)):=fun D=>by
   show (D (if y.far p<x.far p then y.far p else x.far p)↔D (if y.far p>x.far p then y.far p else x.far p))↔_
   by_cases q:y.far p<x.far p
   ·rw [if_pos q,if_neg (by omega)]; exact ⟨fun z=>z.symm,fun z=>z.symm⟩
   ·rw [if_neg q,if_pos (by omega)]
  have bO:(rowB rwT x y p).t.on st=(x.t.on st&&y.t.on st):=rwT_on _ _ _
  constructor
  ·intro J D D0 hD
   obtain ⟨D',hD'⟩:∃ D':Int→Prop,D'=fun z=>if z=p then (if x.t.on st then D (x.far p) else D (y.far p)) else D z:=⟨_,rfl⟩
   have far':∀ q:Int,q≠p→(D' q↔D q):=fun q hq=>by
    rw [hD']
    show (if q=p then _ else D q)↔D q
    rw [if_neg hq]
   have atp:D' p↔if x.t.on st then D (x.far p) else D (y.far p):=by
    rw [hD']
    show (if p=p then _ else _)↔_
    rw [if_pos rfl]
   have:=J D' ((far' 0 (by omega)).mpr D0) fun e he on=>?_
   ·exact (far' 1 (by omega)).mp this
   ·simp only [List.mem_append,List.mem_cons] at he
    have other:e.has p=false→e∈A++rowB rwT x y p::(B++C)→(D' e.a↔D' e.b):=fun h m=>by
     unfold Bd.has at h
     simp only [Bool.or_eq_false_iff,decide_eq_false_iff_not] at h
     exact (far' e.a (Ne.symm h.1)).trans ((hD e m on).trans (far' e.b (Ne.symm h.2)).symm)
    rcases he with h | h | h | h | h
    ·exact other (no e (.inl h)) (by simp [h])
    ·subst h
     refine (has_far hx D').mpr (atp.trans (Iff.trans ?_ (far' _ nx).symm))
     rw [if_pos on]
    ·exact other (no e (.inr (.inl h))) (by simp [h])
    ·subst h
     refine (has_far hy D').mpr (atp.trans (Iff.trans ?_ (far' _ ny).symm))
     by_cases q:x.t.on st=true
     ·rw [if_pos q]
      exact (bC D).mp (hD (rowB rwT x e p) (by simp) (by rw [bO,q,on]; rfl))
     ·rw [if_neg q]
    ·exact other (no e (.inr (.inr h))) (by simp [h])
  ·intro J D D0 hD
   refine J D D0 fun e he on=>?_
   simp only [List.mem_append,List.mem_cons] at he
   rcases he with h | rfl | h | h
   ·exact hD e (by simp [h]) on
   ·rw [bO,Bool.and_eq_true] at on
    have a1:=(has_far hx D).mp (hD x (by simp) on.1)
    have a2:=(has_far hy D).mp (hD y (by simp) on.2)
    exact (bC D).mpr (a1.symm.trans a2)
   ·exact hD e (by simp [h]) on
   ·exact hD e (by simp [h]) on
theorem side_step {sw:Int}{A B C:List (Bd Tr)}{x y:(Bd Tr)} (ok:BOk sw (A++x::(B++y::C))) (ha:x.a=y.a) (hb:x.b=y.b) :
  BOk sw (A++⟨x.a,x.b,sdT x.t y.t⟩::(B++C))∧∀ st,JBs (A++x::(B++y::C)) st↔JBs (A++⟨x.a,x.b,sdT x.t y.t⟩::(B++C)) st:=by
 refine ⟨⟨fun e he=>?_,fun e he=>?_⟩,fun st=>?_⟩
 ·simp only [List.mem_append,List.mem_cons] at he
  rcases he with h | rfl | h | h
  ·exact ok.e e (by simp [h])
  ·exact ok.e x (by simp)
  ·exact ok.e e (by simp [h])
  ·exact ok.e e (by simp [h])
 ·simp only [List.mem_append,List.mem_cons] at he
  rcases he with h | rfl | h | h
  ·exact ok.w e (by simp [h])
  ·exact ⟨Nat.le_refl _,ok.w x (by simp),ok.w y (by simp),trivial⟩
  ·exact ok.w e (by simp [h])
  ·exact ok.w e (by simp [h])
 ·constructor
  ·intro J D D0 hD
   have hb':(x.t.on st||y.t.on st)=true→(D x.a↔D x.b):=fun z=>hD ⟨x.a,x.b,sdT x.t y.t⟩ (by simp) (by rw [sdT_on]; exact z)
   refine J D D0 fun e he on=>?_
   simp only [List.mem_append,List.mem_cons] at he
   rcases he with h | rfl | h | rfl | h
   ·exact hD e (by simp [h]) on
   ·exact hb' (by rw [on]; rfl)
   ·exact hD e (by simp [h]) on
   ·rw [← ha,← hb]; exact hb' (by rw [on]; simp)
   ·exact hD e (by simp [h]) on
  ·intro J D D0 hD
   refine J D D0 fun e he on=>?_
   simp only [List.mem_append,List.mem_cons] at he
   rcases he with h | rfl | h | h
   ·exact hD e (by simp [h]) on
   ·rw [sdT_on,Bool.or_eq_true] at on
    show D x.a↔D x.b
    rcases on with on | on
    ·exact hD x (by simp) on
    ·rw [ha,hb]; exact hD y (by simp) on
   ·exact hD e (by simp [h]) on
   ·exact hD e (by simp [h]) on
noncomputable def lvB (bs:List (Bd Tr)):Nat:=Tr.lvs (bs.map Bd.t)
structure Same (sw:Int) (bs bs':List (Bd Tr)):Prop where
 ok:BOk sw bs'
 lv:lvB bs'=lvB bs
 j:∀ st,JBs bs st↔JBs bs' st
theorem once_same {sw:Int}{bs bs':List (Bd Tr)} (ok:BOk sw bs) (h:onceB sdT rwT bs=some bs'):Same sw bs bs':=by
 obtain ⟨A,x,B,y,C,b,rfl,hp,rfl⟩:=onceB_some h
 have lvs:b.t.lv=x.t.lv+y.t.lv→lvB (A++b::(B++C))=lvB (A++x::(B++y::C)):=fun e=>by
  unfold lvB
  simp only [List.map_append,List.map_cons,lvs_app]
  show _+(b.t.lv+Tr.lvs _)=_+(x.t.lv+Tr.lvs _)
  simp only [lvs_app]
  show _+(b.t.lv+(_+Tr.lvs _))=_+(x.t.lv+(_+(y.t.lv+Tr.lvs _)))
  omega
 have two:∀ r (s t:Tr),(Tr.nd r [s,t]).lv=s.lv+t.lv:=fun r s t=>by show s.lv+(t.lv+0)=_; omega
 unfold pairB at hp
 split at hp
 ·rename_i q
  cases hp
  obtain ⟨o,j⟩:=side_step ok q.1 q.2
  exact ⟨o,lvs (two _ _ _),j⟩
 ·rename_i q
  split at hp
  ·rename_i z
   cases hp
   rw [Bool.and_eq_true] at z
   obtain ⟨o,j⟩:=row_step ok (by simp [Bd.has]) z.1 z.2 q
   exact ⟨o,lvs (two _ _ _),j⟩
  ·split at hp
   ·rename_i z
    cases hp
    rw [Bool.and_eq_true] at z
    obtain ⟨o,j⟩:=row_step ok (by simp [Bd.has]) z.1 z.2 q
    exact ⟨o,lvs (two _ _ _),j⟩
   ·cases hp
theorem draw_same {sw:Int}:∀ (n:Nat) {bs:List (Bd Tr)},BOk sw bs→Same sw bs (drawL sdT rwT n bs)
 | 0,bs,ok=>⟨ok,rfl,fun _=>Iff.rfl⟩
 | n+1,bs,ok=>by
  unfold drawL
  cases e:onceB sdT rwT bs with
  | none=>exact ⟨ok,rfl,fun _=>Iff.rfl⟩
  | some bs' =>
   have a:=once_same ok e
   have b:=draw_same n a.ok
   exact ⟨b.ok,b.lv.trans a.lv,fun st=>(a.j st).trans (b.j st)⟩
open PySem L2 Mt
variable {cl:Nat→CLL}
theorem NOk.g2 {sw:Int}{p c:Nat}{N:Net} (s1:1≤sw) (s4:sw≤4) (h:NOk sw p c N) (hp:N.pl≤7) (hc:c≤16):N.g:=⟨by rw [h.s]; exact s1,by rw [h.s]; exact s4,h.p1,hp,by have:=h.c1; omega,by rw [h.s]; exact h.c2⟩
theorem jn_len (r:Bool) (N M:Net):(jn r N M).cs.length=N.cs.length+M.cs.length:=by cases r <;> simp [jn,Net.row,Net.side]
structure LayR (sw:Int) (t:Tr):Prop where
 ok:NOk sw (t.lv+1) t.lv (t.lay sw)
 len:(t.lay sw).cs.length=t.lv
 on:t.lv≤6→∀ st,zBe (t.lay sw) st=t.on st
theorem fold_lets {sw:Int} (s1:1≤sw) (s4:sw≤4) {r:Bool}:∀ (ts:List Tr) {N:Net}{c:Nat},(∀ t∈ts,LayR sw t)→NOk sw (c+1) c N →
  ((ts.map (Tr.lay sw)).foldl (jn r) N).cs.length=N.cs.length+Tr.lvs ts∧(c+Tr.lvs ts≤6→∀ st,zBe ((ts.map (Tr.lay sw)).foldl (jn r) N) st=onF r st (zBe N st) ts)
 | [],N,c,_,h=>⟨rfl,fun _ _=>rfl⟩
 | t::ts,N,c,ht,h=>by
  have lt:=ht t (by simp)
  obtain ⟨o,_,_⟩:=jn_ok r h lt.ok
  obtain ⟨a,b⟩:=fold_lets s1 s4 (r:=r) ts (N:=jn r N (t.lay sw)) (c:=c+t.lv) (fun t' h'=>ht t' (by simp [h'])) (o.up (by omega) (Nat.le_refl _))
  rw [List.map_cons,List.foldl_cons]
  refine ⟨?_,fun hc st=>?_⟩
  ·rw [a,jn_len,lt.len]
   show N.cs.length+t.lv+Tr.lvs ts=N.cs.length+(t.lv+Tr.lvs ts)
   omega
  ·have hc':c+(t.lv+Tr.lvs ts)≤6:=hc
   rw [b (by omega) st]
   have gN:N.g:=h.g2 s1 s4 (by have:=h.p2; omega) (by omega)
   have gT:(t.lay sw).g:=lt.ok.g2 s1 s4 (by have:=lt.ok.p2; omega) (by omega)
   have e:zBe (jn r N (t.lay sw)) st=cmb r (zBe N st) (t.on st):=by
    rw [← lt.on (by omega) st]
    cases r
    ·exact side_lets gN gT st
    ·exact row_lets gN gT st
   show onF r st _ ts=onF r st (cmb r (zBe N st) (t.on st)) ts
   rw [e]
theorem lay_all {sw:Int} (s1:1≤sw) (s4:sw≤4):∀ (K:Nat) (t:Tr),t.ht≤K→t.wf sw→LayR sw t:=by
 have leaf:∀ k o,(Tr.lf k o).wf sw→LayR sw (.lf k o):=fun k o hw=>⟨lay_ok 0 _ (Nat.le_refl _) hw,rfl,fun _ st=>lone_lets sw k o st⟩
 intro K
 induction K with
 | zero =>
  intro t ht hw
  cases t with
  | lf k o=>exact leaf k o hw
  | nd r ps=>simp [Tr.ht] at ht
 | succ K ih =>
  intro t ht hw
  cases t with
  | lf k o=>exact leaf k o hw
  | nd r ps =>
   have ht':Tr.hts ps+1≤K+1:=ht
   have hw':2≤ps.length∧Tr.wfs sw ps:=hw
   cases ps with
   | nil=>simp at hw'
   | cons t0 ts =>
    have each:∀ t∈t0::ts,LayR sw t:=fun t hm=>ih t (by have:=zBf hm; omega) (wfs_mem hw'.2 t hm)
    have l0:=each t0 (by simp)
    obtain ⟨a,b⟩:=fold_lets s1 s4 (r:=r) ts (fun t hm=>each t (List.mem_cons_of_mem _ hm)) l0.ok
    refine ⟨lay_ok (K+1) _ ht hw,?_,fun hv st=>?_⟩
    ·rw [lay_nd,a,l0.len]; rfl
    ·have hv':t0.lv+Tr.lvs ts≤6:=hv
     rw [lay_nd,b hv' st,onF_nd,l0.on (by omega) st]
theorem lay_fun {sw:Int}{t:Tr} (h:LayR sw t) (hv:t.lv≤6):funP (t.lay sw)=zAO sw t:=by
 unfold funP zAO
 rw [h.ok.s]
 exact List.map_congr_left fun st _=>by rw [h.on hv st]; rfl
structure HNo (cl:Nat→CLL):Prop where
 ro:Hs_in_row cl
 si:Hs_side_by_side cl
 wi:Hs_net_within cl
 mo:HM cl
 ln:Hs_lone_net cl
 no:Hs_net_of cl
theorem join_spec (H:HNo cl) (n:Nat) {r:Bool}{N M:Net} (okN:N.g) (okM:M.g) (okJ:(jn r N M).g) (S:zA1):Spc (cl (n+3) (if r then "in_row" else "side_by_side") [N.d,M.d] S) (jn r N M).d S:=by
 cases r
 ·exact side_spec H.si H.wi H.mo n okN okM okJ S
 ·exact in_row_spec H.ro H.wi H.mo n okN okM okJ S
theorem no2_ok (c:CLL) {r:Bool}{sw:D}{X:List D}{Nd pd Md Jd:D}{w4:Option D}{S S1 S2:zA1} (e1:c "net_of" [sw,pd] S=.ok Md S1) (e2:c (if r then "in_row" else "side_by_side") [Nd,Md] S1=.ok Jd S2):net_of_l1 c [some sw,some (.tup [.str (kw r),.tup X]),some Nd,some pd,w4] S=.nx [some sw,some (.tup [.str (kw r),.tup X]),some Jd,some pd,some Md] S2:=by
 cases r
 ·rw [if_neg Bool.false_ne_true] at e2
  simp [net_of_l1,e1,kw_row,e2]
 ·rw [if_pos rfl] at e2
  simp [net_of_l1,e1,kw_row,e2]
theorem no2_leaf (c:CLL) {sw k o:Int}{nd:D}{S:zA1} (e1:c "lone_net" [.int sw,.tup [.str (Str.ofString "at"),.int k,.int o]] S=.ok nd S):b_net_of c [some (.int sw),some (.tup [.str (Str.ofString "at"),.int k,.int o]),none,none,none] S=.rt nd S:=by
 simp [b_net_of,e1]
theorem no2_node (c:CLL) {r:Bool}{sw p0 a d:D}{ps:List D}{w3 w4:Option D}{S S1 S2:zA1} (cd:cutD (p0::ps) (some 1) none=ps) (hl:ps.length<lim) (e0:c "net_of" [sw,p0] S=.ok a S1) (e:zAA [] (gN 3) (net_of_l1 c) ps [some sw,some (.tup [.str (kw r),.tup (p0::ps)]),some a,none,none] S1=.nx [some sw,some (.tup [.str (kw r),.tup (p0::ps)]),some d,w3,w4] S2) :
  b_net_of c [some sw,some (.tup [.str (kw r),.tup (p0::ps)]),none,none,none] S=.rt d S2:=by
 have i0:atI (p0::ps) 0=some p0:=atI_nat (j:=0) rfl
 simp [b_net_of,kw_at,i0,e0,cd,hl,e]
theorem lp2_nil (g:G) (b:CS) (ρ:Env1) (S:zA1):zAA [] g b [] ρ S=.nx ρ S:=by unfold zAA; rw [if_pos (zAv _)]
theorem lp2_nx {i:Nat}{b:CS}{d:D}{ds:List D}{ρ ρ2:Env1}{S S2:zA1} (e:b (ρ.set i (some d)) S=.nx ρ2 S2):zAA [] (gN i) b (d::ds) ρ S=zAA [] (gN i) b ds ρ2 S2:=by
 conv=>lhs; unfold zAA
 rw [if_pos (zAv _),gN_ev]
 dsimp only
 rw [e]
inductive LpO (r:RS) (sw:Int) (Td:D) (N:Net) (S:zA1):Prop
 | mk (S':zA1) (x:Ex S S') (w3 w4:Option D) (e:r=.nx [some (.int sw),some Td,some N.d,w3,w4] S')
theorem lay_g {sw:Int} (s1:1≤sw) (s4:sw≤4) {t:Tr} (h:LayR sw t) (hv:t.lv≤6):(t.lay sw).g:=h.ok.g2 s1 s4 (by have:=h.ok.p2; omega) (by omega)
theorem net_loop2 (H:HNo cl) (n:Nat) {sw:Int} (s1:1≤sw) (s4:sw≤4) {r:Bool}{X:List D}:∀ (ps:List Tr) {N:Net}{c:Nat} (w3 w4:Option D) (S:zA1),(∀ t∈ps,LayR sw t)→(∀ t∈ps,∀ S,Spc (cl (n+3) "net_of" [.int sw,t.d] S) (t.lay sw).d S)→NOk sw (c+1) c N→c+Tr.lvs ps≤6 →
  LpO (zAA [] (gN 3) (net_of_l1 (cl (n+3))) (ps.map Tr.d) [some (.int sw),some (.tup [.str (kw r),.tup X]),some N.d,w3,w4] S) sw (.tup [.str (kw r),.tup X]) ((ps.map (Tr.lay sw)).foldl (jn r) N) S
 | [],N,c,w3,w4,S,_,_,okN,_=>⟨S,Kp.refl _ _,w3,w4,lp2_nil _ _ _ _⟩
 | t::ps,N,c,w3,w4,S,nok,each,okN,hc=>by
  have hc':c+(t.lv+Tr.lvs ps)≤6:=hc
  have lt:=nok t (by simp)
  obtain ⟨okJ,l1,l2⟩:=jn_ok r okN lt.ok
  obtain ⟨S1,e1,x1⟩:=each t (by simp) S
  obtain ⟨S2,e2,x2⟩:=join_spec H n (r:=r) (okN.g2 s1 s4 (by have:=okN.p2; omega) (by omega)) (lay_g s1 s4 lt (by omega)) (okJ.g2 s1 s4 (by have:=okJ.p2; omega) (by omega)) S1
  have e:=no2_ok (cl (n+3)) (r:=r) (X:=X) (w4:=w4) e1 e2
  obtain ⟨S3,x3,v3,v4,g⟩:=net_loop2 H n s1 s4 (r:=r) (X:=X) ps (N:=jn r N (t.lay sw)) (c:=c+t.lv) (some t.d) (some (t.lay sw).d) S2 (fun t' h'=>nok t' (by simp [h'])) (fun t' h'=>each t' (by simp [h'])) (okJ.up (by omega) (Nat.le_refl _)) (by omega)
  rw [List.map_cons,List.map_cons,List.foldl_cons]
  refine ⟨S3,(x1.trans x2).trans x3,v3,v4,?_⟩
  rw [lp2_nx (ρ:=[some (.int sw),some (.tup [.str (kw r),.tup X]),some N.d,w3,w4]) e]
  exact g
theorem net_of_spec2 (H:HNo cl) {sw:Int} (s1:1≤sw) (s4:sw≤4):∀ (K:Nat) (t:Tr),t.ht≤K→t.wf sw→t.lv≤6→∀ (n:Nat) (S:zA1),Spc (cl (n+K+3) "net_of" [.int sw,t.d] S) (t.lay sw).d S:=by
 have leaf:∀ (k o:Int) (n:Nat) (S:zA1),Spc (cl (n+3) "net_of" [.int sw,(Tr.lf k o).d] S) ((Tr.lf k o).lay sw).d S:=fun k o n S=>by
  refine ⟨S,?_,Kp.refl _ _⟩
  rw [show n+3=(n+2)+1 from rfl,H.no]
  exact zA7 rfl (no2_leaf _ (lone_spec H.ln (n+1) sw k o S))
 intro K
 induction K with
 | zero =>
  intro t ht' hw hv n S
  cases t with
  | lf k o=>exact leaf k o n S
  | nd r ps=>simp [Tr.ht] at ht'
 | succ K ih =>
  intro t hh hw hv n S
  cases t with
  | lf k o=>exact leaf k o (n+(K+1)) S
  | nd r ps =>
   have hh':Tr.hts ps+1≤K+1:=hh
   have hw':2≤ps.length∧Tr.wfs sw ps:=hw
   have hv':Tr.lvs ps≤6:=hv
   cases ps with
   | nil=>simp at hw'
   | cons t0 ps =>
    have hv0:t0.lv+Tr.lvs ps≤6:=hv'
    have mlv:∀ t∈t0::ps,t.lv≤6:=fun t hm=>by
     have:∀ (l:List Tr) (t:Tr),t∈l→t.lv≤Tr.lvs l:=fun l=>by
      induction l with
      | nil=>intro t h; cases h
      | cons a l ih =>
       intro t h
       show t.lv≤a.lv+Tr.lvs l
       rcases List.mem_cons.mp h with rfl | h
       ·omega
       ·have:=ih t h; omega
     have:=this _ t hm
     omega
    have nok:∀ t∈t0::ps,LayR sw t:=fun t hm=>lay_all s1 s4 K t (by have:=zBf hm; omega) (wfs_mem hw'.2 t hm)
    have each:∀ t∈t0::ps,∀ S,Spc (cl (n+K+3) "net_of" [.int sw,t.d] S) (t.lay sw).d S:=fun t hm S=>ih t (by have:=zBf hm; omega) (wfs_mem hw'.2 t hm) (mlv t hm) n S
    have hd:(Tr.nd r (t0::ps)).d=.tup [.str (kw r),.tup (t0.d::ps.map Tr.d)]:=by simp [Tr.d,Tr.ds,ds_map]
    have cd:cutD (t0.d::ps.map Tr.d) (some 1) none=ps.map Tr.d:=by rw [cutD_drop _ (by decide)]; rfl
    have hl:(ps.map Tr.d).length<lim:=by rw [List.length_map,zBd]; have:=lvs_len ps hw'.2.2; omega
    obtain ⟨S1,e1,x1⟩:=each t0 (by simp) S
    obtain ⟨S2,x2,w3,w4,e⟩:=net_loop2 H (n+K) s1 s4 (r:=r) (X:=t0.d::ps.map Tr.d) ps (c:=t0.lv) none none S1 (fun t h=>nok t (List.mem_cons_of_mem _ h)) (fun t h=>each t (List.mem_cons_of_mem _ h)) (nok t0 (by simp)).ok hv0
    rw [hd,lay_nd]
    refine ⟨S2,?_,x1.trans x2⟩
    rw [show n+(K+1)+3=(n+K+3)+1 by omega,H.no]
    exact zA7 rfl (no2_node _ cd hl e1 e)
noncomputable def u2 (_ _:Unit):Unit:=()
noncomputable def shp (N:Net):List (Bd Unit):=N.cs.map fun c=>⟨c.a,c.b,()⟩
mutual
noncomputable def Tr.sk:Tr→Tr
 | .lf _ _=>.lf 0 0
 | .nd r ps=>.nd r (Tr.sks ps)
noncomputable def Tr.sks:List Tr→List Tr
 | []=>[]
 | t::q=>t.sk::Tr.sks q
end
theorem sks_map:∀ ps:List Tr,Tr.sks ps=ps.map Tr.sk
 | []=>rfl
 | t::q=>by show t.sk::Tr.sks q=_; rw [sks_map q]; rfl
structure SameS (N M:Net):Prop where
 p:N.pl=M.pl
 s:shp N=shp M
theorem shp_mv (f:Int→Int) (cs cs':List Ct) (h:cs.map (fun c=>(⟨c.a,c.b,()⟩:Bd Unit))=cs'.map (fun c=>(⟨c.a,c.b,()⟩:Bd Unit))):(cs.map (Ct.mv f)).map (fun c=>(⟨c.a,c.b,()⟩:Bd Unit))=(cs'.map (Ct.mv f)).map (fun c=>(⟨c.a,c.b,()⟩:Bd Unit)):=by
 have e:∀ l:List Ct,(l.map (Ct.mv f)).map (fun c=>(⟨c.a,c.b,()⟩:Bd Unit))=(l.map fun c=>(⟨c.a,c.b,()⟩:Bd Unit)).map fun b=>⟨if f b.b<f b.a then f b.b else f b.a,if f b.b>f b.a then f b.b else f b.a,()⟩:=fun l=>by rw [List.map_map,List.map_map]; rfl
 rw [e,e,h]
theorem jn_shp (r:Bool) {N N' M M':Net} (a:SameS N N') (b:SameS M M'):SameS (jn r N M) (jn r N' M'):=by
 have a2:=a.s; have b2:=b.s
 unfold shp at a2 b2
 cases r
 ·refine ⟨by show N.pl+M.pl - 2=N'.pl+M'.pl - 2; rw [a.p,b.p],?_⟩
  show (N.cs++M.cs.map (Ct.mv (sideF N.pl))).map _=(N'.cs++M'.cs.map (Ct.mv (sideF N'.pl))).map _
  rw [List.map_append,List.map_append,a2,a.p,shp_mv _ _ _ b2]
 ·refine ⟨by show N.pl+M.pl - 2+1=N'.pl+M'.pl - 2+1; rw [a.p,b.p],?_⟩
  show (N.cs.map (Ct.mv (rowF1 (N.pl+M.pl - 2)))++M.cs.map (Ct.mv (rowF2 N.pl (N.pl+M.pl - 2)))).map _=(N'.cs.map (Ct.mv (rowF1 (N'.pl+M'.pl - 2)))++M'.cs.map (Ct.mv (rowF2 N'.pl (N'.pl+M'.pl - 2)))).map _
  rw [List.map_append,List.map_append,a.p,b.p,shp_mv _ _ _ a2,shp_mv _ _ _ b2]
theorem fold_shp (r:Bool) (sw:Int):∀ (ts:List Tr) {N M:Net},(∀ t∈ts,SameS (t.lay sw) (t.sk.lay 1))→SameS N M→SameS ((ts.map (Tr.lay sw)).foldl (jn r) N) (((ts.map Tr.sk).map (Tr.lay 1)).foldl (jn r) M)
 | [],_,_,_,h=>h
 | t::ts,N,M,ht,h=>fold_shp r sw ts (fun t' h'=>ht t' (by simp [h'])) (jn_shp r h (ht t (by simp)))
theorem lay_shp (sw:Int):∀ (K:Nat) (t:Tr),t.ht≤K→SameS (t.lay sw) (t.sk.lay 1):=by
 intro K
 induction K with
 | zero =>
  intro t ht
  cases t with
  | lf k o=>exact ⟨rfl,rfl⟩
  | nd r ps=>simp [Tr.ht] at ht
 | succ K ih =>
  intro t ht
  cases t with
  | lf k o=>exact ⟨rfl,rfl⟩
  | nd r ps =>
   have ht':Tr.hts ps+1≤K+1:=ht
   cases ps with
   | nil=>exact ⟨rfl,rfl⟩
   | cons t0 ts =>
    have each:∀ t∈t0::ts,SameS (t.lay sw) (t.sk.lay 1):=fun t hm=>ih t (by have:=zBf hm; omega)
    have e:(Tr.nd r (t0::ts)).sk=.nd r (t0.sk::ts.map Tr.sk):=by show Tr.nd r (t0.sk::Tr.sks ts)=_; rw [sks_map]
    rw [e,lay_nd,lay_nd]
    exact fold_shp r sw ts (fun t hm=>each t (List.mem_cons_of_mem _ hm)) (each t0 (by simp))
noncomputable def okU (bs:List (Bd Unit)):Bool:=match drawL u2 u2 6 bs with
 | [x]=>decide (x.a=0)&&decide (x.b=1)
 | _=>false
noncomputable def okTr (t:Tr):Bool:=okU (shp (t.lay 1))
noncomputable def l0:Tr:=.lf 0 0
noncomputable def L2s:List Tr:=[l0,.nd true [l0,l0],.nd false [l0,l0]]
noncomputable def L3s:List Tr:=L2s++[.nd true [l0,l0,l0],.nd false [l0,l0,l0]]++([true,false].flatMap fun r=>[true,false].flatMap fun q=>[.nd r [l0,.nd q [l0,l0]],.nd r [.nd q [l0,l0],l0]])
theorem okTr_all:(L3s.all fun x=>okTr x&&L3s.all fun y=>okTr (.nd true [x,y])&&okTr (.nd false [y,x]))=true:=by decide +kernel
theorem sk1 {sw:Int}{t:Tr} (h:t.wf sw) (hv:t.lv≤1):t.sk=l0:=by
 cases t with
 | lf k o=>rfl
 | nd r ps =>
  have a:=lvs_len ps h.2
  have b:2≤ps.length:=h.1
  have c:Tr.lvs ps≤1:=hv
  omega
theorem two_parts {sw:Int}{ps:List Tr} (h:Tr.wfs sw ps) (h2:2≤ps.length) (hv:Tr.lvs ps≤2):∃ a b,ps=[a,b]∧a.sk=l0∧b.sk=l0:=by
 have hl:=lvs_len ps h
 match ps,h,h2,hv,hl with
 | [a,b],h,_,hv,_ =>
  have hv':a.lv+(b.lv+0)≤2:=hv
  have a1:=lv_pos a h.1
  have b1:=lv_pos b h.2.1
  exact ⟨a,b,rfl,sk1 h.1 (by omega),sk1 h.2.1 (by omega)⟩
 | a::b::c::r,h,_,hv,hl=>simp at hl; omega
theorem sk2 {sw:Int}{t:Tr} (h:t.wf sw) (hv:t.lv≤2):t.sk=l0∨∃ r,t.sk=.nd r [l0,l0]:=by
 cases t with
 | lf k o=>exact .inl rfl
 | nd r ps =>
  obtain ⟨a,b,rfl,ha,hb⟩:=two_parts h.2 h.1 hv
  exact .inr ⟨r,by show Tr.nd r [a.sk,b.sk]=_; rw [ha,hb]⟩
theorem sk3 {sw:Int}{t:Tr} (h:t.wf sw) (hv:t.lv≤3):t.sk∈L3s:=by
 cases t with
 | lf k o=>simp [Tr.sk,L3s,L2s,l0]
 | nd r ps =>
  have h2:2≤ps.length:=h.1
  have hw:Tr.wfs sw ps:=h.2
  have hv':Tr.lvs ps≤3:=hv
  have hl:=lvs_len ps hw
  match ps,hw,h2,hv',hl with
  | [a,b],hw,_,hv,_ =>
   have hv':a.lv+(b.lv+0)≤3:=hv
   have a1:=lv_pos a hw.1
   have b1:=lv_pos b hw.2.1
   show Tr.nd r [a.sk,b.sk]∈L3s
   by_cases q:a.lv≤1
   ·rw [sk1 hw.1 q]
    rcases sk2 hw.2.1 (by omega) with e | ⟨q,e⟩
    ·rw [e]; cases r <;> simp [L3s,L2s,l0]
    ·rw [e]; cases r <;> cases q <;> simp [L3s,L2s,l0]
   ·rw [sk1 hw.2.1 (by omega)]
    rcases sk2 hw.1 (by omega) with e | ⟨q,e⟩
    ·rw [e]; cases r <;> simp [L3s,L2s,l0]
    ·rw [e]; cases r <;> cases q <;> simp [L3s,L2s,l0]
  | [a,b,c],hw,_,hv,_ =>
   have hv':a.lv+(b.lv+(c.lv+0))≤3:=hv
   have a1:=lv_pos a hw.1
   have b1:=lv_pos b hw.2.1
   have c1:=lv_pos c hw.2.2.1
   show Tr.nd r [a.sk,b.sk,c.sk]∈L3s
   rw [sk1 hw.1 (by omega),sk1 hw.2.1 (by omega),sk1 hw.2.2.1 (by omega)]
   cases r <;> simp [L3s,L2s,l0]
  | a::b::c::d::q,hw,_,hv,hl=>simp at hl; omega
open PySem L2 Mt
variable {cl:Nat→CLL}
noncomputable def Bd.d (x:Bd Tr):D:=.tup [.int x.a,.int x.b,x.t.d]
noncomputable def obD:Option (Bd Tr)→D
 | none=>.non
 | some b=>b.d
noncomputable def bdsN (N:Net):List (Bd Tr):=N.cs.map fun c=>⟨c.a,c.b,.lf c.k c.o⟩
theorem cutD_32 (x y z:D):cutD [x,y,z] none (some 2)=[x,y]:=rfl
theorem oIn_two (p a b:Int) (S:zA1):oIn false (.int p) (.tup [.int a,.int b]) S=.ok (.bl (decide (p=a)||decide (p=b))) S:=by
 have q:decide (p∈[a,b])=(decide (p=a)||decide (p=b)):=by simp [Bool.decide_or]
 rw [← q]
 exact oIn_ints false p [a,b] S
theorem lim3:2+1≤lim∧2+2≤lim∧4<lim:=by decide
theorem bonds_of_spec (h:Hs_bonds_of cl) (n:Nat) (N:Net) (hl:N.cs.length≤100) (S:zA1):cl (n+1) "bonds_of" [N.d] S=.ok (.lst S.length) (S++[.lst ((bdsN N).map Bd.d)]):=by
 have e:loopC [] .one (fun _=>ret true) (bonds_of_e1 (cl n)) [none] (N.cs.map Ct.d) S=.ok (N.cs.map fun c=>Bd.d ⟨c.a,c.b,.lf c.k c.o⟩) S :=
  comp_pureM Ct.d (zAv S) _ _ fun c _=>⟨_,rfl,by simp [bonds_of_e1,Ct.d,Bd.d,Tr.d]⟩
 have e2:(bdsN N).map Bd.d=N.cs.map fun c=>Bd.d ⟨c.a,c.b,.lf c.k c.o⟩:=by unfold bdsN; rw [List.map_map]; rfl
 rw [h,e2]
 refine zA7 rfl ?_
 have hl':(N.cs.map Ct.d).length<lim:=by rw [List.length_map]; have:=lim_big; omega
 rw [Net.d_eq]
 generalize (N.cs.map fun c=>Bd.d ⟨c.a,c.b,.lf c.k c.o⟩)=R at *
 generalize N.cs.map Ct.d=B at *
 simp [b_bonds_of,zA6,e,hl']
theorem mv_run (c:CLL) {p:Int}{k:Nat}{B R:List D}{S:zA1}{L:Int} (hk:zA5 S k=some B) (hl:B.length<lim) (hp:2≤p) (e:loopC [(k,B)] .one (may_vanish_t1 c) (may_vanish_e1 c) [none,some (.int p)] B S=.ok R S) (f:fLen [.lst S.length] (S++[.lst R])=.ok (.int L) (S++[.lst R])) :
  zAP c [some (.int p),some (.lst k)] S=.rt (.bl (decide (L=2))) (S++[.lst R]):=by simp [zAP,hk,hl,hp,e,f]
theorem mv_no (c:CLL) {p:Int}{k:Nat}{S:zA1} (hp:¬ 2≤p):zAP c [some (.int p),some (.lst k)] S=.rt (.bl false) S:=by simp [zAP,hp]
theorem may_vanish_spec (h:Hs_may_vanish cl) (n:Nat) {bs:List (Bd Tr)} (hl:bs.length≤100) {S:zA1}{k:Nat} (hk:zA5 S k=some (bs.map Bd.d)) (p:Int):Spc (cl (n+1) "may_vanish" [.int p,.lst k] S) (.bl (mayV p bs)) S:=by
 rw [h]
 by_cases hp:2≤p
 ·have e:loopC [(k,bs.map Bd.d)] .one (may_vanish_t1 (cl n)) (may_vanish_e1 (cl n)) [none,some (.int p)] (bs.map Bd.d) S=.ok ((bs.filter fun x=>x.has p).map Bd.d) S :=
   comp_pure Bd.d (okW_one hk) _ _ _ fun x _=>⟨_,rfl,by simp [may_vanish_t1,Bd.d,cutD_32,oIn_two,Bd.has],fun _=>by simp [may_vanish_e1]⟩
  have f:=fLen_lst (zA4 S ((bs.filter fun x=>x.has p).map Bd.d))
  have r:=mv_run (cl n) hk (by rw [List.length_map]; have:=lim_big; omega) hp e f
  refine ⟨_,zA7 rfl r |>.trans ?_,zAc S [.lst ((bs.filter fun x=>x.has p).map Bd.d)]⟩
  have:mayV p bs=decide ((((bs.filter fun x=>x.has p).map Bd.d).length:Int)=2):=by
   unfold mayV
   rw [decide_eq_true hp,Bool.true_and,List.length_map]
   exact decide_eq_decide.mpr (by omega)
  rw [this]
 ·refine ⟨S,zA7 rfl (mv_no (cl n) hp) |>.trans ?_,Kp.refl _ _⟩
  have:mayV p bs=false:=by unfold mayV; rw [decide_eq_false hp]; rfl
  rw [this]
theorem dl_no1 (c:CLL) {xd kd:D}{ya yb p:Int}{yt:D}{w4:Option D}{S:zA1} (h:(decide (p=ya)||decide (p=yb))=false):zAd c [some xd,some (.tup [.int ya,.int yb,yt]),some kd,some (.int p),w4] S=.nx [some xd,some (.tup [.int ya,.int yb,yt]),some kd,some (.int p),w4] S:=by
 have h2:oIn false (.int p) (.tup [.int ya,.int yb]) S=.ok (.bl false) S:=by rw [oIn_two,h]
 simp [zAd,cutD_32,h2]
theorem dl_no2 (c:CLL) {xd kd:D}{ya yb p:Int}{yt:D}{w4:Option D}{S S1:zA1} (h:(decide (p=ya)||decide (p=yb))=true) (m:c "may_vanish" [.int p,kd] S=.ok (.bl false) S1):zAd c [some xd,some (.tup [.int ya,.int yb,yt]),some kd,some (.int p),w4] S=.nx [some xd,some (.tup [.int ya,.int yb,yt]),some kd,some (.int p),w4] S1:=by
 have h2:oIn false (.int p) (.tup [.int ya,.int yb]) S=.ok (.bl true) S:=by rw [oIn_two,h]
 simp [zAd,cutD_32,h2,m]
theorem dl_yes (c:CLL) {kd:D}{xa xb ya yb p u v m0 m1:Int}{xt yt:D}{j:Nat}{w4:Option D}{S S1 S2 S3:zA1} (h:(decide (p=ya)||decide (p=yb))=true) (m:c "may_vanish" [.int p,kd] S=.ok (.bl true) S1)
  (e:loopC [] .one (drawn_pair_t1 c) (drawn_pair_e1 c) [none,some (.int p)] [.int xa,.int xb,.int ya,.int yb] S1=.ok [.int u,.int v] S1) (h2:S1++[.lst [.int u,.int v]]=S2) (so:fSorted [.lst S1.length] S2=.ok (.lst j) S3) (i0:oIx (.lst j) (.int 0) S3=.ok (.int m0) S3) (i1:oIx (.lst j) (.int 1) S3=.ok (.int m1) S3) :
  zAd c [some (.tup [.int xa,.int xb,xt]),some (.tup [.int ya,.int yb,yt]),some kd,some (.int p),w4] S=.rt (.tup [.int m0,.int m1,.tup [.str (Str.ofString "row"),.tup [xt,yt]]]) S3:=by
 have h3:oIn false (.int p) (.tup [.int ya,.int yb]) S=.ok (.bl true) S:=by rw [oIn_two,h]
 obtain ⟨l1,l2,l3⟩:=lim3
 simp [zAd,cutD_32,h3,m,e,h2,so,i0,i1,l1,l2,l3]
theorem dp_side (c:CLL) {xa xb ya yb:Int}{xt yt kd:D}{S:zA1} (q:oEq (.tup [.int xa,.int xb]) (.tup [.int ya,.int yb]) S=.ok (.bl true) S) :
  zAx c [some (.tup [.int xa,.int xb,xt]),some (.tup [.int ya,.int yb,yt]),some kd,none,none] S=.rt (.tup [.int xa,.int xb,.tup [.str (Str.ofString "side"),.tup [xt,yt]]]) S:=by
 obtain ⟨l1,l2,l3⟩:=lim3
 simp [zAx,cutD_32,q,l1]
theorem dp_loop (c:CLL) {xa xb ya yb:Int}{xt yt kd d:D}{ρ:Env1}{S S':zA1} (q:oEq (.tup [.int xa,.int xb]) (.tup [.int ya,.int yb]) S=.ok (.bl false) S)
  (e:zAA [] (gN 3) (zAd c) [.int xa,.int xb] [some (.tup [.int xa,.int xb,xt]),some (.tup [.int ya,.int yb,yt]),some kd,none,none] S=.rt d S'∨(d=.non∧zAA [] (gN 3) (zAd c) [.int xa,.int xb] [some (.tup [.int xa,.int xb,xt]),some (.tup [.int ya,.int yb,yt]),some kd,none,none] S=.nx ρ S')) :
  zAx c [some (.tup [.int xa,.int xb,xt]),some (.tup [.int ya,.int yb,yt]),some kd,none,none] S=.rt d S':=by
 rcases e with e | ⟨rfl,e⟩
 ·simp [zAx,cutD_32,q,e]
 ·simp [zAx,cutD_32,q,e]
theorem ends_far {x y:Bd Tr}{p:Int} (hx:x.has p=true) (lx:x.a<x.b) (hy:y.has p=true) (ly:y.a<y.b):[x.a,x.b,y.a,y.b].filter (fun e=>!decide (e=p))=[x.far p,y.far p]:=by
 obtain ⟨_,fx⟩:=far_ne hx lx
 obtain ⟨_,fy⟩:=far_ne hy ly
 have two:∀ a b:Int,a<b→∀ q,(q=a∧p=b)∨(q=b∧p=a)→[a,b].filter (fun e=>!decide (e=p))=[q]:=by
  rintro a b l q (⟨rfl,rfl⟩ | ⟨rfl,rfl⟩)
  ·have n1:¬ q=p:=by omega
   simp [List.filter_cons,n1]
  ·have n1:¬ q=p:=by omega
   simp [List.filter_cons,n1]
 have e:=two _ _ lx _ fx
 have e2:=two _ _ ly _ fy
 show ([x.a,x.b]++[y.a,y.b]).filter _=_
 rw [List.filter_append,e,e2]
 rfl
theorem lp_rt {i:Nat}{b:CS}{d r:D}{ds:List D}{ρ:Env1}{S S2:zA1} (e:b (ρ.set i (some d)) S=.rt r S2):zAA [] (gN i) b (d::ds) ρ S=.rt r S2:=by
 conv=>lhs; unfold zAA
 rw [if_pos (zAv _),gN_ev]
 dsimp only
 rw [e]
structure HDr (cl:Nat→CLL):Prop where
 bo:Hs_bonds_of cl
 mv:Hs_may_vanish cl
 dp:Hs_drawn_pair cl
 on:Hs_drawn_once cl
 to:Hs_tree_of cl
theorem end_turn (H:HDr cl) (n:Nat) {bs:List (Bd Tr)} (hl:bs.length≤100) {x y:Bd Tr} (lx:x.a<x.b) (ly:y.a<y.b) {p:Int} (hx:x.has p=true) {S:zA1}{k:Nat} (hk:zA5 S k=some (bs.map Bd.d)) (w4:Option D) :
  ∃ S1,Ex S S1∧((y.has p&&mayV p bs)=true→zAd (cl (n+1)) [some x.d,some y.d,some (.lst k),some (.int p),w4] S=.rt (rowB rwT x y p).d S1) ∧
   ((y.has p&&mayV p bs)=false→zAd (cl (n+1)) [some x.d,some y.d,some (.lst k),some (.int p),w4] S=.nx [some x.d,some y.d,some (.lst k),some (.int p),w4] S1):=by
 cases hy:y.has p with
 | false=>exact ⟨S,Kp.refl _ _,(fun z=>by cases z),fun _=>dl_no1 (cl (n+1)) hy⟩
 | true =>
  obtain ⟨S1,m,x1⟩:=may_vanish_spec H.mv n hl hk p
  cases hm:mayV p bs with
  | false=>rw [hm] at m; exact ⟨S1,x1,(fun z=>by cases z),fun _=>dl_no2 (cl (n+1)) hy m⟩
  | true =>
   rw [hm] at m
   have e:loopC [] .one (drawn_pair_t1 (cl (n+1))) (drawn_pair_e1 (cl (n+1))) [none,some (.int p)] ([x.a,x.b,y.a,y.b].map D.int) S1=.ok (([x.a,x.b,y.a,y.b].filter fun e=>!decide (e=p)).map D.int) S1 :=
    comp_pure D.int (zAv S1) _ _ _ fun q _=>⟨_,rfl,by simp [drawn_pair_t1],fun _=>by simp [drawn_pair_e1]⟩
   rw [ends_far hx lx hy ly] at e
   have so:=fSorted_lst (ns:=[x.far p,y.far p]) (zA4 S1 [.int (x.far p),.int (y.far p)]) (by show 2<64; decide)
   rw [isort_two] at so
   have l3:=zA4 (S1++[.lst [.int (x.far p),.int (y.far p)]]) (([if y.far p<x.far p then y.far p else x.far p,if y.far p>x.far p then y.far p else x.far p]:List Int).map D.int)
   have i0:=oIx_lst l3 0
   have i1:=oIx_lst l3 1
   simp only [List.map_cons,List.map_nil,atI_0,atI_1] at i0 i1 so
   exact ⟨_,x1.trans ((zAc _ _).trans (zAc _ _)),fun _=>dl_yes (cl (n+1)) hy m e rfl so i0 i1,(fun z=>by cases z)⟩
theorem drawn_pair_spec (H:HDr cl) (n:Nat) {bs:List (Bd Tr)} (hl:bs.length≤100) {x y:Bd Tr} (lx:x.a<x.b) (ly:y.a<y.b) {S:zA1}{k:Nat} (hk:zA5 S k=some (bs.map Bd.d)):Spc (cl (n+2) "drawn_pair" [x.d,y.d,.lst k] S) (obD (pairB sdT rwT x y bs)) S:=by
 have q:oEq (.tup [.int x.a,.int x.b]) (.tup [.int y.a,.int y.b]) S=.ok (.bl (decide (x.a=y.a∧x.b=y.b))) S:=by
  rw [oEq_plain S rfl rfl]
  have:eqB (D.tup [.int x.a,.int x.b]) (.tup [.int y.a,.int y.b])=decide (x.a=y.a∧x.b=y.b):=bool_ext (eqB_iff.trans (by simp))
  rw [this]
 rw [show n+2=(n+1)+1 from rfl,H.dp]
 unfold pairB
 by_cases c1:x.a=y.a∧x.b=y.b
 ·rw [if_pos c1]
  rw [decide_eq_true c1] at q
  exact ⟨S,zA7 rfl (dp_side (cl (n+1)) q),Kp.refl _ _⟩
 ·rw [if_neg c1]
  rw [decide_eq_false c1] at q
  obtain ⟨S1,x1,a1,a2⟩:=end_turn H n hl lx ly (p:=x.a) (by simp [Bd.has]) hk none
  by_cases c2:(y.has x.a&&mayV x.a bs)=true
  ·rw [if_pos c2]
   exact ⟨S1,zA7 rfl (dp_loop (cl (n+1)) (ρ:=[]) q (.inl (lp_rt (a1 c2)))),x1⟩
  ·rw [if_neg c2]
   have c2':(y.has x.a&&mayV x.a bs)=false:=by simpa using c2
   obtain ⟨S2,x2,b1,b2⟩:=end_turn H n hl lx ly (p:=x.b) (by simp [Bd.has]) (x1.lst hk fun z=>z) none
   have l1:=lp2_nx (ds:=[.int x.b]) (i:=3) (ρ:=[some x.d,some y.d,some (.lst k),none,none]) (a2 c2')
   by_cases c3:(y.has x.b&&mayV x.b bs)=true
   ·rw [if_pos c3]
    refine ⟨S2,zA7 rfl (dp_loop (cl (n+1)) (ρ:=[]) q (.inl ?_)),x1.trans x2⟩
    exact l1.trans (lp_rt (b1 c3))
   ·rw [if_neg c3]
    have c3':(y.has x.b&&mayV x.b bs)=false:=by simpa using c3
    refine ⟨S2,zA7 rfl (dp_loop (cl (n+1)) (ρ:=[some x.d,some y.d,some (.lst k),some (.int x.b),none]) q (.inr ⟨rfl,?_⟩)),x1.trans x2⟩
    exact l1.trans ((lp2_nx (ds:=[]) (i:=3) (ρ:=[some x.d,some y.d,some (.lst k),some (.int x.a),none]) (b2 c3')).trans (lp2_nil _ _ _ _))
open PySem L2 Mt
variable {cl:Nat→CLL}
theorem loop_srch {α β:Type} (e:α→D) {w:Watch}{g:G}{b:CS} (P:Env1→zA1→Prop) (R:β→D→zA1→Prop) (hw:∀ ρ S,P ρ S→okW w S) (f:α→Option β):∀ (l:List α) {ρ:Env1}{S:zA1},P ρ S →
  (∀ a∈l,∀ ρ S,P ρ S→∃ ρ1 S1,g (e a) ρ S=.ok ρ1 S1∧((∃ q,f a=some q∧∃ d S2,b ρ1 S1=.rt d S2∧R q d S2)∨(f a=none∧∃ ρ2 S2,b ρ1 S1=.nx ρ2 S2∧P ρ2 S2))) →
  (∃ q d S',l.findSome? f=some q∧zAA w g b (l.map e) ρ S=.rt d S'∧R q d S')∨(∃ ρ' S',l.findSome? f=none∧zAA w g b (l.map e) ρ S=.nx ρ' S'∧P ρ' S')
 | [],ρ,S,h0,hs=>.inr ⟨ρ,S,rfl,by rw [List.map_nil]; unfold zAA; rw [if_pos (hw ρ S h0)],h0⟩
 | a::l,ρ,S,h0,hs=>by
  obtain ⟨ρ1,S1,e1,h⟩:=hs a (by simp) ρ S h0
  rw [List.map_cons]
  unfold zAA
  rw [if_pos (hw ρ S h0),e1]
  dsimp only
  rcases h with ⟨q,hq,d,S2,e2,r⟩ | ⟨hq,ρ2,S2,e2,p2⟩
  ·rw [e2]
   exact .inl ⟨q,d,S2,by rw [List.findSome?_cons,hq],rfl,r⟩
  ·rw [e2,List.findSome?_cons,hq]
   exact loop_srch e P R hw f l p2 fun a' h'=>hs a' (by simp [h'])
noncomputable def inF (bs:List (Bd Tr)) (y:Bd Tr) (i:Nat):Option (Nat × Bd Tr):=bs[i]?.bind fun x=>(pairB sdT rwT x y bs).map fun b=>(i,b)
noncomputable def outF (bs:List (Bd Tr)) (q:Nat × Bd Tr):Option (Nat × Nat × Bd Tr):=((List.range q.1).findSome? (inF bs q.2)).map fun z=>(z.1,q.1,z.2)
theorem inB_fs {bs:List (Bd Tr)}{y:Bd Tr}:∀ {is:List Nat},(∀ i∈is,i<bs.length)→inB sdT rwT bs y is=is.findSome? (inF bs y)
 | [],_=>rfl
 | i::r,h=>by
  have hi:=h i (by simp)
  unfold inB
  rw [List.getElem?_eq_getElem hi,List.findSome?_cons]
  unfold inF
  rw [List.getElem?_eq_getElem hi]
  dsimp only [Option.bind]
  cases pairB sdT rwT bs[i] y bs with
  | some b=>rfl
  | none=>exact inB_fs fun i hi=>h i (by simp [hi])
theorem outB_fs {bs:List (Bd Tr)}:∀ {l:List (Nat × Bd Tr)},(∀ q∈l,q.1≤bs.length)→outB sdT rwT bs l=l.findSome? (outF bs)
 | [],_=>rfl
 | (j,y)::r,h=>by
  unfold outB
  rw [inB_fs fun i hi=>by have:=List.mem_range.mp hi; have:=h (j,y) (by simp); omega,List.findSome?_cons]
  unfold outF
  cases (List.range j).findSome? (inF bs y) with
  | some z=>rfl
  | none=>exact outB_fs fun q hq=>h q (by simp [hq])
theorem dn_ret (c:CLL) {k a1 a4 a5 a6 a7 a8:Nat}{i j:Int}{xd yd bd:D}{w4:Option D}{S S1 S2 S3 S4 S5 S6 S7 S8:zA1} (i1:oIx (.lst k) (.int i) S=.ok xd S) (e:c "drawn_pair" [xd,yd,.lst k] S=.ok bd S1) (hb:bd.isNon=false)
  (s1:oSl (.lst k) none (some i) S1=.ok (.lst a1) S2) (h3:S2++[.lst [bd]]=S3) (s4:oAdd (.lst a1) (.lst S2.length) S3=.ok (.lst a4) S4) (s5:oSl (.lst k) (some (i+1)) (some j) S4=.ok (.lst a5) S5) (s6:oAdd (.lst a4) (.lst a5) S5=.ok (.lst a6) S6) (s7:oSl (.lst k) (some (j+1)) none S6=.ok (.lst a7) S7) (s8:oAdd (.lst a6) (.lst a7) S7=.ok (.lst a8) S8) :
  zAh c [some (.lst k),some (.int j),some yd,some (.int i),w4] S=.rt (.lst a8) S8:=by
 simp [zAh,i1,e,hb,s1,h3,s4,s5,s6,s7,s8]
theorem dn_no (c:CLL) {k:Nat}{i j:Int}{xd yd:D}{w4:Option D}{S S1:zA1} (i1:oIx (.lst k) (.int i) S=.ok xd S) (e:c "drawn_pair" [xd,yd,.lst k] S=.ok .non S1) :
  zAh c [some (.lst k),some (.int j),some yd,some (.int i),w4] S=.nx [some (.lst k),some (.int j),some yd,some (.int i),some .non] S1:=by
 have:D.isNon .non=true:=rfl
 simp [zAh,i1,e,this]
theorem cutD_sub (xs:List D) {i j:Nat} (hj:j≤xs.length) (hi:i≤j):cutD xs (some (i:Int)) (some (j:Int))=(xs.drop i).take (j - i):=by
 unfold cutD
 rw [HT.sIx_nat,HT.sIx_nat,Nat.min_eq_left hj,Nat.min_eq_left (Nat.le_trans hi hj)]
theorem put_run (c:CLL) {bs:List (Bd Tr)} (hl:bs.length≤100) {k i j:Nat} (hij:i<j) (hj:j<bs.length) {x y b:Bd Tr}{w4:Option D}{S S1:zA1} (hk:zA5 S k=some (bs.map Bd.d)) (x1:Ex S S1) (hx:bs[i]?=some x) (e:c "drawn_pair" [x.d,y.d,.lst k] S=.ok b.d S1) :
  ∃ a S',zAh c [some (.lst k),some (.int j),some y.d,some (.int i),w4] S=.rt (.lst a) S'∧zA5 S' a=some ((putB bs i j b).map Bd.d)∧Ex S S':=by
 have i1:oIx (.lst k) (.int (i:Nat)) S=.ok x.d S:=by rw [oIx_lst hk,atI_nat (by rw [List.getElem?_map,hx]; rfl)]
 have k1:=x1.lst hk fun z=>z
 have s1:=oSl_lst k1 none (some (i:Int))
 rw [cutD_take _ (by omega),Int.toNat_natCast] at s1
 obtain ⟨S2,h2⟩:∃ S2,S1++[.lst ((bs.map Bd.d).take i)]=S2:=⟨_,rfl⟩
 have x2:Ex S1 S2:=h2▸zAc _ _
 have m1:zA5 S2 S1.length=some ((bs.map Bd.d).take i):=h2▸zA4 _ _
 rw [h2] at s1
 obtain ⟨S3,h3⟩:∃ S3,S2++[.lst [b.d]]=S3:=⟨_,rfl⟩
 have x3:Ex S2 S3:=h3▸zAc _ _
 have m3:zA5 S3 S2.length=some [b.d]:=h3▸zA4 _ _
 have li:=lim_big
 have s4:=oAdd_lst (x3.lst m1 fun z=>z) m3 (by rw [List.length_take,List.length_map,List.length_singleton]; omega)
 obtain ⟨S4,h4⟩:∃ S4,S3++[.lst ((bs.map Bd.d).take i++[b.d])]=S4:=⟨_,rfl⟩
 rw [h4] at s4
 have x4:Ex S3 S4:=h4▸zAc _ _
 have m4:zA5 S4 S3.length=some ((bs.map Bd.d).take i++[b.d]):=h4▸zA4 _ _
 have k4:=((x2.trans x3).trans x4).lst k1 fun z=>z
 have s5:=oSl_lst k4 (some ((i+1:Nat):Int)) (some (j:Int))
 rw [cutD_sub _ (by rw [List.length_map]; omega) (by omega)] at s5
 obtain ⟨S5,h5⟩:∃ S5,S4++[.lst (((bs.map Bd.d).drop (i+1)).take (j - (i+1)))]=S5:=⟨_,rfl⟩
 rw [h5] at s5
 have x5:Ex S4 S5:=h5▸zAc _ _
 have m5:zA5 S5 S4.length=some (((bs.map Bd.d).drop (i+1)).take (j - (i+1))):=h5▸zA4 _ _
 have s6:=oAdd_lst (x5.lst m4 fun z=>z) m5 (by simp only [List.length_append,List.length_take,List.length_drop,List.length_map,List.length_singleton]; omega)
 obtain ⟨S6,h6⟩:∃ S6,S5++[.lst ((bs.map Bd.d).take i++[b.d]++((bs.map Bd.d).drop (i+1)).take (j - (i+1)))]=S6:=⟨_,rfl⟩
 rw [h6] at s6
 have x6:Ex S5 S6:=h6▸zAc _ _
 have m6:zA5 S6 S5.length=some ((bs.map Bd.d).take i++[b.d]++((bs.map Bd.d).drop (i+1)).take (j - (i+1))):=h6▸zA4 _ _
 have s7:=oSl_lst ((x5.trans x6).lst k4 fun z=>z) (some ((j+1:Nat):Int)) none
 rw [cutD_drop _ (by omega),Int.toNat_natCast] at s7
 obtain ⟨S7,h7⟩:∃ S7,S6++[.lst ((bs.map Bd.d).drop (j+1))]=S7:=⟨_,rfl⟩
 rw [h7] at s7
 have x7:Ex S6 S7:=h7▸zAc _ _
 have m7:zA5 S7 S6.length=some ((bs.map Bd.d).drop (j+1)):=h7▸zA4 _ _
 have s8:=oAdd_lst (x7.lst m6 fun z=>z) m7 (by simp only [List.length_append,List.length_take,List.length_drop,List.length_map,List.length_singleton]; omega)
 refine ⟨S7.length,_,dn_ret c i1 e rfl s1 h3 s4 (by exact s5) s6 (by exact s7) s8,?_,?_⟩
 ·rw [zA4]
  unfold putB
  simp [List.map_append,List.map_take,List.map_drop]
 ·exact x1.trans (x2.trans (x3.trans (x4.trans (x5.trans (x6.trans (x7.trans (zAc _ _)))))))
theorem do_l1 (c:CLL) {k:Nat}{j:Int}{yd d:D}{w3 w4:Option D}{ρ:Env1}{S S':zA1} (h0:0≤j) (hj:j<1000) :
  (zAA [] (gN 3) (zAh c) (upD 0 j.toNat) [some (.lst k),some (.int j),some yd,w3,w4] S=.rt d S'→zAr c [some (.lst k),some (.int j),some yd,w3,w4] S=.rt d S') ∧
  (zAA [] (gN 3) (zAh c) (upD 0 j.toNat) [some (.lst k),some (.int j),some yd,w3,w4] S=.nx ρ S'→zAr c [some (.lst k),some (.int j),some yd,w3,w4] S=.nx ρ S'):=by
 have a:(-4611686018427387904:Int)≤j:=by omega
 have b:j<4611686018427387904:=by omega
 constructor
 ·intro e; simp [zAr,e,a,b]
 ·intro e; simp [zAr,e,a,b]
inductive OnR (r:R D) (bs:List (Bd Tr)) (S:zA1):Prop
 | yes (bs':List (Bd Tr)) (k':Nat) (S':zA1) (h:onceB sdT rwT bs=some bs') (e:r=.ok (.lst k') S') (l:zA5 S' k'=some (bs'.map Bd.d)) (x:Ex S S')
 | no (S':zA1) (h:onceB sdT rwT bs=none) (e:r=.ok .non S') (x:Ex S S')
theorem do_run (c:CLL) {k:Nat}{B:List D}{d:D}{ρ:Env1}{S S':zA1} (hk:zA5 S k=some B) :
  (zAA [(k,B)] (gT [gN 1,gN 2]) (zAr c) (enumD B) [some (.lst k),none,none,none,none] S=.rt d S'→zAT c [some (.lst k),none,none,none,none] S=.rt d S') ∧
  (zAA [(k,B)] (gT [gN 1,gN 2]) (zAr c) (enumD B) [some (.lst k),none,none,none,none] S=.nx ρ S'→zAT c [some (.lst k),none,none,none,none] S=.rt .non S'):=by
 constructor
 ·intro e; simp [zAT,hk,e]
 ·intro e; simp [zAT,hk,e]
theorem drawn_once_spec (H:HDr cl) (n:Nat) {sw:Int}{bs:List (Bd Tr)} (ok:BOk sw bs) (hl:bs.length≤100) {S:zA1}{k:Nat} (hk:zA5 S k=some (bs.map Bd.d)):OnR (cl (n+3) "drawn_once" [.lst k] S) bs S:=by
 have key:=loop_srch (fun q:Nat × Bd Tr=>.tup [.int (q.1:Nat),q.2.d]) (w:=[(k,bs.map Bd.d)]) (g:=gT [gN 1,gN 2]) (b:=zAr (cl (n+2))) (fun ρ S'=>(∃ w1 w2 w3 w4,ρ=[some (.lst k),w1,w2,w3,w4])∧Ex S S')
  (fun q d S'=>∃ a,d=.lst a∧zA5 S' a=some ((putB bs q.1 q.2.1 q.2.2).map Bd.d)∧Ex S S') (fun ρ S' hp=>okW_one (hp.2.lst hk fun z=>z)) (outF bs) (enumP bs) (ρ:=[some (.lst k),none,none,none,none]) (S:=S) ⟨⟨_,_,_,_,rfl⟩,Kp.refl _ _⟩
  (fun q hq ρ S' hp=>by
   obtain ⟨j,y⟩:=q
   obtain ⟨⟨w1,w2,w3,w4,rfl⟩,x⟩:=hp
   have hy:=enumP_mem hq
   dsimp only at hy
   have jl:j<bs.length:=(List.getElem?_eq_some_iff.mp hy).1
   refine ⟨[some (.lst k),some (.int (j:Nat)),some y.d,w3,w4],S',rfl,?_⟩
   have inn:=loop_srch (fun i:Nat=>D.int (0+(i:Nat))) (w:=[]) (g:=gN 3) (b:=zAh (cl (n+2))) (fun ρ S'=>(∃ w3 w4,ρ=[some (.lst k),some (.int (j:Nat)),some y.d,w3,w4])∧Ex S S')
    (fun q d S'=>∃ a,d=.lst a∧zA5 S' a=some ((putB bs q.1 j q.2).map Bd.d)∧Ex S S') (fun ρ S' _=>zAv _) (inF bs y) (List.range j) (ρ:=[some (.lst k),some (.int (j:Nat)),some y.d,w3,w4]) (S:=S') ⟨⟨_,_,rfl⟩,x⟩
    (fun i hi ρ S2 hp=>by
     obtain ⟨⟨w3,w4,rfl⟩,x2⟩:=hp
     have hij:=List.mem_range.mp hi
     have il:i<bs.length:=by omega
     have hx:bs[i]?=some bs[i]:=List.getElem?_eq_getElem il
     refine ⟨_,S2,rfl,?_⟩
     have hk2:=x2.lst hk fun z=>z
     obtain ⟨S3,e3,x3⟩:=drawn_pair_spec H n hl (x:=bs[i]) (y:=y) (ok.e _ (List.getElem_mem il)).2.1 (ok.e _ (List.mem_of_getElem? hy)).2.1 hk2
     unfold inF
     rw [hx]
     dsimp only [Option.bind]
     show (∃ q,_=some q∧∃ d S2_1,zAh (cl (n+2)) [some (.lst k),some (.int (j:Nat)),some y.d,some (.int (0+(i:Nat))),w4] S2=_∧_)∨_
     rw [Int.zero_add]
     cases hp:pairB sdT rwT bs[i] y bs with
     | some b =>
      rw [hp] at e3
      obtain ⟨a,S4,e4,l4,x4⟩:=put_run (cl (n+2)) hl hij jl (w4:=w4) hk2 x3 hx e3
      exact .inl ⟨(i,b),rfl,_,S4,e4,a,rfl,l4,x2.trans x4⟩
     | none =>
      rw [hp] at e3
      have i1:oIx (.lst k) (.int (i:Nat)) S2=.ok (bs[i]).d S2:=by rw [oIx_lst hk2,atI_nat (by rw [List.getElem?_map,hx]; rfl)]
      exact .inr ⟨rfl,_,S3,dn_no (cl (n+2)) i1 e3,⟨_,_,rfl⟩,x2.trans x3⟩)
   have hu:(List.range j).map (fun i:Nat=>D.int (0+(i:Nat)))=upD 0 ((j:Int)).toNat:=by rw [Int.toNat_natCast]; rfl
   rw [hu] at inn
   unfold outF
   dsimp only
   rcases inn with ⟨q,d,S3,f1,f2,a,rfl,l3,x3⟩ | ⟨ρ',S3,f1,f2,⟨v3,v4,rfl⟩,x3⟩
   ·rw [f1]
    exact .inl ⟨(q.1,j,q.2),rfl,_,S3,(do_l1 (cl (n+2)) (ρ:=[]) (by omega) (by omega)).1 f2,a,rfl,l3,x3⟩
   ·rw [f1]
    exact .inr ⟨rfl,_,S3,(do_l1 (cl (n+2)) (d:=.non) (by omega) (by omega)).2 f2,⟨_,_,_,_,rfl⟩,x3⟩)
 rw [← enumD_map] at key
 have ho:onceB sdT rwT bs=((enumP bs).findSome? (outF bs)).map fun q=>putB bs q.1 q.2.1 q.2.2:=by
  unfold onceB
  rw [outB_fs fun q hq=>by have:=(List.getElem?_eq_some_iff.mp (enumP_mem hq)).1; omega]
 rw [show n+3=(n+2)+1 from rfl,H.on]
 rcases key with ⟨q,d,S',f1,f2,a,rfl,l,x⟩ | ⟨ρ',S',f1,f2,_,x⟩
 ·exact .yes _ a S' (by rw [ho,f1]; rfl) (zA7 rfl ((do_run (cl (n+2)) (ρ:=[]) hk).1 f2)) l x
 ·exact .no S' (by rw [ho,f1]; rfl) (zA7 rfl ((do_run (cl (n+2)) (d:=.non) hk).2 f2)) x
theorem drawL_stab {α:Type}{sd rw:α→α→α}:∀ (n:Nat) {bs:List (Bd α)},bs.length≤n→drawL sd rw (n+1) bs=drawL sd rw n bs
 | 0,bs,h=>by
  have:bs=[]:=List.length_eq_zero_iff.mp (by omega)
  subst this; rfl
 | n+1,bs,h=>by
  show (match onceB sd rw bs with | some bs'=>drawL sd rw (n+1) bs' | none=>bs)=(match onceB sd rw bs with | some bs'=>drawL sd rw n bs' | none=>bs)
  cases e:onceB sd rw bs with
  | none=>rfl
  | some bs'=>exact drawL_stab n (by have:=onceB_len e; omega)
theorem tof_run (c:CLL) {nd v v' td:D}{k0 k:Nat}{S S1 S2 S3:zA1} (e1:c "bonds_of" [nd] S=.ok (.lst k0) S1) (e2:c "drawn_once" [.lst k0] S1=.ok v S2) (e3:whileS wfuel (zA9 (cBin oIsNot (cVar 2) (cCon .non))) (tree_of_l1 c) [some nd,some (.lst k0),some v] S2=.nx [some nd,some (.lst k),some v'] S3)
  (fl:fLen [.lst k] S3=.ok (.int 1) S3) (ix:oIx (.lst k) (.int 0) S3=.ok (.tup [.int 0,.int 1,td]) S3):b_tree_of c [some nd,none,none] S=.rt td S3:=by
 have q:oEq (.tup [.int 0,.int 1]) (.tup [.int 0,.int 1]) S3=.ok (.bl true) S3:=by rw [oEq_plain S3 rfl rfl,eqB_self]
 simp [b_tree_of,e1,e2,e3,fl,ix,cutD_32,q]
theorem tl_run (c:CLL) {nd d v:D}{k0:Option D}{S S1:zA1} (e:c "drawn_once" [d] S=.ok v S1):tree_of_l1 c [some nd,k0,some d] S=.nx [some nd,some d,some v] S1:=by
 simp [tree_of_l1,e]
theorem tt_run (ρ0 ρ1:Option D) (d:D) (S:zA1):zA9 (cBin oIsNot (cVar 2) (cCon .non)) [ρ0,ρ1,some d] S=.ok (!d.isNon) S:=by simp
inductive ToP (nd:D) (sw:Int) (F:List (Bd Tr)) (S0:zA1) (m:Nat) (ρ:Env1) (S:zA1):Prop
 | yes (bs bs':List (Bd Tr)) (k k':Nat) (h:ρ=[some nd,some (.lst k),some (.lst k')]) (l:zA5 S k=some (bs.map Bd.d)) (l':zA5 S k'=some (bs'.map Bd.d)) (o:onceB sdT rwT bs=some bs') (ok:BOk sw bs) (hl:bs.length≤6) (f:drawL sdT rwT 6 bs=F) (x:Ex S0 S) (hm:m=bs.length)
 | no (bs:List (Bd Tr)) (k:Nat) (h:ρ=[some nd,some (.lst k),some .non]) (l:zA5 S k=some (bs.map Bd.d)) (o:onceB sdT rwT bs=none) (ok:BOk sw bs) (f:bs=F) (x:Ex S0 S)
theorem tree_of_spec (H:HDr cl) (n:Nat) {sw:Int}{N:Net} (ok:BOk sw (bdsN N)) (hl:N.cs.length≤6) {t:Tr} (hd:drawL sdT rwT 6 (bdsN N)=[⟨0,1,t⟩]) (S:zA1):Spc (cl (n+4) "tree_of" [N.d] S) t.d S:=by
 have e1:=bonds_of_spec H.bo (n+2) N (by omega) S
 have l1:=zA4 S ((bdsN N).map Bd.d)
 have hl6:(bdsN N).length≤6:=by unfold bdsN; rw [List.length_map]; exact hl
 have wf1:(1000:Nat)<wfuel:=by decide
 have mk:∀ (bs:List (Bd Tr)) (k:Nat) (S':zA1),BOk sw bs→bs.length≤6→zA5 S' k=some (bs.map Bd.d)→drawL sdT rwT 6 bs=[⟨0,1,t⟩]→Ex (S++[.lst ((bdsN N).map Bd.d)]) S'→∃ v S2,cl (n+3) "drawn_once" [.lst k] S'=.ok v S2∧ToP N.d sw [⟨0,1,t⟩] (S++[.lst ((bdsN N).map Bd.d)]) bs.length [some N.d,some (.lst k),some v] S2:=by
  intro bs k S' okb hb l f x
  rcases drawn_once_spec H n okb (by omega) l with ⟨bs',k',S2,o,e,l',x2⟩ | ⟨S2,o,e,x2⟩
  ·exact ⟨_,S2,e,.yes bs bs' k k' rfl (x2.lst l fun z=>z) l' o okb hb f (x.trans x2) rfl⟩
  ·refine ⟨_,S2,e,.no bs k rfl (x2.lst l fun z=>z) o okb ?_ (x.trans x2)⟩
   have:drawL sdT rwT 6 bs=bs:=by unfold drawL; rw [o]
   rw [← f,this]
 obtain ⟨v,S2,e2,p2⟩:=mk (bdsN N) S.length _ ok hl6 l1 hd (Kp.refl _ _)
 obtain ⟨ρ',S3,e3,bs,k,rfl,l3,o3,ok3,f3,x3⟩:=while_go (t:=zA9 (cBin oIsNot (cVar 2) (cCon .non))) (b:=tree_of_l1 (cl (n+3))) (ToP N.d sw [⟨0,1,t⟩] (S++[.lst ((bdsN N).map Bd.d)]))
  (fun ρ S'=>∃ bs k,ρ=[some N.d,some (.lst k),some .non]∧zA5 S' k=some (bs.map Bd.d)∧onceB sdT rwT bs=none∧BOk sw bs∧bs=[⟨0,1,t⟩]∧Ex (S++[.lst ((bdsN N).map Bd.d)]) S')
  (fun m ρ S' hp=>by
   rcases hp with ⟨bs,bs',k,k',rfl,l,l',o,okb,hb,f,x,rfl⟩ | ⟨bs,k,rfl,l,o,okb,f,x⟩
   ·have len:=onceB_len o
    have f':drawL sdT rwT 6 bs'=[⟨0,1,t⟩]:=by
     have g:=f
     unfold drawL at g
     rw [o] at g
     dsimp only at g
     rw [drawL_stab 5 (by omega)]
     exact g
    obtain ⟨v,S2,e2,p2⟩:=mk bs' k' S' (once_same okb o).ok (by omega) l' f' x
    exact .inr ⟨S',tt_run _ _ _ _,_,S2,.inl (tl_run _ e2),bs'.length,by omega,p2⟩
   ·exact .inl ⟨S',tt_run _ _ _ _,bs,k,rfl,l,o,okb,f,x⟩) wfuel (bdsN N).length _ S2 (Nat.lt_trans (Nat.lt_of_le_of_lt hl6 (by decide:6<1000)) wf1) p2
 subst f3
 have fl:=fLen_lst l3
 have ix:=oIx_lst l3 0
 refine ⟨S3,?_,(zAc S _).trans x3⟩
 rw [show n+4=(n+3)+1 from rfl,H.to]
 exact zA7 rfl (tof_run (cl (n+3)) e1 e2 e3 fl ix)
open PySem L2 Mt
variable {cl:Nat→CLL}
theorem lvs_nat:∀ ps:List Tr,(ps.map Tr.lv).sum=Tr.lvs ps
 | []=>rfl
 | t::q=>by show t.lv+(q.map Tr.lv).sum=t.lv+Tr.lvs q; rw [lvs_nat q]
theorem cnt_tr {sw:Int}:∀ (n:Nat) (t:Tr),t.ht<n→t.wf sw→cnt sw n t.d=t.lv
 | 0,t,h,_=>absurd h (Nat.not_lt_zero _)
 | n+1,.lf k o,_,hw=>by
  obtain ⟨h1,h2,h3,h4⟩:=hw
  have:loneD sw (Tr.lf k o).d=true:=by
   show (sE sAt (.str (Str.ofString "at"))&&(whD 0 sw (.int k)&&whD 0 2 (.int o)))=true
   have a:sE sAt (.str (Str.ofString "at"))=true:=by decide +kernel
   have b:whD 0 sw (.int k)=true:=by simp [whD,h1,h2]
   have c:whD 0 2 (.int o)=true:=by simp [whD,h3,h4]
   rw [a,b,c]; rfl
  show (if loneD sw (Tr.lf k o).d then 1 else _)=1
  rw [if_pos this]
 | n+1,.nd r ps,h,hw=>by
  have h':Tr.hts ps+1<n+1:=h
  have hw':2≤ps.length∧Tr.wfs sw ps:=hw
  have e:(Tr.nd r ps).d=.tup [.str (kw r),.tup (ps.map Tr.d)]:=by show D.tup [.str (kw r),.tup (Tr.ds ps)]=_; rw [ds_map]
  have q:partD (Tr.nd r ps).d=some (ps.map Tr.d):=by
   rw [e,partD_eq,if_pos ⟨by cases r <;> decide +kernel,by rw [List.length_map]; exact hw'.1⟩]
  show (if loneD sw (Tr.nd r ps).d then 1 else match partD (Tr.nd r ps).d with | some ps=>tot (ps.map (cnt sw n)) | none=>0)=Tr.lvs ps
  rw [partD_lone q,q,if_neg Bool.false_ne_true]
  dsimp only
  rw [List.map_map]
  have e2:ps.map (cnt sw n∘Tr.d)=ps.map Tr.lv:=List.map_congr_left fun t ht=>cnt_tr n t (by have:=zBf ht; omega) (wfs_mem hw'.2 t ht)
  rw [e2]
  unfold tot
  rw [if_neg,lvs_nat]
  intro z
  obtain ⟨t,ht,e0⟩:=List.mem_map.mp z
  have:=lv_pos t (wfs_mem hw'.2 t ht)
  omega
structure HIt (cl:Nat→CLL):Prop where
 t:Hs_is_tree cl
 l:Hs_is_lone cl
 p:Hs_has_parts cl
 w:zAk cl
 b:Hs_is_bit cl
theorem is_tree_tr (H:HIt cl) (n:Nat) {sw:Int}{t:Tr} (hw:t.wf sw) (hv:t.lv≤16) (S:zA1):Spc (cl (n+4) "is_tree" [.int sw,t.d] S) (.bl true) S:=by
 have g:=gd_tr S t.ht t (Nat.le_refl _) (by have:=sz_lv t hw; omega)
 obtain ⟨b,S1,e,x,hb⟩:=is_tree_spec H.t H.l H.p H.w H.b n sw g
 rw [cnt_tr (t.ht+1+1) t (by omega) hw] at hb
 have:=lv_pos t hw
 rw [hb.mpr ⟨by omega,hv⟩] at e
 exact ⟨S1,e,x⟩
theorem trn_run (c:CLL) {sw td ad id fd xd:D}{B R1 R2:List D}{L:Int}{S S1 S2 S3 S4 S5 S6 S7 S8 S9 S10 S11 S12 S13 S14 S15 S16 S17 S18 S19 S20:zA1}
  (e1:c "tree_function" [sw,td] S=.ok (.tup B) S1) (e2:c "against" [td] S1=.ok ad S2) (e3:c "tree_function" [sw,ad] S2=.ok (.tup R1) S3) (l1:loopC [] .one (fun _=>ret true) (zAH c) [none] B S3=.ok R1 S3) (hB:B.length<lim) (h4:S3++[.lst R1]=S4) (t1:zAe [.lst S3.length] S4=.ok (.tup R1) S4) (n1:oNe (.tup R1) (.tup R1) S4=.ok (.bl false) S4)
  (e5:c "inside_out" [td] S4=.ok id S5) (e6:c "tree_function" [sw,id] S5=.ok (.tup R2) S6) (l2:loopC [] .one (fun _=>ret true) (zAI c) [none] B.reverse S6=.ok R2 S6) (h7:S6++[.lst R2]=S7) (t2:zAe [.lst S6.length] S7=.ok (.tup R2) S7) (n2:oNe (.tup R2) (.tup R2) S7=.ok (.bl false) S7)
  (e8:c "against" [td] S7=.ok ad S8) (e9:c "against" [ad] S8=.ok td S9) (n3:oNe td td S9=.ok (.bl false) S9) (e10:c "inside_out" [td] S9=.ok id S10) (e11:c "inside_out" [id] S10=.ok td S11) (n4:oNe td td S11=.ok (.bl false) S11)
  (e12:c "made_flat" [td] S11=.ok fd S12) (e13:c "is_tree" [sw,fd] S12=.ok (.bl true) S13) (e14:c "tree_function" [sw,fd] S13=.ok (.tup B) S14) (n5:oNe (.tup B) (.tup B) S14=.ok (.bl false) S14) (e15:c "made_flat" [fd] S14=.ok fd S15) (n6:oNe fd fd S15=.ok (.bl false) S15)
  (e16:c "contacts_of" [fd] S15=.ok (.int L) S16) (e17:c "contacts_of" [td] S16=.ok (.int L) S17) (e18:c "against" [td] S17=.ok ad S18) (e19:c "made_flat" [ad] S18=.ok xd S19) (e20:c "against" [fd] S19=.ok xd S20) (n7:oEq xd xd S20=.ok (.bl true) S20) :
  zAw c [some sw,some td,none,none] S=.rt (.bl true) S20:=by
 simp [zAw,e1,e2,e3,l1,hB,h4,t1,n1,e5,e6,l2,h7,t2,n2,e8,e9,n3,e10,e11,n4,e12,e13,e14,n5,e15,n6,e16,e17,e18,e19,e20,n7]
theorem plain_t {t:Tr} (h:t.ht≤19):plain 40 t.d=true:=by
 have:=plain_tr 19 t 0 h
 exact this
theorem ne_t {t:Tr} (h:t.ht≤19) (S:zA1):oNe t.d t.d S=.ok (.bl false) S:=by rw [oNe_plain S (plain_t h) (plain_t h),eqB_self]; rfl
theorem eq_t {t:Tr} (h:t.ht≤19) (S:zA1):oEq t.d t.d S=.ok (.bl true) S:=by rw [oEq_plain S (plain_t h) (plain_t h),eqB_self]
theorem ne_b (l:List Int) (S:zA1):oNe (zAf l) (zAf l) S=.ok (.bl false) S:=by rw [oNe_plain S (plain_bits (n:=39) (by decide) l) (plain_bits (n:=39) (by decide) l),eqB_self]; rfl
theorem eq_b (l:List Int) (S:zA1):oEq (zAf l) (zAf l) S=.ok (.bl true) S:=by rw [oEq_plain S (plain_bits (n:=39) (by decide) l) (plain_bits (n:=39) (by decide) l),eqB_self]
structure HTs (cl:Nat→CLL):Prop where
 tf:HTf cl
 ag:Hs_against cl
 io:Hs_inside_out cl
 oo:Hs_other_ons cl
 mf:Hs_made_flat cl
 co:Hs_contacts_of cl
 it:HIt cl
theorem turns_right_spec (h:Hs_law_turns_right cl) (H:HTs cl) (n:Nat) {sw:Int} (s1:1≤sw) (s4:sw≤4) {t:Tr} (hw:t.wf sw) (hv:t.lv≤12) (S:zA1):Spc (cl (n+21) "_law_turns_right" [.int sw,t.d] S) (.bl true) S:=by
 have ht:∀ {u:Tr},u.wf sw→u.lv=t.lv→u.ht≤11∧u.sz≤1000:=fun {u} a b=>⟨by have:=ht_lv u a; omega,by have:=sz_lv u a; omega⟩
 have fn:∀ (u:Tr),u.wf sw→u.lv=t.lv→∀ S,Spc (cl (n+20) "tree_function" [.int sw,u.d] S) (zAf (zAO sw u)) S:=fun u a b S=>zAG H.tf s1 s4 11 u (ht a b).1 a (ht a b).2 (n+4) S
 have ag:∀ (u:Tr),u.wf sw→u.lv=t.lv→∀ S,Spc (cl (n+20) "against" [u.d] S) u.inv.ons.d S:=fun u a b S=>against_spec H.ag H.io H.oo 11 u (ht a b).1 (ht a b).2 (n+7) S
 have io:∀ (u:Tr),u.wf sw→u.lv=t.lv→∀ S,Spc (cl (n+20) "inside_out" [u.d] S) u.inv.d S:=fun u a b S=>inside_out_spec H.io 11 u (ht a b).1 (ht a b).2 (n+8) S
 have mf:∀ (u:Tr),u.wf sw→u.lv=t.lv→∀ S,Spc (cl (n+20) "made_flat" [u.d] S) u.flat.d S:=fun u a b S=>made_flat_spec H.mf 11 u (ht a b).1 (ht a b).2 (n+8) S
 have co:∀ (u:Tr),u.wf sw→u.lv=t.lv→∀ S,Spc (cl (n+20) "contacts_of" [u.d] S) (.int (u.lv:Nat)) S:=fun u a b S=>zB5 H.co 11 u (ht a b).1 (ht a b).2 (n+8) S
 obtain ⟨wi,li⟩:=inv_wf t hw
 obtain ⟨wo,lo⟩:=ons_wf t.inv wi
 obtain ⟨wf,lf⟩:=flat_ok t hw
 obtain ⟨wfi,lfi⟩:=inv_wf t.flat wf
 obtain ⟨wfo,lfo⟩:=ons_wf t.flat.inv wfi
 have la:=lo.trans li
 have lfa:=lfo.trans (lfi.trans lf)
 obtain ⟨S1,e1,x1⟩:=fn t hw rfl S
 obtain ⟨S2,e2,x2⟩:=ag t hw rfl S1
 obtain ⟨S3,e3,x3⟩:=fn _ wo la S2
 rw [bits_agn s1 hw] at e3
 obtain ⟨S5,e5,x5⟩:=io t hw rfl (S3++[.lst (((zAO sw t).map fun b=>1 - b).map D.int)])
 obtain ⟨S6,e6,x6⟩:=fn _ wi li S5
 rw [bits_inv s1 hw] at e6
 obtain ⟨S8,e8,x8⟩:=ag t hw rfl (S6++[.lst (((zAO sw t).reverse.map fun b=>1 - b).map D.int)])
 obtain ⟨S9,e9,x9⟩:=ag _ wo la S8
 rw [agn_agn] at e9
 obtain ⟨S10,e10,x10⟩:=io t hw rfl S9
 obtain ⟨S11,e11,x11⟩:=io _ wi li S10
 rw [inv_inv] at e11
 obtain ⟨S12,e12,x12⟩:=mf t hw rfl S11
 obtain ⟨S13,e13,x13⟩:=is_tree_tr H.it (n+16) wf (by omega) S12
 obtain ⟨S14,e14,x14⟩:=fn _ wf lf S13
 rw [bits_flat] at e14
 obtain ⟨S15,e15,x15⟩:=mf _ wf lf S14
 rw [flat_flat] at e15
 obtain ⟨S16,e16,x16⟩:=co _ wf lf S15
 rw [lf] at e16
 obtain ⟨S17,e17,x17⟩:=co t hw rfl S16
 obtain ⟨S18,e18,x18⟩:=ag t hw rfl S17
 obtain ⟨S19,e19,x19⟩:=mf _ wo la S18
 rw [flat_agn] at e19
 obtain ⟨S20,e20,x20⟩:=ag _ wf lf S19
 have hB:((zAO sw t).map D.int).length<lim:=by rw [List.length_map]; have:=bitsT_len s4 t; have:=lim_big; omega
 have l1:loopC [] .one (fun _=>ret true) (zAH (cl (n+20))) [none] ((zAO sw t).map D.int) S3=.ok (((zAO sw t).map fun b=>1 - b).map D.int) S3:=by
  rw [List.map_map]
  exact comp_pureM D.int (zAv S3) _ _ fun b _=>⟨_,rfl,by simp [zAH]⟩
 have l2:loopC [] .one (fun _=>ret true) (zAI (cl (n+20))) [none] ((zAO sw t).map D.int).reverse S6=.ok (((zAO sw t).reverse.map fun b=>1 - b).map D.int) S6:=by
  rw [List.map_map,← List.map_reverse]
  exact comp_pureM D.int (zAv S6) _ _ fun b _=>⟨_,rfl,by simp [zAI]⟩
 refine ⟨S20,?_,?_⟩
 ·rw [show n+21=(n+20)+1 from rfl,h]
  exact zA7 rfl (trn_run (cl (n+20)) e1 e2 e3 l1 hB rfl (zAE (zA4 _ _)) (ne_b _ _) e5 e6 l2 rfl (zAE (zA4 _ _)) (ne_b _ _) e8 e9 (ne_t (by have:=(ht hw rfl).1; omega) _) e10 e11 (ne_t (by have:=(ht hw rfl).1; omega) _) e12 e13 e14 (ne_b _ _) e15 (ne_t (by have:=(ht wf lf).1; omega) _) e16 e17 e18 e19 e20 (eq_t (by have:=(ht wfo lfa).1; omega) _))
 ·exact x1.trans (x2.trans (x3.trans ((zAc _ _).trans (x5.trans (x6.trans ((zAc _ _).trans (x8.trans (x9.trans (x10.trans (x11.trans (x12.trans (x13.trans (x14.trans (x15.trans (x16.trans (x17.trans (x18.trans (x19.trans x20))))))))))))))))))
theorem bds_ok {sw:Int}{N:Net} (ok:∀ c∈N.cs,c.ok sw N.pl) (hp:N.pl≤7):BOk sw (bdsN N):=by
 constructor
 ·intro x hx
  obtain ⟨c,hc,rfl⟩:=List.mem_map.mp hx
  obtain ⟨a0,ab,bp,_⟩:=ok c hc
  exact ⟨a0,ab,by show c.b<7; omega⟩
 ·intro x hx
  obtain ⟨c,hc,rfl⟩:=List.mem_map.mp hx
  obtain ⟨_,_,_,k0,k1,o0,o1⟩:=ok c hc
  exact ⟨k0,k1,o0,o1⟩
theorem bds_lets (N:Net) (st:List Int):JBs (bdsN N) st↔zBe N st=true:=by
 rw [zB4]
 constructor
 ·intro J C c0 hC
  refine J C c0 fun e he on=>?_
  obtain ⟨c,hc,rfl⟩:=List.mem_map.mp he
  exact hC c hc on
 ·intro J C c0 hC
  exact J C c0 fun c hc on=>hC ⟨c.a,c.b,.lf c.k c.o⟩ (List.mem_map.mpr ⟨c,hc,rfl⟩) on
theorem one_lets (t:Tr) (st:List Int):JBs [⟨0,1,t⟩] st↔t.on st=true:=by
 constructor
 ·intro J
  by_cases h:t.on st=true
  ·exact h
  ·have:=J (fun x=>x=0) rfl fun e he on=>by
    rw [List.mem_singleton.mp he] at on
    exact absurd on h
   exact absurd this (by decide)
 ·intro on C c0 hC
  exact (hC ⟨0,1,t⟩ (by simp) on).mp c0
theorem bds_lv (N:Net):lvB (bdsN N)=N.cs.length:=by
 unfold lvB bdsN
 rw [List.map_map]
 induction N.cs with
 | nil=>rfl
 | cons c r ih=>rw [List.map_cons,List.length_cons]; show 1+Tr.lvs _=_; rw [ih]; omega
structure Drawn (sw:Int) (t u:Tr):Prop where
 wf:u.wf sw
 lv:u.lv=t.lv
 dr:drawL sdT rwT 6 (bdsN (t.lay sw))=[⟨0,1,u⟩]
 on:∀ st,u.on st=t.on st
theorem drawn_of {sw:Int} (s1:1≤sw) (s4:sw≤4) {t:Tr} (hw:t.wf sw) (hv:t.lv≤6) (hs:okTr t.sk=true):∃ u,Drawn sw t u:=by
 have L:=lay_all s1 s4 t.ht t (Nat.le_refl _) hw
 have hp:(t.lay sw).pl≤7:=by have:=L.ok.p2; omega
 have ok:=bds_ok L.ok.c2 hp
 have sm:=draw_same 6 ok
 have e1:(bdsN (t.lay sw)).map (Bd.mp fun _=>())=shp (t.sk.lay 1):=by
  rw [← (lay_shp sw t.ht t (Nat.le_refl _)).s]
  unfold bdsN shp
  rw [List.map_map]
  rfl
 have e2:=drawL_mp (sd:=sdT) (rw:=rwT) (sd':=u2) (rw':=u2) (f:=fun _=>()) (fun _ _=>rfl) (fun _ _=>rfl) 6 (bdsN (t.lay sw))
 rw [e1] at e2
 unfold okTr okU at hs
 rw [e2] at hs
 have h1:∃ u,drawL sdT rwT 6 (bdsN (t.lay sw))=[⟨0,1,u⟩]:=by
  generalize drawL sdT rwT 6 (bdsN (t.lay sw))=F at hs
  match F,hs with
  | [x],hs =>
   have hs':(decide (x.a=0)&&decide (x.b=1))=true:=hs
   simp only [Bool.and_eq_true,decide_eq_true_eq] at hs'
   obtain ⟨a,b,u⟩:=x
   obtain ⟨rfl,rfl⟩:=hs'
   exact ⟨u,rfl⟩
 obtain ⟨u,hu⟩:=h1
 rw [hu] at sm
 refine ⟨u,sm.ok.w ⟨0,1,u⟩ (by simp),?_,hu,fun st=>bool_ext ?_⟩
 ·have:=sm.lv
  rw [bds_lv,L.len] at this
  have e:lvB [⟨0,1,u⟩]=u.lv:=by show u.lv+0=u.lv; omega
  omega
 ·exact (one_lets u st).symm.trans ((sm.j st).symm.trans ((bds_lets _ st).trans (by rw [L.on hv st])))
theorem nr_run (c:CLL) {sw td nd ud fd cs:D}{L:Int}{S S1 S2 S3 S4 S5 S6 S7 S8 S9 S10 S11:zA1} (e1:c "net_of" [sw,td] S=.ok nd S1) (e2:c "is_net" [nd] S1=.ok (.bl true) S2) (e3:c "function_of" [nd] S2=.ok fd S3) (e4:c "tree_function" [sw,td] S3=.ok fd S4) (n4:oNe fd fd S4=.ok (.bl false) S4)
  (i4:oIx nd (.int 2) S4=.ok cs S4) (f4:fLen [cs] S4=.ok (.int L) S4) (e5:c "contacts_of" [td] S4=.ok (.int L) S5) (e6:c "tree_of" [nd] S5=.ok ud S6) (hu:ud.isNon=false) (e7:c "is_tree" [sw,ud] S6=.ok (.bl true) S7) (e8:c "contacts_of" [ud] S7=.ok (.int L) S8) (e9:c "contacts_of" [td] S8=.ok (.int L) S9)
  (e10:c "tree_function" [sw,ud] S9=.ok fd S10) (e11:c "function_of" [nd] S10=.ok fd S11) (n11:oEq fd fd S11=.ok (.bl true) S11):zAQ c [some sw,some td,none,none] S=.rt (.bl true) S11:=by
 simp [zAQ,e1,e2,e3,e4,n4,i4,f4,e5,e6,hu,e7,e8,e9,e10,e11,n11]
structure HNr (cl:Nat→CLL):Prop where
 ts:HTs cl
 no:HNo cl
 dr:HDr cl
 nt:Hs_is_net cl
 ct:Hs_is_contact cl
theorem tr_isNon (t:Tr):t.d.isNon=false:=by cases t <;> rfl
theorem net_right_spec (h:Hs_law_net_right cl) (H:HNr cl) (n:Nat) {sw:Int} (s1:1≤sw) (s4:sw≤4) {t:Tr} (hw:t.wf sw) (hv:t.lv≤6) (hs:okTr t.sk=true) (S:zA1):Spc (cl (n+21) "_law_net_right" [.int sw,t.d] S) (.bl true) S:=by
 obtain ⟨u,uw,ul,ud,uo⟩:=drawn_of s1 s4 hw hv hs
 have L:=lay_all s1 s4 t.ht t (Nat.le_refl _) hw
 have g:=lay_g s1 s4 L hv
 have lf:=lay_fun L hv
 have bu:zAO sw u=zAO sw t:=by unfold zAO; exact List.map_congr_left fun st _=>by rw [uo]
 have ht:=ht_lv t hw
 have hu:=ht_lv u uw
 have zt:=sz_lv t hw
 have zu:=sz_lv u uw
 obtain ⟨S1,e1,x1⟩:=net_of_spec2 H.no s1 s4 5 t (by omega) hw hv (n+12) S
 obtain ⟨S2,e2,x2⟩:=is_net_spec H.nt H.ct H.ts.it.b H.ts.it.w (n+16) g S1
 obtain ⟨S3,e3,x3⟩:=H.ts.tf.f.fun (n+16) g S2
 rw [lf] at e3
 obtain ⟨S4,e4,x4⟩:=zAG H.ts.tf s1 s4 11 t (by omega) hw (by omega) (n+4) S3
 obtain ⟨S5,e5,x5⟩:=zB5 H.ts.co 11 t (by omega) (by omega) (n+8) S4
 obtain ⟨S6,e6,x6⟩:=tree_of_spec H.dr (n+16) (bds_ok L.ok.c2 (by have:=L.ok.p2; omega)) (by rw [L.len]; exact hv) ud S5
 obtain ⟨S7,e7,x7⟩:=is_tree_tr H.ts.it (n+16) uw (by omega) S6
 obtain ⟨S8,e8,x8⟩:=zB5 H.ts.co 11 u (by omega) (by omega) (n+8) S7
 rw [ul] at e8
 obtain ⟨S9,e9,x9⟩:=zB5 H.ts.co 11 t (by omega) (by omega) (n+8) S8
 obtain ⟨S10,e10,x10⟩:=zAG H.ts.tf s1 s4 11 u (by omega) uw (by omega) (n+4) S9
 rw [bu] at e10
 obtain ⟨S11,e11,x11⟩:=H.ts.tf.f.fun (n+16) g S10
 rw [lf] at e11
 have f4:fLen [.tup ((t.lay sw).cs.map Ct.d)] S4=.ok (.int (t.lv:Nat)) S4:=by rw [fLen_tup,List.length_map,L.len]
 refine ⟨S11,?_,?_⟩
 ·rw [show n+21=(n+20)+1 from rfl,h]
  exact zA7 rfl (nr_run (cl (n+20)) e1 e2 e3 e4 (ne_b _ _) (by rw [Net.d_eq]; simp) f4 e5 e6 (tr_isNon u) e7 e8 e9 e10 e11 (eq_b _ _))
 ·exact x1.trans (x2.trans (x3.trans (x4.trans (x5.trans (x6.trans (x7.trans (x8.trans (x9.trans (x10.trans x11)))))))))
open PySem L2 Mt
variable {cl:Nat→CLL}
structure HL45 (cl:Nat→CLL):Prop where
 st:Hs_law_state cl
 ce:zB3 cl
 ta:Hs_law_take cl
 tr:Hs_law_tree cl
 tu:Hs_law_turns_right cl
 ne:Hs_law_net_right cl
 nr:HNr cl
theorem l45_four (c:CLL) {sc jd i0 sw od pd rd qd:D}{w6:Option D}{S0 S S1 S2 S3 S4:zA1}{k:Nat} (hk:∀ S',Ex S0 S'→zA5 S' k=some [od,pd,rd,qd]) (x0:Ex S0 S) (e1:c "_law_net_right" [sw,od] S=.ok (.bl true) S1) (x1:Ex S S1) (e2:c "_law_net_right" [sw,pd] S1=.ok (.bl true) S2) (x2:Ex S1 S2) (e3:c "_law_net_right" [sw,rd] S2=.ok (.bl true) S3) (x3:Ex S2 S3) (e4:c "_law_net_right" [sw,qd] S3=.ok (.bl true) S4) (x4:Ex S3 S4) :
  zAA [(k,[od,pd,rd,qd])] (gN 6) (law_v17_l2 c) [od,pd,rd,qd] [some sc,some jd,some i0,some sw,some od,some pd,w6] S=.nx [some sc,some jd,some i0,some sw,some od,some pd,some qd] S4:=by
 have w0:okW [(k,[od,pd,rd,qd])] S:=okW_one (hk S x0)
 have w1:okW [(k,[od,pd,rd,qd])] S1:=okW_one (hk S1 (x0.trans x1))
 have w2:okW [(k,[od,pd,rd,qd])] S2:=okW_one (hk S2 (x0.trans (x1.trans x2)))
 have w3:okW [(k,[od,pd,rd,qd])] S3:=okW_one (hk S3 (x0.trans (x1.trans (x2.trans x3))))
 have w4:okW [(k,[od,pd,rd,qd])] S4:=okW_one (hk S4 (x0.trans (x1.trans (x2.trans (x3.trans x4)))))
 have step:∀ (d:D) (ds:List D) (v:Option D) (T T':zA1),okW [(k,[od,pd,rd,qd])] T→c "_law_net_right" [sw,d] T=.ok (.bl true) T'→zAA [(k,[od,pd,rd,qd])] (gN 6) (law_v17_l2 c) (d::ds) [some sc,some jd,some i0,some sw,some od,some pd,v] T=zAA [(k,[od,pd,rd,qd])] (gN 6) (law_v17_l2 c) ds [some sc,some jd,some i0,some sw,some od,some pd,some d] T':=fun d ds v T T' w e=>by
  have b:law_v17_l2 c [some sc,some jd,some i0,some sw,some od,some pd,some d] T=.nx [some sc,some jd,some i0,some sw,some od,some pd,some d] T':=by simp [law_v17_l2,e]
  conv=>lhs; unfold zAA
  rw [if_pos w,gN_ev]
  dsimp only [List.set_cons_succ,List.set_cons_zero]
  rw [b]
 rw [step _ _ _ _ _ w0 e1,step _ _ _ _ _ w1 e2,step _ _ _ _ _ w2 e3,step _ _ _ _ _ w3 e4]
 unfold zAA
 rw [if_pos w4]
theorem l45_turn (c:CLL) {sc jd od pd td n1 n2 r1d r2d bd:D}{w2 w3 w4 w5 w6 v6:Option D}{i0 k:Nat}{r1 sw L:Int}{S S1 S2 S3 S4 S5 S6 S7 S8 S9 S10 S11 S12 S13 S14 S15 S16 S17:zA1}
  (e1:c "_law_state" [sc,jd] S=.ok (.lst i0) S1) (e2:c "_law_take" [.lst i0,.int 4] S1=.ok (.int r1) S2) (hsw:1+r1=sw) (e3:c "_law_tree" [.lst i0,.int sw,.int 12] S2=.ok td S3) (e4:c "_law_turns_right" [.int sw,td] S3=.ok (.bl true) S4) (e5:c "_law_tree" [.lst i0,.int sw,.int 3] S4=.ok od S5) (e6:c "_law_tree" [.lst i0,.int sw,.int 3] S5=.ok pd S6)
  (h7:S6++[.lst [od,pd,.tup [.str (Str.ofString "row"),.tup [od,pd]],.tup [.str (Str.ofString "side"),.tup [pd,od]]]]=S7) (lk:zA5 S7 S6.length=some [od,pd,.tup [.str (Str.ofString "row"),.tup [od,pd]],.tup [.str (Str.ofString "side"),.tup [pd,od]]])
  (e7:zAA [(S6.length,[od,pd,.tup [.str (Str.ofString "row"),.tup [od,pd]],.tup [.str (Str.ofString "side"),.tup [pd,od]]])] (gN 6) (law_v17_l2 c) [od,pd,.tup [.str (Str.ofString "row"),.tup [od,pd]],.tup [.str (Str.ofString "side"),.tup [pd,od]]] [some sc,some jd,some (.lst i0),some (.int sw),some od,some pd,w6] S7=.nx [some sc,some jd,some (.lst i0),some (.int sw),some od,some pd,v6] S8)
  (e8:c "net_of" [.int sw,.tup [.str (Str.ofString "row"),.tup [od,pd]]] S8=.ok r1d S9) (e9:c "net_of" [.int sw,od] S9=.ok n1 S10) (e10:c "net_of" [.int sw,pd] S10=.ok n2 S11) (e11:c "in_row" [n1,n2] S11=.ok r1d S12) (q12:oNe r1d r1d S12=.ok (.bl false) S12)
  (e12:c "net_of" [.int sw,.tup [.str (Str.ofString "side"),.tup [od,pd]]] S12=.ok r2d S13) (e13:c "net_of" [.int sw,od] S13=.ok n1 S14) (e14:c "net_of" [.int sw,pd] S14=.ok n2 S15) (e15:c "side_by_side" [n1,n2] S15=.ok r2d S16) (q16:oNe r2d r2d S16=.ok (.bl false) S16)
  (e16:c "settings" [.int sw] S16=.ok (.lst k) S17) (f17:fLen [.lst k] S17=.ok (.int L) S17) {S18:zA1} (e17:c "tree_function" [.int sw,od] S17=.ok bd S18) (f18:fLen [bd] S18=.ok (.int L) S18) :
  law_v17_l1 c [some sc,some jd,w2,w3,w4,w5,w6] S=.nx [some sc,some jd,some (.lst i0),some (.int sw),some od,some pd,v6] S18:=by
 simp [law_v17_l1,e1,e2,hsw,e3,e4,e5,e6,h7,lk,e7,e8,e9,e10,e11,q12,e12,e13,e14,e15,q16,e16,f17,e17,f18]
inductive E7 (sc:D) (ρ:Env1) (S:zA1):Prop
 | mk (w1 w2 w3 w4 w5 w6:Option D) (e:ρ=[some sc,w1,w2,w3,w4,w5,w6])
theorem nd2 (r:Bool) (a b:Tr):(Tr.nd r [a,b]).d=.tup [.str (kw r),.tup [a.d,b.d]]:=rfl
theorem ne_net (N:Net) (S:zA1):oNe N.d N.d S=.ok (.bl false) S:=by rw [oNe_plain S (plain_net N) (plain_net N),eqB_self]; rfl
theorem pair_ok {sw:Int}{a b:Tr} (r:Bool) (ha:a.wf sw) (hb:b.wf sw) (la:a.lv≤3) (lb:b.lv≤3):(Tr.nd r [a,b]).wf sw∧(Tr.nd r [a,b]).lv≤6:=⟨⟨Nat.le_refl _,ha,hb,trivial⟩,by show a.lv+(b.lv+0)≤6; omega⟩
theorem row45 (H:HL45 cl) (n:Nat) (ns:List Int) {sc:D} (hsc:D.rol (ns.map D.int)=sc) (jj:Int) (hj:0≤jj) (S:zA1) (w2 w3 w4 w5 w6:Option D):∃ ρ S',law_v17_l1 (cl (n+21)) [some sc,some (.int jj),w2,w3,w4,w5,w6] S=.nx ρ S'∧E7 sc ρ S':=by
 obtain ⟨S1,e1,x1,st1⟩:=state_spec H.st H.ce (n+19) ns jj hj S
 rw [hsc] at e1
 obtain ⟨i0,hi0⟩:∃ i0,S.length=i0:=⟨_,rfl⟩
 rw [hi0] at e1 st1
 obtain ⟨r1,S2,e2,a1,a2,k2,n2,st2⟩:=take_spec H.ta (n+20) st1 (m:=4) (by decide) (by decide)
 obtain ⟨sw,hsw⟩:∃ sw,1+r1=sw:=⟨_,rfl⟩
 have s1:1≤sw:=by omega
 have s4:sw≤4:=by omega
 obtain ⟨t,S3,e3,wt,lt,ht,k3,st3⟩:=law_tree_spec H.tr H.ta s1 s4 11 12 (by decide) (by decide) (by decide) (n+8) S2 i0 st2
 obtain ⟨S4,e4,x4⟩:=turns_right_spec H.tu H.nr.ts n s1 s4 wt (by omega) S3
 obtain ⟨o,S5,e5,wo,lo,ho,k5,st5⟩:=law_tree_spec H.tr H.ta s1 s4 11 3 (by decide) (by decide) (by decide) (n+8) S4 i0 (st3.ex x4)
 obtain ⟨p,S6,e6,wp,lp,hp,k6,st6⟩:=law_tree_spec H.tr H.ta s1 s4 11 3 (by decide) (by decide) (by decide) (n+8) S5 i0 st5
 have lo3:o.lv≤3:=by omega
 have lp3:p.lv≤3:=by omega
 have all:=okTr_all
 rw [List.all_eq_true] at all
 have ao:=all _ (sk3 wo lo3)
 have ap:=all _ (sk3 wp lp3)
 rw [Bool.and_eq_true,List.all_eq_true] at ao ap
 have both:=ao.2 _ (sk3 wp lp3)
 rw [Bool.and_eq_true] at both
 obtain ⟨wr,lr⟩:=pair_ok true wo wp lo3 lp3
 obtain ⟨wq,lq⟩:=pair_ok false wp wo lp3 lo3
 obtain ⟨wq2,lq2⟩:=pair_ok false wo wp lo3 lp3
 obtain ⟨S7,h7⟩:∃ S7,S6++[.lst [o.d,p.d,(Tr.nd true [o,p]).d,(Tr.nd false [p,o]).d]]=S7:=⟨_,rfl⟩
 have lk:zA5 S7 S6.length=some [o.d,p.d,(Tr.nd true [o,p]).d,(Tr.nd false [p,o]).d]:=h7▸zA4 _ _
 obtain ⟨T1,f1,y1⟩:=net_right_spec H.ne H.nr n s1 s4 wo (by omega) ao.1 S7
 obtain ⟨T2,f2,y2⟩:=net_right_spec H.ne H.nr n s1 s4 wp (by omega) ap.1 T1
 obtain ⟨T3,f3,y3⟩:=net_right_spec H.ne H.nr n s1 s4 wr lr both.1 T2
 obtain ⟨T4,f4,y4⟩:=net_right_spec H.ne H.nr n s1 s4 wq lq both.2 T3
 have e7:=l45_four (cl (n+21)) (sc:=sc) (jd:=.int jj) (i0:=.lst i0) (w6:=w6) (fun S' x=>x.lst lk fun z=>z) (Kp.refl _ S7) f1 y1 f2 y2 f3 y3 f4 y4
 have lay:=fun (u:Tr) (hw:u.wf sw)=>lay_all s1 s4 u.ht u (Nat.le_refl _) hw
 have net:∀ (u:Tr) (hw:u.wf sw) (hv:u.lv≤6) (S:zA1),Spc (cl (n+21) "net_of" [.int sw,u.d] S) (u.lay sw).d S:=fun u hw hv S=>net_of_spec2 H.nr.no s1 s4 5 u (by have:=ht_lv u hw; omega) hw hv (n+13) S
 obtain ⟨S9,e8,x9⟩:=net _ wr lr T4
 obtain ⟨S10,e9,x10⟩:=net o wo (by omega) S9
 obtain ⟨S11,e10,x11⟩:=net p wp (by omega) S10
 have go:=lay_g s1 s4 (lay o wo) (by omega)
 have gp:=lay_g s1 s4 (lay p wp) (by omega)
 have er:(Tr.nd true [o,p]).lay sw=(o.lay sw).row (p.lay sw):=rfl
 have eq:(Tr.nd false [o,p]).lay sw=(o.lay sw).side (p.lay sw):=rfl
 obtain ⟨S12,e11,x12⟩:=in_row_spec H.nr.no.ro H.nr.no.wi H.nr.no.mo (n+18) go gp (by rw [← er]; exact lay_g s1 s4 (lay _ wr) lr) S11
 obtain ⟨S13,e12,x13⟩:=net _ wq2 lq2 S12
 obtain ⟨S14,e13,x14⟩:=net o wo (by omega) S13
 obtain ⟨S15,e14,x15⟩:=net p wp (by omega) S14
 obtain ⟨S16,e15,x16⟩:=side_spec H.nr.no.si H.nr.no.wi H.nr.no.mo (n+18) go gp (by rw [← eq]; exact lay_g s1 s4 (lay _ wq2) lq2) S15
 rw [er] at e8
 rw [eq] at e12
 obtain ⟨k,S17,e16,x17,_,l17⟩:=settings_spec H.nr.ts.tf.f.se (n+20) (sw:=sw) (by omega) s4 S16
 obtain ⟨S18,e17,x18⟩:=zAG H.nr.ts.tf s1 s4 11 o (by have:=ht_lv o wo; omega) wo (by have:=sz_lv o wo; omega) (n+5) S17
 have f17:=fLen_lst l17
 have f18:fLen [zAf (zAO sw o)] S18=.ok (.int (((sett sw.toNat).map zAf).length:Nat)) S18:=by
  unfold zAf zAO
  rw [fLen_tup]
  simp
 refine ⟨_,S18,l45_turn (cl (n+21)) e1 e2 hsw e3 e4 e5 e6 h7 lk e7 e8 e9 e10 e11 (ne_net _ _) e12 e13 e14 e15 (ne_net _ _) e16 f17 e17 f18,?_⟩
 exact ⟨_,_,_,_,_,_,rfl⟩
theorem law45 (h:Hs_law_v17 cl) (H:HL45 cl) (n:Nat) (ns:List Int):∃ S',cl (n+22) "law" [.rol (ns.map D.int)] []=.ok (.bl true) S':=by
 rw [show n+22=(n+21)+1 from rfl,h]
 generalize hsc:D.rol (ns.map D.int)=sc
 have hm:∃ q:Int,(if (if (6:Int)<(ns.length:Int) then 6 else (ns.length:Int))>1 then (if (6:Int)<(ns.length:Int) then 6 else (ns.length:Int)) else 1)=q∧0≤q∧q≤6:=⟨_,rfl,by split <;> (try split) <;> omega,by split <;> (try split) <;> omega⟩
 obtain ⟨q,hq,q0,q6⟩:=hm
 obtain ⟨ρ',S1,e1,v1,v2,v3,v4,v5,v6,rfl⟩:=loop_inv (w:=[]) (g:=gN 1) (b:=law_v17_l1 (cl (n+21))) (items:=upD 0 q.toNat)
  (fun j ρ S=>E7 sc ρ S) (ρ:=[some sc,none,none,none,none,none,none]) (S:=[])
  (fun j ρ S hp=>zAv _) ⟨none,none,none,none,none,none,rfl⟩
  (fun j d ρ S hd hp=>by
   obtain ⟨v1,v2,v3,v4,v5,v6,rfl⟩:=hp
   rw [upD_get] at hd
   obtain ⟨hj,rfl⟩:=hd
   obtain ⟨ρ2,S2,e2,p2⟩:=row45 H n ns hsc (0+(j:Int)) (by omega) S v2 v3 v4 v5 v6
   exact ⟨_,_,rfl,ρ2,S2,.inl e2,p2⟩)
 refine ⟨S1,zA7 rfl ?_⟩
 have f2:-4611686018427387904≤q∧q<4611686018427387904:=by omega
 rw [← hsc] at e1 ⊢
 simp [b_law_v17,zA6,hq,f2,e1]
end My
set_option maxHeartbeats 4000000
namespace My
open PySem L2
noncomputable def tbl:Tbl:=[(("is_whole":Str),(1,1,zB7)),
 (("is_bit":Str),(1,1,b_is_bit)),
 (("is_contact":Str),(3,3,b_is_contact)),
 (("is_net":Str),(1,4,b_is_net)),
 (("settings":Str),(1,3,b_settings)),
 (("is_shut":Str),(2,2,b_is_shut)),
 (("places_from":Str),(2,5,b_places_from)),
 (("joins":Str),(1,1,b_joins)),
 (("shut_contacts":Str),(2,2,zBg)),
 (("lets":Str),(2,2,b_lets)),
 (("function_of":Str),(1,1,b_function_of)),
 (("where_both":Str),(2,2,b_where_both)),
 (("where_either":Str),(2,2,b_where_either)),
 (("moved_contact":Str),(2,2,zBh)),
 (("moved":Str),(2,2,b_moved)),
 (("net_within":Str),(3,3,b_net_within)),
 (("in_row":Str),(2,5,b_in_row)),
 (("side_by_side":Str),(2,4,zB2)),
 (("is_lone":Str),(2,2,b_is_lone)),
 (("has_parts":Str),(1,1,zAS)),
 (("is_tree":Str),(2,5,b_is_tree)),
 (("contacts_of":Str),(1,1,zAV)),
 (("lone_net":Str),(2,2,b_lone_net)),
 (("tree_function":Str),(2,5,zAo)),
 (("net_of":Str),(2,5,b_net_of)),
 (("inside_out":Str),(1,2,zAR)),
 (("other_ons":Str),(1,1,b_other_ons)),
 (("against":Str),(1,1,b_against)),
 (("made_flat":Str),(1,4,b_made_flat)),
 (("bonds_of":Str),(1,1,b_bonds_of)),
 (("may_vanish":Str),(2,2,zAP)),
 (("drawn_pair":Str),(3,5,zAx)),
 (("drawn_once":Str),(1,5,zAT)),
 (("tree_of":Str),(1,3,b_tree_of)),
 (("_law_cell_at":Str),(2,2,b_law_cell_at)),
 (("_law_state":Str),(2,3,b_law_state)),
 (("_law_take":Str),(2,4,b_law_take)),
 (("_law_tree":Str),(3,6,b_law_tree)),
 (("_law_turns_right":Str),(2,4,zAw)),
 (("_law_net_right":Str),(2,4,zAQ)),
 (("law":Str),(1,7,b_law_v17))]
noncomputable def top (i:Nat):Stmt:=PySem.Challenge.pw_contactnets_k45_whole_trees.main.body.getD i (.Pass ⟨0,0,0,0⟩)
theorem hk {f g:Nat→List D→M D} (h:f=g) (n:Nat):f n=g n:=congrFun h n
noncomputable abbrev s_is_whole:Stmt:=top 4
noncomputable abbrev s_is_bit:Stmt:=top 5
noncomputable abbrev s_is_contact:Stmt:=top 6
noncomputable abbrev s_is_net:Stmt:=top 7
noncomputable abbrev s_settings:Stmt:=top 8
noncomputable abbrev s_is_shut:Stmt:=top 9
noncomputable abbrev zB9:Stmt:=top 10
noncomputable abbrev s_joins:Stmt:=top 11
noncomputable abbrev zAK:Stmt:=top 12
noncomputable abbrev s_lets:Stmt:=top 13
noncomputable abbrev zBb:Stmt:=top 14
noncomputable abbrev s_where_both:Stmt:=top 15
noncomputable abbrev zAZ:Stmt:=top 16
noncomputable abbrev zAL:Stmt:=top 18
noncomputable abbrev s_moved:Stmt:=top 19
noncomputable abbrev s_net_within:Stmt:=top 20
noncomputable abbrev s_in_row:Stmt:=top 21
noncomputable abbrev zB0:Stmt:=top 22
noncomputable abbrev s_is_lone:Stmt:=top 24
noncomputable abbrev s_has_parts:Stmt:=top 25
noncomputable abbrev s_is_tree:Stmt:=top 26
noncomputable abbrev zBc:Stmt:=top 27
noncomputable abbrev s_lone_net:Stmt:=top 28
noncomputable abbrev zAJ:Stmt:=top 29
noncomputable abbrev s_net_of:Stmt:=top 30
noncomputable abbrev s_inside_out:Stmt:=top 31
noncomputable abbrev s_other_ons:Stmt:=top 32
noncomputable abbrev s_against:Stmt:=top 33
noncomputable abbrev s_made_flat:Stmt:=top 34
noncomputable abbrev s_bonds_of:Stmt:=top 35
noncomputable abbrev s_may_vanish:Stmt:=top 36
noncomputable abbrev s_drawn_pair:Stmt:=top 37
noncomputable abbrev s_drawn_once:Stmt:=top 38
noncomputable abbrev s_tree_of:Stmt:=top 39
noncomputable abbrev zBa:Stmt:=top 41
noncomputable abbrev s_law_state:Stmt:=top 42
noncomputable abbrev s_law_take:Stmt:=top 43
noncomputable abbrev s_law_tree:Stmt:=top 44
noncomputable abbrev zAu:Stmt:=top 45
noncomputable abbrev zAM:Stmt:=top 46
noncomputable abbrev s_law:Stmt:=top 47
abbrev CKp (x:Str) (N:List Str) (st:Stmt) (b:CLL→CS):Prop:=(fun cl:CLL=>cSts (arT tbl) cl 60 ⟨N,(zA3 st).names,some x⟩ (zAN st))=fun cl=>some (b cl)
theorem fk_is_whole:fnOk ["thing"] ["thing"] (zA3 s_is_whole)=true:=by decide +kernel
theorem hs_is_whole:zAk (zAg tbl):=hk (by kernel_rfl)
theorem ck_is_whole:CKp "is_whole" ["thing"] s_is_whole zB7:=by kernel_rfl
theorem fk_is_bit:fnOk ["thing"] ["thing"] (zA3 s_is_bit)=true:=by decide +kernel
theorem hs_is_bit:Hs_is_bit (zAg tbl):=hk (by kernel_rfl)
theorem ck_is_bit:CKp "is_bit" ["thing"] s_is_bit b_is_bit:=by kernel_rfl
theorem fk_is_contact:fnOk ["switches","places","thing"] ["switches","places","thing"] (zA3 s_is_contact)=true:=by decide +kernel
theorem hs_is_contact:Hs_is_contact (zAg tbl):=hk (by kernel_rfl)
theorem ck_is_contact:CKp "is_contact" ["switches","places","thing"] s_is_contact b_is_contact:=by kernel_rfl
theorem fk_is_net:fnOk ["thing","switches","places","contacts"] ["thing"] (zA3 s_is_net)=true:=by decide +kernel
theorem hs_is_net:Hs_is_net (zAg tbl):=hk (by kernel_rfl)
theorem ck_is_net:CKp "is_net" ["thing","switches","places","contacts"] s_is_net b_is_net:=by kernel_rfl
theorem fk_settings:fnOk ["switches","told","switch"] ["switches"] (zA3 s_settings)=true:=by decide +kernel
theorem hs_settings:Hs_settings (zAg tbl):=hk (by kernel_rfl)
theorem ck_settings:CKp "settings" ["switches","told","switch"] s_settings b_settings:=by kernel_rfl
theorem fk_is_shut:fnOk ["contact","setting"] ["contact","setting"] (zA3 s_is_shut)=true:=by decide +kernel
theorem hs_is_shut:Hs_is_shut (zAg tbl):=hk (by kernel_rfl)
theorem ck_is_shut:CKp "is_shut" ["contact","setting"] s_is_shut b_is_shut:=by kernel_rfl
theorem fk_places_from:fnOk ["start","contacts","found","grown","contact"] ["start","contacts"] (zA3 zB9)=true:=by decide +kernel
theorem hs_places_from:zAt (zAg tbl):=hk (by kernel_rfl)
theorem ck_places_from:CKp "places_from" ["start","contacts","found","grown","contact"] zB9 b_places_from:=by kernel_rfl
theorem fk_joins:fnOk ["contacts"] ["contacts"] (zA3 s_joins)=true:=by decide +kernel
theorem hs_joins:Hs_joins (zAg tbl):=hk (by kernel_rfl)
theorem ck_joins:CKp "joins" ["contacts"] s_joins b_joins:=by kernel_rfl
theorem fk_shut_contacts:fnOk ["net","setting"] ["net","setting"] (zA3 zAK)=true:=by decide +kernel
theorem hs_shut_contacts:zAB (zAg tbl):=hk (by kernel_rfl)
theorem ck_shut_contacts:CKp "shut_contacts" ["net","setting"] zAK zBg:=by kernel_rfl
theorem fk_lets:fnOk ["net","setting"] ["net","setting"] (zA3 s_lets)=true:=by decide +kernel
theorem hs_lets:Hs_lets (zAg tbl):=hk (by kernel_rfl)
theorem ck_lets:CKp "lets" ["net","setting"] s_lets b_lets:=by kernel_rfl
theorem fk_function_of:fnOk ["net"] ["net"] (zA3 zBb)=true:=by decide +kernel
theorem hs_function_of:Hs_function_of (zAg tbl):=hk (by kernel_rfl)
theorem ck_function_of:CKp "function_of" ["net"] zBb b_function_of:=by kernel_rfl
theorem fk_where_both:fnOk ["one","other"] ["one","other"] (zA3 s_where_both)=true:=by decide +kernel
theorem hs_where_both:Hs_where_both (zAg tbl):=hk (by kernel_rfl)
theorem ck_where_both:CKp "where_both" ["one","other"] s_where_both b_where_both:=by kernel_rfl
theorem fk_where_either:fnOk ["one","other"] ["one","other"] (zA3 zAZ)=true:=by decide +kernel
theorem hs_where_either:Hs_where_either (zAg tbl):=hk (by kernel_rfl)
theorem ck_where_either:CKp "where_either" ["one","other"] zAZ b_where_either:=by kernel_rfl
theorem fk_moved_contact:fnOk ["contact","new"] ["contact","new"] (zA3 zAL)=true:=by decide +kernel
theorem hs_moved_contact:zAC (zAg tbl):=hk (by kernel_rfl)
theorem ck_moved_contact:CKp "moved_contact" ["contact","new"] zAL zBh:=by kernel_rfl
theorem fk_moved:fnOk ["contacts","new"] ["contacts","new"] (zA3 s_moved)=true:=by decide +kernel
theorem hs_moved:Hs_moved (zAg tbl):=hk (by kernel_rfl)
theorem ck_moved:CKp "moved" ["contacts","new"] s_moved b_moved:=by kernel_rfl
theorem fk_net_within:fnOk ["switches","places","contacts"] ["switches","places","contacts"] (zA3 s_net_within)=true:=by decide +kernel
theorem hs_net_within:Hs_net_within (zAg tbl):=hk (by kernel_rfl)
theorem ck_net_within:CKp "net_within" ["switches","places","contacts"] s_net_within b_net_within:=by kernel_rfl
theorem fk_in_row:fnOk ["one","other","middle","first","second"] ["one","other"] (zA3 s_in_row)=true:=by decide +kernel
theorem hs_in_row:Hs_in_row (zAg tbl):=hk (by kernel_rfl)
theorem ck_in_row:CKp "in_row" ["one","other","middle","first","second"] s_in_row b_in_row:=by kernel_rfl
theorem fk_side_by_side:fnOk ["one","other","places","second"] ["one","other"] (zA3 zB0)=true:=by decide +kernel
theorem hs_side_by_side:Hs_side_by_side (zAg tbl):=hk (by kernel_rfl)
theorem ck_side_by_side:CKp "side_by_side" ["one","other","places","second"] zB0 zB2:=by kernel_rfl
theorem fk_is_lone:fnOk ["switches","thing"] ["switches","thing"] (zA3 s_is_lone)=true:=by decide +kernel
theorem hs_is_lone:Hs_is_lone (zAg tbl):=hk (by kernel_rfl)
theorem ck_is_lone:CKp "is_lone" ["switches","thing"] s_is_lone b_is_lone:=by kernel_rfl
theorem fk_has_parts:fnOk ["thing"] ["thing"] (zA3 s_has_parts)=true:=by decide +kernel
theorem hs_has_parts:Hs_has_parts (zAg tbl):=hk (by kernel_rfl)
theorem ck_has_parts:CKp "has_parts" ["thing"] s_has_parts zAS:=by kernel_rfl
theorem fk_is_tree:fnOk ["switches","thing","waiting","contacts","part"] ["switches","thing"] (zA3 s_is_tree)=true:=by decide +kernel
theorem hs_is_tree:Hs_is_tree (zAg tbl):=hk (by kernel_rfl)
theorem ck_is_tree:CKp "is_tree" ["switches","thing","waiting","contacts","part"] s_is_tree b_is_tree:=by kernel_rfl
theorem fk_contacts_of:fnOk ["tree"] ["tree"] (zA3 zBc)=true:=by decide +kernel
theorem hs_contacts_of:Hs_contacts_of (zAg tbl):=hk (by kernel_rfl)
theorem ck_contacts_of:CKp "contacts_of" ["tree"] zBc zAV:=by kernel_rfl
theorem fk_lone_net:fnOk ["switches","tree"] ["switches","tree"] (zA3 s_lone_net)=true:=by decide +kernel
theorem hs_lone_net:Hs_lone_net (zAg tbl):=hk (by kernel_rfl)
theorem ck_lone_net:CKp "lone_net" ["switches","tree"] s_lone_net b_lone_net:=by kernel_rfl
theorem fk_tree_function:fnOk ["switches","tree","told","part","bits"] ["switches","tree"] (zA3 zAJ)=true:=by decide +kernel
theorem hs_tree_function:Hs_tree_function (zAg tbl):=hk (by kernel_rfl)
theorem ck_tree_function:CKp "tree_function" ["switches","tree","told","part","bits"] zAJ zAo:=by kernel_rfl
theorem fk_net_of:fnOk ["switches","tree","told","part","net"] ["switches","tree"] (zA3 s_net_of)=true:=by decide +kernel
theorem hs_net_of:Hs_net_of (zAg tbl):=hk (by kernel_rfl)
theorem ck_net_of:CKp "net_of" ["switches","tree","told","part","net"] s_net_of b_net_of:=by kernel_rfl
theorem fk_inside_out:fnOk ["tree","kind"] ["tree"] (zA3 s_inside_out)=true:=by decide +kernel
theorem hs_inside_out:Hs_inside_out (zAg tbl):=hk (by kernel_rfl)
theorem ck_inside_out:CKp "inside_out" ["tree","kind"] s_inside_out zAR:=by kernel_rfl
theorem fk_other_ons:fnOk ["tree"] ["tree"] (zA3 s_other_ons)=true:=by decide +kernel
theorem hs_other_ons:Hs_other_ons (zAg tbl):=hk (by kernel_rfl)
theorem ck_other_ons:CKp "other_ons" ["tree"] s_other_ons b_other_ons:=by kernel_rfl
theorem fk_against:fnOk ["tree"] ["tree"] (zA3 s_against)=true:=by decide +kernel
theorem hs_against:Hs_against (zAg tbl):=hk (by kernel_rfl)
theorem ck_against:CKp "against" ["tree"] s_against b_against:=by kernel_rfl
theorem fk_made_flat:fnOk ["tree","parts","part","flat"] ["tree"] (zA3 s_made_flat)=true:=by decide +kernel
theorem hs_made_flat:Hs_made_flat (zAg tbl):=hk (by kernel_rfl)
theorem ck_made_flat:CKp "made_flat" ["tree","parts","part","flat"] s_made_flat b_made_flat:=by kernel_rfl
theorem fk_bonds_of:fnOk ["net"] ["net"] (zA3 s_bonds_of)=true:=by decide +kernel
theorem hs_bonds_of:Hs_bonds_of (zAg tbl):=hk (by kernel_rfl)
theorem ck_bonds_of:CKp "bonds_of" ["net"] s_bonds_of b_bonds_of:=by kernel_rfl
theorem fk_may_vanish:fnOk ["place","bonds"] ["place","bonds"] (zA3 s_may_vanish)=true:=by decide +kernel
theorem hs_may_vanish:Hs_may_vanish (zAg tbl):=hk (by kernel_rfl)
theorem ck_may_vanish:CKp "may_vanish" ["place","bonds"] s_may_vanish zAP:=by kernel_rfl
theorem fk_drawn_pair:fnOk ["one","other","bonds","place","far"] ["one","other","bonds"] (zA3 s_drawn_pair)=true:=by decide +kernel
theorem hs_drawn_pair:Hs_drawn_pair (zAg tbl):=hk (by kernel_rfl)
theorem ck_drawn_pair:CKp "drawn_pair" ["one","other","bonds","place","far"] s_drawn_pair zAx:=by kernel_rfl
theorem fk_drawn_once:fnOk ["bonds","number","other","earlier","bond"] ["bonds"] (zA3 s_drawn_once)=true:=by decide +kernel
theorem hs_drawn_once:Hs_drawn_once (zAg tbl):=hk (by kernel_rfl)
theorem ck_drawn_once:CKp "drawn_once" ["bonds","number","other","earlier","bond"] s_drawn_once zAT:=by kernel_rfl
theorem fk_tree_of:fnOk ["net","bonds","fewer"] ["net"] (zA3 s_tree_of)=true:=by decide +kernel
theorem hs_tree_of:Hs_tree_of (zAg tbl):=hk (by kernel_rfl)
theorem ck_tree_of:CKp "tree_of" ["net","bonds","fewer"] s_tree_of b_tree_of:=by kernel_rfl
theorem fk_law_cell_at:fnOk ["_law_script","_law_k"] ["_law_script","_law_k"] (zA3 zBa)=true:=by decide +kernel
theorem hs_law_cell_at:zB3 (zAg tbl):=hk (by kernel_rfl)
theorem ck_law_cell_at:CKp "_law_cell_at" ["_law_script","_law_k"] zBa b_law_cell_at:=by kernel_rfl
theorem fk_law_state:fnOk ["_law_script","_law_k","_law_cell"] ["_law_script","_law_k"] (zA3 s_law_state)=true:=by decide +kernel
theorem hs_law_state:Hs_law_state (zAg tbl):=hk (by kernel_rfl)
theorem ck_law_state:CKp "_law_state" ["_law_script","_law_k","_law_cell"] s_law_state b_law_state:=by kernel_rfl
theorem fk_law_take:fnOk ["_law_state_here","_law_many","_law_found","_law_mixed"] ["_law_state_here","_law_many"] (zA3 s_law_take)=true:=by decide +kernel
theorem hs_law_take:Hs_law_take (zAg tbl):=hk (by kernel_rfl)
theorem ck_law_take:CKp "_law_take" ["_law_state_here","_law_many","_law_found","_law_mixed"] s_law_take b_law_take:=by kernel_rfl
theorem fk_law_tree:fnOk ["_law_state_here","_law_switches","_law_most","_law_few","_law_parts","_law_less"] ["_law_state_here","_law_switches","_law_most"] (zA3 s_law_tree)=true:=by decide +kernel
theorem hs_law_tree:Hs_law_tree (zAg tbl):=hk (by kernel_rfl)
theorem ck_law_tree:CKp "_law_tree" ["_law_state_here","_law_switches","_law_most","_law_few","_law_parts","_law_less"] s_law_tree b_law_tree:=by kernel_rfl
theorem fk_law_turns_right:fnOk ["_law_switches","_law_tree_here","_law_bits","_law_one"] ["_law_switches","_law_tree_here"] (zA3 zAu)=true:=by decide +kernel
theorem hs_law_turns_right:Hs_law_turns_right (zAg tbl):=hk (by kernel_rfl)
theorem ck_law_turns_right:CKp "_law_turns_right" ["_law_switches","_law_tree_here","_law_bits","_law_one"] zAu zAw:=by kernel_rfl
theorem fk_law_net_right:fnOk ["_law_switches","_law_tree_here","_law_net","_law_there"] ["_law_switches","_law_tree_here"] (zA3 zAM)=true:=by decide +kernel
theorem hs_law_net_right:Hs_law_net_right (zAg tbl):=hk (by kernel_rfl)
theorem ck_law_net_right:CKp "_law_net_right" ["_law_switches","_law_tree_here","_law_net","_law_there"] zAM zAQ:=by kernel_rfl
theorem fk_law:fnOk ["_law_script","_law_k","_law_state_here","_law_switches","_law_one","_law_other","_law_tree_here"] ["_law_script"] (zA3 s_law)=true:=by decide +kernel
theorem hs_law:Hs_law_v17 (zAg tbl):=hk (by kernel_rfl)
theorem ck_law:CKp "law" ["_law_script","_law_k","_law_state_here","_law_switches","_law_one","_law_other","_law_tree_here"] s_law b_law_v17:=by kernel_rfl
theorem law_true (ns:List Int) (h:ns.length≤63):∃ S',zAg tbl 100 "law" [.rol (ns.map D.int)] []=.ok (.bl true) S':=law45 hs_law ⟨hs_law_state,hs_law_cell_at,hs_law_take,hs_law_tree,hs_law_turns_right,hs_law_net_right,⟨⟨⟨⟨hs_settings,hs_is_shut,hs_places_from,hs_joins,hs_shut_contacts,hs_lets,hs_function_of⟩,hs_lone_net,hs_tree_function,hs_where_both,hs_where_either⟩,hs_against,hs_inside_out,hs_other_ons,hs_made_flat,hs_contacts_of,⟨hs_is_tree,hs_is_lone,hs_has_parts,hs_is_whole,hs_is_bit⟩⟩,⟨hs_in_row,hs_side_by_side,hs_net_within,⟨hs_moved,hs_moved_contact⟩,hs_lone_net,hs_net_of⟩,⟨hs_bonds_of,hs_may_vanish,hs_drawn_pair,hs_drawn_once,hs_tree_of⟩,hs_is_net,hs_is_contact⟩⟩ 78 ns
def DF (K:W.Frag) (n:Str) (st:Stmt):Prop:=∃ (f:Addr) (od an:Option Addr) (sl:Array (Option Value)) (oc kV dc pm cd ct:Value),W.nsIn K mainGlobals n=some (some (.ref f))∧K.lookup f=some ⟨oc,od,.func (W.fnOf n n (defArgs st) (zAN st) (zA3 st) .none kV dc pm an cd ct),sl⟩∧W.codeIn K cd n=true∧W.keepIn K (.ref f)=true
theorem mkDF {K:W.Frag}{n:Str}{st:Stmt}{f:Addr}{od an:Option Addr}{sl:Array (Option Value)}{oc kV dc pm cd ct:Value} (a:W.nsIn K mainGlobals n=some (some (.ref f))) (l:K.lookup f=some ⟨oc,od,.func (W.fnOf n n (defArgs st) (zAN st) (zA3 st) .none kV dc pm an cd ct),sl⟩) (c:W.codeIn K cd n=true) (k:W.keepIn K (.ref f)=true):DF K n st:=⟨f,od,an,sl,oc,kV,dc,pm,cd,ct,a,l,c,k⟩
theorem DF.in {K:W.Frag}{h:Heap}{mg:Str→Option Value}{n:Str}{st:Stmt} (d:DF K n st) (X:K.In h) (G:h.Ns mainGlobals mg):∃ (f:Addr) (kV dc pm:Value) (an:Option Addr) (cd ct:Value),mg n=some (.ref f)∧Fun K n n st f (W.fnOf n n (defArgs st) (zAN st) (zA3 st) .none kV dc pm an cd ct):=by
 obtain ⟨f,od,an,sl,oc,kV,dc,pm,cd,ct,a,l,c,k⟩:=d
 exact ⟨f,kV,dc,pm,an,cd,ct,W.mg_of X G a,fun_mk l c k⟩
noncomputable def ZN (K:W.Frag):List Str→Prop
 | []=>True
 | x::r=>W.nsIn K mainGlobals x=some none∧ZN K r
theorem ZN.none {K:W.Frag}{h:Heap}{mg:Str→Option Value} (X:K.In h) (G:h.Ns mainGlobals mg):∀ {l:List Str},ZN K l→AllNone mg l
 | [],_=>True.intro
 | _::_,z=>⟨W.mg_none_of X G z.1,z.2.none X G⟩
def BP (st:Stmt) (n:Str) (ps:List Str) (kV doc pm:Value) (an:Option Addr) (cdv ct:Value) (us:List Value):Prop:=bindArgs (W.fnOf n n (defArgs st) (zAN st) (zA3 st) .none kV doc pm an cdv ct) ⟨us,[]⟩=pure (ps.zip us)
def BF (st:Stmt) (n:Str) (ps:List Str):Prop:=∀ (kV doc pm:Value) (an:Option Addr) (cdv ct:Value) (us:List Value),us.length=ps.length→BP st n ps kV doc pm an cdv ct us
theorem dIn {K:W.Frag}{h:Heap}{mg:Str→Option Value}{ar:Str→Option Nat}{x:Str}{st:Stmt}{N ps:List Str}{fuel np nN:Nat}{b:CLL→CS} (d:DF K x st) (X:K.In h) (G:h.Ns mainGlobals mg) (hb:BF st x ps) (hs:fnOk N ps (zA3 st)=true)
  (hc:(fun cl:CLL=>cSts ar cl fuel ⟨N,(zA3 st).names,some x⟩ (zAN st))=fun cl=>some (b cl)) (h1:ps.length=np:=by rfl) (h2:N.length=nN:=by rfl):DefIn K mg ar x (np,nN,b):=by
 obtain ⟨_,_,_,_,_,_,_,m,F⟩:=d.in X G
 exact def_in F m (F.binds (ps:=ps) hb) hs hc h1 h2
theorem usC {n:Nat}:∀ us:List Value,us.length=n+1→∃ a r,us=a::r∧r.length=n
 | a::r,h=>⟨a,r,rfl,Nat.succ.inj h⟩
theorem us0 {P:List Value→Prop} (h:P []) (us:List Value) (hl:us.length=0):P us:=by
 rw [List.eq_nil_of_length_eq_zero hl]; exact h
theorem us1 {P:List Value→Prop} (h:∀ a0:Value,P [a0]) (us:List Value) (hl:us.length=1):P us:=by
 obtain ⟨a,r,rfl,hq⟩:=usC us hl
 exact us0 (P:=fun r=>P (a::r)) (h a) r hq
theorem us2 {P:List Value→Prop} (h:∀ a0 a1:Value,P [a0,a1]) (us:List Value) (hl:us.length=2):P us:=by
 obtain ⟨a,r,rfl,hq⟩:=usC us hl
 exact us1 (P:=fun r=>P (a::r)) (h a) r hq
theorem us3 {P:List Value→Prop} (h:∀ a0 a1 a2:Value,P [a0,a1,a2]) (us:List Value) (hl:us.length=3):P us:=by
 obtain ⟨a,r,rfl,hq⟩:=usC us hl
 exact us2 (P:=fun r=>P (a::r)) (h a) r hq
theorem bf_is_whole:BF s_is_whole "is_whole" ["thing"]:=fun kV doc pm an cdv ct=>us1 (P:=BP s_is_whole "is_whole" ["thing"] kV doc pm an cdv ct) (fun _=>rfl)
theorem bf_is_bit:BF s_is_bit "is_bit" ["thing"]:=fun kV doc pm an cdv ct=>us1 (P:=BP s_is_bit "is_bit" ["thing"] kV doc pm an cdv ct) (fun _=>rfl)
theorem bf_is_contact:BF s_is_contact "is_contact" ["switches","places","thing"]:=fun kV doc pm an cdv ct=>us3 (P:=BP s_is_contact "is_contact" ["switches","places","thing"] kV doc pm an cdv ct) (fun _ _ _=>rfl)
theorem bf_is_net:BF s_is_net "is_net" ["thing"]:=fun kV doc pm an cdv ct=>us1 (P:=BP s_is_net "is_net" ["thing"] kV doc pm an cdv ct) (fun _=>rfl)
theorem bf_settings:BF s_settings "settings" ["switches"]:=fun kV doc pm an cdv ct=>us1 (P:=BP s_settings "settings" ["switches"] kV doc pm an cdv ct) (fun _=>rfl)
theorem bf_is_shut:BF s_is_shut "is_shut" ["contact","setting"]:=fun kV doc pm an cdv ct=>us2 (P:=BP s_is_shut "is_shut" ["contact","setting"] kV doc pm an cdv ct) (fun _ _=>rfl)
theorem bf_places_from:BF zB9 "places_from" ["start","contacts"]:=fun kV doc pm an cdv ct=>us2 (P:=BP zB9 "places_from" ["start","contacts"] kV doc pm an cdv ct) (fun _ _=>rfl)
theorem bf_joins:BF s_joins "joins" ["contacts"]:=fun kV doc pm an cdv ct=>us1 (P:=BP s_joins "joins" ["contacts"] kV doc pm an cdv ct) (fun _=>rfl)
theorem bf_shut_contacts:BF zAK "shut_contacts" ["net","setting"]:=fun kV doc pm an cdv ct=>us2 (P:=BP zAK "shut_contacts" ["net","setting"] kV doc pm an cdv ct) (fun _ _=>rfl)
theorem bf_lets:BF s_lets "lets" ["net","setting"]:=fun kV doc pm an cdv ct=>us2 (P:=BP s_lets "lets" ["net","setting"] kV doc pm an cdv ct) (fun _ _=>rfl)
theorem bf_function_of:BF zBb "function_of" ["net"]:=fun kV doc pm an cdv ct=>us1 (P:=BP zBb "function_of" ["net"] kV doc pm an cdv ct) (fun _=>rfl)
theorem bf_where_both:BF s_where_both "where_both" ["one","other"]:=fun kV doc pm an cdv ct=>us2 (P:=BP s_where_both "where_both" ["one","other"] kV doc pm an cdv ct) (fun _ _=>rfl)
theorem bf_where_either:BF zAZ "where_either" ["one","other"]:=fun kV doc pm an cdv ct=>us2 (P:=BP zAZ "where_either" ["one","other"] kV doc pm an cdv ct) (fun _ _=>rfl)
theorem bf_moved_contact:BF zAL "moved_contact" ["contact","new"]:=fun kV doc pm an cdv ct=>us2 (P:=BP zAL "moved_contact" ["contact","new"] kV doc pm an cdv ct) (fun _ _=>rfl)
theorem bf_moved:BF s_moved "moved" ["contacts","new"]:=fun kV doc pm an cdv ct=>us2 (P:=BP s_moved "moved" ["contacts","new"] kV doc pm an cdv ct) (fun _ _=>rfl)
theorem bf_net_within:BF s_net_within "net_within" ["switches","places","contacts"]:=fun kV doc pm an cdv ct=>us3 (P:=BP s_net_within "net_within" ["switches","places","contacts"] kV doc pm an cdv ct) (fun _ _ _=>rfl)
theorem bf_in_row:BF s_in_row "in_row" ["one","other"]:=fun kV doc pm an cdv ct=>us2 (P:=BP s_in_row "in_row" ["one","other"] kV doc pm an cdv ct) (fun _ _=>rfl)
theorem bf_side_by_side:BF zB0 "side_by_side" ["one","other"]:=fun kV doc pm an cdv ct=>us2 (P:=BP zB0 "side_by_side" ["one","other"] kV doc pm an cdv ct) (fun _ _=>rfl)
theorem bf_is_lone:BF s_is_lone "is_lone" ["switches","thing"]:=fun kV doc pm an cdv ct=>us2 (P:=BP s_is_lone "is_lone" ["switches","thing"] kV doc pm an cdv ct) (fun _ _=>rfl)
theorem bf_has_parts:BF s_has_parts "has_parts" ["thing"]:=fun kV doc pm an cdv ct=>us1 (P:=BP s_has_parts "has_parts" ["thing"] kV doc pm an cdv ct) (fun _=>rfl)
theorem bf_is_tree:BF s_is_tree "is_tree" ["switches","thing"]:=fun kV doc pm an cdv ct=>us2 (P:=BP s_is_tree "is_tree" ["switches","thing"] kV doc pm an cdv ct) (fun _ _=>rfl)
theorem bf_contacts_of:BF zBc "contacts_of" ["tree"]:=fun kV doc pm an cdv ct=>us1 (P:=BP zBc "contacts_of" ["tree"] kV doc pm an cdv ct) (fun _=>rfl)
theorem bf_lone_net:BF s_lone_net "lone_net" ["switches","tree"]:=fun kV doc pm an cdv ct=>us2 (P:=BP s_lone_net "lone_net" ["switches","tree"] kV doc pm an cdv ct) (fun _ _=>rfl)
theorem bf_tree_function:BF zAJ "tree_function" ["switches","tree"]:=fun kV doc pm an cdv ct=>us2 (P:=BP zAJ "tree_function" ["switches","tree"] kV doc pm an cdv ct) (fun _ _=>rfl)
theorem bf_net_of:BF s_net_of "net_of" ["switches","tree"]:=fun kV doc pm an cdv ct=>us2 (P:=BP s_net_of "net_of" ["switches","tree"] kV doc pm an cdv ct) (fun _ _=>rfl)
theorem bf_inside_out:BF s_inside_out "inside_out" ["tree"]:=fun kV doc pm an cdv ct=>us1 (P:=BP s_inside_out "inside_out" ["tree"] kV doc pm an cdv ct) (fun _=>rfl)
theorem bf_other_ons:BF s_other_ons "other_ons" ["tree"]:=fun kV doc pm an cdv ct=>us1 (P:=BP s_other_ons "other_ons" ["tree"] kV doc pm an cdv ct) (fun _=>rfl)
theorem bf_against:BF s_against "against" ["tree"]:=fun kV doc pm an cdv ct=>us1 (P:=BP s_against "against" ["tree"] kV doc pm an cdv ct) (fun _=>rfl)
theorem bf_made_flat:BF s_made_flat "made_flat" ["tree"]:=fun kV doc pm an cdv ct=>us1 (P:=BP s_made_flat "made_flat" ["tree"] kV doc pm an cdv ct) (fun _=>rfl)
theorem bf_bonds_of:BF s_bonds_of "bonds_of" ["net"]:=fun kV doc pm an cdv ct=>us1 (P:=BP s_bonds_of "bonds_of" ["net"] kV doc pm an cdv ct) (fun _=>rfl)
theorem bf_may_vanish:BF s_may_vanish "may_vanish" ["place","bonds"]:=fun kV doc pm an cdv ct=>us2 (P:=BP s_may_vanish "may_vanish" ["place","bonds"] kV doc pm an cdv ct) (fun _ _=>rfl)
theorem bf_drawn_pair:BF s_drawn_pair "drawn_pair" ["one","other","bonds"]:=fun kV doc pm an cdv ct=>us3 (P:=BP s_drawn_pair "drawn_pair" ["one","other","bonds"] kV doc pm an cdv ct) (fun _ _ _=>rfl)
theorem bf_drawn_once:BF s_drawn_once "drawn_once" ["bonds"]:=fun kV doc pm an cdv ct=>us1 (P:=BP s_drawn_once "drawn_once" ["bonds"] kV doc pm an cdv ct) (fun _=>rfl)
theorem bf_tree_of:BF s_tree_of "tree_of" ["net"]:=fun kV doc pm an cdv ct=>us1 (P:=BP s_tree_of "tree_of" ["net"] kV doc pm an cdv ct) (fun _=>rfl)
theorem bf_law_cell_at:BF zBa "_law_cell_at" ["_law_script","_law_k"]:=fun kV doc pm an cdv ct=>us2 (P:=BP zBa "_law_cell_at" ["_law_script","_law_k"] kV doc pm an cdv ct) (fun _ _=>rfl)
theorem bf_law_state:BF s_law_state "_law_state" ["_law_script","_law_k"]:=fun kV doc pm an cdv ct=>us2 (P:=BP s_law_state "_law_state" ["_law_script","_law_k"] kV doc pm an cdv ct) (fun _ _=>rfl)
theorem bf_law_take:BF s_law_take "_law_take" ["_law_state_here","_law_many"]:=fun kV doc pm an cdv ct=>us2 (P:=BP s_law_take "_law_take" ["_law_state_here","_law_many"] kV doc pm an cdv ct) (fun _ _=>rfl)
theorem bf_law_tree:BF s_law_tree "_law_tree" ["_law_state_here","_law_switches","_law_most"]:=fun kV doc pm an cdv ct=>us3 (P:=BP s_law_tree "_law_tree" ["_law_state_here","_law_switches","_law_most"] kV doc pm an cdv ct) (fun _ _ _=>rfl)
theorem bf_law_turns_right:BF zAu "_law_turns_right" ["_law_switches","_law_tree_here"]:=fun kV doc pm an cdv ct=>us2 (P:=BP zAu "_law_turns_right" ["_law_switches","_law_tree_here"] kV doc pm an cdv ct) (fun _ _=>rfl)
theorem bf_law_net_right:BF zAM "_law_net_right" ["_law_switches","_law_tree_here"]:=fun kV doc pm an cdv ct=>us2 (P:=BP zAM "_law_net_right" ["_law_switches","_law_tree_here"] kV doc pm an cdv ct) (fun _ _=>rfl)
theorem bf_law:BF s_law "law" ["_law_script"]:=fun kV doc pm an cdv ct=>us1 (P:=BP s_law "law" ["_law_script"] kV doc pm an cdv ct) (fun _=>rfl)
theorem all_mk {l:W.OpenLaw}{w:World}{K:W.Frag}{h:Heap}{mg:Str→Option Value}{fa:Addr} (X:K.In h) (G:h.Ns mainGlobals mg) (hfa:mg "law"=some (.ref fa))
  (d1:DF K "is_whole" s_is_whole) (d2:DF K "is_bit" s_is_bit) (d3:DF K "is_contact" s_is_contact) (d4:DF K "is_net" s_is_net) (d5:DF K "settings" s_settings) (d6:DF K "is_shut" s_is_shut) (d7:DF K "places_from" zB9) (d8:DF K "joins" s_joins) (d9:DF K "shut_contacts" zAK) (d10:DF K "lets" s_lets) (d11:DF K "function_of" zBb) (d12:DF K "where_both" s_where_both) (d13:DF K "where_either" zAZ) (d14:DF K "moved_contact" zAL) (d15:DF K "moved" s_moved) (d16:DF K "net_within" s_net_within) (d17:DF K "in_row" s_in_row) (d18:DF K "side_by_side" zB0) (d19:DF K "is_lone" s_is_lone) (d20:DF K "has_parts" s_has_parts) (d21:DF K "is_tree" s_is_tree) (d22:DF K "contacts_of" zBc) (d23:DF K "lone_net" s_lone_net) (d24:DF K "tree_function" zAJ) (d25:DF K "net_of" s_net_of) (d26:DF K "inside_out" s_inside_out) (d27:DF K "other_ons" s_other_ons) (d28:DF K "against" s_against) (d29:DF K "made_flat" s_made_flat) (d30:DF K "bonds_of" s_bonds_of) (d31:DF K "may_vanish" s_may_vanish) (d32:DF K "drawn_pair" s_drawn_pair) (d33:DF K "drawn_once" s_drawn_once) (d34:DF K "tree_of" s_tree_of) (d35:DF K "_law_cell_at" zBa) (d36:DF K "_law_state" s_law_state) (d37:DF K "_law_take" s_law_take) (d38:DF K "_law_tree" s_law_tree) (d39:DF K "_law_turns_right" zAu) (d40:DF K "_law_net_right" zAM) (d41:DF K "law" s_law) (z:ZN K bltL) :
  ∃ fd:FuncData,(∀ (s:Shared) (v:Value),BindsTo s fd ⟨[v],[]⟩ [("_law_script",v)])∧∀ base:Heap,K.In base→base.Ns mainGlobals mg→FnOk l.prog w K mg base CX0 100 fa fd ["_law_script"] (spL K):=by
 obtain ⟨_,kV,dc,pm,an,cd,ct,m,F⟩:=d41.in X G
 have e:=hfa.symm.trans m
 cases e
 have A:AllIn K mg (arT tbl) tbl:=And.intro (dIn d1 X G bf_is_whole fk_is_whole ck_is_whole) (And.intro (dIn d2 X G bf_is_bit fk_is_bit ck_is_bit) (And.intro (dIn d3 X G bf_is_contact fk_is_contact ck_is_contact) (And.intro (dIn d4 X G bf_is_net fk_is_net ck_is_net) (And.intro (dIn d5 X G bf_settings fk_settings ck_settings) (And.intro (dIn d6 X G bf_is_shut fk_is_shut ck_is_shut) (And.intro (dIn d7 X G bf_places_from fk_places_from ck_places_from) (And.intro (dIn d8 X G bf_joins fk_joins ck_joins) (And.intro (dIn d9 X G bf_shut_contacts fk_shut_contacts ck_shut_contacts) (And.intro (dIn d10 X G bf_lets fk_lets ck_lets) (And.intro (dIn d11 X G bf_function_of fk_function_of ck_function_of) (And.intro (dIn d12 X G bf_where_both fk_where_both ck_where_both) (And.intro (dIn d13 X G bf_where_either fk_where_either ck_where_either) (And.intro (dIn d14 X G bf_moved_contact fk_moved_contact ck_moved_contact) (And.intro (dIn d15 X G bf_moved fk_moved ck_moved) (And.intro (dIn d16 X G bf_net_within fk_net_within ck_net_within) (And.intro (dIn d17 X G bf_in_row fk_in_row ck_in_row) (And.intro (dIn d18 X G bf_side_by_side fk_side_by_side ck_side_by_side) (And.intro (dIn d19 X G bf_is_lone fk_is_lone ck_is_lone) (And.intro (dIn d20 X G bf_has_parts fk_has_parts ck_has_parts) (And.intro (dIn d21 X G bf_is_tree fk_is_tree ck_is_tree) (And.intro (dIn d22 X G bf_contacts_of fk_contacts_of ck_contacts_of) (And.intro (dIn d23 X G bf_lone_net fk_lone_net ck_lone_net) (And.intro (dIn d24 X G bf_tree_function fk_tree_function ck_tree_function) (And.intro (dIn d25 X G bf_net_of fk_net_of ck_net_of) (And.intro (dIn d26 X G bf_inside_out fk_inside_out ck_inside_out) (And.intro (dIn d27 X G bf_other_ons fk_other_ons ck_other_ons) (And.intro (dIn d28 X G bf_against fk_against ck_against) (And.intro (dIn d29 X G bf_made_flat fk_made_flat ck_made_flat) (And.intro (dIn d30 X G bf_bonds_of fk_bonds_of ck_bonds_of) (And.intro (dIn d31 X G bf_may_vanish fk_may_vanish ck_may_vanish) (And.intro (dIn d32 X G bf_drawn_pair fk_drawn_pair ck_drawn_pair) (And.intro (dIn d33 X G bf_drawn_once fk_drawn_once ck_drawn_once) (And.intro (dIn d34 X G bf_tree_of fk_tree_of ck_tree_of) (And.intro (dIn d35 X G bf_law_cell_at fk_law_cell_at ck_law_cell_at) (And.intro (dIn d36 X G bf_law_state fk_law_state ck_law_state) (And.intro (dIn d37 X G bf_law_take fk_law_take ck_law_take) (And.intro (dIn d38 X G bf_law_tree fk_law_tree ck_law_tree) (And.intro (dIn d39 X G bf_law_turns_right fk_law_turns_right ck_law_turns_right) (And.intro (dIn d40 X G bf_law_net_right fk_law_net_right ck_law_net_right) (And.intro (dIn d41 X G bf_law fk_law ck_law) (True.intro)))))))))))))))))))))))))))))))))))))))))
 refine ⟨W.fnOf "law" "law" (defArgs s_law) (zAN s_law) (zA3 s_law) .none kV dc pm an cd ct,fun s v=>.of_eq rfl,fun base _ _=>?_⟩
 exact law_ok (L:=99) (fun x p e=>A.look x p e) (fun y hy _=>(z.none X G).mem y hy) (by kernel_rfl) F fk_law rfl (fun cl=>congrFun ck_law cl) (fun ns h=>law_true ns h)
end My
open PySem PySem.W PyProof.Rows
theorem PySem.W.Fast.tw11742846972491871913:True:=trivial
theorem PySem.W.Fast.tw3705124476723923121:True:=trivial
theorem PySem.W.Fast.tw15855410201122644589:True:=trivial
theorem PySem.W.Fast.tw15085649350276283084:True:=trivial
theorem PySem.W.Fast.tw7244025938052712620:True:=trivial
theorem PySem.W.Fast.tw4012008091067571900:True:=trivial
theorem PySem.W.Fast.tw8944442606449075086:True:=trivial
theorem PySem.W.Fast.tw17045463044535066589:True:=trivial
theorem PySem.W.Fast.tw9809580487977817028:True:=trivial
theorem PySem.W.Fast.tw7438610589995511240:True:=trivial
theorem PySem.W.Fast.tw6983028042326103266:True:=trivial
theorem PySem.W.Fast.tw6733252444215452826:True:=trivial
theorem PySem.W.Fast.tw16843636397389491592:True:=trivial
theorem PySem.W.Fast.tw17432041307448070433:True:=trivial
theorem PySem.W.Fast.tw15620606868627411301:True:=trivial
theorem PySem.W.Fast.tw14570953054504309297:True:=trivial
theorem PySem.W.Fast.tw14960851947996322017:True:=trivial
theorem PySem.W.Fast.tw4297141489266970339:True:=trivial
theorem PySem.W.Fast.tw7684247514169152038:True:=trivial
theorem PySem.W.Fast.tw4760449216159504514:True:=trivial
theorem PySem.W.Fast.tw11649786939876497981:True:=trivial
theorem PySem.W.Fast.tw13606616623191120021:True:=trivial
theorem PySem.W.Fast.tw3061459494281211878:True:=trivial
theorem PySem.W.Fast.tw16050722504698914280:True:=trivial
theorem PySem.W.Fast.tw4186980373456475966:True:=trivial
theorem PySem.W.Fast.tw673713188196284574:True:=trivial
theorem PySem.W.Fast.tw2775324957076736391:True:=trivial
set_option maxRecDepth 100000 in
set_option maxHeartbeats 0 in
theorem PySem.Challenge.cw_contactnets_k45_whole_trees_holds : PySem.Challenge.rw_contactnets_k45_whole_trees.Holds := by
 w_on; o_law; k_head; (case hw=>w_witness2)
 k_fill
 refine L2.walk_ev (L:=100) (l:=PySem.Challenge.rw_contactnets_k45_whole_trees) rfl rfl ⟨rfl,by decide,by decide,rfl⟩ (fun w h Y=>PySem.W.kIn_of Y) ?F
 case F =>
  intro w mg fa h KX G hmg
  refine' My.all_mk KX G hmg (My.mkDF ?a1 ?l1 ?c1 ?k1) (My.mkDF ?a2 ?l2 ?c2 ?k2) (My.mkDF ?a3 ?l3 ?c3 ?k3) (My.mkDF ?a4 ?l4 ?c4 ?k4) (My.mkDF ?a5 ?l5 ?c5 ?k5) (My.mkDF ?a6 ?l6 ?c6 ?k6) (My.mkDF ?a7 ?l7 ?c7 ?k7) (My.mkDF ?a8 ?l8 ?c8 ?k8) (My.mkDF ?a9 ?l9 ?c9 ?k9) (My.mkDF ?a10 ?l10 ?c10 ?k10) (My.mkDF ?a11 ?l11 ?c11 ?k11) (My.mkDF ?a12 ?l12 ?c12 ?k12) (My.mkDF ?a13 ?l13 ?c13 ?k13) (My.mkDF ?a14 ?l14 ?c14 ?k14) (My.mkDF ?a15 ?l15 ?c15 ?k15) (My.mkDF ?a16 ?l16 ?c16 ?k16) (My.mkDF ?a17 ?l17 ?c17 ?k17) (My.mkDF ?a18 ?l18 ?c18 ?k18) (My.mkDF ?a19 ?l19 ?c19 ?k19) (My.mkDF ?a20 ?l20 ?c20 ?k20) (My.mkDF ?a21 ?l21 ?c21 ?k21) (My.mkDF ?a22 ?l22 ?c22 ?k22) (My.mkDF ?a23 ?l23 ?c23 ?k23) (My.mkDF ?a24 ?l24 ?c24 ?k24) (My.mkDF ?a25 ?l25 ?c25 ?k25) (My.mkDF ?a26 ?l26 ?c26 ?k26) (My.mkDF ?a27 ?l27 ?c27 ?k27) (My.mkDF ?a28 ?l28 ?c28 ?k28) (My.mkDF ?a29 ?l29 ?c29 ?k29) (My.mkDF ?a30 ?l30 ?c30 ?k30) (My.mkDF ?a31 ?l31 ?c31 ?k31) (My.mkDF ?a32 ?l32 ?c32 ?k32) (My.mkDF ?a33 ?l33 ?c33 ?k33) (My.mkDF ?a34 ?l34 ?c34 ?k34) (My.mkDF ?a35 ?l35 ?c35 ?k35) (My.mkDF ?a36 ?l36 ?c36 ?k36) (My.mkDF ?a37 ?l37 ?c37 ?k37) (My.mkDF ?a38 ?l38 ?c38 ?k38) (My.mkDF ?a39 ?l39 ?c39 ?k39) (My.mkDF ?a40 ?l40 ?c40 ?k40) (My.mkDF ?a41 ?l41 ?c41 ?k41) ⟨?z1,?z2,?z3,?z4,?z5,?z6,?z7,?z8,?z9,?z10,?z11,?z12,?z13,?z14,?z15,?z16,?z17,?z18,?z19,?z20,True.intro⟩
  case a1=>k_is
  case l1=>k_is
  case c1=>k_is
  case k1=>k_is
  case a2=>k_is
  case l2=>k_is
  case c2=>k_is
  case k2=>k_is
  case a3=>k_is
  case l3=>k_is
  case c3=>k_is
  case k3=>k_is
  case a4=>k_is
  case l4=>k_is
  case c4=>k_is
  case k4=>k_is
  case a5=>k_is
  case l5=>k_is
  case c5=>k_is
  case k5=>k_is
  case a6=>k_is
  case l6=>k_is
  case c6=>k_is
  case k6=>k_is
  case a7=>k_is
  case l7=>k_is
  case c7=>k_is
  case k7=>k_is
  case a8=>k_is
  case l8=>k_is
  case c8=>k_is
  case k8=>k_is
  case a9=>k_is
  case l9=>k_is
  case c9=>k_is
  case k9=>k_is
  case a10=>k_is
  case l10=>k_is
  case c10=>k_is
  case k10=>k_is
  case a11=>k_is
  case l11=>k_is
  case c11=>k_is
  case k11=>k_is
  case a12=>k_is
  case l12=>k_is
  case c12=>k_is
  case k12=>k_is
  case a13=>k_is
  case l13=>k_is
  case c13=>k_is
  case k13=>k_is
  case a14=>k_is
  case l14=>k_is
  case c14=>k_is
  case k14=>k_is
  case a15=>k_is
  case l15=>k_is
  case c15=>k_is
  case k15=>k_is
  case a16=>k_is
  case l16=>k_is
  case c16=>k_is
  case k16=>k_is
  case a17=>k_is
  case l17=>k_is
  case c17=>k_is
  case k17=>k_is
  case a18=>k_is
  case l18=>k_is
  case c18=>k_is
  case k18=>k_is
  case a19=>k_is
  case l19=>k_is
  case c19=>k_is
  case k19=>k_is
  case a20=>k_is
  case l20=>k_is
  case c20=>k_is
  case k20=>k_is
  case a21=>k_is
  case l21=>k_is
  case c21=>k_is
  case k21=>k_is
  case a22=>k_is
  case l22=>k_is
  case c22=>k_is
  case k22=>k_is
  case a23=>k_is
  case l23=>k_is
  case c23=>k_is
  case k23=>k_is
  case a24=>k_is
  case l24=>k_is
  case c24=>k_is
  case k24=>k_is
  case a25=>k_is
  case l25=>k_is
  case c25=>k_is
  case k25=>k_is
  case a26=>k_is
  case l26=>k_is
  case c26=>k_is
  case k26=>k_is
  case a27=>k_is
  case l27=>k_is
  case c27=>k_is
  case k27=>k_is
  case a28=>k_is
  case l28=>k_is
  case c28=>k_is
  case k28=>k_is
  case a29=>k_is
  case l29=>k_is
  case c29=>k_is
  case k29=>k_is
  case a30=>k_is
  case l30=>k_is
  case c30=>k_is
  case k30=>k_is
  case a31=>k_is
  case l31=>k_is
  case c31=>k_is
  case k31=>k_is
  case a32=>k_is
  case l32=>k_is
  case c32=>k_is
  case k32=>k_is
  case a33=>k_is
  case l33=>k_is
  case c33=>k_is
  case k33=>k_is
  case a34=>k_is
  case l34=>k_is
  case c34=>k_is
  case k34=>k_is
  case a35=>k_is
  case l35=>k_is
  case c35=>k_is
  case k35=>k_is
  case a36=>k_is
  case l36=>k_is
  case c36=>k_is
  case k36=>k_is
  case a37=>k_is
  case l37=>k_is
  case c37=>k_is
  case k37=>k_is
  case a38=>k_is
  case l38=>k_is
  case c38=>k_is
  case k38=>k_is
  case a39=>k_is
  case l39=>k_is
  case c39=>k_is
  case k39=>k_is
  case a40=>k_is
  case l40=>k_is
  case c40=>k_is
  case k40=>k_is
  case a41=>k_is
  case l41=>k_is
  case c41=>k_is
  case k41=>k_is
  case z1=>k_is
  case z2=>k_is
  case z3=>k_is
  case z4=>k_is
  case z5=>k_is
  case z6=>k_is
  case z7=>k_is
  case z8=>k_is
  case z9=>k_is
  case z10=>k_is
  case z11=>k_is
  case z12=>k_is
  case z13=>k_is
  case z14=>k_is
  case z15=>k_is
  case z16=>k_is
  case z17=>k_is
  case z18=>k_is
  case z19=>k_is
  case z20=>k_is
